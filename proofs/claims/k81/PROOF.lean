import PyProof.Rows.All
import Wide.All
import OpenK.AllK
import Wide.FinOn
import Lean
import PyProof.EqAt
import PyProof.EqKinds
import PyProof.TupleCall
import KE.KRevIter
import KE.KTryMore
import PySem.Challenge.RW_weighwalk_k81_what_a_saying_weighs
set_option Elab.async false
set_option linter.all false
set_option maxRecDepth 100000
set_option compiler.extract_closed false
set_option bootstrap.genMatcherCode false
local macro_rules | `(tactic| omega)=>`(tactic| lia)
def sL{n:Nat}(h:Nat.ble n 100000=true:=by rfl):n<=PySem.sizeLine:=Nat.le_trans (Nat.le_of_ble_eq_true h) (by decide)
def sZ:10000 < PySem.sizeLine:=by decide
def bR{p:Prop}(h:p:=by rfl):p:=h
def bD{p:Prop}(h:p:=by decide):p:=h
def dK{p:Prop}(h:p:=by decide +kernel):p:=h
def oM{p:Prop}(h:p:=by omega):p:=h
theorem za{A0 A1}{p:A0->A1->Prop}{a0 a1}(h:p a0 a1):∃a0 a1,p a0 a1:=⟨a0,a1,h⟩
theorem zb{A0 A1 A2}{p:A0->A1->A2->Prop}{a0 a1 a2}(h:p a0 a1 a2):∃a0 a1 a2,p a0 a1 a2:=⟨a0,a1,a2,h⟩
theorem zc{A0 A1 A2 A3}{p:A0->A1->A2->A3->Prop}{a0 a1 a2 a3}(h:p a0 a1 a2 a3):∃a0 a1 a2 a3,p a0 a1 a2 a3:=⟨a0,a1,a2,a3,h⟩
theorem zd{A0 A1 A2 A3 A4}{p:A0->A1->A2->A3->A4->Prop}{a0 a1 a2 a3 a4}(h:p a0 a1 a2 a3 a4):∃a0 a1 a2 a3 a4,p a0 a1 a2 a3 a4:=⟨a0,a1,a2,a3,a4,h⟩
theorem ze{A0 A1}{p:A0->A1->Prop}(a0 a1)(h:p a0 a1):∃a0 a1,p a0 a1:=⟨a0,a1,h⟩
theorem zf{A0 A1 A2}{p:A0->A1->A2->Prop}(a0 a1 a2)(h:p a0 a1 a2):∃a0 a1 a2,p a0 a1 a2:=⟨a0,a1,a2,h⟩
theorem zg{A0 A1 A2 A3}{p:A0->A1->A2->A3->Prop}(a0 a1 a2 a3)(h:p a0 a1 a2 a3):∃a0 a1 a2 a3,p a0 a1 a2 a3:=⟨a0,a1,a2,a3,h⟩
theorem zh{A0 A1 A2 A3 A4}{p:A0->A1->A2->A3->A4->Prop}(a0 a1 a2 a3 a4)(h:p a0 a1 a2 a3 a4):∃a0 a1 a2 a3 a4,p a0 a1 a2 a3 a4:=⟨a0,a1,a2,a3,a4,h⟩
theorem zi{A0 A1 A2 A3 A4 A5}{p:A0->A1->A2->A3->A4->A5->Prop}(a0 a1 a2 a3 a4 a5)(h:p a0 a1 a2 a3 a4 a5):∃a0 a1 a2 a3 a4 a5,p a0 a1 a2 a3 a4 a5:=⟨a0,a1,a2,a3,a4,a5,h⟩
theorem zj{A0 A1 A2 A3 A4 A5 A6 A7}{p:A0->A1->A2->A3->A4->A5->A6->A7->Prop}(a0 a1 a2 a3 a4 a5 a6 a7)(h:p a0 a1 a2 a3 a4 a5 a6 a7):∃a0 a1 a2 a3 a4 a5 a6 a7,p a0 a1 a2 a3 a4 a5 a6 a7:=⟨a0,a1,a2,a3,a4,a5,a6,a7,h⟩
theorem zk{A0 A1 A2 A3 A4 A5 A6 A7 A8}{p:A0->A1->A2->A3->A4->A5->A6->A7->A8->Prop}(a0 a1 a2 a3 a4 a5 a6 a7 a8)(h:p a0 a1 a2 a3 a4 a5 a6 a7 a8):∃a0 a1 a2 a3 a4 a5 a6 a7 a8,p a0 a1 a2 a3 a4 a5 a6 a7 a8:=⟨a0,a1,a2,a3,a4,a5,a6,a7,a8,h⟩
theorem zq{A0 A1 A2 A3 A4 A5 A6 A7 A8 A9 jJ jI}{p:A0->A1->A2->A3->A4->A5->A6->A7->A8->A9->jJ->jI->Prop}(a0 a1 a2 a3 a4 a5 a6 a7 a8 a9 lg kZ)(h:p a0 a1 a2 a3 a4 a5 a6 a7 a8 a9 lg kZ):∃a0 a1 a2 a3 a4 a5 a6 a7 a8 a9 lg kZ,p a0 a1 a2 a3 a4 a5 a6 a7 a8 a9 lg kZ:=⟨a0,a1,a2,a3,a4,a5,a6,a7,a8,a9,lg,kZ,h⟩
theorem O{A B:Sort _}{l:B}{g:A->B}{Q:A->Prop}{x:A}(h:l=g x)(q:Q x):∃y,l=g y/\Q y:=⟨x,h,q⟩
theorem vb{A B C D:Sort _}{l:B}{g:A->B}{m:A->D}{k:A->C->D}{Q:A->C->Prop}{x:A}{y:C}(h:l=g x)(i:m x=k x y)(q:Q x y):∃x,l=g x/\∃y,m x=k x y/\Q x y:=⟨x,h,y,i,q⟩
theorem vc{A B C D E F:Sort _}{l:B}{g:A->B}{m:A->D}{k:A->C->D}{o:A->C->F}{p:A->C->E->F}{Q:A->C->E->Prop}{x:A}{y:C}{z:E}(h:l=g x)(i:m x=k x y)(j:o x y=p x y z)(q:Q x y z):∃x,l=g x/\∃y,m x=k x y/\∃z,o x y=p x y z/\Q x y z:=⟨x,h,y,i,z,j,q⟩
section
open PySem PySem.Spec PyProof.Rows
abbrev aa:=@PySem.W.Frag
abbrev w0d:=List (Addr × Obj)
abbrev w0e:=Value->Shared->Prop
abbrev w0f:=Str->Option Value
abbrev w0g:=List Nat
abbrev w0h:=List Str
abbrev w0i:=List Value
abbrev ae:=@Nat.le_refl
abbrev af:=@List.mem_singleton
abbrev ag:=@Heap.lt_size
abbrev ah:=@List.mem_cons
abbrev ai:=@List.length_map
abbrev aj:=@Nat.le_trans
abbrev ak:=@Heap.get?_push_of_some
abbrev ao:=@List.length_append
abbrev aq:=@List.mem_cons_of_mem
abbrev ar:=@List.mem_append_right
abbrev au:=@Nat.ne_of_lt
abbrev aw:=@List.mem_append
abbrev ax:=@List.mem_cons_self
abbrev ay:=@Nat.lt_of_lt_of_le
abbrev aA:=@List.size_toArray
abbrev aB:=@Heap.get?_push_size
abbrev aD:=@List.mem_of_getElem?
abbrev aF:=@List.mem_append_left
abbrev aG:=@Bool.false_ne_true
abbrev aH:=@PySem.mem_of_lookup
abbrev aI:=@Int.mul_assoc
abbrev aJ:=@List.getElem?_eq_getElem
abbrev aK:=@PassesOwn.never
abbrev aL:=@Nat.lt_irrefl
abbrev aM:=@List.map_cons
abbrev aN:=@List.getElem?_map
abbrev aO:=@List.length_drop
abbrev aP:=@List.getElem?_eq_some_iff
abbrev aQ:=@Int.mul_pos
abbrev aR:=@Nat.le_of_lt
abbrev aU:=@Nat.zero_le
abbrev aV:=@List.getElem?_append_left
abbrev aX:=@Int.mul_comm
abbrev aY:=@List.append_nil
abbrev aZ:=@List.length_take
abbrev ba:=@List.not_mem_nil
abbrev bb:=@Heap.size_push
abbrev bc:=@List.mem_singleton_self
abbrev bg:=@List.length_cons
abbrev bh:=@List.map_append
abbrev bj:=@PySem.W.hideAll_none
abbrev bo:=@PySem.W.kia_one
abbrev bq:=@List.getElem?_append_right
abbrev br:=@Nat.mul_le_mul_right
abbrev bu:=@List.length_eq_zero_iff
abbrev bw:=@List.filterMap_cons
abbrev bx:=@Nat.ne_of_gt
abbrev bz:=@Nat.le_succ
abbrev bA:=@Int.natAbs_mul
abbrev bB:=@Int.mul_right_comm
abbrev bE:=@List.mem_map
abbrev bF:=@List.nodup_cons
abbrev bH:=@Int.fmod_nonneg_of_pos
abbrev bI:=@List.take_length
abbrev bJ:=@Nat.lt_succ_self
abbrev bK:=@Bool.and_eq_true
abbrev bL:=@Option.map_some
abbrev bM:=@Option.map_eq_some_iff
abbrev bN:=@Int.fmod_lt_of_pos
abbrev bO:=@Int.eq_of_mul_eq_mul_right
abbrev bQ:=@List.lookup_cons
abbrev bS:=@List.getElem_mem
abbrev bT:=@List.mem_filter
abbrev bU:=@List.mem_range
abbrev bV:=@PySem.W.mg_of
abbrev bW:=@PySem.W.hideAll_get
abbrev bX:=@Bool.eq_iff_iff
abbrev bZ:=@PySem.W.callWith_K
abbrev cb:=@List.any_cons
abbrev cg:=@Nat.lt_of_le_of_lt
abbrev cj:=@List.find?_cons
abbrev ck:=@List.all_eq_true
abbrev cq:=@Option.getD_some
abbrev cy:=@Nat.succ_mul
abbrev cz:=@List.mem_filterMap
abbrev cA:=@List.getElem?_replicate
abbrev cB:=@List.length_replicate
abbrev cD:=@Heap.get?_update_other
abbrev cE:=@Nat.mul_le_mul
abbrev cF:=@Nat.add_comm
abbrev cG:=@Nat.pow_le_pow_right
abbrev cH:=@Nat.mul_assoc
abbrev cI:=@List.forIn_nil
abbrev cJ:=@List.take_of_length_le
abbrev cK:=@List.idxOf_cons
abbrev cM:=@List.length_pos_iff
abbrev cP:=@PySem.W.of_hideAll
abbrev cQ:=@List.getElem?_set_ne
abbrev cR:=@PyProof.Rows.callWith_type1
abbrev cS:=@PySem.W.methodCall_KW
abbrev cU:=@PyProof.Rows.slot_tuple_getitem
abbrev cW:=@List.cons_append
abbrev cX:=@Bool.false_eq_true
abbrev cY:=@Nat.lt_succ_of_lt
abbrev cZ:=@List.mem_of_mem_take
abbrev da:=@List.getElem?_toArray
abbrev dc:=@Array.toList_append
abbrev de:=@PySem.F.plainAttrs_list
abbrev df:=@Option.isSome_iff_exists
abbrev dg:=@Nat.le_mul_of_pos_left
end
theorem Y.{u}{α:Sort u}{a:α}:a=a:=rfl
local macro_rules|`(tactic|show $e)=>`(tactic|refine $e)
namespace L2
open PySem
def j8(s:Stmt)(j:Nat):Stmt:=match s with
 | .ClassDef _ _ _ body _ _ _ _ _ _ _=>body.getD j (.Pass ⟨0,0,0,0⟩)
 | _=>.Pass ⟨0,0,0,0⟩
def y9(s:Stmt):Arguments:=match s with
 | .FunctionDef _ a _ _ _ _ _ _ _ _=>a
 | _=>{ posonlyargs:=[],args:=[],vararg:=none,kwonlyargs:=[],kw_defaults:=[],kwarg:=none,defaults:=[] }
def p9(s:Stmt):List Stmt:=match s with
 | .FunctionDef _ _ b _ _ _ _ _ _ _=>b
 | _=>[]
def c5(s:Stmt):Scope:=match s with
 | .FunctionDef _ _ _ _ _ _ sc _ _ _=>sc
 | _=>{ kind:=.function,names:=[],isGenerator:=false,isCoroutine:=false }
end L2
section
set_option maxHeartbeats 0
def PySem.W.Fast.tw4135082565821685521:PySem.Program:=PySem.Challenge.pw_weighwalk_k81_what_a_saying_weighs
local macro_rules | `(tactic| trivial)=>`(tactic| ((try rw[Fast.te15667345088766844465]);(try rw[Fast.te14082659384304107361]);(try rw[Fast.te14374325043358763698]);(try rw[Fast.te10110043849684766642]);(try rw[Fast.te14364793385576792824]);(try rw[Fast.te11892475500146522536]);(try rw[Fast.te4187177175401517315]);(try rw[Fast.te5923862056798008813]);(try rw[Fast.te8920871248978507458]);kernel_rfl))
def PySem.W.Fast.te4135082565821685521:PySem.Challenge.pw_weighwalk_k81_what_a_saying_weighs=PySem.W.Fast.tw4135082565821685521:=rfl
namespace H81
open PySem PySem.W
noncomputable section
abbrev q0:=SL.s658472552662922059x5
abbrev q1:=SL.s14018661285674007319x4
abbrev q2:=SL.s7097527257260152453x26
abbrev q3:=SL.s6070975301684473832x10
abbrev q4:=SL.s11030030927630378310x26
abbrev q5:=SL.s10062305145149207511x16
abbrev q6:=SL.s17162191345867700912x4
abbrev q7:=SL.s5946037652744460706x9
abbrev q8:=SL.s4278001404047624695x13
abbrev q9:=SL.s2742458400755230247x6
abbrev UX:=SL.s4209523147560561109x18
abbrev q11:=SL.s14755015743595814543x17
abbrev q12:=SL.s4290257624100764138x5
abbrev q13:=SL.s4860613602091757760x24
abbrev SY:=SL.s11443829558043349243x14
def i(n:Int):Value:=.int n 0
def r(n:Addr):Value:=.ref n
def tu(a:Array Value)(n:Nat):Obj:=⟨.type SL.s2766695959194262286x5,none,.seq a n,#[]⟩
def co(a:Array Value):Obj:=⟨.type SL.s5856160107412720595x4,none,.fields a,#[]⟩
def fo(n q:Str)(s:Stmt)(m c:Value):Obj:=⟨.type SL.s7174869446012820540x8,none,.func ⟨n,q,L2.y9 s,.stmts<|L2.p9 s,L2.c5 s,3,[],.none,.none,.none,m,none,c,.none,0⟩,#[]⟩
def f0(n q:Str)(s:Stmt):Obj:=⟨.none,none,.func ⟨n,q,L2.y9 s,.stmts<|L2.p9 s,L2.c5 s,0,[],.none,.none,.none,.none,none,.none,.none,0⟩,#[]⟩
abbrev nd:=@BT.node
abbrev nl:=BT.nil
abbrev lf(x:Obj):BT:=.node x .nil .nil
abbrev kh:=@PySem.PyData.keyHash
abbrev pW:=PySem.Challenge.pw_weighwalk_k81_what_a_saying_weighs
def g9(i:Nat):Stmt:=pW.main.body.getD i (.Pass ⟨0,0,0,0⟩)
def dN:Nat->Nat->List Nat
 | 0,_=>[]
 | f+1,n=>match n.beq 0 with
  | true=>[]
  | false=>n % 128::dN f (n / 128)
def sn(n:Nat):Str:=⟨⟨dN 99 n⟩⟩
def s0:=sn 35350842279982780
def s1:=sn 2357460733860917196365705647
def s2:=sn 53901867955744735
def s3:=sn 53901559791857631
def s4:=sn 601327437824046760046376642856776439
def s5:=sn 421105403244511
def s6:=sn 113039760542812094607327
def s7:=sn 883130438894441148383
def s8:=sn 53901488956436447
def s9:=sn 30344151541145318921183520387039
def Wy:=sn 14469218985635115783729119
def s11:=sn 53901559540068319
def Hv:=sn 883122557733039566815
def Hu:=sn 29219126239
def UW:=sn 1059527485210603713239
def UV:=sn 3465723181006
def UU:=sn 65763158886053838
def UT:=sn 3466809702350
def US:=sn 7342511845356402638
def UR:=sn 4018155108302
def s20:=sn 1617927219776377072475203283
def s21:=sn 5888264223357980304431984745896147357382385819329294689
def VL:=sn 443751708752361
def VJ:=sn 7270427996167172846
def Pl:=sn 1970061224057545296946229998
def Iw:=sn 57336776418130409
def VI:=sn 505222325449956
def VH:=sn 62416317159340390
def VG:=sn 57340970975885801
def s29:=sn 367430873507014
def s30:=sn 529798632943928514736
def s31:=sn 12624828682026729331812301
def s32:=sn 172336251032527473007704238407
def VF:=sn 1021914557058473523689
def NR:=sn 939405744834617045746
def VE:=sn 8426683116950221550
def PN:=sn 211530955
def UQ:=sn 27071706310
def UP:=sn 456806773617872
def UO:=sn 8349039631521052998
def UN:=sn 65187494496105170
def UM:=sn 31115245507
def UL:=sn 3979532400980
def VD:=sn 3944373614433
def s44:=sn 107
def Cz:=sn 883123151916293124063
def Dk:=sn 4701359296062669796661670190936823
def Mu:=sn 14469089781839015725264863
def Cy:=sn 30344074158132277796980072755167
def DW:=sn 133454983862861831018029446609853876543483871
def s50:=sn 113039831549272488013791
def s51:=sn 76959527405706993652690204727243862775
def s52:=sn 509719716115180
def UK:=sn 27881272436
def Rg:=sn 211530987
def s55:=sn 17653163543718513564464869
def s56:=sn 69030685704087611582940400770510123767
def s57:=sn 4700393738964033752103621815333623
def GK:=sn 1668975
def s59:=sn 30815173231
def s60:=sn 65811471622830439
def s61:=sn 245166834
def s62:=sn 244953836
def s63:=sn 1849332
def s64:=sn 3775253002210
def s65:=sn 3463326495859
def s66:=sn 3944329476846
def s67:=sn 3947051413734
def s68:=sn 36694686467767925459708255302391
def UJ:=sn 245248756
def s70:=sn 53902072520191967
def Rf:=sn 56773483100109289
def Rc:=sn 31096108272
def V9:=sn 215692019
def s74:=sn 249692419271657566055171716294
def s75:=sn 136762130496189453923526
def Nt:=sn 31117260013
def Nr:=sn 448184882935657
def s78:=sn 4090960597346837562261197337195728
def s79:=sn 2240710746049581277020484816
def Ht:=sn 120
def s81:=sn 2242234889615754672899421392
def s82:=sn 32295124348513854137913721812176
def IV:=sn 211498996
def JS:=sn 4013864876014
def JR:=sn 243103344
def IU:=sn 31083689204
def JQ:=sn 8417684337481742825
def JP:=sn 29779293299
def JO:=sn 211317490
def s90:=sn 249693942900369443720068102470
def s91:=sn 4738735239314492059302342734412102
def s92:=sn 1970378332810994856972810566
def Rb:=sn 121
def s94:=sn 287005771327406520212613790022
def s95:=sn 36697143015659284620394997774662
def s96:=sn 36736776431465389278236685924678
def s97:=sn 529123317326050987060295870736529734
def s98:=sn 9937847594675139374987317671213250672966
def s99:=sn 35157184140118180154008019695942
def s100:=sn 3978691179760
def Wx:=sn 249479658437659509264028825926
def PQ:=sn 53902074141372383
def SO:=sn 27342305648
def Ww:=sn 497158883364006940381786093148500690
def Wv:=sn 1950733928909096901437878994
def Wu:=sn 37021369057144469173921927459538
def Wt:=sn 15393580725046519694947026
def Ws:=sn 2242232588495324061535892178
def Wr:=sn 286696429809838121719210767058
def Wq:=sn 287006065870823314358598955730
def Wp:=sn 4133775916609773336369183864976082
def Wo:=sn 77639434333399526367088379928728367826
def Wn:=sn 274665501094673243075562500818
def Wm:=sn 1949059831544175538500072146
def Wl:=sn 930182423071462062019
def Wk:=sn 17653164413997873897469891
def Wj:=sn 7340231287533008835
def Wi:=sn 1069179815528578742211
def Wh:=sn 136707510857504934131651
def Wf:=sn 37021367232036364730400298039235
def We:=sn 130970716998421339502531
def Wd:=sn 929384151241417619395
def Wc:=sn 119063350153143924914516
def Wb:=sn 2259605044991727855657122132
def Wa:=sn 939549604801006106964
def VZ:=sn 136855016387654859979092
def VY:=sn 17498561389760628349827412
def VX:=sn 4738735005700654685491234929998164
def VW:=sn 16764251775797928237300052
def VU:=sn 118961171358898236258644
def NZ:=sn 29779294059
def s132:=sn 1767905
def NY:=sn 211597303
def s134:=sn 35144533478729831326069036839671
def VT:=sn 2699807761623
def s136:=sn 1783022
def s137:=sn 1800947
def s138:=sn 232354932
def s139:=sn 220018658
def s140:=sn 226029794
def s141:=sn 240679539
def s142:=sn 107287240937801019460724854250000619058368708120434373598850915093819327426457836
def SN:=sn 274393657981102138040287916275
def SM:=sn 1077463595197663099619
def Kq:=sn 137915340185300872231539
def Ko:=sn 17347399395383005442243187
def Kn:=sn 17347399395383005433918580
def SK:=sn 504875770868471
def SJ:=sn 137915340185300843000051
def SI:=sn 8426682910831572575
def SH:=sn 939974376926731597407
def SG:=sn 17359306920133061789644383
def SF:=sn 67482964224144991
def SE:=sn 8352967321978435167
def SD:=sn 1068027428587418711647
def SB:=sn 137915346984371551237727
def SA:=sn 57345570095265375
def Sz:=sn 8423349363374847583
def Sx:=sn 7268149395797341791
def Sw:=sn 137915340185300882716255
def Sv:=sn 7983654697786963551
def Su:=sn 8269686016323384927
def Ss:=sn 17516223997145595269117535
def Sq:=sn 1124450230645766518367
def Sn:=sn 1067958212234506171999
def Sm:=sn 17513836086728843905758815
def Sl:=sn 7270427996206954079
def Sk:=sn 122623142452853370025567
def Sj:=sn 284144247905733434993041503839
def Si:=sn 929675765462320313951
def Sh:=sn 7265299736536053343
def Sg:=sn 136706787983648609564255
def Se:=sn 7484348600549930591
def Sd:=sn 1962220
def VS:=sn 3568803148019
def RZ:=sn 31381566694
def RY:=sn 3465736155891
def s178:=sn 8424984755110965996
def VR:=sn 27321202288
def RX:=sn 13167
def s181:=sn 28135027447
def NX:=sn 32292397437976189666475158042207
def s183:=sn 8781323754941216351
def NW:=sn 930329895887808525919
def s185:=sn 137989276334399845594719
def s186:=sn 7263065528908412511
def s187:=sn 7843466381129971295
def NV:=sn 1970971523313950507201492575
def VQ:=sn 1058801290007509759583
def s190:=sn 63542589428102751
def s191:=sn 129716705428967878325855
def s192:=sn 535556634736223
def Ge:=sn 252284354985268781312971929183
def VP:=sn 4148921136735
def VO:=sn 4183280875103
def s196:=sn 939474468468921235039
def NU:=sn 252284354984115859945804035679
def VN:=sn 1003179560991236585055
def RW:=sn 513532042442335
def RV:=sn 4133426872063258699515051954959967
def VM:=sn 529078639625915187390690262777362015
def s202:=sn 3702244537951
def s203:=sn 8127756141967472223
def s204:=sn 68547669436954207
def s205:=sn 252284354984113581345394423391
def s206:=sn 7346962664154232415
def s207:=sn 8426683116990002783
def x0:Obj:=⟨.none,none,.fields #[],#[]⟩
def e0:Obj:=tu #[] 0
def dI(P:Params)(l:List (Str × Nat × Value))(n:Nat):Obj:=⟨.type q1,none,.dict ⟨l.map λx=>⟨kh P x.1,.str x.1 x.2.1,x.2.2⟩⟩ n,#[]⟩
def tV:w0g->List Value
 | a::b::c::l=>i a::i b::r c::tV l
 | _=>[]
def tB(l:w0g):Obj:=⟨.none,none,.fields ⟨tV l⟩,#[]⟩
def cC(n:Str)(t l a:Nat):Obj:=co #[.str n t,.str n<|t+1,.str s1<|t+2,i l,i 0,i 0,i 0,i 0,r a,.bool false,i 181,r<|a+1,.none,.none,.none,.none,i<|t+3,i l,.str s1<|t+4]
def pL(a b:Nat)(s:Value):Obj:=⟨.type q0,none,.plain,#[some<|r a,some<|r 3,some<|r b,none,some s,none,some<|r 0]⟩
def cL(n:Str)(b m:w0i)(d:Nat)(s:w0i)(a t u:Nat)(z:String):Obj:=⟨.type q6,none,.cls ⟨n,b,m,d,n,true,[],s,false,none,false⟩,#[some<|r a,none,some<|.str n t,some<|.str n u,some<|.builtin z,some<|.bool true]⟩
def x3(a:Nat):Obj:=⟨.type q12,none,.fields #[r a,r a,r a],#[]⟩
def x2(a:Nat):Obj:=⟨.type q4,none,.fields #[.builtin q13,r a],#[]⟩
def x1:Obj:=⟨.type q4,none,.fields #[.builtin q5,.type q6],#[]⟩
def m0:Value:=.str s2 164
def m1:Value:=.str s51 294
def m2:Value:=.str s56 312
def m3:Value:=.str s57 322
def m4:Value:=.str s68 359
def m5:Value:=.str s134 845
def m6:Value:=.str s4 856
def m7:Value:=.str s142 957
def vr:w0h->Nat->List Value
 | [],_=>[]
 | x::l,t=>.str x t::vr l (t+1)
def cO(n q:Str)(t l k a v:Nat):Obj:=co #[.str n t,.str q<|t+1,.str s1<|t+2,i l,i k,i 0,i 0,i 3,r a,.bool true,i 181,r<|a+1,.none,r<|a+2,r<|a+3,r<|a+4,i<|t+3+v,i l,.str s1<|t+4+v]
def cN(n:Str)(t l k a v:Nat):Obj:=cO n n t l k a v
def fN(n:Str)(j:Nat)(m:Value)(c:Nat):Obj:=fo n n (g9 j) m (r c)
def f1:Obj->Obj
 | ⟨_,_,.func ⟨n,q,a,b,s,_,_,_,_,_,_,_,_,_,_⟩,_⟩=>⟨.none,none,.func ⟨n,q,a,b,s,0,[],.none,.none,.none,.none,none,.none,.none,0⟩,#[]⟩
 | o=>o
def D(t:Nat)(vs:w0h)(c f:Obj)(l:List Obj):List Obj:=e0::x0::tu ⟨vr vs t⟩ 0::e0::f1 f::c::f::l
def oL:List Obj->Nat->BT->BT
 | [],_,t=>t
 | o::l,n,t=>oL l (n+1) (t.ins n o)
def eO(n q:Str)(t l k a:Nat):Obj:=co #[.str n t,.str q<|t+1,.str s1<|t+2,i l,i k,i 0,i 0,i 3,r a,.bool true,i 181,r<|a+1,.none,.none,.none,r<|a+2,i<|t+3,i l,.str s1<|t+4]
def eN(n:Str)(t l k a:Nat):Obj:=eO n n t l k a
def E(c f:Obj)(l:List Obj):List Obj:=e0::x0::f1 f::c::f::l
def Tw:Obj:=e0
def b0c:Obj:=x0
def Tv:Obj:=cC s0 182 1 11
def Tu:Obj:=pL 13 3 m0
def o3_0(P:Params):Obj:=dI P [(s3,165,m6),(s5,166,.none),(s6,167,.none),(s7,168,.builtin q2),(s8,169,.none),(s9,170,r 6),(Wy,171,r 4),(s11,173,.str s1 172),(Hv,174,.none),(Hu,193,r 21),(UW,213,r 31),(UV,229,r 44),(UU,245,r 56),(UT,261,r 68),(US,277,r 80),(UR,293,r 92),(s20,297,.str s21 296),(VL,303,r 99),(VJ,311,r 106),(Pl,321,r 113),(Iw,330,r 120),(VI,341,r 127),(VH,350,r 134),(VG,358,r 141),(s29,362,.str s30 361),(s31,364,.int 30 363),(s32,366,.int 1000000 365),(VF,372,r 146),(NR,379,r 153),(VE,386,r 160),(PN,406,r 170),(UQ,436,r 198),(UP,482,r 238),(UO,580,r 320),(UN,686,r 409),(UM,765,r 477),(UL,844,r 545),(VD,855,r 554)] 38
def Rm:Obj:=tB [1,0,20,5,0,27,7,0,40,9,0,52,11,0,64,13,0,76,15,0,88,19,0,98,21,0,105,25,0,112,29,0,119,31,0,126,39,0,133,48,0,140,61,0,145,70,0,152,74,0,159,77,0,166,79,0,180,86,0,206,99,0,246,142,0,328,182,0,417,216,0,485,247,0,553]
def o20:=cN Hu 187 1 1 15 1
def o21:=fN Hu 0 m0 20
def o30(P:Params):Obj:=dI P [(Cz,203,.str Dk 194),(Cy,207,.int 5 206),(DW,208,r 29),(s50,210,r 32),(s5,211,.none)] 3
def o31:Obj:=cL UW [.type q3] [r 31,.type q3,.type q7,.type q8,.type q9] 30 [r 44,r 56,r 68,r 80,r 92] 22 196 204 UX
def o43(P:Params):Obj:=dI P [(Cz,221,.str Dk 194),(Cy,225,.int 7 224),(DW,226,r 42),(s5,227,.none)] 2
def o44:Obj:=cL UV [r 31] [r 44,r 31,.type q3,.type q7,.type q8,.type q9] 43 [] 35 214 222 UX
def o55(P:Params):Obj:=dI P [(Cz,237,.str Dk 194),(Cy,241,.int 9 240),(DW,242,r 54),(s5,243,.none)] 2
def o56:Obj:=cL UU [r 31] [r 56,r 31,.type q3,.type q7,.type q8,.type q9] 55 [] 47 230 238 UX
def o67(P:Params):Obj:=dI P [(Cz,253,.str Dk 194),(Cy,257,.int 11 256),(DW,258,r 66),(s5,259,.none)] 2
def o68:Obj:=cL UT [r 31] [r 68,r 31,.type q3,.type q7,.type q8,.type q9] 67 [] 59 246 254 UX
def o79(P:Params):Obj:=dI P [(Cz,269,.str Dk 194),(Cy,273,.int 13 272),(DW,274,r 78),(s5,275,.none)] 2
def o80:Obj:=cL US [r 31] [r 80,r 31,.type q3,.type q7,.type q8,.type q9] 79 [] 71 262 270 UX
def o91(P:Params):Obj:=dI P [(Cz,285,.str Dk 194),(Cy,289,.int 15 288),(DW,290,r 90),(s5,291,.none)] 2
def o92:Obj:=cL UR [r 31] [r 92,r 31,.type q3,.type q7,.type q8,.type q9] 91 [] 83 278 286 UX
def o98:=eN VL 298 19 2 95
def o99:=fN VL 10 m1 98
def b0k:=cN VJ 304 21 2 100 2
def b0j:=fN VJ 11 m1 105
def b0i:=cN Pl 314 25 2 107 2
def b0h:=fN Pl 13 m2 112
def b0g:=cN Iw 324 29 1 114 1
def b0f:=fN Iw 15 m3 119
def b0e:=cN VI 331 31 2 121 5
def b0d:=fN VI 16 m3 126
def b0b:=cN VH 342 39 2 128 3
def b0a:=fN VH 17 m3 133
def a0z:=cN VG 351 48 1 135 2
def a0y:=fN VG 18 m3 140
def a0x:=eN VF 367 61 1 142
def a0w:=fN VF 23 m4 145
def a0v:=cN NR 373 70 1 147 1
def a0u:=fN NR 24 m4 152
def a0t:=cN VE 380 74 1 154 1
def a0s:=fN VE 25 m4 159
def a0r(P:Params):Obj:=dI P [(Cz,394,m4),(Cy,398,.int 77 397),(DW,399,r 168),(s70,401,r 171),(s50,403,r 172),(s5,404,.none)] 4
def a0q:Obj:=⟨.type q6,none,.cls ⟨PN,[.type q9],[r 170,.type q9],169,PN,true,[],[r 198,r 238],false,none,false⟩,#[none,none,some<|.str PN 387,some<|.str PN 395,some<|.builtin SY,some<|.bool true]⟩
def a0p:=cO Rf s74 419 81 1 182 1
def a0o:=fo Rf s74 (L2.j8 (g9 27) 0) m4 (r 187)
def a0n:=cO Rc s75 426 84 1 189 1
def a0m:=fo Rc s75 (L2.j8 (g9 27) 1) m4 (r 194)
def a0l(P:Params):Obj:=dI P [(Cz,414,m4),(Cy,418,.int 79 417),(Rf,425,r 188),(Rc,432,r 195),(DW,433,r 196),(s5,434,.none)] 2
def a0k:Obj:=cL UQ [r 170] [r 198,r 170,.type q9] 197 [r 320,r 409] 175 407 415 SY
def a0j:=cO Rf s78 449 88 1 208 1
def a0i:=fo Rf s78 (L2.j8 (g9 28) 0) m4 (r 213)
def a0h:=cO Rc s79 456 91 1 215 1
def a0g:=fo Rc s79 (L2.j8 (g9 28) 1) m4 (r 220)
def a0f:=cO Nt s81 463 94 2 222 2
def a0e:=fo Nt s81 (L2.j8 (g9 28) 2) m4 (r 227)
def a0d:=cO Nr s82 471 97 2 229 2
def a0c:=fo Nr s82 (L2.j8 (g9 28) 3) m4 (r 234)
def a0b(P:Params):Obj:=dI P [(Cz,444,m4),(Cy,448,.int 86 447),(Rf,455,r 214),(Rc,462,r 221),(Nt,470,r 228),(Nr,478,r 235),(DW,479,r 236),(s5,480,.none)] 2
def a0a:Obj:=cL UP [r 170] [r 238,r 170,.type q9] 237 [r 477,r 545] 201 437 445 SY
def ZZ:=cO IV s90 495 101 1 248 1
def ZY:=fo IV s90 (L2.j8 (g9 29) 0) m4 (r 253)
def ZX:=cO JS s91 502 104 1 255 1
def ZW:=fo JS s91 (L2.j8 (g9 29) 1) m4 (r 260)
def ZV:=cO GK s92 509 107 1 262 1
def ZU:=fo GK s92 (L2.j8 (g9 29) 2) m4 (r 267)
def ZT:=cO JR s94 516 110 3 269 3
def ZR:=fo JR s94 (L2.j8 (g9 29) 3) m4 (r 274)
def ZQ:=cO IU s95 525 113 3 276 3
def ZP:=fo IU s95 (L2.j8 (g9 29) 4) m4 (r 281)
def ZO:=cO Nt s96 534 116 2 283 2
def ZN:=fo Nt s96 (L2.j8 (g9 29) 5) m4 (r 288)
def ZM:=cO Nr s97 542 119 2 290 2
def ZL:=fo Nr s97 (L2.j8 (g9 29) 6) m4 (r 295)
def ZK:=cO JQ s98 550 122 2 297 2
def ZJ:=fo JQ s98 (L2.j8 (g9 29) 7) m4 (r 302)
def ZI:=cO JP s99 558 129 2 304 2
def ZH:=fo JP s99 (L2.j8 (g9 29) 8) m4 (r 309)
def ZG:=cO JO Wx 566 132 2 311 5
def ZF:=fo JO Wx (L2.j8 (g9 29) 9) m4 (r 316)
def ZE(P:Params):Obj:=dI P [(Cz,490,m4),(Cy,494,.int 99 493),(IV,501,r 254),(JS,508,r 261),(GK,515,r 268),(JR,524,r 275),(IU,533,r 282),(Nt,541,r 289),(Nr,549,r 296),(JQ,557,r 303),(JP,565,r 310),(JO,576,r 317),(DW,577,r 318),(s5,578,.none)] 2
def ZD:Obj:=cL UO [r 198] [r 320,r 198,r 170,.type q9] 319 [] 241 483 491 SY
def ZC:=cO PQ Ww 593 144 2 330 2
def Zy:=fo PQ Ww (L2.j8 (g9 30) 0) m4 (r 335)
def Zx:=cO IV Wv 601 149 1 337 2
def Zw:=fo IV Wv (L2.j8 (g9 30) 1) m4 (r 342)
def Zv:=cO JS Wu 609 153 1 344 1
def Zu:=fo JS Wu (L2.j8 (g9 30) 2) m4 (r 349)
def Zt:=cO GK Wt 616 156 1 351 1
def Zs:=fo GK Wt (L2.j8 (g9 30) 3) m4 (r 356)
def Zr:=cO JR Ws 623 159 3 358 3
def Zq:=fo JR Ws (L2.j8 (g9 30) 4) m4 (r 363)
def Zp:=cO IU Wr 632 162 3 365 3
def Zn:=fo IU Wr (L2.j8 (g9 30) 5) m4 (r 370)
def Zm:=cO Nt Wq 641 165 2 372 2
def Zl:=fo Nt Wq (L2.j8 (g9 30) 6) m4 (r 377)
def Zk:=cO Nr Wp 649 168 2 379 2
def Zj:=fo Nr Wp (L2.j8 (g9 30) 7) m4 (r 384)
def Zh:=cO JQ Wo 657 171 2 386 2
def Zg:=fo JQ Wo (L2.j8 (g9 30) 8) m4 (r 391)
def Zf:=cO JP Wn 665 174 2 393 2
def Ze:=fo JP Wn (L2.j8 (g9 30) 9) m4 (r 398)
def Zc:=cO JO Wm 673 177 2 400 3
def YZ:=fo JO Wm (L2.j8 (g9 30) 10) m4 (r 405)
def YY(P:Params):Obj:=dI P [(Cz,588,m4),(Cy,592,.int 142 591),(PQ,600,r 336),(IV,608,r 343),(JS,615,r 350),(GK,622,r 357),(JR,631,r 364),(IU,640,r 371),(Nt,648,r 378),(Nr,656,r 385),(JQ,664,r 392),(JP,672,r 399),(JO,681,r 406),(DW,683,r 407),(s5,684,.none)] 2
def YX:Obj:=cL UN [r 198] [r 409,r 198,r 170,.type q9] 408 [] 323 581 589 SY
def YW:=cO IV Wl 699 184 1 419 1
def YV:=fo IV Wl (L2.j8 (g9 31) 0) m4 (r 424)
def YU:=cO JS Wk 706 187 1 426 1
def YT:=fo JS Wk (L2.j8 (g9 31) 1) m4 (r 431)
def YS:=cO GK Wj 713 190 1 433 1
def YR:=fo GK Wj (L2.j8 (g9 31) 2) m4 (r 438)
def YQ:=cO JR Wi 720 193 3 440 3
def YO:=fo JR Wi (L2.j8 (g9 31) 3) m4 (r 445)
def YN:=cO IU Wh 729 200 3 447 3
def YM:=fo IU Wh (L2.j8 (g9 31) 4) m4 (r 452)
def YL:=cO JQ Wf 738 205 2 454 2
def YK:=fo JQ Wf (L2.j8 (g9 31) 5) m4 (r 459)
def YJ:=cO JP We 746 208 2 461 2
def YI:=fo JP We (L2.j8 (g9 31) 6) m4 (r 466)
def YH:=cO JO Wd 754 211 2 468 2
def YG:=fo JO Wd (L2.j8 (g9 31) 7) m4 (r 473)
def YF(P:Params):Obj:=dI P [(Cz,694,m4),(Cy,698,.int 182 697),(IV,705,r 425),(JS,712,r 432),(GK,719,r 439),(JR,728,r 446),(IU,737,r 453),(JQ,745,r 460),(JP,753,r 467),(JO,761,r 474),(DW,762,r 475),(s5,763,.none)] 2
def YE:Obj:=cL UM [r 238] [r 477,r 238,r 170,.type q9] 476 [] 412 687 695 SY
def YD:=cO IV Wc 778 218 1 487 1
def YC:=fo IV Wc (L2.j8 (g9 32) 0) m4 (r 492)
def YB:=cO JS Wb 785 221 1 494 1
def YA:=fo JS Wb (L2.j8 (g9 32) 1) m4 (r 499)
def Yz:=cO GK Wa 792 224 1 501 1
def Yy:=fo GK Wa (L2.j8 (g9 32) 2) m4 (r 506)
def Yx:=cO JR VZ 799 227 3 508 3
def Yw:=fo JR VZ (L2.j8 (g9 32) 3) m4 (r 513)
def Yv:=cO IU VY 808 230 3 515 3
def Yu:=fo IU VY (L2.j8 (g9 32) 4) m4 (r 520)
def Yt:=cO JQ VX 817 233 2 522 2
def Ys:=fo JQ VX (L2.j8 (g9 32) 5) m4 (r 527)
def Yr:=cO JP VW 825 236 2 529 2
def Yq:=fo JP VW (L2.j8 (g9 32) 6) m4 (r 534)
def Yp:=cO JO VU 833 239 2 536 2
def Yo:=fo JO VU (L2.j8 (g9 32) 7) m4 (r 541)
def Yn(P:Params):Obj:=dI P [(Cz,773,m4),(Cy,777,.int 216 776),(IV,784,r 493),(JS,791,r 500),(GK,798,r 507),(JR,807,r 514),(IU,816,r 521),(JQ,824,r 528),(JP,832,r 535),(JO,840,r 542),(DW,841,r 543),(s5,842,.none)] 2
def Ym:Obj:=cL UL [r 238] [r 545,r 238,r 170,.type q9] 544 [] 480 766 774 SY
def Yl:=cN VD 847 247 3 548 3
def Yk:=fN VD 34 m5 553
def o3_1(P:Params):Obj:=dI P [(s3,165,m6),(s5,166,.none),(s6,167,.none),(s7,168,.builtin q2),(s8,169,.none),(s9,170,r 6),(Wy,171,r 4),(s11,173,.str s1 172),(Hv,174,.none),(Hu,193,r 21),(UW,213,r 31),(UV,229,r 44),(UU,245,r 56),(UT,261,r 68),(US,277,r 80),(UR,293,r 92),(s20,297,.str s21 296),(VL,303,r 99),(VJ,311,r 106),(Pl,321,r 113),(Iw,330,r 120),(VI,341,r 127),(VH,350,r 134),(VG,358,r 141),(s29,362,.str s30 361),(s31,364,.int 30 363),(s32,366,.int 1000000 365),(VF,372,r 146),(NR,379,r 153),(VE,386,r 160),(PN,406,r 170),(UQ,436,r 198),(UP,482,r 238),(UO,580,r 320),(UN,686,r 409),(UM,765,r 477),(UL,844,r 545),(VD,855,r 554),(VT,882,r 555)] 39
def Yj(P:Params):Obj:=dI P [(s136,858,.int 0 859),(NY,860,.int 0 861),(IU,862,.int 1 863),(s137,864,.int 2 865),(s138,866,.int 2 867),(s139,868,.int 2 869),(s140,870,.int 1 871),(s141,872,.int 1 873)] 8
def Zd(P:Params):Obj:=dI P [(s3,165,m7),(s5,166,.none),(s6,167,.none),(s7,168,.builtin q2),(s8,169,.none),(s9,170,r 6),(Wy,171,r 4),(s11,173,.str s1 172),(Hv,174,.none),(Hu,193,r 21),(UW,213,r 31),(UV,229,r 44),(UU,245,r 56),(UT,261,r 68),(US,277,r 80),(UR,293,r 92),(s20,297,.str s21 296),(VL,303,r 99),(VJ,311,r 106),(Pl,321,r 113),(Iw,330,r 120),(VI,341,r 127),(VH,350,r 134),(VG,358,r 141),(s29,362,.str s30 361),(s31,364,.int 30 363),(s32,366,.int 1000000 365),(VF,372,r 146),(NR,379,r 153),(VE,386,r 160),(PN,406,r 170),(UQ,436,r 198),(UP,482,r 238),(UO,580,r 320),(UN,686,r 409),(UM,765,r 477),(UL,844,r 545),(VD,855,r 554),(VT,882,r 555),(SN,889,r 562),(SM,903,r 569),(Kq,916,r 576),(Ko,927,r 583),(Kn,941,r 590),(SK,947,r 595),(SJ,956,r 602),(SI,967,r 609),(SH,976,r 616),(SG,984,r 623),(SF,993,r 630),(SE,1002,r 637),(SD,1011,r 644),(SB,1018,r 651),(SA,1025,r 658),(Sz,1033,r 665),(Sx,1040,r 672),(Sw,1048,r 679),(Sv,1060,r 686),(Su,1072,r 693),(Ss,1078,r 698),(Sq,1086,r 705),(Sn,1092,r 710),(Sm,1098,r 715),(Sl,1108,r 722),(Sk,1120,r 729),(Sj,1126,r 734),(Si,1136,r 741),(Sh,1145,r 748),(Sg,1156,r 755),(Se,1162,r 760),(Sd,1168,r 765)] 71
def Yi:=cN SN 883 253 1 556 1
def Yh:=fN SN 37 m6 561
def Yg:=cN SM 890 255 5 563 8
def Ye:=fN SM 38 m6 568
def Yd:Obj:=co #[.str Kq 904,.str Kq 905,.str s1 906,i 262,i 4,i 0,i 0,i 3,r 570,.bool true,i 181,r 571,.none,r 572,r 573,r 574,i 914,i 262,.str s1 915]
def Yc:Obj:=fo Kq Kq (g9 39) m6 (r 575)
def Yb:Obj:=co #[.str Ko 917,.str Ko 918,.str s1 919,i 268,i 2,i 0,i 0,i 3,r 577,.bool true,i 181,r 578,.none,r 579,r 580,r 581,i 925,i 268,.str s1 926]
def XZ:Obj:=fo Ko Ko (g9 40) m6 (r 582)
def XY:Obj:=co #[.str Kn 928,.str Kn 929,.str s1 930,i 272,i 3,i 0,i 0,i 3,r 584,.bool true,i 181,r 585,.none,r 586,r 587,r 588,i 939,i 272,.str s1 940]
def XX:Obj:=fo Kn Kn (g9 41) m6 (r 589)
def XW:=eN SK 942 278 2 591
def XU:=fN SK 42 m6 594
def XS:=cN SJ 948 296 3 596 3
def XR:=fN SJ 43 m6 601
def XQ:=cN SI 959 300 2 603 3
def XO:=fN SI 45 m7 608
def XN:=cN SH 968 309 1 610 3
def XM:=fN SH 46 m7 615
def XJ:=cN SG 977 316 2 617 2
def XI:=fN SG 47 m7 622
def XH:=cN SF 985 320 2 624 3
def XG:=fN SF 48 m7 629
def XF:=cN SE 994 323 3 631 3
def XE:=fN SE 49 m7 636
def XD:=cN SD 1003 333 3 638 3
def XC:=fN SD 50 m7 643
def XB:=cN SB 1012 343 1 645 1
def XA:=fN SB 51 m7 650
def Xz:=cN SA 1019 345 1 652 1
def Xy:=fN SA 52 m7 657
def Xx:=cN Sz 1026 347 1 659 2
def Xw:=fN Sz 53 m7 664
def Xv:=cN Sx 1034 350 1 666 1
def Xu:=fN Sx 54 m7 671
def Xs:=cN Sw 1041 358 2 673 2
def Xr:=fN Sw 55 m7 678
def Xq:=cN Sv 1049 368 4 680 6
def Xp:=fN Sv 56 m7 685
def Xo:=cN Su 1061 373 4 687 6
def Xn:=fN Su 57 m7 692
def Xm:=eN Ss 1073 380 3 694
def Xl:=fN Ss 58 m7 697
def Xk:=cN Sq 1079 402 2 699 2
def Xj:=fN Sq 59 m7 704
def Xi:=eN Sn 1087 404 2 706
def Xh:=fN Sn 60 m7 709
def Xg:=eN Sm 1093 414 2 711
def Xf:=fN Sm 61 m7 714
def Xe:=cN Sl 1099 421 2 716 4
def Xd:=fN Sl 62 m7 721
def Xc:=cN Sk 1109 426 4 723 6
def Xb:=fN Sk 63 m7 728
def Xa:=eN Sj 1121 442 2 730
def WZ:=fN Sj 64 m7 733
def WY:=cN Si 1127 447 3 735 4
def WX:=fN Si 65 m7 740
def WW:=cN Sh 1137 454 1 742 3
def WV:=fN Sh 66 m7 747
def WU:=cN Sg 1146 462 1 749 5
def WT:=fN Sg 67 m7 754
def WS:=eN Se 1157 470 5 756
def WR:=fN Se 68 m7 759
def WQ:=eN Sd 1163 481 1 761
def WO:=fN Sd 69 m7 764
def Na:Env:={ scope:=pW.main.scope,locals:=mainNs,globals:=mainNs,cells:=[],code:=(r 13),frame:=some 14 }
def cT:Code:=.body (behindTheImports pW) Na
def qP:Pos:=⟨0,0,0,0⟩
def Ha(P:Params):Heap:=⟨⟨[boot_o_0 P,boot_o_1 P,boot_o_2 P,boot_o_3 P,boot_o_4 P,boot_o_5 P,boot_o_6 P,boot_o_7 P,boot_o_8 P,boot_o_9 P,boot_o_10 P,Tw,b0c,Tv,Tu]⟩,PySem.Life.mk [] [] [] 0 [] [] false #[] [] 0 false false false 0 [2000,10,10] false 0 true [] [] 0 false⟩
def Sa(w:World)(os:OsState):Shared:=⟨Ha w.params,⟨[]⟩,PySem.Drawn.mk 0 0 0 0,187,os⟩
def Tb(P:Params):BT:=(nd (boot_o_0 P) (nd (boot_o_1 P) (nd (boot_o_3 P) (lf<|boot_o_7 P)<|lf Tw)<|nd (boot_o_5 P) (lf<|boot_o_9 P)<|lf Tv)<|nd (boot_o_2 P) (nd (boot_o_4 P) (lf<|boot_o_8 P)<|lf b0c)<|nd (boot_o_6 P) (lf<|boot_o_10 P)<|lf Tu)
def Sb(w:World)(os:OsState):SharedT:=⟨Tb w.params,15,PySem.Life.mk [] [] [] 0 [] [] false #[] [] 0 false false false 0 [2000,10,10] false 0 true [] [] 0 false,⟨[]⟩,PySem.Drawn.mk 0 0 0 0,187,os⟩
def oA(P:Params):List Obj:=boot_o_0 P::boot_o_1 P::boot_o_2 P::Zd P::boot_o_4 P::boot_o_5 P::boot_o_6 P::boot_o_7 P::boot_o_8 P::boot_o_9 P::boot_o_10 P::Tw::tB [1,0,20,5,0,27,7,0,40,9,0,52,11,0,64,13,0,76,15,0,88,19,0,98,21,0,105,25,0,112,29,0,119,31,0,126,39,0,133,48,0,140,61,0,145,70,0,152,74,0,159,77,0,166,79,0,180,86,0,206,99,0,246,142,0,328,182,0,417,216,0,485,247,0,553,253,0,561,255,0,568,262,0,575,268,0,582,272,0,589,278,0,594,296,0,601,300,0,608,309,0,615,316,0,622,320,0,629,323,0,636,333,0,643,343,0,650,345,0,657,347,0,664,350,0,671,358,0,678,368,0,685,373,0,692,380,0,697,402,0,704,404,0,709,414,0,714,421,0,721,426,0,728,442,0,733,447,0,740,454,0,747,462,0,754,470,0,759,481,0,764]::Tv::Tu::D 190 [s44] o20 o21 (tu #[.type q3] 0::x1::dI P [(Cz,203,.str Dk 194),(Mu,205,.str UW 204),(Cy,207,.int 5 206),(DW,208,r 29)] 4::e0::x0::cC UW 198 5 25::pL 27 24 (.str Dk 194)::e0::o30 P::o31::⟨.type q11,none,.fields #[.str s50 209,r 31,.builtin SL.s10220274742760427390x26,.none],#[]⟩::x3 31::x2 31::tu #[r 31] 0::x1::dI P [(Cz,221,.str Dk 194),(Mu,223,.str UV 222),(Cy,225,.int 7 224),(DW,226,r 42)] 4::e0::x0::cC UV 216 7 38::pL 40 37 (.str Dk 194)::e0::o43 P::o44::x3 44::x2 44::tu #[r 31] 0::x1::dI P [(Cz,237,.str Dk 194),(Mu,239,.str UU 238),(Cy,241,.int 9 240),(DW,242,r 54)] 4::e0::x0::cC UU 232 9 50::pL 52 49 (.str Dk 194)::e0::o55 P::o56::x3 56::x2 56::tu #[r 31] 0::x1::dI P [(Cz,253,.str Dk 194),(Mu,255,.str UT 254),(Cy,257,.int 11 256),(DW,258,r 66)] 4::e0::x0::cC UT 248 11 62::pL 64 61 (.str Dk 194)::e0::o67 P::o68::x3 68::x2 68::tu #[r 31] 0::x1::dI P [(Cz,269,.str Dk 194),(Mu,271,.str US 270),(Cy,273,.int 13 272),(DW,274,r 78)] 4::e0::x0::cC US 264 13 74::pL 76 73 (.str Dk 194)::e0::o79 P::o80::x3 80::x2 80::tu #[r 31] 0::x1::dI P [(Cz,285,.str Dk 194),(Mu,287,.str UR 286),(Cy,289,.int 15 288),(DW,290,r 90)] 4::e0::x0::cC UR 280 15 86::pL 88 85 (.str Dk 194)::e0::o91 P::o92::x3 92::x2 92::E o98 o99 (D 307 [s52,UK] b0k b0j<|D 317 [Rg,s55] b0i b0h<|D 327 [UK] b0g b0f<|D 334 [GK,s59,s60,s61,s62] b0e b0d<|D 345 [s63,s64,s65] b0b b0a<|D 354 [s66,s67] a0z a0y<|E a0x a0w<|D 376 [UJ] a0v a0u<|D 383 [UJ] a0t a0s (e0::x1::dI P [(Cz,394,m4),(Mu,396,.str PN 395),(Cy,398,.int 77 397),(DW,399,r 168)] 4::e0::x0::cC PN 389 77 164::pL 166 163 m4::e0::a0r P::a0q::⟨.type q11,none,.fields #[.str s70 400,r 170,.builtin SL.s6511155373996960695x17,.builtin SL.s12411053484034534018x21],#[]⟩::⟨.type q11,none,.fields #[.str s50 402,r 170,.builtin SL.s10220274742760427390x26,.none],#[]⟩::x3 170::x2 170::tu #[r 170] 0::x1::dI P [(Cz,414,m4),(Mu,416,.str UQ 415),(Cy,418,.int 79 417),(Rf,425,r 188),(Rc,432,r 195),(DW,433,r 196)] 6::e0::tB [81,4,187,84,4,194]::cC UQ 409 79 178::pL 180 177 m4::D 422 [V9] a0p a0o (D 429 [V9] a0n a0m (e0::a0l P::a0k::x3 198::x2 198::tu #[r 170] 0::x1::dI P [(Cz,444,m4),(Mu,446,.str UP 445),(Cy,448,.int 86 447),(Rf,455,r 214),(Rc,462,r 221),(Nt,470,r 228),(Nr,478,r 235),(DW,479,r 236)] 8::e0::tB [88,4,213,91,4,220,94,4,227,97,4,234]::cC UP 439 86 204::pL 206 203 m4::D 452 [V9] a0j a0i (D 459 [V9] a0h a0g<|D 466 [V9,Ht] a0f a0e<|D 474 [V9,Ht] a0d a0c (e0::a0b P::a0a::x3 238::x2 238::tu #[r 198] 0::x1::dI P [(Cz,490,m4),(Mu,492,.str UO 491),(Cy,494,.int 99 493),(IV,501,r 254),(JS,508,r 261),(GK,515,r 268),(JR,524,r 275),(IU,533,r 282),(Nt,541,r 289),(Nr,549,r 296),(JQ,557,r 303),(JP,565,r 310),(JO,576,r 317),(DW,577,r 318)] 14::e0::tB [101,4,253,104,4,260,107,4,267,110,4,274,113,4,281,116,4,288,119,4,295,122,4,302,129,4,309,132,4,316]::cC UO 485 99 244::pL 246 243 m4::D 498 [V9] ZZ ZY (D 505 [V9] ZX ZW<|D 512 [V9] ZV ZU<|D 519 [V9,Ht,Rb] ZT ZR<|D 528 [V9,Ht,Rb] ZQ ZP<|D 537 [V9,Ht] ZO ZN<|D 545 [V9,Ht] ZM ZL<|D 553 [V9,UK] ZK ZJ<|D 561 [V9,Ht] ZI ZH<|D 569 [V9,UJ,s100,s63,s64] ZG ZF (e0::ZE P::ZD::x3 320::x2 320::tu #[r 198] 0::x1::dI P [(Cz,588,m4),(Mu,590,.str UN 589),(Cy,592,.int 142 591),(PQ,600,r 336),(IV,608,r 343),(JS,615,r 350),(GK,622,r 357),(JR,631,r 364),(IU,640,r 371),(Nt,648,r 378),(Nr,656,r 385),(JQ,664,r 392),(JP,672,r 399),(JO,681,r 406),(DW,683,r 407)] 15::e0::tB [144,4,335,149,4,342,153,4,349,156,4,356,159,4,363,162,4,370,165,4,377,168,4,384,171,4,391,174,4,398,177,4,405]::cC UN 583 142 326::pL 328 325 m4::D 596 [V9,SO] ZC Zy (D 604 [V9,SO] Zx Zw<|D 612 [V9] Zv Zu<|D 619 [V9] Zt Zs<|D 626 [V9,Ht,Rb] Zr Zq<|D 635 [V9,Ht,Rb] Zp Zn<|D 644 [V9,Ht] Zm Zl<|D 652 [V9,Ht] Zk Zj<|D 660 [V9,UK] Zh Zg<|D 668 [V9,Ht] Zf Ze<|D 676 [V9,UJ,s66] Zc YZ (tu #[.str SO 682] 0::YY P::YX::x3 409::x2 409::tu #[r 238] 0::x1::dI P [(Cz,694,m4),(Mu,696,.str UM 695),(Cy,698,.int 182 697),(IV,705,r 425),(JS,712,r 432),(GK,719,r 439),(JR,728,r 446),(IU,737,r 453),(JQ,745,r 460),(JP,753,r 467),(JO,761,r 474),(DW,762,r 475)] 12::e0::tB [184,4,424,187,4,431,190,4,438,193,4,445,200,4,452,205,4,459,208,4,466,211,4,473]::cC UM 689 182 415::pL 417 414 m4::D 702 [V9] YW YV (D 709 [V9] YU YT<|D 716 [V9] YS YR<|D 723 [V9,Ht,Rb] YQ YO<|D 732 [V9,Ht,Rb] YN YM<|D 741 [V9,UK] YL YK<|D 749 [V9,Ht] YJ YI<|D 757 [V9,UJ] YH YG (e0::YF P::YE::x3 477::x2 477::tu #[r 238] 0::x1::dI P [(Cz,773,m4),(Mu,775,.str UL 774),(Cy,777,.int 216 776),(IV,784,r 493),(JS,791,r 500),(GK,798,r 507),(JR,807,r 514),(IU,816,r 521),(JQ,824,r 528),(JP,832,r 535),(JO,840,r 542),(DW,841,r 543)] 12::e0::tB [218,4,492,221,4,499,224,4,506,227,4,513,230,4,520,233,4,527,236,4,534,239,4,541]::cC UL 768 216 483::pL 485 482 m4::D 781 [V9] YD YC (D 788 [V9] YB YA<|D 795 [V9] Yz Yy<|D 802 [V9,Ht,Rb] Yx Yw<|D 811 [V9,Ht,Rb] Yv Yu<|D 820 [V9,UK] Yt Ys<|D 828 [V9,Ht] Yr Yq<|D 836 [V9,UJ] Yp Yo (e0::Yn P::Ym::x3 545::x2 545::D 850 [NZ,s132,NY] Yl Yk (Yj P::D 886 [VS] Yi Yh (D 893 [Rg,RZ,RY,NY,s178,IV,VR,Ht] Yg Ye (e0::x0::tu #[.str Rg 907,.str RX 908,.str NZ 909,.str NY 910,.str VR 911,.str s61 912] 0::tu #[.str NZ 913] 0::f0 Kq Kq (g9 39)::Yd::Yc::e0::x0::tu #[.str Rg 920,.str RX 921] 0::tu #[.str Rg 922,.str RX 923,.str NZ 924] 0::f0 Ko Ko (g9 40)::Yb::XZ::e0::x0::tu #[.str Rg 931,.str RZ 932,.str RY 933] 0::tu #[.str Rg 934,.str RZ 935,.str RY 936,.str NZ 937,.str s181 938] 0::f0 Kn Kn (g9 41)::XY::XX::E XW XU (D 951 [Rg,VS,NY] XS XR<|D 962 [NX,s183,NW] XQ XO<|D 971 [s185,s186,s187] XN XM<|D 980 [NV,VQ] XJ XI<|D 988 [s190,s191,s192] XH XG<|D 997 [Ge,VP,VO] XF XE<|D 1006 [Ge,VP,VO] XD XC<|D 1015 [Ge] XB XA<|D 1022 [Ge] Xz Xy<|D 1029 [NX,s196] Xx Xw<|D 1037 [Ge] Xv Xu<|D 1044 [NX,Ge] Xs Xr<|D 1052 [Ge,NV,VQ,NU,VN,RW] Xq Xp<|D 1064 [Ge,NV,NW,NU,VN,RW] Xo Xn<|E Xm Xl<|D 1082 [Ge,RV] Xk Xj<|E Xi Xh<|E Xg Xf<|D 1102 [NX,VM,NU,s202] Xe Xd<|D 1112 [NX,Ge,VM,s203,s204,NV] Xc Xb<|E Xa WZ<|D 1130 [s205,RV,NU,NW] WY WX<|D 1140 [RV,NW,NV] WW WV<|D 1149 [NU,NW,s206,s207,RW] WU WT<|E WS WR<|E WQ WO<|[])))))))))))))))))))
def T0(P:Params):BT:=oL ((((oA P).take 555).set 3<|o3_0 P).set 12 Rm) 0 .nil
def S0(w:World)(os:OsState):SharedT:=⟨T0 w.params,555,PySem.Life.mk [] [] [] 0 [] [] false #[] [] 0 false false false 0 [2000,10,10] false 0 true [] [] 0 false,⟨[]⟩,PySem.Drawn.mk 0 0 0 0,858,os⟩
def T1(P:Params):BT:=oL ((((oA P).take 556).set 3<|o3_1 P).set 12 Rm) 0 .nil
def S1(w:World)(os:OsState):SharedT:=⟨T1 w.params,556,PySem.Life.mk [] [] [] 0 [] [] false #[] [] 0 false false false 0 [2000,10,10] false 0 true [] [] 0 false,⟨[]⟩,PySem.Drawn.mk 0 0 0 0,883,os⟩
def T2(P:Params):BT:=oL (oA P) 0 .nil
def S2(w:World)(os:OsState):SharedT:=⟨T2 w.params,766,PySem.Life.mk [] [] [] 0 [] [] false #[] [] 0 false false false 0 [2000,10,10] false 0 true [] [] 0 false,⟨[]⟩,PySem.Drawn.mk 0 0 0 0,1169,os⟩
def Hf(P:Params):Heap:=⟨⟨oA P⟩,PySem.Life.mk [] [] [] 0 [] [] false #[] [] 0 false false false 0 [2000,10,10] false 0 true [] [] 0 false⟩
def Sf(w:World)(os:OsState):Shared:=⟨Hf w.params,⟨[]⟩,PySem.Drawn.mk 0 0 0 0,1169,os⟩
def pre_(w:World)(os:OsState):topGo treeTable pW w 11 ((some<|r 6)) 12 ⟨boot_heap w.params,⟨[]⟩,boot_drawn,boot_toks,os⟩ (topStub pW)=some (Sa w os,⟨denote treeTable cT,cT,⟨0,0,0,0⟩,[topFrame qP]⟩):=by trivial
def UB(w:World)(os:OsState):segRun treeTable pW w 11 ((some<|r 6)) 1 1 (Sa w os) (blockOf (behindTheImports pW) Na cT ⟨0,0,0,0⟩ [topFrame qP])=some (.next,(Sb w os).abs,cT,⟨0,0,0,0⟩):=by trivial
def Vx:List Stmt:=[g9 0,g9 1,g9 2,g9 3,g9 4,g9 5,g9 6,g9 7,g9 8,g9 9,g9 10,g9 11,g9 12,g9 13,g9 14,g9 15,g9 16,g9 17,g9 18,g9 19,g9 20,g9 21,g9 22,g9 23,g9 24,g9 25,g9 26,g9 27,g9 28,g9 29,g9 30,g9 31,g9 32,g9 33,g9 34,g9 35]
def pc0(w:World)(os:OsState):segRunT treeTable pW w 11 ((some<|r 6)) 1 4596 (Sb w os) (piecesOf Vx Na cT ⟨0,0,0,0⟩ [topFrame qP])=some (.next,S0 w os,cT,⟨251,0,251,8⟩):=by trivial
def RL:List Stmt:=[g9 36]
def pck1(os:OsState):∀(b:Bool) (w:World),segRunT treeTable pW (w.withFollow "special-get-raises" b) 11 ((some<|r 6)) 1 131 (S0 (w.withFollow "special-get-raises" b) os) (piecesOf RL Na cT ⟨251,0,251,8⟩ [topFrame qP])=some (.next,S1 (w.withFollow "special-get-raises" b) os,cT,⟨252,0,252,6⟩):=by
 intro b w;cases b
 . (try rw[Fast.te15667345088766844465]);(try rw[Fast.te14082659384304107361]);(try rw[Fast.te14374325043358763698]);(try rw[Fast.te10110043849684766642]);(try rw[Fast.te14364793385576792824]);(try rw[Fast.te11892475500146522536]);(try rw[Fast.te4187177175401517315]);(try rw[Fast.te5923862056798008813]);(try rw[Fast.te8920871248978507458]);kernel_rfl
 . (try rw[Fast.te15667345088766844465]);(try rw[Fast.te14082659384304107361]);(try rw[Fast.te14374325043358763698]);(try rw[Fast.te10110043849684766642]);(try rw[Fast.te14364793385576792824]);(try rw[Fast.te11892475500146522536]);(try rw[Fast.te4187177175401517315]);(try rw[Fast.te5923862056798008813]);(try rw[Fast.te8920871248978507458]);kernel_rfl
def pc1(w:World)(os:OsState):segRunT treeTable pW w 11 ((some<|r 6)) 1 131 (S0 w os) (piecesOf RL Na cT ⟨251,0,251,8⟩ [topFrame qP])=some (.next,S1 w os,cT,⟨252,0,252,6⟩):=by have:=pck1 os (w.params.followText "special-get-raises") w;rwa [World.withFollow_self]at this
def Vw:List Stmt:=[g9 37,g9 38,g9 39,g9 40,g9 41,g9 42,g9 43,g9 44,g9 45,g9 46,g9 47,g9 48,g9 49,g9 50,g9 51,g9 52,g9 53,g9 54,g9 55,g9 56,g9 57,g9 58,g9 59,g9 60,g9 61,g9 62,g9 63,g9 64,g9 65,g9 66,g9 67,g9 68,g9 69]
def pc2(w:World)(os:OsState):segRunT treeTable pW w 11 ((some<|r 6)) 1 984 (S1 w os) (piecesOf Vw Na cT ⟨252,0,252,6⟩ [topFrame qP])=some (.next,S2 w os,cT,⟨481,0,502,156⟩):=by trivial
def fin_(w:World)(os:OsState):topRun treeTable pW w 11 ((some<|r 6)) 2 (S2 w os).abs ⟨doneF .next,cT,⟨481,0,502,156⟩,[topFrame qP]⟩=some (Sf w os):=by trivial
def QN:behindTheImports pW=(Vx++(RL++(Vw++[]))):=by kernel_rfl
def run_(w:World)(os:OsState):topRun treeTable pW w 11 ((some<|r 6)) (12+(1+(4596+(131+(984+2))))) ⟨boot_heap w.params,⟨[]⟩,boot_drawn,boot_toks,os⟩ (topStub pW)=some (Sf w os):=by have h:=(piece_app (segRun_of<|pc0 w os)<|piece_app (segRun_of<|pc1 w os)<|piece_app (segRun_of<|pc2 w os)<|piece_nil<|fin_ w os);rw[<- QN]at h;exact go_top (pre_ w os) (piece_block (UB w os) h)
def K(P:Params):Frag:=(nat_lit 2,boot_o_2 P)::(nat_lit 3,Zd P)::(nat_lit 20,o20)::(nat_lit 21,o21)::(nat_lit 30,o30 P)::(nat_lit 31,o31)::(nat_lit 43,o43 P)::(nat_lit 44,o44)::(nat_lit 55,o55 P)::(nat_lit 56,o56)::(nat_lit 67,o67 P)::(nat_lit 68,o68)::(nat_lit 79,o79 P)::(nat_lit 80,o80)::(nat_lit 91,o91 P)::(nat_lit 92,o92)::(nat_lit 98,o98)::(nat_lit 99,o99)::(nat_lit 105,b0k)::(nat_lit 106,b0j)::(nat_lit 112,b0i)::(nat_lit 113,b0h)::(nat_lit 119,b0g)::(nat_lit 120,b0f)::(nat_lit 126,b0e)::(nat_lit 127,b0d)::(nat_lit 133,b0b)::(nat_lit 134,b0a)::(nat_lit 140,a0z)::(nat_lit 141,a0y)::(nat_lit 145,a0x)::(nat_lit 146,a0w)::(nat_lit 152,a0v)::(nat_lit 153,a0u)::(nat_lit 159,a0t)::(nat_lit 160,a0s)::(nat_lit 169,a0r P)::(nat_lit 170,a0q)::(nat_lit 187,a0p)::(nat_lit 188,a0o)::(nat_lit 194,a0n)::(nat_lit 195,a0m)::(nat_lit 197,a0l P)::(nat_lit 198,a0k)::(nat_lit 213,a0j)::(nat_lit 214,a0i)::(nat_lit 220,a0h)::(nat_lit 221,a0g)::(nat_lit 227,a0f)::(nat_lit 228,a0e)::(nat_lit 234,a0d)::(nat_lit 235,a0c)::(nat_lit 237,a0b P)::(nat_lit 238,a0a)::(nat_lit 253,ZZ)::(nat_lit 254,ZY)::(nat_lit 260,ZX)::(nat_lit 261,ZW)::(nat_lit 267,ZV)::(nat_lit 268,ZU)::(nat_lit 274,ZT)::(nat_lit 275,ZR)::(nat_lit 281,ZQ)::(nat_lit 282,ZP)::(nat_lit 288,ZO)::(nat_lit 289,ZN)::(nat_lit 295,ZM)::(nat_lit 296,ZL)::(nat_lit 302,ZK)::(nat_lit 303,ZJ)::(nat_lit 309,ZI)::(nat_lit 310,ZH)::(nat_lit 316,ZG)::(nat_lit 317,ZF)::(nat_lit 319,ZE P)::(nat_lit 320,ZD)::(nat_lit 335,ZC)::(nat_lit 336,Zy)::(nat_lit 342,Zx)::(nat_lit 343,Zw)::(nat_lit 349,Zv)::(nat_lit 350,Zu)::(nat_lit 356,Zt)::(nat_lit 357,Zs)::(nat_lit 363,Zr)::(nat_lit 364,Zq)::(nat_lit 370,Zp)::(nat_lit 371,Zn)::(nat_lit 377,Zm)::(nat_lit 378,Zl)::(nat_lit 384,Zk)::(nat_lit 385,Zj)::(nat_lit 391,Zh)::(nat_lit 392,Zg)::(nat_lit 398,Zf)::(nat_lit 399,Ze)::(nat_lit 405,Zc)::(nat_lit 406,YZ)::(nat_lit 408,YY P)::(nat_lit 409,YX)::(nat_lit 424,YW)::(nat_lit 425,YV)::(nat_lit 431,YU)::(nat_lit 432,YT)::(nat_lit 438,YS)::(nat_lit 439,YR)::(nat_lit 445,YQ)::(nat_lit 446,YO)::(nat_lit 452,YN)::(nat_lit 453,YM)::(nat_lit 459,YL)::(nat_lit 460,YK)::(nat_lit 466,YJ)::(nat_lit 467,YI)::(nat_lit 473,YH)::(nat_lit 474,YG)::(nat_lit 476,YF P)::(nat_lit 477,YE)::(nat_lit 492,YD)::(nat_lit 493,YC)::(nat_lit 499,YB)::(nat_lit 500,YA)::(nat_lit 506,Yz)::(nat_lit 507,Yy)::(nat_lit 513,Yx)::(nat_lit 514,Yw)::(nat_lit 520,Yv)::(nat_lit 521,Yu)::(nat_lit 527,Yt)::(nat_lit 528,Ys)::(nat_lit 534,Yr)::(nat_lit 535,Yq)::(nat_lit 541,Yp)::(nat_lit 542,Yo)::(nat_lit 544,Yn P)::(nat_lit 545,Ym)::(nat_lit 553,Yl)::(nat_lit 554,Yk)::(nat_lit 555,Yj P)::(nat_lit 561,Yi)::(nat_lit 562,Yh)::(nat_lit 568,Yg)::(nat_lit 569,Ye)::(nat_lit 575,Yd)::(nat_lit 576,Yc)::(nat_lit 582,Yb)::(nat_lit 583,XZ)::(nat_lit 589,XY)::(nat_lit 590,XX)::(nat_lit 594,XW)::(nat_lit 595,XU)::(nat_lit 601,XS)::(nat_lit 602,XR)::(nat_lit 608,XQ)::(nat_lit 609,XO)::(nat_lit 615,XN)::(nat_lit 616,XM)::(nat_lit 622,XJ)::(nat_lit 623,XI)::(nat_lit 629,XH)::(nat_lit 630,XG)::(nat_lit 636,XF)::(nat_lit 637,XE)::(nat_lit 643,XD)::(nat_lit 644,XC)::(nat_lit 650,XB)::(nat_lit 651,XA)::(nat_lit 657,Xz)::(nat_lit 658,Xy)::(nat_lit 664,Xx)::(nat_lit 665,Xw)::(nat_lit 671,Xv)::(nat_lit 672,Xu)::(nat_lit 678,Xs)::(nat_lit 679,Xr)::(nat_lit 685,Xq)::(nat_lit 686,Xp)::(nat_lit 692,Xo)::(nat_lit 693,Xn)::(nat_lit 697,Xm)::(nat_lit 698,Xl)::(nat_lit 704,Xk)::(nat_lit 705,Xj)::(nat_lit 709,Xi)::(nat_lit 710,Xh)::(nat_lit 714,Xg)::(nat_lit 715,Xf)::(nat_lit 721,Xe)::(nat_lit 722,Xd)::(nat_lit 728,Xc)::(nat_lit 729,Xb)::(nat_lit 733,Xa)::(nat_lit 734,WZ)::(nat_lit 740,WY)::(nat_lit 741,WX)::(nat_lit 747,WW)::(nat_lit 748,WV)::(nat_lit 754,WU)::(nat_lit 755,WT)::(nat_lit 759,WS)::(nat_lit 760,WR)::(nat_lit 764,WQ)::(nat_lit 765,WO)::[]
def KA:List Addr:=[2,3,20,21,30,31,43,44,55,56,67,68,79,80,91,92,98,99,105,106,112,113,119,120,126,127,133,134,140,141,145,146,152,153,159,160,169,170,187,188,194,195,197,198,213,214,220,221,227,228,234,235,237,238,253,254,260,261,267,268,274,275,281,282,288,289,295,296,302,303,309,310,316,317,319,320,335,336,342,343,349,350,356,357,363,364,370,371,377,378,384,385,391,392,398,399,405,406,408,409,424,425,431,432,438,439,445,446,452,453,459,460,466,467,473,474,476,477,492,493,499,500,506,507,513,514,520,521,527,528,534,535,541,542,544,545,553,554,555,561,562,568,569,575,576,582,583,589,590,594,595,601,602,608,609,615,616,622,623,629,630,636,637,643,644,650,651,657,658,664,665,671,672,678,679,685,686,692,693,697,698,704,705,709,710,714,715,721,722,728,729,733,734,740,741,747,748,754,755,759,760,764,765]
def c0t(P:Params):KA=(K P).map (·.1):=by kernel_rfl
def qT:Program:={ pW with main:={ pW.main with body:=[g9 0,g9 2,g9 3,g9 4,g9 5,g9 6,g9 7,g9 9,g9 10,g9 11,g9 13,g9 15,g9 16,g9 17,g9 18,g9 20,g9 21,g9 22,g9 23,g9 24,g9 25,g9 26,g9 27,g9 28,g9 29,g9 30,g9 31,g9 32,g9 34,g9 36,g9 37,g9 38,g9 39,g9 40,g9 41,g9 42,g9 43,g9 45,g9 46,g9 47,g9 48,g9 49,g9 50,g9 51,g9 52,g9 53,g9 54,g9 55,g9 56,g9 57,g9 58,g9 59,g9 60,g9 61,g9 62,g9 63,g9 64,g9 65,g9 66,g9 67,g9 68,g9 69] } }
def recs:=RowW.records (OpenRow.toRowW<|OpenLaw.row PySem.Challenge.rw_weighwalk_k81_what_a_saying_weighs)
abbrev Xt(q:Program)(s:Shared):Bool:=xlAt q [] s && recOk recs s
abbrev FK:Hook:=kHook K KA c0t
def VA(w:World):((boot_heap w.params).isNs mainGlobals && (⟨[]⟩:Array GenState).size == 0,(boot_heap w.params).objs.size,(boot_heap w.params).nsMap mainGlobals "__annotations__")=(true,11,(some<|r 6)):=by trivial
def WG:∀w:World,(fencedOpening treeTable pW w 11542).map (λs=>(s.heap,s.gens,s.drawn,s.toks))=some (boot_heap w.params,⟨[]⟩,boot_drawn,boot_toks):=boot_open (by kernel_rfl) bD (λs=>by trivial)
def b0u(w:World)(os:OsState):(staticsOk (importedModules pW.main.body) (boot_heap w.params) (Hf w.params) && namesBound pW (Hf w.params) && gensDone (Sf w os) && laidKept (boot_heap w.params) (Hf w.params))=true:=by trivial
def b0t(w:World)(os:OsState):openSeen qT [PySem.Str.ofString "WITHIN"] (importedModules pW.main.body) (Xt qT) true (Sf w os)=openGood qT [PySem.Str.ofString "WITHIN"]:=by trivial
def b0s(w:World)(os:OsState):FK.obs (Sf w os)=FK.val w:=by kernel_rfl
def left:LeftO pW qT [PySem.Str.ofString "WITHIN"] (Xt qT) FK.obs FK.val 11542:=LeftO.of_pieces (H₁:=Hf) WG VA run_ bD (λw=>funext λos=>looks_pair (b0u w os)<|looks_pair (b0t w os)<|b0s w os)
def dO:DefRec:=⟨PySem.Str.ofString "law",L2.y9<|g9 69,L2.p9<|g9 69,L2.c5<|g9 69,⟨481,0,502,156⟩⟩
def Uo(nc:(OpenLaw.row PySem.Challenge.rw_weighwalk_k81_what_a_saying_weighs).wellSaid=true)(hw:(OpenLaw.row PySem.Challenge.rw_weighwalk_k81_what_a_saying_weighs).toRowW.promised)(hc:WalkO qT [PySem.Str.ofString "WITHIN"] (XL qT []) (Hook.says FK) (OpenLaw.row PySem.Challenge.rw_weighwalk_k81_what_a_saying_weighs).toRowW dO [] (λf vs=>PySem.call f vs)):(OpenLaw.row PySem.Challenge.rw_weighwalk_k81_what_a_saying_weighs).Holds:=
 holds_open (r:=(OpenLaw.row PySem.Challenge.rw_weighwalk_k81_what_a_saying_weighs)) (q:=qT) (loose:=[PySem.Str.ofString "WITHIN"]) (Xt:=Xt qT) (XP:=XL qT []) (Yf:=FK.obs) (Ya:=FK.val) (YP:=FK.says) (d:=dO) (kwd:=[]) (N:=11542) left FK.of FK.keeps (λs e=>xl_of s (Bool.and_eq_true_iff.mp e).1) XL.keeps (by kernel_rfl) (by kernel_rfl) (by kernel_rfl) (λs e=>recFacts_of (Bool.and_eq_true_iff.mp e).2) (by kernel_rfl) nc (by decide +kernel) ⟨Y,Y,Y,Y,Y,by decide +kernel⟩ hw hc
abbrev fO(n q:String)(s:Stmt)(m c:Value):Obj:=⟨.type SL.s7174869446012820540x8,none,.func<|fnOf (PySem.Str.ofString n) (PySem.Str.ofString q) (L2.y9 s) (L2.p9 s) (L2.c5 s) .none .none .none m none c .none,#[]⟩
def lp P a n j m c(h:(K P).lookup a=some (fO n n (g9 j) m<|r c):=by kernel_rfl):=h
def lc P a n q j k m c(h:(K P).lookup a=some (fO n q (L2.j8 (g9 j) k) m<|r c):=by kernel_rfl):=h
def KR P:=lp P 99 "is_word" 10 m1 98
def HR P:=lp P 106 "need_word" 11 m1 105
def DH P:=lp P 113 "need_closable" 13 m2 112
def Ju P:=lp P 120 "is_whole" 15 m3 119
def KS P:=lp P 127 "divisor" 16 m3 126
def Jw P:=lp P 134 "fraction" 17 m3 133
def Jv P:=lp P 141 "is_prime" 18 m3 140
def Bq P:=lc P 261 "nought" "Fractions.nought" 29 1 m4 260
def DK P:=lc P 268 "one" "Fractions.one" 29 2 m4 267
def CS P:=lc P 275 "plus" "Fractions.plus" 29 3 m4 274
def Cg P:=lc P 282 "times" "Fractions.times" 29 4 m4 281
def Af P:=lc P 303 "is_weight" "Fractions.is_weight" 29 7 m4 302
def AY P:=lc P 336 "__init__" "Residues.__init__" 30 0 m4 335
def Cf P:=lc P 350 "nought" "Residues.nought" 30 2 m4 349
def EE P:=lc P 357 "one" "Residues.one" 30 3 m4 356
def DJ P:=lc P 364 "plus" "Residues.plus" 30 4 m4 363
def CQ P:=lc P 371 "times" "Residues.times" 30 5 m4 370
def Av P:=lc P 392 "is_weight" "Residues.is_weight" 30 8 m4 391
def EF P:=lc P 432 "nought" "Costs.nought" 31 1 m4 431
def Ic P:=lc P 439 "one" "Costs.one" 31 2 m4 438
def Gy P:=lc P 446 "plus" "Costs.plus" 31 3 m4 445
def FG P:=lc P 453 "times" "Costs.times" 31 4 m4 452
def Ci P:=lc P 460 "is_weight" "Costs.is_weight" 31 5 m4 459
def DI P:=lc P 500 "nought" "Truths.nought" 32 1 m4 499
def Gx P:=lc P 507 "one" "Truths.one" 32 2 m4 506
def FF P:=lc P 514 "plus" "Truths.plus" 32 3 m4 513
def ED P:=lc P 521 "times" "Truths.times" 32 4 m4 520
def Bp P:=lc P 528 "is_weight" "Truths.is_weight" 32 5 m4 527
def MJ P:=lp P 554 "answer" 34 m5 553
def CO P:=lp P 562 "sayings_within" 37 m6 561
def Gq P:=lp P 569 "cut_weight" 38 m6 568
def Fy P:=lp P 576 "star_weight" 39 m6 575
def Ez P:=lp P 583 "star_weigher" 40 m6 582
def Ey P:=lp P 590 "then_weigher" 41 m6 589
def KQ P:=lp P 595 "weigher" 42 m6 594
def Fz P:=lp P 602 "said_weight" 43 m6 601
def HZ P:=lp P 609 "_law_next" 45 m7 608
def Gu P:=lp P 616 "_law_state" 46 m7 615
def EC P:=lp P 623 "_law_divisor" 47 m7 622
def Jy P:=lp P 630 "_law_low" 48 m7 629
def HY P:=lp P 637 "_law_plus" 49 m7 636
def Gs P:=lp P 644 "_law_times" 50 m7 643
def FD P:=lp P 651 "_law_nought" 51 m7 650
def Jx P:=lp P 658 "_law_one" 52 m7 657
def HW P:=lp P 665 "_law_sort" 53 m7 664
def Ib P:=lp P 672 "_law_kind" 54 m7 671
def FA P:=lp P 679 "_law_weight" 55 m7 678
def HU P:=lp P 686 "_law_then" 56 m7 685
def HV P:=lp P 693 "_law_star" 57 m7 692
def EA P:=lp P 698 "_law_weights" 58 m7 697
def Gv P:=lp P 705 "_law_empty" 59 m7 704
def Gr P:=lp P 710 "_law_words" 60 m7 709
def EB P:=lp P 715 "_law_letters" 61 m7 714
def HS P:=lp P 722 "_law_word" 62 m7 721
def FB P:=lp P 729 "_law_saying" 63 m7 728
def CP P:=lp P 734 "_law_open_star" 64 m7 733
def Gw P:=lp P 741 "_law_asked" 65 m7 740
def HX P:=lp P 748 "_law_said" 66 m7 747
def FC P:=lp P 755 "_law_pieces" 67 m7 754
def Ia P:=lp P 760 "_law_long" 68 m7 759
def Uc P:=lp P 765 "law" 69 m7 764
end
end H81
end
namespace L2
open PySem PySem.Spec PyProof.Rows
abbrev E5:=Sum Int Str
def GR:E5->Value->Bool
 | .inl k,v=>Value.isInt k v
 | .inr x,v=>Value.isStrOf x v
def keyH(w:World):E5->Int
 | .inl k=>hashInt k
 | .inr x=>hashStr w x
def C3:∀{k:E5} {v:Value},GR k v=true->(∃i t,k=Sum.inl i/\v=Value.int i t)\/(∃x t,k=Sum.inr x/\v=Value.str x t)
 | .inl i,v,h=>by
  obtain⟨t,e⟩:=Value.isInt_shape (k:=i) (v:=v) h;exact .inl ⟨i,t,Y,e⟩
 | .inr x,v,h=>by
  obtain⟨t,e⟩:=Value.isStrOf_shape (x:=x) (v:=v) h;exact .inr ⟨x,t,Y,e⟩
def MO(i:Int)(t:Tok):GR (.inl i) (.int i t)=true:=by simp[GR,Value.isInt]
def MN(x:Str)(t:Tok):GR (.inr x) (.str x t)=true:=by simp[GR,Value.isStrOf]
def Ui(a b:Int):decide ((Sum.inl a:E5)=Sum.inl b)=(a == b):=by
 by_cases e:a=b
 . subst e;simp
 . have h:¬(Sum.inl a:E5)=Sum.inl b:=λq=>e<|Sum.inl.inj q;rw[decide_eq_false h];exact(beq_eq_false_iff_ne.mpr e).symm
def Ue(a b:Str):decide ((Sum.inr a:E5)=Sum.inr b)=decide (a=b):=by
 by_cases e:a=b
 . subst e;simp
 . have h:¬(Sum.inr a:E5)=Sum.inr b:=λq=>e<|Sum.inr.inj q;rw[decide_eq_false h,decide_eq_false e]
def Uh(a:Int)(b:Str):decide ((Sum.inl a:E5)=Sum.inr b)=false:=decide_eq_false (λq=>nomatch q)
def Ug(a:Str)(b:Int):decide ((Sum.inr a:E5)=Sum.inl b)=false:=decide_eq_false (λq=>nomatch q)
def B6(prog:Program)(w:World):PySem.KeyKind prog w E5 where
 is:=GR
 hash:=keyH w
 inj:=λv a b ha hb=>by
  rcases C3 ha with ⟨i,t,rfl,rfl⟩ | ⟨x,t,rfl,rfl⟩
  . rcases C3 hb with ⟨j,u,rfl,e⟩ | ⟨y,u,rfl,e⟩
    . injection e with e1 _;rw[e1]
    . exact nomatch e
  . rcases C3 hb with ⟨j,u,rfl,e⟩ | ⟨y,u,rfl,e⟩
    . exact nomatch e
    . injection e with e1 _;rw[e1]
 byValue:=λk v h=>by
  rcases C3 h with ⟨i,t,rfl,rfl⟩ | ⟨x,t,rfl,rfl⟩ <;>rfl
 pyHash:=λhv h=>by
  rcases C3 hv with ⟨i,t,rfl,rfl⟩ | ⟨x,t,rfl,rfl⟩
  . exact wpAny_pyHash_int h
  . exact wpAny_pyHash_str h
 eqBool:=λhu hv h=>by
  rcases C3 hu with ⟨i,t,rfl,rfl⟩ | ⟨x,t,rfl,rfl⟩
  . rcases C3 hv with ⟨j,u,rfl,rfl⟩ | ⟨y,u,rfl,rfl⟩
    . rw[Ui]at h;exact wpAny_eqBool_int h
    . rw[Uh]at h;exact SeqAt.EqAt.int_str i t y u _ _ _ _ h
  . rcases C3 hv with ⟨j,u,rfl,rfl⟩ | ⟨y,u,rfl,rfl⟩
    . rw[Ug]at h;exact SeqAt.EqAt.str_int x t j u _ _ _ _ h
    . rw[Ue]at h;exact wpAny_eqBool_str h
 «strs»:=λk x t v h=>by
  rcases C3 h with ⟨i,u,rfl,e⟩ | ⟨y,u,rfl,e⟩
  . exact nomatch e
  . injection e with e1 _;subst e1;cases v <;>rfl
def Js(prog:Program)(w:World)(i:Int)(t:Tok):(B6 prog w).is (.inl i) (.int i t)=true:=MO i t
def AX(prog:Program)(w:World)(x:Str)(t:Tok):(B6 prog w).is (.inr x) (.str x t)=true:=MN x t
inductive V where
 | non | bl (b:Bool) | int (i:Int) | str (x:Str) | byt (b:Array UInt8) | flt (b:UInt64) | ref (a:Addr) | ty (n:String)
 deriving DecidableEq
def p6:V->Value->Prop
 | .non,u=>u=Value.none
 | .bl b,u=>u=Value.bool b
 | .int i,u=>∃t,u=Value.int i t
 | .str x,u=>∃t,u=Value.str x t
 | .byt b,u=>∃t,u=Value.bytes b t
 | .flt b,u=>∃t,u=Value.float b t
 | .ref a,u=>u=Value.ref a
 | .ty n,u=>u=Value.type n
abbrev o8:List V->List Value->Prop:=Paired p6
theorem o8.length{xs:List V}{us:w0i}(r:o8 xs us):xs.length=us.length:=Paired.length r
theorem o8.get:∀{xs:List V} {us:w0i} {i:Nat} {x:V},o8 xs us->xs[i]? = some x->∃u,us[i]? = some u/\p6 x u
 | _,_,_,_,.nil,e=>by simp at e
 | _,_,0,_,.cons r _,e=>by simp at e;subst e;exact⟨_,Y,r⟩
 | _,_,i+1,x,.cons _ t,e=>by
  obtain⟨u,h1,h2⟩:=o8.get (i:=i) (x:=x) t (by simpa using e);exact⟨u,by simpa using h1,h2⟩
theorem o8.set{x:V}{u:Value}(r:p6 x u):∀{xs:List V} {us:w0i} (i:Nat),o8 xs us->o8 (xs.set i x) (us.set i u)
 | _,_,_,.nil=>.nil
 | _,_,0,.cons _ t=>.cons r t
 | _,_,i+1,.cons q t=>.cons q (o8.set r i t)
theorem o8.append:∀{xs ys:List V} {us ws:w0i},o8 xs us->o8 ys ws->o8 (xs++ys) (us++ws)
 | _,_,_,_,.nil,s=>s
 | _,_,_,_,.cons r t,s=>.cons r (o8.append t s)
theorem o8.take:∀{xs:List V} {us:w0i} (n:Nat),o8 xs us->o8 (xs.take n) (us.take n)
 | _,_,0,_=>.nil
 | _,_,_+1,.nil=>.nil
 | _,_,n+1,.cons r t=>.cons r (o8.take n t)
theorem o8.drop:∀{xs:List V} {us:w0i} (n:Nat),o8 xs us->o8 (xs.drop n) (us.drop n)
 | _,_,0,r=>r
 | _,_,_+1,.nil=>.nil
 | _,_,n+1,.cons _ t=>o8.drop n t
def Al:Option V->Option Value->Prop
 | some v,some u=>p6 v u
 | none,none=>True
 | _,_=>False
def KV{κ:Type}:List (κ × V)->List (κ × Value)->Prop:=Paired λ(p:κ × V) (q:κ × Value)=>p.1=q.1/\p6 p.2 q.2
def kV:E5->V
 | .inl i=>.int i
 | .inr x=>.str x
inductive HO where
 | lst (xs:List V)
 | tup (xs:List V)
 | dK (bY:List (E5 × V)) | dT (bY:List (List E5 × V))
 | set (S:Int->Bool) (n:Nat)
 | ins (C dx:Addr) (fs:List (Str × V))
 | own (x:Addr)
 | xd (fs:List (Str × V))
 | met (f x:Addr)
 | rng (lo hi:Int)
 | frz (o:Obj) (u:HO)
 | tbl (ps:Array Value)
 | ext (φ:Heap->Prop)
abbrev Z:=Addr->Option HO
def upd(H:Z)(a:Addr)(o:HO):Z:=λb=>if b=a then some o else H b
def c8{H:Z}{a:Addr}{o:HO}:upd H a o a=some o:=by unfold upd;rw[if_pos rfl]
def k9{H:Z}{a b:Addr}{o:HO}(h:b≠a):upd H a o b=H b:=by unfold upd;rw[if_neg h]
def Pt{H:Z}{a:Addr}{o u:HO}:upd (upd H a o) a u=upd H a u:=by
 funext b;unfold upd;split <;>rfl
def Ee{H:Z}{a b:Addr}{o u:HO}(h:H a=some o)(h':H b=some u)(d:o≠u):a≠b:=by intro e;subst e;rw[h]at h';exact d (Option.some.inj h')
def l9{H:Z}{a b:Addr}{o:HO}(h:H a=some o)(h':H b=none):a≠b:=by intro e;subst e;rw[h]at h';cases h'
section
variable(P:Program)(w:World)
def D4(H:Z)(h:Heap)(a:Addr):HO->Prop
 | .lst xs=>xs.length<=sizeLine/\∃(di:w0i) (n:Nat),o8 xs di/\h.get? a=some { cls:=.type "list",data:=.seq di.toArray n }
 | .tup xs=>xs.length<=sizeLine/\∃di:w0i,o8 xs di/\IsTup h a di.toArray/\((∀i y,xs≠[.int i,y])->∃o,h.get? a=some o/\o.dict=none)
 | .dK bY=>bY.length<=sizeLine/\(a == sysModules)=false/\∃vs,KV bY vs/\h.DictOf (B6 P w) a vs
 | .dT bY=>bY.length<=sizeLine/\(a == sysModules)=false/\∃xs:List (List E5 × Addr × Value),
     Paired (λ(p:List E5 × V) (q:List E5 × Addr × Value)=>p.1=q.1/\H q.2.1=some (.tup<|p.1.map kV)/\p6 p.2 q.2.2) bY xs/\
     ∃o es ep,h.get? a=some o/\o.ExactDict/\o.data=.dict es ep/\es.toList=xs.map (entryOfKey<|tupleKind<|B6 P w)/\(xs.map (·.1)).Nodup
 | .set S n=>h.SetOf (intKind P w) a S n
 | .ins C dx fs=>H dx=some (.own a)/\fs.length<=1000/\dx≠a/\h.get? a=some (PySem.W.instObj C dx)/\
     ∃mA,h.Ns1 dx mA/\(∀f,Al (fs.lookup f)<|mA f)/\PySem.Within mA (fs.map (·.1))
 | .own _=>∃o,h.get? a=some o
 | .xd fs=>∃mA,h.Ns1 a mA/\∀f,Al (fs.lookup f) (mA f)
 | .rng lo hi=>∃t u v,h.get? a=some { cls:=.type "range",data:=.fields #[.int lo t,.int hi u,.int 1 v] }
 | .frz o u=>h.get? a=some o/\D4 H h a u
 | .tbl ps=>h.get? a=some { cls:=.none,data:=.fields ps }
 | .met f x=>h.get? a=some (PySem.W.methodObj (.ref f)<|.ref x)
 | .ext φ=>φ h/\(∃o,h.get? a=some o)/\∀h1 h2:Heap,φ h1->(∀o,h1.get? a=some o->h2.get? a=some o)->φ h2
def R6(H:Z)(h:Heap):Prop:=∀a o,H a=some o->D4 P w H h a o
end
section
variable{P:Program}{w:World}{H H':Z}{h h':Heap}{a:Addr}{o:HO}
theorem D4.lt(x:D4 P w H h a o):a < h.objs.size:=by
 cases o with
 | lst xs=>obtain⟨_,_,_,_,e⟩:=x;exact ag e
 | tup xs=>obtain⟨_,_,_,p,_⟩:=x;exact p.lt
 | dK bY=>obtain⟨_,_,_,_,o,_,_,e,_⟩:=x;exact ag e
 | dT bY=>obtain⟨_,_,_,_,o,_,_,e,_⟩:=x;exact ag e
 | set S n=>obtain⟨o,_,_,_,e,_⟩:=x;exact ag e
 | ins C dx fs=>obtain⟨_,_,_,e,_⟩:=x;exact ag e
 | own y=>obtain⟨_,e⟩:=x;exact ag e
 | xd fs=>obtain⟨_,⟨_,_,_,e,_⟩,_⟩:=x;exact ag e
 | rng lo hi=>obtain⟨_,_,_,e⟩:=x;exact ag e
 | frz ob u=>obtain⟨e,_⟩:=x;exact ag e
 | tbl ps=>exact ag (show h.get? a=some _ from x)
 | met f y=>exact ag (show h.get? a=some _ from x)
 | ext φ=>obtain⟨_,⟨_,e⟩,_⟩:=x;exact ag e
theorem Paired.mapP{α β:Type}{F G:α->β->Prop}:∀{l₁:List α} {l₂:List β},Paired F l₁ l₂->(∀a b,F a b->G a b)->Paired G l₁ l₂
 | _,_,.nil,_=>.nil
 | _,_,.cons r t,f=>.cons (f _ _ r) (Paired.mapP t f)
def D4.stay(x:D4 P w H h a o)(k:∀b u,(b=a\/H b=some (.own a))->h.get? b=some u->h'.get? b=some u)
    (ho:∀b,H b=some (.own a)->H' b=some (.own a)) (ht:∀b xs,H b=some (.tup xs)->H' b=some (.tup xs)):D4 P w H' h' a o:=by
 induction o with
 | lst xs=>obtain⟨z,di,n,r,e⟩:=x;exact⟨z,di,n,r,k _ _ (.inl Y) e⟩
 | tup xs=>obtain⟨z,di,r,⟨ob,e,c⟩,d⟩:=x;exact⟨z,di,r,⟨ob,k _ _ (.inl Y) e,c⟩,λnx=>let⟨o,e2,d2⟩:=d nx;⟨o,k _ _ (.inl Y) e2,d2⟩⟩
 | dK bY=>obtain⟨z,y,vs,r,ob,es,ep,e,c⟩:=x;exact⟨z,y,vs,r,ob,es,ep,k _ _ (.inl Y) e,c⟩
 | dT bY=>
  obtain⟨z,y,xs,r,ob,es,ep,e,c⟩:=x;exact⟨z,y,xs,Paired.mapP r λp q z=>⟨z.1,ht _ _ z.2.1,z.2.2⟩,ob,es,ep,k _ _ (.inl Y) e,c⟩
 | set S n=>obtain⟨ob,es,ep,t,e,c⟩:=x;exact⟨ob,es,ep,t,k _ _ (.inl Y) e,c⟩
 | ins C dx fs=>
  obtain⟨d,z,ne,e,mA,⟨od,es,ep,e2,c⟩,r⟩:=x;exact⟨ho _ d,z,ne,k _ _ (.inl Y) e,mA,⟨od,es,ep,k _ _ (.inr d) e2,c⟩,r⟩
 | own y=>obtain⟨ob,e⟩:=x;exact⟨ob,k _ _ (.inl Y) e⟩
 | xd fs=>obtain⟨mA,⟨od,es,ep,e,c⟩,r⟩:=x;exact⟨mA,⟨od,es,ep,k _ _ (.inl Y) e,c⟩,r⟩
 | rng lo hi=>obtain⟨t,u,v,e⟩:=x;exact⟨t,u,v,k _ _ (.inl Y) e⟩
 | frz ob u ih=>obtain⟨e,q⟩:=x;exact⟨k _ _ (.inl Y) e,ih q⟩
 | tbl ps=>
  have e:h.get? a=some { cls:=.none,data:=.fields ps }:=x;show h'.get? a=some { cls:=.none,data:=.fields ps };exact k a _ (.inl Y) e
 | met f y=>
  have e:h.get? a=some (PySem.W.methodObj (.ref f)<|.ref y):=x;show h'.get? a=some (PySem.W.methodObj (.ref f)<|.ref y);exact k a _ (.inl Y) e
 | ext φ=>obtain⟨p,⟨o,e⟩,st⟩:=x;exact⟨st _ _ p λo q=>k _ _ (.inl Y) q,⟨o,k _ _ (.inl Y) e⟩,st⟩
theorem R6.lt(x:R6 P w H h)(e:H a=some o):a < h.objs.size:=(x a o e).lt
def R6.fresh(x:R6 P w H h)(e:h.objs.size<=a):H a=none:=by
 cases q:H a with
 | none=>rfl
 | some u=>exact absurd (ay (x.lt q) e) (aL _)
def R6.kept(x:R6 P w H h)(k:∀b u,h.get? b=some u->h'.get? b=some u):R6 P w H h':=λa o e=>
 (x a o e).stay (λb u _ q=>k b u q) (λ_ q=>q) λ_ _ q=>q
def R6.laid(x:R6 P w H h)(k:∀b u,h.get? b=some u->h'.get? b=some u)(hp:h.objs.size<=a)(new:D4 P w (upd H a o) h' a o):R6 P w (upd H a o) h':=λb u e=>by
 have hn:=x.fresh hp;by_cases hb:b=a
 . subst hb;rw[c8]at e;cases e;exact new
 . rw[k9 hb]at e;exact(x b u e).stay (λc v _ q=>k c v q) (λc q=>by rw[k9<|l9 q hn];exact q) λc xs q=>by rw[k9<|l9 q hn];exact q
end
def Rd(H:Z)(a:Addr)(u:HO):Prop:=H a=some u\/∃o,H a=some (.frz o u)
def Rd.of{H:Z}{a:Addr}{u:HO}(h:H a=some u):Rd H a u:=.inl h
def Rd.ok{P:Program}{w:World}{H:Z}{h:Heap}{a:Addr}{u:HO}(r:Rd H a u)(x:R6 P w H h):D4 P w H h a u:=by
 rcases r with r | ⟨o,r⟩
 . exact x a u r
 . obtain⟨_,q⟩:=x a _ r;exact q
def c0s:Option HO->Prop
 | some (.lst _)=>True
 | some (.dK _)=>True
 | some (.dT _)=>True
 | some (.set _ _)=>True
 | some (.ins _ _ _)=>True
 | some (.ext _)=>True
 | _=>False
section
variable{P:Program}{w:World}{H:Z}{h h':Heap}{x e:Addr}{o':HO}
def R6.write(ok:R6 P w H h)(mu:c0s (H x))(he:e=x\/H e=some (.own x))(k:∀b u,b≠e->h.get? b=some u->h'.get? b=some u)(jE:∃u,h'.get? e=some u)
    (new:D4 P w (upd H x o') h' x o'):R6 P w (upd H x o') h':=λb u q=>by
 have jS:∀c y,H c=some (.own y)->c≠x:=λc y r z=>by subst z;rw[r]at mu;exact mu
 have nE:∀c xs,H c=some (.tup xs)->c≠x:=λc xs r z=>by subst z;rw[r]at mu;exact mu
 by_cases hb:b=x
 . subst hb;rw[c8]at q;cases q;exact new
 . rw[k9 hb]at q;by_cases hbe:b=e
   . have q':H b=some (.own x):=by
      rcases he with z | z
      . exact absurd (hbe.trans z) hb
      . rw[hbe];exact z
     rw[q]at q';cases q';obtain⟨v,hv⟩:=jE;exact⟨v,by rw[hbe];exact hv⟩
   . show(ok b u q).stay (λc v hc r=>k c v ?_ r) (λc r=>by rw[k9<|jS c b r];exact r) λc xs r=>by rw[k9<|nE c xs r];exact r
     rcases hc with rfl | hc
     . exact hbe
     . rintro rfl;rcases he with z | z
       . exact jS c b hc z
       . rw[hc]at z;cases z;exact hb rfl
end
structure Un(fs ex:List Addr)(H H':Z)(h h':Heap):Prop where
 keep:∀b o,h.get? b=some o->H b=none->b ∉ fs->b ∉ ex->h'.get? b=some o
 slot:∀b o,h.get? b=some o->H b=none->b∈fs->b ∉ ex->∃sl,h'.get? b=some { o with slots:=sl }
 free:∀b o,h.get? b=some o->H b=none->b ∉ ex->H' b=none
 there:∀b o,h.get? b=some o->b ∉ ex->∃o',h'.get? b=some o'
 tups:∀b xs,H b=some (.tup xs)->H' b=some (.tup xs)
 frzs:∀b o u,H b=some (.frz o u)->H' b=some (.frz o u)
 tbls:∀b ps,H b=some (.tbl ps)->∃more,H' b=some (.tbl<|ps++more)
section
variable{fs oX ex rJ:List Addr}{H H1 H2:Z}{h h1 h2 h':Heap}{a x e:Addr}{o:HO}
def Un.any(u:Un fs ex H H1 h h1){b:Addr}{ob:Obj}(q:h.get? b=some ob)(n:H b=none)(hx:b ∉ ex):∃sl,h1.get? b=some { ob with slots:=sl }:=by
 by_cases hb:b∈fs
 . exact u.slot b ob q n hb hx
 . exact⟨ob.slots,u.keep b ob q n hb hx⟩
def Un.trans(a:Un fs ex H H1 h h1)(b:Un fs ex H1 H2 h1 h2):Un fs ex H H2 h h2 where
 keep:=λc ob q n hc hx=>b.keep c ob (a.keep c ob q n hc hx) (a.free c ob q n hx) hc hx
 slot:=λc ob q n hc hx=>by
  obtain⟨sl,e1⟩:=a.slot c ob q n hc hx;obtain⟨iM,e2⟩:=b.slot c _ e1 (a.free c ob q n hx) hc hx;exact⟨iM,e2⟩
 free:=λc ob q n hx=>by
  obtain⟨o',e1⟩:=a.there c ob q hx;exact b.free c o' e1 (a.free c ob q n hx) hx
 there:=λc ob q hx=>by
  obtain⟨o',e1⟩:=a.there c ob q hx;exact b.there c o' e1 hx
 tups:=λc xs q=>b.tups c xs (a.tups c xs q)
 frzs:=λc ob xs q=>b.frzs c ob xs (a.frzs c ob xs q)
 tbls:=λc ps q=>by
  obtain⟨m1,e1⟩:=a.tbls c ps q;obtain⟨m2,e2⟩:=b.tbls c _ e1;exact⟨m1++m2,by rw[e2,Array.append_assoc]⟩
def Un.kept(k:∀b u,h.get? b=some u->h'.get? b=some u):Un fs ex H H h h':=
 ⟨λb ob q _ _ _=>k b ob q,λb ob q _ _ _=>⟨ob.slots,k b ob q⟩,λ_ _ _ n _=>n,λb ob q _=>⟨ob,k b ob q⟩,λ_ _ q=>q,λ_ _ _ q=>q,λ_ ps q=>⟨#[],by rw[q];simp⟩⟩
def Un.refl:Un fs ex H H h h:=Un.kept λ_ _ q=>q
def Un.laid(k:∀b u,h.get? b=some u->h'.get? b=some u)(hp:h.objs.size<=a)(hn:H a=none):Un fs ex H (upd H a o) h h' where
 keep:=λb u q _ _ _=>k b u q
 slot:=λb u q _ _ _=>⟨u.slots,k b u q⟩
 free:=λb u q n _=>by rw[k9<|au<|ay (ag q) hp];exact n
 there:=λb u q _=>⟨u,k b u q⟩
 tups:=λb xs q=>by rw[k9<|l9 q hn];exact q
 frzs:=λb u xs q=>by rw[k9<|l9 q hn];exact q
 tbls:=λb ps q=>⟨#[],by rw[k9<|l9 q hn,q];simp⟩
def Un.write(mu:c0s (H x))(he:e=x\/H e=some (.own x))(k:∀b u,b≠e->h.get? b=some u->h'.get? b=some u)(jE:∃u,h'.get? e=some u):Un fs ex H (upd H x o) h h':=by
 have hx:∀b,H b=none->b≠x:=λb n z=>by subst z;rw[n]at mu;exact mu
 have hb:∀b,H b=none->b≠e:=λb n z=>by
  subst z;rcases he with r | r
  . exact hx b n r
  . rw[n]at r;cases r
 have hm:∀b u,H b=some u->¬c0s (some u)->b≠x:=λb u q nm z=>by subst z;rw[q]at mu;exact nm mu
 show⟨λb u q n _ _=>k b u (hb b n) q,λb u q n _ _=>⟨u.slots,k b u (hb b n) q⟩,λb u q n _=>by rw[k9<|hx b n];exact n,λb u q _=>?_,
  λb xs q=>by rw[k9<|hm b _ q λz=>z];exact q,λb u xs q=>by rw[k9<|hm b _ q λz=>z];exact q,λb ps q=>⟨#[],by rw[k9<|hm b _ q λz=>z,q];simp⟩⟩
 by_cases hbe:b=e
 . subst hbe;exact jE
 . exact⟨u,k b u hbe q⟩
def Un.mono(u:Un fs ex H H1 h h1)(hs:∀b∈fs,b∈oX)(hx:∀b∈ex,b∈rJ):Un oX rJ H H1 h h1:=
 ⟨λb ob q n hb he=>u.keep b ob q n (λz=>hb<|hs b z) λz=>he<|hx b z,λ_ _ q n _ he=>u.any q n λz=>he<|hx _ z,λb ob q n he=>u.free b ob q n λz=>he<|hx b z,λb ob q he=>u.there b ob q λz=>he<|hx b z,u.tups,u.frzs,u.tbls⟩
end
def QY(h:Heap)(H:Z):List Addr:=(List.range h.objs.size).filter λa=>(H a).isSome
def Gz(h:Heap)(H:Z):Heap:=PySem.W.hideAll h (QY h H)
def MV(h:Heap)(H:Z):(Gz h H).objs.size=h.objs.size:=PySem.W.hideAll_size _ _
def OJ{h:Heap}{H:Z}{b:Addr}{o:Obj}(e:h.get? b=some o)(n:H b=none):(Gz h H).get? b=some o:=
 bW _ e λhm=>by
  have q:(H b).isSome=true:=(bT.mp hm).2;rw[n]at q;simp at q
def Qk{h:Heap}{H:Z}{b:Addr}{o:Obj}(e:(Gz h H).get? b=some o):h.get? b=some o/\H b=none:=by
 have e':h.get? b=some o:=cP (QY h H) e;show⟨e',?_⟩;cases q:H b with
 | none=>rfl
 | some x=>
  have hm:b∈QY h H:=bT.mpr ⟨bU.mpr<|ag e',by simp[q]⟩;have z:(Gz h H).get? b=none:=bj (QY h H) hm;rw[z]at e;cases e
def QR(g h:Heap)(L:Addr):w0d:=(List.range h.objs.size).filterMap λa=>if a=L\/(g.get? a).isSome=true then none else(h.get? a).map λo=>(a,o)
def CA(g h:Heap)(L d:Addr):w0d:=(QR g h L).filter λp=>decide (p.1≠d)
structure Mod(K:aa)(mg:w0f)(base:Heap):Prop where
 kin:K.In base
 glob:base.Ns mainGlobals mg
 blt:∃mb,base.Ns builtinsNs mb/\∀x:Str,x≠"__name__"->mb x=bootBuiltins x
 nolimit:base.NoLimit
 seer:base.NoSeer
set_option genInjectivity false in
set_option genSizeOfSpec false in
structure Cx where
 prog:Program
 w:World
 K:aa
 mg:w0f
 base:Heap
 A:Around
 N:w0h
 s₀:Shared
 H₀:Z
 env:Env
 outer:List Env
 stack:List Env
 ex:List Addr
 fn:Str->Bool
 calm:Bool
 pn:w0d
 xe:w0e
def C9(l:List Env):List Addr:=l.filterMap (·.frame)
abbrev Cx.fs(X:Cx):List Addr:=C9 X.outer
def Vis(sc:Scope)(x:Str):Prop:=sc.names.lookup x=some .local\/sc.names.lookup x=some .cell\/sc.names.lookup x=some .free
def Rv(sc:Scope)(x:Str):Prop:=sc.names.lookup x=some .local\/sc.names.lookup x=some .cell
def Look(env:Env)(h:Heap)(m:w0f)(x:Str)(u:Value):Prop:=
 (env.kindOf x=some .local/\m x=some u)\/((env.kindOf x=some .cell\/env.kindOf x=some .free)/\∃c,env.cells.lookup x=some c/\h.IsCell c (some u))
structure Cx.Ok(X:Cx):Prop where
 mod:Mod X.K X.mg X.base
 kind:X.env.scope.kind=.function
 glob:X.env.globals=mainGlobals
 blt:X.env.builtins=builtinsNs
 above:X.s₀.heap.objs.size<=X.env.locals
 inj:∀x y c,X.env.cells.lookup x=some c->X.env.cells.lookup y=some c->x=y
 has:∀x,(X.env.kindOf x=some .cell\/X.env.kindOf x=some .free)->∃c,X.env.cells.lookup x=some c
 cab:∀x c,X.fn x=true->X.env.cells.lookup x=some c->X.s₀.heap.objs.size<=c
 hd:X.calm=true->X.A.handled=none
 frames:X.A.frames=some X.stack
 stk:X.stack=X.outer\/(X.stack=X.env::X.outer/\X.env.frame=some X.env.locals)
 exf:∀b∈X.ex,b≠X.env.locals/\∀x c,X.env.cells.lookup x=some c->c≠b
 bs:∀b o,X.base.get? b=some o->X.s₀.heap.get? b=some o/\X.H₀ b=none
 bsz:X.base.objs.size<=X.s₀.heap.objs.size
 noex:∀b o,X.base.get? b=some o->b ∉ X.ex
 exfs:∀b∈X.ex,b ∉ X.fs
 funs:X.s₀.heap.FunFrames X.base X.outer
 frf:∀b∈X.fs,X.H₀ b=none
structure j9(X:Cx)(aS:w0d)(σ:List (Option V))(H:Z)(s:Shared):Prop where
 ok:X.Ok
 os:s.os=X.s₀.os
 bare:AllBare s.gens
 base:Un X.fs X.ex X.H₀ H X.s₀.heap s.heap
 loc:∃m,s.heap.Ns X.env.locals m/\∀(i:Nat) (x:Str) (v:V),X.N[i]? = some x->σ[i]? = some (some v)->Vis X.env.scope x->∃u,p6 v u/\Look X.env s.heap m x u
 cell:∀x c,X.env.cells.lookup x=some c->∃v,s.heap.IsCell c v
 free:H X.env.locals=none
 freeC:∀x c,X.env.cells.lookup x=some c->H c=none\/(c < X.s₀.heap.objs.size/\∃o,X.H₀ c=some (.frz o<|.own 0))
 pin:∀p∈X.pn++aS,s.heap.get? p.1=some p.2/\H p.1=none/\p.1≠X.env.locals/\p.1 ∉ X.fs/\∀v,p.2.data≠.cell v
 hok:R6 X.prog X.w H s.heap
 len:σ.length=X.N.length
section
variable{X:Cx}{aS:w0d}{σ:List (Option V)}{H H':Z}{s:Shared}{h':Heap}
def j9.freeO(I:j9 X aS σ H s){x:Str}{c:Addr}(hf:X.fn x=true)(e:X.env.cells.lookup x=some c):H c=none:=by
 rcases I.freeC x c e with z | ⟨z,_⟩
 . exact z
 . exact absurd (ay z<|I.ok.cab x c hf e) (aL _)
def j9.cellN(I:j9 X aS σ H s){x:Str}{c:Addr}(e:X.env.cells.lookup x=some c):H c=none\/∃o,H c=some (.frz o<|.own 0):=(I.freeC x c e).imp id λ⟨_,o,q⟩=>⟨o,I.base.frzs _ _ _ q⟩
def Cx.Ok.nofr(ok:X.Ok){b:Addr}{o:Obj}(e:X.base.get? b=some o):b ∉ X.fs:=λhb=>by
 have:=(ok.funs.mem hb).1;rw[e]at this;cases this
theorem j9.bs(I:j9 X aS σ H s):∀b o,X.base.get? b=some o->s.heap.get? b=some o/\H b=none:=λb o e=>
 ⟨I.base.keep b o (I.ok.bs b o e).1 (I.ok.bs b o e).2 (I.ok.nofr e)<|I.ok.noex b o e,I.base.free b o (I.ok.bs b o e).1 (I.ok.bs b o e).2<|I.ok.noex b o e⟩
def j9.bk(I:j9 X aS σ H s):∀b o,X.base.get? b=some o->s.heap.get? b=some o:=λb o e=>(I.bs b o e).1
theorem j9.mod(I:j9 X aS σ H s):Mod X.K X.mg X.base:=I.ok.mod
def j9.kIn(I:j9 X aS σ H s):X.K.In s.heap:=I.ok.mod.kin.keeps I.bk
theorem j9.nolimit(I:j9 X aS σ H s):s.heap.NoLimit:=I.ok.mod.nolimit.keeps I.bk
def j9.fr(I:j9 X aS σ H s):∃m,Fr X.base X.env.locals s.heap m:=
 let⟨m,hn,_⟩:=I.loc
 ⟨m,hn,I.bk,aj I.ok.bsz I.ok.above⟩
theorem j9.lt(I:j9 X aS σ H s):X.env.locals < s.heap.objs.size:=let⟨_,hn,_⟩:=I.loc;hn.lt
def j9.sz(I:j9 X aS σ H s):X.s₀.heap.objs.size<=s.heap.objs.size:=aj I.ok.above (aR I.lt)
def j9.nofs(I:j9 X aS σ H s){a:Addr}(h:s.heap.objs.size<=a):a ∉ X.fs:=λhb=>by
 obtain⟨_,o,ho,_⟩:=I.ok.funs.mem hb;exact absurd (ay (ag ho)<|aj I.sz h) (aL _)
def j9.cne(I:j9 X aS σ H s):∀x c,X.env.cells.lookup x=some c->c≠X.env.locals:=λx c e z=>by
 obtain⟨v,o,ho,hd⟩:=I.cell x c e;obtain⟨m,⟨o',es,ep,ie,eU,_⟩,_⟩:=I.loc;rw[z,ie]at ho;cases ho;rw[eU]at hd;cases hd
theorem j9.funs(I:j9 X aS σ H s):s.heap.FunFrames X.base X.outer:=by
 have all:∀(l:List Env),(∀b∈C9 l,b∈X.fs)->X.s₀.heap.FunFrames X.base l->s.heap.FunFrames X.base l:=by
  intro l
  induction l with
  | nil=>intro _ _;trivial
  | cons env r ih=>
   intro hs hl;obtain⟨hk,⟨L,o,hf,hn,ho,hd⟩,hr⟩:=hl;have hL:L∈X.fs:=hs L (by unfold C9;rw[bw,hf];exact ax);obtain⟨sl,e⟩:=I.base.slot L o ho (I.ok.frf L hL) hL λz=>I.ok.exfs L z hL;exact⟨hk,⟨L,_,hf,hn,e,hd⟩,ih (λb hb=>hs b<|by unfold C9;rw[bw,hf];exact aq _ hb) hr⟩
 exact all X.outer (λ_ hb=>hb) I.ok.funs
theorem j9.stack(I:j9 X aS σ H s):s.heap.FunFrames X.base X.stack:=by
 rcases I.ok.stk with e | ⟨e,hf⟩
 . rw[e];exact I.funs
 . rw[e];obtain⟨m,hn,_⟩:=I.loc;show .cons (by rw[I.ok.kind];decide) hf hn ?_ I.funs;exact Heap.get?_none_of_le (aj I.ok.bsz I.ok.above)
def j9.stkSub(I:j9 X aS σ H s):∀b∈C9 X.stack,b∈X.env.locals::X.fs:=λb hb=>by
 rcases I.ok.stk with e | ⟨e,hf⟩
 . rw[e]at hb;exact aq _ hb
 . rw[e]at hb;unfold C9 at hb;rw[bw,hf]at hb;exact hb
def j9.stkFree(I:j9 X aS σ H s):∀b∈C9 X.stack,H b=none:=λb hb=>by
 rcases ah.mp (I.stkSub b hb)with e | hb
 . rw[e];exact I.free
 . obtain⟨_,o,ho,_⟩:=I.ok.funs.mem hb;exact I.base.free b o ho (I.ok.frf b hb) λz=>I.ok.exfs b z hb
def j9.step{g':Array GenState}{t':Nat}{d':Drawn}{ch:List Addr}(I:j9 X aS σ H s)
    (gO:∀b∈ch,(b∈X.ex\/X.s₀.heap.objs.size<=b)/\b≠X.env.locals/\(∀x c,X.env.cells.lookup x=some c->c≠b)/\∀p∈X.pn++aS,p.1≠b)
    (keep:∀b o,b≠X.env.locals->b ∉ X.fs->b ∉ ch->s.heap.get? b=some o->H b=none->h'.get? b=some o)
    (slot:∀b o,b≠X.env.locals->b∈X.fs->b ∉ ch->s.heap.get? b=some o->H b=none->∃sl,h'.get? b=some { o with slots:=sl }) (free:∀b o,b ∉ ch->s.heap.get? b=some o->H b=none->H' b=none)
    (there:∀b o,b ∉ ch->s.heap.get? b=some o->∃o',h'.get? b=some o')
    (tups:∀b xs,H b=some (.tup xs)->H' b=some (.tup xs)) (frzs:∀b o u,H b=some (.frz o u)->H' b=some (.frz o u)) (tbls:∀b ps,H b=some (.tbl ps)->∃more,H' b=some (.tbl<|ps++more))
    (ns:∀m,s.heap.Ns X.env.locals m->h'.Ns X.env.locals m) (hok:R6 X.prog X.w H' h') (hg:AllBare g') :
    j9 X aS σ H' { s with heap:=h',gens:=g',drawn:=d',toks:=t' }:=by
 have lG:∀b o,X.s₀.heap.get? b=some o->b≠X.env.locals:=λb o e=>au<|ay (ag e) I.ok.above;have fB:∀b o,X.s₀.heap.get? b=some o->b ∉ X.ex->b ∉ ch:=λb o e hx hb=>by
  rcases(gO b hb).1 with z | z
  . exact hx z
  . exact absurd (ay (ag e) z) (aL _)
 have iI:∀x c,X.env.cells.lookup x=some c->∀v,s.heap.IsCell c v->h'.IsCell c v:=λx c e v ⟨o,ho,hd⟩=>by
  have jW:c ∉ ch:=λz=>(gO c z).2.2.1 x c e rfl;rcases I.cellN e with fc | ⟨o',fo⟩
  . by_cases hc:c∈X.fs
    . obtain⟨sl,q⟩:=slot c o (I.cne x c e) hc jW ho fc;exact⟨_,q,hd⟩
    . exact⟨o,keep c o (I.cne x c e) hc jW ho fc,hd⟩
  . have e1:=(I.hok c _ fo).1;rw[ho]at e1;cases e1;exact⟨o,(hok c _<|frzs c _ _ fo).1,hd⟩
 show⟨I.ok,I.os,hg,⟨λb o e n hb hx=>?_,λb o e n hb hx=>?_,λb o e n hx=>?_,λb o e hx=>?_,λb xs e=>tups b xs<|I.base.tups b xs e,λb o xs e=>frzs b o xs<|I.base.frzs b o xs e,λb ps e=>?_⟩,?_,λx c e=>?_,?_,λx c e=>?_,λp hp=>?_,hok,I.len⟩
 . exact keep b o (lG b o e) hb (fB b o e hx) (I.base.keep b o e n hb hx) (I.base.free b o e n hx)
 . obtain⟨sl,e1⟩:=I.base.slot b o e n hb hx;obtain⟨iM,e2⟩:=slot b _ (lG b o e) hb (fB b o e hx) e1<|I.base.free b o e n hx;exact⟨iM,e2⟩
 . obtain⟨o',e1⟩:=I.base.there b o e hx;exact free b o' (fB b o e hx) e1 (I.base.free b o e n hx)
 . obtain⟨o',e1⟩:=I.base.there b o e hx;exact there b o' (fB b o e hx) e1
 . obtain⟨m1,e1⟩:=I.base.tbls b ps e;obtain⟨m2,e2⟩:=tbls b _ e1;exact⟨m1++m2,by rw[e2,Array.append_assoc]⟩
 . obtain⟨m,hn,hl⟩:=I.loc;show⟨m,ns m hn,λi x v e1 e2 e3=>?_⟩;obtain⟨u,r,l⟩:=hl i x v e1 e2 e3;show⟨u,r,?_⟩;rcases l with l | ⟨k,c,e,z⟩
   . exact .inl l
   . exact .inr ⟨k,c,e,iI x c e _ z⟩
 . obtain⟨v,z⟩:=I.cell x c e;exact⟨v,iI x c e v z⟩
 . obtain⟨m,⟨o,_,_,ho,_⟩,_⟩:=I.loc;exact free _ o (λz=>(gO _ z).2.1 Y) ho I.free
 . rcases I.freeC x c e with fc | fo
   . obtain⟨v,o,ho,hd⟩:=I.cell x c e;exact .inl (free c o (λz=>(gO c z).2.2.1 x c e Y) ho fc)
   . exact .inr fo
 . obtain⟨e,n,ne,nf,d⟩:=I.pin p hp;have jW:p.1 ∉ ch:=λz=>(gO p.1 z).2.2.2 p hp rfl;exact⟨keep p.1 p.2 ne nf jW e n,free p.1 p.2 jW e n,ne,nf,d⟩
def j9.un{t':Nat}(I:j9 X aS σ H s)(u:Un X.fs [] H H' s.heap h')(hok:R6 X.prog X.w H' h'):j9 X aS σ H' { s with heap:=h',toks:=t' }:=by
 obtain⟨m,⟨o,es,ep,ho,r⟩,_⟩:=id I.loc;obtain⟨sl,hL⟩:=u.any ho I.free (by simp);exact I.step (g':=s.gens) (d':=s.drawn) (ch:=[]) (λ_ z=>nomatch z) (λb o _ hb _ e n=>u.keep b o e n hb<|by simp) (λb o _ hb _ e n=>u.slot b o e n hb<|by simp) (λb o _ e n=>u.free b o e n<|by simp) (λb o _ e=>u.there b o e<|by simp) u.tups u.frzs u.tbls (λm' hm=>by
  obtain⟨o',pq,pz,ie,r'⟩:=hm;rw[ho]at ie;cases ie;exact⟨_,pq,pz,hL,r'⟩) hok I.bare
def j9.call{g':Array GenState}{t':Nat}{d':Drawn}{ch:List Addr}(I:j9 X aS σ H s)(u:Un (C9 X.stack) ch H H' s.heap h')(hok:R6 X.prog X.w H' h')(hg:AllBare g')
    (gO:∀b∈ch,(b∈X.ex\/X.s₀.heap.objs.size<=b)/\b≠X.env.locals/\(∀x c,X.env.cells.lookup x=some c->c≠b)/\∀p∈X.pn++aS,p.1≠b) :
    j9 X aS σ H' { s with heap:=h',gens:=g',drawn:=d',toks:=t' }:=by
 obtain⟨m,⟨o,es,ep,ho,r⟩,_⟩:=id I.loc;obtain⟨sl,hL⟩:=u.any ho I.free λz=>(gO _ z).2.1 rfl;exact I.step (ch:=ch) gO (λb o hL hb hc e n=>u.keep b o e n (λz=>(ah.mp<|I.stkSub b z).elim hL hb) hc) (λb o _ _ hc e n=>u.any e n hc) (λb o hc e n=>u.free b o e n hc) (λb o hc e=>u.there b o e hc) u.tups u.frzs u.tbls (λm' hm=>by
  obtain⟨o',pq,pz,ie,r'⟩:=hm;rw[ho]at ie;cases ie;exact⟨_,pq,pz,hL,r'⟩) hok hg
def j9.turned{t':Nat}{it:Addr}(I:j9 X aS σ H s)(k:∀b o,b≠it->s.heap.get? b=some o->h'.get? b=some o)(hn:H it=none)(hL:it≠X.env.locals)
    (h1:it∈X.ex\/X.s₀.heap.objs.size<=it) (h2:∀x c,X.env.cells.lookup x=some c->c≠it) (h3:∀p∈X.pn++aS,p.1≠it):j9 X aS σ H { s with heap:=h',toks:=t' }:=by
 have jT:∀b u,H b=some u->b≠it:=λb u e z=>by rw[z,hn]at e;cases e
 show I.step (g':=s.gens) (d':=s.drawn) (ch:=[it]) (λb hb=>?_) (λb o _ _ hc e _=>k b o (λz=>hc<|by simp[z]) e) (λb o _ _ hc e _=>⟨o.slots,k b o (λz=>hc<|by simp[z]) e⟩) (λ_ _ _ _ n=>n)
  (λb o hc e=>⟨o,k b o (λz=>hc<|by simp[z]) e⟩) (λ_ _ e=>e) (λ_ _ _ e=>e) (λb ps e=>⟨#[],by rw[e];simp⟩) (λm hm=>?_) (λb u e=>?_) I.bare
 . have e:b=it:=by simpa using hb
   subst e;exact⟨h1,hL,h2,h3⟩
 . obtain⟨o,es,ep,ho,r⟩:=hm;exact⟨o,es,ep,k _ o (Ne.symm hL) ho,r⟩
 . show(I.hok b u e).stay (λc v hc q=>k c v ?_ q) (λ_ q=>q) λ_ _ q=>q;rcases hc with z | z
   . rw[z];exact jT b u e
   . exact jT c _ z
def j9.tok(I:j9 X aS σ H s)(t:Nat):j9 X aS σ H { s with toks:=t }:=I.un (h':=s.heap) (t':=t) Un.refl I.hok
theorem j9.kept{t':Nat}(I:j9 X aS σ H s)(k:∀b u,s.heap.get? b=some u->h'.get? b=some u):j9 X aS σ H { s with heap:=h',toks:=t' }:=I.un (Un.kept k) (I.hok.kept k)
theorem j9.laid{a:Addr}{o:HO}{t':Nat}(I:j9 X aS σ H s)(k:∀b u,s.heap.get? b=some u->h'.get? b=some u)(hp:s.heap.objs.size<=a)(new:D4 X.prog X.w (upd H a o) h' a o) :
    j9 X aS σ (upd H a o) { s with heap:=h',toks:=t' }:=I.un (Un.laid k hp<|I.hok.fresh hp) (I.hok.laid k hp new)
theorem j9.write{x e:Addr}{o:HO}{t':Nat}(I:j9 X aS σ H s)(mu:c0s (H x))(he:e=x\/H e=some (.own x))(k:∀b u,b≠e->s.heap.get? b=some u->h'.get? b=some u)(jE:∃u,h'.get? e=some u)
    (new:D4 X.prog X.w (upd H x o) h' x o):j9 X aS σ (upd H x o) { s with heap:=h',toks:=t' }:=I.un (Un.write mu he k jE) (I.hok.write mu he k jE new)
def j9.weak{σ':List (Option V)}(I:j9 X aS σ H s)(hl:σ'.length=σ.length)(w:∀(i:Nat) v,σ'[i]? = some (some v)->σ[i]? = some (some v)):j9 X aS σ' H s:=
 ⟨I.ok,I.os,I.bare,I.base,let⟨m,hn,iD⟩:=I.loc;⟨m,hn,λi x v e1 e2 e3=>iD i x v e1 (w i v e2) e3⟩,I.cell,I.free,I.freeC,I.pin,I.hok,hl.trans I.len⟩
def j9.pins_of{pins':w0d}(I:j9 X aS σ H s)(h:∀p∈pins',s.heap.get? p.1=some p.2/\H p.1=none/\p.1≠X.env.locals/\p.1 ∉ X.fs/\∀v,p.2.data≠.cell v):j9 X pins' σ H s:=
 ⟨I.ok,I.os,I.bare,I.base,I.loc,I.cell,I.free,I.freeC,λp hp=>(aw.mp hp).elim (λz=>I.pin p<|aF _ z)<|h p,I.hok,I.len⟩
def Jr{N:w0h}(hN:N.Nodup){i j:Nat}{x:Str}(a:N[i]? = some x)(b:N[j]? = some x):i=j:=by obtain⟨h1,e1⟩:=aP.mp a;obtain⟨h2,e2⟩:=aP.mp b;exact(List.getElem_inj hN).mp (e1.trans e2.symm)
def GJ{M:Model}{A:Around}{E:w0e}{i:Nat}{x:Str}{v:V}{u:Value}{Q:Unit->Shared->Prop}(I:j9 X aS σ H s)(hN:X.N.Nodup)(hi:X.N[i]? = some x)(hx:Rv X.env.scope x)(r:p6 v u)
    (h:∀s',j9 X aS (σ.set i<|some v) H s'->(∃a,Heap.SameBut a s.heap s'.heap/\(a=X.env.locals\/X.env.cells.lookup x=some a))->Q () s') (hf:X.fn x=true\/X.env.scope.names.lookup x=some .local:=by first | exact .inl rfl | exact .inr rfl | assumption):wpAny M A (storeName X.env x u) Q E s:=by
 obtain⟨m,hn,hl⟩:=id I.loc;have ip:(X.env.scope.kind == .class || (X.env.scope.kind == .module && X.env.locals != X.env.globals))=false:=by rw[I.ok.kind];rfl
 have kz:i < σ.length:=by rw[I.len];exact(aP.mp hi).1
 have cne:=I.cne;have fV:∀{a:Addr} {h':Heap},(∃o,s.heap.get? a=some o/\H a=none)->Heap.SameBut a s.heap h'->R6 X.prog X.w H h':=λ{a h'} ha hs b ob e=>by
  obtain⟨_,_,iF⟩:=ha;show(I.hok b ob e).stay (λc w' hc q=>(hs.2 c ?_).trans q) (λ_ q=>q) λ_ _ q=>q;rintro rfl;rcases hc with rfl | hc
  . rw[iF]at e;cases e
  . rw[iF]at hc;cases hc
 rcases hx with hk | hk
 . show wpAny_storeName_local hk hn (λh' oi hs=>?_) ip;obtain⟨oL,_,_,vP,_⟩:=id hn;show h _ ⟨I.ok,I.os,I.bare,⟨λb o e n hb hx=>?_,λb o e n hb hx=>?_,I.base.free,λb o e hx=>?_,I.base.tups,I.base.frzs,I.base.tbls⟩,⟨_,oi,λj y v' e1 e2 e3=>?_⟩,λy c e=>?_,I.free,I.freeC,λp hp=>?_,fV ⟨oL,vP,I.free⟩ hs,by simpa using I.len⟩ ⟨_,hs,.inl Y⟩
   . exact(hs.2 b<|au<|ay (ag e) I.ok.above).trans (I.base.keep b o e n hb hx)
   . obtain⟨sl,e1⟩:=I.base.slot b o e n hb hx;exact⟨sl,(hs.2 b<|au<|ay (ag e) I.ok.above).trans e1⟩
   . obtain⟨o',e1⟩:=I.base.there b o e hx;exact⟨o',(hs.2 b<|au<|ay (ag e) I.ok.above).trans e1⟩
   . by_cases hj:j=i
     . subst hj;rw[hi]at e1;cases e1;rw[List.getElem?_set_self kz]at e2;cases e2;exact⟨u,r,.inl ⟨hk,by simp⟩⟩
     . rw[cQ<|Ne.symm hj]at e2;obtain⟨u',r',q⟩:=hl j y v' e1 e2 e3;show⟨u',r',?_⟩;rcases q with ⟨k,e⟩ | ⟨k,c,e,z⟩
       . show .inl ⟨k,?_⟩;have:y≠x:=λe=>hj<|Jr hN e1<|e▸hi;simp[this,e]
       . exact .inr ⟨k,c,e,z.sameBut hs<|cne y c e⟩
   . obtain⟨w',z⟩:=I.cell y c e;exact⟨w',z.sameBut hs<|cne y c e⟩
   . obtain⟨e,n,ne,nf,d⟩:=I.pin p hp;exact⟨(hs.2 p.1 ne).trans e,n,ne,nf,d⟩
 . have lP:X.fn x=true:=by
    rcases hf with z | z
    . exact z
    . rw[z]at hk;cases hk
   obtain⟨c,hc⟩:=I.ok.has x<|.inl hk;obtain⟨w',z⟩:=I.cell x c hc;show wpAny_storeName_cell I.ok.kind hk hc z<|λh' gc hs=>?_;obtain⟨oc,ql,og⟩:=id z;show h { s with heap:=h' } ⟨I.ok,I.os,I.bare,⟨λb o e n hb hx=>?_,λb o e n hb hx=>?_,I.base.free,λb o e hx=>?_,I.base.tups,I.base.frzs,I.base.tbls⟩,⟨m,hn.sameBut hs<|Ne.symm<|cne x c hc,λj y v' e1 e2 e3=>?_⟩,λy c' e=>?_,I.free,I.freeC,λp hp=>?_,fV ⟨oc,ql,I.freeO lP hc⟩ hs,by simpa using I.len⟩ ⟨c,hs,.inr hc⟩
   . exact(hs.2 b<|au<|ay (ag e)<|I.ok.cab x c lP hc).trans (I.base.keep b o e n hb hx)
   . obtain⟨sl,e1⟩:=I.base.slot b o e n hb hx;exact⟨sl,(hs.2 b<|au<|ay (ag e)<|I.ok.cab x c lP hc).trans e1⟩
   . obtain⟨o',e1⟩:=I.base.there b o e hx;exact⟨o',(hs.2 b<|au<|ay (ag e)<|I.ok.cab x c lP hc).trans e1⟩
   . by_cases hj:j=i
     . subst hj;rw[hi]at e1;cases e1;rw[List.getElem?_set_self kz]at e2;cases e2;exact⟨u,r,.inr ⟨.inl hk,c,hc,gc⟩⟩
     . rw[cQ<|Ne.symm hj]at e2;obtain⟨u',r',q⟩:=hl j y v' e1 e2 e3;show⟨u',r',?_⟩;rcases q with q | ⟨k,c',e,z'⟩
       . exact .inl q
       . show .inr ⟨k,c',e,z'.sameBut hs ?_⟩;rintro rfl;exact hj (Jr hN e1<|I.ok.inj _ _ _ e hc▸hi)
   . by_cases gQ:c'=c
     . subst gQ;exact⟨_,gc⟩
     . obtain⟨w2,z2⟩:=I.cell y c' e;exact⟨w2,z2.sameBut hs gQ⟩
   . obtain⟨e,n,ne,nf,d⟩:=I.pin p hp;show⟨(hs.2 p.1 ?_).trans e,n,ne,nf,d⟩;intro q;rw[q,ql]at e;have q':oc=p.2:=Option.some.inj e;exact d w' (by rw[<- q'];exact og)
def X1{M:Model}{A:Around}{E:w0e}{i:Nat}{x:Str}{v:V}{u:Value}{Q:Unit->Shared->Prop}(I:j9 X aS σ H s)(hN:X.N.Nodup)(hi:X.N[i]? = some x)(hx:Rv X.env.scope x)(r:p6 v u)
    (h:∀s',j9 X aS (σ.set i<|some v) H s'->Q () s') (hf:X.fn x=true\/X.env.scope.names.lookup x=some .local:=by first | exact .inl rfl | exact .inr rfl | assumption):wpAny M A (storeName X.env x u) Q E s:=
 GJ I hN hi hx r (λs' I' _=>h s' I') hf
def j9.call'{s':Shared}{ch:List Addr}(I:j9 X aS σ H s)(ho:s'.os=s.os)(u:Un (C9 X.stack) ch H H' s.heap s'.heap)(hok:R6 X.prog X.w H' s'.heap)(hg:AllBare s'.gens)
    (gO:∀b∈ch,(b∈X.ex\/X.s₀.heap.objs.size<=b)/\b≠X.env.locals/\(∀x c,X.env.cells.lookup x=some c->c≠b)/\∀p∈X.pn++aS,p.1≠b):j9 X aS σ H' s':=by
 obtain⟨h',g',d',t',o'⟩:=s';have e:o'=s.os:=ho;subst e;exact I.call (g':=g') (t':=t') (d':=d') u hok hg gO
end
abbrev XK:=Value->Option Addr->Z->Prop
abbrev St:=List (Option V)
abbrev VK:=V->Z->Prop
abbrev TE:=St->Z->VK->Prop
abbrev TT:=St->Z->(Bool->Z->Prop)->Prop
abbrev TA:=St->Z->(List V->Z->Prop)->Prop
structure DS where
 nx:St->Z->Prop
 rt:VK
 bk:St->Z->Prop:=λ_ _=>False
 ct:St->Z->Prop:=λ_ _=>False
abbrev TS:=DS->St->Z->Prop
def EP(X:Cx)(aS:w0d)(σ:St)(Q:VK)(u:Value)(s':Shared):Prop:=∃v H',j9 X aS σ H' s'/\p6 v u/\Q v H'
def TP(X:Cx)(aS:w0d)(σ:St)(Q:Bool->Z->Prop)(b:Bool)(s':Shared):Prop:=∃H',j9 X aS σ H' s'/\Q b H'
def AP(X:Cx)(aS:w0d)(σ:St)(Q:List V->Z->Prop)(us:w0i)(s':Shared):Prop:=∃vs H',j9 X aS σ H' s'/\o8 vs us/\Q vs H'
structure Nm(X:Cx)(H:Z)(s:Shared):Prop where
 os:s.os=X.s₀.os
 bare:AllBare s.gens
 base:Un X.fs X.ex X.H₀ H X.s₀.heap s.heap
 free:H X.env.locals=none
 loc:∃m,s.heap.Ns X.env.locals m
 hok:R6 X.prog X.w H s.heap
def j9.r{X:Cx}{aS:w0d}{σ:St}{H:Z}{s:Shared}(I:j9 X aS σ H s):Nm X H s:=⟨I.os,I.bare,I.base,I.free,let⟨m,hn,_⟩:=I.loc;⟨m,hn⟩,I.hok⟩
def SP(X:Cx)(aS:w0d)(D:DS)(f:Flow)(s':Shared):Prop:=
 match f with
 | .next=>∃σ' H',j9 X aS σ' H' s'/\D.nx σ' H'
 | .brk=>∃σ' H',j9 X aS σ' H' s'/\D.bk σ' H'
 | .cont=>∃σ' H',j9 X aS σ' H' s'/\D.ct σ' H'
 | .ret u=>∃v H',Nm X H' s'/\p6 v u/\D.rt v H'
def PE(X:Cx)(e:Expr)(t:TE):Prop:=
 ∀(aS:w0d) (s:Shared) (σ:St) (H:Z) (Q:VK),j9 X aS σ H s->t σ H Q->wpAny (model X.prog X.w) X.A (eval e X.env) (EP X aS σ Q) X.xe s
def PT(X:Cx)(e:Expr)(t:TT):Prop:=
 ∀(aS:w0d) (s:Shared) (σ:St) (H:Z) (Q:Bool->Z->Prop),j9 X aS σ H s->t σ H Q->wpAny (model X.prog X.w) X.A (isTrue e X.env<|eval e X.env) (TP X aS σ Q) X.xe s
def PW(X:Cx)(e:Expr)(t:TT):Prop:=
 ∀(fS:Sem Value) (aS:w0d) (s:Shared) (σ:St) (H:Z) (Q:Bool->Z->Prop),j9 X aS σ H s->t σ H Q->wpAny (model X.prog X.w) X.A (isTrue e X.env fS) (TP X aS σ Q) X.xe s
def PW.pt{X:Cx}{e:Expr}{t:TT}(h:PW X e t):PT X e t:=h _
def PA(X:Cx)(es:List Expr)(t:TA):Prop:=
 ∀(pos:Pos) (aS:w0d) (s:Shared) (σ:St) (H:Z) (Q:List V->Z->Prop),j9 X aS σ H s->t σ H Q->wpAny (model X.prog X.w) X.A (spliced<|backTo pos<|starEach es X.env) (AP X aS σ Q) X.xe s
def PS(X:Cx)(st:Stmt)(t:TS):Prop:=
 ∀(aS:w0d) (s:Shared) (σ:St) (H:Z) (D:DS),j9 X aS σ H s->t D σ H->wpAny (model X.prog X.w) X.A (exec st X.env) (SP X aS D) X.xe s
def GD(X:Cx)(st:List Stmt)(t:TS):Prop:=
 ∀(aS:w0d) (s:Shared) (σ:St) (H:Z) (D:DS),j9 X aS σ H s->t D σ H->wpAny (model X.prog X.w) X.A (execs st X.env) (SP X aS D) X.xe s
def y6{α:Type}{t:Sem α}{Q Q':α->Shared->Prop}{M:Model}{A:Around}{E:w0e}{s:Shared}(h:wpAny M A t Q E s)(hQ:∀a s,Q a s->Q' a s):wpAny M A t Q' E s:=wpAny_mono h hQ λ_ _ x=>x
section
variable{X:Cx}
def bin{a b:Expr}{ta tb:TE}(ha:PE X a ta)(hb:PE X b tb){aS:w0d}{s:Shared}{σ:St}{H:Z}{R:V->V->Z->Prop}(I:j9 X aS σ H s)(h:ta σ H λx H1=>tb σ H1 λy H2=>R x y H2)
    {α:Type} {Q:α->Shared->Prop} {f:Value->Value->Sem α}
    (hf:∀v u s2 x y H2,j9 X aS σ H2 s2->p6 x v->p6 y u->R x y H2->wpAny (model X.prog X.w) X.A (f v u) Q X.xe s2) :
    wpAny (model X.prog X.w) X.A (eval a X.env) (λv s₁=>wpAny (model X.prog X.w) X.A (eval b X.env) (λu s₂=>wpAny (model X.prog X.w) X.A (f v u) Q X.xe s₂) X.xe s₁) X.xe s:=by
 show y6 (ha aS s σ H _ I h) λv s1 ⟨x,H1,I1,r1,q1⟩=>?_;show y6 (hb aS s1 σ H1 _ I1 q1) λu s2 ⟨y,H2,I2,r2,q2⟩=>?_;exact hf v u s2 x y H2 I2 r1 r2 q2
def FY(i:Nat):TE:=λσ H Q=>∃v,σ[i]? = some (some v)/\Q v H
def tC(v:V):TE:=λ_ H Q=>Q v H
def Tf{i:Nat}{x:Str}{pos:Pos}(hN:X.N[i]? = some x)(hv:Vis X.env.scope x)(hd:(x == ("__debug__":Str))=false:=by decide)(fi:(x == ("__classdict__":Str))=false:=by decide):PE X (.Name x pos) (FY i):=by
 intro aS s σ H Q I h;obtain⟨v,e,h⟩:=h;obtain⟨m,hn,hl⟩:=I.loc;obtain⟨u,r,l⟩:=hl i x v hN e hv;have dD:EP X aS σ Q u s:=⟨v,H,I,r,h⟩;rcases l with ⟨hk,hm⟩ | ⟨hk,c,hc,eR⟩
 . exact wpAny_Name (wpAny_loadName_local I.ok.kind hk hn hm dD) hd
 . rcases hk with hk | hk
   . exact wpAny_Name (wpAny_loadName_cell I.ok.kind hk hc eR dD) hd
   . exact wpAny_Name (wpAny_loadName_free I.ok.kind hk hc eR dD fi) hd
def c4{i j pos}:PE X (.Constant (.int i) j pos) (tC<|.int i):=λ_ _ _ H _ I h=>wpAny_Constant_int ⟨.int i,H,I.tok _,⟨_,Y⟩,h⟩
def Ar{b j pos}:PE X (.Constant (.bool b) j pos) (tC<|.bl b):=λ_ _ _ H _ I h=>Constant_bool ⟨.bl b,H,I,Y,h⟩
def N9{j pos}:PE X (.Constant .none j pos) (tC .non):=λ_ _ _ H _ I h=>Constant_none ⟨.non,H,I,Y,h⟩
def k8{x j pos}:PE X (.Constant (.str x) j pos) (tC<|.str x):=λ_ _ _ H _ I h=>Calls.Constant_str ⟨.str x,H,I.tok _,⟨_,Y⟩,h⟩
def Gl(X:Cx)(x:Str):Prop:=X.env.kindOf x=some .globalImplicit
def V2{E:w0e}{aS:w0d}{s:Shared}{σ:St}{H:Z}{x:Str}{u:Value}{pos:Pos}{Q:w0e}(I:j9 X aS σ H s)(hg:Gl X x)(hm:X.mg x=some u)(h:Q u s)
    (hd:(x == ("__debug__":Str))=false:=by decide):wpAny (model X.prog X.w) X.A (eval (.Name x pos) X.env) Q E s:=
 Calls.Name_function_global I.ok.kind hg (Calls.loadGlobal_global (by rw[I.ok.glob];exact I.mod.glob.keeps I.bk) hm h) hd
def DM{E:w0e}{aS:w0d}{s:Shared}{σ:St}{H:Z}{x:Str}{u:Value}{pos:Pos}{Q:w0e}(I:j9 X aS σ H s)(hg:Gl X x)(hm:X.mg x=none)(hv:bootBuiltins x=some u)(h:Q u s)
    (hn:x≠"__name__":=by decide) (hd:(x == ("__debug__":Str))=false:=by decide):wpAny (model X.prog X.w) X.A (eval (.Name x pos) X.env) Q E s:=by
 obtain⟨mb,h1,h2⟩:=I.mod.blt;exact Calls.Name_function_global I.ok.kind hg (Calls.loadGlobal_builtin (by rw[I.ok.glob];exact I.mod.glob.keeps I.bk) hm (by rw[I.ok.blt];exact h1.keeps I.bk) ((h2 x hn).trans hv) h) hd
def Hz{x:Str}{v:V}{u:Value}{pos:Pos}(hg:Gl X x)(hm:X.mg x=some u)(r:p6 v u)(hd:(x == ("__debug__":Str))=false:=by decide):PE X (.Name x pos) (tC v):=
 λ_ _ _ H _ I h=>V2 I hg hm ⟨v,H,I,r,h⟩ hd
def O1{x:Str}{v:V}{u:Value}{pos:Pos}(hg:Gl X x)(hm:X.mg x=none)(hv:bootBuiltins x=some u)(r:p6 v u)(hn:x≠"__name__":=by decide)(hd:(x == ("__debug__":Str))=false:=by decide):PE X (.Name x pos) (tC v):=
 λ_ _ _ H _ I h=>DM I hg hm hv ⟨v,H,I,r,h⟩ hn hd
variable{a b:Expr}{ta tb:TE}{pos:Pos}
def PC(X:Cx)(op:CmpOp)(a b:Expr)(t:TE):Prop:=
 ∀(aS:w0d) (s:Shared) (σ:St) (H:Z) (Q:VK),j9 X aS σ H s->t σ H Q->
  wpAny (model X.prog X.w) X.A (eval a X.env) (λv s₁=>wpAny (model X.prog X.w) X.A (eval b X.env) (λu s₂=>wpAny (model X.prog X.w) X.A (compareOp op v u) (EP X aS σ Q) X.xe s₂) X.xe s₁) X.xe s
def Ox(b:Expr){op:CmpOp}(h:op≠.In)(h2:op≠.NotIn):behindInMarks op b=false:=by
 have e1:(op == CmpOp.In)=false:=by cases op <;>first | rfl | exact absurd rfl h
 have e2:(op == CmpOp.NotIn)=false:=by cases op <;>first | rfl | exact absurd rfl h2
 cases b <;>simp[behindInMarks,e1,e2]
def tB(t:TE):TT:=λσ H Q=>t σ H λx H1=>∃c,x=.bl c/\Q c H1
def Oe{op:CmpOp}{t:TE}(h:PC X op a b t)(h1:behindInMarks op b=false:=by first | exact Ox _ bD bD | rfl):PT X (.Compare a [op] [b] pos) (tB t):=by intro aS s σ H Q I hw;show wpAny_isTrue_Compare1 (y6 (h aS s σ H _ I hw) λv s1 h1=>y6 h1 λu s2 h2=>y6 h2 λc s3 ⟨x,H1,I1,r1,q1⟩=>?_) h1;obtain⟨d,rfl,q⟩:=q1;cases r1;exact wpAny_truthy_bool ⟨H1,I1,q⟩
def E9{e:Expr}{t:TE}(h:PE X e t)(he:∀fS,isTrue e X.env fS=(do let v <- fS;standAt e.pos;holding [v] (truthy v)):=by intro _;rfl):PT X e (tB t):=by intro aS s σ H Q I hw;show isTrue_plain (y6 (h aS s σ H _ I hw) λv s1 ⟨x,H1,I1,r1,q1⟩=>?_)<|he _;obtain⟨d,rfl,q⟩:=q1;cases r1;exact wpAny_truthy_bool ⟨H1,I1,q⟩
variable{tA lA:TT}{CA:List Expr}
def RJ(t u:TT):TT:=λσ H Q=>t σ H λc H1=>if c=true then u σ H1 Q else Q false H1
def tOr(t u:TT):TT:=λσ H Q=>t σ H λc H1=>if c=true then Q true H1 else u σ H1 Q
def tNot(t:TT):TT:=λσ H Q=>t σ H λc H1=>Q (!c) H1
def U6(ha:PT X a tA):PW X (.BoolOp .And [a] pos) tA:=by
 intro wh aS s σ H Q I h;show isTrue_and<|y6 (ha aS s σ H Q I h) λc s1 e=>?_;cases c with
 | true=>exact isTrue_and_nil e
 | false=>exact e
def W0(ha:PT X a tA):PW X (.BoolOp .Or [a] pos) tA:=by
 intro wh aS s σ H Q I h;show isTrue_or<|y6 (ha aS s σ H Q I h) λc s1 e=>?_;cases c with
 | false=>exact isTrue_or_nil e
 | true=>exact e
def R1(ha:PT X a tA)(hb:PW X (.BoolOp .And (b::CA) pos) lA):PW X (.BoolOp .And (a::b::CA) pos) (RJ tA lA):=by
 intro wh aS s σ H Q I h;show isTrue_and<|y6 (ha aS s σ H _ I h) λc s1 ⟨H1,I1,q1⟩=>?_;cases c with
 | true=>exact hb wh aS s1 σ H1 Q I1 q1
 | false=>exact⟨H1,I1,q1⟩
def AN(ha:PT X a tA)(hb:PW X (.BoolOp .Or (b::CA) pos) lA):PW X (.BoolOp .Or (a::b::CA) pos) (tOr tA lA):=by
 intro wh aS s σ H Q I h;show isTrue_or<|y6 (ha aS s σ H _ I h) λc s1 ⟨H1,I1,q1⟩=>?_;cases c with
 | true=>exact⟨H1,I1,q1⟩
 | false=>exact hb wh aS s1 σ H1 Q I1 q1
def W2(ha:PT X a tA):PT X (.UnaryOp .Not a pos) (tNot tA):=by intro aS s σ H Q I h;exact isTrue_not (ha aS s σ H (λc H1=>Q (!c) H1) I h)
def Vv(ta tb:TE):TE:=λσ H Q=>ta σ H λx H1=>∃c,x=.bl c/\if c=true then tb σ H1 Q else Q (.bl false) H1
def tOrV(ta tb:TE):TE:=λσ H Q=>ta σ H λx H1=>∃c,x=.bl c/\if c=true then Q (.bl true) H1 else tb σ H1 Q
def Vl(ta:TE):TE:=λσ H Q=>ta σ H λx H1=>∃c,x=.bl c/\Q (.bl<|!c) H1
def S9{op}{t:TE}(h:PE X a t):PE X (.BoolOp op [a] pos) t:=λaS s σ H Q I hw=>BoolOp_one (h aS s σ H Q I hw)
def Ac(ha:PE X a ta)(hb:PE X (.BoolOp .And (b::CA) pos) tb):PE X (.BoolOp .And (a::b::CA) pos) (Vv ta tb):=by
 intro aS s σ H Q I h;show BoolOp_and<|y6 (ha aS s σ H _ I h) λv s1 ⟨x,H1,I1,r1,q1⟩=>?_;obtain⟨c,rfl,q1⟩:=q1;cases r1;show wpAny_truthy_bool ?_;cases c with
 | true=>exact hb aS s1 σ H1 Q I1 q1
 | false=>exact⟨.bl false,H1,I1,Y,q1⟩
def On(ha:PE X a ta)(hb:PE X (.BoolOp .Or (b::CA) pos) tb):PE X (.BoolOp .Or (a::b::CA) pos) (tOrV ta tb):=by
 intro aS s σ H Q I h;show BoolOp_or<|y6 (ha aS s σ H _ I h) λv s1 ⟨x,H1,I1,r1,q1⟩=>?_;obtain⟨c,rfl,q1⟩:=q1;cases r1;show wpAny_truthy_bool ?_;cases c with
 | false=>exact hb aS s1 σ H1 Q I1 q1
 | true=>exact⟨.bl true,H1,I1,Y,q1⟩
def Tg(ha:PE X a ta):PE X (.UnaryOp .Not a pos) (Vl ta):=by intro aS s σ H Q I h;show UnaryOp_<|y6 (ha aS s σ H _ I h) λv s1 ⟨x,H1,I1,r1,q1⟩=>?_;obtain⟨c,rfl,q1⟩:=q1;cases r1;exact not_of (wpAny_truthy_bool ⟨.bl<|!c,H1,I1,Y,q1⟩)
def tIf(t:TT)(ta tb:TE):TE:=λσ H Q=>t σ H λc H1=>if c=true then ta σ H1 Q else tb σ H1 Q
def Oq{c:Expr}(hc:PT X c tA)(ha:PE X a ta)(hb:PE X b tb):PE X (.IfExp c a b pos) (tIf tA ta tb):=by
 intro aS s σ H Q I h;show wpAny_IfExp<|y6 (hc aS s σ H _ I h) λd s1 ⟨H1,I1,q1⟩=>?_;cases d with
 | true=>exact ha aS s1 σ H1 Q I1 q1
 | false=>exact hb aS s1 σ H1 Q I1 q1
end
def y8(K:aa)(H:Z)(a:Addr)(xs:List V):Prop:=
 Rd H a (.lst xs)\/
  ∃(o:Obj) (di:Array Value) (n:Nat),K.lookup a=some o/\o.cls=.type "list"/\o.dict=none/\o.data=.seq di n/\di.size<=sizeLine/\o8 xs di.toList
def y4(K:aa)(H:Z)(a:Addr)(xs:List V):Prop:=
 Rd H a (.tup xs)\/
  ∃(o:Obj) (di:Array Value) (n:Nat),K.lookup a=some o/\o.cls=.type "tuple"/\o.data=.seq di n/\di.size<=sizeLine/\o8 xs di.toList
def absV:Value->Option V
 | .none=>some .non
 | .bool b=>some (.bl b)
 | .int i _=>some (.int i)
 | .str x _=>some (.str x)
 | .bytes b _=>some (.byt b)
 | .float b _=>some (.flt b)
 | .ref a=>some (.ref a)
 | .type n=>some (.ty n)
 | _=>none
def p6.abs{x:V}{u:Value}(r:p6 x u):absV u=some x:=by
 cases x with
 | non=>cases r;rfl
 | bl _=>cases r;rfl
 | int _=>obtain⟨t,rfl⟩:=r;rfl
 | str _=>obtain⟨t,rfl⟩:=r;rfl
 | byt _=>obtain⟨t,rfl⟩:=r;rfl
 | flt _=>obtain⟨t,rfl⟩:=r;rfl
 | ref _=>cases r;rfl
 | ty _=>cases r;rfl
theorem p6.inj{x y:V}{u:Value}(r:p6 x u)(q:p6 y u):x=y:=Option.some.inj (r.abs.symm.trans q.abs)
theorem o8.inj:∀{xs ys:List V} {us:w0i},o8 xs us->o8 ys us->xs=ys
 | _,_,_,.nil,.nil=>rfl
 | _,_,_,.cons r t,.cons r' t'=>by rw[r.inj r',o8.inj t t']
section
variable{X:Cx}{aS:w0d}{σ:St}{H:Z}{s:Shared}{a:Addr}{xs ys:List V}
def y8.of{K:aa}(h:H a=some (.lst xs)):y8 K H a xs:=.inl (.inl h)
def y4.of{K:aa}(h:H a=some (.tup xs)):y4 K H a xs:=.inl (.inl h)
def j9.list(I:j9 X aS σ H s)(h:y8 X.K H a xs):∃di:w0i,o8 xs di/\PlainL s.heap a di.toArray/\xs.length<=sizeLine:=by
 rcases h with h | ⟨o,di,n,hk,hc,hd,hs,hz,r⟩
 . obtain⟨z,di,n,r,e⟩:=h.ok I.hok;exact⟨di,r,⟨_,n,e,Y,Y,Y⟩,z⟩
 . show⟨di.toList,r,⟨o,n,I.kIn a o hk,hc,hd,by simpa using hs⟩,?_⟩;have e:=r.length;simp only[Array.length_toList]at e;omega
def j9.tuple(I:j9 X aS σ H s)(h:y4 X.K H a xs):∃di:w0i,o8 xs di/\IsTup s.heap a di.toArray/\xs.length<=sizeLine:=by
 rcases h with h | ⟨o,di,n,hk,hc,hs,hz,r⟩
 . obtain⟨z,di,r,p,_⟩:=h.ok I.hok;exact⟨di,r,p,z⟩
 . show⟨di.toList,r,⟨o,I.kIn a o hk,hc,n,by simpa using hs⟩,?_⟩;have e:=r.length;simp only[Array.length_toList]at e;omega
def j9.list_inj(I:j9 X aS σ H s)(h:y8 X.K H a xs)(h':y8 X.K H a ys):xs=ys:=by
 obtain⟨di,r,⟨o,n,e,_,_,d⟩,_⟩:=I.list h;obtain⟨its',r',⟨o',n',e',_,_,d'⟩,_⟩:=I.list h';rw[e]at e';cases e';rw[d]at d';injection d' with d1 _;have:di=its':=by simpa using congrArg Array.toList d1
 subst this;exact r.inj r'
def j9.tuple_inj(I:j9 X aS σ H s)(h:y4 X.K H a xs)(h':y4 X.K H a ys):xs=ys:=by
 obtain⟨di,r,⟨o,e,_,n,d⟩,_⟩:=I.tuple h;obtain⟨its',r',⟨o',e',_,n',d'⟩,_⟩:=I.tuple h';rw[e]at e';cases e';rw[d]at d';injection d' with d1 _;have:di=its':=by simpa using congrArg Array.toList d1
 subst this;exact r.inj r'
end
abbrev Cx.wish(X:Cx)(E:w0e):Cx:={ X with xe:=E }
abbrev Cx.nox(X:Cx):Cx:=X.wish λ_ _=>False
theorem Cx.Ok.wish{X:Cx}(ok:X.Ok)(E:w0e):(X.wish E).Ok:=
 ⟨ok.mod,ok.kind,ok.glob,ok.blt,ok.above,ok.inj,ok.has,ok.cab,ok.hd,ok.frames,ok.stk,ok.exf,ok.bs,ok.bsz,ok.noex,ok.exfs,ok.funs,ok.frf⟩
def Cx.Ok.unwish{X:Cx}{E:w0e}(ok:(X.wish E).Ok):X.Ok:=
 ⟨ok.mod,ok.kind,ok.glob,ok.blt,ok.above,ok.inj,ok.has,ok.cab,ok.hd,ok.frames,ok.stk,ok.exf,ok.bs,ok.bsz,ok.noex,ok.exfs,ok.funs,ok.frf⟩
section
variable{X:Cx}{aS:w0d}{σ:St}{H:Z}{s:Shared}{E:w0e}
theorem j9.wish(I:j9 X aS σ H s)(E:w0e):j9 (X.wish E) aS σ H s:=⟨I.ok.wish E,I.os,I.bare,I.base,I.loc,I.cell,I.free,I.freeC,I.pin,I.hok,I.len⟩
theorem j9.unwish(I:j9 (X.wish E) aS σ H s):j9 X aS σ H s:=⟨I.ok.unwish,I.os,I.bare,I.base,I.loc,I.cell,I.free,I.freeC,I.pin,I.hok,I.len⟩
theorem SP.unwish{D:DS}{f:Flow}{s':Shared}(h:SP (X.wish E) aS D f s'):SP X aS D f s':=by
 cases f with
 | next=>obtain⟨σ',H',I,q⟩:=h;exact⟨σ',H',I.unwish,q⟩
 | brk=>obtain⟨σ',H',I,q⟩:=h;exact⟨σ',H',I.unwish,q⟩
 | cont=>obtain⟨σ',H',I,q⟩:=h;exact⟨σ',H',I.unwish,q⟩
 | ret u=>obtain⟨v,H',I,r,q⟩:=h;exact⟨v,H',⟨I.os,I.bare,I.base,I.free,I.loc,I.hok⟩,r,q⟩
theorem GD.nox{st:List Stmt}{t:TS}(h:GD X.nox st t):GD X st t:=λaS s σ H D I hw=>
 wpAny_mono (h aS s σ H D (I.wish _) hw) (λ_ _ q=>q.unwish) λ_ _ z=>False.elim z
end
section
variable{X:Cx}{st:Stmt}{CA:List Stmt}{t u:TS}{e:Expr}{te:TE}{pos:Pos}
def tNext:TS:=λD σ H=>D.nx σ H
def Vg(t u:TS):TS:=λD σ H=>t { D with nx:=u D } σ H
def k6:GD X [] tNext:=λ_ _ σ H _ I h=>wpAny_execs_nil ⟨σ,H,I,h⟩
def c7(h1:PS X st t)(h2:GD X CA u):GD X (st::CA) (Vg t u):=by
 intro aS s σ H D I h;show wpAny_execs_cons<|y6 (h1 aS s σ H { D with nx:=u D } I h) λf s1 q=>?_;cases f with
 | next=>
  obtain⟨σ',H',I',q⟩:=q;exact h2 aS s1 σ' H' D I' q
 | ret v=>exact q
 | brk=>exact q
 | cont=>exact q
def c6(h1:PS X st t):GD X [st] t:=by
 intro aS s σ H D I h;show wpAny_execs_cons<|y6 (h1 aS s σ H D I h) λf s1 q=>?_;cases f with
 | next=>exact wpAny_execs_nil q
 | ret v=>exact q
 | brk=>exact q
 | cont=>exact q
def j9.quiet{aS:w0d}{σ:St}{H:Z}{s:Shared}(I:j9 X aS σ H s):interactive X.env=false:=by simp[interactive,I.ok.kind]
def Vq(te:TE):TS:=λD σ H=>te σ H λ_ H1=>D.nx σ H1
def Bg(he:PE X e te)(hs:swapsWith e none pos.line X.env=pure false:=by rfl):PS X (.Expr e pos) (Vq te):=by intro aS s σ H D I h;exact wpAny_Expr_any (y6 (he aS s σ H _ I h) λv s1 ⟨x,H1,I1,r1,q1⟩=>⟨σ,H1,I1,q1⟩) I.quiet hs
def Vj(te:TE):TS:=λD σ H=>te σ H D.rt
def i3(he:PE X e te):PS X (.Return (some e) pos) (Vj te):=by intro aS s σ H D I h;exact wpAny_Return_some (y6 (he aS s σ H _ I h) λv s1 ⟨x,H1,I1,r1,q1⟩=>⟨x,H1,I1.r,r1,q1⟩)
def tIfS(c:TT)(t u:TS):TS:=λD σ H=>c σ H λb H1=>if b=true then t D σ H1 else u D σ H1
def o3{c:Expr}{a b:List Stmt}{tc:TT}(hc:PT X c tc)(ha:GD X a t)(hb:GD X b u):PS X (.If c a b pos) (tIfS tc t u):=by
 intro aS s σ H D I h;show wpAny_If<|y6 (hc aS s σ H _ I h) λd s1 ⟨H1,I1,q1⟩=>?_;cases d with
 | true=>exact ha aS s1 σ H1 D I1 q1
 | false=>exact hb aS s1 σ H1 D I1 q1
def tNever:TS:=λ_ _ _=>False
def CF:PS X st tNever:=λ_ _ _ _ _ _ h=>h.elim
end
abbrev TG:=V->St->Z->(St->Z->Prop)->Prop
abbrev UE:=List V->St->Z->(St->Z->Prop)->Prop
def PG(X:Cx)(dh:Expr)(t:TG):Prop:=
 ∀(aS:w0d) (s:Shared) (σ:St) (H:Z) (v:V) (u:Value) (Q:St->Z->Prop),j9 X aS σ H s->p6 v u->t v σ H Q->
  wpAny (model X.prog X.w) X.A (assign dh X.env u) (λ_ s'=>∃σ' H',j9 X aS σ' H' s'/\Q σ' H') X.xe s
def c0r(X:Cx)(ts:List Expr)(t:UE):Prop:=
 ∀(aS:w0d) (s:Shared) (σ:St) (H:Z) (vs:List V) (us:w0i) (Q:St->Z->Prop),j9 X aS σ H s->o8 vs us->t vs σ H Q->
  wpAny (model X.prog X.w) X.A (assignInOrder ((assignEach ts X.env).map (·.2)) us) (λ_ s'=>∃σ' H',j9 X aS σ' H' s'/\Q σ' H') X.xe s
abbrev UD:=V->V->V->Z->(Z->Prop)->Prop
def c0p(X:Cx)(t:UD):Prop:=
 ∀(aS:w0d) (s:Shared) (σ:St) (H:Z) (o i v:V) (ov iv u:Value) (Q:Z->Prop),j9 X aS σ H s->p6 o ov->p6 i iv->p6 v u->t o i v H Q->
  wpAny (model X.prog X.w) X.A (setItem ov iv u) (λ_ s'=>∃H',j9 X aS σ H' s'/\Q H') X.xe s
section
variable{X:Cx}{pos:Pos}
def Bz(i:Nat):TG:=λv σ H Q=>Q (σ.set i<|some v) H
def R9{i:Nat}{x:Str}(hN:X.N.Nodup)(hi:X.N[i]? = some x)(hx:Rv X.env.scope x)(hf:X.fn x=true\/X.env.scope.names.lookup x=some .local:=by first | exact .inl rfl | exact .inr rfl | assumption):PG X (.Name x pos) (Bz i):=by intro aS s σ H v u Q I r h;exact wpAny_assign_Name (X1 I hN hi hx r (λs' I'=>⟨_,H,I',h⟩) hf)
def gNil:UE:=λvs σ H Q=>vs=[]/\Q σ H
def c0d(t:TG)(u:UE):UE:=λvs σ H Q=>∃v r,vs=v::r/\t v σ H λσ' H'=>u r σ' H' Q
def Qe:c0r X [] gNil:=by intro aS s σ H vs us Q I r h;obtain⟨e,h⟩:=h;subst e;cases r;exact assignInOrder_nil ⟨σ,H,I,h⟩
def Jb{e:Expr}{es:List Expr}{t:TG}{u:UE}(h1:PG X e t)(h2:c0r X es u)
    (hs:(assignEach (e::es) X.env).map (·.2)=assign e X.env::(assignEach es X.env).map (·.2):=by rfl):c0r X (e::es) (c0d t u):=by
 intro aS s σ H vs us Q I r h;obtain⟨v,vr,e1,h⟩:=h;subst e1;cases r with
 | cons r rr=>
  rw[hs];show assignInOrder_cons<|y6 (h1 aS s σ H _ _ _ I r h) λ_ s1 ⟨σ1,H1,I1,q1⟩=>?_;exact h2 aS s1 σ1 H1 _ _ Q I1 rr q1
def c0c(K:aa)(n:Nat)(t:UE):TG:=λv σ H Q=>∃a xs,v=.ref a/\y4 K H a xs/\xs.length=n/\t xs σ H Q
def Te{es:List Expr}{k:Nat}{t:UE}{n:Nat}(hc:X.calm=true)(h:c0r X es t)
    (hn:(assignEach es X.env).length=n:=by rfl) (hR:(assignEach es X.env).findIdx? (·.1)=none:=by rfl):PG X (.Tuple es k pos) (c0c X.K n t):=by
 intro aS s σ H v u Q I r hw;obtain⟨a,xs,e1,hq,hl,hw⟩:=hw;subst e1;cases r;obtain⟨di,rv,ht,hz⟩:=I.tuple hq;show assign_Tuple_tuple (I.ok.hd hc) ht (by simp[hn,<- hl,rv.length]) hR λh' hx=>?_;have I1:j9 X aS σ H { s with heap:=h' }:=I.kept (t':=s.toks) λb o e=>hx b o (au<|ag e) e;exact h aS _ σ H xs _ Q I1 (by simpa using rv) hw
def gSub(to ti:TE)(t:UD):TG:=λv σ H Q=>to σ H λo H1=>ti σ H1 λi H2=>t o i v H2 λH3=>Q σ H3
def Ol{o i:Expr}{to ti:TE}{t:UD}(ho:PE X o to)(hi:PE X i ti)(hs:c0p X t)
    (ha:∀v,assign (.Subscript o i pos) X.env v=(do
     let ov <- holding [v] (eval o X.env)
     let iv <- holding [v,ov] (eval i X.env)
     standAt pos
     holding [v,ov,iv] (setItem ov iv v)
     release [v,ov,iv] []):=by intro _;rfl):PG X (.Subscript o i pos) (gSub to ti t):=by
 intro aS s σ H v u Q I r h;rw[ha];show wpAny_bind<|wpAny_holding<|y6 (ho aS s σ H _ I h) λov s1 ⟨x,H1,I1,r1,q1⟩=>?_;show wpAny_bind<|wpAny_holding<|y6 (hi aS s1 σ H1 _ I1 q1) λiv s2 ⟨y,H2,I2,r2,q2⟩=>?_;show wpAny_bind<|wpAny_standAt<|wpAny_bind<|wpAny_holding<|y6 (hs aS s2 σ H2 x y v ov iv u _ I2 r1 r2 r q2) λ_ s3 ⟨H3,I3,q3⟩=>?_;exact wpAny_release ⟨σ,H3,I3,q3⟩
def Mm(te:TE)(g:TG):TS:=λD σ H=>te σ H λx H1=>g x σ H1 D.nx
def Og{tg e:Expr}{te:TE}{g:TG}(he:PE X e te)(hg:PG X tg g)(hs:swapsWithSole [tg] e pos.line X.env=pure false:=by rfl)(hw:swappedStores [tg] e X.env=pure none:=by rfl)
    (h1:(assignEach [tg] X.env).map (·.2)=[assign tg X.env]:=by rfl):PS X (.Assign [tg] e pos) (Mm te g):=by
 intro aS s σ H D I h;show wpAny_Assign_stores (y6 (he aS s σ H _ I h) λv s1 ⟨x,H1,I1,r1,q1⟩=>?_) hs hw;rw[h1];exact y6 (hg aS s1 σ H1 x v _ I1 r1 q1) λ_ s2 q=>q
def Ab{i:Nat}{x:Str}{e:Expr}{te:TE}{eE:Pos}(hN:X.N.Nodup)(hi:X.N[i]? = some x)(hx:Rv X.env.scope x)(he:PE X e te)(hs:swapsWith e (some<|.Name x eE) pos.line X.env=pure false:=by rfl)(hf:X.fn x=true\/X.env.scope.names.lookup x=some .local:=by first | exact .inl rfl | exact .inr rfl | assumption) :
    PS X (.Assign [.Name x eE] e pos) (Mm te<|Bz i):=by
 intro aS s σ H D I h;show wpAny_Assign_Name (y6 (he aS s σ H _ I h) λv s1 ⟨y,H1,I1,r1,q1⟩=>?_) hs;exact X1 I1 hN hi hx r1 (λs2 I2=>⟨_,H1,I2,q1⟩) hf
def tPar(i j:Nat)(ta:TA):TS:=λD σ H=>ta σ H λvs H1=>∃v w,vs=[v,w]/\D.nx ((σ.set i<|some v).set j<|some w) H1
def Ta{i j:Nat}{x y:Str}{a b:Expr}{ta:TA}{px py pt:Pos}{kt k2 pt2}(hc:X.calm=true)(hN:X.N.Nodup)(hi:X.N[i]? = some x)(hj:X.N[j]? = some y)(vX:i≠j)
    (hx:X.env.scope.names.lookup x=some .local) (hy:X.env.scope.names.lookup y=some .local) (ha:PA X [a,b] ta)
    (hw:swappedStores [.Tuple [.Name x px,.Name y py] kt pt] (.Tuple [a,b] k2 pt2) X.env=pure (some [x,y]))
    (hs:swapsWithSole [.Tuple [.Name x px,.Name y py] kt pt] (.Tuple [a,b] k2 pt2) pos.line X.env=pure false:=by rfl) :
    PS X (.Assign [.Tuple [.Name x px,.Name y py] kt pt] (.Tuple [a,b] k2 pt2) pos) (tPar i j ta):=by
 intro aS s σ H D I h;rw[exec_Assign_arm];show wpAny_bind<|wpAny_standAt ?_;rw[hs];show wpAny_bind<|wpAny_pure ?_;rw[if_neg bD];show wpAny_bind<|Tuple_<|y6 (ha _ aS s σ H _ I h) λus s1 ⟨vs,H1,I1,r1,q1⟩=>?_;obtain⟨v,w,e1,q1⟩:=q1;subst e1;obtain⟨u1,u2,rfl,rv,fM⟩:∃u1 u2,us=[u1,u2]/\p6 v u1/\p6 w u2:=by
  cases r1 with
  | cons p q=>
   cases q with
   | cons p' q'=>
    cases q';exact za ⟨Y,p,p'⟩
 show wpAny_newObj_type ?_ sL;have I2:j9 X aS σ H1 { s1 with heap:=s1.heap.push { cls:=.type "tuple",data:=.seq [u1,u2].toArray } }:=I1.kept (t':=s1.toks) λb o e=>ak _ e;rw[hw];show wpAny_bind<|wpAny_pure ?_;show wpAny (model X.prog X.w) X.A (do rule "assign.swapped-stores";let items <- unpackItems (.ref s1.heap.objs.size) 2 none;assignInOrder [λv=>bindName X.env y v,λv=>bindName X.env x v] items.reverse;pure Flow.next) _ _ _;show wpAny_bind<|wpAny_rule<|wpAny_bind<|unpackItems_tuple (items:=#[u1,u2]) (I.ok.hd hc) (IsTup.new s1.heap _) λh' gi=>?_;have I3:=I2.kept (h':=h') (t':=s1.toks) λb o e=>gi b o (au<|ag e) e;show wpAny _ _ (assignInOrder [λv=>bindName X.env y v,λv=>bindName X.env x v] [u2,u1] >>= λ_=>pure Flow.next) _ _ _;show wpAny_bind<|assignInOrder_cons<|wpAny_bindName<|X1 I3 hN hj (.inl hy) fM (λs2 I4=>?_)<|.inr hy;show assignInOrder_cons<|wpAny_bindName<|X1 I4 hN hi (.inl hx) rv (λs3 I5=>assignInOrder_nil<|wpAny_pure ?_)<|.inr hx;rw[List.set_comm _ _<|Ne.symm vX]at I5;exact⟨_,H1,I5,q1⟩
end
section
variable{X:Cx}{pos:Pos}
def RE(c:TT)(tb:TS):TS:=λD σ H=>∃W:Nat->St->Z->Prop,(∃m,W m σ H)/\∀m σ H,W m σ H->
 c σ H λb H1=>if b=true then ∃N:St->Z->Prop,(∀σ' H',N σ' H'->∃m',m' < m/\W m' σ' H')/\tb { D with nx:=N,ct:=N,bk:=D.nx } σ H1 else D.nx σ H1
def CD{c:Expr}{body:List Stmt}{tc:TT}{tb:TS}(hp:PassesOwn (model X.prog X.w) X.A X.env X.xe)(hc:PT X c tc)(hb:GD X body tb):PS X (.While c body [] pos) (RE tc tb):=by
 intro aS s σ H D I h;obtain⟨W,⟨m0,w0⟩,eB⟩:=h;show wpAny_While<|codeAny_whileLoop (λn s'=>∃σ' H',j9 X aS σ' H' s'/\W n σ' H') ?_ m0 ⟨σ,H,I,w0⟩;rintro n s1 ⟨σ1,H1,I1,w1⟩;show wpAny_passesOwn hp<|y6 (hc aS s1 σ1 H1 _ I1<|eB n σ1 H1 w1) λb s2 ⟨H2,I2,q2⟩=>?_;cases b with
 | true=>
  obtain⟨N,hN,q2⟩:=q2;rw[if_pos rfl];show wpAny_passesOwn hp<|y6 (hb aS s2 σ1 H2 _ I2 q2) λf s3 q3=>?_;cases f with
  | next=>
   obtain⟨σ3,H3,I3,n3⟩:=q3;obtain⟨m',hm,w3⟩:=hN σ3 H3 n3;exact⟨m',hm,σ3,H3,I3,w3⟩
  | cont=>
   obtain⟨σ3,H3,I3,n3⟩:=q3;obtain⟨m',hm,w3⟩:=hN σ3 H3 n3;exact⟨m',hm,σ3,H3,I3,w3⟩
  | brk=>exact q3
  | ret v=>exact q3
 | false=>
  rw[if_neg aG];exact wpAny_execs_nil ⟨σ1,H2,I2,q2⟩
end
structure It where
 go:Nat->Z->Prop
 yld:Nat->Z->V->Z->Prop
 stop:Nat->Z->Prop
def L7(X:Cx)(aS:w0d)(H:Z)(b:Addr):Prop:=
 H b=none/\b≠X.env.locals/\b ∉ X.fs/\(b∈X.ex\/X.s₀.heap.objs.size<=b)/\(∀x c,X.env.cells.lookup x=some c->c≠b)/\∀p∈X.pn++aS,p.1≠b
def j9.fpOk{X:Cx}{aS:w0d}{σ:St}{H H':Z}{s:Shared}{b:Addr}(I:j9 X aS σ H s)(hb:s.heap.objs.size<=b)(hn:H' b=none):L7 X aS H' b:=by
 show⟨hn,bx<|ay I.lt hb,I.nofs hb,.inr<|aj I.sz hb,λx c e z=>?_,λp hp z=>?_⟩
 . obtain⟨v,q⟩:=I.cell x c e;exact absurd (ay q.lt<|by rw[z];exact hb) (aL _)
 . exact absurd (ay (ag (I.pin p hp).1)<|by rw[z];exact hb) (aL _)
structure GC(P:Program)(w:World)(K:aa)(tg:Expr)(J:It)(fp:List Addr)(it:Addr)(tn:Nat->Heap->Prop):Prop where
 mem:it∈fp
 obj:∀i h,tn i h->∀b∈fp,∃o,h.get? b=some o/\∀v,o.data≠.cell v
 keep:∀i h h',tn i h->(∀b∈fp,∀o,h.get? b=some o->h'.get? b=some o)->tn i h'
 item:∀(X:Cx),X.prog=P->X.w=w->X.K=K->X.calm=true->∀(i:Nat) (aS:w0d) (s:Shared) (σ:St) (H:Z) (E:w0e),j9 X aS σ H s->(∀b∈fp,L7 X aS H b)->tn i s.heap->J.go i H->
  wpAny (model P w) X.A (pyNext<|.ref it) (λr s1=>∃u,r=some u/\
   wpAny (model P w) X.A (letOwnedTupleGo tg (.ref it) u) (λ_ s2=>∃x H',j9 X aS σ H' s2/\p6 x u/\J.yld i H x H'/\tn (i+1) s2.heap/\∀b∈fp,H' b=none) E s1) E s
 done:∀(X:Cx),X.prog=P->X.w=w->X.K=K->X.calm=true->∀(i:Nat) (aS:w0d) (s:Shared) (σ:St) (H:Z) (E:w0e),j9 X aS σ H s->(∀b∈fp,L7 X aS H b)->tn i s.heap->J.stop i H->
  wpAny (model P w) X.A (pyNext<|.ref it) (λr s1=>r=none/\j9 X aS σ H s1) E s
 self:∀(A:Around) (i:Nat) (s:Shared) (Q:w0e) (E:w0e),tn i s.heap->Q (.ref it) s->wpAny (model P w) A (pyIter<|.ref it) Q E s
abbrev TI:=St->Z->(It->Z->Prop)->Prop
def PIE(X:Cx)(aS:w0d)(σ:St)(tg:Expr)(R:It->Z->Prop)(kd:Value)(s2:Shared):Prop:=
 ∃(it:Addr) (fp:List Addr) (tn:Nat->Heap->Prop) (J:It) (H':Z),kd=.ref it/\j9 X aS σ H' s2/\GC X.prog X.w X.K tg J fp it tn/\tn 0 s2.heap/\(∀b∈fp,L7 X aS H' b)/\R J H'
def PI(X:Cx)(tg iter:Expr)(wi:TI):Prop:=
 ∀(aS:w0d) (s:Shared) (σ:St) (H:Z) (R:It->Z->Prop),j9 X aS σ H s->wi σ H R->
  wpAny (model X.prog X.w) X.A (eval iter X.env) (λv s1=>wpAny (model X.prog X.w) X.A (pyIter v) (PIE X aS σ tg R) X.xe s1) X.xe s
def JA{M:Model}{A:Around}{E:w0e}{s:Shared}{tg:Expr}{it:Addr}{u:Value}{o:Obj}{n:String}{vs:Array Value}{Q:Unit->Shared->Prop}(ho:s.heap.get? it=some o)(hc:o.cls=.type n)(hd:o.data=.fields vs)
    (hn:["enumerate","zip","dict_itemiterator","dict_reverseitemiterator","odict_iterator","itertools.zip_longest","itertools.pairwise"].contains n=false) (hQ:Q () s):wpAny M A (letOwnedTupleGo tg (.ref it) u) Q E s:=by
 unfold letOwnedTupleGo;cases tg <;>first
  | exact wpAny_pure hQ
  | (cases u <;>first
      | exact wpAny_pure hQ
      | (show wpAny_bind (wpAny_load ho ?_)
         rw[hc,hd];show wpAny M A (if(["enumerate","zip","dict_itemiterator","dict_reverseitemiterator","odict_iterator","itertools.zip_longest","itertools.pairwise"].contains n && vs[0]? == some (rawInt _))=true then _ else _) Q E s;rw[if_neg<|by intro h;rw[hn,Bool.false_and]at h;cases h];exact wpAny_pure hQ))
def UH(K:aa)(a:Addr):It:=
 ⟨λi H=>∃xs x,y8 K H a xs/\xs[i]? = some x,λi H x H'=>H'=H/\∀xs,y8 K H a xs->xs[i]? = some x,λi H=>∃xs,y8 K H a xs/\xs.length<=i⟩
def UG(K:aa)(a:Addr):It:=
 ⟨λi H=>∃xs x,y4 K H a xs/\xs[i]? = some x,λi H x H'=>H'=H/\∀xs,y4 K H a xs->xs[i]? = some x,λi H=>∃xs,y4 K H a xs/\xs.length<=i⟩
def QU(lo:Int)(n:Nat):It:=⟨λi _=>i < n,λi H x H'=>H'=H/\x=.int (lo+i),λi _=>n<=i⟩
def Mg{P:Program}{w:World}{K:aa}{tg:Expr}(a it:Addr):GC P w K tg (UH K a) [it] it (λi h=>h.IsListIter it a i)where
 mem:=by simp
 obj:=λi h st b hb=>by
  have e:b=it:=by simpa using hb
  subst e;obtain⟨o,e,c,d⟩:=st;exact⟨o,e,λv z=>by rw[d]at z;cases z⟩
 keep:=λi h h' st k=>st.at λo e=>k it (by simp) o e
 item:=by
  intro X hP hw hK hc i aS s σ H E I hf st hg;subst hP hw hK;obtain⟨xs,x,hq,hx⟩:=hg;obtain⟨di,rv,p,hz⟩:=I.list hq;obtain⟨u,hu,ru⟩:=rv.get hx;obtain⟨f0,f1,f2,f3,f4,f5⟩:=hf it (by simp);show wpAny_pyNext_list_item st p.isList (x:=u) (by simpa using hu) λh' fk sb=>?_;have I1:j9 X aS σ H { s with heap:=h' }:=I.turned (t':=s.toks) (λb o hb e=>(sb.2 b hb).trans e) f0 f1 f3 f4 f5;obtain⟨o,e,c,d⟩:=id fk;exact⟨u,Y,JA (s:={ s with heap:=h' }) e c d bD ⟨x,H,I1,ru,⟨Y,λys hy=>by rw[I.list_inj hy hq];exact hx⟩,fk,λb hb=>(hf b hb).1⟩⟩
 done:=by intro X hP hw hK hc i aS s σ H E I hf st hg;subst hP hw hK;obtain⟨xs,hq,hx⟩:=hg;obtain⟨di,rv,p,hz⟩:=I.list hq;obtain⟨f0,f1,f2,f3,f4,f5⟩:=hf it (by simp);have hl:=rv.length;exact wpAny_pyNext_list_end (I.ok.hd hc) st p.isList (by simp;omega) λh' eb=>⟨Y,I.turned (t':=s.toks) (λb o hb e=>eb b o hb e) f0 f1 f3 f4 f5⟩
 self:=λ_ _ _ _ _ st h=>wpAny_pyIter_listiter st h
def Kb{P:Program}{w:World}{K:aa}{tg:Expr}(a it:Addr):GC P w K tg (UG K a) [it] it (λi h=>h.IsTupleIter it a i)where
 mem:=by simp
 obj:=λi h st b hb=>by
  have e:b=it:=by simpa using hb
  subst e;obtain⟨o,e,c,d⟩:=st;exact⟨o,e,λv z=>by rw[d]at z;cases z⟩
 keep:=λi h h' st k=>st.at λo e=>k it (by simp) o e
 item:=by
  intro X hP hw hK hc i aS s σ H E I hf st hg;subst hP hw hK;obtain⟨xs,x,hq,hx⟩:=hg;obtain⟨di,rv,p,hz⟩:=I.tuple hq;obtain⟨u,hu,ru⟩:=rv.get hx;obtain⟨f0,f1,f2,f3,f4,f5⟩:=hf it (by simp);show wpAny_pyNext_tuple_item st (show s.heap.IsTuple a di.toArray from p) (x:=u) (by simpa using hu) λh' fk sb=>?_;have I1:j9 X aS σ H { s with heap:=h' }:=I.turned (t':=s.toks) (λb o hb e=>(sb.2 b hb).trans e) f0 f1 f3 f4 f5;obtain⟨o,e,c,d⟩:=id fk;exact⟨u,Y,JA (s:={ s with heap:=h' }) e c d bD ⟨x,H,I1,ru,⟨Y,λys hy=>by rw[I.tuple_inj hy hq];exact hx⟩,fk,λb hb=>(hf b hb).1⟩⟩
 done:=by intro X hP hw hK hc i aS s σ H E I hf st hg;subst hP hw hK;obtain⟨xs,hq,hx⟩:=hg;obtain⟨di,rv,p,hz⟩:=I.tuple hq;obtain⟨f0,f1,f2,f3,f4,f5⟩:=hf it (by simp);have hl:=rv.length;exact wpAny_pyNext_tuple_end (I.ok.hd hc) st (show s.heap.IsTuple a di.toArray from p) (by simp;omega) λh' eb=>⟨Y,I.turned (t':=s.toks) (λb o hb e=>eb b o hb e) f0 f1 f3 f4 f5⟩
 self:=λ_ _ _ _ _ st h=>wpAny_pyIter_tupleiter st h
def Kc{P:Program}{w:World}{K:aa}{tg:Expr}(it:Addr)(lo:Int)(n:Nat):GC P w K tg (QU lo n) [it] it (λi h=>IsRangeIter h it (lo+(i:Nat) * 1) ((n:Int) - (i:Nat)) 1)where
 mem:=by simp
 obj:=λi h st b hb=>by
  have e:b=it:=by simpa using hb
  subst e;exact⟨_,st,λv z=>by
   have z':Data.fields _=Data.cell v:=z;cases z'⟩
 keep:=λi h h' st k=>k it (by simp) _ st
 item:=by
  intro X hP hw hK hc i aS s σ H E I hf st hg;subst hP hw hK;obtain⟨f0,f1,f2,f3,f4,f5⟩:=hf it (by simp);have W:=Walks.range (prog:=X.prog) (w:=X.w) (I.ok.hd hc) it lo 1 n;show W.item i s _ _ hg st λv h' tk hv fk kk=>?_;obtain⟨t,rfl⟩:=hv;have I1:j9 X aS σ H { s with heap:=h',toks:=tk }:=I.turned (λb o hb e=>kk b o (by simpa using hb) e) f0 f1 f3 f4 f5;show⟨_,Y,JA (s:={ s with heap:=h',toks:=tk }) (n:="range_iterator") fk Y Y bD ⟨.int<|lo+i,H,I1,⟨t,?_⟩,⟨Y,Y⟩,fk,λb hb=>(hf b hb).1⟩⟩;rw[Int.mul_one]
 done:=by intro X hP hw hK hc i aS s σ H E I hf st hg;subst hP hw hK;obtain⟨f0,f1,f2,f3,f4,f5⟩:=hf it (by simp);exact wpAny_pyNext_range_end (I.ok.hd hc) st (by have:n<=i:=hg;omega) λh' eb=>⟨Y,I.turned (t':=s.toks) (λb o hb e=>eb b o hb e) f0 f1 f3 f4 f5⟩
 self:=λ_ _ _ _ _ st h=>wpAny_pyIter_rangeiter st h
section
variable{X:Cx}{tg:Expr}
def b0z(K:aa)(tl:TE):TI:=λσ H R=>tl σ H λx H1=>∃a,x=.ref a/\(∃xs,y8 K H1 a xs)/\R (UH K a) H1
def iTup(K:aa)(tl:TE):TI:=λσ H R=>tl σ H λx H1=>∃a,x=.ref a/\(∃xs,y4 K H1 a xs)/\R (UG K a) H1
def Bh{l:Expr}{tl:TE}(hl:PE X l tl):PI X tg l (b0z X.K tl):=by
 intro aS s σ H R I h;show y6 (hl aS s σ H _ I h) λv s1 ⟨x,H1,I1,r1,q1⟩=>?_;obtain⟨a,e,⟨xs,hq⟩,q⟩:=q1;subst e;cases r1;obtain⟨di,rv,p,hz⟩:=I1.list hq;show wpAny_pyIter_list p.isList ?_;show⟨s1.heap.objs.size,[s1.heap.objs.size],za ⟨H1,Y,I1.kept (t':=s1.toks) λb o e=>ak _ e,Mg a _,⟨_,aB _ Y,Y,Y⟩,λb hb=>?_,q⟩⟩;have e:b=s1.heap.objs.size:=by simpa using hb
 subst e;exact I1.fpOk (ae _) (I1.hok.fresh<|ae _)
def Hy{l:Expr}{tl:TE}(hl:PE X l tl):PI X tg l (iTup X.K tl):=by
 intro aS s σ H R I h;show y6 (hl aS s σ H _ I h) λv s1 ⟨x,H1,I1,r1,q1⟩=>?_;obtain⟨a,e,⟨xs,hq⟩,q⟩:=q1;subst e;cases r1;obtain⟨di,rv,p,hz⟩:=I1.tuple hq;show wpAny_pyIter_tuple (show s1.heap.IsTuple a di.toArray from p) ?_;show⟨s1.heap.objs.size,[s1.heap.objs.size],za ⟨H1,Y,I1.kept (t':=s1.toks) λb o e=>ak _ e,Kb a _,⟨_,aB _ Y,Y,Y⟩,λb hb=>?_,q⟩⟩;have e:b=s1.heap.objs.size:=by simpa using hb
 subst e;exact I1.fpOk (ae _) (I1.hok.fresh<|ae _)
def IW{aS:w0d}{σ:St}{H:Z}{s:Shared}{R:It->Z->Prop}{E:w0e}{lo hi:Int}{t u v:Tok}{tk:Nat}(I:j9 X aS σ H s)(h1:-(2 ^ 62)<=lo)(h2:lo < 2 ^ 62)(h3:-(2 ^ 62)<=hi)(h4:hi < 2 ^ 62)
    (q:R (QU lo (hi - lo).toNat) H):wpAny (model X.prog X.w) X.A (pyIter<|.ref s.heap.objs.size) (PIE X aS σ tg R) E { s with heap:=s.heap.push { cls:=.type "range",data:=.fields #[.int lo t,.int hi u,.int 1 v] },toks:=tk }:=by
 show wpAny_pyIter_range (IsRange.new ..) (small_one h1 h2 h3 h4) ?_;have I1:j9 X aS σ H { s with heap:=s.heap.push { cls:=.type "range",data:=.fields #[.int lo t,.int hi u,.int 1 v] },toks:=tk }:=I.kept λb o e=>ak _ e;show⟨(s.heap.push { cls:=.type "range",data:=.fields #[.int lo t,.int hi u,.int 1 v] }).objs.size,[(s.heap.push { cls:=.type "range",data:=.fields #[.int lo t,.int hi u,.int 1 v] }).objs.size],za ⟨H,Y,
  I1.kept (t':=tk) λb o e=>ak _ e,Kc _ lo (hi - lo).toNat,?_,λb hb=>?_,q⟩⟩
 . have e1:lo+((0:Nat):Int) * 1=lo:=by simp
   have e2:(((hi - lo).toNat:Nat):Int) - ((0:Nat):Int)=Builtin.Range.rangeSize lo hi 1:=by rw[rangeSize_one];split <;>omega
   show IsRangeIter _ _ (lo+((0:Nat):Int) * 1) ((((hi - lo).toNat:Nat):Int) - ((0:Nat):Int)) 1;rw[e1,e2];exact aB _ rfl
 . have e:b=(s.heap.push { cls:=.type "range",data:=.fields #[.int lo t,.int hi u,.int 1 v] }).objs.size:=by simpa using hb
   subst e;exact I1.fpOk (ae _) (I1.hok.fresh<|ae _)
def b0y(ta:TA):TI:=λσ H R=>ta σ H λvs H1=>∃j:Int,vs=[.int j]/\-(2 ^ 62)<=j/\j < 2 ^ 62/\R (QU 0 j.toNat) H1
def b0x(ta:TA):TI:=λσ H R=>ta σ H λvs H1=>∃i j:Int,vs=[.int i,.int j]/\(-(2 ^ 62)<=i/\i < 2 ^ 62/\-(2 ^ 62)<=j/\j < 2 ^ 62)/\R (QU i (j - i).toNat) H1
def O8{a:Expr}{ta:TA}{p pos:Pos}(hg:Gl X "range")(hm:X.mg "range"=none)(ha:PA X [a] ta)(hs:starEach [a] X.env=[(false,eval a X.env)]:=by rfl):PI X tg (.Call (.Name "range" p) [a] [] pos) (b0y ta):=by
 intro aS s σ H R I h;show Call_<|DM I hg hm boot_range<|cR (y6 (ha pos aS s σ H _ I h) λus s1 ⟨vs,H1,I1,r1,q1⟩=>?_) hs Y;obtain⟨j,e,q1,q2,q⟩:=q1;subst e;cases r1 with
 | cons r rr=>
  cases rr;obtain⟨t,rfl⟩:=r;exact call_range_1 (IW I1 oM oM q1 q2<|by simpa using q)
def Dz{a b:Expr}{ta:TA}{p pos:Pos}(hg:Gl X "range")(hm:X.mg "range"=none)(ha:PA X [a,b] ta)(hs:starEach [a,b] X.env=[(false,eval a X.env),(false,eval b X.env)]:=by rfl)(iB:starEach [b] X.env=[(false,eval b X.env)]:=by rfl) :
    PI X tg (.Call (.Name "range" p) [a,b] [] pos) (b0x ta):=by
 intro aS s σ H R I h;show Call_ (DM I hg hm boot_range<|cR (y6 (ha pos aS s σ H _ I h) λus s1 ⟨vs,H1,I1,r1,q1⟩=>?_) (by rw[hs,iB])<|by rw[iB];rfl);obtain⟨i,j,e,⟨q1,q2,q3,q4⟩,q⟩:=q1;subst e;cases r1 with
 | cons r rr=>
  cases rr with
  | cons r' rr=>
   cases rr;obtain⟨t,rfl⟩:=r;obtain⟨t',rfl⟩:=r';exact call_range_2 (IW I1 q1 q2 q3 q4 q)
def tFor(wi:TI)(g:TG)(tb:TS):TS:=λD σ H=>wi σ H λJ H1=>∃W:Nat->Nat->St->Z->Prop,(∃m,W 0 m σ H1)/\∀i m σ H,W i m σ H->
 (J.stop i H/\D.nx σ H)\/(J.go i H/\∃N:St->Z->Prop,(∀σ' H',N σ' H'->∃m',m' < m/\W (i+1) m' σ' H')/\∀x H',J.yld i H x H'->g x σ H' λσ2 H2=>tb { D with nx:=N,ct:=N,bk:=D.nx } σ2 H2)
def Fe(fp:List Addr)(h:Heap):w0d:=fp.filterMap λb=>(h.get? b).map λo=>(b,o)
def P0{fp:List Addr}{h:Heap}{b:Addr}{o:Obj}(hb:b∈fp)(e:h.get? b=some o):(b,o)∈Fe fp h:=cz.mpr ⟨b,hb,by rw[e];rfl⟩
def MB{fp:List Addr}{h:Heap}{p:Addr × Obj}(hp:p∈Fe fp h):p.1∈fp/\h.get? p.1=some p.2:=by
 obtain⟨b,hb,e⟩:=cz.mp hp;cases q:h.get? b with
 | none=>rw[q]at e;cases e
 | some o=>
  rw[q]at e;have e':(b,o)=p:=Option.some.inj e;subst e';exact⟨hb,q⟩
def j9.pinned{aS:w0d}{σ:St}{H:Z}{s:Shared}{fp:List Addr}(I:j9 X aS σ H s)(hf:∀b∈fp,L7 X aS H b)(ho:∀b∈fp,∃o,s.heap.get? b=some o/\∀v,o.data≠.cell v):j9 X (aS++Fe fp s.heap) σ H s:=
 I.pins_of λp hp=>(aw.mp hp).elim (λz=>I.pin p<|ar _ z) λz=>by
  obtain⟨hb,e⟩:=MB z;obtain⟨f0,f1,f2,_⟩:=hf p.1 hb;obtain⟨o,e',d⟩:=ho p.1 hb;rw[e]at e';cases e';exact⟨e,f0,f1,f2,d⟩
def j9.unpinned{aS pl:w0d}{σ:St}{H:Z}{s:Shared}(I:j9 X (aS++pl) σ H s):j9 X aS σ H s:=I.pins_of λp hp=>I.pin p (ar _<|aF _ hp)
def K7{iter:Expr}{body:List Stmt}{wi:TI}{g:TG}{tb:TS}{pos:Pos}(hp:PassesOwn (model X.prog X.w) X.A X.env X.xe)(hc:X.calm=true)(hi:PI X tg iter wi)(hg:PG X tg g)(hb:GD X body tb)
    (hs:∀x,foldedSetIterable iter X.env x=pure x:=by intro _;rfl):PS X (.For tg iter body [] pos) (tFor wi g tb):=by
 intro aS s σ H D I h;show wpAny_For (y6 (hi aS s σ H _ I h) λv s1 h1=>y6 h1 λkd s2 h2=>?_) hs;obtain⟨it,fp,tn,J,H2,e,I2,T,eY,f2,W,⟨m0,w0⟩,eB⟩:=h2;subst e;have eM:∀{H':Z},(∀b∈fp,H' b=none)->∀b∈fp,L7 X aS H' b:=λhn b hb=>⟨hn b hb,(f2 b hb).2⟩;show codeAny_forLoop_any (λn s'=>∃i σ' H',j9 X aS σ' H' s'/\tn i s'.heap/\(∀b∈fp,H' b=none)/\W i n σ' H') ?_ m0 ⟨0,σ,H2,I2,eY,λb hb=>(f2 b hb).1,w0⟩;rintro n s3 ⟨i,σ3,H3,I3,pV,gm,w3⟩;rcases eB i n σ3 H3 w3 with ⟨stop,qn⟩ | ⟨go,N,hN,step⟩
 . show wpAny_passesOwn hp<|y6 (T.done X Y Y Y hc i aS s3 σ3 H3 X.xe I3 (eM gm) pV stop) λr s4 ⟨hr,I4⟩=>?_;subst hr;exact wpAny_execs_nil ⟨σ3,H3,I4,qn⟩
 . show wpAny_passesOwn hp<|y6 (T.item X Y Y Y hc i aS s3 σ3 H3 X.xe I3 (eM gm) pV go) λr s4 ⟨u,hr,h4⟩=>?_;subst hr;show wpAny_passesOwn hp<|y6 h4 λ_ s5 ⟨x,H5,I5,r5,y5,fL,iH⟩=>?_;have lq:=I5.pinned (eM iH)<|T.obj _ _ fL;show wpAny_passesOwn hp<|y6 (hg _ s5 σ3 H5 x u _ lq r5<|step x H5 y5) λ_ s6 ⟨σ6,H6,I6,q6⟩=>?_;show wpAny_passesOwn hp<|y6 (hb _ s6 σ6 H6 _ I6 q6) λf s7 q7=>?_;have again:∀{σ7:St} {H7:Z},j9 X (aS++Fe fp s5.heap) σ7 H7 s7->N σ7 H7->∃m,m < n/\∃i σ' H',j9 X aS σ' H' s7/\tn i s7.heap/\(∀b∈fp,H' b=none)/\W i m σ' H':=λ{σ7 H7} I7 n7=>by
    obtain⟨m',hm,w7⟩:=hN σ7 H7 n7;show⟨m',hm,i+1,σ7,H7,I7.unpinned,T.keep _ _ _ fL λb hb o e=>(I7.pin (b,o)<|ar _<|ar _<|P0 hb e).1,λb hb=>?_,w7⟩;obtain⟨o,e,d⟩:=T.obj _ _ fL b hb;exact(I7.pin (b,o)<|ar _<|ar _<|P0 hb e).2.1
   cases f with
   | next=>obtain⟨σ7,H7,I7,n7⟩:=q7;exact again I7 n7
   | cont=>obtain⟨σ7,H7,I7,n7⟩:=q7;exact again I7 n7
   | brk=>obtain⟨σ7,H7,I7,q7⟩:=q7;exact⟨σ7,H7,I7.unpinned,q7⟩
   | ret v=>exact q7
end
def Da{K:aa}{a:Addr}{xs:List V}{g:TG}{tb:TS}{D:DS}{σ:St}{H:Z}(Pv:Nat->St->Z->Prop)(h0:Pv 0 σ H)(hl:∀i σ H,i<=xs.length->Pv i σ H->y8 K H a xs)
    (hs:∀i x σ H,xs[i]? = some x->Pv i σ H->g x σ H λσ2 H2=>tb { D with nx:=Pv<|i+1,ct:=Pv<|i+1,bk:=D.nx } σ2 H2) (hd:∀σ H,Pv xs.length σ H->D.nx σ H) :
    ∃W:Nat->Nat->St->Z->Prop,(∃m,W 0 m σ H)/\∀i m σ H,W i m σ H->
     ((UH K a).stop i H/\D.nx σ H)\/((UH K a).go i H/\∃N:St->Z->Prop,(∀σ' H',N σ' H'->∃m',m' < m/\W (i+1) m' σ' H')/\∀x H',(UH K a).yld i H x H'->g x σ H' λσ2 H2=>tb { D with nx:=N,ct:=N,bk:=D.nx } σ2 H2):=by
 show⟨λi m σ H=>m=xs.length - i/\i<=xs.length/\Pv i σ H,⟨xs.length,by simp,aU _,h0⟩,?_⟩;rintro i m σ H ⟨rfl,hi,p⟩;have q:=hl i σ H hi p;by_cases el:i < xs.length
 . show .inr ⟨⟨xs,xs[i],q,by simp[el]⟩,Pv<|i+1,λσ' H' p'=>⟨xs.length - (i+1),oM,Y,el,p'⟩,λx H' y=>?_⟩;obtain⟨e,y⟩:=y;subst e;exact hs i x σ _ (y xs q) p
 . have e:i=xs.length:=by omega
   subst e;exact .inl ⟨⟨xs,q,ae _⟩,hd σ H p⟩
def QG{K:aa}{a:Addr}{xs:List V}{g:TG}{tb:TS}{D:DS}{σ:St}{H:Z}(Pv:Nat->St->Z->Prop)(h0:Pv 0 σ H)(hl:∀i σ H,i<=xs.length->Pv i σ H->y4 K H a xs)
    (hs:∀i x σ H,xs[i]? = some x->Pv i σ H->g x σ H λσ2 H2=>tb { D with nx:=Pv<|i+1,ct:=Pv<|i+1,bk:=D.nx } σ2 H2) (hd:∀σ H,Pv xs.length σ H->D.nx σ H) :
    ∃W:Nat->Nat->St->Z->Prop,(∃m,W 0 m σ H)/\∀i m σ H,W i m σ H->
     ((UG K a).stop i H/\D.nx σ H)\/((UG K a).go i H/\∃N:St->Z->Prop,(∀σ' H',N σ' H'->∃m',m' < m/\W (i+1) m' σ' H')/\∀x H',(UG K a).yld i H x H'->g x σ H' λσ2 H2=>tb { D with nx:=N,ct:=N,bk:=D.nx } σ2 H2):=by
 show⟨λi m σ H=>m=xs.length - i/\i<=xs.length/\Pv i σ H,⟨xs.length,by simp,aU _,h0⟩,?_⟩;rintro i m σ H ⟨rfl,hi,p⟩;have q:=hl i σ H hi p;by_cases el:i < xs.length
 . show .inr ⟨⟨xs,xs[i],q,by simp[el]⟩,Pv<|i+1,λσ' H' p'=>⟨xs.length - (i+1),oM,Y,el,p'⟩,λx H' y=>?_⟩;obtain⟨e,y⟩:=y;subst e;exact hs i x σ _ (y xs q) p
 . have e:i=xs.length:=by omega
   subst e;exact .inl ⟨⟨xs,q,ae _⟩,hd σ H p⟩
def E7{lo:Int}{n:Nat}{g:TG}{tb:TS}{D:DS}{σ:St}{H:Z}(Pv:Nat->St->Z->Prop)(h0:Pv 0 σ H)
    (hs:∀i σ H,i < n->Pv i σ H->g (.int<|lo+i) σ H λσ2 H2=>tb { D with nx:=Pv<|i+1,ct:=Pv<|i+1,bk:=D.nx } σ2 H2) (hd:∀σ H,Pv n σ H->D.nx σ H) :
    ∃W:Nat->Nat->St->Z->Prop,(∃m,W 0 m σ H)/\∀i m σ H,W i m σ H->
     ((QU lo n).stop i H/\D.nx σ H)\/((QU lo n).go i H/\∃N:St->Z->Prop,(∀σ' H',N σ' H'->∃m',m' < m/\W (i+1) m' σ' H')/\∀x H',(QU lo n).yld i H x H'->g x σ H' λσ2 H2=>tb { D with nx:=N,ct:=N,bk:=D.nx } σ2 H2):=by
 show⟨λi m σ H=>m=n - i/\i<=n/\Pv i σ H,⟨n,by simp,aU _,h0⟩,?_⟩;rintro i m σ H ⟨rfl,hi,p⟩;by_cases el:i < n
 . show .inr ⟨el,Pv<|i+1,λσ' H' p'=>⟨n - (i+1),oM,Y,el,p'⟩,λx H' y=>?_⟩;obtain⟨e,y⟩:=y;subst e y;exact hs i σ _ el p
 . have e:i=n:=by omega
   subst e;exact .inl ⟨ae _,hd σ H p⟩
abbrev R2:=V->V->Z->VK->Prop
def Aw(X:Cx)(f:Value->Value->Sem Value)(r:R2):Prop:=
 ∀(aS:w0d) (s:Shared) (σ:St) (H:Z) (x y:V) (v u:Value) (Q:VK),j9 X aS σ H s->p6 x v->p6 y u->r x y H Q->
  wpAny (model X.prog X.w) X.A (f v u) (EP X aS σ Q) X.xe s
def UnR(X:Cx)(f:Value->Sem Value)(r:V->Z->VK->Prop):Prop:=
 ∀(aS:w0d) (s:Shared) (σ:St) (H:Z) (x:V) (v:Value) (Q:VK),j9 X aS σ H s->p6 x v->r x H Q->
  wpAny (model X.prog X.w) X.A (f v) (EP X aS σ Q) X.xe s
def Q5(X:Cx)(f:Value)(r:List V->Z->VK->Prop):Prop:=
 ∀(aS:w0d) (s:Shared) (σ:St) (H:Z) (xs:List V) (us:w0i) (Q:VK),j9 X aS σ H s->o8 xs us->r xs H Q->
  wpAny (model X.prog X.w) X.A (call f us) (EP X aS σ Q) X.xe s
def TruR(X:Cx)(r:V->Z->(Bool->Z->Prop)->Prop):Prop:=
 ∀(aS:w0d) (s:Shared) (σ:St) (H:Z) (x:V) (v:Value) (Q:Bool->Z->Prop),j9 X aS σ H s->p6 x v->r x H Q->
  wpAny (model X.prog X.w) X.A (truthy v) (TP X aS σ Q) X.xe s
def Pz(r:R2)(ta tb:TE):TE:=λσ H Q=>ta σ H λx H1=>tb σ H1 λy H2=>r x y H2 Q
def tUn(r:V->Z->VK->Prop)(ta:TE):TE:=λσ H Q=>ta σ H λx H1=>r x H1 Q
def rI(C:Int->Int->Prop)(g:Int->Int->V):R2:=λx y H Q=>∃i j,x=.int i/\y=.int j/\C i j/\Q (g i j) H
def PU(g:Int->Int->V):R2:=λx y H Q=>∃i j,x=.int i/\y=.int j/\Q (g i j) H
def rU(g:Int->V):V->Z->VK->Prop:=λx H Q=>∃i,x=.int i/\Q (g i) H
section
variable{X:Cx}{a b c:Expr}{ta tb tc:TE}{pos:Pos}
def UC(ha:PE X a ta)(hb:PE X b tb){aS:w0d}{s:Shared}{σ:St}{H:Z}{R:V->V->Z->Prop}(I:j9 X aS σ H s)
    (h:ta σ H λx H1=>tb σ H1 λy H2=>R x y H2) {Q:w0e} {f:Value->Value->Sem Value}
    (hf:∀v u s2 x y H2,j9 X aS σ H2 s2->p6 x v->p6 y u->R x y H2->wpAny (model X.prog X.w) X.A (f v u) Q X.xe s2) :
    wpAny (model X.prog X.w) X.A (eval a X.env) (λv s₁=>wpAny (model X.prog X.w) X.A (eval b X.env) (λu s₂=>wpAny (model X.prog X.w) X.A (f v u) Q X.xe s₂) X.xe s₁) X.xe s:=by
 show y6 (ha aS s σ H _ I h) λv s1 ⟨x,H1,I1,r1,q1⟩=>?_;show y6 (hb aS s1 σ H1 _ I1 q1) λu s2 ⟨y,H2,I2,r2,q2⟩=>?_;exact hf v u s2 x y H2 I2 r1 r2 q2
def l5{op:Operator}{r:R2}(ho:Aw X (binaryOp op) r)(ha:PE X a ta)(hb:PE X b tb):PE X (.BinOp a op b pos) (Pz r ta tb):=by intro aS s σ H Q I h;exact wpAny_BinOp (UC ha hb I h λv u s2 x y H2 I2 rx ry q=>ho aS s2 σ H2 x y v u Q I2 rx ry q)
def Fg{op:UnaryOp}{r:V->Z->VK->Prop}(ho:UnR X (unaryOp op) r)(ha:PE X a ta):PE X (.UnaryOp op a pos) (tUn r ta):=by intro aS s σ H Q I h;exact UnaryOp_ (y6 (ha aS s σ H _ I h) λv s1 ⟨x,H1,I1,r1,q1⟩=>ho aS s1 σ H1 x v Q I1 r1 q1)
def WJ{f:Value->Value->Sem Value}{C:Int->Int->Prop}{g:Int->Int->Int}
    (rule:∀(i j:Int) (t u:Tok) (s:Shared) (Q:w0e) (E:w0e),C i j->Q (.int (g i j) s.toks) { s with toks:=s.toks+1 }->wpAny (model X.prog X.w) X.A (f (.int i t)<|.int j u) Q E s) :
    Aw X f (rI C λi j=>.int<|g i j):=by
 intro aS s σ H x y v u Q I rx ry h;obtain⟨i,j,rfl,rfl,hc,q⟩:=h;obtain⟨t,rfl⟩:=rx;obtain⟨t',rfl⟩:=ry;exact rule i j t t' s _ _ hc ⟨.int<|g i j,H,I.tok _,⟨_,Y⟩,q⟩
def WI{f:Value->Value->Sem Value}{g:Int->Int->Int}
    (rule:∀(i j:Int) (t u:Tok) (s:Shared) (Q:w0e) (E:w0e),Q (.int (g i j) s.toks) { s with toks:=s.toks+1 }->wpAny (model X.prog X.w) X.A (f (.int i t)<|.int j u) Q E s) :
    Aw X f (PU λi j=>.int<|g i j):=by
 intro aS s σ H x y v u Q I rx ry h;obtain⟨i,j,rfl,rfl,q⟩:=h;obtain⟨t,rfl⟩:=rx;obtain⟨t',rfl⟩:=ry;exact rule i j t t' s _ _ ⟨.int<|g i j,H,I.tok _,⟨_,Y⟩,q⟩
def Qj{f:Value->Value->Sem Value}{g:Int->Int->Bool}
    (rule:∀(i j:Int) (t u:Tok) (s:Shared) (Q:w0e) (E:w0e),Q (.bool<|g i j) s->wpAny (model X.prog X.w) X.A (f (.int i t)<|.int j u) Q E s) :
    Aw X f (PU λi j=>.bl<|g i j):=by
 intro aS s σ H x y v u Q I rx ry h;obtain⟨i,j,rfl,rfl,q⟩:=h;obtain⟨t,rfl⟩:=rx;obtain⟨t',rfl⟩:=ry;exact rule i j t t' s _ _ ⟨.bl<|g i j,H,I,Y,q⟩
def CPow(i j:Int):Prop:=0<=j/\j<=1000000/\i.natAbs < 2 ^ 64
def Nq(i j:Int):Prop:=(-(2 ^ 64) < i/\i < 2 ^ 64)\/(-(2 ^ 64) < j/\j < 2 ^ 64)
def Nq.ok{i j:Int}(h:Nq i j):IntMulOk i j:=by
 rcases h with ⟨h1,h2⟩ | ⟨h1,h2⟩
 . exact .of_left (intBits_le_64 h1 h2)
 . exact .of_right (intBits_le_64 h1 h2)
def z8:Aw X (binaryOp .Add) (PU λi j=>.int<|i+j):=WI λ_ _ _ _ _ _ _ q=>add_int q
def W3:Aw X (binaryOp .Sub) (PU λi j=>.int<|i - j):=WI λ_ _ _ _ _ _ _ q=>sub_int q
def DD:Aw X (binaryOp .Mult) (rI Nq λi j=>.int<|i * j):=WJ λ_ _ _ _ _ _ _ hc q=>mul_int q hc.ok
def F6:Aw X (binaryOp .Mod) (rI (λ_ j=>j≠0) λi j=>.int<|i.fmod j):=WJ λ_ _ _ _ _ _ _ hc q=>mod_int' hc q
def Tq:Aw X (binaryOp .Pow) (rI CPow λi j=>.int<|i ^ j.toNat):=WJ λ_ _ _ _ _ _ _ hc q=>pow_int_small hc.1 hc.2.1 hc.2.2 q
def unI{f:Value->Sem Value}{g:Int->Int}
    (rule:∀(i:Int) (t:Tok) (s:Shared) (Q:w0e) (E:w0e),Q (.int (g i) s.toks) { s with toks:=s.toks+1 }->wpAny (model X.prog X.w) X.A (f<|.int i t) Q E s) :
    UnR X f (rU λi=>.int<|g i):=by
 intro aS s σ H x v Q I rx h;obtain⟨i,rfl,q⟩:=h;obtain⟨t,rfl⟩:=rx;exact rule i t s _ _ ⟨.int<|g i,H,I.tok _,⟨_,Y⟩,q⟩
def BE:UnR X (unaryOp .USub) (rU λi=>.int<|-i):=unI λ_ _ _ _ _ q=>neg_int q
end
def VB:V->V->Bool
 | .non,.non=>true | .non,.int _=>true | .int _,.non=>true | .non,.bl _=>true | .bl _,.non=>true | .non,.str _=>true | .str _,.non=>true
 | .int _,.int _=>true | .bl _,.bl _=>true | .str _,.str _=>true | .byt _,.byt _=>true
 | .int _,.str _=>true | .str _,.int _=>true | .bl _,.str _=>true | .str _,.bl _=>true
 | _,_=>false
def rEq:R2:=λx y H Q=>VB x y=true/\Q (.bl<|decide<|x=y) H
def rNe:R2:=λx y H Q=>VB x y=true/\Q (.bl<|!decide (x=y)) H
def LS{i j:Int}:decide (V.int i=V.int j)=(i == j):=by rw[bX];simp
def OS{i j:Bool}:decide (V.bl i=V.bl j)=(i == j):=by rw[bX];simp
def LR{i j:Str}:decide (V.str i=V.str j)=(i == j):=by rw[bX];simp
def LU{i j:Array UInt8}:decide (V.byt i=V.byt j)=(i.toList == j.toList):=by rw[bX];cases i;cases j;simp
section
variable{X:Cx}{a b c:Expr}{ta tb tc:TE}{pos:Pos}
def w5{aS:w0d}{σ:St}{H:Z}{s:Shared}{Q:VK}{k k':Bool}(I:j9 X aS σ H s)(q:Q (.bl k) H)(e:k=k'):EP X aS σ Q (.bool k') s:=by subst e;exact⟨.bl k,H,I,Y,q⟩
def w8:Aw X (compareOp .Eq) rEq:=by
 intro aS s σ H x y v u Q I rx ry h;obtain⟨hs,q⟩:=h;cases x with
 | non=>
  cases rx;cases y with
  | non=>cases ry;exact PySem.EqNone.eq_none_none (w5 I q<|by simp)
  | bl j=>cases ry;exact PySem.EqNone.eq_none_bool (w5 I q<|by simp)
  | int j=>obtain⟨t',rfl⟩:=ry;exact PySem.EqNone.eq_none_int (w5 I q<|by simp)
  | str j=>obtain⟨t',rfl⟩:=ry;exact PySem.EqNone.eq_none_str (w5 I q<|by simp)
  | _=>exact absurd (show false=true from hs) aG
 | bl i=>
  cases rx;cases y with
  | non=>cases ry;exact PySem.EqNone.eq_bool_none (w5 I q<|by simp)
  | bl j=>cases ry;exact eq_bool (w5 I q OS)
  | str j=>obtain⟨t',rfl⟩:=ry;exact PySem.EqMixed.eq_bool_str (w5 I q<|by simp)
  | _=>exact absurd (show false=true from hs) aG
 | int i=>
  obtain⟨t,rfl⟩:=rx;cases y with
  | non=>cases ry;exact PySem.EqNone.eq_int_none (w5 I q<|by simp)
  | int j=>obtain⟨t',rfl⟩:=ry;exact eq_int (w5 I q LS)
  | str j=>obtain⟨t',rfl⟩:=ry;exact PySem.EqMixed.eq_int_str (w5 I q<|by simp)
  | _=>exact absurd (show false=true from hs) aG
 | str i=>
  obtain⟨t,rfl⟩:=rx;cases y with
  | non=>cases ry;exact PySem.EqNone.eq_str_none (w5 I q<|by simp)
  | bl j=>cases ry;exact PySem.EqMixed.eq_str_bool (w5 I q<|by simp)
  | int j=>obtain⟨t',rfl⟩:=ry;exact PySem.EqMixed.eq_str_int (w5 I q<|by simp)
  | str j=>obtain⟨t',rfl⟩:=ry;exact eq_str (w5 I q LR)
  | _=>exact absurd (show false=true from hs) aG
 | byt i=>
  obtain⟨t,rfl⟩:=rx;cases y with
  | byt j=>obtain⟨t',rfl⟩:=ry;exact PySem.W.eq_bytes (w5 I q LU)
  | _=>exact absurd (show false=true from hs) aG
 | _=>cases y <;>exact absurd (show false=true from hs) aG
def Jh:Aw X (compareOp .NotEq) rNe:=by
 intro aS s σ H x y v u Q I rx ry h;obtain⟨hs,q⟩:=h;cases x with
 | non=>
  cases rx;cases y with
  | non=>cases ry;exact PySem.EqNone.ne_none_none (w5 I q<|by simp)
  | bl j=>cases ry;exact PySem.EqNone.ne_none_bool (w5 I q<|by simp)
  | int j=>obtain⟨t',rfl⟩:=ry;exact PySem.EqNone.ne_none_int (w5 I q<|by simp)
  | str j=>obtain⟨t',rfl⟩:=ry;exact PySem.EqNone.ne_none_str (w5 I q<|by simp)
  | _=>exact absurd (show false=true from hs) aG
 | bl i=>
  cases rx;cases y with
  | non=>cases ry;exact PySem.EqNone.ne_bool_none (w5 I q<|by simp)
  | bl j=>cases ry;exact ne_bool (w5 I q<|congrArg not OS)
  | str j=>obtain⟨t',rfl⟩:=ry;exact PySem.EqMixed.ne_bool_str (w5 I q<|by simp)
  | _=>exact absurd (show false=true from hs) aG
 | int i=>
  obtain⟨t,rfl⟩:=rx;cases y with
  | non=>cases ry;exact PySem.EqNone.ne_int_none (w5 I q<|by simp)
  | int j=>obtain⟨t',rfl⟩:=ry;exact ne_int (w5 I q<|congrArg not LS)
  | str j=>obtain⟨t',rfl⟩:=ry;exact PySem.EqMixed.ne_int_str (w5 I q<|by simp)
  | _=>exact absurd (show false=true from hs) aG
 | str i=>
  obtain⟨t,rfl⟩:=rx;cases y with
  | non=>cases ry;exact PySem.EqNone.ne_str_none (w5 I q<|by simp)
  | bl j=>cases ry;exact PySem.EqMixed.ne_str_bool (w5 I q<|by simp)
  | int j=>obtain⟨t',rfl⟩:=ry;exact PySem.EqMixed.ne_str_int (w5 I q<|by simp)
  | str j=>obtain⟨t',rfl⟩:=ry;exact ne_str (w5 I q<|congrArg not LR)
  | _=>exact absurd (show false=true from hs) aG
 | byt i=>
  obtain⟨t,rfl⟩:=rx;cases y with
  | byt j=>obtain⟨t',rfl⟩:=ry;exact PySem.W.ne_bytes (w5 I q<|congrArg not LU)
  | _=>exact absurd (show false=true from hs) aG
 | _=>cases y <;>exact absurd (show false=true from hs) aG
def Fj:Aw X (compareOp .Lt) (PU λi j=>.bl<|decide<|i < j):=Qj λ_ _ _ _ _ _ _ q=>lt_int q
def Rj:Aw X (compareOp .LtE) (PU λi j=>.bl<|decide<|i<=j):=Qj λ_ _ _ _ _ _ _ q=>le_int q
def CG:Aw X (compareOp .Gt) (PU λi j=>.bl<|decide<|j < i):=Qj λ_ _ _ _ _ _ _ q=>gt_int q
def WH:Aw X (compareOp .GtE) (PU λi j=>.bl<|decide<|j<=i):=Qj λ_ _ _ _ _ _ _ q=>ge_int q
def Mz:Aw X (compareOp .In) (λx y H Q=>∃i j,x=.str i/\y=.str j/\Q (.bl<|!(Builtin.Str.occurrences j i 0 j.length 1).isEmpty) H):=by intro aS s σ H x y v u Q I rx ry h;obtain⟨i,j,rfl,rfl,q⟩:=h;obtain⟨t,rfl⟩:=rx;obtain⟨t',rfl⟩:=ry;exact in_str (w5 I q Y)
def AQ:Aw X (compareOp .Is) (λx y H Q=>y=.non/\Q (.bl<|decide<|x=.non) H):=by
 intro aS s σ H x y v u Q I rx ry h;obtain⟨rfl,q⟩:=h;cases ry;show is_none_gen<|w5 I q ?_;cases x <;>first
  | (cases rx;rfl)
  | (obtain⟨t,rfl⟩:=rx;rfl)
def Qi:Aw X (compareOp .IsNot) (λx y H Q=>y=.non/\Q (.bl<|!decide (x=.non)) H):=by
 intro aS s σ H x y v u Q I rx ry h;obtain⟨rfl,q⟩:=h;cases ry;show isnot_none_gen<|w5 I q ?_;cases x <;>first
  | (cases rx;rfl)
  | (obtain⟨t,rfl⟩:=rx;rfl)
def HC:Aw X (compareOp .NotIn) (λx y H Q=>∃i j,x=.str i/\y=.str j/\Q (.bl<|!(!(Builtin.Str.occurrences j i 0 j.length 1).isEmpty)) H):=by intro aS s σ H x y v u Q I rx ry h;obtain⟨i,j,rfl,rfl,q⟩:=h;obtain⟨t,rfl⟩:=rx;obtain⟨t',rfl⟩:=ry;exact notIn_str (w5 I q rfl)
def Aw.or{f:Value->Value->Sem Value}{r r':R2}(h:Aw X f r)(h':Aw X f r'):Aw X f (λx y H Q=>r x y H Q\/r' x y H Q):=by
 intro aS s σ H x y v u Q I rx ry q;rcases q with q | q
 . exact h aS s σ H x y v u Q I rx ry q
 . exact h' aS s σ H x y v u Q I rx ry q
def j7(b:Expr){op:CmpOp}(h:op≠.In:=by decide)(h2:op≠.NotIn:=by decide):behindInMarks op b=false:=by
 have e1:(op == CmpOp.In)=false:=by cases op <;>first | rfl | exact absurd rfl h
 have e2:(op == CmpOp.NotIn)=false:=by cases op <;>first | rfl | exact absurd rfl h2
 cases b <;>simp[behindInMarks,e1,e2]
def O0{op:CmpOp}{r:R2}(ho:Aw X (compareOp op) r)(ha:PE X a ta)(hb:PE X b tb)(hm:behindInMarks op b=false):PE X (.Compare a [op] [b] pos) (Pz r ta tb):=by intro aS s σ H Q I h;exact wpAny_Compare1 (UC ha hb I h λv u s2 x y H2 I2 rx ry q=>ho aS s2 σ H2 x y v u Q I2 rx ry q) hm
def QZ(t:TE):TT:=λσ H Q=>t σ H λx H'=>∃k,x=.bl k/\Q k H'
def c9{op:CmpOp}{r:R2}(ho:Aw X (compareOp op) r)(ha:PE X a ta)(hb:PE X b tb)(hm:behindInMarks op b=false):PT X (.Compare a [op] [b] pos) (QZ<|Pz r ta tb):=by
 intro aS s σ H Q I h;show wpAny_isTrue_Compare1 (y6 (ha aS s σ H _ I h) λv s1 ⟨x,H1,I1,r1,q1⟩=>y6 (hb aS s1 σ H1 _ I1 q1) λu s2 ⟨y,H2,I2,r2,q2⟩=>
  y6 (ho aS s2 σ H2 x y v u _ I2 r1 r2 q2) λc s3 ⟨z,H3,I3,r3,k,e,q3⟩=>?_) hm
 subst e;cases r3;exact wpAny_truthy_bool ⟨H3,I3,q3⟩
def RI(r r':R2)(ta tb tc:TE):TE:=λσ H Q=>ta σ H λx H1=>tb σ H1 λy H2=>r x y H2 λz H3=>∃k,z=.bl k/\
 (if k=true then tc σ H3 λw' H4=>r' y w' H4 Q else Q (.bl false) H3)
def Ot{op ny:CmpOp}{r r':R2}(ho:Aw X (compareOp op) r)(ie:Aw X (compareOp ny) r')(ha:PE X a ta)(hb:PE X b tb)(hc:PE X c tc)
    (hm:lastMarks [op,ny] [b,c]=false:=by with_unfolding_all rfl):PE X (.Compare a [op,ny] [b,c] pos) (RI r r' ta tb tc):=by
 intro aS s σ H Q I h;show Compare_chain (y6 (ha aS s σ H _ I h) λv s1 ⟨x,H1,I1,r1,q1⟩=>chain_link (y6 (hb aS s1 σ H1 _ I1 q1) λu s2 ⟨y,H2,I2,r2,q2⟩=>
  y6 (ho aS s2 σ H2 x y v u _ I2 r1 r2 q2) λd s3 ⟨z,H3,I3,r3,k,e,q3⟩=>?_)) hm
 subst e;cases r3;show wpAny_truthy_bool ?_;cases k with
 | false=>exact ite_ff ⟨.bl false,H3,I3,Y,q3⟩
 | true=>exact ite_tt (chain_last<|y6 (hc aS s3 σ H3 _ I3 q3) λw' s4 ⟨z',H4,I4,r4,q4⟩=>ie aS s4 σ H4 y z' u w' Q I4 r2 r4 q4)
def TruV(K:aa)(x:V)(H:Z)(k:Bool):Prop:=
 match x with
 | .non=>k=false
 | .bl b=>k=b
 | .int i=>k=(i != 0)
 | .str y=>y.length<=sizeLine/\k=((y.length:Int) != 0)
 | .byt y=>y.size<=sizeLine/\k=((y.size:Int) != 0)
 | .ref p=>(∃xs,y8 K H p xs/\k = !xs.isEmpty)\/(∃xs,y4 K H p xs/\k = !xs.isEmpty)\/∃bY,H p=some (.dK bY)/\k = !bY.isEmpty
 | _=>False
def KW{κ:Type}{bY:List (κ × V)}{vs:List (κ × Value)}(r:KV bY vs):(!vs.isEmpty) = !bY.isEmpty:=by
 cases r <;>rfl
def FI{xs:List V}{di:w0i}(r:o8 xs di):(!di.toArray.isEmpty) = !xs.isEmpty:=by
 cases r <;>simp
def DL:(sizeLine:Nat) < 2 ^ 63:=by rw[sizeLine_eq];decide
def tru_ok:TruR X (λx H Q=>∃k,TruV X.K x H k/\Q k H):=by
 intro aS s σ H x v Q I rx h;obtain⟨k,e,q⟩:=h;have hl:=DL;have hs:sizeLine=16777216:=sizeLine_eq;cases x with
 | non=>
  cases rx;have e':k=false:=e;subst e';exact truthy_none ⟨H,I,q⟩
 | bl b=>
  cases rx;have e':k=b:=e;subst e';exact wpAny_truthy_bool ⟨H,I,q⟩
 | int i=>
  obtain⟨t,rfl⟩:=rx;have e':k=(i != 0):=e;subst e';exact PySem.P.truthy_int ⟨H,I,q⟩
 | str y=>
  obtain⟨t,rfl⟩:=rx;obtain⟨hy,e'⟩:y.length<=sizeLine/\k=((y.length:Int) != 0):=e;subst e';exact PySem.P.truthy_str oM ⟨H,I.tok _,q⟩
 | byt y=>
  obtain⟨t,rfl⟩:=rx;obtain⟨hy,e'⟩:y.size<=sizeLine/\k=((y.size:Int) != 0):=e;subst e';exact PySem.W.truthy_bytes oM ⟨H,I.tok _,q⟩
 | ref p=>
  cases rx;have e':(∃xs,y8 X.K H p xs/\k = !xs.isEmpty)\/(∃xs,y4 X.K H p xs/\k = !xs.isEmpty)\/∃bY,H p=some (.dK bY)/\k = !bY.isEmpty:=e;rcases e' with ⟨xs,hx,e'⟩ | ⟨xs,hx,e'⟩ | ⟨bY,hx,e'⟩
  . subst e';obtain⟨di,r,pl,hz⟩:=I.list hx;have dE:=r.length;exact wpAny_truthy_list pl.isList (by simp only[aA];omega) ⟨H,I.tok _,by rw[FI r];exact q⟩
  . subst e';obtain⟨di,r,pl,hz⟩:=I.tuple hx;have dE:=r.length;exact truthy_tuple pl (by simp only[aA];omega) ⟨H,I.tok _,by rw[FI r];exact q⟩
  . subst e';obtain⟨hz,hS,vs,r,m⟩:bY.length<=sizeLine/\(p == sysModules)=false/\∃vs,KV bY vs/\s.heap.DictOf (B6 X.prog X.w) p vs:=I.hok p _ hx;have dE:bY.length=vs.length:=Paired.length r;exact wpAny_truthy_dict hS m oM ⟨H,I.tok _,by rw[KW r];exact q⟩
 | _=>exact(show False from e).elim
def M3:Aw X (binaryOp .Add) (λx y H Q=>∃i j,x=.str i/\y=.str j/\i.length+j.length<=sizeLine/\Q (.str<|i++j) H):=by intro aS s σ H x y v u Q I rx ry h;obtain⟨i,j,rfl,rfl,hz,q⟩:=h;obtain⟨t,rfl⟩:=rx;obtain⟨t',rfl⟩:=ry;exact add_str (λt' tk=>⟨.str<|i++j,H,I.tok _,⟨_,Y⟩,q⟩) hz
def QW{x:V}{us:w0i}(r:o8 [x] us):∃u,us=[u]/\p6 x u:=by
 cases r with
 | cons r1 r2=>cases r2;exact⟨_,Y,r1⟩
def Vd{x y:V}{us:w0i}(r:o8 [x,y] us):∃u w',us=[u,w']/\p6 x u/\p6 y w':=by
 cases r with
 | cons r1 r2=>
  cases r2 with
  | cons r3 r4=>cases r4;exact za ⟨Y,r1,r3⟩
def FS:Q5 X (.builtin "abs") (λxs H Q=>∃i,xs=[.int i]/\Q (.int<|if i < 0 then -i else i) H):=by intro aS s σ H xs us Q I r h;obtain⟨i,rfl,q⟩:=h;obtain⟨u,rfl,t,rfl⟩:=QW r;exact call_abs_int λu tk=>⟨.int (if i < 0 then -i else i),H,I.tok _,⟨_,Y⟩,q⟩
def GX(hc:X.calm=true):Q5 X (.builtin "min") (λxs H Q=>∃i j,xs=[.int i,.int j]/\Q (.int<|if j < i then j else i) H):=by
 intro aS s σ H xs us Q I r h;obtain⟨i,j,rfl,q⟩:=h;obtain⟨u,w',rfl,⟨t,rfl⟩,⟨t',rfl⟩⟩:=Vd r;show min_two_ints (I.ok.hd hc) λh' tk k=>⟨_,H,I.kept k,?_,q⟩;by_cases hj:j < i
 . rw[if_pos hj,if_pos hj];exact⟨_,Y⟩
 . rw[if_neg hj,if_neg hj];exact⟨_,Y⟩
def Am(K:aa)(x:V)(H:Z)(n:Nat):Prop:=
 match x with
 | .str y=>y.length<=sizeLine/\n=y.length
 | .byt y=>y.size<=sizeLine/\n=y.size
 | .ref p=>(∃xs,y8 K H p xs/\n=xs.length)\/∃xs,y4 K H p xs/\n=xs.length
 | _=>False
def w6:Q5 X (.builtin "len") (λxs H Q=>∃x n,xs=[x]/\Am X.K x H n/\Q (.int n) H):=by
 intro aS s σ H xs us Q I r h;obtain⟨x,n,rfl,e,q⟩:=h;obtain⟨u,rfl,rx⟩:=QW r;have hl:=DL;have hs:sizeLine=16777216:=sizeLine_eq;cases x with
 | str y=>
  obtain⟨t,rfl⟩:=rx;obtain⟨hy,e'⟩:y.length<=sizeLine/\n=y.length:=e;subst e';exact len_str oM ⟨.int _,H,I.tok _,⟨_,Y⟩,q⟩
 | byt y=>
  obtain⟨t,rfl⟩:=rx;obtain⟨hy,e'⟩:y.size<=sizeLine/\n=y.size:=e;subst e';exact PySem.W.len_bytes oM ⟨.int _,H,I.tok _,⟨_,Y⟩,q⟩
 | ref p=>
  cases rx;have e':(∃xs,y8 X.K H p xs/\n=xs.length)\/∃xs,y4 X.K H p xs/\n=xs.length:=e;rcases e' with ⟨xs,hx,e'⟩ | ⟨xs,hx,e'⟩
  . subst e';obtain⟨di,r',pl,hz⟩:=I.list hx;have dE:=r'.length;exact Calls.call_len_list pl.isList (by simp only[aA];omega) ⟨.int xs.length,H,I.tok _,⟨_,by simp only[aA];rw[dE]⟩,q⟩
  . subst e';obtain⟨di,r',pl,hz⟩:=I.tuple hx;have dE:=r'.length;exact len_tuple pl (by simp only[aA];omega) ⟨.int xs.length,H,I.tok _,⟨_,by simp only[aA];rw[dE]⟩,q⟩
 | _=>exact(show False from e).elim
end
structure Ll(h:Heap)(x dx C:Addr)(mA:w0f):Prop where
 obj:h.get? x=some (PySem.W.instObj C dx)
 ns:h.Ns1 dx mA
 ne:dx≠x
def MI{h:Heap}{dx:Addr}{mA:w0f}(n:h.Ns1 dx mA):∃od,h.get? dx=some od/\∀name,PySem.W.lookIn name od=some (mA name):=by
 obtain⟨o,es,ep,ho,hd,hk,_,hm⟩:=n;show⟨o,ho,λname=>?_⟩;have e:=hm name;unfold nsFind findBy at e;rw[<- Array.find?_toList]at e;unfold PySem.W.lookIn;rw[hd];dsimp only;split
 . rename_i y q;rw[q]at e;exact congrArg some e
 . rename_i q;rw[q]at e;have a:es.toList.any (·.refKey)=false:=by rw[List.any_eq_false];intro y hy;obtain⟨z,t,oq⟩:=hk y<|Array.mem_toList_iff.mp hy;simp[DictEntry.refKey,oq]
   have a':¬es.toList.any (·.refKey)=true:=by rw[a];exact aG
   rw[if_neg a'];exact congrArg some e
def Ll.look{h:Heap}{x dx C:Addr}{mA:w0f}(I:Ll h x dx C mA):∃od,PySem.W.InstAt h x (PySem.W.instObj C dx) C (some od)/\∀name,PySem.W.lookIn name od=some (mA name):=
 let⟨od,ho,hl⟩:=MI I.ns
 ⟨od,⟨I.obj,Y,Y,ho⟩,hl⟩
section
variable{prog:Program}{w:World}{A:Around}{E:w0e}{s:Shared}{K:aa}{x dx C f:Addr}{mA:w0f}{name:Str}{v:Value}
def Qy{pk:Bool}{Q:w0e}(X:K.In s.heap)(I:Ll s.heap x dx C mA)(hg:PySem.W.plainGet K C name=true)(hh:PySem.W.hasDictIn K C=true)
    (ha:PySem.W.findIn K (.ref C) name=some none) (hv:mA name=some v) (nU:PySem.W.handedIn v=true) (h:Q v { s with toks:=s.toks+1 }) :
    wpAny (model prog w) A (getAttr (.ref x) name pk) Q E s:=by
 obtain⟨od,J,hl⟩:=I.look;exact PySem.W.get_value X J (PySem.W.plainGet_of hg).1 (PySem.W.findObj_own hh ha Y<|by rw[hl,hv]) nU h
def OK{pl:Sem Bool}{Q:Value × w0i->Shared->Prop}(X:K.In s.heap)(I:Ll s.heap x dx C mA)(hg:PySem.W.plainGet K C name=true)
    (hf:PySem.W.findIn K (.ref C) name=some (some<|.ref f)) (ht:PySem.W.isFn K (.ref f)=true) (hv:mA name=none) (h:Q (.ref f,[.ref x]) s) :
    wpAny (model prog w) A (getMethod (.ref x) name pl) Q E s:=by
 obtain⟨od,J,hl⟩:=I.look;exact PySem.W.method_fn X J (PySem.W.plainGet_of hg).1 (PySem.W.plainGet_of hg).2 hf (beq_iff_eq.mp ht) (by show(PySem.W.lookIn name od).map (·.isSome)=some false;rw[hl,hv];rfl) h
def PM{ns:w0h}{Q:Unit->Shared->Prop}(X:K.In s.heap)(I:Ll s.heap x dx C mA)
    (hs:PySem.W.findIn K (.ref C) "__setattr__"=some (some<|.builtin "object.__setattr__")) (hp:PySem.W.plainOver K C=true) (ht:PySem.W.takerIn K C name=some none) (hh:PySem.W.hasDictIn K C=true)
    (hw:PySem.Within mA ns) (hsz:ns.length<=sizeLine)
    (h:∀h',Ll h' x dx C (λy=>if y=name then some v else mA y)->Heap.SameBut dx s.heap h'->Q () { s with heap:=h',toks:=s.toks+2 }) :
    wpAny (model prog w) A (setAttr (.ref x) name v) Q E s:=by
 obtain⟨od,J,hl⟩:=I.look;show PySem.W.set_plain X J hs<|PySem.W.osa_open (s:={ s with toks:=s.toks+1 }) (r:=none) X J hp ht λb=>?_;obtain⟨cd,hc,eU⟩:=PySem.W.any_some hh;have hx:s.heap.get? x=some ⟨.ref C,some dx,.plain,#[]⟩:=I.obj;show wpAny_bind<|wpAny_pure<|wpAny_bind<|wpAny_bind<|wpAny_loadPart hx<|wpAny_bind<|PySem.W.Looks.here (s:={ s with toks:=s.toks+1 }) (PySem.W.looks_clsIn X hc) ?_;rw[eU];show wpAny_pure (a:=some dx)<|wpAny_bind<|wpAny_pure<|wpAny_bind ?_;show wpAny_nsSet1 (s:={ s with toks:=s.toks+1 }) I.ns λh' lN iB=>?_;obtain⟨oD,xR,xS,vQ,wj,wq⟩:=lN.count<|PySem.Within.cons name v hw;show wpAny_bind (wpAny_lookBehind vQ (by rw[wj];exact pastItsLine_dict<|aj wq<|by rw[bg];omega) ?_);exact wpAny_pure (h _ ⟨(iB.2 _<|Ne.symm I.ne).trans I.obj,lN,I.ne⟩ iB)
def OC{R:Result->Shared->Prop}{vs:w0i}{kw:List (Str × Value)}(X:K.In s.heap)(hm:PySem.W.makesIn K C=true)
    (hi:PySem.W.findIn K (.ref C) "__init__"=some (some<|.ref f)) (hf:PySem.W.typeIn K (.ref f)=some (.type "function"))
    (h:codeAny (model prog w) (A.under<|.builtin "type.__call__" ⟨.ref C::vs,kw⟩) (.call (.ref f) ⟨.ref (s.heap.objs.size+1)::vs,kw⟩) (PySem.W.InitBack (s.heap.objs.size+1) R)
     { s with heap:=(s.heap.push PySem.W.emptyDict).push (PySem.W.instObj C s.heap.objs.size) }) :
    codeAny (model prog w) A (.call (.ref C) ⟨vs,kw⟩) R s:=by
 obtain⟨hh,g,d,t,os⟩:=s;exact PySem.W.make_core (PySem.W.makes_of X hm) (PySem.W.looks_findIn X hi) (λself=>PySem.W.bind_fn X self hf) (.inl Y) h
def MH{R:Result->Shared->Prop}(X:K.In s.heap)(hm:PySem.W.makesIn K C=true)
    (hi:PySem.W.findIn K (.ref C) "__init__"=some (some<|.builtin "object.__init__"))
    (hb:∀self,PySem.W.Looks (model prog w) s.heap (bindSpecial (.builtin "object.__init__") self) (.builtin "object.__init__",[self]))
    (h:codeAny (model prog w) (A.under<|.builtin "type.__call__" ⟨[.ref C],[]⟩) (.call (.builtin "object.__init__") ⟨[.ref<|s.heap.objs.size+1],[]⟩) (PySem.W.InitBack (s.heap.objs.size+1) R)
     { s with heap:=(s.heap.push PySem.W.emptyDict).push (PySem.W.instObj C s.heap.objs.size) }) :
    codeAny (model prog w) A (.call (.ref C) ⟨[],[]⟩) R s:=by
 obtain⟨hh,g,d,t,os⟩:=s;exact PySem.W.make_core (PySem.W.makes_of X hm) (PySem.W.looks_findIn X hi) hb (.inr ⟨Y,Y⟩) h
end
def AO(f:Str)(v:V):List (Str × V)->List (Str × V)
 | []=>[(f,v)]
 | (g,x)::r=>if g=f then(g,v)::r else(g,x)::AO f v r
theorem V0(f g:Str)(v:V):∀fs:List (Str × V),(AO f v fs).lookup g=if g=f then some v else fs.lookup g
 | []=>by
  show List.lookup g [(f,v)]=_;by_cases h:g=f
  . have hb:(g == f)=true:=beq_iff_eq.mpr h;simp only[List.lookup,hb,if_pos h]
  . have hb:(g == f)=false:=beq_eq_false_iff_ne.mpr h;simp only[List.lookup,hb,if_neg h]
 | (k,x)::r=>by
  have ih:=V0 f g v r;rw[show AO f v ((k,x)::r)=(if k=f then(k,v)::r else(k,x)::AO f v r)from rfl];by_cases hk:k=f
  . rw[if_pos hk];by_cases h:g=k
    . have hb:(g == k)=true:=beq_iff_eq.mpr h;simp only[List.lookup,hb,if_pos<|h.trans hk]
    . have hb:(g == k)=false:=beq_eq_false_iff_ne.mpr h;simp only[List.lookup,hb,if_neg (λe:g=f=>h<|e.trans hk.symm)]
  . rw[if_neg hk];by_cases h:g=k
    . have hb:(g == k)=true:=beq_iff_eq.mpr h;simp only[List.lookup,hb,if_neg (λe:g=f=>hk<|h.symm.trans e)]
    . have hb:(g == k)=false:=beq_eq_false_iff_ne.mpr h;simp only[List.lookup,hb];exact ih
theorem DN(f:Str)(v:V):∀fs:List (Str × V),f∈(AO f v fs).map (·.1)/\∀g,g∈fs.map (·.1)->g∈(AO f v fs).map (·.1)
 | []=>⟨by simp[AO],λg h=>by simp at h⟩
 | (k,x)::r=>by
  obtain⟨i1,i2⟩:=DN f v r;rw[show AO f v ((k,x)::r)=(if k=f then(k,v)::r else(k,x)::AO f v r)from rfl];by_cases hk:k=f
  . rw[if_pos hk];subst hk;exact⟨by simp,λg h=>by simpa using h⟩
  . rw[if_neg hk];show⟨?_,λg h=>?_⟩
    . rw[aM];exact aq _ i1
    . rw[aM]at h ⊢;rcases ah.mp h with e | e
      . exact ah.mpr (.inl e)
      . exact aq _ (i2 g e)
theorem Ef(f:Str)(v:V):∀fs:List (Str × V),(AO f v fs).length<=fs.length+1
 | []=>by simp[AO]
 | (k,x)::r=>by
  have ih:=Ef f v r;rw[show AO f v ((k,x)::r)=(if k=f then(k,v)::r else(k,x)::AO f v r)from rfl];by_cases hk:k=f
  . rw[if_pos hk,bg,bg];omega
  . rw[if_neg hk,bg,bg];omega
def Al.some_of{v:V}{o:Option Value}(r:Al (some v) o):∃u,o=some u/\p6 v u:=by
 cases o with
 | none=>exact(show False from r).elim
 | some u=>exact⟨u,Y,r⟩
def Al.none_of{o:Option Value}(r:Al none o):o=none:=by
 cases o with
 | none=>rfl
 | some u=>exact(show False from r).elim
def MW{v:V}{u:Value}(r:p6 v u):PySem.W.handedIn u=true:=by
 cases v with
 | non=>cases (show u=Value.none from r);rfl
 | bl b=>cases (show u=Value.bool b from r);rfl
 | int i=>obtain⟨t,e⟩:=(show ∃t,u=Value.int i t from r);cases e;rfl
 | str x=>obtain⟨t,e⟩:=(show ∃t,u=Value.str x t from r);cases e;rfl
 | byt b=>obtain⟨t,e⟩:=(show ∃t,u=Value.bytes b t from r);cases e;rfl
 | flt b=>obtain⟨t,e⟩:=(show ∃t,u=Value.float b t from r);cases e;rfl
 | ref a=>cases (show u=Value.ref a from r);rfl
 | ty n=>cases (show u=Value.type n from r);rfl
section
variable{P:Program}{w:World}{H H':Z}{h h':Heap}{a C dx:Addr}{fs oX:List (Str × V)}
def EL(hok:R6 P w H h)(e:H a=some (.ins C dx fs)):∃mA,Ll h a dx C mA/\(∀f,Al (fs.lookup f)<|mA f)/\PySem.Within mA (fs.map (·.1))/\fs.length<=1000/\H dx=some (.own a):=by obtain⟨d,z,ne,ob,mA,n,r,q⟩:=(show D4 P w H h a (.ins C dx fs)from hok a _ e);exact⟨mA,⟨ob,n,ne⟩,r,q,z,d⟩
end
structure JM(K:aa)(C:Addr):Prop where
 pg:PySem.W.plainGet K C Str.empty=true
 hd:PySem.W.hasDictIn K C=true
 po:PySem.W.plainOver K C=true
 sa:PySem.W.findIn K (.ref C) "__setattr__"=some (some<|.builtin "object.__setattr__")
def JM.get{K:aa}{C:Addr}(c:JM K C)(f:Str):PySem.W.plainGet K C f=true:=c.pg
def Co(K:aa)(C:Addr)(f:Str):Prop:=PySem.W.findIn K (.ref C) f=some none
def Co.taker{K:aa}{C:Addr}{f:Str}(n:Co K C f):PySem.W.takerIn K C f=some none:=by unfold PySem.W.takerIn;rw[show PySem.W.findIn K (.ref C) f=some none from n];rfl
structure Con(K:aa)(C:Addr)(f:Str)(v:V)(u:Value):Prop where
 at_:PySem.W.findIn K (.ref C) f=some (some u)
 rel:p6 v u
 get:PySem.W.specialIn K u "__get__"=some none
 cp:PySem.W.copiedNames.contains f=false
structure FT(K:aa)(C:Addr)(m:Str)(f:Addr):Prop where
 at_:PySem.W.findIn K (.ref C) m=some (some<|.ref f)
 fn:PySem.W.isFn K (.ref f)=true
 kp:PySem.W.keepIn K (.ref f)=true
section
variable{X:Cx}{aS:w0d}{σ:St}{H:Z}{s:Shared}{a C dx:Addr}{fs:List (Str × V)}{f:Str}{v:V}{A:Around}{E:w0e}
def La{b:Bool}{Q:w0e}(I:j9 X aS σ H s)(e:H a=some (.ins C dx fs))(c:JM X.K C)(n:Co X.K C f)(l:fs.lookup f=some v)
    (h:∀u s',j9 X aS σ H s'->p6 v u->Q u s'):wpAny (model X.prog X.w) A (getAttr (.ref a) f b) Q E s:=by
 obtain⟨mA,a1b,r,_,_,_⟩:=EL I.hok e;obtain⟨u,hu,ru⟩:=Al.some_of (v:=v) (o:=mA f) (by rw[<- l];exact r f);exact Qy I.kIn a1b (c.get f) c.hd n hu (MW ru) (h u _ (I.tok _) ru)
def Ah{m:Str}{g:Addr}{pl:Sem Bool}{Q:Value × w0i->Shared->Prop}(I:j9 X aS σ H s)(e:H a=some (.ins C dx fs))(c:JM X.K C)(k:FT X.K C m g)(l:fs.lookup m=none)
    (h:Q (.ref g,[.ref a]) s):wpAny (model X.prog X.w) A (getMethod (.ref a) m pl) Q E s:=by
 obtain⟨mA,a1b,r,_,_,_⟩:=EL I.hok e;have hn:mA m=none:=Al.none_of (by rw[<- l];exact r m);exact OK I.kIn a1b (c.get m) k.at_ k.fn hn h
def Kj{y:V}{u:Value}{Q:Unit->Shared->Prop}(I:j9 X aS σ H s)(e:H a=some (.ins C dx fs))(c:JM X.K C)(n:Co X.K C f)(hl:fs.length < 1000)(ry:p6 y u)
    (h:∀s',j9 X aS σ (upd H a<|.ins C dx<|AO f y fs) s'->Q () s'):wpAny (model X.prog X.w) A (setAttr (.ref a) f u) Q E s:=by
 obtain⟨mA,a1b,r,wi,_,ho⟩:=EL I.hok e;have hz:(fs.map (·.1)).length<=sizeLine:=by rw[ai,sizeLine_eq];omega
 show PM I.kIn a1b c.sa c.po n.taker c.hd wi hz λh' O' sb=>h _ ?_;have hd:∃o,h'.get? dx=some o:=let⟨o,_,_,e',_⟩:=O'.ns;⟨o,e'⟩
 show I.write (x:=a) (e:=dx) (by rw[e];exact True.intro) (.inr ho) (λb q hb z=>(sb.2 b hb).trans z) hd ?_;show⟨by rw[k9 a1b.ne];exact ho,?_,a1b.ne,O'.obj,_,O'.ns,λg=>?_,λg hg=>?_⟩
 . have:=Ef f y fs;omega
 . show Al ((AO f y fs).lookup g) (if g=f then some u else mA g);rw[V0];by_cases q:g=f
   . rw[if_pos q,if_pos q];exact ry
   . rw[if_neg q,if_neg q];exact r g
 . by_cases q:g=f
   . rw[q];exact(DN f y fs).1
   . show(DN f y fs).2 g<|wi g λz=>hg ?_;show(if g=f then some u else mA g)=none;rw[if_neg q];exact z
def j9.made(I:j9 X aS σ H s):j9 X aS σ (upd (upd H s.heap.objs.size<|.own<|s.heap.objs.size+1) (s.heap.objs.size+1)<|.ins C s.heap.objs.size [])
    { s with heap:=(s.heap.push PySem.W.emptyDict).push (PySem.W.instObj C s.heap.objs.size) }:=by
 have e1:(s.heap.push PySem.W.emptyDict).get? s.heap.objs.size=some PySem.W.emptyDict:=aB s.heap rfl;have e2:((s.heap.push PySem.W.emptyDict).push<|PySem.W.instObj C s.heap.objs.size).get? (s.heap.objs.size+1)=some (PySem.W.instObj C s.heap.objs.size):=by have:=aB (s.heap.push PySem.W.emptyDict) (o:=PySem.W.instObj C s.heap.objs.size) rfl;rwa [bb]at this
 have e3:(s.heap.push PySem.W.emptyDict).Ns s.heap.objs.size (λ_=>none):=⟨PySem.W.emptyDict,#[],_,e1,Y,(λe he=>absurd he<|by simp),λ_=>rfl⟩;have I1:=I.laid (a:=s.heap.objs.size) (o:=.own<|s.heap.objs.size+1) (h':=s.heap.push PySem.W.emptyDict) (t':=s.toks) (λb u q=>ak _ q) (ae _) ⟨_,e1⟩;show I1.laid (a:=s.heap.objs.size+1) (o:=.ins C s.heap.objs.size []) (t':=s.toks) (λb u q=>ak _ q) (Nat.le_of_eq<|bb _ _) ?_;have ne:s.heap.objs.size≠s.heap.objs.size+1:=au<|bJ _;show⟨by rw[k9 ne,c8],aU _,ne,e2,λ_=>none,(Heap.Ns1.of_empty e3).at λo q=>ak _ q,λ_=>True.intro,λy hy=>absurd rfl hy⟩
def QQ{prog:Program}{w:World}{env:Env}{e:Expr}{f:Str}{pos:Pos}{s:Shared}{Q:w0e}(hb:attributeBase e f env (eval e env)=eval e env)
    (h:wpAny (model prog w) A (eval e env) (λo s₁=>wpAny (model prog w) A (getAttr o f true) Q E s₁) E s):wpAny (model prog w) A (eval (.Attribute e f pos) env) Q E s:=
 Attribute_any_ h (by rw[arm_eval_Attribute,hb])
end
def tFld(K:aa)(ta:TE)(f:Str):TE:=λσ H Q=>ta σ H λx H1=>∃a C dx fs v,x=.ref a/\H1 a=some (.ins C dx fs)/\JM K C/\Co K C f/\fs.lookup f=some v/\Q v H1
def sFld(K:aa)(ta tv:TE)(f:Str):TS:=λD σ H=>tv σ H λy H1=>ta σ H1 λx H2=>∃a C dx fs,x=.ref a/\H2 a=some (.ins C dx fs)/\JM K C/\Co K C f/\fs.length < 1000/\
 D.nx σ (upd H2 a<|.ins C dx<|AO f y fs)
section
variable{X:Cx}{o e value:Expr}{f:Str}{pos eE mW:Pos}{ta tv:TE}
def Kz(he:PE X e ta)(hb:attributeBase e f X.env (eval e X.env)=eval e X.env):PE X (.Attribute e f pos) (tFld X.K ta f):=by intro aS s σ H Q I h;show QQ hb<|y6 (he aS s σ H _ I h) λu s1 hζ=>?_;obtain⟨x,H1,I1,rx,a,C,dx,fs,v,ex,ea,c,n,l,q⟩:=hζ;subst ex;obtain rfl:u=Value.ref a:=rx;exact La I1 ea c n l λu' s2 I2 ru=>⟨v,H1,I2,ru,q⟩
def Tc(ha:PE X o ta)(hv:PE X value tv)(hs:swapsWith value (some<|.Attribute o f eE) pos.line X.env=pure false):PS X (.Assign [.Attribute o f eE] value pos) (sFld X.K ta tv f):=by intro aS s σ H D I h;show plainObj_wpAny_Assign_Attribute (y6 (hv aS s σ H _ I h) λu s1 ⟨y,H1,I1,ry,q⟩=>y6 (ha aS s1 σ H1 _ I1 q) λov s2 hζ=>?_) hs;obtain⟨x,H2,I2,rx,a,C,dx,fs,ex,ea,c,n,l,q2⟩:=hζ;subst ex;obtain rfl:ov=Value.ref a:=rx;exact Kj I2 ea c n l ry λs3 I3=>⟨σ,_,I3,q2⟩
def Rp{pl:Sem Bool}{m:Str}{dC:Pos}{args:List Expr}{aS:w0d}{s:Shared}{σ:St}{H:Z}{Q:w0e}{te:TE}(he:PE X e te)(I:j9 X aS σ H s)
    (h:te σ H λx H1=>∃a C dx fs g,x=.ref a/\H1 a=some (.ins C dx fs)/\JM X.K C/\FT X.K C m g/\fs.lookup m=none/\
     ∀s1,j9 X aS σ H1 s1->wpAny (model X.prog X.w) X.A (callWith pos (.ref g) [.ref a] (backTo pos<|starEach args X.env)<|backToKw pos<|keywordEach [] X.env) Q X.xe s1)
    (ht:eval (.Call (.Attribute e m dC) args [] pos) X.env=(do
     let ov <- eval e X.env
     standAt dC.atName
     let(f,first) <- holding [ov] (getMethod ov m pl)
     callWith pos f first (backTo pos<|starEach args X.env) (backToKw pos<|keywordEach [] X.env))) :
    wpAny (model X.prog X.w) X.A (eval (.Call (.Attribute e m dC) args [] pos) X.env) Q X.xe s:=by
 show cS (pl:=pl) (y6 (he aS s σ H _ I h) λu s1 hζ=>?_) ht;obtain⟨x,H1,I1,rx,a,C,dx,fs,g,ex,ea,c,k,l,q⟩:=hζ;subst ex;obtain rfl:u=Value.ref a:=rx;exact Ah I1 ea c k l (q s1 I1)
end
section
variable{X:Cx}{aS:w0d}{σ:St}{H:Z}{s:Shared}{A:Around}{E:w0e}{Q:w0e}{c:Value}{b:Bool}
inductive P3(K:aa)(H:Z):V->Value->Prop where
 | non:P3 K H .non (.type "NoneType")
 | bl (x:Bool):P3 K H (.bl x) (.type "bool")
 | int (i:Int):P3 K H (.int i) (.type "int")
 | str (x:Str):P3 K H (.str x) (.type "str")
 | flt (x:UInt64):P3 K H (.flt x) (.type "float")
 | lst {a:Addr} {xs:List V} (e:H a=some (.lst xs)):P3 K H (.ref a) (.type "list")
 | frz {a:Addr} {o:Obj} {xs:List V} (e:H a=some (.frz o<|.lst xs)):P3 K H (.ref a) (.type "list")
 | tup {a:Addr} {xs:List V} (e:H a=some (.tup xs)):P3 K H (.ref a) (.type "tuple")
 | dK {a:Addr} {bY:List (E5 × V)} (e:H a=some (.dK bY)):P3 K H (.ref a) (.type "dict")
 | dT {a:Addr} {bY:List (List E5 × V)} (e:H a=some (.dT bY)):P3 K H (.ref a) (.type "dict")
 | ins {a C dx:Addr} {fs:List (Str × V)} (e:H a=some (.ins C dx fs)) (cl:JM K C) (ha:PySem.W.findIn K (.ref C) "__class__"=some (some<|.builtin "object.__class__"))
     (hn:PySem.W.specialIn K (.builtin "object.__class__") "__get__"=some (some<|.builtin "getset_descriptor.__get__")) (qi:PySem.W.takesIn K (.builtin "object.__class__")=some true)
     (hm:PySem.W.mroIn K C (.type "object")=some true):P3 K H (.ref a) (.ref C)
def MP{x:V}{u t:Value}(I:j9 X aS σ H s)(rx:p6 x u)(ty:P3 X.K H x t)(e:PySem.W.kitOne X.K t c=some b)(h:∀tk,Q (.bool b) { s with toks:=tk }) :
    wpAny (model X.prog X.w) A (call (.builtin "isinstance") [u,c]) Q E s:=by
 cases ty with
 | non=>cases (show u=Value.none from rx);exact bo PySem.W.kitx_none I.kIn True.intro e (λz=>nomatch z) h
 | bl y=>cases (show u=Value.bool y from rx);exact bo PySem.W.kitx_bool I.kIn True.intro e (λz=>nomatch z) h
 | int i=>obtain⟨t,q⟩:=(show ∃t,u=Value.int i t from rx);cases q;exact bo PySem.W.kitx_int I.kIn True.intro e (λz=>nomatch z) h
 | str y=>obtain⟨t,q⟩:=(show ∃t,u=Value.str y t from rx);cases q;exact bo PySem.W.kitx_str I.kIn True.intro e (λz=>nomatch z) h
 | flt y=>obtain⟨t,q⟩:=(show ∃t,u=Value.float y t from rx);cases q;exact bo PySem.W.kitx_float I.kIn True.intro e (λz=>nomatch z) h
 | @lst a xs ea=>
  cases (show u=Value.ref a from rx);obtain⟨_,_,n,_,h1⟩:=(show D4 X.prog X.w H s.heap a (.lst xs)from I.hok a _ ea);exact bo PySem.W.kitx_list I.kIn ⟨_,h1,Y⟩ e (λz=>nomatch z) h
 | @frz a ob xs ea=>
  cases (show u=Value.ref a from rx);obtain⟨_,_,_,n,_,h1⟩:=(show D4 X.prog X.w H s.heap a (.frz ob<|.lst xs)from I.hok a _ ea);exact bo PySem.W.kitx_list I.kIn ⟨_,h1,Y⟩ e (λz=>nomatch z) h
 | @tup a xs ea=>
  cases (show u=Value.ref a from rx);obtain⟨_,_,_,p,_⟩:=(show D4 X.prog X.w H s.heap a (.tup xs)from I.hok a _ ea);obtain⟨o,h1,h2,_⟩:=p;exact bo PySem.W.kitx_tuple I.kIn ⟨o,h1,h2⟩ e (λz=>nomatch z) h
 | @dK a bY ea=>
  cases (show u=Value.ref a from rx);obtain⟨_,_,vs,_,p⟩:=(show D4 X.prog X.w H s.heap a (.dK bY)from I.hok a _ ea);obtain⟨o,es,ep,h1,h2,_⟩:=p;exact bo PySem.W.kitx_dict I.kIn ⟨o,h1,h2.1⟩ e (λz=>nomatch z) h
 | @dT a bY ea=>
  cases (show u=Value.ref a from rx);obtain⟨_,_,xs,_,o,es,ep,h1,h2,_⟩:=(show D4 X.prog X.w H s.heap a (.dT bY)from I.hok a _ ea);exact bo PySem.W.kitx_dict I.kIn ⟨o,h1,h2.1⟩ e (λz=>nomatch z) h
 | @ins a C dx fs ea cl ha hn qi hm=>
  cases (show u=Value.ref a from rx);obtain⟨mA,a1b,_⟩:=EL I.hok ea;obtain⟨od,J,_⟩:=a1b.look;exact bo (PySem.W.kitx_own (cl.get _) cl.hd ha hn qi hm) I.kIn J e (λz=>nomatch z) h
end
structure z4(k:Nat)(A:Around):Prop where
 hd:A.handled=none
 dp:A.depth+3 * k+5 < recursionLimit
 un:A.units+16 * k+200 < cLine
def z4.mono{j k:Nat}{A:Around}(r:z4 k A)(h:j<=k):z4 j A:=⟨r.hd,by have:=r.dp;omega,by have:=r.un;omega⟩
theorem z4.deeper{k:Nat}{A:Around}(r:z4 (k+1) A)(env:Env):z4 k (A.deeper env):=
 ⟨r.hd,by have:=r.dp;show A.depth+1+3 * k+5 < _;omega,by have:=r.un;show A.units+3+16 * k+200 < _;omega⟩
def KN{A:Around}{C:Addr}{us:w0i}{kw:List (Str × Value)}:(A.under<|.builtin "type.__call__" ⟨.ref C::us,kw⟩).depth=A.depth+1:=by
 first | rfl | simp[Around.under,Code.weight,Code.isCreation,Code.isGuard,Code.isCaller,Code.frames,Code.isFrame,guardIds]
def KM{A:Around}{C:Addr}{us:w0i}{kw:List (Str × Value)}:(A.under<|.builtin "type.__call__" ⟨.ref C::us,kw⟩).units=A.units+1:=by
 first | rfl | simp[Around.under,Code.cUnits,Code.frames,Code.isFrame]
def z4.make{k:Nat}{A:Around}(r:z4 (k+1) A)(C:Addr)(us:w0i)(kw:List (Str × Value)):z4 k (A.under<|.builtin "type.__call__" ⟨.ref C::us,kw⟩):=
 ⟨r.hd,by have:=r.dp;rw[KN];omega,by have:=r.un;rw[KM];omega⟩
theorem z4.depth{k:Nat}{A:Around}(r:z4 k A):A.depth < recursionLimit:=by have:=r.dp;omega
theorem z4.units{k:Nat}{A:Around}(r:z4 k A):A.units+64 < cLine:=by have:=r.un;omega
def tNil:TA:=λ_ H Q=>Q [] H
def M4(ta:TE)(tr:TA):TA:=λσ H Q=>ta σ H λx H1=>tr σ H1 λxs H2=>Q (x::xs) H2
section
variable{X:Cx}{e:Expr}{es:List Expr}{te:TE}{t:TA}{pos:Pos}
def Ad:PA X [] tNil:=λ_ _ _ _ H Q I h=>Calls.spliced_nil ⟨[],H,I,.nil,h⟩
def B5(ha:PE X e te)(hr:PA X es t)(hs:starEach (e::es) X.env=(false,eval e X.env)::starEach es X.env:=by rfl):PA X (e::es) (M4 te t):=by intro pos aS s σ H Q I h;rw[hs];show wpAny _ _ (spliced ((false,eval e X.env)::backTo pos (starEach es X.env))) _ _ s;show Calls.spliced_cons<|y6 (ha aS s σ H _ I h) λu s1 ⟨x,H1,I1,r1,q1⟩=>?_;exact y6 (hr pos aS s1 σ H1 _ I1 q1) λus s2 ⟨xs,H2,I2,r2,q2⟩=>⟨x::xs,H2,I2,.cons r1 r2,q2⟩
def tTup(t:TA):TE:=λσ H Q=>t σ H λxs H1=>xs.length<=sizeLine/\∀p,H1 p=none->Q (.ref p) (upd H1 p<|.tup xs)
def Vn(t:TA):TE:=λσ H Q=>t σ H λxs H1=>xs.length<=sizeLine/\∀p,H1 p=none->Q (.ref p) (upd H1 p<|.lst xs)
def D8{x1}(h:PA X es t):PE X (.Tuple es x1 pos) (tTup t):=by intro aS s σ H Q I hq;show wpAny_Tuple_spliced (y6 (h pos aS s σ H _ I hq) λus s1 ⟨xs,H1,I1,r,z,q⟩=>⟨by rw[<- r.length];exact z,?_⟩);have hf:H1 s1.heap.objs.size=none:=I1.hok.fresh<|ae _;show⟨.ref s1.heap.objs.size,upd H1 s1.heap.objs.size<|.tup xs,I1.laid (t':=s1.toks) (λb u e=>ak _ e) (ae _) ?_,Y,q _ hf⟩;exact⟨z,us,r,⟨_,aB _ Y,Y,_,Y⟩,λ_=>⟨_,aB _ Y,Y⟩⟩
def F0(h:PA X es t):PE X (.List es pos) (Vn t):=by intro aS s σ H Q I hq;show wpAny_List_spliced (y6 (h pos aS s σ H _ I hq) λus s1 ⟨xs,H1,I1,r,z,q⟩=>⟨by rw[<- r.length];exact z,?_⟩);have hf:H1 s1.heap.objs.size=none:=I1.hok.fresh<|ae _;show⟨.ref s1.heap.objs.size,upd H1 s1.heap.objs.size<|.lst xs,I1.laid (t':=s1.toks) (λb u e=>ak _ e) (ae _) ?_,Y,q _ hf⟩;exact⟨z,us,0,r,aB _ Y⟩
end
abbrev Sp:=List V->Z->VK->XK->Prop
abbrev Mb:=List Env->Z->Shared->XK->Value->Shared->Prop
structure DR(P:Program)(w:World)(K:aa)(mg:w0f)(base:Heap)(A:Around)(outer:List Env)(s:Shared)(H:Z):Prop where
 frames:A.frames=some outer
 mod:Mod K mg base
 bs:∀b o,base.get? b=some o->s.heap.get? b=some o/\H b=none
 bsz:base.objs.size<=s.heap.objs.size
 funs:s.heap.FunFrames base outer
 frf:∀b∈C9 outer,H b=none
 hok:R6 P w H s.heap
 bare:AllBare s.gens
def CE(outer:List Env)(P:Program)(w:World)(H:Z)(s:Shared)(Q:VK)(u:Value)(s':Shared):Prop:=
 ∃v H',s'.os=s.os/\AllBare s'.gens/\Un (C9 outer) [] H H' s.heap s'.heap/\R6 P w H' s'.heap/\p6 v u/\Q v H'
def CR(CX:Mb)(outer:List Env)(P:Program)(w:World)(H:Z)(s:Shared)(Q:VK)(E:XK)(r:Result)(s':Shared):Prop:=
 match r with
 | .ok (.ret u)=>CE outer P w H s Q u s'
 | .ok _=>False
 | .error e=>CX outer H s E e s'
structure m8(P:Program)(w:World)(K:aa)(mg:w0f)(base:Heap)(CX:Mb)(k:Nat)(f:Addr)(fd:FuncData)(ps:w0h)(sp:Sp):Prop where
 len:∀vs H Q E,sp vs H Q E->vs.length=ps.length
 run:∀(A:Around) (outer:List Env) (s:Shared) (H:Z) (args:Args) (us:w0i) (vs:List V) (Q:VK) (E:XK),z4 k A->DR P w K mg base A outer s H->BindsTo s fd args (ps.zip us)->o8 vs us->sp vs H Q E->
  codeAny (model P w) A (.call (.ref f) args) (CR CX outer P w H s Q E) s
theorem m8.mono{P:Program}{w:World}{K:aa}{mg:w0f}{base:Heap}{CX:Mb}{j k:Nat}{f:Addr}{fd:FuncData}{ps:w0h}{sp:Sp}(F:m8 P w K mg base CX j f fd ps sp)(h:j<=k) :
    m8 P w K mg base CX k f fd ps sp:=⟨F.len,λA outer s H args us vs Q E hr=>F.run A outer s H args us vs Q E<|hr.mono h⟩
def DR.make{P:Program}{w:World}{K:aa}{mg:w0f}{base:Heap}{A:Around}{outer:List Env}{s:Shared}{H:Z}(e:DR P w K mg base A outer s H)(C:Addr)(us:w0i)(kw:List (Str × Value)) :
    DR P w K mg base (A.under<|.builtin "type.__call__" ⟨.ref C::us,kw⟩) outer s H:=⟨by first | exact e.frames | (simpa [Around.under,Code.envs,Code.isFrame,pushEnvs] using e.frames),e.mod,e.bs,e.bsz,e.funs,e.frf,e.hok,e.bare⟩
section
variable{X:Cx}{aS:w0d}{σ:St}{H:Z}{s s':Shared}
def j9.env0(I:j9 X aS σ H s):DR X.prog X.w X.K X.mg X.base X.A X.stack s H:=
 ⟨I.ok.frames,I.ok.mod,I.bs,aj I.ok.bsz I.sz,I.stack,I.stkFree,I.hok,I.bare⟩
def j9.after{Q:VK}{u:Value}(I:j9 X aS σ H s)(h:CE X.stack X.prog X.w H s Q u s'):EP X aS σ Q u s':=by obtain⟨v,H',os,bare,un,hok,r,q⟩:=h;obtain⟨hh,g,d,t,uw⟩:=s';obtain rfl:uw=s.os:=os;exact⟨v,H',I.call (h':=hh) (g':=g) (d':=d) (t':=t) (ch:=[]) un hok bare (λb z=>absurd z<|by simp),r,q⟩
end
def Lp(sp:Sp)(dvs:List V)(E:XK)(t:TA):TE:=λσ H Q=>t σ H λvs H1=>sp (vs++dvs) H1 Q E
def Ra(C:Addr)(m:Str)(sp:Sp)(dvs:List V)(E:XK)(ta:TE)(t:TA):TE:=λσ H Q=>ta σ H λx H1=>∃a dx fs,x=.ref a/\H1 a=some (.ins C dx fs)/\fs.lookup m=none/\
 t σ H1 λvs H2=>sp (x::(vs++dvs)) H2 Q E
def Vm(C:Addr)(sp:Sp)(dvs:List V)(E:XK)(t:TA):TE:=λσ H Q=>t σ H λvs H1=>∀x dx,H1 x=none->H1 dx=none->dx≠x->
 sp (.ref x::(vs++dvs)) (upd (upd H1 dx<|.own x) x<|.ins C dx []) (λv H2=>v=.non/\Q (.ref x) H2) E
def E6(K:aa)(fd:FuncData)(ps:w0h)(ds:w0i):Prop:=
 ∀(s:Shared) (us:w0i),K.In s.heap->(us++ds).length=ps.length->BindsTo s fd ⟨us,[]⟩ (ps.zip<|us++ds)
def E6.all{K:aa}{fd:FuncData}{ps:w0h}(h:∀us:w0i,us.length=ps.length->bindArgs fd ⟨us,[]⟩=pure (ps.zip us)):E6 K fd ps []:=λs us _ hl=>by
 rw[aY]at hl ⊢;exact .of_eq (h us hl)
def Bb(CX:Mb)(X:Cx)(E:XK):Prop:=∀(aS:w0d) (σ:St) (H:Z) (s:Shared) (e:Value) (s':Shared),j9 X aS σ H s->CX X.stack H s E e s'->X.xe e s'
section
variable{X:Cx}{CX:Mb}{k:Nat}{f C:Addr}{fd:FuncData}{ps:w0h}{sp:Sp}{dvs:List V}{ds:w0i}{E:XK}{x m:Str}{p pos dC:Pos}{e o:Expr}{es:List Expr}{ta:TE}{t:TA}
def Hw{aS:w0d}{σ:St}{H:Z}{s:Shared}{Q:VK}{us:w0i}{vs:List V}(F:m8 X.prog X.w X.K X.mg X.base CX k f fd ps sp)(hr:z4 k X.A)(hb:E6 X.K fd ps ds)(hd:o8 dvs ds)(hx:Bb CX X E)
    (I:j9 X aS σ H s) (r:o8 vs us) (h:sp (vs++dvs) H Q E):wpAny (model X.prog X.w) X.A (call (.ref f) us) (EP X aS σ Q) X.xe s:=by
 have r2:o8 (vs++dvs) (us++ds):=r.append hd;have hl:(us++ds).length=ps.length:=by rw[<- r2.length];exact F.len _ _ _ _ h
 show wpAny_call<|codeAny_mono (F.run X.A X.stack s H ⟨us,[]⟩ (us++ds) (vs++dvs) Q E hr I.env0 (hb s us I.kIn hl) r2 h) λr s' hq=>?_;cases r with
 | error e=>exact hx aS σ H s e s' I hq
 | ok fl=>
  cases fl with
  | ret u=>exact I.after hq
  | next=>exact False.elim hq
  | brk=>exact False.elim hq
  | cont=>exact False.elim hq
def p8(F:m8 X.prog X.w X.K X.mg X.base CX k f fd ps sp)(hr:z4 k X.A)(hg:Gl X x)(hm:X.mg x=some (.ref f))(hk:PySem.W.keepIn X.K (.ref f)=true)(hb:E6 X.K fd ps ds)(hd:o8 dvs ds)(hx:Bb CX X E)
    (ha:PA X (e::es) t) (fG:(x == ("__debug__":Str))=false:=by decide) (he:starEach (e::es) X.env=(false,eval e X.env)::starEach es X.env:=by rfl) (eT:(backTo pos<|starEach es X.env).any (·.1)=false:=by rfl) :
    PE X (.Call (.Name x p) (e::es) [] pos) (Lp sp dvs E t):=by
 intro aS s σ H Q I h;show wpAny_Call_Name_kw<|V2 I hg hm ?_ fG;show bZ (h₀:=X.base) I.ok.mod.kin hk (y6 (ha pos aS s σ H _ I h) λus s1 ⟨vs,H1,I1,r,q⟩=>⟨I1.kIn,?_⟩) he eT;exact Hw F hr hb hd hx I1 r q
def Bi{pl:Sem Bool}(he:PE X o ta)(c:JM X.K C)(hm:FT X.K C m f)(F:m8 X.prog X.w X.K X.mg X.base CX k f fd ps sp)(hr:z4 k X.A)(hb:E6 X.K fd ps ds)(hd:o8 dvs ds)(hx:Bb CX X E)(ha:PA X (e::es) t)
    (hR:starEach (e::es) X.env=(false,eval e X.env)::starEach es X.env:=by rfl) (eT:(backTo pos<|starEach es X.env).any (·.1)=false:=by rfl)
    (ht:eval (.Call (.Attribute o m dC) (e::es) [] pos) X.env=(do
     let ov <- eval o X.env
     standAt dC.atName
     let(f,first) <- holding [ov] (getMethod ov m pl)
     callWith pos f first (backTo pos<|starEach (e::es) X.env) (backToKw pos<|keywordEach [] X.env)):=by rfl) :
    PE X (.Call (.Attribute o m dC) (e::es) [] pos) (Ra C m sp dvs E ta t):=by
 intro aS s σ H Q I h;show cS (pl:=pl) (y6 (he aS s σ H _ I h) λu s1 hζ=>?_) ht;obtain⟨x,H1,I1,rx,a,dx,fs,ex,ea,l,q⟩:=hζ;subst ex;obtain rfl:u=Value.ref a:=rx;show Ah I1 ea c hm l ?_;show bZ (first:=[.ref a]) (h₀:=X.base) I.ok.mod.kin hm.kp (y6 (ha pos aS s1 σ H1 _ I1 q) λus s2 ⟨vs,H2,I2,r,q2⟩=>⟨I2.kIn,?_⟩) hR eT;exact Hw (us:=.ref a::us) (vs:=.ref a::vs) F hr hb hd hx I2 (.cons Y r) q2
def T9{pl:Sem Bool}(he:PE X o ta)(c:JM X.K C)(hm:FT X.K C m f)(F:m8 X.prog X.w X.K X.mg X.base CX k f fd ps sp)(hr:z4 k X.A)(hb:E6 X.K fd ps ds)(hd:o8 dvs ds)(hx:Bb CX X E)
    (ht:eval (.Call (.Attribute o m dC) [] [] pos) X.env=(do
     let ov <- eval o X.env
     standAt dC.atName
     let(f,first) <- holding [ov] (getMethod ov m pl)
     callWith pos f first (backTo pos<|starEach [] X.env) (backToKw pos<|keywordEach [] X.env)):=by rfl) :
    PE X (.Call (.Attribute o m dC) [] [] pos) (Ra C m sp dvs E ta tNil):=by
 intro aS s σ H Q I h;show cS (pl:=pl) (y6 (he aS s σ H _ I h) λu s1 hζ=>?_) ht;obtain⟨x,H1,I1,rx,a,dx,fs,ex,ea,l,q⟩:=hζ;subst ex;obtain rfl:u=Value.ref a:=rx;show Ah I1 ea c hm l ?_;exact PySem.W.callWith_K0 (first:=[.ref a]) I1.kIn hm.kp (Hw (us:=[.ref a]) (vs:=[.ref a]) F hr hb hd hx I1 (.cons Y .nil) q)
structure Mk(K:aa)(C f:Addr):Prop where
 makes:PySem.W.makesIn K C=true
 init:PySem.W.findIn K (.ref C) "__init__"=some (some<|.ref f)
 fn:PySem.W.isFn K (.ref f)=true
 kp:PySem.W.keepIn K (.ref C)=true
def Oa{aS:w0d}{σ:St}{H:Z}{s:Shared}{Q:VK}{us:w0i}{vs:List V}(M:Mk X.K C f)(F:m8 X.prog X.w X.K X.mg X.base CX k f fd ps sp)(hr:z4 (k+1) X.A)(hb:E6 X.K fd ps ds)(hd:o8 dvs ds)
    (hx:Bb CX X E) (I:j9 X aS σ H s) (r:o8 vs us)
    (h:∀x dx,H x=none->H dx=none->dx≠x->sp (.ref x::(vs++dvs)) (upd (upd H dx<|.own x) x<|.ins C dx []) (λv H2=>v=.non/\Q (.ref x) H2) E) :
    wpAny (model X.prog X.w) X.A (call (.ref C) us) (EP X aS σ Q) X.xe s:=by
 have hq:=h (s.heap.objs.size+1) s.heap.objs.size (I.hok.fresh<|bz _) (I.hok.fresh<|ae _)<|au<|bJ _;have I2:=j9.made (C:=C) I;have r2:o8 (V.ref (s.heap.objs.size+1)::(vs++dvs)) (Value.ref (s.heap.objs.size+1)::(us++ds)):=.cons rfl<|r.append hd;have hl:(Value.ref (s.heap.objs.size+1)::us++ds).length=ps.length:=by have e:=r2.length;rw[F.len _ _ _ _ hq]at e;exact e.symm
 show wpAny_call (OC (f:=f) I.kIn M.makes M.init (beq_iff_eq.mp M.fn) (codeAny_mono (F.run _ X.stack _ _ ⟨Value.ref (s.heap.objs.size+1)::us,[]⟩ (Value.ref (s.heap.objs.size+1)::(us++ds)) _ _ E (hr.make C us [])
  (I2.env0.make C us []) (hb _ (Value.ref (s.heap.objs.size+1)::us) I2.kIn hl) r2 hq) λr s' gk=>?_))
 cases r with
 | error e=>exact hx aS σ _ _ e s' I2 gk
 | ok fl=>
  cases fl with
  | ret u=>
   obtain⟨v,H',I3,rv,ev,q3⟩:=I2.after gk;subst ev;exact⟨rv,⟨V.ref<|s.heap.objs.size+1,H',I3,Y,q3⟩⟩
  | next=>exact False.elim gk
  | brk=>exact False.elim gk
  | cont=>exact False.elim gk
def Qf(M:Mk X.K C f)(F:m8 X.prog X.w X.K X.mg X.base CX k f fd ps sp)(hr:z4 (k+1) X.A)(hg:Gl X x)(hm:X.mg x=some (.ref C))(hb:E6 X.K fd ps ds)(hd:o8 dvs ds)(hx:Bb CX X E)
    (ha:PA X (e::es) t) (fG:(x == ("__debug__":Str))=false:=by decide) (he:starEach (e::es) X.env=(false,eval e X.env)::starEach es X.env:=by rfl) (eT:(backTo pos<|starEach es X.env).any (·.1)=false:=by rfl) :
    PE X (.Call (.Name x p) (e::es) [] pos) (Vm C sp dvs E t):=by
 intro aS s σ H Q I h;show wpAny_Call_Name_kw<|V2 I hg hm ?_ fG;show bZ (h₀:=X.base) I.ok.mod.kin M.kp (y6 (ha pos aS s σ H _ I h) λus s1 ⟨vs,H1,I1,r,q⟩=>⟨I1.kIn,?_⟩) he eT;exact Oa M F hr hb hd hx I1 r q
end
section
variable{X:Cx}{CX:Mb}{k:Nat}{f C:Addr}{fd:FuncData}{ps ks:w0h}{sp:Sp}{E:XK}{x m:Str}{p pos dC vf:Pos}{e o:Expr}{es:List Expr}{xH:List Keyword}{te ta:TE}{t tk:TA}{nm:Option Str}
structure KBinds(K:aa)(fd:FuncData)(ps ks:w0h)(g:w0i->List Value->List Value)(gV:List V->List V->List V):Prop where
 to:∀(s:Shared) (us ws:w0i),K.In s.heap->(g us ws).length=ps.length->BindsTo s fd ⟨us,ks.zip ws⟩ (ps.zip<|g us ws)
 rel:∀{vs:List V} {us:w0i} {zs:List V} {ws:w0i},o8 vs us->o8 zs ws->o8 (gV vs zs) (g us ws)
variable{g:w0i->List Value->List Value}{gV:List V->List V->List V}
end
structure j0(N P:w0h)(sc:Scope):Prop where
 kind:sc.kind=.function
 co:sc.isCoroutine=false
 gen:sc.isGenerator=false
 nd:N.Nodup
 pre:N.take P.length=P
 par:∀x∈P,sc.names.lookup x=some .local\/sc.names.lookup x=some .cell
 nofree:∀y∈sc.names,y.2≠.free
theorem GY{kindOf:Str->Option NameKind}{x:Str}:∀{binds:List (Str × Value)} {m:w0f},(∀v,(x,v) ∉ binds)->bindL kindOf binds m x=m x
 | [],_,_=>rfl
 | (n,v)::r,m,h=>by
  unfold bindL;rw[GY λw hw=>h w<|aq _ hw];split
  . have:x≠n:=by rintro rfl;exact h v ax
    simp[this]
  . rfl
theorem Hb{kindOf:Str->Option NameKind}{x:Str}:∀{binds:List (Str × Value)} {m:w0f},(∀v,(x,v) ∉ binds)->bindC kindOf binds m x=m x
 | [],_,_=>rfl
 | (n,v)::r,m,h=>by
  unfold bindC;rw[Hb λw hw=>h w<|aq _ hw];split
  . rfl
  . have:x≠n:=by rintro rfl;exact h v ax
    simp[this]
theorem GZ{kindOf:Str->Option NameKind}{x:Str}{v:Value}:∀{P:w0h} {vs:w0i} {i:Nat} {m:w0f},P.Nodup->P[i]? = some x->vs[i]? = some v->kindOf x=some .local->
    bindL kindOf (P.zip vs) m x=some v
 | [],_,_,_,_,h,_,_=>by simp at h
 | _::_,[],_,_,_,_,h,_=>by simp at h
 | p::P,w::vs,0,m,nd,h1,h2,hk=>by
  simp at h1 h2;subst h1;subst h2;show bindL kindOf ((p,w)::P.zip vs) m p=_;unfold bindL;rw[GY λv hv=>(bF.mp nd).1 (List.of_mem_zip hv).1,if_pos hk];simp
 | p::P,w::vs,i+1,m,nd,h1,h2,hk=>by
  show bindL kindOf ((p,w)::P.zip vs) m x=_;unfold bindL;exact GZ (i:=i) (bF.mp nd).2 (by simpa using h1) (by simpa using h2) hk
theorem Hc{kindOf:Str->Option NameKind}{x:Str}{v:Value}:∀{P:w0h} {vs:w0i} {i:Nat} {m:w0f},P.Nodup->P[i]? = some x->vs[i]? = some v->kindOf x≠some .local->
    bindC kindOf (P.zip vs) m x=some v
 | [],_,_,_,_,h,_,_=>by simp at h
 | _::_,[],_,_,_,_,h,_=>by simp at h
 | p::P,w::vs,0,m,nd,h1,h2,hk=>by
  simp at h1 h2;subst h1;subst h2;show bindC kindOf ((p,w)::P.zip vs) m p=_;unfold bindC;rw[Hb λv hv=>(bF.mp nd).1 (List.of_mem_zip hv).1,if_neg hk];simp
 | p::P,w::vs,i+1,m,nd,h1,h2,hk=>by
  show bindC kindOf ((p,w)::P.zip vs) m x=_;unfold bindC;exact Hc (i:=i) (bF.mp nd).2 (by simpa using h1) (by simpa using h2) hk
def An(N:w0h)(vs:List V):St:=vs.map some++List.replicate (N.length - vs.length) none
def FO(CX:Mb)(P:Program)(w:World)(K:aa)(mg:w0f)(base:Heap)(N:w0h)(qual:Str)(scope:Scope)(f:Addr)(cd:Value)(A:Around)(outer:List Env)(s:Shared)(H:Z)(E:XK):Cx where
 prog:=P
 w:=w
 K:=K
 mg:=mg
 base:=base
 A:=A.deeper (envOfC qual scope s.heap.objs.size f cd)
 N:=N
 s₀:=s
 H₀:=H
 env:=envOfC qual scope s.heap.objs.size f cd
 outer:=outer
 stack:=envOfC qual scope s.heap.objs.size f cd::outer
 ex:=[]
 calm:=true
 fn:=λ_=>true
 pn:=[]
 xe:=λe s'=>wpAny (model P w) (A.deeper<|envOfC qual scope s.heap.objs.size f cd) (leaving (envOfC qual scope s.heap.objs.size f cd) e) (λ_ eP=>CX outer H s E e eP) (λe' eP=>CX outer H s E e' eP) s'
def JI{sc:Scope}{n:Nat}{x:Str}(h:sc.names.lookup x=some .cell):∃c,(cellsFrom n sc.names []).lookup x=some c:=by have q:=PySem.W.cellsFrom_some sc.names n []<|.inl h;exact df.mp q
def MU{CX:Mb}{P:Program}{w:World}{K:aa}{mg:w0f}{base:Heap}{N ps:w0h}{qual:Str}{scope:Scope}{f:Addr}{cd:Value}{A:Around}{outer:List Env}{s s1:Shared}{H:Z}{E:XK}{us:w0i}{vs:List V}
    (S:j0 N ps scope) (hd:A.handled=none) (e0:DR P w K mg base A outer s H) (hl:vs.length=ps.length) (r:o8 vs us)
    (x:InCallC s s.heap.objs.size (bindL (envOfC qual scope s.heap.objs.size f cd).kindOf (ps.zip us) λ_=>none) (cellsFrom (s.heap.objs.size+1) scope.names []) (bindC (envOfC qual scope s.heap.objs.size f cd).kindOf (ps.zip us) λ_=>none) s1) :
    j9 (FO CX P w K mg base N qual scope f cd A outer s H E) [] (An N vs) H s1:=by
 have eT:ps.length<=N.length:=by have:=congrArg List.length S.pre;rw[aZ]at this;omega
 obtain⟨h1,tk,rfl,hk⟩:=x.done;have fA:∀b:Addr,b ∉ (FO CX P w K mg base N qual scope f cd A outer s H E).ex:=λb z=>absurd (show b∈([]:List Addr)from z) (by simp);show⟨⟨e0.mod,S.kind,Y,Y,ae _,λy z c h1 h2=>?_,λy hy=>?_,λy c _ h=>?_,λ_=>hd,Around.frames_deeper e0.frames,.inr ⟨Y,Y⟩,λb z=>absurd z<|fA b,e0.bs,e0.bsz,λb _ _=>fA b,λb z=>absurd z<|fA b,e0.funs,e0.frf⟩,
  rfl,e0.bare,Un.kept hk,⟨_,x.toInCall.ns,λi y v h1 h2 h3=>?_⟩,λy c h=>⟨_,x.cell y c h⟩,e0.hok.fresh (ae _),λy c h=>?_,λp hp=>absurd (show p∈([]:w0d)from hp) (by simp),e0.hok.kept hk,?_⟩
 . exact name_of_addr x.apart (aH h1) (aH h2)
 . have hy:scope.names.lookup y=some .cell\/scope.names.lookup y=some .free:=hy;rcases hy with hy | hy
   . exact JI hy
   . exact absurd rfl (S.nofree _<|aH hy)
 . exact aR (x.above y c<|aH h)
 . have hi:i < vs.length:=by
    unfold An at h2;by_cases hi:i < vs.length
    . exact hi
    . rw[bq<|by simpa using hi]at h2;rw[cA]at h2;split at h2 <;>cases h2
   have ha:vs[i]? = some v:=by
    unfold An at h2;rw[aV (by simpa using hi),aN]at h2;cases e:vs[i]? with
    | none=>rw[e]at h2;cases h2
    | some a=>rw[e]at h2;cases h2;rfl
   obtain⟨u,hu,rv⟩:=r.get ha;have hp:ps[i]? = some y:=by rw[<- S.pre,List.getElem?_take_of_lt oM];exact h1
   have qd:ps.Nodup:=by rw[<- S.pre];exact S.nd.sublist (List.take_sublist _ _)
   show⟨u,rv,?_⟩;rcases S.par y (aD hp)with k | k
   . exact .inl ⟨k,GZ qd hp hu k⟩
   . obtain⟨c,e⟩:=JI (n:=s.heap.objs.size+1) k;show .inr ⟨.inl k,c,e,?_⟩;have q:=x.cell y c e;rw[Hc qd hp hu<|by show scope.names.lookup y≠_;rw[k];decide]at q;exact q
 . exact .inl (e0.hok.fresh<|aR<|x.above y c<|aH h)
 . unfold An;show _=N.length;rw[ao,ai,cB];omega
def LJ{CX:Mb}{P:Program}{w:World}{K:aa}{mg:w0f}{base:Heap}{k:Nat}{f:Addr}{name qual:Str}{params:Arguments}{body:List Stmt}{scope:Scope}{dV kV dF pm dR ct oc:Value}{an od:Option Addr}
    {fW:Array (Option Value)} {N ps:w0h} {sp:Sp} (lk:K.lookup f=some ⟨oc,od,.func<|PySem.W.fnOf name qual params body scope dV kV dF pm an dR ct,fW⟩) (fi:PySem.W.codeIn K dR qual=true) (S:j0 N ps scope)
    (len:∀vs H Q E,sp vs H Q E->vs.length=ps.length)
    (dw:∀(A:Around) (outer:List Env) (s:Shared) (H:Z) (vs:List V) (Q:VK) (E:XK),z4 k (A.deeper<|envOfC qual scope s.heap.objs.size f dR)->sp vs H Q E->
     ∃t,GD (FO CX P w K mg base N qual scope f dR A outer s H E) body t/\t { nx:=λ_ H'=>Q .non H',rt:=Q } (An N vs) H) :
    m8 P w K mg base CX (k+1) f (PySem.W.fnOf name qual params body scope dV kV dF pm an dR ct) ps sp:=by
 show⟨len,λA outer s H args us vs Q E hr e0 hb r eX=>?_⟩;have hl:=len _ _ _ _ eX;have KX:K.In s.heap:=e0.mod.kin.keeps λb o e=>(e0.bs b o e).1;have iX:s.heap.NoLimit:=e0.mod.nolimit.keeps λb o e=>(e0.bs b o e).1;have fF:∀y∈ps.zip us,scope.names.lookup y.1=some .local\/(scope.names.lookup y.1=some .cell/\((cellsFrom (s.heap.objs.size+1) scope.names []).lookup y.1).isSome=true):=λ⟨n,v⟩ hy=>by
  rcases S.par n (List.of_mem_zip hy).1 with q | q
  . exact .inl q
  . exact .inr ⟨q,PySem.W.cellsFrom_some _ _ _<|.inl q⟩
 show codeAny_call_function hr.depth (KX _ _ lk) rfl S.co S.gen rfl (PySem.W.codeRec_of KX fi)<|hb _ _ _ _ ?_;show wpAny_newFunctionEnv_cells S.kind fF λenv he s1 x=>?_;subst he;show⟨iX.keeps x.toInCall.keep,codeAny_func ?_⟩;obtain⟨t,ht,hq⟩:=dw A outer s H vs Q E (hr.deeper _) eX;have I:j9 (FO CX P w K mg base N qual scope f dR A outer s H E) [] (An N vs) H s1:=MU S hr.hd e0 hl r x;show wpAny_mono (ht [] s1 (An N vs) H _ I hq) (λfl s' hs=>?_) λe s' hs=>hs;have dD:∀{H':Z} {v:V} {u:Value},Nm (FO CX P w K mg base N qual scope f dR A outer s H E) H' s'->p6 v u->Q v H'->CE outer P w H s Q u s':=
  λ{H' v u} J rv q=>⟨v,H',J.os,J.bare,J.base,J.hok,rv,q⟩
 cases fl with
 | ret u=>
  obtain⟨v,H',J,rv,q⟩:=hs;exact dD J rv q
 | next=>
  obtain⟨σ',H',J,q⟩:=hs;exact dD (v:=V.non) (u:=Value.none) J.r rfl q
 | brk=>
  obtain⟨_,_,_,q⟩:=hs;exact False.elim q
 | cont=>
  obtain⟨_,_,_,q⟩:=hs;exact False.elim q
section
variable{X:Cx}{x:Str}{p pos:Pos}{e:Expr}{es:List Expr}{t:TA}{id T:String}{r:List V->Z->VK->Prop}
def Vu(r:List V->Z->VK->Prop)(t:TA):TE:=λσ H Q=>t σ H λvs H1=>r vs H1 Q
def l4(hc:Q5 X (.builtin id) r)(hg:Gl X x)(hm:X.mg x=none)(hv:bootBuiltins x=some (.builtin id))(ha:PA X (e::es) t)(hn:x≠"__name__":=by decide)(fG:(x == ("__debug__":Str))=false:=by decide)
    (he:starEach (e::es) X.env=(false,eval e X.env)::starEach es X.env:=by rfl) (eT:(backTo pos<|starEach es X.env).any (·.1)=false:=by rfl):PE X (.Call (.Name x p) (e::es) [] pos) (Vu r t):=by
 intro aS s σ H Q I h;show wpAny_Call_Name_kw<|DM I hg hm hv ?_ hn fG;exact PyProof.Rows.callWith_builtin1 (y6 (ha pos aS s σ H _ I h) λus s1 ⟨vs,H1,I1,r1,q1⟩=>hc aS s1 σ H1 vs us Q I1 r1 q1) he eT
end
end L2
namespace HT
open PySem PyProof.Rows
section
open PySem.SeqAt
open PySem.AutoSeq1 (wpAny_loadPart')
open PySem.MeetsSeq PySem.MeetsSeq2 PySem.MeetsSeq3
end
section
variable{prog:Program}{w:World}{A:Around}{E:w0e}{s:Shared}
def O2(n d:Nat):Option Int->Nat
 | none=>d
 | some v=>if v < 0 then(v+(n:Int)).toNat else min v.toNat n
def IT(n d:Nat):O2 n d none=d:=rfl
def Lz(n d k:Nat):O2 n d (some (k:Int))=min k n:=by show(if(k:Int) < 0 then((k:Int)+(n:Int)).toNat else min (k:Int).toNat n)=min k n;rw[if_neg oM,Int.toNat_natCast]
def RU(n d:Nat)(hd:d<=n)(o:Option Int):O2 n d o<=n:=by
 cases o with
 | none=>exact hd
 | some v=>
  show(if v < 0 then(v+(n:Int)).toNat else min v.toNat n)<=n;by_cases hv:v < 0
  . rw[if_pos hv];omega
  . rw[if_neg hv];exact Nat.min_le_right _ _
def LV(v:Int)(n d:Nat):(if v < 0 then max (v+(n:Int)) 0 else min v (n:Int))=((O2 n d (some v):Nat):Int):=by
 show(if v < 0 then max (v+(n:Int)) 0 else min v (n:Int))=(((if v < 0 then(v+(n:Int)).toNat else min v.toNat n):Nat):Int);by_cases hv:v < 0
 . simp only[if_pos hv];omega
 . simp only[if_neg hv];omega
def Lk(lo hi:Option Int)(n:Nat):Builtin.Slice.sliceAdjust lo hi 1 (n:Int)=(((O2 n 0 lo:Nat):Int),((O2 n n hi:Nat):Int)):=by
 have h1:¬((1:Int) < 0):=by omega
 unfold Builtin.Slice.sliceAdjust;simp only[h1,if_false];show Prod.ext ?_ ?_
 . cases lo with
   | none=>rfl
   | some v=>exact LV v n 0
 . cases hi with
   | none=>rfl
   | some v=>exact LV v n n
def Kw(i j:Nat):Builtin.Slice.slicePlaces (i:Int) (j:Int) 1=j - i:=by
 unfold Builtin.Slice.slicePlaces;have h1:(1:Int) > 0:=by omega
 simp only[h1,if_true,Int.ediv_one];split <;>omega
def EW{v:Value}{o:Option Int}{Q:Option Int->Shared->Prop}(p:IsPart v o)(h:Q o s):wpAny (model prog w) A (Builtin.Slice.slicePartIndex v) Q E s:=by
 cases p with
 | none=>exact slicePart_none h
 | int i t=>exact slicePart_int h
def X2{sl:Addr}{vl vu:Value}{lo hi:Option Int}{n:Nat}{Q:Int × Int × Nat->Shared->Prop}(hs:s.heap.IsSliceOf sl vl vu .none)(pl:IsPart vl lo)(pu:IsPart vu hi)
    (h:Q (((O2 n 0 lo:Nat):Int),1,O2 n n hi - O2 n 0 lo) s):wpAny (model prog w) A (Builtin.Slice.sliceApplied (.ref sl)<|pure (n:Int)) Q E s:=by
 obtain⟨os,jg,jG,kB⟩:=id hs;unfold Builtin.Slice.sliceApplied Builtin.Slice.sliceFields;show wpAny_bind<|wpAny_bind<|wpAny_field jg kB (x:=vl) Y<|wpAny_bind<|wpAny_field jg kB (x:=vu) Y<|wpAny_bind<|wpAny_field jg kB (x:=.none) Y<|wpAny_pure ?_;show wpAny_bind<|slicePart_none ?_;show wpAny _ _ (if((1:Int) == 0)=true then _ else _) _ _ s;rw[if_neg bD];show wpAny_bind<|EW pl<|wpAny_bind<|EW pu<|wpAny_bind<|wpAny_pure ?_;show wpAny _ _ (match Builtin.Slice.sliceAdjust lo hi 1 (n:Int)with | (lo,hi)=>pure (lo,(1:Int),Builtin.Slice.slicePlaces lo hi 1)) _ _ s;rw[Lk lo hi n];show wpAny _ _ (pure (((O2 n 0 lo:Nat):Int),(1:Int),Builtin.Slice.slicePlaces ((O2 n 0 lo:Nat):Int) ((O2 n n hi:Nat):Int) 1)) _ _ s;rw[Kw];exact wpAny_pure h
def Oj(xs:Array Value)(i k:Nat):((List.range k).filterMap λ(m:Nat)=>xs[((i:Int)+(m:Int) * 1).toNat]?).toArray=((xs.toList.drop i).take k).toArray:=by
 have e:(λ(m:Nat)=>xs[((i:Int)+(m:Int) * 1).toNat]?)=λm=>xs[i+m]? := by
  funext m;have:((i:Int)+(m:Int) * 1).toNat=i+m:=by omega
  rw[this]
 rw[e];have:=pick_run xs i k;rw[List.filterMap_map]at this;have e2:((λx=>xs[x]?) ∘ λx=>i+x)=λm=>xs[i+m]? := rfl;rw[e2]at this;rw[this]
def CV{t sl:Addr}{items:Array Value}{vl vu:Value}{lo hi:Option Int}{Q:w0e}(ht:IsTup s.heap t items)(hs:s.heap.IsSliceOf sl vl vu .none)(pl:IsPart vl lo)(pu:IsPart vu hi)
    (hw:¬(O2 items.size 0 lo=0/\O2 items.size items.size hi=items.size))
    (h:Q (.ref s.heap.objs.size) { s with heap:=s.heap.push { cls:=.type "tuple",data:=.seq ((items.toList.drop<|O2 items.size 0 lo).take<|O2 items.size items.size hi - O2 items.size 0 lo).toArray } })
    (hsz:items.size<=sizeLine):wpAny (model prog w) A (getItem (.ref t)<|.ref sl) Q E s:=by
 have fZ:sizeOk (.seq ((items.toList.drop<|O2 items.size 0 lo).take<|O2 items.size items.size hi - O2 items.size 0 lo).toArray):=by show((items.toList.drop<|O2 items.size 0 lo).take<|O2 items.size items.size hi - O2 items.size 0 lo).toArray.size<=sizeLine;rw[aA,aZ,aO,Array.length_toList];omega
 have hj:O2 items.size items.size hi<=items.size:=RU _ _ (ae _) hi;obtain⟨os,jg,jG,kB⟩:=id hs;have oO:s.TypeIs (.ref sl) "slice":=⟨os,jg,jG⟩;unfold getItem
 try with_reducible show wpAny_holding ?_
 first | show wpAny_bind (wpAny_pure ?_) | skip
 show wpAny_bind<|wpAny_sequenceKey ht.typeIs bD ?_;show wpAny_bind (wpAny_callSpecial?_slot (name:=Str.ofString "__getitem__") ht.typeIs cU
  (wpAny_call_entry cU ht.typeIs entry_tuple_getitem ?_<|args_tuple_getitem _ _))
 show wpAny _ _ (Builtin.Tuple.tupleItemsOf (.ref t) >>= _) _ _ s;show wpAny_bind<|tupleItemsOf_ ht ?_;show wpAny_bind<|wpAny_typeOf oO ?_;rw[if_pos bD];show wpAny_bind<|X2 hs pl pu ?_;have vU:¬((((O2 items.size 0 lo:Nat):Int) == 0 && (1:Int) == 1 && (O2 items.size items.size hi - O2 items.size 0 lo) == items.size)=true):=by intro q;rw[bK,bK]at q;have q1:((O2 items.size 0 lo:Nat):Int)=0:=eq_of_beq q.1.1;have q2:O2 items.size items.size hi - O2 items.size 0 lo=items.size:=eq_of_beq q.2;exact hw ⟨oM,oM⟩
 show wpAny _ _ (if(((O2 items.size 0 lo:Nat):Int) == 0 && (1:Int) == 1 && (O2 items.size items.size hi - O2 items.size 0 lo) == items.size)=true then _ else _) _ _ s;rw[if_neg vU,Oj]
 first
  | exact wpAny_bind (m:=Builtin.Tuple.tupleExact _) (wpAny_newObj_type (wpAny_pure ⟨_,rfl,wpAny_pure h⟩) fZ)
  | exact wpAny_bind (m:=Builtin.Tuple.tupleExact _) (wpAny_newObj_type (wpAny_bind<|wpAny_pure<|wpAny_pure ⟨_,rfl,wpAny_pure h⟩) fZ)
  | exact wpAny_bind (wpAny_bind (m:=Builtin.Tuple.tupleExact _)<|wpAny_newObj_type (wpAny_pure<|wpAny_pure ⟨_,rfl,wpAny_pure h⟩) fZ)
  | exact wpAny_bind (wpAny_bind (m:=Builtin.Tuple.tupleExact _)<|wpAny_newObj_type (wpAny_pure ⟨_,rfl,wpAny_pure h⟩) fZ)
end
end HT
namespace L2
open PySem PySem.Spec PyProof.Rows
abbrev TO:=St->Z->(Option Int->Z->Prop)->Prop
def PO(X:Cx)(e:Option Expr)(t:TO):Prop:=
 ∀(aS:w0d) (s:Shared) (σ:St) (H:Z) (Q:Option Int->Z->Prop),j9 X aS σ H s->t σ H Q->
  wpAny (model X.prog X.w) X.A (evalPart e X.env) (λu s'=>∃o H',j9 X aS σ H' s'/\IsPart u o/\Q o H') X.xe s
def tNoPart:TO:=λ_ H Q=>Q none H
def Vk(t:TE):TO:=λσ H Q=>t σ H λx H1=>∃i,x=.int i/\Q (some i) H1
section
variable{X:Cx}{e:Expr}{te:TE}{lo hi:Option Expr}{tl th:TO}{pos p2:Pos}
def F5:PO X none tNoPart:=by intro aS s σ H Q I h;rw[evalPart_none];exact wpAny_pure ⟨none,H,I,.none,h⟩
def B2(h:PE X e te):PO X (some e) (Vk te):=by intro aS s σ H Q I hw;rw[evalPart_some];show y6 (h aS s σ H _ I hw) λu s1 ⟨x,H1,I1,r1,q1⟩=>?_;obtain⟨i,rfl,q⟩:=q1;obtain⟨t,rfl⟩:=r1;exact⟨some i,H1,I1,.int i t,q⟩
def QS(X:Cx)(r:V->Option Int->Option Int->Z->VK->Prop):Prop:=
 ∀(aS:w0d) (s:Shared) (σ:St) (H:Z) (x:V) (v vl vu:Value) (lo hi:Option Int) (sl:Addr) (Q:VK),j9 X aS σ H s->p6 x v->s.heap.IsSliceOf sl vl vu .none->IsPart vl lo->IsPart vu hi->r x lo hi H Q->
  ∃T id,typeLookup (.type T) "__getitem__"=pure (some<|.builtin id)/\s.TypeIs v T/\wpAny (model X.prog X.w) X.A (getItem v<|.ref sl) (EP X aS σ Q) X.xe s
def QS.or{r r':V->Option Int->Option Int->Z->VK->Prop}(h:QS X r)(h':QS X r'):QS X (λx lo hi H Q=>r x lo hi H Q\/r' x lo hi H Q):=by
 intro aS s σ H x v vl vu lo hi sl Q I rx hs pl pu q;rcases q with q | q
 . exact h aS s σ H x v vl vu lo hi sl Q I rx hs pl pu q
 . exact h' aS s σ H x v vl vu lo hi sl Q I rx hs pl pu q
def tSl(r:V->Option Int->Option Int->Z->VK->Prop)(te:TE)(tl th:TO):TE:=λσ H Q=>te σ H λx H1=>tl σ H1 λl H2=>th σ H2 λu H3=>r x l u H3 Q
def z5{r:V->Option Int->Option Int->Z->VK->Prop}(hr:QS X r)(he:PE X e te)(hl:PO X lo tl)(hu:PO X hi th):PE X (.Subscript e (.Slice lo hi none p2) pos) (tSl r te tl th):=by
 intro aS s σ H Q I h;show Subscript_<|y6 (he aS s σ H _ I h) λv s1 ⟨x,H1,I1,r1,q1⟩=>?_;show wpAny_Slice<|y6 (hl aS s1 σ H1 _ I1 q1) λvl s2 ⟨l,H2,I2,pl,q2⟩=>y6 (hu aS s2 σ H2 _ I2 q2) λvu s3 ⟨u,H3,I3,pu,q3⟩=>?_;rw[evalPart_none];show wpAny_pure ?_;have I4:j9 X aS σ H3 { s3 with heap:=s3.heap.push { cls:=.type "slice",data:=.fields #[vl,vu,.none] } }:=I3.kept (t':=s3.toks) λb ob q=>ak _ q;obtain⟨T,id,hT,ht,hg⟩:=hr aS { s3 with heap:=s3.heap.push { cls:=.type "slice",data:=.fields #[vl,vu,.none] } } σ H3 x v vl vu l u s3.heap.objs.size Q I4 r1 (Heap.IsSliceOf.new ..) pl pu q3;show wpAny (model X.prog X.w) X.A (subscriptTail e (.Slice lo hi none p2) v<|.ref s3.heap.objs.size) (EP X aS σ Q) X.xe { s3 with heap:=s3.heap.push { cls:=.type "slice",data:=.fields #[vl,vu,.none] } };exact tail_any (ops:=[.ref s3.heap.objs.size,v]) ht hT hg (by with_unfolding_all rfl)
def Ai(xs:List V)(lo hi:Option Int):List V:=(xs.drop<|HT.O2 xs.length 0 lo).take (HT.O2 xs.length xs.length hi - HT.O2 xs.length 0 lo)
def Eg(xs:List V)(lo hi:Option Int):(Ai xs lo hi).length<=xs.length:=by unfold Ai;rw[aZ,aO];omega
def rSlT(K:aa):V->Option Int->Option Int->Z->VK->Prop:=λx lo hi H Q=>∃a xs,x=.ref a/\y4 K H a xs/\
 ¬(HT.O2 xs.length 0 lo=0/\HT.O2 xs.length xs.length hi=xs.length)/\∀p,H p=none->Q (.ref p) (upd H p<|.tup<|Ai xs lo hi)
def RP:QS X (rSlT X.K):=by
 intro aS s σ H x v vl vu lo hi sl Q I rx hs pl pu h;obtain⟨a,xs,rfl,hx,hw,q⟩:=h;cases rx;obtain⟨di,r,ht,hz⟩:=I.tuple hx;have dE:di.toArray.size=xs.length:=by rw[aA];exact r.length.symm
 show⟨"tuple",_,PyProof.Rows.slot_tuple_getitem.lookup,ht.typeIs,?_⟩;show HT.CV ht hs pl pu (by rw[dE];exact hw) ?_ (by rw[dE];exact hz);rw[dE];show⟨.ref s.heap.objs.size,_,I.laid (t':=s.toks) (o:=.tup<|Ai xs lo hi) (λb ob q=>ak _ q) (ae _) ?_,Y,q _<|I.hok.fresh<|ae _⟩;exact⟨aj (Eg xs lo hi) hz,_,(r.drop<|HT.O2 xs.length 0 lo).take<|HT.O2 xs.length xs.length hi - HT.O2 xs.length 0 lo,IsTup.new _ _,λ_=>⟨_,aB _ Y,Y⟩⟩
end
def Uj(n:Nat)(i:Int):Option Nat:=if 0<=i then(if i < n then some i.toNat else none)else if -(n:Int)<=i then some (i+n).toNat else none
def Dh{α:Type}(xs:List α)(i:Int):Option α:=(Uj xs.length i).bind λj=>xs[j]?
def LF{n:Nat}{i:Int}{j:Nat}(h:Uj n i=some j):seqIndex? i n=some j/\j < n/\-(n:Int)<=i/\i < n:=by
 unfold Uj at h;by_cases h0:0<=i
 . rw[if_pos h0]at h;by_cases h1:i < n
   . rw[if_pos h1]at h;have e:i.toNat=j:=Option.some.inj h;exact⟨by rw[seqIndex_of h0 h1,e],oM,oM,h1⟩
   . rw[if_neg h1]at h;cases h
 . rw[if_neg h0]at h;by_cases h1:-(n:Int)<=i
   . rw[if_pos h1]at h;have e:(i+n).toNat=j:=Option.some.inj h;exact⟨by rw[seqIndex_neg oM h1,e],oM,h1,oM⟩
   . rw[if_neg h1]at h;cases h
def Iq{α:Type}{xs:List α}{i:Int}{v:α}(h:Dh xs i=some v):∃j,seqIndex? i xs.length=some j/\xs[j]? = some v/\j < xs.length/\-(xs.length:Int)<=i/\i < xs.length:=by
 unfold Dh at h;cases e:Uj xs.length i with
 | none=>rw[e]at h;cases h
 | some j=>
  rw[e]at h;obtain⟨h1,h2,h3,h4⟩:=LF e;exact⟨j,h1,h,h2,h3,h4⟩
def D9{α:Type}{xs:List α}{j:Nat}{v:α}(h:xs[j]? = some v):Dh xs (j:Int)=some v:=by
 have hj:j < xs.length:=(aP.mp h).1;have e:Uj xs.length (j:Int)=some j:=by unfold Uj;rw[if_pos oM,if_pos oM];simp
 unfold Dh;rw[e];exact h
def LX(b:Expr):Prop:=∀o i,subscripted b false o i=operate [o,i] (getItem o i)
def Iv(X:Cx)(r:R2):Prop:=
 ∀(value slice:Expr) (aS:w0d) (s:Shared) (σ:St) (H:Z) (x y:V) (v u:Value) (Q:VK),j9 X aS σ H s->p6 x v->p6 y u->r x y H Q->
  subscripted slice false v u=operate [v,u] (getItem v u)->wpAny (model X.prog X.w) X.A (subscriptTail value slice v u) (EP X aS σ Q) X.xe s
def UZ(X:Cx)(id:String)(r:V->List V->Z->VK->Prop):Prop:=
 ∀(aS:w0d) (s:Shared) (σ:St) (H:Z) (x:V) (xs:List V) (v:Value) (us:w0i) (Q:VK),j9 X aS σ H s->p6 x v->o8 xs us->r x xs H Q->
  wpAny (model X.prog X.w) X.A (call (.builtin id) (v::us)) (EP X aS σ Q) X.xe s
section
variable{X:Cx}{a b:Expr}{ta tb:TE}{pos:Pos}
def Iv.or{r r':R2}(h:Iv X r)(h':Iv X r'):Iv X (λx y H Q=>r x y H Q\/r' x y H Q):=by
 intro value slice aS s σ H x y v u Q I rx ry q hs;rcases q with q | q
 . exact h value slice aS s σ H x y v u Q I rx ry q hs
 . exact h' value slice aS s σ H x y v u Q I rx ry q hs
def UZ.or{id:String}{r r':V->List V->Z->VK->Prop}(h:UZ X id r)(h':UZ X id r'):UZ X id (λx xs H Q=>r x xs H Q\/r' x xs H Q):=by
 intro aS s σ H x xs v us Q I rx rs q;rcases q with q | q
 . exact h aS s σ H x xs v us Q I rx rs q
 . exact h' aS s σ H x xs v us Q I rx rs q
def WD{r:R2}(hr:Iv X r)(ha:PE X a ta)(hb:PE X b tb)(hs:LX b):PE X (.Subscript a b pos) (Pz r ta tb):=by intro aS s σ H Q I h;exact Subscript_ (UC ha hb I h λv u s2 x y H2 I2 rx ry q=>hr a b aS s2 σ H2 x y v u Q I2 rx ry q<|hs _ _)
def IY(K:aa):R2:=λx y H Q=>∃p xs i v,x=.ref p/\y=.int i/\y8 K H p xs/\Dh xs i=some v/\Q v H
def Mv(K:aa):R2:=λx y H Q=>∃p xs i v,x=.ref p/\y=.int i/\y4 K H p xs/\Dh xs i=some v/\Q v H
def rIxS:R2:=λx y H Q=>∃z i c,x=.str z/\y=.int i/\z.length<=sizeLine/\Dh z.cps.toList i=some c/\Q (.str ⟨#[c]⟩) H
def o4:Iv X (IY X.K):=by
 intro value slice aS s σ H x y v u Q I rx ry h hs;obtain⟨p,xs,i,z,rfl,rfl,hq,he,q⟩:=h;cases rx;obtain⟨t,rfl⟩:=ry;obtain⟨di,r,pl,hz⟩:=I.list hq;obtain⟨j,h1,h2,h3,h4,h5⟩:=Iq he;obtain⟨w,ew,fM⟩:=r.get h2;have hl:=r.length;have hn:=DL;have dD:EP X aS σ Q w s:=⟨z,H,I,fM,q⟩;by_cases h0:0<=i
 . have hj:i.toNat=j:=by rw[seqIndex_of h0 h5]at h1;exact Option.some.inj h1
   exact item_listR pl.isList h0 oM (by rw[hj];simpa using ew) dD hs
 . have hj:(i+(di.toArray.size:Int)).toNat=j:=by rw[seqIndex_neg oM h4]at h1;rw[aA,<- hl];exact Option.some.inj h1
   exact subscriptTail_builtinR (x:=w) pl.isList.typeIs slot_list_getitem.lookup
    (wpAny_getItem_list_neg (Q:=λr s'=>r=w/\EP X aS σ Q r s') pl.isList oM (by rw[aA] <;>omega) oM (by rw[hj];simpa using ew) ⟨Y,dD⟩) hs
def l7:Iv X (Mv X.K):=by
 intro value slice aS s σ H x y v u Q I rx ry h hs;obtain⟨p,xs,i,z,rfl,rfl,hq,he,q⟩:=h;cases rx;obtain⟨t,rfl⟩:=ry;obtain⟨di,r,pl,hz⟩:=I.tuple hq;obtain⟨j,h1,h2,h3,h4,h5⟩:=Iq he;obtain⟨w,ew,fM⟩:=r.get h2;have hl:=r.length;have hn:=DL;have dD:EP X aS σ Q w s:=⟨z,H,I,fM,q⟩;exact subscriptTail_builtinR (x:=w) pl.typeIs slot_tuple_getitem.lookup
  (getItem_tuple (j:=j) (Q:=λr s'=>r=w/\EP X aS σ Q r s') pl oM oM (by rw[aA,<- hl];exact h1) (by simpa using ew) ⟨Y,dD⟩) hs
def DO:Iv X rIxS:=by
 intro value slice aS s σ H x y v u Q I rx ry h hs;obtain⟨z,i,c,rfl,rfl,hz,he,q⟩:=h;obtain⟨t,rfl⟩:=rx;obtain⟨t',rfl⟩:=ry;obtain⟨j,h1,h2,h3,h4,h5⟩:=Iq he;have hl:z.cps.toList.length=z.length:=by simp[Str.length]
 rw[hl]at h1 h4 h5;have hn:=DL;exact tail_any (typeIs_str s z t) slot_str_getitem.lookup (getItem_str (c:=c) (by
  have e1:decide (i < -(2 ^ 63:Int))=false:=decide_eq_false oM;have e2:decide (i ≥ 2 ^ 63)=false:=decide_eq_false oM;rw[e1,e2,Bool.or_false]) (by rw[h1];simpa using h2) ⟨.str ⟨#[c]⟩,H,I.tok _,⟨_,Y⟩,q⟩) hs
def KL(di:w0i)(n j:Nat)(u:Value):Obj.mapSeq (·.setIfInBounds j u) { cls:=.type "list",data:=.seq di.toArray n }={ cls:=.type "list",data:=.seq (di.set j u).toArray n }:=by simp[Obj.mapSeq]
theorem j9.lst{aS:w0d}{σ:St}{H:Z}{s:Shared}{p:Addr}{xs:List V}(I:j9 X aS σ H s)(h:H p=some (.lst xs)) :
    ∃(di:w0i) (n:Nat),o8 xs di/\s.heap.get? p=some { cls:=.type "list",data:=.seq di.toArray n }/\xs.length<=sizeLine:=by
 obtain⟨z,di,n,r,e⟩:=I.hok p _ h;exact⟨di,n,r,e,z⟩
def j9.lstUpd{aS:w0d}{σ:St}{H:Z}{s:Shared}{p:Addr}{xs ys:List V}{di its':w0i}{n n':Nat}{f:Obj->Obj}(I:j9 X aS σ H s)(h:H p=some (.lst xs))
    (ho:s.heap.get? p=some { cls:=.type "list",data:=.seq di.toArray n }) (hf:f { cls:=.type "list",data:=.seq di.toArray n }={ cls:=.type "list",data:=.seq its'.toArray n' }) (r:o8 ys its') (hz:ys.length<=sizeLine) (t:Nat) :
    j9 X aS σ (upd H p<|.lst ys) { s with heap:=s.heap.update p f,toks:=t }:=by
 have e:(s.heap.update p f).get? p=some { cls:=.type "list",data:=.seq its'.toArray n' }:=by rw[Heap.get?_update_self f ho (by rw[hf] <;>rfl),hf]
 show I.write (x:=p) (e:=p) (by rw[h];trivial) (.inl Y) (λb u hb q=>(cD _ _<|Ne.symm hb).trans q) ⟨_,e⟩ ?_;exact⟨hz,its',n',r,e⟩
def rSetL:V->V->V->Z->(Z->Prop)->Prop:=λo i v H Q=>∃p xs k j,o=.ref p/\i=.int k/\H p=some (.lst xs)/\Uj xs.length k=some j/\Q (upd H p<|.lst<|xs.set j v)
def IP:c0p X rSetL:=by
 intro aS s σ H o i v ov iv u Q I ro ri rv h;obtain⟨p,xs,k,j,rfl,rfl,hp,hj,q⟩:=h;cases ro;obtain⟨t,rfl⟩:=ri;obtain⟨di,n,r,ho,hz⟩:=I.lst hp;obtain⟨h1,h2,h3,h4⟩:=LF hj;have hl:=r.length;have hn:=DL;have I':j9 X aS σ (upd H p<|.lst<|xs.set j v) { s with heap:=s.heap.update p (Obj.mapSeq (·.setIfInBounds j u)) }:=
  I.lstUpd hp ho (KL di n j u) (r.set rv j) (by rw[List.length_set];exact hz) s.toks
 by_cases h0:0<=k
 . have hk:k.toNat=j:=by rw[seqIndex_of h0 h4]at h1;exact Option.some.inj h1
   exact PySem.W.ki_setAt ho h0 oM (by rw[aA,<- hl];exact h4) (by rw[hk];exact⟨_,I',q⟩)
 . have hk:(k+(di.toArray.size:Int)).toNat=j:=by rw[seqIndex_neg oM h3]at h1;rw[aA,<- hl];exact Option.some.inj h1
   exact PySem.W.ki_setBack ho oM (by rw[aA,<- hl];exact h3) oM (by rw[hk];exact⟨_,I',q⟩)
def Hl(lo hi:Option Int)(n:Nat):(sliceBounds lo hi none n).1=((HT.O2 n 0 lo:Nat):Int)/\(sliceBounds lo hi none n).2.1=((HT.O2 n n hi:Nat):Int)/\(sliceBounds lo hi none n).2.2=1:=by
 show⟨?_,?_,Y⟩
 . cases lo with
   | none=>simp[sliceBounds,HT.O2]
   | some i=>
    simp only[sliceBounds,HT.O2,Option.getD_none,show(1:Int) > 0 by decide,if_true];by_cases h:i < 0
    . simp only[h,if_true] <;>omega
    . simp only[h,if_false] <;>omega
 . cases hi with
   | none=>simp[sliceBounds,HT.O2]
   | some i=>
    simp only[sliceBounds,HT.O2,Option.getD_none,show(1:Int) > 0 by decide,if_true];by_cases h:i < 0
    . simp only[h,if_true] <;>omega
    . simp only[h,if_false] <;>omega
def FZ(di:w0i)(lo hi:Option Int):slicePick di.toArray lo hi none=((di.drop<|HT.O2 di.length 0 lo).take<|HT.O2 di.length di.length hi - HT.O2 di.length 0 lo).toArray:=by obtain⟨h1,h2,h3⟩:=Hl lo hi di.toArray.size;unfold slicePick;rw[h1,h2,h3];simp only[sliceRange_one,pick_run,aA] <;>rfl
def rSlL(K:aa):V->Option Int->Option Int->Z->VK->Prop:=λx lo hi H Q=>∃a xs,x=.ref a/\y8 K H a xs/\∀p,H p=none->Q (.ref p) (upd H p<|.lst<|Ai xs lo hi)
def PL:QS X (rSlL X.K):=by intro aS s σ H x v vl vu lo hi sl Q I rx hs pl pu h;obtain⟨a,xs,rfl,hx,q⟩:=h;cases rx;obtain⟨di,r,ht,hz⟩:=I.list hx;have dE:=r.length;show⟨"list",_,slot_list_getitem.lookup,ht.isList.typeIs,?_⟩;show wpAny_getItem_list_slice ht.isList hs pl pu .none (by simp) ?_ (by rw[aA] <;>omega);rw[FZ,<- dE];show⟨.ref s.heap.objs.size,_,I.laid (t':=s.toks) (o:=.lst<|Ai xs lo hi) (λb ob q=>ak _ q) (ae _) ?_,Y,q _<|I.hok.fresh<|ae _⟩;exact⟨aj (Eg xs lo hi) hz,_,0,(r.drop<|HT.O2 xs.length 0 lo).take<|HT.O2 xs.length xs.length hi - HT.O2 xs.length 0 lo,aB _ Y⟩
def Dc:V->Bool
 | .non=>true
 | .bl _=>true
 | .int _=>true
 | .str _=>true
 | _=>false
def QH:V->V->Bool
 | .non,.non=>true
 | .bl a,.bl b=>a == b
 | .bl a,.int b=>(if a then 1 else 0) == b
 | .int a,.bl b=>a == (if b then 1 else 0)
 | .int a,.int b=>a == b
 | .str a,.str b=>a == b
 | _,_=>false
def Us{A:Around}{s:Shared}{y x:V}{u v:Value}(ry:p6 y u)(rx:p6 x v)(fy:Dc y=true)(fx:Dc x=true):SeqAt.EqAt A s u v (QH y x):=by
 cases y with
 | non=>
  cases ry;cases x with
  | non=>cases rx;exact SeqAt.EqAt.same _
  | bl b=>cases rx;exact SeqAt.EqAt.none_bool b
  | int b=>obtain⟨t,rfl⟩:=rx;exact SeqAt.EqAt.none_int b t
  | str b=>obtain⟨t,rfl⟩:=rx;exact SeqAt.EqAt.none_str b t
  | _=>exact absurd (show false=true from fx) aG
 | bl a=>
  cases ry;cases x with
  | non=>cases rx;exact SeqAt.EqAt.bool_none a
  | bl b=>cases rx;exact SeqAt.EqAt.bool_bool a b
  | int b=>obtain⟨t,rfl⟩:=rx;exact SeqAt.EqAt.bool_int a b t
  | str b=>obtain⟨t,rfl⟩:=rx;exact SeqAt.EqAt.bool_str a b t
  | _=>exact absurd (show false=true from fx) aG
 | int a=>
  obtain⟨t',rfl⟩:=ry;cases x with
  | non=>cases rx;exact SeqAt.EqAt.int_none a t'
  | bl b=>cases rx;exact SeqAt.EqAt.int_bool a t' b
  | int b=>obtain⟨t,rfl⟩:=rx;exact SeqAt.EqAt.int_int a t' b t
  | str b=>obtain⟨t,rfl⟩:=rx;exact SeqAt.EqAt.int_str a t' b t
  | _=>exact absurd (show false=true from fx) aG
 | str a=>
  obtain⟨t',rfl⟩:=ry;cases x with
  | non=>cases rx;exact SeqAt.EqAt.str_none a t'
  | bl b=>cases rx;exact SeqAt.EqAt.str_bool a t' b
  | int b=>obtain⟨t,rfl⟩:=rx;exact SeqAt.EqAt.str_int a t' b t
  | str b=>obtain⟨t,rfl⟩:=rx;exact SeqAt.EqAt.str_str a t' b t
  | _=>exact absurd (show false=true from fx) aG
 | _=>exact absurd (show false=true from fy) aG
def QI(x:V)(u:Value):Bool:=match u with
 | .none=>QH .non x
 | .bool b=>QH (.bl b) x
 | .int i _=>QH (.int i) x
 | .str z _=>QH (.str z) x
 | _=>false
def OO{x y:V}{u:Value}(r:p6 y u)(f:Dc y=true):QI x u=QH y x:=by
 cases y with
 | non=>cases r;rfl
 | bl b=>cases r;rfl
 | int i=>obtain⟨t,rfl⟩:=r;rfl
 | str z=>obtain⟨t,rfl⟩:=r;rfl
 | _=>exact absurd (show false=true from f) aG
theorem Ir{x:V}:∀{xs:List V} {us:w0i},o8 xs us->xs.all Dc=true->us.any (QI x)=xs.any λy=>QH y x
 | _,_,.nil,_=>rfl
 | y::xs,u::us,.cons r t,f=>by
  rw[List.all_cons,bK]at f;rw[cb,cb,OO r f.1,Ir t f.2]
theorem Fv{A:Around}{s:Shared}{x:V}{v:Value}(rx:p6 x v)(fx:Dc x=true):∀{xs:List V} {us:w0i},o8 xs us->xs.all Dc=true->∀u∈us,SeqAt.EqAt A s u v (QI x u)
 | _,_,.nil,_=>λu hu=>by cases hu
 | y::xs,u::us,.cons r t,f=>λu' hu=>by
  rw[List.all_cons,bK]at f;rcases ah.mp hu with rfl | hu
  . rw[OO r f.1];exact Us r rx f.1 fx
  . exact Fv rx fx t f.2 u' hu
def Um(x:V)(xs:List V):Bool:=xs.any λy=>QH y x
def rIn(K:aa)(uJ:Bool):R2:=λx y H Q=>∃p xs,y=.ref p/\(y8 K H p xs\/y4 K H p xs)/\Dc x=true/\xs.all Dc=true/\Q (.bl<|if uJ then !Um x xs else Um x xs) H
def HF:Aw X (compareOp .NotIn) (rIn X.K true):=by
 intro aS s σ H x y v u Q I rx ry h;obtain⟨p,xs,rfl,hq,fx,fs,q⟩:=h;cases ry;rcases hq with hq | hq
 . obtain⟨di,r,pl,hz⟩:=I.list hq;show SeqAt.notIn_listAt (QI x) pl.isList (λw hw=>Fv rx fx r fs w<|by simpa using hw) ⟨.bl _,H,I,Y,?_⟩;rw[show di.toArray.any (QI x)=di.any (QI x) by simp,Ir r fs];exact q
 . obtain⟨di,r,pl,hz⟩:=I.tuple hq;show SeqAt.notIn_tupleAt (QI x) pl (λw hw=>Fv rx fx r fs w<|by simpa using hw) ⟨.bl _,H,I,Y,?_⟩;rw[show di.toArray.any (QI x)=di.any (QI x) by simp,Ir r fs];exact q
def HD:Aw X (compareOp .NotIn) (λx y H Q=>∃i j,x=.str i/\y=.str j/\Q (.bl<|!(!(Builtin.Str.occurrences j i 0 j.length 1).isEmpty)) H):=by intro aS s σ H x y v u Q I rx ry h;obtain⟨i,j,rfl,rfl,q⟩:=h;obtain⟨t,rfl⟩:=rx;obtain⟨t',rfl⟩:=ry;exact notIn_str ⟨.bl _,H,I,Y,q⟩
def Q5.or{f:Value}{r r':List V->Z->VK->Prop}(h:Q5 X f r)(h':Q5 X f r'):Q5 X f (λxs H Q=>r xs H Q\/r' xs H Q):=by
 intro aS s σ H xs us Q I rs q;rcases q with q | q
 . exact h aS s σ H xs us Q I rs q
 . exact h' aS s σ H xs us Q I rs q
def tyV(K:aa)(T:String)(x:V)(H:Z):Prop:=match x with
 | .str _=>T="str"
 | .int _=>T="int"
 | .ref p=>(T="list"/\∃xs,y8 K H p xs)\/(T="tuple"/\∃o,K.lookup p=some o/\o.cls=.type "tuple"/\o.dict=none)\/
     (T="dict"/\((∃bY,H p=some (.dK bY))\/∃bY,H p=some (.dT bY)))\/(T="set"/\∃S n,H p=some (.set S n))
 | _=>False
def RA{aS:w0d}{σ:St}{H:Z}{s:Shared}{T:String}{x:V}{v:Value}(I:j9 X aS σ H s)(r:p6 x v)(ty:tyV X.K T x H) :
    s.TypeIs v T/\∀a,v=.ref a->∃ob,s.heap.get? a=some ob/\ob.dict=none:=by
 cases x with
 | str z=>
  obtain⟨t,rfl⟩:=r;cases (show T="str" from ty);exact⟨typeIs_str s z t,λ_ e=>nomatch e⟩
 | int i=>
  obtain⟨t,rfl⟩:=r;cases (show T="int" from ty);exact⟨typeIs_int s i t,λ_ e=>nomatch e⟩
 | ref p=>
  cases r;rcases ty with ⟨rfl,xs,hq⟩ | ⟨rfl,o,hk,hc,hd⟩ | ⟨rfl,hk⟩ | ⟨rfl,S,n,hk⟩
  . obtain⟨di,_,pl,_⟩:=I.list hq;show⟨pl.isList.typeIs,λa e=>?_⟩;cases e;obtain⟨o,n,e,c,hd,_⟩:=pl;exact⟨o,e,hd⟩
  . show⟨⟨o,I.kIn p o hk,hc⟩,λa e=>?_⟩;cases e;exact⟨o,I.kIn _ o hk,hd⟩
  . have z:∃o,s.heap.get? p=some o/\o.ExactDict:=by
     rcases hk with ⟨bY,hk⟩ | ⟨bY,hk⟩
     . obtain⟨_,_,_,_,o,_,_,e,ex,_⟩:=I.hok p _ hk;exact⟨o,e,ex⟩
     . obtain⟨_,_,_,_,o,_,_,e,ex,_⟩:=I.hok p _ hk;exact⟨o,e,ex⟩
    obtain⟨o,e,ex⟩:=z;show⟨⟨o,e,ex.1⟩,λa e2=>?_⟩;cases e2;exact⟨o,e,ex.2.1⟩
  . obtain⟨o,_,_,_,e,ex,_⟩:=I.hok p _ hk;show⟨⟨o,e,ex.1⟩,λa e2=>?_⟩;cases e2;exact⟨o,e,ex.2.1⟩
 | _=>exact False.elim ty
def tBM(K:aa)(T:String)(r:V->List V->Z->VK->Prop)(to:TE)(t:TA):TE:=λσ H Q=>to σ H λx H1=>tyV K T x H1/\t σ H1 λxs H2=>r x xs H2 Q
variable{o e:Expr}{es:List Expr}{to:TE}{t:TA}{name:Str}{dC dz:Pos}{T id:String}{r:V->List V->Z->VK->Prop}
def Jf(pa:PlainAttrs T)(slot:Slot T name id)(vJ:typeOf (.builtin id)=pure (.type "method_descriptor"))(hm:UZ X id r)(ho:PE X o to)(ha:PA X (e::es) t)
    (kJ:attributeBase o name X.env (eval o X.env)=eval o X.env:=by rfl)
    (oG:((backTo dz<|starEach (e::es) X.env).all (λx=>!x.1) && (backToKw dz<|keywordEach [] X.env).all (λx=>x.1.isSome)
     && decide ((e::es).length+([]:List Keyword).length+(if([]:List Keyword).isEmpty then 0 else 1) < 30))=true:=by rfl)
    (kx:(dC.endLine == dz.line)=true:=by rfl) (hs:starEach (e::es) X.env=(false,eval e X.env)::starEach es X.env:=by rfl) (je:(backTo dz<|starEach es X.env).any (·.1)=false:=by rfl) :
    PE X (.Call (.Attribute o name dC) (e::es) [] dz) (tBM X.K T r to t):=by
 intro aS s σ H Q I h;show wpAny_Call_method_late kJ oG kx rfl<|y6 (ho aS s σ H _ I h) λv s1 ⟨x,H1,I1,r1,ty,q1⟩=>?_;obtain⟨h1,h2⟩:=RA I1 r1 ty;show⟨T,id,pa,slot,vJ,h1,h2,?_⟩;have hA:=ha dz aS s1 σ H1 _ I1 q1;rw[hs]at hA ⊢;show Calls.callWith_builtin (by show(false || (backTo dz<|starEach es X.env).any (·.1))=false;rw[je] <;>rfl)<|Calls.evalArgs_plain ?_;exact y6 hA λus s2 ⟨vs,H2,I2,r2,q2⟩=>hm aS s2 σ H2 x vs v us Q I2 r1 r2 q2
end
def MtM(X:Cx)(id:String)(r:V->List V->Z->VK->Prop):Prop:=
 ∀(aS:w0d) (s:Shared) (σ:St) (H:Z) (x:V) (xs:List V) (v:Value) (us:w0i) (Q:VK),j9 X aS σ H s->p6 x v->o8 xs us->r x xs H Q->
  wpAny (model X.prog X.w) X.A (call (.builtin id) (v::us)) (EP X aS σ Q) X.xe s
def o8.one:∀{x:V} {us:w0i},o8 [x] us->∃u,us=[u]/\p6 x u
 | _,_,.cons r .nil=>⟨_,Y,r⟩
def o8.two:∀{x y:V} {us:w0i},o8 [x,y] us->∃u v,us=[u,v]/\p6 x u/\p6 y v
 | _,_,_,.cons r (.cons q .nil)=>za ⟨Y,r,q⟩
def o8.zero:∀{us:w0i},o8 [] us->us=[]
 | _,.nil=>rfl
theorem o8.eraseIdx:∀{xs:List V} {us:w0i} (i:Nat),o8 xs us->o8 (xs.eraseIdx i) (us.eraseIdx i)
 | _,_,_,.nil=>.nil
 | _,_,0,.cons _ t=>t
 | _,_,i+1,.cons r t=>.cons r (o8.eraseIdx i t)
theorem GQ{α:Type}:∀(l:List α) (i:Nat),(l.eraseIdx i).length<=l.length
 | [],_=>ae _
 | _::_,0=>bz _
 | _::r,i+1=>Nat.succ_le_succ (GQ r i)
section
variable{X:Cx}{aS:w0d}{σ:St}{H:Z}{s:Shared}{l b:Addr}{xs ys zs:List V}
def j9.lset{di its':w0i}{n:Nat}{f:Array Value->Array Value}{t':Nat}(I:j9 X aS σ H s)(hH:H l=some (.lst xs))
    (e:s.heap.get? l=some { cls:=.type "list",data:=.seq di.toArray n }) (hf:f di.toArray=its'.toArray) (hv:o8 ys its') (hz:ys.length<=sizeLine) :
    j9 X aS σ (upd H l<|.lst ys) { s with heap:=s.heap.update l<|Obj.mapSeq f,toks:=t' }:=by
 have q:=PySem.IsL.update e f;rw[hf]at q;show I.write (x:=l) (e:=l) (by rw[hH];exact trivial) (.inl Y) (λb' u hb hu=>(cD s.heap (Obj.mapSeq f)<|Ne.symm hb).trans hu) ⟨_,q⟩ ?_;exact⟨hz,its',_,hv,q⟩
def j9.lnew{di:w0i}{t':Nat}(I:j9 X aS σ H s)(hv:o8 ys di)(hz:ys.length<=sizeLine) :
    j9 X aS σ (upd H s.heap.objs.size<|.lst ys) { s with heap:=s.heap.push { cls:=.type "list",data:=.seq di.toArray },toks:=t' }:=
 I.laid (λ_ _ q=>ak _ q) (ae _) ⟨hz,di,0,hv,aB _ Y⟩
theorem j9.fresh(I:j9 X aS σ H s):H s.heap.objs.size=none:=I.hok.fresh (ae _)
def j9.lstM(I:j9 X aS σ H s)(hH:H l=some (.lst xs)):xs.length<=sizeLine/\∃(di:w0i) (n:Nat),o8 xs di/\xs.length=di.length/\s.heap.get? l=some { cls:=.type "list",data:=.seq di.toArray n }:=by obtain⟨z,di,n,r,e⟩:=I.hok l _ hH;exact⟨z,di,n,r,r.length,e⟩
def Ow{n:Nat}(h:n<=sizeLine):Builtin.List.listTooLong n=false:=by unfold Builtin.List.listTooLong;exact decide_eq_false oM
end
section
variable{X:Cx}
def rAppend:V->List V->Z->VK->Prop:=λx vs H Q=>∃l xs y,x=.ref l/\vs=[y]/\H l=some (.lst xs)/\xs.length < sizeLine/\Q .non (upd H l<|.lst<|xs++[y])
def MG:MtM X "list.append" rAppend:=by intro aS s σ H x vs v us Q I rx rv h;obtain⟨l,xs,y,rfl,rfl,hH,hz,q⟩:=h;cases rx;obtain⟨u,rfl,ru⟩:=rv.one;obtain⟨z,di,n,r,hl,e⟩:=I.lstM hH;show call_meets F.slot_list_append ⟨_,e,Y⟩ F.entry_list_append (F.args_list_append_2 _ _) (PySem.list_append l di.toArray n u<|by rw[aA];omega) ⟨e,?_⟩;show⟨.non,_,I.lset (its':=di++[u]) hH e (by simp) (r.append<|.cons ru .nil) ?_,Y,q⟩;rw[ao,List.length_singleton];omega
def rExtend:V->List V->Z->VK->Prop:=λx vs H Q=>∃l b xs zs,x=.ref l/\vs=[.ref b]/\H l=some (.lst xs)/\H b=some (.lst zs)/\xs.length+zs.length<=sizeLine/\Q .non (upd H l<|.lst<|xs++zs)
def GO:MtM X "list.extend" rExtend:=by
 intro aS s σ H x vs v us Q I rx rv h;obtain⟨l,b,xs,zs,rfl,rfl,hH,hB,hz,q⟩:=h;cases rx;obtain⟨u,rfl,ru⟩:=rv.one;cases ru;obtain⟨z,di,n,r,hl,e⟩:=I.lstM hH;obtain⟨z2,fQ,n2,r2,qm,e2⟩:=I.lstM hB;have hsz:di.toArray.size+fQ.toArray.size<=sizeLine:=by rw[aA,aA];omega
 have ku:¬(!di.toArray.isEmpty && Builtin.List.listTooLong (di.toArray.size+fQ.toArray.size))=true:=by rw[Ow hsz,Bool.and_false];exact aG
 show call_meets F.slot_list_extend ⟨_,e,Y⟩ F.entry_list_extend (F.args_list_extend_2 _ _)
  (AutoSeq1.list_extend_list_list_0 l di.toArray n b fQ.toArray n2 ku (by rw[aA];omega) oM) ⟨e,e2,?_⟩
 show⟨.non,_,I.lset (its':=di++fQ) hH e (by simp) (r.append r2) ?_,Y,q⟩;rw[ao];omega
def rPopAt:V->List V->Z->VK->Prop:=λx vs H Q=>∃l xs i k y,x=.ref l/\vs=[.int i]/\H l=some (.lst xs)/\-(2 ^ 63)<=i/\i < 2 ^ 63/\seqIndex? i xs.length=some k/\xs[k]? = some y/\Q y (upd H l<|.lst<|xs.eraseIdx k)
def OB:MtM X "list.pop" rPopAt:=by
 intro aS s σ H x vs v us Q I rx rv h;obtain⟨l,xs,i,k,y,rfl,rfl,hH,h1,h2,hk,hy,q⟩:=h;cases rx;obtain⟨u,rfl,ru⟩:=rv.one;obtain⟨t,rfl⟩:=ru;obtain⟨z,di,n,r,hl,e⟩:=I.lstM hH;obtain⟨w,hw,fM⟩:=r.get hy;show call_meets F.slot_list_pop ⟨_,e,Y⟩ F.entry_list_pop (F.args_list_pop_2 _ _)
  (MeetsSeq.list_pop_at l di.toArray n i t k w (fitsIndex_both h1 h2) (by rw[aA,<- hl];exact hk) (by rw[<- Array.getElem?_toList];exact hw)<|by rw[aA];omega) ⟨e,?_⟩
 show⟨y,_,I.lset (its':=di.eraseIdx k) hH e ?_ (r.eraseIdx k) ?_,fM,q⟩
 . show di.toArray.eraseIdxIfInBounds k=(di.eraseIdx k).toArray;rw[List.eraseIdxIfInBounds_toArray]
 . have:=GQ xs k;omega
def rCat:R2:=λx y H Q=>∃l b xs zs,x=.ref l/\y=.ref b/\H l=some (.lst xs)/\H b=some (.lst zs)/\xs.length+zs.length<=sizeLine/\∀p,H p=none->Q (.ref p) (upd H p<|.lst<|xs++zs)
def Ov:Aw X (binaryOp .Add) rCat:=by
 intro aS s σ H x y v u Q I rx ry h;obtain⟨l,b,xs,zs,rfl,rfl,hH,hB,hz,q⟩:=h;cases rx;cases ry;obtain⟨z,di,n,r,hl,e⟩:=I.lstM hH;obtain⟨z2,fQ,n2,r2,qm,e2⟩:=I.lstM hB;show PySem.P.add_list e e2 ?_ (by rw[aA,aA];omega);have ea:di.toArray++fQ.toArray=(di++fQ).toArray:=by simp
 rw[ea];exact⟨.ref _,_,I.lnew (t':=s.toks) (r.append r2) (by rw[ao];omega),Y,q _ I.fresh⟩
end
section
variable{prog:Program}{w:World}{A:Around}{E:w0e}{s:Shared}
set_option maxRecDepth 100000 in
end
section
variable{X:Cx}
end
end L2
namespace Att
open PySem PySem.W PySem.Calls PyProof.Rows
def EG{P:Params}{h:Heap}:∀(ns:List Int) (vs:w0i),WellAll P h vs (ns.map WData.int)->IntsAre vs ns:=by
 intro ns
 induction ns with
 | nil=>
  intro vs w;rw[List.map_nil]at w;cases w;exact .nil
 | cons n ns ih=>
  intro vs w;rw[aM]at w;cases w with
  | cons a b=>
   cases a;exact .cons _ _ (ih _ b)
def Ms{l:OpenLaw}{n:Nat}(hn:l.most=some n){P:Params}{h:Heap}{args:List WData}{vals:w0i}
    (ic:l.row.toRowW.claim.pre args=true) (nR:WellAll P h vals args) :
    ∃a vs ns,vals=[Value.ref a]/\args=[WData.list<|ns.map WData.int]/\h.get? a=some { cls:=.type "list",data:=.seq vs.toArray }/\IntsAre vs ns/\ns.length<=n:=by
 have vN:WShape.hasAll [] args [.list .int]=true:=(pre_splitW ic).1;have hc:l.pre.holds [] { args:=args }=true:=(pre_splitW ic).2;obtain⟨d,r,rfl,h1,h2⟩:=hasAllW_cons vN;obtain rfl:=hasAllW_nil h2;obtain⟨xs,rfl,h3⟩:=hasW_list h1;obtain⟨ns,rfl⟩:=items_int h3;have dE:ns.length<=n:=by
  unfold OpenLaw.pre at hc;have h4:(WTm.not<|.lt (.lit<|.int (n:Int))<|.len<|.arg 0).holds [] { args:=[.list<|ns.map .int] }=true:=by have h4:=(holds_andW hc).1;rw[hn]at h4;exact h4
  have h5:=condW_of h4<|w_not<|w_lt w_lit<|w_len_list<|w_arg Y;rw[ai]at h5;show Nat.le_of_not_lt λq=>?_;have q':(n:Int) < ((ns.length:Nat):Int):=by omega
  first
   | (rw[decide_eq_true q']at h5;exact absurd h5 bD)
   | (simp at h5;omega)
 cases nR with
 | cons w1 w2=>
  cases w2;cases w1 with
  | list ho jk=>exact za ⟨ns,Y,Y,ho,EG ns _ jk,dE⟩
def Mw(l:OpenLaw)(args:List WData):l.row.toRowW.claim.post args (.bool true) args=true:=
 postW_of (r:=l.row.toRowW) (X:=(true == true))
  (show WShape.has [] (.bool true) .bool=true by first | rfl | decide | simp[WShape.has,WShape.arms,WShape.armsAll])
  (show(WTm.eq .res<|.lit<|.bool true).value [] { args:=args,res:=some<|.bool true,after:=args }=some (.bool<|true == true)from w_eq_bool (w_res Y) w_lit) rfl
def JK{l:OpenLaw}{n:Nat}{q:Program}{loose:w0h}{XP:w0f->Heap->Prop}{YP:World->Heap->Prop}{d:DefRec}
    (hn:l.most=some n) (oJ:d.params.defaults=[])
    (call:∀(w:World) (s₀ s₁:Shared) (mg mb:w0f) (fa:Addr) (o:Obj) (pm cd dF:Value) (a:Addr) (vs:w0i) (ns:List Int),
     Ground q loose [] XP w s₀ mg mb s₁.heap->YP w s₁.heap->
     s₁.heap.get? fa=some o->o.data=.func (docDef d.name d.params d.body d.scope pm cd dF)->s₁.heap.CodeRec cd d.name->mg d.name=some (.ref fa)->
     s₁.heap.get? a=some { cls:=.type "list",data:=.seq vs.toArray }->IntsAre vs ns->ns.length<=n->s₁.gens=#[]->
     codeAny (model l.prog w) callerA (.call (.ref fa) ⟨[.ref a],[]⟩) (λr s'=>r=.ok (.ret<|.bool true)/\OldK s₁.heap s'.heap/\s'.os=s₁.os/\AllBare s'.gens) s₁) :
    WalkO q loose XP YP l.row.toRowW d [] (λf vs=>PySem.call f vs):=by
 intro w s₀ s₁ mg mb G a1a fa o pm cd dF dV kV ho hd fi hD ko hg args vals as ic vV xK nR xN;obtain rfl:dV=.none:=Dflts.none hD oJ;obtain rfl:kV=.none:=Dflts.noKw hD;obtain⟨a,vs,ns,rfl,rfl,jh,gI,dE⟩:=Ms hn ic nR;show enter_call<|codeAny_mono (call w s₀ s₁ mg mb fa o pm cd dF a vs ns G a1a ho (fd_plain hd) fi ko jh gI dE hg) λr s' hq=>?_;obtain⟨rfl,h2,h3,h4⟩:=hq;exact⟨.inl ⟨.bool true,.bool true,[],Y,λ_=>rfl,.bool true,Mw l _,λ_=>⟨List.Pairwise.nil,λ_ hm=>(nomatch hm)⟩⟩,h2,h3,h4⟩
section
variable{prog:Program}{w:World}{A:Around}{E:w0e}{s:Shared}{K:Frag}
end
end Att
namespace L2
open PySem PySem.Spec PyProof.Rows
theorem GF:∀{vs:w0i} {ns:List Int},IntsAre vs ns->o8 (ns.map V.int) vs
 | _,_,.nil=>.nil
 | _,_,.cons n t h=>.cons ⟨t,Y⟩ (GF h)
abbrev KOf{K:aa}{h:Heap}(_:K.In h):aa:=K
abbrev C8:Mb:=λ_ _ _ _ _ _=>False
abbrev E0:XK:=λ_ _ _=>False
def t8{X:Cx}:Bb C8 X E0:=λ_ _ _ _ _ _ _ h=>h.elim
structure FV(K:aa)(x qual:Str)(st:Stmt)(f:Addr)(fd:FuncData):Prop where
 ex:∃(oc:Value) (od:Option Addr) (kV dF pm:Value) (an:Option Addr) (dR ct:Value) (fW:Array (Option Value)),
  fd=PySem.W.fnOf x qual (y9 st) (p9 st) (c5 st) .none kV dF pm an dR ct/\K.lookup f=some ⟨oc,od,.func fd,fW⟩/\PySem.W.codeIn K dR qual=true
 kp:PySem.W.keepIn K (.ref f)=true
section
variable{P:Program}{w:World}{K:aa}{mg:w0f}{base:Heap}
def FV.ok{x qual:Str}{st:Stmt}{f:Addr}{fd:FuncData}{N ps:w0h}{k:Nat}{sp:Sp}(F:FV K x qual st f fd)(S:j0 N ps (c5 st))(len:∀vs H Q E,sp vs H Q E->vs.length=ps.length)
    (dw:∀(dR:Value) (A:Around) (outer:List Env) (s:Shared) (H:Z) (vs:List V) (Q:VK) (E:XK),z4 k (A.deeper<|envOfC qual (c5 st) s.heap.objs.size f dR)->sp vs H Q E->
     ∃t,GD (FO C8 P w K mg base N qual (c5 st) f dR A outer s H E).nox (p9 st) t/\t { nx:=λ_ H'=>Q .non H',rt:=Q } (An N vs) H):m8 P w K mg base C8 (k+1) f fd ps sp:=by
 obtain⟨oc,od,kV,dF,pm,an,dR,ct,fW,rfl,lk,fi⟩:=F.ex;show LJ lk fi S len λA outer s H vs Q E hr eX=>?_;obtain⟨t,h,q⟩:=dw dR A outer s H vs Q E hr eX;exact⟨t,h.nox,q⟩
def FV.okA{x qual:Str}{st:Stmt}{f:Addr}{fd:FuncData}{N ps:w0h}{k:Nat}{sp:Sp}(F:FV K x qual st f fd)(S:j0 N ps (c5 st))
    (dw:∀(dR:Value) (A:Around) (outer:List Env) (s:Shared) (H:Z) (vs:List V) (Q:VK) (E:XK),z4 k (A.deeper<|envOfC qual (c5 st) s.heap.objs.size f dR)->sp vs H Q E->
     ∃t,GD (FO C8 P w K mg base N qual (c5 st) f dR A outer s H E).nox (p9 st) t/\t { nx:=λ_ H'=>Q .non H',rt:=Q } (An N vs) H)(len:∀vs H Q E,sp vs H Q E->vs.length=ps.length:=by intro _ _ _ _ h;repeat first | (obtain⟨rfl,_⟩:=h;rfl) | obtain⟨_,h⟩:=h):m8 P w K mg base C8 (k+1) f fd ps sp:=F.ok S len dw
def FV.binds{x qual:Str}{st:Stmt}{f:Addr}{fd:FuncData}{ps:w0h}(F:FV K x qual st f fd)
    (h:∀(kV dF pm:Value) (an:Option Addr) (dR ct:Value) (us:w0i),us.length=ps.length->bindArgs (PySem.W.fnOf x qual (y9 st) (p9 st) (c5 st) .none kV dF pm an dR ct) ⟨us,[]⟩=pure (ps.zip us)):E6 K fd ps []:=by
 obtain⟨oc,od,kV,dF,pm,an,dR,ct,fW,rfl,lk,fi⟩:=F.ex;exact .all (h kV dF pm an dR ct)
def ON{x qual:Str}{st:Stmt}{f:Addr}{oc:Value}{od an:Option Addr}{fW:Array (Option Value)}{kV dF pm dR ct:Value}(l:K.lookup f=some ⟨oc,od,.func<|PySem.W.fnOf x qual (y9 st) (p9 st) (c5 st) .none kV dF pm an dR ct,fW⟩)
    (c:PySem.W.codeIn K dR qual=true) (k:PySem.W.keepIn K (.ref f)=true):FV K x qual st f (PySem.W.fnOf x qual (y9 st) (p9 st) (c5 st) .none kV dF pm an dR ct):=⟨⟨oc,od,kV,dF,pm,an,dR,ct,fW,Y,l,c⟩,k⟩
end
def B8{A:Around}{k:Nat}(hr:z4 k A):A.units+1 < cLine:=cg (Nat.add_le_add_left (by decide:1<=64) _) hr.units
section
variable{X:Cx}
def U(i:Nat){x:Str}{pos:Pos}(hN:X.N[i]? = some x:=by rfl)(hv:Vis X.env.scope x:=by first | exact Or.inl rfl | exact Or.inr (Or.inl rfl) | exact Or.inr<|Or.inr rfl)(hd:(x == ("__debug__":Str))=false:=by decide)
    (fi:(x == ("__classdict__":Str))=false:=by decide):PE X (.Name x pos) (FY i):=Tf hN hv hd fi
end
def t7{A B:Prop}(h:B):if false=true then A else B:=by rw[if_neg aG];exact h
def B9{A B:Prop}(h:A):if true=true then A else B:=by rw[if_pos rfl];exact h
def o6(H H':Z):Prop:=∀b o,H b=some o->H' b=some o
def o6.refl(H:Z):o6 H H:=λ_ _ h=>h
def o6.trans{H H1 H2:Z}(a:o6 H H1)(b:o6 H1 H2):o6 H H2:=λc o h=>b c o (a c o h)
def o6.free{H H':Z}(e:o6 H H'){l:Addr}(h:H' l=Option.none):H l=Option.none:=by
 cases q:H l with
 | none=>rfl
 | some o=>
  rw[e l o q]at h;cases h
def o6.seq{K:aa}{H H':Z}{a:Addr}{xs:List V}(e:o6 H H')(h:y8 K H a xs):y8 K H' a xs:=by
 rcases h with (h | ⟨o,h⟩) | h
 . exact .inl (.inl<|e _ _ h)
 . exact .inl (.inr ⟨o,e _ _ h⟩)
 . exact .inr h
end L2
set_option maxHeartbeats 4000000
namespace L2
open PySem PySem.Spec PyProof.Rows PySem.SeqAt
section
variable{X:Cx}
def Rx(_ j:Int):Prop:=j≠0/\j.natAbs.log2 < 9000
def Fk:Aw X (binaryOp .FloorDiv) (rI Rx λi j=>.int<|i.fdiv j):=WJ λ_ _ _ _ _ _ _ hc q=>floordiv_int hc.1 q (Or.inl<|PyProof.noPylong_of_log2 hc.2)
def Ku(K:aa):List V->Z->VK->Prop:=λxs H Q=>∃x n t b,xs=[x,.ty n]/\P3 K H x t/\PySem.W.kitOne K t (.type n)=some b/\Q (.bl b) H
def K0:Q5 X (.builtin "isinstance") (Ku X.K):=by
 intro aS s σ H xs us Q I r h;obtain⟨x,n,t,b,rfl,ty,e,q⟩:=h;cases r with
 | cons rx r1=>
  cases r1 with
  | cons ry r2=>
   cases r2;cases ry;exact MP I rx ty e λtk=>⟨.bl b,H,I.tok _,Y,q⟩
structure MkO(K:aa)(C:Addr):Prop where
 makes:PySem.W.makesIn K C=true
 init:PySem.W.findIn K (.ref C) "__init__"=some (some<|.builtin "object.__init__")
 kp:PySem.W.keepIn K (.ref C)=true
def RH(C:Addr):TE:=λ_ H Q=>∀x dx,H x=none->H dx=none->dx≠x->Q (.ref x) (upd (upd H dx<|.own x) x<|.ins C dx [])
def Fh{C:Addr}{x:Str}{p pos:Pos}(M:MkO X.K C)(hg:Gl X x)(hm:X.mg x=some (.ref C))(fG:(x == ("__debug__":Str))=false:=by decide):PE X (.Call (.Name x p) [] [] pos) (RH C):=by
 intro aS s σ H Q I h;show wpAny_Call_Name_kw<|V2 I hg hm ?_ fG;show PySem.W.callWith_K0 I.kIn M.kp ?_;have hq:=h (s.heap.objs.size+1) s.heap.objs.size (I.hok.fresh<|bz _) (I.hok.fresh<|ae _)<|au<|bJ _;have I2:=j9.made (C:=C) I;have a1a:=PySem.W.makes_of (M:=model X.prog X.w) I.kIn M.makes;show wpAny_call<|MH I.kIn M.makes M.init (λself=>PySem.W.Looks.of_pure<|PySem.W.oi_bind self) ?_;have t1:PySem.W.Looks (model X.prog X.w) ((s.heap.push PySem.W.emptyDict).push<|PySem.W.instObj C s.heap.objs.size) (typeOf<|.ref<|s.heap.objs.size+1) (.ref C):=
  (PySem.W.Looks.ld (o:=PySem.W.instObj C s.heap.objs.size) (by have e:((s.heap.push PySem.W.emptyDict).push<|PySem.W.instObj C s.heap.objs.size).get? (s.heap.push PySem.W.emptyDict).objs.size=some (PySem.W.instObj C s.heap.objs.size):=aB _ rfl;rw[bb]at e;exact e)).andThen .now
 have t2:PySem.W.Looks (model X.prog X.w) ((s.heap.push PySem.W.emptyDict).push<|PySem.W.instObj C s.heap.objs.size) (isInstance (.ref<|s.heap.objs.size+1)<|.type "object") true:=
  t1.andThen (a1a.top.keeps λb o e=>ak _<|ak _ e)
 show PySem.codeAny_call_builtin PySem.W.oi_plain PySem.W.entry_oi<|@PySem.W.check_slot (model X.prog X.w) _ _ _ "object.__init__" "object" "__init__" (.ref<|s.heap.objs.size+1) [] [] _ PySem.W.oi_kind PySem.W.oi_split t2 (PySem.W.oi_args<|.ref<|s.heap.objs.size+1) ?_;rw[PySem.W.oi_run];exact wpAny_pure (And.intro rfl ⟨V.ref<|s.heap.objs.size+1,_,I2,rfl,hq⟩)
end
mutual
inductive Is(K:aa)(H:Z):V->PyData->Prop
 | non:Is K H .non .none
 | bl (b:Bool):Is K H (.bl b) (.bool b)
 | int (i:Int):Is K H (.int i) (.int i)
 | str (x:Str):Is K H (.str x) (.str x)
 | tup {a:Addr} {xs:List V} {ds:List PyData}:y4 K H a xs->R5 K H xs ds->Is K H (.ref a) (.tuple ds)
 | lst {a:Addr} {xs:List V} {ds:List PyData}:y8 K H a xs->R5 K H xs ds->Is K H (.ref a) (.list ds)
inductive R5(K:aa)(H:Z):List V->List PyData->Prop
 | nil:R5 K H [] []
 | cons {v:V} {vs:List V} {d:PyData} {ds:List PyData}:Is K H v d->R5 K H vs ds->R5 K H (v::vs) (d::ds)
end
def o6.tup{K:aa}{H H':Z}{a:Addr}{xs:List V}(e:o6 H H')(h:y4 K H a xs):y4 K H' a xs:=by
 rcases h with (h | ⟨o,h⟩) | h
 . exact .inl (.inl<|e _ _ h)
 . exact .inl (.inr ⟨o,e _ _ h⟩)
 . exact .inr h
mutual
theorem Is.same{K:aa}{H H':Z}(e:o6 H H'):∀{v:V} {d:PyData},Is K H v d->Is K H' v d
 | _,_,.non=>.non
 | _,_,.bl b=>.bl b
 | _,_,.int i=>.int i
 | _,_,.str x=>.str x
 | _,_,.tup h r=>.tup (e.tup h) (R5.same e r)
 | _,_,.lst h r=>.lst (e.seq h) (R5.same e r)
theorem R5.same{K:aa}{H H':Z}(e:o6 H H'):∀{v:List V} {d:List PyData},R5 K H v d->R5 K H' v d
 | _,_,.nil=>.nil
 | _,_,.cons a r=>.cons (Is.same e a) (R5.same e r)
end
section
variable{X:Cx}{aS:w0d}{σ:St}{H:Z}{s:Shared}
mutual
theorem Is.reads(I:j9 X aS σ H s):∀{v:V} {d:PyData} {u:Value},Is X.K H v d->p6 v u->∃as,Reads s.heap u d as
 | _,_,_,.non,r=>by cases r;exact⟨_,.none⟩
 | _,_,_,.bl b,r=>by cases r;exact⟨_,.bool b⟩
 | _,_,_,.int i,r=>by obtain⟨t,rfl⟩:=r;exact⟨_,.int i t⟩
 | _,_,_,.str x,r=>by obtain⟨t,rfl⟩:=r;exact⟨_,.str x t⟩
 | _,_,_,.tup h a,r=>by
  cases r;obtain⟨di,rv,⟨o,ho,hc,n,hd⟩,_⟩:=I.tuple h;obtain⟨as,hr⟩:=R5.reads I a rv;exact⟨as,.tuple ho hc hd<|by simpa using hr⟩
 | _,_,_,.lst h a,r=>by
  cases r;obtain⟨di,rv,⟨o,n,ho,hc,_,hd⟩,_⟩:=I.list h;obtain⟨as,hr⟩:=R5.reads I a rv;exact⟨_,.list ho hc hd<|by simpa using hr⟩
theorem R5.reads(I:j9 X aS σ H s):∀{vs:List V} {ds:List PyData} {us:w0i},R5 X.K H vs ds->o8 vs us->∃as,ReadsAll s.heap us ds as
 | _,_,_,.nil,.nil=>⟨_,.nil⟩
 | _,_,_,.cons a r,.cons q t=>by
  obtain⟨as,h1⟩:=Is.reads I a q;obtain⟨bs,h2⟩:=R5.reads I r t;exact⟨_,.cons h1 h2⟩
end
def WB(K:aa):R2:=λx y H Q=>∃d d',Is K H x d/\Is K H y d'/\shaped d=true/\shaped d'=true/\noMix d d'=true/\Q (.bl<|PySem.Spec.same d d') H
def SW(K:aa):R2:=λx y H Q=>∃d d',Is K H x d/\Is K H y d'/\shaped d=true/\shaped d'=true/\noMix d d'=true/\Q (.bl<|!PySem.Spec.same d d') H
def KB(hu:X.A.units+64 < cLine):Aw X (compareOp .Eq) (WB X.K):=by intro aS s σ H x y v u Q I rx ry h;obtain⟨d,d',hx,hy,sx,sy,nm,q⟩:=h;obtain⟨as,ra⟩:=hx.reads I rx;obtain⟨bs,rb⟩:=hy.reads I ry;exact eq_dataH_same ra rb sx sy hu nm ⟨.bl _,H,I,Y,q⟩
def Fi(hu:X.A.units+64 < cLine):Aw X (compareOp .NotEq) (SW X.K):=by intro aS s σ H x y v u Q I rx ry h;obtain⟨d,d',hx,hy,sx,sy,nm,q⟩:=h;obtain⟨as,ra⟩:=hx.reads I rx;obtain⟨bs,rb⟩:=hy.reads I ry;exact ne_dataH_same ra rb sx sy hu nm ⟨.bl _,H,I,Y,q⟩
end
def FH{i j:Int}{A B:Prop}(h1:i=j->A)(h2:¬i=j->B):if decide (V.int i=V.int j)=true then A else B:=by
 by_cases h:i=j
 . rw[if_pos<|decide_eq_true<|congrArg V.int h];exact h1 h
 . rw[if_neg<|by simpa using h];exact h2 h
def Rr{i j:Int}{A B:Prop}(h1:¬i=j->A)(h2:i=j->B):if(!decide (V.int i=V.int j))=true then A else B:=by
 by_cases h:i=j
 . rw[if_neg<|by simpa using h];exact h2 h
 . rw[if_pos<|by simpa using h];exact h1 h
def CT{p A B:Prop} [Decidable p](h1:p->A)(h2:¬p->B):if decide p=true then A else B:=by
 by_cases h:p
 . rw[if_pos<|decide_eq_true h];exact h1 h
 . rw[if_neg<|by simpa using h];exact h2 h
def j6{H:Z}{p:Addr}{o:HO}(h:H p=none):o6 H (upd H p o):=λb u e=>by
 rw[k9<|l9 e h];exact e
end L2
namespace L2
open PySem PySem.Spec PyProof.Rows
section
variable{κ:Type} [DecidableEq κ]
def y7(bY:List (κ × V))(k:κ):Option V:=(bY.find? λkv=>decide<|kv.1=k).map (·.2)
def K2(bY:List (κ × V))(k:κ)(v:V):List (κ × V):=
 if(bY.any λkv=>decide<|kv.1=k)=true then bY.map (λkv=>if kv.1=k then(kv.1,v)else kv)else bY++[(k,v)]
def F7{p:κ × V}{r:List (κ × V)}{k:κ}(e:p.1=k):y7 (p::r) k=some p.2:=by simp[y7,cj,e]
def F8{p:κ × V}{r:List (κ × V)}{k:κ}(e:¬p.1=k):y7 (p::r) k=y7 r k:=by simp[y7,cj,e]
theorem X0(k:κ):∀bY:List (κ × V),(bY.any λkv=>decide<|kv.1=k)=(y7 bY k).isSome
 | []=>rfl
 | p::r=>by
  rw[cb];by_cases e:p.1=k
  . simp only[F7 e,decide_eq_true e,Bool.true_or,Option.isSome_some]
  . rw[F8 e,decide_eq_false e,Bool.false_or];exact X0 k r
theorem IF(k j:κ)(y:V):∀bY:List (κ × V),y7 (bY.map λkv=>if kv.1=k then(kv.1,y)else kv) j=(y7 bY j).map λx=>if j=k then y else x
 | []=>rfl
 | p::r=>by
  have ih:=IF k j y r;rw[aM];by_cases h:p.1=k
  . rw[if_pos h];by_cases e:p.1=j
    . rw[F7 (p:=(p.1,y)) e,F7 e,bL,if_pos<|e.symm.trans h]
    . rw[F8 (p:=(p.1,y)) e,F8 e,ih]
  . rw[if_neg h];by_cases e:p.1=j
    . rw[F7 (p:=p) e,F7 e,bL,if_neg<|λz=>h<|e.trans z]
    . rw[F8 (p:=p) e,F8 e,ih]
theorem GG(k j:κ)(y:V):∀bY:List (κ × V),y7 bY k=none->y7 (bY++[(k,y)]) j=if j=k then some y else y7 bY j
 | [],_=>by
  by_cases e:k=j
  . rw[if_pos e.symm];exact F7 (p:=(k,y)) e
  . rw[if_neg<|λz=>e z.symm];exact F8 (p:=(k,y)) e
 | p::r,hn=>by
  rw[cW];have hk:¬p.1=k:=λz=>by rw[F7 z]at hn;cases hn
  rw[F8 hk]at hn;have ih:=GG k j y r hn;by_cases e:p.1=j
  . rw[F7 e,F7 e,if_neg<|λz=>hk<|e.trans z]
  . rw[F8 e,F8 e,ih]
def Ay(bY:List (κ × V))(k j:κ)(y:V):y7 (K2 bY k y) j=if j=k then some y else y7 bY j:=by
 unfold K2;by_cases a:(bY.any λkv=>decide<|kv.1=k)=true
 . rw[if_pos a,IF];rw[X0]at a;by_cases e:j=k
   . obtain⟨x,hx⟩:=df.mp a;rw[if_pos e,e,hx,bL,if_pos rfl]
   . rw[if_neg e];cases y7 bY j with
     | none=>rfl
     | some x=>rw[bL,if_neg e]
 . rw[if_neg a];show GG k j y bY ?_;rw[X0]at a;cases q:y7 bY k with
   | none=>rfl
   | some x=>rw[q]at a;exact(a Y).elim
def V1(bY:List (κ × V))(k:κ)(v:V):(K2 bY k v).length<=bY.length+1:=by
 unfold K2;split
 . rw[ai];omega
 . rw[ao,bg,List.length_nil];omega
def IZ{bY:List (κ × V)}{k:κ}(v:V)(h:y7 bY k=none):K2 bY k v=bY++[(k,v)]:=by unfold K2;rw[X0,h];exact if_neg bD
def Al.isSome_eq{o:Option V}{u:Option Value}(r:Al o u):o.isSome=u.isSome:=by
 cases o with
 | none=>cases u with
  | none=>rfl
  | some _=>exact(show False from r).elim
 | some _=>cases u with
  | none=>exact(show False from r).elim
  | some _=>rfl
theorem Al.getD{o:Option V}{u:Option Value}{d:V}{d':Value}(r:Al o u)(rd:p6 d d'):p6 (o.getD d) (u.getD d'):=by
 cases o with
 | none=>cases u with
  | none=>exact rd
  | some _=>exact(show False from r).elim
 | some _=>cases u with
  | none=>exact(show False from r).elim
  | some _=>exact r
def KV.val{bY:List (κ × V)}{vs:List (κ × Value)}(r:KV bY vs)(k:κ):Al (y7 bY k) (valueAt vs k):=by
 unfold KV at r
 induction r with
 | nil=>exact True.intro
 | @cons p q ps qs h t ih=>
  obtain⟨h1,h2⟩:=h;by_cases e:p.1=k
  . have e':q.1=k:=h1.symm.trans e;have b:valueAt (q::qs) k=some q.2:=by simp[valueAt,cj,e']
    rw[F7 e,b];exact h2
  . have e':¬q.1=k:=λz=>e<|h1.trans z;have b:valueAt (q::qs) k=valueAt qs k:=by simp[valueAt,cj,e']
    rw[F8 e,b];exact ih
theorem KV.any{bY:List (κ × V)}{vs:List (κ × Value)}(r:KV bY vs)(k:κ):(bY.any λkv=>decide<|kv.1=k)=vs.any λkv=>decide (kv.1=k):=by
 unfold KV at r
 induction r with
 | nil=>rfl
 | cons h t ih=>rw[cb,cb,ih,h.1]
def KV.repl{bY:List (κ × V)}{vs:List (κ × Value)}(r:KV bY vs)(k:κ){y:V}{u:Value}(ry:p6 y u) :
    KV (bY.map λkv=>if kv.1=k then(kv.1,y)else kv) (vs.map λkv=>if kv.1=k then(kv.1,u)else kv):=by
 unfold KV at r ⊢
 induction r with
 | nil=>exact .nil
 | @cons p q ps qs h t ih=>
  rw[aM,aM];show .cons ?_ ih;obtain⟨h1,h2⟩:=h;by_cases e:p.1=k
  . rw[if_pos e,if_pos<|h1.symm.trans e];exact⟨h1,ry⟩
  . rw[if_neg e,if_neg<|λz=>e<|h1.trans z];exact⟨h1,h2⟩
def KV.put{bY:List (κ × V)}{vs:List (κ × Value)}(r:KV bY vs)(k:κ){y:V}{u:Value}(ry:p6 y u):KV (K2 bY k y) (stored vs k u):=by
 unfold K2 stored;rw[r.any k];by_cases e:(vs.any λkv=>decide<|kv.1=k)=true
 . rw[if_pos e,if_pos e];exact r.repl k ry
 . rw[if_neg e,if_neg e];exact Paired.snoc r ⟨Y,ry⟩
theorem KV.length{bY:List (κ × V)}{vs:List (κ × Value)}(r:KV bY vs):bY.length=vs.length:=Paired.length r
end
def GS{P:Program}{w:World}{k:E5}{u:Value}(r:p6 (kV k) u):(B6 P w).is k u=true:=by
 cases k with
 | inl i=>obtain⟨t,e⟩:=(show ∃t,u=Value.int i t from r);subst e;exact Js P w i t
 | inr x=>obtain⟨t,e⟩:=(show ∃t,u=Value.str x t from r);subst e;exact AX P w x t
theorem GT{P:Program}{w:World}:∀{ks:List E5} {us:w0i},o8 (ks.map kV) us->ItemsAre (B6 P w) ks us
 | [],_,r=>by rw[List.map_nil]at r;cases r;exact .nil
 | k::ks,_,r=>by
  rw[aM]at r;cases r with
  | cons h t=>exact .cons (GS h) (GT t)
abbrev KT(H:Z):List (List E5 × V)->List (List E5 × Addr × Value)->Prop:=Paired λp q=>p.1=q.1/\H q.2.1=some (.tup<|p.1.map kV)/\p6 p.2 q.2.2
def KT.val{H:Z}{bY:List (List E5 × V)}{xs:List (List E5 × Addr × Value)}(r:KT H bY xs)(k:List E5):Al (y7 bY k) ((atKey xs k).map (·.2)):=by
 induction r with
 | nil=>exact True.intro
 | @cons p q ps qs h t ih=>
  obtain⟨h1,_,h2⟩:=h;by_cases e:p.1=k
  . have e':q.1=k:=h1.symm.trans e;have b:atKey (q::qs) k=some q.2:=by simp[atKey,cj,e']
    rw[F7 e,b];exact h2
  . have e':¬q.1=k:=λz=>e<|h1.trans z;have b:atKey (q::qs) k=atKey qs k:=by simp[atKey,cj,e']
    rw[F8 e,b];exact ih
def KT.repl{H:Z}{bY:List (List E5 × V)}{xs:List (List E5 × Addr × Value)}(r:KT H bY xs)(k:List E5){y:V}{u:Value}(ry:p6 y u) :
    KT H (bY.map λkv=>if kv.1=k then(kv.1,y)else kv) (xs.map<|putAt k u):=by
 induction r with
 | nil=>exact .nil
 | @cons p q ps qs h t ih=>
  rw[aM,aM];show .cons ?_ ih;obtain⟨h1,h2,h3⟩:=h;unfold putAt;by_cases e:p.1=k
  . rw[if_pos e,if_pos<|h1.symm.trans e];exact⟨h1,h2,ry⟩
  . rw[if_neg e,if_neg<|λz=>e<|h1.trans z];exact⟨h1,h2,h3⟩
def KT.put{H:Z}{bY:List (List E5 × V)}{xs:List (List E5 × Addr × Value)}(r:KT H bY xs)(k:List E5){b:Addr}{y:V}{u:Value}(hb:H b=some (.tup<|k.map kV))(ry:p6 y u) :
    KT H (K2 bY k y) (storedH xs k b u):=by
 have e:(bY.any λkv=>decide<|kv.1=k)=(atKey xs k).isSome:=by rw[X0,(r.val k).isSome_eq,Option.isSome_map]
 unfold K2 storedH;rw[e];by_cases q:(atKey xs k).isSome=true
 . rw[if_pos q,if_pos q];exact r.repl k ry
 . rw[if_neg q,if_neg q];exact Paired.snoc r ⟨Y,hb,ry⟩
def KT.keeps{H H':Z}{bY:List (List E5 × V)}{xs:List (List E5 × Addr × Value)}(r:KT H bY xs)(ht:∀b ys,H b=some (.tup ys)->H' b=some (.tup ys)):KT H' bY xs:=
 Paired.mapP r λ_ _ z=>⟨z.1,ht _ _ z.2.1,z.2.2⟩
section
variable{P:Program}{w:World}{H:Z}{h:Heap}{a:Addr}
def Rh{u:HO}(ok:R6 P w H h)(e:Rd H a u):D4 P w H h a u:=e.ok ok
def LP{bY:List (E5 × V)}(ok:R6 P w H h)(e:Rd H a (.dK bY)):bY.length<=sizeLine/\(a == sysModules)=false/\∃vs,KV bY vs/\h.DictOf (B6 P w) a vs:=
 show D4 P w H h a (.dK bY)from Rh ok e
def LQ{bY:List (E5 × V)}(ok:R6 P w H h)(e:H a=some (.dK bY)):bY.length<=sizeLine/\(a == sysModules)=false/\∃vs,KV bY vs/\h.DictOf (B6 P w) a vs:=LP ok (.inl e)
def Ig{ks:List E5}(ok:R6 P w H h)(e:H a=some (.tup<|ks.map kV)):(tupleKind<|B6 P w).is h ks a:=by obtain⟨_,di,r,⟨o,h1,h2,n,h3⟩,_⟩:=(show D4 P w H h a (.tup<|ks.map kV)from ok a _ e);exact⟨o,di.toArray,n,h1,h2,h3,by simpa using GT r⟩
def LO{bY:List (List E5 × V)}(ok:R6 P w H h)(e:Rd H a (.dT bY)):bY.length<=sizeLine/\(a == sysModules)=false/\
    ∃xs,KT H bY xs/\h.DictOfH (tupleKind<|B6 P w) a xs:=by
 obtain⟨z,y,xs,r,o,es,ep,h1,h2,h3,h4,h5⟩:=(show D4 P w H h a (.dT bY)from Rh ok e);show⟨z,y,xs,r,o,es,ep,h1,h2,h3,h4,λx hx=>?_,h5⟩;have all:∀{l:List (List E5 × V)} {m:List (List E5 × Addr × Value)},KT H l m->∀x∈m,(tupleKind<|B6 P w).is h x.1 x.2.1:=by
  intro l m q
  induction q with
  | nil=>intro x hx;exact nomatch hx
  | @cons p q ps qs hq t ih=>
   intro x hx;rcases ah.mp hx with e | hx
   . subst e;exact Ig ok (by rw[<- hq.1];exact hq.2.1)
   . exact ih x hx
 exact all r x hx
def c0h{bY:List (List E5 × V)}(ok:R6 P w H h)(e:H a=some (.dT bY)):bY.length<=sizeLine/\(a == sysModules)=false/\
    ∃xs,KT H bY xs/\h.DictOfH (tupleKind<|B6 P w) a xs:=LO ok (.inl e)
end
def R3(H:Z)(a:Addr)(y:V)(r:Option V):Prop:=
 (∃bY k,Rd H a (.dK bY)/\y=kV k/\r=y7 bY k)\/∃bY k b,Rd H a (.dT bY)/\y=.ref b/\H b=some (.tup<|k.map kV)/\r=y7 bY k
def Cp(H:Z)(a:Addr)(y v:V)(H':Z):Prop:=
 (∃bY k,H a=some (.dK bY)/\y=kV k/\bY.length < sizeLine/\H'=upd H a (.dK<|K2 bY k v))\/
 ∃bY k b,H a=some (.dT bY)/\y=.ref b/\H b=some (.tup<|k.map kV)/\bY.length < sizeLine/\H'=upd H a (.dT<|K2 bY k v)
theorem R3.k{H:Z}{a:Addr}{bY:List (E5 × V)}{k:E5}(e:H a=some (.dK bY)):R3 H a (kV k) (y7 bY k):=.inl ⟨bY,k,.inl e,Y,Y⟩
theorem Cp.k{H:Z}{a:Addr}{bY:List (E5 × V)}{k:E5}{v:V}(e:H a=some (.dK bY))(hl:bY.length < sizeLine):Cp H a (kV k) v (upd H a<|.dK<|K2 bY k v):=.inl ⟨bY,k,e,Y,hl,Y⟩
section
variable{X:Cx}{aS:w0d}{σ:St}{H:Z}{s:Shared}{a:Addr}{y v:V}{u r:Value}{o:Option V}{A:Around}{E:w0e}
def j9.big(I:j9 X aS σ H s):sysModules < s.heap.objs.size:=by have h:mainGlobals < s.heap.objs.size:=(I.mod.glob.keeps I.bk).lt;exact Nat.lt_trans bD h
def Nd{Q:w0e}(hu:A.units+1 < cLine)(I:j9 X aS σ H s)(g:R3 H a y (some v))(ry:p6 y u)(h:∀w' s',j9 X aS σ H s'->p6 v w'->Q w' s') :
    wpAny (model X.prog X.w) A (getItem (.ref a) u) Q E s:=by
 rcases g with ⟨bY,k,e,ey,l⟩ | ⟨bY,k,b,e,ey,eb,l⟩
 . subst ey;obtain⟨z,hd,vs,rel,dd⟩:=LP I.hok e;obtain⟨w',hw,fM⟩:=Al.some_of (v:=v) (o:=valueAt vs k) (by rw[l];exact rel.val k);exact wpAny_getItem_of (GS ry) dd.mapOf hw (h w' _ (I.tok _) fM)
 . subst ey;cases (show u=Value.ref b from ry);obtain⟨z,hd,xs,rel,dd⟩:=LO I.hok e;obtain⟨w',hw,fM⟩:=Al.some_of (v:=v) (o:=(atKey xs k).map (·.2)) (by rw[l];exact rel.val k);obtain⟨p,hp,jf⟩:=bM.mp hw;show wpAny_getItem_heap (tupleKind_room_in1 hu) (Ig I.hok eb) dd hp ?_;rw[jf];exact h w' _ (I.tok _) fM
def QJ{Q:w0e}(hu:A.units+1 < cLine)(I:j9 X aS σ H s)(g:R3 H a y o)(ry:p6 y u)(h:∀s',j9 X aS σ H s'->Q (.bool<|!o.isSome) s') :
    wpAny (model X.prog X.w) A (compareOp .NotIn u<|.ref a) Q E s:=by
 rcases g with ⟨bY,k,e,ey,l⟩ | ⟨bY,k,b,e,ey,eb,l⟩
 . subst ey;obtain⟨z,hd,vs,rel,dd⟩:=LP I.hok e;show wpAny_notIn_of (GS ry) hd dd.mapOf ?_;rw[<- (rel.val k).isSome_eq,<- l];exact h _ (I.tok _)
 . subst ey;cases (show u=Value.ref b from ry);obtain⟨z,hd,xs,rel,dd⟩:=LO I.hok e;show wpAny_notIn_heap (tupleKind_room_in1 hu) (Ig I.hok eb) hd dd ?_;have q:=(rel.val k).isSome_eq;rw[Option.isSome_map]at q;rw[<- q,<- l];exact h _ (I.tok _)
def Ii{h':Heap}{t':Nat}{ob:HO}(I:j9 X aS σ H s)(mu:c0s (H a))(hs:Heap.SameBut a s.heap h')(he:∃q,h'.get? a=some q)(new:D4 X.prog X.w (upd H a ob) h' a ob) :
    j9 X aS σ (upd H a ob) { s with heap:=h',toks:=t' }:=
 I.write (x:=a) (e:=a) mu (.inl Y) (λb q hb z=>(hs.2 b hb).trans z) he new
def OQ{P:Program}{w:World}{H':Z}{h':Heap}{bY:List (E5 × V)}{vs:List (E5 × Value)}(z:bY.length<=sizeLine)(hd:(a == sysModules)=false)(rel:KV bY vs)(dd:h'.DictOf (B6 P w) a vs) :
    D4 P w H' h' a (.dK bY):=⟨z,hd,vs,rel,dd⟩
def Nc{H':Z}{Q:Unit->Shared->Prop}(hu:A.units+1 < cLine)(I:j9 X aS σ H s)(g:Cp H a y v H')(ry:p6 y u)(rv:p6 v r)(h:∀s',j9 X aS σ H' s'->Q () s') :
    wpAny (model X.prog X.w) A (setItem (.ref a) u r) Q E s:=by
 rcases g with ⟨bY,k,e,ey,l,eH⟩ | ⟨bY,k,b,e,ey,eb,l,eH⟩
 . subst ey eH;obtain⟨z,hd,vs,rel,dd⟩:=LQ I.hok e;have hz:vs.length<=sizeLine:=by rw[<- rel.length];exact z
   have hl:(K2 bY k v).length<=sizeLine:=by have:=V1 bY k v;omega
   show wpAny_setItem_pairs (hsz:=hz) (GS ry) dd λh' jt hs=>h _ ?_;have he:∃q,h'.get? a=some q:=let⟨q,_,_,hq,_⟩:=jt;⟨q,hq⟩
   exact Ii I (by rw[e];exact True.intro) hs he (OQ hl hd (rel.put k rv) jt)
 . subst ey eH;cases (show u=Value.ref b from ry);obtain⟨z,hd,xs,rel,dd⟩:=c0h I.hok e;have hz:xs.length<=sizeLine:=by rw[<- Paired.length rel];exact z
   have hl:(K2 bY k v).length<=sizeLine:=by have:=V1 bY k v;omega
   show wpAny_setItem_heap (hsz:=hz) (tupleKind_room_in1 hu) (Ig I.hok eb) dd λh' jt hs=>h _ ?_;obtain⟨q,es,ep,hq,h2,h3,h4,_,h5⟩:=jt;show Ii I (by rw[e];exact True.intro) hs ⟨q,hq⟩ ⟨hl,hd,_,(rel.put k eb rv).keeps λc ys ec=>?_,q,es,ep,hq,h2,h3,h4,h5⟩;rw[k9<|Ee ec e<|λz=>nomatch z];exact ec
end
section
variable{X:Cx}{aS:w0d}{σ:St}{H:Z}{s:Shared}{a:Addr}{bY:List (E5 × V)}{k:E5}{u:Value}{A:Around}{E:w0e}
end
def UF(i:Expr):Prop:=∀ov iv,subscripted i false ov iv=operate [ov,iv] (getItem ov iv)
def Lq{prog:Program}{w:World}{A:Around}{E:w0e}{s:Shared}{env:Env}{value slice:Expr}{pos:Pos}{T id:String}{Q:w0e}
    (hl:typeLookup (.type T) "__getitem__"=pure (some<|.builtin id)) (hs:UF slice)
    (h:wpAny (model prog w) A (eval value env) (λo s₁=>wpAny (model prog w) A (eval slice env) (λi s₂=>s₂.TypeIs o T/\wpAny (model prog w) A (getItem o i) Q E s₂) E s₁) E s) :
    wpAny (model prog w) A (eval (.Subscript value slice pos) env) Q E s:=by
 show Subscript_<|wpAny_mono h (λo s₁ h₁=>wpAny_mono h₁ (λi s₂ h₂=>?_) λ_ _ x=>x) λ_ _ x=>x;obtain⟨hT,h₂⟩:=h₂;unfold subscriptTail;show wpAny_bind ?_;rw[getitemInPython_of_ne hT.not_modules];show wpAny_bind<|wpAny_specialOf hT hl ?_;have dD:wpAny (model prog w) A (subscripted slice false o i) (λr s₃=>wpAny (model prog w) A (letTemporaryGo value o r >>= λ_=>pure r) Q E s₃) E s₂:=by rw[hs o i];exact wpAny_operating (wpAny_mono h₂ (λr s₃ h₃=>wpAny_bind<|wpAny_letTemporaryGo<|wpAny_pure h₃) λ_ _ x=>x)
 first
  | exact wpAny_pure (wpAny_bind dD)
  | exact wpAny_bind (wpAny_pure<|wpAny_bind dD)
  | exact wpAny_bind dD
def JG{X:Cx}{aS:w0d}{σ:St}{H:Z}{s:Shared}{a:Addr}{y:V}{o:Option V}(I:j9 X aS σ H s)(g:R3 H a y o):s.TypeIs (.ref a) "dict":=by
 rcases g with ⟨bY,k,e,_,_⟩ | ⟨bY,k,b,e,_,_,_⟩
 . obtain⟨_,_,vs,_,dd⟩:=LP I.hok e;exact dd.typeIs
 . obtain⟨_,_,xs,_,dd⟩:=LO I.hok e;exact dd.typeIs
def Vt(td ty:TE):TE:=λσ H Q=>td σ H λx H1=>ty σ H1 λy H2=>∃a v,x=.ref a/\R3 H2 a y (some v)/\Q v H2
def PB(ty td:TE):TE:=λσ H Q=>ty σ H λy H1=>td σ H1 λx H2=>∃a o,x=.ref a/\R3 H2 a y o/\Q (.bl<|!o.isSome) H2
def VC(td ty tv:TE):TS:=λD σ H=>tv σ H λv H1=>td σ H1 λx H2=>ty σ H2 λy H3=>∃a H4,x=.ref a/\Cp H3 a y v H4/\D.nx σ H4
section
variable{X:Cx}{o i e value:Expr}{pos eE mW:Pos}{td ty tv:TE}
def B4(hu:X.A.units+1 < cLine)(ho:PE X o td)(hi:PE X i ty)(hs:UF i):PE X (.Subscript o i pos) (Vt td ty):=by intro aS s σ H Q I h;show Lq PySem.F.slot_dict_getitem.lookup hs<|y6 (ho aS s σ H _ I h) λu s1 ⟨x,H1,I1,rx,q1⟩=>y6 (hi aS s1 σ H1 _ I1 q1) λiv s2 ⟨y,H2,I2,ry,a,v,ex,g,q2⟩=>?_;subst ex;obtain rfl:u=Value.ref a:=rx;exact⟨JG I2 g,Nd hu I2 g ry λw' s3 I3 fM=>⟨v,H2,I3,fM,q2⟩⟩
def GM(hu:X.A.units+1 < cLine)(hi:PE X i ty)(ho:PE X o td):PC X .NotIn i o (PB ty td):=by intro aS s σ H Q I h;show y6 (hi aS s σ H _ I h) λiv s1 ⟨y,H1,I1,ry,q1⟩=>y6 (ho aS s1 σ H1 _ I1 q1) λu s2 ⟨x,H2,I2,rx,a,ov,ex,g,q2⟩=>?_;subst ex;obtain rfl:u=Value.ref a:=rx;exact QJ hu I2 g ry λs3 I3=>⟨.bl<|!ov.isSome,H2,I3,Y,q2⟩
def P8(hu:X.A.units+1 < cLine)(ho:PE X o td)(hi:PE X i ty)(hv:PE X value tv)(hs:swapsWith value (some<|.Subscript o i eE) pos.line X.env=pure false) :
    PS X (.Assign [.Subscript o i eE] value pos) (VC td ty tv):=by
 intro aS s σ H D I h;show wpAny_Assign_Subscript (y6 (hv aS s σ H _ I h) λr s1 ⟨v,H1,I1,rv,q1⟩=>y6 (ho aS s1 σ H1 _ I1 q1) λu s2 ⟨x,H2,I2,rx,q2⟩=>y6 (hi aS s2 σ H2 _ I2 q2) λiv s3 ⟨y,H3,I3,ry,a,H4,ex,g,q3⟩=>?_) hs;subst ex;obtain rfl:u=Value.ref a:=rx;exact Nc hu I3 g ry rv λs4 I4=>⟨σ,H4,I4,q3⟩
end
def JF{P:Program}{w:World}{H:Z}(h:Heap)(hb:sysModules < h.objs.size):D4 P w H (h.push { cls:=.type "dict",data:=.dict #[] }) h.objs.size (.dK []):=
 ⟨aU _,beq_eq_false_iff_ne.mpr<|Ne.symm<|au hb,[],.nil,Heap.DictOf.new h⟩
def tDNewK:TE:=λ_ H Q=>∀p,H p=none->Q (.ref p) (upd H p<|.dK [])
section
variable{X:Cx}{pos:Pos}
def Jc:PE X (.Dict [] [] pos) tDNewK:=λaS s σ H Q I h=>
 wpAny_Dict_empty ⟨.ref s.heap.objs.size,_,I.laid (a:=s.heap.objs.size) (o:=.dK []) (t':=s.toks) (λ_ _ q=>ak _ q) (ae _)<|JF s.heap I.big,Y,h _<|I.hok.fresh<|ae _⟩
end
def Ke:List (TE × TE)->St->Z->(List (V × V)->Z->Prop)->Prop
 | [],_,H,Q=>Q [] H
 | (tk,tv)::r,σ,H,Q=>tk σ H λx H1=>tv σ H1 λy H2=>Ke r σ H2 λps H3=>Q ((x,y)::ps) H3
abbrev VV:List (V × V)->List (Value × Value)->Prop:=Paired λp q=>p6 p.1 q.1/\p6 p.2 q.2
def PPs(X:Cx)(pos:Pos)(fE:List (Option Expr))(eL:List Expr)(gY:List (TE × TE)):Prop:=
 ∀(aS:w0d) (s:Shared) (σ:St) (H:Z) (Q:List (V × V)->Z->Prop),j9 X aS σ H s->Ke gY σ H Q->
  wpAny (model X.prog X.w) X.A (evalPairs<|pairTrees fE eL X.env pos) (λvs s'=>∃ps H',j9 X aS σ H' s'/\VV ps vs/\Q ps H') X.xe s
def Hx{X:Cx}{pos:Pos}:PPs X pos [] [] []:=λaS s σ H Q I h=>pairTrees_nil_walk ⟨[],H,I,.nil,h⟩
def N8{X:Cx}{pos:Pos}{k v:Expr}{ks:List (Option Expr)}{vs:List Expr}{tk tv:TE}{gY:List (TE × TE)}(hk:PE X k tk)(hv:PE X v tv)(hr:PPs X pos ks vs gY) :
    PPs X pos (some k::ks) (v::vs) ((tk,tv)::gY):=λaS s σ H Q I h=>
 pairTrees_cons_walk (y6 (hk aS s σ H _ I h) λu s1 ⟨x,H1,I1,rx,q1⟩=>y6 (hv aS s1 σ H1 _ I1 q1) λw2 s2 ⟨y,H2,I2,ry,q2⟩=>
  y6 (hr aS s2 σ H2 _ I2 q2) λws s3 ⟨ps,H3,I3,rel,q3⟩=>⟨(x,y)::ps,H3,I3,.cons ⟨rx,ry⟩ rel,q3⟩)
def J8(bY more:List (E5 × V)):List (E5 × V):=more.foldl (λdM kv=>K2 dM kv.1 kv.2) bY
def KV.merge:∀{more:List (E5 × V)} {rs:List (E5 × Value)} {bY:List (E5 × V)} {vs:List (E5 × Value)},KV more rs->KV bY vs->KV (J8 bY more) (merged vs rs):=by
 intro more rs bY vs r;unfold KV at r
 induction r generalizing bY vs with
 | nil=>intro q;exact q
 | @cons p q ps qs h t ih=>
  intro r0;have e:KV (K2 bY p.1 p.2) (stored vs q.1 q.2):=by have:=r0.put p.1 h.2;rw[<- h.1];exact this
  exact ih e
theorem By:∀(more bY:List (E5 × V)),(J8 bY more).length<=bY.length+more.length
 | [],bY=>by show bY.length<=bY.length+0;omega
 | p::r,bY=>by
  have h1:=By r<|K2 bY p.1 p.2;have h2:=V1 bY p.1 p.2;show(J8 (K2 bY p.1 p.2) r).length<=_;rw[bg];omega
theorem FR{P:Program}{w:World}:∀{bY:List (E5 × V)} {ws:List (Value × Value)},VV (bY.map λkv=>(kV kv.1,kv.2)) ws->∃rs,Carries (B6 P w) ws rs/\KV bY rs
 | [],_,r=>by rw[List.map_nil]at r;cases r;exact⟨[],True.intro,.nil⟩
 | p::bY,_,r=>by
  rw[aM]at r;cases r with
  | @cons a b as bs h t=>
   obtain⟨rs,c,q⟩:=FR (P:=P) (w:=w) t;obtain⟨b1,b2⟩:=b;exact⟨(p.1,b2)::rs,⟨GS h.1,Y,c⟩,.cons ⟨Y,h.2⟩ q⟩
def Vr(gY:List (TE × TE)):TE:=λσ H Q=>∀p,H p=none->Ke gY σ (upd H p<|.dK []) λps H2=>H2 p=some (.dK [])/\∃bY:List (E5 × V),ps=bY.map (λkv=>(kV kv.1,kv.2))/\bY.length<=15/\Q (.ref p) (upd H2 p<|.dK<|J8 [] bY)
def HA{X:Cx}{pos:Pos}{fE:List (Option Expr)}{eL:List Expr}{gY:List (TE × TE)}(h:PPs X pos fE eL gY)(jk:fE.all (·.isSome)=true)(hl:fE.length=eL.length)(h0:fE≠[])
    (wQ:fE.length<=15):PE X (.Dict fE eL pos) (Vr gY):=by
 intro aS s σ H Q I q;have hn:=I.hok.fresh<|ae s.heap.objs.size;have I1:=I.laid (a:=s.heap.objs.size) (o:=.dK []) (h':=s.heap.push { cls:=.type "dict",data:=.dict #[] }) (t':=s.toks) (λ_ _ q=>ak _ q) (ae _)<|JF s.heap I.big;show wpAny_Dict_walk (knd:=B6 X.prog X.w) jk hl h0 wQ<|y6 (h aS _ σ _ _ I1<|q _ hn) λws s2 ⟨ps,H2,I2,rel,e,bY,ep,lk,q2⟩=>?_;subst ep;obtain⟨rs,c,rk⟩:=FR (P:=X.prog) (w:=X.w) rel;obtain⟨z,hd,xp,r0,dd⟩:=LQ I2.hok e;cases r0;show⟨rs,c,dd,λh' jt hs=>⟨.ref s.heap.objs.size,_,?_,Y,q2⟩⟩;have hz:(J8 [] bY).length<=sizeLine:=by have h1:=By bY [];rw[List.length_nil]at h1;rw[sizeLine_eq];omega
 have he:∃q,h'.get? s.heap.objs.size=some q:=let⟨q,_,_,hq,_⟩:=jt;⟨q,hq⟩
 exact Ii I2 (by rw[e];exact True.intro) hs he (OQ hz hd (rk.merge .nil) jt)
structure M1(X:Cx)(o:Expr)(m:Str)(dC:Pos)(e:Expr)(dz:Pos):Prop where
 base:attributeBase o m X.env (eval o X.env)=eval o X.env
 few:((backTo dz<|starEach [e] X.env).all (λx=>!x.1) && (backToKw dz<|keywordEach [] X.env).all (λx=>x.1.isSome)
  && decide (([e]:List Expr).length+([]:List Keyword).length+(if([]:List Keyword).isEmpty then 0 else 1) < 30))=true
 line:(dC.endLine == dz.line)=true
 trees:backTo dz (starEach [e] X.env)=[(false,eval e X.env)]
structure M2(X:Cx)(o:Expr)(m:Str)(dC:Pos)(e f:Expr)(dz:Pos):Prop where
 base:attributeBase o m X.env (eval o X.env)=eval o X.env
 few:((backTo dz<|starEach [e,f] X.env).all (λx=>!x.1) && (backToKw dz<|keywordEach [] X.env).all (λx=>x.1.isSome)
  && decide (([e,f]:List Expr).length+([]:List Keyword).length+(if([]:List Keyword).isEmpty then 0 else 1) < 30))=true
 line:(dC.endLine == dz.line)=true
 trees:backTo dz (starEach [e,f] X.env)=[(false,eval e X.env),(false,eval f X.env)]
section
variable{X:Cx}{aS:w0d}{σ:St}{H:Z}{s:Shared}{a:Addr}{y d:V}{u r:Value}{o:Option V}{A:Around}{E:w0e}
end
section
variable{X:Cx}{o e f:Expr}{dC dz:Pos}{td ty tx:TE}
end
section
variable{X:Cx}{aS:w0d}{σ:St}{H:Z}{s:Shared}{a:Addr}{bY:List (E5 × V)}{A:Around}{E:w0e}
end
section
variable{X:Cx}{aS:w0d}{σ:St}{H:Z}{s:Shared}{a:Addr}{y:V}{u:Value}{A:Around}{E:w0e}
end
section
variable{P:Program}{w:World}{H H':Z}{h h':Heap}
def R6.there(x:R6 P w H h)(e:H a=some o):∃ob,h.get? a=some ob:=by
 have y:=x a o e;clear e x
 induction o with
 | lst xs=>obtain⟨_,di,n,r,e⟩:=y;exact⟨_,e⟩
 | tup xs=>obtain⟨_,di,r,⟨ob,e,c⟩,_⟩:=y;exact⟨_,e⟩
 | dK bY=>obtain⟨_,_,vs,r,ob,es,ep,e,c⟩:=y;exact⟨_,e⟩
 | dT bY=>obtain⟨_,_,xs,r,ob,es,ep,e,c⟩:=y;exact⟨_,e⟩
 | set S n=>obtain⟨ob,es,ep,t,e,c⟩:=y;exact⟨_,e⟩
 | ins C dx fs=>obtain⟨d,z,ne,e,_⟩:=y;exact⟨_,e⟩
 | own y'=>exact y
 | xd fs=>obtain⟨mA,⟨od,es,ep,e,c⟩,r⟩:=y;exact⟨_,e⟩
 | rng lo hi=>obtain⟨t,u,v,e⟩:=y;exact⟨_,e⟩
 | frz ob u ih=>exact⟨_,y.1⟩
 | tbl ps=>exact⟨_,y⟩
 | met f y'=>exact⟨_,y⟩
 | ext φ=>exact y.2.1
def R6.nothing(x:R6 P w H h)(n:h.get? a=none):H a=none:=by
 cases q:H a with
 | none=>rfl
 | some o=>obtain⟨ob,e⟩:=x.there q;rw[n]at e;cases e
def R6.loose(x:R6 P w H h)(k:∀b u,H b≠none->h.get? b=some u->h'.get? b=some u):R6 P w H h':=λa o e=>
 (x a o e).stay (λb u hb q=>k b u (by
  rcases hb with z | z
  . rw[z,e];exact nofun
  . rw[z];exact nofun) q) (λ_ q=>q) λ_ _ q=>q
def XT(h:Heap)(a T C:Addr):Prop:=∃oe vs a0 oT ts,h.get? a=some oe/\(oe.cls=.ref C/\vs[0]? = some a0)/\oe.data=.fields vs/\vs[1]? = some (.ref T)/\T≠a/\h.get? T=some oT/\oT.data=.fields ts/\ts[3]? = some .none
structure Iy(P:Program)(w:World)(fs:List Addr)(H H':Z)(s s':Shared)(a T C:Addr):Prop where
 os:s'.os=s.os
 bare:AllBare s'.gens
 un:Un fs [] H H' s.heap s'.heap
 hok:R6 P w H' s'.heap
 xt:XT s'.heap a T C
 na:s.heap.get? a=none
 nT:s.heap.get? T=none
 ha:H' a=none
 hT:H' T=none
def Iz(P:Program)(w:World):Mb:=λouter H s E e s'=>∃a T C H',e=.ref a/\Iy P w (C9 outer) H H' s s' a T C/\E (.ref C) none H'
theorem Q3:∀{l:List Env},h.FunFrames base l->(∀b∈C9 l,dU.get? b=none)->h.FunFrames dU l
 | [],_,_=>trivial
 | env::r,⟨k,⟨L,o,hf,_,ho,hd⟩,t⟩,hb=>⟨k,⟨L,o,hf,hb L (by unfold C9;rw[bw,hf];exact ax),ho,hd⟩,
     Q3 t λb hm=>hb b<|by unfold C9;rw[bw,hf];exact aq _ hm⟩
abbrev c0b(h:Heap)(a T:Addr)(fs:List Addr):Heap:=PySem.W.hideAll h (a::T::fs)
end
section
variable{P:Program}{w:World}{H H':Z}{s s':Shared}{a T C:Addr}{l:List Env}{iJ:Heap}
def Iy.base(F:Iy P w (C9 l) H H' s s' a T C)(ff:s'.heap.FunFrames iJ l):∃a0,Heap.FlyingW (c0b s'.heap a T<|C9 l) l a (.ref C) a0 s'.heap:=by
 obtain⟨oe,vs,a0,oT,ts,e1,e2,e3,e4,e5,e6,e7,e8⟩:=F.xt;exact⟨a0,λb o e=>cP _ e,bj _ (by simp),Q3 ff λb hb=>bj _ (by simp[hb]),
  oe,vs,T,oT,ts,e1,e2,e3,e4,bj _ (by simp),e5,e6,e7,e8⟩
def Iy.back{l':List Env}{h':Heap}{a0:Value}{tk:Nat}(F:Iy P w (C9 l) H H' s s' a T C)(ff:s'.heap.FunFrames iJ l)(fH:∀b∈C9 l,H' b=none)
    (fl:Heap.FlyingW (c0b s'.heap a T<|C9 l) l' a (.ref C) a0 h') (up:s'.heap.UpToSlots h'):∃T',Iy P w (C9 l) H H' s { s' with heap:=h',toks:=tk } a T' C:=by
 obtain⟨k1,_,_,oe,vs,T',oT,ts,e1,e2,e3,e4,e0,e5,e6,e7,e8⟩:=fl;have keep:∀b o,s'.heap.get? b=some o->b≠a->b≠T->b ∉ C9 l->h'.get? b=some o:=λb o e n1 n2 n3=>k1 b o (bW _ e<|by simp[n1,n2,n3]);have slot:∀b o,s'.heap.get? b=some o->b∈C9 l->(∃sl,h'.get? b=some { o with slots:=sl })/\∀vs,o.data≠.fields vs:=λb o e hb=>by
  obtain⟨_,o1,q1,q2⟩:=ff.mem hb;rw[e]at q1;cases q1;exact⟨up b o e q2,q2⟩
 have nf:T' ∉ C9 l:=λhb=>by
  obtain⟨_,o1,q1,q2⟩:=ff.mem hb;obtain⟨sl,q3⟩:=up _ o1 q1 q2;rw[e6]at q3;cases q3;exact q2 _ e7
 have tt:T'=T\/s'.heap.get? T'=none:=by
  by_cases z:T'=T
  . exact .inl z
  . right;cases q:s'.heap.get? T' with
    | none=>rfl
    | some o=>
     have:=bW (a::T::C9 l) q (by simp[e5,z,nf]);rw[e0]at this;cases this
 have kK:H' T'=none:=by
  rcases tt with z | z
  . rw[z];exact F.hT
  . exact F.hok.nothing z
 have uM:s.heap.get? T'=none:=by
  rcases tt with z | z
  . rw[z];exact F.nT
  . cases q:s.heap.get? T' with
    | none=>rfl
    | some o=>
     obtain⟨o',q'⟩:=F.un.there _ o q (by simp);rw[z]at q';cases q'
 have ne:∀b o,s.heap.get? b=some o->b≠a/\b≠T:=λb o e=>⟨(λz=>by rw[z,F.na]at e;cases e),(λz=>by rw[z,F.nT]at e;cases e)⟩;show⟨T',F.os,F.bare,⟨λb o e n hb hx=>?_,λb o e n hb hx=>?_,F.un.free,λb o e hx=>?_,F.un.tups,F.un.frzs,F.un.tbls⟩,F.hok.loose λb u hb e=>?_,⟨oe,vs,a0,oT,ts,e1,e2,e3,e4,e5,e6,e7,e8⟩,F.na,uM,F.ha,kK⟩
 . exact keep b o (F.un.keep b o e n hb hx) (ne b o e).1 (ne b o e).2 hb
 . obtain⟨sl,q⟩:=F.un.slot b o e n hb hx;obtain⟨⟨iM,q'⟩,_⟩:=slot b _ q hb;exact⟨iM,q'⟩
 . obtain⟨o',q⟩:=F.un.there b o e hx;by_cases hb:b∈C9 l
   . obtain⟨⟨sl,q'⟩,_⟩:=slot b o' q hb;exact⟨_,q'⟩
   . exact⟨o',keep b o' q (ne b o e).1 (ne b o e).2 hb⟩
 . exact keep b u e (λz=>hb<|z▸F.ha) (λz=>hb<|z▸F.hT) λz=>hb (fH b z)
def Np(a C:Addr):HO:=.ext λh=>∃o,h.get? a=some o/\o.cls=.ref C
def Iy.un'(F:Iy P w (C9 l) H H' s s' a T C):Un (C9 l) [] H (upd H' a<|Np a C) s.heap s'.heap where
 keep:=F.un.keep
 slot:=F.un.slot
 free:=λb o e n hx=>by rw[k9<|λz=>by rw[z,F.na]at e;cases e];exact F.un.free b o e n hx
 there:=F.un.there
 tups:=λb xs e=>by have:=F.un.tups b xs e;rw[k9<|l9 this F.ha];exact this
 frzs:=λb o u e=>by have:=F.un.frzs b o u e;rw[k9<|l9 this F.ha];exact this
 tbls:=λb ps e=>by obtain⟨m,q⟩:=F.un.tbls b ps e;exact⟨m,by rw[k9<|l9 q F.ha];exact q⟩
def Iy.hok'(F:Iy P w (C9 l) H H' s s' a T C):R6 P w (upd H' a<|Np a C) s'.heap:=λb o e=>by
 by_cases z:b=a
 . subst z;rw[c8]at e;cases e;obtain⟨oe,vs,a0,oT,ts,e1,e2,_⟩:=F.xt;exact⟨⟨oe,e1,e2.1⟩,⟨oe,e1⟩,λh1 h2 ⟨o,q1,q2⟩ k=>⟨o,k o q1,q2⟩⟩
 . rw[k9 z]at e;exact(F.hok b o e).stay (λ_ _ _ q=>q) (λc q=>by rw[k9<|l9 q F.ha];exact q) λc xs q=>by rw[k9<|l9 q F.ha];exact q
end
def XP(X:Cx)(aS:w0d)(σ:St)(E:XK)(e:Value)(s':Shared):Prop:=∃s H,j9 X aS σ H s/\Iz X.prog X.w X.stack H s E e s'
structure Iu(X:Cx)(E:XK):Prop where
 stk:X.stack=X.env::X.outer
 fr:X.env.frame=some X.env.locals
 ex:X.ex=[]
 xe:X.xe=λe s'=>wpAny (model X.prog X.w) X.A (leaving X.env e) (λ_ eP=>Iz X.prog X.w X.outer X.H₀ X.s₀ E e eP) (λe' eP=>Iz X.prog X.w X.outer X.H₀ X.s₀ E e' eP) s'
section
variable{X:Cx}{aS:w0d}{σ:St}{H:Z}{s s':Shared}{E:XK}{e:Value}
def Iy.inv(I:j9 X aS σ H s)(F:Iy X.prog X.w (C9 X.stack) H H' s s' a T C):j9 X aS σ H' s':=I.call' F.os F.un F.hok F.bare (ch:=[]) (λ_ z=>absurd z<|by simp)
def Iy.inv'(I:j9 X aS σ H s)(F:Iy X.prog X.w (C9 X.stack) H H' s s' a T C):j9 X aS σ (upd H' a<|Np a C) s':=I.call' F.os F.un' F.hok' F.bare (ch:=[]) (λ_ z=>absurd z<|by simp)
def Iy.out(R:Iu X E)(I:j9 X aS σ H s)(F:Iy X.prog X.w (C9 X.stack) H H' s s' a T C)(q:E (.ref C) none H'):Iz X.prog X.w X.outer X.H₀ X.s₀ E (.ref a) s':=by
 have kO:∀b∈C9 X.outer,b∈C9 X.stack:=λb hb=>by rw[R.stk];unfold C9;rw[bw,R.fr];exact aq _ hb
 have u0:Un (C9 X.stack) [] X.H₀ H X.s₀.heap s.heap:=I.base.mono kO (by rw[R.ex];simp);have u1:=u0.trans F.un;have lG:∀b o,X.s₀.heap.get? b=some o->b≠X.env.locals:=λb o e=>au<|ay (ag e) I.ok.above;have uH:∀b o,X.s₀.heap.get? b=some o->b ∉ C9 X.outer->b ∉ C9 X.stack:=λb o e hb hm=>by
  rw[R.stk]at hm;unfold C9 at hm;rw[bw,R.fr]at hm;rcases ah.mp hm with z | z
  . exact lG b o e z
  . exact hb z
 have eW:∀b,s.heap.get? b=none->X.s₀.heap.get? b=none:=λb n=>by
  cases q:X.s₀.heap.get? b with
  | none=>rfl
  | some o=>
   obtain⟨o',q'⟩:=I.base.there b o q (by rw[R.ex];simp);rw[n]at q';cases q'
 exact⟨a,T,C,H',Y,⟨F.os.trans I.os,F.bare,⟨λb o e n hb hx=>u1.keep b o e n (uH b o e hb) hx,λb o e n hb hx=>u1.slot b o e n (kO b hb) hx,u1.free,u1.there,u1.tups,u1.frzs,u1.tbls⟩,F.hok,F.xt,eW a F.na,eW T F.nT,F.ha,F.hT⟩,q⟩
def XP.leave(R:Iu X E)(x:XP X aS σ E e s'):X.xe e s':=by obtain⟨s,H,I,a,T,C,H',rfl,F,q⟩:=x;have J:=F.inv I;obtain⟨a0,fl⟩:=F.base J.stack;rw[R.xe];rw[R.stk]at fl;show wpAny_leaves_onW (J.ok.frames.trans<|by rw[R.stk]) R.fr fl λh' qG up=>?_;rw[<- R.stk]at qG;obtain⟨T',F'⟩:=F.back (tk:=s'.toks) J.stack J.stkFree qG up;exact F'.out R I q
def KO(R:Iu X E)(I:j9 X aS σ H s)(m:Heap.MadeExcOf s.heap h' a (.ref C) vs)(q:E (.ref C) none H):X.xe (.ref a) { s with heap:=h' }:=by
 have J:j9 X aS σ H { s with heap:=h' }:=I.kept (t':=s.toks) m.keeps;obtain⟨t,he,xI,ht⟩:=m.there;have ha:H a=none:=I.hok.nothing m.new;rw[R.xe];have ff:h'.FunFrames (c0b h' a a<|C9 X.stack) X.stack:=Q3 J.stack λb hb=>bj _ (by simp[hb]);have wX:h'.FunFrames (c0b h' a a<|C9 X.stack) (X.env::X.outer):=by have z:=J.stack;rw[R.stk]at z;exact Q3 z λb hb=>bj _ (by rw[R.stk];simp[hb])
 show wpAny_leaving_firstW (a0:=.ref t) (base:=c0b h' a a<|C9 X.stack) (J.ok.frames.trans<|by rw[R.stk]) wX R.fr he (λb o e=>cP _ e) (bj _<|by simp) rfl rfl rfl λh2 hL=>?_;obtain⟨k1,_,⟨oe,ws,T',oT,ts,e1,e2,e3,e4,e0,e5,e6,e7,e8⟩,k4⟩:=hL;have oZ:∀b∈C9 X.stack,∃o,h'.get? b=some o/\∀vs,o.data≠.fields vs:=λb hb=>(ff.mem hb).2;have keep:∀b o,h'.get? b=some o->b≠a->b ∉ C9 X.stack->h2.get? b=some o:=λb o e n1 n3=>k1 b o (bW _ e<|by simp[n1,n3]);have nf:T' ∉ C9 X.stack:=λhb=>by
  obtain⟨o1,q1,q2⟩:=oZ _ hb;obtain⟨sl,q3⟩:=k4 _ o1 q1 q2;rw[e6]at q3;cases q3;exact q2 _ e7
 have nT:h'.get? T'=none:=by
  cases q:h'.get? T' with
  | none=>rfl
  | some o=>
   have:=bW (a::a::C9 X.stack) q (by simp[e5,nf]);rw[e0]at this;cases this
 have ne:∀b o,s.heap.get? b=some o->b≠a:=λb o e z=>by rw[z,m.new]at e;cases e
 have F':Iy X.prog X.w (C9 X.stack) H H s { s with heap:=h2 } a T' C:=by
  show⟨Y,I.bare,⟨λb o e n hb hx=>keep b o (m.keeps b o e) (ne b o e) hb,λb o e n hb hx=>?_,λ_ _ _ n _=>n,λb o e hx=>?_,λ_ _ e=>e,λ_ _ _ e=>e,λb ps e=>⟨#[],by rw[e];simp⟩⟩,J.hok.loose λb u hb e=>keep b u e (λz=>hb<|z▸ha) λz=>hb<|J.stkFree b z,⟨oe,ws,_,oT,ts,e1,e2,e3,e4,e5,e6,e7,e8⟩,m.new,?_,ha,J.hok.nothing nT⟩
  . obtain⟨o1,q1,q2⟩:=oZ b hb;have q3:=m.keeps b o e;rw[q1]at q3;cases q3;exact k4 b _ q1 q2
  . by_cases hb:b∈C9 X.stack
    . obtain⟨o1,q1,q2⟩:=oZ b hb;obtain⟨sl,q3⟩:=k4 b o1 q1 q2;exact⟨_,q3⟩
    . exact⟨o,keep b o (m.keeps b o e) (ne b o e) hb⟩
  . cases q:s.heap.get? T' with
    | none=>rfl
    | some o=>rw[m.keeps _ o q]at nT;cases nT
 exact F'.out R I q
end
abbrev bmV:w0i:=[.type "ValueError",.type "Exception",.type "BaseException",.type "object"]
def MZ{K:aa}{h:Heap}{C:Addr}{rP:w0i}{iz:String}(X:K.In h)(q:PySem.W.excIn K C rP iz=true) :
    ∃bm N nm q bs hdct sn sub ab col dd k0 k1 k2 k3 k5 mN,h.get? C=some (excClassObj nm q C N bs bm hdct sn sub ab col dd k0 k1 k2 k3 k5 iz)/\h.Ns N mN/\mN "__init__"=none/\OwnTail h rP bm:=by
 unfold PySem.W.excIn at q;split at q
 . rename_i dd cd sl ho;split at q
   . rename_i C' bm k0 k1 k2 k3 n k5 hm hs;simp only[bK,beq_iff_eq,Bool.not_eq_true']at q;obtain⟨⟨⟨⟨⟨rfl,rfl⟩,kC⟩,ht⟩,hok⟩,lM⟩:=q;obtain⟨nm,bs,xE,ns,qn,hd,sn,sub,ab,col,xV⟩:=cd;dsimp only at hm kC hok lM;subst hm kC;have vM:sl=#[k0,k1,k2,k3,some<|.builtin n,k5]:=by obtain⟨l⟩:=sl;simp only at hs;rw[hs]
     subst vM;exact⟨bm,ns,nm,qn,bs,hd,sn,sub,ab,col,dd,k0,k1,k2,k3,k5,_,X _ _ ho,.of_isNs<|PySem.W.isNs_of_in X hok,PySem.W.nsMap_none_of_in X hok lM,PySem.W.tail_of_in X ht⟩
   . cases q
 . cases q
section
variable{P:Program}{w:World}{K:aa}{mg:w0f}{base:Heap}
def FV.okx{x qual:Str}{st:Stmt}{f:Addr}{fd:FuncData}{N ps:w0h}{k:Nat}{sp:Sp}(F:FV K x qual st f fd)(S:j0 N ps (c5 st))(len:∀vs H Q E,sp vs H Q E->vs.length=ps.length)
    (dw:∀(dR:Value) (A:Around) (outer:List Env) (s:Shared) (H:Z) (vs:List V) (Q:VK) (E:XK),z4 k (A.deeper<|envOfC qual (c5 st) s.heap.objs.size f dR)->sp vs H Q E->
     ∃t,GD (FO (Iz P w) P w K mg base N qual (c5 st) f dR A outer s H E) (p9 st) t/\t { nx:=λ_ H'=>Q .non H',rt:=Q } (An N vs) H):m8 P w K mg base (Iz P w) (k+1) f fd ps sp:=by
 obtain⟨oc,od,kV,dF,pm,an,dR,ct,fW,rfl,lk,fi⟩:=F.ex;exact LJ lk fi S len λA outer s H vs Q E hr eX=>dw dR A outer s H vs Q E hr eX
def Cq:Iu (FO (Iz P w) P w K mg base N qual scope f cd A outer s H E) E:=⟨Y,Y,Y,Y⟩
end
abbrev TX:=St->Z->VK->XK->Prop
abbrev c0n:=DS->XK->St->Z->Prop
def Pf(X:Cx)(e:Expr)(t:TX):Prop:=
 ∀(aS:w0d) (s:Shared) (σ:St) (H:Z) (Q:VK) (E:XK),j9 X aS σ H s->t σ H Q E->wpAny (model X.prog X.w) X.A (eval e X.env) (EP X aS σ Q) (XP X aS σ E) s
def PSX(X:Cx)(st:Stmt)(t:c0n):Prop:=
 ∀(aS:w0d) (s:Shared) (σ:St) (H:Z) (D:DS) (E:XK),j9 X aS σ H s->t D E σ H->wpAny (model X.prog X.w) X.A (exec st X.env) (SP X aS D) (XP X aS σ E) s
def c0q(X:Cx)(st:List Stmt)(t:c0n):Prop:=
 ∀(aS:w0d) (s:Shared) (σ:St) (H:Z) (D:DS) (E:XK),j9 X aS σ H s->t D E σ H->wpAny (model X.prog X.w) X.A (execs st X.env) (SP X aS D) (XP X aS σ E) s
section
variable{X:Cx}{k:Nat}{f C:Addr}{fd:FuncData}{ps:w0h}{sp:Sp}{dvs:List V}{ds:w0i}{E:XK}{x m:Str}{p np dz pos dC:Pos}{e o:Expr}{es:List Expr}{ta:TE}{t:TA}{tx:TX}
def Pf.thru(R:Iu X E)(h:Pf X e tx):PE X e (λσ H Q=>tx σ H Q E):=λaS s σ H Q I q=>wpAny_mono (h aS s σ H Q E I q) (λ_ _ z=>z) λ_ _ z=>z.leave R
def PR{aS:w0d}{σ:St}{H:Z}{s:Shared}{Q:VK}{us:w0i}{vs:List V}(F:m8 X.prog X.w X.K X.mg X.base (Iz X.prog X.w) k f fd ps sp)(hr:z4 k X.A)(hb:E6 X.K fd ps ds)(hd:o8 dvs ds)
    (I:j9 X aS σ H s) (r:o8 vs us) (h:sp (vs++dvs) H Q E):wpAny (model X.prog X.w) X.A (call (.ref f) us) (EP X aS σ Q) (XP X aS σ E) s:=by
 have r2:o8 (vs++dvs) (us++ds):=r.append hd;have hl:(us++ds).length=ps.length:=by rw[<- r2.length];exact F.len _ _ _ _ h
 show wpAny_call<|codeAny_mono (F.run X.A X.stack s H ⟨us,[]⟩ (us++ds) (vs++dvs) Q E hr I.env0 (hb s us I.kIn hl) r2 h) λr s' hq=>?_;cases r with
 | error e=>exact⟨s,H,I,hq⟩
 | ok fl=>
  cases fl with
  | ret u=>exact I.after hq
  | next=>exact False.elim hq
  | brk=>exact False.elim hq
  | cont=>exact False.elim hq
def CC(F:m8 X.prog X.w X.K X.mg X.base (Iz X.prog X.w) k f fd ps sp)(hr:z4 k X.A)(hg:Gl X x)(hm:X.mg x=some (.ref f))(hk:PySem.W.keepIn X.K (.ref f)=true)(hb:E6 X.K fd ps ds)(hd:o8 dvs ds)
    (ha:PA X.nox (e::es) t) (fG:(x == ("__debug__":Str))=false:=by decide) (he:starEach (e::es) X.env=(false,eval e X.env)::starEach es X.env:=by rfl) (eT:(backTo pos<|starEach es X.env).any (·.1)=false:=by rfl) :
    Pf X (.Call (.Name x p) (e::es) [] pos) (λσ H Q E=>Lp sp dvs E t σ H Q):=by
 intro aS s σ H Q E I h;show wpAny_Call_Name_kw<|V2 I hg hm ?_ fG;exact bZ (h₀:=X.base) I.ok.mod.kin hk (wpAny_mono (ha pos aS s σ H _ (I.wish _) h) (λus s1 ⟨vs,H1,I1,r,q⟩=>⟨I1.unwish.kIn,PR F hr hb hd I1.unwish r q⟩) λ_ _ z=>z.elim) he eT
def RF(E:XK)(C:Addr)(t:TA):TS:=λ_ σ H=>t σ H λvs H1=>vs.length<=sizeLine/\E (.ref C) none H1
def Of(R:Iu X E)(hc:X.calm=true)(q:PySem.W.excIn X.K C bmV "ValueError.__new__"=true)(hg:Gl X x)(hm:X.mg x=some (.ref C))(ha:PA X.nox (e::es) t)
    (fG:(x == ("__debug__":Str))=false:=by decide) (he:starEach (e::es) X.env=(false,eval e X.env)::starEach es X.env:=by rfl) (eT:(backTo dz<|starEach es X.env).any (·.1)=false:=by rfl) :
    PS X (.Raise (some<|.Call (.Name x np) (e::es) [] dz) none pos) (RF E C t):=by
 intro aS s σ H D I h;obtain⟨bm,N,nm,qn,bs,hdct,sn,sub,ab,col,dd,k0,k1,k2,k3,k5,mN,hC,hN,lM,T⟩:=MZ I.mod.kin q;have hh:X.A.handled=none:=I.ok.hd hc;have ev:=ha dz aS s σ H _ (I.wish _) h;show wpAny_Raise_call_subU (C:=C) (nm:=nm) (q:=qn) (N:=N) (bs:=bs) (bm:=bm) (hdct:=hdct) (sn:=sn) (sub:=sub) (ab:=ab) (col:=col) (dd:=dd) (k0:=k0) (k1:=k1) (k2:=k2) (k3:=k3) (k5:=k5)
  PySem.F.excBase_ValueError bD PySem.F.excBase_ValueError (mN:=mN) (T.hasType PySem.F.excBase_ValueError.hasBase) hh (by rw[he];show(false || (backTo dz<|starEach es X.env).any (·.1))=false;rw[eT];rfl) lM (V2 I hg hm ⟨Y,?_⟩ fG)
 rw[he];change wpAny _ _ (spliced<|backTo dz<|starEach (e::es) X.env) _ _ _ at ev;rw[he]at ev;show Calls.evalArgs_plain<|wpAny_mono ev (λus s2 ⟨vs,H1,I1,r,hl,q2⟩=>?_) λ_ _ z=>z.elim;have J:j9 X aS σ H1 s2:=I1.unwish;exact⟨Y,by rw[<- r.length];exact hl,J.bk _ _ hC,hN.keeps J.bk,T.keeps J.bk,λh' a m=>KO R J m q2⟩
end
abbrev Cx.caught(X:Cx)(a:Addr):Cx:={ X with A:=X.A.mark<|some<|.ref a,calm:=false,xe:=λ_ _=>False }
section
variable{X:Cx}{aS:w0d}{σ:St}{H:Z}{s:Shared}{a:Addr}
def j9.catch(I:j9 X aS σ H s)(a:Addr):j9 (X.caught a) aS σ H s:=
 ⟨⟨I.ok.mod,I.ok.kind,I.ok.glob,I.ok.blt,I.ok.above,I.ok.inj,I.ok.has,I.ok.cab,(λz=>by cases z),I.ok.frames,I.ok.stk,I.ok.exf,I.ok.bs,I.ok.bsz,I.ok.noex,I.ok.exfs,I.ok.funs,I.ok.frf⟩,I.os,I.bare,I.base,I.loc,I.cell,I.free,I.freeC,I.pin,I.hok,I.len⟩
def j9.uncatch(ok:X.Ok)(I:j9 (X.caught a) aS σ H s):j9 X aS σ H s:=⟨ok,I.os,I.bare,I.base,I.loc,I.cell,I.free,I.freeC,I.pin,I.hok,I.len⟩
end
section
variable{X:Cx}{e:Expr}{te:TE}{tx:TX}{pos:Pos}{st:Stmt}{t u:c0n}
def PZ(h:PSX X st t):c0q X [st] t:=by
 intro aS s σ H D E I q;show wpAny_execs_cons<|y6 (h aS s σ H D E I q) λf s1 q=>?_;cases f with
 | next=>exact wpAny_execs_nil q
 | ret v=>exact q
 | brk=>exact q
 | cont=>exact q
def PY{i:Nat}{x:Str}{eE:Pos}(hN:X.N.Nodup)(hi:X.N[i]? = some x)(hx:Rv X.env.scope x)(he:Pf X e tx)(hs:swapsWith e (some<|.Name x eE) pos.line X.env=pure false:=by rfl)
    (hf:X.fn x=true\/X.env.scope.names.lookup x=some .local:=by first | exact .inl rfl | exact .inr rfl | assumption):PSX X (.Assign [.Name x eE] e pos) (λD E σ H=>tx σ H (λv H1=>D.nx (σ.set i<|some v) H1) E):=by
 intro aS s σ H D E I h;show wpAny_Assign_Name (y6 (he aS s σ H _ E I h) λv s1 ⟨y,H1,I1,r1,q1⟩=>?_) hs;exact X1 I1 hN hi hx r1 (λs2 I2=>⟨_,H1,I2,q1⟩) hf
end
end L2
namespace Mine
open PySem PySem.W PySem.Spec PySem.Calls PyProof.Rows
section
variable{prog:Program}{w:World}{A:Around}{E:w0e}{s:Shared}{K:Frag}{x D:Addr}{o:Obj}{c:Value}
open Builtin Builtin.Getset_descriptor in
end
end Mine
namespace L2
open PySem PySem.Spec PyProof.Rows
structure QV(K:aa)(C:Addr):Prop where
 ga:PySem.W.findIn K (.ref C) "__getattribute__"=some (some<|.builtin "BaseException.__getattribute__")
 gt:PySem.W.findIn K (.ref C) "__getattr__"=some none
 cl:PySem.W.findIn K (.ref C) "__class__"=some (some<|.builtin "object.__class__")
 ob:PySem.W.mroIn K C (.type "object")=some true
 be:PySem.W.mroIn K C (.type "BaseException")=some true
 ex:PySem.W.excIn K C bmV "ValueError.__new__"=true
section
variable{X:Cx}
end
section
variable{X:Cx}
end
end L2
namespace Mine
@[irreducible] def dv(a b:Int):Int:=(Int.gcd a b:Int)
def GV(a b:Int):0<=dv a b:=by unfold dv;exact Int.natCast_nonneg _
def LN(a b:Int):dv b (a.fmod b)=dv a b:=by
 unfold dv;have e:a.fmod b=a - a.fdiv b * b:=by rw[Int.fmod_def,aX]
 rw[e,Int.gcd_sub_mul_right_right,Int.gcd_comm]
def LL(a:Int):dv a 0=(a.natAbs:Int):=by unfold dv;rw[Int.gcd_zero_right]
def Uw(a b:Int):dv (a.natAbs:Int) (b.natAbs:Int)=dv a b:=by unfold dv Int.gcd;simp
def JB(a b:Int)(h:b≠0):(a.fmod b).natAbs < b.natAbs:=by
 rcases Int.lt_trichotomy b 0 with hb | hb | hb
 . have e:a.fmod b = -((-a).fmod<|-b):=by simp[Int.neg_fmod_neg]
   have h1:=bH (-a) (show 0 < -b by omega);have h2:=bN (-a) (show 0 < -b by omega);omega
 . exact absurd hb h
 . have h1:=bH a hb;have h2:=bN a hb;omega
def Ux(h:dv g r=dv a b)(hr:0 < r):0<=r/\0<=g.fmod r/\dv r (g.fmod r)=dv a b:=
 ⟨oM,bH g hr,by rw[LN,h]⟩
def Uy{g r:Int}(hr:0 < r):(g.fmod r).toNat < r.toNat:=by have h1:=bH g hr;have h2:=bN g hr;omega
def c0i(h:dv g r=dv a b)(g0:0<=g)(r0:0<=r)(hr:¬0 < r):g=dv a b:=by
 have e:r=0:=by omega
 rw[<- h,e,LL];omega
def Ud(h:dv x y=dv a b):dv y (x.fmod y)=dv a b:=by rw[LN,h]
def b0v(h:dv x y=dv a b)(hy:y=0):(x.natAbs:Int)=dv a b:=by rw[<- h,hy,LL]
def LM(a b:Int):∃q,a=dv a b * q:=by obtain⟨q,hq⟩:=Int.gcd_dvd_left a b;exact⟨q,by unfold dv;exact hq⟩
def JE(a b:Int):∃q,b=dv a b * q:=by obtain⟨q,hq⟩:=Int.gcd_dvd_right a b;exact⟨q,by unfold dv;exact hq⟩
def Ld(h:dv a b=0):a=0/\b=0:=by obtain⟨q,hq⟩:=LM a b;obtain⟨r,hr⟩:=JE a b;rw[h]at hq hr;exact⟨oM,oM⟩
def FN(h:b≠0):0 < dv a b:=by
 have:=GV a b;rcases(by omega:dv a b=0\/0 < dv a b)with e | e
 . exact absurd (Ld e).2 h
 . exact e
def c0f(a b:Int)(h:b≠0):dv a b<=(b.natAbs:Int):=by
 have:Int.gcd a b<=b.natAbs:=by unfold Int.gcd;exact Nat.gcd_le_right _ oM
 unfold dv;omega
def JC{g q:Int}(hg:g≠0):(g * q).fdiv g=q:=Int.mul_fdiv_cancel_left q hg
@[irreducible] def sg(a b:Int):Int:=if b < 0 then -(dv a b)else dv a b
@[irreducible] def tp(a b:Int):Int:=a.fdiv (sg a b)
@[irreducible] def bt(a b:Int):Int:=b.fdiv (sg a b)
def NQ(h:¬b < 0):sg a b=dv a b:=by unfold sg;rw[if_neg h]
def RT(h:b < 0):sg a b = -(dv a b):=by unfold sg;rw[if_pos h]
def Lx(h:b≠0):sg a b≠0:=by have:=FN (a:=a) h;unfold sg;split <;>omega
def Kd{a b:Int}(h:b≠0):sg a b * tp a b=a:=by
 obtain⟨q,hq⟩:=LM a b;have hs:=Lx (a:=a) h;have:∃k,a=sg a b * k:=by
  unfold sg;split
  . exact⟨-q,by rw[Int.neg_mul_neg];exact hq⟩
  . exact⟨q,hq⟩
 obtain⟨k,hk⟩:=this;have e:tp a b=k:=by
  unfold tp
  conv=>lhs;lhs;rw[hk]
  exact JC hs
 rw[e];exact hk.symm
def Im{a b:Int}(h:b≠0):sg a b * bt a b=b:=by
 obtain⟨q,hq⟩:=JE a b;have hs:=Lx (a:=a) h;have:∃k,b=sg a b * k:=by
  unfold sg;split
  . exact⟨-q,by rw[Int.neg_mul_neg];exact hq⟩
  . exact⟨q,hq⟩
 obtain⟨k,hk⟩:=this;have e:bt a b=k:=by
  unfold bt
  conv=>lhs;lhs;rw[hk]
  exact JC hs
 rw[e];exact hk.symm
def Il(h:b≠0):0 < bt a b:=by
 have e:=Im (a:=a) h;have g:=FN (a:=a) h;rcases(by omega:0 < bt a b\/bt a b<=0)with p | p
 . exact p
 . exfalso;by_cases hb:b < 0
   . rw[RT hb,Int.neg_mul]at e;have:=Int.mul_nonpos_of_nonneg_of_nonpos (Int.le_of_lt g) p;omega
   . rw[NQ hb]at e;have:=Int.mul_nonpos_of_nonneg_of_nonpos (Int.le_of_lt g) p;omega
def OU(h:b≠0):tp a b * b=a * bt a b:=by
 have e1:=Kd (a:=a) h;have e2:=Im (a:=a) h
 calc tp a b * b=tp a b * (sg a b * bt a b):=by rw[e2]
  _=(sg a b * tp a b) * bt a b:=by rw[aX (sg a b)<|tp a b,aI]
  _=a * bt a b:=by rw[e1]
def ME(a b:Int):(sg a b).natAbs=Int.gcd a b:=by unfold sg dv;split <;>omega
def MX(e1:s * t=a)(e2:s * u=b):Int.gcd a b=s.natAbs * Int.gcd t u:=by rw[<- e1,<- e2,Int.gcd_mul_left]
def low(h:b≠0):dv (tp a b) (bt a b)=1:=by
 have e:=MX (Kd (a:=a) h)<|Im (a:=a) h;rw[ME]at e;have p:=FN (a:=a) h;have q:0 < Int.gcd a b:=by unfold dv at p;omega
 have:Int.gcd a b * Int.gcd (tp a b) (bt a b)=Int.gcd a b * 1:=by rw[<- e,Nat.mul_one]
 have:=Nat.eq_of_mul_eq_mul_left q this;unfold dv;rw[this];rfl
def Le(hb:0 < b)(hd:0 < d)(h1:dv a b=1)(h2:dv c d=1)(e:a * d=c * b):a=c/\b=d:=by
 have g1:Nat.Coprime b.natAbs a.natAbs:=by
  have:Int.gcd a b=1:=by unfold dv at h1;omega
  unfold Int.gcd at this;exact Nat.Coprime.symm this
 have g2:Nat.Coprime d.natAbs c.natAbs:=by
  have:Int.gcd c d=1:=by unfold dv at h2;omega
  unfold Int.gcd at this;exact Nat.Coprime.symm this
 have en:a.natAbs * d.natAbs=c.natAbs * b.natAbs:=by rw[<- bA,<- bA,e]
 have d1:b.natAbs ∣ d.natAbs:=g1.dvd_of_dvd_mul_left ⟨c.natAbs,by rw[en,Nat.mul_comm]⟩;have d2:d.natAbs ∣ b.natAbs:=g2.dvd_of_dvd_mul_left ⟨a.natAbs,by rw[<- en,Nat.mul_comm]⟩;have eb:b.natAbs=d.natAbs:=Nat.dvd_antisymm d1 d2;have rK:b=d:=by omega
 show⟨?_,rK⟩;rw[rK]at e;exact bO oM e
def Hi(h:b≠0)(hy:0 < y)(hl:dv x y=1)(e:a * y=x * b):tp a b=x/\bt a b=y:=by
 show Le (Il h) hy (low h) hl ?_;have c:=OU (a:=a) h;have:(tp a b * y) * b=(x * bt a b) * b:=by
  calc (tp a b * y) * b=(tp a b * b) * y:=by rw[aI,aX y b,<- aI]
   _=(a * bt a b) * y:=by rw[c]
   _=(a * y) * bt a b:=by rw[aI,aX (bt a b) y,<- aI]
   _=(x * b) * bt a b:=by rw[e]
   _=(x * bt a b) * b:=by rw[aI,aX b,<- aI]
 exact bO h this
def AW(a s:Int)(k:Int)(e:s * k=a)(hs:s≠0):k.natAbs<=a.natAbs:=by
 have:a.natAbs=s.natAbs * k.natAbs:=by rw[<- e,bA]
 rw[this];exact dg _ oM
def ND(h:b≠0):(tp a b).natAbs<=a.natAbs:=AW a _ _ (Kd h) (Lx h)
def OZ(h:b≠0):(bt a b).natAbs<=b.natAbs:=AW b _ _ (Im h) (Lx h)
def BN(hb:b≠0)(hd:d≠0)(e:a * d=c * b):tp a b=tp c d/\bt a b=bt c d:=by
 show Hi hb (Il hd) (low hd) ?_;have h:=OU (a:=c) hd;have:(a * bt c d) * d=(tp c d * b) * d:=by
  calc (a * bt c d) * d=(a * d) * bt c d:=by rw[aI,aX (bt c d) d,<- aI]
   _=(c * b) * bt c d:=by rw[e]
   _=(c * bt c d) * b:=by rw[aI,aX b,<- aI]
   _=(tp c d * d) * b:=by rw[h]
   _=(tp c d * b) * d:=by rw[aI,aX d b,<- aI]
 exact bO hd this
def HQ(hy:0 < y)(hl:dv x y=1):tp x y=x/\bt x y=y:=Hi oM hy hl rfl
def J7{a b:Int}(ha:a≠0)(hb:b≠0):a * b≠0:=Int.mul_ne_zero ha hb
def Kv{a b c d e f T B T' B':Int}(hb:b≠0)(hd:d≠0)(hf:f≠0)(hB:B≠0)(oV:B'≠0)
    (h1:T * (b * d)=(a * d+c * b) * B) (h2:T' * (d * f)=(c * f+e * d) * B') :
    tp (T * f+e * B) (B * f)=tp (a * B'+T' * b) (b * B')/\bt (T * f+e * B) (B * f)=bt (a * B'+T' * b) (b * B'):=by
 show BN (J7 hB hf) (J7 hb oV) ?_;have k:((T * f+e * B) * (b * B')) * ((b * d) * (d * f))=((a * B'+T' * b) * (B * f)) * ((b * d) * (d * f)):=by
  grind
 exact bO (J7 (J7 hb hd)<|J7 hd hf) k
def II{a b c d e f T B T' B':Int}(hb:b≠0)(hd:d≠0)(hf:f≠0)(hB:B≠0)(oV:B'≠0)
    (h1:T * (b * d)=(a * c) * B) (h2:T' * (d * f)=(c * e) * B') :
    tp (T * e) (B * f)=tp (a * T') (b * B')/\bt (T * e) (B * f)=bt (a * T') (b * B'):=by
 show BN (J7 hB hf) (J7 hb oV) ?_;have k:((T * e) * (b * B')) * ((b * d) * (d * f))=((a * T') * (B * f)) * ((b * d) * (d * f)):=by
  grind
 exact bO (J7 (J7 hb hd)<|J7 hd hf) k
def Bj{a b c d e f T B P a1c R V:Int}(hb:b≠0)(hd:d≠0)(hf:f≠0)(hB:B≠0)(hU:a1c≠0)(hV:V≠0)
    (h1:T * (d * f)=(c * f+e * d) * B) (h2:P * (b * d)=(a * c) * a1c) (h3:R * (b * f)=(a * e) * V) :
    tp (a * T) (b * B)=tp (P * V+R * a1c) (a1c * V)/\bt (a * T) (b * B)=bt (P * V+R * a1c) (a1c * V):=by
 show BN (J7 hb hB) (J7 hU hV) ?_;have k:((a * T) * (a1c * V)) * ((d * f) * ((b * d) * (b * f)))=((P * V+R * a1c) * (b * B)) * ((d * f) * ((b * d) * (b * f))):=by
  grind
 exact bO (J7 (J7 hd hf)<|J7 (J7 hb hd)<|J7 hb hf) k
def Dy:tp (a * d+c * b) (b * d)=tp (c * b+a * d) (d * b)/\bt (a * d+c * b) (b * d)=bt (c * b+a * d) (d * b):=by rw[Int.add_comm,aX b d];exact⟨Y,Y⟩
def BG:tp (a * c) (b * d)=tp (c * a) (d * b)/\bt (a * c) (b * d)=bt (c * a) (d * b):=by rw[aX a c,aX b d];exact⟨Y,Y⟩
def GL(hb:0 < b)(hl:dv a b=1):tp (a * 1+0 * b) (b * 1)=a/\bt (a * 1+0 * b) (b * 1)=b:=by
 have e1:a * 1+0 * b=a:=by omega
 have e2:b * 1=b:=by omega
 rw[e1,e2];exact HQ hb hl
def Mc(hb:0 < b)(hl:dv a b=1):tp (0 * b+a * 1) (1 * b)=a/\bt (0 * b+a * 1) (1 * b)=b:=by
 have e1:0 * b+a * 1=a:=by omega
 have e2:1 * b=b:=by omega
 rw[e1,e2];exact HQ hb hl
def GH(hb:0 < b)(hl:dv a b=1):tp (a * 1) (b * 1)=a/\bt (a * 1) (b * 1)=b:=by rw[Int.mul_one,Int.mul_one];exact HQ hb hl
def c0g:dv 0 1=1:=by unfold dv;decide
def dv11:dv 1 1=1:=by unfold dv;decide
def EO(hb:0 < b):tp (a * 0) (b * 1)=0/\bt (a * 0) (b * 1)=1:=
 Hi oM oM c0g oM
open PySem
@[irreducible] def num(c:Int):Int:=if c.fmod 3=0 then(c.fdiv 3).fmod 19 - 9 else if c.fmod 3=1 then(c.fdiv 3).fmod 2000003 - 1000001 else(c.fdiv 3).fmod 1999999999999999999999999999999 - 999999999999999999999999999999
def Nl(a b:Int):dv (if a < 0 then -a else a) (if b < 0 then -b else b)=dv a b:=by
 have e:∀x:Int,(if x < 0 then -x else x)=(x.natAbs:Int):=λx=>by split <;>omega
 rw[e,e,Uw]
def RM(a b:Int):0<=(if a < 0 then -a else a)/\0<=(if b < 0 then -b else b)/\dv (if a < 0 then -a else a) (if b < 0 then -b else b)=dv a b:=
 ⟨by split <;>omega,by split <;>omega,Nl a b⟩
def out2(h:dv x y=dv a b)(hy:y=0):(if x < 0 then -x else x)=dv a b:=by rw[<- b0v h hy];split <;>omega
structure S1(x:Int):Prop where
 lo:-10000000000000000000000000000000<=x
 hi:x<=10000000000000000000000000000000
structure S2(x:Int):Prop where
 lo:-1000000000000000000000000000000000000000000000000000000000000000<=x
 hi:x<=1000000000000000000000000000000000000000000000000000000000000000
structure Po(x:Int):Prop where
 lo:0 < x
def S1.two(h:S1 x):S2 x:=⟨by have:=h.lo;omega,by have:=h.hi;omega⟩
def S1.zero:S1 0:=⟨by decide,bD⟩
def S1.one:S1 1:=⟨by decide,bD⟩
def Po.one:Po 1:=⟨by decide⟩
def OA(hx:S1 x)(hy:S1 y):-100000000000000000000000000000000000000000000000000000000000000<=x * y/\x * y<=100000000000000000000000000000000000000000000000000000000000000:=by have x0:=hx.lo;have x1:=hx.hi;have y0:=hy.lo;have y1:=hy.hi;have h:(x * y).natAbs=x.natAbs * y.natAbs:=bA x y;have k:x.natAbs * y.natAbs<=10000000000000000000000000000000 * 10000000000000000000000000000000:=cE oM oM;omega
def S2.mul(hx:S1 x)(hy:S1 y):S2 (x * y):=⟨by have:=OA hx hy;omega,by have:=OA hx hy;omega⟩
def Po.mul(hx:Po x)(hy:Po y):Po (x * y):=⟨aQ hx.lo hy.lo⟩
def Po.ne(h:Po x):x≠0:=by have:=h.lo;omega
theorem S1.tp(h:S1 a)(p:Po b):S1 (tp a b):=by have l:=ND (a:=a) p.ne;have:=h.lo;have:=h.hi;exact⟨oM,oM⟩
theorem S2.tp(h:S2 a)(p:Po b):S2 (tp a b):=by have l:=ND (a:=a) p.ne;have:=h.lo;have:=h.hi;exact⟨oM,oM⟩
theorem S1.bt(h:S1 b)(p:Po b):S1 (bt a b):=by have l:=OZ (a:=a) p.ne;have:=h.lo;have:=h.hi;exact⟨oM,oM⟩
theorem S2.bt(h:S2 b)(p:Po b):S2 (bt a b):=by have l:=OZ (a:=a) p.ne;have:=h.lo;have:=h.hi;exact⟨oM,oM⟩
theorem Po.bt(p:Po b):Po (bt a b):=⟨Il p.ne⟩
theorem S2.dv(h:S2 b)(p:Po b):S2 (dv a b):=by have:=c0f a b p.ne;have:=GV a b;have:=h.lo;have:=h.hi;exact⟨oM,oM⟩
structure Low(a b:Int):Prop where
 one:dv a b=1
def zl(p:Po b)(l:Low a b):tp (0 * b+a * 1) (1 * b)=a/\bt (0 * b+a * 1) (1 * b)=b:=Mc p.lo l.one
def cp(_:Low (tp (c * b+a * d)<|d * b) (bt (c * b+a * d)<|d * b)):tp (a * d+c * b) (b * d)=tp (c * b+a * d) (d * b)/\bt (a * d+c * b) (b * d)=bt (c * b+a * d) (d * b):=Dy
def ct(_:Low (tp (c * a)<|d * b) (bt (c * a)<|d * b)):tp (a * c) (b * d)=tp (c * a) (d * b)/\bt (a * c) (b * d)=bt (c * a) (d * b):=BG
def Pr(p:Nat):Prop:=2<=p/\∀d,2<=d->d * d<=p->¬p % d=0
def Pr.div(h:Pr p)(hd:d ∣ p):d=1\/d=p:=by
 obtain⟨k,hk⟩:=hd;have p2:=h.1;rcases(by omega:d=0\/d=1\/2<=d)with e | e | e
 . rw[e,Nat.zero_mul]at hk;omega
 . exact .inl e
 . rcases(by omega:k=0\/k=1\/2<=k)with f | f | f
   . rw[f,Nat.mul_zero]at hk;omega
   . rw[f,Nat.mul_one]at hk;exact .inr hk.symm
   . exfalso;rcases Nat.le_total d k with g | g
     . have:d * d<=p:=by rw[hk];exact Nat.mul_le_mul_left d g
       exact h.2 d e this (by rw[hk];exact Nat.mul_mod_right d k)
     . have:k * k<=p:=by rw[hk];exact br k g
       exact h.2 k f this (by rw[hk];exact Nat.mul_mod_left d k)
def Pr.cop(h:Pr p)(ha:¬p ∣ a):Nat.Coprime p a:=by
 have d1:=Nat.gcd_dvd_left p a;have d2:=Nat.gcd_dvd_right p a;rcases h.div d1 with e | e
 . exact e
 . rw[e]at d2;exact absurd d2 ha
def Pr.mul(h:Pr p)(hd:p ∣ a * b):p ∣ a\/p ∣ b:=by
 by_cases c:p ∣ a
 . exact .inl c
 . exact .inr ((h.cop c).dvd_of_dvd_mul_left hd)
def small(h0:0 < a)(h1:a < p):¬p ∣ a:=λh=>by
 have:=Nat.le_of_dvd h0 h;omega
def fe{a p:Int}(hp:0 < p):a.fmod p=a % p:=Int.fmod_eq_emod_of_nonneg a (Int.le_of_lt hp)
def em1(a b p:Int):(a % p * b) % p=(a * b) % p:=by rw[Int.mul_emod,Int.emod_emod_of_dvd a<|Int.dvd_refl p,<- Int.mul_emod]
def em2(a b p:Int):(a * (b % p)) % p=(a * b) % p:=by rw[aX,em1,aX]
def Wz{a p:Int}(hp:0 < p):0<=a.fmod p/\a.fmod p < p:=⟨bH a hp,bN a hp⟩
def r_pa{x y z p:Int}(hp:0 < p):((x+y).fmod p+z).fmod p=(x+(y+z).fmod p).fmod p:=by simp only[fe hp,Int.emod_add_emod,Int.add_emod_emod,Int.add_assoc]
def r_ta{x y z p:Int}(hp:0 < p):((x * y).fmod p * z).fmod p=(x * (y * z).fmod p).fmod p:=by simp only[fe hp,em1,em2,aI]
def r_d{x y z p:Int}(hp:0 < p):(x * (y+z).fmod p).fmod p=((x * y).fmod p+(x * z).fmod p).fmod p:=by simp only[fe hp,em2,Int.emod_add_emod,Int.add_emod_emod,Int.mul_add]
def Kt{x p:Int}(h0:0<=x)(h1:x < p):x.fmod p=x:=by rw[fe oM];exact Int.emod_eq_of_lt h0 h1
def ri(p x:Int):Int:=(x ^ (p.toNat - 2)) % p
def Nm(p x:Int)(left eZ iL:Int):Prop:=(eZ * iL ^ left.toNat) % p=(x ^ (p.toNat - 2)) % p/\(0<=eZ/\eZ < p)
def PI(n:Int):Prop:=2<=n/\∀d:Int,2<=d->d * d<=n->¬n.fmod d=0
noncomputable def KU(n:Int):Bool:=@decide (PI n) (Classical.propDecidable _)
def OI(h:KU n=true):PI n:=@of_decide_eq_true _ (Classical.propDecidable _) h
def Uk(h:PI n):KU n=true:=@decide_eq_true _ (Classical.propDecidable _) h
def Vy{d f n:Int}(hd:2<=d)(hf:2<=f)(h:d * d<=n)(g:¬f * f<=n):d < f:=by
 rcases Int.lt_or_le d f with e | e
 . exact e
 . have:f * f<=d * d:=Int.mul_le_mul e e oM oM;omega
def Vz{f n:Int}(hf:2<=f)(h:f * f<=n):f+1<=n:=by have:2 * f<=f * f:=Int.mul_le_mul_of_nonneg_right hf oM;omega
def U8(n k:Nat)(h2:2<=n)(hk:n < k * k)(h:(List.range k).all (λd=>d < 2 || n % d != 0)=true):KU (n:Int)=true:=by
 show Uk ⟨oM,λd hd il e=>?_⟩;have ou:¬(k:Int) * (k:Int)<=(n:Int):=by
  have:((n:Nat):Int) < ((k * k:Nat):Int):=by omega
  rw[Int.natCast_mul]at this;omega
 have kk:2<=(k:Int):=by
  rcases(by omega:k=0\/k=1\/2<=k)with c | c | c
  . subst c;omega
  . subst c;omega
  . omega
 have lt:=Vy hd kk il ou;have dn:(d.toNat:Int)=d:=Int.toNat_of_nonneg oM;have:=ck.mp h d.toNat<|bU.mpr oM;rw[<- dn,fe oM,<- Int.natCast_emod]at e;have e':n % d.toNat=0:=by omega
 simp[e']at this;omega
def Qh:KU 999983=true:=U8 999983 1000 bD bD dK
def Th:KU 65537=true:=U8 65537 257 bD bD dK
def p2:KU 2=true:=U8 2 2 bD bD dK
def p3:KU 3=true:=U8 3 2 bD bD dK
def p5:KU 5=true:=U8 5 3 bD bD dK
def p7:KU 7=true:=U8 7 3 bD bD dK
def p11:KU 11=true:=U8 11 4 bD bD dK
def p101:KU 101=true:=U8 101 11 bD bD dK
end Mine
namespace Mine
open PySem PySem.SeqAt
set_option genInjectivity false in
set_option genSizeOfSpec false in
structure SR where
 W:Type
 add:W->W->W
 mul:W->W->W
 zero:W
 one:W
 add_comm:∀x y,add x y=add y x
 add_assoc:∀x y z,add (add x y) z=add x (add y z)
 mul_comm:∀x y,mul x y=mul y x
 mul_assoc:∀x y z,mul (mul x y) z=mul x (mul y z)
 Bj:∀x y z,mul x (add y z)=add (mul x y) (mul x z)
 add_zero:∀x,add x zero=x
 mul_one:∀x,mul x one=x
 mul_zero:∀x,mul x zero=zero
 zo:zero≠one
 sz:Nat->W->Prop
 sz_mono:∀m n x,m<=n->sz m x->sz n x
 sz_add:∀m n x y,sz m x->sz n y->sz (m+n+1) (add x y)
 sz_mul:∀m n x y,sz m x->sz n y->sz (m+n) (mul x y)
 sz_zero:sz 0 zero
 sz_one:sz 0 one
 lv:Nat->Nat->W->Prop
 lv_mono:∀k c c' x,c<=c'->lv k c x->lv k c' x
 lv_add:∀k c c' x y,lv k c x->lv k c' y->lv k (c+c') (add x y)
 lv_mul:∀j k x y,lv j 32 x->lv k 32 y->lv (j+k) 1 (mul x y)
 lv_zero:∀k,lv k 0 zero
 lv_one:lv 1 1 one
 lv_up:∀k c x,lv k c x->lv (k+1) c x
 lv_sz:∀k c x,c<=1024->lv k c x->sz (100 * k) x
 data:W->PyData
 sh:∀x,shaped (data x)=true
 nm:∀x y,noMix (data x) (data y)=true
 eq:∀x,PySem.Spec.same (data x) (data x)=true
 ne:∀x y,x≠y->PySem.Spec.same (data x) (data y)=false
abbrev Hp(S:SR):=Nat->S.W
abbrev w0a(S:SR):=Nat->Nat->S.W
abbrev w0b(S:SR):=Nat->Nat->Nat->S.W
abbrev w0c(S:SR):=List (Nat × (Nat->S.W))
structure Fr where
 t:Int
 b:Int
 p:0 < b
 l:dv t b=1
def Fr.eq_of{x y:Fr}(h1:x.t=y.t)(h2:x.b=y.b):x=y:=by
 cases x;cases y;cases h1;cases h2;rfl
def Fr.nb(x:Fr):x.b≠0:=by have:=x.p;omega
def Fr.of(a b:Int)(h:0 < b):Fr:=⟨tp a b,bt a b,Il oM,low oM⟩
def Fr.of_cross(a b:Int)(h:0 < b):(Fr.of a b h).t * b=a * (Fr.of a b h).b:=OU oM
def Fr.add(x y:Fr):Fr:=Fr.of (x.t * y.b+y.t * x.b) (x.b * y.b) (aQ x.p y.p)
def Fr.mul(x y:Fr):Fr:=Fr.of (x.t * y.t) (x.b * y.b) (aQ x.p y.p)
def Fr.zero:Fr:=⟨0,1,bD,c0g⟩
def Fr.one:Fr:=⟨1,1,bD,dv11⟩
def Fr.sz(n:Nat)(x:Fr):Prop:=x.t.natAbs<=2 ^ n/\x.b.natAbs<=2 ^ n
def SZ(m n:Nat):(2:Nat) ^ (m+n)=2 ^ m * 2 ^ n:=Nat.pow_add 2 m n
def Fu{a b:Int}{m n:Nat}(h1:a.natAbs<=2 ^ m)(h2:b.natAbs<=2 ^ n):(a * b).natAbs<=2 ^ (m+n):=by rw[bA,SZ];exact cE h1 h2
def RK{a b c d:Int}{m n:Nat}(h1:a.natAbs<=2 ^ m)(h2:b.natAbs<=2 ^ n)(h3:c.natAbs<=2 ^ n)(h4:d.natAbs<=2 ^ m):(a * b+c * d).natAbs<=2 ^ (m+n+1):=by have k1:=Fu h1 h2;have k2:=Fu h3 h4;rw[cF n m]at k2;have k3:(a * b+c * d).natAbs<=(a * b).natAbs+(c * d).natAbs:=Int.natAbs_add_le _ _;have k4:(2:Nat) ^ (m+n+1)=2 ^ (m+n) * 2:=Nat.pow_succ ..;omega
def Rk(h1:a.natAbs<=2 ^ m)(h2:b.natAbs<=2 ^ m):(Fr.of a b h).sz m:=
 ⟨aj (ND oM) h1,aj (OZ oM) h2⟩
def Oc(h:m<=n):(2:Nat) ^ m<=2 ^ n:=cG bD h
def Fr.lv(k c:Nat)(x:Fr):Prop:=∃a:Int,x.t * 12 ^ k=a * x.b/\1024 * a.natAbs<=c * 2 ^ (100 * k)
def Fr.lv_add(h:x.lv k c)(h':y.lv k c'):(Fr.add x y).lv k (c+c'):=by
 obtain⟨a,e,b⟩:=h;obtain⟨a',e',b'⟩:=h';show⟨a+a',?_,?_⟩
 . have hc:=Fr.of_cross (x.t * y.b+y.t * x.b) (x.b * y.b)<|aQ x.p y.p;have hn:x.b * y.b≠0:=Int.mul_ne_zero x.nb y.nb;show bO hn ?_;show(Fr.add x y).t * 12 ^ k * (x.b * y.b)=(a+a') * (Fr.add x y).b * (x.b * y.b);have hc:(Fr.add x y).t * (x.b * y.b)=(x.t * y.b+y.t * x.b) * (Fr.add x y).b:=hc;have e1:(Fr.add x y).t * 12 ^ k * (x.b * y.b)=((Fr.add x y).t * (x.b * y.b)) * 12 ^ k:=by rw[bB]
   rw[e1,hc];have e2:(x.t * y.b+y.t * x.b) * (Fr.add x y).b * 12 ^ k=((x.t * 12 ^ k) * y.b+(y.t * 12 ^ k) * x.b) * (Fr.add x y).b:=by rw[bB,Int.add_mul,bB x.t,bB y.t]
   rw[e2,e,e'];have e3:a * x.b * y.b+a' * y.b * x.b=(a+a') * (x.b * y.b):=by rw[Int.add_mul,aI,aI a',aX y.b x.b]
   rw[e3,bB]
 . have:=Int.natAbs_add_le a a';rw[Nat.add_mul];omega
def Fr.lv_mul(h:x.lv j 32)(h':y.lv k 32):(Fr.mul x y).lv (j+k) 1:=by
 obtain⟨a,e,b⟩:=h;obtain⟨a',e',b'⟩:=h';show⟨a * a',?_,?_⟩
 . have hc:(Fr.mul x y).t * (x.b * y.b)=(x.t * y.t) * (Fr.mul x y).b:=Fr.of_cross (x.t * y.t) (x.b * y.b)<|aQ x.p y.p;have hn:x.b * y.b≠0:=Int.mul_ne_zero x.nb y.nb;show bO hn ?_;rw[bB,hc,Int.pow_add];have e2:x.t * y.t * (Fr.mul x y).b * (12 ^ j * 12 ^ k)=(x.t * 12 ^ j) * (y.t * 12 ^ k) * (Fr.mul x y).b:=by rw[bB];congr 1;rw[aI,aI,Int.mul_left_comm y.t]
   rw[e2,e,e'];have e3:a * x.b * (a' * y.b)=a * a' * (x.b * y.b):=by rw[aI,aI,Int.mul_left_comm x.b]
   rw[e3,bB]
 . rw[bA,Nat.mul_add,Nat.pow_add];have h1:=cE b b';have e1:1024 * a.natAbs * (1024 * a'.natAbs)=1024 * (1024 * (a.natAbs * a'.natAbs)):=by rw[cH,Nat.mul_left_comm a.natAbs]
   have e2:32 * 2 ^ (100 * j) * (32 * 2 ^ (100 * k))=1024 * (2 ^ (100 * j) * 2 ^ (100 * k)):=by rw[cH,Nat.mul_left_comm<|2 ^ (100 * j),<- cH]
   rw[e1,e2]at h1;have:=Nat.le_of_mul_le_mul_left h1 bD;omega
def Fr.lv_up{k c:Nat}{x:Fr}(h:x.lv k c):x.lv (k+1) c:=by
 obtain⟨a,e,b⟩:=h;show⟨a * 12,?_,?_⟩
 . rw[Int.pow_succ,<- aI,e,bB]
 . rw[bA,show 100 * (k+1)=100 * k+100 from by omega,Nat.pow_add];have h1:(1024 * a.natAbs) * 12<=(c * 2 ^ (100 * k)) * 2 ^ 100:=cE b bD;have e1:1024 * (a.natAbs * (12:Int).natAbs)=(1024 * a.natAbs) * 12:=by rw[cH];rfl
   rw[e1,<- cH];exact h1
def Fr.lv_sz{k c:Nat}{x:Fr}(hc:c<=1024)(h:x.lv k c):x.sz (100 * k):=by
 obtain⟨a,e,b⟩:=h;have cop:Nat.Coprime x.t.natAbs x.b.natAbs:=by
  have l:=x.l;unfold dv at l;have:Int.gcd x.t x.b=1:=by omega
  exact this
 have e':x.t.natAbs * 12 ^ k=a.natAbs * x.b.natAbs:=by have:=congrArg Int.natAbs e;rw[bA,bA,Int.natAbs_pow]at this;exact this
 have hb:a.natAbs<=2 ^ (100 * k):=by have h1:1024 * a.natAbs<=1024 * 2 ^ (100 * k):=aj b<|br _ hc;exact Nat.le_of_mul_le_mul_left h1 bD
 have ur:(12:Nat) ^ k<=2 ^ (100 * k):=by rw[Nat.pow_mul];exact Nat.pow_le_pow_left bD k
 constructor
 . have d:x.t.natAbs ∣ a.natAbs:=cop.dvd_of_dvd_mul_right ⟨12 ^ k,e'.symm⟩;by_cases z:a.natAbs=0
   . have:x.t.natAbs * 12 ^ k=0:=by rw[e',z,Nat.zero_mul]
     have:x.t.natAbs=0:=by
      rcases Nat.mul_eq_zero.mp this with h | h
      . exact h
      . exact absurd h (bx<|Nat.pow_pos bD)
     omega
   . exact aj (Nat.le_of_dvd oM d) hb
 . have d:x.b.natAbs ∣ 12 ^ k:=cop.symm.dvd_of_dvd_mul_left ⟨a.natAbs,by rw[e',Nat.mul_comm]⟩;exact aj (Nat.le_of_dvd (Nat.pow_pos bD) d) ur
def Fr.lv_drawn{t b:Int}(h:0 < b)(h4:b<=4)(ht:t.natAbs<=2 ^ 90):(Fr.of t b h).lv 1 32:=by
 have hc:=Fr.of_cross t b h;obtain⟨q,e,q12⟩:∃q:Int,b * q=12/\q.natAbs<=12:=by
  rcases(by omega:b=1\/b=2\/b=3\/b=4)with rfl | rfl | rfl | rfl
  . exact⟨12,bD,bD⟩
  . exact⟨6,bD,bD⟩
  . exact⟨4,bD,bD⟩
  . exact⟨3,bD,bD⟩
 show⟨t * q,?_,?_⟩
 . rw[Int.pow_succ,Int.pow_zero,Int.one_mul,<- e,<- aI,hc,bB]
 . rw[bA];have h1:t.natAbs * q.natAbs<=2 ^ 90 * 12:=cE ht q12;have h2:(2:Nat) ^ 90 * 12 * 1024<=32 * 2 ^ (100 * 1):=by decide
   have e2:(2:Nat) ^ 90=1237940039285380274899124224:=by decide
   have e3:(2:Nat) ^ (100 * 1)=1267650600228229401496703205376:=by decide
   rw[e2]at h1 h2;rw[e3]at h2 ⊢;omega
def MY:SR where
 W:=Fr
 add:=Fr.add
 mul:=Fr.mul
 zero:=Fr.zero
 one:=Fr.one
 add_comm x y:=Fr.eq_of Dy.1 Dy.2
 add_assoc x y z:=
  have h:=Kv (f:=z.b) (e:=z.t) x.nb y.nb z.nb (Fr.add x y).nb (Fr.add y z).nb (Fr.of_cross _ _<|aQ x.p y.p) (Fr.of_cross _ _<|aQ y.p z.p)
  Fr.eq_of h.1 h.2
 mul_comm x y:=Fr.eq_of BG.1 BG.2
 mul_assoc x y z:=
  have h:=II (f:=z.b) (e:=z.t) x.nb y.nb z.nb (Fr.mul x y).nb (Fr.mul y z).nb (Fr.of_cross _ _<|aQ x.p y.p) (Fr.of_cross _ _<|aQ y.p z.p)
  Fr.eq_of h.1 h.2
 Bj x y z:=
  have h:=Bj (a:=x.t) (f:=z.b) (e:=z.t) x.nb y.nb z.nb (Fr.add y z).nb (Fr.mul x y).nb (Fr.mul x z).nb (Fr.of_cross _ _<|aQ y.p z.p) (Fr.of_cross _ _<|aQ x.p y.p) (Fr.of_cross _ _<|aQ x.p z.p)
  Fr.eq_of h.1 h.2
 add_zero x:=Fr.eq_of (GL x.p x.l).1 (GL x.p x.l).2
 mul_one x:=Fr.eq_of (GH x.p x.l).1 (GH x.p x.l).2
 mul_zero x:=Fr.eq_of (EO x.p).1 (EO x.p).2
 zo h:=by have:(0:Int)=1:=congrArg Fr.t h;omega
 sz:=Fr.sz
 sz_mono m n x h s:=⟨aj s.1<|Oc h,aj s.2<|Oc h⟩
 sz_add m n x y h1 h2:=Rk (RK h1.1 h2.2 h2.1 h1.2) (aj (Fu h1.2 h2.2)<|Oc<|bz _)
 sz_mul m n x y h1 h2:=Rk (Fu h1.1 h2.1) (Fu h1.2 h2.2)
 sz_zero:=⟨by decide,bD⟩
 sz_one:=⟨by decide,bD⟩
 lv:=Fr.lv
 lv_mono k c c' x h:=λ⟨a,e,b⟩=>⟨a,e,aj b<|br _ h⟩
 lv_add _ _ _ _ _ h h':=Fr.lv_add h h'
 lv_mul _ _ _ _ h h':=Fr.lv_mul h h'
 lv_zero k:=⟨0,by show(0:Int) * 12 ^ k=0 * 1;rw[Int.zero_mul,Int.zero_mul],by show 1024 * 0<=_;omega⟩
 lv_one:=⟨12,bD,bD⟩
 lv_up _ _ _ h:=Fr.lv_up h
 lv_sz _ _ _ hc h:=Fr.lv_sz hc h
 data x:=.tuple [.int x.t,.int x.b]
 sh x:=rfl
 nm x y:=by simp[noMix,noMixAll]
 eq x:=by simp[PySem.Spec.same,PySem.Spec.sameAll]
 ne x y h:=by simp[PySem.Spec.same,PySem.Spec.sameAll];intro h1 h2;exact h (Fr.eq_of h1 h2)
structure Re(p:Int)where
 x:Int
 h0:0<=x
 h1:x < p
def Re.eq_of{p:Int}{a b:Re p}(h:a.x=b.x):a=b:=by cases a;cases b;cases h;rfl
def Re.of(p:Int)(hp:0 < p)(x:Int):Re p:=⟨x.fmod p,(Wz hp).1,(Wz hp).2⟩
def Bv(p:Int)(hp:2<=p):SR where
 W:=Re p
 add a b:=Re.of p oM (a.x+b.x)
 mul a b:=Re.of p oM (a.x * b.x)
 zero:=⟨0,oM,oM⟩
 one:=⟨1,oM,oM⟩
 add_comm a b:=Re.eq_of (by show(a.x+b.x).fmod p=(b.x+a.x).fmod p;rw[Int.add_comm])
 add_assoc a b c:=Re.eq_of (r_pa oM)
 mul_comm a b:=Re.eq_of (by show(a.x * b.x).fmod p=(b.x * a.x).fmod p;rw[aX])
 mul_assoc a b c:=Re.eq_of (r_ta oM)
 Bj a b c:=Re.eq_of (r_d oM)
 add_zero a:=Re.eq_of (by show(a.x+0).fmod p=a.x;rw[Int.add_zero];exact Kt a.h0 a.h1)
 mul_one a:=Re.eq_of (by show(a.x * 1).fmod p=a.x;rw[Int.mul_one];exact Kt a.h0 a.h1)
 mul_zero a:=Re.eq_of (by show(a.x * 0).fmod p=0;rw[Int.mul_zero];exact Kt oM oM)
 zo h:=by have:(0:Int)=1:=congrArg Re.x h;omega
 sz _ _:=True
 sz_mono _ _ _ _ _:=trivial
 sz_add _ _ _ _ _ _:=trivial
 sz_mul _ _ _ _ _ _:=trivial
 sz_zero:=trivial
 sz_one:=trivial
 lv _ _ _:=True
 lv_mono _ _ _ _ _ _:=trivial
 lv_add _ _ _ _ _ _ _:=trivial
 lv_mul _ _ _ _ _ _:=trivial
 lv_zero _:=trivial
 lv_one:=trivial
 lv_up _ _ _ _:=trivial
 lv_sz _ _ _ _ _:=trivial
 data a:=.int a.x
 sh _:=rfl
 nm _ _:=by simp[noMix]
 eq _:=by simp[PySem.Spec.same]
 ne a b h:=by simp[PySem.Spec.same];intro e;exact h (Re.eq_of e)
def Nh:Option Int->Option Int->Option Int
 | none,y=>y
 | x,none=>x
 | some a,some b=>some (if b < a then b else a)
def Li:Option Int->Option Int->Option Int
 | some a,some b=>some (a+b)
 | _,_=>none
def LW:Option Int->PyData
 | none=>.none
 | some i=>.int i
def W6:SR where
 W:=Option Int
 add:=Nh
 mul:=Li
 zero:=none
 one:=some 0
 add_comm x y:=by
  cases x <;>cases y <;>simp only[Nh];congr 1;split <;>split <;>omega
 add_assoc x y z:=by
  cases x <;>cases y <;>cases z <;>simp only[Nh];congr 1;repeat (split <;>try omega)
 mul_comm x y:=by
  cases x <;>cases y <;>simp only[Li];congr 1;omega
 mul_assoc x y z:=by
  cases x <;>cases y <;>cases z <;>simp only[Li];congr 1;omega
 Bj x y z:=by
  cases x <;>cases y <;>cases z <;>simp only[Li,Nh];congr 1;repeat (split <;>try omega)
 add_zero x:=by cases x <;>rfl
 mul_one x:=by
  cases x with
  | none=>rfl
  | some a=>simp only[Li];congr 1;omega
 mul_zero x:=by cases x <;>rfl
 zo h:=by cases h
 sz _ _:=True
 sz_mono _ _ _ _ _:=trivial
 sz_add _ _ _ _ _ _:=trivial
 sz_mul _ _ _ _ _ _:=trivial
 sz_zero:=trivial
 sz_one:=trivial
 lv _ _ _:=True
 lv_mono _ _ _ _ _ _:=trivial
 lv_add _ _ _ _ _ _ _:=trivial
 lv_mul _ _ _ _ _ _:=trivial
 lv_zero _:=trivial
 lv_one:=trivial
 lv_up _ _ _ _:=trivial
 lv_sz _ _ _ _ _:=trivial
 data:=LW
 sh x:=by cases x <;>rfl
 nm x y:=by cases x <;>cases y <;>simp[LW,noMix]
 eq x:=by cases x <;>simp[LW,PySem.Spec.same]
 ne x y h:=by cases x <;>cases y <;>simp_all [LW,PySem.Spec.same]
def P5:SR where
 W:=Bool
 add:=λa b=>a || b
 mul:=λa b=>a && b
 zero:=false
 one:=true
 add_comm x y:=by cases x <;>cases y <;>rfl
 add_assoc x y z:=by cases x <;>cases y <;>cases z <;>rfl
 mul_comm x y:=by cases x <;>cases y <;>rfl
 mul_assoc x y z:=by cases x <;>cases y <;>cases z <;>rfl
 Bj x y z:=by cases x <;>cases y <;>cases z <;>rfl
 add_zero x:=by cases x <;>rfl
 mul_one x:=by cases x <;>rfl
 mul_zero x:=by cases x <;>rfl
 zo h:=by cases h
 sz _ _:=True
 sz_mono _ _ _ _ _:=trivial
 sz_add _ _ _ _ _ _:=trivial
 sz_mul _ _ _ _ _ _:=trivial
 sz_zero:=trivial
 sz_one:=trivial
 lv _ _ _:=True
 lv_mono _ _ _ _ _ _:=trivial
 lv_add _ _ _ _ _ _ _:=trivial
 lv_mul _ _ _ _ _ _:=trivial
 lv_zero _:=trivial
 lv_one:=trivial
 lv_up _ _ _ _:=trivial
 lv_sz _ _ _ _ _:=trivial
 data:=.bool
 sh _:=rfl
 nm _ _:=by simp[noMix]
 eq _:=by simp[PySem.Spec.same]
 ne a b h:=by simp_all [PySem.Spec.same]
end Mine
namespace L2
open PySem PySem.Spec PyProof.Rows
class Plain (P:Program):Prop where
 tree:P.given.tree=none
section
variable{X:Cx}
theorem j9.seer{aS:w0d}{σ:St}{H:Z}{s:Shared}(I:j9 X aS σ H s):s.heap.NoSeer:=I.ok.mod.seer.keeps I.bk
def CH{k:Nat}(hr:z4 k X.A)(hk:34<=k)(hP:X.prog.given.tree=none)(hR:X.stack=X.env::X.outer:=by rfl)(oE:X.env.scope.isGenerator=false:=by rfl)(wo:X.env.scope.isCoroutine=false:=by rfl) :
    Aw X (binaryOp .FloorDiv) (rI (λ_ j=>j≠0) λi j=>.int<|i.fdiv j):=by
 intro aS s σ H x y v u Q I rx ry h;obtain⟨i,j,rfl,rfl,hc,q⟩:=h;obtain⟨t,rfl⟩:=rx;obtain⟨t',rfl⟩:=ry;show floordiv_int hc ⟨.int _,H,I.tok _,⟨_,Y⟩,q⟩ (Or.inr<|PylongRoom.of I.nolimit ?_<|SeerAt.of I.seer hP (by rw[I.ok.frames,hR]) oE wo I.ok.blt I.ok.glob);have:=hr.dp;show X.A.depth+100 < recursionLimit;omega
def Ej(i j:Int):Prop:=Builtin.Int.intBits i+Builtin.Int.intBits j<=2 ^ 27
def Ub{a b:Int}(hc:Ej a b):IntMulOk a b:=by
 have hc:Builtin.Int.intBits a+Builtin.Int.intBits b<=2 ^ 27:=hc;have e:Builtin.Int.intTooBig (Builtin.Int.intBits a+Builtin.Int.intBits b)=false:=by unfold Builtin.Int.intTooBig bitsLine;exact decide_eq_false oM
 unfold IntMulOk;rw[e];simp
def P9:Aw X (binaryOp .Mult) (rI Ej λi j=>.int<|i * j):=WJ λ_ _ _ _ _ _ _ hc q=>mul_int q (Ub hc)
end
section
variable{CX:Mb}{P:Program}{w:World}{K:aa}{mg:w0f}{base:Heap}{N:w0h}{qual:Str}{scope:Scope}{f:Addr}{cd:Value}{A:Around}{outer:List Env}{s:Shared}{H:Z}{E:XK}
end
def Ao{t:TS}{D:DS}{σ l:St}{H:Z}(h:σ=l)(k:t D l H):t D σ H:=h▸k
def z0(cells:List (Str × Addr)):List (Str × NameKind)->List (Str × Addr)->List (Str × Addr)
 | [],cs=>cs
 | (n,k)::r,cs=>z0 cells r (if(k == .free)=true then(n,(cells.lookup n).getD 0)::cs else cs)
theorem Ik:∀(names:List (Str × NameKind)) (cs:List (Str × Addr)),(∀n,(n,NameKind.free)∈names->∃c,env.cells.lookup n=some c)->
    (forIn names cs λ(x:Str × NameKind) (r:List (Str × Addr))=>(match x with | (name,kind)=>if(kind == NameKind.free)=true then(do let c <- cellOf env name;pure (ForInStep.yield ((name,c)::r)))else pure (ForInStep.yield r):Sem (ForInStep<|List<|Str × Addr)))=pure (z0 env.cells names cs)
 | [],cs,_=>rfl
 | (n,k)::r,cs,h=>by
  rw[List.forIn_cons];by_cases hk:k=.free
  . subst hk;obtain⟨c,hc⟩:=h n ax;have ih:=Ik (env:=env) r ((n,c)::cs) λm hm=>h m<|aq _ hm;have e1:cellOf env n=pure c:=by unfold cellOf;rw[hc]
    simp only[beq_self_eq_true,if_true,e1,pure_bind];rw[ih]
    conv=>rhs;unfold z0
    simp only[beq_self_eq_true,if_true,hc,cq]
  . have hb:(k == NameKind.free)=false:=by simpa using hk
    have ih:=Ik (env:=env) r cs λm hm=>h m<|aq _ hm;simp only[hb,cX,if_false,pure_bind];rw[ih]
    conv=>rhs;unfold z0
    simp only[hb,cX,if_false]
def M5(h:∀n,(n,NameKind.free)∈scope.names->∃c,env.cells.lookup n=some c):closureFor scope env=pure (z0 env.cells scope.names []):=by have e:=Ik (env:=env) scope.names [] h;unfold closureFor;simp only[bind_pure];exact e
theorem FQ:∀{names:List (Str × NameKind)} {cs:List (Str × Addr)},(∀n,(n,NameKind.free)∈names->∃c,cells.lookup n=some c)->∀{y c},(z0 cells names cs).lookup y=some c->cs.lookup y=some c\/cells.lookup y=some c
 | [],cs,_,y,c,e=>.inl e
 | (n,k)::r,cs,h,y,c,e=>by
  unfold z0 at e;have h':∀m,(m,NameKind.free)∈r->∃c,cells.lookup m=some c:=λm hm=>h m<|aq _ hm;rcases FQ h' e with z | z
  . by_cases hk:k=.free
    . subst hk;obtain⟨d,hd⟩:=h n ax;simp only[beq_self_eq_true,if_true,hd,cq]at z;rw[bQ]at z;cases hy:(y == n)with
      | true=>
       rw[hy]at z;have:y=n:=beq_iff_eq.mp hy;subst this;exact .inr (hd.trans z)
      | false=>rw[hy]at z;exact .inl z
    . have hb:(k == NameKind.free)=false:=by simpa using hk
      simp only[hb,cX,if_false]at z;exact .inl z
  . exact .inr z
theorem Aj:∀{names:List (Str × NameKind)} {cs:List (Str × Addr)} {y:Str},((∃c,cs.lookup y=some c)\/(y,NameKind.free)∈names)->∃c,(z0 cells names cs).lookup y=some c
 | [],cs,y,h=>by
  rcases h with h | h
  . exact h
  . cases h
 | (n,k)::r,cs,y,h=>by
  unfold z0;show Aj ?_;rcases h with ⟨c,h⟩ | h
  . left;split
    . rw[bQ];cases hy:(y == n)with
      | true=>exact⟨_,Y⟩
      | false=>exact⟨c,h⟩
    . exact⟨c,h⟩
  . rcases ah.mp h with e | h
    . cases e;left;simp only[beq_self_eq_true,if_true];rw[bQ,beq_self_eq_true];exact⟨_,Y⟩
    . exact .inr h
def QM{prog:Program}{w:World}{A:Around}{R:Result->Shared->Prop}{s:Shared}{dQ dh iter:Expr}{scope:Scope}{pos:Pos}{it dM:Value}{env:Env}(I:Nat->Shared->Prop)
    (eB:∀n s,I n s->wpAny (model prog w) A (pyNext it) (λr s₁=>match r with
     | none=>R (.ok .next) s₁
     | some v=>wpAny (model prog w) A (letOwnedTupleGo dh it v) (λ_ fw=>wpAny (model prog w) A (assign dh env v) (λ_ s₂=>wpAny (model prog w) A (eval dQ env) (λx s₃=>
         wpAny (model prog w) A (call (.builtin "list.append") [dM,x]) (λ_ s₄=>∃m,m < n/\I m s₄) (λ_ _=>False) s₃) (λ_ _=>False) s₂) (λ_ _=>False) fw) (λ_ _=>False) s₁) (λ_ _=>False) s)
    (n:Nat) (h:I n s) :
    codeAny (model prog w) A (.compLoop (.ListComp dQ [⟨dh,iter,[],0⟩] scope pos) 0 it dM env) R s:=by
 show codeAny_loop rfl I (λn s hI=>?_) n h;show wpAny _ _ ((compTurn (.ListComp dQ [⟨dh,iter,[],0⟩] scope pos) 0 it dM env).onRaise<|λx=>do noteFrame x env;theTreesLotGoes x) _ _ s;show wpAny_noted ?_;rw[compTurn_list1];show wpAny_bind<|wpAny_standAt<|wpAny_bind<|wpAny_mono (eB n s hI) (λr s₁ h₁=>?_) λ_ _ h'=>h'.elim;cases r with
 | none=>exact wpAny_pure h₁
 | some v=>
  exact wpAny_bind (wpAny_mono h₁ (λ_ nk jr=>wpAny_bind (wpAny_mono jr (λ_ s₂ h₂=>wpAny_bind (wpAny_bind (wpAny_mono h₂ (λx s₃ h₃=>wpAny_bind (wpAny_mono h₃
   (λ_ s₄ h₄=>wpAny_pure<|wpAny_pure ⟨Y,h₄⟩) λ_ _ h'=>h'.elim)) λ_ _ h'=>h'.elim))) λ_ _ h'=>h'.elim)) λ_ _ h'=>h'.elim)
def R6.track(x:R6 P w H h)(n:H a=none)(new:D4 P w (upd H a o) h a o):R6 P w (upd H a o) h:=λb u e=>by
 by_cases hb:b=a
 . subst hb;rw[c8]at e;cases e;exact new
 . rw[k9 hb]at e;exact(x b u e).stay (λ_ _ _ q=>q) (λc q=>by rw[k9<|l9 q n];exact q) λc xs q=>by rw[k9<|l9 q n];exact q
def Un.track(u:Un fs ex H H' h h')(hp:h.objs.size<=a)(n:H' a=none):Un fs ex H (upd H' a o) h h' where
 keep:=u.keep
 slot:=u.slot
 free:=λb ob q m hx=>by rw[k9<|au<|ay (ag q) hp];exact u.free b ob q m hx
 there:=u.there
 tups:=λb xs q=>by have z:=u.tups b xs q;rw[k9<|l9 z n];exact z
 frzs:=λb ob xs q=>by have z:=u.frzs b ob xs q;rw[k9<|l9 z n];exact z
 tbls:=λb ps q=>by obtain⟨m,z⟩:=u.tbls b ps q;exact⟨m,by rw[k9<|l9 z n];exact z⟩
theorem y3:∀(names:List (Str × NameKind)) (n:Nat) (dM:List (Str × Addr)),cellsFrom n names dM=cellsFrom n names []++dM
 | [],_,_=>rfl
 | (x,k)::r,n,dM=>by
  unfold cellsFrom;split
  . rw[y3 r (n+1) ((x,n)::dM),y3 r (n+1) [(x,n)],List.append_assoc];rfl
  . exact y3 r n dM
theorem De:∀(names:List (Str × NameKind)) (n:Nat) (y:Str) (c:Addr),(y,c)∈cellsFrom n names []->(y,NameKind.cell)∈names
 | [],_,_,_,h=>by cases h
 | (x,k)::r,n,y,c,h=>by
  unfold cellsFrom at h;split at h
  . rename_i hk;rw[y3]at h;rcases aw.mp h with h | h
    . exact aq _ (De r (n+1) y c h)
    . have e:=af.mp h;cases e;rw[show k=NameKind.cell by simpa using hk];exact ax
  . exact aq _ (De r n y c h)
theorem P2:∀(names:List (Str × NameKind)) (n:Nat) (y:Str),(y,NameKind.cell)∈names->∃c,(y,c)∈cellsFrom n names []
 | [],_,_,h=>by cases h
 | (x,k)::r,n,y,h=>by
  unfold cellsFrom;rcases ah.mp h with e | h
  . cases e;rw[if_pos (show(NameKind.cell == NameKind.cell)=true by decide),y3];exact⟨n,ar _ ax⟩
  . split
    . rw[y3];obtain⟨c,hc⟩:=P2 r (n+1) y h;exact⟨c,aF _ hc⟩
    . exact P2 r n y h
theorem z9:∀(l r:List (Str × α)) (y:Str),(l++r).lookup y=match l.lookup y with | some c=>some c | none=>r.lookup y
 | [],_,_=>rfl
 | (x,c)::l,r,y=>by
  rw[cW,bQ,bQ];cases (y == x)with
  | true=>rfl
  | false=>exact z9 l r y
theorem P1:∀{l:List (Str × α)} {y:Str} {c:α},(y,c)∈l->∃c',l.lookup y=some c'
 | (x,d)::l,y,c,h=>by
  rw[bQ];cases hb:(y == x)with
  | true=>exact⟨d,Y⟩
  | false=>
   rcases ah.mp h with e | h
   . cases e;rw[beq_self_eq_true]at hb;cases hb
   . exact P1 h
abbrev Ba(env:Env)(scope:Scope)(C:Addr):List (Str × Addr):=cellsFrom (C+1) scope.names (z0 env.cells scope.names [])
def Nf(h:(Ba env scope C).lookup y=some c):(y,c)∈cellsFrom (C+1) scope.names []\/(z0 env.cells scope.names []).lookup y=some c:=by
 rw[show Ba env scope C=_ from y3 _ _ _,z9]at h;split at h
 . rename_i e;cases h;exact .inl (aH e)
 . exact .inr h
def UA(k:scope.names.lookup y=some .cell)(h:(Ba env scope C).lookup y=some c):(y,c)∈cellsFrom (C+1) scope.names []:=by rw[show Ba env scope C=_ from y3 _ _ _,z9]at h;obtain⟨d,hd⟩:=P2 scope.names (C+1) y<|aH k;obtain⟨d',eU⟩:=P1 hd;rw[eU]at h;cases h;exact aH eU
theorem u6:∀(names:List (Str × NameKind)) (n:Nat) (y:Str) (c:Addr),(y,c)∈cellsFrom n names []->n<=c
 | [],_,_,_,h=>by cases h
 | (x,k)::r,n,y,c,h=>by
  unfold cellsFrom at h;split at h
  . rw[y3]at h;rcases aw.mp h with h | h
    . have:=u6 r (n+1) y c h;omega
    . cases af.mp h;exact ae _
  . exact u6 r n y c h
theorem Bk:∀(names:List (Str × NameKind)) (n:Nat) (x y:Str) (c:Addr),(x,c)∈cellsFrom n names []->(y,c)∈cellsFrom n names []->x=y
 | [],_,_,_,_,h,_=>by cases h
 | (z,k)::r,n,x,y,c,h,g=>by
  unfold cellsFrom at h g;split at h
  . rename_i hk;rw[if_pos hk]at g;rw[y3]at h g;rcases aw.mp h with h | h <;>rcases aw.mp g with g | g
    . exact Bk r (n+1) x y c h g
    . cases af.mp g;have:=u6 r (n+1) x _ h;omega
    . cases af.mp h;have:=u6 r (n+1) y _ g;omega
    . cases af.mp h;cases af.mp g;rfl
  . rename_i hk;rw[if_neg hk]at g;exact Bk r n x y c h g
def Ed{M:Model}{A:Around}{E:w0e}{s:Shared}{scope:Scope}{globals:Addr}{gg:List (Str × Addr)}{qual:Str}{env:Env}{Q:Env->Shared->Prop}
    (hQ:∀h':Heap,h'.Ns s.heap.objs.size (λ_=>none)->(∀b o,s.heap.get? b=some o->h'.get? b=some o)->CellsOk h' (s.heap.objs.size+1) (cellsFrom (s.heap.objs.size+1) scope.names [])->
     Q (newEnv scope s.heap.objs.size globals (cellsFrom (s.heap.objs.size+1) scope.names gg) qual none .none (some env) builtinsNs) { s with heap:=h',toks:=s.toks+([]:List (Str × Value)).length }) :
    wpAny M A (newFunctionEnv scope globals gg [] qual none .none<|some env) Q E s:=by
 simp only[newFunctionEnv,Option.isSome_some,if_true];show wpAny_bind<|wpAny_alloc ?_;show wpAny_bind (wpAny_layCells _ (λname kind cells=>by cases ot:kind == NameKind.cell <;>simp[ot]) _ _ _ _ ?_);have ok:=cellsFrom_ok scope.names (s.heap.push { cls:=.type "dict",data:=.dict #[] }) (s.heap.objs.size+1) [] ⟨λ_ _ hm=>(nomatch hm),List.Pairwise.nil⟩ (by rw[bb];exact ae _);rw[bb]at ok;rw[show({ s with heap:=s.heap.push { cls:=.type "dict",data:=.dict #[] } }:Shared).heap.objs.size=s.heap.objs.size+1 from bb ..];rw[cI];show wpAny_bind<|wpAny_pure<|wpAny_pure ?_;exact hQ _ ((Heap.Ns.new s.heap<|.type "dict").keeps<|pushCells_keeps _ _) (λb o e=>pushCells_keeps _ _ b o<|ak _ e) ok
def t9(X:Cx)(scope:Scope)(xs:w0h)(C:Addr)(s:Shared)(H:Z)(fp:List Addr)(pn:w0d):Cx:=
 { X with env:=compEnvC scope (Ba X.env scope C) C X.env,N:=X.N++xs,s₀:=s,H₀:=H,outer:=X.stack,ex:=fp,fn:=λy=>scope.names.lookup y == some .cell,pn:=pn,xe:=λ_ _=>False }
abbrev Cx.rb(X:Cx)(g:Heap):Cx:={ X with base:=g }
structure Bc(X:Cx)(g:Heap)(H:Z)(h:Heap)(fp:List Addr):Prop where
 mod:Mod X.K X.mg g
 bs:∀b o,g.get? b=some o->h.get? b=some o/\H b=none
 bsz:g.objs.size<=h.objs.size
 noex:∀b o,g.get? b=some o->b ∉ fp
 nofr:∀b∈C9 X.stack,g.get? b=none
theorem W4{base g h:Heap}:∀{l:List Env},h.FunFrames base l->(∀b∈C9 l,g.get? b=none)->h.FunFrames g l
 | [],_,_=>trivial
 | env::l,⟨hk,⟨L,o,hf,_,ho,hd⟩,hr⟩,n=>by
  have e:C9 (env::l)=L::C9 l:=by unfold C9;rw[bw,hf]
  rw[e]at n;exact⟨hk,⟨L,o,hf,n L ax,ho,hd⟩,W4 hr λb hb=>n b<|aq _ hb⟩
def Bc.more(B:Bc X g H h fp)(k:∀b o,h.get? b=some o->h'.get? b=some o)(sz:h.objs.size<=h'.objs.size)(hD:h.objs.size<=D):Bc X g H h' (D::fp):=
 ⟨B.mod,λb o e=>⟨k _ _ (B.bs b o e).1,(B.bs b o e).2⟩,aj B.bsz sz,λb o e hb=>by
  rcases ah.mp hb with rfl | hb
  . exact absurd (ay (ag e)<|aj B.bsz hD) (aL _)
  . exact B.noex b o e hb,B.nofr⟩
def j9.baseAt(I:j9 X aS σ H s)(hf:∀b∈fp,L7 X aS H b):Bc X X.base H s.heap fp:=
 ⟨I.mod,I.bs,aj I.ok.bsz I.sz,λb o e hb=>by
  rcases(hf b hb).2.2.2.1 with z | z
  . exact I.ok.noex b o e z
  . exact absurd (ay (ag e)<|aj I.ok.bsz z)<|aL _,λb hb=>(I.stack.mem hb).1⟩
structure P4(N:w0h)(S T:Scope):Prop where
 kind:T.kind=.function
 cell:∀y∈N,T.names.lookup y≠some .cell
 names:∀y∈T.names,y.2=.local->T.names.lookup y.1=some .local
 uniq:∀y∈T.names,T.names.lookup y.1=some y.2
 free:∀y∈T.names,y.2=.free->S.names.lookup y.1=some .cell\/S.names.lookup y.1=some .free
 vis:∀y∈N,T.names.lookup y≠some .local
def oC(N:w0h)(S:Scope){T:Scope}(a:T.kind=.function:=by rfl)(b:∀y∈N,T.names.lookup y≠some .cell:=by decide +kernel)(c:∀y∈T.names,y.2=.local->T.names.lookup y.1=some .local:=by decide +kernel)(d:∀y∈T.names,T.names.lookup y.1=some y.2:=by decide +kernel)(e:∀y∈T.names,y.2=.free->S.names.lookup y.1=some .cell\/S.names.lookup y.1=some .free:=by decide +kernel)(f:∀y∈N,T.names.lookup y≠some .local:=by decide +kernel):P4 N S T:=⟨a,b,c,d,e,f⟩
def rl(env:Env)(z:Str × NameKind):Str × NameKind:=match z with | (n,k)=>if(k == NameKind.free && env.scope.kind == .function && env.kindOf n == some .cell)then(n,NameKind.cell)else(n,k)
def SS(env:Env)(n:Str)(k:NameKind):(rl env (n,k)).1=n:=by unfold rl;dsimp only;split <;>rfl
def SQ(env:Env)(n:Str)(k:NameKind):(rl env (n,k)).2=k\/(k=.free/\(rl env (n,k)).2=.cell):=by
 unfold rl;dsimp only;split
 . rename_i h;simp only[bK]at h;exact .inr ⟨by simpa using h.1.1,Y⟩
 . exact .inl rfl
theorem Bf:∀{names:List (Str × NameKind)} {y:Str} {k:NameKind},(names.map<|rl env).lookup y=some k->names.lookup y=some k\/(names.lookup y=some .free/\k=.cell)
 | [],_,_,h=>by cases h
 | (n,j)::r,y,k,h=>by
  have ih:=@Bf env r y k;rw[aM,show rl env (n,j)=((rl env (n,j)).1,(rl env (n,j)).2)from rfl,SS,bQ]at h;rw[bQ];cases hy:(y == n)with
  | true=>
   rw[hy]at h;have h:(rl env (n,j)).2=k:=Option.some.inj h;rcases SQ env n j with z | ⟨z1,z2⟩
   . exact .inl (by rw[<- h,z])
   . exact .inr ⟨by rw[z1],by rw[<- h,z2]⟩
  | false=>
   rw[hy]at h;exact ih h
def CB(h:(relabel scope env).names.lookup y=some .cell\/(relabel scope env).names.lookup y=some .free):scope.names.lookup y=some .free\/scope.names.lookup y=some .cell:=by
 have e:(relabel scope env).names=scope.names.map (rl env):=rfl;rw[e]at h;rcases h with h | h
 . rcases Bf h with z | ⟨z,_⟩
   . exact .inr z
   . exact .inl z
 . rcases Bf h with z | ⟨z,_⟩
   . exact .inl z
   . exact .inl z
def Gf(h:(relabel scope env).names.lookup y=some .local):scope.names.lookup y=some .local:=by
 have e:(relabel scope env).names=scope.names.map (rl env):=rfl;rw[e]at h;rcases Bf h with z | ⟨_,z⟩
 . exact z
 . cases z
section
variable{X:Cx}{aS:w0d}{σ:St}{H:Z}{s:Shared}{scope:Scope}{xs:w0h}{fp:List Addr}{C:Addr}
def X3(I:j9 X aS σ H s)(ok:P4 X.N X.env.scope scope):∀n,(n,NameKind.free)∈scope.names->∃c,X.env.cells.lookup n=some c:=λn hn=>I.ok.has n (ok.free _ hn Y)
def X6(I:j9 X aS σ H s)(ok:P4 X.N X.env.scope scope)(e:(Ba X.env scope C).lookup y=some c):(y,c)∈cellsFrom (C+1) scope.names []\/X.env.cells.lookup y=some c:=by
 rcases Nf e with z | z
 . exact .inl z
 . rcases FQ (X3 I ok) z with z | z
   . cases z
   . exact .inr z
def JH(I:j9 X aS σ H s)(e:X.env.cells.lookup y=some c):c < s.heap.objs.size:=let⟨_,h⟩:=I.cell y c e;h.lt
def Ij(I:j9 X aS σ H s)(B:Bc X g H s.heap fp)(ok:P4 X.N X.env.scope scope)(hf:∀b∈fp,L7 X aS H b)(hx:∀b∈fp,b < s.heap.objs.size)(hC:s.heap.objs.size<=C) :
    (t9 (X.rb g) scope xs C s H fp<|X.pn++aS).Ok where
 mod:=B.mod
 kind:=ok.kind
 glob:=I.ok.glob
 blt:=I.ok.blt
 above:=hC
 inj:=λx y c h1 h2=>by
  rcases X6 I ok h1 with z1 | z1 <;>rcases X6 I ok h2 with z2 | z2
  . exact Bk _ _ x y c z1 z2
  . exact absurd (ay (JH I z2)<|aj hC<|aR<|u6 _ _ _ _ z1) (aL _)
  . exact absurd (ay (JH I z1)<|aj hC<|aR<|u6 _ _ _ _ z2) (aL _)
  . exact I.ok.inj x y c z1 z2
 has:=λy hy=>by
  show ∃c,(Ba X.env scope C).lookup y=some c;rw[show Ba X.env scope C=_ from y3 _ _ _,z9];rcases CB hy with z | z
  . obtain⟨c,hc⟩:=Aj (cells:=X.env.cells) (cs:=[])<|.inr<|aH z;split
    . rename_i c' _;exact⟨c',Y⟩
    . exact⟨c,hc⟩
  . obtain⟨c,hc⟩:=P2 scope.names (C+1) y<|aH z;obtain⟨c',gc⟩:=P1 hc;rw[gc];exact⟨c',Y⟩
 cab:=λx c h e=>aj hC (aR<|u6 _ _ _ _<|UA (by have h:(scope.names.lookup x == some NameKind.cell)=true:=h;simpa using h) e)
 hd:=I.ok.hd
 frames:=I.ok.frames
 stk:=.inl rfl
 exf:=λb hb=>⟨au<|ay (hx b hb) hC,λx c e=>by
  rcases X6 I ok e with z | z
  . exact bx (ay (hx b hb)<|aj hC<|aR<|u6 _ _ _ _ z)
  . exact(hf b hb).2.2.2.2.1 x c z⟩
 bs:=B.bs
 bsz:=B.bsz
 noex:=B.noex
 exfs:=λb hb z=>by
  rcases ah.mp (I.stkSub b z)with q | q
  . exact(hf b hb).2.1 q
  . exact(hf b hb).2.2.1 q
 funs:=W4 I.stack B.nofr
 frf:=I.stkFree
def FP{g:Heap}(I:j9 X aS σ H s)(B:Bc X g H s.heap fp)(ok:P4 X.N X.env.scope scope)(hf:∀b∈fp,L7 X aS H b)(hx:∀b∈fp,b < s.heap.objs.size)(hC:s.heap.objs.size<=C){h':Heap}{t':Nat}{m:w0f}
    (hn:h'.Ns C m) (hk:∀b o,s.heap.get? b=some o->h'.get? b=some o) (jG:CellsOk h' (C+1) (cellsFrom (C+1) scope.names [])) :
    j9 (t9 (X.rb g) scope xs C s H fp<|X.pn++aS) [] (σ++List.replicate xs.length none) H { s with heap:=h',toks:=t' }where
 ok:=Ij I B ok hf hx hC
 os:=rfl
 bare:=I.bare
 base:=Un.kept hk
 loc:=by
  show⟨m,hn,λi x v e1 e2 e3=>?_⟩;have e1:(X.N++xs)[i]? = some x:=e1;have hi:i < σ.length:=by
   by_cases hi:i < σ.length
   . exact hi
   . rw[bq oM,cA]at e2;split at e2 <;>cases e2
  rw[aV hi]at e2;rw[aV<|by rw[<- I.len];exact hi]at e1;have qh:x∈X.N:=aD e1;have e4:(relabel scope X.env).names.lookup x=some .cell\/(relabel scope X.env).names.lookup x=some .free:=by
   rcases e3 with z | z
   . exact absurd (Gf z) (ok.vis x qh)
   . exact z
  have e5:scope.names.lookup x=some .free:=by
   rcases CB e4 with z | z
   . exact z
   . exact absurd z (ok.cell x qh)
  have e6:=ok.free _ (aH e5) rfl;obtain⟨m0,_,hl⟩:=I.loc;obtain⟨u,ru,lu⟩:=hl i x v e1 e2<|.inr e6;show⟨u,ru,.inr ⟨e4,?_⟩⟩;rcases lu with ⟨q,_⟩ | ⟨_,c,hc,o,ho,hd⟩
  . have q:X.env.scope.names.lookup x=some .local:=q;rcases e6 with z | z <;>(rw[q]at z;cases z)
  . obtain⟨c',gc⟩:=Aj (cells:=X.env.cells) (cs:=[])<|.inr<|aH e5;have no:(cellsFrom (C+1) scope.names []).lookup x=none:=by
     cases e:(cellsFrom (C+1) scope.names []).lookup x with
     | none=>rfl
     | some d=>
      have:=ok.uniq _<|De _ _ _ _<|aH e;rw[e5]at this;cases this
    have hb:(Ba X.env scope C).lookup x=some c':=by rw[show Ba X.env scope C=_ from y3 _ _ _,z9,no];exact gc
    rcases FQ (X3 I ok) gc with z | z
    . cases z
    . rw[hc]at z;cases z;exact⟨c,hb,o,hk _ _ ho,hd⟩
 cell:=λx c e=>by
  rcases X6 I ok e with z | z
  . exact⟨none,(jG.empty x c z).1⟩
  . obtain⟨v,o,ho,hd⟩:=I.cell x c z;exact⟨v,o,hk _ _ ho,hd⟩
 free:=I.hok.fresh hC
 freeC:=λx c e=>by
  rcases X6 I ok e with z | z
  . exact .inl (I.hok.fresh (by have:=u6 _ _ _ _ z;omega))
  . rcases I.cellN z with fc | ⟨o,fo⟩
    . exact .inl fc
    . exact .inr ⟨(I.hok c _ fo).lt,o,fo⟩
 pin:=λp hp=>by
  rw[aY]at hp;obtain⟨e,n,ne,nf,d⟩:=I.pin p hp;show⟨hk _ _ e,n,au<|ay (ag e) hC,λz=>?_,d⟩;rcases ah.mp (I.stkSub p.1 z)with q | q
  . exact ne q
  . exact nf q
 hok:=I.hok.kept hk
 len:=by show(σ++List.replicate xs.length none).length=(X.N++xs).length;rw[ao,ao,cB,I.len]
end
abbrev JN(J:It)(k:Nat)(g:TG)(te:TE)(σ:St)(Q:VK)(H1:Z):Prop:=∃W:Nat->Nat->List V->Z->Prop,(∃m,W 0 m [] H1)/\∀i m ys H,W i m ys H->
 (J.stop i H/\ys.length<=sizeLine/\∀p,H p=none->Q (.ref p) (upd H p<|.lst ys))\/
 (J.go i H/\ys.length < sizeLine/\∀x H',J.yld i H x H'->g x (σ++List.replicate k none) H' λσ2 H2=>(∃zs,σ2=σ++zs/\zs.length=k)/\te σ2 H2 λv H3=>∃m',m' < m/\W (i+1) m' (ys++[v]) H3)
def NH(k:Nat)(wi:TI)(g:TG)(te:TE):TE:=λσ H Q=>wi σ H λJ H1=>JN J k g te σ Q H1
abbrev FU(J:It)(k:Nat)(g:TG)(tc:TT)(te:TE)(σ:St)(Q:VK)(H1:Z):Prop:=∃W:Nat->Nat->List V->Z->Prop,(∃m,W 0 m [] H1)/\∀i m ys H,W i m ys H->
 (J.stop i H/\ys.length<=sizeLine/\∀p,H p=none->Q (.ref p) (upd H p<|.lst ys))\/
 (J.go i H/\ys.length < sizeLine/\∀x H',J.yld i H x H'->g x (σ++List.replicate k none) H' λσ2 H2=>(∃zs,σ2=σ++zs/\zs.length=k)/\tc σ2 H2 λb H3=>if b=true then te σ2 H3 λv H4=>∃m',m' < m/\W (i+1) m' (ys++[v]) H4 else ∃m',m' < m/\W (i+1) m' ys H3)
def Cr(k:Nat)(wi:TI)(g:TG)(tc:TT)(te:TE):TE:=λσ H Q=>wi σ H λJ H1=>FU J k g tc te σ Q H1
def Py:TT:=λσ H Q=>Q true H
def NG:FU J k g Py te=JN J k g te:=by
 funext σ Q H1;unfold Py;simp only[JN,FU,if_true]
def OV:Cr k wi g Py te=NH k wi g te:=by
 funext σ H Q;exact congrArg (wi σ H) (funext λJ=>funext λH1=>congrFun (congrFun (congrFun (NG (J:=J)) σ) Q) H1)
def Tst(X:Cx)(scope:Scope)(xs:w0h)(eJ:List Expr)(tc:TT):Prop:=(eJ=[]/\tc=Py)\/∃c,eJ=[c]/\∀C s H fp pn,PT (t9 X scope xs C s H fp pn) c tc
def Lg{prog:Program}{w:World}{A:Around}{R:Result->Shared->Prop}{s:Shared}{dQ dh iter:Expr}{eJ:List Expr}{scope:Scope}{pos:Pos}{it dM:Value}{env:Env}(I:Nat->Shared->Prop){T:(Bool->Shared->Prop)->Shared->Prop}
    (hT:(eJ=[]/\T=λΦ s=>Φ true s)\/∃c,eJ=[c]/\T=λΦ s=>wpAny (model prog w) A (isTrue c env<|eval c env) Φ (λ_ _=>False) s)
    (eB:∀n s,I n s->wpAny (model prog w) A (pyNext it) (λr s₁=>match r with
     | none=>R (.ok .next) s₁
     | some v=>wpAny (model prog w) A (letOwnedTupleGo dh it v) (λ_ fw=>wpAny (model prog w) A (assign dh env v) (T (λok ir=>
         if ok=true then wpAny (model prog w) A (eval dQ env) (λx s₃=>wpAny (model prog w) A (call (.builtin "list.append") [dM,x]) (λ_ s₄=>∃m,m < n/\I m s₄) (λ_ _=>False) s₃) (λ_ _=>False) ir
         else ∃m,m < n/\I m ir) |> λf=>λ_=>f) (λ_ _=>False) fw) (λ_ _=>False) s₁) (λ_ _=>False) s)
    (n:Nat) (h:I n s) :
    codeAny (model prog w) A (.compLoop (.ListComp dQ [⟨dh,iter,eJ,0⟩] scope pos) 0 it dM env) R s:=by
 show codeAny_loop rfl I (λn s hI=>?_) n h;show wpAny _ _ ((compTurn (.ListComp dQ [⟨dh,iter,eJ,0⟩] scope pos) 0 it dM env).onRaise<|λx=>do noteFrame x env;theTreesLotGoes x) _ _ s;show wpAny_noted ?_;rcases hT with ⟨rfl,rfl⟩ | ⟨c,rfl,rfl⟩
 . rw[compTurn_list1];show wpAny_bind<|wpAny_standAt<|wpAny_bind<|wpAny_mono (eB n s hI) (λr s₁ h₁=>?_) λ_ _ h'=>h'.elim;cases r with
   | none=>exact wpAny_pure h₁
   | some v=>
    show wpAny_bind<|wpAny_mono h₁ (λ_ nk jr=>wpAny_bind<|wpAny_mono jr (λ_ s₂ h₂=>?_) λ_ _ h'=>h'.elim) λ_ _ h'=>h'.elim;have h₂:wpAny (model prog w) A (eval dQ env) (λx s₃=>wpAny (model prog w) A (call (.builtin "list.append") [dM,x]) (λ_ s₄=>∃m,m < n/\I m s₄) (λ_ _=>False) s₃) (λ_ _=>False) s₂:=h₂;exact wpAny_bind (wpAny_bind<|wpAny_mono h₂ (λx s₃ h₃=>wpAny_bind<|wpAny_mono h₃ (λ_ s₄ h₄=>wpAny_pure<|wpAny_pure ⟨Y,h₄⟩) λ_ _ h'=>h'.elim) λ_ _ h'=>h'.elim)
 . rw[compTurn_list];show wpAny_bind<|wpAny_standAt<|wpAny_bind<|wpAny_mono (eB n s hI) (λr s₁ h₁=>?_) λ_ _ h'=>h'.elim;cases r with
   | none=>exact wpAny_pure h₁
   | some v=>
    show wpAny_bind<|wpAny_mono h₁ (λ_ nk jr=>wpAny_bind<|wpAny_mono jr (λ_ s₂ h₂=>wpAny_bind<|wpAny_tests_one<|wpAny_mono h₂ (λok s₃ h₃=>?_) λ_ _ h'=>h'.elim) λ_ _ h'=>h'.elim) λ_ _ h'=>h'.elim;cases ok with
    | false=>exact wpAny_pure ⟨Y,h₃⟩
    | true=>
     exact wpAny_bind (wpAny_bind<|wpAny_mono h₃ (λx s₄ h₄=>wpAny_bind<|wpAny_mono h₄ (λ_ s₅ h₅=>wpAny_pure<|wpAny_pure ⟨Y,h₅⟩) λ_ _ h'=>h'.elim) λ_ _ h'=>h'.elim)
def RD{X:Cx}{dQ:Expr}{eJ:List Expr}{scope:Scope}{tc:TT}{xs:w0h}(ht:Tst X scope xs eJ tc){C:Addr}{s0 s6:Shared}{H0 H6:Z}{fp:List Addr}{pn pl:w0d}{σ6:St}{G:Bool->Z->Prop}{Φ:Bool->Shared->Prop}
    (I6:j9 (t9 X scope xs C s0 H0 fp pn) pl σ6 H6 s6) (q6:tc σ6 H6 G) (k:∀ok s H,j9 (t9 X scope xs C s0 H0 fp pn) pl σ6 H s->G ok H->Φ ok s) :
    if eJ=[]then Φ true s6 else wpAny (model X.prog X.w) X.A (isTrue (eJ.headD dQ) (compEnvC scope (Ba X.env scope C) C X.env)<|eval (eJ.headD dQ)<|compEnvC scope (Ba X.env scope C) C X.env) Φ (λ_ _=>False) s6:=by
 rcases ht with ⟨rfl,rfl⟩ | ⟨c,rfl,ht⟩
 . rw[if_pos rfl];exact k _ _ _ I6 q6
 . rw[if_neg<|by simp];exact y6 (ht _ _ _ _ _ _ s6 σ6 H6 _ I6 q6) λok ni ⟨lr,ju,lE⟩=>k ok ni lr ju lE
def GW{X:Cx}{g':Heap}{dQ dh iter:Expr}{eJ:List Expr}{scope:Scope}{pos:Pos}{g:TG}{tc:TT}{te:TE}{xs:w0h}(hc:X.calm=true)(ok:P4 X.N X.env.scope scope)
    (hg:∀C s H fp pn,PG (t9 (X.rb g') scope xs C s H fp pn) dh g) (ht:Tst (X.rb g') scope xs eJ tc) (he:∀C s H fp pn,PE (t9 (X.rb g') scope xs C s H fp pn) dQ te)
    {aS:w0d} {σ:St} {Q:VK} {s2:Shared} {it:Addr} {fp:List Addr} {tn:Nat->Heap->Prop} {J:It} {H2:Z} (I2:j9 X aS σ H2 s2) (T:GC X.prog X.w X.K dh J fp it tn) (eY:tn 0 s2.heap) (f2:∀b∈fp,L7 X aS H2 b) (B:Bc X g' H2 s2.heap fp) (h:FU J xs.length g tc te σ Q H2)
    {PO:Value->Addr->Result->Shared->Prop}
    (fR:∀D C s4 H' ys mm,s4.heap.Ns C mm->j9 X aS σ (upd H' D<|.lst ys) s4->L7 X aS H2 C->upd H' D (.lst ys) C=none->Q (.ref D) (upd H' D<|.lst ys)->PO (.ref D) C (.ok .next) s4) :
    wpAny (model X.prog X.w) X.A (newList []) (λdM s₃=>wpAny (model X.prog X.w) X.A (newFunctionEnv scope X.env.globals (z0 X.env.cells scope.names []) [] X.env.qual none Value.none<|some X.env) (λcenv s₄=>codeAny (model X.prog X.w) X.A (.compStart (.ListComp dQ [⟨dh,iter,eJ,0⟩] scope pos) 0 (.ref it) dM { cenv with scope:=relabel scope X.env }) (PO dM cenv.locals) s₄) X.xe s₃) X.xe s2:=by
 obtain⟨W,⟨m0,w0⟩,eB⟩:=h;show wpAny_newObj_type<|Ed λh₁ dZ dY ee=>?_;dsimp only at dZ dY ee ⊢;generalize hD:s2.heap.objs.size=D;generalize jq:s2.heap.push { cls:=.type "list",dict:=none,data:=.seq ([]:w0i).toArray }=h3 at dZ dY ee ⊢;have fX:∀b o,s2.heap.get? b=some o->h3.get? b=some o:=λb o e=>jq▸ak _ e;have hC:h3.objs.size=D+1:=by rw[<- jq,bb,hD]
 have pE:h3.get? D=some { cls:=.type "list",dict:=none,data:=.seq ([]:w0i).toArray }:=by rw[<- jq,<- hD];exact aB _ rfl
 have I3:j9 X aS σ H2 { s2 with heap:=h3 }:=I2.kept (t':=s2.toks) fX;have fD:L7 X aS H2 D:=I2.fpOk oM<|I2.hok.fresh oM;have iW:∀b∈fp,b < D:=λb hb=>by
  obtain⟨o,e,_⟩:=T.obj 0 _ eY b hb;rw[<- hD];exact ag e
 have f3:∀b∈D::fp,L7 X aS H2 b:=λb hb=>by
  rcases ah.mp hb with rfl | hb
  . exact fD
  . exact f2 b hb
 have ke:∀b∈D::fp,b < ({ s2 with heap:=h3 }:Shared).heap.objs.size:=λb hb=>by
  show b < h3.objs.size;rcases ah.mp hb with rfl | hb
  . rw[hC];exact bJ _
  . rw[hC];exact cY (iW b hb)
 have hG:∀b o,h3.get? b=some o->h₁.get? b=some o:=dY;have B3:Bc X g' H2 ({ s2 with heap:=h3 }:Shared).heap (D::fp):=B.more fX (by show s2.heap.objs.size<=h3.objs.size;omega) oM;have gn:=Ij (C:=h3.objs.size) (xs:=xs) I3 B3 ok f3 ke<|ae _;have I4:=FP (C:=h3.objs.size) (xs:=xs) (t':=s2.toks+([]:List (Str × Value)).length) I3 B3 ok f3 ke (ae _) dZ hG ee;have mD:D∈D::fp:=ax;have fB:∀b∈D::fp,b≠h3.objs.size:=λb hb=>(gn.exf b hb).1;have eM:∀{H':Z} {pl:w0d},(∀b∈fp,H' b=none)->(∀p∈pl,p.1=D)->∀b∈fp,L7 (t9 (X.rb g') scope xs h3.objs.size { s2 with heap:=h3 } H2 (D::fp)<|X.pn++aS) pl H' b:=λhn eT b hb=>by
  have fj:b∈D::fp:=aq _ hb;show⟨hn b hb,fB b fj,gn.exfs b fj,.inl fj,(gn.exf b fj).2,λp hp=>?_⟩;rcases aw.mp hp with hp | hp
  . exact(f2 b hb).2.2.2.2.2 p hp
  . rw[eT p hp];exact bx (iW b hb)
 have gv:codeAny (model X.prog X.w) X.A (.compLoop (.ListComp dQ [⟨dh,iter,eJ,0⟩] scope pos) 0 (.ref it) (.ref D)<|compEnvC scope (Ba X.env scope h3.objs.size) h3.objs.size X.env)
     (PO (.ref D) h3.objs.size) { s2 with heap:=h₁,toks:=s2.toks+([]:List (Str × Value)).length }:=by
  show Lg (T:=λΦ s=>if eJ=[]then Φ true s else wpAny (model X.prog X.w) X.A (isTrue (eJ.headD dQ) (compEnvC scope (Ba X.env scope h3.objs.size) h3.objs.size X.env)<|eval (eJ.headD dQ)<|compEnvC scope (Ba X.env scope h3.objs.size) h3.objs.size X.env) Φ (λ_ _=>False) s) (λn s'=>∃i ys di k H',j9 (t9 (X.rb g') scope xs h3.objs.size { s2 with heap:=h3 } H2 (D::fp)<|X.pn++aS) [] (σ++List.replicate xs.length none) H' s'/\
   s'.heap.get? D=some { cls:=.type "list",data:=.seq (di:w0i).toArray k }/\o8 ys di/\H' D=none/\tn i s'.heap/\(∀b∈fp,H' b=none)/\W i n ys H') ?hT ?_ m0
   ⟨0,[],[],_,H2,I4,hG _ _ pE,.nil,fD.1,T.keep _ _ _ eY<|λb _ o e=>hG b o<|fX b o e,λb hb=>(f2 b hb).1,w0⟩
  case hT=>
   rcases ht with ⟨rfl,_⟩ | ⟨c,rfl,_⟩
   . exact .inl ⟨Y,by funext Φ s;exact if_pos Y⟩
   . exact .inr ⟨c,Y,by funext Φ s;exact if_neg<|by simp⟩
  rintro n s' ⟨i,ys,di,k,H',I',eD,rv,nD,st,fr,w⟩;have Ip:=I'.pins_of (pins':=[(D,{ cls:=.type "list",data:=.seq di.toArray k })]) λp hp=>by
   rw[af]at hp;subst hp;exact⟨eD,nD,fB D mD,gn.exfs D mD,λv z=>by cases z⟩
  have one:∀p∈[(D,({ cls:=.type "list",data:=.seq di.toArray k }:Obj))],p.1=D:=λp hp=>by rw[af]at hp;rw[hp]
  rcases eB i n ys H' w with ⟨stop,hz,q⟩ | ⟨go,hz,step⟩
  . show y6 (T.done (t9 (X.rb g') scope xs h3.objs.size { s2 with heap:=h3 } H2 (D::fp)<|X.pn++aS) Y Y Y hc i _ s' _ H' (λ_ _=>False) Ip (eM fr one) st stop) λr s4 ⟨hr,J4⟩=>?_;subst hr;obtain⟨mm,gG,_⟩:=J4.loc;obtain⟨pD,iQ,_⟩:=J4.pin (D,{ cls:=.type "list",data:=.seq di.toArray k })<|ar _ ax;have u0:Un (C9 X.stack) (D::fp) H2 H' h3 s4.heap:=J4.base;have u:Un (C9 X.stack) (D::fp) H2 H' s2.heap s4.heap:=(Un.kept fX).trans u0;have nv:s4.os=s2.os:=J4.os;have nI:H' h3.objs.size=none:=J4.free;have IX:j9 X aS σ (upd H' D<|.lst ys) s4:=I2.call' (s':=s4) (ch:=D::fp) nv (u.track oM iQ) (J4.hok.track iQ ⟨hz,di,k,rv,pD⟩) J4.bare (λb hb=>by
     have z:=f3 b hb;exact⟨z.2.2.2.1,z.2.1,z.2.2.2.2.1,z.2.2.2.2.2⟩)
    have fC:L7 X aS H2 h3.objs.size:=I2.fpOk oM<|I2.hok.fresh oM;have gZ:upd H' D (.lst ys) h3.objs.size=none:=by rw[k9<|Ne.symm<|fB D mD];exact nI
    exact fR _ _ _ _ _ _ gG IX fC gZ (q D iQ)
  . show y6 (T.item (t9 (X.rb g') scope xs h3.objs.size { s2 with heap:=h3 } H2 (D::fp)<|X.pn++aS) Y Y Y hc i _ s' _ H' (λ_ _=>False) Ip (eM fr one) st go) λr s4 ⟨u,hr,h4⟩=>?_;subst hr;show y6 h4 λ_ s5 ⟨x,H5,I5,r5,y5,fL,iH⟩=>?_;have lq:=I5.pinned (eM iH one)<|T.obj _ _ fL;show y6 (hg _ _ _ _ _ _ s5 _ H5 x u _ lq r5<|step x H5 y5) λ_ s6 ⟨σ6,H6,I6,⟨zs,hz6,hl6⟩,q6⟩=>?_;have fP:∀{s7:Shared} {σ7:St} {H7:Z},j9 (t9 (X.rb g') scope xs h3.objs.size { s2 with heap:=h3 } H2 (D::fp)<|X.pn++aS) ([(D,{ cls:=.type "list",data:=.seq di.toArray k })]++Fe fp s5.heap) σ7 H7 s7->∀b∈fp,∀o,s5.heap.get? b=some o->s7.heap.get? b=some o/\H7 b=none:=λI7 b hb o e=>
     ⟨(I7.pin (b,o)<|ar _<|ar _<|P0 hb e).1,(I7.pin (b,o)<|ar _<|ar _<|P0 hb e).2.1⟩
    have back:∀{H7:Z} {s7:Shared},j9 (t9 (X.rb g') scope xs h3.objs.size { s2 with heap:=h3 } H2 (D::fp)<|X.pn++aS) [] σ6 H7 s7->j9 (t9 (X.rb g') scope xs h3.objs.size { s2 with heap:=h3 } H2 (D::fp)<|X.pn++aS) [] (σ++List.replicate xs.length none) H7 s7:=λI8=>
     I8.weak (by rw[hz6,ao,ao,cB,hl6]) (λj v' e=>by
      have hj:j < σ.length:=by
       by_cases hj:j < σ.length
       . exact hj
       . rw[bq oM,cA]at e;split at e <;>cases e
      rw[aV hj]at e;rw[hz6,aV hj];exact e)
    show RD ht I6 q6 λok ni lr ju lE=>?_;cases ok with
    | false=>
     obtain⟨m',kr,w7⟩:=(show ∃m',m' < n/\W (i+1) m' ys lr from lE);obtain⟨iq,iP,_⟩:=ju.pin (D,{ cls:=.type "list",data:=.seq di.toArray k })<|ar _<|aF _ ax;show⟨m',kr,i+1,ys,di,_,lr,back (ju.pins_of (pins':=[]) λp hp=>by cases hp),iq,rv,iP,T.keep _ _ _ fL<|λb hb o e=>(fP ju b hb o e).1,λb hb=>?_,w7⟩;obtain⟨o,e,_⟩:=T.obj _ _ fL b hb;exact(fP ju b hb o e).2
    | true=>
     show y6 (he _ _ _ _ _ _ ni σ6 lr _ ju lE) λxv s7 ⟨v,H7,I7,r7,m',kr,w7⟩=>?_;obtain⟨iq,iP,_⟩:=I7.pin (D,{ cls:=.type "list",data:=.seq di.toArray k })<|ar _<|aF _ ax;have len:=rv.length;show call_meets F.slot_list_append ⟨_,iq,Y⟩ F.entry_list_append (F.args_list_append_2 _ _) (PySem.list_append D di.toArray k xv<|by rw[aA];omega) ⟨iq,?_⟩;have q:=PySem.IsL.update iq<|λa=>a.push xv;have dW:∀b o,b≠D->s7.heap.get? b=some o->(s7.heap.update D<|Obj.mapSeq λa=>a.push xv).get? b=some o:=λb o hb e=>(cD s7.heap _<|Ne.symm hb).trans e;have pG:=I7.pins_of (pins':=[]) λp hp=>by cases hp
     have I8:=pG.turned (t':=s7.toks) (it:=D) dW iP (fB D mD) (.inl mD) (gn.exf D mD).2 (λp hp=>by
      rw[aY]at hp;exact fD.2.2.2.2.2 p hp)
     have e9:di.toArray.push xv=(di++[xv]).toArray:=by simp
     rw[e9]at q;show⟨m',kr,i+1,ys++[v],di++[xv],_,H7,back I8,q,rv.append<|.cons r7 .nil,iP,T.keep _ _ _ fL<|λb hb o e=>dW b o (au<|iW b hb) (fP I7 b hb o e).1,λb hb=>?_,w7⟩;obtain⟨o,e,_⟩:=T.obj _ _ fL b hb;exact(fP I7 b hb o e).2
 exact codeAny_compStart_list gv (T.self _ 0 _ _ _ (T.keep _ _ _ eY λb _ o e=>hG b o<|fX b o e) gv)
def Jd{X:Cx}{dQ dh iter:Expr}{eJ:List Expr}{scope:Scope}{pos:Pos}{wi:TI}{g:TG}{tc:TT}{te:TE}{xs:w0h}(hc:X.calm=true)(ok:P4 X.N X.env.scope scope)(hi:PI X dh iter wi)
    (hg:∀C s H fp pn,PG (t9 X scope xs C s H fp pn) dh g) (ht:Tst X scope xs eJ tc) (he:∀C s H fp pn,PE (t9 X scope xs C s H fp pn) dQ te)
    (hs:∀x,foldedSetIterable iter X.env x=pure x):PE X (.ListComp dQ [⟨dh,iter,eJ,0⟩] scope pos) (Cr xs.length wi g tc te):=by
 intro aS s σ H Q I h;rw[eval_ListComp];show wpAny_comprehension_free (use:=none) rfl hs (M5<|X3 I ok) ok.kind ok.names<|y6 (hi aS s σ H _ I h) λv s1 h1=>y6 h1 λkd s2 h2=>?_;obtain⟨it,fp,tn,J,H2,rfl,I2,T,eY,f2,h⟩:=h2;show GW hc ok hg ht he I2 T eY f2 (I2.baseAt f2) h (PO:=λdM C=>compPost (model X.prog X.w) X.A X.xe none (EP X aS σ Q) dM C) λD C s4 H' ys mm gG IX fC gZ q=>⟨mm,gG,λh' sb=>?_⟩;exact⟨.ref D,_,IX.turned (t':=s4.toks) (it:=C) (λb o hb e=>sb.extBut b o hb e) gZ fC.2.1 fC.2.2.2.1 fC.2.2.2.2.1 fC.2.2.2.2.2,Y,q⟩
def HB{X:Cx}{dQ dh iter:Expr}{scope:Scope}{pos:Pos}{wi:TI}{g:TG}{te:TE}{xs:w0h}(hc:X.calm=true)(ok:P4 X.N X.env.scope scope)(hi:PI X dh iter wi)
    (hg:∀{C s H fp pn},PG (t9 X scope xs C s H fp pn) dh g) (he:∀{C s H fp pn},PE (t9 X scope xs C s H fp pn) dQ te)
    (hs:∀x,foldedSetIterable iter X.env x=pure x:=by intro _;rfl):PE X (.ListComp dQ [⟨dh,iter,[],0⟩] scope pos) (NH xs.length wi g te):=OV▸Jd hc ok hi (λ_ _ _ _ _=>hg) (.inl ⟨Y,Y⟩) (λ_ _ _ _ _=>he) hs
abbrev Cx.rn(X:Cx)(i:Nat)(y:Str):Cx:={ X with N:=X.N.set i y }
section
variable{X:Cx}{aS:w0d}{σ:St}{H:Z}{s:Shared}{i:Nat}{y:Str}
theorem j9.rn(I:j9 X aS σ H s)(h:σ[i]? = some none):j9 (X.rn i y) aS σ H s:=
 ⟨⟨I.ok.mod,I.ok.kind,I.ok.glob,I.ok.blt,I.ok.above,I.ok.inj,I.ok.has,I.ok.cab,I.ok.hd,I.ok.frames,I.ok.stk,I.ok.exf,I.ok.bs,I.ok.bsz,I.ok.noex,I.ok.exfs,I.ok.funs,I.ok.frf⟩,I.os,I.bare,I.base,
  let⟨m,hn,hl⟩:=I.loc;⟨m,hn,λj x v e1 e2 e3=>by
   by_cases z:i=j
   . subst z;rw[h]at e2;cases e2
   . exact hl j x v (by rw[<- e1];exact(cQ z).symm) e2 e3⟩,I.cell,I.free,I.freeC,I.pin,I.hok,by rw[I.len];exact List.length_set.symm⟩
def j9.unrn(ok:X.Ok)(I:j9 (X.rn i y) aS σ H s)(h:σ[i]? = some none):j9 X aS σ H s:=
 ⟨ok,I.os,I.bare,I.base,let⟨m,hn,hl⟩:=I.loc;⟨m,hn,λj x v e1 e2 e3=>by
     by_cases z:i=j
     . subst z;rw[h]at e2;cases e2
     . exact hl j x v (by rw[<- e1];exact cQ z) e2 e3⟩,I.cell,I.free,I.freeC,I.pin,I.hok,by rw[I.len];exact List.length_set⟩
def Qg(i:Nat)(y:Str)(h:PE (X.rn i y) e t):PE X e (λσ H Q=>σ[i]? = some none/\t σ H Q):=by intro aS s σ H Q I ⟨hi,q⟩;exact y6 (h aS s σ H Q (I.rn hi) q) λv s1 ⟨x,H1,I1,r,q1⟩=>⟨x,H1,I1.unrn I.ok hi,r,q1⟩
end
def DC{X:Cx}{dQ dh iter c:Expr}{scope:Scope}{pos:Pos}{wi:TI}{g:TG}{tc:TT}{te:TE}{xs:w0h}(hc:X.calm=true)(ok:P4 X.N X.env.scope scope)(hi:PI X dh iter wi)
    (hg:∀{C s H fp pn},PG (t9 X scope xs C s H fp pn) dh g) (ht:∀{C s H fp pn},PT (t9 X scope xs C s H fp pn) c tc) (he:∀{C s H fp pn},PE (t9 X scope xs C s H fp pn) dQ te)
    (hs:∀x,foldedSetIterable iter X.env x=pure x:=by intro _;rfl):PE X (.ListComp dQ [⟨dh,iter,[c],0⟩] scope pos) (Cr xs.length wi g tc te):=Jd hc ok hi (λ_ _ _ _ _=>hg) (.inr ⟨c,Y,(λ_ _ _ _ _=>ht)⟩) (λ_ _ _ _ _=>he) hs
def Qb{X:Cx}{i₀:Nat}{x₀:Str}{dX eQ:Pos}{dQ dh iter:Expr}{eJ:List Expr}{scope:Scope}{pos:Pos}{wi:TI}{g:TG}{tc:TT}{te:TE}{xs:w0h}(hN:X.N.Nodup)(gH:X.N[i₀]? = some x₀)(gC:Rv X.env.scope x₀)(hc:X.calm=true)(ok:P4 X.N X.env.scope scope)(hi:PI X dh iter wi)
    (hg:∀C s H fp pn,PG (t9 X scope xs C s H fp pn) dh g) (ht:Tst X scope xs eJ tc) (he:∀C s H fp pn,PE (t9 X scope xs C s H fp pn) dQ te)
    (hs:∀x,foldedSetIterable iter X.env x=pure x) (hw:swapsWith (.ListComp dQ [⟨dh,iter,eJ,0⟩] scope pos) (some<|.Name x₀ dX) eQ.line X.env=pure true)
    (gJ:X.fn x₀=true\/X.env.scope.names.lookup x₀=some .local) :
    PS X (.Assign [.Name x₀ dX] (.ListComp dQ [⟨dh,iter,eJ,0⟩] scope pos) eQ) (Mm (Cr xs.length wi g tc te)<|Bz i₀):=by
 intro aS s σ H D₀ I h;rw[exec_Assign_Name_used _ _ _ _ hw];show wpAny_bind<|wpAny_standAt<|wpAny_bind ?_;show wpAny _ _ (comprehension _ _ _ _ _ _ _ _ >>= _) _ _ _;show wpAny_bind<|wpAny_comprehension_free (Q:=λ_ s'=>wpAny (model X.prog X.w) X.A (pure ()) (λ_ eP=>wpAny (model X.prog X.w) X.A (pure Flow.next) (SP X aS D₀) X.xe eP) X.xe s') (use:=some<|assign (.Name x₀ dX) X.env) Y hs (M5<|X3 I ok) ok.kind ok.names<|y6 (hi aS s σ H _ I h) λv s1 h1=>y6 h1 λkd s2 h2=>?_;obtain⟨it,fp,tn,J,H2,rfl,I2,T,eY,f2,h⟩:=h2;show GW hc ok hg ht he I2 T eY f2 (I2.baseAt f2) h (PO:=λdM C=>compPost (model X.prog X.w) X.A X.xe (some<|assign (.Name x₀ dX) X.env) (λ_ s'=>wpAny (model X.prog X.w) X.A (pure ()) (λ_ eP=>wpAny (model X.prog X.w) X.A (pure Flow.next) (SP X aS D₀) X.xe eP) X.xe s') dM C) λD C s4 H' ys mm gG IX fC gZ q=>?_;show wpAny_assign_Name (GJ IX hN gH gC (v:=.ref D) Y (λs5 I5 ⟨a5,sb5,wD⟩=>⟨mm,?_,λh' sb=>?_⟩) gJ)
 . have:C≠a5:=by
    rcases wD with e | e
    . rw[e];exact fC.2.1
    . exact Ne.symm (fC.2.2.2.2.1 x₀ a5 e)
   obtain⟨o,es,ep,e,r⟩:=gG;exact⟨o,es,ep,sb5.extBut _ _ this e,r⟩
 . exact wpAny_pure (wpAny_pure ⟨_,_,I5.turned (t':=s5.toks) (it:=C) (λb o hb e=>sb.extBut b o hb e) gZ fC.2.1 fC.2.2.2.1 fC.2.2.2.2.1 fC.2.2.2.2.2,q⟩)
def Ja{X:Cx}{i₀:Nat}{x₀:Str}{dX eQ:Pos}{dQ dh iter c:Expr}{scope:Scope}{pos:Pos}{wi:TI}{g:TG}{tc:TT}{te:TE}{xs:w0h}(hN:X.N.Nodup)(gH:X.N[i₀]? = some x₀)(gC:Rv X.env.scope x₀)(hc:X.calm=true)(ok:P4 X.N X.env.scope scope)(hi:PI X dh iter wi)
    (hg:∀{C s H fp pn},PG (t9 X scope xs C s H fp pn) dh g) (ht:∀{C s H fp pn},PT (t9 X scope xs C s H fp pn) c tc) (he:∀{C s H fp pn},PE (t9 X scope xs C s H fp pn) dQ te)
    (hs:∀x,foldedSetIterable iter X.env x=pure x:=by intro _;rfl) (hw:swapsWith (.ListComp dQ [⟨dh,iter,[c],0⟩] scope pos) (some<|.Name x₀ dX) eQ.line X.env=pure true:=by rfl)
    (gJ:X.fn x₀=true\/X.env.scope.names.lookup x₀=some .local:=by first | exact .inl rfl | exact .inr rfl | assumption) :
    PS X (.Assign [.Name x₀ dX] (.ListComp dQ [⟨dh,iter,[c],0⟩] scope pos) eQ) (Mm (Cr xs.length wi g tc te)<|Bz i₀):=Qb hN gH gC hc ok hi (λ_ _ _ _ _=>hg) (.inr ⟨c,Y,(λ_ _ _ _ _=>ht)⟩) (λ_ _ _ _ _=>he) hs hw gJ
def HK{e:Value}{env kS:Env}(h:env.frame=kS.frame):noteFrame e env=noteFrame e kS:=by unfold noteFrame PySem.frameOf;rw[h]
def GA{prog:Program}{w:World}{A:Around}{R:Result->Shared->Prop}{s:Shared}{dQ dh iter:Expr}{scope:Scope}{pos:Pos}{it dM:Value}{env:Env}(I:Nat->Shared->Prop)(EX:w0e)
    (wL:∀e s',EX e s'->notedBy (model prog w) A env (λx eP=>R (.error x) eP) e s')
    (eB:∀n s,I n s->wpAny (model prog w) A (pyNext it) (λr s₁=>match r with
     | none=>R (.ok .next) s₁
     | some v=>wpAny (model prog w) A (letOwnedTupleGo dh it v) (λ_ fw=>wpAny (model prog w) A (assign dh env v) (λ_ s₂=>wpAny (model prog w) A (eval dQ env) (λx s₃=>
         wpAny (model prog w) A (call (.builtin "list.append") [dM,x]) (λ_ s₄=>∃m,m < n/\I m s₄) (λ_ _=>False) s₃) EX s₂) (λ_ _=>False) fw) (λ_ _=>False) s₁) (λ_ _=>False) s)
    (n:Nat) (h:I n s) :
    codeAny (model prog w) A (.compLoop (.ListComp dQ [⟨dh,iter,[],0⟩] scope pos) 0 it dM env) R s:=by
 show codeAny_loop rfl I (λn s hI=>?_) n h;show wpAny _ _ ((compTurn (.ListComp dQ [⟨dh,iter,[],0⟩] scope pos) 0 it dM env).onRaise<|λx=>do noteFrame x env;theTreesLotGoes x) _ _ s;show wpAny_noted ?_;rw[compTurn_list1];show wpAny_bind<|wpAny_standAt<|wpAny_bind<|wpAny_mono (eB n s hI) (λr s₁ h₁=>?_) λ_ _ h'=>h'.elim;cases r with
 | none=>exact wpAny_pure h₁
 | some v=>
  exact wpAny_bind (wpAny_mono h₁ (λ_ nk jr=>wpAny_bind (wpAny_mono jr (λ_ s₂ h₂=>wpAny_bind (wpAny_bind (wpAny_mono h₂ (λx s₃ h₃=>wpAny_bind (wpAny_mono h₃
   (λ_ s₄ h₄=>wpAny_pure<|wpAny_pure ⟨Y,h₄⟩) λ_ _ h'=>h'.elim)) λe s' h'=>wL e s' h'))) λ_ _ h'=>h'.elim)) λ_ _ h'=>h'.elim)
section
variable{M:Model}{A:Around}{E:w0e}{s:Shared}{env:Env}
def X7(M:Model)(A:Around)(E:w0e)(use:Option (Value->Sem Unit))(Q:w0e)(dM:Value)(cenv:Env)(r:Result)(s':Shared):Prop:=
 match r,use with
 | .ok _,none=>∃m,s'.heap.Ns cenv.locals m/\∀h',Heap.SameBut cenv.locals s'.heap h'->Q dM { s' with heap:=h' }
 | .ok _,some u=>wpAny M A (u dM) (λ_ eP=>∃m,eP.heap.Ns cenv.locals m/\∀h',Heap.SameBut cenv.locals eP.heap h'->Q .none { eP with heap:=h' }) E s'
 | .error x,_=>∃m,s'.heap.Ns cenv.locals m/\∀h' m',h'.Ns cenv.locals m'->Heap.SameBut cenv.locals s'.heap h'->wpAny M A (PySem.passOn "comprehension.variables-let-go" x cenv:Sem Value) (λ_ _=>False) E { s' with heap:=h' }
def Ax{e:Expr}{scope:Scope}{pos:Pos}{gr first:Sem Value}{g:Comprehension}{gs:List Comprehension}{cl:List (Str × Addr)}{use:Option (Value->Sem Unit)}{Q:w0e}
    (gb:clausesOf e=g::gs) (hs:∀x,foldedSetIterable g.iter env x=pure x) (kI:closureFor scope env=pure cl)
    (fF:scope.kind=.function) (ji:∀x∈scope.names,x.2=.local->scope.names.lookup x.1=some .local)
    (h:wpAny M A first (λx s₁=>wpAny M A (pyIter x) (λit s₂=>wpAny M A gr (λdM s₃=>
     wpAny M A (newFunctionEnv scope env.globals cl [] env.qual none .none<|some env) (λcenv s₄=>
      codeAny M A (.compStart e 0 it dM { cenv with scope:=relabel scope env }) (X7 M A E use Q dM { cenv with scope:=relabel scope env }) s₄) E s₃) E s₂) E s₁) E s) :
    wpAny M A (comprehension e scope env pos gr false first use) Q E s:=by
 unfold comprehension;rw[kI,gb];show wpAny_bind (wpAny_mono h (λx s₁ h₁=>wpAny_bind (wpAny_standAt (wpAny_bind (wpAny_of_eq (hs x) (wpAny_bind (wpAny_holding (wpAny_mono h₁ (λit s₂ h₂=>
  wpAny_standIf (wpAny_bind<|wpAny_mono h₂ (λdM s₃ h₃=>wpAny_bind<|wpAny_pure<|wpAny_bind<|wpAny_mono h₃ (λcenv s₄ h₄=>?_) λ_ _ h'=>h') λ_ _ h'=>h'))
   λ_ _ h'=>h'))))))) λ_ _ h'=>h')
 dsimp only;have hv:∀x∈(scope.names.filter λx=>(x.2 == .local || x.2 == .cell) && x.1 != (".0":Str)).reverse,x.2=.local->
     Env.kindOf { cenv with scope:=relabel scope env } x.1=some .local:=λx hx hl=>lookup_relabel_local (ji x (bT.mp<|List.mem_reverse.mp hx).1 hl)
 have nU:∀x∈(scope.names.filter λx=>(x.2 == .local || x.2 == .cell) && x.1 != (".0":Str)).reverse.drop 1++(scope.names.filter λx=>(x.2 == .local || x.2 == .cell) && x.1 != (".0":Str)).reverse.take 1,
     x.2=.local->Env.kindOf { cenv with scope:=relabel scope env } x.1=some .local:=λx hx hl=>by
  rcases aw.mp hx with h1 | h1
  . exact hv x (List.mem_of_mem_drop h1) hl
  . exact hv x (cZ h1) hl
 show wpAny_holding<|wpAny_bind<|wpAny_attempt<|wpAny_holding<|wpAny_run<|codeAny_mono h₄ λr s' hr=>?_;cases r with
 | ok f=>
  cases use with
  | none=>
   obtain⟨m,hn,hr⟩:=hr;exact wpAny_bind (wpAny_holding<|wpAny_comp_letGo (cenv:={ cenv with scope:=relabel scope env }) fF _ s' m hv hn λh' m' _ gj=>wpAny_pure<|hr h' gj)
  | some u=>
   show wpAny_bind<|wpAny_rule<|wpAny_bind<|wpAny_holding<|wpAny_mono hr (λ_ eP gF=>?_) λ_ _ h'=>h';obtain⟨m,hn,gF⟩:=gF;exact wpAny_bind (wpAny_comp_letGo (cenv:={ cenv with scope:=relabel scope env }) fF _ eP m nU hn λh' m' _ gj=>wpAny_pure<|gF h' gj)
 | error x=>
  have hr:∃m,s'.heap.Ns cenv.locals m/\∀h' m',h'.Ns cenv.locals m'->Heap.SameBut cenv.locals s'.heap h'->wpAny M A (PySem.passOn "comprehension.variables-let-go" x { cenv with scope:=relabel scope env }:Sem Value) (λ_ _=>False) E { s' with heap:=h' }:=by cases use <;>exact hr
  obtain⟨m,hn,hr⟩:=hr;exact wpAny_bind (wpAny_holding<|wpAny_comp_letGo (cenv:={ cenv with scope:=relabel scope env }) fF _ s' m hv hn λh' m' hm gj=>wpAny_mono (hr h' m' hm gj) (λ_ _ f=>f.elim) λ_ _ y=>y)
def AB{base:Heap}{l:List Env}{e L:Addr}{cls a0:Value}{Q:Unit->Shared->Prop}(hh:Heap.HeldW base l e cls a0 L s.heap)
    (h:∀h',Heap.HeldW base l e cls a0 L h'->s.heap.UpToSlots h'->Q () { s with heap:=h' }):wpAny M A (setFlight (.ref e)<|some L) Q E s:=by
 obtain⟨vW,we,hl,oe,vs,T,oT,ts,he,ip,hd,h1,oh,oP,hT,kH,h3⟩:=hh;have kg:3 < ts.size:=(Array.getElem?_eq_some_iff.mp h3).1;have dW:∀b,b≠T->(s.heap.update T (Obj.mapFields (·.setIfInBounds 3 ((some L:Option Addr).elim Value.none λf=>rawInt f)))).get? b=s.heap.get? b:=
  λb hb=>cD _ _ (Ne.symm hb)
 have fz:∀b o,s.heap.get? b=some o->(∀vs,o.data≠.fields vs)->b≠T:=λb o hb kn q=>by
  rw[q,hT]at hb;injection hb with hb;subst hb;exact kn ts kH
 unfold setFlight;show wpAny_bind<|wpAny_field he hd h1 ?_;rw[if_pos<|show(Value.ref T != Value.none)=true from by simp];show wpAny_setField hT kH kg (h _ ⟨(λb o oK=>(dW b λq=>by rw[q,oh]at oK;cases oK).trans<|vW b o oK),we,
  (hl.of_keeps λb o hb kn=>⟨o,(dW b<|fz b o hb kn).trans hb,Y⟩),?_⟩ λb o hb kn=>⟨o.slots,(dW b<|fz b o hb kn).trans hb⟩)
 exact⟨oe,vs,T,za ⟨(dW e<|Ne.symm oP).trans he,ip,hd,h1,oh,oP,Heap.get?_update_self _ hT<|Obj.isFreed_of_fields<|Obj.data_mapFields kH _,Obj.data_mapFields kH _,by simp[kg]⟩⟩
def Jg{α:Type}{mU:String}{cenv:Env}{base:Heap}{l:List Env}{e L:Addr}{cls a0:Value}{Q:α->Shared->Prop}(hf:cenv.frame=some L)(hh:Heap.HeldW base l e cls a0 L s.heap)
    (h:∀h',Heap.HeldW base l e cls a0 L h'->s.heap.UpToSlots h'->E (.ref e) { s with heap:=h' }):wpAny M A (PySem.passOn mU (.ref e) cenv:Sem α) Q E s:=by
 obtain⟨_,_,_,oe,vs,T,oT,ts,he,ip,hd,h1,oh,oP,hT,kH,h3⟩:=id hh;unfold PySem.passOn;show wpAny_bind<|wpAny_field he hd h1 ?_;rw[if_neg<|show ¬((Value.ref T == Value.none)=true)from by simp];rw[hf]
 first
 | exact wpAny_bind (AB hh λh' k u=>wpAny_throw<|h h' k u)
 | exact wpAny_bind (wpAny_pure<|wpAny_bind<|AB hh λh' k u=>wpAny_throw<|h h' k u)
end
theorem FL{h h' base:Heap}:∀{l:List Env},h.FunFrames base l->(∀b∈C9 l,∀o,h.get? b=some o->∃o',h'.get? b=some o'/\o'.data=o.data)->h'.FunFrames base l
 | [],_,_=>trivial
 | env::r,⟨k,⟨L,o,hf,hb,ho,hd⟩,t⟩,hm=>by
  obtain⟨o',e1,e2⟩:=hm L (by unfold C9;rw[bw,hf];exact ax) o ho;exact⟨k,⟨L,o',hf,hb,e1,λvs z=>hd vs<|e2▸z⟩,FL t λb fj=>hm b<|by unfold C9;rw[bw,hf];exact aq _ fj⟩
def Ec{h:Heap}{a:Addr}{m:w0f}(n:h.Ns a m){o:Obj}(e:h.get? a=some o):∀vs,o.data≠.fields vs:=λvs z=>by
 obtain⟨o',es,ep,e',d',_⟩:=n;rw[e]at e';cases e';rw[d']at z;cases z
def OW{X:Cx}{aS:w0d}{σ:St}{E:XK}{H2 Hs H':Z}{s2 s s5:Shared}{a T C Cc:Addr}{ex:List Addr}{cenv:Env}{use:Option (Value->Sem Unit)}{Q:w0e}{dM:Value}(R:Iu X E)(I2:j9 X aS σ H2 s2)
    (u:Un (C9 X.stack) ex H2 Hs s2.heap s.heap) (os:s.os=s2.os)
    (jD:∀b∈ex,(b∈X.ex\/X.s₀.heap.objs.size<=b)/\b≠X.env.locals/\(∀x c,X.env.cells.lookup x=some c->c≠b)/\∀p∈X.pn++aS,p.1≠b)
    {mC:w0f} (ns:s.heap.Ns Cc mC) (nC:s2.heap.get? Cc=none) (hC:Hs Cc=none) (fC:cenv.frame=X.env.frame) (lC:cenv.locals=Cc) (ff:s.heap.FunFrames X.base X.stack) (jM:∀b∈C9 X.stack,Hs b=none)
    (F:Iy X.prog X.w (C9 X.stack) Hs H' s s5 a T C) (q:E (.ref C) none H') :
    notedBy (model X.prog X.w) X.A cenv (λx eP=>X7 (model X.prog X.w) X.A X.xe use Q dM cenv (.error x) eP) (.ref a) s5:=by
 subst lC;have cf:cenv.locals ∉ C9 X.stack:=λhb=>by
  obtain⟨_,o,e,_⟩:=I2.stack.mem hb;rw[nC]at e;cases e
 have pd:s5.heap.FunFrames X.base X.stack:=FL ff λb hb o e=>by
  obtain⟨sl,e'⟩:=F.un.slot b o e (jM b hb) hb (by simp);exact⟨_,e',Y⟩
 have uD:s5.heap.Ns cenv.locals mC:=by obtain⟨o,es,ep,e,d,r⟩:=ns;exact⟨o,es,ep,F.un.keep _ o e hC cf (by simp),d,r⟩
 have wM:H' cenv.locals=none:=by obtain⟨o,es,ep,e,d,r⟩:=ns;exact F.un.free _ o e hC (by simp)
 have jL:∀b∈C9 X.stack,H' b=none:=λb hb=>by
  obtain⟨_,o,e,_⟩:=ff.mem hb;exact F.un.free b o e (jM b hb) (by simp)
 have aC:cenv.locals≠a:=λz=>by
  obtain⟨o,es,ep,e,d,r⟩:=ns;rw[z,F.na]at e;cases e
 obtain⟨oe,vs,a0,oT,ts,e1,e2,e3,e4,e5,e6,e7,e8⟩:=F.xt;have fl:Heap.FlyingW (PySem.W.hideAll s5.heap (a::T::cenv.locals::C9 X.stack)) X.stack a (.ref C) a0 s5.heap:=
  ⟨λb o e=>cP _ e,bj _ (by simp),Q3 pd λb hb=>bj _ (by simp[hb]),
   oe,vs,T,oT,ts,e1,e2,e3,e4,bj _ (by simp),e5,e6,e7,e8⟩
 have bC:(PySem.W.hideAll s5.heap (a::T::cenv.locals::C9 X.stack)).get? cenv.locals=none:=bj _ (by simp);have bG:∀b o,s5.heap.get? b=some o->b≠a->b≠T->b≠cenv.locals->b ∉ C9 X.stack->(PySem.W.hideAll s5.heap (a::T::cenv.locals::C9 X.stack)).get? b=some o:=λb o e n1 n2 n3 n4=>bW _ e (by simp[n1,n2,n3,n4]);revert fl bC bG;generalize PySem.W.hideAll s5.heap (a::T::cenv.locals::C9 X.stack)=B;intro fl bC bG;unfold notedBy;rw[HK fC];rw[R.stk]at fl;show wpAny_looks_onW (I2.ok.frames.trans<|by rw[R.stk]) R.fr fl λh6 hh pO=>?_;rw[<- R.stk]at hh;have pY:=pO.ns uD;show⟨mC,pY,λh7 m7 uC sb=>?_⟩;have jP:∀b o,b≠cenv.locals->h6.get? b=some o->h7.get? b=some o:=λb o hn e=>sb.extBut b o hn e;have vY:Heap.HeldW B X.stack a (.ref C) a0 X.env.locals h7:=by obtain⟨k1,k2,k3,nA,lx,T',nB,mV,g1,g2,g3,g4,g0,g5,g6,g7,g8⟩:=hh;show⟨λb o e=>jP b o (λz=>by rw[z,bC]at e;cases e)<|k1 b o e,k2,FL k3 λb hb o e=>⟨o,jP b o (λz=>cf<|z▸hb) e,Y⟩,nA,lx,T',nB,mV,jP _ _ (Ne.symm aC) g1,g2,g3,g4,g0,g5,jP _ _ (λz=>?_) g6,g7,g8⟩;rw[z]at g6;exact Ec pY g6 _ g7
 show Jg (s:={ s5 with heap:=h7 }) (fC.trans R.fr) vY λh8 qv pN=>?_;rw[R.xe];unfold leaving;show wpAny_bind<|wpAny_noteFrame_againW (s:={ s5 with heap:=h8 }) R.fr qv.2.2.2 ?_;show wpAny_landsW (s:={ s5 with heap:=h8 }) qv λh9 wV pM=>?_;obtain⟨k1,_,_,nA,lx,T',nB,mV,g1,g2,g3,g4,g0,g5,g6,g7,g8⟩:=wV;have uB:=pM.ns<|pN.ns uC;have keep:∀b o,s5.heap.get? b=some o->b≠a->b≠T->b≠cenv.locals->b ∉ C9 X.stack->h9.get? b=some o:=λb o e n1 n2 n3 n4=>k1 b o<|bG b o e n1 n2 n3 n4;have slot:∀b o,s5.heap.get? b=some o->b∈C9 X.stack->(∃sl,h9.get? b=some { o with slots:=sl })/\∀vs,o.data≠.fields vs:=λb o e hb=>by
  obtain⟨_,o1,q1,q2⟩:=pd.mem hb;rw[e]at q1;cases q1;obtain⟨xx,x6⟩:=pO b o e q2;have x7:=jP b _ (λz=>cf<|z▸hb) x6;obtain⟨xw,x8⟩:=pN b _ x7 q2;obtain⟨tU,x9⟩:=pM b _ x8 q2;exact⟨⟨tU,x9⟩,q2⟩
 have TC:T'≠cenv.locals:=λz=>by
  rw[z]at g6;exact Ec uB g6 _ g7
 have nf:T' ∉ C9 X.stack:=λhb=>by
  obtain⟨_,o1,q1,q2⟩:=pd.mem hb;obtain⟨⟨sl,q3⟩,_⟩:=slot _ o1 q1 hb;rw[g6]at q3;cases q3;exact q2 _ g7
 have tt:T'=T\/s5.heap.get? T'=none:=by
  by_cases z:T'=T
  . exact .inl z
  . right;cases q:s5.heap.get? T' with
    | none=>rfl
    | some o=>
     have:=bG T' o q g5 z TC nf;rw[g0]at this;cases this
 have kK:H' T'=none:=by
  rcases tt with z | z
  . rw[z];exact F.hT
  . exact F.hok.nothing z
 have ne:∀b o,s.heap.get? b=some o->b≠a/\b≠T:=λb o e=>⟨(λz=>by rw[z,F.na]at e;cases e),(λz=>by rw[z,F.nT]at e;cases e)⟩;have fB:∀b o,s2.heap.get? b=some o->b≠cenv.locals:=λb o e z=>by rw[z,nC]at e;cases e
 have u5:Un (C9 X.stack) ex H2 H' s2.heap s5.heap:=u.trans (F.un.mono (λ_ h=>h)<|by simp);have u9:Un (C9 X.stack) ex H2 H' s2.heap h9:=by
  show⟨λb o e n hb hx=>?_,λb o e n hb hx=>?_,u5.free,λb o e hx=>?_,u5.tups,u5.frzs,u5.tbls⟩
  . have e':=u.keep b o e n hb hx;exact keep b o (u5.keep b o e n hb hx) (ne b o e').1 (ne b o e').2 (fB b o e) hb
  . obtain⟨sl,q⟩:=u5.slot b o e n hb hx;obtain⟨⟨iM,q'⟩,_⟩:=slot b _ q hb;exact⟨iM,q'⟩
  . obtain⟨os,qs⟩:=u.there b o e hx;obtain⟨o',q⟩:=u5.there b o e hx;by_cases hb:b∈C9 X.stack
    . obtain⟨⟨sl,q'⟩,_⟩:=slot b o' q hb;exact⟨_,q'⟩
    . exact⟨o',keep b o' q (ne b os qs).1 (ne b os qs).2 (fB b o e) hb⟩
 have km:R6 X.prog X.w H' h9:=F.hok.loose λb v hb e=>keep b v e (λz=>hb<|z▸F.ha) (λz=>hb<|z▸F.hT) (λz=>hb<|z▸wM) λz=>hb<|jL b z;have Ie:j9 X aS σ H' { s5 with heap:=h9 }:=I2.call' (s':={ s5 with heap:=h9 }) (ch:=ex) (F.os.trans os) u9 km F.bare jD;have eW:∀b,s.heap.get? b=none->X.s₀.heap.get? b=none:=λb n=>by
  cases q:X.s₀.heap.get? b with
  | none=>rfl
  | some o=>
   obtain⟨o',q'⟩:=I2.base.there b o q (by rw[R.ex];simp);have hx:b ∉ ex:=λhb=>by
    rcases(jD b hb).1 with z | z
    . rw[R.ex]at z;cases z
    . exact absurd (ay (ag q) z) (aL _)
   obtain⟨uz,jR⟩:=u.there b o' q' hx;rw[n]at jR;cases jR
 have uL:X.s₀.heap.get? T'=none:=by
  rcases tt with z | z
  . rw[z];exact eW T F.nT
  . cases q:X.s₀.heap.get? T' with
    | none=>rfl
    | some o=>
     cases qs:s.heap.get? T' with
     | none=>rw[eW T' qs]at q;cases q
     | some o'=>
      obtain⟨uz,jR⟩:=F.un.there T' o' qs (by simp);rw[z]at jR;cases jR
 have ub:Un (C9 X.outer) [] X.H₀ H' X.s₀.heap h9:=by have:=Ie.base;rw[R.ex]at this;exact this
 exact⟨a,T',C,H',Y,⟨Ie.os,F.bare,ub,km,⟨nA,lx,a0,nB,mV,g1,g2,g3,g4,g5,g6,g7,g8⟩,eW a F.na,uL,F.ha,kK⟩,q⟩
def thnX{α:Type}{M:Model}{A:Around}{m:Sem α}{Q Q':α->Shared->Prop}{E E':w0e}{s:Shared}(h:wpAny M A m Q E s)(hE:∀e s',E e s'->E' e s')(k:∀v s',Q v s'->Q' v s'):wpAny M A m Q' E' s:=wpAny_mono h k hE
def Lf{X:Cx}{E:XK}{tx:TX}{dQ dh iter:Expr}{scope:Scope}{pos:Pos}{g:TG}{xs:w0h}(R:Iu X E)(hc:X.calm=true)(ok:P4 X.N X.env.scope scope)
    (hg:∀C s H fp pn,PG (t9 X scope xs C s H fp pn) dh g) (he:∀C s H fp pn,Pf (t9 X scope xs C s H fp pn) dQ tx)
    {aS:w0d} {σ:St} {Q:VK} {s2:Shared} {it:Addr} {fp:List Addr} {tn:Nat->Heap->Prop} {J:It} {H2:Z} (I2:j9 X aS σ H2 s2) (T:GC X.prog X.w X.K dh J fp it tn) (eY:tn 0 s2.heap) (f2:∀b∈fp,L7 X aS H2 b)
    (h:JN J xs.length g (λσ H Q=>tx σ H Q E) σ Q H2) {use:Option (Value->Sem Unit)} {Qv:w0e}
    (fR:∀D (ce:Env) s4 H' ys mm,s4.heap.Ns ce.locals mm->j9 X aS σ (upd H' D<|.lst ys) s4->L7 X aS H2 ce.locals->upd H' D (.lst ys) ce.locals=none->Q (.ref D) (upd H' D<|.lst ys)->X7 (model X.prog X.w) X.A X.xe use Qv (.ref D) ce (.ok .next) s4) :
    wpAny (model X.prog X.w) X.A (newList []) (λdM s₃=>wpAny (model X.prog X.w) X.A (newFunctionEnv scope X.env.globals (z0 X.env.cells scope.names []) [] X.env.qual none Value.none<|some X.env) (λcenv s₄=>codeAny (model X.prog X.w) X.A (.compStart (.ListComp dQ [⟨dh,iter,[],0⟩] scope pos) 0 (.ref it) dM { cenv with scope:=relabel scope X.env }) (X7 (model X.prog X.w) X.A X.xe use Qv dM { cenv with scope:=relabel scope X.env }) s₄) X.xe s₃) X.xe s2:=by
 obtain⟨W,⟨m0,w0⟩,eB⟩:=h;show wpAny_newObj_type<|Ed λh₁ dZ dY ee=>?_;dsimp only at dZ dY ee ⊢;generalize hD:s2.heap.objs.size=D;generalize jq:s2.heap.push { cls:=.type "list",dict:=none,data:=.seq ([]:w0i).toArray }=h3 at dZ dY ee ⊢;have fX:∀b o,s2.heap.get? b=some o->h3.get? b=some o:=λb o e=>jq▸ak _ e;have hC:h3.objs.size=D+1:=by rw[<- jq,bb,hD]
 have pE:h3.get? D=some { cls:=.type "list",dict:=none,data:=.seq ([]:w0i).toArray }:=by rw[<- jq,<- hD];exact aB _ rfl
 have I3:j9 X aS σ H2 { s2 with heap:=h3 }:=I2.kept (t':=s2.toks) fX;have fD:L7 X aS H2 D:=I2.fpOk oM<|I2.hok.fresh oM;have iW:∀b∈fp,b < D:=λb hb=>by
  obtain⟨o,e,_⟩:=T.obj 0 _ eY b hb;rw[<- hD];exact ag e
 have f3:∀b∈D::fp,L7 X aS H2 b:=λb hb=>by
  rcases ah.mp hb with rfl | hb
  . exact fD
  . exact f2 b hb
 have ke:∀b∈D::fp,b < ({ s2 with heap:=h3 }:Shared).heap.objs.size:=λb hb=>by
  show b < h3.objs.size;rcases ah.mp hb with rfl | hb
  . rw[hC];exact bJ _
  . rw[hC];exact cY (iW b hb)
 have hG:∀b o,h3.get? b=some o->h₁.get? b=some o:=dY;have B3:=I3.baseAt f3;have gn:=Ij (C:=h3.objs.size) (xs:=xs) I3 B3 ok f3 ke<|ae _;have I4:=FP (C:=h3.objs.size) (xs:=xs) (t':=s2.toks+([]:List (Str × Value)).length) I3 B3 ok f3 ke (ae _) dZ hG ee;have mD:D∈D::fp:=ax;have fB:∀b∈D::fp,b≠h3.objs.size:=λb hb=>(gn.exf b hb).1;have eM:∀{H':Z} {pl:w0d},(∀b∈fp,H' b=none)->(∀p∈pl,p.1=D)->∀b∈fp,L7 (t9 X scope xs h3.objs.size { s2 with heap:=h3 } H2 (D::fp)<|X.pn++aS) pl H' b:=λhn eT b hb=>by
  have fj:b∈D::fp:=aq _ hb;show⟨hn b hb,fB b fj,gn.exfs b fj,.inl fj,(gn.exf b fj).2,λp hp=>?_⟩;rcases aw.mp hp with hp | hp
  . exact(f2 b hb).2.2.2.2.2 p hp
  . rw[eT p hp];exact bx (iW b hb)
 have gv:codeAny (model X.prog X.w) X.A (.compLoop (.ListComp dQ [⟨dh,iter,[],0⟩] scope pos) 0 (.ref it) (.ref D)<|compEnvC scope (Ba X.env scope h3.objs.size) h3.objs.size X.env)
     (X7 (model X.prog X.w) X.A X.xe use Qv (.ref D)<|compEnvC scope (Ba X.env scope h3.objs.size) h3.objs.size X.env) { s2 with heap:=h₁,toks:=s2.toks+([]:List (Str × Value)).length }:=by
  show GA (λn s'=>∃i ys di k H',j9 (t9 X scope xs h3.objs.size { s2 with heap:=h3 } H2 (D::fp)<|X.pn++aS) [] (σ++List.replicate xs.length none) H' s'/\
   s'.heap.get? D=some { cls:=.type "list",data:=.seq (di:w0i).toArray k }/\o8 ys di/\H' D=none/\tn i s'.heap/\(∀b∈fp,H' b=none)/\W i n ys H') (λe s'=>∃pl σ',XP (t9 X scope xs h3.objs.size { s2 with heap:=h3 } H2 (D::fp)<|X.pn++aS) pl σ' E e s') ?_ ?_ m0
   ⟨0,[],[],_,H2,I4,hG _ _ pE,.nil,fD.1,T.keep _ _ _ eY<|λb _ o e=>hG b o<|fX b o e,λb hb=>(f2 b hb).1,w0⟩
  . rintro e s' ⟨pl,σ',sE,HE,IE,aE,xZ,CE,ya,rfl,FE,qE⟩;obtain⟨mm,gG,_⟩:=IE.loc;have u0:Un (C9 X.stack) (D::fp) H2 HE h3 sE.heap:=IE.base;show OW R I2 ((Un.kept fX).trans u0) IE.os (λb hb=>?_) gG ?_ IE.free rfl rfl IE.stack IE.stkFree FE qE
    . have z:=f3 b hb;exact⟨z.2.2.2.1,z.2.1,z.2.2.2.2.1,z.2.2.2.2.2⟩
    . show s2.heap.get? h3.objs.size=none;cases q:s2.heap.get? h3.objs.size with
      | none=>rfl
      | some o=>
       have z:h3.objs.size < s2.heap.objs.size:=ag q;rw[hC,hD]at z;exact absurd z (Nat.not_lt.mpr<|bz D)
  rintro n s' ⟨i,ys,di,k,H',I',eD,rv,nD,st,fr,w⟩;have Ip:=I'.pins_of (pins':=[(D,{ cls:=.type "list",data:=.seq di.toArray k })]) λp hp=>by
   rw[af]at hp;subst hp;exact⟨eD,nD,fB D mD,gn.exfs D mD,λv z=>by cases z⟩
  have one:∀p∈[(D,({ cls:=.type "list",data:=.seq di.toArray k }:Obj))],p.1=D:=λp hp=>by rw[af]at hp;rw[hp]
  rcases eB i n ys H' w with ⟨stop,hz,q⟩ | ⟨go,hz,step⟩
  . show y6 (T.done (t9 X scope xs h3.objs.size { s2 with heap:=h3 } H2 (D::fp)<|X.pn++aS) Y Y Y hc i _ s' _ H' (λ_ _=>False) Ip (eM fr one) st stop) λr s4 ⟨hr,J4⟩=>?_;subst hr;obtain⟨mm,gG,_⟩:=J4.loc;obtain⟨pD,iQ,_⟩:=J4.pin (D,{ cls:=.type "list",data:=.seq di.toArray k })<|ar _ ax;have u0:Un (C9 X.stack) (D::fp) H2 H' h3 s4.heap:=J4.base;have u:Un (C9 X.stack) (D::fp) H2 H' s2.heap s4.heap:=(Un.kept fX).trans u0;have nv:s4.os=s2.os:=J4.os;have nI:H' h3.objs.size=none:=J4.free;have IX:j9 X aS σ (upd H' D<|.lst ys) s4:=I2.call' (s':=s4) (ch:=D::fp) nv (u.track oM iQ) (J4.hok.track iQ ⟨hz,di,k,rv,pD⟩) J4.bare (λb hb=>by
     have z:=f3 b hb;exact⟨z.2.2.2.1,z.2.1,z.2.2.2.2.1,z.2.2.2.2.2⟩)
    have fC:L7 X aS H2 h3.objs.size:=I2.fpOk oM<|I2.hok.fresh oM;have gZ:upd H' D (.lst ys) h3.objs.size=none:=by rw[k9<|Ne.symm<|fB D mD];exact nI
    exact fR _ _ _ _ _ _ gG IX fC gZ (q D iQ)
  . show y6 (T.item (t9 X scope xs h3.objs.size { s2 with heap:=h3 } H2 (D::fp)<|X.pn++aS) Y Y Y hc i _ s' _ H' (λ_ _=>False) Ip (eM fr one) st go) λr s4 ⟨u,hr,h4⟩=>?_;subst hr;show y6 h4 λ_ s5 ⟨x,H5,I5,r5,y5,fL,iH⟩=>?_;have lq:=I5.pinned (eM iH one)<|T.obj _ _ fL;show y6 (hg _ _ _ _ _ _ s5 _ H5 x u _ lq r5<|step x H5 y5) λ_ s6 ⟨σ6,H6,I6,⟨zs,hz6,hl6⟩,q6⟩=>?_;show thnX (he _ _ _ _ _ _ s6 σ6 H6 _ _ I6 q6) (λ_ _ z=>za z) λxv s7 ⟨v,H7,I7,r7,m',kr,w7⟩=>?_;obtain⟨iq,iP,_⟩:=I7.pin (D,{ cls:=.type "list",data:=.seq di.toArray k })<|ar _<|aF _ ax;have len:=rv.length;show call_meets F.slot_list_append ⟨_,iq,Y⟩ F.entry_list_append (F.args_list_append_2 _ _) (PySem.list_append D di.toArray k xv<|by rw[aA];omega) ⟨iq,?_⟩;have q:=PySem.IsL.update iq<|λa=>a.push xv;have dW:∀b o,b≠D->s7.heap.get? b=some o->(s7.heap.update D<|Obj.mapSeq λa=>a.push xv).get? b=some o:=λb o hb e=>(cD s7.heap _<|Ne.symm hb).trans e;have fP:∀b∈fp,∀o,s5.heap.get? b=some o->s7.heap.get? b=some o/\H7 b=none:=λb hb o e=>
     ⟨(I7.pin (b,o)<|ar _<|ar _<|P0 hb e).1,(I7.pin (b,o)<|ar _<|ar _<|P0 hb e).2.1⟩
    have pG:=I7.pins_of (pins':=[]) λp hp=>by cases hp
    have I8:=pG.turned (t':=s7.toks) (it:=D) dW iP (fB D mD) (.inl mD) (gn.exf D mD).2 (λp hp=>by
     rw[aY]at hp;exact fD.2.2.2.2.2 p hp)
    have I9:=I8.weak (σ':=σ++List.replicate xs.length none) (by rw[hz6,ao,ao,cB,hl6]) (λj v' e=>by
     have hj:j < σ.length:=by
      by_cases hj:j < σ.length
      . exact hj
      . rw[bq oM,cA]at e;split at e <;>cases e
     rw[aV hj]at e;rw[hz6,aV hj];exact e)
    have e9:di.toArray.push xv=(di++[xv]).toArray:=by simp
    rw[e9]at q;show⟨m',kr,i+1,ys++[v],di++[xv],_,H7,I9,q,rv.append<|.cons r7 .nil,iP,T.keep _ _ _ fL<|λb hb o e=>dW b o (au<|iW b hb) (fP b hb o e).1,λb hb=>?_,w7⟩;obtain⟨o,e,_⟩:=T.obj _ _ fL b hb;exact(fP b hb o e).2
 exact codeAny_compStart_list gv (T.self _ 0 _ _ _ (T.keep _ _ _ eY λb _ o e=>hG b o<|fX b o e) gv)
def Os{X:Cx}{E:XK}{tx:TX}{dQ dh iter:Expr}{scope:Scope}{pos:Pos}{wi:TI}{g:TG}{xs:w0h}(R:Iu X E)(hc:X.calm=true)(ok:P4 X.N X.env.scope scope)(hi:PI X dh iter wi)
    (hg:∀C s H fp pn,PG (t9 X scope xs C s H fp pn) dh g) (he:∀C s H fp pn,Pf (t9 X scope xs C s H fp pn) dQ tx)
    (hs:∀x,foldedSetIterable iter X.env x=pure x:=by intro _;rfl):PE X (.ListComp dQ [⟨dh,iter,[],0⟩] scope pos) (NH xs.length wi g λσ H Q=>tx σ H Q E):=by
 intro aS s σ H Q I h;rw[eval_ListComp];show Ax (use:=none) rfl hs (M5<|X3 I ok) ok.kind ok.names<|y6 (hi aS s σ H _ I h) λv s1 h1=>y6 h1 λkd s2 h2=>?_;obtain⟨it,fp,tn,J,H2,rfl,I2,T,eY,f2,h⟩:=h2;show Lf R hc ok hg he I2 T eY f2 h λD ce s4 H' ys mm gG IX fC gZ q=>⟨mm,gG,λh' sb=>?_⟩;exact⟨.ref D,_,IX.turned (t':=s4.toks) (it:=ce.locals) (λb o hb e=>sb.extBut b o hb e) gZ fC.2.1 fC.2.2.2.1 fC.2.2.2.2.1 fC.2.2.2.2.2,Y,q⟩
section
variable{prog:Program}{w:World}{A:Around}{E:w0e}{s:Shared}
def KF{I t:Addr}{i:Nat}{vs:Array Value}{x:Value}{Q:w0e}(hI:s.heap.IsTupleIter I t i)(ht:s.heap.IsTuple t vs)(e:vs[i]? = some x)
    (q:∀h',h'.IsTupleIter I t (i+1)->Heap.SameBut I s.heap h'->Q x { s with heap:=h' }):wpAny (model prog w) A (Builtin.SmallTypes.nextOf<|.ref I) Q E s:=by
 obtain⟨o,eo,co,fo⟩:=id hI;obtain⟨u,eu,_,n,fu⟩:=ht;unfold Builtin.SmallTypes.nextOf;show wpAny_bind<|wpAny_callSpecial?_slot (name:=Str.ofString "__next__") hI.typeIs F.slot_tuple_iterator_next<|wpAny_call_entry F.slot_tuple_iterator_next hI.typeIs F.entry_tuple_iterator_next ?_<|F.args_tuple_iterator_next_1 _;show wpAny _ _ (field (.ref I) 0 >>= _) _ _ s;show wpAny_bind<|wpAny_field eo fo (x:=.ref t) Y ?_;show wpAny _ _ (if(Value.ref t == Value.none)=true then _ else _) _ _ s;rw[if_neg<|show ¬((Value.ref t == Value.none)=true)from aG];show wpAny _ _ (field (.ref I) 1 >>= _) _ _ s;show wpAny_bind<|wpAny_field eo fo (x:=.int i 0) Y ?_;show wpAny _ _ (seqItems? (.ref t) >>= _) _ _ s;show wpAny_bind<|wpAny_seqItems eu fu ?_;simp only[Int.toNat_natCast,e];show wpAny_bind (wpAny_setField eo fo (by simp)<|wpAny_pure ⟨x,Y,wpAny_pure<|q _ ?_<|Heap.SameBut.update ..⟩);exact⟨_,Heap.get?_update_self _ eo<|Obj.isFreed_of_fields<|Obj.data_mapFields fo _,(Obj.cls_mapFields ..).trans co,by rw[Obj.data_mapFields fo];simp[rawInt]⟩
def MC{I t:Addr}{i:Nat}{vs:Array Value}{Q:w0e}(hh:A.handled=none)(hI:s.heap.IsTupleIter I t i)(ht:s.heap.IsTuple t vs)(e:vs[i]? = none)
    (q:∀h' x,Heap.ExtBut I s.heap h'->(∃o,h'.get? x=some o/\o.cls=.type "StopIteration")->E (.ref x) { s with heap:=h' }):wpAny (model prog w) A (Builtin.SmallTypes.nextOf<|.ref I) Q E s:=by
 obtain⟨o,eo,co,fo⟩:=id hI;obtain⟨u,eu,_,n,fu⟩:=ht;unfold Builtin.SmallTypes.nextOf;show wpAny_bind<|wpAny_callSpecial?_slot (name:=Str.ofString "__next__") hI.typeIs F.slot_tuple_iterator_next<|wpAny_call_entry F.slot_tuple_iterator_next hI.typeIs F.entry_tuple_iterator_next ?_<|F.args_tuple_iterator_next_1 _;show wpAny _ _ (field (.ref I) 0 >>= _) _ _ s;show wpAny_bind<|wpAny_field eo fo (x:=.ref t) Y ?_;show wpAny _ _ (if(Value.ref t == Value.none)=true then _ else _) _ _ s;rw[if_neg<|show ¬((Value.ref t == Value.none)=true)from aG];show wpAny _ _ (field (.ref I) 1 >>= _) _ _ s;show wpAny_bind<|wpAny_field eo fo (x:=.int i 0) Y ?_;show wpAny _ _ (seqItems? (.ref t) >>= _) _ _ s;show wpAny_bind<|wpAny_seqItems eu fu ?_;simp only[Int.toNat_natCast,e];show wpAny_bind (wpAny_rule<|wpAny_bind<|wpAny_setField eo fo (by simp) ?_);show wpAny _ _ (newExc (.type "StopIteration") [] >>= _) _ _ _;show wpAny_bind ?_;simp only[newExc,newTuple];show wpAny_bind (wpAny_newObj_type ?_<|by size_fits);show wpAny_bind (m:=firstArgMember _ _) (wpAny_of_eq (a:=Value.none) (by first | rfl | (simp only[firstArgMember];rfl)) ?_);show wpAny_newObj_type ?_ (by size_fits);simp only[raiseNew];show wpAny_bind (wpAny_handled ?_)
 first | rw[show A.in1.handled=none from hh] | rw[hh]
 show wpAny_bind<|wpAny_pure<|wpAny_throw ?_;exact q _ _ (((Heap.SameBut.update ..).extBut.push _).push _) ⟨_,aB _ rfl,rfl⟩
end
inductive Sr
 | lst (a:Addr)
 | tup (a:Addr)
 | str (x:Str)
def Sr.it:Sr->Heap->Addr->Nat->Prop
 | .lst a,h,I,i=>h.IsListIter I a i
 | .tup a,h,I,i=>h.IsTupleIter I a i
 | .str x,h,I,i=>∃t,h.IsStrIter I (strIterType x) x t i
def Sr.has:Sr->Heap->Array Value->Prop
 | .lst a,h,vs=>h.IsList a vs
 | .tup a,h,vs=>h.IsTuple a vs
 | .str x,_,vs=>vs.size=x.cps.size
def Sr.is:Sr->Array Value->Nat->Value->Prop
 | .lst _,vs,i,v=>vs[i]? = some v
 | .tup _,vs,i,v=>vs[i]? = some v
 | .str x,_,i,v=>∃c u,x.cps[i]? = some c/\v=.str ⟨#[c]⟩ u
def Sr.fp:Sr->Addr->List Addr
 | .lst a,I=>[I,a]
 | .tup a,I=>[I,a]
 | .str _,I=>[I]
def Sr.off:Sr->Addr->Prop
 | .lst a,I=>a≠I
 | .tup a,I=>a≠I
 | .str _,_=>True
def Sr.fp_off{S:Sr}{I b:Addr}(h:S.off b)(hb:b≠I):b ∉ S.fp I:=by
 cases S <;>simp[Sr.fp,Sr.off]at h ⊢ <;>first | exact⟨hb,Ne.symm h⟩ | exact hb
def Sr.it.mv{S:Sr}{h h':Heap}{I:Addr}{i:Nat}(x:S.it h I i)(k:∀o,h.get? I=some o->h'.get? I=some o):S.it h' I i:=by
 cases S with
 | lst a=>obtain⟨o,e,r⟩:=x;exact⟨o,k o e,r⟩
 | tup a=>obtain⟨o,e,r⟩:=x;exact⟨o,k o e,r⟩
 | str z=>obtain⟨t,o,e,r⟩:=x;exact⟨t,o,k o e,r⟩
def Sr.it.obj{S:Sr}{h:Heap}{I:Addr}{i:Nat}(x:S.it h I i):∃o,h.get? I=some o/\∀v,o.data≠.cell v:=by
 cases S with
 | lst a=>obtain⟨o,e,_,d⟩:=x;exact⟨o,e,λv z=>by rw[d]at z;cases z⟩
 | tup a=>obtain⟨o,e,_,d⟩:=x;exact⟨o,e,λv z=>by rw[d]at z;cases z⟩
 | str z=>obtain⟨t,o,e,_,d⟩:=x;exact⟨o,e,λv z=>by rw[d]at z;cases z⟩
def Sr.has.mv{S:Sr}{h h':Heap}{vs:Array Value}{I:Addr}(x:S.has h vs)(k:∀b o,b≠I->h.get? b=some o->h'.get? b=some o)(off:S.off I):S.has h' vs:=by
 cases S with
 | lst a=>obtain⟨o,e,r⟩:=x;exact⟨o,k a o off e,r⟩
 | tup a=>obtain⟨o,e,r⟩:=x;exact⟨o,k a o off e,r⟩
 | str z=>exact x
def Sr.draws(S:Sr)(hh:A.handled=none)(I:Addr)(off:S.off I)(vs:Array Value) :
    Draws prog w A I (S.fp I) vs.size (S.is vs) (λi h=>S.it h I i/\S.has h vs):=by
 cases S with
 | lst a=>exact Draws.list hh I a off vs
 | tup a=>exact{
     live:=λ_ _ st=>let⟨o,e,_⟩:=st.1;⟨o,e⟩
     frame:=λ_ _ _ st k=>⟨let⟨o,e,r⟩:=st.1;⟨o,k I (by simp[Sr.fp]) o e,r⟩,let⟨o,e,r⟩:=st.2;⟨o,k a (by simp[Sr.fp]) o e,r⟩⟩
     item:=λi s Q E hi st q=>KF st.1 st.2 (x:=vs[i]) (by simp[hi]) λh' a' b'=>q _ h' s.toks (show vs[i]? = some vs[i] by simp[hi]) ⟨a',Heap.IsTuple.extBut st.2 b'.extBut off⟩ b'
     done:=λs Q E st q=>MC hh st.1 st.2 (by simp) q }
 | str x=>
  cases ha:x.cps.all (· < 128)with
  | true=>
   have e:strIterType x="str_ascii_iterator":=by simp[strIterType,ha]
   exact{
    live:=λ_ _ st=>let⟨_,o,e,_⟩:=st.1;⟨o,e⟩
    frame:=λ_ _ _ st k=>⟨let⟨t,o,e,r⟩:=st.1;⟨t,o,k I (by simp[Sr.fp]) o e,r⟩,st.2⟩
    item:=λi s Q E hi st q=>by
     obtain⟨⟨t,g⟩,z⟩:=st;have hz:vs.size=x.cps.size:=z;rw[e]at g;exact(Draws.strAscii (prog:=prog) (w:=w) hh I x t).item i s Q E oM g λv h' tk p fk sb=>q v h' tk p ⟨⟨t,by rw[e];exact fk⟩,z⟩ sb
    done:=λs Q E st q=>by
     obtain⟨⟨t,g⟩,z⟩:=st;have hz:vs.size=x.cps.size:=z;rw[e,hz]at g;exact(Draws.strAscii (prog:=prog) (w:=w) hh I x t).done s Q E g q }
  | false=>
   have e:strIterType x="str_iterator":=by simp[strIterType,ha]
   exact{
    live:=λ_ _ st=>let⟨_,o,e,_⟩:=st.1;⟨o,e⟩
    frame:=λ_ _ _ st k=>⟨let⟨t,o,e,r⟩:=st.1;⟨t,o,k I (by simp[Sr.fp]) o e,r⟩,st.2⟩
    item:=λi s Q E hi st q=>by
     obtain⟨⟨t,g⟩,z⟩:=st;have hz:vs.size=x.cps.size:=z;rw[e]at g;exact(Draws.strWide (prog:=prog) (w:=w) hh I x t).item i s Q E oM g λv h' tk p fk sb=>q v h' tk p ⟨⟨t,by rw[e];exact fk⟩,z⟩ sb
    done:=λs Q E st q=>by
     obtain⟨⟨t,g⟩,z⟩:=st;have hz:vs.size=x.cps.size:=z;rw[e,hz]at g;exact(Draws.strWide (prog:=prog) (w:=w) hh I x t).done s Q E g q }
structure ZA(S1 S2:Sr)(z TI TO i1 i2:Addr):Prop where
 a:TI≠z
 b:TO≠z
 c:i1≠z
 d:i2≠z
 e:TI≠TO
 f:TI≠i1
 g:TI≠i2
 h:TO≠i1
 i:TO≠i2
 j:i1≠i2
 k:∀x∈[z,TO,i1,i2],S1.off x/\S2.off x
structure ZS(S1 S2:Sr)(v1 v2:Array Value)(z TI TO i1 i2:Addr)(n:Nat)(u:Value)(h:Heap):Prop where
 z:IsZip h z TI TO u
 ti:IsPair h TI (.ref i1) (.ref i2)
 to:∃x y,IsPair h TO x y
 s1:S1.it h i1 n
 s2:S2.it h i2 n
 h1:S1.has h v1
 h2:S2.has h v2
section
variable{prog:Program}{w:World}{A:Around}{E:w0e}{s:Shared}{S1 S2:Sr}{v1 v2:Array Value}{z TI TO i1 i2:Addr}{n:Nat}
def Nv(D:ZA S1 S2 z TI TO i1 i2)(hh:A.handled=none)(a1d:ZS S1 S2 v1 v2 z TI TO i1 i2 n .none s.heap)(l1:n < v1.size)(l2:n < v2.size){Q:w0e}
    (q:∀x y h' tk,S1.is v1 n x->S2.is v2 n y->ZS S1 S2 v1 v2 z TI TO i1 i2 (n+1) (rawInt s.heap.objs.size) h'->IsPair h' s.heap.objs.size x y->h'.objs.size=s.heap.objs.size+1->
     (∀c o,c≠z->c≠TO->c≠i1->c≠i2->s.heap.get? c=some o->h'.get? c=some o)->Q (.ref s.heap.objs.size) { s with heap:=h',toks:=tk }) :
    wpAny (model prog w) A (Builtin.«zip.__next__» ⟨[.ref z],[]⟩) (λdD s'=>∃v,dD=.done (.ret v)/\Q v s') E s:=by
 obtain⟨hp,g0,d0,pS,uv⟩:=s;obtain⟨Zz,Zi,⟨x0,y0,Zo⟩,Z1,Z2,Y1,Y2⟩:=a1d;have oz:=D.k z (by simp);have oT:=D.k TO (by simp);have o1:=D.k i1 (by simp);have o2:=D.k i2 (by simp);show wpAny _ _ (field (.ref z) 2 >>= _) _ _ _;show wpAny_bind<|wpAny_field Zz Y (x:=.bool false) Y ?_;show wpAny _ _ (field (.ref z) 3 >>= _) _ _ _;show wpAny_bind<|wpAny_field Zz Y (x:=.ref TI) Y ?_;show wpAny_bind<|wpAny_seqItems Zi Y ?_;show wpAny _ _ (Builtin.SmallTypes.ownedTupleIsFree (.ref z) >>= _) _ _ _;show wpAny_bind ?_;unfold Builtin.SmallTypes.ownedTupleIsFree;show wpAny_bind<|wpAny_field Zz Y (x:=.none) Y<|wpAny_pure ?_;simp only[if_true];show wpAny_bind<|wpAny_rule ?_;show wpAny_bind<|wpAny_field Zz Y (x:=.ref TO) Y ?_;show wpAny_bind (wpAny_setField_rec Zz (by simp) λg1 Za b1=>?_)
 replace Za:IsZip g1 z TI TO .ellipsis:=Za
 replace b1:Heap.SameBut z hp g1:=b1
 show wpAny_bind ?_;simp only[List.zipIdx_cons,List.zipIdx_nil,List.forIn_cons,cI];show wpAny_bind<|wpAny_bind<|wpAny_onRaise ?_;show wpAny _ _ (Builtin.SmallTypes.nextOf (.ref i1) >>= _) _ _ _;show wpAny_bind ((S1.draws hh i1 o1.1 v1).item n _ _ _ l1 ⟨Z1.mv λo e=>b1.extBut _ _ D.c e,Y1.mv (λb o hb e=>b1.extBut _ _ hb e) oz.1⟩ λx g2 k2 px eY b2=>wpAny_pure ?_)
 replace b2:Heap.SameBut i1 g1 g2:=b2
 have lh:IsPair g2 TO x0 y0:=b2.extBut _ _ D.h<|b1.extBut _ _ D.b Zo;show wpAny_bind<|wpAny_seqItems lh Y ?_;show wpAny_bind (wpAny_updateSeq_pair lh λg3 mw b3=>?_)
 replace mw:IsPair g3 TO x y0:=mw
 replace b3:Heap.SameBut TO g2 g3:=b3
 show wpAny_bind<|wpAny_letGo<|wpAny_pure ?_;show wpAny_bind<|wpAny_bind<|wpAny_onRaise ?_;show wpAny _ _ (Builtin.SmallTypes.nextOf (.ref i2) >>= _) _ _ _;show wpAny_bind ((S2.draws hh i2 o2.2 v2).item n _ _ _ l2 ⟨Z2.mv λo e=>b3.extBut _ _ D.i.symm<|b2.extBut _ _ D.j.symm<|b1.extBut _ _ D.d e,
  ((Y2.mv (λb o hb e=>b1.extBut _ _ hb e) oz.2).mv (λb o hb e=>b2.extBut _ _ hb e) o1.2).mv (λb o hb e=>b3.extBut _ _ hb e) oT.2⟩ λy g4 k4 py pU b4=>wpAny_pure ?_)
 replace b4:Heap.SameBut i2 g3 g4:=b4
 have rR:IsPair g4 TO x y0:=b4.extBut _ _ D.i mw;show wpAny_bind<|wpAny_seqItems rR Y ?_;show wpAny_bind (wpAny_updateSeq_pair rR λg5 mr b5=>?_)
 replace mr:IsPair g5 TO x y:=mr
 replace b5:Heap.SameBut TO g4 g5:=b5
 show wpAny_bind<|wpAny_letGo<|wpAny_pure<|wpAny_pure ?_;show wpAny_bind<|wpAny_seqItems mr Y ?_;show wpAny_bind<|wpAny_newTuple ?_;have sz:g5.objs.size=hp.objs.size:=by rw[b5.1,b4.1,b3.1,b2.1,b1.1]
 have Z5:IsZip g5 z TI TO .ellipsis:=b5.extBut _ _ D.b.symm<|b4.extBut _ _ D.d.symm<|b3.extBut _ _ D.b.symm<|b2.extBut _ _ D.c.symm Za;have pQ:∀c o,c≠z->c≠TO->c≠i1->c≠i2->hp.get? c=some o->g5.get? c=some o:=λc o n1 n2 n3 n4 e=>b5.extBut _ _ n2<|b4.extBut _ _ n4<|b3.extBut _ _ n2<|b2.extBut _ _ n3<|b1.extBut _ _ n1 e;have I1:S1.it g5 i1 (n+1):=eY.1.mv λo e=>b5.extBut _ _ D.h.symm<|b4.extBut _ _ D.j<|b3.extBut _ _ D.h.symm e;have I2:S2.it g5 i2 (n+1):=pU.1.mv λo e=>b5.extBut _ _ D.i.symm e;have H1:S1.has g5 v1:=((eY.2.mv (λb o hb e=>b3.extBut _ _ hb e) oT.1).mv (λb o hb e=>b4.extBut _ _ hb e) o2.1).mv (λb o hb e=>b5.extBut _ _ hb e) oT.1;have H2:S2.has g5 v2:=pU.2.mv (λb o hb e=>b5.extBut _ _ hb e) oT.2;have pI:z < g5.objs.size:=ag Z5;show wpAny _ _ (Builtin.SmallTypes.ownedTupleHandOut (.ref z) (.ref g5.objs.size) >>= _) _ _ _;show wpAny_bind ?_;unfold Builtin.SmallTypes.ownedTupleHandOut;have Z6:IsZip (g5.push { cls:=.type "tuple",data:=.seq #[x,y] }) z TI TO .ellipsis:=ak _ Z5;show wpAny_bind (wpAny_setField_rec Z6 (by simp) λg7 Z7 b7=>?_)
 replace Z7:IsZip g7 z TI TO (rawInt g5.objs.size):=Z7
 show wpAny_setField_rec Z7 (by simp) λg8 Z8 b8=>?_
 replace Z8:IsZip g8 z TI TO (rawInt g5.objs.size):=Z8
 have up:∀c o,c≠z->g5.get? c=some o->g8.get? c=some o:=λc o n1 e=>b8.extBut _ _ n1<|b7.extBut _ _ n1<|ak _ e;have T8:IsPair g8 g5.objs.size x y:=b8.extBut _ _ (bx pI)<|b7.extBut _ _ (bx pI)<|aB _ Y;have pT:g8.objs.size=g5.objs.size+1:=by rw[b8.1,b7.1,bb]
 rw[sz]at Z8 T8 pT;show wpAny_pure ⟨_,Y,?_⟩;show Q (.ref g5.objs.size) _;rw[sz];exact q x y g8 k4 px py ⟨Z8,up _ _ D.a<|pQ _ _ D.a D.e D.f D.g Zi,⟨_,_,up _ _ D.b mr⟩,I1.mv λo e=>up _ o D.c e,I2.mv λo e=>up _ o D.d e,
  H1.mv (λb o hb e=>up b o hb e) oz.1,H2.mv (λb o hb e=>up b o hb e) oz.2⟩ T8 pT λc o n1 n2 n3 n4 e=>up c o n1 (pQ c o n1 n2 n3 n4 e)
def Pn(D:ZA S1 S2 z TI TO i1 i2)(hh:A.handled=none)(a1d:ZS S1 S2 v1 v2 z TI TO i1 i2 n .none s.heap)(l:n=v1.size\/(n < v1.size/\n=v2.size)){Q:Fin->Shared->Prop}
    (q:∀h' x tk,(∀c o,c≠z->c≠TO->c≠i1->c≠i2->s.heap.get? c=some o->h'.get? c=some o)->(∃o,h'.get? x=some o/\o.cls=.type "StopIteration")->E (.ref x) { s with heap:=h',toks:=tk }) :
    wpAny (model prog w) A (Builtin.«zip.__next__» ⟨[.ref z],[]⟩) Q E s:=by
 obtain⟨hp,g0,d0,pS,uv⟩:=s;obtain⟨Zz,Zi,⟨x0,y0,Zo⟩,Z1,Z2,Y1,Y2⟩:=a1d;have oz:=D.k z (by simp);have oT:=D.k TO (by simp);have o1:=D.k i1 (by simp);have o2:=D.k i2 (by simp);show wpAny _ _ (field (.ref z) 2 >>= _) _ _ _;show wpAny_bind<|wpAny_field Zz Y (x:=.bool false) Y ?_;show wpAny _ _ (field (.ref z) 3 >>= _) _ _ _;show wpAny_bind<|wpAny_field Zz Y (x:=.ref TI) Y ?_;show wpAny_bind<|wpAny_seqItems Zi Y ?_;show wpAny _ _ (Builtin.SmallTypes.ownedTupleIsFree (.ref z) >>= _) _ _ _;show wpAny_bind ?_;unfold Builtin.SmallTypes.ownedTupleIsFree;show wpAny_bind<|wpAny_field Zz Y (x:=.none) Y<|wpAny_pure ?_;simp only[if_true];show wpAny_bind<|wpAny_rule ?_;show wpAny_bind<|wpAny_field Zz Y (x:=.ref TO) Y ?_;show wpAny_bind (wpAny_setField_rec Zz (by simp) λg1 Za b1=>?_)
 replace Za:IsZip g1 z TI TO .ellipsis:=Za
 replace b1:Heap.SameBut z hp g1:=b1
 show wpAny_bind ?_;simp only[List.zipIdx_cons,List.zipIdx_nil,List.forIn_cons,cI];have W1:S1.it g1 i1 n/\S1.has g1 v1:=⟨Z1.mv λo e=>b1.extBut _ _ D.c e,Y1.mv (λb o hb e=>b1.extBut _ _ hb e) oz.1⟩;show wpAny_bind<|wpAny_bind<|wpAny_onRaise ?_;show wpAny _ _ (Builtin.SmallTypes.nextOf (.ref i1) >>= _) _ _ _;rcases l with l | ⟨l1,l2⟩
 . show wpAny_bind<|(S1.draws hh i1 o1.1 v1).done _ _ _ (l▸W1) λg2 x b2 ⟨ox,ex,cx⟩=>?_;have Zb:IsZip g2 z TI TO .ellipsis:=b2 _ _ D.c.symm Za;have xz:x≠z:=λe=>by subst e;rw[Zb]at ex;cases ex;simp at cx
   show wpAny_setField_rec Zb (by simp) λg3 _ b3=>q g3 x pS (λc o n1 _ n3 _ e=>b3.extBut _ _ n1<|b2 _ _ n3<|b1.extBut _ _ n1 e) ⟨ox,b3.extBut _ _ xz ex,cx⟩
 . show wpAny_bind ((S1.draws hh i1 o1.1 v1).item n _ _ _ l1 W1 λx g2 k2 px eY b2=>wpAny_pure ?_)
   replace b2:Heap.SameBut i1 g1 g2:=b2
   have lh:IsPair g2 TO x0 y0:=b2.extBut _ _ D.h<|b1.extBut _ _ D.b Zo;show wpAny_bind<|wpAny_seqItems lh Y ?_;show wpAny_bind (wpAny_updateSeq_pair lh λg3 mw b3=>?_)
   replace b3:Heap.SameBut TO g2 g3:=b3
   show wpAny_bind<|wpAny_letGo<|wpAny_pure ?_;show wpAny_bind<|wpAny_bind<|wpAny_onRaise ?_;show wpAny _ _ (Builtin.SmallTypes.nextOf (.ref i2) >>= _) _ _ _;show wpAny_bind ((S2.draws hh i2 o2.2 v2).done _ _ _ (l2▸⟨Z2.mv λo e=>b3.extBut _ _ D.i.symm<|b2.extBut _ _ D.j.symm<|b1.extBut _ _ D.d e,
    ((Y2.mv (λb o hb e=>b1.extBut _ _ hb e) oz.2).mv (λb o hb e=>b2.extBut _ _ hb e) o1.2).mv (λb o hb e=>b3.extBut _ _ hb e) oT.2⟩) λg4 x' b4 ⟨ox,ex,cx⟩=>?_)
   have Zb:IsZip g4 z TI TO .ellipsis:=b4 _ _ D.d.symm<|b3.extBut _ _ D.b.symm<|b2.extBut _ _ D.c.symm Za;have xz:x'≠z:=λe=>by subst e;rw[Zb]at ex;cases ex;simp at cx
   show wpAny_setField_rec Zb (by simp) λg5 _ b5=>q g5 x' k2 (λc o n1 n2 n3 n4 e=>b5.extBut _ _ n1<|b4 _ _ n4<|b3.extBut _ _ n2<|b2.extBut _ _ n3<|b1.extBut _ _ n1 e) ⟨ox,b5.extBut _ _ xz ex,cx⟩
end
def Sr.val:Sr->Value->Prop
 | .lst a,v=>v=.ref a
 | .tup a,v=>v=.ref a
 | .str x,v=>∃t,v=.str x t
abbrev Vp(l:Addr):Obj:={ cls:=.type "tuple_iterator",data:=.fields #[.ref l,.int 0 0] }
abbrev enO(i:Addr):Obj:={ cls:=.type "enumerate",data:=.fields #[.none,.bool false,.ref i,rawInt 0,.none,.none] }
def Nb(l:Addr)(vs:Array Value)(n:Nat)(pF:Option Addr)(sl:Array (Option Value)) :
    Meets (Builtin.«enumerate.__new__» ⟨[.type "enumerate",.ref l],[]⟩) (λ_ R s=>s.heap.get? l=some { cls:=.type "tuple",dict:=pF,data:=.seq vs n,slots:=sl }/\
     R (.ok<|.ret<|.ref (s.heap.push<|Vp l).objs.size) { s with heap:=(s.heap.push<|Vp l).push (enO s.heap.objs.size) }):=
 .of_wp λprog w A R s h=>by
  obtain⟨hp,g,d,tk,os⟩:=s;obtain⟨hl,h⟩:=h;have vL:=sub_enumerate;have hL:Heap.IsTuple (Shared.heap ⟨hp,g,d,tk,os⟩) l vs:=⟨_,hl,Y,n,Y⟩
  wp_walk using AutoSeq1.wpAny_loadPart' hl
  show wpAny_stack_any λst=>wpAny_pure ?_;split
  . rename_i c _ _ _ _ _;cases (c == Value.type "enumerate")
    . wp_walk using AutoSeq1.wpAny_loadPart' hl,wpAny_pyIter_tuple hL;exact⟨_,Y,h⟩
    . wp_walk using AutoSeq1.wpAny_loadPart' hl,wpAny_pyIter_tuple hL;exact⟨_,Y,h⟩
  . wp_walk using AutoSeq1.wpAny_loadPart' hl,wpAny_pyIter_tuple hL;exact⟨_,Y,h⟩
def Lh{prog:Program}{w:World}{A:Around}{E:w0e}{s:Shared}{l:Addr}{vs:Array Value}{Q:w0e}(hL:s.heap.IsTuple l vs)
    (h:∀h',IsEnum h' (s.heap.objs.size+1) s.heap.objs.size 0 .none->h'.IsTupleIter s.heap.objs.size l 0->(∀b o,s.heap.get? b=some o->h'.get? b=some o)->Q (.ref<|s.heap.objs.size+1) { s with heap:=h' }) :
    wpAny (model prog w) A (call (.type "enumerate") [.ref l]) Q E s:=by
 obtain⟨⟨c,pF,dt,sl⟩,hl,hc,n,hd⟩:=hL
 replace hc:c=.type "tuple":=hc;replace hd:dt=.seq vs n:=hd;subst hc hd
 show callType_new F.called_enumerate bD (F.typeCall_enumerate_1 _) (F.newCall_enumerate_1 _) (λobj=>F.args_object_init_2 obj _) F.entry_enumerate_new (Nb l vs n pF sl) ⟨hl,?_⟩;have hz:(s.heap.push<|Vp l).objs.size=s.heap.objs.size+1:=bb ..;show _/\_;rw[hz];have he:IsEnum ((s.heap.push<|Vp l).push<|enO s.heap.objs.size) (s.heap.objs.size+1) s.heap.objs.size 0 .none:=by have:=aB (s.heap.push<|Vp l) (o:=enO s.heap.objs.size) rfl;rw[hz]at this;exact this
 exact⟨⟨_,he,Y⟩,h _ he ⟨_,ak _<|aB _ Y,Y,Y⟩ λb o x=>ak _<|ak _ x⟩
def Ng{prog:Program}{w:World}{A:Around}{E:w0e}{s:Shared}{S:Sr}{vs:Array Value}{v:Value}{Q:w0e}(e:S.val v)(x:S.has s.heap vs)
    (h:∀h',IsEnum h' (s.heap.objs.size+1) s.heap.objs.size 0 .none->S.it h' s.heap.objs.size 0->(∀b o,s.heap.get? b=some o->h'.get? b=some o)->Q (.ref<|s.heap.objs.size+1) { s with heap:=h' }) :
    wpAny (model prog w) A (call (.type "enumerate") [v]) Q E s:=by
 cases S with
 | lst a=>cases (show v=.ref a from e);exact call_enumerate_list x λh' a b _ c=>h h' a b c
 | tup a=>cases (show v=.ref a from e);exact Lh x h
 | str z=>obtain⟨t,rfl⟩:=(show ∃t,v=.str z t from e);exact call_enumerate_str λh' a b _ c=>h h' a ⟨t,b⟩ c
section
variable{X:Cx}{aS:w0d}{σ:St}{H:Z}{s:Shared}{h':Heap}
def j9.turneds{t':Nat}{ch:List Addr}(I:j9 X aS σ H s)(k:∀b o,b ∉ ch->s.heap.get? b=some o->h'.get? b=some o)(hf:∀b∈ch,L7 X aS H b):j9 X aS σ H { s with heap:=h',toks:=t' }:=by
 have jT:∀b u,H b=some u->b ∉ ch:=λb u e z=>by rw[(hf b z).1]at e;cases e
 show I.step (g':=s.gens) (d':=s.drawn) (ch:=ch) (λb hb=>?_) (λb o _ _ hc e _=>k b o hc e) (λb o _ _ hc e _=>⟨o.slots,k b o hc e⟩) (λ_ _ _ _ n=>n) (λb o hc e=>⟨o,k b o hc e⟩) (λ_ _ e=>e) (λ_ _ _ e=>e)
  (λb ps e=>⟨#[],by rw[e];simp⟩) (λm hm=>?_) (λb u e=>?_) I.bare
 . obtain⟨f0,f1,f2,f3,f4,f5⟩:=hf b hb;exact⟨f3,f1,f4,f5⟩
 . obtain⟨o,es,ep,ho,r⟩:=hm;exact⟨o,es,ep,k _ o (λz=>(hf _ z).2.1 Y) ho,r⟩
 . show(I.hok b u e).stay (λc v hc q=>k c v ?_ q) (λ_ q=>q) λ_ _ q=>q;rcases hc with z | z
   . rw[z];exact jT b u e
   . exact jT c _ z
theorem j9.track(I:j9 X aS σ H s)(hs:X.s₀.heap.objs.size<=a)(f:L7 X aS H a)(new:D4 X.prog X.w (upd H a o) s.heap a o):j9 X aS σ (upd H a o) s:=
 ⟨I.ok,I.os,I.bare,I.base.track hs f.1,I.loc,I.cell,by rw[k9<|Ne.symm f.2.1];exact I.free,λx c e=>by rw[k9<|f.2.2.2.2.1 x c e];exact I.freeC x c e,λp hp=>by
  obtain⟨e,n,r⟩:=I.pin p hp;exact⟨e,by rw[k9<|f.2.2.2.2.2 p hp];exact n,r⟩,I.hok.track f.1 new,I.len⟩
end
def Bu(x:Str):List V:=x.cps.toList.map λc=>V.str ⟨#[c]⟩
def Sr.vals(K:aa)(H:Z):Sr->List V->Prop
 | .lst a,xs=>y8 K H a xs
 | .tup a,xs=>y4 K H a xs
 | .str x,xs=>xs=Bu x
def Sr.ofV:Sr->V->Prop
 | .lst a,v=>v=.ref a
 | .tup a,v=>v=.ref a
 | .str x,v=>v=.str x
section
variable{X:Cx}{aS:w0d}{σ:St}{H:Z}{s:Shared}{S:Sr}{xs ys:List V}
theorem Sr.vals.get(I:j9 X aS σ H s)(h:S.vals X.K H xs):∃vs,S.has s.heap vs/\vs.size=xs.length/\∀i x v,xs[i]? = some x->S.is vs i v->p6 x v:=by
 cases S with
 | lst a=>
  obtain⟨di,rv,p,hz⟩:=I.list h;show⟨di.toArray,p.isList,by have:=rv.length;simp;omega,λi x v e1 e2=>?_⟩;obtain⟨u,hu,ru⟩:=rv.get e1;have e2:di.toArray[i]? = some v:=e2;rw[da,hu]at e2;cases e2;exact ru
 | tup a=>
  obtain⟨di,rv,p,hz⟩:=I.tuple h;show⟨di.toArray,(show s.heap.IsTuple a di.toArray from p),by have:=rv.length;simp;omega,λi x v e1 e2=>?_⟩;obtain⟨u,hu,ru⟩:=rv.get e1;have e2:di.toArray[i]? = some v:=e2;rw[da,hu]at e2;cases e2;exact ru
 | str z=>
  cases (show xs=Bu z from h);show⟨Array.replicate z.cps.size .none,by show(Array.replicate _ _).size=_;simp,by simp[Bu],λi x v e1 e2=>?_⟩;obtain⟨c,u,ec,rfl⟩:=(show ∃c u,z.cps[i]? = some c/\v=.str ⟨#[c]⟩ u from e2);have:(Bu z)[i]? = some (V.str ⟨#[c]⟩):=by simp[Bu,ec]
  rw[this]at e1;cases e1;exact⟨u,Y⟩
def Sr.vals.inj(I:j9 X aS σ H s)(h:S.vals X.K H xs)(h':S.vals X.K H ys):xs=ys:=by
 cases S with
 | lst a=>exact I.list_inj h h'
 | tup a=>exact I.tuple_inj h h'
 | str z=>exact(show xs=Bu z from h).trans (show ys=Bu z from h').symm
theorem Sr.ofV.val(e:S.ofV x)(r:p6 x u):S.val u:=by
 cases S with
 | lst a=>cases (show x=.ref a from e);exact r
 | tup a=>cases (show x=.ref a from e);exact r
 | str z=>cases (show x=.str z from e);exact r
end
def Itz(K:aa)(S1 S2:Sr):It:=
 ⟨λi H=>∃xs ys x y,S1.vals K H xs/\S2.vals K H ys/\xs[i]? = some x/\ys[i]? = some y,
  λi H v H'=>∃p x y,v=.ref p/\H p=none/\H'=upd H p (.tup [x,y])/\(∀xs,S1.vals K H xs->xs[i]? = some x)/\∀ys,S2.vals K H ys->ys[i]? = some y,
  λi H=>∃xs ys,S1.vals K H xs/\S2.vals K H ys/\(i=xs.length\/(i < xs.length/\i=ys.length))⟩
def Ve{P:Program}{w:World}{K:aa}{es:List Expr}{kk:Nat}{tp:Pos}{S1 S2:Sr}{z TI TO i1 i2:Addr}(D:ZA S1 S2 z TI TO i1 i2) :
    GC P w K (.Tuple es kk tp) (Itz K S1 S2) [z,TI,TO,i1,i2] z (λi h=>IsZip h z TI TO .none/\IsPair h TI (.ref i1) (.ref i2)/\(∃a b,IsPair h TO a b)/\S1.it h i1 i/\S2.it h i2 i)where
 mem:=by simp
 obj:=λi h st b hb=>by
  obtain⟨hz,hi,⟨a,a',ho⟩,h1,h2⟩:=st;simp only[ah,ba,or_false]at hb;rcases hb with rfl | rfl | rfl | rfl | rfl
  . exact⟨_,hz,λv z=>by simp at z⟩
  . exact⟨_,hi,λv z=>by simp at z⟩
  . exact⟨_,ho,λv z=>by simp at z⟩
  . exact h1.obj
  . exact h2.obj
 keep:=λi h h' st k=>by
  obtain⟨hz,hi,⟨a,a',ho⟩,h1,h2⟩:=st;exact⟨k z (by simp) _ hz,k TI (by simp) _ hi,⟨a,a',k TO (by simp) _ ho⟩,h1.mv λo e=>k i1 (by simp) o e,h2.mv λo e=>k i2 (by simp) o e⟩
 item:=by
  intro X hP hw hK hc i aS s σ H E I hf st hg;subst hP hw hK;obtain⟨xs,ys,x,y,hx,hy,ex,ey⟩:=hg;obtain⟨v1,a1,z1,r1⟩:=Sr.vals.get I hx;obtain⟨v2,a2,z2,r2⟩:=Sr.vals.get I hy;obtain⟨hz,hi,ho,h1,h2⟩:=st;have l1:=(aP.mp ex).1;have l2:=(aP.mp ey).1;have hT:s.TypeIs (.ref z) "zip":=⟨_,hz,Y⟩;have lt:∀b∈[z,TI,TO,i1,i2],b≠s.heap.objs.size:=λb hb=>by
   obtain⟨a,a',ho⟩:=ho;simp only[ah,ba,or_false]at hb;rcases hb with rfl | rfl | rfl | rfl | rfl
   . exact au (ag hz)
   . exact au (ag hi)
   . exact au (ag ho)
   . obtain⟨_,e,_⟩:=h1.obj;exact au (ag e)
   . obtain⟨_,e,_⟩:=h2.obj;exact au (ag e)
  unfold pyNext;show wpAny_bind (wpAny_attempt (wpAny_callSpecial?_slot (name:=Str.ofString "__next__") hT F.slot_zip_next (wpAny_call_entry F.slot_zip_next hT F.entry_zip_next
   (Nv (A:=X.A.in1) D (show X.A.in1.handled=none from I.ok.hd hc) ⟨hz,hi,ho,h1,h2,a1,a2⟩ oM oM λxv yv h' tk px py a1d hp hs up=>wpAny_pure ?_) (F.args_zip_next_1 _))))
  show⟨_,Y,wpAny_letOwnedTupleGo_zip a1d.z λgS nO sb=>?_⟩;have sb:Heap.SameBut z h' gS:=sb;have kk:∀b o,b ∉ [z,TI,TO,i1,i2]->s.heap.get? b=some o->gS.get? b=some o:=λb o hb e=>by
   simp only[ah,ba,or_false,not_or]at hb;exact sb.extBut _ _ hb.1 (up b o hb.1 hb.2.2.1 hb.2.2.2.1 hb.2.2.2.2 e)
  have I1:j9 X aS σ H { s with heap:=gS,toks:=tk }:=I.turneds (t':=tk) kk hf;have fT:L7 X aS H s.heap.objs.size:=I.fpOk (ae _)<|I.hok.fresh<|ae _;have zT:s.heap.objs.size≠z:=Ne.symm (lt z<|by simp);have oT:IsPair gS s.heap.objs.size xv yv:=sb.extBut _ _ zT hp;have I2:j9 X aS σ (upd H s.heap.objs.size<|.tup [x,y]) { s with heap:=gS,toks:=tk }:=I1.track (aj I.sz<|ae _) fT
   ⟨by show 2<=sizeLine;decide,[xv,yv],.cons (r1 i x xv ex px)<|.cons (r2 i y yv ey py) .nil,⟨_,oT,Y,_,Y⟩,λ_=>⟨_,oT,Y⟩⟩
  show⟨.ref s.heap.objs.size,_,I2,Y,⟨_,x,y,Y,fT.1,Y,λtK h=>by rw[Sr.vals.inj I h hx];exact ex,λxn h=>by rw[Sr.vals.inj I h hy];exact ey⟩,⟨nO,sb.extBut _ _ D.a a1d.ti,?_,a1d.s1.mv λo e=>sb.extBut _ _ D.c e,a1d.s2.mv λo e=>sb.extBut _ _ D.d e⟩,λb hb=>?_⟩
  . obtain⟨a,a',ho⟩:=a1d.to;exact⟨a,a',sb.extBut _ _ D.b ho⟩
  . rw[k9<|lt b hb];exact(hf b hb).1
 done:=by
  intro X hP hw hK hc i aS s σ H E I hf st hg;subst hP hw hK;obtain⟨xs,ys,hx,hy,l⟩:=hg;obtain⟨v1,a1,z1,r1⟩:=Sr.vals.get I hx;obtain⟨v2,a2,z2,r2⟩:=Sr.vals.get I hy;obtain⟨hz,hi,ho,h1,h2⟩:=st;have hT:s.TypeIs (.ref z) "zip":=⟨_,hz,Y⟩;unfold pyNext;show wpAny_bind (wpAny_attempt (wpAny_callSpecial?_slot (name:=Str.ofString "__next__") hT F.slot_zip_next (wpAny_call_entry F.slot_zip_next hT F.entry_zip_next
   (Pn (A:=X.A.in1) D (show X.A.in1.handled=none from I.ok.hd hc) ⟨hz,hi,ho,h1,h2,a1,a2⟩ oM λh' e tk up ⟨o,eo,co⟩=>?_) (F.args_zip_next_1 _))))
  show wpAny_bind<|wpAny_isInstance (T:="StopIteration") (b:=true) ⟨o,eo,co⟩ isSubtype_stop ?_;show wpAny_pure ⟨Y,I.turneds (ch:=[z,TI,TO,i1,i2]) (t':=tk) (λb o hb e=>?_) hf⟩;simp only[ah,ba,or_false,not_or]at hb;exact up b o hb.1 hb.2.2.1 hb.2.2.2.1 hb.2.2.2.2 e
 self:=λ_ _ _ _ _ st h=>wpAny_pyIter_zip st.1 h
def Ite(K:aa)(S:Sr):It:=
 ⟨λi H=>∃xs x,S.vals K H xs/\xs[i]? = some x,λi H v H'=>∃p x,v=.ref p/\H p=none/\H'=upd H p (.tup [.int i,x])/\∀xs,S.vals K H xs->xs[i]? = some x,λi H=>∃xs,S.vals K H xs/\i=xs.length⟩
def Sr.fp_it(S:Sr)(I:Addr):I∈S.fp I:=by cases S <;>simp[Sr.fp]
def Mh{P:Program}{w:World}{K:aa}{es:List Expr}{kk:Nat}{tp:Pos}{S:Sr}{e it:Addr}(D:e≠it)(o1:S.off e)(o2:S.off it) :
    GC P w K (.Tuple es kk tp) (Ite K S) [e,it] e (λi h=>(∃old,IsEnum h e it i old)/\S.it h it i)where
 mem:=by simp
 obj:=λi h st b hb=>by
  obtain⟨⟨old,he⟩,h1⟩:=st;simp only[ah,ba,or_false]at hb;rcases hb with rfl | rfl
  . exact⟨_,he,λv z=>by simp at z⟩
  . exact h1.obj
 keep:=λi h h' st k=>by
  obtain⟨⟨old,he⟩,h1⟩:=st;exact⟨⟨old,k e (by simp) _ he⟩,h1.mv λo q=>k it (by simp) o q⟩
 item:=by
  intro X hP hw hK hc i aS s σ H E I hf st hg;subst hP hw hK;obtain⟨xs,x,hx,ex⟩:=hg;obtain⟨vs,a1,z1,r1⟩:=Sr.vals.get I hx;obtain⟨⟨old,he⟩,h1⟩:=st;have l1:=(aP.mp ex).1;have lt:∀b∈[e,it],b < s.heap.objs.size:=λb hb=>by
   simp only[ah,ba,or_false]at hb;rcases hb with rfl | rfl
   . exact ag he
   . obtain⟨_,q,_⟩:=h1.obj;exact ag q
  have hh:X.A.in1.handled=none:=I.ok.hd hc;have W:=WalksT.enumerateD (prog:=X.prog) (w:=X.w) (A:=X.A) (S.draws hh it o2 vs) e D (Sr.fp_off o1 D)<|S.fp_it it;show W.item i s _ E oM ⟨⟨old,he⟩,h1,a1⟩ λT vals h' tk hP hT ht hM hk=>⟨_,Y,W.go es kk tp i T _ _ E hM λgS jO ky=>?_⟩;obtain⟨t,xv,px,rfl⟩:=hP;have kk:∀b o,b ∉ [e,it]->s.heap.get? b=some o->gS.get? b=some o:=λb o hb q=>ky b o hb<|hk b o hb q;have I1:j9 X aS σ H { s with heap:=gS,toks:=tk }:=I.turneds (t':=tk) kk hf;have fT:L7 X aS H T:=I.fpOk hT<|I.hok.fresh hT;have nT:T ∉ [e,it]:=W.apart i T _ hM;have oT:gS.IsTuple T #[.int i t,xv]:=let⟨o,q,r⟩:=ht;⟨o,ky T o nT q,r⟩
  have I2:j9 X aS σ (upd H T<|.tup [.int i,x]) { s with heap:=gS,toks:=tk }:=I1.track (aj I.sz hT) fT
   ⟨by show 2<=sizeLine;decide,[.int i t,xv],.cons ⟨t,Y⟩<|.cons (r1 i x xv ex px) .nil,oT,λz=>absurd Y<|z i x⟩
  show⟨.ref T,_,I2,Y,⟨_,x,Y,fT.1,Y,λtK h=>by rw[Sr.vals.inj I h hx];exact ex⟩,⟨jO.1,jO.2.1⟩,λb hb=>?_⟩;rw[k9<|au<|ay (lt b hb) hT];exact(hf b hb).1
 done:=by
  intro X hP hw hK hc i aS s σ H E I hf st hg;subst hP hw hK;obtain⟨xs,hx,l⟩:=hg;obtain⟨vs,a1,z1,r1⟩:=Sr.vals.get I hx;obtain⟨⟨old,he⟩,h1⟩:=st;have hh:X.A.in1.handled=none:=I.ok.hd hc;have W:=WalksT.enumerateD (prog:=X.prog) (w:=X.w) (A:=X.A) (S.draws hh it o2 vs) e D (Sr.fp_off o1 D)<|S.fp_it it;have ei:i=vs.size:=by omega
  subst ei;exact W.done s _ E ⟨⟨old,he⟩,h1,a1⟩ λh' tk hk=>⟨Y,I.turneds (t':=tk) hk hf⟩
 self:=λ_ _ _ _ _ st h=>by
  obtain⟨⟨old,he⟩,_⟩:=st;exact wpAny_pyIter_enum he h
def c0a(K:aa)(ta:TA):TI:=λσ H R=>ta σ H λvs H1=>∃S x xs,vs=[x]/\Sr.ofV S x/\S.vals K H1 xs/\R (Ite K S) H1
def Qd{X:Cx}{a:Expr}{ta:TA}{p pos tp:Pos}{es:List Expr}{kk:Nat}(hg:Gl X "enumerate")(hm:X.mg "enumerate"=none)(ha:PA X [a] ta)(hs:starEach [a] X.env=[(false,eval a X.env)]:=by rfl) :
    PI X (.Tuple es kk tp) (.Call (.Name "enumerate" p) [a] [] pos) (c0a X.K ta):=by
 intro aS s σ H R I h;show Call_<|DM I hg hm boot_enumerate<|cR (y6 (ha pos aS s σ H _ I h) λus s1 ⟨vs,H1,I1,r1,q1⟩=>?_) hs Y;obtain⟨S,x,xs,e,e1,hx,q⟩:=q1;subst e;cases r1 with
 | cons r rr=>
  cases rr;obtain⟨v1,a1,z1,_⟩:=Sr.vals.get I1 hx;have off:∀k:Nat,S.off (s1.heap.objs.size+k):=λk=>by
   cases S with
   | lst a=>obtain⟨o,q,_⟩:=a1;exact au (ay (ag q)<|Nat.le_add_right _ k)
   | tup a=>obtain⟨o,q,_⟩:=a1;exact au (ay (ag q)<|Nat.le_add_right _ k)
   | str z=>exact trivial
  show Ng (e1.val r) a1 λh' he hi up=>wpAny_pyIter_enum he ⟨_,_,_,_,H1,Y,I1.kept (t':=s1.toks) up,Mh (Nat.succ_ne_self _) (off 1)<|off 0,⟨⟨_,he⟩,hi⟩,λb hb=>?_,q⟩;simp only[ah,ba,or_false]at hb;have le:s1.heap.objs.size<=b:=by rcases hb with rfl | rfl <;>omega
  exact I1.fpOk le (I1.hok.fresh le)
section
variable{X:Cx}
def rSlS:V->Option Int->Option Int->Z->VK->Prop:=λx lo hi H Q=>∃z,x=.str z/\z.length<=sizeLine/\Q (.str<|Txt.slice z lo hi) H
def S4:QS X rSlS:=by
 intro aS s σ H x v vl vu lo hi sl Q I rx hs pl pu h;obtain⟨z,rfl,hz,q⟩:=h;obtain⟨t,rfl⟩:=rx;have dD:∀t' k,EP X aS σ Q (.str (Txt.slice z lo hi) t') { s with toks:=k }:=λt' k=>⟨.str _,H,I.tok _,⟨_,Y⟩,q⟩;show⟨"str",_,F.slot_str_getitem.lookup,typeIs_str _ _ _,?_⟩;cases pl with
 | none=>
  cases pu with
  | none=>exact wpAny_getItem_str_slice (l:=none) (u:=none) (st:=none) hs rfl (post_val_or_str ⟨aj (Txt.slice_le z _ _) hz,dD⟩)
  | int j uj=>exact wpAny_getItem_str_slice (l:=none) (u:=some (j,uj)) (st:=none) hs rfl (post_val_or_str ⟨aj (Txt.slice_le z _ _) hz,dD⟩)
 | int i ui=>
  cases pu with
  | none=>exact wpAny_getItem_str_slice (l:=some (i,ui)) (u:=none) (st:=none) hs rfl (post_val_or_str ⟨aj (Txt.slice_le z _ _) hz,dD⟩)
  | int j uj=>exact wpAny_getItem_str_slice (l:=some (i,ui)) (u:=some (j,uj)) (st:=none) hs rfl (post_val_or_str ⟨aj (Txt.slice_le z _ _) hz,dD⟩)
def Its(z:Str):It:=⟨λi _=>i < z.cps.size,λi H x H'=>H'=H/\∃c,z.cps[i]? = some c/\x=.str ⟨#[c]⟩,λi _=>z.cps.size<=i⟩
def NC{P:Program}{w:World}{K:aa}{tg:Expr}(z:Str)(t:Tok)(it:Addr):GC P w K tg (Its z) [it] it (λi h=>h.IsStrIter it "str_ascii_iterator" z t i)where
 mem:=by simp
 obj:=λi h st b hb=>by
  have e:b=it:=by simpa using hb
  subst e;obtain⟨o,e,c,d⟩:=st;exact⟨o,e,λv q=>by rw[d]at q;cases q⟩
 keep:=λi h h' st k=>by
  obtain⟨o,e,r⟩:=st;exact⟨o,k it (by simp) o e,r⟩
 item:=by
  intro X hP hw hK hc i aS s σ H E I hf st hg;subst hP hw hK;have hg:i < z.cps.size:=hg;obtain⟨f0,f1,f2,f3,f4,f5⟩:=hf it (by simp);show wpAny_pyNext_ascii_item st (c:=z.cps[i]) (by simp[hg]) λh' fk sb=>?_;have I1:j9 X aS σ H { s with heap:=h',toks:=s.toks+1 }:=I.turned (t':=s.toks+1) (λb o hb e=>(sb.2 b hb).trans e) f0 f1 f3 f4 f5;obtain⟨o,e,c,d⟩:=id fk;exact⟨_,Y,JA (s:={ s with heap:=h',toks:=s.toks+1 }) e c d bD ⟨.str ⟨#[z.cps[i]]⟩,H,I1,⟨_,Y⟩,⟨Y,_,by simp[hg],Y⟩,fk,λb hb=>(hf b hb).1⟩⟩
 done:=by intro X hP hw hK hc i aS s σ H E I hf st hg;subst hP hw hK;have hg:z.cps.size<=i:=hg;obtain⟨f0,f1,f2,f3,f4,f5⟩:=hf it (by simp);exact wpAny_pyNext_ascii_end (I.ok.hd hc) st (by simp;omega) λh' eb=>⟨Y,I.turned (t':=s.toks) (λb o hb e=>eb b o hb e) f0 f1 f3 f4 f5⟩
 self:=λ_ _ _ _ _ st h=>wpAny_pyIter_striter_ascii st h
def iStr(tl:TE):TI:=λσ H R=>tl σ H λx H1=>∃z,x=.str z/\z.cps.all (· < 128)=true/\R (Its z) H1
def Kx{tg l:Expr}{tl:TE}(hl:PE X l tl):PI X tg l (iStr tl):=by
 intro aS s σ H R I h;show y6 (hl aS s σ H _ I h) λv s1 ⟨x,H1,I1,r1,z,e,ha,q⟩=>?_;subst e;obtain⟨t,rfl⟩:=r1;show wpAny_pyIter_ascii ha ?_;have hf:H1 s1.heap.objs.size=none:=I1.hok.fresh<|ae _;show⟨s1.heap.objs.size,[s1.heap.objs.size],_,Its z,H1,Y,I1.kept (t':=s1.toks)<|λb ob q=>ak _ q,NC z t _,⟨_,aB _ Y,Y,Y⟩,λb hb=>?_,q⟩;have e:b=s1.heap.objs.size:=by simpa using hb
 subst e;exact I1.fpOk (ae _) hf
end
section
variable{X:Cx}
def Ln{bs:List Bool}{di:w0i}(r:o8 (bs.map V.bl) di){i:Nat}{v:Value}(h:di[i]? = some v):∃b,bs[i]? = some b/\v=.bool b:=by have len:=r.length;rw[ai]at len;have hi:i < di.length:=(aP.mp h).1;have hb:bs[i]? = some (bs[i]'oM):=aJ oM;obtain⟨u,hu,ru⟩:=r.get (i:=i) (x:=V.bl<|bs[i]'oM) (by rw[aN,hb];rfl);rw[h]at hu;cases hu;exact⟨_,hb,ru⟩
def Nk(bs:List Bool):(List.range bs.length).all (λi=>bs[i]?.getD false)=bs.all id:=by
 rw[bX,ck,ck];constructor
 . intro h b hb;obtain⟨i,hi,e⟩:=List.getElem_of_mem hb;have:=h i<|bU.mpr hi;rw[aJ hi,cq,e]at this;exact this
 . intro h i hi;have hi:=bU.mp hi;rw[aJ hi,cq];exact h _ (bS hi)
def Ni(bs:List Bool):(List.range bs.length).any (λi=>bs[i]?.getD false)=bs.any id:=by
 rw[bX,List.any_eq_true,List.any_eq_true];constructor
 . rintro⟨i,hi,e⟩;have hi:=bU.mp hi;rw[aJ hi,cq]at e;exact⟨_,bS hi,e⟩
 . rintro⟨b,hb,e⟩;obtain⟨i,hi,e'⟩:=List.getElem_of_mem hb;exact⟨i,bU.mpr hi,by rw[aJ hi,cq,e'];exact e⟩
def WC(K:aa)(f:List Bool->Bool):List V->Z->VK->Prop:=λxs H Q=>∃a bs,xs=[.ref a]/\y8 K H a (bs.map V.bl)/\Q (.bl<|f bs) H
def OY(hc:X.calm=true):Q5 X (.builtin "all") (WC X.K λbs=>bs.all id):=by
 intro aS s σ H xs us Q I r h;obtain⟨a,bs,rfl,hq,q⟩:=h;obtain⟨u,rfl,ru⟩:=r.one;cases (show u=Value.ref a from ru);obtain⟨di,rv,p,hz⟩:=I.list hq;have lt:a≠s.heap.objs.size:=by obtain⟨o,n,e,_⟩:=p;exact au (ag e)
 have hh:X.A.in1.handled=none:=I.ok.hd hc;have hl:=p.isList;have len:=rv.length;rw[ai]at len;show call_all_walk (wpAny_pyIter_list hl ⟨_,_,_,_,_,_,λi=>bs[i]?.getD false,Y,Walks.list hh s.heap.objs.size a lt di.toArray,⟨⟨_,aB _ Y,Y,Y⟩,Heap.IsList.push hl _⟩,λi v s' Q' E' hv q'=>?_,λh' tk k=>?_⟩)
 . have hv:di.toArray[i]? = some v:=hv;rw[da]at hv;obtain⟨b,eb,rfl⟩:=Ln rv hv;have q':Q' (bs[i]?.getD false) s':=q';rw[eb]at q';exact wpAny_truthy_bool q'
 . rw[aA,<- len,Nk];show⟨.bl _,H,I.kept (t':=tk) λb o e=>k b o (λz=>?_)<|ak _ e,Y,q⟩;rw[af]at z;exact absurd (ag e) (by rw[z];exact aL _)
def OX(hc:X.calm=true):Q5 X (.builtin "any") (WC X.K λbs=>bs.any id):=by
 intro aS s σ H xs us Q I r h;obtain⟨a,bs,rfl,hq,q⟩:=h;obtain⟨u,rfl,ru⟩:=r.one;cases (show u=Value.ref a from ru);obtain⟨di,rv,p,hz⟩:=I.list hq;have lt:a≠s.heap.objs.size:=by obtain⟨o,n,e,_⟩:=p;exact au (ag e)
 have hh:X.A.in1.handled=none:=I.ok.hd hc;have hl:=p.isList;have len:=rv.length;rw[ai]at len;show call_any_walk (wpAny_pyIter_list hl ⟨_,_,_,_,_,_,λi=>bs[i]?.getD false,Y,Walks.list hh s.heap.objs.size a lt di.toArray,⟨⟨_,aB _ Y,Y,Y⟩,Heap.IsList.push hl _⟩,λi v s' Q' E' hv q'=>?_,λh' tk k=>?_⟩)
 . have hv:di.toArray[i]? = some v:=hv;rw[da]at hv;obtain⟨b,eb,rfl⟩:=Ln rv hv;have q':Q' (bs[i]?.getD false) s':=q';rw[eb]at q';exact wpAny_truthy_bool q'
 . rw[aA,<- len,Ni];show⟨.bl _,H,I.kept (t':=tk) λb o e=>k b o (λz=>?_)<|ak _ e,Y,q⟩;rw[af]at z;exact absurd (ag e) (by rw[z];exact aL _)
end
section
variable{prog:Program}{w:World}{A:Around}{E:w0e}{s:Shared}
end
section
variable{prog:Program}{w:World}{A:Around}{E:w0e}{s:Shared}
end
section
variable{prog:Program}{w:World}{A:Around}{E:w0e}{s:Shared}
end
def Q4(H H':Z):Prop:=∀p vs,H p=some (.tup vs)->H' p=some (.tup vs)
def Q4.trans(x:Q4 H H1)(y:Q4 H1 H2):Q4 H H2:=λp vs h=>y p vs (x p vs h)
def o6.t(x:o6 H H'):Q4 H H':=λp vs h=>x p _ h
def GE(Pd:Nat->V->Z->Prop)(ys:List V)(n:Nat)(H:Z):Prop:=ys.length=n/\∀j,j < n->∃u,ys[j]? = some u/\Pd j u H
section
variable{Pd Pe:Nat->V->Z->Prop}{ys:List V}{n:Nat}{H H':Z}{v:V}
def GE.nil:GE Pd [] 0 H:=⟨Y,λj h=>absurd h<|Nat.not_lt_zero j⟩
def GE.mono(h:GE Pd ys n H)(s:∀j u,j < n->Pd j u H->Pe j u H'):GE Pe ys n H':=⟨h.1,λj hj=>by
 obtain⟨u,e,p⟩:=h.2 j hj;exact⟨u,e,s j u hj p⟩⟩
theorem GE.at(h:GE Pd ys n H)(e:ys[j]? = some u):j < n/\Pd j u H:=by
 have hj:j < n:=by rw[<- h.1];exact(aP.mp e).1
 obtain⟨u',e',p⟩:=h.2 j hj;rw[e]at e';cases e';exact⟨hj,p⟩
end
def JL(Pd:Nat->V->Z->Prop)(n:Nat)(v:V)(H:Z):Prop:=∃p vs,v=.ref p/\H p=some (.tup vs)/\GE Pd vs n H
def Hd(K:aa)(Pd:Nat->V->Z->Prop)(n:Nat)(v:V)(H:Z):Prop:=∃S vs,Sr.ofV S v/\S.vals K H vs/\(∀H',o6 H H'->S.vals K H' vs/\Am K v H' vs.length)/\GE Pd vs n H
def JL.seq{K:aa}{Pd:Nat->V->Z->Prop}{n:Nat}{v:V}{H:Z}(h:JL Pd n v H):Hd K Pd n v H:=by obtain⟨p,vs,rfl,hp,e⟩:=h;exact⟨.tup p,vs,Y,y4.of hp,λH' q=>⟨y4.of<|q _ _ hp,.inr ⟨_,y4.of<|q _ _ hp,Y⟩⟩,e⟩
theorem JL.mono(h:JL Pd n v H)(s:Q4 H H')(m:∀j u,j < n->Pd j u H->Pe j u H'):JL Pe n v H':=by obtain⟨p,vs,rfl,hp,e⟩:=h;exact⟨p,vs,Y,s _ _ hp,e.mono m⟩
theorem Hd.mono{K:aa}{Pd Pe:Nat->V->Z->Prop}{n:Nat}{v:V}{H H':Z}(h:Hd K Pd n v H)(s:o6 H H')(m:∀j u,j < n->Pd j u H->Pe j u H'):Hd K Pe n v H':=by obtain⟨S,vs,e,hv,hs,he⟩:=h;exact⟨S,vs,e,(hs _ s).1,λH2 q=>hs _<|s.trans q,he.mono m⟩
def Hd.list{K:aa}{Pd:Nat->V->Z->Prop}{n:Nat}{p:Addr}{vs:List V}{H:Z}(hp:H p=some (.lst vs))(e:GE Pd vs n H):Hd K Pd n (.ref p) H:=
 ⟨.lst p,vs,Y,y8.of hp,λH' q=>⟨y8.of<|q _ _ hp,.inl ⟨_,y8.of<|q _ _ hp,Y⟩⟩,e⟩
def EM{J:It}{n k:Nat}{g:TG}{te:TE}{σ:St}{Q:VK}{H1:Z}(Pv:Nat->List V->Z->Prop)(hn:n<=1000)(h0:Pv 0 [] H1)(hl:∀i ys H,Pv i ys H->ys.length=i)
    (oB:∀i ys H,i < n->Pv i ys H->J.go i H/\∀x H',J.yld i H x H'->g x (σ++List.replicate k none) H' λσ2 H2=>(∃zs,σ2=σ++zs/\zs.length=k)/\te σ2 H2 λv H3=>Pv (i+1) (ys++[v]) H3)
    (gD:∀ys H,Pv n ys H->J.stop n H) (fR:∀ys H p,Pv n ys H->H p=none->Q (.ref p) (upd H p<|.lst ys)) :
    JN J k g te σ Q H1:=by
 have z:1000 < sizeLine:=by decide
 show⟨λi m ys H=>m=n - i/\i<=n/\Pv i ys H,⟨n,Y,aU _,h0⟩,?_⟩;rintro i m ys H ⟨rfl,hi,p⟩;have yl:=hl i ys H p;by_cases el:i < n
 . obtain⟨a,b⟩:=oB i ys H el p;show .inr ⟨a,oM,λx H' y=>?_⟩;have c:=b x H' y;have e:(λσ2 H2=>(∃zs,σ2=σ++zs/\zs.length=k)/\te σ2 H2 λv H3=>∃m',m' < n - i/\m'=n - (i+1)/\i+1<=n/\Pv (i+1) (ys++[v]) H3)=λσ2 H2=>(∃zs,σ2=σ++zs/\zs.length=k)/\te σ2 H2 λv H3=>Pv (i+1) (ys++[v]) H3:=by
    funext σ2 H2;congr 2;funext v H3;exact propext ⟨λ⟨_,_,_,_,q⟩=>q,λq=>⟨_,oM,Y,el,q⟩⟩
   rw[e];exact c
 . have e:i=n:=by omega
   subst e;exact .inl ⟨gD ys H p,oM,λq nq=>fR ys H q p nq⟩
end L2
namespace L2
open PySem Mine
def Dj(C:Addr)(fs:List (Str × V))(H:Z)(k:V):Prop:=∃p dx,k=.ref p/\H p=some (.ins C dx fs)
def Dj.same{C:Addr}{fs:List (Str × V)}{H H':Z}{k:V}(e:o6 H H')(h:Dj C fs H k):Dj C fs H' k:=by obtain⟨p,dx,rfl,h⟩:=h;exact⟨p,dx,Y,e _ _ h⟩
def Bs(C:Addr)(fs:List (Str × V))(S:SR)(is:Z->V->S.W->Prop)(f:S.W->S.W->S.W):Sp:=λvs H Q _=>∃k x y a b m n,vs=[k,x,y]/\
 (Dj C fs H k/\is H x a/\is H y b/\S.sz m a/\S.sz n b/\m+n<=60000000)/\∀v H',o6 H H'->is H' v (f a b)->Q v H'
def Br(C:Addr)(fs:List (Str × V))(S:SR)(is:Z->V->S.W->Prop)(z:S.W):Sp:=λvs H Q _=>∃k,vs=[k]/\Dj C fs H k/\∀v H',o6 H H'->is H' v z->Q v H'
def IL(C:Addr)(fs:List (Str × V))(S:SR)(is:Z->V->S.W->Prop):Sp:=λvs H Q _=>∃k x a,vs=[k,x]/\(Dj C fs H k/\is H x a)/\Q (.bl true) H
set_option genInjectivity false in
set_option genSizeOfSpec false in
structure o7(P:Program)(w:World)(K:aa)(mg:w0f)(base:Heap)where
 S:SR
 C:Addr
 fs:List (Str × V)
 cl:JM K C
 is:Z->V->S.W->Prop
 same:∀{H H':Z} {v:V} {x:S.W},Q4 H H'->is H v x->is H' v x
 isd:∀{H:Z} {v:V} {x:S.W},is H v x->Is K H v (S.data x)
 f_plus:Addr
 d_plus:FuncData
 t_plus:FT K C "plus" f_plus
 b_plus:E6 K d_plus ["self","x","y"] []
 l_plus:fs.lookup ("plus":Str)=none
 G_plus:∀{base:Heap},m8 P w K mg base C8 40 f_plus d_plus ["self","x","y"] (Bs C fs S is S.add)
 f_times:Addr
 d_times:FuncData
 t_times:FT K C "times" f_times
 b_times:E6 K d_times ["self","x","y"] []
 l_times:fs.lookup ("times":Str)=none
 G_times:∀{base:Heap},m8 P w K mg base C8 40 f_times d_times ["self","x","y"] (Bs C fs S is S.mul)
 f_nought:Addr
 d_nought:FuncData
 t_nought:FT K C "nought" f_nought
 b_nought:E6 K d_nought ["self"] []
 l_nought:fs.lookup ("nought":Str)=none
 G_nought:∀{base:Heap},m8 P w K mg base C8 40 f_nought d_nought ["self"] (Br C fs S is S.zero)
 f_is_weight:Addr
 d_is_weight:FuncData
 t_is_weight:FT K C "is_weight" f_is_weight
 b_is_weight:E6 K d_is_weight ["self","thing"] []
 l_is_weight:fs.lookup ("is_weight":Str)=none
 G_is_weight:∀{base:Heap},m8 P w K mg base C8 40 f_is_weight d_is_weight ["self","thing"] (IL C fs S is)
 f_one:Addr
 d_one:FuncData
 t_one:FT K C "one" f_one
 b_one:E6 K d_one ["self"] []
 l_one:fs.lookup ("one":Str)=none
 G_one:∀{base:Heap},m8 P w K mg base C8 40 f_one d_one ["self"] (Br C fs S is S.one)
def o7.re{P:Program}{w:World}{K:aa}{mg:w0f}{base:Heap}(R:o7 P w K mg base)(kY:Heap):o7 P w K mg kY:={ R with }
section
variable{P:Program}{w:World}{K:aa}{mg:w0f}{base:Heap}
def o7.neD(R:o7 P w K mg base){H:Z}{x y:V}{a b:R.S.W}{Q:VK}(hx:R.is H x a)(hy:R.is H y b)(e:a=b)(q:Q (.bl false) H):SW K x y H Q:=
 ⟨_,_,R.isd hx,R.isd hy,R.S.sh _,R.S.sh _,R.S.nm _ _,by subst e;rw[R.S.eq];exact q⟩
def o7.neT(R:o7 P w K mg base){H:Z}{x y:V}{a b:R.S.W}{Q:VK}(hx:R.is H x a)(hy:R.is H y b)(e:a≠b)(q:Q (.bl true) H):SW K x y H Q:=
 ⟨_,_,R.isd hx,R.isd hy,R.S.sh _,R.S.sh _,R.S.nm _ _,by rw[R.S.ne _ _ e];exact q⟩
def o7.eqD(R:o7 P w K mg base){H:Z}{x y:V}{a b:R.S.W}{Q:VK}(hx:R.is H x a)(hy:R.is H y b)(e:a=b)(q:Q (.bl true) H):WB K x y H Q:=
 ⟨_,_,R.isd hx,R.isd hy,R.S.sh _,R.S.sh _,R.S.nm _ _,by subst e;rw[R.S.eq];exact q⟩
end
def JY(H:Z)(v:V)(a b:Int):Prop:=∃p,v=.ref p/\H p=some (.tup [.int a,.int b])
def JY.same{H H':Z}{v:V}{a b:Int}(e:Q4 H H')(h:JY H v a b):JY H' v a b:=by obtain⟨p,rfl,h⟩:=h;exact⟨p,Y,e _ _ h⟩
def JY.is{K:aa}{H:Z}{v:V}{a b:Int}(h:JY H v a b):Is K H v (.tuple [.int a,.int b]):=by obtain⟨p,rfl,h⟩:=h;exact .tup (y4.of h) (.cons (.int _)<|.cons (.int _) .nil)
def JY.new{H:Z}{p:Addr}{a b:Int}:JY (upd H p<|.tup [.int a,.int b]) (.ref p) a b:=⟨p,Y,c8⟩
def MS(H:Z)(v:V)(x:Fr):Prop:=JY H v x.t x.b
def MR(p:Int)(_:Z)(v:V)(x:Re p):Prop:=v=.int x.x
def cV:Option Int->V
 | none=>.non
 | some i=>.int i
def MT(_:Z)(v:V)(x:Option Int):Prop:=v=cV x
def MQ(_:Z)(v:V)(x:Bool):Prop:=v=.bl x
def Om(p:Int):List (Str × V):=AO "prime" (.int p) []
def DB(p:Int):(Om p).lookup ("prime":Str)=some (.int p):=by unfold Om;rw[V0,if_pos rfl]
def Ff(p:Int){m:Str}(h:¬m="prime"):(Om p).lookup m=none:=by unfold Om;rw[V0,if_neg h];rfl
def Bd{H:Z}{C x dx:Addr}{fs:List (Str × V)}(n:H x=none)(m:H dx=none):o6 H (upd (upd H dx<|.own x) x<|.ins C dx fs):=λb o e=>by
 rw[k9<|l9 e n,k9<|l9 e m];exact e
def OT(xs:List V)(k:Nat):Ai xs none (some (k:Int))=xs.take k:=by
 unfold Ai;rw[HT.IT,HT.Lz,List.drop_zero,Nat.sub_zero];by_cases h:k<=xs.length
 . rw[Nat.min_eq_left h]
 . rw[Nat.min_eq_right oM,bI,cJ oM]
def decI{i j:Int}(e:i=j):decide (V.int i=V.int j)=true:=decide_eq_true (congrArg V.int e)
def IJ{x:Int}{n:Nat}(h:x.natAbs<=2 ^ n):Builtin.Int.intBits x<=n+1:=intBits_le_iff.mpr (cg h<|Nat.pow_lt_pow_right bD<|bJ _)
def Gn{x y:Int}{m n:Nat}(h1:x.natAbs<=2 ^ m)(h2:y.natAbs<=2 ^ n)(h:m+n<=60000000):Ej x y:=by
 have a:=IJ h1;have b:=IJ h2;show _<=2 ^ 27;have e:(2:Nat) ^ 27=134217728:=by decide
 omega
section
variable{P:Program}{w:World}{K:aa}{mg:w0f}{base:Heap}{R:o7 P w K mg base}{h n m:Nat}{x:Hp R.S}{y:w0a R.S}{v:V}{H H':Z}
end
end L2
namespace Mine
def sm(S:SR)(f:Hp S):Hp S
 | 0=>S.zero
 | n+1=>S.add (sm S f n) (f n)
section
variable{S:SR}
theorem AA:∀{n:Nat},(∀i,i < n->f i=g i)->sm S f n=sm S g n
 | 0,_=>rfl
 | n+1,h=>by
  show S.add _ _=S.add _ _;rw[AA λi hi=>h i<|cY hi,h n<|bJ n]
end
def Pk(S:SR){α:Type}(f:α->S.W):List α->S.W
 | []=>S.zero
 | a::l=>S.add (f a) (Pk S f l)
section
variable{S:SR}{α β:Type}
def zero_add(x:S.W):S.add S.zero x=x:=by rw[S.add_comm,S.add_zero]
def one_mul(x:S.W):S.mul S.one x=x:=by rw[S.mul_comm,S.mul_one]
def zero_mul(x:S.W):S.mul S.zero x=S.zero:=by rw[S.mul_comm,S.mul_zero]
end
def hd(w:w0g):Nat:=w.headD 0
def la(w:w0g):Nat:=w.getLastD 0
section
variable(S:SR)(n:Nat)(st:Hp S)(tb:w0b S)(wd:Nat->Nat)
variable{S n st tb wd}
end
end Mine
namespace L2
open PySem PySem.Spec PyProof.Rows
def sg1(z:Str)(i:Nat):Str:=⟨#[(z.cps[i]?).getD 0]⟩
def met(z:Str)(i:Nat)(k:Str):Bool:=(List.range i).any λj=>k == sg1 z j
section
variable{prog:Program}{w:World}{A:Around}{R:Result->Shared->Prop}{I:Addr}{fp wr:List Addr}{G:Array GenState->Array GenState->Prop}{St:Nat->Shared->Prop}
end
section
variable{prog:Program}{w:World}{A:Around}{E:w0e}{s:Shared}
set_option maxRecDepth 100000 in
end
def Ob(z:Str):Str:=⟨z.cps.toList.reverse.toArray⟩
def IM(z:Str)(uk:Tok):Txt.sliceBy z none none (-1,uk)=Ob z:=by
 unfold Txt.sliceBy;rw[if_neg<|by simp];show(⟨((Builtin.Str.strSliceIndices none none (-1) z.length).filterMap (z.cps[·]?)).toArray⟩:Str)=_;have e:Builtin.Str.strSliceIndices none none (-1) z.length=(List.range z.cps.size).reverse:=by show sliceRange ((z.length:Int) - 1) (-1) (-1)=_;rw[PySem.W.krv_sliceRange,PySem.W.krv_range];rfl
 rw[e,List.filterMap_reverse,PySem.W.krv_all];rfl
def Ky{X:Cx}{e st:Expr}{te ts:TE}{p2 pos:Pos}(he:PE X e te)(hR:PE X st ts):PE X (.Subscript e (.Slice none none (some st) p2) pos) (λσ H Q=>te σ H λx H1=>ts σ H1 λy H2=>∃z,x=.str z/\y=.int (-1)/\z.length<=sizeLine/\Q (.str<|Ob z) H2):=by
 intro aS s σ H Q I h;show Subscript_<|y6 (he aS s σ H _ I h) λv s1 ⟨x,H1,I1,r1,q1⟩=>?_;show wpAny_Slice ?_;rw[evalPart_none];show wpAny_pure ?_;show wpAny_pure ?_;show wpAny _ _ (eval st X.env) _ _ _;show y6 (hR aS s1 σ H1 _ I1 q1) λvk s2 ⟨y,H2,I2,r2,z,ex,ey,hz,q⟩=>?_;subst ex ey;obtain⟨t,rfl⟩:=r1;obtain⟨uk,rfl⟩:=r2;have I4:j9 X aS σ H2 { s2 with heap:=s2.heap.push { cls:=.type "slice",data:=.fields #[.none,.none,.int (-1) uk] } }:=I2.kept (t':=s2.toks) λb ob q=>ak _ q;show tail_any (T:="str") (ops:=[.ref s2.heap.objs.size,.str z t]) (typeIs_str _ _ _) F.slot_str_getitem.lookup (wpAny_getItem_str_slice (l:=none) (u:=none) (st:=some (-1,uk)) ⟨_,aB _ Y,Y,Y⟩ Y
  (post_val_or_str ⟨aj (Txt.sliceBy_le z none none (-1,uk)<|show(-1:Int)≠0 by decide) hz,λt' c=>?_⟩)) (by with_unfolding_all rfl)
 have e:=IM z uk;unfold Txt.sliceBy at e;rw[e];exact⟨.str<|Ob z,H2,I4.tok _,⟨_,Y⟩,q⟩
end L2
namespace HT
open PySem PySem.Spec PyProof.Rows L2
section
variable{prog:Program}{w:World}{A:Around}{E:w0e}{s:Shared}
def CW{t sl:Addr}{items:Array Value}{vl vu:Value}{lo hi:Option Int}{Q:w0e}(ht:IsTup s.heap t items)(hs:s.heap.IsSliceOf sl vl vu .none)(pl:IsPart vl lo)(pu:IsPart vu hi)
    (hw:O2 items.size 0 lo=0/\O2 items.size items.size hi=items.size) (h:Q (.ref t) s):wpAny (model prog w) A (getItem (.ref t)<|.ref sl) Q E s:=by
 obtain⟨os,jg,jG,kB⟩:=id hs;have oO:s.TypeIs (.ref sl) "slice":=⟨os,jg,jG⟩;unfold getItem
 try with_reducible show wpAny_holding ?_
 first | show wpAny_bind (wpAny_pure ?_) | skip
 show wpAny_bind<|wpAny_sequenceKey ht.typeIs bD ?_;show wpAny_bind (wpAny_callSpecial?_slot (name:=Str.ofString "__getitem__") ht.typeIs cU
  (wpAny_call_entry cU ht.typeIs entry_tuple_getitem ?_<|args_tuple_getitem _ _))
 show wpAny _ _ (Builtin.Tuple.tupleItemsOf (.ref t) >>= _) _ _ s;show wpAny_bind<|tupleItemsOf_ ht ?_;show wpAny_bind<|wpAny_typeOf oO ?_;rw[if_pos bD];show wpAny_bind<|X2 hs pl pu ?_;rw[hw.1,hw.2];have nQ:((((0:Nat):Int) == 0 && (1:Int) == 1 && (items.size - 0) == items.size)=true):=by simp
 show wpAny _ _ (if((((0:Nat):Int) == 0 && (1:Int) == 1 && (items.size - 0) == items.size)=true)then _ else _) _ _ s;rw[if_pos nQ];show wpAny_bind<|wpAny_bind (m:=typeOf<|.ref t)<|wpAny_typeOf ht.typeIs<|wpAny_pure ?_;rw[if_pos bD];show wpAny_bind<|wpAny_rule ?_;exact wpAny_pure ⟨_,rfl,wpAny_pure h⟩
end
end HT
namespace L2
open PySem PySem.Spec PyProof.Rows
def WA(K:aa):V->Option Int->Option Int->Z->VK->Prop:=λx lo hi H Q=>∃a xs,x=.ref a/\y4 K H a xs/\H a=some (.tup xs)/\
 ∀p H',o6 H H'->H' p=some (.tup<|Ai xs lo hi)->Q (.ref p) H'
def EJ:QS X (WA X.K):=by
 intro aS s σ H x v vl vu lo hi sl Q I rx hs pl pu h;obtain⟨a,xs,rfl,hx,gi,q⟩:=h;by_cases hw:HT.O2 xs.length 0 lo=0/\HT.O2 xs.length xs.length hi=xs.length
 . cases rx;obtain⟨di,r,ht,hz⟩:=I.tuple hx;have dE:di.toArray.size=xs.length:=by rw[aA];exact r.length.symm
   show⟨"tuple",_,PyProof.Rows.slot_tuple_getitem.lookup,ht.typeIs,?_⟩;show HT.CW ht hs pl pu (by rw[dE];exact hw) ?_;show⟨.ref a,H,I,Y,q a H (o6.refl _) ?_⟩;rw[gi];unfold Ai;rw[hw.1,hw.2,Nat.sub_zero,List.drop_zero,bI]
 . exact RP aS s σ H _ v vl vu lo hi sl Q I rx hs pl pu ⟨a,xs,Y,hx,hw,λp n=>q p _ (j6 n) c8⟩
end L2
namespace L2
open PySem PySem.Spec PyProof.Rows PySem.W
section
variable{X:Cx}{aS:w0d}{σ:St}{H:Z}{s:Shared}{a:Addr}{bY:List (E5 × V)}
end
def KV.at{κ:Type}{bY:List (κ × V)}{vs:List (κ × Value)}(r:KV bY vs){i:Nat}{p:κ × V}(h:bY[i]? = some p):∃v,vs[i]? = some (p.1,v):=by
 induction r generalizing i with
 | nil=>cases h
 | cons e _ ih=>
  cases i with
  | zero=>cases h;exact⟨_,by rw[List.getElem?_cons_zero];exact congrArg some<|Prod.ext e.1.symm Y⟩
  | succ i=>exact ih h
section
variable{X:Cx}{tg:Expr}
end
section
variable{X:Cx}
end
structure M0(X:Cx)(o:Expr)(m:Str)(dC dz:Pos):Prop where
 base:attributeBase o m X.env (eval o X.env)=eval o X.env
 few:((backTo dz<|starEach [] X.env).all (λx=>!x.1) && (backToKw dz<|keywordEach [] X.env).all (λx=>x.1.isSome)
  && decide (([]:List Expr).length+([]:List Keyword).length+(if([]:List Keyword).isEmpty then 0 else 1) < 30))=true
 line:(dC.endLine == dz.line)=true
end L2
namespace L2
open PySem PySem.Spec PyProof.Rows
def Qt(bY:List (Str × Int)):List (E5 × V):=bY.map λp=>(Sum.inr p.1,V.int p.2)
structure Pi(P:Program)(w:World)(K:aa)(a:Addr)(bY:List (Str × Int)):Prop where
 ns:(a == sysModules)=false
 of:∃vs,KV (Qt bY) vs/\∀h,K.In h->h.DictOf (B6 P w) a vs
def tGK(a:Addr)(bY:List (Str × Int))(td ty:TE):TE:=λσ H Q=>td σ H λx H1=>ty σ H1 λy H2=>∃z v,x=.ref a/\y=.str z/\y7 (Qt bY) (.inr z)=some v/\Q v H2
section
variable{X:Cx}{o i:Expr}{pos:Pos}{td ty:TE}{a:Addr}{bY:List (Str × Int)}
def WE(D:Pi X.prog X.w X.K a bY)(ho:PE X o td)(hi:PE X i ty)(hs:UF i):PE X (.Subscript o i pos) (tGK a bY td ty):=by intro aS s σ H Q I h;show Lq PySem.F.slot_dict_getitem.lookup hs<|y6 (ho aS s σ H _ I h) λu s1 ⟨x,H1,I1,rx,q1⟩=>y6 (hi aS s1 σ H1 _ I1 q1) λiv s2 hζ=>?_;obtain⟨y,H2,I2,ry,z,v,ex,ey,l,q2⟩:=hζ;subst ex;subst ey;obtain rfl:u=Value.ref a:=rx;obtain⟨vs,rel,dd⟩:=D.of;have dd:=dd _ I2.kIn;obtain⟨w',hw,fM⟩:=Al.some_of (v:=v) (o:=valueAt vs<|.inr z) (by rw[<- l];exact rel.val<|.inr z);exact⟨dd.typeIs,wpAny_getItem_of (GS (k:=.inr z) ry) dd.mapOf hw ⟨v,H2,I2.tok _,fM,q2⟩⟩
end
end L2
namespace L2
open PySem PySem.Spec PyProof.Rows PySem.Builtin PySem.Builtin.Str
section
variable{X:Cx}
end
section
variable{X:Cx}
theorem ID:∀{ls:w0h} {di:w0i},o8 (ls.map V.str) di->∃l:List (Str × Tok),di=strValues l/\l.map (·.1)=ls
 | [],_,.nil=>⟨[],Y,Y⟩
 | x::ls,_,.cons r rs=>by
  obtain⟨t,rfl⟩:=r;obtain⟨l,rfl,e⟩:=ID rs;exact⟨(x,t)::l,Y,by rw[aM,e]⟩
def Ri(K:aa):V->List V->Z->VK->Prop:=λx xs H Q=>∃z a ls,x=.str z/\xs=[.ref a]/\y8 K H a (ls.map V.str)/\JoinOk z ls=true/\Q (.str<|Txt.join z ls) H
def Qs:UZ X "str.join" (Ri X.K):=by intro aS s σ H x xs v us Q I rx rs h;obtain⟨z,a,ls,rfl,rfl,hq,ok,q⟩:=h;obtain⟨t,rfl⟩:=rx;obtain⟨u,rfl,ru⟩:=rs.one;cases (show u=Value.ref a from ru);obtain⟨di,rv,p,hz⟩:=I.list hq;obtain⟨l,rfl,e⟩:=ID rv;exact PySem.SC.join (l:=l) p.isList e ok λt' k=>⟨.str _,H,I.tok _,⟨_,Y⟩,q⟩
end
end L2
namespace HT
open PySem PyProof.Rows
section
open PySem.SeqAt
open PySem.AutoSeq1 (wpAny_loadPart')
open PySem.MeetsSeq PySem.MeetsSeq2 PySem.MeetsSeq3
end
end HT
namespace L2
open PySem PySem.Spec PyProof.Rows PySem.SeqAt
section
variable{X:Cx}
end
end L2
namespace L2
open PySem PySem.Spec PyProof.Rows PySem.W
structure Tb(mg:w0f)(h:Heap)(c P:Addr):Prop where
 cd:CodeHd h c P
 bl:h.BuiltinsAt mg P
 gl:mainGlobals≠P
section
variable{P:Program}{w:World}{H:Z}{h h':Heap}{p:Addr}{ps qs:Array Value}
def R6.tab(x:R6 P w H h)(hp:H p=some (.tbl ps))(hx:Heap.ExtBut p h h')(e:h'.get? p=some (tabObj qs)):R6 P w (upd H p<|.tbl qs) h':=λb u q=>by
 have own:∀c a,H c=some (.own a)->upd H p (.tbl qs) c=some (.own a):=λc a z=>by rw[k9<|Ee z hp<|by simp];exact z
 have tup:∀c xs,H c=some (.tup xs)->upd H p (.tbl qs) c=some (.tup xs):=λc xs z=>by rw[k9<|Ee z hp<|by simp];exact z
 by_cases hb:b=p
 . subst hb;rw[c8]at q;cases q;exact e
 . rw[k9 hb]at q;show(x b u q).stay (λc o hc z=>hx c o ?_ z) (λc z=>own c b z) tup;rcases hc with rfl | hc
   . exact hb
   . exact Ee hc hp (by simp)
def Un.tab(hp:H p=some (.tbl ps))(hx:Heap.ExtBut p h h')(e:h'.get? p=some (tabObj<|ps++qs)):Un fs ex H (upd H p<|.tbl<|ps++qs) h h' where
 keep:=λb o q n _ _=>hx b o (λz=>by rw[z,hp]at n;cases n) q
 slot:=λb o q n _ _=>⟨o.slots,hx b o (λz=>by rw[z,hp]at n;cases n) q⟩
 free:=λb o q n _=>by rw[k9<|λz=>by rw[z,hp]at n;cases n];exact n
 there:=λb o q _=>by
  by_cases hb:b=p
  . exact⟨_,hb▸e⟩
  . exact⟨o,hx b o hb q⟩
 tups:=λb xs z=>by rw[k9<|Ee z hp<|by simp];exact z
 frzs:=λb o u z=>by rw[k9<|Ee z hp<|by simp];exact z
 tbls:=λb xA z=>by
  by_cases hb:b=p
  . subst hb;rw[hp]at z;cases z;exact⟨qs,c8⟩
  . exact⟨#[],by rw[k9 hb,z];simp⟩
end
section
variable{X:Cx}{aS:w0d}{σ:St}{H:Z}{s:Shared}
theorem Tb.keeps(t:Tb mg h c P)(k:∀b o,h.get? b=some o->h'.get? b=some o):Tb mg h' c P:=
 ⟨t.cd.keeps k,let⟨bm,o,a1,a2,a3,a4,a5,r⟩:=t.bl;⟨bm,o,a1,a2,a3,a4,k _ _ a5,r⟩,t.gl⟩
def FM(hx:Heap.ExtBut P h h'):Heap.ExtBut P h (h'.push o):=λb u hb e=>ak _ (hx b u hb e)
end
def Ru(ts:List Addr)(H:Z):Prop:=∀p∈ts,H p=some (.tbl #[])
def ES{K:Frag}{x qual:Str}{st:Stmt}{f c P:Addr}{fd:FuncData}{oc:Value}{od:Option Addr}{fW:Array (Option Value)}(ht:tabIn K x=some (c,P))(hn:nsIn K mainGlobals x=some (some<|.ref f))(lk:K.lookup f=some ⟨oc,od,.func fd,fW⟩):fd.code=.ref c:=by
 unfold tabIn at ht;rw[hn]at ht;simp only[lk]at ht;split at ht
 . rename_i c₂ hc;split at ht
   . split at ht
     . cases ht;exact hc
     . cases ht
   . cases ht
 . cases ht
section
variable{P:Program}{w:World}{K:aa}{mg:w0f}{base:Heap}
def FV.okC{x qual:Str}{st:Stmt}{f c p:Addr}{fd:FuncData}{N ps:w0h}{k:Nat}{sp:Sp}(F:FV K x qual st f fd)(S:j0 N ps (c5 st))(ht:tabIn K x=some (c,p))(hn:nsIn K mainGlobals x=some (some<|.ref f))(len:∀vs H Q E,sp vs H Q E->vs.length=ps.length)
    (dw:∀(A:Around) (outer:List Env) (s:Shared) (H:Z) (vs:List V) (Q:VK) (E:XK),z4 k (A.deeper<|envOfC qual (c5 st) s.heap.objs.size f<|.ref c)->sp vs H Q E->
     ∃t,GD (FO C8 P w K mg base N qual (c5 st) f (.ref c) A outer s H E).nox (p9 st) t/\t { nx:=λ_ H'=>Q .non H',rt:=Q } (An N vs) H):m8 P w K mg base C8 (k+1) f fd ps sp:=by
 obtain⟨oc,od,kV,dF,pm,an,dR,ct,fW,rfl,lk,fi⟩:=F.ex;have hc:dR=.ref c:=ES (st:=st) (qual:=qual) ht hn lk;subst hc;show LJ lk fi S len λA outer s H vs Q E hr eX=>?_;obtain⟨t,h,q⟩:=dw A outer s H vs Q E hr eX;exact⟨t,h.nox,q⟩
end
def MK{P:Program}{w:World}{K:aa}{mg mb:w0f}{CX:Mb}{k:Nat}{fa a:Addr}{fd:FuncData}{x:Str}{sp:Sp}{s₁:Shared}{vs:w0i}{ns:List Int}{tabs:List (Addr × Addr)}
    (KX:K.In s₁.heap) (iC:s₁.heap.Ns mainGlobals mg) (hb:s₁.heap.Ns builtinsNs mb) (wB:∀x:Str,x≠"__name__"->mb x=bootBuiltins x) (oj:s₁.heap.NoLimit) (ib:s₁.heap.NoSeer) (hg:s₁.gens=#[])
    (ha:s₁.heap.get? a=some { cls:=.type "list",data:=.seq vs.toArray }) (hi:IntsAre vs ns) (hl:ns.length<=sizeLine) (hr:z4 k callerA)
    (hT:∀q∈tabs,Tb mg s₁.heap q.1 q.2/\s₁.heap.TableAt q.1 q.2 #[]/\K.lookup q.2=none)
    (F:∀base:Heap,K.In base->base.Ns mainGlobals mg->(∀q∈tabs,Tb mg base q.1 q.2)->m8 P w K mg base CX k fa fd [x] sp) (dH:∀(s:Shared) (u:Value),BindsTo s fd ⟨[u],[]⟩ [(x,u)])
    (eX:∀H:Z,Ru (tabs.map (·.2)) H->y8 K H a (ns.map V.int)->sp [.ref a] H (λv _=>v=.bl true) λ_ _ _=>False)
    (oU:∀H e s',CX [] H s₁ (λ_ _ _=>False) e s'->False) :
    codeAny (model P w) callerA (.call (.ref fa) ⟨[.ref a],[]⟩) (λr s'=>r=.ok (.ret<|.bool true)/\OldK s₁.heap s'.heap/\s'.os=s₁.os/\AllBare s'.gens) s₁:=by
 have rv:=GF hi;have nJ:=hi.length;have jo:∀p∈tabs.map (·.2),s₁.heap.get? p=some (tabObj #[])/\K.lookup p=none/\∃c,s₁.heap.TableAt c p #[]:=λp hp=>by
  obtain⟨q,hq,rfl⟩:=bE.mp hp;exact⟨(hT q hq).2.1.2,(hT q hq).2.2,_,(hT q hq).2.1⟩
 have kU:∀H:Z,(∀b,H b=none\/(∃o xs,H b=some (.frz o<|.lst xs)/\b=a/\K.lookup a=none)\/(H b=some (.tbl #[])/\b∈tabs.map (·.2)))->Ru (tabs.map (·.2)) H->y8 K H a (ns.map V.int)->R6 P w H s₁.heap->
     codeAny (model P w) callerA (.call (.ref fa) ⟨[.ref a],[]⟩) (λr s'=>r=.ok (.ret<|.bool true)/\OldK s₁.heap s'.heap/\s'.os=s₁.os/\AllBare s'.gens) s₁:=by
  intro H hO wK hS hok;have eG:∀{b:Addr} {o:Obj},s₁.heap.get? b=some o->H b=none->(Gz s₁.heap H).get? b=some o:=λe n=>OJ e n;have nM:∀{b:Addr} {o:Obj},s₁.heap.get? b=some o->o.cls≠.none->o.cls≠.type "list"->H b=none:=λ{b o} e c1 c2=>by
   rcases hO b with z | ⟨_,_,_,rfl,_⟩ | ⟨_,hm⟩
   . exact z
   . rw[ha]at e;cases e;exact absurd rfl c2
   . rw[(jo _ hm).1]at e;cases e;exact absurd rfl c1
  have fA:∀{b:Addr} {o:Obj} {es:Array DictEntry} {ep:Nat},s₁.heap.get? b=some o->o.data=.dict es ep->H b=none:=λ{b o es ep} e d=>by
   rcases hO b with z | ⟨_,_,_,rfl,_⟩ | ⟨_,hm⟩
   . exact z
   . rw[ha]at e;cases e;cases (show Data.seq vs.toArray _=Data.dict es ep from d)
   . rw[(jo _ hm).1]at e;cases e;cases (show Data.fields #[]=Data.dict es ep from d)
  have iy:∀{b:Addr} {m:w0f},s₁.heap.Ns b m->(Gz s₁.heap H).Ns b m:=λ{b m} ⟨o,es,ep,e,d,r⟩=>⟨o,es,ep,eG e<|fA e d,d,r⟩;have qy:K.In (Gz s₁.heap H):=λb o e=>eG (KX b o e) (by
   rcases hO b with z | ⟨_,_,_,rfl,hk⟩ | ⟨_,hm⟩
   . exact z
   . rw[hk]at e;cases e
   . rw[(jo _ hm).2.1]at e;cases e)
  have ty:∀{x y:String},x≠y->Value.type x≠Value.type y:=λn z=>by injection z with z;exact n z
  have hM:Mod K mg (Gz s₁.heap H):=⟨qy,iy iC,⟨mb,iy hb,wB⟩,let⟨mc,h1,h2⟩:=oj;⟨mc,iy h1,h2⟩,⟨let⟨mc,h1,h2⟩:=ib.statics;⟨mc,iy h1,h2⟩,let⟨mc,h1,h2⟩:=ib.mods;⟨mc,iy h1,h2⟩,let⟨mc,h1,h2⟩:=ib.imp;⟨mc,iy h1,h2⟩,by
    obtain⟨ve,bm,ob,n1,n2,n3,n4,n5⟩:=ib.main;exact⟨ve,bm,ob,iy n1,n2,eG n3 (nM n3 (by rw[n4];nofun)<|by rw[n4];exact ty bD),n4,n5⟩⟩⟩
  have e0:DR P w K mg (Gz s₁.heap H) callerA [] s₁ H:=⟨Y,hM,λb o e=>Qk e,Nat.le_of_eq<|MV _ _,trivial,λb hb=>absurd (show b∈([]:List Addr)from hb) (by simp),hok,.of_eq hg⟩;have dA:∀q∈tabs,Tb mg (Gz s₁.heap H) q.1 q.2:=λq hq=>by
   obtain⟨o,ws,oY,tf,kP,tg,vg,mX,tt,e1,r1,r2⟩:=(hT q hq).1.cd;obtain⟨bm,ob,a1,a2,a3,a4,a5,a6,a7⟩:=(hT q hq).1.bl;exact⟨⟨o,ws,oY,tf,kP,tg,vg,mX,tt,eG e1 (nM e1 (by rw[r1];nofun)<|by rw[r1];exact ty bD),r1,r2⟩,⟨bm,ob,a1,a2,a3,a4,eG a5 (nM a5 (by rw[a6];nofun)<|by rw[a6];exact ty bD),a6,a7⟩,(hT q hq).1.gl⟩
  show codeAny_mono ((F _ qy (iy iC) dA).run callerA [] s₁ H ⟨[.ref a],[]⟩ [.ref a] [.ref a] _ _ hr e0 (dH s₁<|.ref a) (.cons Y .nil)<|eX H wK hS) λr s' h=>?_;cases r with
  | error e=>exact(oU H e s' h).elim
  | ok fl=>
   cases fl with
   | next=>exact False.elim h
   | brk=>exact False.elim h
   | cont=>exact False.elim h
   | ret u=>
    obtain⟨v,H',os,bare,un,hok',r',q⟩:=h;have q':v=.bl true:=q;subst q';obtain rfl:u=Value.bool true:=r';show⟨Y,⟨λb o e=>?_,λb o e=>un.there b o e<|by simp⟩,os,bare⟩;rcases hO b with z | ⟨ob,xs,z,_,_⟩ | ⟨z,hm⟩
    . exact .inl (un.keep b o e z (by intro z;exact absurd (show b∈([]:List Addr)from z)<|by simp)<|by simp)
    . have z2:=un.frzs b ob _ z;obtain⟨e1,_⟩:=hok b _ z;obtain⟨e2,_⟩:=hok' b _ z2;rw[e]at e1;cases e1;exact .inl e2
    . obtain⟨g1,_,c,g3⟩:=jo b hm;rw[g1]at e;cases e;obtain⟨more,z2⟩:=un.tbls b _ z;exact .inr (.inl ⟨g3.isCodeTable,Y,#[],more,Y,hok' b _ z2⟩)
 have aT:a ∉ tabs.map (·.2):=λz=>by have e:=(jo a z).1;rw[ha]at e;cases e
 cases hk:K.lookup a with
 | some o=>
  have e:=KX a o hk;rw[ha]at e;cases e;show kU (λb=>if b∈tabs.map (·.2)then some (.tbl #[])else none) (λb=>?_) (λp hp=>if_pos hp) (.inr ⟨_,vs.toArray,_,hk,Y,Y,Y,by rw[aA,nJ];exact hl,by simpa using rv⟩) λb u z=>?_
  . by_cases hb:b∈tabs.map (·.2)
    . exact .inr (.inr ⟨if_pos hb,hb⟩)
    . exact .inl (if_neg hb)
  . by_cases hb:b∈tabs.map (·.2)
    . have z':=(if_pos hb).symm.trans z;cases z';exact(jo b hb).1
    . have z':=(if_neg hb).symm.trans z;cases z'
 | none=>
  show kU (λb=>if b=a then some (.frz { cls:=.type "list",data:=.seq vs.toArray }<|.lst<|ns.map V.int)else if b∈tabs.map (·.2)then some (.tbl #[])else none) (λb=>?_) (λp hp=>?_) (.inl<|.inr ⟨{ cls:=.type "list",data:=.seq vs.toArray },if_pos Y⟩) λb u z=>?_
  . by_cases hb:b=a
    . exact .inr (.inl<|za ⟨if_pos hb,hb,hk⟩)
    . by_cases fj:b∈tabs.map (·.2)
      . exact .inr (.inr ⟨(if_neg hb).trans<|if_pos fj,fj⟩)
      . exact .inl ((if_neg hb).trans<|if_neg fj)
  . exact(if_neg (λe:p=a=>aT<|by rw[<- e];exact hp)).trans (if_pos hp)
  . by_cases hb:b=a
    . have z':=(if_pos hb).symm.trans z;cases z';subst hb;exact⟨ha,by rw[ai];exact hl,vs,_,rv,ha⟩
    . have z':=(if_neg hb).symm.trans z;by_cases fj:b∈tabs.map (·.2)
      . have z2:=(if_pos fj).symm.trans z';cases z2;exact(jo b fj).1
      . have z2:=(if_neg fj).symm.trans z';cases z2
def Gm{K:Frag}(hK:noTabs K=true){P:Addr}{h:Heap}{ps:Array Value}(X:K.In h)(e:h.get? P=some (tabObj ps)):K.lookup P=none:=by
 cases q:K.lookup P with
 | none=>rfl
 | some o=>
  have e2:=X _ _ q;rw[e]at e2;cases e2;have h2:=ck.mp hK (P,tabObj ps)<|mem_of_lookupK q;exact absurd (show false=true from h2) aG
def Nw{l:PySem.W.OpenLaw}{n k:Nat}{q:Program}{loose:w0h}{XP:w0f->Heap->Prop}{YP:World->Heap->Prop}{d:DefRec}{K:Params->aa}{CX:Mb}{sp:aa->Sp}{x:Str}(jw:w0h)
    (hn:l.most=some n) (lN:n<=sizeLine) (oJ:d.params.defaults=[]) (hr:z4 k callerA) (hq:importsNone q=true)
    (hY:∀(w:World) (h:Heap),YP w h->(K w.params).In h)
    (vR:∀w:World,noTabs (K w.params)=true) (fh:∀y∈jw,((recsOf q).find?<|λe=>e.name == y).isSome=true)
    (F:∀(w:World) (mg:w0f) (fa:Addr) (h:Heap),(K w.params).In h->h.Ns mainGlobals mg->mg d.name=some (.ref fa)->
     ∃fd:FuncData,(∀(s:Shared) (u:Value),BindsTo s fd ⟨[u],[]⟩ [(x,u)])/\
      ∀base:Heap,(K w.params).In base->base.Ns mainGlobals mg->(∀y∈jw,∀c P,tabIn (K w.params) y=some (c,P)->Tb mg base c P)->m8 l.prog w (K w.params) mg base CX k fa fd [x] (sp<|K w.params))
    (eX:∀(K:aa) (H:Z) (a:Addr) (ns:List Int),ns.length<=n->(∀y∈jw,∀c P,tabIn K y=some (c,P)->H P=some (.tbl #[]))->y8 K H a (ns.map V.int)->sp K [.ref a] H (λv _=>v=.bl true) λ_ _ _=>False)
    (oU:∀(H:Z) (s:Shared) (e:Value) (s':Shared),CX [] H s (λ_ _ _=>False) e s'->False) :
    PySem.W.WalkO q loose XP YP l.row.toRowW d [] (λf vs=>PySem.call f vs):=by
 show Att.JK hn oJ λw s₀ s₁ mg mb fa o pm cd dF a vs ns G a1a ho hd fi ko jh gI dE hg=>?_;have KX:=hY w _ a1a;obtain⟨fd,hb,hF⟩:=F w mg fa _ KX G.T.g ko;have kq:∀{y c P},y∈jw->tabIn (K w.params) y=some (c,P)->(c,P)∈jw.filterMap (tabIn<|K w.params):=λhy ht=>cz.mpr ⟨_,hy,ht⟩;show MK (tabs:=jw.filterMap<|tabIn<|K w.params) KX G.T.g G.T.b G.T.builtins G.T.nolimit (G.T.seer hq) hg jh gI (aj dE lN) hr (λt ht=>?_) (λbase kb nb hT=>hF base kb nb λy hy c P e=>hT (c,P)<|kq hy e) hb (λH hO hS=>eX (K w.params) H a ns dE (λy hy c P e=>hO P<|bE.mpr ⟨(c,P),kq hy e,Y⟩) hS) λH e s'=>oU H s₁ e s';obtain⟨y,hy,ht⟩:=cz.mp ht;obtain⟨c,P⟩:=t;obtain⟨r,gF⟩:=df.mp<|fh y hy;obtain⟨C,e⟩:=tab_of G.T KX gF ht;obtain⟨bm,ob,b1,b2,b3,b4,b5,b6⟩:=G.T.bmain;have gP:mainGlobals≠P:=λz=>by
  obtain⟨o',es,ep,e',eU,_⟩:=G.T.g;rw[z,e]at e';cases e';cases eU
 have bP:bm≠P:=λz=>by
  rw[z,e]at b3;cases b3;cases b4
 have bG:bm≠mainGlobals:=λz=>by
  obtain⟨o',es,ep,e',eU,_⟩:=G.T.g;rw[z,e']at b3;cases b3;rw[b6]at eU;cases eU
 exact⟨⟨C,⟨bm,ob,b1,b2,bG,bP,b3,b4,b5,b6⟩,gP⟩,C.tab e,Gm (vR w) KX e⟩
def JD(qual:Str)(scope:Scope)(L a:Addr)(cd:Value)(dq:List (Str × Addr)):Env:=
 { scope:=scope,locals:=L,globals:=mainGlobals,cells:=dq,qual:=qual++".<locals>.",func:=some a,code:=cd,frame:=some L,builtins:=builtinsNs }
def QK(P:Program)(w:World)(K:aa)(mg:w0f)(base:Heap)(N:w0h)(qual:Str)(scope:Scope)(f:Addr)(cd:Value)(dq:List (Str × Addr))(A:Around)(outer:List Env)(s:Shared)(H:Z):Cx where
 prog:=P
 w:=w
 K:=K
 mg:=mg
 base:=base
 A:=A.deeper (JD qual scope s.heap.objs.size f cd dq)
 N:=N
 s₀:=s
 H₀:=H
 env:=JD qual scope s.heap.objs.size f cd dq
 outer:=outer
 stack:=JD qual scope s.heap.objs.size f cd dq::outer
 ex:=[]
 calm:=true
 fn:=λ_=>false
 pn:=[]
 xe:=λ_ _=>False
structure LY(pn:Str)(fr:w0h)(sc:Scope):Prop where
 kind:sc.kind=.function
 co:sc.isCoroutine=false
 gen:sc.isGenerator=false
 nd:(pn::fr).Nodup
 par:sc.names.lookup pn=some .local
 fre:∀x∈fr,sc.names.lookup x=some .free
 nocell:∀y∈sc.names,y.2≠.cell
 all:∀y∈sc.names,y.2=.free->y.1∈fr
def c0u(base:Heap)(f c:Addr)(qual:Str)(params:Arguments)(body:Expr)(scope:Scope)(fr:w0h)(ws:List V):Prop:=
 ∃(dq:List (Str × Addr)) (pm du:Value),base.get? f=some (kla_obj "<lambda>" qual params body scope dq pm c du)/\
  (∀x y c,dq.lookup x=some c->dq.lookup y=some c->x=y)/\(∀x c,dq.lookup x=some c->∃v,base.IsCell c v)/\(∀x∈fr,∃c,dq.lookup x=some c)/\
  ∀(i:Nat) x v,fr[i]? = some x->ws[i]? = some v->∃c u,dq.lookup x=some c/\base.IsCell c (some u)/\p6 v u
def Ak{h h':Heap}{c:Addr}{v:Option Value}(x:h.IsCell c v)(k:∀b o,h.get? b=some o->h'.get? b=some o):h'.IsCell c v:=let⟨o,e,d⟩:=x;⟨o,k _ _ e,d⟩
section
variable{P:Program}{w:World}{K:aa}{mg:w0f}{base:Heap}{k:Nat}{f c0:Addr}{qual pn:Str}{params:Arguments}{body:Expr}{scope:Scope}{A:Around}{outer:List Env}{s:Shared}{H:Z}{v:V}{u:Value}{tb:TE}{Q:VK}{fr:w0h}{ws:List V}
def OE(S:LY pn fr scope)(F:c0u base f c0 qual params body scope fr ws)(fi:s.heap.CodeRec (.ref c0) qual)(hw:ws.length=fr.length)
    (dw:∀cd dq,z4 k (A.deeper<|JD qual scope s.heap.objs.size f cd dq)->PE (QK P w K mg base (pn::fr) qual scope f cd dq A outer s H) body tb)
    (dH:∀dq pm cd du,bindArgs (kla_fn "<lambda>" qual params body scope dq pm cd du) ⟨[u],[]⟩=pure [(pn,u)])
    (hr:z4 (k+1) A) (e0:DR P w K mg base A outer s H) (rv:p6 v u) (q:tb (some v::ws.map some) H Q) :
    codeAny (model P w) A (.call (.ref f) ⟨[u],[]⟩) (CR C8 outer P w H s Q E0) s:=by
 obtain⟨dq,pm,du,ho,ow,eR,oy,nS⟩:=F;have bk:∀b o,base.get? b=some o->s.heap.get? b=some o:=λb o e=>(e0.bs b o e).1;have iX:s.heap.NoLimit:=e0.mod.nolimit.keeps bk;show kla_callFunE hr.depth (bk _ _ ho) rfl S.co S.gen rfl fi<|BindsTo.of_eq (s:=s) (dH dq pm (.ref c0) du) _ _ _ _ ?_;show wpAny_newFunctionEnv S.nocell (λy hy=>by rw[af.mp hy];exact S.par) (λh' iC nV=>?_) S.kind;have kp:∀b o,s.heap.get? b=some o->h'.get? b=some o:=λb o e=>nV.extBut b o (au<|ag e)<|ak _ e;show⟨iX.keeps kp,kla_codeExpr ?_⟩;have fA:∀b:Addr,b ∉ (QK P w K mg base (pn::fr) qual scope f (.ref c0) dq A outer s H).ex:=λb z=>absurd (show b∈([]:List Addr)from z) (by simp);have I:j9 (QK P w K mg base (pn::fr) qual scope f (.ref c0) dq A outer s H) [] (some v::ws.map some) H { s with heap:=h',toks:=s.toks+[(pn,u)].length }:=by
  show⟨⟨e0.mod,S.kind,Y,Y,ae _,ow,λy hy=>?_,λy c z=>(nomatch z),λ_=>hr.hd,Around.frames_deeper e0.frames,.inr ⟨Y,Y⟩,λb z=>absurd z<|fA b,e0.bs,e0.bsz,λb _ _=>fA b,λb z=>absurd z<|fA b,e0.funs,e0.frf⟩,
   rfl,e0.bare,Un.kept kp,⟨_,iC,λi y v' h1 h2 h3=>?_⟩,λy c h=>?_,e0.hok.fresh (ae _),λy c h=>?_,λp hp=>absurd (show p∈([]:w0d)from hp) (by simp),e0.hok.kept kp,?_⟩
  . have hy:scope.names.lookup y=some .cell\/scope.names.lookup y=some .free:=hy;rcases hy with hy | hy
    . exact absurd rfl (S.nocell _<|aH hy)
    . exact oy y (S.all _ (aH hy) Y)
  . cases i with
    | zero=>
     have e1:pn=y:=Option.some.inj h1;have e2:v=v':=Option.some.inj<|Option.some.inj h2;subst e1 e2;exact⟨u,rv,.inl ⟨S.par,by simp⟩⟩
    | succ i=>
     have h1:fr[i]? = some y:=h1;have h2:(ws.map some)[i]? = some (some v'):=h2;rw[aN]at h2;obtain⟨v2,e2,e3⟩:=bM.mp h2;cases e3;obtain⟨c,u',a1,a2,a3⟩:=nS i y _ h1 e2;exact⟨u',a3,.inr ⟨.inr<|S.fre y<|aD h1,c,a1,Ak a2 λb o e=>kp b o<|bk b o e⟩⟩
  . obtain⟨v',a⟩:=eR y c h;exact⟨v',Ak a λb o e=>kp b o<|bk b o e⟩
  . obtain⟨v',o,e,_⟩:=eR y c h;exact .inl (e0.bs _ _ e).2
  . show(ws.map some).length+1=fr.length+1;rw[ai,hw]
 show wpAny_mono (dw (.ref c0) dq (hr.deeper _) [] _ _ H _ I q) (λz s' hs=>?_) λe s' hs=>False.elim hs;obtain⟨v',H',J,nr,q'⟩:=hs;exact⟨v',H',J.os,J.bare,J.base,J.hok,nr,q'⟩
structure DQ(P:Program)(w:World)(K:aa)(mg:w0f)(base:Heap)(k:Nat)(f:Addr)(sp:Sp):Prop where
 fn:∃o fd,base.get? f=some o/\o.data=.func fd
 run:∀(A:Around) (outer:List Env) (s:Shared) (H:Z) (u:Value) (v:V) (Q:VK),z4 k A->DR P w K mg base A outer s H->p6 v u->sp [v] H Q E0->codeAny (model P w) A (.call (.ref f) ⟨[u],[]⟩) (CR C8 outer P w H s Q E0) s
end
section
variable{X:Cx}{aS:w0d}{σ:St}{H:Z}{s:Shared}
def DQ.at{P:Program}{w:World}{K:aa}{mg:w0f}{base h:Heap}{k:Nat}{f:Addr}{sp:Sp}(F:DQ P w K mg base k f sp)(bk:∀b o,base.get? b=some o->h.get? b=some o):FnAt f h:=by obtain⟨⟨oc,od,dt,sl⟩,fd,e,d⟩:=F.fn;cases d;exact⟨oc,od,fd,sl,bk _ _ e⟩
def D6(H:Z)(c:Addr)(qual:Str):Prop:=∃oc vs t,H c=some (.frz oc<|.own 0)/\oc.data=.fields vs/\vs[1]? = some (.str qual t)
def R4(H:Z)(P:Addr)(qual:Str):Prop:=∃ps,H P=some (.tbl ps)/\TriplesOk ps.toList/\∀dy v,codeAmong dy ps.toList=some v->∃c,v=.ref c/\D6 H c qual
def Nj(l:w0i)(h:TriplesOk l)(e:codeAmong pos (l++[rawInt a,rawInt b,c])=some v):codeAmong pos l=some v\/v=c:=by
 fun_induction TriplesOk l with
 | case1=>
  simp only[List.nil_append,codeAmong,rawInt]at e;split at e
  . exact .inr (Option.some.inj e).symm
  . cases e
 | case2 a t b u x CA ih=>
  simp only[cW,codeAmong]at e ⊢;split at e
  . rename_i hc;rw[if_pos hc];exact .inl e
  . rename_i hc;rw[if_neg hc];exact ih h e
 | case3 l h1 h2=>exact h.elim
def D6.rec(x:D6 H c qual)(hok:R6 P w H h):h.CodeRec (.ref c) qual:=by obtain⟨oc,vs,t,e,d,q⟩:=x;exact⟨c,oc,vs,t,Y,(hok c _ e).1,d,q⟩
def L6(P:Addr)(H H':Z):Prop:=∀b o,b≠P->H b=some o->H' b=some o
def D6.same(x:D6 H c qual)(hP:H P=some (.tbl ps))(s:L6 P H H'):D6 H' c qual:=by obtain⟨oc,vs,t,e,d,q⟩:=x;exact⟨oc,vs,t,s c _ (Ee e hP<|by simp) e,d,q⟩
def Fw{c' P:Addr}{qual:Str}{pos:Pos}{o:Obj}{h':Heap}{tk:Nat}{ef:Array Value}(I:j9 X aS σ H s)(hP:H P=some (.tbl ef))(gi:Heap.ExtBut P s.heap h')(eK:s.heap.objs.size<=c')(el:c' < h'.objs.size)(fh:h'.CodeRec (.ref c') qual)(jc:h'.get? P=some (tabObj<|ef++#[rawInt pos.line,rawInt pos.col,.ref c']))(ho:o.isFreed=false) :
    ∃H',j9 X aS σ H' { s with heap:=h'.push o,toks:=tk }/\L6 P H H'/\H' P=some (.tbl<|ef++#[rawInt pos.line,rawInt pos.col,.ref c'])/\D6 H' c' qual/\L7 X aS H' h'.objs.size/\(h'.push o).get? h'.objs.size=some o:=by
 have gR:s.heap.get? P=some (tabObj ef):=I.hok P _ hP;have e:(h'.push o).get? P=some (tabObj<|ef++#[rawInt pos.line,rawInt pos.col,.ref c']):=ak _ jc;have I2:=I.un (t':=tk) (Un.tab (fs:=X.fs) (ex:=[]) hP (FM gi) e)<|I.hok.tab hP (FM gi) e;obtain⟨c2,oc,vs,tq,ec,wZ,xa,wY⟩:=fh;cases ec;have qB:=ak o wZ;have qk:s.heap.objs.size<=h'.objs.size:=aR<|cg eK el;have pP:P < s.heap.objs.size:=ag gR;have nH:∀b,s.heap.objs.size<=b->upd H P (.tbl<|ef++#[rawInt pos.line,rawInt pos.col,.ref c']) b=none:=λb hb=>by
  rw[k9<|bx<|ay pP hb];exact I.hok.fresh hb
 have I3:j9 X aS σ (upd (upd H P<|.tbl<|ef++#[rawInt pos.line,rawInt pos.col,.ref c']) c'<|.frz oc<|.own 0) { s with heap:=h'.push o,toks:=tk }:=by show I.un (t':=tk) ((Un.tab (fs:=X.fs) (ex:=[]) hP (FM gi) e).track eK<|nH _ eK) (I2.hok.track (nH _ eK) ⟨qB,⟨_,qB⟩⟩)
 have uK:P≠c':=au<|ay pP eK;have uI:h'.objs.size≠c':=bx el;have kX:D6 (upd (upd H P<|.tbl<|ef++#[rawInt pos.line,rawInt pos.col,.ref c']) c'<|.frz oc<|.own 0) c' qual:=⟨oc,vs,tq,c8,xa,wY⟩;show⟨_,I3,λb o hb q=>?_,(k9 uK).trans c8,kX,I.fpOk qk<|(k9 uI).trans<|nH _ qk,aB _ ho⟩;rw[k9 (λz=>by have:=I.hok.fresh eK;rw[<- z,q]at this;cases this),k9 hb];exact q
def Mj{H H':Z}{P c':Addr}{qual:Str}{ef:Array Value}{a b:Int}(hP:H P=some (.tbl ef))(ht:TriplesOk ef.toList)(hc:∀dy v,codeAmong dy ef.toList=some v->∃c,v=.ref c/\D6 H c qual)(s:L6 P H H')
    (oQ:H' P=some (.tbl<|ef++#[rawInt a,rawInt b,.ref c'])) (kX:D6 H' c' qual):R4 H' P qual:=⟨_,oQ,by rw[dc];exact TriplesOk_snoc _ _ _ _ ht,λlp v ev=>by
 rw[dc]at ev;rcases Nj _ ht ev with z | z
 . obtain⟨c3,e3,q3⟩:=hc lp v z;exact⟨c3,e3,q3.same hP s⟩
 . exact⟨c',z,kX⟩⟩
def OF{c P:Addr}{params:Arguments}{body:Expr}{scope:Scope}{dy:Pos}{Q:w0e}{E:w0e}(I:j9 X aS σ H s)(tb:Tb X.mg X.base c P)(dS:X.env.code=.ref c)(gK:params.defaults=[])(ij:params.kw_defaults=[])
    (ik:∀y∈scope.names,y.2=.free->X.env.scope.names.lookup y.1=some .cell\/X.env.scope.names.lookup y.1=some .free) (hT:R4 H P (X.env.qual++"<lambda>"))
    (h:∀f c' pm du s' H',j9 X aS σ H' s'->L6 P H H'->R4 H' P (X.env.qual++"<lambda>")->D6 H' c' (X.env.qual++"<lambda>")->L7 X aS H' f->s'.heap.get? f=some (kla_obj "<lambda>" (X.env.qual++"<lambda>") params body scope (z0 X.env.cells scope.names []) pm c' du)->Q (.ref f) s') :
    wpAny (model X.prog X.w) X.A (eval (.Lambda params body scope dy) X.env) Q E s:=by
 obtain⟨ef,hP,ht,hc⟩:=hT;rw[arm_eval_Lambda,defaultsOf_eq,gK,ij];show wpAny_bind<|wpAny_pure ?_;show wpAny_bind<|wpAny_holding<|wpAny_pure ?_;have gb:=M5 (env:=X.env) (scope:=scope) λn hn=>I.ok.has n<|ik _ hn Y;have fq:=tb.keeps I.bk;have gR:s.heap.get? P=some (tabObj ef):=I.hok P _ hP;cases hf:codeAmong dy ef.toList with
 | none=>
  show kla_makeFunction (mg:=X.mg) gb I.ok.glob (I.mod.glob.keeps I.bk) dS fq.cd gR ht hf fq.gl fq.bl λc' du h' tk gi eK el fh jc=>?_;obtain⟨H1,I1,a1,a2,a3,a4,a5⟩:=Fw (pos:=dy) (ho:=rfl) (tk:=tk) (o:=kla_obj "<lambda>" (X.env.qual++"<lambda>") params body scope (z0 X.env.cells scope.names []) ((X.mg "__name__").getD .none) c' du) I hP gi eK el fh jc;exact h _ c' _ du _ H1 I1 a1 (Mj hP ht hc a1 a2 a3) a3 a4 a5
 | some cv=>
  obtain⟨cc,rfl,gQ⟩:=hc dy cv hf;show kla_makeFunctionHit (mg:=X.mg) gb I.ok.glob (I.mod.glob.keeps I.bk) dS fq.cd gR ht hf fq.bl λdu h' tk kp eK=>?_;have I2:j9 X aS σ H { s with heap:=h'.push<|kla_obj "<lambda>" (X.env.qual++"<lambda>") params body scope (z0 X.env.cells scope.names []) ((X.mg "__name__").getD .none) cc du,toks:=tk }:=I.kept (t':=tk) λb u e=>ak _<|kp b u e;exact h _ cc _ du _ _ I2 (λ_ _ _ q=>q) ⟨ef,hP,ht,hc⟩ gQ (I.fpOk eK<|I.hok.fresh eK) (aB _ Y)
def U0(X:Cx)(H:Z)(h:Heap):Heap:=hideAll h (QY h H++C9 X.stack)
theorem Mod.keeps{K:aa}{mg:w0f}{h h':Heap}(m:Mod K mg h)(k:∀b o,h.get? b=some o->h'.get? b=some o):Mod K mg h':=
 ⟨m.kin.keeps k,m.glob.keeps k,let⟨mb,a,b⟩:=m.blt;⟨mb,a.keeps k,b⟩,m.nolimit.keeps k,m.seer.keeps k⟩
def Io(I:j9 X aS σ H s)(e:s.heap.get? b=some o)(n:H b=none)(nf:b ∉ C9 X.stack):(U0 X H s.heap).get? b=some o:=
 hideAll_get _ e λz=>by
  rcases aw.mp z with z | z
  . have:=(bT.mp z).2;rw[n]at this;cases this
  . exact nf z
def Cm(I:j9 X aS σ H s):∀b o,X.base.get? b=some o->(U0 X H s.heap).get? b=some o:=λb o e=>
 Io I (I.bs b o e).1 (I.bs b o e).2 λz=>by
  have:=(I.stack.mem z).1;rw[e]at this;cases this
def Pa(I:j9 X aS σ H s):DR X.prog X.w X.K X.mg (U0 X H s.heap) X.A X.stack s H:=by
 show⟨I.ok.frames,I.ok.mod.keeps<|Cm I,λb o e=>⟨of_hideAll _ e,?_⟩,Nat.le_of_eq<|hideAll_size _ _,funFrames_hide I.stack<|λenv he a ha=>ar _<|cz.mpr ⟨env,he,ha⟩,I.stkFree,I.hok,I.bare⟩;cases q:H b with
 | none=>rfl
 | some u=>
  have iE:b∈QY s.heap H++C9 X.stack:=aF _ (bT.mpr ⟨bU.mpr<|ag<|of_hideAll _ e,by rw[q];rfl⟩);have:=hideAll_none _ (h:=s.heap) iE;rw[show hideAll s.heap (QY s.heap H++C9 X.stack)=U0 X H s.heap from rfl,e]at this;cases this
structure Rw(X:Cx)(pn:Str)(fr:w0h)(js:w0g)(scope:Scope):Prop where
 fn:∀x,X.fn x=true
 sc:LY pn fr scope
 vis:∀x∈fr,X.env.scope.names.lookup x=some .cell\/X.env.scope.names.lookup x=some .free
 all:∀x∈fr,(x,NameKind.free)∈scope.names
 at_:js.map (λj=>X.N[j]?)=fr.map some
def c0e{f c0:Addr}{kf:Nat}{pn:Str}{fr:w0h}{js:w0g}{params:Arguments}{body:Expr}{scope:Scope}{pm du:Value}{qual:Str}{tb:TE}{ws:List V}(I:j9 X aS σ H s)(S:Rw X pn fr js scope)(ff:L7 X aS H f)
    (ho:s.heap.get? f=some (kla_obj "<lambda>" qual params body scope (z0 X.env.cells scope.names []) pm c0 du))
    (iA:js.map (λj=>σ[j]?)=ws.map λv=>some<|some v)
    (dw:∀cd dq A outer s0 H0,z4 kf (A.deeper<|JD qual scope s0.heap.objs.size f cd dq)->PE (QK X.prog X.w X.K X.mg (U0 X H s.heap) (pn::fr) qual scope f cd dq A outer s0 H0) body tb)
    (dH:∀dq pm cd du u,bindArgs (kla_fn "<lambda>" qual params body scope dq pm cd du) ⟨[u],[]⟩=pure [(pn,u)]) :
    DQ X.prog X.w X.K X.mg (U0 X H s.heap) (kf+1) f (λvs H Q _=>D6 H c0 qual/\∃v,vs=[v]/\tb (some v::ws.map some) H Q):=by
 have nf:∀b,b≠X.env.locals->b ∉ X.fs->b ∉ C9 X.stack:=λb h1 h2 z=>by
  rcases ah.mp (I.stkSub b z)with z | z
  . exact h1 z
  . exact h2 z
 have hf:=Io I ho ff.1<|nf f ff.2.1 ff.2.2.1;have gb:∀n,(n,NameKind.free)∈scope.names->∃c,X.env.cells.lookup n=some c:=λn hn=>I.ok.has n<|S.vis n<|S.sc.all _ hn Y;have up:∀{y c},(z0 X.env.cells scope.names []).lookup y=some c->X.env.cells.lookup y=some c:=λe=>by
  rcases FQ gb e with z | z
  . cases z
  . exact z
 have rO:∀{y c v},X.env.cells.lookup y=some c->s.heap.IsCell c v->(U0 X H s.heap).IsCell c v:=λ{y c v} e ⟨o,h1,h2⟩=>by
  show⟨o,Io I h1 (I.freeO (S.fn y) e)<|nf c (I.cne y c e) λz=>?_,h2⟩;obtain⟨_,o',e',_⟩:=I.ok.funs.mem z;exact absurd (ay (ag e')<|I.ok.cab y c (S.fn y) e) (aL _)
 have jl:js.length=fr.length:=by have:=congrArg List.length S.at_;rwa [ai,ai]at this
 have wl:ws.length=fr.length:=by have:=congrArg List.length iA;rw[ai,ai,jl]at this;exact this.symm
 have F:c0u (U0 X H s.heap) f c0 qual params body scope fr ws:=by
  show⟨_,pm,du,hf,λx y c h1 h2=>I.ok.inj x y c (up h1)<|up h2,λx c h=>?_,λx hx=>Aj<|.inr<|S.all x hx,λi x v h1 h2=>?_⟩
  . obtain⟨v,z⟩:=I.cell x c<|up h;exact⟨v,rO (up h) z⟩
  . obtain⟨j,j1⟩:∃j,js[i]? = some j:=⟨_,aJ<|by rw[jl];exact(aP.mp h1).1⟩;have j2:X.N[j]? = some x:=by have:=congrArg (λl=>l[i]?) S.at_;simp only[aN,j1,h1,bL]at this;exact Option.some.inj this
    have hσ:σ[j]? = some (some v):=by have:=congrArg (λl=>l[i]?) iA;simp only[aN,j1,h2,bL]at this;exact Option.some.inj this
    obtain⟨m,hn,hl⟩:=I.loc;have hv:=S.vis x<|aD h1;obtain⟨u,rv,lk⟩:=hl j x v j2 hσ<|.inr hv;rcases lk with ⟨z,_⟩ | ⟨_,c,e1,e2⟩
    . have z:X.env.scope.names.lookup x=some .local:=z;rw[z]at hv;rcases hv with hv | hv <;>cases hv
    . obtain⟨c',ec⟩:=Aj (cells:=X.env.cells) (names:=scope.names) (cs:=[])<|.inr<|S.all x<|aD h1;have:=up ec;rw[e1]at this;cases this;exact⟨c,u,ec,rO e1 e2,rv⟩
 show⟨za ⟨hf,Y⟩,λA outer s0 H0 u v Q hr e0 rv eX=>?_⟩;obtain⟨hc,v',e,q⟩:=eX;cases e;exact OE S.sc F (hc.rec e0.hok) wl (λcd dq gF=>dw cd dq A outer s0 H0 gF) (λdq pm cd du=>dH dq pm cd du u) hr e0 rv q
end
structure Up(P:Program)(w:World)(K:aa)(mg:w0f)(base b:Heap):Prop where
 sub:∀a o,base.get? a=some o->b.get? a=some o
 fv:∀{k f sp},DQ P w K mg base k f sp->DQ P w K mg b k f sp
def newB(X:Cx)(H:Z)(h:Heap)(fp:List Addr):Heap:=hideAll h (QY h H++C9 X.stack++fp)
section
variable{X:Cx}{aS:w0d}{σ:St}{H:Z}{s:Shared}{fp:List Addr}
def DQ.up{P:Program}{w:World}{K:aa}{mg:w0f}{base b:Heap}{k:Nat}{f:Addr}{sp:Sp}(F:DQ P w K mg base k f sp)(m:Mod K mg base)(sub:∀a o,base.get? a=some o->b.get? a=some o)(sz:base.objs.size<=b.objs.size):DQ P w K mg b k f sp:=
 ⟨let⟨o,fd,e,d⟩:=F.fn;⟨o,fd,sub _ _ e,d⟩,λA outer s H u v Q hr e0 rv q=>F.run A outer s H u v Q hr ⟨e0.frames,m,λa o e=>e0.bs a o<|sub a o e,aj sz e0.bsz,W4 e0.funs (λa ha=>by
  cases z:base.get? a with
  | none=>rfl
  | some o=>
   have y:=(e0.funs.mem ha).1;rw[sub a o z]at y;cases y),e0.frf,e0.hok,e0.bare⟩ rv q⟩
end
section
variable{X:Cx}{aS:w0d}{σ:St}{H:Z}{s:Shared}{p:Addr × Obj}
end
def Ih(qual:Str)(scope:Scope)(L a:Addr)(cd:Value)(dq:List (Str × Addr)):Env:=
 { scope:=scope,locals:=L,globals:=mainGlobals,cells:=cellsFrom (L+1) scope.names dq,qual:=qual++".<locals>.",func:=some a,code:=cd,frame:=some L,builtins:=builtinsNs }
def c0k(P:Program)(w:World)(K:aa)(mg:w0f)(base:Heap)(N:w0h)(qual:Str)(scope:Scope)(f:Addr)(cd:Value)(dq:List (Str × Addr))(A:Around)(outer:List Env)(s:Shared)(H:Z):Cx where
 prog:=P
 w:=w
 K:=K
 mg:=mg
 base:=base
 A:=A.deeper (Ih qual scope s.heap.objs.size f cd dq)
 N:=N
 s₀:=s
 H₀:=H
 env:=Ih qual scope s.heap.objs.size f cd dq
 outer:=outer
 stack:=Ih qual scope s.heap.objs.size f cd dq::outer
 ex:=[]
 calm:=true
 fn:=λy=>scope.names.lookup y == some .cell
 pn:=[]
 xe:=λ_ _=>False
structure Pj(pn:Str)(fr ls:w0h)(sc:Scope):Prop where
 kind:sc.kind=.function
 co:sc.isCoroutine=false
 gen:sc.isGenerator=false
 par:sc.names.lookup pn=some .local\/sc.names.lookup pn=some .cell
 fre:∀x∈fr,sc.names.lookup x=some .free
 all:∀y∈sc.names,y.2=.free->y.1∈fr
 uniq:∀y∈sc.names,sc.names.lookup y.1=some y.2
def KH{M:Model}{A:Around}{E:w0e}{s:Shared}{scope:Scope}{dq:List (Str × Addr)}{qual pn:Str}{a:Addr}{cd u:Value}{Q:Env->Shared->Prop}(hk:scope.kind=.function)(hp:scope.names.lookup pn=some .local\/scope.names.lookup pn=some .cell)
    (hQ:∀h' tk,(∀b o,s.heap.get? b=some o->h'.get? b=some o)->(∃m,h'.Ns s.heap.objs.size m/\(scope.names.lookup pn=some .local->m pn=some u))->(∀x c,(x,c)∈cellsFrom (s.heap.objs.size+1) scope.names []->∃v,h'.IsCell c v)->
     (scope.names.lookup pn=some .cell->∃c,(cellsFrom (s.heap.objs.size+1) scope.names []).lookup pn=some c/\h'.IsCell c (some u))->
     Q (Ih qual scope s.heap.objs.size a cd dq) { s with heap:=h',toks:=tk }) :
    wpAny M A (newFunctionEnv scope mainGlobals dq [(pn,u)] (qual++".<locals>.") (some a) cd none builtinsNs) Q E s:=by
 simp only[newFunctionEnv,Option.isSome_none,cX,if_false];show wpAny_bind<|wpAny_alloc ?_;show wpAny_bind (wpAny_layCells _ (λname kind cells=>by cases ot:kind == NameKind.cell <;>simp[ot]) _ _ _ _ ?_);have ok:=cellsFrom_ok scope.names (s.heap.push { cls:=.type "frame",data:=.dict #[] }) (s.heap.objs.size+1) [] ⟨λ_ _ hm=>(nomatch hm),List.Pairwise.nil⟩ (by rw[bb];exact ae _);rw[bb]at ok;rw[show({ s with heap:=s.heap.push { cls:=.type "frame",data:=.dict #[] } }:Shared).heap.objs.size=s.heap.objs.size+1 from bb ..];have kp:∀b o,s.heap.get? b=some o->(pushCells (s.heap.push { cls:=.type "frame",data:=.dict #[] }) scope.names).get? b=some o:=λb o e=>pushCells_keeps _ _ b o<|ak _ e;have ns:=(Heap.Ns.new s.heap<|.type "frame").keeps<|pushCells_keeps scope.names _;rw[List.forIn_cons];have xO:∀y,(Ih qual scope s.heap.objs.size a cd dq).kindOf y=scope.names.lookup y:=λ_=>rfl;rcases hp with hl | hl
 . show wpAny_bind (wpAny_bind<|wpAny_bind<|wpAny_storeName_local (env:=Ih qual scope s.heap.objs.size a cd dq) hl ns (λh' oi gj=>?_)<|by show(scope.kind == .class || (scope.kind == .module && _))=false;rw[hk];rfl);show wpAny_pure ?_;dsimp only;rw[cI];show wpAny_pure (wpAny_pure<|hQ _ _ (λb o e=>gj.extBut b o (au<|ag e)<|kp b o e) ⟨_,oi,λ_=>if_pos Y⟩ (λx c hc=>?_) λz=>?_)
   . exact⟨none,(ok.empty x c hc).1.sameBut gj<|bx<|u6 _ _ _ _ hc⟩
   . rw[hl]at z;cases z
 . obtain⟨c0,h0⟩:=P2 scope.names (s.heap.objs.size+1) pn<|aH hl;obtain⟨c,hc⟩:=P1 h0;have wA:(cellsFrom (s.heap.objs.size+1) scope.names dq).lookup pn=some c:=by rw[y3,z9,hc]
   have mc:=aH hc;show wpAny_bind<|wpAny_bind<|wpAny_bind<|wpAny_storeName_cell (env:=Ih qual scope s.heap.objs.size a cd dq) hk hl wA (ok.empty pn c mc).1 λh' gc gj=>?_;have gt:=u6 _ _ _ _ mc;show wpAny_pure ?_;dsimp only;rw[cI];show wpAny_pure (wpAny_pure<|hQ _ s.toks (λb o e=>gj.extBut b o (au<|ay (ag e)<|aj (bz _) gt)<|kp b o e) ⟨_,ns.sameBut gj<|au gt,λz=>?_⟩ (λx d hd=>?_) λ_=>⟨c,hc,gc⟩)
   . rw[hl]at z;cases z
   . by_cases e:d=c
     . exact⟨_,e▸gc⟩
     . exact⟨none,(ok.empty x d hd).1.sameBut gj e⟩
section
variable{P:Program}{w:World}{K:aa}{mg:w0f}{base:Heap}{k:Nat}{f c0:Addr}{name qual pn:Str}{params:Arguments}{body:List Stmt}{scope:Scope}{A:Around}{outer:List Env}{s:Shared}{H:Z}{v:V}{u:Value}{tb:TS}{Q:VK}{fr ls:w0h}{ws:List V}
end
structure DefIn(X:Cx)(pn:Str)(fr ls:w0h)(js:w0g)(scope:Scope):Prop where
 fn:∀x,X.fn x=true
 sc:Pj pn fr ls scope
 vis:∀x∈fr,X.env.scope.names.lookup x=some .cell\/X.env.scope.names.lookup x=some .free
 all:∀x∈fr,(x,NameKind.free)∈scope.names
 at_:js.map (λj=>X.N[j]?)=fr.map some
structure FactsOk(X:Cx)(Fx:St->Heap->Prop):Prop where
 go:∀{aS:w0d} {σ:St} {H:Z} {s:Shared} {fp:List Addr},j9 X aS σ H s->(∀b∈fp,L7 X aS H b)->Fx σ (newB X H s.heap fp)
section
variable{X:Cx}{aS:w0d}{σ:St}{H:Z}{s:Shared}
end
def Ma(H:Z)(c:Addr)(v:V):Prop:=∃o u,H c=some (.frz o<|.own 0)/\o.data=.cell (some u)/\p6 v u
def Di(H H':Z):Prop:=∀b o,H b=some (.frz o<|.own 0)->H' b=some (.frz o<|.own 0)
def Ma.same{H H':Z}{c:Addr}{v:V}(s:Di H H')(x:Ma H c v):Ma H' c v:=let⟨o,u,e,r⟩:=x;⟨o,u,s _ _ e,r⟩
def D6.sameF{H H':Z}{c:Addr}{qual:Str}(s:Di H H')(x:D6 H c qual):D6 H' c qual:=let⟨o,vs,t,e,r⟩:=x;⟨o,vs,t,s _ _ e,r⟩
structure Ei(H:Z)(dq:List (Str × Addr))(fr:w0h)(ws:List V):Prop where
 inj:∀x y c,dq.lookup x=some c->dq.lookup y=some c->x=y
 cell:∀x c,dq.lookup x=some c->∃o v,H c=some (.frz o<|.own 0)/\o.data=.cell v
 has:∀x∈fr,∃c,dq.lookup x=some c
 val:∀(i:Nat) x v,fr[i]? = some x->ws[i]? = some v->∃c,dq.lookup x=some c/\Ma H c v
theorem Ei.same{H H':Z}{dq:List (Str × Addr)}{fr:w0h}{ws:List V}(s:Di H H')(x:Ei H dq fr ws):Ei H' dq fr ws:=
 ⟨x.inj,λy c e=>let⟨o,v,q,d⟩:=x.cell y c e;⟨o,v,s _ _ q,d⟩,x.has,λi y v e1 e2=>let⟨c,q,z⟩:=x.val i y v e1 e2;⟨c,q,z.same s⟩⟩
def X8(H:Z)(f:Addr)(qual:Str)(params:Arguments)(body:Expr)(scope:Scope)(fr:w0h)(ws:List V):Prop:=
 ∃(dq:List (Str × Addr)) (pm du:Value) (c:Addr),H f=some (.frz (kla_obj "<lambda>" qual params body scope dq pm c du)<|.own 0)/\D6 H c qual/\Ei H dq fr ws
def Eh(H:Z)(f:Addr)(name qual:Str)(params:Arguments)(body:List Stmt)(scope:Scope)(fr:w0h)(ws:List V):Prop:=
 ∃(dq:List (Str × Addr)) (dF pm du:Value) (c:Addr),H f=some (.frz (fnMade name qual params body scope dq dF pm c du)<|.own 0)/\D6 H c qual/\Ei H dq fr ws
section
variable{H H':Z}{f:Addr}{name qual:Str}{params:Arguments}{body:Expr}{bs:List Stmt}{scope:Scope}{fr:w0h}{ws:List V}
theorem X8.same(s:Di H H')(x:X8 H f qual params body scope fr ws):X8 H' f qual params body scope fr ws:=let⟨dq,pm,du,c,e,k,q⟩:=x;⟨dq,pm,du,c,s _ _ e,k.sameF s,q.same s⟩
theorem Eh.same(s:Di H H')(x:Eh H f name qual params bs scope fr ws):Eh H' f name qual params bs scope fr ws:=let⟨dq,dF,pm,du,c,e,k,q⟩:=x;⟨dq,dF,pm,du,c,s _ _ e,k.sameF s,q.same s⟩
end
def EH(base:Heap)(H:Z)(f:Addr):Prop:=(∃o fd,base.get? f=some o/\o.data=.func fd)\/∃o fd,H f=some (.frz o<|.own 0)/\o.data=.func fd
def X8.fn{base:Heap}{H:Z}{f:Addr}{qual:Str}{params:Arguments}{body:Expr}{scope:Scope}{fr:w0h}{ws:List V}(x:X8 H f qual params body scope fr ws):EH base H f:=let⟨_,_,_,_,e,_⟩:=x;.inr (za ⟨e,Y⟩)
def Eh.fn{base:Heap}{H:Z}{f:Addr}{name qual:Str}{params:Arguments}{bs:List Stmt}{scope:Scope}{fr:w0h}{ws:List V}(x:Eh H f name qual params bs scope fr ws):EH base H f:=let⟨_,_,_,_,_,e,_⟩:=x;.inr (za ⟨e,Y⟩)
def EH.at{P:Program}{w:World}{base h:Heap}{H:Z}{f:Addr}(x:EH base H f)(bk:∀b o,base.get? b=some o->h.get? b=some o)(hok:R6 P w H h):FnAt f h:=by
 rcases x with ⟨⟨oc,od,dt,sl⟩,fd,e,d⟩ | ⟨⟨oc,od,dt,sl⟩,fd,e,d⟩
 . cases d;exact⟨oc,od,fd,sl,bk _ _ e⟩
 . cases d;exact⟨oc,od,fd,sl,(hok _ _ e).1⟩
def LZ(P:Program)(w:World)(K:aa)(mg:w0f)(base:Heap)(k:Nat)(f:Addr)(sp:Sp):Prop:=
 ∀(A:Around) (outer:List Env) (s:Shared) (H:Z) (u:Value) (v:V) (Q:VK),z4 k A->DR P w K mg base A outer s H->p6 v u->sp [v] H Q E0->codeAny (model P w) A (.call (.ref f) ⟨[u],[]⟩) (CR C8 outer P w H s Q E0) s
def DQ.h{P:Program}{w:World}{K:aa}{mg:w0f}{base:Heap}{k:Nat}{f:Addr}{sp:Sp}(F:DQ P w K mg base k f sp):LZ P w K mg base k f sp:=F.run
def DQ.inB{P:Program}{w:World}{K:aa}{mg:w0f}{base:Heap}{k:Nat}{f:Addr}{sp:Sp}{H:Z}(F:DQ P w K mg base k f sp):EH base H f:=let⟨o,fd,e,d⟩:=F.fn;.inl ⟨o,fd,e,d⟩
section
variable{P:Program}{w:World}{K:aa}{mg:w0f}{base:Heap}{k:Nat}{f:Addr}{name qual pn:Str}{params:Arguments}{body:Expr}{bs:List Stmt}{scope:Scope}{A:Around}{outer:List Env}{s:Shared}{H:Z}{v:V}{u:Value}{tb:TE}{ts:TS}{Q:VK}{fr ls:w0h}{ws:List V}
def Ei.inj'{dq:List (Str × Addr)}(c:Ei H dq fr ws)(hok:R6 P w H s.heap){x:Str}{a:Addr}(e:dq.lookup x=some a):∃v,s.heap.IsCell a v:=let⟨o,v,q,d⟩:=c.cell x a e;⟨v,o,(hok _ _ q).1,d⟩
def OG(S:LY pn fr scope)(F:X8 H f qual params body scope fr ws)(hw:ws.length=fr.length)
    (dw:∀cd dq,z4 k (A.deeper<|JD qual scope s.heap.objs.size f cd dq)->PE (QK P w K mg base (pn::fr) qual scope f cd dq A outer s H) body tb)
    (dH:∀dq pm cd du,bindArgs (kla_fn "<lambda>" qual params body scope dq pm cd du) ⟨[u],[]⟩=pure [(pn,u)])
    (hr:z4 (k+1) A) (e0:DR P w K mg base A outer s H) (rv:p6 v u) (q:tb (some v::ws.map some) H Q) :
    codeAny (model P w) A (.call (.ref f) ⟨[u],[]⟩) (CR C8 outer P w H s Q E0) s:=by
 obtain⟨dq,pm,du,c0,ho,hc,C⟩:=F;have iX:s.heap.NoLimit:=e0.mod.nolimit.keeps λb o e=>(e0.bs b o e).1;show kla_callFunE hr.depth (e0.hok _ _ ho).1 rfl S.co S.gen rfl (hc.rec e0.hok)<|BindsTo.of_eq (s:=s) (dH dq pm (.ref c0) du) _ _ _ _ ?_;show wpAny_newFunctionEnv S.nocell (λy hy=>by rw[af.mp hy];exact S.par) (λh' iC nV=>?_) S.kind;have kp:∀b o,s.heap.get? b=some o->h'.get? b=some o:=λb o e=>nV.extBut b o (au<|ag e)<|ak _ e;show⟨iX.keeps kp,kla_codeExpr ?_⟩;have fA:∀b:Addr,b ∉ (QK P w K mg base (pn::fr) qual scope f (.ref c0) dq A outer s H).ex:=λb z=>absurd (show b∈([]:List Addr)from z) (by simp);have I:j9 (QK P w K mg base (pn::fr) qual scope f (.ref c0) dq A outer s H) [] (some v::ws.map some) H { s with heap:=h',toks:=s.toks+[(pn,u)].length }:=by
  show⟨⟨e0.mod,S.kind,Y,Y,ae _,C.inj,λy hy=>?_,λy c z=>(nomatch z),λ_=>hr.hd,Around.frames_deeper e0.frames,.inr ⟨Y,Y⟩,λb z=>absurd z<|fA b,e0.bs,e0.bsz,λb _ _=>fA b,λb z=>absurd z<|fA b,e0.funs,e0.frf⟩,
   rfl,e0.bare,Un.kept kp,⟨_,iC,λi y v' h1 h2 h3=>?_⟩,λy c h=>?_,e0.hok.fresh (ae _),λy c h=>?_,λp hp=>absurd (show p∈([]:w0d)from hp) (by simp),e0.hok.kept kp,?_⟩
  . have hy:scope.names.lookup y=some .cell\/scope.names.lookup y=some .free:=hy;rcases hy with hy | hy
    . exact absurd rfl (S.nocell _<|aH hy)
    . exact C.has y (S.all _ (aH hy) Y)
  . cases i with
    | zero=>
     have e1:pn=y:=Option.some.inj h1;have e2:v=v':=Option.some.inj<|Option.some.inj h2;subst e1 e2;exact⟨u,rv,.inl ⟨S.par,by simp⟩⟩
    | succ i=>
     have h1:fr[i]? = some y:=h1;have h2:(ws.map some)[i]? = some (some v'):=h2;rw[aN]at h2;obtain⟨v2,e2,e3⟩:=bM.mp h2;cases e3;obtain⟨c,a1,o,u',a2,a3,a4⟩:=C.val i y _ h1 e2;exact⟨u',a4,.inr ⟨.inr<|S.fre y<|aD h1,c,a1,o,kp _ _ (e0.hok _ _ a2).1,a3⟩⟩
  . obtain⟨v',a⟩:=C.inj' e0.hok h;exact⟨v',Ak a kp⟩
  . obtain⟨o,v',e,_⟩:=C.cell y c h;exact .inr ⟨(e0.hok _ _ e).lt,o,e⟩
  . show(ws.map some).length+1=fr.length+1;rw[ai,hw]
 show wpAny_mono (dw (.ref c0) dq (hr.deeper _) [] _ _ H _ I q) (λz s' hs=>?_) λe s' hs=>False.elim hs;obtain⟨v',H',J,nr,q'⟩:=hs;exact⟨v',H',J.os,J.bare,J.base,J.hok,nr,q'⟩
end
def K1(H:Z)(P:Addr)(g:Pos->Str):Prop:=∃ps,H P=some (.tbl ps)/\TriplesOk ps.toList/\∀dy v,codeAmong dy ps.toList=some v->∃c,v=.ref c/\D6 H c (g dy)
def Lj{pos:Pos}{a b:Nat}{c v:Value}(l:w0i)(h:TriplesOk l)(e:codeAmong pos (l++[rawInt a,rawInt b,c])=some v):codeAmong pos l=some v\/(v=c/\pos.line=a/\pos.col=b):=by
 fun_induction TriplesOk l with
 | case1=>
  simp only[List.nil_append,codeAmong,rawInt]at e;split at e
  . rename_i hc;rw[bK,beq_iff_eq,beq_iff_eq]at hc;exact .inr ⟨(Option.some.inj e).symm,oM,oM⟩
  . cases e
 | case2 a t b u x CA ih=>
  simp only[cW,codeAmong]at e ⊢;split at e
  . rename_i hc;rw[if_pos hc];exact .inl e
  . rename_i hc;rw[if_neg hc];exact ih h e
 | case3 l h1 h2=>exact h.elim
def GI{H H':Z}{P c':Addr}{g:Pos->Str}{ef:Array Value}{pos:Pos}(hg:∀p q:Pos,p.line=q.line->p.col=q.col->g p=g q)(hP:H P=some (.tbl ef))(ht:TriplesOk ef.toList)(hc:∀dy v,codeAmong dy ef.toList=some v->∃c,v=.ref c/\D6 H c (g dy))(s:L6 P H H')
    (oQ:H' P=some (.tbl<|ef++#[rawInt pos.line,rawInt pos.col,.ref c'])) (kX:D6 H' c' (g pos)):K1 H' P g:=⟨_,oQ,by rw[dc];exact TriplesOk_snoc _ _ _ _ ht,λlp v ev=>by
 rw[dc]at ev;rcases Lj _ ht ev with z | ⟨z,z1,z2⟩
 . obtain⟨c3,e3,q3⟩:=hc lp v z;exact⟨c3,e3,q3.same hP s⟩
 . exact⟨c',z,by rw[hg lp pos z1 z2];exact kX⟩⟩
def L6.f{P:Addr}{H H':Z}{ps:Array Value}(s:L6 P H H')(hP:H P=some (.tbl ps)):Di H H':=λb o e=>s b _ (Ee e hP<|by simp) e
def K1.same{H H':Z}{P:Addr}{g:Pos->Str}(x:K1 H P g)(hP:∀ps,H P=some (.tbl ps)->H' P=some (.tbl ps))(s:Di H H'):K1 H' P g:=
 let⟨ps,e,t,q⟩:=x;⟨ps,hP _ e,t,λlp v ev=>let⟨c,e3,q3⟩:=q lp v ev;⟨c,e3,q3.sameF s⟩⟩
section
variable{X:Cx}{aS:w0d}{σ:St}{H:Z}{s:Shared}
def MM{c P:Addr}{params:Arguments}{body:Expr}{scope:Scope}{dy:Pos}{g:Pos->Str}{Q:w0e}{E:w0e}(I:j9 X aS σ H s)(tb:Tb X.mg X.base c P)(dS:X.env.code=.ref c)(gK:params.defaults=[])(ij:params.kw_defaults=[])
    (ik:∀y∈scope.names,y.2=.free->X.env.scope.names.lookup y.1=some .cell\/X.env.scope.names.lookup y.1=some .free) (hg:∀p q:Pos,p.line=q.line->p.col=q.col->g p=g q) (hq:g dy=X.env.qual++"<lambda>") (hT:K1 H P g)
    (h:∀f c' pm du s' H',j9 X aS σ H' s'->L6 P H H'->K1 H' P g->D6 H' c' (X.env.qual++"<lambda>")->L7 X aS H' f->s'.heap.get? f=some (kla_obj "<lambda>" (X.env.qual++"<lambda>") params body scope (z0 X.env.cells scope.names []) pm c' du)->H f=none->Q (.ref f) s') :
    wpAny (model X.prog X.w) X.A (eval (.Lambda params body scope dy) X.env) Q E s:=by
 obtain⟨ef,hP,ht,hc⟩:=hT;rw[arm_eval_Lambda,defaultsOf_eq,gK,ij];show wpAny_bind<|wpAny_pure ?_;show wpAny_bind<|wpAny_holding<|wpAny_pure ?_;have gb:=M5 (env:=X.env) (scope:=scope) λn hn=>I.ok.has n<|ik _ hn Y;have fq:=tb.keeps I.bk;have gR:s.heap.get? P=some (tabObj ef):=I.hok P _ hP;cases hf:codeAmong dy ef.toList with
 | none=>
  show kla_makeFunction (mg:=X.mg) gb I.ok.glob (I.mod.glob.keeps I.bk) dS fq.cd gR ht hf fq.gl fq.bl λc' du h' tk gi eK el fh jc=>?_;obtain⟨H1,I1,a1,a2,a3,a4,a5⟩:=Fw (pos:=dy) (ho:=rfl) (tk:=tk) (o:=kla_obj "<lambda>" (X.env.qual++"<lambda>") params body scope (z0 X.env.cells scope.names []) ((X.mg "__name__").getD .none) c' du) I hP gi eK el fh jc;exact h _ c' _ du _ H1 I1 a1 (GI hg hP ht hc a1 a2<|by rw[hq];exact a3) a3 a4 a5 (I.hok.fresh<|aR<|cg eK el)
 | some cv=>
  obtain⟨cc,rfl,gQ⟩:=hc dy cv hf;rw[hq]at gQ;show kla_makeFunctionHit (mg:=X.mg) gb I.ok.glob (I.mod.glob.keeps I.bk) dS fq.cd gR ht hf fq.bl λdu h' tk kp eK=>?_;have I2:j9 X aS σ H { s with heap:=h'.push<|kla_obj "<lambda>" (X.env.qual++"<lambda>") params body scope (z0 X.env.cells scope.names []) ((X.mg "__name__").getD .none) cc du,toks:=tk }:=I.kept (t':=tk) λb u e=>ak _<|kp b u e;exact h _ cc _ du _ _ I2 (λ_ _ _ q=>q) ⟨ef,hP,ht,hc⟩ gQ (I.fpOk eK<|I.hok.fresh eK) (aB _ Y) (I.hok.fresh eK)
def Vs(X:Cx)(i:Nat)(P:Addr)(g:Pos->Str)(name qual:Str)(params:Arguments)(body:List Stmt)(scope:Scope):TS:=λD σ H=>K1 H P g/\
 ∀f c dF pm du H',L6 P H H'->H f=none->K1 H' P g->D6 H' c qual->H' f=some (.frz (fnMade name qual params body scope (z0 X.env.cells scope.names []) dF pm c du)<|.own 0)->D.nx (σ.set i<|some<|.ref f) H'
def Qc{i:Nat}{name:Str}{params:Arguments}{body:List Stmt}{scope:Scope}{pos:Pos}{c P:Addr}{g:Pos->Str}(hN:X.N.Nodup)(hi:X.N[i]? = some name)(hx:Rv X.env.scope name)(tb:Tb X.mg X.base c P)(dS:X.env.code=.ref c)(jD:X.ex=[])
    (gK:params.defaults=[]) (ij:params.kw_defaults=[]) (ha:annTrees params none X.env=[]) (ik:∀y∈scope.names,y.2=.free->X.env.scope.names.lookup y.1=some .cell\/X.env.scope.names.lookup y.1=some .free)
    (hg:∀p q:Pos,p.line=q.line->p.col=q.col->g p=g q) (hq:g pos=qualnameIn X.env name name) (hf:X.fn name=true\/X.env.scope.names.lookup name=some .local) :
    PS X (.FunctionDef name params body [] none [] scope none name pos) (Vs X i P g name (qualnameIn X.env name name) params body scope):=by
 intro aS s σ H D I h;obtain⟨⟨ef,hP,ht,hc⟩,h⟩:=h;have gb:=M5 (env:=X.env) (scope:=scope) λn hn=>I.ok.has n<|ik _ hn Y;have fq:=tb.keeps I.bk;have gR:s.heap.get? P=some (tabObj ef):=I.hok P _ hP;have dD:∀{f c':Addr} {dF pm du:Value} {s1:Shared} {H1:Z},j9 X aS σ H1 s1->L6 P H H1->K1 H1 P g->D6 H1 c' (qualnameIn X.env name name)->L7 X aS H1 f->s1.heap.get? f=some (fnMade name (qualnameIn X.env name name) params body scope (z0 X.env.cells scope.names []) dF pm c' du)->H f=none->
     wpAny (model X.prog X.w) X.A (storeName X.env name<|.ref f) (λ_ eP=>SP X aS D .next eP) X.xe s1:=λ{f c' dF pm du s1 H1} I1 sP T1 C1 ff ho nf=>by
  have hs:X.s₀.heap.objs.size<=f:=ff.2.2.2.1.elim (λz=>by rw[jD]at z;cases z) id;have I2:=I1.track (o:=.frz (fnMade name (qualnameIn X.env name name) params body scope (z0 X.env.cells scope.names []) dF pm c' du)<|.own 0) hs ff ⟨ho,⟨_,ho⟩⟩;have up:∀b o,H1 b=some o->upd H1 f (.frz (fnMade name (qualnameIn X.env name name) params body scope (z0 X.env.cells scope.names []) dF pm c' du)<|.own 0) b=some o:=λb o e=>by rw[k9<|l9 e ff.1];exact e
  exact X1 I2 hN hi hx (v:=V.ref f) rfl (λs2 I3=>za ⟨I3,h f c' dF pm du _ (λb o nb e=>up _ _<|sP b o nb e) nf (T1.same (λps e=>up _ _ e) λb o e=>up _ _ e) (C1.sameF λb o e=>up _ _ e) c8⟩) hf
 show nestDef_K gK ij ha ?_;cases hh:codeAmong pos ef.toList with
 | none=>
  show makeFunction_K (mg:=X.mg) gb I.ok.glob (I.mod.glob.keeps I.bk) dS fq.cd gR ht hh fq.gl fq.bl λc' du dF h' tk gi eK el fh jc=>?_;obtain⟨H1,I1,sP,T1,C1,ff,ho⟩:=Fw (pos:=pos) (ho:=rfl) (tk:=tk) (o:=fnMade name (qualnameIn X.env name name) params body scope (z0 X.env.cells scope.names []) dF ((X.mg "__name__").getD .none) c' du) I hP gi eK el fh jc;exact dD I1 sP (GI hg hP ht hc sP T1<|by rw[hq];exact C1) C1 ff ho (I.hok.fresh<|aR<|cg eK el)
 | some cv=>
  obtain⟨cc,rfl,gQ⟩:=hc pos cv hh;rw[hq]at gQ;show makeFunction_hit (mg:=X.mg) gb I.ok.glob (I.mod.glob.keeps I.bk) dS fq.cd gR ht hh fq.bl λdu dF h' tk kp eK=>?_;have I2:j9 X aS σ H { s with heap:=h'.push<|fnMade name (qualnameIn X.env name name) params body scope (z0 X.env.cells scope.names []) dF ((X.mg "__name__").getD .none) cc du,toks:=tk }:=I.kept (t':=tk) λb u e=>ak _<|kp b u e;exact dD I2 (λ_ _ _ q=>q) ⟨ef,hP,ht,hc⟩ gQ (I.fpOk eK<|I.hok.fresh eK) (aB _ Y) (I.hok.fresh eK)
open Classical in
noncomputable def BB(X:Cx)(h:Heap)(H:Z):Z:=λb=>if ∃x,X.env.cells.lookup x=some b then(h.get? b).map (λo=>HO.frz o<|.own 0)else H b
structure c0o(X:Cx)(fr:w0h)(js:w0g)(sc:Scope):Prop where
 vis:∀x∈fr,X.env.scope.names.lookup x=some .cell\/X.env.scope.names.lookup x=some .free
 fre:∀y∈sc.names,y.2=.free->y.1∈fr
 all:∀x∈fr,(x,NameKind.free)∈sc.names
 at_:js.map (λj=>X.N[j]?)=fr.map some
def Frd(X:Cx)(σ:St)(H:Z):Prop:=∀(sc:Scope) (fr:w0h) (js:w0g) (ws:List V),c0o X fr js sc->js.map (λj=>σ[j]?)=ws.map (λv=>some<|some v)->Ei H (z0 X.env.cells sc.names []) fr ws
def BF(I:j9 X aS σ H s)(hc:∀x,X.fn x=true){b:Addr}{o:HO}(e:H b=some o):BB X s.heap H b=some o:=by unfold BB;rw[if_neg λ⟨x,z⟩=>by have:=I.freeO (hc x) z;rw[e]at this;cases this];exact e
def Hh(I:j9 X aS σ H s){x:Str}{c:Addr}(e:X.env.cells.lookup x=some c):∃o v,s.heap.get? c=some o/\BB X s.heap H c=some (.frz o<|.own 0)/\o.data=.cell v:=by obtain⟨v,o,ho,d⟩:=I.cell x c e;show⟨o,v,ho,?_,d⟩;unfold BB;rw[if_pos ⟨x,e⟩,ho];rfl
def Pu(I:j9 X aS σ H s)(hc:∀x,X.fn x=true):Nm X (BB X s.heap H) s:=by
 have no:∀{b:Addr},H b=none->(∀x,X.env.cells.lookup x≠some b)->BB X s.heap H b=none:=λ{b} e n=>by
  unfold BB;rw[if_neg λ⟨x,z⟩=>n x z];exact e
 show⟨I.os,I.bare,⟨I.base.keep,I.base.slot,λb o e n hx=>no (I.base.free b o e n hx) λx z=>?_,I.base.there,λb xs e=>BF I hc<|I.base.tups b xs e,λb o u e=>BF I hc<|I.base.frzs b o u e,λb ps e=>?_⟩,no I.free λx z=>I.cne x _ z Y,let⟨m,hn,_⟩:=I.loc;⟨m,hn⟩,λb o e=>?_⟩
 . exact absurd (ay (ag e)<|I.ok.cab x b (hc x) z) (aL _)
 . obtain⟨m,e1⟩:=I.base.tbls b ps e;exact⟨m,BF I hc e1⟩
 . by_cases z:∃x,X.env.cells.lookup x=some b
   . obtain⟨x,z⟩:=z;obtain⟨ob,v,ho,e1,_⟩:=Hh I z;rw[e]at e1;cases e1;exact⟨ho,_,ho⟩
   . have e':H b=some o:=by unfold BB at e;rwa [if_neg z]at e
     exact(I.hok b o e').stay (λ_ _ _ q=>q) (λ_ q=>BF I hc q) λ_ _ q=>BF I hc q
def Pw(I:j9 X aS σ H s):Frd X σ (BB X s.heap H):=by
 intro sc fr js ws S iA;have gb:∀n,(n,NameKind.free)∈sc.names->∃c,X.env.cells.lookup n=some c:=λn hn=>I.ok.has n<|S.vis n<|S.fre _ hn Y;have up:∀{y c},(z0 X.env.cells sc.names []).lookup y=some c->X.env.cells.lookup y=some c:=λe=>by
  rcases FQ gb e with z | z
  . cases z
  . exact z
 have jl:js.length=fr.length:=by have:=congrArg List.length S.at_;rwa [ai,ai]at this
 show⟨λx y c h1 h2=>I.ok.inj x y c (up h1)<|up h2,λx c h=>?_,λx hx=>Aj<|.inr<|S.all x hx,λi x v h1 h2=>?_⟩
 . obtain⟨o,v,_,e,d⟩:=Hh I<|up h;exact⟨o,v,e,d⟩
 . obtain⟨j,j1⟩:∃j,js[i]? = some j:=⟨_,aJ<|by rw[jl];exact(aP.mp h1).1⟩;have j2:X.N[j]? = some x:=by have:=congrArg (λl=>l[i]?) S.at_;simp only[aN,j1,h1,bL]at this;exact Option.some.inj this
   have hσ:σ[j]? = some (some v):=by have:=congrArg (λl=>l[i]?) iA;simp only[aN,j1,h2,bL]at this;exact Option.some.inj this
   obtain⟨m,hn,hl⟩:=I.loc;have hv:=S.vis x<|aD h1;obtain⟨u,rv,lk⟩:=hl j x v j2 hσ<|.inr hv;rcases lk with ⟨z,_⟩ | ⟨_,c,e1,o',e2,e3⟩
   . have z:X.env.scope.names.lookup x=some .local:=z;rw[z]at hv;rcases hv with hv | hv <;>cases hv
   . obtain⟨c',ec⟩:=Aj (cells:=X.env.cells) (names:=sc.names) (cs:=[])<|.inr<|S.all x<|aD h1;have:=up ec;rw[e1]at this;cases this;obtain⟨o,v',ho,e,d⟩:=Hh (H:=H) I e1;rw[e2]at ho;cases ho;exact⟨c,ec,o',u,e,e3,rv⟩
def Vi(X:Cx)(P:Addr)(g:Pos->Str)(params:Arguments)(body:Expr)(scope:Scope)(fr:w0h)(js:w0g):TS:=λD σ H=>∃ws:List V,js.map (λj=>σ[j]?)=ws.map (λv=>some<|some v)/\K1 H P g/\
 ∀f H',H f=none->L6 P H H'->K1 H' P g->X8 H' f (X.env.qual++"<lambda>") params body scope fr ws->Frd X σ H'->D.rt (.ref f) H'
def U7{fr:w0h}{js:w0g}{params:Arguments}{body:Expr}{scope:Scope}{pos dy:Pos}{c P:Addr}{g:Pos->Str}(tb:Tb X.mg X.base c P)(dS:X.env.code=.ref c)(jD:X.ex=[])(hc:∀x,X.fn x=true)
    (gK:params.defaults=[]) (ij:params.kw_defaults=[]) (S:c0o X fr js scope) (hg:∀p q:Pos,p.line=q.line->p.col=q.col->g p=g q) (hq:g dy=X.env.qual++"<lambda>") :
    PS X (.Return (some<|.Lambda params body scope dy) pos) (Vi X P g params body scope fr js):=by
 intro aS s σ H D I h;obtain⟨ws,iA,hT,h⟩:=h;show wpAny_Return_some<|MM I tb dS gK ij (λy hy z=>S.vis _<|S.fre y hy z) hg hq hT λf c' pm du s' H1 I1 sP T1 C1 ff ho nf=>?_;have hs:X.s₀.heap.objs.size<=f:=ff.2.2.2.1.elim (λz=>by rw[jD]at z;cases z) id;have I2:=I1.track (o:=.frz (kla_obj "<lambda>" (X.env.qual++"<lambda>") params body scope (z0 X.env.cells scope.names []) pm c' du)<|.own 0) hs ff ⟨ho,⟨_,ho⟩⟩;have up:∀b o,H1 b=some o->BB X s'.heap (upd H1 f<|.frz (kla_obj "<lambda>" (X.env.qual++"<lambda>") params body scope (z0 X.env.cells scope.names []) pm c' du)<|.own 0) b=some o:=λb o e=>BF I2 hc (by rw[k9<|l9 e ff.1];exact e);have F:=Pw I2;exact⟨.ref f,_,Pu I2 hc,Y,h f _ nf (λb o nb e=>up _ _<|sP b o nb e) (T1.same (λps e=>up _ _ e) λb o e=>up _ _ e) ⟨_,pm,du,c',BF I2 hc c8,C1.sameF λb o e=>up _ _ e,F _ _ _ _ S iA⟩ F⟩
def BH(P:Program)(w:World)(K:aa)(mg:w0f)(base:Heap)(k:Nat)(tf:TE)(t:TA):TE:=λσ H Q=>tf σ H λfv H1=>∃f sp,fv=.ref f/\EH base H1 f/\LZ P w K mg base k f sp/\t σ H1 λvs H2=>vs.length=1/\EH base H2 f/\sp vs H2 Q E0
def J0{k:Nat}{fe e:Expr}{tf:TE}{t:TA}{pos:Pos}(hr:z4 k X.A)(hf:PE X fe tf)(ha:PA X [e] t)
    (oN:eval (.Call fe [e] [] pos) X.env=(do callWith pos (<- eval fe X.env) [] (backTo pos<|starEach [e] X.env)<|backToKw pos<|keywordEach [] X.env):=by rfl)
    (he:starEach [e] X.env=(false,eval e X.env)::starEach [] X.env:=by rfl):PE X (.Call fe [e] [] pos) (BH X.prog X.w X.K X.mg X.base k tf t):=by
 intro aS s σ H Q I h;rw[oN];show wpAny_bind<|y6 (hf aS s σ H _ I h) λu s1 hζ=>?_;obtain⟨v,H1,I1,rv,f,sp,ev,F1,F,h1⟩:=hζ;subst ev;obtain rfl:u=Value.ref f:=rv;show callWith_F (F1.at I1.bk I1.hok) (y6 (ha pos aS s1 σ H1 _ I1 h1) λus s2 ⟨vs,H2,I2,r,hl,F2,q⟩=>⟨F2.at I2.bk I2.hok,?_⟩) he rfl;obtain⟨v,rfl⟩:∃v,vs=[v]:=by
  match vs,hl with
  | [v],_=>exact⟨v,Y⟩
 obtain⟨u,rfl,ru⟩:=r.one;show wpAny_call<|codeAny_mono (F X.A X.stack s2 H2 u v Q hr I2.env0 ru q) λr s' hq=>?_;cases r with
 | error e=>exact False.elim hq
 | ok fl=>
  cases fl with
  | ret u=>exact I2.after hq
  | next=>exact False.elim hq
  | brk=>exact False.elim hq
  | cont=>exact False.elim hq
def PX{e:Expr}{tx:TX}{pos:Pos}(he:Pf X e tx)(hs:starEach [e] X.env=[(false,eval e X.env)]:=by rfl) :
    Pf X (.List [e] pos) (λσ H Q E=>tx σ H (λy H2=>∀p,H2 p=none->Q (.ref p) (upd H2 p<|.lst [y])) E):=by
 intro aS s σ H Q E I h;show wpAny_List_spliced ?_;rw[hs];show wpAny _ _ (spliced ((false,eval e X.env)::backTo pos [])) _ _ s;show Calls.spliced_cons<|y6 (he aS s σ H _ E I h) λu2 s2 ⟨y,H2,I2,r2,q2⟩=>Calls.spliced_nil ?_;exact⟨by show 1<=sizeLine;decide,.ref _,_,I2.laid (t':=s2.toks) (o:=.lst [y]) (λb ob q=>ak _ q) (ae _) ⟨by show 1<=sizeLine;decide,_,_,.cons r2 .nil,aB _ Y⟩,Y,q2 _<|I2.hok.fresh<|ae _⟩
end
def Vf(K:aa)(Cc:Addr)(tb:c0n)(ts:TS):TS:=λD σ H=>tb D (λcls _ H'=>∃C,cls=.ref C/\PySem.W.exmOne K (.ref C) (.ref Cc)=some true/\
 ∀a,H' a=none->ts D σ (upd H' a<|Np a C)) σ H
section
variable{X:Cx}{e:Expr}{te:TE}{tx:TX}{pos:Pos}{st:Stmt}{t u:c0n}
def Qa{body:List Stmt}{c:Str}{np nX:Pos}{b₀:Stmt}{iw:List Stmt}{Cc:Addr}{ts:TS}(hb:c0q X body t)(stk:X.stack=X.env::X.outer)(fr:X.env.frame=some X.env.locals)
    (hg:Gl X c) (hm:X.mg c=some (.ref Cc)) (hs:∀a,GD (X.caught a) (b₀::iw) ts)
    (fG:(c == ("__debug__":Str))=false:=by decide):PS X (.Try body [.ExceptHandler (some<|.Name c np) none (b₀::iw) nX] [] [] pos) (Vf X.K Cc t ts):=by
 intro aS s σ H D I h;show wpAny_Try_except (wpAny_mono (hb aS s σ H D _ I h) (λf s1 q=>?_) λe s1 q=>?_)
 . cases f with
   | next=>exact wpAny_execs_nil q
   | ret v=>exact q
   | brk=>exact q
   | cont=>exact q
 . obtain⟨s0,H0,I0,a,T,C,H',rfl,F,C',eC,hx,hq⟩:=q;cases eC;have J:=F.inv I0;obtain⟨a0,fl⟩:=F.base J.stack;have ik:X.A.frames=some (X.env::X.outer):=J.ok.frames.trans (by rw[stk]);have qF:=fl;rw[stk]at qF;show wpAny_looks_onW ik fr qF λh1 oI up1=>?_;show wpAny_landsW oI λh2 qD pR=>?_;have kR:=qD;rw[<- stk]at kR;obtain⟨T2,F2⟩:=F.back (tk:=s1.toks) J.stack J.stkFree kR<|up1.trans pR;have J2:j9 X aS σ H' { s1 with heap:=h2,toks:=s1.toks }:=F2.inv I0;obtain⟨oe,vs,b0,oT,xr,e1,e2,_⟩:=F2.xt;have LT:PySem.W.Looks (model X.prog X.w) h2 (typeOf<|.ref a) (.ref C):=e2.1▸(PySem.W.Looks.ld e1).andThen .now;show wpAny_handleBy_cons (codeAny_handlers_test<|V2 (X:=X.caught a) (s:={ s1 with heap:=h2,toks:=s1.toks }) (J2.catch a) hg hm ?_ fG) (by intro q;cases q);show(PySem.W.exm_one (M:=model X.prog X.w) J2.kIn LT hx).here ?_;show codeAny_handlers_suite ?_;show lands_againW qD λh3 wW tO=>?_;have kQ:=wW;rw[<- stk]at kQ;obtain⟨T3,F3⟩:=F.back (tk:=s1.toks) J.stack J.stkFree kQ<|(up1.trans pR).trans tO;have J3:j9 X aS σ (upd H' a<|Np a C) { s1 with heap:=h3,toks:=s1.toks }:=F3.inv' I0;show wpAny_mono (hs a aS _ _ _ D (J3.catch a)<|hq a F.ha) (λfl s5 q=>?_) λ_ _ z=>z.elim;cases fl with
   | next=>obtain⟨σ',H5,I5,q5⟩:=q;exact⟨σ',H5,I5.uncatch I.ok,q5⟩
   | brk=>obtain⟨σ',H5,I5,q5⟩:=q;exact⟨σ',H5,I5.uncatch I.ok,q5⟩
   | cont=>obtain⟨σ',H5,I5,q5⟩:=q;exact⟨σ',H5,I5.uncatch I.ok,q5⟩
   | ret u=>obtain⟨v,H5,J5,q5⟩:=q;exact⟨v,H5,⟨J5.os,J5.bare,J5.base,J5.free,J5.loc,J5.hok⟩,q5⟩
end
section
variable{P:Program}{w:World}{K:aa}{mg:w0f}{base:Heap}
def FV.okxC{x qual:Str}{st:Stmt}{f c p:Addr}{fd:FuncData}{N ps:w0h}{k:Nat}{sp:Sp}(F:FV K x qual st f fd)(S:j0 N ps (c5 st))(ht:tabIn K x=some (c,p))(hn:nsIn K mainGlobals x=some (some<|.ref f))(len:∀vs H Q E,sp vs H Q E->vs.length=ps.length)
    (dw:∀(A:Around) (outer:List Env) (s:Shared) (H:Z) (vs:List V) (Q:VK) (E:XK),z4 k (A.deeper<|envOfC qual (c5 st) s.heap.objs.size f<|.ref c)->sp vs H Q E->
     ∃t,GD (FO (Iz P w) P w K mg base N qual (c5 st) f (.ref c) A outer s H E) (p9 st) t/\t { nx:=λ_ H'=>Q .non H',rt:=Q } (An N vs) H):m8 P w K mg base (Iz P w) (k+1) f fd ps sp:=by
 obtain⟨oc,od,kV,dF,pm,an,dR,ct,fW,rfl,lk,fi⟩:=F.ex;have hc:dR=.ref c:=ES (st:=st) (qual:=qual) ht hn lk;subst hc;exact LJ lk fi S len λA outer s H vs Q E hr eX=>dw A outer s H vs Q E hr eX
end
section
variable{P:Program}{w:World}{K:aa}{mg:w0f}{base:Heap}{k:Nat}{f:Addr}{name qual pn:Str}{params:Arguments}{body:List Stmt}{scope:Scope}{A:Around}{outer:List Env}{s:Shared}{H:Z}{v:V}{u:Value}{tb:TS}{Q:VK}{fr ls:w0h}{ws:List V}
def OR(S:Pj pn fr ls scope)(F:Eh H f name qual params body scope fr ws)(hw:ws.length=fr.length)
    (dw:∀cd dq,z4 k (A.deeper<|Ih qual scope s.heap.objs.size f cd dq)->GD (c0k P w K mg base (pn::fr++ls) qual scope f cd dq A outer s H) body tb)
    (dH:∀dq dF pm cd du,bindArgs (fnX name qual params body scope dq .none .none dF pm none cd du) ⟨[u],[]⟩=pure [(pn,u)])
    (hr:z4 (k+1) A) (e0:DR P w K mg base A outer s H) (rv:p6 v u) (q:tb { nx:=λ_ H'=>Q .non H',rt:=Q } (some v::ws.map some++List.replicate ls.length none) H) :
    codeAny (model P w) A (.call (.ref f) ⟨[u],[]⟩) (CR C8 outer P w H s Q E0) s:=by
 obtain⟨dq,dF,pm,du,c0,ho,hc,C⟩:=F;have iX:s.heap.NoLimit:=e0.mod.nolimit.keeps λb o e=>(e0.bs b o e).1;show codeAny_call_function hr.depth (e0.hok _ _ ho).1 rfl S.co S.gen rfl (hc.rec e0.hok)<|BindsTo.of_eq (s:=s) (dH dq dF pm (.ref c0) du) _ _ _ _ ?_;show KH S.kind S.par λh' tk kp ⟨m,iC,hm⟩ hown hpc=>?_;show⟨iX.keeps kp,codeAny_func ?_⟩;have lt:∀{x c},dq.lookup x=some c->c < s.heap.objs.size:=λe=>by
  obtain⟨o,v,e1,_⟩:=C.cell _ _ e;exact(e0.hok _ _ e1).lt
 have fA:∀b:Addr,b ∉ (c0k P w K mg base (pn::fr++ls) qual scope f (.ref c0) dq A outer s H).ex:=λb z=>absurd (show b∈([]:List Addr)from z) (by simp);have mq:∀{x c},(cellsFrom (s.heap.objs.size+1) scope.names dq).lookup x=some c->(x,c)∈cellsFrom (s.heap.objs.size+1) scope.names []\/dq.lookup x=some c:=λ{x c} e=>by
  rw[y3,z9]at e;split at e
  . rename_i d hd;cases e;exact .inl (aH hd)
  . exact .inr e
 have own:∀{x},scope.names.lookup x=some .free->(cellsFrom (s.heap.objs.size+1) scope.names []).lookup x=none:=λ{x} e=>by
  cases z:(cellsFrom (s.heap.objs.size+1) scope.names []).lookup x with
  | none=>rfl
  | some d=>
   have:=S.uniq _<|De _ _ _ _<|aH z;rw[e]at this;cases this
 have I:j9 (c0k P w K mg base (pn::fr++ls) qual scope f (.ref c0) dq A outer s H) [] (some v::ws.map some++List.replicate ls.length none) H { s with heap:=h',toks:=tk }:=by
  show⟨⟨e0.mod,S.kind,Y,Y,ae _,λx y c h1 h2=>?_,λy hy=>?_,λy c z e=>?_,λ_=>hr.hd,Around.frames_deeper e0.frames,.inr ⟨Y,Y⟩,λb z=>absurd z<|fA b,e0.bs,e0.bsz,λb _ _=>fA b,λb z=>absurd z<|fA b,e0.funs,e0.frf⟩,
   rfl,e0.bare,Un.kept kp,⟨_,iC,λi y v' h1 h2 h3=>?_⟩,λy c h=>?_,e0.hok.fresh (ae _),λy c h=>?_,λp hp=>absurd (show p∈([]:w0d)from hp) (by simp),e0.hok.kept kp,?_⟩
  . rcases mq h1 with z1 | z1 <;>rcases mq h2 with z2 | z2
    . exact Bk _ _ x y c z1 z2
    . exact absurd (Nat.lt_trans (lt z2)<|u6 _ _ _ _ z1) (aL _)
    . exact absurd (Nat.lt_trans (lt z1)<|u6 _ _ _ _ z2) (aL _)
    . exact C.inj x y c z1 z2
  . have hy:scope.names.lookup y=some .cell\/scope.names.lookup y=some .free:=hy;show ∃c,(cellsFrom (s.heap.objs.size+1) scope.names dq).lookup y=some c;rw[y3,z9];rcases hy with hy | hy
    . obtain⟨c,hc⟩:=P2 scope.names (s.heap.objs.size+1) y<|aH hy;obtain⟨c',gc⟩:=P1 hc;rw[gc];exact⟨c',Y⟩
    . rw[own hy];exact C.has y (S.all _ (aH hy) Y)
  . have z:(scope.names.lookup y == some NameKind.cell)=true:=z;have z:scope.names.lookup y=some .cell:=by simpa using z
    obtain⟨d,hd⟩:=P2 scope.names (s.heap.objs.size+1) y<|aH z;obtain⟨d',eU⟩:=P1 hd;have e:(cellsFrom (s.heap.objs.size+1) scope.names dq).lookup y=some c:=e;rw[y3,z9,eU]at e;cases e;exact aR (u6 _ _ _ _<|aH eU)
  . cases i with
    | zero=>
     have e1:pn=y:=Option.some.inj h1;have e2:v=v':=Option.some.inj<|Option.some.inj h2;subst e1 e2;show⟨u,rv,?_⟩;rcases S.par with z | z
     . exact .inl ⟨z,hm z⟩
     . obtain⟨c,hc,eR⟩:=hpc z;exact .inr ⟨.inl z,c,by show(cellsFrom _ _ dq).lookup pn=_;rw[y3,z9,hc],eR⟩
    | succ i=>
     have h1:(fr++ls)[i]? = some y:=h1;have h2:(ws.map some++List.replicate ls.length none)[i]? = some (some v'):=h2;have hi:i < ws.length:=by
      by_cases hi:i < ws.length
      . exact hi
      . rw[bq (by rw[ai];omega),cA]at h2;split at h2 <;>cases h2
     rw[aV oM]at h1;rw[aV (by rw[ai];exact hi),aN]at h2;obtain⟨v2,e2,e3⟩:=bM.mp h2;cases e3;have fy:=S.fre y<|aD h1;obtain⟨c,a1,o,u',a2,a3,a4⟩:=C.val i y _ h1 e2;exact⟨u',a4,.inr ⟨.inr fy,c,by show(cellsFrom _ _ dq).lookup y=_;rw[y3,z9,own fy];exact a1,o,kp _ _ (e0.hok _ _ a2).1,a3⟩⟩
  . rcases mq h with z | z
    . exact hown y c z
    . obtain⟨v',a⟩:=C.inj' e0.hok z;exact⟨v',Ak a kp⟩
  . rcases mq h with z | z
    . exact .inl (e0.hok.fresh<|aR<|u6 _ _ _ _ z)
    . obtain⟨o,v',e,_⟩:=C.cell y c z;exact .inr ⟨(e0.hok _ _ e).lt,o,e⟩
  . show(ws.map some++List.replicate ls.length none).length+1=(fr++ls).length+1;rw[ao,ai,cB,ao,hw]
 show wpAny_mono (dw (.ref c0) dq (hr.deeper _) [] _ _ H _ I q) (λfl s' hs=>?_) λe s' hs=>False.elim hs;have dD:∀{H':Z} {v:V} {u:Value},Nm (c0k P w K mg base (pn::fr++ls) qual scope f (.ref c0) dq A outer s H) H' s'->p6 v u->Q v H'->CE outer P w H s Q u s':=
  λ{H' v u} J rv q=>⟨v,H',J.os,J.bare,J.base,J.hok,rv,q⟩
 cases fl with
 | ret u=>
  obtain⟨v,H',J,rv,q⟩:=hs;exact dD J rv q
 | next=>
  obtain⟨σ',H',J,q⟩:=hs;exact dD (v:=V.non) (u:=Value.none) J.r rfl q
 | brk=>
  obtain⟨_,_,_,q⟩:=hs;exact False.elim q
 | cont=>
  obtain⟨_,_,_,q⟩:=hs;exact False.elim q
end
section
variable{P:Program}{w:World}{K:aa}{mg:w0f}{base:Heap}{k:Nat}{f:Addr}{name qual pn:Str}{params:Arguments}{body:Expr}{bs:List Stmt}{scope:Scope}{tb:TE}{ts:TS}{fr ls:w0h}{sp:Sp}
def V4(S:LY pn fr scope)(dw:∀cd dq A outer s H,z4 k (A.deeper<|JD qual scope s.heap.objs.size f cd dq)->PE (QK P w K mg base (pn::fr) qual scope f cd dq A outer s H) body tb)
    (dH:∀dq pm cd du u,bindArgs (kla_fn "<lambda>" qual params body scope dq pm cd du) ⟨[u],[]⟩=pure [(pn,u)])
    (eX:∀H v Q,sp [v] H Q E0->∃ws:List V,ws.length=fr.length/\X8 H f qual params body scope fr ws/\tb (some v::ws.map some) H Q):LZ P w K mg base (k+1) f sp:=λA outer s H u v Q hr e0 rv h=>by
 obtain⟨ws,hw,F,q⟩:=eX H v Q h;exact OG S F hw (λcd dq gF=>dw cd dq A outer s H gF) (λdq pm cd du=>dH dq pm cd du u) hr e0 rv q
def QA(S:Pj pn fr ls scope)(dw:∀cd dq A outer s H,z4 k (A.deeper<|Ih qual scope s.heap.objs.size f cd dq)->GD (c0k P w K mg base (pn::fr++ls) qual scope f cd dq A outer s H) bs ts)
    (dH:∀dq dF pm cd du u,bindArgs (fnX name qual params bs scope dq .none .none dF pm none cd du) ⟨[u],[]⟩=pure [(pn,u)])
    (eX:∀H v Q,sp [v] H Q E0->∃ws:List V,ws.length=fr.length/\Eh H f name qual params bs scope fr ws/\ts { nx:=λ_ H'=>Q .non H',rt:=Q } (some v::ws.map some++List.replicate ls.length none) H):LZ P w K mg base (k+1) f sp:=λA outer s H u v Q hr e0 rv h=>by
 obtain⟨ws,hw,F,q⟩:=eX H v Q h;exact OR S F hw (λcd dq gF=>dw cd dq A outer s H gF) (λdq dF pm cd du=>dH dq dF pm cd du u) hr e0 rv q
end
section
variable{X:Cx}{aS:w0d}{σ:St}{H:Z}{s:Shared}
abbrev Pb:=St->Z->(List V->Addr->Addr->List V->Z->Prop)->Prop
def LPM(X:Cx)(params:Arguments)(body:Expr)(scope:Scope)(aS:w0d)(σ:St)(R:List V->Addr->Addr->List V->Z->Prop)(us:w0i)(s':Shared):Prop:=
 ∃gW vs f c' pm du fI fU H',us=gW++Value.ref f::fI/\o8 vs gW/\o8 fU fI/\j9 X aS σ H' s'/\L7 X aS H' f/\s'.heap.get? f=some (kla_obj "<lambda>" (X.env.qual++"<lambda>") params body scope (z0 X.env.cells scope.names []) pm c' du)/\R vs f c' fU H'
def QT(X:Cx)(params:Arguments)(body:Expr)(scope:Scope)(es:List Expr)(t:Pb):Prop:=
 ∀(pos:Pos) (aS:w0d) (s:Shared) (σ:St) (H:Z) (R:List V->Addr->Addr->List V->Z->Prop),j9 X aS σ H s->t σ H R->wpAny (model X.prog X.w) X.A (spliced<|backTo pos<|starEach es X.env) (LPM X params body scope aS σ R) X.xe s
def Vo(P:Addr)(qual:Str)(t:TA):Pb:=λσ H R=>R4 H P qual/\∀f c H',L6 P H H'->R4 H' P qual->D6 H' c qual->H' f=none->t σ H' λvs H2=>R [] f c vs H2
def Ou{c P:Addr}{params:Arguments}{body:Expr}{scope:Scope}{dy:Pos}{es:List Expr}{t:TA}(tb:Tb X.mg X.base c P)(dS:X.env.code=.ref c)(gK:params.defaults=[])(ij:params.kw_defaults=[])
    (ik:∀y∈scope.names,y.2=.free->X.env.scope.names.lookup y.1=some .cell\/X.env.scope.names.lookup y.1=some .free) (ha:PA X es t)
    (hs:starEach (.Lambda params body scope dy::es) X.env=(false,eval (.Lambda params body scope dy) X.env)::starEach es X.env:=by rfl):QT X params body scope (.Lambda params body scope dy::es) (Vo P (X.env.qual++"<lambda>") t):=by
 intro pos aS s σ H R I h;obtain⟨hT,h⟩:=h;rw[hs];show wpAny _ _ (spliced ((false,eval (.Lambda params body scope dy) X.env)::backTo pos (starEach es X.env))) _ _ s;show Calls.spliced_cons<|OF I tb dS gK ij ik hT λf c' pm du s' H' I' sp kK hc ff ho=>?_;have I2:j9 X (aS++[(f,kla_obj "<lambda>" (X.env.qual++"<lambda>") params body scope (z0 X.env.cells scope.names []) pm c' du)]) σ H' s':=I'.pins_of λp hp=>by
  rcases aw.mp hp with hp | hp
  . exact I'.pin p (ar _ hp)
  . rw[af.mp hp];exact⟨ho,ff.1,ff.2.1,ff.2.2.1,λv z=>by cases z⟩
 show y6 (ha pos _ s' σ H' _ I2<|h f c' H' sp kK hc ff.1) λfI s2 ⟨fU,H2,I3,r2,q2⟩=>?_;obtain⟨e1,e2,e3,e4,_⟩:=I3.pin (f,kla_obj "<lambda>" (X.env.qual++"<lambda>") params body scope (z0 X.env.cells scope.names []) pm c' du)<|ar _<|ar _ ax;exact⟨[],[],f,c',pm,du,fI,fU,H2,Y,.nil,r2,I3.unpinned,⟨e2,ff.2⟩,e1,q2⟩
def GN{params:Arguments}{body:Expr}{scope:Scope}{e:Expr}{es:List Expr}{te:TE}{t:Pb}(ha:PE X e te)(hr:QT X params body scope es t)(hs:starEach (e::es) X.env=(false,eval e X.env)::starEach es X.env:=by rfl) :
    QT X params body scope (e::es) (λσ H R=>te σ H λx H1=>t σ H1 λvs f c fU H2=>R (x::vs) f c fU H2):=by
 intro pos aS s σ H R I h;rw[hs];show wpAny _ _ (spliced ((false,eval e X.env)::backTo pos (starEach es X.env))) _ _ s;show Calls.spliced_cons<|y6 (ha aS s σ H _ I h) λu s1 ⟨x,H1,I1,r1,q1⟩=>?_;show y6 (hr pos aS s1 σ H1 _ I1 q1) λus s2 hζ=>?_;obtain⟨gW,vs,f,c',pm,du,fI,fU,H2,e2,r2,r3,I2,ff,ho,q2⟩:=hζ;exact⟨u::gW,x::vs,f,c',pm,du,fI,fU,H2,by rw[e2];rfl,.cons r1 r2,r3,I2,ff,ho,q2⟩
def Ml(P:Program)(w:World)(K:aa)(mg:w0f)(base:Heap)(kf:Nat)(qual:Str)(js:w0g)(tb:Heap->TE)(lD:Heap->Sp)(t:Pb):TE:=λσ H Q=>∃ws:List V,js.map (λj=>σ[j]?)=ws.map (λv=>some<|some v)/\
 t σ H λvs f c fU H2=>∀dU:Heap,Up P w K mg base dU->DQ P w K mg dU (kf+1) f (λxs H Q _=>D6 H c qual/\∃v,xs=[v]/\tb dU (some v::ws.map some) H Q)->lD dU (vs++V.ref f::fU) H2 Q E0
def Je{k kf:Nat}{g:Addr}{fd:FuncData}{ps:w0h}{lD:Heap->Sp}{x pn:Str}{fr:w0h}{js:w0g}{p pos:Pos}{e:Expr}{es:List Expr}{params:Arguments}{body:Expr}{scope:Scope}{t:Pb}{tb:Heap->TE}
    (G:∀dU:Heap,m8 X.prog X.w X.K X.mg dU C8 k g fd ps<|lD dU) (hr:z4 k X.A) (hg:Gl X x) (hm:X.mg x=some (.ref g)) (hk:PySem.W.keepIn X.K (.ref g)=true) (hb:E6 X.K fd ps []) (hL:QT X params body scope (e::es) t) (S:Rw X pn fr js scope)
    (dw:∀dU f cd dq A outer s0 H0,z4 kf (A.deeper<|JD (X.env.qual++"<lambda>") scope s0.heap.objs.size f cd dq)->PE (QK X.prog X.w X.K X.mg dU (pn::fr) (X.env.qual++"<lambda>") scope f cd dq A outer s0 H0) body (tb dU))
    (dH:∀dq pm cd du u,bindArgs (kla_fn "<lambda>" (X.env.qual++"<lambda>") params body scope dq pm cd du) ⟨[u],[]⟩=pure [(pn,u)])
    (fG:(x == ("__debug__":Str))=false:=by decide) (he:starEach (e::es) X.env=(false,eval e X.env)::starEach es X.env:=by rfl) (eT:(backTo pos<|starEach es X.env).any (·.1)=false:=by rfl) :
    PE X (.Call (.Name x p) (e::es) [] pos) (Ml X.prog X.w X.K X.mg X.base kf (X.env.qual++"<lambda>") js tb lD t):=by
 intro aS s σ H Q I h;obtain⟨ws,iA,h⟩:=h;show wpAny_Call_Name_kw<|V2 I hg hm ?_ fG;show bZ (h₀:=X.base) I.ok.mod.kin hk (y6 (hL pos aS s σ H _ I h) λus s1 hζ=>?_) he eT;obtain⟨gW,vs,f,c',pm,du,fI,fU,H1,e1,r,r3,I1,ff,ho,q⟩:=hζ;show ⟨I1.kIn,?_⟩;subst e1;have a1c:Up X.prog X.w X.K X.mg X.base (U0 X H1 s1.heap):=⟨Cm I1,λF=>F.up I1.mod (Cm I1)<|by rw[show(U0 X H1 s1.heap).objs.size=s1.heap.objs.size from hideAll_size _ _];exact aj I1.ok.bsz I1.sz⟩;have q1:=q _ a1c<|c0e I1 S ff ho iA (dw _ f) dH;have F:=G<|U0 X H1 s1.heap;have r2:o8 (vs++V.ref f::fU) (gW++Value.ref f::fI):=r.append<|.cons Y r3;have hl:((gW++Value.ref f::fI)++[]).length=ps.length:=by rw[aY,<- r2.length];exact F.len _ _ _ _ q1
 have qx:=hb s1 (gW++Value.ref f::fI) I1.kIn hl;rw[aY]at qx;show wpAny_call<|codeAny_mono (F.run X.A X.stack s1 H1 ⟨gW++Value.ref f::fI,[]⟩ _ _ Q E0 hr (Pa I1) qx r2 q1) λr s' hq=>?_;cases r with
 | error e=>exact False.elim hq
 | ok fl=>
  cases fl with
  | ret u=>exact I1.after hq
  | next=>exact False.elim hq
  | brk=>exact False.elim hq
  | cont=>exact False.elim hq
end
end L2
namespace L2
open PySem PySem.Spec PyProof.Rows
def Ph(lo:Int)(n:Nat):It:=⟨λi _=>i < n,λi H x H'=>H'=H/\x=.int (lo - i),λi _=>n<=i⟩
def IH{P:Program}{w:World}{K:aa}{tg:Expr}(it:Addr)(lo:Int)(n:Nat):GC P w K tg (Ph lo n) [it] it (λi h=>IsRangeIter h it (lo+(i:Nat) * (-1)) ((n:Int) - (i:Nat))<|-1)where
 mem:=by simp
 obj:=λi h st b hb=>by
  have e:b=it:=by simpa using hb
  subst e;exact⟨_,st,λv z=>by
   have z':Data.fields _=Data.cell v:=z;cases z'⟩
 keep:=λi h h' st k=>k it (by simp) _ st
 item:=by
  intro X hP hw hK hc i aS s σ H E I hf st hg;subst hP hw hK;obtain⟨f0,f1,f2,f3,f4,f5⟩:=hf it (by simp);have W:=Walks.range (prog:=X.prog) (w:=X.w) (I.ok.hd hc) it lo (-1) n;show W.item i s _ _ hg st λv h' tk hv fk kk=>?_;obtain⟨t,rfl⟩:=hv;have I1:j9 X aS σ H { s with heap:=h',toks:=tk }:=I.turned (λb o hb e=>kk b o (by simpa using hb) e) f0 f1 f3 f4 f5;show⟨_,Y,JA (s:={ s with heap:=h',toks:=tk }) (n:="range_iterator") fk Y Y bD ⟨.int<|lo - i,H,I1,⟨t,?_⟩,⟨Y,Y⟩,fk,λb hb=>(hf b hb).1⟩⟩;rw[show lo+(i:Int) * (-1)=lo - i by omega]
 done:=by intro X hP hw hK hc i aS s σ H E I hf st hg;subst hP hw hK;obtain⟨f0,f1,f2,f3,f4,f5⟩:=hf it (by simp);exact wpAny_pyNext_range_end (I.ok.hd hc) st (by have:n<=i:=hg;omega) λh' eb=>⟨Y,I.turned (t':=s.toks) (λb o hb e=>eb b o hb e) f0 f1 f3 f4 f5⟩
 self:=λ_ _ _ _ _ st h=>wpAny_pyIter_rangeiter st h
def AM(a:Int)(h:-1<=a):Builtin.Range.rangeSize a (-1) (-1)=a+1:=by unfold Builtin.Range.rangeSize;simp only[show ¬(-1:Int) > 0 by decide,if_false,Int.neg_neg,Int.ediv_one];split <;>omega
def Ki{a:Int}(ha:-1<=a)(xQ:a < 2 ^ 62):Builtin.Range.small a (-1) (-1)=true:=by unfold Builtin.Range.small;rw[AM a ha];simp only[Builtin.Range.rangeFitsLong,bK,Bool.or_eq_true,decide_eq_true_eq,beq_iff_eq,show ¬(-1:Int) > 0 by decide,if_false];omega
section
variable{X:Cx}{tg:Expr}
def b0w(ta:TA):TI:=λσ H R=>ta σ H λvs H1=>∃i:Int,vs=[.int i,.int<|-1,.int<|-1]/\(-1<=i/\i < 2 ^ 30)/\R (Ph i (i+1).toNat) H1
def Mx{a b c:Expr}{ta:TA}{p pos:Pos}(hg:Gl X "range")(hm:X.mg "range"=none)(ha:PA X [a,b,c] ta)(hs:starEach [a,b,c] X.env=[(false,eval a X.env),(false,eval b X.env),(false,eval c X.env)]:=by rfl)(iB:starEach [b,c] X.env=[(false,eval b X.env),(false,eval c X.env)]:=by rfl) :
    PI X tg (.Call (.Name "range" p) [a,b,c] [] pos) (b0w ta):=by
 intro aS s σ H R I h;show Call_ (DM I hg hm boot_range<|cR (y6 (ha pos aS s σ H _ I h) λus s1 ⟨vs,H1,I1,r1,q1⟩=>?_) (by rw[hs,iB])<|by rw[iB];rfl);obtain⟨i,e,⟨q1,q2⟩,q⟩:=q1;subst e;cases r1 with
 | cons r rr=>
  cases rr with
  | cons r' rr=>
   cases rr with
   | cons r'' rr=>
    cases rr;obtain⟨t,rfl⟩:=r;obtain⟨u,rfl⟩:=r';obtain⟨v,rfl⟩:=r'';show call_range_3 bD ?_<|Or.inl<|PyProof.noPylong_small oM;show wpAny_pyIter_range (IsRange.new ..) (Ki q1 oM) ?_;have I2:j9 X aS σ H1 { s1 with heap:=s1.heap.push { cls:=.type "range",data:=.fields #[.int i t,.int (-1) u,.int (-1) v] },toks:=s1.toks }:=I1.kept λb o e=>ak _ e;show⟨(s1.heap.push { cls:=.type "range",data:=.fields #[.int i t,.int (-1) u,.int (-1) v] }).objs.size,[(s1.heap.push { cls:=.type "range",data:=.fields #[.int i t,.int (-1) u,.int (-1) v] }).objs.size],za ⟨H1,Y,
     I2.kept (t':=s1.toks) λb o e=>ak _ e,IH _ i (i+1).toNat,?_,λb hb=>?_,q⟩⟩
    . have e1:i+((0:Nat):Int) * (-1)=i:=by omega
      have e2:(((i+1).toNat:Nat):Int) - ((0:Nat):Int)=Builtin.Range.rangeSize i (-1) (-1):=by rw[AM i q1];omega
      show IsRangeIter _ _ (i+((0:Nat):Int) * (-1)) ((((i+1).toNat:Nat):Int) - ((0:Nat):Int))<|-1;rw[e1,e2];exact aB _ rfl
    . have e:b=(s1.heap.push { cls:=.type "range",data:=.fields #[.int i t,.int (-1) u,.int (-1) v] }).objs.size:=by simpa using hb
      subst e;exact I2.fpOk (ae _) (I2.hok.fresh<|ae _)
def Lc{lo:Int}{n:Nat}{g:TG}{tb:TS}{D:DS}{σ:St}{H:Z}(Pv:Nat->St->Z->Prop)(h0:Pv 0 σ H)
    (hs:∀i σ H,i < n->Pv i σ H->g (.int<|lo - i) σ H λσ2 H2=>tb { D with nx:=Pv<|i+1,ct:=Pv<|i+1,bk:=D.nx } σ2 H2) (hd:∀σ H,Pv n σ H->D.nx σ H) :
    ∃W:Nat->Nat->St->Z->Prop,(∃m,W 0 m σ H)/\∀i m σ H,W i m σ H->
     ((Ph lo n).stop i H/\D.nx σ H)\/((Ph lo n).go i H/\∃N:St->Z->Prop,(∀σ' H',N σ' H'->∃m',m' < m/\W (i+1) m' σ' H')/\∀x H',(Ph lo n).yld i H x H'->g x σ H' λσ2 H2=>tb { D with nx:=N,ct:=N,bk:=D.nx } σ2 H2):=by
 show⟨λi m σ H=>m=n - i/\i<=n/\Pv i σ H,⟨n,by simp,aU _,h0⟩,?_⟩;rintro i m σ H ⟨rfl,hi,p⟩;by_cases el:i < n
 . show .inr ⟨el,Pv<|i+1,λσ' H' p'=>⟨n - (i+1),oM,Y,el,p'⟩,λx H' y=>?_⟩;obtain⟨e,y⟩:=y;subst e y;exact hs i σ _ el p
 . have e:i=n:=by omega
   subst e;exact .inl ⟨ae _,hd σ H p⟩
end
section
variable{X:Cx}
def RG(X:Cx)(m:Str)(ta:TE)(t:TA):TE:=λσ H Q=>ta σ H λx H1=>∃(a C dx:Addr) (fs:List (Str × V)) (f:Addr) (fd:FuncData) (ps:w0h) (sp:Sp) (k:Nat),x=.ref a/\H1 a=some (.ins C dx fs)/\fs.lookup m=none/\JM X.K C/\FT X.K C m f/\
 m8 X.prog X.w X.K X.mg X.base C8 k f fd ps sp/\z4 k X.A/\E6 X.K fd ps []/\t σ H1 λvs H2=>sp (x::vs) H2 Q E0
variable{m:Str}{pos dC:Pos}{e o:Expr}{es:List Expr}{ta:TE}{t:TA}{tx:TX}
def Oo{pl:Sem Bool}(he:PE X o ta)(hx:Bb C8 X E0)(ha:PA X (e::es) t)
    (hR:starEach (e::es) X.env=(false,eval e X.env)::starEach es X.env:=by rfl) (eT:(backTo pos<|starEach es X.env).any (·.1)=false:=by rfl)
    (ht:eval (.Call (.Attribute o m dC) (e::es) [] pos) X.env=(do
     let ov <- eval o X.env
     standAt dC.atName
     let(f,first) <- holding [ov] (getMethod ov m pl)
     callWith pos f first (backTo pos<|starEach (e::es) X.env) (backToKw pos<|keywordEach [] X.env)):=by rfl) :
    PE X (.Call (.Attribute o m dC) (e::es) [] pos) (RG X m ta t):=by
 intro aS s σ H Q I h;show cS (pl:=pl) (y6 (he aS s σ H _ I h) λu s1 hζ=>?_) ht;obtain⟨x,H1,I1,rx,a,C,dx,fs,f,fd,ps,sp,k,ex,ea,l,c,hm,F,hr,hb,q⟩:=hζ;subst ex;obtain rfl:u=Value.ref a:=rx;show Ah I1 ea c hm l ?_;show bZ (first:=[.ref a]) (h₀:=X.base) I.ok.mod.kin hm.kp (y6 (ha pos aS s1 σ H1 _ I1 q) λus s2 ⟨vs,H2,I2,r,q2⟩=>⟨I2.kIn,?_⟩) hR eT;exact Hw (us:=.ref a::us) (vs:=.ref a::vs) (dvs:=[]) F hr hb .nil hx I2 (.cons Y r) (by rw[aY];exact q2)
end
end L2
set_option maxHeartbeats 4000000
abbrev K8:PySem.Str:="_law_sort_here"
abbrev W9:PySem.Str:="_law_saying_here"
abbrev W8:PySem.Str:="_law_state_here"
abbrev W7:PySem.Str:="_law_word_here"
abbrev BD:PySem.Str:="_law_letters_here"
abbrev Ek:PySem.Str:="_law_one_here"
abbrev E1:PySem.Str:="self"
abbrev BC:PySem.Str:="_law_found"
abbrev IC:PySem.Str:="_law_kind_here"
abbrev Hg:PySem.Str:="_law_script"
abbrev X9:PySem.Str:="kind"
abbrev FW:PySem.Str:="saying"
abbrev Me:PySem.Str:="_law_most"
abbrev Rz:PySem.Str:="_law_words_asked"
abbrev Ny:PySem.Str:="_law_some"
abbrev Pq:PySem.Str:="_law_bottom"
abbrev Ka:PySem.Str:="_law_k"
abbrev Nx:PySem.Str:="_law_due"
abbrev Pp:PySem.Str:="_law_inner"
abbrev IB:PySem.Str:="known"
abbrev Bx:List PySem.Str:=[E1,"x","y"]
abbrev n1N:List PySem.Str:=[Hg,W8,K8,IC,BD,W9,"_law_open_star_here",Nx,Ka,W7,"_law_j",BC]
abbrev b0m:List PySem.Str:=[W8,K8,BD,"_law_deep"]
abbrev Ql:List PySem.Str:=[K8,W9]
abbrev Ro:List PySem.Str:=[K8,"_law_x","_law_y"]
abbrev b0l:List PySem.Str:=[K8,W9,Rz]
abbrev n6N:List PySem.Str:=[W8,K8,IC,W9,BD]
abbrev JU:List PySem.Str:=[E1,"thing"]
abbrev n8N:List PySem.Str:=[K8,W9,Rz,"_law_form",BC,Pp,W7]
abbrev n9N:List PySem.Str:=[W8,Me,Ny,"_law_first",BD,Ka,"_law_at","_law_sign"]
abbrev b0p:List PySem.Str:=[BD,Me,BC,"_law_level",Ka,"_law_more",W7]
abbrev Ua:List PySem.Str:=[K8,Ek,"_law_other",W7]
abbrev TZ:List PySem.Str:=[K8,Ek,BC,W7]
abbrev KJ:List PySem.Str:=[X9,"first","second"]
abbrev HM:List PySem.Str:=["letters","thing"]
abbrev b0o:List PySem.Str:=[W8,Me,Ny,"_law_first",BD,Ka]
abbrev Ex:List PySem.Str:=[X9,"of"]
abbrev TY:List PySem.Str:=[IC,W9,W7]
abbrev HL:List PySem.Str:=[X9,FW]
abbrev TV:List PySem.Str:=[K8,W9,Pp]
abbrev Qr:List PySem.Str:=[W8,K8]
abbrev TU:List PySem.Str:=[X9,"first","second","word","least_cut"]
abbrev MF:List PySem.Str:=[X9,"of",IB]
abbrev b0n:List PySem.Str:=[K8,W9,Pp,Ek]
abbrev Qq:List PySem.Str:=[Ek,"_law_other"]
abbrev TR:List PySem.Str:=[W8,BD]
abbrev Qp:List PySem.Str:=[X9,FW,"word"]
abbrev TQ:List PySem.Str:=[BD,Me]
abbrev Qo:List PySem.Str:=[X9,"empty_weight"]
abbrev Qn:List PySem.Str:=[IB,"ask","word"]
abbrev TN:List PySem.Str:=[W8,"_law_many"]
abbrev TM:List PySem.Str:=[W8,Me]
abbrev Qm:List PySem.Str:=[X9,FW,"of"]
abbrev TL:List PySem.Str:=[X9,"of",IB,"word"]
abbrev Oz:List PySem.Str:=[IB,"weigh"]
namespace L2
open PySem
@[elab_as_elim] def KG{gu:Z->Prop}{H:Z}{a:Addr}{o:HO}(n:H a=none)(h:∀G,o6 H G->G a=some o->gu G):gu (upd H a o):=h _ (j6 n) c8
def gL{X:Cx}{x:Str}{pos:Pos}(i:Nat)(L:w0h)(hn:L.Nodup:=by decide +kernel)(hL:X.N=L:=by rfl)(h:X.N[i]? = some x:=by rfl)(hx:X.env.scope.names.lookup x=some .local:=by rfl)(hf:X.fn x=true\/X.env.scope.names.lookup x=some .local:=by first | exact .inl rfl | exact .inr rfl | assumption):PG X (.Name x pos) (Bz i):=R9 (hL ▸ hn) h (Or.inl hx) hf
def z6{X:Cx}{a b:Expr}{ta tb:TE}{pos:Pos}{r:R2}(hr:Iv X r)(ha:PE X a ta)(hb:PE X b tb)(hs:LX b:=by exact λ_ _=>rfl):PE X (.Subscript a b pos) (Pz r ta tb):=WD hr ha hb hs
abbrev sr(a:Addr):Option V:=some (.ref a)
abbrev si(i:Nat):Option V:=some (.int i)
def gN{X:Cx}{pos:Pos}(i:Nat){x:Str}(hN:X.N.Nodup)(hi:X.N[i]? = some x:=by rfl)(hx:X.env.scope.names.lookup x=some .local:=by rfl)(hf:X.fn x=true\/X.env.scope.names.lookup x=some .local:=by first | exact .inl rfl | exact .inr rfl | assumption):PG X (.Name x pos) (Bz i):=R9 hN hi (Or.inl hx) hf
def sT{X:Cx}{pos eE:Pos}(i:Nat){x:Str}{e:Expr}{te:TE}(hN:X.N.Nodup)(he:PE X e te)(hi:X.N[i]? = some x:=by rfl)(hx:X.env.scope.names.lookup x=some .local:=by rfl)(hs:swapsWith e (some<|.Name x eE) pos.line X.env=pure false:=by rfl)(hf:X.fn x=true\/X.env.scope.names.lookup x=some .local:=by first | exact .inl rfl | exact .inr rfl | assumption):PS X (.Assign [.Name x eE] e pos) (Mm te<|Bz i):=Ab hN hi (Or.inl hx) he hs hf
end L2
namespace K81
open PySem L2 Mine PyProof.Rows PySem.SeqAt
abbrev Pr:Program:=PySem.Challenge.pw_weighwalk_k81_what_a_saying_weighs
def Lo:Pr.given.tree=none:=rfl
def top(i:Nat):Stmt:=PySem.Challenge.pw_weighwalk_k81_what_a_saying_weighs.main.body.getD i (.Pass ⟨0,0,0,0⟩)
abbrev BX:Stmt:=top 15
abbrev Dx:Stmt:=top 16
abbrev BZ:Stmt:=top 17
abbrev BY:Stmt:=top 18
abbrev L9:Stmt:=j8 (top 29) 1
abbrev R0:Stmt:=j8 (top 29) 2
abbrev O7:Stmt:=j8 (top 29) 3
abbrev N6:Stmt:=j8 (top 29) 4
abbrev E8:Stmt:=j8 (top 29) 7
abbrev K6:Stmt:=j8 (top 30) 0
abbrev M9:Stmt:=j8 (top 30) 2
abbrev S7:Stmt:=j8 (top 30) 3
abbrev Q9:Stmt:=j8 (top 30) 4
abbrev O6:Stmt:=j8 (top 30) 5
abbrev G0:Stmt:=j8 (top 30) 8
abbrev S8:Stmt:=j8 (top 31) 1
abbrev AL:Stmt:=j8 (top 31) 2
abbrev Z9:Stmt:=j8 (top 31) 3
abbrev V8:Stmt:=j8 (top 31) 4
abbrev N7:Stmt:=j8 (top 31) 5
abbrev Q8:Stmt:=j8 (top 32) 1
abbrev Z4:Stmt:=j8 (top 32) 2
abbrev V7:Stmt:=j8 (top 32) 3
abbrev S6:Stmt:=j8 (top 32) 4
abbrev L8:Stmt:=j8 (top 32) 5
abbrev Be:Stmt:=top 10
abbrev AG:Stmt:=top 11
abbrev Q7:Stmt:=top 13
abbrev Fd:Stmt:=top 34
abbrev O5:Stmt:=top 37
abbrev Z3:Stmt:=top 38
abbrev C4:Stmt:=top 39
abbrev z7:Stmt:=top 40
abbrev o9:Stmt:=top 41
abbrev w9:Stmt:=top 42
abbrev V5:Stmt:=top 43
abbrev BV:Stmt:=top 45
abbrev AI:Stmt:=top 46
abbrev V6:Stmt:=top 47
abbrev Dv:Stmt:=top 48
abbrev BU:Stmt:=top 49
abbrev AH:Stmt:=top 50
abbrev Y9:Stmt:=top 51
abbrev Du:Stmt:=top 52
abbrev BR:Stmt:=top 53
abbrev BW:Stmt:=top 54
abbrev Y6:Stmt:=top 55
abbrev BP:Stmt:=top 56
abbrev BQ:Stmt:=top 57
abbrev P6:Stmt:=top 58
abbrev AJ:Stmt:=top 59
abbrev U5:Stmt:=top 60
abbrev P7:Stmt:=top 61
abbrev BO:Stmt:=top 62
abbrev Y7:Stmt:=top 63
abbrev E3:Stmt:=top 64
abbrev AK:Stmt:=top 65
abbrev BS:Stmt:=top 66
abbrev Y8:Stmt:=top 67
abbrev Z0:Stmt:=top 68
abbrev Ly:Stmt:=top 69
def _root_.L2.z4.m{j k:Nat}{A:Around}(r:z4 k A)(h:j<=k:=by decide):z4 j A:=r.mono h
def o5{N P:w0h}{s:Scope}(a:s.kind=.function:=by rfl)(b:s.isCoroutine=false:=by rfl)(c:s.isGenerator=false:=by rfl)(d:N.Nodup:=by decide +kernel)(e:N.take P.length=P:=by rfl)(f:∀x∈P,s.names.lookup x=some .local\/s.names.lookup x=some .cell:=by decide +kernel)(g:∀y∈s.names,y.2≠.free:=by decide +kernel):j0 N P s:=⟨a,b,c,d,e,f,g⟩
def IS:j0 ["thing"] ["thing"] (c5 BX):=o5
def O4:j0 ["one","other","greatest","rest","left"] ["one","other"] (c5 Dx):=o5
def AE:j0 ["top","bottom","shared"] ["top","bottom"] (c5 BZ):=o5
def AD:j0 ["number","factor"] ["number"] (c5 BY):=o5
def Bm:j0 [E1] [E1] (c5 L9):=o5
def Dt:j0 [E1] [E1] (c5 R0):=o5
def Cu:j0 Bx Bx (c5 O7):=o5
def BL:j0 Bx Bx (c5 N6):=o5
def Y5:j0 JU JU (c5 E8):=o5
def AF:j0 [E1,"prime"] [E1,"prime"] (c5 K6):=o5
def BK:j0 [E1] [E1] (c5 M9):=o5
def En:j0 [E1] [E1] (c5 S7):=o5
def Ds:j0 Bx Bx (c5 Q9):=o5
def Ct:j0 Bx Bx (c5 O6):=o5
def As:j0 JU JU (c5 G0):=o5
def Eo:j0 [E1] [E1] (c5 S8):=o5
def Hq:j0 [E1] [E1] (c5 AL):=o5
def Gd:j0 Bx Bx (c5 Z9):=o5
def Fc:j0 Bx Bx (c5 V8):=o5
def BM:j0 JU JU (c5 N7):=o5
def Dq:j0 [E1] [E1] (c5 Q8):=o5
def Gc:j0 [E1] [E1] (c5 Z4):=o5
def Fb:j0 Bx Bx (c5 V7):=o5
def Em:j0 Bx Bx (c5 S6):=o5
def Bl:j0 JU JU (c5 L8):=o5
def Kl:j0 HM HM (c5 Be):=o5
def Hm:j0 HM HM (c5 AG):=o5
def Dp:j0 Qo Qo (c5 Q7):=o5
def Mt:j0 Qn Qn (c5 Fd):=o5
def Cs:j0 [FW] [FW] (c5 O5):=o5
def L3:j0 [X9,"first","second","word","least_cut","told","place","x"] TU (c5 Z3):=o5
def S5:j0 [X9,"of",IB,"word","place","rest"] TL (c5 C4):=o5
def Aq:j0 MF Ex (c5 z7):=o5
def Q6:j0 [X9,"first","second",IB,"weigh"] KJ (c5 o9):=o5
def Y4:j0 [X9,FW,"form","of"] HL (c5 w9):=o5
def EY:j0 Qp Qp (c5 V5):=o5
def DV:j0 [W8,"_law_many",BC] TN (c5 BV):=o5
def R7:j0 [Hg,"_law_seed","_law_cell"] [Hg] (c5 AI):=o5
def AC:j0 Qq Qq (c5 V6):=o5
def EZ:j0 ["_law_top",Pq,"_law_by"] ["_law_top",Pq] (c5 Dv):=o5
def IQ:j0 Ro Ro (c5 BU):=o5
def Hn:j0 Ro Ro (c5 AH):=o5
def Gb:j0 [K8] [K8] (c5 Y9):=o5
def Kk:j0 [K8] [K8] (c5 Du):=o5
def DT:j0 [W8,"_law_prime"] [W8] (c5 BR):=o5
def IR:j0 [K8] [K8] (c5 BW):=o5
def Ga:j0 Qr Qr (c5 Y6):=o5
def U3:j0 [K8,Ek,"_law_other",W7,"_law_total","_law_at"] Ua (c5 BP):=o5
def U4:j0 [K8,Ek,BC,W7,"_law_total","_law_at"] TZ (c5 BQ):=o5
def D2:j0 n8N b0l (c5 P6):=o5
def Ho:j0 Ql Ql (c5 AJ):=o5
def D7:j0 b0p TQ (c5 U5):=o5
def D3:j0 b0o TM (c5 P7):=o5
def U2:j0 [W8,BD,W7,Ka] TR (c5 BO):=o5
def L0:j0 [W8,K8,BD,"_law_deep","_law_way",Ek] b0m (c5 Y7):=o5
def O3:j0 TV Ql (c5 E3):=o5
def R8:j0 [IC,W9,W7,BC] TY (c5 AK):=o5
def Q1:j0 [W9,BC,Ek] [W9] (c5 BS):=o5
def L1:j0 [W7,BC,"_law_size","_law_text","_law_at"] [W7] (c5 Y8):=o5
def F9:j0 [W8,K8,IC,W9,BD,Ny,W7,Nx,BC] n6N (c5 Z0):=o5
def K5:j0 n1N [Hg] (c5 Ly):=o5
def sp_whole:Sp:=λvs H Q _=>∃i,vs=[.int i]/\Q (.bl true) H
def sp_divisor:Sp:=λvs H Q _=>∃a b,vs=[.int a,.int b]/\Q (.int<|dv a b) H
def sp_fraction:Sp:=λvs H Q _=>∃a b,vs=[.int a,.int b]/\0 < b/\∀v H',o6 H H'->JY H' v (tp a b) (bt a b)->Q v H'
def sp_prime:Sp:=λvs H Q _=>∃n,vs=[.int n]/\(2<=n/\n<=1000000/\KU n=true)/\Q (.bl true) H
def PK(C:Addr):Sp:=λvs H Q _=>∃x dx n,vs=[.ref x,.int n]/\(2<=n/\n<=1000000/\KU n=true)/\H x=some (.ins C dx [])/\Q .non (upd H x<|.ins C dx<|Om n)
set_option genInjectivity false in
set_option genSizeOfSpec false in
structure JZ where
 c_weigher:Addr
 P_weigher:Addr
 c_then_weigher:Addr
 P_then_weigher:Addr
 c_star_weigher:Addr
 P_star_weigher:Addr
 c_star_weight:Addr
 P_star_weight:Addr
 k0c:Addr
 h0u:FuncData
 k0f:Addr
 j0h:FuncData
 j0n:Addr
 h0n:FuncData
 j0s:Addr
 i0h:FuncData
 d0u:Addr
 d0e:FuncData
 f0l:Addr
 e0f:FuncData
 e0s:Addr
 d0s:FuncData
 e0k:Addr
 d0n:FuncData
 c0z:Addr
 c0w:FuncData
 d0l:Addr
 d0a:FuncData
 e0b:Addr
 d0h:FuncData
 g0c:Addr
 e0o:FuncData
 f0h:Addr
 e0a:FuncData
 e0u:Addr
 d0q:FuncData
 d0f:Addr
 c0x:FuncData
 g0h:Addr
 e0p:FuncData
 j0g:Addr
 h0g:FuncData
 i0a:Addr
 g0g:FuncData
 g0l:Addr
 f0e:FuncData
 e0i:Addr
 d0k:FuncData
 f0p:Addr
 e0h:FuncData
 i0l:Addr
 f0x:FuncData
 g0q:Addr
 f0m:FuncData
 f0v:Addr
 e0r:FuncData
 d0o:Addr
 d0g:FuncData
 k0k:Addr
 j0e:FuncData
 j0a:Addr
 g0v:FuncData
 f0i:Addr
 d0y:FuncData
 k0n:Addr
 k0d:FuncData
 e0t:Addr
 d0r:FuncData
 i0b:Addr
 g0d:FuncData
 star_weight:Addr
 f0b:FuncData
 star_weigher:Addr
 e0y:FuncData
 then_weigher:Addr
 e0x:FuncData
 weigher:Addr
 i0v:FuncData
 h0a:Addr
 f0n:FuncData
 j0x:Addr
 h0q:FuncData
 j0j:Addr
 g0x:FuncData
 g0n:Addr
 f0r:FuncData
 k0h:Addr
 j0c:FuncData
 k0e:Addr
 i0g:FuncData
 i0w:Addr
 g0r:FuncData
 i0d:Addr
 g0b:FuncData
 k0j:Addr
 j0f:FuncData
 k0b:Addr
 i0k:FuncData
 j0t:Addr
 h0x:FuncData
 i0m:Addr
 f0s:FuncData
 j0z:Addr
 i0e:FuncData
 j0u:Addr
 i0r:FuncData
 h0j:Addr
 f0j:FuncData
 j0i:Addr
 g0o:FuncData
 j0l:Addr
 g0w:FuncData
 h0e:Addr
 e0z:FuncData
 j0q:Addr
 i0p:FuncData
 h0w:Addr
 g0i:FuncData
 f0f:Addr
 d0x:FuncData
 i0z:Addr
 g0u:FuncData
 j0o:Addr
 i0q:FuncData
 i0f:Addr
 g0e:FuncData
 j0y:Addr
 h0l:FuncData
 law:Addr
 k0q:FuncData
 j0b:Addr
 j0w:Addr
 k0p:Addr
 k0m:Addr
 i0o:Addr
 j0k:Addr
def C6{X:Cx}{e0:Expr}{t0:TE}(h0:PE X e0 t0)(s0:starEach [e0] X.env=(false,eval e0 X.env)::starEach [] X.env:=by rfl):PA X [e0] (M4 t0 tNil):=(B5 h0 Ad s0)
def C5{X:Cx}{e0:Expr}{t0:TE}{e1:Expr}{t1:TE}(h0:PE X e0 t0)(h1:PE X e1 t1)(s0:starEach [e0,e1] X.env=(false,eval e0 X.env)::starEach [e1] X.env:=by rfl)(s1:starEach [e1] X.env=(false,eval e1 X.env)::starEach [] X.env:=by rfl):PA X [e0,e1] (M4 t0<|M4 t1 tNil):=(B5 h0 (B5 h1 Ad s1) s0)
def Gg{X:Cx}{e0:Expr}{t0:TE}{e1:Expr}{t1:TE}{e2:Expr}{t2:TE}(h0:PE X e0 t0)(h1:PE X e1 t1)(h2:PE X e2 t2)(s0:starEach [e0,e1,e2] X.env=(false,eval e0 X.env)::starEach [e1,e2] X.env:=by rfl)(s1:starEach [e1,e2] X.env=(false,eval e1 X.env)::starEach [e2] X.env:=by rfl)(s2:starEach [e2] X.env=(false,eval e2 X.env)::starEach [] X.env:=by rfl):PA X [e0,e1,e2] (M4 t0<|M4 t1<|M4 t2 tNil):=(B5 h0 (B5 h1 (B5 h2 Ad s2) s1) s0)
def My{X:Cx}{e0:Expr}{t0:TE}{e1:Expr}{t1:TE}{e2:Expr}{t2:TE}{e3:Expr}{t3:TE}(h0:PE X e0 t0)(h1:PE X e1 t1)(h2:PE X e2 t2)(h3:PE X e3 t3)(s0:starEach [e0,e1,e2,e3] X.env=(false,eval e0 X.env)::starEach [e1,e2,e3] X.env:=by rfl)(s1:starEach [e1,e2,e3] X.env=(false,eval e1 X.env)::starEach [e2,e3] X.env:=by rfl)(s2:starEach [e2,e3] X.env=(false,eval e2 X.env)::starEach [e3] X.env:=by rfl)(s3:starEach [e3] X.env=(false,eval e3 X.env)::starEach [] X.env:=by rfl):PA X [e0,e1,e2,e3] (M4 t0<|M4 t1<|M4 t2<|M4 t3 tNil):=(B5 h0 (B5 h1 (B5 h2 (B5 h3 Ad s3) s2) s1) s0)
structure Df(K:aa)(mg:w0f)(n:Str)(s:Stmt)(ps:w0h)(a:Addr)(d:FuncData):Prop where
 F:FV K n n s a d
 b:E6 K d ps []
 m:mg n=some (.ref a)
structure Dm(K:aa)(C:Addr)(n q:Str)(s:Stmt)(ps:w0h)(a:Addr)(d:FuncData):Prop where
 F:FV K n q s a d
 b:E6 K d ps []
 t:FT K C n a
def M6{X:Cx}{x:Str}{p pos:Pos}{k:Nat}{f:Addr}{fd:FuncData}{ps:w0h}{sp:Sp}{s:Stmt}{e:Expr}{es:List Expr}{t:TA}(F:m8 X.prog X.w X.K X.mg X.base C8 k f fd ps sp)(hr:z4 k X.A)(D:Df X.K X.mg x s ps f fd)(ha:PA X (e::es) t)(hg:Gl X x:=by rfl)(fG:(x==("__debug__":Str))=false:=by decide)(he:starEach (e::es) X.env=(false,eval e X.env)::starEach es X.env:=by rfl)(eT:(backTo pos<|starEach es X.env).any (·.1)=false:=by rfl):PE X (.Call (.Name x p) (e::es) [] pos) (Lp sp [] E0 t):=p8 F hr hg D.m D.F.kp D.b .nil t8 ha fG he eT
structure Txt(K:aa)(mg:w0f)(t:JZ):Prop where
 i0n:Df K mg "is_whole" BX ["thing"] t.k0c t.h0u
 i0x:Df K mg "divisor" Dx ["one","other"] t.k0f t.j0h
 h0r:Df K mg "fraction" BZ ["top","bottom"] t.j0n t.h0n
 h0y:Df K mg "is_prime" BY ["number"] t.j0s t.i0h
 d0d:Dm K t.j0b "nought" "Fractions.nought" L9 [E1] t.d0u t.d0e
 e0g:Dm K t.j0b "one" "Fractions.one" R0 [E1] t.f0l t.e0f
 d0p:Dm K t.j0b "plus" "Fractions.plus" O7 Bx t.e0s t.d0s
 d0j:Dm K t.j0b "times" "Fractions.times" N6 Bx t.e0k t.d0n
 c0v:Dm K t.j0b "is_weight" "Fractions.is_weight" E8 JU t.c0z t.c0w
 d0b:Dm K t.j0w "__init__" "Residues.__init__" K6 [E1,"prime"] t.d0l t.d0a
 d0i:Dm K t.j0w "nought" "Residues.nought" M9 [E1] t.e0b t.d0h
 e0w:Dm K t.j0w "one" "Residues.one" S7 [E1] t.g0c t.e0o
 e0e:Dm K t.j0w "plus" "Residues.plus" Q9 Bx t.f0h t.e0a
 d0v:Dm K t.j0w "times" "Residues.times" O6 Bx t.e0u t.d0q
 c0y:Dm K t.j0w "is_weight" "Residues.is_weight" G0 JU t.d0f t.c0x
 e0v:Dm K t.k0p "nought" "Costs.nought" S8 [E1] t.g0h t.e0p
 g0z:Dm K t.k0p "one" "Costs.one" AL [E1] t.j0g t.h0g
 f0u:Dm K t.k0p "plus" "Costs.plus" Z9 Bx t.i0a t.g0g
 f0c:Dm K t.k0p "times" "Costs.times" V8 Bx t.g0l t.f0e
 d0m:Dm K t.k0p "is_weight" "Costs.is_weight" N7 JU t.e0i t.d0k
 e0c:Dm K t.k0m "nought" "Truths.nought" Q8 [E1] t.f0p t.e0h
 g0f:Dm K t.k0m "one" "Truths.one" Z4 [E1] t.i0l t.f0x
 f0q:Dm K t.k0m "plus" "Truths.plus" V7 Bx t.g0q t.f0m
 e0m:Dm K t.k0m "times" "Truths.times" S6 Bx t.f0v t.e0r
 d0c:Dm K t.k0m "is_weight" "Truths.is_weight" L8 JU t.d0o t.d0g
 i0y:Df K mg "is_word" Be HM t.k0k t.j0e
 h0c:Df K mg "need_word" AG HM t.j0a t.g0v
 e0d:Df K mg "need_closable" Q7 Qo t.f0i t.d0y
 j0p:Df K mg "answer" Fd Qn t.k0n t.k0d
 d0t:Df K mg "sayings_within" O5 [FW] t.e0t t.d0r
 g0k:Df K mg "cut_weight" Z3 TU t.i0b t.g0d
 f0d:Df K mg "star_weight" C4 TL t.star_weight t.f0b
 e0q:Df K mg "star_weigher" z7 Ex t.star_weigher t.e0y
 e0n:Df K mg "then_weigher" o9 KJ t.then_weigher t.e0x
 i0u:Df K mg "weigher" w9 HL t.weigher t.i0v
 f0g:Df K mg "said_weight" V5 Qp t.h0a t.f0n
 h0o:Df K mg "_law_next" BV TN t.j0x t.h0q
 h0h:Df K mg "_law_state" AI [Hg] t.j0j t.g0x
 f0o:Df K mg "_law_divisor" V6 Qq t.g0n t.f0r
 j0d:Df K mg "_law_low" Dv ["_law_top",Pq] t.k0h t.j0c
 h0m:Df K mg "_law_plus" BU Ro t.k0e t.i0g
 g0y:Df K mg "_law_times" AH Ro t.i0w t.g0r
 f0y:Df K mg "_law_nought" Y9 [K8] t.i0d t.g0b
 j0m:Df K mg "_law_one" Du [K8] t.k0j t.j0f
 h0z:Df K mg "_law_sort" BR [W8] t.k0b t.i0k
 i0c:Df K mg "_law_kind" BW [K8] t.j0t t.h0x
 g0a:Df K mg "_law_weight" Y6 Qr t.i0m t.f0s
 h0k:Df K mg "_law_then" BP Ua t.j0z t.i0e
 h0p:Df K mg "_law_star" BQ TZ t.j0u t.i0r
 f0a:Df K mg "_law_weights" P6 b0l t.h0j t.f0j
 g0p:Df K mg "_law_empty" AJ Ql t.j0i t.g0o
 h0b:Df K mg "_law_words" U5 TQ t.j0l t.g0w
 f0k:Df K mg "_law_letters" P7 TM t.h0e t.e0z
 h0v:Df K mg "_law_word" BO TR t.j0q t.i0p
 g0j:Df K mg "_law_saying" Y7 b0m t.h0w t.g0i
 d0z:Df K mg "_law_open_star" E3 Ql t.f0f t.d0x
 h0d:Df K mg "_law_asked" AK TY t.i0z t.g0u
 h0s:Df K mg "_law_said" BS [W9] t.j0o t.i0q
 f0t:Df K mg "_law_pieces" Y8 [W7] t.i0f t.g0e
 i0t:Df K mg "_law_long" Z0 n6N t.j0y t.h0l
 k0o:Df K mg "law" Ly [Hg] t.law t.k0q
 h0f:JM K t.j0b
 h0i:mg "Fractions"=some (.ref t.j0b)
 g0t:MkO K t.j0b
 i0i:JM K t.j0w
 i0j:mg "Residues"=some (.ref t.j0w)
 h0t:Mk K t.j0w t.d0l
 k0g:JM K t.k0p
 k0i:mg "Costs"=some (.ref t.k0p)
 k0l:MkO K t.k0p
 k0a:JM K t.k0m
 j0r:mg "Truths"=some (.ref t.k0m)
 j0v:MkO K t.k0m
 f0w:mg "WeighError"=some (.ref t.i0o)
 f0z:QV K t.i0o
 g0s:mg "NoClosure"=some (.ref t.j0k)
 g0m:QV K t.j0k
 z_isinstance:mg "isinstance"=none
 z_int:mg "int"=none
 z_bool:mg "bool"=none
 z_abs:mg "abs"=none
 z_tuple:mg "tuple"=none
 z_len:mg "len"=none
 c_GREATEST_PRIME:∃tk,mg "GREATEST_PRIME"=some (Value.int 1000000 tk)
 z_min:mg "min"=none
 z_str:mg "str"=none
 z_all:mg "all"=none
 z_range:mg "range"=none
 c_SMALL_LETTERS:∃tk,mg "SMALL_LETTERS"=some (Value.str "abcdefghijklmnopqrstuvwxyz" tk)
 z_enumerate:mg "enumerate"=none
 z_any:mg "any"=none
 k_ii:PySem.W.kitOne K (.type "int") (.type "int")=some true
 k_ib:PySem.W.kitOne K (.type "int") (.type "bool")=some false
 k_tt:PySem.W.kitOne K (.type "tuple") (.type "tuple")=some true
 k_bb:PySem.W.kitOne K (.type "bool") (.type "bool")=some true
 k_ss:PySem.W.kitOne K (.type "str") (.type "str")=some true
 nP:Co K t.j0w "prime"
 k_ts:PySem.W.kitOne K (.type "tuple") (.type "str")=some false
 q_nt:PySem.W.kitOne K (.type "NoneType") (.type "tuple")=some false
 q_ni:PySem.W.kitOne K (.type "NoneType") (.type "int")=some false
 q_nb:PySem.W.kitOne K (.type "NoneType") (.type "bool")=some false
 q_ns:PySem.W.kitOne K (.type "NoneType") (.type "str")=some false
 q_it:PySem.W.kitOne K (.type "int") (.type "tuple")=some false
 q_ii:PySem.W.kitOne K (.type "int") (.type "int")=some true
 q_ib:PySem.W.kitOne K (.type "int") (.type "bool")=some false
 q_is:PySem.W.kitOne K (.type "int") (.type "str")=some false
 q_bt:PySem.W.kitOne K (.type "bool") (.type "tuple")=some false
 q_bi:PySem.W.kitOne K (.type "bool") (.type "int")=some true
 q_bb:PySem.W.kitOne K (.type "bool") (.type "bool")=some true
 q_bs:PySem.W.kitOne K (.type "bool") (.type "str")=some false
 q_st:PySem.W.kitOne K (.type "str") (.type "tuple")=some false
 q_si:PySem.W.kitOne K (.type "str") (.type "int")=some false
 q_sb:PySem.W.kitOne K (.type "str") (.type "bool")=some false
 q_ss:PySem.W.kitOne K (.type "str") (.type "str")=some true
 q_tt:PySem.W.kitOne K (.type "tuple") (.type "tuple")=some true
 q_ti:PySem.W.kitOne K (.type "tuple") (.type "int")=some false
 q_tb:PySem.W.kitOne K (.type "tuple") (.type "bool")=some false
 q_ts:PySem.W.kitOne K (.type "tuple") (.type "str")=some false
 q_lt:PySem.W.kitOne K (.type "list") (.type "tuple")=some false
 q_li:PySem.W.kitOne K (.type "list") (.type "int")=some false
 q_lb:PySem.W.kitOne K (.type "list") (.type "bool")=some false
 q_ls:PySem.W.kitOne K (.type "list") (.type "str")=some false
 q_dt:PySem.W.kitOne K (.type "dict") (.type "tuple")=some false
 q_di:PySem.W.kitOne K (.type "dict") (.type "int")=some false
 q_db:PySem.W.kitOne K (.type "dict") (.type "bool")=some false
 q_ds:PySem.W.kitOne K (.type "dict") (.type "str")=some false
 k_ns:PySem.W.kitOne K (.type "NoneType") (.type "str")=some false
 k_ls:PySem.W.kitOne K (.type "list") (.type "str")=some false
 k_is:PySem.W.kitOne K (.type "int") (.type "str")=some false
 eC:PySem.W.exmOne K (.ref t.j0k) (.ref t.i0o)=some true
 vC:PySem.W.kitOne K (.ref t.j0k) (.type "ValueError")=some true
 kCC:PySem.W.kitOne K (.ref t.j0k) (.ref t.j0k)=some true
 d_tabs:([t.P_star_weight,t.P_star_weigher,t.P_then_weigher,t.P_weigher]:List Addr).Nodup
 eCC:PySem.W.exmOne K (.ref t.j0k) (.ref t.j0k)=some true
 tb_star_weight:PySem.W.tabIn K "star_weight"=some (t.c_star_weight,t.P_star_weight)
 e0l:PySem.W.nsIn K mainGlobals "star_weight"=some (some<|.ref t.star_weight)
 tb_star_weigher:PySem.W.tabIn K "star_weigher"=some (t.c_star_weigher,t.P_star_weigher)
 e0j:PySem.W.nsIn K mainGlobals "star_weigher"=some (some<|.ref t.star_weigher)
 tb_then_weigher:PySem.W.tabIn K "then_weigher"=some (t.c_then_weigher,t.P_then_weigher)
 d0w:PySem.W.nsIn K mainGlobals "then_weigher"=some (some<|.ref t.then_weigher)
 tb_weigher:PySem.W.tabIn K "weigher"=some (t.c_weigher,t.P_weigher)
 i0s:PySem.W.nsIn K mainGlobals "weigher"=some (some<|.ref t.weigher)
structure JX(mg:w0f)(base:Heap)(t:JZ):Prop where
 star_weight:Tb mg base t.c_star_weight t.P_star_weight
 star_weigher:Tb mg base t.c_star_weigher t.P_star_weigher
 then_weigher:Tb mg base t.c_then_weigher t.P_then_weigher
 weigher:Tb mg base t.c_weigher t.P_weigher
def it_t{K:aa}{a:Addr}{xs:List V}{u:V}{i:Nat}{G:Z}{M:V->Z->Prop}(h:y4 K G a xs)(e:xs[i]?=some u)(m:M u G):(UG K a).go i G/\∀x H',(UG K a).yld i G x H'->M x H':=⟨za ⟨h,e⟩,λx H' y=>by
 obtain⟨rfl,y⟩:=y;have:=y _ h;rw[e]at this;cases this;exact m⟩
def it_l{K:aa}{a:Addr}{xs:List V}{u:V}{i:Nat}{G:Z}{M:V->Z->Prop}(h:y8 K G a xs)(e:xs[i]?=some u)(m:M u G):(UH K a).go i G/\∀x H',(UH K a).yld i G x H'->M x H':=⟨za ⟨h,e⟩,λx H' y=>by
 obtain⟨rfl,y⟩:=y;have:=y _ h;rw[e]at this;cases this;exact m⟩
def it_r{lo:Int}{n i:Nat}{G:Z}{M:V->Z->Prop}(h:i<n)(m:M (.int<|lo+i) G):(QU lo n).go i G/\∀x H',(QU lo n).yld i G x H'->M x H':=⟨h,λx H' y=>by
 obtain⟨rfl,rfl⟩:=y;exact m⟩
seal L2.GD L2.PS L2.PE L2.PT L2.PW L2.PA L2.PG L2.c0r L2.PI
local macro_rules | `(tactic| fail)=>`(tactic| (first | apply Exists.intro | show And.intro rfl ?_ | show And.intro (by with_reducible assumption) ?_ | show And.intro (y4.of (by assumption)) ?_ | show And.intro (y8.of (by assumption)) ?_ | show And.intro (P3.int _) ?_ | show And.intro (P3.tup (by assumption)) ?_ | show And.intro (‹Txt _ _ _›.k_ii) ?_ | show And.intro (‹Txt _ _ _›.k_ib) ?_ | show And.intro (‹Txt _ _ _›.k_tt) ?_ | show And.intro (‹Txt _ _ _›.k_bb) ?_ | show And.intro (‹Txt _ _ _›.k_ss) ?_ | show And.intro (‹Txt _ _ _›.nP) ?_ | show And.intro (‹Txt _ _ _›.k_ts) ?_ | show And.intro (‹Txt _ _ _›.q_nt) ?_ | show And.intro (‹Txt _ _ _›.q_ni) ?_ | show And.intro (‹Txt _ _ _›.q_nb) ?_ | show And.intro (‹Txt _ _ _›.q_ns) ?_ | show And.intro (‹Txt _ _ _›.q_it) ?_ | show And.intro (‹Txt _ _ _›.q_ii) ?_ | show And.intro (‹Txt _ _ _›.q_ib) ?_ | show And.intro (‹Txt _ _ _›.q_is) ?_ | show And.intro (‹Txt _ _ _›.q_bt) ?_ | show And.intro (‹Txt _ _ _›.q_bi) ?_ | show And.intro (‹Txt _ _ _›.q_bb) ?_ | show And.intro (‹Txt _ _ _›.q_bs) ?_ | show And.intro (‹Txt _ _ _›.q_st) ?_ | show And.intro (‹Txt _ _ _›.q_si) ?_ | show And.intro (‹Txt _ _ _›.q_sb) ?_ | show And.intro (‹Txt _ _ _›.q_ss) ?_ | show And.intro (‹Txt _ _ _›.q_tt) ?_ | show And.intro (‹Txt _ _ _›.q_ti) ?_ | show And.intro (‹Txt _ _ _›.q_tb) ?_ | show And.intro (‹Txt _ _ _›.q_ts) ?_ | show And.intro (‹Txt _ _ _›.q_lt) ?_ | show And.intro (‹Txt _ _ _›.q_li) ?_ | show And.intro (‹Txt _ _ _›.q_lb) ?_ | show And.intro (‹Txt _ _ _›.q_ls) ?_ | show And.intro (‹Txt _ _ _›.q_dt) ?_ | show And.intro (‹Txt _ _ _›.q_di) ?_ | show And.intro (‹Txt _ _ _›.q_db) ?_ | show And.intro (‹Txt _ _ _›.q_ds) ?_ | show And.intro (‹Txt _ _ _›.k_ns) ?_ | show And.intro (‹Txt _ _ _›.k_ls) ?_ | show And.intro (‹Txt _ _ _›.k_is) ?_ | show And.intro (‹Txt _ _ _›.eC) ?_ | show And.intro (‹Txt _ _ _›.vC) ?_ | show And.intro (‹Txt _ _ _›.kCC) ?_ | show And.intro (‹Txt _ _ _›.d_tabs) ?_ | show And.intro (‹Txt _ _ _›.eCC) ?_))
section
variable{w:World}{K:aa}{mg:w0f}{base:Heap}{t:JZ}{aW:Addr}
def J6(T:Txt K mg t):m8 Pr w K mg base C8 1 t.k0c t.h0u ["thing"] sp_whole:=by
 show T.i0n.F.okA IS λ_ _ _ _ _ _ _ _ hr h=>?_;obtain⟨i,rfl,k⟩:=h;show⟨_,(c6<|i3<|Ac (l4 K0 bR T.z_isinstance boot_isinstance<|C5 (U 0)<|O1 (v:=.ty "int") Y T.z_int boot_int Y)<|S9<|Tg<|l4 K0 bR T.z_isinstance boot_isinstance<|C5 (U 0)<|O1 (v:=.ty "bool") Y T.z_bool boot_bool Y),?_⟩
 (repeat fail)
 (try show B9 ?_)
 (repeat fail)
 exact k
def Fp(T:Txt K mg t):m8 Pr w K mg base C8 1 t.k0f t.j0h ["one","other"] sp_divisor:=by
 show T.i0x.F.okA O4 λ_ _ _ _ H _ _ _ hr h=>?_;obtain⟨a,b,rfl,k⟩:=h;show⟨_,(c7 (sT 2 O4.nd<|l4 FS bR T.z_abs boot_abs<|C6<|U 0)<|c7 (sT 3 O4.nd<|l4 FS bR T.z_abs boot_abs<|C6<|U 1)<|c7 (CD aK (c9 CG (U 3) c4<|j7 _)<|c7 (sT 4 O4.nd<|l5 F6 (U 2)<|U 3)<|c7 (sT 2 O4.nd<|U 3)<|c6<|sT 3 O4.nd<|U 4)<|c6<|i3<|U 2),?_⟩;show vc Y Y Y<|O Y ?_;show⟨λm σ H'=>∃g r l,σ=[some<|.int a,some<|.int b,some<|.int g,some<|.int r,l]/\m=r.toNat/\(0<=g/\0<=r/\dv g r=dv a b)/\H'=H,zc ⟨Y,Y,RM a b,Y⟩,?_⟩;rintro m σ H' ⟨g,r,l,rfl,rfl,⟨g0,r0,e⟩,rfl⟩
 (repeat fail)
 show CT (λlL=>?_) (λlL=>?_)
 . show⟨λσ' gT=>∃g' r' l',σ'=[some<|.int a,some<|.int b,some<|.int g',some<|.int r',l']/\r'.toNat < r.toNat/\(0<=g'/\0<=r'/\dv g' r'=dv a b)/\gT=H',λσ' gT ⟨g',r',l',e1,e2,e3,e4⟩=>⟨_,e2,g',r',l',e1,Y,e3,e4⟩,?_⟩;show vb Y Y (za ⟨Y,Y,(show r≠0 by omega),vb Y Y ?_⟩);exact zb ⟨Y,Uy lL,Ux e lL,Y⟩
 . show O Y ?_
   (try dsimp only)
   rw[c0i e g0 r0 lL];exact k
def LG{a b:Int}(pb:0 < b):a.fdiv (dv a b)=tp a b/\b.fdiv (dv a b)=bt a b:=by unfold tp bt;rw[NQ oM];exact⟨Y,Y⟩
def Eb(T:Txt K mg t):m8 Pr w K mg base C8 36 t.j0n t.h0n ["top","bottom"] sp_fraction:=by
 show T.h0r.F.okA AE λ_ _ _ _ _ _ _ _ hr h=>?_;obtain⟨a,b,rfl,pb,k⟩:=h;have hd:dv a b≠0:=Int.ne_of_gt<|FN oM;show⟨_,(c7 (o3 (PW.pt<|AN (W2<|E9<|M6 (J6 T) hr.m T.i0n<|C6<|U 0)<|W0<|W2<|E9<|M6 (J6 T) hr.m T.i0n<|C6<|U 1) (c6 CF) k6)<|c7 (o3 (c9 w8 (U 1) c4<|j7 _) (c6 CF) k6)<|c7 (sT 2 AE.nd<|M6 (Fp T) hr.m T.i0x<|C5 (U 0)<|U 1)<|c7 (o3 (c9 Fj (U 1) c4<|j7 _) (c6<|sT 2 AE.nd<|Fg BE<|U 2) k6)<|c6<|i3<|D8<|C5 (l5 (CH hr bD Lo) (U 0)<|U 2)<|l5 (CH hr bD Lo) (U 1)<|U 2),?_⟩
 (repeat fail)
 (try show t7 ?_)
 (repeat fail)
 (try show t7 ?_)
 (repeat fail)
 show FH (λh0=>absurd h0 oM) (λ_=>?_)
 (repeat fail)
 show CT (λh0=>absurd h0 oM) (λ_=>?_)
 (repeat fail)
 show⟨sL,λp hp=>?_⟩;show k _ _ (j6 hp) ?_
 (try dsimp only)
 rw[(LG pb).1,(LG pb).2];exact JY.new
def Jq(T:Txt K mg t):m8 Pr w K mg base C8 1 t.j0s t.i0h ["number"] sp_prime:=by
 show T.h0y.F.okA AD λ_ _ _ _ H _ _ _ hr h=>?_;obtain⟨n,rfl,⟨n2,n6,hp⟩,k⟩:=h;have PP:=OI hp;show⟨_,(c7 (o3 (c9 Fj (U 0) c4<|j7 _) (c6<|i3 Ar) k6)<|c7 (sT 1 AD.nd c4)<|c7 (CD aK (c9 Rj (l5 DD (U 1)<|U 1) (U 0)<|j7 _)<|c7 (o3 (c9 w8 (l5 F6 (U 0)<|U 1) c4<|j7 _) (c6<|i3 Ar) k6)<|c6<|sT 1 AD.nd<|l5 z8 (U 1) c4)<|c6<|i3 Ar),?_⟩;show O Y<|za ⟨Y,Y,O Y ?_⟩;show CT (λh0=>absurd h0 oM)<|λ_=>?_;show⟨λm σ H'=>∃f:Int,σ=[some<|.int n,some<|.int f]/\m=(n+2 - f).toNat/\(2<=f/\f<=n+1)/\H'=H,za ⟨Y,Y,⟨oM,oM⟩,Y⟩,?_⟩;rintro m σ H' ⟨f,rfl,rfl,⟨f2,fn⟩,rfl⟩;have cm:Nq f f:=.inl ⟨oM,oM⟩;show vb Y Y<|za ⟨Y,Y,cm,O Y<|za ⟨Y,Y,O Y ?_⟩⟩;show CT (λh0=>?_) (λh0=>?_)
 . show⟨λσ' gT=>∃f':Int,σ'=[some<|.int n,some<|.int f']/\(n+2 - f').toNat < (n+2 - f).toNat/\(2<=f'/\f'<=n+1)/\gT=H',λσ' gT ⟨f',e1,e2,e3,e4⟩=>⟨_,e2,f',e1,Y,e3,e4⟩,?_⟩;show vb Y Y (za ⟨Y,Y,(show f≠0 by omega),Y,O Y ?_⟩);have hs:=Vz f2 h0;show FH (λh1=>absurd h1<|PP.2 f f2 h0)<|λ_=>?_;show O Y<|za ⟨Y,Y,?_⟩;exact O Y ⟨oM,⟨oM,oM⟩,Y⟩
 . exact k
def AV(T:Txt K mg t):m8 Pr w K mg base C8 2 t.d0l t.d0a [E1,"prime"] (PK t.j0w):=by
 show T.d0b.F.okA AF λ_ _ _ _ _ _ _ _ hr h=>?_;obtain⟨x,dx,n,rfl,hn,hx,k⟩:=h;show⟨_,(c7 (o3 (PW.pt<|AN (W2<|E9<|M6 (J6 T) hr.m T.i0n<|C6<|U 1)<|AN (c9 CG (U 1) (Hz (v:=.int 1000000) Y T.c_GREATEST_PRIME.choose_spec ⟨_,Y⟩)<|j7 _)<|W0<|W2<|E9<|M6 (Jq T) hr.m T.h0y<|C6<|U 1) (c6 CF) k6)<|c6<|Tc (U 0) (U 1) Y),?_⟩;show vc Y Y Y ?_
 (try show t7 ?_)
 show O Y<|za ⟨Y,Y,O Y ?_⟩;show CT (λh0=>absurd h0 (by have:=hn.2.1;omega))<|λ_=>?_;show vb Y Y ⟨hn,O Y ?_⟩
 (try show t7 ?_)
 show vb Y Y ⟨x,_,dx,O Y ⟨hx,T.i0i,T.nP,(by show 0 < 1000;decide),?_⟩⟩;exact k
def Bo(T:Txt K mg t):m8 Pr w K mg base C8 1 t.d0u t.d0e [E1] (Br t.j0b [] MY MS Fr.zero):=by show T.d0d.F.okA Bm λ_ _ _ _ _ _ _ _ hr h=>?_;obtain⟨x,rfl,_,k⟩:=h;show⟨_,(c6<|i3<|D8<|C5 c4 c4),?_⟩;exact⟨sL,λp hp=>k _ _ (j6 hp) JY.new⟩
def CN(T:Txt K mg t):m8 Pr w K mg base C8 38 t.e0s t.d0s Bx (Bs t.j0b [] MY MS Fr.add):=by
 show T.d0p.F.okA Cu λ_ _ _ _ _ _ _ _ hr h=>?_;obtain⟨k0,x,y,a,b,m,n,rfl,⟨_,⟨px,rfl,hx⟩,⟨py,rfl,hy⟩,sa,sb,ig⟩,k⟩:=h;have sa:a.sz m:=sa;have sb:b.sz n:=sb;have m1:Ej a.t b.b:=Gn (n:=n) sa.1 sb.2 oM;have m2:Ej b.t a.b:=Gn (n:=m) sb.1 sa.2 oM;have m3:Ej a.b b.b:=Gn (n:=n) sa.2 sb.2 oM;show⟨_,(c6<|i3<|M6 (Eb T) hr.m T.h0r<|C5 (l5 z8 (l5 P9 (z6 l7 (U 1) c4)<|z6 l7 (U 2) c4)<|l5 P9 (z6 l7 (U 2) c4)<|z6 l7 (U 1) c4)<|l5 P9 (z6 l7 (U 1) c4)<|z6 l7 (U 2) c4),?_⟩
 (repeat fail)
 exact⟨aQ a.p b.p,k⟩
def Cd(T:Txt K mg t):m8 Pr w K mg base C8 38 t.e0k t.d0n Bx (Bs t.j0b [] MY MS Fr.mul):=by
 show T.d0j.F.okA BL λ_ _ _ _ _ _ _ _ hr h=>?_;obtain⟨k0,x,y,a,b,m,n,rfl,⟨_,⟨px,rfl,hx⟩,⟨py,rfl,hy⟩,sa,sb,ig⟩,k⟩:=h;have sa:a.sz m:=sa;have sb:b.sz n:=sb;have m1:Ej a.t b.t:=Gn (n:=n) sa.1 sb.1 oM;have m3:Ej a.b b.b:=Gn (n:=n) sa.2 sb.2 oM;show⟨_,(c6<|i3<|M6 (Eb T) hr.m T.h0r<|C5 (l5 P9 (z6 l7 (U 1) c4)<|z6 l7 (U 2) c4)<|l5 P9 (z6 l7 (U 1) c4)<|z6 l7 (U 2) c4),?_⟩
 (repeat fail)
 exact⟨aQ a.p b.p,k⟩
def Cb(T:Txt K mg t)(p:Int)(hp:2<=p):m8 Pr w K mg base C8 1 t.e0b t.d0h [E1] (Br t.j0w (Om p) (Bv p hp) (MR p) (Bv p hp).zero):=by show T.d0i.F.okA BK λ_ _ _ _ _ _ _ _ hr h=>?_;obtain⟨x,rfl,_,k⟩:=h;show⟨_,(c6<|i3 c4),?_⟩;exact k _ _ (o6.refl _) rfl
def DF(T:Txt K mg t)(p:Int)(hp:2<=p):m8 Pr w K mg base C8 1 t.f0h t.e0a Bx (Bs t.j0w (Om p) (Bv p hp) (MR p) (Bv p hp).add):=by show T.e0e.F.okA Ds λ_ _ _ _ _ _ _ _ hr h=>?_;obtain⟨k0,x,y,a,b,m,n,rfl,⟨⟨q,dx,rfl,hq⟩,rfl,rfl,sa,sb,ig⟩,k⟩:=h;show⟨_,(c6<|i3<|l5 F6 (l5 z8 (U 1)<|U 2)<|Kz (U 0) Y),?_⟩;show vb Y Y (za ⟨Y,Y,O Y ⟨q,_,dx,za ⟨Y,hq,T.i0i,T.nP,DB p,za ⟨Y,Y,(show p≠0 by omega),?_⟩⟩⟩⟩);exact k _ _ (o6.refl _) rfl
def CM(T:Txt K mg t)(p:Int)(hp:2<=p)(hq:p<=1000000):m8 Pr w K mg base C8 1 t.e0u t.d0q Bx (Bs t.j0w (Om p) (Bv p hp) (MR p) (Bv p hp).mul):=by show T.d0v.F.okA Ct λ_ _ _ _ _ _ _ _ hr h=>?_;obtain⟨k0,x,y,a,b,m,n,rfl,⟨⟨q,dx,rfl,hk⟩,rfl,rfl,sa,sb,ig⟩,k⟩:=h;have cm:Nq a.x b.x:=.inl ⟨by have:=a.h0;omega,by have:=a.h1;omega⟩;show⟨_,(c6<|i3<|l5 F6 (l5 DD (U 1)<|U 2)<|Kz (U 0) Y),?_⟩;show vb Y Y (za ⟨Y,Y,cm,O Y ⟨q,_,dx,za ⟨Y,hk,T.i0i,T.nP,DB p,za ⟨Y,Y,(show p≠0 by omega),?_⟩⟩⟩⟩);exact k _ _ (o6.refl _) rfl
def Eu(T:Txt K mg t):m8 Pr w K mg base C8 1 t.g0h t.e0p [E1] (Br t.k0p [] W6 MT W6.zero):=by show T.e0v.F.okA Eo λ_ _ _ _ _ _ _ _ hr h=>?_;obtain⟨x,rfl,_,k⟩:=h;show⟨_,(c6<|i3 N9),?_⟩;exact k _ _ (o6.refl _) rfl
def Gk(T:Txt K mg t):m8 Pr w K mg base C8 1 t.i0a t.g0g Bx (Bs t.k0p [] W6 MT W6.add):=by
 show T.f0u.F.okA Gd λ_ _ _ _ H _ _ _ hr h=>?_;obtain⟨k0,x,y,a,b,m,n,rfl,⟨_,rfl,rfl,sa,sb,ig⟩,k⟩:=h;show⟨_,(c7 (o3 (c9 AQ (U 1) N9<|j7 _) (c6<|i3<|U 2) k6)<|c7 (o3 (c9 AQ (U 2) N9<|j7 _) (c6<|i3<|U 1) k6)<|c6<|i3<|l4 (GX Y) bR T.z_min boot_min<|C5 (U 1)<|U 2),?_⟩;have k':=k (cV<|Nh a b) H (o6.refl _) rfl;cases a with
 | none=>
  show O Y ⟨Y,O Y ?_⟩;show B9 ?_;exact O Y k'
 | some i=>
  show O Y ⟨Y,O Y ?_⟩;show t7 ?_;cases b with
  | none=>
   show O Y ⟨Y,O Y ?_⟩;show B9 ?_;exact O Y k'
  | some j=>
   show O Y ⟨Y,O Y ?_⟩;show t7 ?_;exact vb Y Y (za ⟨Y,k'⟩)
def Fs(T:Txt K mg t):m8 Pr w K mg base C8 1 t.g0l t.f0e Bx (Bs t.k0p [] W6 MT W6.mul):=by
 show T.f0c.F.okA Fc λ_ _ _ _ H _ _ _ hr h=>?_;obtain⟨k0,x,y,a,b,m,n,rfl,⟨_,rfl,rfl,sa,sb,ig⟩,k⟩:=h;show⟨_,(c7 (o3 (PW.pt<|AN (c9 AQ (U 1) N9<|j7 _)<|W0<|c9 AQ (U 2) N9<|j7 _) (c6<|i3 N9) k6)<|c6<|i3<|l5 z8 (U 1)<|U 2),?_⟩;have k':=k (cV<|Li a b) H (o6.refl _) rfl;cases a with
 | none=>
  show O Y ⟨Y,O Y ?_⟩;show B9 ?_
  (try show B9 ?_)
  exact k'
 | some i=>
  show O Y ⟨Y,O Y ?_⟩;show t7 ?_;cases b with
  | none=>
   show O Y ⟨Y,O Y ?_⟩
   (try show B9 ?_)
   exact k'
  | some j=>
   show O Y ⟨Y,O Y ?_⟩
   (try show t7 ?_)
   exact vb Y Y (za ⟨Y,Y,k'⟩)
def DE(T:Txt K mg t):m8 Pr w K mg base C8 1 t.f0p t.e0h [E1] (Br t.k0m [] P5 MQ P5.zero):=by show T.e0c.F.okA Dq λ_ _ _ _ _ _ _ _ hr h=>?_;obtain⟨x,rfl,_,k⟩:=h;show⟨_,(c6<|i3 Ar),?_⟩;exact k _ _ (o6.refl _) rfl
def Fq(T:Txt K mg t):m8 Pr w K mg base C8 1 t.g0q t.f0m Bx (Bs t.k0m [] P5 MQ P5.add):=by
 show T.f0q.F.okA Fb λ_ _ _ _ H _ _ _ hr h=>?_;obtain⟨k0,x,y,a,b,m,n,rfl,⟨_,rfl,rfl,sa,sb,ig⟩,k⟩:=h;show⟨_,(c6<|i3<|On (U 1)<|S9<|U 2),?_⟩;have k':=k (.bl<|a || b) H (o6.refl _) rfl;cases a with
 | true=>exact vb Y Y (B9 k')
 | false=>exact vb Y Y (t7<|O Y k')
def Es(T:Txt K mg t):m8 Pr w K mg base C8 1 t.f0v t.e0r Bx (Bs t.k0m [] P5 MQ P5.mul):=by
 show T.e0m.F.okA Em λ_ _ _ _ H _ _ _ hr h=>?_;obtain⟨k0,x,y,a,b,m,n,rfl,⟨_,rfl,rfl,sa,sb,ig⟩,k⟩:=h;show⟨_,(c6<|i3<|Ac (U 1)<|S9<|U 2),?_⟩;have k':=k (.bl<|a && b) H (o6.refl _) rfl;cases a with
 | true=>exact vb Y Y (B9<|O Y k')
 | false=>exact vb Y Y (t7 k')
def Ae(T:Txt K mg t):m8 Pr w K mg base C8 2 t.c0z t.c0w JU (IL t.j0b [] MY MS):=by
 show T.c0v.F.okA Y5 λ_ _ _ _ H _ _ _ hr h=>?_;obtain⟨k0,x,a,rfl,⟨_,⟨px,rfl,hx⟩⟩,k⟩:=h;have hl:Am K (.ref px) H 2:=.inr ⟨_,y4.of hx,Y⟩;show⟨_,(c7 (o3 (PW.pt<|AN (W2<|E9<|l4 K0 bR T.z_isinstance boot_isinstance<|C5 (U 1)<|O1 (v:=.ty "tuple") Y T.z_tuple boot_tuple Y)<|W0<|c9 Jh (l4 w6 bR T.z_len PySem.boot_len<|C6<|U 1) c4<|j7 _) (c6<|i3 Ar) k6)<|c7 (o3 (PW.pt<|AN (W2<|E9<|M6 (J6 T) hr.m T.i0n<|C6<|z6 l7 (U 1) c4)<|W0<|W2<|E9<|M6 (J6 T) hr.m T.i0n<|C6<|z6 l7 (U 1) c4) (c6<|i3 Ar) k6)<|c6<|i3<|Ac (O0 WH (z6 l7 (U 1) c4) c4<|j7 _)<|S9<|O0 w8 (M6 (Fp T) hr.m T.i0x<|C5 (z6 l7 (U 1) c4)<|z6 l7 (U 1) c4) c4<|j7 _),?_⟩;show O Y (zc ⟨Y,P3.tup hx,T.k_tt,O Y ?_⟩)
 (try show t7 ?_)
 show O Y (za ⟨Y,hl,Y,O Y ?_⟩)
 (try dsimp only)
 show Rr (λne=>absurd Y ne)<|λ_=>?_;show O Y (zc ⟨Y,Y,y4.of hx,Y,vb Y Y ?_⟩)
 (try show t7 ?_)
 show O Y (zc ⟨Y,Y,y4.of hx,Y,vb Y Y ?_⟩)
 (try show t7 ?_)
 (try show t7 ?_)
 show O Y<|zc ⟨Y,Y,y4.of hx,Y,za ⟨Y,Y,O Y ?_⟩⟩;show CT (λ_=>?_)<|λh0=>absurd a.p oM;show O Y<|zc ⟨Y,Y,y4.of hx,Y,O Y<|zc ⟨Y,Y,y4.of hx,Y,za ⟨Y,Y,?_⟩⟩⟩;rw[show decide (V.int (dv a.t a.b)=V.int 1)=true from decI a.l];exact k
def Au(T:Txt K mg t)(p:Int)(hp:2<=p):m8 Pr w K mg base C8 2 t.d0f t.c0x JU (IL t.j0w (Om p) (Bv p hp)<|MR p):=by
 show T.c0y.F.okA As λ_ _ _ _ H _ Q _ hr h=>?_;obtain⟨k0,x,a,rfl,⟨⟨q,dx,rfl,hq⟩,rfl⟩,k⟩:=h;have a0:=a.h0;have a1:=a.h1;show⟨_,(c6<|i3<|Ac (M6 (J6 T) hr.m T.i0n<|C6<|U 1)<|S9<|Ot Rj Fj c4 (U 1)<|Kz (U 0) Y),?_⟩;show vc Y Y Y ?_;show B9 ?_;show O Y<|za ⟨Y,Y,O Y ?_⟩;show CT (λ_=>?_)<|λh0=>absurd a0 oM;show O Y ⟨q,_,dx,za ⟨Y,hq,T.i0i,T.nP,DB p,za ⟨Y,Y,?_⟩⟩⟩;have e:Q (V.bl<|decide<|Re.x (p:=p) a < p) H:=by rw[decide_eq_true a1];exact k
 exact e
def Ce(T:Txt K mg t):m8 Pr w K mg base C8 2 t.e0i t.d0k JU (IL t.k0p [] W6 MT):=by
 show T.d0m.F.okA BM λ_ _ _ _ _ _ _ _ hr h=>?_;obtain⟨k0,x,a,rfl,⟨_,rfl⟩,k⟩:=h;show⟨_,(c6<|i3<|On (O0 AQ (U 1) N9<|j7 _)<|S9<|M6 (J6 T) hr.m T.i0n<|C6<|U 1),?_⟩;cases a with
 | none=>exact O Y ⟨Y,O Y<|B9 k⟩
 | some i=>exact O Y ⟨Y,O Y<|t7<|vb Y Y k⟩
def Bn(T:Txt K mg t):m8 Pr w K mg base C8 2 t.d0o t.d0g JU (IL t.k0m [] P5 MQ):=by show T.d0c.F.okA Bl λ_ _ _ _ _ _ _ _ hr h=>?_;obtain⟨k0,x,a,rfl,⟨_,rfl⟩,k⟩:=h;show⟨_,(c6<|i3<|l4 K0 bR T.z_isinstance boot_isinstance<|C5 (U 1)<|O1 (v:=.ty "bool") Y T.z_bool boot_bool Y),?_⟩;exact O Y (zc ⟨Y,P3.bl _,T.k_bb,k⟩)
def DG(T:Txt K mg t):m8 Pr w K mg base C8 1 t.f0l t.e0f [E1] (Br t.j0b [] MY MS Fr.one):=by show T.e0g.F.okA Dt λ_ _ _ _ _ _ _ _ hr h=>?_;obtain⟨x,rfl,_,k⟩:=h;show⟨_,(c6<|i3<|D8<|C5 c4 c4),?_⟩;exact⟨sL,λp hp=>k _ _ (j6 hp) JY.new⟩
def Et(T:Txt K mg t)(p:Int)(hp:2<=p):m8 Pr w K mg base C8 1 t.g0c t.e0o [E1] (Br t.j0w (Om p) (Bv p hp) (MR p) (Bv p hp).one):=by show T.e0w.F.okA En λ_ _ _ _ _ _ _ _ hr h=>?_;obtain⟨x,rfl,_,k⟩:=h;show⟨_,(c6<|i3 c4),?_⟩;exact k _ _ (o6.refl _) rfl
def HJ(T:Txt K mg t):m8 Pr w K mg base C8 1 t.j0g t.h0g [E1] (Br t.k0p [] W6 MT W6.one):=by show T.g0z.F.okA Hq λ_ _ _ _ _ _ _ _ hr h=>?_;obtain⟨x,rfl,_,k⟩:=h;show⟨_,(c6<|i3 c4),?_⟩;exact k _ _ (o6.refl _) rfl
def Gj(T:Txt K mg t):m8 Pr w K mg base C8 1 t.i0l t.f0x [E1] (Br t.k0m [] P5 MQ P5.one):=by show T.g0f.F.okA Gc λ_ _ _ _ _ _ _ _ hr h=>?_;obtain⟨x,rfl,_,k⟩:=h;show⟨_,(c6<|i3 Ar),?_⟩;exact k _ _ (o6.refl _) rfl
def R_fr(T:Txt K mg t):o7 Pr w K mg base where
 S:=MY
 C:=t.j0b
 fs:=[]
 cl:=T.h0f
 is:=MS
 same e h:=JY.same e h
 isd h:=JY.is h
 f_plus:=_
 d_plus:=_
 t_plus:=T.d0p.t
 b_plus:=T.d0p.b
 l_plus:=rfl
 G_plus:=(CN T).mono bD
 f_times:=_
 d_times:=_
 t_times:=T.d0j.t
 b_times:=T.d0j.b
 l_times:=rfl
 G_times:=(Cd T).mono bD
 f_nought:=_
 d_nought:=_
 t_nought:=T.d0d.t
 b_nought:=T.d0d.b
 l_nought:=rfl
 G_nought:=(Bo T).mono bD
 f_is_weight:=_
 d_is_weight:=_
 t_is_weight:=T.c0v.t
 b_is_weight:=T.c0v.b
 l_is_weight:=rfl
 G_is_weight:=(Ae T).mono bD
 f_one:=_
 d_one:=_
 t_one:=T.e0g.t
 b_one:=T.e0g.b
 l_one:=rfl
 G_one:=(DG T).mono bD
def R_re(T:Txt K mg t)(p:Int)(hp:2<=p)(hq:p<=1000000):o7 Pr w K mg base where
 S:=Bv p hp
 C:=t.j0w
 fs:=Om p
 cl:=T.i0i
 is:=MR p
 same _ h:=h
 isd {H v x} h:=by cases (show v=.int x.x from h);exact .int _
 f_plus:=_
 d_plus:=_
 t_plus:=T.e0e.t
 b_plus:=T.e0e.b
 l_plus:=Ff p dK
 G_plus:=(DF T p hp).mono bD
 f_times:=_
 d_times:=_
 t_times:=T.d0v.t
 b_times:=T.d0v.b
 l_times:=Ff p dK
 G_times:=(CM T p hp hq).mono bD
 f_nought:=_
 d_nought:=_
 t_nought:=T.d0i.t
 b_nought:=T.d0i.b
 l_nought:=Ff p dK
 G_nought:=(Cb T p hp).mono bD
 f_is_weight:=_
 d_is_weight:=_
 t_is_weight:=T.c0y.t
 b_is_weight:=T.c0y.b
 l_is_weight:=Ff p dK
 G_is_weight:=(Au T p hp).mono bD
 f_one:=_
 d_one:=_
 t_one:=T.e0w.t
 b_one:=T.e0w.b
 l_one:=Ff p dK
 G_one:=(Et T p hp).mono bD
def R_co(T:Txt K mg t):o7 Pr w K mg base where
 S:=W6
 C:=t.k0p
 fs:=[]
 cl:=T.k0g
 is:=MT
 same _ h:=h
 isd {H v x} h:=by
  cases (show v=cV x from h);cases x with
  | none=>exact .non
  | some i=>exact .int i
 f_plus:=_
 d_plus:=_
 t_plus:=T.f0u.t
 b_plus:=T.f0u.b
 l_plus:=rfl
 G_plus:=(Gk T).mono bD
 f_times:=_
 d_times:=_
 t_times:=T.f0c.t
 b_times:=T.f0c.b
 l_times:=rfl
 G_times:=(Fs T).mono bD
 f_nought:=_
 d_nought:=_
 t_nought:=T.e0v.t
 b_nought:=T.e0v.b
 l_nought:=rfl
 G_nought:=(Eu T).mono bD
 f_is_weight:=_
 d_is_weight:=_
 t_is_weight:=T.d0m.t
 b_is_weight:=T.d0m.b
 l_is_weight:=rfl
 G_is_weight:=(Ce T).mono bD
 f_one:=_
 d_one:=_
 t_one:=T.g0z.t
 b_one:=T.g0z.b
 l_one:=rfl
 G_one:=(HJ T).mono bD
def R_tr(T:Txt K mg t):o7 Pr w K mg base where
 S:=P5
 C:=t.k0m
 fs:=[]
 cl:=T.k0a
 is:=MQ
 same _ h:=h
 isd {H v x} h:=by cases (show v=.bl x from h);exact .bl x
 f_plus:=_
 d_plus:=_
 t_plus:=T.f0q.t
 b_plus:=T.f0q.b
 l_plus:=rfl
 G_plus:=(Fq T).mono bD
 f_times:=_
 d_times:=_
 t_times:=T.e0m.t
 b_times:=T.e0m.b
 l_times:=rfl
 G_times:=(Es T).mono bD
 f_nought:=_
 d_nought:=_
 t_nought:=T.e0c.t
 b_nought:=T.e0c.b
 l_nought:=rfl
 G_nought:=(DE T).mono bD
 f_is_weight:=_
 d_is_weight:=_
 t_is_weight:=T.d0c.t
 b_is_weight:=T.d0c.b
 l_is_weight:=rfl
 G_is_weight:=(Bn T).mono bD
 f_one:=_
 d_one:=_
 t_one:=T.g0f.t
 b_one:=T.g0f.b
 l_one:=rfl
 G_one:=(Gj T).mono bD
inductive So(T:Txt K mg t):o7 Pr w K mg base->Str->Int->Prop
 | fr:So T (R_fr T) "fractions" 0
 | re (p:Int) (hp:2<=p) (hq:p<=1000000) (hi:KU p=true):So T (R_re T p hp hq) "residues" p
 | co:So T (R_co T) "costs" 0
 | tr:So T (R_tr T) "truths" 0
def F4(H:Z)(v:V)(nm:Str)(p:Int):Prop:=∃q,v=.ref q/\H q=some (.tup [.str nm,.int p])
def F4.same{H H':Z}{v:V}{nm:Str}{p:Int}(s:Q4 H H')(h:F4 H v nm p):F4 H' v nm p:=by obtain⟨q,rfl,e⟩:=h;exact⟨q,rfl,s _ _ e⟩
def Dr(H:Z)(a:Addr):Prop:=∃x:Int,H a=some (.lst [.int x])\/∃d:Int,H a=some (.lst [.int d,.int x])
def m9(a:Addr)(H H':Z):Prop:=∀b o,b≠a->H b=some o->H' b=some o
def m9.refl(a:Addr)(H:Z):m9 a H H:=λ_ _ _ h=>h
def m9.trans{a:Addr}{H H1 H2:Z}(x:m9 a H H1)(y:m9 a H1 H2):m9 a H H2:=λb o n h=>y b o n (x b o n h)
theorem m9.upd{a:Addr}{H:Z}{o:HO}:m9 a H (upd H a o):=λb u n h=>by rw[k9 n];exact h
def m9.of{a:Addr}{H H':Z}(x:o6 H H'):m9 a H H':=λb o _ h=>x b o h
def sp_next:Sp:=λvs H Q _=>∃(a:Addr) (m:Int),vs=[.ref a,.int m]/\(Dr H a/\0 < m/\m<=1000000000000000)/\∀(r:Int) H',m9 a H H'->Dr H' a->0<=r->r < m->Q (.int r) H'
def NI(K:aa):Sp:=λvs H Q _=>∃(a:Addr) (ns:List Int),vs=[.ref a]/\y8 K H a (ns.map V.int)/\ns.length<=63/\∀b H',H b=none->o6 H H'->Dr H' b->Q (.ref b) H'
def Mr{m:Int}(h:0 < m)(h':m<=1000000000000000)(x:Int):Rx x m:=by
 show⟨oM,?_⟩;have:m.natAbs<=2 ^ 50:=by
  have e:(2:Nat) ^ 50=1125899906842624:=by decide
  omega
 by_cases e:m.natAbs=0
 . rw[e];decide
 . rw[Nat.log2_lt e];exact cg this (Nat.pow_lt_pow_right bD bD)
def l6(T:Txt K mg t):m8 Pr w K mg base C8 1 t.j0x t.h0q TN sp_next:=by
 show T.h0o.F.okA DV λ_ _ _ _ H _ _ _ hr h=>?_;obtain⟨a,m,rfl,⟨⟨x,hD⟩,m0,m1⟩,k⟩:=h;show⟨_,(c7 (o3 (c9 w8 (l4 w6 bR T.z_len PySem.boot_len<|C6<|U 0) c4<|j7 _) (c7 (sT 2 DV.nd<|l5 F6 (z6 o4 (U 0) c4)<|U 1)<|c7 (Og (l5 Fk (z6 o4 (U 0) c4)<|U 1)<|Ol (U 0) c4 IP)<|c7 (o3 (c9 w8 (z6 o4 (U 0) c4) c4<|j7 _) (c6<|Bg<|Jf de PySem.F.slot_list_pop PySem.F.type_list_pop OB (U 0)<|C6 c4) k6)<|c6<|i3<|U 2) k6)<|c7 (Og (l5 F6 (l5 z8 (l5 DD (z6 o4 (U 0) c4) c4) c4) c4)<|Ol (U 0) c4 IP)<|c6<|i3<|l5 F6 (l5 Fk (z6 o4 (U 0) c4) c4)<|U 1),?_⟩;rcases hD with hD | ⟨d,hD⟩
 . have lc:Am K (.ref a) H 1:=.inl ⟨_,y8.of hD,Y⟩;show O Y<|za ⟨Y,lc,Y,O Y ?_⟩;show FH (λh=>absurd h bD)<|λ_=>?_;show O Y (zc ⟨Y,Y,y8.of hD,Y,za ⟨Y,Y,.inr ⟨by decide,bD⟩,za ⟨Y,Y,za ⟨Y,Y,(show(2305843009213693951:Int)≠0 by decide),?_⟩⟩⟩⟩);show O Y<|zc ⟨Y,Y,hD,Y,?_⟩;show O Y (zc ⟨Y,Y,y8.of c8,Y,za ⟨Y,Y,⟨by decide,bD⟩,O Y<|za ⟨Y,Y,(show m≠0 by omega),?_⟩⟩⟩);exact k _ _ m9.upd ⟨_,.inl c8⟩ (bH _ m0) (bN _ m0)
 . have lc:Am K (.ref a) H 2:=.inl ⟨_,y8.of hD,Y⟩;show O Y<|za ⟨Y,lc,Y,O Y ?_⟩;show FH (λ_=>?_)<|λh=>absurd Y h;show O Y (zc ⟨Y,Y,y8.of hD,Y,O Y<|za ⟨Y,Y,(show m≠0 by omega),?_⟩⟩);show O Y<|zc ⟨Y,Y,y8.of hD,Y,O Y<|za ⟨Y,Y,Mr m0 m1 _,?_⟩⟩;show O Y<|zc ⟨Y,Y,hD,Y,?_⟩;show O Y<|zc ⟨Y,Y,y8.of c8,Y,Y,O Y ?_⟩;show FH (λ_=>?_) (λ_=>?_)
   . show O Y ⟨.inl ⟨Y,_,y8.of c8⟩,zd ⟨Y,Y,c8,bD,bD,Y,Y,?_⟩⟩;show O Y ?_;exact k _ _ (m9.upd.trans m9.upd) ⟨x,.inl c8⟩ (bH _ m0) (bN _ m0)
   . show O Y ?_;exact k _ _ m9.upd ⟨x,.inr ⟨_,c8⟩⟩ (bH _ m0) (bN _ m0)
def HI(T:Txt K mg t):m8 Pr w K mg base C8 1 t.j0j t.g0x [Hg] (NI K):=by
 show T.h0h.F.okA R7 λ_ _ _ _ H _ Q _ hr h=>?_;obtain⟨a,ns,rfl,hS,dE,k⟩:=h;show⟨_,(c7 (sT 1 R7.nd c4)<|c7 (K7 aK Y (Bh<|z5 PL (U 0) F5<|B2 c4) (gN 2 R7.nd)<|c6<|sT 1 R7.nd<|l5 F6 (l5 z8 (l5 z8 (l5 DD (U 1) c4)<|l5 F6 (U 2)<|l5 Tq c4 c4) c4) c4)<|c7 (o3 (PW.pt<|R1 (c9 CG (l4 w6 bR T.z_len PySem.boot_len<|C6<|U 0) c4<|j7 _)<|R1 (c9 CG (z6 o4 (U 0) c4) c4<|j7 _)<|U6<|c9 w8 (l5 F6 (z6 o4 (U 0) c4) c4) c4<|j7 _) (c6<|i3<|F0<|C5 (l5 Fk (z6 o4 (U 0) c4) c4)<|U 1) k6)<|c6<|i3<|F0<|C6<|U 1),?_⟩;show vb Y Y<|za ⟨Y,hS,λc1 lQ=>?_⟩;have ec:Ai (ns.map V.int) none (some 200)=(ns.take 200).map V.int:=by rw[show(200:Int)=((200:Nat):Int)from rfl,OT,List.map_take]
 have s1:=j6 (o:=.lst<|Ai (ns.map V.int) none<|some 200) lQ;have k1:=c8 (H:=H) (a:=c1) (o:=.lst<|Ai (ns.map V.int) none<|some 200);have jH:=s1.seq hS;clear lQ;revert s1 k1 jH;generalize upd H c1 (.lst<|Ai (ns.map V.int) none<|some 200)=H1;intro s1 k1 jH;rw[ec]at k1;show⟨c1,Y,⟨_,y8.of k1⟩,Da (K:=K) (a:=c1) (xs:=(ns.take 200).map V.int) (λi σ H'=>∃(x:Int) (v:Option V),σ=[sr a,some<|.int x,v]/\H'=H1) ⟨_,O Y Y⟩ (λi σ H' _ ⟨_,_,_,e⟩=>e▸y8.of k1) ?_ ?_⟩
 . rintro i y σ H' hi ⟨x,v,rfl,rfl⟩;obtain⟨z,rfl⟩:∃z,y=V.int z:=by
    rw[aN]at hi;cases e:(ns.take 200)[i]? with
    | none=>rw[e]at hi;cases hi
    | some z=>rw[e]at hi;exact⟨z,(Option.some.inj hi).symm⟩
   show O Y (za ⟨Y,Y,.inr ⟨by decide,bD⟩,O Y<|za ⟨Y,Y,⟨by decide,bD,bD⟩,za ⟨Y,Y,(show((10:Int) ^ (30:Int).toNat)≠0 by decide),za ⟨Y,Y,za ⟨Y,Y,za ⟨Y,Y,(show(2305843009213693951:Int)≠0 by decide),?_⟩⟩⟩⟩⟩⟩);exact za ⟨Y,Y⟩
 . rintro σ H' ⟨x,v,rfl,rfl⟩;have lc:Am K (.ref a) H' (ns.map V.int).length:=.inl ⟨_,jH,Y⟩;rw[ai]at lc;have iY:Vg tNext (Vj<|Vn<|M4 (FY 1) tNil) { nx:=λ_ gT=>Q .non gT,rt:=Q } [sr a,some<|.int x,v] H':=by show O Y ⟨sL,λb hb=>?_⟩;exact k b _ (s1.free hb) (s1.trans<|j6 hb) ⟨x,.inl c8⟩
   show O Y<|za ⟨Y,lc,za ⟨Y,Y,O Y ?_⟩⟩;show CT (λh0=>?_) (λ_=>?_)
   . obtain⟨n0,g0⟩:∃n,ns[0]? = some n:=⟨ns[0]'oM,by simp⟩;have a0:Dh (ns.map V.int) 0=some (V.int n0):=D9 (j:=0) (by rw[aN,g0];rfl);show O Y<|zc ⟨Y,Y,jH,a0,za ⟨Y,Y,O Y ?_⟩⟩;show CT (λ_=>?_) (λ_=>?_)
     . show O Y (zc ⟨Y,Y,jH,a0,za ⟨Y,Y,(show(2:Int)≠0 by decide),Y,O Y ?_⟩⟩);show FH (λ_=>?_) (λ_=>?_)
       . show O Y (zc ⟨Y,Y,jH,a0,za ⟨Y,Y,⟨by decide,bD⟩,O Y ⟨sL,λb hb=>?_⟩⟩⟩);exact k b _ (s1.free hb) (s1.trans<|j6 hb) ⟨x,.inr ⟨_,c8⟩⟩
       . exact iY
     . exact iY
   . exact iY
def Dr.same{H H':Z}{a:Addr}(e:o6 H H')(h:Dr H a):Dr H' a:=by
 obtain⟨x,h | ⟨d,h⟩⟩:=h
 . exact⟨x,.inl<|e _ _ h⟩
 . exact⟨x,.inr ⟨d,e _ _ h⟩⟩
theorem Dr.lst{H:Z}{a:Addr}(h:Dr H a):∃xs,H a=some (.lst xs):=by
 obtain⟨x,h | ⟨d,h⟩⟩:=h
 . exact⟨_,h⟩
 . exact⟨_,h⟩
def m9.tt{a:Addr}{H H':Z}(s:m9 a H H')(d:Dr H a):Q4 H H':=λp vs h=>s p _ (by
 rintro rfl;obtain⟨xs,e⟩:=d.lst;rw[h]at e;cases e) h
def Dj.samx{C:Addr}{fs:List (Str × V)}{a:Addr}{H H':Z}{k:V}(s:m9 a H H')(d:Dr H a)(h:Dj C fs H k):Dj C fs H' k:=by
 obtain⟨p,dx,rfl,h⟩:=h;exact⟨p,dx,Y,s p _ (by
  rintro rfl;obtain⟨xs,e⟩:=d.lst;rw[h]at e;cases e) h⟩
def m9.tup{a p:Addr}{H:Z}{o:HO}(n:H p=none)(d:Dr H a):m9 a H (L2.upd H p o)/\Dr (L2.upd H p o) a:=⟨.of<|j6 n,d.same<|j6 n⟩
def Fo(T:Txt K mg t):m8 Pr w K mg base C8 1 t.g0n t.f0r Qq sp_divisor:=by
 show T.f0o.F.okA AC λ_ _ _ _ H _ _ _ hr h=>?_;obtain⟨a,b,rfl,k⟩:=h;show⟨_,(c7 (CD aK (c9 Jh (U 1) c4<|j7 _)<|c6<|Ta (i:=0) (j:=1) Y AC.nd Y Y bD Y Y (C5 (U 1)<|l5 F6 (U 0)<|U 1) Y)<|c6<|i3<|l4 FS bR T.z_abs boot_abs<|C6<|U 0),?_⟩;show⟨λm σ H'=>∃x y,σ=[some<|.int x,some<|.int y]/\m=y.natAbs/\dv x y=dv a b/\H'=H,zb ⟨Y,Y,Y,Y⟩,?_⟩;rintro m σ H' ⟨x,y,rfl,rfl,e,rfl⟩
 (repeat fail)
 show Rr (λh0=>?_) (λh0=>?_)
 . show⟨λσ' gT=>∃x' y',σ'=[some<|.int x',some<|.int y']/\y'.natAbs < y.natAbs/\dv x' y'=dv a b/\gT=H',λσ' gT ⟨x',y',e1,e2,e3,e4⟩=>⟨_,e2,x',y',e1,Y,e3,e4⟩,?_⟩;show vc Y Y Y<|za ⟨Y,Y,h0,za ⟨Y,?_⟩⟩;exact za ⟨Y,JB _ _ h0,Ud e,Y⟩
 . show vb Y Y ?_
   (try dsimp only)
   rw[out2 e h0];exact k
def sp_low:Sp:=λvs H Q _=>∃a b,vs=[.int a,.int b]/\0 < b/\∀v H',o6 H H'->JY H' v (tp a b) (bt a b)->Q v H'
def Ca(T:Txt K mg t):m8 Pr w K mg base C8 36 t.k0h t.j0c ["_law_top",Pq] sp_low:=by
 show T.j0d.F.okA EZ λ_ _ _ _ _ _ _ _ hr h=>?_;obtain⟨a,b,rfl,pb,k⟩:=h;have hd:dv a b≠0:=Int.ne_of_gt<|FN oM;show⟨_,(c7 (sT 2 EZ.nd<|M6 (Fo T) hr.m T.f0o<|C5 (U 0)<|U 1)<|c6<|i3<|D8<|C5 (l5 (CH hr bD Lo) (U 0)<|U 2)<|l5 (CH hr bD Lo) (U 1)<|U 2),?_⟩
 (repeat fail)
 show⟨sL,λp hp=>?_⟩;show k _ _ (j6 hp) ?_
 (try dsimp only)
 rw[(LG pb).1,(LG pb).2];exact JY.new
def Lu(T:Txt K mg t)(f:∀S:SR,S.W->S.W->S.W):Sp:=λvs H Q _=>∃(R:o7 Pr w K mg base),∃nm p so x y a b m n,So T R nm p/\vs=[so,x,y]/\
 (F4 H so nm p/\R.is H x a/\R.is H y b/\R.S.sz m a/\R.S.sz n b/\m+n<=60000000)/\∀v H',o6 H H'->R.is H' v (f R.S a b)->Q v H'
def AU(T:Txt K mg t):m8 Pr w K mg base C8 37 t.k0e t.i0g Ro (Lu (w:=w) (base:=base) T λS=>S.add):=by
 show T.h0m.F.okA IQ λ_ _ _ _ H _ Q _ hr h=>?_;obtain⟨R,nm,p,so,x,y,a,b,m,n,hS,rfl,⟨⟨q,rfl,hq⟩,hx,hy,sa,sb,ig⟩,k⟩:=h;show⟨_,(c7 (o3 (c9 w8 (z6 l7 (U 0) c4) k8<|j7 _) (c6<|i3<|M6 (Ca T) hr.m T.j0d<|C5 (l5 z8 (l5 P9 (z6 l7 (U 1) c4)<|z6 l7 (U 2) c4)<|l5 P9 (z6 l7 (U 2) c4)<|z6 l7 (U 1) c4)<|l5 P9 (z6 l7 (U 1) c4)<|z6 l7 (U 2) c4) k6)<|c7 (o3 (c9 w8 (z6 l7 (U 0) c4) k8<|j7 _) (c6<|i3<|l5 F6 (l5 z8 (U 1)<|U 2)<|z6 l7 (U 0) c4) k6)<|c7 (o3 (c9 w8 (z6 l7 (U 0) c4) k8<|j7 _) (c6<|i3<|On (U 1)<|S9<|U 2) k6)<|c7 (o3 (PW.pt<|AN (c9 AQ (U 1) N9<|j7 _)<|W0<|PW.pt<|R1 (c9 Qi (U 2) N9<|j7 _)<|U6<|c9 Fj (U 2) (U 1)<|j7 _) (c6<|i3<|U 2) k6)<|c6<|i3<|U 1),?_⟩;cases hS with
 | fr=>
  obtain⟨px,rfl,hx⟩:=hx;obtain⟨py,rfl,hy⟩:=hy;have sa:a.sz m:=sa;have sb:b.sz n:=sb;show O Y<|zc ⟨Y,Y,y4.of hq,Y,Y,O Y ?_⟩;rw[show decide (V.str ("fractions":Str)=V.str ("fractions":Str))=true by decide +kernel];show B9 ?_;show O Y<|zc ⟨Y,Y,y4.of hx,Y,O Y<|zc ⟨Y,Y,y4.of hy,Y,za ⟨Y,Y,Gn (n:=n) sa.1 sb.2 oM,O Y<|zc ⟨Y,Y,y4.of hy,Y,O Y<|zc ⟨Y,Y,y4.of hx,Y,za ⟨Y,Y,Gn (n:=m) sb.1 sa.2 oM,za ⟨Y,Y,?_⟩⟩⟩⟩⟩⟩⟩;show O Y (zc ⟨Y,Y,y4.of hx,Y,O Y<|zc ⟨Y,Y,y4.of hy,Y,za ⟨Y,Y,Gn (n:=n) sa.2 sb.2 oM,za ⟨Y,aQ a.p b.p,λv H' s' f'=>k v H' s' f'⟩⟩⟩⟩)
 | re p hp gk hi=>
  cases (show x=.int a.x from hx);cases (show y=.int b.x from hy);show O Y<|zc ⟨Y,Y,y4.of hq,Y,Y,O Y ?_⟩;rw[show decide (V.str ("residues":Str)=V.str ("fractions":Str))=false by decide +kernel];show t7 ?_;show O Y<|zc ⟨Y,Y,y4.of hq,Y,Y,O Y ?_⟩;rw[show decide (V.str ("residues":Str)=V.str ("residues":Str))=true by decide +kernel];show B9 ?_;show vb Y Y (za ⟨Y,Y,O Y<|zc ⟨Y,Y,y4.of hq,Y,za ⟨Y,Y,(show p≠0 by omega),?_⟩⟩⟩);exact k _ _ (o6.refl _) rfl
 | tr=>
  cases (show x=.bl a from hx);cases (show y=.bl b from hy);show O Y<|zc ⟨Y,Y,y4.of hq,Y,Y,O Y ?_⟩;rw[show decide (V.str ("truths":Str)=V.str ("fractions":Str))=false by decide +kernel];show t7 ?_;show O Y<|zc ⟨Y,Y,y4.of hq,Y,Y,O Y ?_⟩;rw[show decide (V.str ("truths":Str)=V.str ("residues":Str))=false by decide +kernel];show t7 ?_;show O Y<|zc ⟨Y,Y,y4.of hq,Y,Y,O Y ?_⟩;rw[show decide (V.str ("truths":Str)=V.str ("truths":Str))=true by decide +kernel];show B9 ?_;have k':=k (.bl<|a || b) H (o6.refl _) rfl;cases a with
  | true=>exact vb Y Y (B9 k')
  | false=>exact vb Y Y (t7<|O Y k')
 | co=>
  cases (show x=cV a from hx);cases (show y=cV b from hy);show O Y<|zc ⟨Y,Y,y4.of hq,Y,Y,O Y ?_⟩;rw[show decide (V.str ("costs":Str)=V.str ("fractions":Str))=false by decide +kernel];show t7 ?_;show O Y<|zc ⟨Y,Y,y4.of hq,Y,Y,O Y ?_⟩;rw[show decide (V.str ("costs":Str)=V.str ("residues":Str))=false by decide +kernel];show t7 ?_;show O Y<|zc ⟨Y,Y,y4.of hq,Y,Y,O Y ?_⟩;rw[show decide (V.str ("costs":Str)=V.str ("truths":Str))=false by decide +kernel];show t7 ?_;have k':=k (cV<|Nh a b) H (o6.refl _) rfl;cases a with
  | none=>
   show O Y ⟨Y,O Y ?_⟩;show B9 ?_;exact O Y k'
  | some i=>
   show O Y ⟨Y,O Y ?_⟩;show t7 ?_;cases b with
   | none=>
    show O Y ⟨Y,O Y ?_⟩
    (try show t7 ?_)
    (try show t7 ?_)
    exact O Y k'
   | some j=>
    show O Y ⟨Y,O Y ?_⟩
    (try show B9 ?_)
    show vb Y Y<|za ⟨Y,Y,O Y ?_⟩;have k':Q (.int<|if j < i then j else i) H:=k';show CT (λh0=>?_) (λh0=>?_)
    . rw[if_pos h0]at k';exact O Y k'
    . rw[if_neg h0]at k';exact O Y k'
def S3(T:Txt K mg t):m8 Pr w K mg base C8 37 t.i0w t.g0r Ro (Lu (w:=w) (base:=base) T λS=>S.mul):=by
 show T.g0y.F.okA Hn λ_ _ _ _ H _ _ _ hr h=>?_;obtain⟨R,nm,p,so,x,y,a,b,m,n,hS,rfl,⟨⟨q,rfl,hq⟩,hx,hy,sa,sb,ig⟩,k⟩:=h;show⟨_,(c7 (o3 (c9 w8 (z6 l7 (U 0) c4) k8<|j7 _) (c6<|i3<|M6 (Ca T) hr.m T.j0d<|C5 (l5 P9 (z6 l7 (U 1) c4)<|z6 l7 (U 2) c4)<|l5 P9 (z6 l7 (U 1) c4)<|z6 l7 (U 2) c4) k6)<|c7 (o3 (c9 w8 (z6 l7 (U 0) c4) k8<|j7 _) (c6<|i3<|l5 F6 (l5 DD (U 1)<|U 2)<|z6 l7 (U 0) c4) k6)<|c7 (o3 (c9 w8 (z6 l7 (U 0) c4) k8<|j7 _) (c6<|i3<|Ac (U 1)<|S9<|U 2) k6)<|c7 (o3 (PW.pt<|AN (c9 AQ (U 1) N9<|j7 _)<|W0<|c9 AQ (U 2) N9<|j7 _) (c6<|i3 N9) k6)<|c6<|i3<|l5 z8 (U 1)<|U 2),?_⟩;cases hS with
 | fr=>
  obtain⟨px,rfl,hx⟩:=hx;obtain⟨py,rfl,hy⟩:=hy;have sa:a.sz m:=sa;have sb:b.sz n:=sb;show O Y<|zc ⟨Y,Y,y4.of hq,Y,Y,O Y ?_⟩;rw[show decide (V.str ("fractions":Str)=V.str ("fractions":Str))=true by decide +kernel];show B9 ?_;show O Y<|zc ⟨Y,Y,y4.of hx,Y,O Y<|zc ⟨Y,Y,y4.of hy,Y,za ⟨Y,Y,Gn (n:=n) sa.1 sb.1 oM,?_⟩⟩⟩;show O Y (zc ⟨Y,Y,y4.of hx,Y,O Y<|zc ⟨Y,Y,y4.of hy,Y,za ⟨Y,Y,Gn (n:=n) sa.2 sb.2 oM,za ⟨Y,aQ a.p b.p,λv H' s' f'=>k v H' s' f'⟩⟩⟩⟩)
 | re p hp gk hi=>
  cases (show x=.int a.x from hx);cases (show y=.int b.x from hy);have cm:Nq a.x b.x:=.inl ⟨by have:=a.h0;omega,by have:=a.h1;omega⟩;show O Y<|zc ⟨Y,Y,y4.of hq,Y,Y,O Y ?_⟩;rw[show decide (V.str ("residues":Str)=V.str ("fractions":Str))=false by decide +kernel];show t7 ?_;show O Y<|zc ⟨Y,Y,y4.of hq,Y,Y,O Y ?_⟩;rw[show decide (V.str ("residues":Str)=V.str ("residues":Str))=true by decide +kernel];show B9 ?_;show vb Y Y (za ⟨Y,Y,cm,O Y<|zc ⟨Y,Y,y4.of hq,Y,za ⟨Y,Y,(show p≠0 by omega),?_⟩⟩⟩);exact k _ _ (o6.refl _) rfl
 | tr=>
  cases (show x=.bl a from hx);cases (show y=.bl b from hy);show O Y<|zc ⟨Y,Y,y4.of hq,Y,Y,O Y ?_⟩;rw[show decide (V.str ("truths":Str)=V.str ("fractions":Str))=false by decide +kernel];show t7 ?_;show O Y<|zc ⟨Y,Y,y4.of hq,Y,Y,O Y ?_⟩;rw[show decide (V.str ("truths":Str)=V.str ("residues":Str))=false by decide +kernel];show t7 ?_;show O Y<|zc ⟨Y,Y,y4.of hq,Y,Y,O Y ?_⟩;rw[show decide (V.str ("truths":Str)=V.str ("truths":Str))=true by decide +kernel];show B9 ?_;have k':=k (.bl<|a && b) H (o6.refl _) rfl;cases a with
  | true=>exact vb Y Y (B9<|O Y k')
  | false=>exact vb Y Y (t7 k')
 | co=>
  cases (show x=cV a from hx);cases (show y=cV b from hy);show O Y<|zc ⟨Y,Y,y4.of hq,Y,Y,O Y ?_⟩;rw[show decide (V.str ("costs":Str)=V.str ("fractions":Str))=false by decide +kernel];show t7 ?_;show O Y<|zc ⟨Y,Y,y4.of hq,Y,Y,O Y ?_⟩;rw[show decide (V.str ("costs":Str)=V.str ("residues":Str))=false by decide +kernel];show t7 ?_;show O Y<|zc ⟨Y,Y,y4.of hq,Y,Y,O Y ?_⟩;rw[show decide (V.str ("costs":Str)=V.str ("truths":Str))=false by decide +kernel];show t7 ?_;have k':=k (cV<|Li a b) H (o6.refl _) rfl;cases a with
  | none=>
   show O Y ⟨Y,O Y ?_⟩
   (try show B9 ?_)
   (try show B9 ?_)
   exact k'
  | some i=>
   show O Y ⟨Y,O Y ?_⟩;show t7 ?_;cases b with
   | none=>
    show O Y ⟨Y,O Y ?_⟩
    (try show B9 ?_)
    exact k'
   | some j=>
    show O Y ⟨Y,O Y ?_⟩
    (try show t7 ?_)
    exact vb Y Y (za ⟨Y,Y,k'⟩)
def TH(p1:Addr):List (E5 × V):=[(Sum.inr "fractions",.ref p1),(Sum.inr "residues",.int 0),(Sum.inr "costs",.non),(Sum.inr "truths",.bl false)]
def TB(p1:Addr):y7 (J8 []<|TH p1) (Sum.inr "fractions")=some (.ref p1):=by kernel_rfl
def Tz(p1:Addr):y7 (J8 []<|TH p1) (Sum.inr "residues")=some (.int 0):=by kernel_rfl
def TF(p1:Addr):y7 (J8 []<|TH p1) (Sum.inr "costs")=some .non:=by kernel_rfl
def Tx(p1:Addr):y7 (J8 []<|TH p1) (Sum.inr "truths")=some (.bl false):=by kernel_rfl
def Kh(T:Txt K mg t):Sp:=λvs H Q _=>∃(R:o7 Pr w K mg base),∃nm p so,So T R nm p/\vs=[so]/\F4 H so nm p/\∀v H',o6 H H'->R.is H' v R.S.zero->Q v H'
def C7(T:Txt K mg t):m8 Pr w K mg base C8 1 t.i0d t.g0b [K8] (Kh (w:=w) (base:=base) T):=by
 show T.f0y.F.okA Gb λ_ _ _ _ H _ _ _ hr h=>?_;obtain⟨R,nm,p,so,hS,rfl,⟨q,rfl,hq⟩,k⟩:=h;show⟨_,(c6<|i3<|B4 (B8 hr) (HA (N8 k8 (D8<|C5 c4 c4)<|N8 k8 c4<|N8 k8 N9<|N8 k8 Ar Hx) Y Y (λh=>by cases h) bD) (z6 l7 (U 0) c4)<|λ_ _=>rfl),?_⟩;intro d nd;show⟨sL,λp1 n1=>?_⟩;have s1:=j6 (o:=.dK []) nd;have s2:=j6 (o:=.tup [.int 0,.int 1]) n1;have nG:p1≠d:=λe=>by rw[e,c8]at n1;cases n1
 have s3:o6 H (upd (upd (upd H d<|.dK []) p1<|.tup [.int 0,.int 1]) d<|.dK<|J8 []<|TH p1):=λb o e=>by
  rw[k9<|l9 e nd];exact(s1.trans s2) _ _ e
 show⟨s2 _ _ c8,TH p1,Y,(by show 4<=15;decide),?_⟩;show O Y<|zc ⟨Y,Y,y4.of<|s3 _ _ hq,Y,?_⟩;have g:=R3.k (H:=upd (upd (upd H d<|.dK []) p1<|.tup [.int 0,.int 1]) d<|.dK<|J8 []<|TH p1) (k:=Sum.inr nm) c8;cases hS with
 | fr=>
  rw[TB]at g;exact za ⟨Y,g,k _ _ s3 ⟨p1,Y,by rw[k9 nG,c8];rfl⟩⟩
 | re p hp gk hi=>
  rw[Tz]at g;exact za ⟨Y,g,k _ _ s3 Y⟩
 | co=>
  rw[TF]at g;exact za ⟨Y,g,k _ _ s3 Y⟩
 | tr=>
  rw[Tx]at g;exact za ⟨Y,g,k _ _ s3 Y⟩
def Uu{r:Int}(h0:0<=r)(h1:r < 8):∃p:Int,Dh ([2,3,5,7,11,101,65537,999983].map V.int) r=some (V.int p)/\2<=p/\p<=1000000/\KU p=true:=by
 rcases(by omega:r=0\/r=1\/r=2\/r=3\/r=4\/r=5\/r=6\/r=7)with rfl | rfl | rfl | rfl | rfl | rfl | rfl | rfl
 . exact⟨2,Y,bD,bD,p2⟩
 . exact⟨3,Y,bD,bD,p3⟩
 . exact⟨5,Y,bD,bD,p5⟩
 . exact⟨7,Y,bD,bD,p7⟩
 . exact⟨11,Y,bD,bD,p11⟩
 . exact⟨101,Y,bD,bD,p101⟩
 . exact⟨65537,Y,bD,bD,Th⟩
 . exact⟨999983,Y,bD,bD,Qh⟩
def PD(T:Txt K mg t):Sp:=λvs H Q _=>∃(a:Addr),vs=[.ref a]/\Dr H a/\∀(R:o7 Pr w K mg base) nm p v H',So T R nm p->F4 H' v nm p->m9 a H H'->Dr H' a->Q v H'
def Jn(T:Txt K mg t):m8 Pr w K mg base C8 2 t.k0b t.i0k [W8] (PD (w:=w) (base:=base) T):=by
 show T.h0z.F.okA DT λ_ _ _ _ H _ _ _ hr h=>?_;obtain⟨a,rfl,hD,k⟩:=h;show⟨_,(c7 (sT 1 DT.nd<|z6 o4 (F0<|B5 c4<|B5 c4<|B5 c4<|B5 c4<|My c4 c4 c4 c4)<|M6 (l6 T) hr.m T.h0o<|C5 (U 0) c4)<|c6<|i3<|z6 o4 (F0<|My (D8<|C5 k8 c4) (D8<|C5 k8<|U 1) (D8<|C5 k8 c4)<|D8<|C5 k8 c4)<|M6 (l6 T) hr.m T.h0o<|C5 (U 0) c4),?_⟩;show⟨sL,λl0 h0=>?_⟩;have e0:=j6 (o:=.lst<|[2,3,5,7,11,101,65537,999983].map V.int) h0;have la:l0≠a:=λe=>by obtain⟨xs,z⟩:=hD.lst;rw[<- e,h0]at z;cases z
 show O Y ⟨a,8,Y,⟨hD.same e0,bD,bD⟩,λr H1 s1 d1 r0 r1=>?_⟩;obtain⟨p,ap,hp⟩:=Uu r0 r1;show zc ⟨Y,Y,y8.of<|s1 _ _ la c8,ap,?_⟩;have q1:m9 a H H1:=(m9.of e0).trans s1;show⟨sL,λp1 n1=>(O Y ⟨sL,λp2 n2=>⟨sL,λp3 n3=>⟨sL,λp4 n4=>⟨sL,λl nl=>?_⟩⟩⟩⟩)⟩;have t1:=j6 (o:=.tup [.str "fractions",.int 0]) n1;have t2:=j6 (o:=.tup [.str "residues",.int p]) n2;have t3:=j6 (o:=.tup [.str "costs",.int 0]) n3;have t4:=j6 (o:=.tup [.str "truths",.int 0]) n4;have t5:=j6 (o:=.lst [V.ref p1,.ref p2,.ref p3,.ref p4]) nl;have tt:=(((t1.trans t2).trans t3).trans t4).trans t5;have q2:=q1.trans<|.of tt;have d2:=d1.same tt;have f1:=(((t2.trans t3).trans t4).trans t5) _ _<|c8 (H:=H1) (a:=p1) (o:=.tup [.str "fractions",.int 0]);have f2:=((t3.trans t4).trans t5) _ _<|c8 (a:=p2) (o:=.tup [.str "residues",.int p]);have f3:=(t4.trans t5) _ _<|c8 (a:=p3) (o:=.tup [.str "costs",.int 0]);have f4:=t5 _ _<|c8 (a:=p4) (o:=.tup [.str "truths",.int 0]);have f5:=c8 (H:=upd (upd (upd (upd H1 p1<|.tup [.str "fractions",.int 0]) p2<|.tup [.str "residues",.int p]) p3<|.tup [.str "costs",.int 0]) p4<|.tup [.str "truths",.int 0]) (a:=l) (o:=.lst [V.ref p1,.ref p2,.ref p3,.ref p4]);have ll:l≠a:=λe=>by obtain⟨xs,z⟩:=(d1.same<|((t1.trans t2).trans t3).trans t4).lst;rw[<- e,nl]at z;cases z
 show O Y ⟨a,4,Y,⟨d2,bD,bD⟩,λwy H3 s3 d3 w0 w4=>?_⟩;have u3:=s3.tt d2;have q3:=q2.trans s3;have lR:=s3 _ _ ll f5;rcases(by omega:wy=0\/wy=1\/wy=2\/wy=3)with rfl | rfl | rfl | rfl
 . exact zc ⟨Y,Y,y8.of lR,Y,k _ _ _ _ _ .fr ⟨p1,Y,u3 _ _ f1⟩ q3 d3⟩
 . exact zc ⟨Y,Y,y8.of lR,Y,k _ _ _ _ _ (.re p hp.1 hp.2.1 hp.2.2) ⟨p2,Y,u3 _ _ f2⟩ q3 d3⟩
 . exact zc ⟨Y,Y,y8.of lR,Y,k _ _ _ _ _ .co ⟨p3,Y,u3 _ _ f3⟩ q3 d3⟩
 . exact zc ⟨Y,Y,y8.of lR,Y,k _ _ _ _ _ .tr ⟨p4,Y,u3 _ _ f4⟩ q3 d3⟩
def PJ(T:Txt K mg t):Sp:=λvs H Q _=>∃(R:o7 Pr w K mg base),∃nm p so,So T R nm p/\vs=[so]/\F4 H so nm p/\∀v H',o6 H H'->Dj R.C R.fs H' v->Q v H'
def Jp(T:Txt K mg t):m8 Pr w K mg base C8 4 t.j0t t.h0x [K8] (PJ (w:=w) (base:=base) T):=by
 show T.i0c.F.okA IR λ_ _ _ _ _ _ _ _ hr h=>?_;obtain⟨R,nm,p,so,hS,rfl,⟨q,rfl,hq⟩,k⟩:=h;show⟨_,(c7 (o3 (c9 w8 (z6 l7 (U 0) c4) k8<|j7 _) (c6<|i3<|Fh T.g0t Y T.h0i) k6)<|c7 (o3 (c9 w8 (z6 l7 (U 0) c4) k8<|j7 _) (c6<|i3<|Qf T.h0t (AV T) hr.m Y T.i0j T.d0b.b .nil t8<|C6<|z6 l7 (U 0) c4) k6)<|c7 (o3 (c9 w8 (z6 l7 (U 0) c4) k8<|j7 _) (c6<|i3<|Fh T.k0l Y T.k0i) k6)<|c6<|i3<|Fh T.j0v Y T.j0r),?_⟩;cases hS with
 | fr=>
  show O Y<|zc ⟨Y,Y,y4.of hq,Y,Y,O Y ?_⟩;rw[show decide (V.str ("fractions":Str)=V.str ("fractions":Str))=true by decide +kernel];show B9 ?_;intro x dx nx iO nF;exact k _ _ (Bd nx iO) ⟨_,O Y c8⟩
 | re p hp gk hi=>
  show O Y<|zc ⟨Y,Y,y4.of hq,Y,Y,O Y ?_⟩;rw[show decide (V.str ("residues":Str)=V.str ("fractions":Str))=false by decide +kernel];show t7 ?_;show O Y<|zc ⟨Y,Y,y4.of hq,Y,Y,O Y ?_⟩;rw[show decide (V.str ("residues":Str)=V.str ("residues":Str))=true by decide +kernel];show B9 ?_;show O Y<|zc ⟨Y,Y,y4.of hq,Y,λx dx nx iO nF=>⟨x,dx,O Y ⟨⟨hp,gk,hi⟩,c8,Y,?_⟩⟩⟩;rw[Pt];exact k _ _ (Bd nx iO) ⟨_,O Y c8⟩
 | co=>
  show O Y<|zc ⟨Y,Y,y4.of hq,Y,Y,O Y ?_⟩;rw[show decide (V.str ("costs":Str)=V.str ("fractions":Str))=false by decide +kernel];show t7 ?_;show O Y<|zc ⟨Y,Y,y4.of hq,Y,Y,O Y ?_⟩;rw[show decide (V.str ("costs":Str)=V.str ("residues":Str))=false by decide +kernel];show t7 ?_;show O Y<|zc ⟨Y,Y,y4.of hq,Y,Y,O Y ?_⟩;rw[show decide (V.str ("costs":Str)=V.str ("costs":Str))=true by decide +kernel];show B9 ?_;intro x dx nx iO nF;exact k _ _ (Bd nx iO) ⟨_,O Y c8⟩
 | tr=>
  show O Y<|zc ⟨Y,Y,y4.of hq,Y,Y,O Y ?_⟩;rw[show decide (V.str ("truths":Str)=V.str ("fractions":Str))=false by decide +kernel];show t7 ?_;show O Y<|zc ⟨Y,Y,y4.of hq,Y,Y,O Y ?_⟩;rw[show decide (V.str ("truths":Str)=V.str ("residues":Str))=false by decide +kernel];show t7 ?_;show O Y<|zc ⟨Y,Y,y4.of hq,Y,Y,O Y ?_⟩;rw[show decide (V.str ("truths":Str)=V.str ("costs":Str))=false by decide +kernel];show t7 ?_;intro x dx nx iO nF;exact k _ _ (Bd nx iO) ⟨_,O Y c8⟩
def Tp(p1:Addr):List (E5 × V):=[(Sum.inr "fractions",.ref p1),(Sum.inr "residues",.int 1),(Sum.inr "costs",.int 0),(Sum.inr "truths",.bl true)]
def Tn(p1:Addr):y7 (J8 []<|Tp p1) (Sum.inr "fractions")=some (.ref p1):=by kernel_rfl
def Tj(p1:Addr):y7 (J8 []<|Tp p1) (Sum.inr "residues")=some (.int 1):=by kernel_rfl
def To(p1:Addr):y7 (J8 []<|Tp p1) (Sum.inr "costs")=some (.int 0):=by kernel_rfl
def Ti(p1:Addr):y7 (J8 []<|Tp p1) (Sum.inr "truths")=some (.bl true):=by kernel_rfl
def PH(T:Txt K mg t):Sp:=λvs H Q _=>∃(R:o7 Pr w K mg base),∃nm p so,So T R nm p/\vs=[so]/\F4 H so nm p/\∀v H',o6 H H'->R.is H' v R.S.one->Q v H'
def Fm(T:Txt K mg t):m8 Pr w K mg base C8 1 t.k0j t.j0f [K8] (PH (w:=w) (base:=base) T):=by
 show T.j0m.F.okA Kk λ_ _ _ _ H _ _ _ hr h=>?_;obtain⟨R,nm,p,so,hS,rfl,⟨q,rfl,hq⟩,k⟩:=h;show⟨_,(c6<|i3<|B4 (B8 hr) (HA (N8 k8 (D8<|C5 c4 c4)<|N8 k8 c4<|N8 k8 c4<|N8 k8 Ar Hx) Y Y (λh=>by cases h) bD) (z6 l7 (U 0) c4)<|λ_ _=>rfl),?_⟩;intro d nd;show⟨sL,λp1 n1=>?_⟩;have s1:=j6 (o:=.dK []) nd;have s2:=j6 (o:=.tup [.int 1,.int 1]) n1;have nG:p1≠d:=λe=>by rw[e,c8]at n1;cases n1
 have s3:o6 H (upd (upd (upd H d<|.dK []) p1<|.tup [.int 1,.int 1]) d<|.dK<|J8 []<|Tp p1):=λb o e=>by
  rw[k9<|l9 e nd];exact(s1.trans s2) _ _ e
 show⟨s2 _ _ c8,Tp p1,Y,(by show 4<=15;decide),?_⟩;show O Y<|zc ⟨Y,Y,y4.of<|s3 _ _ hq,Y,?_⟩;have g:=R3.k (H:=upd (upd (upd H d<|.dK []) p1<|.tup [.int 1,.int 1]) d<|.dK<|J8 []<|Tp p1) (k:=Sum.inr nm) c8;cases hS with
 | fr=>
  rw[Tn]at g;exact za ⟨Y,g,k _ _ s3 ⟨p1,Y,by rw[k9 nG,c8];rfl⟩⟩
 | re p hp gk hi=>
  rw[Tj]at g;exact za ⟨Y,g,k _ _ s3 Y⟩
 | co=>
  rw[To]at g;exact za ⟨Y,g,k _ _ s3 Y⟩
 | tr=>
  rw[Ti]at g;exact za ⟨Y,g,k _ _ s3 Y⟩
def tx(l:w0g):Str:=⟨l.toArray⟩
def vT(l:w0g):V:=.str (tx l)
def Do(a b:w0g):tx a++tx b=tx (a++b):=by show(⟨a.toArray++b.toArray⟩:Str)=⟨(a++b).toArray⟩;simp
def l8(a:w0g):(tx a).length=a.length:=by show a.toArray.size=a.length;simp
def NF{l:w0g}(h1:1<=l.length)(h3:l.length<=3):(∃a,l=[a])\/(∃a b,l=[a,b])\/∃a b c,l=[a,b,c]:=by
 match l,h1,h3 with
 | [a],_,_=>exact .inl ⟨a,Y⟩
 | [a,b],_,_=>exact .inr (.inl ⟨a,b,Y⟩)
 | [a,b,c],_,_=>exact .inr (.inr ⟨a,b,c,Y⟩)
def occ1(a x:Nat)(h:x=a):Builtin.Str.occurrences (tx [a]) (tx [x]) 0 (tx [a]).length 1=[0]:=by subst h;simp[Builtin.Str.occurrences,Builtin.Str.subAt,tx,Str.length,List.range']
def occ2(a b x:Nat)(n:a≠b)(h:x=a\/x=b):Builtin.Str.occurrences (tx [a,b]) (tx [x]) 0 (tx [a,b]).length 1=[List.idxOf x [a,b]]:=by
 rcases h with rfl | rfl
 . simp[Builtin.Str.occurrences,Builtin.Str.subAt,tx,Str.length,List.range',cK]
 . simp[Builtin.Str.occurrences,Builtin.Str.subAt,tx,Str.length,List.range',cK,n,beq_false_of_ne n]
def occ3(a b c x:Nat)(n:(a≠b/\a≠c)/\b≠c)(h:x=a\/x=b\/x=c):Builtin.Str.occurrences (tx [a,b,c]) (tx [x]) 0 (tx [a,b,c]).length 1=[List.idxOf x [a,b,c]]:=by
 rcases h with rfl | rfl | rfl
 . simp[Builtin.Str.occurrences,Builtin.Str.subAt,tx,Str.length,List.range',cK]
 . simp[Builtin.Str.occurrences,Builtin.Str.subAt,tx,Str.length,List.range',cK,n.1.1,beq_false_of_ne n.1.1]
 . simp[Builtin.Str.occurrences,Builtin.Str.subAt,tx,Str.length,List.range',cK,n.1.2,n.2,beq_false_of_ne n.1.2,beq_false_of_ne n.2]
structure Pg(l:w0g):Prop where
 h1:1<=l.length
 h3:l.length<=3
 nd:l.Nodup
 as:∀c∈l,c < 128
def Ts{l:w0g}(h:Pg l){x:Nat}(hx:x∈l):Builtin.Str.occurrences (tx l) (tx [x]) 0 (tx l).length 1=[l.idxOf x]:=by
 have nd:=h.nd;rcases NF h.h1 h.h3 with ⟨a,rfl⟩ | ⟨a,b,rfl⟩ | ⟨a,b,c,rfl⟩
 . have:x=a:=by simpa using hx
   rw[occ1 a x this,this];simp
 . exact occ2 a b x (by simpa using nd) (by simpa using hx)
 . exact occ3 a b c x (by simpa [not_or] using nd) (by simpa using hx)
def BA:(Str.ofString "")=tx []:=by decide +kernel
def NB{l:w0g}(h:∀c∈l,c < 128):(tx l).cps.all (· < 128)=true:=by show l.toArray.all (· < 128)=true;simp only[List.all_toArray,ck,decide_eq_true_eq];exact h
def D0{α:Type}{l:List α}{i:Nat}{x:α}(h:l[i]? = some x):l.take (i+1)=l.take i++[x]:=by rw[List.take_add_one,h];rfl
def AZ{J:It}{n k:Nat}{g:TG}{tc:TT}{te:TE}{σ:L2.St}{Q:VK}{H1:Z}(Pv:Nat->List V->Z->Prop)(hn:n<=10000)(h0:Pv 0 [] H1)(hl:∀i ys H,Pv i ys H->ys.length<=i)
    (oB:∀i ys H,i < n->Pv i ys H->J.go i H/\∀x H',J.yld i H x H'->g x (σ++List.replicate k none) H' λσ2 H2=>(∃zs,σ2=σ++zs/\zs.length=k)/\tc σ2 H2 λb H3=>if b=true then te σ2 H3 λv H4=>Pv (i+1) (ys++[v]) H4 else Pv (i+1) ys H3)
    (gD:∀ys H,Pv n ys H->J.stop n H) (fR:∀ys H p,Pv n ys H->H p=none->Q (.ref p) (upd H p<|.lst ys)) :
    FU J k g tc te σ Q H1:=by
 have z:=sZ;show⟨λi m ys H=>m=n - i/\i<=n/\Pv i ys H,⟨n,Y,aU _,h0⟩,?_⟩;rintro i m ys H ⟨rfl,hi,p⟩;have yl:=hl i ys H p;by_cases el:i < n
 . obtain⟨a,b⟩:=oB i ys H el p;show .inr ⟨a,oM,λx H' y=>?_⟩;have c:=b x H' y;have e1:∀ys H3,(∃m',m' < n - i/\m'=n - (i+1)/\i+1<=n/\Pv (i+1) ys H3)=Pv (i+1) ys H3:=λys H3=>propext ⟨λ⟨_,_,_,_,q⟩=>q,λq=>⟨_,oM,Y,el,q⟩⟩;simp only[e1];exact c
 . have e:i=n:=by omega
   subst e;exact .inl ⟨gD ys H p,oM,λq nq=>fR ys H q p nq⟩
def jn(sep:w0g):List w0g->List Nat
 | []=>[]
 | [p]=>p
 | p::q::r=>p++sep++jn sep (q::r)
theorem GU(sep:w0g):∀(ls:List w0g) (dM:w0g),(ls.map tx).foldl (λa p=>a++(tx sep).cps++p.cps) dM.toArray=(ls.foldl (λa p=>a++sep++p) dM).toArray
 | [],dM=>rfl
 | p::ls,dM=>by
  rw[aM,List.foldl_cons,List.foldl_cons];have:dM.toArray++(tx sep).cps++(tx p).cps=(dM++sep++p).toArray:=by simp[tx]
  rw[this];exact GU sep ls _
theorem LD(sep:w0g):∀(ls:List w0g) (p:w0g),ls.foldl (λa p=>a++sep++p) p=jn sep (p::ls)
 | [],p=>rfl
 | q::ls,p=>by
  rw[List.foldl_cons,LD sep ls];cases ls with
  | nil=>rfl
  | cons r ls=>simp[jn]
def Qu(sep:w0g):∀ls:List w0g,Txt.join (tx sep) (ls.map tx)=tx (jn sep ls)
 | []=>rfl
 | p::ls=>by
  show(⟨_⟩:Str)=⟨_⟩;rw[aM,List.drop_succ_cons,List.drop_zero,List.headD_cons];have:=GU sep ls p;rw[show(tx p).cps=p.toArray from rfl,this,LD]
def Lv{p:w0g}{q:Int}(h0:0<=q)(h1:q<=p.length):Txt.slice (tx p) none (some q)=tx (p.take q.toNat):=by have e:=PyProof.Rows.slice_closes_toL (x:=tx p) (j:=q) h0 (by rw[l8];exact h1);rw[beq_iff_eq]at e;rw[e];show(⟨_⟩:Str)=⟨_⟩;simp[tx]
def EK{p:w0g}{q:Int}(h0:0<=q):Txt.slice (tx p) (some q) none=tx (p.drop q.toNat):=by
 by_cases h1:q<=p.length
 . rw[PyProof.Rows.slice_from_eq (x:=tx p) (b:=p.length) h0 (by rw[l8];exact h1)<|by rw[l8]];show(⟨_⟩:Str)=⟨_⟩;have e:((p.drop q.toNat).take ((p.length:Int) - q).toNat)=p.drop q.toNat:=cJ (by rw[aO];omega);simp only[tx,List.toList_toArray,e]
 . rw[PyProof.Rows.slice_beyond (x:=tx p) (by rw[l8];omega),List.drop_of_length_le oM];rfl
theorem LH{sep:Str}{k:Nat}:∀{ls:w0h} {a:Nat},(∀p∈ls,p.length<=k)->ls.foldl (λx y=>x+y.length+sep.length) a<=a+ls.length * (k+sep.length)
 | [],a,_=>by simp
 | p::ls,a,h=>by
  have h1:=h p (by simp);have h2:=LH (sep:=sep) (k:=k) (ls:=ls) (a:=a+p.length+sep.length)<|λx hx=>h x<|aq _ hx;rw[List.foldl_cons,bg,cy];omega
def SU{sep:w0g}{sz:Str}(hz:sz=tx sep){a:Addr}{ls:List w0g}{k:Nat}{H:Z}{Q:VK}(hk:∀p∈ls,p.length<=k)(hl:ls.length * (k+sep.length)<=16777216)(hq:y8 K H a (ls.map vT))(q:Q (vT<|jn sep ls) H) :
    Ri K (.str sz) [.ref a] H Q:=by
 subst hz;show⟨tx sep,a,ls.map tx,Y,Y,by rw[List.map_map];exact hq,?_,by rw[Qu];exact q⟩;unfold PySem.JoinOk Builtin.Str.tooLong;have:=LH (sep:=tx sep) (k:=k) (ls:=ls.map tx) (a:=0) (λp hp=>by
  obtain⟨x,hx,rfl⟩:=bE.mp hp;rw[l8];exact hk x hx)
 have iD:ls.length * (k+(tx sep).length)<=16777216:=by rw[l8];exact hl
 rw[ai]at this;have z:sizeLine=16777216:=by decide
 rw[List.foldl_toArray];simp only[Bool.not_eq_true',decide_eq_false_iff_not];omega
def in_l(l:w0g)(c:Nat):(!(Builtin.Str.occurrences (tx l) (tx [c]) 0 (tx l).length 1).isEmpty)=decide (c∈l):=by
 have:=PySem.StrLaws.found_one (tx l) c;have e:(tx l).cps.toList=l:=by simp[tx]
 rw[e]at this;exact this
def Qw{sep p:w0g}{ls:List w0g}(h:ls≠[]):jn sep (p::ls)=p++sep++jn sep ls:=by
 cases ls with
 | nil=>exact absurd rfl h
 | cons q ls=>simp[jn]
def TJ:(Str.ofString "")=tx []:=BA
def CU{b:Bool}{A B:Prop}(h:b=false)(q:B):if b=true then A else B:=by subst h;exact t7 q
def Cj{b:Bool}{A B:Prop}(h:b=true)(q:A):if b=true then A else B:=by subst h;exact B9 q
def azs:w0g:=[97,98,99,100,101,102,103,104,105,106,107,108,109,110,111,112,113,114,115,116,117,118,119,120,121,122]
def c0l:(Str.ofString "abcdefghijklmnopqrstuvwxyz")=tx azs:=by decide +kernel
def Rt{r:Int}(h0:0<=r)(h1:r < 26):∃c,Dh (tx azs).cps.toList r=some c/\97<=c/\c<=122:=by
 obtain⟨i,rfl⟩:∃i:Nat,r=(i:Int):=⟨r.toNat,oM⟩;have hi:i < azs.length:=by show i < 26;omega
 have hc:azs[i]? = some azs[i]:=aJ hi;have all:∀c∈azs,97<=c/\c<=122:=by decide
 show⟨azs[i],?_,all _<|bS hi⟩;have e:(tx azs).cps.toList=azs:=by simp[tx]
 rw[e];exact D9 hc
theorem LC:∀ls:w0g,jn [] (ls.map λc=>[c])=ls
 | []=>rfl
 | [a]=>rfl
 | a::b::ls=>by
  have:=LC (b::ls);rw[aM,Qw (by simp),this];rfl
def sp_lletters:Sp:=λvs H Q _=>∃(a:Addr),∃(m:Int),vs=[.ref a,.int m]/\(Dr H a/\1<=m/\m<=3)/\∀l H',m9 a H H'->Dr H' a->Pg l->(∀c∈l,97<=c/\c<=122)->(l.length:Int)<=m->Q (vT l) H'
def Fn(T:Txt K mg t):m8 Pr w K mg base C8 2 t.h0e t.e0z TM sp_lletters:=by
 show T.f0k.F.okA D3 λ_ _ _ _ H _ _ _ hr h=>?_;obtain⟨a,m,rfl,⟨hD,m1,m3⟩,k⟩:=h;have zl:=sZ;show⟨_,(c7 (sT 2 D3.nd k8)<|c7 (sT 3 D3.nd<|M6 (l6 T) hr.m T.h0o<|C5 (U 0) c4)<|c7 (Ab (i:=4) D3.nd Y (Or.inr Y)<|z6 DO (U 2)<|U 3)<|c7 (K7 aK Y (O8 Y T.z_range<|C6<|M6 (l6 T) hr.m T.h0o<|C5 (U 0)<|U 1) (gN 5 D3.nd)<|c6<|Ab (i:=4) D3.nd Y (Or.inr Y)<|l5 M3 (U 4)<|z6 DO (U 2)<|l5 F6 (l5 z8 (l5 z8 (U 3) c4)<|l5 DD (U 5)<|l5 z8 c4<|M6 (l6 T) hr.m T.h0o<|C5 (U 0) c4) c4)<|c6<|i3<|Jf PySem.F.plainAttrs_str PySem.F.slot_str_join PySem.F.type_str_join Qs k8<|C6<|DC (xs:=["_law_at","_law_sign"]) Y (oC b0o<|c5 P7) (Qd Y T.z_enumerate<|C6<|U 4) (show PG _ _ (c0c K 2 _)from(Te Y<|Jb (gL 6 n9N)<|Jb (gL 7 n9N) Qe)) (c9 HD (U 7) (z5 S4 (U 4) F5<|B2<|U 6)<|by with_unfolding_all rfl)<|U 7),?_⟩;rw[c0l];show O Y ⟨a,26,Y,⟨hD,bD,bD⟩,λr1 H1 s1 d1 a1 b1=>?_⟩;obtain⟨c1,xj,lQ⟩:=Rt a1 b1;show vb Y Y (zb ⟨Y,Y,(by rw[l8];show 26<=_;omega),xj,?_⟩);show vb Y Y ⟨a,m,Y,⟨d1,oM,oM⟩,λr2 H2 s2 d2 a2 b2=>?_⟩;have ht:r2.toNat<=2:=by omega
 have t1:(⟨#[c1]⟩:Str)=tx [c1]:=rfl;show O Y ⟨oM,oM,E7 (lo:=0) (n:=r2.toNat) (λi σ G=>∃(l:w0g) (v5:Option V),σ=[sr a,some<|.int m,some<|.str<|tx azs,some<|.int r1,some<|vT l,v5]/\m9 a H G/\Dr G a/\l.length=1+i/\∀c∈l,97<=c/\c<=122) ⟨[c1],O Y ⟨s1.trans s2,d2,Y,λc hc=>by rw[af.mp hc];exact lQ⟩⟩ ?_ ?_⟩
 . rintro i σ G hi ⟨l,v5,rfl,sG,dG,ll,hl⟩;show vc Y Y Y<|za ⟨Y,Y,vb Y Y ⟨a,11,Y,⟨dG,bD,bD⟩,λr3 G3 s3 d3 a3 b3=>?_⟩⟩;have m0:0<=(r1+1+(0+(i:Int)) * (1+r3)).fmod 26:=bH _ bD;have m1:(r1+1+(0+(i:Int)) * (1+r3)).fmod 26 < 26:=bN _ bD;obtain⟨c3,xh,wu⟩:=Rt m0 m1;show za ⟨Y,Y,za ⟨Y,Y,.inl ⟨oM,oM⟩,za ⟨Y,Y,za ⟨Y,Y,(by show(26:Int)≠0;decide),zb ⟨Y,Y,(by rw[l8];show 26<=_;omega),xh,za ⟨Y,Y,(by rw[l8];show _+1<=_;omega),?_⟩⟩⟩⟩⟩⟩;have ea:tx l++(⟨#[c3]⟩:Str)=tx (l++[c3]):=Do l [c3];rw[ea];show⟨l++[c3],some<|.int<|0+(i:Int),Y,sG.trans s3,d3,by rw[ao,ll];show _+1=_;omega,λc hc=>?_⟩
   . rcases aw.mp hc with hc | hc
     . exact hl c hc
     . rw[af.mp hc];exact wu
 . rintro σ G ⟨l,v5,rfl,sG,dG,ll,hl⟩;show⟨Y,O Y ⟨.str<|tx l,za ⟨Y,Y,Y,AZ (n:=l.length) (λj ys G2=>m9 a G G2/\Dr G2 a/\∃ls:w0g,ys=(ls.map λc=>[c]).map vT/\ls.length<=j/\(0 < j->ls≠[])/\ls.Nodup/\∀c,c∈ls↔c∈l.take j) oM ⟨m9.refl _ _,dG,[],Y,ae _,(λz=>absurd z bD),.nil,λc=>by simp⟩ (λj ys G2 ⟨_,_,ls,e,hj,_⟩=>by rw[e,ai,ai];exact hj) ?_ ?_ ?_⟩⟩⟩
   . rintro j ys G2 hj ⟨jQ,kT,ls,rfl,lj,l0,nd,lm⟩;have ec:l[j]? = some l[j]:=aJ hj;have es:(L2.Bu<|tx l)[j]? = some (vT [l[j]]):=by simp only[L2.Bu,tx,aN];rw[ec];rfl
     show⟨za ⟨Y,es⟩,λx G3 hy=>?_⟩;obtain⟨p,x2,rfl,np,rfl,hx⟩:=hy;have:=hx _ rfl;rw[es]at this;cases this;have e3:=j6 (o:=.tup [V.int j,vT [l[j]]]) np;show⟨p,O Y ⟨y4.of c8,Y,za ⟨Y,za ⟨Y,Y,⟨[some _,some _],Y,Y⟩,?_⟩⟩⟩⟩;show vc Y Y Y ?_;show vb Y Y ⟨(by rw[l8];omega),za ⟨Y,Y,O Y ?_⟩⟩;dsimp only;rw[Lv (p:=l) (q:=(j:Int)) oM oM,show((j:Int)).toNat=j by omega,in_l];by_cases h:l[j]∈l.take j;rotate_left
     . show Cj (by rw[decide_eq_false h];rfl) ?_;show O Y ⟨jQ.trans<|.of e3,kT.same e3,ls++[l[j]],by simp,by rw[ao];show _+1<=_;omega,λ_=>by simp,?_,λc=>?_⟩
       . rw[List.nodup_append];exact⟨nd,by simp,λx hx y hy z=>h<|(lm _).mp<|by rw[<- af.mp hy,<- z];exact hx⟩
       . rw[D0 ec,aw,aw,lm]
     . show CU (by rw[decide_eq_true h];rfl) ?_;show⟨jQ.trans<|.of e3,kT.same e3,ls,Y,oM,λ_=>?_,nd,λc=>?_⟩;rotate_left
       . rw[D0 ec,aw,lm,af];exact⟨.inl,λz=>z.elim id λz=>by rw[z];exact h⟩
       show l0<|Nat.pos_of_ne_zero λz=>?_;subst z;exact nomatch h
   . rintro ys G2 ⟨jQ,kT,ls,rfl,lj,l0,nd,lm⟩;exact Exists.intro _ (And.intro rfl<|by simp[L2.Bu,tx])
   . rintro ys G2 p ⟨jQ,kT,ls,rfl,lj,l0,nd,lm⟩ np;have e2:=j6 (o:=.lst<|(ls.map λc=>[c]).map vT) np;show SU (sep:=[]) (k:=1) TJ ?_ ?_ (y8.of c8) ?_
     . intro x hx;obtain⟨c,_,rfl⟩:=bE.mp hx;exact ae _
     . rw[ai];show ls.length * (1+0)<=_;omega
     . rw[LC];have l1:1<=ls.length:=cM.mpr<|l0 oM;exact k _ _ (sG.trans<|jQ.trans<|.of e2) (kT.same e2) ⟨l1,oM,nd,λc hc=>by have:=hl c<|cZ<|(lm c).mp hc;omega⟩ (λc hc=>hl c<|cZ<|(lm c).mp hc) oM
theorem HP{S:SR}{c:Nat}{x:S.W}{k:Nat}:∀{d:Nat},S.lv k c x->S.lv (k+d) c x
 | 0,h=>h
 | d+1,h=>S.lv_up _ _ _ (HP h)
theorem NP{S:SR}{f:Hp S}{k:Nat}:∀{n:Nat},(∀i,i < n->S.lv k 1 (f i))->S.lv k n (sm S f n)
 | 0,_=>S.lv_zero k
 | n+1,h=>S.lv_add _ _ _ _ _ (NP λi hi=>h i<|cY hi) (h n<|bJ n)
def cv(S:SR)(f g:w0g->S.W)(ws:w0g):S.W:=sm S (λq=>S.mul (f<|ws.take q)<|g<|ws.drop q) (ws.length+1)
def Md{S:SR}(x:S.W):S.mul S.zero x=S.zero:=by rw[S.mul_comm,S.mul_zero]
inductive Sy(W:Type)where
 | nil
 | word (x:w0g)
 | times (c:W) (a:Sy W)
 | one (f:Bool) (a:Sy W)
 | two (f:Nat) (a b:Sy W)
section
variable{S:SR}{l:w0g}
def RN(S:SR)(D:w0g->S.W):Nat->List Nat->S.W
 | 0,_=>S.one
 | n+1,u=>if u=[]then S.one else sm S (λi=>S.mul (D<|u.take<|i+1)<|RN S D n<|u.drop<|i+1) u.length
abbrev K9(S:SR)(D:w0g->S.W)(u:w0g):S.W:=RN S D u.length u
def EI{D:w0g->S.W}:∀n,RN S D n []=S.one
 | 0=>rfl
 | n+1=>if_pos rfl
theorem Kf{D:w0g->S.W}:∀n m u,u.length<=n->u.length<=m->RN S D n u=RN S D m u
 | 0,m,u,h,_=>by rw[bu.mp<|Nat.le_zero.mp h,EI,EI]
 | n+1,0,u,_,h=>by rw[bu.mp<|Nat.le_zero.mp h,EI,EI]
 | n+1,m+1,u,h,h'=>by
  show(if u=[]then S.one else _)=(if u=[]then S.one else _);by_cases e:u=[]
  . rw[if_pos e,if_pos e]
  . rw[if_neg e,if_neg e];exact AA λi hi=>by rw[Kf n m _ (by rw[aO];omega)<|by rw[aO];omega]
def IK{D:w0g->S.W}{u:w0g}(e:u≠[]):K9 S D u=sm S (λi=>S.mul (D<|u.take<|i+1)<|K9 S D<|u.drop<|i+1) u.length:=by have hl:=cM.mpr e;have h:K9 S D u=RN S D (u.length+1) u:=Kf _ _ u (ae _)<|bz _;rw[h];show(if u=[]then S.one else _)=_;rw[if_neg e];exact AA λi hi=>by rw[Kf u.length (u.drop<|i+1).length _ (by rw[aO];omega)<|ae _]
def wS(S:SR):Sy S.W->List Nat->S.W
 | .nil,_=>S.zero
 | .word x,u=>if u=x then S.one else S.zero
 | .times c a,u=>S.mul c (wS S a u)
 | .one f a,u=>if f=true then K9 S (wS S a) u else wS S a u.reverse
 | .two f a b,u=>if f=0 then S.add (wS S a u) (wS S b u)else if f=1 then cv S (wS S a) (wS S b) u else S.mul (wS S a u) (wS S b u)
def oS(S:SR):Sy S.W->Prop
 | .nil=>False
 | .word _=>False
 | .times _ a=>oS S a
 | .one f a=>oS S a\/(f=true/\wS S a []≠S.zero)
 | .two _ a b=>oS S a\/oS S b
def Cn(S:SR)(l:w0g):Sy S.W->Prop
 | .nil=>True
 | .word x=>x.length<=3/\∀c∈x,c∈l
 | .times c a=>S.lv 1 32 c/\Cn S l a
 | .one _ a=>Cn S l a
 | .two f a b=>f < 3/\Cn S l a/\Cn S l b
end
def vS{W:Type}:Sy W->Nat
 | .nil=>1
 | .word _=>1
 | .times _ a=>vS a+1
 | .one f a=>if f=true then 11 * vS a else vS a
 | .two f a b=>if f=0 then max (vS a) (vS b)+1 else vS a+vS b
def M7{W:Type}:Sy W->Nat
 | .nil=>1
 | .word _=>1
 | .times _ a=>M7 a+1
 | .one _ a=>M7 a+1
 | .two _ a b=>max (M7 a) (M7 b)+1
theorem Dl{W:Type}:∀s:Sy W,1<=vS s
 | .nil=>ae _
 | .word _=>ae _
 | .times _ a=>by show 1<=vS a+1;omega
 | .one f a=>by have:=Dl a;unfold vS;split <;>omega
 | .two f a b=>by have:=Dl a;have:=Dl b;unfold vS;split <;>omega
section
variable{S:SR}{l:w0g}
def GP{j k c:Nat}{x:S.W}(h:S.lv j c x)(hc:c<=32)(e:j<=k):S.lv k 32 x:=by obtain⟨d,rfl⟩:∃d,k=j+d:=⟨k - j,oM⟩;exact S.lv_mono _ _ _ _ hc (HP h)
def LB{j:Nat}{x:S.W}(h:S.lv j 32 x):S.lv (j+1) 1 x:=by have:=S.lv_mul _ _ _ _ h<|S.lv_mono _ _ 32 _ bD S.lv_one;rwa [S.mul_one]at this
theorem Lr{D:w0g->S.W}{v m:Nat}(v1:1<=v)(hD:∀u,u.length<=m->S.lv v 32 (D u))(hm:m<=30):∀(n:Nat) (u:w0g),u.length<=n->u.length<=m->S.lv ((u.length+1) * v) 32 (RN S D n u)
 | 0,u,_,_=>GP S.lv_one bD (aj v1<|dg _<|Nat.succ_pos _)
 | n+1,u,h,h'=>by
  show S.lv _ 32 (if u=[]then S.one else _);split
  . exact GP S.lv_one bD (aj v1<|dg _<|Nat.succ_pos _)
  . show S.lv_mono _ _ _ _ oM<|NP (n:=u.length) λi hi=>?_;have hd:(u.drop<|i+1).length=u.length - (i+1):=aO;have ht:(u.take<|i+1).length<=m:=by rw[aZ];omega
    have z:=S.lv_mul _ _ _ _ (hD _ ht)<|Lr v1 hD hm n (u.drop<|i+1) oM oM;have le:v+((u.drop<|i+1).length+1) * v<=(u.length+1) * v:=by rw[hd,cF,<- cy];exact br _ oM
    obtain⟨d,e⟩:∃d,(u.length+1) * v=v+((u.drop<|i+1).length+1) * v+d:=⟨_,(Nat.add_sub_cancel' le).symm⟩;rw[e];exact HP z
theorem M8:∀(s:Sy S.W),Cn S l s->∀u:w0g,u.length<=10->S.lv (vS s) 32 (wS S s u)
 | .nil,_,_,_=>S.lv_mono _ _ _ _ bD (S.lv_zero 1)
 | .word x,_,u,_=>by
  show S.lv 1 32 (if u=x then S.one else S.zero);split
  . exact S.lv_mono _ _ _ _ bD S.lv_one
  . exact S.lv_mono _ _ _ _ bD (S.lv_zero 1)
 | .times c a,o,u,hu=>by
  have:=S.lv_mul _ _ _ _ (M8 a o.2 u hu) o.1;rw[S.mul_comm]at this;exact S.lv_mono _ _ _ _ bD this
 | .one f a,o,u,hu=>by
  cases f with
  | false=>exact M8 a o u.reverse (by rw[List.length_reverse];exact hu)
  | true=>
   have:=Lr (m:=10) (Dl a) (λv hv=>M8 a o v hv) bD u.length u (ae _) hu;exact GP this (ae _) (br _ oM)
 | .two f a b,o,u,hu=>by
  have f3:=o.1;rcases(by omega:f=0\/f=1\/f=2)with rfl | rfl | rfl
  . have x:=LB<|GP (M8 a o.2.1 u hu) (ae _)<|Nat.le_max_left (vS a)<|vS b;have y:=LB<|GP (M8 b o.2.2 u hu) (ae _)<|Nat.le_max_right (vS a)<|vS b;exact S.lv_mono _ _ _ _ bD (S.lv_add _ _ _ _ _ x y)
  . exact S.lv_mono _ _ _ _ oM (NP (n:=u.length+1) λq _=>S.lv_mul _ _ _ _ (M8 a o.2.1 (u.take q)<|by rw[aZ];omega)<|M8 b o.2.2 (u.drop q)<|by rw[aO];omega)
  . exact S.lv_mono _ _ _ _ bD (S.lv_mul _ _ _ _ (M8 a o.2.1 u hu)<|M8 b o.2.2 u hu)
end
def nN:w0g:=[110,105,108]
def nW:w0g:=[119,111,114,100]
def nT:w0g:=[116,105,109,101,115]
def n1(f:Bool):w0g:=if f=true then [115,116,97,114]else [98,97,99,107]
def n2:Nat->List Nat
 | 0=>[115,117,109]
 | 1=>[116,104,101,110]
 | _=>[98,111,116,104]
def Q2:Str.ofString "nil"=tx nN:=by decide +kernel
def E4:Str.ofString "word"=tx nW:=by decide +kernel
def U9:Str.ofString "times"=tx nT:=by decide +kernel
def Ao:Str.ofString "star"=tx (n1 true):=by decide +kernel
def Dg:Str.ofString "back"=tx (n1 false):=by decide +kernel
def Bt:Str.ofString "sum"=tx (n2 0):=by decide +kernel
def ER:Str.ofString "then"=tx (n2 1):=by decide +kernel
def JJ:Str.ofString "both"=tx (n2 2):=by decide +kernel
def Ft(f:Nat):n2 f=n2 0\/n2 f=n2 1\/n2 f=n2 2:=by
 match f with
 | 0=>exact .inl rfl
 | 1=>exact .inr (.inl Y)
 | (n+2)=>exact .inr (.inr Y)
section
variable{W:Type}
def Ag:Sy W->List Nat
 | .nil=>nN
 | .word _=>nW
 | .times _ _=>nT
 | .one f _=>n1 f
 | .two f _ _=>n2 f
def exN:Sy W->Nat
 | .word _=>1
 | .times _ _=>1
 | _=>0
def Aa:Sy W->List (Sy W)
 | .times _ a=>[a]
 | .one _ a=>[a]
 | .two _ a b=>[a,b]
 | _=>[]
def FJ(s:Sy W):1<=M7 s:=by cases s <;>simp[M7]
def Jz{s a:Sy W}(h:a∈Aa s):M7 a+1<=M7 s:=by
 cases s <;>simp[Aa]at h
 . subst h;exact ae _
 . subst h;exact ae _
 . rcases h with rfl | rfl
   . show _<=max _ _+1;omega
   . show _<=max _ _+1;omega
def EN{s a:Sy W}(h:a∈Aa s):vS a<=vS s:=by
 cases s with
 | nil=>cases h
 | word x=>cases h
 | times c x=>
  cases af.mp h;exact bz _
 | one f x=>
  cases af.mp h;show vS a<=if f=true then 11 * vS a else vS a
  split <;>omega
 | two f x y=>
  have e:a=x\/a=y:=by simpa [Aa] using h
  show vS a<=if f=0 then max (vS x) (vS y)+1 else vS x+vS y
  rcases e with rfl | rfl <;>(split <;>omega)
end
def LA{S:SR}{l:w0g}{s a:Sy S.W}(o:Cn S l s)(h:a∈Aa s):Cn S l a:=by
 cases s <;>simp[Aa]at h
 . subst h;exact o.2
 . subst h;exact o
 . rcases h with rfl | rfl
   . exact o.2.1
   . exact o.2.2
def SV(R:o7 Pr w K mg base):Sy R.S.W->V->Z->Prop
 | .nil,v,H=>∃p,v=.ref p/\H p=some (.tup [vT nN])
 | .word x,v,H=>∃p,v=.ref p/\H p=some (.tup [vT nW,vT x])
 | .times d a,v,H=>∃p u y,v=.ref p/\H p=some (.tup [vT nT,u,y])/\R.is H u d/\SV R a y H
 | .one f a,v,H=>∃p y,v=.ref p/\H p=some (.tup [vT<|n1 f,y])/\SV R a y H
 | .two f a b,v,H=>∃p y z,v=.ref p/\H p=some (.tup [vT<|n2 f,y,z])/\SV R a y H/\SV R b z H
section
variable{R:o7 Pr w K mg base}
theorem SV.same{H H':Z}(e:Q4 H H'):∀{s:Sy R.S.W} {v:V},SV R s v H->SV R s v H'
 | .nil,_,⟨p,rfl,h⟩=>⟨p,Y,e _ _ h⟩
 | .word _,_,⟨p,rfl,h⟩=>⟨p,Y,e _ _ h⟩
 | .times _ _,_,⟨p,u,y,rfl,h,h1,h2⟩=>⟨p,u,y,Y,e _ _ h,R.same e h1,SV.same e h2⟩
 | .one _ _,_,⟨p,y,rfl,h,h2⟩=>⟨p,y,Y,e _ _ h,SV.same e h2⟩
 | .two _ _ _,_,⟨p,y,z,rfl,h,h1,h2⟩=>⟨p,y,z,Y,e _ _ h,SV.same e h1,SV.same e h2⟩
def SV.look:∀{s:Sy R.S.W} {v:V} {H:Z},SV R s v H->∃p es vs,v=.ref p/\H p=some (.tup<|(vT (Ag s)::es)++vs)/\es.length=exN s/\vs.length=(Aa s).length/\∀(i:Nat) u,vs[i]? = some u->∃a,(Aa s)[i]? = some a/\SV R a u H
 | .nil,_,_,⟨p,rfl,h⟩=>⟨p,[],[],Y,h,Y,Y,λi u e=>by simp at e⟩
 | .word _,_,_,⟨p,rfl,h⟩=>⟨p,[_],[],Y,h,Y,Y,λi u e=>by simp at e⟩
 | .times _ a,_,_,⟨p,u,y,rfl,h,h1,h2⟩=>⟨p,[u],[y],Y,h,Y,Y,λi z e=>by
  cases i with
  | zero=>cases e;exact⟨a,Y,h2⟩
  | succ i=>simp at e⟩
 | .one _ a,_,_,⟨p,y,rfl,h,h2⟩=>⟨p,[],[y],Y,h,Y,Y,λi z e=>by
  cases i with
  | zero=>cases e;exact⟨a,Y,h2⟩
  | succ i=>simp at e⟩
 | .two _ a b,_,_,⟨p,y,z,rfl,h,h1,h2⟩=>⟨p,[],[y,z],Y,h,Y,Y,λi u e=>by
  match i,e with
  | 0,e=>cases e;exact⟨a,Y,h1⟩
  | 1,e=>cases e;exact⟨b,Y,h2⟩
  | (i+2),e=>simp at e⟩
end
def DP{W:Type}(s:Sy W):exN s<=1/\(Aa s).length<=2:=by cases s <;>simp[exN,Aa]
def Dn{a b:w0g}(h:tx a=tx b):a=b:=by have:=congrArg (λz:Str=>z.cps.toList) h;simpa [tx] using this
def Ry:List (Str × Int):=[(Str.ofString "nil",0),(Str.ofString "word",0),(Str.ofString "times",1),(Str.ofString "sum",2),(Str.ofString "then",2),(Str.ofString "both",2),(Str.ofString "back",1),(Str.ofString "star",1)]
def Vc{W:Type}(s:Sy W):y7 (Qt Ry) (.inr<|tx<|Ag s)=some (.int ((Aa s).length:Nat)):=by
 cases s with
 | nil=>show y7 (Qt Ry) (.inr<|tx nN)=some (.int (0:Nat));decide +kernel
 | word x=>show y7 (Qt Ry) (.inr<|tx nW)=some (.int (0:Nat));decide +kernel
 | times d a=>show y7 (Qt Ry) (.inr<|tx nT)=some (.int (1:Nat));decide +kernel
 | one f a=>cases f <;>(show y7 (Qt Ry) (.inr<|tx<|n1 _)=some (.int (1:Nat));decide +kernel)
 | two f a b=>
  show y7 (Qt Ry) (.inr<|tx<|n2 f)=some (.int (2:Nat));rcases Ft f with e | e | e <;>rw[e] <;>decide +kernel
structure WK(w:World)(K:aa)(mg:w0f)(a:Addr):Prop where
 m:mg (Str.ofString "WITHIN")=some (.ref a)
 d:Pi Pr w K a Ry
def Dd{xs:List V}{k:Nat}(h:k<=xs.length):Ai xs (some (k:Int)) none=xs.drop k:=by unfold Ai;rw[HT.IT,HT.Lz,Nat.min_eq_left h];exact cJ (by rw[aO];exact ae _)
def Mn(w:World)(K:aa)(mg:w0f)(base:Heap):Sp:=λvs H Q _=>∃(R:o7 Pr w K mg base),∃s v,vs=[v]/\SV R s v H/\∀q us H',o6 H H'->H' q=some (.tup us)->us.length=(Aa s).length->(∀(i:Nat) u,us[i]? = some u->∃a,(Aa s)[i]? = some a/\SV R a u H')->Q (.ref q) H'
def CJ(T:Txt K mg t)(hW:WK w K mg aW):m8 Pr w K mg base C8 1 t.e0t t.d0r [FW] (Mn w K mg base):=by
 show T.d0t.F.okA Cs λ_ _ _ s H _ _ _ hr h=>?_;obtain⟨R,s,v,rfl,hv,k⟩:=h;obtain⟨p,es,us,rfl,hp,le,lu,hu⟩:=hv.look;obtain⟨x1,x2⟩:=DP s;show⟨_,(c6<|i3<|z5 EJ (U 0) (B2<|l5 W3 (l4 w6 bR T.z_len PySem.boot_len<|C6<|U 0)<|WE hW.d (Hz (v:=.ref aW) Y hW.m Y) (z6 l7 (U 0) c4)<|λ_ _=>rfl) F5),?_⟩;have ln:Am K (.ref p) H (1+es.length+us.length):=.inr ⟨_,y4.of hp,by simp;omega⟩;show vb Y Y<|za ⟨Y,ln,?_⟩;have e0:Dh ((vT (Ag s)::es)++us) 0=some (vT<|Ag s):=D9 (show((vT (Ag s)::es)++us)[0]? = some (vT<|Ag s)from rfl);show O Y<|zc ⟨Y,Y,y4.of hp,e0,za ⟨Y,Y,Vc s,za ⟨Y,Y,O Y ?_⟩⟩⟩;have ei:((1+es.length+us.length:Nat):Int) - ((Aa s).length:Nat)=((1+es.length:Nat):Int):=by omega
 dsimp only;rw[ei];show⟨p,O Y ⟨y4.of hp,hp,λq H' s' hq=>k q us _ s' ?_ lu λi u e=>let⟨a,e1,e2⟩:=hu i u e;⟨a,e1,e2.same s'.t⟩⟩⟩;rw[hq,Dd<|by simp;omega];rw[List.drop_append_of_le_length (by simp;omega),List.drop_eq_nil_of_le (by simp;omega),List.nil_append]
def fN{x y:w0g}{z:Str}{A B:Prop}(hz:z=tx y)(ne:x≠y)(q:B):if decide (V.str (tx x)=V.str z)=true then A else B:=CU (decide_eq_false λe=>ne<|Dn<|(V.str.inj e).trans hz) q
def fY{x:w0g}{z:Str}{A B:Prop}(hz:z=tx x)(q:A):if decide (V.str (tx x)=V.str z)=true then A else B:=Cj (decide_eq_true<|congrArg V.str hz.symm) q
def Vb{r:Int}(h0:0<=r)(h1:r < 9):(r - 4).natAbs<=2 ^ 90:=aj (show(r - 4).natAbs<=8 by omega) bD
def Kg(T:Txt K mg t):Sp:=λvs H Q _=>∃(R:o7 Pr w K mg base),∃nm p,∃(a:Addr),∃so,So T R nm p/\vs=[.ref a,so]/\(Dr H a/\F4 H so nm p)/\∀v H' x,m9 a H H'->Dr H' a->R.is H' v x->R.S.lv 1 32 x->Q v H'
def Gh(T:Txt K mg t):m8 Pr w K mg base C8 37 t.i0m t.f0s Qr (Kg (w:=w) (base:=base) T):=by
 show T.g0a.F.okA Ga λ_ _ _ _ _ _ _ _ hr h=>?_;obtain⟨R,nm,p,a,so,hS,rfl,⟨hD,eF⟩,k⟩:=h;show⟨_,(c7 (o3 (c9 w8 (M6 (l6 T) hr.m T.h0o<|C5 (U 0) c4) c4<|j7 _) (c6<|i3<|M6 (C7 T) hr.m T.f0y<|C6<|U 1) k6)<|c7 (o3 (c9 w8 (z6 l7 (U 1) c4) k8<|j7 _) (c6<|i3<|M6 (Ca T) hr.m T.j0d<|C5 (l5 W3 (M6 (l6 T) hr.m T.h0o<|C5 (U 0) c4) c4)<|l5 z8 c4<|M6 (l6 T) hr.m T.h0o<|C5 (U 0) c4) k6)<|c7 (o3 (c9 w8 (z6 l7 (U 1) c4) k8<|j7 _) (c6<|i3<|M6 (l6 T) hr.m T.h0o<|C5 (U 0)<|z6 l7 (U 1) c4) k6)<|c7 (o3 (c9 w8 (z6 l7 (U 1) c4) k8<|j7 _) (c6<|i3<|l5 W3 (M6 (l6 T) hr.m T.h0o<|C5 (U 0) c4) c4) k6)<|c6<|i3<|O0 CG (M6 (l6 T) hr.m T.h0o<|C5 (U 0) c4) c4<|j7 _),?_⟩;show O Y ⟨a,6,Y,⟨hD,bD,bD⟩,λr1 H1 s1 d1 a1 b1=>⟨Y,O Y ?_⟩⟩;have u1:=s1.tt hD;have gE:=eF.same u1;show FH (λ_=>?_) (λ_=>?_)
 . exact O Y ⟨R,zf nm p so ⟨hS,Y,gE,λv H2 s2 f2=>k v H2 _ (s1.trans<|.of s2) (d1.same s2) f2<|R.S.lv_mono _ 0 _ _ bD<|R.S.lv_zero 1⟩⟩
 . obtain⟨q,rfl,hq⟩:=gE;show O Y<|zc ⟨Y,Y,y4.of hq,Y,Y,O Y ?_⟩;cases hS with
   | fr=>
    rw[show decide (V.str ("fractions":Str)=V.str ("fractions":Str))=true by decide +kernel];show B9 ?_;show O Y ⟨a,9,Y,⟨d1,bD,bD⟩,λr2 H2 s2 d2 a2 b2=>?_⟩;show za ⟨Y,Y,O Y ⟨a,3,Y,⟨d2,bD,bD⟩,λr3 H3 s3 d3 a3 b3=>?_⟩⟩;show za ⟨Y,Y,za ⟨Y,(show(0:Int) < 1+r3 by omega),λv H4 s4 f4=>?_⟩⟩;exact k v H4 (Fr.of _ _<|show(0:Int) < 1+r3 by omega) (((s1.trans s2).trans s3).trans<|.of s4) (d3.same s4) f4 (Fr.lv_drawn _ oM<|Vb a2 b2)
   | re p hp gk hi=>
    rw[show decide (V.str ("residues":Str)=V.str ("fractions":Str))=false by decide +kernel];show t7 ?_;show O Y<|zc ⟨Y,Y,y4.of hq,Y,Y,O Y ?_⟩;rw[show decide (V.str ("residues":Str)=V.str ("residues":Str))=true by decide +kernel];show B9 ?_;show vb Y Y<|zc ⟨Y,Y,y4.of hq,Y,a,p,Y,⟨d1,oM,oM⟩,λr2 H2 s2 d2 a2 b2=>?_⟩;exact k _ _ ⟨r2,a2,b2⟩ (s1.trans s2) d2 rfl trivial
   | co=>
    rw[show decide (V.str ("costs":Str)=V.str ("fractions":Str))=false by decide +kernel];show t7 ?_;show O Y<|zc ⟨Y,Y,y4.of hq,Y,Y,O Y ?_⟩;rw[show decide (V.str ("costs":Str)=V.str ("residues":Str))=false by decide +kernel];show t7 ?_;show O Y<|zc ⟨Y,Y,y4.of hq,Y,Y,O Y ?_⟩;rw[show decide (V.str ("costs":Str)=V.str ("costs":Str))=true by decide +kernel];show B9 ?_;show O Y ⟨a,9,Y,⟨d1,bD,bD⟩,λr2 H2 s2 d2 a2 b2=>za ⟨Y,Y,?_⟩⟩;exact k _ _ (some<|r2 - 2) (s1.trans s2) d2 rfl trivial
   | tr=>
    rw[show decide (V.str ("truths":Str)=V.str ("fractions":Str))=false by decide +kernel];show t7 ?_;show O Y<|zc ⟨Y,Y,y4.of hq,Y,Y,O Y ?_⟩;rw[show decide (V.str ("truths":Str)=V.str ("residues":Str))=false by decide +kernel];show t7 ?_;show O Y<|zc ⟨Y,Y,y4.of hq,Y,Y,O Y ?_⟩;rw[show decide (V.str ("truths":Str)=V.str ("costs":Str))=false by decide +kernel];show t7 ?_;show O Y ⟨a,4,Y,⟨d1,bD,bD⟩,λr2 H2 s2 d2 a2 b2=>za ⟨Y,Y,?_⟩⟩;exact k _ _ (decide<|(0:Int) < r2) (s1.trans s2) d2 rfl trivial
def kW(u:w0g):E5:=.inr (tx u)
def OH{u v:w0g}(h:kW u=kW v):u=v:=Dn (Sum.inr.inj h)
def Cv{H:Z}{a:Addr}{bY:List (E5 × V)}{o:HO}(h:H a=some (.dK bY)):Q4 H (upd H a o):=λp vs e=>by
 rw[k9<|λz=>by rw[z,h]at e;cases e];exact e
def DA(R:o7 Pr w K mg base)(D:w0g->R.S.W)(us:List w0g)(bY:List (E5 × V))(G:Z):Prop:=∀u∈us,∃v,y7 bY (kW u)=some v/\R.is G v (D u)
section
variable{R:o7 Pr w K mg base}{D:w0g->R.S.W}{us:List w0g}{bY:List (E5 × V)}{G:Z}
theorem DA.same{G':Z}(s:Q4 G G')(h:DA R D us bY G):DA R D us bY G':=λu hu=>let⟨v,a,b⟩:=h u hu;⟨v,a,R.same s b⟩
def DA.put{u:w0g}{v:V}{i:Nat}(h:DA R D (us.take i) bY G)(e:us[i]? = some u)(hv:R.is G v (D u)):DA R D (us.take<|i+1) (K2 bY (kW u) v) G:=λx hx=>by
 rw[Ay];by_cases z:x=u
 . rw[if_pos (by rw[z]),z];exact⟨v,Y,hv⟩
 . rw[if_neg λe=>z<|OH e];rw[D0 e]at hx;rcases aw.mp hx with hx | hx
   . exact h x hx
   . exact absurd (af.mp hx) z
end
def NJ(T:Txt K mg t):Sp:=λvs H Q _=>∃(R:o7 Pr w K mg base),∃nm p so,∃(d d':Addr),∃bY dB D E us u,∃(a b:Nat),So T R nm p/\vs=[so,.ref d,.ref d',vT u]/\(F4 H so nm p/\H d=some (.dK bY)/\H d'=some (.dK dB)/\DA R D us bY H/\DA R E us dB H/\(∀q,u.take q∈us/\u.drop q∈us)/\u.length<=10/\(∀v∈us,R.S.lv a 32 (D v)/\R.S.lv b 32 (E v))/\a+b<=100000)/\
 ∀v H',o6 H H'->R.is H' v (cv R.S D E u)->Q v H'
def Jl(T:Txt K mg t):m8 Pr w K mg base C8 38 t.j0z t.i0e Ua (NJ (w:=w) (base:=base) T):=by
 show T.h0k.F.okA U3 λ_ _ _ _ H _ _ _ hr h=>?_;obtain⟨R,nm,p,so,d,d',bY,dB,D,F,us,u,a,b,hS,rfl,⟨eF,hd,eU,hD,hF,hu,u4,hl,wC⟩,k⟩:=h;have sl:=sZ;show⟨_,(c7 (sT 4 U3.nd<|M6 (C7 T) hr.m T.f0y<|C6<|U 0)<|c7 (K7 aK Y (O8 Y T.z_range<|C6<|l5 z8 (l4 w6 bR T.z_len PySem.boot_len<|C6<|U 3) c4) (gN 5 U3.nd)<|c6<|sT 4 U3.nd<|M6 (AU T) hr.m T.h0m<|Gg (U 0) (U 4)<|M6 (S3 T) hr.m T.g0y<|Gg (U 0) (B4 (B8 hr) (U 1) (z5 S4 (U 3) F5<|B2<|U 5)<|λ_ _=>rfl)<|B4 (B8 hr) (U 2) (z5 S4 (U 3) (B2<|U 5) F5)<|λ_ _=>rfl)<|c6<|i3<|U 4),?_⟩;show O Y ⟨R,zf nm p so ⟨hS,Y,eF,λz H1 s1 f1=>?_⟩⟩;show O Y (za ⟨Y,(show Am K (vT u) H1 u.length from⟨by rw[l8];omega,(l8 u).symm⟩),za ⟨Y,Y,O Y ⟨oM,oM,E7 (lo:=0) (n:=((u.length:Int)+1).toNat) (λi σ G=>∃fm v5,σ=[some so,sr d,some<|.ref d',some<|vT u,some fm,v5]/\o6 H G/\R.is G fm (sm R.S (λq=>R.S.mul (D<|u.take q)<|F<|u.drop q) i)/\R.S.lv (a+b) i (sm R.S (λq=>R.S.mul (D<|u.take q)<|F<|u.drop q) i)) ⟨_,O Y ⟨s1,f1,R.S.lv_zero _⟩⟩ ?_ ?_⟩⟩⟩)
 . rintro i σ G hi ⟨fm,v5,rfl,q,f,z⟩;have hi:i<=u.length:=by omega
   obtain⟨m1,m2⟩:=hu i;obtain⟨x,ex,fx⟩:=hD _ m1;obtain⟨y,ey,fy⟩:=hF _ m2;have g1:=R3.k (k:=kW<|u.take i)<|q _ _ hd;rw[ex]at g1;have g2:=R3.k (k:=kW<|u.drop i)<|q _ _ eU;rw[ey]at g2;show vc Y Y Y (vc Y Y Y<|vb Y Y ⟨(by rw[l8];omega),?_⟩);rw[Lv oM oM,show((0:Int)+(i:Int)).toNat=i by omega];show⟨d,O Y ⟨g1,?_⟩⟩;show vc Y Y Y (vb Y Y ⟨(by rw[l8];omega),?_⟩);rw[EK oM,show((0:Int)+(i:Int)).toNat=i by omega];show⟨d',O Y ⟨g2,?_⟩⟩;have zm:=R.S.lv_mul _ _ _ _ (hl _ m1).1 (hl _ m2).2;show⟨R,zk nm p so x y _ _ (100 * a) (100 * b) ⟨hS,Y,⟨eF.same q.t,R.same q.t fx,R.same q.t fy,R.S.lv_sz _ _ _ bD (hl _ m1).1,R.S.lv_sz _ _ _ bD (hl _ m2).2,oM⟩,λmv H5 s5 f5=>?_⟩⟩;have q5:=q.trans s5;show⟨R,zk nm p so fm mv _ _ (100 * (a+b)) (100 * (a+b)) ⟨hS,Y,⟨eF.same q5.t,R.same s5.t f,f5,R.S.lv_sz _ _ _ oM z,R.S.lv_sz _ _ _ bD zm,oM⟩,λtv H6 s6 f6=>?_⟩⟩;exact za ⟨Y,q5.trans s6,f6,R.S.lv_add _ _ _ _ _ z zm⟩
 . rintro σ G ⟨fm,v5,rfl,q,f,_⟩;rw[show((u.length:Int)+1).toNat=u.length+1 by omega]at f;exact O Y (k _ _ q f)
def NK(T:Txt K mg t):Sp:=λvs H Q _=>∃(R:o7 Pr w K mg base),∃nm p so,∃(d d':Addr),∃bY dB D us ws u,∃(a:Nat),So T R nm p/\vs=[so,.ref d,.ref d',vT u]/\(F4 H so nm p/\H d=some (.dK bY)/\H d'=some (.dK dB)/\DA R D us bY H/\DA R (K9 R.S D) ws dB H/\(∀q,u.take q∈us)/\(u≠[]->∀q,u.drop (q+1)∈ws)/\u.length<=10/\(∀v:w0g,v.length<=10->R.S.lv a 32 (D v))/\1<=a/\11 * a<=100000)/\
 ∀v H',o6 H H'->R.is H' v (K9 R.S D u)->Q v H'
def Jm(T:Txt K mg t):m8 Pr w K mg base C8 38 t.j0u t.i0r TZ (NK (w:=w) (base:=base) T):=by
 show T.h0p.F.okA U4 λ_ _ _ _ H _ _ _ hr h=>?_;obtain⟨R,nm,p,so,d,d',bY,dB,D,us,ws,u,a,hS,rfl,⟨eF,hd,eU,hD,hF,hu,hw,u4,hl,a1,a5⟩,k⟩:=h;have sl:=sZ;show⟨_,(c7 (sT 4 U4.nd<|M6 (C7 T) hr.m T.f0y<|C6<|U 0)<|c7 (o3 (c9 w8 (U 3) k8<|j7 _) (c6<|i3<|M6 (Fm T) hr.m T.j0m<|C6<|U 0) k6)<|c7 (K7 aK Y (Dz Y T.z_range<|C5 c4<|l5 z8 (l4 w6 bR T.z_len PySem.boot_len<|C6<|U 3) c4) (gN 5 U4.nd)<|c6<|sT 4 U4.nd<|M6 (AU T) hr.m T.h0m<|Gg (U 0) (U 4)<|M6 (S3 T) hr.m T.g0y<|Gg (U 0) (B4 (B8 hr) (U 1) (z5 S4 (U 3) F5<|B2<|U 5)<|λ_ _=>rfl)<|B4 (B8 hr) (U 2) (z5 S4 (U 3) (B2<|U 5) F5)<|λ_ _=>rfl)<|c6<|i3<|U 4),?_⟩;show O Y ⟨R,zf nm p so ⟨hS,Y,eF,λz H1 s1 f1=>?_⟩⟩;show O Y ⟨Y,O Y ?_⟩;by_cases e0:u=[]
 . subst e0;show fY (x:=[]) BA ?_;exact O Y ⟨R,zf nm p so ⟨hS,Y,eF.same s1.t,λv H2 s2 f2=>k v H2 (s1.trans s2) f2⟩⟩
 show fN (x:=u) BA e0 ?_;have st:=λv hv h4=>Lr (S:=R.S) (D:=D) (v:=a) (m:=10) a1 (λv h=>hl v h) bD (List.length v) v hv h4;have zp:∀i,i < u.length->R.S.lv (11 * a) 1 (R.S.mul (D<|u.take<|i+1)<|K9 R.S D<|u.drop<|i+1):=λi hi=>by
  have hd:(u.drop<|i+1).length=u.length - (i+1):=aO;have z:=R.S.lv_mul _ _ _ _ (hl (u.take<|i+1)<|by rw[aZ];omega)<|st (u.drop<|i+1) (ae _) oM;have le:a+((u.drop<|i+1).length+1) * a<=11 * a:=by rw[hd,cF,<- cy];exact br _ oM
  obtain⟨q,e⟩:∃q,11 * a=a+((u.drop<|i+1).length+1) * a+q:=⟨_,(Nat.add_sub_cancel' le).symm⟩;rw[e];exact HP z
 show O Y (za ⟨Y,(show Am K (vT u) H1 u.length from⟨by rw[l8];omega,(l8 u).symm⟩),za ⟨Y,Y,za ⟨Y,oM,E7 (lo:=1) (n:=((u.length:Int)+1 - 1).toNat) (λi σ G=>∃fm v5,σ=[some so,sr d,some<|.ref d',some<|vT u,some fm,v5]/\o6 H G/\R.is G fm (sm R.S (λi=>R.S.mul (D<|u.take<|i+1)<|K9 R.S D<|u.drop<|i+1) i)/\R.S.lv (11 * a) i (sm R.S (λi=>R.S.mul (D<|u.take<|i+1)<|K9 R.S D<|u.drop<|i+1) i)) ⟨_,O Y ⟨s1,f1,R.S.lv_zero _⟩⟩ ?_ ?_⟩⟩⟩)
 . rintro i σ G hi ⟨fm,v5,rfl,q,f,z⟩;have hi:i < u.length:=by omega
   obtain⟨x,ex,fx⟩:=hD _<|hu<|i+1;obtain⟨y,ey,fy⟩:=hF _<|hw e0 i;have g1:=R3.k (k:=kW<|u.take<|i+1)<|q _ _ hd;rw[ex]at g1;have g2:=R3.k (k:=kW<|u.drop<|i+1)<|q _ _ eU;rw[ey]at g2;show vc Y Y Y (vc Y Y Y<|vb Y Y ⟨(by rw[l8];omega),?_⟩);rw[Lv oM oM,show((1:Int)+(i:Int)).toNat=i+1 by omega];show⟨d,O Y ⟨g1,?_⟩⟩;show vc Y Y Y (vb Y Y ⟨(by rw[l8];omega),?_⟩);rw[EK oM,show((1:Int)+(i:Int)).toNat=i+1 by omega];show⟨d',O Y ⟨g2,?_⟩⟩;have zx:=hl (u.take<|i+1) (by rw[aZ];omega);have xP:((u.drop<|i+1).length+1) * a<=10 * a:=br _ (by rw[aO];omega);have zy:=st (u.drop<|i+1) (ae _) (by rw[aO];omega);show⟨R,zk nm p so x y _ _ (100 * a) (100 * (((u.drop<|i+1).length+1) * a)) ⟨hS,Y,⟨eF.same q.t,R.same q.t fx,R.same q.t fy,R.S.lv_sz _ _ _ bD zx,R.S.lv_sz _ _ _ bD zy,oM⟩,λmv H5 s5 f5=>?_⟩⟩;have q5:=q.trans s5;show⟨R,zk nm p so fm mv _ _ (100 * (11 * a)) (100 * (11 * a)) ⟨hS,Y,⟨eF.same q5.t,R.same s5.t f,f5,R.S.lv_sz _ _ _ oM z,R.S.lv_sz _ _ _ bD<|zp i hi,oM⟩,λtv H6 s6 f6=>?_⟩⟩;exact za ⟨Y,q5.trans s6,f6,R.S.lv_add _ _ _ _ _ z<|zp i hi⟩
 . rintro σ G ⟨fm,v5,rfl,q,f,_⟩;rw[show((u.length:Int)+1 - 1).toNat=u.length by omega,<- IK e0]at f;exact O Y (k _ _ q f)
def Kr(l:w0g):Ob (tx l)=tx l.reverse:=by simp[tx,Ob]
def JX.up{b:Heap}(h:JX mg base t)(k:∀a o,base.get? a=some o->b.get? a=some o):JX mg b t:=⟨h.star_weight.keeps k,h.star_weigher.keeps k,h.then_weigher.keeps k,h.weigher.keeps k⟩
def Kp(A:List Addr)(H H':Z):Prop:=∀b o,H b=some o->H' b=some o\/(b∈A/\((∃k,o=.dK k)\/∃p,o=.tbl p)/\H' b≠none)
section
variable{A B:List Addr}{H H' H1:Z}
def Kp.of(s:o6 H H'):Kp A H H':=λb o e=>.inl (s b o e)
def Kp.refl:Kp A H H:=λ_ _ e=>.inl e
def Kp.trans(a:Kp A H H1)(b:Kp A H1 H'):Kp A H H':=λx o e=>by
 rcases a x o e with z | ⟨i,y,n⟩
 . exact b x o z
 . show .inr ⟨i,y,?_⟩;cases q:H1 x with
   | none=>exact absurd q n
   | some u=>
    rcases b x u q with z | ⟨_,_,z⟩
    . rw[z];exact λe=>nomatch e
    . exact z
def Kp.mono(h:∀x∈A,x∈B)(a:Kp A H H'):Kp B H H':=λx o e=>(a x o e).imp id λ⟨i,z⟩=>⟨h x i,z⟩
theorem Kp.o(a:Kp A H H'){p:Addr}{o:HO}(e:H p=some o)(h1:∀k,o≠.dK k)(h2:∀k,o≠.tbl k):H' p=some o:=by
 rcases a p _ e with z | ⟨_,⟨_,z⟩ | ⟨_,z⟩,_⟩
 . exact z
 . exact absurd z (h1 _)
 . exact absurd z (h2 _)
def Kp.st(a:Kp A H H'):Q4 H H':=λp vs e=>a.o e (λ_ z=>nomatch z) λ_ z=>nomatch z
def Kp.f(a:Kp A H H'):Di H H':=λp o e=>a.o e (λ_ z=>nomatch z) λ_ z=>nomatch z
def Kp.l(a:Kp A H H'){p:Addr}{xs:List V}(e:H p=some (.lst xs)):H' p=some (.lst xs):=a.o e (λ_ z=>nomatch z) λ_ z=>nomatch z
def Kp.i(a:Kp A H H'){p dx C:Addr}{fs:List (Str × V)}(e:H p=some (.ins C dx fs)):H' p=some (.ins C dx fs):=a.o e (λ_ z=>nomatch z) λ_ z=>nomatch z
def Kp.n(a:Kp A H H'){p:Addr}{o:HO}(h:p ∉ A)(e:H p=some o):H' p=some o:=(a p o e).elim id λz=>absurd z.1 h
def Kp.put{d:Addr}{k:List (E5 × V)}{o:HO}(h:d∈A)(e:H d=some (.dK k)):Kp A H (upd H d o):=λb u q=>by
 by_cases z:b=d
 . subst z;rw[e]at q;cases q;exact .inr ⟨h,.inl ⟨_,Y⟩,by rw[c8];exact λe=>nomatch e⟩
 . exact .inl (by rw[k9 z];exact q)
def Kp.tb{P:Addr}{ps qs:Array Value}(h:P∈A)(e:H P=some (.tbl ps))(s:L6 P H H')(e':H' P=some (.tbl qs)):Kp A H H':=λb u q=>by
 by_cases z:b=P
 . subst z;rw[e]at q;cases q;exact .inr ⟨h,.inr ⟨_,Y⟩,by rw[e'];exact λe=>nomatch e⟩
 . exact .inl (s b u z q)
def Kp.k{C:Addr}{fs:List (Str × V)}{v:V}(a:Kp A H H')(h:Dj C fs H v):Dj C fs H' v:=by obtain⟨p,dx,rfl,h⟩:=h;exact⟨p,dx,Y,a.o h (λ_ z=>nomatch z) λ_ z=>nomatch z⟩
def Kp.new{d:Addr}(a:Kp A H H')(e:H' d=none):H d=none:=by
 cases z:H d with
 | none=>rfl
 | some o=>
  rcases a d o z with y | ⟨_,_,y⟩
  . rw[e]at y;cases y
  . exact absurd e y
def Q0{P:Addr}{q:Str}(a:Kp A H H')(h:P ∉ A)(x:R4 H P q):R4 H' P q:=let⟨ps,e,y,z⟩:=x;⟨ps,a.n h e,y,λlp v ev=>let⟨c,i,j⟩:=z lp v ev;⟨c,i,j.sameF a.f⟩⟩
def E2{P:Addr}{g:Pos->Str}(a:Kp A H H')(h:P ∉ A)(x:K1 H P g):K1 H' P g:=x.same (λps e=>a.n h e) a.f
end
structure Cw(us:List w0g):Prop where
 tk:∀u∈us,∀q,u.take q∈us
 dr:∀u∈us,∀q,u.drop q∈us
 rv:∀u∈us,u.reverse∈us
 ln:∀u∈us,u.length<=10
 sz:us.length<=900
 od:∀(i:Nat) u,us[i]? = some u->u≠[]->∀q,u.drop (q+1)∈us.take i
theorem Rn{α:Type} [DecidableEq α]:∀{xs ys:List α},xs.Nodup->(∀x∈xs,x∈ys)->xs.length<=ys.length
 | [],_,_,_=>aU _
 | x::xs,ys,nd,h=>by
  rw[bF]at nd;have hx:=h x<|ax ..;have:=Rn (xs:=xs) (ys:=ys.erase x) nd.2 λy hy=>(List.mem_erase_of_ne λe=>nd.1<|by rw[<- e];exact hy).mpr<|h y<|aq _ hy;rw[List.length_erase_of_mem hx]at this;have:=List.length_pos_of_mem hx;rw[bg];omega
structure Pm{W:Type}(is:Z->V->W->Prop)(us:List w0g)(D:w0g->W)(bY:List (E5 × V))(G:Z):Prop where
 nd:(bY.map Prod.fst).Nodup
 ok:∀k v,(k,v)∈bY->∃u,k=kW u/\u∈us/\is G v (D u)
abbrev DU(R:o7 Pr w K mg base)(us:List w0g)(D:w0g->R.S.W)(bY:List (E5 × V))(G:Z):Prop:=Pm R.is us D bY G
section
variable{R:o7 Pr w K mg base}{us:List w0g}{D:w0g->R.S.W}{bY:List (E5 × V)}{G G':Z}{u:w0g}{v:V}
theorem Pm.same(s:Q4 G G')(h:DU R us D bY G):DU R us D bY G':=⟨h.nd,λk v e=>let⟨u,a,b,c⟩:=h.ok k v e;⟨u,a,b,R.same s c⟩⟩
def Pm.len(h:DU R us D bY G):bY.length<=us.length:=by
 have:=Rn h.nd (ys:=us.map kW) λk hk=>by
  obtain⟨⟨k',v⟩,hp,rfl⟩:=bE.mp hk;obtain⟨u,rfl,b,_⟩:=h.ok _ _ hp;exact bE.mpr ⟨u,b,Y⟩
 rwa [ai,ai]at this
def Pm.put(h:DU R us D bY G)(hu:u∈us)(n:y7 bY (kW u)=none)(hv:R.is G v (D u)):DU R us D (K2 bY (kW u) v) G:=by
 have no:kW u ∉ bY.map Prod.fst:=λz=>by
  obtain⟨⟨k,x⟩,hp,e⟩:=bE.mp z;have a:=X0 (kW u) bY;rw[n]at a;have b:(bY.any λkv=>decide<|kv.1=kW u)=true:=List.any_eq_true.mpr ⟨_,hp,decide_eq_true e⟩;rw[b]at a;cases a
 show⟨?_,λk x hx=>?_⟩
 . rw[IZ v n,bh,List.nodup_append];exact⟨h.nd,by simp,λa ha b hb z=>no<|by rw[af.mp hb]at z;rw[<- show a=kW u from z];exact ha⟩
 rw[IZ v n]at hx;rcases aw.mp hx with hx | hx
 . exact h.ok k x hx
 . cases af.mp hx;exact⟨u,Y,hu,hv⟩
def Pm.get(h:DU R us D bY G)(e:y7 bY (kW u)=some v):R.is G v (D u):=by
 unfold y7 at e;obtain⟨⟨k,x⟩,hf,rfl⟩:=bM.mp e;have hk:=List.find?_some hf;obtain⟨u',rfl,_,hv⟩:=h.ok _ _<|List.mem_of_find?_eq_some hf;have:kW u'=kW u:=by simpa using hk
 rw[<- OH this];exact hv
theorem Pm.nil:DU R us D [] G:=⟨.nil,λ_ _ h=>nomatch h⟩
end
def gq(x:Str):Pos->Str:=λ_=>(x++".<locals>.")++"<lambda>"
def C0:Pos->Str:=gq "weigher"
def K4:∀p q:Pos,p.line=q.line->p.col=q.col->C0 p=C0 q:=λ_ _ _ _=>rfl
def J9:Pos->Str:=gq "star_weigher"
def CY:∀p q:Pos,p.line=q.line->p.col=q.col->J9 p=J9 q:=λ_ _ _ _=>rfl
def B0:Pos->Str:=λp=>("then_weigher"++".<locals>.")++(if p.line=275 then "weigh" else "<lambda>")
def V3:∀p q:Pos,p.line=q.line->p.col=q.col->B0 p=B0 q:=λp q h _=>by
 unfold B0;rw[h]
def Ks:Stmt->Arguments × Expr × Scope
 | .Return (some<|.Lambda p b sc _) _=>(p,b,sc)
 | .If _ (.Return (some<|.Lambda p b sc _) _::_) _ _=>(p,b,sc)
 | _=>default
def Lw(k:Nat):Arguments × Expr × Scope:=Ks ((p9 w9).getD k w9)
def Dw:Stmt:=(p9 o9).getD 1 o9
def Ls:Arguments × Expr × Scope:=Ks ((p9 z7).getD 2 z7)
def Lt:Arguments × Expr × Scope:=Ks ((p9 o9).getD 2 o9)
def UI(R:o7 Pr w K mg base)(a1c:w0g->Prop)(D:w0g->R.S.W)(A:List Addr)(J:Z->Prop):Sp:=λvs H Q _=>∃u,vs=[vT u]/\(a1c u/\J H)/\∀v H',Kp A H H'->J H'->R.is H' v (D u)->Q v H'
def L5{k k':Nat}{f:Addr}{sp:Sp}(h:k<=k')(F:LZ Pr w K mg base k f sp):LZ Pr w K mg base k' f sp:=λA outer s H u v Q r=>F A outer s H u v Q (r.mono h)
def RO(w:World)(K:aa)(mg:w0f)(base:Heap)(kE:Nat):Sp:=λvs H Q _=>∃(R:o7 Pr w K mg base),∃kv,∃(f g:Addr),∃u,∃(lc:Nat),∃(D F:w0g->R.S.W) (A:List Addr) (J:Z->Prop) (a1c U':w0g->Prop),∃(a b:Nat),vs=[kv,.ref f,.ref g,vT u,.int lc]/\
 (Dj R.C R.fs H kv/\J H/\(∀G G',o6 G G'->J G->J G')/\(∀G,J G->EH base G f/\EH base G g)/\LZ Pr w K mg base (kE+47) f (UI R a1c D A J)/\LZ Pr w K mg base (kE+47) g (UI R U' F A J)/\(∀q,lc<=q->q<=u.length->a1c (u.take q)/\U' (u.drop q))/\u.length<=10/\lc<=u.length/\(∀q,lc<=q->q<=u.length->R.S.lv a 32 (D<|u.take q)/\R.S.lv b 32 (F<|u.drop q))/\a+b<=100000)/\
 ∀v H',Kp A H H'->J H'->R.is H' v (sm R.S (λi=>R.S.mul (D<|u.take<|lc+i)<|F<|u.drop<|lc+i)<|u.length+1 - lc)->Q v H'
def Bw(T:Txt K mg t)(kE:Nat):m8 Pr w K mg base C8 (kE+49) t.i0b t.g0d TU (RO w K mg base kE):=by
 show T.g0k.F.okA L3 λ_ A _ _ H _ _ _ hr h=>?_;obtain⟨R,kv,f,g,u,lc,D,F,A,J,a1c,U',a,b,rfl,⟨⟨kp,dx,rfl,hk⟩,hJ,sJ,fJ,F1,F2,hU,gX,hc,hl,wC⟩,k⟩:=h;have sl:=sZ;show⟨_,(c7 (sT 5 L3.nd<|T9 (U 0) R.cl R.t_nought R.G_nought (hr.mono oM) R.b_nought .nil t8)<|c7 (K7 aK Y (Dz Y T.z_range<|C5 (U 4)<|l5 z8 (l4 w6 bR T.z_len PySem.boot_len<|C6<|U 3) c4) (gN 6 L3.nd)<|c7 (sT 7 L3.nd<|J0 (k:=(kE+47)) (hr.mono oM) (U 1)<|C6<|z5 S4 (U 3) F5<|B2<|U 6)<|c6<|o3 (c9 (Fi hr.units) (U 7) (T9 (U 0) R.cl R.t_nought R.G_nought (hr.mono oM) R.b_nought .nil t8)<|j7 _) (c6<|sT 5 L3.nd<|Bi (U 0) R.cl R.t_plus R.G_plus (hr.mono oM) R.b_plus .nil t8<|C5 (U 5)<|Bi (U 0) R.cl R.t_times R.G_times (hr.mono oM) R.b_times .nil t8<|C5 (U 7)<|J0 (k:=(kE+47)) (hr.mono oM) (U 2)<|C6<|z5 S4 (U 3) (B2<|U 6) F5) k6)<|c6<|i3<|U 5),?_⟩;show O Y<|zb ⟨Y,hk,R.l_nought,O Y ⟨za ⟨Y,hk⟩,λz H1 s1 f1=>?_⟩⟩;show vb Y Y (za ⟨Y,(show Am K (vT u) H1 u.length from⟨by rw[l8];omega,(l8 u).symm⟩),za ⟨Y,Y,za ⟨Y,oM,E7 (lo:=lc) (n:=((u.length:Int)+1 - lc).toNat) (λi σ G=>∃fm v6 v7,σ=[sr kp,sr f,sr g,some<|vT u,some<|.int lc,some fm,v6,v7]/\Kp A H G/\J G/\R.is G fm (sm R.S (λi=>R.S.mul (D<|u.take<|lc+i)<|F<|u.drop<|lc+i) i)/\R.S.lv (a+b) i (sm R.S (λi=>R.S.mul (D<|u.take<|lc+i)<|F<|u.drop<|lc+i) i)) ⟨_,_,O Y ⟨Kp.of s1,sJ _ _ s1 hJ,f1,R.S.lv_zero _⟩⟩ ?_ ?_⟩⟩⟩)
 . rintro i σ G hi ⟨fm,v6,v7,rfl,q,j,ft,z⟩;have ei:((lc:Int)+(i:Int)).toNat=lc+i:=by omega
   obtain⟨m1,m2⟩:=hU (lc+i) oM oM;obtain⟨z1,z2⟩:=hl (lc+i) oM oM;show O Y ⟨f,O Y ⟨(fJ G j).1,F1,vc Y Y Y<|O Y ⟨(by rw[l8];omega),Y,(fJ G j).1,?_⟩⟩⟩;rw[Lv oM oM,ei];show⟨u.take<|lc+i,Y,⟨m1,j⟩,λx H2 k2 j2 fx=>?_⟩;have q2:=q.trans k2;show vb Y Y<|zb ⟨Y,q2.i hk,R.l_nought,O Y ⟨za ⟨Y,q2.i hk⟩,λzv H3 s3 f3=>?_⟩⟩;have q3:=q2.trans<|.of s3;have j3:=sJ _ _ s3 j2;have fX:=k2.trans (.of s3:Kp A H2 H3);by_cases e0:D (u.take<|lc+i)=R.S.zero
   . show R.neD (R.same s3.t fx) f3 e0 ?_;show O Y<|t7 ?_;have ez:R.S.mul (D<|u.take<|lc+i) (F<|u.drop<|lc+i)=R.S.zero:=by rw[e0,Md]
     show zb ⟨Y,q3,j3,?_,?_⟩
     . show R.is H3 fm<|R.S.add _<|R.S.mul _ _;rw[ez,R.S.add_zero];exact R.same fX.st ft
     . show R.S.lv (a+b) (i+1)<|R.S.add _<|R.S.mul _ _;rw[ez];exact R.S.lv_add _ _ _ _ _ z (R.S.lv_mono _ 0 _ _ bD<|R.S.lv_zero _)
   . show R.neT (R.same s3.t fx) f3 e0 ?_;show O Y<|B9 ?_;show O Y (zb ⟨Y,q3.i hk,R.l_plus,vb Y Y<|zb ⟨Y,q3.i hk,R.l_times,vb Y Y ⟨g,O Y ⟨(fJ H3 j3).2,F2,vc Y Y Y<|O Y ⟨(by rw[l8];omega),Y,(fJ H3 j3).2,?_⟩⟩⟩⟩⟩);rw[EK oM,ei];show⟨u.drop<|lc+i,Y,⟨m2,j3⟩,λy H4 k4 j4 fy=>?_⟩;have q4:=q3.trans k4;have t4:=(fX.trans k4).st;have zm:=R.S.lv_mul _ _ _ _ z1 z2;show zd ⟨100 * a,100 * b,Y,⟨za ⟨Y,q4.i hk⟩,R.same (s3.t.trans k4.st) fx,fy,R.S.lv_sz _ _ _ bD z1,R.S.lv_sz _ _ _ bD z2,oM⟩,λU H5 s5 f5=>?_⟩;have q5:=q4.trans<|.of s5;show zd ⟨100 * (a+b),100 * (a+b),Y,⟨za ⟨Y,q5.i hk⟩,R.same (t4.trans s5.t) ft,f5,R.S.lv_sz _ _ _ oM z,R.S.lv_sz _ _ _ bD zm,oM⟩,λtv H6 s6 f6=>?_⟩;exact zb ⟨Y,q5.trans<|.of s6,sJ _ _ s6<|sJ _ _ s5 j4,f6,R.S.lv_add _ _ _ _ _ z zm⟩
 . rintro σ G ⟨fm,v6,v7,rfl,q,j,ft,_⟩;rw[show((u.length:Int)+1 - lc).toNat=u.length+1 - lc by omega]at ft;exact O Y (k _ _ q j ft)
def CZ{k:Nat}{f:Addr}{sp pX:Sp}(F:LZ Pr w K mg base k f sp)(h:∀v H Q,pX [v] H Q E0->sp [v] H Q E0):LZ Pr w K mg base k f pX:=λA outer s H u v Q r e rv q=>F A outer s H u v Q r e rv (h v H Q q)
def Mq(w:World)(K:aa)(mg:w0f)(base:Heap)(kE:Nat):Sp:=λvs H Q _=>∃(R:o7 Pr w K mg base),∃(d g:Addr),∃u us,∃(D:w0g->R.S.W) (A:List Addr) (J:Z->Prop),∃bY,vs=[.ref d,.ref g,vT u]/\
 (H d=some (.dK bY)/\DU R us D bY H/\J H/\d ∉ A/\u∈us/\us.length<=900/\(∀G,J G->EH base G g)/\(∀G bY o,G d=some (.dK bY)->J G->J (upd G d<|.dK o))/\LZ Pr w K mg base (kE+47) g (UI R (λu=>u∈us) D A J))/\
 ∀v H' dB,Kp (d::A) H H'->J H'->H' d=some (.dK dB)->DU R us D dB H'->R.is H' v (D u)->Q v H'
def MA(T:Txt K mg t)(kE:Nat):m8 Pr w K mg base C8 (kE+48) t.k0n t.k0d Qn (Mq w K mg base kE):=by
 show T.j0p.F.okA Mt λ_ A _ _ H _ _ _ hr h=>?_;obtain⟨R,d,g,u,us,D,A,J,bY,rfl,⟨hd,hw,hJ,nd,hu,u9,fJ,dJ,F⟩,k⟩:=h;have sl:100000 < sizeLine:=by decide
 have wl:=hw.len;show⟨_,(c7 (o3 (Oe (GM (B8 hr) (U 2)<|U 0)<|by with_unfolding_all rfl) (c6<|P8 (B8 hr) (U 0) (U 2) (J0 (k:=(kE+47)) (hr.mono oM) (U 1)<|C6<|U 2) Y) k6)<|c6<|i3<|B4 (B8 hr) (U 0) (U 2)<|λ_ _=>rfl),?_⟩;have g0:=R3.k (k:=kW u) hd;show vb Y Y ⟨d,O Y ⟨g0,?_⟩⟩;cases e:y7 bY (kW u)with
 | some v=>
  show O Y ?_
  (try show t7 ?_)
  rw[e]at g0;exact vb Y Y ⟨d,O Y ⟨g0,k v H bY Kp.refl hJ hd hw<|hw.get e⟩⟩
 | none=>
  show O Y ?_
  (try show B9 ?_)
  show O Y ⟨g,O Y ⟨fJ _ hJ,F,O Y ⟨Y,fJ _ hJ,u,Y,⟨hu,hJ⟩,λv H1 k1 j1 i1=>?_⟩⟩⟩;have jF:=k1.n nd hd;show vb Y Y ⟨d,O Y ⟨Cp.k (k:=kW u) jF oM,?_⟩⟩;have sx:=Cv (o:=.dK<|K2 bY (kW u) v) jF;have g2:=R3.k (k:=kW u)<|c8 (H:=H1) (a:=d) (o:=.dK<|K2 bY (kW u) v);rw[Ay,if_pos rfl]at g2;show vb Y Y ⟨d,O Y ⟨g2,?_⟩⟩;exact k v _ _ ((k1.mono λx h=>aq _ h).trans<|Kp.put ax jF) (dJ _ _ _ jF j1) c8 ((hw.same k1.st).put hu e i1 |>.same sx) (R.same sx i1)
def PV:Str:=(("star_weight":Str)++".<locals>.")++"<lambda>"
def ET(w:World)(K:aa)(mg:w0f)(base:Heap)(t:JZ)(kE:Nat):Sp:=λvs H Q _=>∃(R:o7 Pr w K mg base),∃kv,∃(f d:Addr),∃u us,∃(D:w0g->R.S.W) (A:List Addr) (J:Z->Prop),∃bY,∃(a:Nat),vs=[kv,.ref f,.ref d,vT u]/\
 (Dj R.C R.fs H kv/\(H d=some (.dK bY)/\DU R us (K9 R.S D) bY H/\y7 bY (kW [])≠none)/\J H/\(d ∉ A/\t.P_star_weight∈A)/\(u∈us/\Cw us)/\(∀b G,J G->EH b G f)/\(∀G G',o6 G G'->J G->J G')/\(∀G bY o,G d=some (.dK bY)->J G->J (upd G d<|.dK o))/\
  (∀G,J G->R4 G t.P_star_weight PV)/\(∀G G',L6 t.P_star_weight G G'->R4 G' t.P_star_weight PV->J G->J G')/\(∀b,Up Pr w K mg base b->LZ Pr w K mg b (kE+47) f (UI (R.re b) (λu=>u∈us) D A J))/\(∀v:w0g,v.length<=10->R.S.lv a 32 (D v))/\1<=a/\11 * a<=100000)/\
 ∀v H' dB,Kp (d::A) H H'->J H'->H' d=some (.dK dB)->DU R us (K9 R.S D) dB H'->y7 dB (kW [])≠none->R.is H' v (K9 R.S D u)->Q v H'
def Od{bY:List (E5 × V)}{x y:E5}{v:V}(h:y7 bY x≠none):y7 (K2 bY y v) x≠none:=by
 rw[Ay];split
 . exact λe=>nomatch e
 . exact h
def Fl(T:Txt K mg t)(kE:Nat)(dA:JX mg base t):m8 Pr w K mg base C8 (kE+50) t.star_weight t.f0b TL (ET w K mg base t kE):=by
 show T.f0d.F.okC S5 T.tb_star_weight T.e0l (by rintro _ _ _ _ ⟨_,_,_,_,_,_,_,_,_,_,_,rfl,_⟩;rfl) λA outer s H vs Q E hr h=>?_;obtain⟨R,kv,f,d,u,us,D,A,J,bY,a,rfl,⟨hk,⟨hd,hw,h0⟩,hJ,⟨nd,pA⟩,⟨hu,hc⟩,fJ,sJ,dJ,tJ,pJ,F,hl,a1,kZ⟩,k⟩:=h;have sl:=sZ;have gX:=hc.ln u hu;have u9:=hc.sz;show⟨_,(c7 (K7 aK Y (Mx Y T.z_range<|Gg (l5 W3 (l4 w6 bR T.z_len PySem.boot_len<|C6<|U 3) c4) (Fg BE c4)<|Fg BE c4) (gN 4 S5.nd)<|c7 (sT 5 S5.nd<|z5 S4 (U 3) (B2<|U 4) F5)<|c6<|o3 (Oe (GM (B8 hr) (U 5)<|U 2)<|by with_unfolding_all rfl) (c6<|P8 (B8 hr) (U 2) (U 5) (Je (kf:=46) (pn:="last") (fr:=[IB]) (js:=[2]) (λbase=>Bw (w:=w) (base:=base) T kE) (hr.mono oM) Y T.g0k.m T.g0k.F.kp T.g0k.b (GN (U 0)<|GN (U 1)<|Ou dA.star_weight Y Y Y (show ∀y:Str × NameKind,y∈_->y.2=.free->(c5 C4).names.lookup y.1=some .cell\/(c5 C4).names.lookup y.1=some .free from by decide +kernel)<|C5 (U 5) c4) (by exact⟨λ_=>rfl,⟨Y,Y,Y,dK,Y,dK,dK,dK⟩,(show ∀y:Str,y∈([IB]:w0h)->(c5 C4).names.lookup y=some .cell\/(c5 C4).names.lookup y=some .free from by decide +kernel),dK,Y⟩) (λbase _ _ _ _ _ _ _ hr=>(B4 (B8 hr) (U 1) (U 0)<|λ_ _=>rfl))<|λ_ _ _ _ _=>rfl) Y) k6)<|c6<|i3<|B4 (B8 hr) (U 2) (U 3)<|λ_ _=>rfl),?_⟩;show O Y (za ⟨Y,(show Am K (vT u) H u.length from⟨by rw[l8];omega,(l8 u).symm⟩),za ⟨Y,Y,vc Y Y Y ⟨⟨oM,oM⟩,Lc (lo:=(u.length:Int) - 1) (n:=((u.length:Int) - 1+1).toNat) (λi σ G=>∃bY v4 v5,σ=[some kv,sr f,sr d,some<|vT u,v4,v5]/\Kp (d::A) H G/\J G/\G d=some (.dK bY)/\DU R us (K9 R.S D) bY G/\y7 bY (kW [])≠none/\∀q,u.length<=q+i->y7 bY (kW<|u.drop q)≠none) ⟨bY,_,O Y ⟨Kp.refl,hJ,hd,hw,h0,λq hq=>by rw[List.drop_of_length_le oM];exact h0⟩⟩ ?_ ?_⟩⟩⟩)
 . rintro i σ G hi ⟨bY,v4,v5,rfl,q,j,gd,gw,g0,gq⟩;have hi:i < u.length:=by omega
   have ei:((u.length:Int) - 1 - (i:Int)).toNat=u.length - 1 - i:=by omega
   have wl:=gw.len;show vc Y Y Y (O Y ⟨(by rw[l8];omega),?_⟩);rw[EK oM,ei];show Bz 5 (vT<|u.drop<|u.length - 1 - i) [some kv,sr f,sr d,some<|vT u,some<|.int<|(u.length:Int) - 1 - (i:Int),v5] G _;obtain⟨r,er⟩:∃r,r=u.drop (u.length - 1 - i):=⟨_,Y⟩;rw[<- er];have rl:r.length=i+1:=by rw[er,aO];omega
   have ru:r∈us:=by rw[er];exact hc.dr u hu _
   have rq:∀q,1<=q->y7 bY (kW<|r.drop q)≠none:=λq hq=>by
    rw[er,List.drop_drop];exact gq _ oM
   have g1:=R3.k (k:=kW r) gd;show vb Y Y ⟨d,O Y ⟨g1,?_⟩⟩;cases e:y7 bY (kW r)with
   | some v=>
    show O Y ?_
    (try show t7 ?_)
    show⟨bY,za ⟨Y,q,j,gd,gw,g0,λp hp=>?_⟩⟩;by_cases z:u.length<=p+i
    . exact gq p z
    . rw[show p=u.length - 1 - i by omega,<- er,e];exact λz=>nomatch z
   | none=>
    show O Y ?_
    (try show B9 ?_)
    show⟨[.ref d],Y,vb Y Y ⟨tJ _ j,λl c H2 sP T2 C2 nl=>(O Y<|λb a1c F2=>?_)⟩⟩;obtain⟨ps,hP,_⟩:=tJ _ j;obtain⟨xB,wJ,_⟩:=id T2;have k2:Kp (d::A) G H2:=Kp.tb (aq _ pA) hP sP wJ;have j2:=pJ _ _ sP T2 j;have dP:d≠t.P_star_weight:=λz=>nd (by rw[z];exact pA);have oW:=sP _ _ dP gd;have wU:=gw.same k2.st;have st:=λv hv h4=>Lr (S:=R.S) (D:=D) (v:=a) (m:=10) a1 (λv h=>hl v h) bD (List.length v) v hv h4;show⟨R.re b,kv,f,l,r,1,D,K9 R.S D,A,λG=>J G/\G d=some (.dK bY)/\D6 G c PV/\DU R us (K9 R.S D) bY G,λu=>u∈us,λv=>y7 bY (kW v)≠none,a,10 * a,Y,⟨(q.trans k2).k hk,⟨j2,oW,C2,wU⟩,λG G' s ⟨x1,x2,x3,x4⟩=>⟨sJ _ _ s x1,s _ _ x2,x3.sameF λb o z=>s b _ z,x4.same s.t⟩,λG j=>⟨fJ b G j.1,F2.inB⟩,CZ (F b a1c) ?_,CZ (L5 oM F2.h) ?_,λq h1 h2=>⟨hc.tk r ru q,rq q h1⟩,oM,oM,λq h1 h2=>⟨hl _ (by rw[aZ];omega),?_⟩,oM⟩,λv H3 k3 j3 f3=>?_⟩
    . rintro v H Q ⟨x,e,⟨ux,x1,x2,x3,x4⟩,kk⟩;exact⟨x,e,⟨ux,x1⟩,λv H' k1 j1 f1=>kk v H' k1 ⟨j1,k1.n nd x2,x3.sameF k1.f,x4.same k1.st⟩ f1⟩
    . rintro v H Q ⟨x,e,⟨ux,x1,x2,x3,x4⟩,kk⟩;cases e;obtain⟨y,ey⟩:=Option.ne_none_iff_exists'.mp ux;have g1:=R3.k (k:=kW x) x2;rw[ey]at g1;exact⟨x3,vc Y Y Y ⟨d,O Y ⟨g1,kk y H Kp.refl ⟨x1,x2,x3,x4⟩<|x4.get ey⟩⟩⟩
    . have hd:(r.drop q).length=r.length - q:=aO;exact GP (st (r.drop q) (ae _) oM) bD (br _ oM)
    . obtain⟨x1,x2,x3,x4⟩:=j3;have ne:r≠[]:=λz=>by rw[z]at rl;cases rl
      have f3:R.is H3 v (K9 R.S D r):=by
       rw[IK ne];have e1:r.length+1 - 1=r.length:=by omega
       rw[e1]at f3;have e2:=AA (S:=R.S) (n:=r.length) (f:=λi=>R.S.mul (D<|r.take<|1+i)<|K9 R.S D<|r.drop<|1+i) (g:=λi=>R.S.mul (D<|r.take<|i+1)<|K9 R.S D<|r.drop<|i+1) λi _=>by rw[cF 1 i]
       rw[<- e2];exact f3
      show vb Y Y ⟨d,O Y ⟨Cp.k (k:=kW r) x2 oM,?_⟩⟩;have sx:=Cv (o:=.dK<|K2 bY (kW r) v) x2;show zb ⟨Y,((q.trans k2).trans<|k3.mono λx h=>aq _ h).trans<|Kp.put ax x2,dJ _ _ _ x2 x1,c8,(x4.put ru e f3).same sx,Od g0,λp hp=>?_⟩;by_cases z:u.length<=p+i
      . exact Od (gq p z)
      . rw[show p=u.length - 1 - i by omega,<- er,Ay,if_pos rfl];exact λz=>nomatch z
 . rintro σ G ⟨bY,v4,v5,rfl,q,j,gd,gw,g0,gq⟩;have e0:=gq 0 oM;rw[List.drop_zero]at e0;obtain⟨v,ev⟩:=Option.ne_none_iff_exists'.mp e0;have g2:=R3.k (k:=kW u) gd;rw[ev]at g2;exact vb Y Y ⟨d,O Y ⟨g2,k v G bY q j gd gw g0<|gw.get ev⟩⟩
abbrev SX:Str:=(("weigher":Str)++".<locals>.")++"<lambda>"
abbrev qlS:Str:=(("star_weigher":Str)++".<locals>.")++"<lambda>"
abbrev qlT:Str:=(("then_weigher":Str)++".<locals>.")++"<lambda>"
abbrev qdT:Str:=(("then_weigher":Str)++".<locals>.")++"weigh"
def c0j:Stmt->Arguments
 | .FunctionDef _ p _ _ _ _ _ _ _ _=>p
 | _=>default
abbrev Va(H:Z)(f:Addr)(k:Nat)(fr:w0h)(ws:List V):Prop:=X8 H f SX (Lw k).1 (Lw k).2.1 (Lw k).2.2 fr ws
abbrev DwA(H:Z)(f:Addr)(ws:List V):Prop:=Eh H f "weigh" qdT (c0j Dw) (p9 Dw) (c5 Dw) KJ ws
def Wg(S:SR)(is:Z->V->S.W->Prop)(us:List w0g)(kv:V):Sy S.W->Addr->List Addr->Z->Prop
 | .nil,f,A,H=>A=[]/\Va H f 2 [X9] [kv]
 | .word x,f,A,H=>A=[]/\∃p,Va H f 3 HL [kv,.ref p]/\H p=some (.tup [vT nW,vT x])
 | .times c a,f,A,H=>∃p u y o g,Va H f 4 Qm [kv,.ref p,.ref o]/\H p=some (.tup [vT nT,u,y])/\is H u c/\H o=some (.lst [.ref g])/\Wg S is us kv a g A H
 | .one b a,f,A,H=>if b=true then ∃g d bY B,X8 H f qlS Ls.1 Ls.2.1 Ls.2.2 MF [kv,.ref g,.ref d]/\(A=d::B/\d ∉ B)/\(H d=some (.dK bY)/\Pm is us (K9 S<|wS S a) bY H/\y7 bY (kW [])≠none)/\Wg S is us kv a g B H
  else ∃o g,Va H f 5 ["of"] [.ref o]/\H o=some (.lst [.ref g])/\Wg S is us kv a g A H
 | .two n a b,f,A,H=>if n=1 then ∃g h d m bY B C,X8 H f qlT Lt.1 Lt.2.1 Lt.2.2 Oz [.ref d,.ref m]/\DwA H m [kv,.ref g,.ref h]/\(A=d::(B++C)/\d ∉ B++C/\∀x∈B,x ∉ C)/\(H d=some (.dK bY)/\Pm is us (cv S (wS S a)<|wS S b) bY H)/\Wg S is us kv a g B H/\Wg S is us kv b h C H
  else ∃o g h B C,Va H f (7+n) Ex [kv,.ref o]/\H o=some (.lst [.ref g,.ref h])/\(A=B++C/\∀x∈B,x ∉ C)/\Wg S is us kv a g B H/\Wg S is us kv b h C H
section
variable{R:o7 Pr w K mg base}{us:List w0g}{kv:V}
theorem Wg.kp{H H':Z}{B:List Addr}(k:Kp B H H'):∀{s:Sy R.S.W} {f:Addr} {A:List Addr},Wg R.S R.is us kv s f A H->(∀x∈A,x ∉ B)->Wg R.S R.is us kv s f A H'
 | .nil,f,A,⟨e,h⟩,_=>⟨e,h.same k.f⟩
 | .word x,f,A,⟨e,p,h,hp⟩,_=>⟨e,p,h.same k.f,k.st _ _ hp⟩
 | .times c a,f,A,⟨p,u,y,o,g,h,hp,hu,ho,hg⟩,d=>⟨p,u,y,o,g,h.same k.f,k.st _ _ hp,R.same k.st hu,k.l ho,Wg.kp k hg d⟩
 | .one true a,f,A,⟨g,d,bY,B',h,⟨e,nd⟩,⟨hd,hw,h0⟩,hg⟩,dj=>⟨g,d,bY,B',h.same k.f,⟨e,nd⟩,⟨k.n (dj d<|by rw[e];exact ax) hd,hw.same k.st,h0⟩,Wg.kp k hg λx hx=>dj x<|by rw[e];exact aq _ hx⟩
 | .one false a,f,A,⟨o,g,h,ho,hg⟩,d=>⟨o,g,h.same k.f,k.l ho,Wg.kp k hg d⟩
 | .two n a b,f,A,x,dj=>by
  unfold Wg at x ⊢;split at x
  . rename_i e;rw[if_pos e];obtain⟨g,h,d,m,bY,B',C,h1,h2,⟨e,nd,eV⟩,⟨hd,hw⟩,hg,hh⟩:=x;exact⟨g,h,d,m,bY,B',C,h1.same k.f,h2.same k.f,⟨e,nd,eV⟩,⟨k.n (dj d<|by rw[e];exact ax) hd,hw.same k.st⟩,Wg.kp k hg λx hx=>dj x (by rw[e];exact aq _<|aF _ hx),Wg.kp k hh λx hx=>dj x<|by rw[e];exact aq _<|ar _ hx⟩
  . rename_i e;rw[if_neg e];obtain⟨o,g,h,B',C,h1,ho,⟨e,eV⟩,hg,hh⟩:=x;exact⟨o,g,h,B',C,h1.same k.f,k.l ho,⟨e,eV⟩,Wg.kp k hg λx hx=>dj x (by rw[e];exact aF _ hx),Wg.kp k hh λx hx=>dj x<|by rw[e];exact ar _ hx⟩
theorem Wg.old{H:Z}:∀{s:Sy R.S.W} {f:Addr} {A:List Addr},Wg R.S R.is us kv s f A H->∀d∈A,∃bY,H d=some (.dK bY)
 | .nil,f,A,⟨e,h⟩,d,hd=>by rw[e]at hd;cases hd
 | .word x,f,A,⟨e,p,h,hp⟩,d,hd=>by rw[e]at hd;cases hd
 | .times c a,f,A,⟨p,u,y,o,g,h,hp,hu,ho,hg⟩,d,hd=>Wg.old hg d hd
 | .one true a,f,A,⟨g,d,bY,B',h,⟨e,nd⟩,⟨hk,hw,h0⟩,hg⟩,x,hx=>by
  rw[e]at hx;rcases ah.mp hx with rfl | hx
  . exact⟨_,hk⟩
  . exact Wg.old hg x hx
 | .one false a,f,A,⟨o,g,h,ho,hg⟩,d,hd=>Wg.old hg d hd
 | .two n a b,f,A,z,x,hx=>by
  unfold Wg at z;split at z
  . obtain⟨g,h,d,m,bY,B',C,h1,h2,⟨e,nd,eV⟩,⟨hd,hw⟩,hg,hh⟩:=z;rw[e]at hx;rcases ah.mp hx with rfl | hx
    . exact⟨_,hd⟩
    . rcases aw.mp hx with hx | hx
      . exact Wg.old hg x hx
      . exact Wg.old hh x hx
  . obtain⟨o,g,h,B',C,h1,ho,⟨e,eV⟩,hg,hh⟩:=z;rw[e]at hx;rcases aw.mp hx with hx | hx
    . exact Wg.old hg x hx
    . exact Wg.old hh x hx
theorem Wg.fn{b:Heap}{H:Z}:∀{s:Sy R.S.W} {f:Addr} {A:List Addr},Wg R.S R.is us kv s f A H->EH b H f
 | .nil,f,A,⟨e,h⟩=>h.fn
 | .word x,f,A,⟨e,p,h,hp⟩=>h.fn
 | .times c a,f,A,⟨p,u,y,o,g,h,_⟩=>h.fn
 | .one true a,f,A,⟨g,d,bY,B',h,_⟩=>h.fn
 | .one false a,f,A,⟨o,g,h,_⟩=>h.fn
 | .two n a b,f,A,z=>by
  unfold Wg at z;split at z
  . obtain⟨g,h,d,m,bY,B',C,h1,_⟩:=z;exact h1.fn
  . obtain⟨o,g,h,B',C,h1,_⟩:=z;exact h1.fn
structure JW(R:o7 Pr w K mg base)(t:JZ)(us:List w0g)(kv:V)(s:Sy R.S.W)(f:Addr)(A:List Addr)(G:Z):Prop where
 w:Wg R.S R.is us kv s f A G
 t:R4 G t.P_star_weight PV
 k:Dj R.C R.fs G kv
def Hj{H:Z}{P d:Addr}{q:Str}{bY:List (E5 × V)}(h:R4 H P q)(e:H d=some (.dK bY)):P≠d:=λz=>by
 obtain⟨ps,hp,_⟩:=h;rw[z,e]at hp;cases hp
variable{s:Sy R.S.W}{f:Addr}{A:List Addr}{G G':Z}
def JW.out(j:JW R t us kv s f A G):t.P_star_weight ∉ A:=λh=>by
 obtain⟨bY,e⟩:=j.w.old _ h;exact Hj j.t e rfl
theorem JW.same(s1:o6 G G')(j:JW R t us kv s f A G):JW R t us kv s f A G':=⟨j.w.kp (Kp.of s1:Kp [] G G') (λ_ _ h=>nomatch h),Q0 (Kp.of s1:Kp [] G G') (λh=>nomatch h) j.t,j.k.same s1⟩
theorem JW.put{d:Addr}{bY o:List (E5 × V)}(h:d ∉ A)(e:G d=some (.dK bY))(j:JW R t us kv s f A G):JW R t us kv s f A (upd G d<|.dK o):=
 have k:Kp [d] G (upd G d<|.dK o):=Kp.put (bc _) e
 ⟨j.w.kp k λx hx z=>h (by rw[<- af.mp z];exact hx),Q0 k (λz=>Hj j.t e<|af.mp z) j.t,k.k j.k⟩
def JW.tab(s1:L6 t.P_star_weight G G')(h:R4 G' t.P_star_weight PV)(j:JW R t us kv s f A G):JW R t us kv s f A G':=
 have k:Kp [t.P_star_weight] G G':=by obtain⟨ps,hp,_⟩:=j.t;obtain⟨qs,hq,_⟩:=h;exact Kp.tb (bc _) hp s1 hq
 ⟨j.w.kp k λx hx z=>j.out (by rw[<- af.mp z];exact hx),h,k.k j.k⟩
end
def IA{S:SR}{l:w0g}{s:Sy S.W}{u:w0g}(o:Cn S l s)(h:u.length<=10):S.sz (100 * vS s) (wS S s u):=S.lv_sz _ _ _ bD (M8 s o u h)
section
variable{R:o7 Pr w K mg base}{us:List w0g}{kv:V}{l:w0g}
abbrev He(R:o7 Pr w K mg base)(t:JZ)(us:List w0g)(kv:V)(s:Sy R.S.W):Prop:=∀(b:Heap) (_:JX mg b t) (f:Addr) (A:List Addr),LZ Pr w K mg b (5 * M7 s+47) f (UI (R.re b) (λu=>u∈us) (wS R.S s) (t.P_star_weight::A)<|JW R t us kv s f A)
def Ur(T:Txt K mg t):He R t us kv .nil:=λbase dA f A=>by
 show V4 (k:=51) (pn:="word") (fr:=[X9]) (qual:=SX) (params:=(Lw 2).1) (body:=(Lw 2).2.1) (scope:=(Lw 2).2.2) ⟨Y,Y,Y,dK,Y,dK,dK,dK⟩ (λcd dq A outer s H hr=>(T9 (U 1) R.cl R.t_nought R.G_nought (hr.mono oM) R.b_nought .nil t8)) (λ_ _ _ _ _=>rfl) ?_;rintro H v Q ⟨u,e,⟨hu,⟨hA,L⟩,hT,hk⟩,k⟩;cases e;show⟨[kv],Y,L,?_⟩;obtain⟨kp,dx,e,gM⟩:=id hk;exact O Y (zb ⟨e,gM,R.l_nought,O Y ⟨hk,λz H1 s1 f1=>k z H1 (Kp.of s1) (JW.same s1 ⟨⟨hA,L⟩,hT,hk⟩) f1⟩⟩)
def QB(T:Txt K mg t)(x:w0g):He R t us kv (.word x):=λbase dA f A=>by
 show V4 (k:=51) (pn:="word") (fr:=HL) (qual:=SX) (params:=(Lw 3).1) (body:=(Lw 3).2.1) (scope:=(Lw 3).2.2) ⟨Y,Y,Y,dK,Y,dK,dK,dK⟩ (λcd dq A outer s H hr=>(Oq (c9 w8 (U 0) (z6 (show Iv _ (Mv K)from l7) (U 2) c4)<|j7 _) (T9 (U 1) R.cl R.t_one R.G_one (hr.mono oM) R.b_one .nil t8)<|T9 (U 1) R.cl R.t_nought R.G_nought (hr.mono oM) R.b_nought .nil t8)) (λ_ _ _ _ _=>rfl) ?_;rintro H v Q ⟨u,e,⟨hu,j⟩,k⟩;cases e;obtain⟨⟨hA,p,L,hp⟩,hT,hk⟩:=id j;show⟨[kv,.ref p],Y,L,?_⟩;obtain⟨kp,dx,e,gM⟩:=id hk;show vb Y Y<|zc ⟨Y,Y,y4.of hp,Y,Y,O Y ?_⟩;by_cases hux:u=x
 . subst hux;show Cj (decide_eq_true Y) ?_;exact O Y (zb ⟨e,gM,R.l_one,O Y ⟨hk,λz H1 s1 f1=>k z H1 (Kp.of s1) (j.same s1)<|by rw[show wS R.S (.word u) u=R.S.one from if_pos rfl];exact f1⟩⟩)
 . show CU (decide_eq_false<|show ¬vT u=vT x from λe=>hux<|Dn<|V.str.inj e) ?_;exact O Y (zb ⟨e,gM,R.l_nought,O Y ⟨hk,λz H1 s1 f1=>k z H1 (Kp.of s1) (j.same s1)<|by rw[show wS R.S (.word x) u=R.S.zero from if_neg hux];exact f1⟩⟩)
def OM(T:Txt K mg t)(hc:Cw us){c:R.S.W}{a:Sy R.S.W}(o:Cn R.S l (.times c a))(hv:vS a<=50000)(ih:He R t us kv a):He R t us kv (.times c a):=λbase dA f A=>by
 obtain⟨kE,hE⟩:∃k,k=5 * M7 a:=⟨_,Y⟩;rw[show 5 * M7 (Sy.times c a)+47=kE+51+1 by show 5 * (M7 a+1)+47=_;omega];show V4 (k:=kE+51) (pn:="word") (fr:=Qm) (qual:=SX) (params:=(Lw 4).1) (body:=(Lw 4).2.1) (scope:=(Lw 4).2.2) ⟨Y,Y,Y,dK,Y,dK,dK,dK⟩ (λcd dq A outer s H hr=>(Bi (U 1) R.cl R.t_times R.G_times (hr.mono oM) R.b_times .nil t8<|C5 (z6 (show Iv _ (Mv K)from l7) (U 2) c4)<|show PE _ _ (BH Pr w K mg base (kE+47) _ _)from(J0 (k:=(kE+47)) (hr.mono oM) (z6 (show Iv _ (IY K)from o4) (U 3) c4)<|C6<|U 0))) (λ_ _ _ _ _=>rfl) ?_;rintro H v Q ⟨u,e,⟨hu,j⟩,k⟩;cases e;obtain⟨⟨p,x,y,q,g,L,hp,hx,hq,hg⟩,hT,hk⟩:=id j;show⟨[kv,.ref p,.ref q],Y,L,?_⟩;obtain⟨kp,dx,e,gM⟩:=id hk;have F:=ih base dA g A;rw[<- hE]at F;show O Y<|zb ⟨e,gM,R.l_times,O Y<|zc ⟨Y,Y,y4.of hp,Y,O Y<|zc ⟨Y,Y,y8.of hq,Y,g,O Y ⟨hg.fn,F,O Y ⟨Y,hg.fn,u,Y,⟨hu,hg,hT,hk⟩,λy' H1 k1 j1 f1=>?_⟩⟩⟩⟩⟩;exact zd ⟨100 * 1,100 * vS a,Y,⟨j1.k,R.same k1.st hx,f1,R.S.lv_sz _ _ _ bD o.1,IA o.2<|hc.ln u hu,oM⟩,λv H2 s2 f2=>k v H2 (k1.trans<|.of s2) (JW.same s2 ⟨⟨p,x,y,q,g,L.same k1.f,k1.st _ _ hp,R.same k1.st hx,k1.l hq,j1.w⟩,j1.t,j1.k⟩) f2⟩
def QF(T:Txt K mg t)(hc:Cw us){a:Sy R.S.W}(ih:He R t us kv a):He R t us kv (.one false a):=λbase dA f A=>by
 obtain⟨kE,hE⟩:∃k,k=5 * M7 a:=⟨_,Y⟩;rw[show 5 * M7 (Sy.one false a)+47=kE+51+1 by show 5 * (M7 a+1)+47=_;omega];show V4 (k:=kE+51) (pn:="word") (fr:=["of"]) (qual:=SX) (params:=(Lw 5).1) (body:=(Lw 5).2.1) (scope:=(Lw 5).2.2) ⟨Y,Y,Y,dK,Y,dK,dK,dK⟩ (λcd dq A outer s H hr=>(show PE _ _ (BH Pr w K mg base (kE+47) _ _)from(J0 (k:=(kE+47)) (hr.mono oM) (z6 (show Iv _ (IY K)from o4) (U 1) c4)<|C6<|Ky (U 0)<|Fg BE c4))) (λ_ _ _ _ _=>rfl) ?_;rintro H v Q ⟨u,e,⟨hu,j⟩,k⟩;cases e;obtain⟨⟨q,g,L,hq,hg⟩,hT,hk⟩:=id j;show⟨[.ref q],Y,L,?_⟩;have F:=ih base dA g A;rw[<- hE]at F;have sl:=sZ;have gX:=hc.ln u hu;show O Y (zc ⟨Y,Y,y8.of hq,Y,g,O Y ⟨hg.fn,F,vc Y Y Y ⟨Y,(by rw[l8];omega),Y,hg.fn,?_⟩⟩⟩);rw[Kr];exact⟨u.reverse,Y,⟨hc.rv u hu,hg,hT,hk⟩,λy' H1 k1 j1 f1=>k y' H1 k1 ⟨⟨q,g,L.same k1.f,k1.l hq,j1.w⟩,j1.t,j1.k⟩ f1⟩
def QD(T:Txt K mg t)(hc:Cw us){a:Sy R.S.W}(o:Cn R.S l a)(hv:11 * vS a<=50000)(ih:He R t us kv a):He R t us kv (.one true a):=λbase dA f A=>by
 obtain⟨kE,hE⟩:∃k,k=5 * M7 a:=⟨_,Y⟩;rw[show 5 * M7 (Sy.one true a)+47=kE+51+1 by show 5 * (M7 a+1)+47=_;omega];show V4 (k:=kE+51) (pn:="word") (fr:=MF) (qual:=qlS) (params:=Ls.1) (body:=Ls.2.1) (scope:=Ls.2.2) ⟨Y,Y,Y,dK,Y,dK,dK,dK⟩ (λcd dq A outer s H hr=>(p8 (Fl (w:=w) (base:=base) T kE dA) (hr.mono oM) Y T.f0d.m T.f0d.F.kp T.f0d.b .nil t8<|My (U 1) (U 2) (U 3)<|U 0)) (λ_ _ _ _ _=>rfl) ?_;rintro H v Q ⟨u,e,⟨hu,j⟩,k⟩;cases e;obtain⟨⟨g,d,bY,B,L,⟨eA,nd⟩,⟨hd,hw,h0⟩,hg⟩,hT,hk⟩:=id j;show⟨[kv,.ref g,.ref d],Y,L,?_⟩;have dP:=Hj hT hd;show vc Y Y Y (O Y ⟨R.re base,kv,g,d,u,us,wS R.S a,t.P_star_weight::B,JW R t us kv a g B,bY,vS a,Y,⟨hk,⟨hd,hw,h0⟩,⟨hg,hT,hk⟩,⟨λz=>?_,ax⟩,⟨hu,hc⟩,λb G j=>j.w.fn,λG G' s1 j=>j.same s1,λG bY o e j=>j.put nd e,λG j=>j.t,λG G' s1 h j=>j.tab s1 h,λb' a1c=>?_,λv hv=>M8 a o v hv,Dl a,oM⟩,λv H' dB k1 j1 eU lJ wR f'=>?_⟩)
 . rcases ah.mp z with z | z
   . exact dP z.symm
   . exact nd z
 . have F:=ih b' (dA.up a1c.sub) g B;rw[<- hE]at F;exact F
 . show k v H' (k1.mono λx hx=>?_) ⟨⟨g,d,dB,B,L.same k1.f,⟨eA,nd⟩,⟨eU,lJ,wR⟩,j1.w⟩,j1.t,j1.k⟩ f';rw[eA];rcases ah.mp hx with h | h
   . rw[h];exact aq _ ax
   . rcases ah.mp h with h | h
     . rw[h];exact ax
     . exact aq _ (aq _ h)
end
section
variable{R:o7 Pr w K mg base}{us:List w0g}{kv:V}{l:w0g}
def KZ{a b:Sy R.S.W}{n:Nat}:∃kE,5 * M7 (Sy.two n a b)+47=kE+51+1/\5 * M7 a<=kE/\5 * M7 b<=kE:=by have h1:=Nat.le_max_left (M7 a)<|M7 b;have h2:=Nat.le_max_right (M7 a)<|M7 b;exact⟨5 * max (M7 a) (M7 b),by show 5 * (max (M7 a) (M7 b)+1)+47=_;omega,oM,oM⟩
def JW.two{b:Sy R.S.W}{h:Addr}{B C:List Addr}{G G':Z}(wb:Wg R.S R.is us kv b h C G)(tG:R4 G t.P_star_weight PV)(kG:Dj R.C R.fs G kv)(k1:Kp (t.P_star_weight::B) G G')(eV:∀x∈B,x ∉ C):Wg R.S R.is us kv b h C G':=wb.kp k1 λx hx z=>by
 rcases ah.mp z with e | e
 . exact JW.out ⟨wb,tG,kG⟩ (by rw[<- e];exact hx)
 . exact eV x e hx
def Uq(T:Txt K mg t)(hc:Cw us){a b:Sy R.S.W}(o1:Cn R.S l a)(o2:Cn R.S l b)(h1:vS a<=50000)(h2:vS b<=50000)(gA:He R t us kv a)(gz:He R t us kv b):He R t us kv (.two 0 a b):=λbase dA f A=>by
 obtain⟨kE,hE,e1,e2⟩:=KZ (R:=R) (a:=a) (b:=b) (n:=0);rw[hE];show V4 (k:=kE+51) (pn:="word") (fr:=Ex) (qual:=SX) (params:=(Lw 7).1) (body:=(Lw 7).2.1) (scope:=(Lw 7).2.2) ⟨Y,Y,Y,dK,Y,dK,dK,dK⟩ (λcd dq A outer s H hr=>(Bi (U 1) R.cl R.t_plus R.G_plus (hr.mono oM) R.b_plus .nil t8<|C5 (show PE _ _ (BH Pr w K mg base (kE+47) _ _)from(J0 (k:=(kE+47)) (hr.mono oM) (z6 (show Iv _ (IY K)from o4) (U 2) c4)<|C6<|U 0))<|show PE _ _ (BH Pr w K mg base (kE+47) _ _)from(J0 (k:=(kE+47)) (hr.mono oM) (z6 (show Iv _ (IY K)from o4) (U 2) c4)<|C6<|U 0))) (λ_ _ _ _ _=>rfl) ?_;rintro H v Q ⟨u,e,⟨hu,j⟩,k⟩;cases e;obtain⟨⟨q,g,h,B,C,L,hq,⟨eA,eV⟩,hg,hh⟩,hT,hk⟩:=id j;show⟨[kv,.ref q],Y,L,?_⟩;obtain⟨kp,dx,e,gM⟩:=id hk;have F1:=L5 (show _<=kE+47 by omega)<|gA base dA g B;have F2:=L5 (show _<=kE+47 by omega)<|gz base dA h C;show O Y<|zb ⟨e,gM,R.l_plus,O Y<|zc ⟨Y,Y,y8.of hq,Y,g,O Y ⟨hg.fn,F1,O Y ⟨Y,hg.fn,u,Y,⟨hu,hg,hT,hk⟩,λx H1 k1 j1 f1=>?_⟩⟩⟩⟩;have jj:=JW.two hh hT hk k1 eV;show O Y<|zc ⟨Y,Y,y8.of<|k1.l hq,Y,h,O Y ⟨jj.fn,F2,O Y ⟨Y,jj.fn,u,Y,⟨hu,jj,j1.t,j1.k⟩,λy H2 k2 j2 f2=>?_⟩⟩⟩;have oF:=JW.two j1.w j1.t j1.k k2 λx h1 h2=>eV x h2 h1;show zd ⟨100 * vS a,100 * vS b,Y,⟨j2.k,R.same k2.st f1,f2,IA o1<|hc.ln u hu,IA o2<|hc.ln u hu,oM⟩,λv H3 s3 f3=>k v H3 (((k1.mono ?_).trans<|k2.mono ?_).trans<|.of s3) (JW.same s3 ⟨⟨q,g,h,B,C,(L.same k1.f).same k2.f,k2.l<|k1.l hq,⟨eA,eV⟩,oF,j2.w⟩,j2.t,j2.k⟩) f3⟩
 . rw[eA];exact λx hx=>(ah.mp hx).elim (λe=>by rw[e];exact ax) λh=>aq _ (aF _ h)
 . rw[eA];exact λx hx=>(ah.mp hx).elim (λe=>by rw[e];exact ax) λh=>aq _ (ar _ h)
def QE(T:Txt K mg t)(hc:Cw us){a b:Sy R.S.W}(o1:Cn R.S l a)(o2:Cn R.S l b)(h1:vS a<=50000)(h2:vS b<=50000)(gA:He R t us kv a)(gz:He R t us kv b):He R t us kv (.two 2 a b):=λbase dA f A=>by
 obtain⟨kE,hE,e1,e2⟩:=KZ (R:=R) (a:=a) (b:=b) (n:=2);rw[hE];show V4 (k:=kE+51) (pn:="word") (fr:=Ex) (qual:=SX) (params:=(Lw 9).1) (body:=(Lw 9).2.1) (scope:=(Lw 9).2.2) ⟨Y,Y,Y,dK,Y,dK,dK,dK⟩ (λcd dq A outer s H hr=>(Bi (U 1) R.cl R.t_times R.G_times (hr.mono oM) R.b_times .nil t8<|C5 (show PE _ _ (BH Pr w K mg base (kE+47) _ _)from(J0 (k:=(kE+47)) (hr.mono oM) (z6 (show Iv _ (IY K)from o4) (U 2) c4)<|C6<|U 0))<|show PE _ _ (BH Pr w K mg base (kE+47) _ _)from(J0 (k:=(kE+47)) (hr.mono oM) (z6 (show Iv _ (IY K)from o4) (U 2) c4)<|C6<|U 0))) (λ_ _ _ _ _=>rfl) ?_;rintro H v Q ⟨u,e,⟨hu,j⟩,k⟩;cases e;obtain⟨⟨q,g,h,B,C,L,hq,⟨eA,eV⟩,hg,hh⟩,hT,hk⟩:=id j;show⟨[kv,.ref q],Y,L,?_⟩;obtain⟨kp,dx,e,gM⟩:=id hk;have F1:=L5 (show _<=kE+47 by omega)<|gA base dA g B;have F2:=L5 (show _<=kE+47 by omega)<|gz base dA h C;show O Y<|zb ⟨e,gM,R.l_times,O Y<|zc ⟨Y,Y,y8.of hq,Y,g,O Y ⟨hg.fn,F1,O Y ⟨Y,hg.fn,u,Y,⟨hu,hg,hT,hk⟩,λx H1 k1 j1 f1=>?_⟩⟩⟩⟩;have jj:=JW.two hh hT hk k1 eV;show O Y<|zc ⟨Y,Y,y8.of<|k1.l hq,Y,h,O Y ⟨jj.fn,F2,O Y ⟨Y,jj.fn,u,Y,⟨hu,jj,j1.t,j1.k⟩,λy H2 k2 j2 f2=>?_⟩⟩⟩;have oF:=JW.two j1.w j1.t j1.k k2 λx h1 h2=>eV x h2 h1;show zd ⟨100 * vS a,100 * vS b,Y,⟨j2.k,R.same k2.st f1,f2,IA o1<|hc.ln u hu,IA o2<|hc.ln u hu,oM⟩,λv H3 s3 f3=>k v H3 (((k1.mono ?_).trans<|k2.mono ?_).trans<|.of s3) (JW.same s3 ⟨⟨q,g,h,B,C,(L.same k1.f).same k2.f,k2.l<|k1.l hq,⟨eA,eV⟩,oF,j2.w⟩,j2.t,j2.k⟩) f3⟩
 . rw[eA];exact λx hx=>(ah.mp hx).elim (λe=>by rw[e];exact ax) λh=>aq _ (aF _ h)
 . rw[eA];exact λx hx=>(ah.mp hx).elim (λe=>by rw[e];exact ax) λh=>aq _ (ar _ h)
structure JT(R:o7 Pr w K mg base)(t:JZ)(us:List w0g)(kv:V)(a b:Sy R.S.W)(g h m:Addr)(B C:List Addr)(G:Z):Prop where
 wa:Wg R.S R.is us kv a g B G
 wb:Wg R.S R.is us kv b h C G
 t:R4 G t.P_star_weight PV
 k:Dj R.C R.fs G kv
 d:DwA G m [kv,.ref g,.ref h]
def b0r{P x:Addr}{B C:List Addr}(h:x∈P::B):x∈P::(B++C):=(ah.mp h).elim (λe=>by rw[e];exact ax) λh=>aq _ (aF _ h)
def b0q{P x:Addr}{B C:List Addr}(h:x∈P::C):x∈P::(B++C):=(ah.mp h).elim (λe=>by rw[e];exact ax) λh=>aq _ (ar _ h)
def OL(T:Txt K mg t)(hc:Cw us){a b:Sy R.S.W}{g h m:Addr}{B C:List Addr}(eV:∀x∈B,x ∉ C){kE:Nat}(o1:Cn R.S l a)(o2:Cn R.S l b)(hv:vS a+vS b<=50000)(e1:5 * M7 a<=kE)(e2:5 * M7 b<=kE)(gA:He R t us kv a)(gz:He R t us kv b) :
    ∀base:Heap,JX mg base t->LZ Pr w K mg base (kE+50) m (UI (R.re base) (λu=>u∈us) (cv R.S (wS R.S a)<|wS R.S b) (t.P_star_weight::(B++C))<|JT R t us kv a b g h m B C):=λbase dA=>by
 show QA (k:=kE+49) (pn:="word") (name:="weigh") (fr:=KJ) (ls:=[]) (qual:=qdT) (params:=c0j Dw) (bs:=p9 Dw) (scope:=c5 Dw) ⟨Y,Y,Y,dK,dK,dK,dK⟩ (λcd dq A outer s H hr=>(c6<|i3<|p8 (Bw (w:=w) (base:=base) T kE) (hr.mono oM) Y T.g0k.m T.g0k.F.kp T.g0k.b .nil t8<|B5 (U 1)<|My (U 2) (U 3) (U 0) c4)) (λ_ _ _ _ _ _=>rfl) ?_;rintro H v Q ⟨u,e,⟨hu,j⟩,k⟩;cases e;have F1:=L5 (show _<=kE+47 by omega)<|gA base dA g B;have F2:=L5 (show _<=kE+47 by omega)<|gz base dA h C;show⟨[kv,.ref g,.ref h],Y,j.d,?_⟩;show vc Y Y Y (O Y ⟨R.re base,kv,g,h,u,0,wS R.S a,wS R.S b,t.P_star_weight::(B++C),JT R t us kv a b g h m B C,λu=>u∈us,λu=>u∈us,vS a,vS b,Y,⟨j.k,j,λG G' s1 j=>?_,λG j=>⟨j.wa.fn,j.wb.fn⟩,CZ F1 ?_,CZ F2 ?_,λq _ _=>⟨hc.tk u hu q,hc.dr u hu q⟩,hc.ln u hu,aU _,λq _ _=>⟨M8 a o1 _<|hc.ln _<|hc.tk u hu q,M8 b o2 _<|hc.ln _<|hc.dr u hu q⟩,oM⟩,λv H' k1 j1 f1=>k v H' k1 j1 ?_⟩)
 . have z:Kp [] G G':=Kp.of s1;exact⟨j.wa.kp z (λ_ _ h=>nomatch h),j.wb.kp z (λ_ _ h=>nomatch h),Q0 z (λh=>nomatch h) j.t,z.k j.k,j.d.same z.f⟩
 . rintro v H Q ⟨x,e,⟨ux,j⟩,kk⟩;exact⟨x,e,⟨ux,j.wa,j.t,j.k⟩,λv H' k1 j1 f1=>kk v H' (k1.mono λ_=>b0r) ⟨j1.w,JW.two j.wb j.t j.k k1 eV,j1.t,j1.k,j.d.same k1.f⟩ f1⟩
 . rintro v H Q ⟨x,e,⟨ux,j⟩,kk⟩;exact⟨x,e,⟨ux,j.wb,j.t,j.k⟩,λv H' k1 j1 f1=>kk v H' (k1.mono λ_=>b0q) ⟨JW.two j.wa j.t j.k k1<|λx h1 h2=>eV x h2 h1,j1.w,j1.t,j1.k,j.d.same k1.f⟩ f1⟩
 . have e:=AA (S:=R.S) (n:=u.length+1) (f:=λi=>R.S.mul (wS R.S a<|u.take<|0+i)<|wS R.S b<|u.drop<|0+i) (g:=λi=>R.S.mul (wS R.S a<|u.take i)<|wS R.S b<|u.drop i) λi _=>by rw[Nat.zero_add]
   show R.is H' v<|sm R.S _<|u.length+1;rw[<- e];exact f1
def QC(T:Txt K mg t)(hc:Cw us){a b:Sy R.S.W}(o1:Cn R.S l a)(o2:Cn R.S l b)(hv:vS a+vS b<=50000)(gA:He R t us kv a)(gz:He R t us kv b):He R t us kv (.two 1 a b):=λbase dA f A=>by
 obtain⟨kF,hE,e1,e2⟩:=KZ (R:=R) (a:=a) (b:=b) (n:=1);rw[hE];obtain⟨kE,e3⟩:∃kE,kE=kF+3:=⟨_,Y⟩;show V4 (k:=kF+51) (pn:="word") (fr:=Oz) (qual:=qlT) (params:=Lt.1) (body:=Lt.2.1) (scope:=Lt.2.2) ⟨Y,Y,Y,dK,Y,dK,dK,dK⟩ (λcd dq A outer s H hr=>(p8 (MA (w:=w) (base:=base) T kE) (hr.mono oM) Y T.j0p.m T.j0p.F.kp T.j0p.b .nil t8<|Gg (U 1) (U 2)<|U 0)) (λ_ _ _ _ _=>rfl) ?_;rintro H v Q ⟨u,e,⟨hu,j⟩,k⟩;cases e;obtain⟨⟨g,h,d,m,bY,B,C,L,D,⟨eA,nd,eV⟩,⟨hd,hw⟩,hg,hh⟩,hT,hk⟩:=id j;show⟨[.ref d,.ref m],Y,L,?_⟩;have dP:=Hj hT hd;have F:=L5 (show kF+50<=kE+47 by omega)<|OL (m:=m) (g:=g) (h:=h) T hc eV o1 o2 hv e1 e2 gA gz base dA;show vc Y Y Y ⟨R.re base,d,m,u,us,cv R.S (wS R.S a)<|wS R.S b,t.P_star_weight::(B++C),JT R t us kv a b g h m B C,bY,Y,⟨hd,hw,⟨hg,hh,hT,hk,D⟩,λz=>?_,hu,hc.sz,λG j=>j.d.fn,λG bY o e j=>?_,F⟩,λv H' dB k1 j1 eU lJ f'=>?_⟩
 . rcases ah.mp z with z | z
   . exact dP z.symm
   . exact nd z
 . have z:Kp [d] G (upd G d<|.dK o):=Kp.put (bc _) e;exact⟨j.wa.kp z λx hx q=>nd (by rw[<- af.mp q];exact aF _ hx),j.wb.kp z λx hx q=>nd (by rw[<- af.mp q];exact ar _ hx),Q0 z (λq=>dP<|af.mp q) j.t,z.k j.k,j.d.same z.f⟩
 . show k v H' (k1.mono λx hx=>?_) ⟨⟨g,h,d,m,dB,B,C,L.same k1.f,j1.d,⟨eA,nd,eV⟩,⟨eU,lJ⟩,j1.wa,j1.wb⟩,j1.t,j1.k⟩ f';rw[eA];rcases ah.mp hx with h | h
   . rw[h];exact aq _ ax
   . rcases ah.mp h with h | h
     . rw[h];exact ax
     . exact aq _ (aq _ h)
theorem Ck(T:Txt K mg t)(hc:Cw us):∀s:Sy R.S.W,Cn R.S l s->vS s<=50000->He R t us kv s
 | .nil,_,_=>Ur T
 | .word x,_,_=>QB T x
 | .times c a,o,h=>OM T hc o (aj (bz _) h) (Ck T hc a o.2<|aj (bz _) h)
 | .one true a,o,h=>by
  have h:11 * vS a<=50000:=h;exact QD T hc o h (Ck T hc a o oM)
 | .one false a,o,h=>QF T hc (Ck T hc a o h)
 | .two n a b,o,h=>by
  have h1:=EN (s:=Sy.two n a b) (a:=a) (by simp[Aa]);have h2:=EN (s:=Sy.two n a b) (a:=b) (by simp[Aa]);have gA:=Ck T hc a o.2.1 oM;have gz:=Ck T hc b o.2.2 oM;have f3:=o.1;rcases(by omega:n=0\/n=1\/n=2)with rfl | rfl | rfl
  . exact Uq T hc o.2.1 o.2.2 oM oM gA gz
  . exact QC T hc o.2.1 o.2.2 h gA gz
  . exact QE T hc o.2.1 o.2.2 oM oM gA gz
end
def Hk(w:World)(K:aa)(mg:w0f)(base:Heap)(t:JZ):Sp:=λvs H Q E=>∃(R:o7 Pr w K mg base),∃kv v x,vs=[kv,v]/\(Dj R.C R.fs H kv/\R.is H v x)/\(x=R.S.zero->∀H',o6 H H'->Q .non H')/\(x≠R.S.zero->∀H',o6 H H'->E (.ref t.j0k) none H')
def CI(T:Txt K mg t):m8 Pr w K mg base (Iz Pr w) 41 t.f0i t.d0y Qo (Hk w K mg base t):=by
 show T.e0d.F.okx Dp (by rintro _ _ _ _ ⟨_,_,_,_,rfl,_⟩;rfl) λ_ _ _ _ _ _ _ _ hr h=>?_;obtain⟨R,kv,v,x,rfl,⟨⟨kp,dx,rfl,hk⟩,hv⟩,k0,k1⟩:=h;show⟨_,(c6<|o3 (c9 (Fi hr.units) (U 1) (T9 (U 0) R.cl R.t_nought R.G_nought hr.m R.b_nought .nil t8)<|j7 _) (c6<|Of Cq Y T.g0m.ex Y T.g0s<|C6 k8) k6),?_⟩;show vb Y Y<|zb ⟨Y,hk,R.l_nought,O Y ⟨za ⟨Y,hk⟩,λz H1 s1 f1=>?_⟩⟩;by_cases e:x=R.S.zero
 . show R.neD (R.same s1.t hv) f1 e (O Y ?_)
   (try show t7 ?_)
   exact k0 e _ s1
 . show R.neT (R.same s1.t hv) f1 e<|O Y ?_;show B9 ?_;exact⟨sL,k1 e _ s1⟩
structure U1(t:JZ)(H:Z):Prop where
 a:R4 H t.P_star_weight PV
 b:K1 H t.P_star_weigher J9
 c:K1 H t.P_then_weigher B0
 d:K1 H t.P_weigher C0
def B7(t:JZ):List Addr:=[t.P_star_weight,t.P_star_weigher,t.P_then_weigher,t.P_weigher]
def m4a:t.P_star_weight∈B7 t:=by simp[B7]
def m4b:t.P_star_weigher∈B7 t:=by simp[B7]
def m4c:t.P_then_weigher∈B7 t:=by simp[B7]
def m4d:t.P_weigher∈B7 t:=by simp[B7]
def U1.tb{H:Z}(h:U1 t H):∀P∈B7 t,∃ps,H P=some (.tbl ps):=λP hP=>by
 simp only[B7,ah,ba,or_false]at hP;obtain⟨p1,e1,_⟩:=h.a;obtain⟨p2,e2,_⟩:=h.b;obtain⟨p3,e3,_⟩:=h.c;obtain⟨p4,e4,_⟩:=h.d;rcases hP with rfl | rfl | rfl | rfl
 . exact⟨_,e1⟩
 . exact⟨_,e2⟩
 . exact⟨_,e3⟩
 . exact⟨_,e4⟩
def U1.kp{H H':Z}{A:List Addr}(h:U1 t H)(k:Kp A H H')(n:∀P∈B7 t,P ∉ A):U1 t H':=⟨Q0 k (n _ m4a) h.a,E2 k (n _ m4b) h.b,E2 k (n _ m4c) h.c,E2 k (n _ m4d) h.d⟩
def U1.same{H H':Z}(h:U1 t H)(s:o6 H H'):U1 t H':=h.kp (Kp.of s:Kp [] H H') λ_ _ h=>nomatch h
def Kp.byB{H H':Z}{P:Addr}{g:Pos->Str}(h:K1 H P g)(s:L6 P H H')(h':K1 H' P g):Kp [P] H H':=by obtain⟨p,e,_⟩:=h;obtain⟨q,e',_⟩:=h';exact Kp.tb (bc _) e s e'
def Kp.tab{H H':Z}{P:Addr}(k:Kp [P] H H')(h:P∈B7 t):Kp (B7 t) H H':=k.mono λx hx=>by rw[af.mp hx];exact h
def Kp.drop{A B:List Addr}{H H':Z}(k:Kp A H H')(h:∀x∈A,x∈B\/H x=none):Kp B H H':=λx o e=>by
 rcases k x o e with z | ⟨i,z⟩
 . exact .inl z
 . rcases h x i with y | y
   . exact .inr ⟨y,z⟩
   . rw[y]at e;cases e
def U1.sw(T:Txt K mg t){H H':Z}(h:U1 t H)(s:L6 t.P_star_weigher H H')(h':K1 H' t.P_star_weigher J9):U1 t H':=by have nd:=T.d_tabs;simp only[bF,ah,ba,or_false,not_or,not_false_eq_true,and_true,List.nodup_nil]at nd;obtain⟨⟨iV,iU,iT⟩,⟨iS,iR⟩,jX⟩:=nd;have k:=Kp.byB h.b s h';exact⟨Q0 k (λz=>iV<|af.mp z) h.a,h',E2 k (λz=>iS (af.mp z).symm) h.c,E2 k (λz=>iR (af.mp z).symm) h.d⟩
def U1.tw(T:Txt K mg t){H H':Z}(h:U1 t H)(s:L6 t.P_then_weigher H H')(h':K1 H' t.P_then_weigher B0):U1 t H':=by have nd:=T.d_tabs;simp only[bF,ah,ba,or_false,not_or,not_false_eq_true,and_true,List.nodup_nil]at nd;obtain⟨⟨iV,iU,iT⟩,⟨iS,iR⟩,jX⟩:=nd;have k:=Kp.byB h.c s h';exact⟨Q0 k (λz=>iU<|af.mp z) h.a,E2 k (λz=>iS<|af.mp z) h.b,h',E2 k (λz=>jX (af.mp z).symm) h.d⟩
def U1.wg(T:Txt K mg t){H H':Z}(h:U1 t H)(s:L6 t.P_weigher H H')(h':K1 H' t.P_weigher C0):U1 t H':=by have nd:=T.d_tabs;simp only[bF,ah,ba,or_false,not_or,not_false_eq_true,and_true,List.nodup_nil]at nd;obtain⟨⟨iV,iU,iT⟩,⟨iS,iR⟩,jX⟩:=nd;have k:=Kp.byB h.d s h';exact⟨Q0 k (λz=>iT<|af.mp z) h.a,E2 k (λz=>iR<|af.mp z) h.b,E2 k (λz=>jX<|af.mp z) h.c,h'⟩
def U1.call(T:Txt K mg t){H H':Z}{B:List Addr}(h:U1 t H)(o:∀d∈B,∃bY,H d=some (.dK bY))(k:Kp (t.P_star_weight::B) H H')(h':R4 H' t.P_star_weight PV):U1 t H':=by
 have nd:=T.d_tabs;simp only[bF,ah,ba,or_false,not_or,not_false_eq_true,and_true,List.nodup_nil]at nd;obtain⟨⟨iV,iU,iT⟩,⟨iS,iR⟩,jX⟩:=nd;have no:∀P∈B7 t,P ∉ B:=λP hP z=>by
  obtain⟨ps,e⟩:=h.tb P hP;obtain⟨bY,e'⟩:=o P z;rw[e]at e';cases e'
 have nn:∀P,P∈B7 t->t.P_star_weight≠P->P ∉ t.P_star_weight::B:=λP hP ne z=>(ah.mp z).elim (λz=>ne z.symm)<|no P hP;exact⟨h',E2 k (nn _ m4b iV) h.b,E2 k (nn _ m4c iU) h.c,E2 k (nn _ m4d iT) h.d⟩
section
variable{R:o7 Pr w K mg base}{us:List w0g}{kv:V}{l:w0g}
theorem Wg.tbl{s:Sy R.S.W}{f:Addr}{A B:List Addr}{H H':Z}(x:Wg R.S R.is us kv s f A H)(k:Kp B H H')(tb:∀P∈B,∃ps,H P=some (.tbl ps)):Wg R.S R.is us kv s f A H':=x.kp k λd hd z=>by
 obtain⟨bY,e⟩:=x.old d hd;obtain⟨ps,e'⟩:=tb d z;rw[e]at e';cases e'
end
def El(t:JZ):Sp:=λvs H Q _=>∃kv,∃(g h:Addr),vs=[kv,.ref g,.ref h]/\U1 t H/\∀(f d m:Addr) H',Kp (B7 t) H H'->U1 t H'->H d=none->H' d=some (.dK [])->X8 H' f qlT Lt.1 Lt.2.1 Lt.2.2 Oz [.ref d,.ref m]->DwA H' m [kv,.ref g,.ref h]->Q (.ref f) H'
def Er(T:Txt K mg t)(dA:JX mg base t):m8 Pr w K mg base C8 2 t.then_weigher t.e0x KJ (El t):=by
 show T.e0n.F.okC Q6 T.tb_then_weigher T.d0w (by rintro _ _ _ _ ⟨_,_,_,rfl,_⟩;rfl) λA outer s H vs Q E hr h=>?_;obtain⟨kv,g,h,rfl,hT,k⟩:=h;show⟨_,(c7 (Ab (i:=3) Q6.nd Y (Or.inr Y) Jc)<|c7 (Qc (i:=4) (g:=B0) Q6.nd Y (Or.inr Y) dA.then_weigher Y Y Y Y Y (show ∀y:Str × NameKind,y∈_->y.2=.free->(c5 o9).names.lookup y.1=some .cell\/(c5 o9).names.lookup y.1=some .free from by decide +kernel) V3 Y<|Or.inl Y)<|c6<|U7 (fr:=Oz) (js:=[3,4]) (g:=B0) dA.then_weigher Y Y (λ_=>rfl) Y Y (by exact⟨(show ∀y:Str,y∈(Oz)->(c5 o9).names.lookup y=some .cell\/(c5 o9).names.lookup y=some .free from by decide +kernel),dK,dK,Y⟩) V3 Y),?_⟩;show λd nd=>?_;show KG (o:=.dK []) nd λH1 t1 k1=>?_;have T1:=hT.same t1;have dP:d≠t.P_then_weigher:=λz=>by
  obtain⟨ps,e,_⟩:=T1.c;rw[<- z,k1]at e;cases e
 show⟨T1.c,λm c dF pm du H2 s2 nm t2 c2 h2=>?_⟩;have T2:=T1.tw T s2 t2;have jy:=(Kp.of t1).trans<|(Kp.byB T1.c s2 t2).tab m4c;show⟨[.ref d,.ref m],Y,T2.c,λf H3 nf s3 t3 L Fr=>?_⟩;have dm:m≠t.P_then_weigher:=λz=>by
  obtain⟨ps,e,_⟩:=T2.c;rw[<- z,h2]at e;cases e
 have f3:=(Kp.byB T2.c s3 t3).f;exact k f d m H3 (jy.trans<|(Kp.byB T2.c s3 t3).tab m4c) (T2.tw T s3 t3) nd (s3 _ _ dP<|s2 _ _ dP k1) L ⟨_,dF,pm,du,c,s3 _ _ dm h2,c2.sameF f3,Fr (c5 Dw) KJ [0,1,2] [kv,.ref g,.ref h] ⟨(show ∀y:Str,y∈(KJ)->(c5 o9).names.lookup y=some .cell\/(c5 o9).names.lookup y=some .free from by decide +kernel),dK,dK,Y⟩ Y⟩
def Ap(w:World)(K:aa)(mg:w0f)(base:Heap)(t:JZ)(kE:Nat):Sp:=λvs H Q E=>∃(R:o7 Pr w K mg base),∃kv,∃(g:Addr),∃s us l B,vs=[kv,.ref g]/\
 (Dj R.C R.fs H kv/\U1 t H/\Wg R.S R.is us kv s g B H/\Cw us/\[]∈us/\Cn R.S l s/\vS s<=50000/\5 * M7 s<=kE)/\
 (wS R.S s []=R.S.zero->∀(f d:Addr) bY H',Kp (B7 t++B) H H'->U1 t H'->Wg R.S R.is us kv s g B H'->H d=none->H' d=some (.dK bY)->DU R us (K9 R.S<|wS R.S s) bY H'->y7 bY (kW [])≠none->X8 H' f qlS Ls.1 Ls.2.1 Ls.2.2 MF [kv,.ref g,.ref d]->Q (.ref f) H')/\
 (wS R.S s []≠R.S.zero->∀H',Kp (B7 t++B) H H'->U1 t H'->E (.ref t.j0k) none H')
def O9(T:Txt K mg t)(dA:JX mg base t)(kE:Nat):m8 Pr w K mg base (Iz Pr w) (kE+49) t.star_weigher t.e0y Ex (Ap w K mg base t kE):=by
 show T.e0q.F.okxC Aq T.tb_star_weigher T.e0j (by rintro _ _ _ _ ⟨_,_,_,_,_,_,_,rfl,_⟩;rfl) λA outer s H vs Q E hr h=>?_;obtain⟨R,kv,g,sy,us,l,B,rfl,⟨hk,hT,hg,hc,hu,o,hv,hh⟩,k0,k1⟩:=h;show⟨_,(c7 (Bg<|Pf.thru Cq<|CC (CI T) (hr.mono oM) Y T.e0d.m T.e0d.F.kp T.e0d.b .nil<|C5 (U 0)<|J0 (k:=(kE+47)) (hr.mono oM) (U 1)<|C6 k8)<|c7 (Ab (i:=2) Aq.nd Y (Or.inr Y)<|HA (N8 k8 (T9 (U 0) R.cl R.t_one R.G_one (hr.mono oM) R.b_one .nil t8) Hx) Y Y (λh=>by cases h) bD)<|c6<|U7 (fr:=MF) (js:=[0,1,2]) (g:=J9) dA.star_weigher Y Y (λ_=>rfl) Y Y (by exact⟨(show ∀y:Str,y∈(MF)->(c5 z7).names.lookup y=some .cell\/(c5 z7).names.lookup y=some .free from by decide +kernel),dK,dK,Y⟩) CY Y),?_⟩;have F:=L5 (show _<=kE+47 by omega)<|Ck (kv:=kv) T hc sy o hv base dA g B;have em:V.str (Str.ofString "")=vT []:=by rw[BA];rfl
 show vb Y Y ⟨g,O Y ⟨hg.fn,F,Y,hg.fn,?_⟩⟩;rw[em];show⟨[],Y,⟨hu,hg,hT.a,hk⟩,λv H1 lI j1 f1=>?_⟩;have T1:=hT.call T (λd hd=>hg.old d hd) lI j1.t;have jY:Kp (B7 t++B) H H1:=lI.mono λx hx=>(ah.mp hx).elim (λe=>by rw[e];exact aF _ m4a) λh=>ar _ h;show⟨R,zf kv v _ ⟨Y,⟨j1.k,f1⟩,λe H2 s2=>?_,λe H2 s2=>k1 e H2 (jY.trans<|.of s2)<|T1.same s2⟩⟩;have j2:=j1.same s2;obtain⟨kp,dx,ek,ou⟩:=id j2.k;show λd nd=>?_;show KG (o:=.dK []) nd λH3 t3 k3=>?_;have j3:=j2.same t3;show O Y<|zb ⟨ek,t3 _ _ ou,R.l_one,O Y ⟨j3.k,λov H4 s4 f4=>?_⟩⟩;show⟨s4 _ _ k3,[(kW [],ov)],Y,(show 1<=15 by decide),?_⟩;have Iw:o6 H2 (upd H4 d<|.dK<|K2 [] (kW []) ov):=λb o e=>by
  rw[k9<|l9 e nd];exact s4 _ _ (t3 _ _ e)
 have k5:=c8 (H:=H4) (a:=d) (o:=.dK<|K2 [] (kW []) ov);have f5:=R.same (Cv (o:=.dK<|K2 [] (kW []) ov)<|s4 _ _ k3) f4;change Bz 2 (.ref d) _ (upd H4 d<|.dK<|K2 [] (kW []) ov) _;revert Iw k5 f5;generalize upd H4 d (.dK<|K2 [] (kW []) ov)=H5;intro Iw k5 f5;have T5:=(T1.same s2).same Iw;have j5:=j2.same Iw;have jy:=jY.trans<|.of s2;have jx:=jy.trans<|.of Iw;show⟨[kv,.ref g,.ref d],Y,T5.b,λf H6 nf s6 t6 L Fr=>?_⟩;have kw:=(Kp.byB T5.b s6 t6).tab m4b;have dP:d≠t.P_star_weigher:=λz=>by
  obtain⟨ps,e,_⟩:=T5.b;rw[<- z,k5]at e;cases e
 exact k0 e f d _ H6 (jx.trans<|kw.mono λx hx=>aF _ hx) (T5.sw T s6 t6) (j5.w.tbl kw T5.tb) (jy.new nd) (s6 _ _ dP k5) ((Pm.nil.put hu Y<|show R.is H5 ov (K9 R.S (wS R.S sy) [])from f5).same kw.st) (by rw[Ay,if_pos rfl];exact λz=>nomatch z) L
section
variable{R:o7 Pr w K mg base}{us:List w0g}{kv:V}{l:w0g}
def Kp.trans'{A B:List Addr}{H H1 H':Z}(a:Kp A H H1)(b:Kp (A++B) H1 H')(n:∀x∈B,H x=none):Kp A H H':=((a.mono λ_ h=>aF _ h).trans b).drop λx hx=>(aw.mp hx).imp id (n x)
def GB(R:o7 Pr w K mg base)(us:List w0g)(kv:V):List (Sy R.S.W)->List V->List Addr->Z->Prop
 | [],ys,A,_=>ys=[]/\A=[]
 | s::ss,ys,A,H=>∃f B C zs,ys=.ref f::zs/\A=B++C/\(∀x∈B,x ∉ C)/\Wg R.S R.is us kv s f B H/\GB R us kv ss zs C H
theorem GB.snoc{H:Z}{s:Sy R.S.W}{f:Addr}{B:List Addr}:∀{ss:List (Sy R.S.W)} {ys:List V} {A:List Addr},GB R us kv ss ys A H->Wg R.S R.is us kv s f B H->(∀x∈A,x ∉ B)->GB R us kv (ss++[s]) (ys++[.ref f]) (A++B) H
 | [],_,_,⟨e1,e2⟩,h,_=>by
  subst e1;subst e2;exact⟨f,B,[],[],Y,by simp,(λ_ _ z=>nomatch z),h,Y,Y⟩
 | s'::ss,_,_,⟨f',B',C,zs,e1,e2,dj,h',hs⟩,h,d=>by
  subst e1;subst e2;exact⟨f',B',C++B,zs++[.ref f],Y,List.append_assoc ..,λx hx z=>(aw.mp z).elim (dj x hx)<|d x<|aF _ hx,h',GB.snoc hs h λx hx=>d x<|ar _ hx⟩
theorem GB.kp{H H':Z}{B:List Addr}(k:Kp B H H'):∀{ss:List (Sy R.S.W)} {ys:List V} {A:List Addr},GB R us kv ss ys A H->(∀x∈A,x ∉ B)->GB R us kv ss ys A H'
 | [],_,_,h,_=>h
 | s'::ss,_,_,⟨f',B',C,zs,e1,e2,dj,h',hs⟩,d=>by
  subst e1;subst e2;exact⟨f',B',C,zs,Y,Y,dj,h'.kp k λx hx=>d x<|aF _ hx,GB.kp k hs λx hx=>d x<|ar _ hx⟩
theorem GB.old{H:Z}:∀{ss:List (Sy R.S.W)} {ys:List V} {A:List Addr},GB R us kv ss ys A H->∀d∈A,∃bY,H d=some (.dK bY)
 | [],_,_,⟨_,e⟩,d,hd=>by rw[e]at hd;cases hd
 | s'::ss,_,_,⟨f',B',C,zs,e1,e2,dj,h',hs⟩,d,hd=>by
  subst e2;rcases aw.mp hd with hd | hd
  . exact h'.old d hd
  . exact GB.old hs d hd
theorem GB.len{H:Z}:∀{ss:List (Sy R.S.W)} {ys:List V} {A:List Addr},GB R us kv ss ys A H->ys.length=ss.length
 | [],_,_,⟨e,_⟩=>by rw[e];rfl
 | s'::ss,_,_,⟨f',B',C,zs,e1,e2,dj,h',hs⟩=>by
  subst e1;rw[bg,bg,GB.len hs]
theorem GB.tbl{ss:List (Sy R.S.W)}{ys:List V}{A B:List Addr}{H H':Z}(x:GB R us kv ss ys A H)(k:Kp B H H')(tb:∀P∈B,∃ps,H P=some (.tbl ps)):GB R us kv ss ys A H':=x.kp k λd hd z=>by
 obtain⟨bY,e⟩:=x.old d hd;obtain⟨ps,e'⟩:=tb d z;rw[e]at e';cases e'
def Rl{S:SR}{s a:Sy S.W}(h:a∈Aa s)(o:oS S a):oS S s:=by
 cases s with
 | nil=>cases h
 | word x=>cases h
 | times c x=>cases af.mp h;exact o
 | one f x=>cases af.mp h;exact .inl o
 | two f x y=>
  have e:a=x\/a=y:=by simpa [Aa] using h
  rcases e with rfl | rfl
  . exact .inl o
  . exact .inr o
end
def BI(w:World)(K:aa)(mg:w0f)(base:Heap)(t:JZ)(N:Nat):Sp:=λvs H Q E=>∃(R:o7 Pr w K mg base),∃kv v s us l,vs=[kv,v]/\
 (Dj R.C R.fs H kv/\SV R s v H/\U1 t H/\Cw us/\[]∈us/\Cn R.S l s/\M7 s<=N/\vS s<=50000)/\
 (¬oS R.S s->∀(f:Addr) A H',Kp (B7 t) H H'->U1 t H'->(∀x∈A,H x=none)->Wg R.S R.is us kv s f A H'->Q (.ref f) H')/\
 (oS R.S s->∀H',Kp (B7 t) H H'->U1 t H'->E (.ref t.j0k) none H')
theorem DZ(T:Txt K mg t):∀(N:Nat) {w:World} {base:Heap} (_:JX mg base t) (_:WK w K mg aW),m8 Pr w K mg base (Iz Pr w) (5 * N+50) t.weigher t.i0v HL (BI w K mg base t N)
 | 0,w,base,dA,hW=>by
  show T.i0u.F.okxC Y4 T.tb_weigher T.i0s (λvs H Q E h=>?_) (λA outer s H vs Q E hr h=>?_)
  . obtain⟨R,kv,v,s,us,l,rfl,_⟩:=h;rfl
  . obtain⟨R,kv,v,s,us,l,rfl,⟨_,_,_,_,_,_,h0,_⟩,_⟩:=h;have:=FJ s;omega
 | N+1,w,base,dA,hW=>by
  have AR:∀{w:World} {base:Heap} (T:Txt K mg t) (_:JX mg base t) (_:WK w K mg aW),m8 Pr w K mg base (Iz Pr w) (5 * N+50) t.weigher t.i0v HL (BI w K mg base t N):=λT dA hW=>DZ T N dA hW;have O9:∀(T:Txt K mg t) (_:JX mg base t),m8 Pr w K mg base (Iz Pr w) (5 * N+49) t.star_weigher t.e0y Ex (Ap w K mg base t<|5 * N):=λT dA=>O9 T dA<|5 * N;show T.i0u.F.okxC Y4 T.tb_weigher T.i0s (λvs H Q E h=>?_) (λA outer s H vs Q E hr h=>?_)
  . obtain⟨R,kv,v,s,us,l,rfl,_⟩:=h;rfl
  . obtain⟨R,kv,v,sy,us,l,rfl,⟨hk,hv,hT,hc,hu,o,hh,fK⟩,k0,k1⟩:=h;have zl:=sZ;show⟨_,(c7 (sT 2 Y4.nd<|z6 l7 (U 1) c4)<|c7 (Ab (i:=3) Y4.nd Y (Or.inr Y)<|Os (xs:=["part"]) Cq Y (oC [X9,FW,"form","of"]<|c5 w9) (Hy<|p8 (CJ T hW) (hr.mono oM) Y T.d0t.m T.d0t.F.kp T.d0t.b .nil t8<|C6<|U 1) (λ_ _ _ _ _=>(R9 (i:=4) (by show List.Nodup ([X9,FW,"form","of","part"]:w0h);decide +kernel) Y<|Or.inl Y))<|λ_ _ _ _ _=>(CC (AR (w:=w) (base:=base) T dA hW) (hr.mono oM) Y T.i0u.m T.i0u.F.kp T.i0u.b .nil<|C5 (U 0)<|U 4))<|c7 (o3 (c9 w8 (U 2) k8<|j7 _) (c6<|U7 (fr:=[X9]) (js:=[0]) (g:=C0) dA.weigher Y Y (λ_=>rfl) Y Y (by exact⟨(show ∀y:Str,y∈([X9]:w0h)->(c5 w9).names.lookup y=some .cell\/(c5 w9).names.lookup y=some .free from by decide +kernel),dK,dK,Y⟩) K4 Y) k6)<|c7 (o3 (c9 w8 (U 2) k8<|j7 _) (c6<|U7 (fr:=HL) (js:=[0,1]) (g:=C0) dA.weigher Y Y (λ_=>rfl) Y Y (by exact⟨(show ∀y:Str,y∈(HL)->(c5 w9).names.lookup y=some .cell\/(c5 w9).names.lookup y=some .free from by decide +kernel),dK,dK,Y⟩) K4 Y) k6)<|c7 (o3 (c9 w8 (U 2) k8<|j7 _) (c6<|U7 (fr:=Qm) (js:=[0,1,3]) (g:=C0) dA.weigher Y Y (λ_=>rfl) Y Y (by exact⟨(show ∀y:Str,y∈(Qm)->(c5 w9).names.lookup y=some .cell\/(c5 w9).names.lookup y=some .free from by decide +kernel),dK,dK,Y⟩) K4 Y) k6)<|c7 (o3 (c9 w8 (U 2) k8<|j7 _) (c6<|U7 (fr:=["of"]) (js:=[3]) (g:=C0) dA.weigher Y Y (λ_=>rfl) Y Y (by exact⟨(show ∀y:Str,y∈(["of"]:w0h)->(c5 w9).names.lookup y=some .cell\/(c5 w9).names.lookup y=some .free from by decide +kernel),dK,dK,Y⟩) K4 Y) k6)<|c7 (o3 (c9 w8 (U 2) k8<|j7 _) (c6<|i3<|Pf.thru Cq<|CC (O9 T dA) (hr.mono oM) Y T.e0q.m T.e0q.F.kp T.e0q.b .nil<|C5 (U 0)<|z6 o4 (U 3) c4) k6)<|c7 (o3 (c9 w8 (U 2) k8<|j7 _) (c6<|U7 (fr:=Ex) (js:=[0,3]) (g:=C0) dA.weigher Y Y (λ_=>rfl) Y Y (by exact⟨(show ∀y:Str,y∈(Ex)->(c5 w9).names.lookup y=some .cell\/(c5 w9).names.lookup y=some .free from by decide +kernel),dK,dK,Y⟩) K4 Y) k6)<|c7 (o3 (c9 w8 (U 2) k8<|j7 _) (c6<|i3<|p8 (Er T dA) (hr.mono oM) Y T.e0n.m T.e0n.F.kp T.e0n.b .nil t8<|Gg (U 0) (z6 o4 (U 3) c4)<|z6 o4 (U 3) c4) k6)<|c6<|U7 (fr:=Ex) (js:=[0,3]) (g:=C0) dA.weigher Y Y (λ_=>rfl) Y Y (by exact⟨(show ∀y:Str,y∈(Ex)->(c5 w9).names.lookup y=some .cell\/(c5 w9).names.lookup y=some .free from by decide +kernel),dK,dK,Y⟩) K4 Y),?_⟩;obtain⟨p,es,eS,rfl,hp,le,lu,lJ⟩:=hv.look;have e0:Dh ((vT (Ag sy)::es)++eS) 0=some (vT<|Ag sy):=D9 (show((vT (Ag sy)::es)++eS)[0]? = some (vT<|Ag sy)from rfl);show O Y<|zc ⟨Y,Y,y4.of hp,e0,?_⟩;obtain⟨_,x2⟩:=DP sy;show O Y ⟨R,ze sy _ ⟨Y,hv,λq ws H1 s1 hq lw hw=>?_⟩⟩;show⟨q,Y,⟨_,y4.of hq⟩,EM (n:=(Aa sy).length) (λj ys G=>ys.length=j/\∃A,Kp (B7 t) H1 G/\U1 t G/\(∀x∈A,H1 x=none)/\GB R us kv ((Aa sy).take j) ys A G/\∀b∈(Aa sy).take j,¬oS R.S b) oM ⟨Y,[],Kp.refl,hT.same s1,(λ_ h=>nomatch h),⟨Y,Y⟩,(λ_ h=>nomatch h)⟩ (λj ys G z=>z.1) ?_ ?_ ?_⟩
    . rintro j ys G hj ⟨ly,A,kp,T2,fr,wg,no⟩;obtain⟨x,ex⟩:∃x,ws[j]? = some x:=⟨_,aJ oM⟩;obtain⟨a,ea,sx⟩:=hw j x ex;have kl:=kp.st _ _ hq;have ja:Kp (B7 t) H G:=(Kp.of s1).trans kp;show⟨za ⟨y4.of kl,ex⟩,λy H' fb=>?_⟩;obtain⟨rfl,fb⟩:=fb;have:=fb _<|y4.of kl;rw[ex]at this;cases this;have ma:=aD ea;have h1:=Jz ma;have h2:=EN ma;show⟨⟨[some _],Y,Y⟩,vb Y Y ⟨R,zh kv x a us l ⟨Y,⟨ja.k hk,sx.same kp.st,T2,hc,hu,LA o ma,oM,oM⟩,λna f B H5 jx T5 iH W5=>?_,λoa H5 jx T5=>k1 (Rl ma oa) H5 (ja.trans jx) T5⟩⟩⟩;show⟨by rw[ao,ly];rfl,A++B,kp.trans jx,T5,λx hx=>?_,?_,λb hb=>?_⟩
      . rcases aw.mp hx with hx | hx
        . exact fr x hx
        . exact kp.new (iH x hx)
      . rw[D0 ea];show GB.snoc (wg.tbl jx T2.tb) W5 λx hx z=>?_;obtain⟨bY,e⟩:=wg.old x hx;rw[iH x z]at e;cases e
      . rw[D0 ea]at hb;rcases aw.mp hb with hb | hb
        . exact no b hb
        . rw[af.mp hb];exact na
    . rintro ys G ⟨_,A,kp,_⟩;exact⟨_,y4.of<|kp.st _ _ hq,by rw[lw];exact ae _⟩
    . rintro ys G lp ⟨ly,A,kp,T2,fr,wg,no⟩ gh;rw[bI]at wg no;have t3:=j6 (o:=.lst ys) gh;have jz:=c8 (H:=G) (a:=lp) (o:=.lst ys);have ja:Kp (B7 t) H G:=(Kp.of s1).trans kp;have gy:=ja.trans<|.of t3;have T3:=T2.same t3;have gm:∀x∈A,H x=none:=λx hx=>(Kp.of s1:Kp [] H H1).new<|fr x hx;have jv:=wg.tbl (Kp.of t3:Kp [] _ _) λ_ h=>nomatch h;revert jz gy T3 jv;clear t3 ja wg kp T2 gh;generalize upd G lp (.lst ys)=H2;intro jz gy T3 jv;have dD:∀H3,L6 t.P_weigher H2 H3->K1 H3 t.P_weigher C0->Kp (B7 t) H H3/\U1 t H3/\GB R us kv (Aa sy) ys A H3/\SV R sy (.ref p) H3/\H3 lp=some (.lst ys)/\Dj R.C R.fs H3 kv:=λH3 s3 t3=>by
       have kw:=(Kp.byB T3.d s3 t3).tab m4d;have k':=gy.trans kw;exact⟨k',T3.wg T s3 t3,jv.tbl kw T3.tb,hv.same k'.st,kw.l jz,k'.k hk⟩
      cases sy with
      | nil=>
       show O Y ⟨Y,O Y<|fY (x:=nN) Q2 ?_⟩;show⟨[kv],Y,T3.d,λf H3 nf s3 t3 L Fr=>?_⟩;obtain⟨a,b,_⟩:=dD H3 s3 t3;exact k0 id f [] H3 a b (λ_ h=>nomatch h) ⟨Y,L⟩
      | word x=>
       show O Y ⟨Y,O Y<|fN (x:=nW) Q2 bD ?_⟩;show O Y ⟨Y,O Y<|fY (x:=nW) E4 ?_⟩;show⟨[kv,.ref p],Y,T3.d,λf H3 nf s3 t3 L Fr=>?_⟩;obtain⟨a,b,_,c,_⟩:=dD H3 s3 t3;obtain⟨p',e,nZ⟩:=c;cases e;exact k0 id f [] H3 a b (λ_ h=>nomatch h) ⟨Y,p,L,nZ⟩
      | times c a=>
       obtain⟨g,B,C,zs,e1,e2,dj,wa,e3,e4⟩:=id jv;subst e1;subst e2;subst e3;subst e4;show O Y ⟨Y,O Y<|fN (x:=nT) Q2 bD ?_⟩;show O Y ⟨Y,O Y<|fN (x:=nT) E4 bD ?_⟩;show O Y ⟨Y,O Y<|fY (x:=nT) U9 ?_⟩;show⟨[kv,.ref p,.ref lp],Y,T3.d,λf H3 nf s3 t3 L Fr=>?_⟩;obtain⟨x1,x2,⟨g',B',C',pH,e1,e2,rN,jK,e3,e4⟩,x4,x5,_⟩:=dD H3 s3 t3;subst e4;cases e1;obtain⟨p',u,y,e,nZ,vI,_⟩:=x4;cases e;exact k0 (no a<|by simp[Aa]) f _ H3 x1 x2 gm ⟨p,u,y,lp,g,L,nZ,vI,x5,by rw[e2,aY];exact jK⟩
      | one b a=>
       obtain⟨g,B,C,zs,e1,e2,dj,wa,e3,e4⟩:=id jv;subst e1;subst e2;subst e3;subst e4;have eg:Dh [V.ref g] 0=some (.ref g):=rfl;cases b with
       | false=>
        show O Y ⟨Y,O Y<|fN (x:=n1 false) Q2 bD ?_⟩;show O Y ⟨Y,O Y<|fN (x:=n1 false) E4 bD ?_⟩;show O Y ⟨Y,O Y<|fN (x:=n1 false) U9 bD ?_⟩;show O Y ⟨Y,O Y<|fY (x:=n1 false) Dg ?_⟩;show⟨[.ref lp],Y,T3.d,λf H3 nf s3 t3 L Fr=>?_⟩;obtain⟨x1,x2,⟨g',B',C',pH,e1,e2,rN,jK,e3,e4⟩,x4,x5,_⟩:=dD H3 s3 t3;subst e4;cases e1;show k0 (λz=>z.elim (no a<|by simp[Aa]) λz=>nomatch z.1) f _ H3 x1 x2 gm ⟨lp,g,L,x5,by rw[e2,aY];exact jK⟩
       | true=>
        have jb:11 * vS a<=50000:=fK;have vZ:M7 a+1<=N+1:=hh;rw[aY]at gm;show O Y ⟨Y,O Y<|fN (x:=n1 true) Q2 bD ?_⟩;show O Y ⟨Y,O Y<|fN (x:=n1 true) E4 bD ?_⟩;show O Y ⟨Y,O Y<|fN (x:=n1 true) U9 bD ?_⟩;show O Y ⟨Y,O Y<|fN (x:=n1 true) Dg bD ?_⟩;show O Y ⟨Y,O Y<|fY (x:=n1 true) Ao ?_⟩;show vb Y Y<|zc ⟨Y,Y,y8.of jz,eg,R,zi kv g a us l B ⟨Y,⟨gy.k hk,T3,wa,hc,hu,o,oM,oM⟩,λe f d bY H4 iZ T4 tL nd hd hD h0 L=>?_,λe H4 iZ T4=>k1 (.inr ⟨Y,e⟩) H4 (gy.trans' iZ gm) T4⟩⟩;show k0 (λz=>z.elim (no a<|by simp[Aa]) λz=>z.2 e) f (d::B) H4 (gy.trans' iZ gm) T4 (λx hx=>?_) ⟨g,d,bY,B,L,⟨Y,λz=>?_⟩,⟨hd,hD,h0⟩,tL⟩
        . rcases ah.mp hx with rfl | hx
          . exact gy.new nd
          . exact gm x hx
        . obtain⟨dB,e⟩:=wa.old d z;rw[nd]at e;cases e
      | two n a b=>
       obtain⟨g,B,C,zs,e1,e2,dj,wa,h,C',D,pH,e3,e4,rN,wb,e5,e6⟩:=id jv;subst e1;subst e2;subst e3;subst e4;subst e5;subst e6;rw[aY]at gm dj;have eg:Dh [V.ref g,V.ref h] 0=some (.ref g):=rfl;have eh:Dh [V.ref g,V.ref h] 1=some (.ref h):=rfl;have qc:¬oS R.S (.two n a b):=λz=>z.elim (no a<|by simp[Aa]) (no b<|by simp[Aa]);have f3:=o.1;have plain:∀f H3,L6 t.P_weigher H2 H3->K1 H3 t.P_weigher C0->n≠1->Va H3 f (7+n) Ex [kv,.ref lp]->Q (.ref f) H3:=λf H3 s3 t3 ne L=>by
        obtain⟨x1,x2,⟨g',B1,C1,xm,e1,e2,rM,jK,h',C2,D1,xk,e3,e4,xU,tM,e5,e6⟩,x4,x5,_⟩:=dD H3 s3 t3;subst e5;subst e6;cases e3;cases e1;rw[e4,aY]at e2;rw[aY]at e2;rw[e4,aY]at rM;exact k0 qc f _ H3 x1 x2 gm (by unfold Wg;rw[if_neg ne];exact⟨lp,g,h,B1,C2,L,x5,⟨e2,rM⟩,jK,tM⟩)
       rcases(by omega:n=0\/n=1\/n=2)with rfl | rfl | rfl
       . show O Y ⟨Y,O Y<|fN (x:=n2 0) Q2 bD ?_⟩;show O Y ⟨Y,O Y<|fN (x:=n2 0) E4 bD ?_⟩;show O Y ⟨Y,O Y<|fN (x:=n2 0) U9 bD ?_⟩;show O Y ⟨Y,O Y<|fN (x:=n2 0) Dg bD ?_⟩;show O Y ⟨Y,O Y<|fN (x:=n2 0) Ao bD ?_⟩;show O Y ⟨Y,O Y<|fY (x:=n2 0) Bt ?_⟩;exact⟨[kv,.ref lp],Y,T3.d,λf H3 nf s3 t3 L Fr=>plain f H3 s3 t3 bD L⟩
       . show O Y ⟨Y,O Y<|fN (x:=n2 1) Q2 bD ?_⟩;show O Y ⟨Y,O Y<|fN (x:=n2 1) E4 bD ?_⟩;show O Y ⟨Y,O Y<|fN (x:=n2 1) U9 bD ?_⟩;show O Y ⟨Y,O Y<|fN (x:=n2 1) Dg bD ?_⟩;show O Y ⟨Y,O Y<|fN (x:=n2 1) Ao bD ?_⟩;show O Y ⟨Y,O Y<|fN (x:=n2 1) Bt bD ?_⟩;show O Y ⟨Y,O Y<|fY (x:=n2 1) ER ?_⟩;show vb Y Y<|zc ⟨Y,Y,y8.of jz,eg,O Y<|zc ⟨Y,Y,y8.of jz,eh,kv,g,h,Y,T3,λf d m H4 iZ T4 nd hd L Dw=>?_⟩⟩;show k0 qc f (d::(B++C')) H4 (gy.trans iZ) T4 (λx hx=>?_) (by
          unfold Wg;rw[if_pos rfl];show⟨g,h,d,m,[],B,C',L,Dw,⟨Y,λz=>?_,dj⟩,⟨hd,Pm.nil⟩,wa.tbl iZ T3.tb,wb.tbl iZ T3.tb⟩;rcases aw.mp z with z | z
          . obtain⟨dB,e⟩:=wa.old d z;rw[nd]at e;cases e
          . obtain⟨dB,e⟩:=wb.old d z;rw[nd]at e;cases e)
         rcases ah.mp hx with rfl | hx
         . exact gy.new nd
         . exact gm x hx
       . show O Y ⟨Y,O Y<|fN (x:=n2 2) Q2 bD ?_⟩;show O Y ⟨Y,O Y<|fN (x:=n2 2) E4 bD ?_⟩;show O Y ⟨Y,O Y<|fN (x:=n2 2) U9 bD ?_⟩;show O Y ⟨Y,O Y<|fN (x:=n2 2) Dg bD ?_⟩;show O Y ⟨Y,O Y<|fN (x:=n2 2) Ao bD ?_⟩;show O Y ⟨Y,O Y<|fN (x:=n2 2) Bt bD ?_⟩;show O Y ⟨Y,O Y<|fN (x:=n2 2) ER bD ?_⟩;exact⟨[kv,.ref lp],Y,T3.d,λf H3 nf s3 t3 L Fr=>plain f H3 s3 t3 bD L⟩
def NA{l:w0g}{i c:Nat}(h:(tx l).cps[i]? = some c):l[i]? = some c:=by simpa [tx] using h
abbrev Pk:Str:=Str.ofString "abcdefghijklmnopqrstuvwxyz"
def NO{c:Nat}(h:97<=c/\c<=122):(!(Builtin.Str.occurrences Pk (tx [c]) 0 Pk.length 1).isEmpty)=true:=by
 have:∀k:Fin 26,(!(Builtin.Str.occurrences Pk (tx [97+k.val]) 0 Pk.length 1).isEmpty)=true:=by decide +kernel
 have e:=this ⟨c - 97,oM⟩;rwa [show 97+(⟨c - 97,oM⟩:Fin 26).val=c by show 97+(c - 97)=c;omega]at e
def sp_is_word:Sp:=λvs H Q _=>∃ws,vs=[.str Pk,vT ws]/\((∀c∈ws,97<=c/\c<=122)/\ws.length<=1000)/\∀H',o6 H H'->Q (.bl true) H'
def KC(T:Txt K mg t):m8 Pr w K mg base C8 1 t.k0k t.j0e HM sp_is_word:=by
 show T.i0y.F.okA Kl λ_ _ _ _ H _ Q _ hr h=>?_;obtain⟨ws,rfl,⟨W,wz⟩,k⟩:=h;show⟨_,(c6<|i3<|Ac (l4 K0 bR T.z_isinstance boot_isinstance<|C5 (U 1)<|O1 (v:=.ty "str") Y T.z_str boot_str Y)<|S9<|l4 (OY Y) bR T.z_all boot_all<|C6<|HB (xs:=["sign"]) Y (oC HM<|c5 Be) (Kx<|U 1) (R9 (i:=2) (by show List.Nodup (["letters","thing","sign"]:w0h);decide +kernel) Y<|Or.inl Y)<|O0 Mz (U 2) (U 0)<|by with_unfolding_all rfl),?_⟩;show O Y<|zc ⟨Y,P3.str _,T.k_ss,O Y ?_⟩;show B9 ?_;show vb Y Y ⟨NB λc hc=>by have:=W c hc;omega,EM (n:=ws.length) (λj ys H2=>ys=(List.replicate j true).map V.bl/\H2=H) oM ⟨Y,Y⟩ (λj ys H2 q=>by rw[q.1];simp) ?_ ?_ ?_⟩
 . rintro j ys H2 hj ⟨rfl,rfl⟩;show⟨(by show j < ws.toArray.size;simpa using hj),λy H' hy=>?_⟩;obtain⟨rfl,c,hc,rfl⟩:=hy;have o:=NO<|W c<|aD<|NA hc;show⟨⟨[some _],Y,Y⟩,vb Y Y<|za ⟨Y,Y,?_,Y⟩⟩;show _++[V.bl<|!(Builtin.Str.occurrences Pk (tx [c]) 0 Pk.length 1).isEmpty]=_;rw[o,List.replicate_succ',bh];rfl
 . rintro ys H2 ⟨rfl,rfl⟩;show ws.toArray.size<=_;simp
 . rintro ys H2 p ⟨rfl,rfl⟩ np;show⟨p,List.replicate ws.length true,Y,y8.of c8,?_⟩;have e:(List.replicate ws.length true).all id=true:=by rw[ck];exact λb hb=>(List.mem_replicate.mp hb).2
   show Q (.bl<|(List.replicate ws.length true).all id) _;rw[e];exact k _ (j6 np)
def sp_need_word:Sp:=λvs H Q _=>∃ws,vs=[.str Pk,vT ws]/\((∀c∈ws,97<=c/\c<=122)/\ws.length<=1000)/\∀H',o6 H H'->Q .non H'
def HG(T:Txt K mg t):m8 Pr w K mg base C8 2 t.j0a t.g0v HM sp_need_word:=by
 show T.h0c.F.okA Hm λ_ _ _ _ _ _ _ _ hr h=>?_;obtain⟨ws,rfl,W,k⟩:=h;show⟨_,(c6<|o3 (W2<|E9<|M6 (KC T) hr.m T.i0y<|C5 (U 0)<|U 1) (c6 CF) k6),?_⟩;show vb Y Y ⟨ws,Y,W,λH' s'=>(O Y ?_)⟩
 (try show t7 ?_)
 exact k _ s'
def AR(T:Txt K mg t)(dA:JX mg base t)(hW:WK w K mg aW):m8 Pr w K mg base (Iz Pr w) 100 t.weigher t.i0v HL (BI w K mg base t 10):=DZ T 10 dA hW
def PF(w:World)(K:aa)(mg:w0f)(base:Heap)(t:JZ):Sp:=λvs H Q E=>∃(R:o7 Pr w K mg base),∃kv v u s us l,vs=[kv,v,vT u]/\
 (Dj R.C R.fs H kv/\SV R s v H/\U1 t H/\Cw us/\[]∈us/\u∈us/\(∀c∈u,97<=c/\c<=122)/\Cn R.S l s/\M7 s<=10/\vS s<=50000)/\
 (¬oS R.S s->∀v' H',Kp (B7 t) H H'->U1 t H'->R.is H' v' (wS R.S s u)->Q v' H')/\
 (oS R.S s->∀H',Kp (B7 t) H H'->U1 t H'->E (.ref t.j0k) none H')
def Ep(T:Txt K mg t)(dA:JX mg base t)(hW:WK w K mg aW):m8 Pr w K mg base (Iz Pr w) 112 t.h0a t.f0n Qp (PF w K mg base t):=by
 show T.f0g.F.okx EY (by rintro _ _ _ _ ⟨_,_,_,_,_,_,_,rfl,_⟩;rfl) λ_ A _ _ H _ _ _ hr h=>?_;obtain⟨R,kv,v,u,sy,us,l,rfl,⟨hk,hv,hT,hc,he,hu,hs,o,hh,fK⟩,k0,k1⟩:=h;have gX:=hc.ln u hu;show⟨_,(c7 (Bg<|p8 (HG T) (hr.mono oM) Y T.h0c.m T.h0c.F.kp T.h0c.b .nil t8<|C5 (Hz (v:=.str "abcdefghijklmnopqrstuvwxyz") Y T.c_SMALL_LETTERS.choose_spec ⟨_,Y⟩)<|U 2)<|c6<|i3<|J0 (k:=107) (hr.mono oM) (Pf.thru Cq<|CC (AR T dA hW) (hr.mono oM) Y T.i0u.m T.i0u.F.kp T.i0u.b .nil<|C5 (U 0)<|U 1)<|C6<|U 2),?_⟩;show O Y ⟨u,Y,⟨hs,oM⟩,λH1 s1=>?_⟩;show vb Y Y ⟨R,zh kv v sy us l ⟨Y,⟨hk.same s1,hv.same s1.t,hT.same s1,hc,he,o,hh,fK⟩,λno f A H2 kp T2 fr W=>?_,λoo H2 kp T2=>k1 oo H2 ((Kp.of s1).trans kp) T2⟩⟩;have F:=L5 (show _<=107 by omega)<|Ck (kv:=kv) T hc sy o fK base dA f A;show⟨f,O Y ⟨W.fn,F,O Y ⟨Y,W.fn,u,Y,⟨hu,W,T2.a,kp.k<|hk.same s1⟩,λv' H3 k3 j3 f3=>k0 no v' H3 ?_ (T2.call T (λd hd=>W.old d hd) k3 j3.t) f3⟩⟩⟩;show Kp.trans' ((Kp.of s1).trans kp) (k3.mono λx hx=>?_) λx hx=>(Kp.of s1:Kp [] H H1).new<|fr x hx;rcases ah.mp hx with hx | hx
 . rw[hx];exact aF _ m4a
 . exact ar _ hx
def SV.ext{R:o7 Pr w K mg base}{s:Sy R.S.W}{p:Addr}{es us:List V}{H:Z}(h:SV R s (.ref p) H)(hp:H p=some (.tup<|(vT (Ag s)::es)++us))(le:es.length=exN s):∀u∈es,(∃x,u=vT x)\/∃c,R.is H u c:=λu hu=>by
 cases s with
 | word x=>
  obtain⟨p',e,h'⟩:=h;cases e;rw[h']at hp
  match es,le,hu,hp with
  | [y],_,hu,hp=>
   cases hp;exact .inl ⟨x,af.mp hu⟩
 | times c a=>
  obtain⟨p',cu,y,e,h',hc,_⟩:=h;cases e;rw[h']at hp
  match es,le,hu,hp with
  | [z],_,hu,hp=>
   cases hp;cases af.mp hu;exact .inr ⟨c,hc⟩
 | nil=>rw[bu.mp le]at hu;cases hu
 | one f a=>rw[bu.mp le]at hu;cases hu
 | two f a b=>rw[bu.mp le]at hu;cases hu
abbrev Vh(K:aa)(i:Nat):TT:=RJ (tB<|Vu (Ku K)<|M4 (FY i)<|M4 (tC<|V.ty "tuple") tNil) (RJ (QZ<|Pz (PU λi j=>V.bl<|decide<|j < i) (Vu (λxs H Q=>∃x n,xs=[x]/\Am K x H n/\Q (V.int (n:Nat)) H)<|M4 (FY i) tNil)<|tC<|V.int 0)<|tB<|Vu (Ku K)<|M4 (Pz (Mv K) (FY i)<|tC<|V.int 0)<|M4 (tC<|V.ty "str") tNil)
def Hr(T:Txt K mg t){R:o7 Pr w K mg base}{s:Sy R.S.W}{σ:L2.St}{i:Nat}{x:V}{G:Z}{Φ:Bool->Z->Prop}(e:σ[i]? = some (some x))(h:SV R s x G)(q:Φ true G):Vh K i σ G Φ:=by obtain⟨p,es,us,rfl,hp,le,lu,hu⟩:=h.look;obtain⟨x1,x2⟩:=DP s;have zl:=sZ;have e0:Dh ((vT (Ag s)::es)++us) 0=some (vT<|Ag s):=D9 (show((vT (Ag s)::es)++us)[0]? = some (vT<|Ag s)from rfl);show⟨_,e,zc ⟨Y,P3.tup hp,T.k_tt,O Y<|B9 ?_⟩⟩;show⟨_,e,za ⟨Y,.inr ⟨_,y4.of hp,Y⟩,za ⟨Y,Y,O Y<|Cj (decide_eq_true<|by simp;omega) ?_⟩⟩⟩;exact⟨_,e,zc ⟨Y,Y,y4.of hp,e0,zc ⟨Y,P3.str _,T.k_ss,O Y q⟩⟩⟩
def Km(T:Txt K mg t){R:o7 Pr w K mg base}{nm:Str}{p:Int}(hS:So T R nm p){σ:L2.St}{i:Nat}{x:V}{G:Z}{Φ:Bool->Z->Prop}(e:σ[i]? = some (some x))(h:(∃y,x=vT y)\/∃c,R.is G x c)(q:Φ false G):Vh K i σ G Φ:=by
 rcases h with ⟨y,rfl⟩ | ⟨c,h⟩
 . exact⟨_,e,zc ⟨Y,P3.str _,T.q_st,O Y<|t7 q⟩⟩
 cases hS with
 | fr=>
  obtain⟨px,rfl,hx⟩:=h;show⟨_,e,zc ⟨Y,P3.tup hx,T.k_tt,O Y<|B9 ?_⟩⟩;show⟨_,e,za ⟨Y,.inr ⟨_,y4.of hx,Y⟩,za ⟨Y,Y,O Y<|Cj (decide_eq_true<|show(0:Int) < 2 by decide) ?_⟩⟩⟩;exact⟨_,e,zc ⟨Y,Y,y4.of hx,Y,zc ⟨Y,P3.int _,T.q_is,O Y q⟩⟩⟩
 | re p hp hq hi=>
  cases (show x=.int c.x from h);exact⟨_,e,zc ⟨Y,P3.int _,T.q_it,O Y<|t7 q⟩⟩
 | co=>
  cases c with
  | none=>
   cases (show x=.non from h);exact⟨_,e,zc ⟨Y,P3.non,T.q_nt,O Y<|t7 q⟩⟩
  | some z=>
   cases (show x=.int z from h);exact⟨_,e,zc ⟨Y,P3.int _,T.q_it,O Y<|t7 q⟩⟩
 | tr=>
  cases (show x=.bl c from h);exact⟨_,e,zc ⟨Y,P3.bl _,T.q_bt,O Y<|t7 q⟩⟩
def Az(T:Txt K mg t)(N:Nat):Sp:=λvs H Q _=>∃(R:o7 Pr w K mg base),∃nm p so v s l us,∃(a:Addr),So T R nm p/\vs=[so,v,.ref a]/\(F4 H so nm p/\SV R s v H/\Cn R.S l s/\M7 s<=N/\vS s<=50000/\H a=some (.lst<|us.map vT)/\Cw us)/\
 ∀d bY H',o6 H H'->H d=none->H' d=some (.dK bY)->DA R (wS R.S s) us bY H'->Q (.ref d) H'
theorem DY(T:Txt K mg t):∀(N:Nat) {w:World} {base:Heap},m8 Pr w K mg base C8 (N+39) t.h0j t.f0j b0l (Az (w:=w) (base:=base) T N)
 | 0,w,base=>by
  show T.f0a.F.ok D2 (λvs H Q E h=>?_) (λdR A outer s H vs Q E hr h=>?_)
  . obtain⟨R,nm,p,so,v,s,l,us,a,_,rfl,_⟩:=h;rfl
  . obtain⟨R,nm,p,so,v,s,l,us,a,_,rfl,⟨_,_,_,h0,_⟩,_⟩:=h;have:=FJ s;omega
 | N+1,w,base=>by
  have J1:∀{w:World} {base:Heap} (T:Txt K mg t),m8 Pr w K mg base C8 (N+39) t.h0j t.f0j b0l (Az (w:=w) (base:=base) T N):=λT=>DY T N;show T.f0a.F.ok D2 (λvs H Q E h=>?_) (λ_ _ _ s H _ Q _ hr h=>?_)
  . obtain⟨R,nm,p,so,v,s,l,us,a,_,rfl,_⟩:=h;rfl
  . obtain⟨R,nm,p,so,v,sy,l,gU,a,hS,rfl,⟨eF,hv,o,hh,fK,ha,hc⟩,k⟩:=h;have zl:=sZ;show⟨_,(c7 (sT 3 D2.nd<|z6 l7 (U 1) c4)<|c7 (sT 4 D2.nd Jc)<|c7 (Ja (i₀:=5) (xs:=[Ek]) D2.nd Y (Or.inl Y) Y (oC n8N<|c5 P6) (Hy<|z5 EJ (U 1) (B2 c4) F5) (R9 (i:=7) (by show List.Nodup ([K8,W9,Rz,"_law_form",BC,Pp,W7,Ek]:w0h);decide +kernel) Y<|Or.inl Y) (PW.pt<|R1 (E9<|l4 (show Q5 _ (.builtin "isinstance") (Ku K)from K0) bR T.z_isinstance boot_isinstance<|C5 (U 7)<|O1 (v:=.ty "tuple") Y T.z_tuple boot_tuple Y)<|R1 (c9 CG (l4 (show Q5 _ (.builtin "len") (λxs H Q=>∃x n,xs=[x]/\Am K x H n/\Q (V.int (n:Nat)) H)from w6) bR T.z_len PySem.boot_len<|C6<|U 7) c4<|j7 _)<|U6<|E9<|l4 (show Q5 _ (.builtin "isinstance") (Ku K)from K0) bR T.z_isinstance boot_isinstance<|C5 (z6 (show Iv _ (Mv K)from l7) (U 7) c4)<|O1 (v:=.ty "str") Y T.z_str boot_str Y)<|p8 (J1 (w:=w) (base:=base) T) (hr.mono oM) Y T.f0a.m T.f0a.F.kp T.f0a.b .nil t8<|Gg (U 0) (U 7)<|U 2)<|c7 (K7 aK Y (Bh<|U 2) (gN 6 D2.nd)<|c6<|o3 (PW.pt<|AN (c9 w8 (U 3) k8<|j7 _)<|W0<|PW.pt<|R1 (c9 w8 (U 3) k8<|j7 _)<|U6<|c9 Jh (U 6) (z6 l7 (U 1) c4)<|j7 _) (c6<|P8 (B8 hr) (U 4) (U 6) (p8 (C7 T) (hr.mono oM) Y T.f0y.m T.f0y.F.kp T.f0y.b .nil t8<|C6<|U 0) Y)<|c6<|o3 (c9 w8 (U 3) k8<|j7 _) (c6<|P8 (B8 hr) (U 4) (U 6) (p8 (Fm T) (hr.mono oM) Y T.j0m.m T.j0m.F.kp T.j0m.b .nil t8<|C6<|U 0) Y)<|c6<|o3 (c9 w8 (U 3) k8<|j7 _) (c6<|P8 (B8 hr) (U 4) (U 6) (p8 (S3 T) (hr.mono oM) Y T.g0y.m T.g0y.F.kp T.g0y.b .nil t8<|Gg (U 0) (z6 l7 (U 1) c4)<|B4 (B8 hr) (z6 o4 (U 5) c4) (U 6)<|λ_ _=>rfl) Y)<|c6<|o3 (c9 w8 (U 3) k8<|j7 _) (c6<|P8 (B8 hr) (U 4) (U 6) (p8 (AU T) (hr.mono oM) Y T.h0m.m T.h0m.F.kp T.h0m.b .nil t8<|Gg (U 0) (B4 (B8 hr) (z6 o4 (U 5) c4) (U 6)<|λ_ _=>rfl)<|B4 (B8 hr) (z6 o4 (U 5) c4) (U 6)<|λ_ _=>rfl) Y)<|c6<|o3 (c9 w8 (U 3) k8<|j7 _) (c6<|P8 (B8 hr) (U 4) (U 6) (p8 (S3 T) (hr.mono oM) Y T.g0y.m T.g0y.F.kp T.g0y.b .nil t8<|Gg (U 0) (B4 (B8 hr) (z6 o4 (U 5) c4) (U 6)<|λ_ _=>rfl)<|B4 (B8 hr) (z6 o4 (U 5) c4) (U 6)<|λ_ _=>rfl) Y)<|c6<|o3 (c9 w8 (U 3) k8<|j7 _) (c6<|P8 (B8 hr) (U 4) (U 6) (B4 (B8 hr) (z6 o4 (U 5) c4) (Ky (U 6)<|Fg BE c4)<|λ_ _=>rfl) Y)<|c6<|o3 (c9 w8 (U 3) k8<|j7 _) (c6<|P8 (B8 hr) (U 4) (U 6) (p8 (Jl T) (hr.mono oM) Y T.h0k.m T.h0k.F.kp T.h0k.b .nil t8<|My (U 0) (z6 o4 (U 5) c4) (z6 o4 (U 5) c4)<|U 6) Y)<|c6<|P8 (B8 hr) (U 4) (U 6) (p8 (Jm T) (hr.mono oM) Y T.h0p.m T.h0p.F.kp T.h0p.b .nil t8<|My (U 0) (z6 o4 (U 5) c4) (U 4)<|U 6) Y)<|c6<|i3<|U 4),?_⟩;obtain⟨p',es,us,rfl,hp,le,lu,hu⟩:=hv.look;obtain⟨x1,x2⟩:=DP sy;have e0:Dh ((vT (Ag sy)::es)++us) 0=some (vT<|Ag sy):=D9 (show((vT (Ag sy)::es)++us)[0]? = some (vT<|Ag sy)from rfl);show O Y<|zc ⟨Y,Y,y4.of hp,e0,?_⟩;show λdl jV=>?_;show KG (o:=.dK []) jV λH1 t1 k1=>?_;show vb Y Y ⟨p',O Y ⟨y4.of<|t1 _ _ hp,t1 _ _ hp,λp3 H2 s2 h2=>?_⟩⟩;have ec:Ai ((vT (Ag sy)::es)++us) (some (1:Int)) none=es++us:=Dd (k:=1) (xs:=(vT (Ag sy)::es)++us) (by simp);rw[ec]at h2;have Hv:=t1.trans s2;show⟨p3,Y,⟨_,y4.of h2⟩,AZ (n:=(es++us).length) (λj ys G=>o6 H2 G/\ys.length=j - es.length/\∀(i:Nat) u,ys[i]? = some u->∃b d bY,(Aa sy)[i]? = some b/\u=.ref d/\H2 d=none/\G d=some (.dK bY)/\DA R (wS R.S b) gU bY G) (by simp;omega) ⟨o6.refl _,by simp,λi u e=>by simp at e⟩ (λj ys G z=>by rw[z.2.1];omega) ?_ ?_ ?_⟩
    . rintro j ys G hj ⟨s3,ly,hy⟩;obtain⟨x,ex⟩:∃x,(es++us)[j]? = some x:=⟨_,aJ hj⟩;show⟨za ⟨y4.of<|s3 _ _ h2,ex⟩,λy H' fb=>?_⟩;obtain⟨rfl,fb⟩:=fb;have:=fb _<|y4.of<|s3 _ _ h2;rw[ex]at this;cases this;show⟨⟨[some _],Y,Y⟩,?_⟩;have Hu:=Hv.trans s3;by_cases hje:j < es.length
      . rw[aV hje]at ex;have nx:=(hv.ext hp le x<|aD ex).imp id<|Exists.imp λc h=>R.same Hu.t h;show Km T hS rfl nx<|t7 ?_;exact⟨s3,oM,hy⟩
      . rw[bq oM]at ex;obtain⟨b,eb,sb⟩:=hu _ x ex;have mb:=aD eb;have h1:=Jz mb;have wO:=EN mb;show Hr T rfl (sb.same Hu.t) ?_;show B9 ?_
        (try dsimp only)
        show vc Y Y Y ⟨R,zj nm p so x b l gU a ⟨hS,Y,⟨eF.same Hu.t,sb.same Hu.t,LA o mb,oM,oM,Hu _ _ ha,hc⟩,λd bY H5 s5 nd hd hD=>?_⟩⟩;show⟨s3.trans s5,by rw[ao,ly];show _+1=_;omega,λi u eu=>?_⟩;by_cases e:i < ys.length
        . rw[aV e]at eu;obtain⟨b',d',dB,e1,e2,e3,e4,e5⟩:=hy i u eu;exact⟨b',d',dB,e1,e2,e3,s5 _ _ e4,e5.same s5.t⟩
        . rw[bq oM]at eu;have e0:i - ys.length=0:=by
           rcases h:i - ys.length with _ | n
           . rfl
           . rw[h]at eu;cases eu
          rw[e0]at eu;cases eu;show⟨b,d,bY,by rw[show i=j - es.length by omega];exact eb,Y,?_,hd,hD⟩;cases z:H2 d with
          | none=>rfl
          | some o=>rw[s3 _ _ z]at nd;cases nd
    . rintro ys G ⟨s3,_⟩;exact⟨_,y4.of<|s3 _ _ h2,ae _⟩
    . rintro ys G lp ⟨s3,ly,hy⟩ gh;have t4:=j6 (o:=.lst ys) gh;have k4:=c8 (H:=G) (a:=lp) (o:=.lst ys);have iE:∀(i:Nat) b,(Aa sy)[i]? = some b->∃d bY,Dh ys (i:Int)=some (.ref d)/\upd G lp (.lst ys) d=some (.dK bY)/\d≠dl/\DA R (wS R.S b) gU bY (upd G lp<|.lst ys):=λi b eb=>by
       have hi:=(aP.mp eb).1;have eu:=aJ (l:=ys) (i:=i) (by rw[ly,ao];omega);obtain⟨b',d,bY,e1,e2,e3,e4,e5⟩:=hy i _ eu;rw[eb]at e1;cases e1;rw[e2]at eu;exact⟨d,bY,D9 eu,t4 _ _ e4,(λz=>by rw[z,s2 _ _ k1]at e3;cases e3),e5.same t4.t⟩
      have s4:=Hv.trans<|s3.trans t4;have kc:=(s2.trans<|s3.trans t4) _ _ k1;revert s4 k4 kc iE;clear t4 gh hy ly s3 h2 Hv s2;generalize upd G lp (.lst ys)=H4;intro k4 iE s4 kc;have na:a≠dl:=λz=>by rw[z,jV]at ha;cases ha
      have nl:lp≠dl:=λz=>by rw[z,kc]at k4;cases k4
      have np:p'≠dl:=λz=>by rw[z,jV]at hp;cases hp
      have ul:=hc.sz;have hZ:=eF.same s4.t;have tQ:∀{G},m9 dl H4 G->Q4 H4 G:=λs b ts e=>s _ _ (λz=>by rw[z,kc]at e;cases e) e;show O Y ⟨a,Y,⟨_,y8.of<|s4 _ _ ha⟩,Da (K:=K) (a:=a) (xs:=gU.map vT) (λj σ G=>∃v6,σ=[some so,some<|.ref p',sr a,some<|vT<|Ag sy,sr dl,sr lp,v6]/\m9 dl H4 G/\∃bY,G dl=some (.dK bY)/\bY.length<=j/\DA R (wS R.S sy) (gU.take j) bY G) (O Y ⟨m9.refl _ _,[],kc,ae _,λu hu=>by simp at hu⟩) (λj σ G _ ⟨_,_,x,_⟩=>y8.of<|x _ _ na<|s4 _ _ ha) ?_ ?_⟩
      . rintro j y σ G hj ⟨v6,rfl,sX,bY,hd,ln,hD⟩;rw[aN]at hj;obtain⟨u,eu,rfl⟩:=bM.mp hj;have jl:=(aP.mp eu).1;have mu:=aD eu;have u4:=hc.ln u mu;have uG:=tQ sX;have eI:=hZ.same uG;have dD:∀v G',o6 G G'->R.is G' v (wS R.S sy u)->∃v6,([some so,some<|.ref p',sr a,some<|vT<|Ag sy,sr dl,sr lp,some<|vT u]:L2.St)=[some so,some<|.ref p',sr a,some<|vT<|Ag sy,sr dl,sr lp,v6]/\m9 dl H4 (upd G' dl<|.dK<|K2 bY (kW u) v)/\∃dB,upd G' dl (.dK<|K2 bY (kW u) v) dl=some (.dK dB)/\dB.length<=j+1/\DA R (wS R.S sy) (gU.take<|j+1) dB (upd G' dl<|.dK<|K2 bY (kW u) v):=λv G' s' f'=>by
         have sx:=Cv (o:=.dK<|K2 bY (kW u) v)<|s' _ _ hd;have lk:=V1 bY (kW u) v;show O Y ⟨λb o nb e=>m9.upd b o nb<|s' b o<|sX b o nb e,_,c8,oM,?_⟩;exact((hD.same s'.t).put eu f').same sx
        have wl:bY.length < 1000:=by omega
        cases sy with
        | nil=>
         show O Y ⟨Y,O Y<|fY (x:=nN) Q2 ?_⟩;show B9 ?_;exact O Y ⟨R,zf nm p so ⟨hS,Y,eI,λv G' s' f'=>(vb Y Y ⟨dl,O Y ⟨Cp.k (k:=kW u) (s' _ _ hd) oM,dD v G' s' f'⟩⟩)⟩⟩
        | word x=>
         obtain⟨p2,e,jf⟩:=id hv;cases e;have nY:=(uG _ _<|s4 _ _ jf);show O Y ⟨Y,O Y<|fN (x:=nW) Q2 bD ?_⟩;show O Y ⟨Y,O Y<|fY (x:=nW) E4 ?_⟩;show vb Y Y<|zc ⟨Y,Y,y4.of nY,Y,Y,O Y ?_⟩;by_cases hux:u=x
         . subst hux;show CU (by rw[decide_eq_true rfl];rfl) ?_
           (try show t7 ?_)
           show O Y ⟨Y,O Y<|fY (x:=nW) E4 ?_⟩;show O Y ⟨R,zf nm p so ⟨hS,Y,eI,λv G' s' f'=>(vb Y Y ⟨dl,O Y ⟨Cp.k (k:=kW u) (s' _ _ hd) oM,dD v G' s' ?_⟩⟩)⟩⟩;rw[show wS R.S (.word u) u=R.S.one from if_pos rfl];exact f'
         . show Cj (by rw[decide_eq_false<|show ¬vT u=vT x from λe=>hux<|Dn<|V.str.inj e];rfl) ?_
           (try show B9 ?_)
           show O Y ⟨R,zf nm p so ⟨hS,Y,eI,λv G' s' f'=>(vb Y Y ⟨dl,O Y ⟨Cp.k (k:=kW u) (s' _ _ hd) oM,dD v G' s' ?_⟩⟩)⟩⟩;rw[show wS R.S (.word x) u=R.S.zero from if_neg hux];exact f'
        | times c b=>
         obtain⟨p2,cu,y,e,jf,hc,_⟩:=id hv;cases e;obtain⟨d,lH,ed,il,nd,kL⟩:=iE 0 b rfl;have nY:=uG _ _<|s4 _ _ jf;obtain⟨x,ex,fx⟩:=(kL.same uG) u<|aD eu;have g1:=R3.k (k:=kW u)<|sX _ _ nd il;rw[ex]at g1;have jb:vS b+1<=50000:=fK;show O Y ⟨Y,O Y<|fN (x:=nT) Q2 bD ?_⟩;show O Y ⟨Y,O Y<|fN (x:=nT) E4 bD ?_⟩;show t7 ?_;show O Y ⟨Y,O Y<|fN (x:=nT) E4 bD ?_⟩;show O Y ⟨Y,O Y<|fY (x:=nT) U9 ?_⟩;show vb Y Y<|zc ⟨Y,Y,y4.of nY,Y,O Y<|zc ⟨Y,Y,y8.of<|sX _ _ nl k4,ed,O Y ⟨d,O Y ⟨g1,?_⟩⟩⟩⟩;exact⟨R,zk nm p so cu x _ _ (100 * 1) (100 * vS b) ⟨hS,Y,⟨eI,R.same (s4.t.trans uG) hc,fx,R.S.lv_sz _ _ _ bD o.1,R.S.lv_sz _ _ _ bD<|M8 b o.2 u oM,oM⟩,λv G' s' f'=>(vb Y Y ⟨dl,O Y ⟨Cp.k (k:=kW u) (s' _ _ hd) oM,dD v G' s' f'⟩⟩)⟩⟩
        | one f b=>
         obtain⟨d,lH,ed,il,nd,kL⟩:=iE 0 b rfl;have kN:=kL.same uG;cases f with
         | false=>
          obtain⟨x,ex,fx⟩:=kN u.reverse<|hc.rv u mu;have g1:=R3.k (k:=kW u.reverse)<|sX _ _ nd il;rw[ex]at g1;show O Y ⟨Y,O Y<|fN (x:=n1 false) Q2 bD ?_⟩;show O Y ⟨Y,O Y<|fN (x:=n1 false) E4 bD ?_⟩;show t7 ?_;show O Y ⟨Y,O Y<|fN (x:=n1 false) E4 bD ?_⟩;show O Y ⟨Y,O Y<|fN (x:=n1 false) U9 bD ?_⟩;show O Y ⟨Y,O Y<|fN (x:=n1 false) Bt bD ?_⟩;show O Y ⟨Y,O Y<|fN (x:=n1 false) JJ bD ?_⟩;show O Y ⟨Y,O Y<|fY (x:=n1 false) Dg ?_⟩;show O Y (zc ⟨Y,Y,y8.of<|sX _ _ nl k4,ed,vc Y Y Y ⟨Y,(by rw[l8];omega),?_⟩⟩);rw[Kr];exact⟨d,O Y ⟨g1,vb Y Y ⟨dl,O Y ⟨Cp.k (k:=kW u) hd oM,dD x _ (o6.refl _) fx⟩⟩⟩⟩
         | true=>
          have jb:11 * vS b<=50000:=fK;have v1:=Dl b;show O Y ⟨Y,O Y<|fN (x:=n1 true) Q2 bD ?_⟩;show O Y ⟨Y,O Y<|fN (x:=n1 true) E4 bD ?_⟩;show t7 ?_;show O Y ⟨Y,O Y<|fN (x:=n1 true) E4 bD ?_⟩;show O Y ⟨Y,O Y<|fN (x:=n1 true) U9 bD ?_⟩;show O Y ⟨Y,O Y<|fN (x:=n1 true) Bt bD ?_⟩;show O Y ⟨Y,O Y<|fN (x:=n1 true) JJ bD ?_⟩;show O Y ⟨Y,O Y<|fN (x:=n1 true) Dg bD ?_⟩;show O Y ⟨Y,O Y<|fN (x:=n1 true) ER bD ?_⟩;show vb Y Y<|zc ⟨Y,Y,y8.of<|sX _ _ nl k4,ed,vb Y Y ?_⟩;exact⟨R,zq nm p so d dl lH bY (wS R.S b) gU (gU.take j) u (vS b) ⟨hS,Y,⟨eI,sX _ _ nd il,hd,kN,hD,hc.tk u mu,λne q=>hc.od j u eu ne q,u4,λv vH=>M8 b o v vH,v1,oM⟩,λv G' s' f'=>(vb Y Y ⟨dl,O Y ⟨Cp.k (k:=kW u) (s' _ _ hd) oM,dD v G' s' f'⟩⟩)⟩⟩
        | two f b c=>
         obtain⟨d,lH,ed,il,nd,kL⟩:=iE 0 b rfl;obtain⟨d',nK,xb,kD,qe,oR⟩:=iE 1 c rfl;have kN:=kL.same uG;have kM:=oR.same uG;have mu:=aD eu;obtain⟨x,ex,fx⟩:=kN u mu;obtain⟨y,ey,fy⟩:=kM u mu;have g1:=R3.k (k:=kW u)<|sX _ _ nd il;rw[ex]at g1;have g2:=R3.k (k:=kW u)<|sX _ _ qe kD;rw[ey]at g2;have z1:=M8 b o.2.1 u oM;have z2:=M8 c o.2.2 u oM;have f3:=o.1;have m1:=EN (s:=.two f b c) (a:=b) (by simp[Aa]);have m2:=EN (s:=.two f b c) (a:=c) (by simp[Aa]);have pC:Dh ys 0=some (.ref d):=ed;have pB:Dh ys 1=some (.ref d'):=xb;rcases(by omega:f=0\/f=1\/f=2)with rfl | rfl | rfl
         . show O Y ⟨Y,O Y<|fN (x:=n2 0) Q2 bD ?_⟩;show O Y ⟨Y,O Y<|fN (x:=n2 0) E4 bD ?_⟩;show t7 ?_;show O Y ⟨Y,O Y<|fN (x:=n2 0) E4 bD ?_⟩;show O Y ⟨Y,O Y<|fN (x:=n2 0) U9 bD ?_⟩;show O Y ⟨Y,O Y<|fY (x:=n2 0) Bt ?_⟩;show vb Y Y<|zc ⟨Y,Y,y8.of<|sX _ _ nl k4,pC,O Y ⟨d,O Y ⟨g1,O Y<|zc ⟨Y,Y,y8.of<|sX _ _ nl k4,pB,O Y ⟨d',O Y ⟨g2,?_⟩⟩⟩⟩⟩⟩;exact⟨R,zk nm p so x y _ _ (100 * vS b) (100 * vS c) ⟨hS,Y,⟨eI,fx,fy,R.S.lv_sz _ _ _ bD z1,R.S.lv_sz _ _ _ bD z2,oM⟩,λv G' s' f'=>(vb Y Y ⟨dl,O Y ⟨Cp.k (k:=kW u) (s' _ _ hd) oM,dD v G' s' f'⟩⟩)⟩⟩
         . show O Y ⟨Y,O Y<|fN (x:=n2 1) Q2 bD ?_⟩;show O Y ⟨Y,O Y<|fN (x:=n2 1) E4 bD ?_⟩;show t7 ?_;show O Y ⟨Y,O Y<|fN (x:=n2 1) E4 bD ?_⟩;show O Y ⟨Y,O Y<|fN (x:=n2 1) U9 bD ?_⟩;show O Y ⟨Y,O Y<|fN (x:=n2 1) Bt bD ?_⟩;show O Y ⟨Y,O Y<|fN (x:=n2 1) JJ bD ?_⟩;show O Y ⟨Y,O Y<|fN (x:=n2 1) Dg bD ?_⟩;show O Y ⟨Y,O Y<|fY (x:=n2 1) ER ?_⟩;show vb Y Y<|zc ⟨Y,Y,y8.of<|sX _ _ nl k4,pC,O Y<|zc ⟨Y,Y,y8.of<|sX _ _ nl k4,pB,O Y ?_⟩⟩;exact⟨R,nm,p,so,d,d',lH,nK,wS R.S b,wS R.S c,gU,u,vS b,vS c,hS,Y,⟨eI,sX _ _ nd il,sX _ _ qe kD,kN,kM,λq=>⟨hc.tk u mu q,hc.dr u mu q⟩,u4,λv hv=>⟨M8 b o.2.1 v<|hc.ln v hv,M8 c o.2.2 v<|hc.ln v hv⟩,oM⟩,λv G' s' f'=>(vb Y Y ⟨dl,O Y ⟨Cp.k (k:=kW u) (s' _ _ hd) oM,dD v G' s' f'⟩⟩)⟩
         . show O Y ⟨Y,O Y<|fN (x:=n2 2) Q2 bD ?_⟩;show O Y ⟨Y,O Y<|fN (x:=n2 2) E4 bD ?_⟩;show t7 ?_;show O Y ⟨Y,O Y<|fN (x:=n2 2) E4 bD ?_⟩;show O Y ⟨Y,O Y<|fN (x:=n2 2) U9 bD ?_⟩;show O Y ⟨Y,O Y<|fN (x:=n2 2) Bt bD ?_⟩;show O Y ⟨Y,O Y<|fY (x:=n2 2) JJ ?_⟩;show vb Y Y<|zc ⟨Y,Y,y8.of<|sX _ _ nl k4,pC,O Y ⟨d,O Y ⟨g1,O Y<|zc ⟨Y,Y,y8.of<|sX _ _ nl k4,pB,O Y ⟨d',O Y ⟨g2,?_⟩⟩⟩⟩⟩⟩;exact⟨R,zk nm p so x y _ _ (100 * vS b) (100 * vS c) ⟨hS,Y,⟨eI,fx,fy,R.S.lv_sz _ _ _ bD z1,R.S.lv_sz _ _ _ bD z2,oM⟩,λv G' s' f'=>(vb Y Y ⟨dl,O Y ⟨Cp.k (k:=kW u) (s' _ _ hd) oM,dD v G' s' f'⟩⟩)⟩⟩
      . rintro σ G ⟨v6,rfl,sX,bY,hd,ln,hD⟩;rw[ai,bI]at hD;exact O Y (k dl bY G (λb o e=>sX b o (l9 e jV)<|s4 b o e) jV hd hD)
def J1(T:Txt K mg t):m8 Pr w K mg base C8 49 t.h0j t.f0j b0l (Az (w:=w) (base:=base) T 10):=DY T 10
def Pg.asc{l:w0g}(L:Pg l):(tx l).cps.all (· < 128)=true:=NB L.as
def Uz:Cw [[]]:=⟨λu h q=>by rw[af.mp h,List.take_nil];exact bc _,λu h q=>by rw[af.mp h,List.drop_nil];exact bc _,λu h=>by rw[af.mp h];exact bc _,λu h=>by rw[af.mp h];exact aU _,bD,λi u e ne=>absurd (af.mp<|aD e) ne⟩
def Mo(T:Txt K mg t):Sp:=λvs H Q _=>∃(R:o7 Pr w K mg base),∃nm p so v s l,So T R nm p/\vs=[so,v]/\(F4 H so nm p/\SV R s v H/\Cn R.S l s/\M7 s<=10/\vS s<=50000)/\∀v' H',o6 H H'->R.is H' v' (wS R.S s [])->Q v' H'
def CK(T:Txt K mg t):m8 Pr w K mg base C8 50 t.j0i t.g0o Ql (Mo (w:=w) (base:=base) T):=by
 show T.g0p.F.okA Ho λ_ _ _ _ _ _ _ _ hr h=>?_;obtain⟨R,nm,p,so,v,sy,l,hS,rfl,⟨eF,hv,o,hh,fK⟩,k⟩:=h;have em:V.str (Str.ofString "")=vT []:=by rw[BA];rfl
 show⟨_,(c6<|i3<|B4 (B8 hr) (M6 (J1 T) hr.m T.f0a<|Gg (U 0) (U 1)<|F0<|C6 k8) k8<|λ_ _=>rfl),?_⟩;show vb Y Y ⟨sL,λa na=>?_⟩;rw[em];have t1:=j6 (o:=.lst [vT []]) na;show⟨R,zj nm p so v sy l [[]] a ⟨hS,Y,⟨eF.same t1.t,hv.same t1.t,o,hh,fK,c8,Uz⟩,λd bY H2 s2 nd hd hD=>?_⟩⟩;obtain⟨x,ex,fx⟩:=hD []<|bc _;have g1:=R3.k (k:=kW []) hd;rw[ex]at g1;exact⟨d,O Y ⟨g1,k x _ (t1.trans s2) fx⟩⟩
def Dr.ne{H:Z}{a p:Addr}(d:Dr H a)(n:H p=none):p≠a:=λe=>by
 obtain⟨xs,z⟩:=d.lst;rw[<- e,n]at z;cases z
def sp_lword:Sp:=λvs H Q _=>∃(a:Addr),∃l,vs=[.ref a,vT l]/\(Dr H a/\Pg l)/\∀(x:w0g) H',m9 a H H'->Dr H' a->x.length<=3->(∀c∈x,c∈l)->Q (vT x) H'
def Jk(T:Txt K mg t):m8 Pr w K mg base C8 2 t.j0q t.i0p TR sp_lword:=by
 show T.h0v.F.okA U2 λ_ _ _ _ H _ _ _ hr h=>?_;obtain⟨a,l,rfl,⟨hD,L⟩,k⟩:=h;have zl:=sZ;have l3:=L.h3;have l1:=L.h1;have em:V.str (Str.ofString "")=vT []:=by rw[BA];rfl
 show⟨_,(c7 (sT 2 U2.nd k8)<|c7 (K7 aK Y (O8 Y T.z_range<|C6<|z6 o4 (F0<|B5 c4<|My c4 c4 c4 c4)<|M6 (l6 T) hr.m T.h0o<|C5 (U 0) c4) (gN 3 U2.nd)<|c6<|sT 2 U2.nd<|l5 M3 (U 2)<|z6 DO (U 1)<|M6 (l6 T) hr.m T.h0o<|C5 (U 0)<|l4 w6 bR T.z_len PySem.boot_len<|C6<|U 1)<|c6<|i3<|U 2),?_⟩;rw[em];show⟨sL,λlp gh=>?_⟩;have t1:=j6 (o:=.lst [V.int 0,V.int 1,V.int 1,V.int 2,V.int 3]) gh;have k1:=c8 (H:=H) (a:=lp) (o:=.lst [V.int 0,V.int 1,V.int 1,V.int 2,V.int 3]);have d1:=hD.same t1;have na:lp≠a:=hD.ne gh;revert t1 k1 d1;generalize upd H lp (.lst [V.int 0,V.int 1,V.int 1,V.int 2,V.int 3])=H1;intro t1 k1 d1;show O Y ⟨a,5,Y,⟨d1,bD,bD⟩,λr H2 s2 d2 a2 b2=>?_⟩;obtain⟨n,hn,n3⟩:∃n:Nat,Dh [V.int 0,V.int 1,V.int 1,V.int 2,V.int 3] r=some (V.int (n:Nat))/\n<=3:=by
  rcases(by omega:r=0\/r=1\/r=2\/r=3\/r=4)with rfl | rfl | rfl | rfl | rfl
  . exact⟨0,Y,bD⟩
  . exact⟨1,Y,bD⟩
  . exact⟨1,Y,bD⟩
  . exact⟨2,Y,bD⟩
  . exact⟨3,Y,bD⟩
 show zc ⟨Y,Y,y8.of<|s2 _ _ na k1,hn,O Y ⟨oM,oM,E7 (lo:=0) (n:=((n:Nat):Int).toNat) (λi σ G=>∃(x:w0g) (v3:Option V),σ=[sr a,some<|vT l,some<|vT x,v3]/\m9 a H G/\Dr G a/\x.length=i/\∀c∈x,c∈l) ⟨[],O Y ⟨(m9.of t1).trans s2,d2,Y,λc hc=>nomatch hc⟩⟩ ?_ ?_⟩⟩
 . rintro i σ G hi ⟨x,v3,rfl,sG,dG,xl,hx⟩;have ln:Am K (vT l) G l.length:=⟨by rw[l8];omega,(l8 l).symm⟩;show vc Y Y Y<|O Y<|za ⟨Y,ln,a,O Y ⟨⟨dG,oM,oM⟩,λr4 G4 s4 d4 a4 b4=>?_⟩⟩;obtain⟨j,rfl⟩:∃j:Nat,r4=(j:Int):=⟨r4.toNat,oM⟩;have hj:j < l.length:=by omega
   have ec:l[j]? = some l[j]:=aJ hj;have ac:Dh (tx l).cps.toList (j:Int)=some l[j]:=by rw[show(tx l).cps.toList=l by simp[tx]];exact D9 ec
   show zb ⟨Y,Y,(by rw[l8];omega),ac,za ⟨Y,Y,(by rw[l8];show _+1<=_;omega),?_⟩⟩;have ea:tx x++(⟨#[l[j]]⟩:Str)=tx (x++[l[j]]):=Do x [l[j]];rw[ea];show⟨x++[l[j]],O Y ⟨sG.trans s4,d4,by rw[ao,xl];rfl,λc hc=>?_⟩⟩;rcases aw.mp hc with hc | hc
   . exact hx c hc
   . rw[af.mp hc];exact bS hj
 . rintro σ G ⟨x,v3,rfl,sG,dG,xl,hx⟩;exact O Y (k x G sG dG oM hx)
def vB:Nat->Nat
 | 0=>1
 | m+1=>11 * (1+vB m)
def Nz:∀m,1<=vB m
 | 0=>ae _
 | m+1=>by show 1<=11 * (1+vB m);omega
def QX{m:Nat}(h:m<=4):vB m<=30745:=by rcases(by omega:m=0\/m=1\/m=2\/m=3\/m=4)with rfl | rfl | rfl | rfl | rfl <;>decide
def BJ(T:Txt K mg t)(N:Nat):Sp:=λvs H Q _=>∃(R:o7 Pr w K mg base),∃nm p,∃(a:Addr),∃so l,∃(m:Nat),So T R nm p/\vs=[.ref a,so,vT l,.int (m:Nat)]/\(Dr H a/\F4 H so nm p/\Pg l/\l.length<=2/\m < N/\m<=4)/\∀s v H',m9 a H H'->Dr H' a->SV R s v H'->Cn R.S l s->M7 s<=2 * m+1->vS s<=vB m->Q v H'
theorem Ea(T:Txt K mg t):∀(N:Nat) {w:World} {base:Heap},m8 Pr w K mg base C8 (N+51) t.h0w t.g0i b0m (BJ (w:=w) (base:=base) T N)
 | 0,w,base=>by
  show T.g0j.F.ok L0 (λvs H Q E h=>?_) (λdR A outer s H vs Q E hr h=>?_)
  . obtain⟨R,nm,p,a,so,l,m,_,rfl,_⟩:=h;rfl
  . obtain⟨R,nm,p,a,so,l,m,_,rfl,⟨_,_,_,_,h0,_⟩,_⟩:=h;omega
 | N+1,w,base=>by
  have L4:∀{w:World} {base:Heap} (T:Txt K mg t),m8 Pr w K mg base C8 (N+51) t.h0w t.g0i b0m (BJ (w:=w) (base:=base) T N):=λT=>Ea T N;show T.g0j.F.ok L0 (λvs H Q E h=>?_) (λ_ _ _ _ H vs _ _ hr h=>?_)
  . obtain⟨R,nm,p,a,so,l,m,_,rfl,_⟩:=h;rfl
  . obtain⟨R,nm,p,a,so,l,m,hS,rfl,⟨hD,eF,L,l2,hm,h4⟩,k⟩:=h;show⟨_,(c7 (sT 4 L0.nd<|p8 (l6 T) (hr.mono oM) Y T.h0o.m T.h0o.F.kp T.h0o.b .nil t8<|C5 (U 0) c4)<|c7 (o3 (PW.pt<|AN (c9 w8 (U 3) c4<|j7 _)<|W0<|c9 Fj (U 4) c4<|j7 _) (c7 (o3 (c9 w8 (p8 (l6 T) (hr.mono oM) Y T.h0o.m T.h0o.F.kp T.h0o.b .nil t8<|C5 (U 0) c4) c4<|j7 _) (c6<|i3<|D8<|C6 k8) k6)<|c6<|i3<|D8<|C5 k8<|p8 (Jk T) (hr.mono oM) Y T.h0v.m T.h0v.F.kp T.h0v.b .nil t8<|C5 (U 0)<|U 2) k6)<|c7 (sT 5 L0.nd<|p8 (L4 T) (hr.mono oM) Y T.g0j.m T.g0j.F.kp T.g0j.b .nil t8<|My (U 0) (U 1) (U 2)<|l5 W3 (U 3) c4)<|c7 (o3 (c9 w8 (U 4) c4<|j7 _) (c6<|i3<|D8<|Gg k8 (p8 (Gh T) (hr.mono oM) Y T.g0a.m T.g0a.F.kp T.g0a.b .nil t8<|C5 (U 0)<|U 1)<|U 5) k6)<|c7 (o3 (c9 w8 (U 4) c4<|j7 _) (c6<|i3<|D8<|C5 k8<|U 5) k6)<|c7 (o3 (c9 Fj (U 4) c4<|j7 _) (c7 (o3 (PW.pt<|R1 (c9 (Fi hr.units) (p8 (CK T) (hr.mono oM) Y T.g0p.m T.g0p.F.kp T.g0p.b .nil t8<|C5 (U 1)<|U 5) (p8 (C7 T) (hr.mono oM) Y T.f0y.m T.f0y.F.kp T.f0y.b .nil t8<|C6<|U 1)<|j7 _)<|U6<|c9 CG (p8 (l6 T) (hr.mono oM) Y T.h0o.m T.h0o.F.kp T.h0o.b .nil t8<|C5 (U 0) c4) c4<|j7 _) (c6<|sT 5 L0.nd<|D8<|Gg k8 (D8<|C5 k8<|z6 DO (U 2)<|p8 (l6 T) (hr.mono oM) Y T.h0o.m T.h0o.F.kp T.h0o.b .nil t8<|C5 (U 0)<|l4 w6 bR T.z_len PySem.boot_len<|C6<|U 2)<|U 5) k6)<|c6<|i3<|D8<|C5 k8<|U 5) k6)<|c6<|i3<|D8<|Gg (z6 o4 (F0<|B5 k8<|My k8 k8 k8 k8)<|l5 W3 (U 4) c4) (U 5)<|p8 (L4 T) (hr.mono oM) Y T.g0j.m T.g0j.F.kp T.g0j.b .nil t8<|My (U 0) (U 1) (U 2)<|l5 W3 (U 3) c4),?_⟩;have zl:=sZ;show O Y ⟨a,12,Y,⟨hD,bD,bD⟩,λr1 H1 s1 d1 a1 b1=>?_⟩;have gE:=eF.same<|s1.tt hD;have l1:=L.h1;have l3:=L.h3;have iN:=Nz m;show(λ(jZ:(?F:L2.St->Z->Prop) [sr a,some so,some<|vT l,si m,some<|.int r1,none] H1) (nL:0 < m->(?G:L2.St->Z->Prop) [sr a,some so,some<|vT l,si m,some<|.int r1,none] H1)=>?main) ?r1 ?r2
    case main=>
     show O Y ⟨Y,O Y ?_⟩;dsimp only;by_cases z:m=0
     . show Cj (by subst z;rfl) ?_
       (try show B9 ?_)
       exact jZ
     . show CU (decide_eq_false λe=>z (by have:=V.int.inj e;omega)) ?_;show O Y<|za ⟨Y,Y,O Y ?_⟩;dsimp only;show CT (λh=>?_) (λh=>?_)
       . (try show B9 ?_)
         exact jZ
       . (try show t7 ?_)
         exact nL oM
    case r1=>
     show O Y ⟨a,9,Y,⟨d1,bD,bD⟩,λr2 H2 s2 d2 a2 b2=>?_⟩;show⟨Y,O Y ?_⟩;dsimp only;have Hv:=s1.trans s2;show FH (λz=>?_) (λz=>?_)
     . show⟨(by show 1<=sizeLine;omega),λq nq=>?_⟩;rw[Q2];have e:=j6 (o:=.tup [V.str<|tx nN]) nq;exact k .nil _ _ (Hv.trans<|.of e) (d2.same e) ⟨q,Y,c8⟩ trivial (by show 1<=_;omega) iN
     . show vb Y Y ⟨a,l,Y,⟨d2,L⟩,λx G sG dG xl hx=>?_⟩;show⟨(by show 2<=sizeLine;omega),λq nq=>?_⟩;rw[E4];have e:=j6 (o:=.tup [V.str<|tx nW,vT x]) nq;exact k (.word x) _ _ (Hv.trans<|sG.trans<|.of e) (dG.same e) ⟨q,Y,c8⟩ ⟨xl,hx⟩ (by show 1<=_;omega) iN
    case r2=>
     intro m0;obtain⟨m,rfl⟩:∃m',m=m'+1:=⟨m - 1,oM⟩;have iN:=Nz m;have xy:vB (m+1)=11 * (1+vB m):=rfl;have em:(((m+1:Nat):Int) - 1)=(m:Int):=by omega
     have tN:=QX (show m<=4 by omega);show vc Y Y Y (O Y<|za ⟨Y,Y,R,nm,p,a,so,l,m,hS,(by show [_,_,_,V.int<|((m+1:Nat):Int) - 1]=_;rw[em]),⟨d1,gE,L,l2,oM,oM⟩,λx2 v2 H2 s2 d2 iu ix vK fU=>?_⟩);have ia:=gE.same<|s2.tt d1;have Hv:=s1.trans s2;show O Y ⟨Y,O Y ?_⟩;show FH (λh3=>?_) (λh3=>?_)
     . show vb Y Y ⟨R,zg nm p a so ⟨hS,Y,⟨d2,ia⟩,λv3 H3 c s3 d3 f3 z3=>?_⟩⟩;show O Y ⟨(by show 3<=sizeLine;omega),λq nq=>?_⟩;rw[U9];have e:=j6 (o:=.tup [V.str<|tx nT,v3,v2]) nq;exact k (.times c x2) _ _ (Hv.trans<|s3.trans<|.of e) (d3.same e) ⟨q,_,O Y ⟨c8,R.same e.t f3,iu.same<|(s3.tt d2).trans e.t⟩⟩ ⟨z3,ix⟩ (by show M7 x2+1<=_;omega) (by show vS x2+1<=_;omega)
     show O Y ⟨Y,O Y ?_⟩;show FH (λwN=>?_) (λwN=>?_)
     . show O Y ⟨(by show 2<=sizeLine;omega),λq nq=>?_⟩;rw[Dg];have e:=j6 (o:=.tup [V.str<|tx<|n1 false,v2]) nq;exact k (.one false x2) _ _ (Hv.trans<|.of e) (d2.same e) ⟨q,O Y ⟨c8,iu.same e.t⟩⟩ ix (by show M7 x2+1<=_;omega) (by show vS x2<=_;omega)
     show O Y<|za ⟨Y,Y,O Y ?_⟩;show CT (λh7=>?_) (λh7=>?_)
     . have vG:vS x2<=50000:=by omega
       show(λ(ka:∀(x:Sy R.S.W) (v:V) (G:Z),m9 a H G->Dr G a->SV R x v G->Cn R.S l x->M7 x<=2 * m+2->11 * vS x<=vB (m+1)->(?K:L2.St->Z->Prop) [sr a,some so,some<|vT l,some<|.int ((m+1:Nat):Int),some<|.int r1,some v] G)=>?mn) ?rs
       case mn=>
        show vb Y Y ⟨R,zi nm p so v2 x2 l ⟨hS,Y,⟨ia,iu,ix,oM,vG⟩,λv3 H3 s3 f3=>?_⟩⟩;show O Y ⟨R,zf nm p so ⟨hS,Y,ia.same s3.t,λv4 H4 nj f4=>?_⟩⟩;have NR:=s3.trans nj;have d4:=d2.same NR;have k0:=λG (sG:m9 a H4 G) (dG:Dr G a)=>ka x2 v2 G (Hv.trans<|(m9.of NR).trans sG) dG (iu.same<|NR.t.trans<|sG.tt d4) ix oM oM;by_cases e:wS R.S x2 []=R.S.zero
        . show R.neD (R.same nj.t f3) f4 e (O Y ?_)
          (try show t7 ?_)
          (try show t7 ?_)
          exact k0 H4 (m9.refl _ _) d4
        . show R.neT (R.same nj.t f3) f4 e<|O Y ?_;show B9 ?_;show O Y ⟨a,4,Y,⟨d4,bD,bD⟩,λr5 H5 s5 d5 a5 b5=>za ⟨Y,Y,O Y ?_⟩⟩;show CT (λh5=>?_) (λh5=>?_)
          . have ln:Am K (vT l) H5 l.length:=⟨by rw[l8];omega,(l8 l).symm⟩;show vc Y Y Y<|za ⟨Y,ln,a,O Y ⟨⟨d5,oM,oM⟩,λr6 H6 s6 d6 a6 b6=>?_⟩⟩;obtain⟨j,rfl⟩:∃j:Nat,r6=(j:Int):=⟨r6.toNat,oM⟩;have hj:j < l.length:=by omega
            have ec:l[j]? = some l[j]:=aJ hj;have ac:Dh (tx l).cps.toList (j:Int)=some l[j]:=by rw[show(tx l).cps.toList=l by simp[tx]];exact D9 ec
            show zb ⟨Y,Y,(by rw[l8];omega),ac,(by show 2<=sizeLine;omega),λq nq=>(O Y ⟨(by show 3<=sizeLine;omega),λq' uE=>?_⟩)⟩;rw[E4,ER];have e7:=j6 (o:=.tup [V.str<|tx nW,V.str (⟨#[l[j]]⟩:Str)]) nq;have k7:=c8 (H:=H6) (a:=q) (o:=.tup [V.str<|tx nW,vT [l[j]]]);have e8:=j6 (o:=.tup [V.str<|tx<|n2 1,V.ref q,v2]) uE;have GK:=(s5.trans s6).trans<|.of<|e7.trans e8;have tR:=iu.same<|NR.t.trans<|GK.tt d4;show ka (.two 1 (.word [l[j]]) x2) _ _ (Hv.trans<|(m9.of NR).trans GK) (d6.same<|e7.trans e8) ⟨q',_,O Y ⟨c8,⟨q,Y,e8 _ _ k7⟩,tR⟩⟩ ⟨by decide,⟨by show 1<=3;decide,λc hc=>by rw[af.mp hc];exact bS hj⟩,ix⟩ ?_ ?_
            . show max 1 (M7 x2)+1<=_;omega
            . show 11 * (1+vS x2)<=_;omega
          . (try show t7 ?_)
            exact k0 H5 s5 d5
       case rs=>
        intro x v G sG dG sv ok ht vs;show O Y ⟨(by show 2<=sizeLine;omega),λq nq=>?_⟩;rw[Ao];have e:=j6 (o:=.tup [V.str<|tx<|n1 true,v]) nq;exact k (.one true x) _ _ (sG.trans<|.of e) (dG.same e) ⟨q,O Y ⟨c8,sv.same e.t⟩⟩ ok (by show M7 x+1<=_;omega) (by show 11 * vS x<=_;omega)
     . show⟨(by show 5<=sizeLine;omega),λlp gh=>?_⟩;have t3:=j6 (o:=.lst [V.str<|Str.ofString "sum",V.str<|Str.ofString "then",V.str<|Str.ofString "both",V.str<|Str.ofString "sum",V.str<|Str.ofString "then"]) gh;have d3:=d2.same t3;obtain⟨f,hf,f3⟩:∃f,Dh [V.str<|Str.ofString "sum",V.str<|Str.ofString "then",V.str<|Str.ofString "both",V.str<|Str.ofString "sum",V.str<|Str.ofString "then"] (r1 - 7)=some (vT<|n2 f)/\f < 3:=by
        rcases(by omega:r1=7\/r1=8\/r1=9\/r1=10\/r1=11)with rfl | rfl | rfl | rfl | rfl
        . exact⟨0,by rw[Bt];rfl,bD⟩
        . exact⟨1,by rw[ER];rfl,bD⟩
        . exact⟨2,by rw[JJ];rfl,bD⟩
        . exact⟨0,by rw[Bt];rfl,bD⟩
        . exact⟨1,by rw[ER];rfl,bD⟩
       show O Y<|za ⟨Y,Y,zc ⟨Y,Y,y8.of c8,hf,O Y ?_⟩⟩;show vc Y Y Y (O Y<|za ⟨Y,Y,R,nm,p,a,so,l,m,hS,(by show [_,_,_,V.int<|((m+1:Nat):Int) - 1]=_;rw[em]),⟨d3,ia.same t3.t,L,l2,oM,oM⟩,λx5 v5 H5 s5 d5 tT uy xJ xo=>?_⟩);show⟨(by show 3<=sizeLine;omega),λq nq=>?_⟩;have e:=j6 (o:=.tup [vT<|n2 f,v2,v5]) nq;show k (.two f x2 x5) _ _ (Hv.trans<|(m9.of t3).trans<|s5.trans<|.of e) (d5.same e) ⟨q,_,O Y ⟨c8,iu.same<|t3.t.trans<|(s5.tt d3).trans e.t,tT.same e.t⟩⟩ ⟨f3,ix,uy⟩ (by show max (M7 x2) (M7 x5)+1<=_;omega) ?_
       . show(if f=0 then max (vS x2) (vS x5)+1 else vS x2+vS x5)<=_;split <;>omega
def L4(T:Txt K mg t):m8 Pr w K mg base C8 56 t.h0w t.g0i b0m (BJ (w:=w) (base:=base) T 5):=Ea T 5
def gB(l:w0g)(ws:List w0g):List w0g:=ws.flatMap λu=>l.map λc=>u++[c]
def Gp(l:w0g):Nat->List w0g
 | 0=>[[]]
 | i+1=>gB l (Gp l i)
def D5(l:w0g):Nat->List w0g
 | 0=>[[]]
 | i+1=>D5 l i++Gp l (i+1)
theorem Lb{l:w0g}:∀{ws:List w0g},(gB l ws).length=ws.length * l.length
 | []=>by simp[gB]
 | u::ws=>by
  show((l.map λc=>u++[c])++gB l ws).length=_;rw[ao,ai,Lb,bg,cy];omega
def Qz{l:w0g}{ws:List w0g}{j:Nat}{u:w0g}(h:ws[j]? = some u):gB l (ws.take<|j+1)=gB l (ws.take j)++l.map λc=>u++[c]:=by rw[D0 h];unfold gB;rw[List.flatMap_append,List.flatMap_singleton]
theorem HN{l:w0g}:∀i,(Gp l i).length=l.length ^ i
 | 0=>rfl
 | i+1=>by
  show(gB l<|Gp l i).length=_;rw[Lb,HN i,Nat.pow_succ]
theorem KP{l:w0g}:∀i,∀u∈Gp l i,u.length=i/\∀c∈u,c∈l
 | 0,u,h=>by rw[af.mp h];exact⟨Y,by simp⟩
 | i+1,u,h=>by
  obtain⟨v,hv,h⟩:=List.mem_flatMap.mp h;obtain⟨c,hc,rfl⟩:=bE.mp h;obtain⟨e,a⟩:=KP i v hv;show⟨by rw[ao,e];rfl,λd hd=>?_⟩;rcases aw.mp hd with hd | hd
  . exact a d hd
  . rw[af.mp hd];exact hc
def Jt{l:w0g}(i:Nat)(u:w0g)(h:u∈Gp l i):u.length=i:=(KP i u h).1
def Mf{l:w0g}{i j:Nat}(h:i<=j):(D5 l i).length<=(D5 l j).length:=by
 induction h with
 | refl=>exact ae _
 | step _ ih=>show _<=(D5 l _++Gp l _).length;rw[ao];omega
def Oi{a i j:Nat}(h:i<=j)(h0:0 < i):a ^ i<=a ^ j:=by
 cases a with
 | zero=>rw[Nat.zero_pow h0];exact aU _
 | succ a=>exact cG (Nat.succ_pos a) h
theorem Y3{l:w0g}:∀n,∀u∈D5 l n,u.length<=n/\∀c∈u,c∈l
 | 0,u,h=>by rw[af.mp h];exact⟨ae _,by simp⟩
 | n+1,u,h=>by
  rcases aw.mp h with h | h
  . have:=Y3 n u h;exact⟨oM,this.2⟩
  . have:=KP (n+1) u h;exact⟨oM,this.2⟩
theorem OD{l:w0g}:∀(n:Nat) (u:w0g),u.length=n->(∀c∈u,c∈l)->u∈Gp l n
 | 0,u,e,_=>by rw[bu.mp e];exact bc _
 | n+1,u,e,h=>by
  have ne:u≠[]:=λz=>by rw[z]at e;cases e
  rw[<- List.dropLast_concat_getLast ne];have:=OD n u.dropLast (by rw[List.length_dropLast];omega) λc hc=>h c<|List.dropLast_subset u hc;exact List.mem_flatMap.mpr ⟨_,this,bE.mpr ⟨_,h _<|List.getLast_mem ne,Y⟩⟩
theorem Y0{l:w0g}:∀(n:Nat) (u:w0g),u.length<=n->(∀c∈u,c∈l)->u∈D5 l n
 | 0,u,e,_=>by rw[bu.mp<|show u.length=0 by omega];exact bc _
 | n+1,u,e,h=>by
  by_cases z:u.length=n+1
  . exact ar _ (OD _ u z h)
  . exact aF _ (Y0 n u oM h)
theorem IG{l:w0g}:∀(m i:Nat) (u:w0g),(D5 l m)[i]? = some u->∀v:w0g,(∀c∈v,c∈l)->v.length < u.length->v∈(D5 l m).take i
 | 0,i,u,e,v,_,h=>by
  have:=Y3 0 u<|aD e;omega
 | m+1,i,u,e,v,av,h=>by
  have e':(D5 l m++Gp l (m+1))[i]? = some u:=e;show v∈(D5 l m++Gp l (m+1)).take i;by_cases hi:i < (D5 l m).length
  . rw[aV hi]at e';rw[List.take_append_of_le_length<|aR hi];exact IG m i u e' v av h
  . rw[bq oM]at e';have hu:=Jt (m+1) u<|aD e';rw[List.take_append];show aF _ ?_;rw[cJ oM];exact Y0 m v oM av
def sp_lwords:Sp:=λvs H Q _=>∃l,∃(z:Int),∃(q:Nat),vs=[vT l,.int z]/\(Pg l/\(q=z.toNat/\-1<=z)/\l.length ^ q<=10000/\(D5 l q).length<=10000/\q<=100)/\∀b H',o6 H H'->H b=none->H' b=some (.lst<|(D5 l q).map vT)->Q (.ref b) H'
def HH(T:Txt K mg t):m8 Pr w K mg base C8 1 t.j0l t.g0w TQ sp_lwords:=by
 show T.h0b.F.okA D7 λ_ _ _ _ H _ _ _ hr h=>?_;obtain⟨l,z,q,rfl,⟨L,⟨rfl,hz⟩,qo,qm,hq⟩,k⟩:=h;have sl:100000 < sizeLine:=by decide
 have l3:=L.h3;show⟨_,(c7 (sT 2 D7.nd<|F0<|C6 k8)<|c7 (sT 3 D7.nd<|F0<|C6 k8)<|c7 (K7 aK Y (O8 Y T.z_range<|C6<|U 1) (gN 4 D7.nd)<|c7 (sT 5 D7.nd<|F0 Ad)<|c7 (K7 aK Y (Bh<|U 3) (R9 (i:=6) D7.nd Y<|Or.inr Y)<|c6<|Bg<|Jf de PySem.F.slot_list_extend PySem.F.type_list_extend GO (U 5)<|C6<|HB (xs:=["_law_letter"]) Y (oC b0p<|c5 U5) (Kx<|U 0) (R9 (i:=7) (by show List.Nodup ([BD,Me,BC,"_law_level",Ka,"_law_more",W7,"_law_letter"]:w0h);decide +kernel) Y<|Or.inl Y)<|l5 M3 (U 6)<|U 7)<|c7 (Bg<|Jf de PySem.F.slot_list_extend PySem.F.type_list_extend GO (U 2)<|C6<|U 5)<|c6<|sT 3 D7.nd<|U 5)<|c6<|i3<|U 2),?_⟩;have em:V.str (Str.ofString "")=vT []:=by rw[BA];rfl
 show⟨sL,λf0 nf=>?_⟩;rw[em];show KG (o:=.lst [vT []]) nf λH0 s0 h0=>?_;show⟨sL,λg0 ng=>?_⟩;have s1:=j6 (o:=.lst [vT []]) ng;have h1:=c8 (H:=H0) (a:=g0) (o:=.lst [vT []]);have fg:g0≠f0:=λe=>by rw[e,h0]at ng;cases ng
 revert s1 h1;generalize upd H0 g0 (.lst [vT []])=H1;intro s1 h1;have jU:H f0=none:=nf;show vb Y Y ⟨oM,oM,E7 (lo:=0) (n:=z.toNat) (λi σ G=>∃lp v4 v5 v6,σ=[some<|vT l,some<|.int z,sr f0,sr lp,v4,v5,v6]/\o6 H G/\G f0=some (.lst<|(D5 l i).map vT)/\G lp=some (.lst<|(Gp l i).map vT)/\lp≠f0) ⟨g0,_,_,O Y ⟨s0.trans s1,s1 _ _ h0,h1,fg⟩⟩ ?_ ?_⟩
 . rintro i σ G hi ⟨lp,v4,v5,v6,rfl,q,hf,hl,uF⟩;have pl:l.length ^ (i+1)<=l.length ^ z.toNat:=Oi oM oM;have ul:=Mf (l:=l) (show i+1<=z.toNat by omega);show⟨sL,λgp ng=>?_⟩;have s3:=j6 (o:=.lst ([]:List V)) ng;have k3:=c8 (H:=G) (a:=gp) (o:=.lst []);have gf:gp≠f0:=λe=>by rw[e,hf]at ng;cases ng
   revert s3 k3;generalize upd G gp (.lst [])=G1;intro s3 k3;have qo:=s3 _ _ hl;have gl:gp≠lp:=λe=>by rw[e,hl]at ng;cases ng
   show O Y ⟨lp,Y,⟨_,y8.of qo⟩,Da (K:=K) (a:=lp) (xs:=(Gp l i).map vT) (λj σ G2=>∃v6,σ=[some<|vT l,some<|.int z,sr f0,sr lp,some<|.int<|0+(i:Int),sr gp,v6]/\o6 G G2/\G2 gp=some (.lst<|(gB l<|(Gp l i).take j).map vT)) (O Y ⟨s3,k3⟩) (λj σ G2 _ ⟨_,_,x,_⟩=>y8.of<|x _ _ hl) ?_ ?_⟩
   . rintro j y σ G2 hj ⟨v6,rfl,q2,hg⟩;rw[aN]at hj;obtain⟨u,eu,rfl⟩:=bM.mp hj;have jl:=(aP.mp eu).1;have bl:(gB l<|(Gp l i).take j).length+l.length<=10000:=by rw[Lb,aZ,Nat.min_eq_left<|aR jl,<- cy];have:(j+1) * l.length<=(Gp l i).length * l.length:=br _ jl;rw[HN,<- Nat.pow_succ]at this;exact aj this (aj pl<|by assumption)
     have uu:u.length=i:=Jt i u<|aD eu;show O Y ⟨.inl ⟨Y,_,y8.of hg⟩,vb Y Y ⟨L.asc,EM (n:=l.length) (λm ys G3=>ys.length=m/\ys=((l.take m).map λc=>u++[c]).map vT/\G3=G2) oM ⟨Y,Y,Y⟩ (λj ys H2 q=>q.1) ?_ ?_ ?_⟩⟩
     . rintro m ys G3 hm ⟨e0,e1,rfl⟩;show⟨(by show m < l.toArray.size;simpa using hm),λx H' hy=>?_⟩;obtain⟨rfl,c,hc,rfl⟩:=hy;have hc:=NA hc;show⟨⟨[some _],Y,Y⟩,vb Y Y<|za ⟨Y,Y,(by show(tx u).length+(tx [c]).length<=_;rw[l8,l8];simp;omega),?_,?_,Y⟩⟩
       . rw[ao,e0];rfl
       . rw[D0 hc,bh,bh,<- e1];show _++[V.str<|tx u++tx [c]]=_;rw[Do];rfl
     . rintro ys G3 ⟨e0,e1,rfl⟩;show l.toArray.size<=_;simp
     . rintro ys G3 zp ⟨e0,e1,rfl⟩ nz;rw[bI]at e1;subst e1;show KG (o:=.lst<|(l.map λc=>u++[c]).map vT) nz λG4 t1 k1=>?_;have wc:=t1 _ _ hg;show⟨gp,zp,za ⟨Y,Y,wc,k1,(by rw[ai,ai,ai];omega),?_⟩⟩;have sx:m9 gp G4 (upd G4 gp<|.lst<|(gB l<|(Gp l i).take j).map vT++(l.map λc=>u++[c]).map vT):=m9.upd;show O Y ⟨λb o e=>sx b o (l9 e ng)<|(q2.trans t1) b o e,?_⟩;rw[c8,Qz eu,bh]
   . rintro σ G2 ⟨v6,rfl,q2,hg⟩;rw[ai,bI]at hg;have jC:=q2 _ _ hf;have e1:(D5 l<|i+1).length=(D5 l i).length+(Gp l<|i+1).length:=ao;show O Y ⟨.inl ⟨Y,_,y8.of jC⟩,O Y ⟨f0,gp,za ⟨Y,Y,jC,hg,(by rw[ai,ai];show _+(Gp l<|i+1).length<=_;omega),?_⟩⟩⟩;have sx:m9 f0 G2 (upd G2 f0<|.lst<|(D5 l i).map vT++(gB l<|Gp l i).map vT):=m9.upd;show O Y ⟨gp,zb ⟨Y,λb o e=>sx b o (l9 e jU)<|(q.trans q2) b o e,?_,sx _ _ gf hg,gf⟩⟩;rw[c8];show _=some (HO.lst<|(D5 l i++Gp l (i+1)).map vT);rw[bh];rfl
 . rintro σ G ⟨lp,v4,v5,v6,rfl,q,hf,hl,uF⟩;exact O Y (k _ _ q jU hf)
def KD{S:SR}{s:Sy S.W}:oS S s↔(∃b∈Aa s,oS S b)\/∃a,s=.one true a/\wS S a []≠S.zero:=by
 constructor
 . intro h;cases s with
   | nil=>exact absurd h id
   | word x=>exact absurd h id
   | times c a=>exact .inl ⟨a,by simp[Aa],h⟩
   | one f a=>
    rcases h with h | ⟨rfl,h⟩
    . exact .inl ⟨a,by simp[Aa],h⟩
    . exact .inr ⟨a,Y,h⟩
   | two f a b=>
    rcases h with h | h
    . exact .inl ⟨a,by simp[Aa],h⟩
    . exact .inl ⟨b,by simp[Aa],h⟩
 . rintro(⟨b,hb,h⟩ | ⟨a,rfl,h⟩)
   . exact Rl hb h
   . exact .inr ⟨Y,h⟩
def EV(T:Txt K mg t)(N:Nat):Sp:=λvs H Q _=>∃(R:o7 Pr w K mg base),∃nm p so v s l,So T R nm p/\vs=[so,v]/\(F4 H so nm p/\SV R s v H/\Cn R.S l s/\M7 s<=N/\vS s<=50000)/\M7 s<=10/\
 ∀b H',o6 H H'->(b=true↔oS R.S s)->Q (.bl b) H'
theorem Jj(T:Txt K mg t):∀(N:Nat) {w:World} {base:Heap},m8 Pr w K mg base C8 (N+51) t.f0f t.d0x Ql (EV (w:=w) (base:=base) T N)
 | 0,w,base=>by
  show T.d0z.F.ok O3 (λvs H Q E h=>?_) (λdR A outer s H vs Q E hr h=>?_)
  . obtain⟨R,nm,p,so,v,s,l,_,rfl,_⟩:=h;rfl
  . obtain⟨R,nm,p,so,v,s,l,_,rfl,⟨_,_,_,h0,_⟩,_⟩:=h;have:=FJ s;omega
 | N+1,w,base=>by
  have K3:∀{w:World} {base:Heap} (T:Txt K mg t),m8 Pr w K mg base C8 (N+51) t.f0f t.d0x Ql (EV (w:=w) (base:=base) T N):=λT=>Jj T N;show T.d0z.F.ok O3 (λvs H Q E h=>?_) (λ_ _ _ s H _ Q _ hr h=>?_)
  . obtain⟨R,nm,p,so,v,s,l,_,rfl,_⟩:=h;rfl
  . obtain⟨R,nm,p,so,v,sy,l,hS,rfl,⟨eF,hv,o,hh,fK⟩,qA,k⟩:=h;have zl:=sZ;show⟨_,(c7 (Ja (i₀:=2) (xs:=[Ek]) O3.nd Y (Or.inl Y) Y (oC TV<|c5 E3) (Hy<|z5 EJ (U 1) (B2 c4) F5) (gL 3 b0n) (PW.pt<|R1 (E9<|l4 (show Q5 _ (.builtin "isinstance") (Ku K)from K0) bR T.z_isinstance boot_isinstance<|C5 (U 3)<|O1 (v:=.ty "tuple") Y T.z_tuple boot_tuple Y)<|R1 (c9 CG (l4 (show Q5 _ (.builtin "len") (λxs H Q=>∃x n,xs=[x]/\Am K x H n/\Q (V.int (n:Nat)) H)from w6) bR T.z_len PySem.boot_len<|C6<|U 3) c4<|j7 _)<|U6<|E9<|l4 (show Q5 _ (.builtin "isinstance") (Ku K)from K0) bR T.z_isinstance boot_isinstance<|C5 (z6 (show Iv _ (Mv K)from l7) (U 3) c4)<|O1 (v:=.ty "str") Y T.z_str boot_str Y)<|U 3)<|c7 (o3 (E9<|l4 (OX Y) bR T.z_any boot_any<|C6<|HB (xs:=[Ek]) Y (oC TV<|c5 E3) (Bh<|U 2) (gL 3 b0n)<|p8 (K3 (w:=w) (base:=base) T) (hr.mono oM) Y T.d0z.m T.d0z.F.kp T.d0z.b .nil t8<|C5 (U 0)<|U 3) (c6<|i3 Ar) k6)<|c6<|i3<|Ac (O0 w8 (z6 l7 (U 1) c4) k8<|j7 _)<|S9<|O0 (Fi hr.units) (p8 (CK T) (hr.mono oM) Y T.g0p.m T.g0p.F.kp T.g0p.b .nil t8<|C5 (U 0)<|z6 l7 (U 1) c4) (p8 (C7 T) (hr.mono oM) Y T.f0y.m T.f0y.F.kp T.f0y.b .nil t8<|C6<|U 0)<|j7 _),?_⟩;obtain⟨p',es,us,rfl,hp,le,lu,hu⟩:=hv.look;obtain⟨x1,x2⟩:=DP sy;have e0:Dh ((vT (Ag sy)::es)++us) 0=some (vT<|Ag sy):=D9 (show((vT (Ag sy)::es)++us)[0]? = some (vT<|Ag sy)from rfl);show vb Y Y ⟨p',O Y ⟨y4.of hp,hp,λp3 H2 s2 h2=>?_⟩⟩;have ec:Ai ((vT (Ag sy)::es)++us) (some (1:Int)) none=es++us:=Dd (k:=1) (xs:=(vT (Ag sy)::es)++us) (by simp);rw[ec]at h2;show⟨p3,Y,⟨_,y4.of h2⟩,AZ (n:=(es++us).length) (λj ys G=>o6 H2 G/\ys=us.take (j - es.length)) (by simp;omega) ⟨o6.refl _,by simp⟩ (λj ys G z=>by rw[z.2,aZ];omega) ?_ ?_ ?_⟩
    . rintro j ys G hj ⟨s3,ly⟩;obtain⟨x,ex⟩:∃x,(es++us)[j]? = some x:=⟨_,aJ hj⟩;show⟨za ⟨y4.of<|s3 _ _ h2,ex⟩,λy H' fb=>?_⟩;obtain⟨rfl,fb⟩:=fb;have:=fb _<|y4.of<|s3 _ _ h2;rw[ex]at this;cases this;show⟨⟨[some _],Y,Y⟩,?_⟩;have Hu:=s2.trans s3;by_cases hje:j < es.length
      . rw[aV hje]at ex;have nx:=(hv.ext hp le x<|aD ex).imp id<|Exists.imp λc h=>R.same Hu.t h;show Km T hS rfl nx<|t7 ?_;exact⟨s3,by rw[ly,show j+1 - es.length=0 by omega,show j - es.length=0 by omega]⟩
      . rw[bq oM]at ex;obtain⟨b,eb,sb⟩:=hu _ x ex;show Hr T rfl (sb.same Hu.t) ?_;show B9 ?_;show O Y ⟨s3,?_⟩;rw[ly,show j+1 - es.length=(j - es.length)+1 by omega,D0 ex]
    . rintro ys G ⟨s3,_⟩;exact⟨_,y4.of<|s3 _ _ h2,ae _⟩
    . rintro ys G lp ⟨s3,ly⟩ gh;rw[show(es++us).length - es.length=us.length by rw[ao];omega,bI]at ly;subst ly;have t4:=j6 (o:=.lst ys) gh;have k4:=c8 (H:=G) (a:=lp) (o:=.lst ys);have s4:=s2.trans<|s3.trans t4;revert s4 k4;clear t4 gh s3 h2 s2;generalize upd G lp (.lst ys)=H4;intro k4 s4;show O Y ⟨lp,Y,⟨_,y8.of k4⟩,EM (n:=ys.length) (λj zs G=>o6 H4 G/\∃bs:List Bool,zs=bs.map V.bl/\bs.length=j/\(bs.any id=true↔∃b∈(Aa sy).take j,oS R.S b)) oM ⟨o6.refl _,[],Y,Y,by simp⟩ (λj zs G z=>by obtain⟨_,bs,rfl,e,_⟩:=z;rw[ai,e]) ?_ ?_ ?_⟩
      . rintro j zs G hj ⟨s5,bs,rfl,lb,hb⟩;obtain⟨x,ex⟩:∃x,ys[j]? = some x:=⟨_,aJ hj⟩;obtain⟨a,ea,sx⟩:=hu j x ex;have kl:=s5 _ _ k4;have Cz:=s4.trans s5;show⟨za ⟨y8.of kl,ex⟩,λy H' fb=>?_⟩;obtain⟨rfl,fb⟩:=fb;have:=fb _<|y8.of kl;rw[ex]at this;cases this;have ma:=aD ea;have h1:=Jz ma;have h2:=EN ma;show⟨⟨[some _],Y,Y⟩,vb Y Y ⟨R,zi nm p so x a l ⟨hS,Y,⟨eF.same Cz.t,sx.same Cz.t,LA o ma,oM,oM⟩,oM,λb H6 s6 qw=>?_⟩⟩⟩;show⟨s5.trans s6,bs++[b],by rw[bh];rfl,by rw[ao,lb];rfl,?_⟩;rw[List.any_append,Bool.or_eq_true,hb,D0 ea];constructor
        . rintro(⟨b',m,h⟩ | h)
          . exact⟨b',aF _ m,h⟩
          . exact⟨a,ar _<|bc _,qw.mp<|by simpa using h⟩
        . rintro⟨b',m,h⟩;rcases aw.mp m with m | m
          . exact .inl ⟨b',m,h⟩
          . rw[af.mp m]at h;exact .inr (by simpa using qw.mpr h)
      . rintro zs G ⟨s5,_⟩;exact⟨_,y8.of<|s5 _ _ k4,ae _⟩
      . rintro zs G zp ⟨s5,bs,rfl,lb,hb⟩ nz;have t6:=j6 (o:=.lst<|bs.map V.bl) nz;rw[lu,bI]at hb;show⟨zp,bs,Y,y8.of c8,?_⟩;have Dk:=s4.trans<|s5.trans t6;revert Dk;clear t6 nz;generalize upd G zp (.lst<|bs.map V.bl)=H6;intro Dk;by_cases e:bs.any id=true
        . show O Y<|Cj e ?_;exact k true _ Dk ⟨λ_=>KD.mpr<|.inl<|hb.mp e,λ_=>rfl⟩
        . have no:¬∃b∈Aa sy,oS R.S b:=λz=>e<|hb.mpr z;show O Y (CU (by simpa using e) ?_);show O Y<|zc ⟨Y,Y,y4.of<|Dk _ _ hp,e0,Y,?_⟩;have tS:=hv.same Dk.t;have dD:(∀a,sy≠.one true a)->Q (.bl false) H6:=λne=>k false _ Dk ⟨(λz=>nomatch z),λz=>((KD.mp z).elim no λ⟨a,e,_⟩=>ne a e).elim⟩;cases sy with
          | nil=>exact O Y (fN (x:=nN) Ao bD<|dD λ_ z=>nomatch z)
          | word x=>exact O Y (fN (x:=nW) Ao bD<|dD λ_ z=>nomatch z)
          | times c a=>exact O Y (fN (x:=nT) Ao bD<|dD λ_ z=>nomatch z)
          | two f a b=>
           show O Y (fN (x:=n2 f) Ao ?_<|dD λ_ z=>nomatch z);rcases Ft f with e | e | e <;>rw[e] <;>decide
          | one f a=>
           cases f with
           | false=>exact O Y (fN (x:=n1 false) Ao bD<|dD λ_ z=>nomatch z)
           | true=>
            have jb:11 * vS a<=50000:=fK;have vZ:M7 a+1<=10:=qA;obtain⟨q,y,e,hq,sa⟩:=tS;cases e;show O Y<|fY (x:=n1 true) Ao ?_;show vb Y Y<|zc ⟨Y,Y,y4.of hq,Y,R,zi nm p so y a l ⟨hS,Y,⟨eF.same Dk.t,sa,o,oM,oM⟩,λv3 H7 s7 f7=>(O Y ⟨R,zf nm p so ⟨hS,Y,(eF.same Dk.t).same s7.t,λv4 H8 s8 f8=>?_⟩⟩)⟩⟩;have Cy:=Dk.trans<|s7.trans s8;by_cases z:wS R.S a []=R.S.zero
            . show R.neD (R.same s8.t f7) f8 z (k false _ Cy ⟨(λz=>nomatch z),λzz=>?_⟩);rcases KD.mp zz with h | ⟨a',e,h⟩
              . exact(no h).elim
              . cases e;exact(h z).elim
            . exact R.neT (R.same s8.t f7) f8 z (k true _ Cy ⟨λ_=>.inr ⟨Y,z⟩,λ_=>rfl⟩)
def K3(T:Txt K mg t):m8 Pr w K mg base C8 61 t.f0f t.d0x Ql (EV (w:=w) (base:=base) T 10):=Jj T 10
def Td{W:Type}{s b:Sy W}{n:Nat}(h:b∈Aa s)(e:M7 s=n+1):2 ^ M7 b<=2 ^ n:=cG bD (by have:=Jz h;omega)
def Qx{W:Type}{s:Sy W}(h:Ag s=nW):∃x,s=.word x:=by
 cases s with
 | nil=>exact absurd h (by show ¬nN=nW;decide)
 | word x=>exact⟨x,Y⟩
 | times c a=>exact absurd h (by show ¬nT=nW;decide)
 | one f a=>cases f <;>exact absurd h (by show ¬n1 _=nW;decide)
 | two f a b=>
  have h:n2 f=nW:=h;rcases Ft f with e | e | e <;>(rw[e]at h;exact absurd h bD)
def EU(T:Txt K mg t)(N:Nat):Sp:=λvs H Q _=>∃(R:o7 Pr w K mg base),∃nm p v s l,So T R nm p/\vs=[v]/\(SV R s v H/\Cn R.S l s/\M7 s<=N/\M7 s<=10)/\
 ∀(a:Addr) (ws:List w0g) H',o6 H H'->H a=none->H' a=some (.lst<|ws.map vT)->(∀x∈ws,x.length<=3/\∀c∈x,c∈l)->ws.length<=2 ^ M7 s->Q (.ref a) H'
theorem Ji(T:Txt K mg t):∀(N:Nat) {w:World} {base:Heap},m8 Pr w K mg base C8 (N+1) t.j0o t.i0q [W9] (EU (w:=w) (base:=base) T N)
 | 0,w,base=>by
  show T.h0s.F.ok Q1 (λvs H Q E h=>?_) (λdR A outer s H vs Q E hr h=>?_)
  . obtain⟨R,nm,p,v,s,l,_,rfl,_⟩:=h;rfl
  . obtain⟨R,nm,p,v,s,l,_,rfl,⟨_,_,h0,_⟩,_⟩:=h;have:=FJ s;omega
 | N+1,w,base=>by
  have AS:∀(T:Txt K mg t),m8 Pr w K mg base C8 (N+1) t.j0o t.i0q [W9] (EU (w:=w) (base:=base) T N):=λT=>Ji T N;show T.h0s.F.ok Q1 (λvs H Q E h=>?_) (λ_ _ _ s H _ _ _ hr h=>?_)
  . obtain⟨R,nm,p,v,s,l,_,rfl,_⟩:=h;rfl
  . obtain⟨R,nm,p,v,sy,l,hS,rfl,⟨hv,o,hh,qA⟩,k⟩:=h;have zl:=sZ;show⟨_,(c7 (o3 (c9 w8 (z6 l7 (U 0) c4) k8<|j7 _) (c6<|i3<|F0<|C6<|z6 l7 (U 0) c4) k6)<|c7 (sT 1 Q1.nd<|F0 Ad)<|c7 (K7 aK Y (Hy<|z5 EJ (U 0) (B2 c4) F5) (gN 2 Q1.nd)<|c6<|o3 (PW.pt<|R1 (E9<|l4 K0 bR T.z_isinstance boot_isinstance<|C5 (U 2)<|O1 (v:=.ty "tuple") Y T.z_tuple boot_tuple Y)<|R1 (c9 CG (l4 w6 bR T.z_len PySem.boot_len<|C6<|U 2) c4<|j7 _)<|U6<|E9<|l4 K0 bR T.z_isinstance boot_isinstance<|C5 (z6 l7 (U 2) c4)<|O1 (v:=.ty "str") Y T.z_str boot_str Y) (c6<|sT 1 Q1.nd<|l5 Ov (U 1)<|p8 (AS T) (hr.mono oM) Y T.h0s.m T.h0s.F.kp T.h0s.b .nil t8<|C6<|U 2) k6)<|c6<|i3<|U 1),?_⟩;obtain⟨p',es,us,rfl,hp,le,lu,hu⟩:=hv.look;obtain⟨x1,x2⟩:=DP sy;have e0:Dh ((vT (Ag sy)::es)++us) 0=some (vT<|Ag sy):=D9 (show((vT (Ag sy)::es)++us)[0]? = some (vT<|Ag sy)from rfl);show O Y<|zc ⟨Y,Y,y4.of hp,e0,Y,O Y ?_⟩;by_cases hw:Ag sy=nW
    . obtain⟨x,rfl⟩:=Qx hw;show fY (x:=nW) E4 ?_;obtain⟨p2,e,jf⟩:=hv;cases e;show O Y (zc ⟨Y,Y,y4.of jf,Y,(by show 1<=sizeLine;omega),λa na=>?_⟩);exact k a [x] _ (j6 na) na c8 (λy hy=>by rw[af.mp hy];exact o) (Nat.pow_pos bD)
    . show fN (x:=Ag sy) E4 hw ?_;obtain⟨n,hn⟩:∃n,M7 sy=n+1:=⟨M7 sy - 1,by have:=FJ sy;omega⟩;show⟨(by show 0<=sizeLine;omega),λf0 jU=>?_⟩;show KG (o:=.lst []) jU λH1 t1 k1=>?_;show vb Y Y ⟨p',O Y ⟨y4.of<|t1 _ _ hp,t1 _ _ hp,λp3 H2 s2 h2=>?_⟩⟩;have ec:Ai ((vT (Ag sy)::es)++us) (some (1:Int)) none=es++us:=Dd (k:=1) (xs:=(vT (Ag sy)::es)++us) (by simp);rw[ec]at h2;have Hv:=t1.trans s2;have pn:2 ^ n<=512:=cG (show 0 < 2 by decide) (show n<=9 by omega);show⟨p3,Y,⟨_,y4.of h2⟩,QG (K:=K) (a:=p3) (xs:=es++us) (λj σ G=>∃(f:Addr) (ws:List w0g) (v2:Option V),σ=[some<|.ref p',sr f,v2]/\o6 H2 G/\H f=none/\G f=some (.lst<|ws.map vT)/\(∀x∈ws,x.length<=3/\∀c∈x,c∈l)/\ws.length<=(j - es.length) * 2 ^ n) ⟨f0,[],O Y ⟨o6.refl _,jU,s2 _ _ k1,(λ_ h=>nomatch h),aU _⟩⟩ (λj σ G _ ⟨_,_,_,_,q,_⟩=>y4.of<|q _ _ h2) ?_ ?_⟩
      . rintro j y σ G ex ⟨f,ws,v2,rfl,sG,nf,hf,gd,ln⟩;have hj:=(aP.mp ex).1;have Hu:=Hv.trans sG;by_cases hje:j < es.length
        . rw[aV hje]at ex;have nx:=(hv.ext hp le y<|aD ex).imp id<|Exists.imp λc h=>R.same Hu.t h;show Km T hS rfl nx<|t7 ?_;exact⟨f,ws,O Y ⟨sG,nf,hf,gd,by rw[show j+1 - es.length=j - es.length by omega];exact ln⟩⟩
        . rw[bq oM]at ex;obtain⟨b,eb,sb⟩:=hu _ y ex;have mb:=aD eb;have h1:=Jz mb;have wO:=Td mb hn;have jl:j - es.length<=2:=by rw[ao]at hj;omega
          have jm:(j - es.length) * 2 ^ n<=2 * 2 ^ n:=br _ jl;show Hr T rfl (sb.same Hu.t) ?_;show B9 ?_;show vb Y Y ⟨R,zh nm p y b l ⟨hS,Y,⟨sb.same Hu.t,LA o mb,oM,oM⟩,λa2 pK H5 s5 xD wF oW xF=>⟨f,a2,za ⟨Y,Y,s5 _ _ hf,wF,(by rw[ai,ai];omega),λq nq=>?_⟩⟩⟩⟩;have s6:=j6 (o:=.lst<|ws.map vT++pK.map vT) nq;show⟨q,ws++pK,O Y ⟨(sG.trans s5).trans s6,?_,by rw[bh];exact c8,λx hx=>(aw.mp hx).elim (gd x)<|oW x,?_⟩⟩
          . cases z:H q with
            | none=>rfl
            | some u=>rw[(Hu.trans s5) _ _ z]at nq;cases nq
          . rw[ao,show j+1 - es.length=(j - es.length)+1 by omega,cy];omega
      . rintro σ G ⟨f,ws,v2,rfl,sG,nf,hf,gd,ln⟩;show O Y<|k f ws G (Hv.trans sG) nf hf gd ?_;rw[hn,Nat.pow_succ];have:((es++us).length - es.length) * 2 ^ n<=2 * 2 ^ n:=br _ (by rw[ao];omega);omega
def AS(T:Txt K mg t):m8 Pr w K mg base C8 11 t.j0o t.i0q [W9] (EU (w:=w) (base:=base) T 10):=Ji T 10
def RR{p:w0g}{i j:Int}(h0:0<=i)(h1:i<=j)(h2:j<=p.length):Txt.slice (tx p) (some i) (some j)=tx ((p.drop i.toNat).take (j - i).toNat):=by have e:=PyProof.Rows.slice_closes (x:=tx p) (i:=i) (j:=j) ⟨h0,h1,by simpa [tx] using h2⟩;rw[beq_iff_eq]at e;rw[e];show(⟨_⟩:Str)=⟨_⟩;simp[tx]
theorem KY{x:w0g}:∀us:List w0g,Um (vT x) (us.map vT)=decide (x∈us)
 | []=>by simp[Um]
 | u::us=>by
  have ih:=KY (x:=x) us;unfold Um at ih ⊢;rw[aM,cb,ih];have e:QH (vT u) (vT x)=decide (x=u):=by
   show(tx u == tx x)=decide (x=u);by_cases z:x=u
   . subst z;simp
   . rw[decide_eq_false z];exact beq_false_of_ne λe=>z (Dn e).symm
  rw[e];by_cases z:x=u
  . simp[z]
  . simp[z]
theorem LK:∀us:List w0g,(us.map vT).all Dc=true
 | []=>rfl
 | u::us=>by rw[aM,List.all_cons,LK us];rfl
def Lm(w x:w0g):Prop:=x <:+: w\/x <:+: w.reverse
def Lm.sub{w x y:w0g}(h:Lm w x)(e:y <:+: x):Lm w y:=h.imp e.trans e.trans
def Lm.len{w x:w0g}(h:Lm w x):x.length<=w.length:=by
 rcases h with h | h
 . exact h.length_le
 . have:=h.length_le;rwa [List.length_reverse]at this
def Lm.rev{w x:w0g}(h:Lm w x):Lm w x.reverse:=by
 rcases h with h | h
 . exact .inr (List.reverse_infix.mpr h)
 . exact .inl (by have:=List.reverse_infix.mpr h;rwa [List.reverse_reverse]at this)
structure Pc(w:w0g)(n:Nat)(us:List w0g):Prop where
 al:∀x∈us,Lm w x
 up:∀x,Lm w x->x.length < n->x∈us
 od:∀(i:Nat) u,us[i]? = some u->u≠[]->∀q,u.drop (q+1)∈us.take i
def Pc.nil{w:w0g}:Pc w 1 [[]]:=⟨λx h=>by rw[af.mp h];exact .inl<|List.nil_infix,λx _ h=>by rw[bu.mp<|show x.length=0 by omega];exact bc _,λi u e ne=>absurd (af.mp<|aD e) ne⟩
def Pc.snoc{w:w0g}{n:Nat}{us:List w0g}{x:w0g}(h:Pc w n us)(hx:Lm w x)(hl:x.length<=n):Pc w n (us++[x]):=by
 show⟨λy hy=>?_,λy hy hl=>aF _<|h.up y hy hl,λi u e ne q=>?_⟩
 . rcases aw.mp hy with hy | hy
   . exact h.al y hy
   . rw[af.mp hy];exact hx
 . by_cases hi:i < us.length
   . rw[aV hi]at e;rw[List.take_append_of_le_length<|aR hi];exact h.od i u e ne q
   . rw[bq oM]at e;have ux:=af.mp<|aD e;rw[List.take_append];show aF _ ?_;rw[cJ oM,ux];have:=cM.mpr ne;rw[ux]at this;exact h.up _ (hx.sub (List.drop_suffix _ _).isInfix) (by rw[aO];omega)
def Pc.cw{w:w0g}{us:List w0g}(h:Pc w (w.length+1) us)(hl:w.length<=10)(hs:us.length<=900):Cw us:=by have to:∀x,Lm w x->x∈us:=λx hx=>h.up x hx (by have:=hx.len;omega);exact⟨λu hu q=>to _<|(h.al u hu).sub (List.take_prefix _ _).isInfix,λu hu q=>to _<|(h.al u hu).sub (List.drop_suffix _ _).isInfix,λu hu=>to _ (h.al u hu).rev,λu hu=>by have:=(h.al u hu).len;omega,hs,h.od⟩
def Ul{x t:w0g}(h:x <:+: t):∃i,i+x.length<=t.length/\(t.drop i).take x.length=x:=by obtain⟨a,b,rfl⟩:=h;show⟨a.length,by simp,?_⟩;rw[List.append_assoc,List.drop_left,List.take_left]
def sp_lpieces:Sp:=λvs H Q _=>∃u,vs=[vT u]/\u.length<=10/\∀(a:Addr) (us:List w0g) H',o6 H H'->H' a=some (.lst<|us.map vT)->Cw us->u∈us->[]∈us->Q (.ref a) H'
def Gi(T:Txt K mg t):m8 Pr w K mg base C8 1 t.i0f t.g0e [W7] sp_lpieces:=by
 show T.f0t.F.okA L1 λ_ _ _ _ H _ _ _ hr h=>?_;obtain⟨u,rfl,gX,k⟩:=h;have sl:100000 < sizeLine:=by decide
 show⟨_,(c7 (sT 1 L1.nd<|F0<|C6 k8)<|c7 (K7 aK Y (Dz Y T.z_range<|C5 c4<|l5 z8 (l4 w6 bR T.z_len PySem.boot_len<|C6<|U 0) c4) (gN 2 L1.nd)<|c6<|K7 aK Y (Bh<|F0<|C5 (U 0)<|Ky (U 0)<|Fg BE c4) (gN 3 L1.nd)<|c6<|K7 aK Y (O8 Y T.z_range<|C6<|l5 z8 (l5 W3 (l4 w6 bR T.z_len PySem.boot_len<|C6<|U 0)<|U 2) c4) (gN 4 L1.nd)<|c6<|o3 (c9 HF (z5 S4 (U 3) (B2<|U 4)<|B2<|l5 z8 (U 4)<|U 2) (U 1)<|by with_unfolding_all rfl) (c6<|Bg<|Jf de PySem.F.slot_list_append PySem.F.type_list_append MG (U 1)<|C6<|z5 S4 (U 3) (B2<|U 4)<|B2<|l5 z8 (U 4)<|U 2) k6)<|c6<|i3<|U 1),?_⟩;have em:V.str (Str.ofString "")=vT []:=by rw[BA];rfl
 show⟨sL,λf0 nf=>?_⟩;rw[em];show KG (o:=.lst [vT []]) nf λH0 s0 h0=>?_;have ln:∀(G:Z) (x:w0g),x.length<=10->Am K (vT x) G x.length:=λG x hx=>⟨by rw[l8];omega,(l8 x).symm⟩;show O Y (za ⟨Y,ln H0 u gX,za ⟨Y,Y,za ⟨Y,oM,E7 (lo:=1) (n:=((u.length:Int)+1 - 1).toNat) (λi σ G=>∃v2 v3 v4 us,σ=[some<|vT u,sr f0,v2,v3,v4]/\m9 f0 H0 G/\G f0=some (.lst<|us.map vT)/\Pc u (1+i) us/\us.length<=1+20 * i) ⟨_,_,_,[[]],Y,m9.refl _ _,h0,Pc.nil,bD⟩ ?_ ?_⟩⟩⟩)
 . rintro i σ G hi ⟨v2,v3,v4,us,rfl,q,hf,pc,ul⟩;have hi:i < u.length:=by omega
   show vc Y Y Y (O Y ⟨Y,(by rw[l8];omega),?_⟩);rw[Kr];show⟨(by show 2<=sizeLine;omega),λlp nl=>?_⟩;have s1:=j6 (o:=.lst [vT u,V.str<|tx u.reverse]) nl;have k1:=c8 (H:=G) (a:=lp) (o:=.lst [vT u,V.str<|tx u.reverse]);have lf:lp≠f0:=λe=>by rw[e,hf]at nl;cases nl
   have oH:=s1 _ _ hf;have q1:=q.trans<|.of s1;revert k1 oH q1;clear s1 nl hf q;generalize upd G lp (.lst [vT u,V.str<|tx u.reverse])=G1;intro k1 oH q1;show⟨lp,Y,⟨_,y8.of k1⟩,Da (K:=K) (a:=lp) (xs:=[u,u.reverse].map vT) (λm σ G2=>∃v3 v4 us,σ=[some<|vT u,sr f0,some<|.int<|1+(i:Int),v3,v4]/\m9 f0 G1 G2/\G2 f0=some (.lst<|us.map vT)/\Pc u (1+i) us/\(∀t∈[u,u.reverse].take m,∀x,x <:+: t->x.length=1+i->x∈us)/\us.length<=1+20 * i+10 * m) ⟨_,_,us,Y,m9.refl _ _,oH,pc,(λ_ h=>nomatch h),oM⟩ (λj σ G2 _ ⟨_,_,_,_,x,_⟩=>y8.of<|x _ _ lf k1) ?_ ?_⟩
   . rintro m y σ G2 hm ⟨v3,v4,us,rfl,q2,jC,pc,up,ul⟩;rw[aN]at hm;obtain⟨t,et,rfl⟩:=bM.mp hm;have tu:t=u\/t=u.reverse:=by simpa using aD et
     have tl:t.length=u.length:=by rcases tu with rfl | rfl <;>simp
     have xM:m < 2:=(aP.mp et).1;have ti:∀x,x <:+: t->Lm u x:=λx hx=>by rcases tu with rfl | rfl;exact .inl hx;exact .inr hx
     show O Y (za ⟨Y,ln G2 u gX,O Y<|za ⟨Y,Y,za ⟨Y,Y,O Y ⟨oM,oM,E7 (lo:=0) (n:=((u.length:Int) - (1+(i:Int))+1).toNat) (λj σ G3=>∃v4 eS,σ=[some<|vT u,sr f0,some<|.int<|1+(i:Int),some<|vT t,v4]/\m9 f0 G2 G3/\G3 f0=some (.lst<|eS.map vT)/\Pc u (1+i) eS/\(∀x∈us,x∈eS)/\(∀p,p < j->(t.drop p).take (1+i)∈eS)/\eS.length<=us.length+j) ⟨_,us,Y,m9.refl _ _,jC,pc,λ_ h=>h,λp h=>absurd h<|Nat.not_lt_zero _,ae _⟩ ?_ ?_⟩⟩⟩⟩)
     . rintro j σ G3 hj ⟨v4,eS,rfl,q3,jB,lF,sub,dn,tP⟩;have hj:j+(1+i)<=t.length:=by omega
       have e1:((0:Int)+(j:Int)).toNat=j:=by omega
       have e2:((0:Int)+(j:Int)+(1+(i:Int)) - (0+(j:Int))).toNat=1+i:=by omega
       have es:Txt.slice (tx t) (some<|0+(j:Int)) (some<|0+(j:Int)+(1+(i:Int)))=tx ((t.drop j).take<|1+i):=by rw[RR oM oM oM,e1,e2]
       show vc Y Y Y (vb Y Y<|za ⟨Y,Y,vb Y Y ⟨(by rw[l8];omega),?_⟩⟩);rw[es];show O Y ⟨f0,eS.map vT,Y,.inl<|y8.of jB,Y,LK eS,O Y ?_⟩;obtain⟨x,hx⟩:∃x,x=(t.drop j).take (1+i):=⟨_,Y⟩;have xl:x.length<=1+i:=by rw[hx,aZ];omega
       have xi:Lm u x:=ti x (by rw[hx];exact(List.take_prefix _ _).isInfix.trans (List.drop_suffix _ _).isInfix);rw[<- hx]at es ⊢;have rL:∀fI:List w0g,(∀y∈eS,y∈fI)->x∈fI->∀p,p < j+1->(t.drop p).take (1+i)∈fI:=λfI h1 h2 p hp=>by
        by_cases e:p=j
        . rw[e,<- hx];exact h2
        . exact h1 _ (dn p oM)
       by_cases z:x∈eS
       . show CU (by show(!Um (vT x) (eS.map vT))=false;rw[KY,decide_eq_true z];rfl) ?_;exact⟨_,eS,Y,q3,jB,lF,sub,rL eS (λ_ h=>h) z,oM⟩
       . show Cj (by show(!Um (vT x) (eS.map vT))=true;rw[KY,decide_eq_false z];rfl) ?_;show O Y ⟨.inl ⟨Y,_,y8.of jB⟩,vc Y Y Y<|vb Y Y<|za ⟨Y,Y,vb Y Y ⟨(by rw[l8];omega),?_⟩⟩⟩;rw[es];show⟨f0,eS.map vT,vT x,Y,Y,jB,(by rw[ai];omega),?_⟩;show⟨_,eS++[x],Y,q3.trans m9.upd,by rw[c8,bh];rfl,lF.snoc xi xl,λy hy=>aF _<|sub y hy,rL _ (λy hy=>aF _ hy)<|ar _<|bc _,by rw[ao];show eS.length+1<=_;omega⟩
     . rintro σ G3 ⟨v4,eS,rfl,q3,jB,lF,sub,dn,tP⟩;show za ⟨eS,Y,q2.trans q3,jB,lF,λt' qj x hx hl=>?_,oM⟩;rw[D0 et]at qj;rcases aw.mp qj with h | h
       . exact sub _ (up t' h x hx hl)
       . rw[af.mp h]at hx;obtain⟨p,hp,e⟩:=Ul hx;rw[<- e,hl];exact dn p oM
   . rintro σ G2 ⟨v3,v4,us,rfl,q2,jC,pc,up,ul⟩;show zb ⟨us,Y,q1.trans q2,jC,⟨pc.al,λx hx hl=>?_,pc.od⟩,(by have:([u,u.reverse].map vT).length=2:=rfl;rw[this]at ul;omega)⟩;by_cases z:x.length < 1+i
     . exact pc.up x hx z
     . rcases hx with hx | hx
       . exact up u (by simp) x hx oM
       . exact up u.reverse (by simp) x hx oM
 . rintro σ G ⟨v2,v3,v4,us,rfl,q,hf,pc,ul⟩;rw[show((u.length:Int)+1 - 1).toNat=u.length by omega,cF]at pc;have i0:Lm u u:=.inl<|List.infix_refl _;exact O Y (k f0 us G (λb o e=>q b o (l9 e nf)<|s0 b o e) hf (pc.cw gX oM) (pc.up u i0 oM)<|pc.up [] (.inl List.nil_infix)<|by show 0 < _;omega)
def Mp(w:World)(K:aa)(mg:w0f)(base:Heap)(t:JZ):Sp:=λvs H Q _=>∃(R:o7 Pr w K mg base),∃kv v u s us l,vs=[kv,v,vT u]/\
 (Dj R.C R.fs H kv/\SV R s v H/\U1 t H/\Cw us/\[]∈us/\u∈us/\(∀c∈u,97<=c/\c<=122)/\Cn R.S l s/\M7 s<=10/\vS s<=50000)/\
 (¬oS R.S s->∀(a:Addr) x H',Kp (B7 t) H H'->U1 t H'->H' a=some (.lst [x])->R.is H' x (wS R.S s u)->Q (.ref a) H')/\
 (oS R.S s->∀(a:Addr) H',Kp (B7 t) H H'->U1 t H'->H' a=some (.lst [])->Q (.ref a) H')
def CL(T:Txt K mg t)(dA:JX mg base t)(hW:WK w K mg aW):m8 Pr w K mg base C8 113 t.i0z t.g0u TY (Mp w K mg base t):=by
 show T.h0d.F.okA R8 λ_ _ _ _ _ _ _ _ hr h=>?_;obtain⟨R,kv,v,u,sy,us,l,rfl,pre,k0,k1⟩:=h;show⟨_,(c7 (sT 3 R8.nd N9)<|c7 (Qa (PZ<|PY (i:=3) R8.nd Y (Or.inl Y)<|PX<|CC (Ep T dA hW) hr.m Y T.f0g.m T.f0g.F.kp T.f0g.b .nil<|Gg (U 0) (U 1)<|U 2) Y Y Y T.g0s<|λ_=>(c6<|sT 3 R8.nd<|F0 Ad))<|c6<|i3<|U 3),?_⟩;show vc Y Y Y ⟨R,zi kv v u sy us l ⟨Y,pre,λno x H1 kp T1 f1=>?_,λoo H1 kp T1=>?_⟩⟩
 . show λa na=>(O Y ?_);have e:=j6 (o:=.lst [x]) na;exact k0 no a x _ (kp.trans<|.of e) (T1.same e) c8 (R.same e.t f1)
 . show O Y ⟨T.eCC,λa na=>?_⟩;have e:=j6 (o:=Np a t.j0k) na;show⟨sL,λf nf=>(O Y ?_)⟩;have e2:=j6 (o:=.lst []) nf;exact k1 oo f _ (kp.trans<|.of<|e.trans e2) (T1.same<|e.trans e2) c8
def Nn{C:Addr}{fs:List (Str × V)}{H H':Z}{k:V}{a:Addr}(h:Dj C fs H k)(d:Dr H a)(s:m9 a H H'):Dj C fs H' k:=by obtain⟨p,dx,rfl,h⟩:=h;show⟨p,dx,Y,s _ _ (λe=>?_) h⟩;obtain⟨xs,z⟩:=d.lst;rw[<- e,h]at z;cases z
def TK{x:w0g}:decide (vT x=vT [])=decide (x=[]):=by
 by_cases h:x=[]
 . subst h;rfl
 . rw[decide_eq_false h];exact decide_eq_false λe=>h (Dn<|V.str.inj e)
def m9.sf{H H':Z}{a:Addr}(d:Dr H a)(s:m9 a H H'):Di H H':=λp o e=>s p _ (λz=>by
 obtain⟨xs,y⟩:=d.lst;rw[<- z,e]at y;cases y) e
def U1.samx{H H':Z}{a:Addr}(h:U1 t H)(d:Dr H a)(s:m9 a H H'):U1 t H':=by
 have nt:∀P ps,H P=some (.tbl ps)->H' P=some (.tbl ps):=λP ps e=>s P _ (λz=>by
  obtain⟨xs,y⟩:=d.lst;rw[<- z,e]at y;cases y) e
 have f:=m9.sf d s;exact⟨let⟨ps,e,y,z⟩:=h.a;⟨ps,nt _ _ e,y,λlp v ev=>let⟨c,i,j⟩:=z lp v ev;⟨c,i,j.sameF f⟩⟩,h.b.same (λps e=>nt _ _ e) f,h.c.same (λps e=>nt _ _ e) f,h.d.same (λps e=>nt _ _ e) f⟩
def NL(T:Txt K mg t):Sp:=λvs H Q _=>∃(R:o7 Pr w K mg base),∃nm p so kv v s l,∃(a:Addr),So T R nm p/\vs=[.ref a,so,kv,v,vT l]/\
 (Dr H a/\F4 H so nm p/\Dj R.C R.fs H kv/\SV R s v H/\U1 t H/\(Pg l/\∀c∈l,97<=c/\c<=122)/\Cn R.S l s/\M7 s<=10/\vS s<=50000)/\∀H',Q (.bl true) H'
def Jo(T:Txt K mg t)(dA:JX mg base t)(hW:WK w K mg aW):m8 Pr w K mg base C8 114 t.j0y t.h0l n6N (NL (w:=w) (base:=base) T):=by
 show T.i0t.F.okA F9 λ_ _ _ _ H _ Q _ hr h=>?_;obtain⟨R,nm,p,so,kv,v,sy,l,a,hS,rfl,⟨hD,eF,hk,hv,hT,⟨L,hl⟩,o,hh,fK⟩,k⟩:=h;have zl:100000 < sizeLine:=by decide
 have l1:=L.h1;have l3:=L.h3;show⟨_,(c7 (sT 5 F9.nd<|l5 Ov (Qg 6 "#1"<|DC (xs:=[W7]) Y (oC [W8,K8,IC,W9,BD,Ny,"#1",Nx,BC]<|c5 Z0) (Bh<|M6 (AS T) hr.m T.h0s<|C6<|U 3) (R9 (i:=9) (by show List.Nodup ([W8,K8,IC,W9,BD,Ny,"#1",Nx,BC,W7]:w0h);decide +kernel) Y<|Or.inl Y) (c9 Jh (U 9) k8<|j7 _)<|U 9)<|F0<|C6<|z6 DO (U 4) c4)<|c7 (sT 6 F9.nd k8)<|c7 (CD aK (c9 Fj (l4 w6 bR T.z_len PySem.boot_len<|C6<|U 6) c4<|j7 _)<|c6<|sT 6 F9.nd<|l5 M3 (U 6)<|z6 o4 (U 5)<|M6 (l6 T) hr.m T.h0o<|C5 (U 0)<|l4 w6 bR T.z_len PySem.boot_len<|C6<|U 5)<|c7 (sT 6 F9.nd<|l5 M3 (U 6)<|z6 o4 (U 5)<|M6 (l6 T) hr.m T.h0o<|C5 (U 0)<|l4 w6 bR T.z_len PySem.boot_len<|C6<|U 5)<|c7 (sT 7 F9.nd<|B4 (B8 hr) (M6 (J1 T) hr.m T.f0a<|Gg (U 1) (U 3)<|M6 (Gi T) hr.m T.f0t<|C6<|U 6) (U 6)<|λ_ _=>rfl)<|c7 (sT 8 F9.nd<|p8 (CL T dA hW) hr.m Y T.h0d.m T.h0d.F.kp T.h0d.b .nil t8<|Gg (U 2) (U 3)<|U 6)<|c7 (o3 (E9<|M6 (K3 T) hr.m T.d0z<|C5 (U 1)<|U 3) (c6<|i3<|O0 (KB hr.units) (U 8) (F0 Ad)<|j7 _) k6)<|c6<|i3<|Ac (O0 w8 (l4 w6 bR T.z_len PySem.boot_len<|C6<|U 8) c4<|j7 _)<|Ac (Bi (U 2) R.cl R.t_is_weight R.G_is_weight hr.m R.b_is_weight .nil t8<|C6<|z6 o4 (U 8) c4)<|S9<|O0 (KB hr.units) (z6 o4 (U 8) c4) (U 7)<|j7 _),?_⟩;have em:V.str (Str.ofString "")=vT []:=by rw[BA];rfl
 rw[em];show⟨Y,?_⟩;show O Y ⟨R,zh nm p v sy l ⟨hS,Y,⟨hv,o,hh,hh⟩,λla ws H1 s1 xC om gd ln=>?_⟩⟩;have pw:2 ^ M7 sy<=2 ^ 10:=cG bD hh;have xT:2 ^ 10=1024:=by decide
 show⟨la,Y,⟨_,y8.of om⟩,AZ (n:=(ws.map vT).length) (λj ys G=>o6 H1 G/\ys=((ws.take j).filter<|λx=>decide<|x≠[]).map vT) (by rw[ai];omega) ⟨o6.refl _,Y⟩ (λj ys G z=>by rw[z.2,ai];exact aj (List.length_filter_le _ _)<|by rw[aZ];omega) ?_ ?_ ?_⟩
 . rintro j ys G hj ⟨sG,rfl⟩;rw[ai]at hj;have ex:(ws.map vT)[j]? = some (vT ws[j]):=by rw[aN,aJ hj];rfl
   have ej:ws[j]? = some ws[j]:=aJ hj;have hq:=sG _ _ om;show⟨za ⟨y8.of hq,ex⟩,λy H' fb=>?_⟩;obtain⟨rfl,fb⟩:=fb;have:=fb _<|y8.of hq;rw[ex]at this;cases this;show⟨⟨[some _],Y,Y⟩,O Y ⟨Y,O Y ?_⟩⟩;dsimp only;rw[TK,D0 ej,List.filter_append,bh];by_cases z:ws[j]=[]
   . show CU (by rw[decide_eq_true z];rfl) ⟨sG,?_⟩;rw[List.filter_cons_of_neg<|by simp[z]];simp
   . show Cj (by rw[decide_eq_false z];rfl)<|O Y ⟨sG,?_⟩;rw[List.filter_cons_of_pos<|by simp[z]];rfl
 . rintro ys G ⟨sG,_⟩;exact⟨_,y8.of<|sG _ _ om,ae _⟩
 . rintro ys G p0 ⟨sG,rfl⟩ qb;rw[ai,bI];obtain⟨fs,lO⟩:∃fs,fs=ws.filter (λx=>decide<|x≠[]):=⟨_,Y⟩;have fl:fs.length<=1024:=by rw[lO];exact aj (List.length_filter_le _ _) oM
   have fg:∀x∈fs,x≠[]/\x.length<=3/\∀c∈x,c∈l:=λx hx=>by
    rw[lO]at hx;obtain⟨h1,h2⟩:=bT.mp hx;exact⟨by simpa using h2,gd x h1⟩
   rw[<- lO];clear lO;have t1:=j6 (o:=.lst<|fs.map vT) qb;have k1:=c8 (H:=G) (a:=p0) (o:=.lst<|fs.map vT);have s2:=(s1.trans sG).trans t1;revert s2 k1;clear t1 qb sG;generalize upd G p0 (.lst<|fs.map vT)=H2;intro k1 s2;have ec:l[0]? = some l[0]:=aJ oM;have ac:Dh (tx l).cps.toList 0=some l[0]:=by rw[show(tx l).cps.toList=l by simp[tx]];exact D9 ec
   show O Y (zb ⟨Y,Y,(by rw[l8];omega),ac,(by show 1<=sizeLine;omega),λp1 pZ=>?_⟩);have t2:=j6 (o:=.lst [V.str (⟨#[l[0]]⟩:Str)]) pZ;have k2:=c8 (H:=H2) (a:=p1) (o:=.lst [V.str (⟨#[l[0]]⟩:Str)]);show⟨p0,p1,fs.map vT,[V.str (⟨#[l[0]]⟩:Str)],Y,Y,t2 _ _ k1,k2,(by rw[ai];show fs.length+1<=_;omega),λq nq=>?_⟩;have t3:=j6 (o:=.lst<|fs.map vT++[V.str (⟨#[l[0]]⟩:Str)]) nq;have k3:=c8 (H:=upd H2 p1<|.lst [V.str (⟨#[l[0]]⟩:Str)]) (a:=q) (o:=.lst<|fs.map vT++[V.str (⟨#[l[0]]⟩:Str)]);have s3:=(s2.trans t2).trans t3;have qa:q≠a:=(hD.same<|s2.trans t2).ne nq;revert s3 k3;clear t3 t2 k2 nq pZ k1 s2;generalize upd (upd H2 p1<|.lst [V.str (⟨#[l[0]]⟩:Str)]) q (.lst<|fs.map vT++[V.str (⟨#[l[0]]⟩:Str)])=H3;intro k3 s3;obtain⟨ss,lK⟩:∃ss,ss=fs++[[l[0]]]:=⟨_,Y⟩;have k3:H3 q=some (.lst<|ss.map vT):=by rw[k3,lK,bh];rfl
   have sl:1<=ss.length/\ss.length<=1025:=by rw[lK,ao];show 1<=fs.length+1/\fs.length+1<=1025;omega
   have sg:∀x∈ss,1<=x.length/\x.length<=3/\∀c∈x,97<=c/\c<=122:=λx hx=>by
    rw[lK]at hx;rcases aw.mp hx with hx | hx
    . obtain⟨h1,h2,h3⟩:=fg x hx;exact⟨cM.mpr h1,h2,λc hc=>hl c<|h3 c hc⟩
    . rw[af.mp hx];exact⟨ae _,by show 1<=3;decide,λc hc=>by rw[af.mp hc];exact hl _<|bS oM⟩
   clear lK fg fl;have d3:=hD.same s3;have wH:=hT.same s3;have next:∀(σ6:V) (u7 u8:Option V) (x:w0g) (G:Z) (Q:VK),σ6=vT x->m9 a H3 G->Dr G a->x.length<=7->(∀c∈x,97<=c/\c<=122)->
       (∀(y:w0g) G',m9 a H3 G'->Dr G' a->x.length+1<=y.length->y.length<=x.length+3->(∀c∈y,97<=c/\c<=122)->Q (vT y) G')->
       Pz (λx y H Q=>∃i j,x=V.str i/\y=V.str j/\i.length+j.length<=sizeLine/\Q (V.str<|i++j) H) (FY 6) (Pz (IY K) (FY 5)<|Lp sp_next [] E0<|M4 (FY 0)<|M4 (Vu (λxs H Q=>∃x n,xs=[x]/\Am K x H n/\Q (V.int (n:Nat)) H)<|M4 (FY 5) tNil) tNil) [sr a,some so,some kv,some v,some<|vT l,sr q,some σ6,u7,u8] G Q:=by
    rintro σ6 u7 u8 x G Q rfl sG dG x7 xc kk;have hq:=sG _ _ qa k3;show vc Y Y Y (O Y<|za ⟨Y,.inl ⟨_,y8.of hq,Y⟩,a,O Y ⟨⟨dG,?_,?_⟩,λr4 G4 s4 d4 a4 b4=>?_⟩⟩)
    . rw[ai];omega
    . rw[ai];omega
    rw[ai]at b4;obtain⟨j,rfl⟩:∃j:Nat,r4=(j:Int):=⟨r4.toNat,oM⟩;have hj:j < ss.length:=by omega
    have ec:Dh (ss.map vT) (j:Int)=some (vT ss[j]):=D9 (by rw[aN,aJ hj];rfl);obtain⟨g1,g2,g3⟩:=sg ss[j]<|bS hj;show zc ⟨Y,Y,y8.of<|s4 _ _ qa hq,ec,za ⟨Y,Y,(by rw[l8,l8];omega),?_⟩⟩;have ea:tx x++tx ss[j]=tx (x++ss[j]):=Do x ss[j];rw[ea];show kk (x++ss[j]) G4 (sG.trans s4) d4 (by rw[ao];omega) (by rw[ao];omega) λc hc=>?_;rcases aw.mp hc with hc | hc
    . exact xc c hc
    . exact g3 c hc
   show⟨λm σ G=>∃x:w0g,σ=[sr a,some so,some kv,some v,some<|vT l,sr q,some<|vT x,none,none]/\m9 a H3 G/\Dr G a/\x.length<=7/\(∀c∈x,97<=c/\c<=122)/\m=10 - x.length,⟨_,[],Y,m9.refl _ _,d3,aU _,(λ_ h=>nomatch h),Y⟩,?_⟩;rintro m σ G ⟨x,rfl,sG,dG,x7,xc,rfl⟩;show O Y (za ⟨Y,⟨by rw[l8];omega,(l8 x).symm⟩,za ⟨Y,Y,O Y ?_⟩⟩);dsimp only;show CT (λh5=>?_) (λh5=>?_)
   . show⟨λσ' G'=>∃y:w0g,σ'=[sr a,some so,some kv,some v,some<|vT l,sr q,some<|vT y,none,none]/\m9 a H3 G'/\Dr G' a/\y.length<=7/\(∀c∈y,97<=c/\c<=122)/\10 - y.length < 10 - x.length,λσ' G' ⟨y,e,h1,h2,h3,h4,h6⟩=>⟨_,h6,y,e,h1,h2,h3,h4,Y⟩,?_⟩;exact next (vT x) none none x G _ rfl sG dG x7 xc λy G' ua xf y1 y2 yc=>⟨y,Y,ua,xf,oM,yc,oM⟩
   . show Mm _ (Bz 6) _ _ G;show next (vT x) none none x G _ rfl sG dG x7 xc λu G5 nh xW u1 u2 uc=>?_;have gX:u.length<=10:=by omega
     have fL:Q4 H G5:=s3.t.trans<|nh.tt d3;show vc Y Y Y ⟨u,Y,gX,λpa us G6 s6 vO hc hu he=>?_⟩;have mZ:=fL.trans s6.t;show⟨R,zj nm p so v sy l us pa ⟨hS,Y,⟨eF.same mZ,hv.same mZ,o,hh,fK,vO,hc⟩,λd bY G7 s7 nd hd hD=>?_⟩⟩;have jN:=mZ.trans s7.t;obtain⟨x7,ex,fx⟩:=hD u hu;have g1:=R3.k (k:=kW u) hd;rw[ex]at g1;show O Y ⟨d,O Y ⟨g1,?_⟩⟩;have s57:=s6.trans s7;have jA:Dj R.C R.fs G7 kv:=(Nn (hk.same s3) d3 nh).same s57;have wG:U1 t G7:=(wH.samx d3 nh).same s57;show vc Y Y Y ⟨R,zi kv v u sy us l ⟨Y,⟨jA,hv.same jN,wG,hc,he,hu,uc,o,hh,fK⟩,λno fa y G8 gx T8 iG fy=>?_,λoo fa G8 gx T8 iG=>?_⟩⟩
     . show vb Y Y ⟨R,zi nm p so v sy l ⟨hS,Y,⟨(eF.same jN).same gx.st,(hv.same jN).same gx.st,o,hh,fK⟩,hh,λb G9 s9 hb=>(O Y ?_)⟩⟩;show CU (by cases b with | false=>rfl | true=>exact absurd (hb.mp rfl) no) ?_;have kA:=s9 _ _ iG;obtain⟨kp,dx,e,qq⟩:=(gx.k jA).same s9;show O Y<|za ⟨Y,.inl ⟨_,y8.of kA,Y⟩,Y,O Y ?_⟩;show Cj (decide_eq_true Y) ?_;show O Y<|zb ⟨e,qq,R.l_is_weight,O Y<|zc ⟨Y,Y,y8.of kA,Y,zb ⟨Y,⟨⟨kp,dx,e,qq⟩,R.same s9.t fy⟩,O Y<|Cj Y ?_⟩⟩⟩;exact O Y (zc ⟨Y,Y,y8.of kA,Y,O Y<|R.eqD (R.same s9.t fy) (R.same (gx.st.trans s9.t) fx) Y<|k _⟩)
     . show vb Y Y ⟨R,zi nm p so v sy l ⟨hS,Y,⟨(eF.same jN).same gx.st,(hv.same jN).same gx.st,o,hh,fK⟩,hh,λb G9 s9 hb=>(O Y ?_)⟩⟩;show Cj (hb.mpr oo) ?_;have kA:=s9 _ _ iG;show O Y ⟨(by show 0<=sizeLine;omega),λz nz=>?_⟩;show⟨.list [],.list [],.lst (y8.of<|j6 nz _ _ kA) .nil,.lst (y8.of c8) .nil,Y,Y,Y,?_⟩;exact k _
def abc:w0g:=[97,98,99]
def c0m:(Str.ofString "abc")=tx abc:=by decide +kernel
def WN(a x:Nat)(h:x≠a):Builtin.Str.occurrences (tx [a]) (tx [x]) 0 (tx [a]).length 1=[]:=by simp[Builtin.Str.occurrences,Builtin.Str.subAt,tx,Str.length,List.range',beq_false_of_ne<|Ne.symm h,Ne.symm h]
def WM(a b x:Nat)(h:x≠a)(h2:x≠b):Builtin.Str.occurrences (tx [a,b]) (tx [x]) 0 (tx [a,b]).length 1=[]:=by simp[Builtin.Str.occurrences,Builtin.Str.subAt,tx,Str.length,List.range',beq_false_of_ne<|Ne.symm h,Ne.symm h,beq_false_of_ne<|Ne.symm h2,Ne.symm h2]
def WL(a b c x:Nat)(h:x≠a)(h2:x≠b)(h3:x≠c):Builtin.Str.occurrences (tx [a,b,c]) (tx [x]) 0 (tx [a,b,c]).length 1=[]:=by simp[Builtin.Str.occurrences,Builtin.Str.subAt,tx,Str.length,List.range',beq_false_of_ne<|Ne.symm h,Ne.symm h,beq_false_of_ne<|Ne.symm h2,Ne.symm h2,beq_false_of_ne<|Ne.symm h3,Ne.symm h3]
def Tt{l:w0g}(h:Pg l){x:Nat}(hx:x ∉ l):Builtin.Str.occurrences (tx l) (tx [x]) 0 (tx l).length 1=[]:=by
 rcases NF h.h1 h.h3 with ⟨a,rfl⟩ | ⟨a,b,rfl⟩ | ⟨a,b,c,rfl⟩
 . exact WN a x (λe=>hx<|by rw[e];exact af.mpr Y)
 . exact WM a b x (λe=>hx<|by simp[e]) (λe=>hx<|by simp[e])
 . exact WL a b c x (λe=>hx<|by simp[e]) (λe=>hx<|by simp[e]) (λe=>hx<|by simp[e])
def NN{l:w0g}(h:Pg l)(h2:l.length<=2):abc.filter (λc=>decide<|c ∉ l)≠[]:=by
 intro e;have f:∀c∈abc,c∈l:=λc hc=>by
  have:=List.filter_eq_nil_iff.mp e c hc;simpa using this
 have a1:=f 97 bD;have a2:=f 98 bD;have a3:=f 99 bD;rcases NF h.h1 h.h3 with ⟨a,rfl⟩ | ⟨a,b,rfl⟩ | ⟨a,b,c,rfl⟩
 . simp only[ah,ba,or_false]at a1 a2 a3;omega
 . simp only[ah,ba,or_false]at a1 a2 a3;omega
 . exact absurd h2 (by show ¬3<=2;decide)
def Ew(l:w0g)(j:Nat):List V:=((abc.take j).filter<|λc=>decide<|c ∉ l).map λc=>vT [c]
def MD(l:w0g){j c:Nat}(h:abc[j]? = some c):Ew l (j+1)=if c∈l then Ew l j else Ew l j++[vT [c]]:=by
 unfold Ew;rw[List.take_add_one,h,List.filter_append,bh];by_cases q:c∈l
 . rw[if_pos q];simp[q]
 . rw[if_neg q];simp[q]
def Oy(l:w0g)(j:Nat):(Ew l j).length<=j:=by unfold Ew;rw[ai];have:=List.length_filter_le (λc=>decide<|c ∉ l)<|abc.take j;rw[aZ]at this;omega
def QL{l:w0g}{m:Nat}(h:(l.length=2/\m=4)\/(l.length=3/\m=3)):Cw (D5 l m)/\(D5 l m).length<=40/\l.length ^ m<=27:=by
 have e:∀k,(D5 l<|k+1).length=(D5 l k).length+l.length ^ (k+1):=λk=>by
  show(D5 l k++Gp l (k+1)).length=_;rw[ao,HN]
 have h0:(D5 l 0).length=1:=rfl;have a1:=e 0;have a2:=e 1;have a3:=e 2;have a4:=e 3;have sz:(D5 l m).length<=40/\l.length ^ m<=27:=by
  rcases h with ⟨h1,rfl⟩ | ⟨h1,rfl⟩
  . have p1:l.length ^ (0+1)=2:=by simp[h1]
    have p2:l.length ^ (1+1)=4:=by simp[h1]
    have p3:l.length ^ (2+1)=8:=by simp[h1]
    have p4:l.length ^ (3+1)=16:=by simp[h1]
    have p5:l.length ^ 4=16:=by simp[h1]
    have:(D5 l 4).length=(D5 l<|2+1).length+l.length ^ (3+1):=a4;have:(D5 l<|2+1).length=(D5 l<|1+1).length+l.length ^ (2+1):=a3;have:(D5 l<|1+1).length=(D5 l<|0+1).length+l.length ^ (1+1):=a2;omega
  . have p1:l.length ^ (0+1)=3:=by simp[h1]
    have p2:l.length ^ (1+1)=9:=by simp[h1]
    have p3:l.length ^ (2+1)=27:=by simp[h1]
    have p5:l.length ^ 3=27:=by simp[h1]
    have:(D5 l 3).length=(D5 l<|1+1).length+l.length ^ (2+1):=a3;have:(D5 l<|1+1).length=(D5 l<|0+1).length+l.length ^ (1+1):=a2;omega
 have m4:m<=4:=by omega
 show⟨⟨λu hu q=>?_,λu hu q=>?_,λu hu=>?_,λu hu=>?_,oM,λi u e ne q=>?_⟩,sz⟩
 . obtain⟨h1,h2⟩:=Y3 m u hu;exact Y0 m _ (by rw[aZ];omega) λc hc=>h2 c (cZ hc)
 . obtain⟨h1,h2⟩:=Y3 m u hu;exact Y0 m _ (by rw[aO];omega) λc hc=>h2 c (List.mem_of_mem_drop hc)
 . obtain⟨h1,h2⟩:=Y3 m u hu;exact Y0 m _ (by rw[List.length_reverse];exact h1) λc hc=>h2 c (List.mem_reverse.mp hc)
 . have:=(Y3 m u hu).1;omega
 . obtain⟨h1,h2⟩:=Y3 m u<|aD e;have:=cM.mpr ne;exact IG m i u e _ (λc hc=>h2 c<|List.mem_of_mem_drop hc) (by rw[aO];omega)
def Mi:w0h:=["star_weight","star_weigher","then_weigher","weigher"]
def Px(T:Txt K mg t){H:Z}(h:∀y∈Mi,∀c P,PySem.W.tabIn K y=some (c,P)->H P=some (.tbl #[])):U1 t H:=
 ⟨⟨#[],h "star_weight" (by simp[Mi]) _ _ T.tb_star_weight,trivial,λlp v e=>by simp[codeAmong]at e⟩,⟨#[],h "star_weigher" (by simp[Mi]) _ _ T.tb_star_weigher,trivial,λlp v e=>by simp[codeAmong]at e⟩,⟨#[],h "then_weigher" (by simp[Mi]) _ _ T.tb_then_weigher,trivial,λlp v e=>by simp[codeAmong]at e⟩,⟨#[],h "weigher" (by simp[Mi]) _ _ T.tb_weigher,trivial,λlp v e=>by simp[codeAmong]at e⟩⟩
def Kp.dr{A:List Addr}{H H':Z}{a:Addr}(k:Kp A H H')(d:Dr H a):Dr H' a:=by
 obtain⟨x,h | ⟨y,h⟩⟩:=d
 . exact⟨x,.inl<|k.l h⟩
 . exact⟨x,.inr ⟨y,k.l h⟩⟩
structure LI(T:Txt K mg t)(R:o7 Pr w K mg base)(nm:Str)(p:Int)(so kv v:V)(s:Sy R.S.W)(us:List w0g)(a d:Addr)(bY:List (E5 × V))(G:Z):Prop where
 dr:Dr G a
 srt:F4 G so nm p
 kat:Dj R.C R.fs G kv
 sv:SV R s v G
 tbs:U1 t G
 dk:G d=some (.dK bY)
 wa:DA R (wS R.S s) us bY G
section
variable{T:Txt K mg t}{R:o7 Pr w K mg base}{nm:Str}{p:Int}{so kv v:V}{s:Sy R.S.W}{us:List w0g}{a d:Addr}{bY:List (E5 × V)}{G G':Z}
theorem LI.samx(h:LI T R nm p so kv v s us a d bY G)(x:m9 a G G')(d':Dr G' a):LI T R nm p so kv v s us a d bY G':=⟨d',h.srt.same<|x.tt h.dr,Nn h.kat h.dr x,h.sv.same<|x.tt h.dr,h.tbs.samx h.dr x,x _ _ (λe=>by
 obtain⟨xs,z⟩:=h.dr.lst;have y:=h.dk;rw[e,z]at y;cases y) h.dk,h.wa.same<|x.tt h.dr⟩
def LI.kp(h:LI T R nm p so kv v s us a d bY G)(x:Kp (B7 t) G G')(t':U1 t G'):LI T R nm p so kv v s us a d bY G':=⟨x.dr h.dr,h.srt.same x.st,x.k h.kat,h.sv.same x.st,t',x.n (λz=>by
 obtain⟨ps,e⟩:=h.tbs.tb _ z;have y:=h.dk;rw[e]at y;cases y) h.dk,h.wa.same x.st⟩
theorem LI.same(h:LI T R nm p so kv v s us a d bY G)(x:o6 G G'):LI T R nm p so kv v s us a d bY G':=h.kp (.of x) (h.tbs.same x)
end
def RQ{l:w0g}{c:Nat}:Txt.slice (tx<|l++[c]) none (some<|-1)=tx l:=by have e:=PyProof.Rows.slice_closes_to_neg (x:=tx<|l++[c]) (j:=-1) (k:=(l.length:Nat)) bD (by rw[l8,ao];show -((l.length+1:Nat):Int) <= -1;omega) (by rw[l8,ao];show(l.length:Int) = -1+((l.length+1:Nat):Int);omega);rw[beq_iff_eq]at e;rw[e];show(⟨_⟩:Str)=⟨_⟩;simp[tx]
def RS{T:Txt K mg t}{R:o7 Pr w K mg base}{nm:Str}{p:Int}(h:So T R nm p)(x:R.S.W):shaped (.list [R.S.data x])=true:=by
 cases h with
 | fr=>rfl
 | re p hp hq hi=>rfl
 | co=>cases x <;>rfl
 | tr=>rfl
def NM(K:aa):Sp:=λvs H Q _=>∃(a:Addr) (ns:List Int),vs=[.ref a]/\y8 K H a (ns.map V.int)/\ns.length<=63/\(∀y∈Mi,∀c P,PySem.W.tabIn K y=some (c,P)->H P=some (.tbl #[]))/\∀H',Q (.bl true) H'
def Tr(T:Txt K mg t)(dA:JX mg base t)(hW:WK w K mg aW):m8 Pr w K mg base C8 115 t.law t.k0q [Hg] (NM K):=by
 show T.k0o.F.okA K5 λ_ _ _ _ _ vs _ _ hr h=>?_;obtain⟨a0,ns,rfl,wI,dE,hP,k⟩:=h;have zl:100000 < sizeLine:=by decide
 have hT:=Px T hP;clear hP;show⟨_,(c7 (sT 1 K5.nd<|M6 (HI T) hr.m T.h0h<|C6<|U 0)<|c7 (sT 2 K5.nd<|M6 (Jn T) hr.m T.h0z<|C6<|U 1)<|c7 (sT 3 K5.nd<|M6 (Jp T) hr.m T.i0c<|C6<|U 2)<|c7 (Ab (i:=4) K5.nd Y (Or.inr Y)<|M6 (Fn T) hr.m T.f0k<|C5 (U 1) c4)<|c7 (sT 5 K5.nd<|M6 (L4 T) hr.m T.g0j<|My (U 1) (U 2) (U 4)<|l5 z8 c4<|M6 (l6 T) hr.m T.h0o<|C5 (U 1) c4)<|c7 (o3 (c9 w8 (M6 (l6 T) hr.m T.h0o<|C5 (U 1) c4) c4<|j7 _) (c6<|sT 5 K5.nd<|D8<|Gg k8 (M6 (C7 T) hr.m T.f0y<|C6<|U 2)<|U 5) k6)<|c7 (sT 6 K5.nd<|M6 (K3 T) hr.m T.d0z<|C5 (U 2)<|U 5)<|c7 (Ab (i:=4) K5.nd Y (Or.inr Y)<|l5 M3 (U 4)<|z6 o4 (DC (xs:=["_law_sign"]) Y (oC n1N<|c5 Ly) (Kx k8) (R9 (i:=12) (by show List.Nodup ([Hg,W8,K8,IC,BD,W9,"_law_open_star_here",Nx,Ka,W7,"_law_j",BC,"_law_sign"]:w0h);decide +kernel) Y<|Or.inl Y) (c9 HC (U 12) (U 4)<|by with_unfolding_all rfl)<|U 12) c4)<|c7 (sT 7 K5.nd<|M6 (J1 T) hr.m T.f0a<|Gg (U 2) (U 5)<|M6 (HH T) hr.m T.h0b<|C5 (U 4)<|l5 W3 c4<|l4 w6 bR T.z_len PySem.boot_len<|C6<|U 4)<|c7 (K7 aK Y (O8 Y T.z_range<|C6<|l5 z8 c4<|M6 (l6 T) hr.m T.h0o<|C5 (U 1) c4) (gN 8 K5.nd)<|c7 (sT 9 K5.nd k8)<|c7 (K7 aK Y (O8 Y T.z_range<|C6<|M6 (l6 T) hr.m T.h0o<|C5 (U 1)<|l5 W3 c4<|l4 w6 bR T.z_len PySem.boot_len<|C6<|U 4) (gN 10 K5.nd)<|c6<|sT 9 K5.nd<|l5 M3 (U 9)<|z6 DO (U 4)<|l4 (GX Y) bR T.z_min boot_min<|C5 (M6 (l6 T) hr.m T.h0o<|C5 (U 1) c4)<|M6 (l6 T) hr.m T.h0o<|C5 (U 1)<|l4 w6 bR T.z_len PySem.boot_len<|C6<|U 4)<|c7 (sT 11 K5.nd<|p8 (CL T dA hW) hr.m Y T.h0d.m T.h0d.F.kp T.h0d.b .nil t8<|Gg (U 3) (U 5)<|U 9)<|c7 (o3 (c9 Jh (U 6) (O0 (KB hr.units) (U 11) (F0 Ad)<|j7 _)<|j7 _) (c6<|i3 Ar) k6)<|c6<|o3 (PW.pt<|R1 (W2<|E9<|U 6)<|U6<|PW.pt<|AN (W2<|E9<|Oo (U 3) t8<|C6<|z6 o4 (U 11) c4)<|W0<|c9 (Fi hr.units) (z6 o4 (U 11) c4) (B4 (B8 hr) (U 7) (U 9)<|λ_ _=>rfl)<|j7 _) (c6<|i3 Ar) k6)<|c7 (Ab (i:=4) K5.nd Y (Or.inr Y)<|z5 S4 (U 4) F5<|B2<|Fg BE c4)<|c6<|i3<|p8 (Jo T dA hW) hr.m Y T.i0t.m T.i0t.F.kp T.i0t.b .nil t8<|B5 (U 1)<|My (U 2) (U 3) (M6 (L4 T) hr.m T.g0j<|My (U 1) (U 2) (U 4) c4)<|U 4),?_⟩;show O Y ⟨a0,ns,Y,wI,dE,λa H1 na s1 d1=>?_⟩;have T1:=hT.same s1;show O Y ⟨a,Y,d1,λR nm p so H2 hS eF s2 d2=>?_⟩;have T2:=T1.samx d1 s2;show O Y ⟨R,zf nm p so ⟨hS,Y,eF,λkv H3 s3 hk=>?_⟩⟩;have d3:=d2.same s3;have T3:=T2.same s3;have kj:=eF.same s3.t;show O Y ⟨a,2,Y,⟨d3,bD,bD⟩,λl H4 s4 d4 L az l2=>?_⟩;have l2:l.length<=2:=by omega
 have l1:=L.h1;have T4:=T3.samx d3 s4;have hZ:=kj.same<|s4.tt d3;have qu:=Nn hk d3 s4;show vc Y Y Y<|O Y ⟨a,4,Y,⟨d4,bD,bD⟩,λr5 H5 s5 d5 a5 b5=>?_⟩;obtain⟨m,m1,m4,em⟩:∃m:Nat,1<=m/\m<=4/\(1:Int)+r5=(m:Int):=⟨(1+r5).toNat,oM,oM,oM⟩;have T5:=T4.samx d4 s5;have jd:=hZ.same<|s5.tt d4;have qt:=Nn qu d4 s5;show za ⟨Y,Y,R,nm,p,a,so,l,m,hS,(by rw[<- em];rfl),⟨d5,jd,L,l2,oM,m4⟩,λx v H6 s6 d6 sv ok ht lx=>?_⟩;have T6:=T5.samx d5 s6;have ki:=jd.same<|s6.tt d5;have qr:=Nn qt d5 s6;have tN:=QX m4;show O Y ⟨a,12,Y,⟨d6,bD,bD⟩,λr7 H7 s7 d7 a7 b7=>?_⟩;have T7:=T6.samx d6 s7;have hX:=ki.same<|s7.tt d6;have jA:=Nn qr d6 s7;have mY:=sv.same<|s7.tt d6;show(λ(ka:∀(sy:Sy R.S.W) (v:V) (G:Z),Dr G a->F4 G so nm p->Dj R.C R.fs G kv->U1 t G->SV R sy v G->Cn R.S l sy->M7 sy<=10->vS sy<=30746->(?F:L2.St->Z->Prop) [sr a0,sr a,some so,some kv,some<|vT l,some v,none,none,none,none,none,none] G)=>?mn) ?rs
 case mn=>
  show⟨Y,O Y ?_⟩;dsimp only;show FH (λz=>?_)<|λz=>?_;rotate_left
  . exact ka x v H7 d7 hX jA T7 mY ok oM oM
  . show O Y ⟨R,zf nm p so ⟨hS,Y,hX,λc H8 s8 f8=>?_⟩⟩;show O Y ⟨(by show 3<=sizeLine;omega),λq nq=>?_⟩;rw[U9];have e:=j6 (o:=.tup [V.str<|tx nT,c,v]) nq;have s9:=s8.trans e;exact ka (.times R.S.zero x) (.ref q) _ (d7.same s9) (hX.same s9.t) (jA.same s9) (T7.same s9) ⟨q,_,O Y ⟨c8,R.same e.t f8,mY.same s9.t⟩⟩ ⟨R.S.lv_mono _ _ _ _ bD<|R.S.lv_zero 1,ok⟩ (by show M7 x+1<=_;omega) (by show vS x+1<=_;omega)
 case rs=>
  clear hT T1 T2 T3 T4 T5 T6 T7 eF kj hZ jd ki hX hk qu qt qr jA sv mY d1 d2 d3 d4 d5 d6 d7;intro sy v G dG eI qp TG lB ok ht vs;show vb Y Y ⟨R,zi nm p so v sy l ⟨hS,Y,⟨eI,lB,ok,ht,oM⟩,ht,λb H1 s1 hb=>?_⟩⟩;have xG:=l2;rw[c0m];show vb Y Y ⟨dK,AZ (n:=3) (λj ys H2=>H2=H1/\ys=Ew l j) oM ⟨Y,Y⟩ (λj ys H2 h=>by rw[h.2];exact Oy l j) ?_ ?_ ?_⟩
  . rintro j ys H2 hj ⟨rfl,rfl⟩;show⟨(by show j < 3;exact hj),λy G2 hy=>?_⟩;obtain⟨rfl,c,hc,rfl⟩:=hy;have gc:abc[j]? = some c:=by simpa [tx] using hc
    rw[MD l gc];show⟨⟨[some _],Y,Y⟩,vb Y Y<|za ⟨Y,Y,O Y ?_⟩⟩;by_cases q:c∈l
    . rw[if_pos q];show CU (by show(!(!(Builtin.Str.occurrences (tx l) (tx [c]) 0 (tx l).length 1).isEmpty))=false;rw[Ts L q];rfl) ?_;exact⟨Y,Y⟩
    . rw[if_neg q];show Cj (by show(!(!(Builtin.Str.occurrences (tx l) (tx [c]) 0 (tx l).length 1).isEmpty))=true;rw[Tt L q];rfl) ?_;exact O Y ⟨Y,Y⟩
  . rintro ys H2 ⟨rfl,rfl⟩;show 3<=3;omega
  rintro ys H2 bp ⟨rfl,rfl⟩ qf;have t2:=j6 (o:=.lst<|Ew l 3) qf;have k2:upd H2 bp (.lst<|Ew l 3) bp=some (.lst<|Ew l 3):=c8;have s2:=s1.trans t2;revert s2 k2;clear t2 qf;generalize upd H2 bp (.lst<|Ew l 3)=H3;intro k2 s2;obtain⟨c,cs,ec⟩:=List.exists_cons_of_ne_nil<|NN L l2;obtain⟨ca,cn⟩:c∈abc/\c ∉ l:=by
   have:c∈abc.filter (λc=>decide<|c ∉ l):=by rw[ec];exact ax
   obtain⟨h1,h2⟩:=bT.mp this;exact⟨h1,by simpa using h2⟩
  have e0:Ew l 3=vT [c]::cs.map λc=>vT [c]:=by show(abc.filter<|λc=>decide<|c ∉ l).map _=_;rw[ec];rfl
  rw[e0]at k2;show zc ⟨Y,Y,y8.of k2,D9 (j:=0) Y,za ⟨Y,Y,(by rw[l8,l8];show l.length+1<=_;omega),?_⟩⟩;rw[Do];have xY:97<=c/\c<=99:=by
   have:c=97\/c=98\/c=99:=by simpa [abc] using ca
   omega
  obtain⟨l',iD⟩:∃l',l'=l++[c]:=⟨_,Y⟩;have ll:l'.length=l.length+1:=by rw[iD,ao];rfl
  have rQ:∀x∈l',97<=x/\x<=122:=λx hx=>by
   rw[iD]at hx;rcases aw.mp hx with hx | hx
   . exact az x hx
   . rw[af.mp hx];omega
  have L':Pg l':=⟨oM,oM,by
   rw[iD,List.nodup_append];exact⟨L.nd,by simp,λx hx y hy z=>cn<|by rw[<- af.mp hy,<- z];exact hx⟩,λx hx=>by have:=rQ x hx;omega⟩
  rw[<- iD];obtain⟨qn,hq,e6⟩:∃qn:Nat,((l'.length=2/\qn=4)\/(l'.length=3/\qn=3))/\(6:Int) - (l'.length:Nat)=(qn:Nat):=by
   rcases(by omega:l'.length=2\/l'.length=3)with h | h
   . exact⟨4,.inl ⟨h,Y⟩,by rw[h];rfl⟩
   . exact⟨3,.inr ⟨h,Y⟩,by rw[h];rfl⟩
  obtain⟨hc,wt,wx⟩:=QL hq;have ln:∀G:Z,Am K (vT l') G l'.length:=λG=>⟨by rw[l8];omega,(l8 l').symm⟩;show vc Y Y Y<|O Y<|za ⟨Y,ln H3,za ⟨Y,Y,l',_,qn,Y,⟨L',⟨oM,oM⟩,oM,oM,oM⟩,λwp H4 s4 uA qg=>?_⟩⟩;have Pl:=s2.trans s4;show⟨R,zj nm p so v sy l (D5 l' qn) wp ⟨hS,Y,⟨eI.same Pl.t,lB.same Pl.t,ok,ht,oM,qg,hc⟩,λd bY H5 s5 nd hd qz=>?_⟩⟩;have Iw:=Pl.trans s5;have li:LI T R nm p so kv v sy (D5 l' qn) a d bY H5:=⟨dG.same Iw,eI.same Iw.t,qp.same Iw,lB.same Iw.t,TG.same Iw,hd,qz⟩;clear eI lB qp TG dG hd qz nd Iw Pl s5 s4 qg uA s2 k2 e0;have em:V.str (Str.ofString "")=vT []:=by rw[BA];rfl
  rw[em];show O Y ⟨a,8,Y,⟨li.dr,bD,bD⟩,λr6 H6 s6 d6 a6 b6=>?_⟩;have li:=li.samx s6 d6;show za ⟨Y,Y,O Y ⟨oM,oM,E7 (lo:=0) (n:=((1:Int)+r6).toNat) (λi σ G=>∃v8 v9 iK lz,σ=[sr a0,sr a,some so,some kv,some<|vT l',some v,some<|.bl b,sr d,v8,v9,iK,lz]/\LI T R nm p so kv v sy (D5 l' qn) a d bY G) ⟨_,_,_,O Y li⟩ ?_ ?_⟩⟩
  . clear li d6 s6;rintro i σ G hi ⟨v8,v9,iK,lz,rfl,li⟩;show vb Y Y<|za ⟨Y,ln G,za ⟨Y,Y,a,O Y ⟨⟨li.dr,oM,oM⟩,λr8 H8 s8 d8 a8 b8=>?_⟩⟩⟩;have li:=li.samx s8 d8;show O Y ⟨oM,oM,E7 (lo:=0) (n:=r8.toNat) (λj σ G=>∃(x:w0g) (iK:Option V),σ=[sr a0,sr a,some so,some kv,some<|vT l',some v,some<|.bl b,sr d,some<|.int<|0+(i:Int),some<|vT x,iK,lz]/\LI T R nm p so kv v sy (D5 l' qn) a d bY G/\x.length=j/\∀c∈x,c∈l') ⟨[],O Y ⟨li,Y,λ_ h=>nomatch h⟩⟩ ?_ ?_⟩
    . clear li d8 s8;rintro j σ G hj ⟨x,iK,rfl,li,xl,hx⟩;show vc Y Y Y ⟨a,4,Y,⟨li.dr,bD,bD⟩,λr9 H9 s9 d9 a9 b9=>?_⟩;have li:=li.samx s9 d9;show vb Y Y<|za ⟨Y,ln H9,a,O Y ⟨⟨li.dr,oM,oM⟩,λiN yb Wy xg lg xX=>?_⟩⟩;have li:=li.samx Wy xg;obtain⟨y,hy,yl⟩:∃y:Nat,(if iN < r9 then iN else r9)=(y:Int)/\y < l'.length:=by
       split
       . exact⟨iN.toNat,oM,oM⟩
       . exact⟨r9.toNat,oM,oM⟩
      have ec:l'[y]? = some l'[y]:=aJ yl;have ac:Dh (tx l').cps.toList (y:Int)=some l'[y]:=by rw[show(tx l').cps.toList=l' by simp[tx]];exact D9 ec
      show za ⟨Y,?_⟩;rw[hy];show zb ⟨Y,Y,(by rw[l8];omega),ac,za ⟨Y,Y,(by rw[l8];show _+1<=_;omega),?_⟩⟩;have ea:tx x++(⟨#[l'[y]]⟩:Str)=tx (x++[l'[y]]):=Do x [l'[y]];rw[ea];show⟨x++[l'[y]],O Y ⟨li,by rw[ao,xl];rfl,λc hc=>?_⟩⟩;rcases aw.mp hc with hc | hc
      . exact hx c hc
      . rw[af.mp hc];exact bS yl
    . clear li d8 s8;rintro σ G ⟨x,iK,rfl,li,xl,hx⟩;have xq:x.length<=qn:=by omega
      have xu:=Y0 qn x xq hx;have nu:=Y0 (l:=l') qn [] (aU _) (λ_ h=>nomatch h);show vc Y Y Y ⟨R,zi kv v x sy (D5 l' qn) l ⟨Y,⟨li.kat,li.sv,li.tbs,hc,nu,xu,λc hc=>rQ c<|hx c hc,ok,ht,oM⟩,λno fa y G8 gx T8 iG fy=>?_,λoo fa G8 gx T8 iG=>?_⟩⟩
      . have li:=li.kp gx T8;show vb Y Y ⟨(by show 0<=sizeLine;omega),λz nz=>?_⟩;have e:=j6 (o:=.lst []) nz;show⟨.list [_],.list [],.lst (y8.of<|e _ _ iG)<|.cons (R.isd<|R.same e.t fy) .nil,.lst (y8.of c8) .nil,?_,Y,?_,?_⟩
        . exact RS hS _
        . simp[noMix,noMixAll]
        . have es:PySem.Spec.same (.list [R.S.data<|wS R.S sy x]) (.list [])=false:=by simp[PySem.Spec.same,PySem.Spec.sameAll]
          rw[es];have bf:b=false:=by
           cases b with
           | false=>rfl
           | true=>exact absurd (hb.mp Y) no
          subst bf;show⟨Y,O Y<|CU Y ?_⟩;have li:=li.same e;have hf:=e _ _ iG;have qC:=R.same e.t fy;obtain⟨kp,dx,ek,hk⟩:=id li.kat;obtain⟨w7,ex,fx⟩:=li.wa x xu;have g1:=R3.k (k:=kW x) li.dk;rw[ex]at g1;show vb Y Y<|Cj Y ?_;show O Y ⟨kp,R.C,dx,R.fs,R.f_is_weight,zb ⟨40,ek,hk,R.l_is_weight,R.cl,R.t_is_weight,R.G_is_weight,hr.mono bD,R.b_is_weight,?_⟩⟩;show O Y<|zc ⟨Y,Y,y8.of hf,Y,zb ⟨Y,⟨⟨kp,dx,ek,hk⟩,qC⟩,O Y<|CU Y ?_⟩⟩;show O Y<|zc ⟨Y,Y,y8.of hf,Y,vb Y Y ⟨d,O Y ⟨g1,?_⟩⟩⟩;show R.neD qC fx rfl<|O Y ?_;exact t7 ⟨_,_,_,O Y li⟩
      . have li:=li.kp gx T8;show vb Y Y ⟨(by show 0<=sizeLine;omega),λz nz=>?_⟩;have e:=j6 (o:=.lst []) nz;show⟨.list [],.list [],.lst (y8.of<|e _ _ iG) .nil,.lst (y8.of c8) .nil,Y,Y,Y,?_⟩;have bt:b=true:=hb.mpr oo;subst bt;show⟨Y,O Y<|CU Y ?_⟩;have li:=li.same e;show vb Y Y<|CU Y ?_;exact t7 ⟨_,_,_,O Y li⟩
  . rintro σ G ⟨v8,v9,iK,lz,rfl,li⟩;show vc Y Y Y ⟨tx l',Y,(by rw[l8];omega),?_⟩;rw[iD,RQ];show vc Y Y Y<|vc Y Y Y ⟨R,zi nm p a so l 2 ⟨hS,Y,⟨li.dr,li.srt,L,l2,oM,oM⟩,λx2 v2 H8 s8 d8 iu ix vK fU=>?_⟩⟩;have li:=li.samx s8 d8;have e2:vB 2=253:=rfl;exact O Y ⟨R,zj nm p so kv v2 x2 l a ⟨hS,Y,⟨li.dr,li.srt,li.kat,iu,li.tbs,⟨L,az⟩,ix,oM,oM⟩,λH'=>k H'⟩⟩
def ML(T:Txt K mg t):∀(s:Shared) (u:Value),BindsTo s t.k0q ⟨[u],[]⟩ [("_law_script",u)]:=by obtain⟨oc,od,kV,dF,pm,an,dR,ct,fW,e,_,_⟩:=T.k0o.F.ex;rw[e];exact λs u=>.of_eq rfl
def Ut(p:Params)(t:Str × Tok × Int × Tok):DictEntry:=⟨PySem.PyData.keyHash p t.1,.str t.1 t.2.1,.int t.2.2.1 t.2.2.2⟩
def prT(t:Str × Tok × Int × Tok):L2.E5 × Value:=(.inr t.1,.int t.2.2.1 t.2.2.2)
theorem Rq:∀ts:List (Str × Tok × Int × Tok),KV (Qt<|ts.map λt=>(t.1,t.2.2.1)) (ts.map prT)
 | []=>.nil
 | t::ts=>.cons ⟨Y,⟨_,Y⟩⟩ (Rq ts)
theorem Oh{P:Program}{w:World}:∀ts:List (Str × Tok × Int × Tok),Pairs (B6 P w) (ts.map<|Ut w.params) (ts.map prT)
 | []=>.nil
 | t::ts=>.cons (AX P w t.1 t.2.1) rfl (Oh ts)
def LQ{P:Program}{w:World}{K:aa}{a:Addr}{n:Nat}(ts:List (Str × Tok × Int × Tok))(ns:(a == sysModules)=false)
    (hl:K.lookup a=some ⟨.type "dict",none,.dict (ts.map<|Ut w.params).toArray n,#[]⟩) (hn:(ts.map (·.1)).Nodup):Pi P w K a (ts.map λt=>(t.1,t.2.2.1))where
 ns:=ns
 of:=by
  show⟨ts.map prT,Rq ts,λh KX=>zb ⟨KX a _ hl,⟨Y,Y,Y⟩,Y,λe he=>?_,?_,?_⟩⟩
  . obtain⟨t,_,rfl⟩:=bE.mp<|List.mem_toArray.mp he;exact⟨.inr t.1,AX P w t.1 t.2.1,Y⟩
  . exact Oh ts
  . have e:(ts.map prT).map (·.1)=(ts.map (·.1)).map Sum.inr:=by rw[List.map_map,List.map_map];rfl
    rw[e];exact hn.map Sum.inr λa b h z=>h (Sum.inr.inj z)
def wts:List (Str × Tok × Int × Tok):=[(Str.ofString "nil",858,0,859),(Str.ofString "word",860,0,861),(Str.ofString "times",862,1,863),(Str.ofString "sum",864,2,865),(Str.ofString "then",866,2,867),(Str.ofString "both",868,2,869),(Str.ofString "back",870,1,871),(Str.ofString "star",872,1,873)]
end
abbrev NS(K:aa)(x:Str)(a:Addr):Prop:=PySem.W.nsIn K mainGlobals x=some (some<|.ref a)
abbrev KI(K:aa)(a:Addr):Prop:=PySem.W.keepIn K (.ref a)=true
abbrev FX(K:aa)(n q:Str)(s:Stmt)(a:Addr):Prop:=∃d,FV K n q s a d
def fx{K:aa}{x q:Str}{s:Stmt}{f:Addr}{b:Value}{u v:Option Addr}{w:Array (Option Value)}{c d e g j:Value}(l:K.lookup f=some ⟨b,u,.func<|PySem.W.fnOf x q (y9 s) (p9 s) (c5 s) .none c d e v g j,w⟩)(h:PySem.W.codeIn K g q=true)(k:KI K f):FX K x q s f:=⟨_,ON l h k⟩
def Nu{us:w0i}{n:Nat}(h:us.length=n+1):∃a l,us=a::l/\l.length=n:=by cases us with | nil=>cases h | cons a l=>exact⟨a,l,rfl,Nat.succ.inj h⟩
def QP{K:aa}{x q:Str}{s:Stmt}{f:Addr}{fd:FuncData}{p0:Str}(F:FV K x q s f fd)(h:∀(c d e:Value) (v:Option Addr) (g j:Value) (u0:Value),bindArgs (PySem.W.fnOf x q (y9 s) (p9 s) (c5 s) .none c d e v g j) ⟨[u0],[]⟩=pure (([p0]:w0h).zip [u0]):=by intros;rfl):E6 K fd [p0] []:=F.binds λc d e v g j us hl=>match us,hl with | [u0],_=>h c d e v g j u0
def UY{K:aa}{x q:Str}{s:Stmt}{f:Addr}{fd:FuncData}{p0 p1:Str}(F:FV K x q s f fd)(h:∀(c d e:Value) (v:Option Addr) (g j:Value) (u0 u1:Value),bindArgs (PySem.W.fnOf x q (y9 s) (p9 s) (c5 s) .none c d e v g j) ⟨[u0,u1],[]⟩=pure (([p0,p1]:w0h).zip [u0,u1]):=by intros;rfl):E6 K fd [p0,p1] []:=F.binds λc d e v g j us hl=>match us,hl with | [u0,u1],_=>h c d e v g j u0 u1
def QO{K:aa}{x q:Str}{s:Stmt}{f:Addr}{fd:FuncData}{p0 p1 p2:Str}(F:FV K x q s f fd)(h:∀(c d e:Value) (v:Option Addr) (g j:Value) (u0 u1 u2:Value),bindArgs (PySem.W.fnOf x q (y9 s) (p9 s) (c5 s) .none c d e v g j) ⟨[u0,u1,u2],[]⟩=pure (([p0,p1,p2]:w0h).zip [u0,u1,u2]):=by intros;rfl):E6 K fd [p0,p1,p2] []:=F.binds λc d e v g j us hl=>by obtain⟨u0,_,rfl,k0⟩:=Nu hl;obtain⟨u1,_,rfl,k1⟩:=Nu k0;obtain⟨u2,_,rfl,k2⟩:=Nu k1;cases bu.mp k2;exact h c d e v g j u0 u1 u2
def bn4{K:aa}{x q:Str}{s:Stmt}{f:Addr}{fd:FuncData}{p0 p1 p2 p3:Str}(F:FV K x q s f fd)(h:∀(c d e:Value) (v:Option Addr) (g j:Value) (u0 u1 u2 u3:Value),bindArgs (PySem.W.fnOf x q (y9 s) (p9 s) (c5 s) .none c d e v g j) ⟨[u0,u1,u2,u3],[]⟩=pure (([p0,p1,p2,p3]:w0h).zip [u0,u1,u2,u3]):=by intros;rfl):E6 K fd [p0,p1,p2,p3] []:=F.binds λc d e v g j us hl=>by obtain⟨u0,_,rfl,k0⟩:=Nu hl;obtain⟨u1,_,rfl,k1⟩:=Nu k0;obtain⟨u2,_,rfl,k2⟩:=Nu k1;obtain⟨u3,_,rfl,k3⟩:=Nu k2;cases bu.mp k3;exact h c d e v g j u0 u1 u2 u3
def bn5{K:aa}{x q:Str}{s:Stmt}{f:Addr}{fd:FuncData}{p0 p1 p2 p3 p4:Str}(F:FV K x q s f fd)(h:∀(c d e:Value) (v:Option Addr) (g j:Value) (u0 u1 u2 u3 u4:Value),bindArgs (PySem.W.fnOf x q (y9 s) (p9 s) (c5 s) .none c d e v g j) ⟨[u0,u1,u2,u3,u4],[]⟩=pure (([p0,p1,p2,p3,p4]:w0h).zip [u0,u1,u2,u3,u4]):=by intros;rfl):E6 K fd [p0,p1,p2,p3,p4] []:=F.binds λc d e v g j us hl=>by obtain⟨u0,_,rfl,k0⟩:=Nu hl;obtain⟨u1,_,rfl,k1⟩:=Nu k0;obtain⟨u2,_,rfl,k2⟩:=Nu k1;obtain⟨u3,_,rfl,k3⟩:=Nu k2;obtain⟨u4,_,rfl,k4⟩:=Nu k3;cases bu.mp k4;exact h c d e v g j u0 u1 u2 u3 u4
abbrev DX(K:aa)(n:Str)(s:Stmt)(a:Addr):Prop:=NS K n a/\FX K n n s a
def dx{K:aa}{x:Str}{s:Stmt}{f:Addr}{b:Value}{u v:Option Addr}{w:Array (Option Value)}{c d e g j:Value}(m:NS K x f)(l:K.lookup f=some ⟨b,u,.func<|PySem.W.fnOf x x (y9 s) (p9 s) (c5 s) .none c d e v g j,w⟩)(h:PySem.W.codeIn K g x=true)(k:KI K f):DX K x s f:=⟨m,_,ON l h k⟩
def OP{K:aa}{x:Str}{s:Stmt}{f:Addr}{H:Heap}{mg:w0f}(X:K.In H)(G:H.Ns mainGlobals mg){p0:Str}(m:DX K x s f)(h:∀(c d e:Value) (v:Option Addr) (g j:Value) (u0:Value),bindArgs (PySem.W.fnOf x x (y9 s) (p9 s) (c5 s) .none c d e v g j) ⟨[u0],[]⟩=pure (([p0]:w0h).zip [u0]):=by intros;rfl):Df K mg x s [p0] f m.2.choose:=⟨m.2.choose_spec,QP m.2.choose_spec h,bV X G m.1⟩
def JV{K:aa}{x:Str}{s:Stmt}{f:Addr}{H:Heap}{mg:w0f}(X:K.In H)(G:H.Ns mainGlobals mg){p0 p1:Str}(m:DX K x s f)(h:∀(c d e:Value) (v:Option Addr) (g j:Value) (u0 u1:Value),bindArgs (PySem.W.fnOf x x (y9 s) (p9 s) (c5 s) .none c d e v g j) ⟨[u0,u1],[]⟩=pure (([p0,p1]:w0h).zip [u0,u1]):=by intros;rfl):Df K mg x s [p0,p1] f m.2.choose:=⟨m.2.choose_spec,UY m.2.choose_spec h,bV X G m.1⟩
def Uv{K:aa}{x:Str}{s:Stmt}{f:Addr}{H:Heap}{mg:w0f}(X:K.In H)(G:H.Ns mainGlobals mg){p0 p1 p2:Str}(m:DX K x s f)(h:∀(c d e:Value) (v:Option Addr) (g j:Value) (u0 u1 u2:Value),bindArgs (PySem.W.fnOf x x (y9 s) (p9 s) (c5 s) .none c d e v g j) ⟨[u0,u1,u2],[]⟩=pure (([p0,p1,p2]:w0h).zip [u0,u1,u2]):=by intros;rfl):Df K mg x s [p0,p1,p2] f m.2.choose:=⟨m.2.choose_spec,QO m.2.choose_spec h,bV X G m.1⟩
def dx4{K:aa}{x:Str}{s:Stmt}{f:Addr}{H:Heap}{mg:w0f}(X:K.In H)(G:H.Ns mainGlobals mg){p0 p1 p2 p3:Str}(m:DX K x s f)(h:∀(c d e:Value) (v:Option Addr) (g j:Value) (u0 u1 u2 u3:Value),bindArgs (PySem.W.fnOf x x (y9 s) (p9 s) (c5 s) .none c d e v g j) ⟨[u0,u1,u2,u3],[]⟩=pure (([p0,p1,p2,p3]:w0h).zip [u0,u1,u2,u3]):=by intros;rfl):Df K mg x s [p0,p1,p2,p3] f m.2.choose:=⟨m.2.choose_spec,bn4 m.2.choose_spec h,bV X G m.1⟩
def dx5{K:aa}{x:Str}{s:Stmt}{f:Addr}{H:Heap}{mg:w0f}(X:K.In H)(G:H.Ns mainGlobals mg){p0 p1 p2 p3 p4:Str}(m:DX K x s f)(h:∀(c d e:Value) (v:Option Addr) (g j:Value) (u0 u1 u2 u3 u4:Value),bindArgs (PySem.W.fnOf x x (y9 s) (p9 s) (c5 s) .none c d e v g j) ⟨[u0,u1,u2,u3,u4],[]⟩=pure (([p0,p1,p2,p3,p4]:w0h).zip [u0,u1,u2,u3,u4]):=by intros;rfl):Df K mg x s [p0,p1,p2,p3,p4] f m.2.choose:=⟨m.2.choose_spec,bn5 m.2.choose_spec h,bV X G m.1⟩
def RB{K:aa}{h:Heap}{mg:w0f}(X:K.In h)(G:h.Ns mainGlobals mg){A0 A1 A2 A3 A4 A5 A6 A7 A8 A9 jJ jI mT mS mR mQ mP mO mM mL mK mJ mI mH mG mF mE mB mz my mx tI tH tF tE tD tm tj sY sW sV sU sS sR sQ sO sN sM sI sH sF sD sC sA su sq sk sj se sd rZ rY rX rW rV rT rS c_star_weight P_star_weight c_star_weigher P_star_weigher c_then_weigher P_then_weigher c_weigher P_weigher:Addr}
 (N0:NS K "Fractions" A0)
 (uq:PySem.W.plainGet K A0 Str.empty=true)
 (gK:PySem.W.hasDictIn K A0=true)
 (ug:PySem.W.plainOver K A0=true)
 (tZ:PySem.W.findIn K (.ref A0) "__setattr__"=some (some<|.builtin "object.__setattr__"))
 (vd:PySem.W.makesIn K A0=true)
 (ja:KI K A0)
 (vj:PySem.W.findIn K (.ref A0) "__init__"=some (some<|.builtin "object.__init__"))
 (N1:NS K "Residues" A1)
 (uo:PySem.W.plainGet K A1 Str.empty=true)
 (jF:PySem.W.hasDictIn K A1=true)
 (uf:PySem.W.plainOver K A1=true)
 (tY:PySem.W.findIn K (.ref A1) "__setattr__"=some (some<|.builtin "object.__setattr__"))
 (uZ:PySem.W.makesIn K A1=true)
 (lI:KI K A1)
 (N2:NS K "Costs" A2)
 (um:PySem.W.plainGet K A2 Str.empty=true)
 (wm:PySem.W.hasDictIn K A2=true)
 (ue:PySem.W.plainOver K A2=true)
 (tX:PySem.W.findIn K (.ref A2) "__setattr__"=some (some<|.builtin "object.__setattr__"))
 (uY:PySem.W.makesIn K A2=true)
 (jy:KI K A2)
 (vi:PySem.W.findIn K (.ref A2) "__init__"=some (some<|.builtin "object.__init__"))
 (N3:NS K "Truths" A3)
 (uh:PySem.W.plainGet K A3 Str.empty=true)
 (wk:PySem.W.hasDictIn K A3=true)
 (ud:PySem.W.plainOver K A3=true)
 (tW:PySem.W.findIn K (.ref A3) "__setattr__"=some (some<|.builtin "object.__setattr__"))
 (uX:PySem.W.makesIn K A3=true)
 (gy:KI K A3)
 (vh:PySem.W.findIn K (.ref A3) "__init__"=some (some<|.builtin "object.__init__"))
 (N4:NS K "WeighError" A4)
 (X4:QV K A4)
 (N5:NS K "NoClosure" A5)
 (X5:QV K A5)
 (f0:DX K "is_whole" BX A6)
 (f1:DX K "divisor" Dx A7)
 (f2:DX K "fraction" BZ A8)
 (f3:DX K "is_prime" BY A9)
 (n4:PySem.W.findIn K (.ref A0) "nought"=some (some<|.ref jJ))
 (i4:PySem.W.isFn K (.ref jJ)=true)
 (f4:FX K "nought" "Fractions.nought" L9 jJ)
 (n5:PySem.W.findIn K (.ref A0) "one"=some (some<|.ref jI))
 (i5:PySem.W.isFn K (.ref jI)=true)
 (f5:FX K "one" "Fractions.one" R0 jI)
 (n6:PySem.W.findIn K (.ref A0) "plus"=some (some<|.ref mT))
 (i6:PySem.W.isFn K (.ref mT)=true)
 (f6:FX K "plus" "Fractions.plus" O7 mT)
 (n7:PySem.W.findIn K (.ref A0) "times"=some (some<|.ref mS))
 (i7:PySem.W.isFn K (.ref mS)=true)
 (f7:FX K "times" "Fractions.times" N6 mS)
 (n8:PySem.W.findIn K (.ref A0) "is_weight"=some (some<|.ref mR))
 (i8:PySem.W.isFn K (.ref mR)=true)
 (f8:FX K "is_weight" "Fractions.is_weight" E8 mR)
 (n9:PySem.W.findIn K (.ref A1) "__init__"=some (some<|.ref mQ))
 (i9:PySem.W.isFn K (.ref mQ)=true)
 (f9:FX K "__init__" "Residues.__init__" K6 mQ)
 (uW:PySem.W.findIn K (.ref A1) "nought"=some (some<|.ref mP))
 (vF:PySem.W.isFn K (.ref mP)=true)
 (ml:FX K "nought" "Residues.nought" M9 mP)
 (uV:PySem.W.findIn K (.ref A1) "one"=some (some<|.ref mO))
 (vE:PySem.W.isFn K (.ref mO)=true)
 (mj:FX K "one" "Residues.one" S7 mO)
 (iV:PySem.W.findIn K (.ref A1) "plus"=some (some<|.ref mM))
 (vD:PySem.W.isFn K (.ref mM)=true)
 (mi:FX K "plus" "Residues.plus" Q9 mM)
 (iU:PySem.W.findIn K (.ref A1) "times"=some (some<|.ref mL))
 (vA:PySem.W.isFn K (.ref mL)=true)
 (mh:FX K "times" "Residues.times" O6 mL)
 (iT:PySem.W.findIn K (.ref A1) "is_weight"=some (some<|.ref mK))
 (vz:PySem.W.isFn K (.ref mK)=true)
 (mf:FX K "is_weight" "Residues.is_weight" G0 mK)
 (uU:PySem.W.findIn K (.ref A2) "nought"=some (some<|.ref mJ))
 (vy:PySem.W.isFn K (.ref mJ)=true)
 (me:FX K "nought" "Costs.nought" S8 mJ)
 (uT:PySem.W.findIn K (.ref A2) "one"=some (some<|.ref mI))
 (vx:PySem.W.isFn K (.ref mI)=true)
 (md:FX K "one" "Costs.one" AL mI)
 (uS:PySem.W.findIn K (.ref A2) "plus"=some (some<|.ref mH))
 (vw:PySem.W.isFn K (.ref mH)=true)
 (lZ:FX K "plus" "Costs.plus" Z9 mH)
 (uR:PySem.W.findIn K (.ref A2) "times"=some (some<|.ref mG))
 (vv:PySem.W.isFn K (.ref mG)=true)
 (lY:FX K "times" "Costs.times" V8 mG)
 (uQ:PySem.W.findIn K (.ref A2) "is_weight"=some (some<|.ref mF))
 (vt:PySem.W.isFn K (.ref mF)=true)
 (lX:FX K "is_weight" "Costs.is_weight" N7 mF)
 (uP:PySem.W.findIn K (.ref A3) "nought"=some (some<|.ref mE))
 (vq:PySem.W.isFn K (.ref mE)=true)
 (lW:FX K "nought" "Truths.nought" Q8 mE)
 (uO:PySem.W.findIn K (.ref A3) "one"=some (some<|.ref mB))
 (vp:PySem.W.isFn K (.ref mB)=true)
 (lV:FX K "one" "Truths.one" Z4 mB)
 (uN:PySem.W.findIn K (.ref A3) "plus"=some (some<|.ref mz))
 (vo:PySem.W.isFn K (.ref mz)=true)
 (lU:FX K "plus" "Truths.plus" V7 mz)
 (iS:PySem.W.findIn K (.ref A3) "times"=some (some<|.ref my))
 (vn:PySem.W.isFn K (.ref my)=true)
 (lT:FX K "times" "Truths.times" S6 my)
 (iR:PySem.W.findIn K (.ref A3) "is_weight"=some (some<|.ref mx))
 (vm:PySem.W.isFn K (.ref mx)=true)
 (lS:FX K "is_weight" "Truths.is_weight" L8 mx)
 (rH:DX K "is_word" Be tI)
 (rG:DX K "need_word" AG tH)
 (rF:DX K "need_closable" Q7 tF)
 (rE:DX K "answer" Fd tE)
 (rD:DX K "sayings_within" O5 tD)
 (rC:DX K "cut_weight" Z3 tm)
 (pj:DX K "star_weight" C4 tj)
 (ph:DX K "star_weigher" z7 sY)
 (pf:DX K "then_weigher" o9 sW)
 (pe:DX K "weigher" w9 sV)
 (rB:DX K "said_weight" V5 sU)
 (rA:DX K "_law_next" BV sS)
 (rz:DX K "_law_state" AI sR)
 (rp:DX K "_law_divisor" V6 sQ)
 (rm:DX K "_law_low" Dv sO)
 (rj:DX K "_law_plus" BU sN)
 (rh:DX K "_law_times" AH sM)
 (rg:DX K "_law_nought" Y9 sI)
 (rf:DX K "_law_one" Du sH)
 (qZ:DX K "_law_sort" BR sF)
 (qY:DX K "_law_kind" BW sD)
 (qX:DX K "_law_weight" Y6 sC)
 (qW:DX K "_law_then" BP sA)
 (qV:DX K "_law_star" BQ su)
 (qU:DX K "_law_weights" P6 sq)
 (qS:DX K "_law_empty" AJ sk)
 (qR:DX K "_law_words" U5 sj)
 (qQ:DX K "_law_letters" P7 se)
 (qO:DX K "_law_word" BO sd)
 (qN:DX K "_law_saying" Y7 rZ)
 (qM:DX K "_law_open_star" E3 rY)
 (qL:DX K "_law_asked" AK rX)
 (qK:DX K "_law_said" BS rW)
 (qJ:DX K "_law_pieces" Y8 rV)
 (qI:DX K "_law_long" Z0 rT)
 (qH:DX K "law" Ly rS)
 (z_isinstance:PySem.W.nsIn K mainGlobals "isinstance"=some none)
 (z_int:PySem.W.nsIn K mainGlobals "int"=some none)
 (z_bool:PySem.W.nsIn K mainGlobals "bool"=some none)
 (z_abs:PySem.W.nsIn K mainGlobals "abs"=some none)
 (z_tuple:PySem.W.nsIn K mainGlobals "tuple"=some none)
 (z_len:PySem.W.nsIn K mainGlobals "len"=some none)
 {tk_c_GREATEST_PRIME:Tok}
 (c_GREATEST_PRIME:PySem.W.nsIn K mainGlobals "GREATEST_PRIME"=some (some<|.int 1000000 tk_c_GREATEST_PRIME))
 (z_min:PySem.W.nsIn K mainGlobals "min"=some none)
 (z_str:PySem.W.nsIn K mainGlobals "str"=some none)
 (z_all:PySem.W.nsIn K mainGlobals "all"=some none)
 (z_range:PySem.W.nsIn K mainGlobals "range"=some none)
 {tk_c_SMALL_LETTERS:Tok}
 (c_SMALL_LETTERS:PySem.W.nsIn K mainGlobals "SMALL_LETTERS"=some (some<|.str "abcdefghijklmnopqrstuvwxyz" tk_c_SMALL_LETTERS))
 (z_enumerate:PySem.W.nsIn K mainGlobals "enumerate"=some none)
 (z_any:PySem.W.nsIn K mainGlobals "any"=some none)
 (k_ii:PySem.W.kitOne K (.type "int") (.type "int")=some true)
 (k_ib:PySem.W.kitOne K (.type "int") (.type "bool")=some false)
 (k_tt:PySem.W.kitOne K (.type "tuple") (.type "tuple")=some true)
 (k_bb:PySem.W.kitOne K (.type "bool") (.type "bool")=some true)
 (k_ss:PySem.W.kitOne K (.type "str") (.type "str")=some true)
 (nP:PySem.W.findIn K (.ref A1) "prime"=some none)
 (k_ts:PySem.W.kitOne K (.type "tuple") (.type "str")=some false)
 (q_nt:PySem.W.kitOne K (.type "NoneType") (.type "tuple")=some false)
 (q_ni:PySem.W.kitOne K (.type "NoneType") (.type "int")=some false)
 (q_nb:PySem.W.kitOne K (.type "NoneType") (.type "bool")=some false)
 (q_ns:PySem.W.kitOne K (.type "NoneType") (.type "str")=some false)
 (q_it:PySem.W.kitOne K (.type "int") (.type "tuple")=some false)
 (q_ii:PySem.W.kitOne K (.type "int") (.type "int")=some true)
 (q_ib:PySem.W.kitOne K (.type "int") (.type "bool")=some false)
 (q_is:PySem.W.kitOne K (.type "int") (.type "str")=some false)
 (q_bt:PySem.W.kitOne K (.type "bool") (.type "tuple")=some false)
 (q_bi:PySem.W.kitOne K (.type "bool") (.type "int")=some true)
 (q_bb:PySem.W.kitOne K (.type "bool") (.type "bool")=some true)
 (q_bs:PySem.W.kitOne K (.type "bool") (.type "str")=some false)
 (q_st:PySem.W.kitOne K (.type "str") (.type "tuple")=some false)
 (q_si:PySem.W.kitOne K (.type "str") (.type "int")=some false)
 (q_sb:PySem.W.kitOne K (.type "str") (.type "bool")=some false)
 (q_ss:PySem.W.kitOne K (.type "str") (.type "str")=some true)
 (q_tt:PySem.W.kitOne K (.type "tuple") (.type "tuple")=some true)
 (q_ti:PySem.W.kitOne K (.type "tuple") (.type "int")=some false)
 (q_tb:PySem.W.kitOne K (.type "tuple") (.type "bool")=some false)
 (q_ts:PySem.W.kitOne K (.type "tuple") (.type "str")=some false)
 (q_lt:PySem.W.kitOne K (.type "list") (.type "tuple")=some false)
 (q_li:PySem.W.kitOne K (.type "list") (.type "int")=some false)
 (q_lb:PySem.W.kitOne K (.type "list") (.type "bool")=some false)
 (q_ls:PySem.W.kitOne K (.type "list") (.type "str")=some false)
 (q_dt:PySem.W.kitOne K (.type "dict") (.type "tuple")=some false)
 (q_di:PySem.W.kitOne K (.type "dict") (.type "int")=some false)
 (q_db:PySem.W.kitOne K (.type "dict") (.type "bool")=some false)
 (q_ds:PySem.W.kitOne K (.type "dict") (.type "str")=some false)
 (k_ns:PySem.W.kitOne K (.type "NoneType") (.type "str")=some false)
 (k_ls:PySem.W.kitOne K (.type "list") (.type "str")=some false)
 (k_is:PySem.W.kitOne K (.type "int") (.type "str")=some false)
 (eC:PySem.W.exmOne K (.ref A5) (.ref A4)=some true)
 (vC:PySem.W.kitOne K (.ref A5) (.type "ValueError")=some true)
 (kCC:PySem.W.kitOne K (.ref A5) (.ref A5)=some true)
 (d_tabs:([P_star_weight,P_star_weigher,P_then_weigher,P_weigher]:List Addr).Nodup)
 (eCC:PySem.W.exmOne K (.ref A5) (.ref A5)=some true)
 (tb_star_weight:PySem.W.tabIn K "star_weight"=some (c_star_weight,P_star_weight))
 (tb_star_weigher:PySem.W.tabIn K "star_weigher"=some (c_star_weigher,P_star_weigher))
 (tb_then_weigher:PySem.W.tabIn K "then_weigher"=some (c_then_weigher,P_then_weigher))
 (tb_weigher:PySem.W.tabIn K "weigher"=some (c_weigher,P_weigher))
 : ∃t:JZ,Txt K mg t:=
 have M:∀{x:Str} {v:Value},PySem.W.nsIn K mainGlobals x=some (some v)->mg x=some v:=λn=>bV X G n;have a1d:∀{x:Str},PySem.W.nsIn K mainGlobals x=some none->mg x=none:=λn=>PySem.W.mg_none_of X G n;have S:∀{n q:Str} {s:Stmt} {a:Addr} (f:FX K n q s a),FV K n q s a f.choose:=λf=>f.choose_spec
 ⟨{ k0c:=A6,h0u:=f0.2.choose,k0f:=A7,j0h:=f1.2.choose,j0n:=A8,h0n:=f2.2.choose,j0s:=A9,i0h:=f3.2.choose,d0u:=jJ,d0e:=f4.choose,f0l:=jI,e0f:=f5.choose,e0s:=mT,d0s:=f6.choose,e0k:=mS,d0n:=f7.choose,c0z:=mR,c0w:=f8.choose,d0l:=mQ,d0a:=f9.choose,e0b:=mP,d0h:=ml.choose,g0c:=mO,e0o:=mj.choose,f0h:=mM,e0a:=mi.choose,e0u:=mL,d0q:=mh.choose,d0f:=mK,c0x:=mf.choose,g0h:=mJ,e0p:=me.choose,j0g:=mI,h0g:=md.choose,i0a:=mH,g0g:=lZ.choose,g0l:=mG,f0e:=lY.choose,e0i:=mF,d0k:=lX.choose,f0p:=mE,e0h:=lW.choose,i0l:=mB,f0x:=lV.choose,g0q:=mz,f0m:=lU.choose,f0v:=my,e0r:=lT.choose,d0o:=mx,d0g:=lS.choose,k0k:=tI,j0e:=rH.2.choose,j0a:=tH,g0v:=rG.2.choose,f0i:=tF,d0y:=rF.2.choose,k0n:=tE,k0d:=rE.2.choose,e0t:=tD,d0r:=rD.2.choose,i0b:=tm,g0d:=rC.2.choose,star_weight:=tj,f0b:=pj.2.choose,star_weigher:=sY,e0y:=ph.2.choose,then_weigher:=sW,e0x:=pf.2.choose,weigher:=sV,i0v:=pe.2.choose,h0a:=sU,f0n:=rB.2.choose,j0x:=sS,h0q:=rA.2.choose,j0j:=sR,g0x:=rz.2.choose,g0n:=sQ,f0r:=rp.2.choose,k0h:=sO,j0c:=rm.2.choose,k0e:=sN,i0g:=rj.2.choose,i0w:=sM,g0r:=rh.2.choose,i0d:=sI,g0b:=rg.2.choose,k0j:=sH,j0f:=rf.2.choose,k0b:=sF,i0k:=qZ.2.choose,j0t:=sD,h0x:=qY.2.choose,i0m:=sC,f0s:=qX.2.choose,j0z:=sA,i0e:=qW.2.choose,j0u:=su,i0r:=qV.2.choose,h0j:=sq,f0j:=qU.2.choose,j0i:=sk,g0o:=qS.2.choose,j0l:=sj,g0w:=qR.2.choose,h0e:=se,e0z:=qQ.2.choose,j0q:=sd,i0p:=qO.2.choose,h0w:=rZ,g0i:=qN.2.choose,f0f:=rY,d0x:=qM.2.choose,i0z:=rX,g0u:=qL.2.choose,j0o:=rW,i0q:=qK.2.choose,i0f:=rV,g0e:=qJ.2.choose,j0y:=rT,h0l:=qI.2.choose,law:=rS,k0q:=qH.2.choose,j0b:=A0,j0w:=A1,k0p:=A2,k0m:=A3,i0o:=A4,j0k:=A5,c_star_weight:=c_star_weight,P_star_weight:=P_star_weight,c_star_weigher:=c_star_weigher,P_star_weigher:=P_star_weigher,c_then_weigher:=c_then_weigher,P_then_weigher:=P_then_weigher,c_weigher:=c_weigher,P_weigher:=P_weigher },
  { i0n:=OP X G f0,i0x:=JV X G f1,h0r:=JV X G f2,h0y:=OP X G f3,d0d:=⟨S f4,QP<|S f4,⟨n4,i4,(S f4).kp⟩⟩,e0g:=⟨S f5,QP<|S f5,⟨n5,i5,(S f5).kp⟩⟩,d0p:=⟨S f6,QO<|S f6,⟨n6,i6,(S f6).kp⟩⟩,d0j:=⟨S f7,QO<|S f7,⟨n7,i7,(S f7).kp⟩⟩,c0v:=⟨S f8,UY<|S f8,⟨n8,i8,(S f8).kp⟩⟩,d0b:=⟨S f9,UY<|S f9,⟨n9,i9,(S f9).kp⟩⟩,d0i:=⟨S ml,QP<|S ml,⟨uW,vF,(S ml).kp⟩⟩,e0w:=⟨S mj,QP<|S mj,⟨uV,vE,(S mj).kp⟩⟩,e0e:=⟨S mi,QO<|S mi,⟨iV,vD,(S mi).kp⟩⟩,d0v:=⟨S mh,QO<|S mh,⟨iU,vA,(S mh).kp⟩⟩,c0y:=⟨S mf,UY<|S mf,⟨iT,vz,(S mf).kp⟩⟩,e0v:=⟨S me,QP<|S me,⟨uU,vy,(S me).kp⟩⟩,g0z:=⟨S md,QP<|S md,⟨uT,vx,(S md).kp⟩⟩,f0u:=⟨S lZ,QO<|S lZ,⟨uS,vw,(S lZ).kp⟩⟩,f0c:=⟨S lY,QO<|S lY,⟨uR,vv,(S lY).kp⟩⟩,d0m:=⟨S lX,UY<|S lX,⟨uQ,vt,(S lX).kp⟩⟩,e0c:=⟨S lW,QP<|S lW,⟨uP,vq,(S lW).kp⟩⟩,g0f:=⟨S lV,QP<|S lV,⟨uO,vp,(S lV).kp⟩⟩,f0q:=⟨S lU,QO<|S lU,⟨uN,vo,(S lU).kp⟩⟩,e0m:=⟨S lT,QO<|S lT,⟨iS,vn,(S lT).kp⟩⟩,d0c:=⟨S lS,UY<|S lS,⟨iR,vm,(S lS).kp⟩⟩,i0y:=JV X G rH,h0c:=JV X G rG,e0d:=JV X G rF,j0p:=Uv X G rE,d0t:=OP X G rD,g0k:=dx5 X G rC,f0d:=dx4 X G pj,e0q:=JV X G ph,e0n:=Uv X G pf,i0u:=JV X G pe,f0g:=Uv X G rB,h0o:=JV X G rA,h0h:=OP X G rz,f0o:=JV X G rp,j0d:=JV X G rm,h0m:=Uv X G rj,g0y:=Uv X G rh,f0y:=OP X G rg,j0m:=OP X G rf,h0z:=OP X G qZ,i0c:=OP X G qY,g0a:=JV X G qX,h0k:=dx4 X G qW,h0p:=dx4 X G qV,f0a:=Uv X G qU,g0p:=JV X G qS,h0b:=JV X G qR,f0k:=JV X G qQ,h0v:=JV X G qO,g0j:=dx4 X G qN,d0z:=JV X G qM,h0d:=Uv X G qL,h0s:=OP X G qK,f0t:=OP X G qJ,i0t:=dx5 X G qI,k0o:=OP X G qH,h0f:=⟨uq,gK,ug,tZ⟩,h0i:=M N0,g0t:=⟨vd,vj,ja⟩,i0i:=⟨uo,jF,uf,tY⟩,i0j:=M N1,h0t:=⟨uZ,n9,i9,lI⟩,k0g:=⟨um,wm,ue,tX⟩,k0i:=M N2,k0l:=⟨uY,vi,jy⟩,k0a:=⟨uh,wk,ud,tW⟩,j0r:=M N3,j0v:=⟨uX,vh,gy⟩,f0w:=M N4,f0z:=X4,g0s:=M N5,g0m:=X5,z_isinstance:=a1d z_isinstance,z_int:=a1d z_int,z_bool:=a1d z_bool,z_abs:=a1d z_abs,z_tuple:=a1d z_tuple,z_len:=a1d z_len,c_GREATEST_PRIME:=⟨_,M c_GREATEST_PRIME⟩,z_min:=a1d z_min,z_str:=a1d z_str,z_all:=a1d z_all,z_range:=a1d z_range,c_SMALL_LETTERS:=⟨_,M c_SMALL_LETTERS⟩,z_enumerate:=a1d z_enumerate,z_any:=a1d z_any,k_ii:=k_ii,k_ib:=k_ib,k_tt:=k_tt,k_bb:=k_bb,k_ss:=k_ss,nP:=nP,k_ts:=k_ts,q_nt:=q_nt,q_ni:=q_ni,q_nb:=q_nb,q_ns:=q_ns,q_it:=q_it,q_ii:=q_ii,q_ib:=q_ib,q_is:=q_is,q_bt:=q_bt,q_bi:=q_bi,q_bb:=q_bb,q_bs:=q_bs,q_st:=q_st,q_si:=q_si,q_sb:=q_sb,q_ss:=q_ss,q_tt:=q_tt,q_ti:=q_ti,q_tb:=q_tb,q_ts:=q_ts,q_lt:=q_lt,q_li:=q_li,q_lb:=q_lb,q_ls:=q_ls,q_dt:=q_dt,q_di:=q_di,q_db:=q_db,q_ds:=q_ds,k_ns:=k_ns,k_ls:=k_ls,k_is:=k_is,eC:=eC,vC:=vC,kCC:=kCC,d_tabs:=d_tabs,eCC:=eCC,tb_star_weight:=tb_star_weight,e0l:=pj.1,tb_star_weigher:=tb_star_weigher,e0j:=ph.1,tb_then_weigher:=tb_then_weigher,d0w:=pf.1,tb_weigher:=tb_weigher,i0s:=pe.1 }⟩
def lkW(P:Params):(H81.K P).lookup 555=some ⟨.type "dict",none,.dict (wts.map<|Ut P).toArray 8,#[]⟩:=by kernel_rfl
end K81
open PySem PySem.W PyProof.Rows
set_option maxRecDepth 100000 in
set_option maxHeartbeats 0 in
theorem PySem.Challenge.cw_weighwalk_k81_what_a_saying_weighs_holds : PySem.Challenge.rw_weighwalk_k81_what_a_saying_weighs.Holds := by
 w_on;o_law
 show H81.Uo (by assumption) ?hw ?hc
 (case hw=>w_witness2)
 unfold H81.FK
 k_fill
 show L2.Nw (l:=PySem.Challenge.rw_weighwalk_k81_what_a_saying_weighs) (n:=63) (k:=115) (x:="_law_script") (CX:=L2.C8) (sp:=K81.NM) ["star_weight","star_weigher","then_weigher","weigher"] rfl bD rfl ⟨Y,bD,bD⟩ dK (λw h a1a=>PySem.W.kIn_of a1a) ?NT ?RC ?F ?S ?C
 case NT=>exact λw=>by kernel_rfl
 case RC=>
  intro y hy;rcases ah.mp hy with rfl | hy
  . kernel_rfl
  rcases ah.mp hy with rfl | hy
  . kernel_rfl
  rcases ah.mp hy with rfl | hy
  . kernel_rfl
  cases af.mp hy;kernel_rfl
 case F=>
  intro w mg fa h KX G ko;have T:∃t,K81.Txt (L2.KOf KX) mg t:=by
   dsimp only[L2.KOf];refine' K81.RB KX G (c_star_weight:=575) (P_star_weight:=571) (c_star_weigher:=582) (P_star_weigher:=578) (c_then_weigher:=589) (P_then_weigher:=585) (c_weigher:=594) (P_weigher:=592) ?_ ?_ ?_ ?_ ?_ ?_ ?_ ?_ ?_ ?_ ?_ ?_ ?_ ?_ ?_ ?_ ?_ ?_ ?_ ?_ ?_ ?_ ?_ ?_ ?_ ?_ ?_ ?_ ?_ ?_ ?_ ?_ ?X4 ?_ ?X5 (K81.dx ?_ (H81.Ju _) ?_ ?_) (K81.dx ?_ (H81.KS _) ?_ ?_) (K81.dx ?_ (H81.Jw _) ?_ ?_) (K81.dx ?_ (H81.Jv _) ?_ ?_) ?_ ?_ (K81.fx (H81.Bq _) ?_ ?_) ?_ ?_ (K81.fx (H81.DK _) ?_ ?_) ?_ ?_ (K81.fx (H81.CS _) ?_ ?_) ?_ ?_ (K81.fx (H81.Cg _) ?_ ?_) ?_ ?_ (K81.fx (H81.Af _) ?_ ?_) ?_ ?_ (K81.fx (H81.AY _) ?_ ?_) ?_ ?_ (K81.fx (H81.Cf _) ?_ ?_) ?_ ?_ (K81.fx (H81.EE _) ?_ ?_) ?_ ?_ (K81.fx (H81.DJ _) ?_ ?_) ?_ ?_ (K81.fx (H81.CQ _) ?_ ?_) ?_ ?_ (K81.fx (H81.Av _) ?_ ?_) ?_ ?_ (K81.fx (H81.EF _) ?_ ?_) ?_ ?_ (K81.fx (H81.Ic _) ?_ ?_) ?_ ?_ (K81.fx (H81.Gy _) ?_ ?_) ?_ ?_ (K81.fx (H81.FG _) ?_ ?_) ?_ ?_ (K81.fx (H81.Ci _) ?_ ?_) ?_ ?_ (K81.fx (H81.DI _) ?_ ?_) ?_ ?_ (K81.fx (H81.Gx _) ?_ ?_) ?_ ?_ (K81.fx (H81.FF _) ?_ ?_) ?_ ?_ (K81.fx (H81.ED _) ?_ ?_) ?_ ?_ (K81.fx (H81.Bp _) ?_ ?_) (K81.dx ?_ (H81.KR _) ?_ ?_) (K81.dx ?_ (H81.HR _) ?_ ?_) (K81.dx ?_ (H81.DH _) ?_ ?_) (K81.dx ?_ (H81.MJ _) ?_ ?_) (K81.dx ?_ (H81.CO _) ?_ ?_) (K81.dx ?_ (H81.Gq _) ?_ ?_) (K81.dx ?_ (H81.Fy _) ?_ ?_) (K81.dx ?_ (H81.Ez _) ?_ ?_) (K81.dx ?_ (H81.Ey _) ?_ ?_) (K81.dx ?_ (H81.KQ _) ?_ ?_) (K81.dx ?_ (H81.Fz _) ?_ ?_) (K81.dx ?_ (H81.HZ _) ?_ ?_) (K81.dx ?_ (H81.Gu _) ?_ ?_) (K81.dx ?_ (H81.EC _) ?_ ?_) (K81.dx ?_ (H81.Jy _) ?_ ?_) (K81.dx ?_ (H81.HY _) ?_ ?_) (K81.dx ?_ (H81.Gs _) ?_ ?_) (K81.dx ?_ (H81.FD _) ?_ ?_) (K81.dx ?_ (H81.Jx _) ?_ ?_) (K81.dx ?_ (H81.HW _) ?_ ?_) (K81.dx ?_ (H81.Ib _) ?_ ?_) (K81.dx ?_ (H81.FA _) ?_ ?_) (K81.dx ?_ (H81.HU _) ?_ ?_) (K81.dx ?_ (H81.HV _) ?_ ?_) (K81.dx ?_ (H81.EA _) ?_ ?_) (K81.dx ?_ (H81.Gv _) ?_ ?_) (K81.dx ?_ (H81.Gr _) ?_ ?_) (K81.dx ?_ (H81.EB _) ?_ ?_) (K81.dx ?_ (H81.HS _) ?_ ?_) (K81.dx ?_ (H81.FB _) ?_ ?_) (K81.dx ?_ (H81.CP _) ?_ ?_) (K81.dx ?_ (H81.Gw _) ?_ ?_) (K81.dx ?_ (H81.HX _) ?_ ?_) (K81.dx ?_ (H81.FC _) ?_ ?_) (K81.dx ?_ (H81.Ia _) ?_ ?_) (K81.dx ?_ (H81.Uc _) ?_ ?_) ?_ ?_ ?_ ?_ ?_ ?_ ?_ ?_ ?_ ?_ ?_ ?_ ?_ ?_ ?k_ii ?k_ib ?k_tt ?k_bb ?k_ss ?_ ?k_ts ?q_nt ?q_ni ?q_nb ?q_ns ?q_it ?q_ii ?q_ib ?q_is ?q_bt ?q_bi ?q_bb ?q_bs ?q_st ?q_si ?q_sb ?q_ss ?q_tt ?q_ti ?q_tb ?q_ts ?q_lt ?q_li ?q_lb ?q_ls ?q_dt ?q_di ?q_db ?q_ds ?k_ns ?k_ls ?k_is ?eC ?vC ?kCC ?d_tabs ?eCC ?tb_star_weight ?tb_star_weigher ?tb_then_weigher ?tb_weigher
   any_goals (show _=_;k_is)
   (case X4 | X5=>exact⟨by kernel_rfl,by kernel_rfl,by kernel_rfl,by kernel_rfl,by kernel_rfl,by kernel_rfl⟩)
   (case k_ii | k_ib | k_tt | k_bb | k_ss | k_ts | q_nt | q_ni | q_nb | q_ns | q_it | q_ii | q_ib | q_is | q_bt | q_bi | q_bb | q_bs | q_st | q_si | q_sb | q_ss | q_tt | q_ti | q_tb | q_ts | q_lt | q_li | q_lb | q_ls | q_dt | q_di | q_db | q_ds | k_ns | k_ls | k_is=>kit_is)
   (case eC | vC | kCC | eCC | tb_star_weight | tb_star_weigher | tb_then_weigher | tb_weigher=>kernel_rfl)
   (case d_tabs=>decide)
  obtain⟨t,T⟩:=T;have hW:K81.WK w (L2.KOf KX) mg 555:=by dsimp only[L2.KOf];exact⟨bV KX G (by k_is),K81.LQ K81.wts Y (K81.lkW _) dK⟩
  have e0:=ko.symm.trans T.k0o.m;cases e0;exact⟨_,K81.ML T,λbase kb nb hT=>K81.Tr T ⟨hT "star_weight" (by simp) _ _ T.tb_star_weight,hT "star_weigher" (by simp) _ _ T.tb_star_weigher,hT "then_weigher" (by simp) _ _ T.tb_then_weigher,hT "weigher" (by simp) _ _ T.tb_weigher⟩ hW⟩
 case S=>exact λK H a ns hl hT hS=>⟨a,ns,Y,hS,hl,hT,λ_=>rfl⟩
 case C=>exact λ_ _ _ _ z=>z
