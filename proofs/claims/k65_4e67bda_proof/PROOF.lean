import PyProof.Rows.All
import Wide.All
import OpenK.AllK
import Wide.FinOn
import Lean
import PyProof.EqAt
import PyProof.EqKinds
import PyProof.TupleCall
import PyProof.ZipIter
import PyProof.Rows.ZipGen
import PyProof.SumWalkG
import PyProof.EnumMake
import PyProof.EnumFor
import PyProof.FactsAll.int_6
import PyProof.AutoIntG2
import PyProof.RulesAs
import PyProof.Rows.TopTwo
import PyProof.ExcArgsOwn
import PyProof.ExcBaseAll.ValueError
import OpenK.KDescr
import KE.RegKIsAll
import PyProof.EqKinds
import KE.KRevIter
import PyProof.ListNew
import KE.KItemsList
import KE.KLam
import KE.KMinKey
import PyProof.MinMaxWalk
import PyProof.NeKinds
import PySem.Challenge.RW_limbtables_k65_papers_of_the_unlike
open PySem.W (Frag)
variable{P:PySem.Program}{w:PySem.World}{K:PySem.W.Frag}{mg:PySem.Str->Option PySem.Value}{base:PySem.Heap}{f:PySem.Addr}{fd:PySem.FuncData}
local macro_rules|`(∅)=>`(by omega)
local macro_rules|`(⋯)=>`(by decide +kernel)
local macro_rules|`(⇑0)=>`(by decide)
local macro_rules|`(⇑1)=>`(by rfl)
set_option compiler.extract_closed false
set_option bootstrap.genMatcherCode false
local macro_rules|`(tactic|exists $x:term,$y:term,$n:num)=>do
 let a:=(List.replicate n.getNat (Lean.mkIdent `_x)).toArray
 let f (s:String):=(s.splitOn " ").toArray.map λx=>Lean.mkIdent x.toName
 let b:=f "vs H Q E h"
 let c:=f "cdv A outer s H vs Q E hr h"
 `(tactic|(have $(Lean.mkIdent `nd):ident:=($x).nd;refine $(Lean.mkIdent `F.ok) $x (λ$b*=>$y $(Lean.mkIdent `h) λ$a* e _=>e▸rfl) (λ$c*=>?_)))
def q0(s:String)(a:Array Lean.Term):Lean.MacroM Lean.Term:=
 let i:=(s.splitOn " ").map λx=>match x.toNat? with|some n=>a[n]!|_=>Lean.mkIdent x.toName
 pure (Lean.Syntax.mkApp i.head! i.tail.toArray)
local macro_rules|`(tactic|show $e)=>`(tactic|refine $e)
local macro_rules|`(tactic|right)=>`(tactic|repeat(first|refine .inl rfl|rfl|assumption|refine .inr ?_))
local macro_rules|`(⇑$x:ident)=>`(some (.int $x))|`(⇑($x,$y))=>q0 "ik K 0 0 1 f fd" #[x,y]|`(⇑($x,$y,$z))=>q0 "Cp P w K mg base 0 1 2" #[x,y,z]|`(⇑[$x,$y,$z])=>q0 "cu P w K mg base gY 0 f fd 1 2" #[x,y,z]|`(⇑())=>q0 "J_ K mg C G S" #[]|`(↥$x)=>`(some (.ref $x))
noncomputable section
abbrev aG:=@List.getElem?_eq_getElem
abbrev aW:=@List.getD_eq_getElem?_getD
abbrev aB:=@List.length_map
abbrev aY:=@List.mem_of_getElem?
abbrev bj:=@List.getElem?_map
abbrev b_:=@List.getElem?_eq_some_iff
abbrev bN:=@List.length_append
abbrev aQ:=@Nat.le_refl
abbrev cj:=@List.mem_append
abbrev cS:=@List.mem_singleton
abbrev cf:=@decide_eq_true
abbrev dH:=@List.getElem?_eq_none
abbrev d5:=@PySem.Heap.get?_push_of_some
abbrev fu:=@List.getElem?_append_right
abbrev bR:=@List.mem_map
abbrev fq:=@List.getElem?_append_left
abbrev bZ:=@PySem.Heap.lt_size
abbrev fH:=@List.mem_or_eq_of_mem_set
abbrev dZ:=@List.mem_iff_getElem
abbrev eM:=@List.length_replicate
abbrev dq:=@List.length_range
abbrev dN:=@Nat.lt_of_lt_of_le
abbrev cX:=@PySem.PassesOwn.never
abbrev dm:=@List.getElem_mem
abbrev bP:=@PySem.wpAny_bind
abbrev dS:=@List.size_toArray
abbrev cD:=@Nat.le_trans
abbrev dC:=@List.length_set
abbrev eU:=@Bool.false_ne_true
abbrev gC:=@PySem.F.plainAttrs_list
abbrev gU:=@PySem.F.slot_list_append
abbrev gT:=@PySem.F.type_list_append
abbrev dW:=@List.map_append
abbrev d6:=@decide_eq_false
abbrev fc:=@of_decide_eq_true
abbrev dU:=@List.mem_range
abbrev gQ:=@List.mem_append_right
abbrev fG:=@Int.toNat_natCast
abbrev gB:=@List.getElem?_range
abbrev fo:=@List.lookup_cons
abbrev jo:=@Classical.byContradiction
abbrev gA:=@Int.emod_lt_of_pos
abbrev ij:=@PySem.Heap.get?_push_size
abbrev iQ:=@List.mem_replicate
abbrev i9:=@Int.toNat_of_nonneg
abbrev gw:=@Option.some.inj
abbrev eS:=@Nat.ne_of_lt
abbrev dG:=@PySem.wpAny_pure
abbrev gg:=@Nat.mul_le_mul
abbrev jn:=@PySem.mem_of_lookup
abbrev gO:=@Int.emod_nonneg
abbrev jm:=@Nat.lt_of_le_of_lt
abbrev gf:=@List.mem_cons
abbrev jl:=@PySem.wpAny_truthy_bool
abbrev i8:=@List.length_take
abbrev iP:=@PyProof.Rows.boot_isinstance
abbrev ig:=@PySem.boot_len
abbrev kO:=@List.mem_cons_of_mem
abbrev jk:=@List.all_eq_true
abbrev jj:=@Int.gcd_dvd_left
abbrev fE:=@Nat.zero_le
abbrev eQ:=@beq_iff_eq
abbrev pe:=@List.mem_of_mem_eraseIdx
abbrev i_:=@List.range_succ
abbrev sI:=@Int.fdiv_eq_ediv_of_nonneg
abbrev ke:=@Int.gcd_dvd_right
abbrev gR:=@Nat.le_of_lt
abbrev iR:=@Nat.lt_irrefl
abbrev n_:=@Int.ediv_mul_cancel
abbrev sG:=@List.getElem?_replicate
abbrev kQ:=@Nat.le_of_succ_le
abbrev kP:=@Int.emod_eq_of_lt
abbrev sj:=@PySem.F.plain_min_loop
abbrev j_:=@PySem.W.kia_one
abbrev kM:=@List.length_cons
abbrev pd:=@List.replicate_succ
abbrev j9:=@Int.natAbs_mul
abbrev o_:=@List.mem_cons_self
abbrev wI:=@PyProof.Rows.callWith_type1
abbrev kL:=@Int.natCast_add
abbrev si:=@List.mem_append_left
abbrev o9:=@Nat.lt_succ_of_lt
abbrev r_:=@List.length_zipWith
abbrev i7:=@Nat.add_mul
abbrev yw:=@List.eraseIdx_eq_take_drop_succ
abbrev nZ:=@Nat.two_pow_pos
abbrev nY:=@Int.natCast_mul
abbrev o8:=@List.length_drop
abbrev o7:=@Bool.and_eq_true
abbrev j8:=@Int.zero_add
abbrev r9:=@List.append_nil
abbrev fm:=@if_true
abbrev jh:=@PySem.wpAny_mono
abbrev wH:=@Nat.pow_le_pow_right
abbrev wG:=@List.mem_of_mem_take
abbrev wD:=@Nat.pow_lt_pow_right
abbrev wC:=@List.length_eraseIdx
abbrev r8:=@PySem.wpAny_passesOwn
abbrev sF:=@Bool.eq_iff_iff
abbrev t9:=@List.flatten_cons
abbrev sE:=@Nat.not_lt_zero
abbrev Ck:=@Int.mul_le_mul_of_nonneg_right
abbrev kN:=@Int.mul_pos
abbrev t7:=@Nat.le_of_not_lt
abbrev tZ:=@Nat.le_add_right
abbrev sv:=@PySem.Heap.size_push
abbrev su:=@Int.mul_nonneg
abbrev sq:=@PySem.wpAny_tryCatch
abbrev f_:=@Ne.symm
abbrev yu:=@PySem.W.cellsFrom_some
abbrev yt:=@List.take_of_length_le
abbrev wx:=@PySem.wpAny_Call_Name_kw
abbrev Cc:=@Int.gcd_pos_of_ne_zero_right
abbrev tY:=@List.mem_filter
abbrev o6:=@Nat.succ_mul
abbrev tX:=@Bool.or_eq_true
abbrev yr:=@List.getElem?_zipWith
abbrev tW:=@List.length_nil
abbrev Cb:=@PySem.F.slot_int_bit_length
abbrev Ca:=@PySem.F.type_int_bit_length
abbrev rW:=@PySem.wpAny_holding
abbrev wu:=@List.append_assoc
abbrev wt:=@List.getElem?_set
abbrev yq:=@List.getElem?_set_ne
abbrev yp:=@Int.natAbs_of_nonneg
abbrev yo:=@PySem.intBits_le_iff
abbrev j7:=@PyProof.Rows.boot_list
abbrev wq:=@Nat.lt_succ_self
abbrev wo:=@Nat.mod_eq_of_lt
abbrev wm:=@List.take_length
abbrev wj:=@decide_eq_decide
abbrev ym:=@beq_eq_false_iff_ne
abbrev o5:=@Nat.one_mul
abbrev B_:=@Option.isSome_iff_exists
abbrev Cj:=@List.getElem?_take_of_lt
abbrev rZ:=@Nat.mul_comm
abbrev rY:=@Int.mul_comm
abbrev rX:=@Nat.sub_self
abbrev jC:=@congrArg
abbrev Ci:=@PySem.wpAny_pyNext_list_item
abbrev Cf:=@PySem.F.entry_min_loop
abbrev Ce:=@Int.fmod_nonneg_of_pos
abbrev Cd:=@PySem.F.plainAttrs_int
abbrev yv:=@PySem.wpAny_pyIter_list
abbrev BY:=@PySem.wpAny_isTrue_Compare1
abbrev tV:=@Nat.ne_of_gt
abbrev BX:=@PySem.wpAny_pyNext_list_end
abbrev BW:=@List.length_singleton
abbrev BV:=@Int.emod_add_mul_ediv
abbrev BU:=@Classical.choose_spec
abbrev BS:=@List.mem_iff_getElem?
abbrev yj:=@List.not_mem_nil
abbrev yi:=@List.mem_flatMap
abbrev BR:=@PySem.Around.under_plainId
abbrev BQ:=@List.mem_of_mem_drop
abbrev we:=@List.all_cons
abbrev wc:=@Bool.true_and
abbrev BP:=@List.filterMap_cons
abbrev yh:=@PySem.wpAny_execs_nil
abbrev BO:=@PySem.W.plainGet_of
abbrev yg:=@List.nodup_cons
abbrev tU:=@Nat.pow_add
abbrev yf:=@Int.ediv_nonneg
abbrev BN:=@PySem.Heap.SameBut.update
abbrev tT:=@Int.le_refl
abbrev BM:=@Nat.add_le_add_left
abbrev BL:=@Int.natCast_nonneg
abbrev BK:=@PySem.W.callWith_K
abbrev BJ:=@PySem.SeqAt.EqAt.of_refs
abbrev v_:=@Int.gcd_comm
abbrev wg:=@Nat.pow_succ
abbrev B9:=@Nat.eq_zero_or_pos
abbrev B8:=@List.getElem?_drop
abbrev B7:=@Int.natAbs_natCast
abbrev B6:=@Int.fmod_lt_of_pos
abbrev yk:=@Bool.false_and
abbrev B5:=@Int.lt_trichotomy
abbrev B3:=@Nat.lt_trichotomy
abbrev B0:=@Int.natAbs_add_le
abbrev BZ:=@List.nodup_append
abbrev BI:=@List.ext_getElem?
abbrev ye:=@PySem.wpAny_standAt
abbrev yd:=@Bool.and_true
abbrev yc:=@PySem.plainId_quiet
abbrev o4:=@PyProof.Rows.boot_abs
abbrev vZ:=@PySem.call_meets
set_option compiler.postponeCompile true
set_option genSizeOf false
set_option Elab.async false
set_option linter.all false
namespace L2
variable {A B C D E F I J K L M N O P Q R S T U W X Y Z:Type}{G:Prop}
theorem bC {p f1 f2:Prop}(h:p/\f1/\f2)(f:p->f1->f2->G):G:= f h.1 h.2.1 h.2.2
theorem cA {p f1 f2 f3:Prop}(h:p/\f1/\f2/\f3)(f:p->f1->f2->f3->G):G:=bC h.2 (f h.1)
theorem dj {p f1 f2 f3 f4:Prop}(h:p/\f1/\f2/\f3/\f4)(f:p->f1->f2->f3->f4->G):G:=cA h.2 (f h.1)
theorem gn {p f1 f2 f3 f4 f5:Prop}(h:p/\f1/\f2/\f3/\f4/\f5)(f:p->f1->f2->f3->f4->f5->G):G:=dj h.2 (f h.1)
theorem uN {p f1 f2 f3 f4 f5 f6:Prop}(h:p/\f1/\f2/\f3/\f4/\f5/\f6)(f:p->f1->f2->f3->f4->f5->f6->G):G:=gn h.2 (f h.1)
theorem jJ {p f1 f2 f3 f4 f5 f6 f7:Prop}(h:p/\f1/\f2/\f3/\f4/\f5/\f6/\f7)(f:p->f1->f2->f3->f4->f5->f6->f7->G):G:=uN h.2 (f h.1)
theorem jI {p f1 f2 f3 f4 f5 f6 f7 f8:Prop}(h:p/\f1/\f2/\f3/\f4/\f5/\f6/\f7/\f8)(f:p->f1->f2->f3->f4->f5->f6->f7->f8->G):G:=jJ h.2 (f h.1)
theorem y8 {p f1 f2 f3 f4 f5 f6 f7 f8 f9:Prop}(h:p/\f1/\f2/\f3/\f4/\f5/\f6/\f7/\f8/\f9)(f:p->f1->f2->f3->f4->f5->f6->f7->f8->f9->G):G:=jI h.2 (f h.1)
theorem pL {p f1 f2 f3 f4 f5 f6 f7 f8 f9 g0 g1:Prop}(h:p/\f1/\f2/\f3/\f4/\f5/\f6/\f7/\f8/\f9/\g0/\g1)(f:p->f1->f2->f3->f4->f5->f6->f7->f8->f9->g0->g1->G):G:= f h.1 h.2.1 h.2.2.1 h.2.2.2.1 h.2.2.2.2.1 h.2.2.2.2.2.1 h.2.2.2.2.2.2.1 h.2.2.2.2.2.2.2.1 h.2.2.2.2.2.2.2.2.1 h.2.2.2.2.2.2.2.2.2.1 h.2.2.2.2.2.2.2.2.2.2.1 h.2.2.2.2.2.2.2.2.2.2.2
theorem ao {p f1:A->Prop}(h:∃ a,p a/\f1 a)(f:∀ a,p a->f1 a->G):G:=h.elim λa h=>f a h.1 h.2
theorem bh {p f1 f2:A->Prop}(h:∃ a,p a/\f1 a/\f2 a)(f:∀ a,p a->f1 a->f2 a->G):G:=h.elim λa h=>bC h (f a)
theorem uO {p f1 f2 f3:A->Prop}(h:∃ a,p a/\f1 a/\f2 a/\f3 a)(f:∀ a,p a->f1 a->f2 a->f3 a->G):G:=h.elim λa h=>cA h (f a)
theorem sS {p f1 f2 f3 f4:A->Prop}(h:∃ a,p a/\f1 a/\f2 a/\f3 a/\f4 a)(f:∀ a,p a->f1 a->f2 a->f3 a->f4 a->G):G:=h.elim λa h=>dj h (f a)
theorem uP {p f1 f2 f3 f4 f5:A->Prop}(h:∃ a,p a/\f1 a/\f2 a/\f3 a/\f4 a/\f5 a)(f:∀ a,p a->f1 a->f2 a->f3 a->f4 a->f5 a->G):G:=h.elim λa h=>gn h (f a)
theorem eV {p:A->B->Prop}(h:∃ a b,p a b)(f:∀ a b,p a b->G):G:=h.elim λa h=>h.elim λb h=>f a b h
theorem cE {p f1:A->B->Prop}(h:∃ a b,p a b/\f1 a b)(f:∀ a b,p a b->f1 a b->G):G:=h.elim λa h=>ao h (f a)
theorem cF {p f1 f2:A->B->Prop}(h:∃ a b,p a b/\f1 a b/\f2 a b)(f:∀ a b,p a b->f1 a b->f2 a b->G):G:=h.elim λa h=>bh h (f a)
theorem eW {p f1 f2 f3:A->B->Prop}(h:∃ a b,p a b/\f1 a b/\f2 a b/\f3 a b)(f:∀ a b,p a b->f1 a b->f2 a b->f3 a b->G):G:=h.elim λa h=>uO h (f a)
theorem kA {p f1 f2 f3 f4:A->B->Prop}(h:∃ a b,p a b/\f1 a b/\f2 a b/\f3 a b/\f4 a b)(f:∀ a b,p a b->f1 a b->f2 a b->f3 a b->f4 a b->G):G:=h.elim λa h=>sS h (f a)
theorem gE {p f1 f2 f3 f4 f5:A->B->Prop}(h:∃ a b,p a b/\f1 a b/\f2 a b/\f3 a b/\f4 a b/\f5 a b)(f:∀ a b,p a b->f1 a b->f2 a b->f3 a b->f4 a b->f5 a b->G):G:=h.elim λa h=>uP h (f a)
theorem jH {p:A->B->C->Prop}(h:∃ a b c,p a b c)(f:∀ a b c,p a b c->G):G:=h.elim λa h=>eV h (f a)
theorem fU {p f1:A->B->C->Prop}(h:∃ a b c,p a b c/\f1 a b c)(f:∀ a b c,p a b c->f1 a b c->G):G:=h.elim λa h=>cE h (f a)
theorem iD {p f1 f2:A->B->C->Prop}(h:∃ a b c,p a b c/\f1 a b c/\f2 a b c)(f:∀ a b c,p a b c->f1 a b c->f2 a b c->G):G:=h.elim λa h=>cF h (f a)
theorem cK {p f1 f2 f3:A->B->C->Prop}(h:∃ a b c,p a b c/\f1 a b c/\f2 a b c/\f3 a b c)(f:∀ a b c,p a b c->f1 a b c->f2 a b c->f3 a b c->G):G:=h.elim λa h=>eW h (f a)
theorem nI {p f1:A->B->C->D->Prop}(h:∃ a b c d,p a b c d/\f1 a b c d)(f:∀ a b c d,p a b c d->f1 a b c d->G):G:=h.elim λa h=>fU h (f a)
theorem jR {p f1 f2:A->B->C->D->Prop}(h:∃ a b c d,p a b c d/\f1 a b c d/\f2 a b c d)(f:∀ a b c d,p a b c d->f1 a b c d->f2 a b c d->G):G:=h.elim λa h=>iD h (f a)
theorem cZ {p f1 f2 f3:A->B->C->D->Prop}(h:∃ a b c d,p a b c d/\f1 a b c d/\f2 a b c d/\f3 a b c d)(f:∀ a b c d,p a b c d->f1 a b c d->f2 a b c d->f3 a b c d->G):G:=h.elim λa h=>cK h (f a)
theorem uQ {p f1:A->B->C->D->E->Prop}(h:∃ a b c d e,p a b c d e/\f1 a b c d e)(f:∀ a b c d e,p a b c d e->f1 a b c d e->G):G:=h.elim λa h=>nI h (f a)
theorem iE {p f1 f2 f3:A->B->C->D->E->Prop}(h:∃ a b c d e,p a b c d e/\f1 a b c d e/\f2 a b c d e/\f3 a b c d e)(f:∀ a b c d e,p a b c d e->f1 a b c d e->f2 a b c d e->f3 a b c d e->G):G:=h.elim λa h=>cZ h (f a)
theorem uR {p f1:A->B->C->D->E->F->Prop}(h:∃ a b c d e i,p a b c d e i/\f1 a b c d e i)(f:∀ a b c d e i,p a b c d e i->f1 a b c d e i->G):G:=h.elim λa h=>uQ h (f a)
theorem uS {p f1 f2:A->B->C->D->E->F->Prop}(h:∃ a b c d e i,p a b c d e i/\f1 a b c d e i/\f2 a b c d e i)(f:∀ a b c d e i,p a b c d e i->f1 a b c d e i->f2 a b c d e i->G):G:=h.elim λa h=>h.elim λb h=>jR h (f a b)
theorem nJ {p f1 f2 f3:A->B->C->D->E->F->Prop}(h:∃ a b c d e i,p a b c d e i/\f1 a b c d e i/\f2 a b c d e i/\f3 a b c d e i)(f:∀ a b c d e i,p a b c d e i->f1 a b c d e i->f2 a b c d e i->f3 a b c d e i->G):G:=h.elim λa h=>iE h (f a)
theorem oG {p:A->B->C->D->E->F->I->Prop}(h:∃ a b c d e i j,p a b c d e i j)(f:∀ a b c d e i j,p a b c d e i j->G):G:=h.elim λa h=>h.elim λb h=>h.elim λc h=>h.elim λd h=>jH h (f a b c d)
theorem uT {p f1:A->B->C->D->E->F->I->Prop}(h:∃ a b c d e i j,p a b c d e i j/\f1 a b c d e i j)(f:∀ a b c d e i j,p a b c d e i j->f1 a b c d e i j->G):G:=h.elim λa h=>uR h (f a)
theorem sT {p f1 f2 f3:A->B->C->D->E->F->I->Prop}(h:∃ a b c d e i j,p a b c d e i j/\f1 a b c d e i j/\f2 a b c d e i j/\f3 a b c d e i j)(f:∀ a b c d e i j,p a b c d e i j->f1 a b c d e i j->f2 a b c d e i j->f3 a b c d e i j->G):G:=h.elim λa h=>nJ h (f a)
theorem jG {p f1:A->B->C->D->E->F->I->J->Prop}(h:∃ a b c d e i j k,p a b c d e i j k/\f1 a b c d e i j k)(f:∀ a b c d e i j k,p a b c d e i j k->f1 a b c d e i j k->G):G:=h.elim λa h=>uT h (f a)
theorem jF {p f1 f2:A->B->C->D->E->F->I->J->Prop}(h:∃ a b c d e i j k,p a b c d e i j k/\f1 a b c d e i j k/\f2 a b c d e i j k)(f:∀ a b c d e i j k,p a b c d e i j k->f1 a b c d e i j k->f2 a b c d e i j k->G):G:=h.elim λa h=>h.elim λb h=>uS h (f a b)
theorem uU {p f1 f2 f3:A->B->C->D->E->F->I->J->Prop}(h:∃ a b c d e i j k,p a b c d e i j k/\f1 a b c d e i j k/\f2 a b c d e i j k/\f3 a b c d e i j k)(f:∀ a b c d e i j k,p a b c d e i j k->f1 a b c d e i j k->f2 a b c d e i j k->f3 a b c d e i j k->G):G:=h.elim λa h=>sT h (f a)
theorem sU {p f1:A->B->C->D->E->F->I->J->K->Prop}(h:∃ a b c d e i j k l,p a b c d e i j k l/\f1 a b c d e i j k l)(f:∀ a b c d e i j k l,p a b c d e i j k l->f1 a b c d e i j k l->G):G:=h.elim λa h=>jG h (f a)
theorem uV {p f1 f2:A->B->C->D->E->F->I->J->K->Prop}(h:∃ a b c d e i j k l,p a b c d e i j k l/\f1 a b c d e i j k l/\f2 a b c d e i j k l)(f:∀ a b c d e i j k l,p a b c d e i j k l->f1 a b c d e i j k l->f2 a b c d e i j k l->G):G:=h.elim λa h=>jF h (f a)
theorem uW {p f1 f2 f3:A->B->C->D->E->F->I->J->K->Prop}(h:∃ a b c d e i j k l,p a b c d e i j k l/\f1 a b c d e i j k l/\f2 a b c d e i j k l/\f3 a b c d e i j k l)(f:∀ a b c d e i j k l,p a b c d e i j k l->f1 a b c d e i j k l->f2 a b c d e i j k l->f3 a b c d e i j k l->G):G:=h.elim λa h=>uU h (f a)
theorem Di {p f1:A->B->C->D->E->F->I->J->K->L->M->Prop}(h:∃ a b c d e i j k l m n,p a b c d e i j k l m n/\f1 a b c d e i j k l m n)(f:∀ a b c d e i j k l m n,p a b c d e i j k l m n->f1 a b c d e i j k l m n->G):G:=h.elim λa h=>h.elim λb h=>sU h (f a b)
theorem Dj {p f1 f2 f3:A->B->C->D->E->F->I->J->K->L->M->Prop}(h:∃ a b c d e i j k l m n,p a b c d e i j k l m n/\f1 a b c d e i j k l m n/\f2 a b c d e i j k l m n/\f3 a b c d e i j k l m n)(f:∀ a b c d e i j k l m n,p a b c d e i j k l m n->f1 a b c d e i j k l m n->f2 a b c d e i j k l m n->f3 a b c d e i j k l m n->G):G:=h.elim λa h=>h.elim λb h=>uW h (f a b)
theorem CT {p f1:A->B->C->D->E->F->I->J->K->L->M->N->Prop}(h:∃ a b c d e i j k l m n o,p a b c d e i j k l m n o/\f1 a b c d e i j k l m n o)(f:∀ a b c d e i j k l m n o,p a b c d e i j k l m n o->f1 a b c d e i j k l m n o->G):G:=h.elim λa h=>Di h (f a)
theorem CU {p f1 f2 f3:A->B->C->D->E->F->I->J->K->L->M->N->Prop}(h:∃ a b c d e i j k l m n o,p a b c d e i j k l m n o/\f1 a b c d e i j k l m n o/\f2 a b c d e i j k l m n o/\f3 a b c d e i j k l m n o)(f:∀ a b c d e i j k l m n o,p a b c d e i j k l m n o->f1 a b c d e i j k l m n o->f2 a b c d e i j k l m n o->f3 a b c d e i j k l m n o->G):G:=h.elim λa h=>Dj h (f a)
theorem y9 {p f1:A->B->C->D->E->F->I->J->K->L->M->N->O->Prop}(h:∃ a b c d e i j k l m n o q,p a b c d e i j k l m n o q/\f1 a b c d e i j k l m n o q)(f:∀ a b c d e i j k l m n o q,p a b c d e i j k l m n o q->f1 a b c d e i j k l m n o q->G):G:=h.elim λa h=>CT h (f a)
theorem y_ {p f1 f2 f3:A->B->C->D->E->F->I->J->K->L->M->N->O->Prop}(h:∃ a b c d e i j k l m n o q,p a b c d e i j k l m n o q/\f1 a b c d e i j k l m n o q/\f2 a b c d e i j k l m n o q/\f3 a b c d e i j k l m n o q)(f:∀ a b c d e i j k l m n o q,p a b c d e i j k l m n o q->f1 a b c d e i j k l m n o q->f2 a b c d e i j k l m n o q->f3 a b c d e i j k l m n o q->G):G:=h.elim λa h=>CU h (f a)
theorem xk {p f1:A->B->C->D->E->F->I->J->K->L->M->N->O->P->Prop}(h:∃ a b c d e i j k l m n o q r,p a b c d e i j k l m n o q r/\f1 a b c d e i j k l m n o q r)(f:∀ a b c d e i j k l m n o q r,p a b c d e i j k l m n o q r->f1 a b c d e i j k l m n o q r->G):G:=h.elim λa h=>y9 h (f a)
theorem xi {p f1 f2 f3:A->B->C->D->E->F->I->J->K->L->M->N->O->P->Prop}(h:∃ a b c d e i j k l m n o q r,p a b c d e i j k l m n o q r/\f1 a b c d e i j k l m n o q r/\f2 a b c d e i j k l m n o q r/\f3 a b c d e i j k l m n o q r)(f:∀ a b c d e i j k l m n o q r,p a b c d e i j k l m n o q r->f1 a b c d e i j k l m n o q r->f2 a b c d e i j k l m n o q r->f3 a b c d e i j k l m n o q r->G):G:=h.elim λa h=>y_ h (f a)
theorem CV {p f1:A->B->C->D->E->F->I->J->K->L->M->N->O->P->Q->Prop}(h:∃ a b c d e i j k l m n o q r s,p a b c d e i j k l m n o q r s/\f1 a b c d e i j k l m n o q r s)(f:∀ a b c d e i j k l m n o q r s,p a b c d e i j k l m n o q r s->f1 a b c d e i j k l m n o q r s->G):G:=h.elim λa h=>xk h (f a)
theorem CW {p f1 f2 f3:A->B->C->D->E->F->I->J->K->L->M->N->O->P->Q->Prop}(h:∃ a b c d e i j k l m n o q r s,p a b c d e i j k l m n o q r s/\f1 a b c d e i j k l m n o q r s/\f2 a b c d e i j k l m n o q r s/\f3 a b c d e i j k l m n o q r s)(f:∀ a b c d e i j k l m n o q r s,p a b c d e i j k l m n o q r s->f1 a b c d e i j k l m n o q r s->f2 a b c d e i j k l m n o q r s->f3 a b c d e i j k l m n o q r s->G):G:=h.elim λa h=>xi h (f a)
theorem za {p f1:A->B->C->D->E->F->I->J->K->L->M->N->O->P->Q->R->Prop}(h:∃ a b c d e i j k l m n o q r s t,p a b c d e i j k l m n o q r s t/\f1 a b c d e i j k l m n o q r s t)(f:∀ a b c d e i j k l m n o q r s t,p a b c d e i j k l m n o q r s t->f1 a b c d e i j k l m n o q r s t->G):G:=h.elim λa h=>CV h (f a)
theorem pK {p f1 f2 f3:A->B->C->D->E->F->I->J->K->L->M->N->O->P->Q->R->S->Prop}(h:∃ a b c d e i j k l m n o q r s t u,p a b c d e i j k l m n o q r s t u/\f1 a b c d e i j k l m n o q r s t u/\f2 a b c d e i j k l m n o q r s t u/\f3 a b c d e i j k l m n o q r s t u)(f:∀ a b c d e i j k l m n o q r s t u,p a b c d e i j k l m n o q r s t u->f1 a b c d e i j k l m n o q r s t u->f2 a b c d e i j k l m n o q r s t u->f3 a b c d e i j k l m n o q r s t u->G):G:=h.elim λa h=>h.elim λb h=>CW h (f a b)
theorem CY {p f1:A->B->C->D->E->F->I->J->K->L->M->N->O->P->Q->R->S->T->Prop}(h:∃ a b c d e i j k l m n o q r s t u v,p a b c d e i j k l m n o q r s t u v/\f1 a b c d e i j k l m n o q r s t u v)(f:∀ a b c d e i j k l m n o q r s t u v,p a b c d e i j k l m n o q r s t u v->f1 a b c d e i j k l m n o q r s t u v->G):G:=h.elim λa h=>h.elim λb h=>za h (f a b)
theorem CZ {p f1 f2 f3:A->B->C->D->E->F->I->J->K->L->M->N->O->P->Q->R->S->T->Prop}(h:∃ a b c d e i j k l m n o q r s t u v,p a b c d e i j k l m n o q r s t u v/\f1 a b c d e i j k l m n o q r s t u v/\f2 a b c d e i j k l m n o q r s t u v/\f3 a b c d e i j k l m n o q r s t u v)(f:∀ a b c d e i j k l m n o q r s t u v,p a b c d e i j k l m n o q r s t u v->f1 a b c d e i j k l m n o q r s t u v->f2 a b c d e i j k l m n o q r s t u v->f3 a b c d e i j k l m n o q r s t u v->G):G:=h.elim λa h=>pK h (f a)
theorem pJ {p f1:A->B->C->D->E->F->I->J->K->L->M->N->O->P->Q->R->S->T->U->Prop}(h:∃ a b c d e i j k l m n o q r s t u v w,p a b c d e i j k l m n o q r s t u v w/\f1 a b c d e i j k l m n o q r s t u v w)(f:∀ a b c d e i j k l m n o q r s t u v w,p a b c d e i j k l m n o q r s t u v w->f1 a b c d e i j k l m n o q r s t u v w->G):G:=h.elim λa h=>CY h (f a)
theorem pH {p f1 f2 f3:A->B->C->D->E->F->I->J->K->L->M->N->O->P->Q->R->S->T->U->Prop}(h:∃ a b c d e i j k l m n o q r s t u v w,p a b c d e i j k l m n o q r s t u v w/\f1 a b c d e i j k l m n o q r s t u v w/\f2 a b c d e i j k l m n o q r s t u v w/\f3 a b c d e i j k l m n o q r s t u v w)(f:∀ a b c d e i j k l m n o q r s t u v w,p a b c d e i j k l m n o q r s t u v w->f1 a b c d e i j k l m n o q r s t u v w->f2 a b c d e i j k l m n o q r s t u v w->f3 a b c d e i j k l m n o q r s t u v w->G):G:=h.elim λa h=>CZ h (f a)
theorem aM {p:A->B->Prop}:∀ a b,p a b->∃ a b,p a b:=λa b h0=>⟨a,b,h0⟩
theorem dc {p:A->B->C->Prop}:∀ a b c,p a b c->∃ a b c,p a b c:=λa b c h0=>⟨a,b,c,h0⟩
theorem jc {p:A->B->C->D->Prop}:∀ a b c d,p a b c d->∃ a b c d,p a b c d:=λa b c d h0=>⟨a,b,c,d,h0⟩
theorem kB {p:A->B->C->D->E->Prop}:∀ a b c d e,p a b c d e->∃ a b c d e,p a b c d e:=λa b c d e h0=>⟨a,b,c,d,e,h0⟩
theorem oH {p:A->B->C->D->E->F->Prop}:∀ a b c d e i,p a b c d e i->∃ a b c d e i,p a b c d e i:=λa b c d e i h0=>⟨a,b,c,d,e,i,h0⟩
theorem wX {p:A->B->C->D->E->F->I->Prop}:∀ a b c d e i j,p a b c d e i j->∃ a b c d e i j,p a b c d e i j:=λa b c d e i j h0=>⟨a,b,c,d,e,i,j,h0⟩
theorem jE {p:A->B->C->D->E->F->I->J->Prop}:∀ a b c d e i j k,p a b c d e i j k->∃ a b c d e i j k,p a b c d e i j k:=λa b c d e i j k h0=>⟨a,b,c,d,e,i,j,k,h0⟩
theorem uX {p:A->B->C->D->E->F->I->J->K->Prop}:∀ a b c d e i j k l,p a b c d e i j k l->∃ a b c d e i j k l,p a b c d e i j k l:=λa b c d e i j k l h0=>⟨a,b,c,d,e,i,j,k,l,h0⟩
theorem pG {p:A->B->C->D->E->F->I->J->K->L->M->Prop}:∀ a b c d e i j k l m n,p a b c d e i j k l m n->∃ a b c d e i j k l m n,p a b c d e i j k l m n:=λa b c d e i j k l m n h0=>⟨a,b,c,d,e,i,j,k,l,m,n,h0⟩
theorem pF {p:A->B->C->D->E->F->I->J->K->L->M->N->O->Prop}:∀ a b c d e i j k l m n o q,p a b c d e i j k l m n o q->∃ a b c d e i j k l m n o q,p a b c d e i j k l m n o q:=λa b c d e i j k l m n o q h0=>⟨a,b,c,d,e,i,j,k,l,m,n,o,q,h0⟩
theorem xj {p:A->B->C->D->E->F->I->J->K->L->M->N->O->P->Prop}:∀ a b c d e i j k l m n o q r,p a b c d e i j k l m n o q r->∃ a b c d e i j k l m n o q r,p a b c d e i j k l m n o q r:=λa b c d e i j k l m n o q r h0=>⟨a,b,c,d,e,i,j,k,l,m,n,o,q,r,h0⟩
theorem pE {p:A->B->C->D->E->F->I->J->K->L->M->N->O->P->Q->Prop}:∀ a b c d e i j k l m n o q r s,p a b c d e i j k l m n o q r s->∃ a b c d e i j k l m n o q r s,p a b c d e i j k l m n o q r s:=λa b c d e i j k l m n o q r s h0=>⟨a,b,c,d,e,i,j,k,l,m,n,o,q,r,s,h0⟩
theorem pw {p:A->B->C->D->E->F->I->J->K->L->M->N->O->P->Q->R->Prop}:∀ a b c d e i j k l m n o q r s t,p a b c d e i j k l m n o q r s t->∃ a b c d e i j k l m n o q r s t,p a b c d e i j k l m n o q r s t:=λa b c d e i j k l m n o q r s t h0=>⟨a,b,c,d,e,i,j,k,l,m,n,o,q,r,s,t,h0⟩
theorem pk {p:A->B->C->D->E->F->I->J->K->L->M->N->O->P->Q->R->S->T->U->Prop}:∀ a b c d e i j k l m n o q r s t u v w,p a b c d e i j k l m n o q r s t u v w->∃ a b c d e i j k l m n o q r s t u v w,p a b c d e i j k l m n o q r s t u v w:=λa b c d e i j k l m n o q r s t u v w h0=>⟨a,b,c,d,e,i,j,k,l,m,n,o,q,r,s,t,u,v,w,h0⟩
end L2
theorem oz1 {z y:Int}(h0:(0:Int)<=z)(h1:z<y):z.natAbs<=y.natAbs:=∅
theorem oz2 {a b c:Nat}(h0:a=b)(h1:¬c<a)(h2:c-a=0):c=b:=∅
theorem oz3 {a b:Nat}(h0:a<b+b):a-b<b:=∅
theorem oz4 {z y:Int}(h0:(0:Int)<=z)(h1:(0:Int)<=y):(z+y).toNat=z.toNat+y.toNat:=∅
theorem oz5 {a b:Nat}{z:Int}(h0:a=z.toNat)(h1:b<z.toNat):b<a:=∅
theorem oz6 {a b:Nat}{z y:Int}(h0:z.toNat<y.toNat)(h1:a=b)(h2:b=y.toNat):z.toNat<a:=∅
theorem oz7 {a b:Nat}(h0:¬a-b=0):1<=a-b:=∅
theorem oz8 {a b c:Nat}(h0:a=b)(h1:c<b):c<a:=∅
theorem oz9 {a b:Nat}(h0:a<b):b+a<b+b:=∅
theorem bM {a b c:Nat}(h0:a=b)(h1:c<a):c<b:=∅
theorem oz11 {z y x Z Y X:Int}(h0:(0:Int)<=z)(h1:(0:Int)<=y)(h2:(x*y+Z*z).natAbs+(Y*y+X*z).natAbs<(y+z).natAbs):(↑(x*y+Z*z).natAbs:Int)+(↑(Y*y+X*z).natAbs:Int)<y+z:=∅
theorem dD {a b c:Nat}(h0:a<b)(h1:c=b):a<c:=∅
theorem oz13 {z y x Z:Int}:(0:Int)<=(↑(z*y+x*Z).natAbs:Int):=∅
theorem oz14 {a b:Nat}(h0:a<b+1)(h1:¬a<b):a=b:=∅
theorem oz15 {a:Nat}{z y:Int}(h0:(0:Int)<=z)(h1:z<y)(h2:(↑a:Int)=y):z.toNat<a:=∅
theorem oz16 {z y x:Int}(h0:z<=(97:Int))(h1:y<=z)(h2:(0:Int)<=y / x)(h3:y / x<=y):(y / x).natAbs<=97:=∅
theorem oz17 {a b c:Nat}(h0:a=b)(h1:c=a):c=b:=∅
theorem oz18 {a b:Nat}{z:Int}(h0:(↑a:Int)=z)(h1:b=a):(↑b:Int)=z:=∅
theorem oz19 {a:Nat}{z:Int}(h0:z<=(↑a:Int)):min z.toNat a=z.toNat:=∅
theorem oA {a b:Nat}(h0:a<b+1)(h1:¬a=b):a<b:=∅
theorem oz21 {a b c d:Nat}(h0:a=b)(h1:c=a)(h2:d<b):d<c:=∅
theorem oz22 {a b:Nat}{z:Int}(h0:(↑a:Int)=z)(h1:(↑b:Int)=z):b=a:=∅
theorem oz23 {a b c d:Nat}(h0:a=b)(h1:c=b)(h2:d<a):d<c:=∅
theorem d8 {a b:Nat}(h0:¬a<b):b<=a:=∅
theorem oz25 {a b:Nat}(h0:a=b):a<=b:=∅
theorem oz26 {z y:Int}(h0:(0:Int)<=z)(h1:(0:Int)<=y)(h2:y≠z):z.toNat≠y.toNat:=∅
theorem oz27 {a b c:Nat}(h0:a<b)(h1:c<a):c<b:=∅
theorem oz29 {z y x:Int}(h0:z<y)(h1:y<=x):z<=x:=∅
theorem oz30 {a b c:Nat}(h0:a=b)(h1:¬c<a)(h2:c<a+1):c=b:=∅
theorem oz31 {a b:Nat}(h0:¬a<b)(h1:a<b+1):a=b:=∅
theorem oz32 {a:Nat}:((↑a:Int)-(126:Int)).toNat=a-126:=∅
theorem oz33 {z y x:Int}(h0:z<y)(h1:x.toNat<y.toNat):z.toNat<y.toNat:=∅
theorem oz34 {a b c:Nat}(h0:a<=b)(h1:b<c):b-a<c-a:=∅
theorem nF {a:Nat}(h0:a<=2):a<=200:=∅
theorem oz36 {a b c:Nat}(h0:a<=8)(h1:b<a):min b c<=1000:=∅
theorem oz37 {a b:Nat}(h0:¬a<b+b):b<=a-b:=∅
theorem oz38 {a b c:Nat}:min (a-b) (c-b)<=c:=∅
theorem oz39 {a b c:Nat}(h0:a=b)(h1:c=b):a=c:=∅
theorem oz40 {a b c d:Nat}(h0:a=b)(h1:c=b)(h2:d<c):d<a:=∅
theorem oz41 {a b c d e f:Nat}(h0:a<b)(h1:c<=36*a)(h2:d+e<=36)(h3:f<e)(h4:b<=9):c+d+f<=900:=∅
theorem oz42 {z:Int}:(0:Int)<=(↑z.natAbs:Int):=∅
theorem oz43 {a:Nat}(h0:126<=a):64+(a-126)=a-62:=∅
theorem oz44 {z y x:Int}(h0:z<=(97:Int))(h1:y<x)(h2:x<=z)(h3:(1:Int)<y):y.natAbs<=97:=∅
theorem oz45 {a:Nat}{z:Int}(h0:(0:Int)<=z)(h1:a=z.toNat):(↑a:Int)=z:=∅
theorem oz46 {a b:Nat}(h0:a<=6)(h1:b<a):(↑b:Int)<(2:Int) ^ 64:=∅
theorem oz47 {a b:Nat}(h0:a=b):b=a:=∅
theorem oz48 {a:Nat}{z:Int}(h0:z.toNat<a):z.toNat<a+1:=∅
theorem oz49 {a b c d:Nat}(h0:a<=9)(h1:b=a)(h2:c<b)(h3:d=c):d<=1000:=∅
theorem oz50 {a b:Nat}{z:Int}(h0:z<=(24:Int))(h1:a<z.toNat)(h2:b=a):b<=1000:=∅
theorem oz51 {a b c d:Nat}(h0:a=b)(h1:c=b)(h2:d-a=0):d-c=0:=∅
theorem oz52 {a b:Nat}{z y x:Int}(h0:(0:Int)<z)(h1:z<=y*x)(h2:(y*x).natAbs<=a*b):z.natAbs<=a*b:=∅
theorem oz53 {a b:Nat}(h0:a<=b):a+(b-a)=b:=∅
theorem oz54 {a b c:Nat}(h0:a<b-c):c+a<b:=∅
theorem oz55 {a b:Nat}{z:Int}(h0:(0:Int)<z)(h1:a=b)(h2:b=z.toNat):0<a:=∅
theorem oz56 {z y x:Int}(h0:z<=(97:Int))(h1:y<x)(h2:x<=z):y<(1073741824:Int):=∅
theorem oz57 {a b c:Nat}(h0:a<=9)(h1:b=c)(h2:c<a):b<=1000:=∅
theorem oz58 {a:Nat}{z:Int}(h0:z<=(24:Int))(h1:(↑a:Int)=z):a<=1000:=∅
theorem oz59 {a b:Nat}:((↑a:Int)-(↑b:Int)).toNat=a-b:=∅
theorem oz60 {a:Nat}:((-1:Int)+(↑a:Int)).toNat=a-1:=∅
theorem oz61 {a b c:Nat}{z:Int}(h0:a<b)(h1:c=b)(h2:z<(↑b:Int)):z.toNat<c:=∅
theorem oz62 {a:Nat}{z y:Int}(h0:a=z.toNat)(h1:y<z):y<(↑a:Int):=∅
theorem oz63 {a b c:Nat}(h0:a=b)(h1:c=a):min a b=c:=∅
theorem oz64 {a b:Nat}(h0:a<=b+1)(h1:¬a=b+1):a<=b:=∅
theorem oz65 {a b:Nat}:((↑a:Int)+(↑b:Int)).toNat=a+b:=∅
theorem iC {z:Int}(h0:(1:Int)<z):(0:Int)<z:=∅
set_option maxRecDepth 100000
namespace L2
open PySem PySem.Spec PyProof.Rows
abbrev gv:=Sum Int Str
noncomputable def keyIs:gv->Value->Bool
 | .inl k,v=>Value.isInt k v
 | .inr x,v=>Value.isStrOf x v
noncomputable def keyH (w:World):gv->Int
 | .inl k=>hashInt k
 | .inr x=>hashStr w x
theorem nQ:∀ {k:gv} {v:Value},keyIs k v=true->(∃ i t,k=Sum.inl i/\v=Value.int i t)\/(∃ x t,k=Sum.inr x/\v=Value.str x t)
 | .inl i,v,h=>by
  obtain⟨t,e⟩:=Value.isInt_shape (k:=i) (v:=v) h;show .inl ⟨i,t,rfl,e⟩
 | .inr x,v,h=>by
  obtain⟨t,e⟩:=Value.isStrOf_shape (x:=x) (v:=v) h;show .inr ⟨x,t,rfl,e⟩
theorem qR (a b:Int):decide ((Sum.inl a:gv)=Sum.inl b)=(a == b):=by
 by_cases e:a=b
 .subst e;simp
 .have h:¬ (Sum.inl a:gv)=Sum.inl b:=λq=>e (Sum.inl.inj q);rw[d6 h];show (ym.mpr e).symm
theorem qO (a b:Str):decide ((Sum.inr a:gv)=Sum.inr b)=decide (a=b):=by
 by_cases e:a=b
 .subst e;simp
 .have h:¬ (Sum.inr a:gv)=Sum.inr b:=λq=>e (Sum.inr.inj q);rw[d6 h,d6 e]
theorem qQ (a:Int)(b:Str):decide ((Sum.inl a:gv)=Sum.inr b)=false:=d6 (λq=>nomatch q)
theorem qP (a:Str)(b:Int):decide ((Sum.inr a:gv)=Sum.inl b)=false:=d6 (λq=>nomatch q)
def zu (prog:Program)(w:World):PySem.KeyKind prog w gv where
 is:=keyIs
 hash:=keyH w
 inj:=λv a b ha hb=>by
  rcases nQ ha with ⟨i,t,rfl,rfl⟩|⟨x,t,rfl,rfl⟩
  .rcases nQ hb with ⟨j,u,rfl,e⟩|⟨y,u,rfl,e⟩
   .injection e with e1 _;rw[e1]
   .exact nomatch e
  .rcases nQ hb with ⟨j,u,rfl,e⟩|⟨y,u,rfl,e⟩
   .exact nomatch e
   .injection e with e1 _;rw[e1]
 byValue:=λk v h=>by
  rcases nQ h with ⟨i,t,rfl,rfl⟩|⟨x,t,rfl,rfl⟩ <;> rfl
 pyHash:=λhv h=>by
  rcases nQ hv with ⟨i,t,rfl,rfl⟩|⟨x,t,rfl,rfl⟩
  .exact wpAny_pyHash_int h
  .exact wpAny_pyHash_str h
 eqBool:=λhu hv h=>by
  rcases nQ hu with ⟨i,t,rfl,rfl⟩|⟨x,t,rfl,rfl⟩
  .rcases nQ hv with ⟨j,u,rfl,rfl⟩|⟨y,u,rfl,rfl⟩
   .rw [qR] at h;show wpAny_eqBool_int h
   .rw [qQ] at h;show SeqAt.EqAt.int_str i t y u _ _ _ _ h
  .rcases nQ hv with ⟨j,u,rfl,rfl⟩|⟨y,u,rfl,rfl⟩
   .rw [qP] at h;show SeqAt.EqAt.str_int x t j u _ _ _ _ h
   .rw [qO] at h;show wpAny_eqBool_str h
 «strs»:=λk x t v h=>by
  rcases nQ h with ⟨i,u,rfl,e⟩|⟨y,u,rfl,e⟩
  .exact nomatch e
  .injection e with e1 _
   subst e1;cases v <;> rfl
inductive V where
 | non|bl (b:Bool)|int (i:Int)|str (x:Str)|byt (b:Array UInt8)|flt (b:UInt64)|ref (a:Addr)|ty (n:String)
 deriving DecidableEq
def aI:V->Value->Prop
 | .non,u=>u=Value.none
 | .bl b,u=>u=Value.bool b
 | .int i,u=>∃ t,u=Value.int i t
 | .str x,u=>∃ t,u=Value.str x t
 | .byt b,u=>∃ t,u=Value.bytes b t
 | .flt b,u=>∃ t,u=Value.float b t
 | .ref a,u=>u=Value.ref a
 | .ty n,u=>u=Value.type n
abbrev au:List V->List Value->Prop:=Paired aI
theorem au.length {xs:List V}{us:List Value}(r:au xs us):xs.length=us.length:=Paired.length r
theorem au.get:∀ {xs:List V} {us:List Value} {i:Nat} {x:V},au xs us->xs[i]?=some x->∃ u,us[i]?=some u/\aI x u
 | _,_,_,_,.nil,e=>by simp at e
 | _,_,0,_,.cons r _,e=>by simp at e;subst e;show⟨_,rfl,r⟩
 | _,_,i+1,x,.cons _ t,e=>by
  show ao (au.get (i:=i) (x:=x) t (by simpa using e)) λu h1 h2=>?_;show⟨u,by simpa using h1,h2⟩
theorem au.set {x:V}{u:Value}(r:aI x u):∀ {xs:List V} {us:List Value} (i:Nat),au xs us->au (xs.set i x) (us.set i u)
 | _,_,_,.nil=>.nil
 | _,_,0,.cons _ t=>.cons r t
 | _,_,i+1,.cons q t=>.cons q (au.set r i t)
theorem au.append:∀ {xs ys:List V} {us ws:List Value},au xs us->au ys ws->au (xs++ys) (us++ws)
 | _,_,_,_,.nil,s=>s
 | _,_,_,_,.cons r t,s=>.cons r (au.append t s)
theorem au.take:∀ {xs:List V} {us:List Value} (n:Nat),au xs us->au (xs.take n) (us.take n)
 | _,_,0,_=>.nil
 | _,_,_+1,.nil=>.nil
 | _,_,n+1,.cons r t=>.cons r (au.take n t)
theorem au.drop:∀ {xs:List V} {us:List Value} (n:Nat),au xs us->au (xs.drop n) (us.drop n)
 | _,_,0,r=>r
 | _,_,_+1,.nil=>.nil
 | _,_,n+1,.cons _ t=>au.drop n t
def fC:Option V->Option Value->Prop
 | some v,some u=>aI v u
 | none,none=>True
 | _,_=>False
def KV {κ:Type}:List (κ×V)->List (κ×Value)->Prop:=Paired λ(p:κ×V) (q:κ×Value)=>p.1=q.1/\aI p.2 q.2
noncomputable def kV:gv->V
 | .inl i=>.int i
 | .inr x=>.str x
inductive HO where
  | lst (xs:List V)
  | tup (xs:List V)
  | dK (kvs:List (gv×V))|dT (kvs:List (List gv×V))
  | set (S:Int->Bool) (n:Nat)
  | ins (C dx:Addr) (fs:List (Str×V))
  | own (x:Addr)
  | xd (fs:List (Str×V))
  | met (f x:Addr)
  | rng (lo hi:Int)
  | frz (o:Obj) (u:HO)
  | tbl (ps:Array Value)
  | ext (φ:Heap->Prop)
  | tab (l c:Int) (q:Str)
abbrev Hp:=Addr->Option HO
noncomputable def ar (H:Hp)(a:Addr)(o:HO):Hp:=λb=>if b=a then some o else H b
theorem aw {H:Hp}{a:Addr}{o:HO}:ar H a o a=some o:=by unfold ar;rw[if_pos rfl]
theorem aR {H:Hp}{a b:Addr}{o:HO}(h:b≠a):ar H a o b=H b:=by unfold ar;rw[if_neg h]
theorem fL {H:Hp}{a b:Addr}{o u:HO}(h:H a=some o)(h':H b=some u)(d:o≠u):a≠b:=by
 intro e;subst e;rw[h] at h';show d (gw h')
theorem bV {H:Hp}{a b:Addr}{o:HO}(h:H a=some o)(h':H b=none):a≠b:=by
 intro e;subst e;rw[h] at h';cases h'
section
variable (P:Program)(w:World)
def bF (H:Hp)(h:Heap)(a:Addr):HO->Prop
 | .lst xs=>xs.length<=sizeLine/\∃ (its:List Value) (n:Nat),au xs its/\h.get? a=some { cls:=.type "list",data:=.seq its.toArray n }
 | .tup xs=>xs.length<=sizeLine/\∃ its:List Value,au xs its/\IsTup h a its.toArray
 | .dK kvs=>kvs.length<=sizeLine/\(a == sysModules)=false/\∃ vs,KV kvs vs/\h.DictOf (zu P w) a vs
 | .dT kvs=>kvs.length<=sizeLine/\(a == sysModules)=false/\∃ xs:List (List gv×Addr×Value),
   Paired (λ(p:List gv×V) (q:List gv×Addr×Value)=>p.1=q.1/\H q.2.1=some (.tup (p.1.map kV))/\aI p.2 q.2.2) kvs xs /\
   ∃ o es ep,h.get? a=some o/\o.ExactDict/\o.data=.dict es ep/\es.toList=xs.map (entryOfKey (tupleKind (zu P w)))/\(xs.map (·.1)).Nodup
 | .set S n=>h.SetOf (intKind P w) a S n
 | .ins C dx fs=>H dx=some (.own a)/\fs.length<=1000/\dx≠a/\h.get? a=some (PySem.W.instObj C dx) /\
   ∃ mA,h.Ns1 dx mA/\(∀ f,fC (fs.lookup f) (mA f))/\PySem.Within mA (fs.map (·.1))
 | .own _=>∃ o,h.get? a=some o
 | .xd fs=>∃ mA,h.Ns1 a mA/\∀ f,fC (fs.lookup f) (mA f)
 | .rng lo hi=>∃ t u v,h.get? a=some { cls:=.type "range",data:=.fields #[.int lo t,.int hi u,.int 1 v] }
 | .frz o u=>h.get? a=some o/\bF H h a u
 | .tbl ps=>h.get? a=some { cls:=.none,data:=.fields ps }
 | .met f x=>h.get? a=some (PySem.W.methodObj (.ref f) (.ref x))
 | .ext φ=>φ h/\(∃ o,h.get? a=some o)/\∀ h1 h2:Heap,φ h1->(∀ o,h1.get? a=some o->h2.get? a=some o)->φ h2
 | .tab l c q=>h.get? a=some { cls:=.none,data:=.fields #[] }\/∃ c' oc vs t,h.get? a=some { cls:=.none,data:=.fields #[rawInt l,rawInt c,.ref c'] }/\c'≠a/\H c'=some (.frz oc (.own a))/\oc.data=.fields vs/\vs[1]?=some (.str q t)
def eC (H:Hp)(h:Heap):Prop:=∀ a o,H a=some o->bF P w H h a o
end
section
variable {P:Program}{w:World}{H H':Hp}{h h':Heap}{a:Addr}{o:HO}
theorem bF.lt (x:bF P w H h a o):a<h.objs.size:=by
 cases o with
 | lst xs=>obtain⟨_,_,_,_,e⟩:=x;show bZ e
 | tup xs=>obtain⟨_,_,_,p⟩:=x;show p.lt
 | dK kvs=>obtain⟨_,_,_,_,o,_,_,e,_⟩:=x;show bZ e
 | dT kvs=>obtain⟨_,_,_,_,o,_,_,e,_⟩:=x;show bZ e
 | set S n=>obtain⟨o,_,_,_,e,_⟩:=x;show bZ e
 | ins C dx fs=>obtain⟨_,_,_,e,_⟩:=x;show bZ e
 | own y=>obtain⟨_,e⟩:=x;show bZ e
 | xd fs=>obtain⟨_,⟨_,_,_,e,_⟩,_⟩:=x;show bZ e
 | rng lo hi=>obtain⟨_,_,_,e⟩:=x;show bZ e
 | frz ob u=>obtain⟨e,_⟩:=x;show bZ e
 | tbl ps=>show bZ (show h.get? a=some _ from x)
 | met f y=>show bZ (show h.get? a=some _ from x)
 | ext φ=>obtain⟨_,⟨_,e⟩,_⟩:=x;show bZ e
 | tab l c q=>
  rcases x with e|⟨_,_,_,_,e,_⟩
  .exact bZ e
  .exact bZ e
theorem Paired.mapP {α β:Type}{F G:α->β->Prop}:∀ {l₁:List α} {l₂:List β},Paired F l₁ l₂->(∀ a b,F a b->G a b)->Paired G l₁ l₂
 | _,_,.nil,_=>.nil
 | _,_,.cons r t,f=>.cons (f _ _ r) (Paired.mapP t f)
theorem bF.stay (x:bF P w H h a o)(k:∀ b u,(b=a\/H b=some (.own a))->h.get? b=some u->h'.get? b=some u)(ho:∀ b,H b=some (.own a)->H' b=some (.own a))(ht:∀ b xs,H b=some (.tup xs)->H' b=some (.tup xs))(hz:∀ b o' u,H b=some (.frz o' u)->H' b=some (.frz o' u)):bF P w H' h' a o:=by
 induction o with
 | lst xs=>obtain⟨z,its,n,r,e⟩:=x;show⟨z,its,n,r,k _ _ (.inl rfl) e⟩
 | tup xs=>obtain⟨z,its,r,ob,e,c⟩:=x;show⟨z,its,r,ob,k _ _ (.inl rfl) e,c⟩
 | dK kvs=>obtain⟨z,y,vs,r,ob,es,ep,e,c⟩:=x;show⟨z,y,vs,r,ob,es,ep,k _ _ (.inl rfl) e,c⟩
 | dT kvs=>
  show bC x λz y e916=>?_;clear x;obtain⟨xs,r,ob,es,ep,e,c⟩:=e916;show⟨z,y,xs,Paired.mapP r λp q z=>⟨z.1,ht _ _ z.2.1,z.2.2⟩,ob,es,ep,k _ _ (.inl rfl) e,c⟩
 | set S n=>obtain⟨ob,es,ep,t,e,c⟩:=x;show⟨ob,es,ep,t,k _ _ (.inl rfl) e,c⟩
 | ins C dx fs=>
  show dj x λd z ne e e917=>?_;clear x;obtain⟨mA,⟨od,es,ep,e2,c⟩,r⟩:=e917;show⟨ho _ d,z,ne,k _ _ (.inl rfl) e,mA,⟨od,es,ep,k _ _ (.inr d) e2,c⟩,r⟩
 | own y=>obtain⟨ob,e⟩:=x;show⟨ob,k _ _ (.inl rfl) e⟩
 | xd fs=>obtain⟨mA,⟨od,es,ep,e,c⟩,r⟩:=x;show⟨mA,⟨od,es,ep,k _ _ (.inl rfl) e,c⟩,r⟩
 | rng lo hi=>obtain⟨t,u,v,e⟩:=x;show⟨t,u,v,k _ _ (.inl rfl) e⟩
 | frz ob u ih=>obtain⟨e,q⟩:=x;show⟨k _ _ (.inl rfl) e,ih q⟩
 | tbl ps=>
  have e:h.get? a=some { cls:=.none,data:=.fields ps }:=x;change h'.get? a=some { cls:=.none,data:=.fields ps };show k a _ (.inl rfl) e
 | met f y=>
  have e:h.get? a=some (PySem.W.methodObj (.ref f) (.ref y)):=x;change h'.get? a=some (PySem.W.methodObj (.ref f) (.ref y));show k a _ (.inl rfl) e
 | ext φ=>obtain⟨p,⟨o,e⟩,st⟩:=x;show⟨st _ _ p λo q=>k _ _ (.inl rfl) q,⟨o,k _ _ (.inl rfl) e⟩,st⟩
 | tab l c q=>
  rcases x with e|⟨c',oc,vs,t,e,ne,e2,r⟩
  .exact .inl (k _ _ (.inl rfl) e)
  .exact .inr ⟨c',oc,vs,t,k _ _ (.inl rfl) e,ne,hz _ _ _ e2,r⟩
theorem eC.lt (x:eC P w H h)(e:H a=some o):a<h.objs.size:=(x a o e).lt
theorem eC.fresh (x:eC P w H h)(e:h.objs.size<=a):H a=none:=by
 cases q:H a with
 | none=>rfl
 | some u=>show absurd (dN (x.lt q) e) (iR _)
theorem eC.kept (x:eC P w H h)(k:∀ b u,h.get? b=some u->h'.get? b=some u):eC P w H h':=λa o e=>
 (x a o e).stay (λb u _ q=>k b u q) (λ_ q=>q) (λ_ _ q=>q) λ_ _ _ q=>q
theorem eC.laid (x:eC P w H h)(k:∀ b u,h.get? b=some u->h'.get? b=some u)(hp:h.objs.size<=a)(new:bF P w (ar H a o) h' a o):eC P w (ar H a o) h':=λb u e=>by
 have hn:=x.fresh hp;by_cases hb:b=a
 .subst hb;rw[aw] at e;cases e;show new
 .rw [aR hb] at e;show (x b u e).stay (λc v _ q=>k c v q) (λc q=>by rw[aR (bV q hn)];show q) (λc xs q=>by rw[aR (bV q hn)];show q) λc _ _ q=>by rw[aR (bV q hn)];show q
end
def Rd (H:Hp)(a:Addr)(u:HO):Prop:=H a=some u\/∃ o,H a=some (.frz o u)
theorem Rd.ok {P:Program}{w:World}{H:Hp}{h:Heap}{a:Addr}{u:HO}(r:Rd H a u)(x:eC P w H h):bF P w H h a u:=by
 rcases r with r|⟨o,r⟩
 .exact x a u r
 .obtain ⟨_,q⟩:=x a _ r;show q
def xY:Option HO->Prop
 | some (.lst _)=>True
 | some (.dK _)=>True
 | some (.dT _)=>True
 | some (.set _ _)=>True
 | some (.ins _ _ _)=>True
 | some (.ext _)=>True
 | some (.tab _ _ _)=>True
 | _=>False
section
variable {P:Program}{w:World}{H:Hp}{h h':Heap}{x e:Addr}{o':HO}
theorem eC.write (ok:eC P w H h)(mu:xY (H x))(he:e=x\/H e=some (.own x))(k:∀ b u,b≠e->h.get? b=some u->h'.get? b=some u)(heo:∃ u,h'.get? e=some u)(new:bF P w (ar H x o') h' x o'):eC P w (ar H x o') h':=λb u q=>by
 have nown:∀ c y,H c=some (.own y)->c≠x:=λc y r z=>by subst z;rw[r] at mu;show mu
 have ntup:∀ c xs,H c=some (.tup xs)->c≠x:=λc xs r z=>by subst z;rw[r] at mu;show mu
 have nfrz:∀ c o' u',H c=some (.frz o' u')->c≠x:=λc o' u' r z=>by subst z;rw[r] at mu;show mu
 by_cases hb:b=x
 .subst hb;rw[aw] at q;cases q;show new
 .rw [aR hb] at q;by_cases hbe:b=e
  .have q':H b=some (.own x):=by
    rcases he with z|z
    .exact absurd (hbe.trans z) hb
    .rw [hbe];show z
   rw[q] at q';cases q';obtain⟨v,hv⟩:=heo;show⟨v,by rw[hbe];show hv⟩
  .refine (ok b u q).stay (λc v hc r=>k c v ?_ r) (λc r=>by rw[aR (nown c b r)];show r) (λc xs r=>by rw[aR (ntup c xs r)];show r) λc o' u' r=>by rw[aR (nfrz c o' u' r)];show r
   rcases hc with rfl|hc
   .exact hbe
   .rintro rfl;rcases he with z|z
    .exact nown c b hc z
    .rw [hc] at z;cases z;show hb rfl
end
structure Un (fs ex:List Addr)(H H':Hp)(h h':Heap):Prop where
 keep:∀ b o,h.get? b=some o->H b=none->b∉fs->b∉ex->h'.get? b=some o
 slot:∀ b o,h.get? b=some o->H b=none->b∈fs->b∉ex->∃ sl,h'.get? b=some { o with slots:=sl }
 free:∀ b o,h.get? b=some o->H b=none->b∉ex->H' b=none
 there:∀ b o,h.get? b=some o->b∉ex->∃ o',h'.get? b=some o'
 tups:∀ b xs,H b=some (.tup xs)->H' b=some (.tup xs)
 frzs:∀ b o u,H b=some (.frz o u)->H' b=some (.frz o u)
 tbls:∀ b ps,H b=some (.tbl ps)->∃ more,H' b=some (.tbl (ps++more))
section
variable {fs fs' ex ex':List Addr}{H H1 H2:Hp}{h h1 h2 h':Heap}{a x e:Addr}{o:HO}
theorem Un.any (u:Un fs ex H H1 h h1){b:Addr}{ob:Obj}(q:h.get? b=some ob)(n:H b=none)(hx:b∉ex):∃ sl,h1.get? b=some { ob with slots:=sl }:=by
 by_cases hb:b∈fs
 .exact u.slot b ob q n hb hx
 .exact ⟨ob.slots,u.keep b ob q n hb hx⟩
theorem Un.kept (k:∀ b u,h.get? b=some u->h'.get? b=some u):Un fs ex H H h h':=
 ⟨λb ob q _ _ _=>k b ob q,λb ob q _ _ _=>⟨ob.slots,k b ob q⟩,λ_ _ _ n _=>n,λb ob q _=>⟨ob,k b ob q⟩,λ_ _ q=>q,λ_ _ _ q=>q,λ_ ps q=>⟨#[],by rw[q];simp⟩⟩
theorem Un.refl:Un fs ex H H h h:=Un.kept λ_ _ q=>q
theorem Un.laid (k:∀ b u,h.get? b=some u->h'.get? b=some u)(hp:h.objs.size<=a)(hn:H a=none):Un fs ex H (ar H a o) h h' where
 keep:=λb u q _ _ _=>k b u q
 slot:=λb u q _ _ _=>⟨u.slots,k b u q⟩
 free:=λb u q n _=>by rw[aR (eS (dN (bZ q) hp))];show n
 there:=λb u q _=>⟨u,k b u q⟩
 tups:=λb xs q=>by rw[aR (bV q hn)];show q
 frzs:=λb u xs q=>by rw[aR (bV q hn)];show q
 tbls:=λb ps q=>⟨#[],by rw[aR (bV q hn),q];simp⟩
theorem Un.write (mu:xY (H x))(he:e=x\/H e=some (.own x))(k:∀ b u,b≠e->h.get? b=some u->h'.get? b=some u)(heo:∃ u,h'.get? e=some u):Un fs ex H (ar H x o) h h':=by
 have hx:∀ b,H b=none->b≠x:=λb n z=>by subst z;rw[n] at mu;show mu
 have hb:∀ b,H b=none->b≠e:=λb n z=>by
  subst z;rcases he with r|r
  .exact hx b n r
  .rw [n] at r;cases r
 have hm:∀ b u,H b=some u->¬ xY (some u)->b≠x:=λb u q nm z=>by subst z;rw[q] at mu;show nm mu
 show⟨λb u q n _ _=>k b u (hb b n) q,λb u q n _ _=>⟨u.slots,k b u (hb b n) q⟩,λb u q n _=>by rw[aR (hx b n)];show n,λb u q _=>?_,
  λb xs q=>by rw[aR (hm b _ q λz=>z)];show q,λb u xs q=>by rw[aR (hm b _ q λz=>z)];show q,λb ps q=>⟨#[],by rw[aR (hm b _ q λz=>z),q];simp⟩⟩
 by_cases hbe:b=e
 .subst hbe;show heo
 .exact ⟨u,k b u hbe q⟩
end
noncomputable def trk (h:Heap)(H:Hp):List Addr:=(List.range h.objs.size).filter λa=>(H a).isSome
def ko (h:Heap)(H:Hp):Heap:=PySem.W.hideAll h (trk h H)
theorem Hx (h:Heap)(H:Hp):(ko h H).objs.size=h.objs.size:=PySem.W.hideAll_size _ _
theorem GR {h:Heap}{H:Hp}{b:Addr}{o:Obj}(e:h.get? b=some o)(n:H b=none):(ko h H).get? b=some o:=
 PySem.W.hideAll_get _ e λhm=>by
  have q:(H b).isSome=true:=(tY.mp hm).2;rw[n] at q;simp at q
theorem mG {h:Heap}{H:Hp}{b:Addr}{o:Obj}(e:(ko h H).get? b=some o):h.get? b=some o/\H b=none:=by
 have e':h.get? b=some o:=PySem.W.of_hideAll (trk h H) e;show⟨e',?_⟩;cases q:H b with
 | none=>rfl
 | some x=>
  have hm:b∈trk h H:=tY.mpr ⟨dU.mpr (bZ e'),by simp[q]⟩;have z:(ko h H).get? b=none:=PySem.W.hideAll_none (trk h H) hm;rw[z] at e;cases e
noncomputable def allNews (g h:Heap)(L:Addr):List (Addr×Obj):=(List.range h.objs.size).filterMap λa=>if a=L\/(g.get? a).isSome=true then none else (h.get? a).map λo=>(a,o)
noncomputable def rest (g h:Heap)(L d:Addr):List (Addr×Obj):=(allNews g h L).filter λp=>decide (p.1≠d)
structure x_ (K:Frag)(mg:Str->Option Value)(base:Heap):Prop where
 kin:K.In base
 glob:base.Ns mainGlobals mg
 blt:∃ mb,base.Ns builtinsNs mb/\∀ x:Str,x ≠ "__name__" -> mb x=bootBuiltins x
 nolimit:base.NoLimit
 seer:base.NoSeer
 bmain:∃ bm ob,mg "__builtins__" = ↥bm/\bm≠builtinsNs/\base.get? bm=some ob/\ob.cls=.type "module" /\ ob.dict=some builtinsNs/\ob.data=.plain
def BD (l:List Env):Prop:=∃ e r,l=e::r/\e.scope.isGenerator=false/\e.scope.isCoroutine=false/\e.builtins=builtinsNs/\e.globals=mainGlobals
structure Cx where
 prog:Program
 w:World
 K:Frag
 mg:Str->Option Value
 base:Heap
 A:Around
 N:List Str
 s₀:Shared
 H₀:Hp
 env:Env
 outer:List Env
 stack:List Env
 ex:List Addr
 fn:Str->Bool
 calm:Bool
 pn:List (Addr×Obj)
 xe:Value->Shared->Prop
noncomputable def frs (l:List Env):List Addr:=l.filterMap (·.frame)
abbrev Cx.fs (X:Cx):List Addr:=frs X.outer
def xT (sc:Scope)(x:Str):Prop:=sc.names.lookup x=some .local\/sc.names.lookup x=some .cell\/sc.names.lookup x=some .free
def ya (sc:Scope)(x:Str):Prop:=sc.names.lookup x=some .local\/sc.names.lookup x=some .cell
def BG (env:Env)(h:Heap)(m:Str->Option Value)(x:Str)(u:Value):Prop:=
 (env.kindOf x=some .local/\m x=some u)\/((env.kindOf x=some .cell\/env.kindOf x=some .free)/\∃ c,env.cells.lookup x=some c/\h.IsCell c (some u))
structure Cx.Ok (X:Cx):Prop where
 mod:x_ X.K X.mg X.base
 kind:X.env.scope.kind=.function
 glob:X.env.globals=mainGlobals
 blt:X.env.builtins=builtinsNs
 above:X.s₀.heap.objs.size<=X.env.locals
 inj:∀ x y c,X.env.cells.lookup x=some c->X.env.cells.lookup y=some c->x=y
 has:∀ x,(X.env.kindOf x=some .cell\/X.env.kindOf x=some .free)->∃ c,X.env.cells.lookup x=some c
 cab:∀ x c,X.fn x=true->X.env.cells.lookup x=some c->X.s₀.heap.objs.size<=c
 hd:X.calm=true->X.A.handled=none
 frames:X.A.frames=some X.stack
 stk:X.stack=X.outer\/(X.stack=X.env::X.outer/\X.env.frame=some X.env.locals)
 exf:∀ b∈X.ex,b≠X.env.locals/\∀ x c,X.env.cells.lookup x=some c->c≠b
 bs:∀ b o,X.base.get? b=some o->X.s₀.heap.get? b=some o/\X.H₀ b=none
 bsz:X.base.objs.size<=X.s₀.heap.objs.size
 noex:∀ b o,X.base.get? b=some o->b∉X.ex
 exfs:∀ b∈X.ex,b∉X.fs
 funs:X.s₀.heap.FunFrames X.base X.outer
 frf:∀ b∈X.fs,X.H₀ b=none
 top:BD X.stack
structure av (X:Cx)(pins:List (Addr×Obj))(σ:List (Option V))(H:Hp)(s:Shared):Prop where
 ok:X.Ok
 os:s.os=X.s₀.os
 bare:AllBare s.gens
 base:Un X.fs X.ex X.H₀ H X.s₀.heap s.heap
 loc:∃ m,s.heap.Ns X.env.locals m/\∀ (i:Nat) (x:Str) (v:V),X.N[i]?=some x->σ[i]?=some (some v)->xT X.env.scope x->∃ u,aI v u/\BG X.env s.heap m x u
 cell:∀ x c,X.env.cells.lookup x=some c->∃ v,s.heap.IsCell c v
 free:H X.env.locals=none
 freeC:∀ x c,X.env.cells.lookup x=some c->H c=none
 pin:∀ p∈X.pn++pins,s.heap.get? p.1=some p.2/\H p.1=none/\p.1≠X.env.locals/\p.1∉X.fs/\∀ v,p.2.data≠.cell v
 hok:eC X.prog X.w H s.heap
 len:σ.length=X.N.length
section
variable {X:Cx}{pins:List (Addr×Obj)}{σ:List (Option V)}{H H':Hp}{s:Shared}{h':Heap}
theorem Cx.Ok.nofr (ok:X.Ok){b:Addr}{o:Obj}(e:X.base.get? b=some o):b∉X.fs:=λhb=>by
 have:=(ok.funs.mem hb).1;rw[e] at this;cases this
theorem av.bs (I:av X pins σ H s):∀ b o,X.base.get? b=some o->s.heap.get? b=some o/\H b=none:=λb o e=>
 ⟨I.base.keep b o (I.ok.bs b o e).1 (I.ok.bs b o e).2 (I.ok.nofr e) (I.ok.noex b o e),I.base.free b o (I.ok.bs b o e).1 (I.ok.bs b o e).2 (I.ok.noex b o e)⟩
theorem av.bk (I:av X pins σ H s):∀ b o,X.base.get? b=some o->s.heap.get? b=some o:=λb o e=>(I.bs b o e).1
theorem av.mod (I:av X pins σ H s):x_ X.K X.mg X.base:=I.ok.mod
theorem av.kIn (I:av X pins σ H s):X.K.In s.heap:=I.ok.mod.kin.keeps I.bk
theorem av.nolimit (I:av X pins σ H s):s.heap.NoLimit:=I.ok.mod.nolimit.keeps I.bk
theorem av.long (I:av X pins σ H s)(ht:X.prog.given.tree=none)(hd:X.A.depth+Builtin.pylongFrames<recursionLimit):PySem.PylongRoom (model X.prog X.w) X.A s:=by
 show kA I.ok.top λe r hs h1 h2 h3 h4=>?_;show PySem.PylongRoom.of I.nolimit hd (PySem.SeerAt.of (I.ok.mod.seer.keeps I.bk) ht (by rw[I.ok.frames,hs]) h1 h2 h3 h4)
theorem av.lt (I:av X pins σ H s):X.env.locals<s.heap.objs.size:=let ⟨_,hn,_⟩:=I.loc;hn.lt
theorem av.sz (I:av X pins σ H s):X.s₀.heap.objs.size<=s.heap.objs.size:=cD I.ok.above (gR I.lt)
theorem av.nofs (I:av X pins σ H s){a:Addr}(h:s.heap.objs.size<=a):a∉X.fs:=λhb=>by
 obtain⟨_,o,ho,_⟩:=I.ok.funs.mem hb;show absurd (dN (bZ ho) (cD I.sz h)) (iR _)
theorem av.cne (I:av X pins σ H s):∀ x c,X.env.cells.lookup x=some c->c≠X.env.locals:=λx c e z=>by
 obtain⟨v,o,ho,hd⟩:=I.cell x c e;show ao I.loc λm e918 _=>?_;obtain⟨o',es,ep,ho',hd',_⟩:=e918;rw[z,ho'] at ho;cases ho;rw[hd'] at hd;cases hd
theorem av.funs (I:av X pins σ H s):s.heap.FunFrames X.base X.outer:=by
 have all:∀ (l:List Env),(∀ b∈frs l,b∈X.fs)->X.s₀.heap.FunFrames X.base l->s.heap.FunFrames X.base l:=by
  intro l
  induction l with
  | nil=>intro _ _;trivial
  | cons env r ih=>
   intro hs hl;show bC hl λhk e919 hr=>?_;clear hl;obtain⟨L,o,hf,hn,ho,hd⟩:=e919;have hL:L∈X.fs:=hs L (by unfold frs;rw[BP,hf];show o_);obtain⟨sl,e⟩:=I.base.slot L o ho (I.ok.frf L hL) hL λz=>I.ok.exfs L z hL;show⟨hk,⟨L,_,hf,hn,e,hd⟩,ih (λb hb=>hs b (by unfold frs;rw[BP,hf];show kO _ hb)) hr⟩
 show all X.outer (λ_ hb=>hb) I.ok.funs
theorem av.stack (I:av X pins σ H s):s.heap.FunFrames X.base X.stack:=by
 rcases I.ok.stk with e|⟨e,hf⟩
 .rw [e];show I.funs
 .rw [e];show ao I.loc λm hn _=>?_;show .cons (by rw[I.ok.kind];decide) hf hn ?_ I.funs;show Heap.get?_none_of_le (cD I.ok.bsz I.ok.above)
theorem av.stkSub (I:av X pins σ H s):∀ b∈frs X.stack,b∈X.env.locals::X.fs:=λb hb=>by
 rcases I.ok.stk with e|⟨e,hf⟩
 .rw [e] at hb;show kO _ hb
 .rw [e] at hb;unfold frs at hb;rw[BP,hf] at hb;show hb
theorem av.stkFree (I:av X pins σ H s):∀ b∈frs X.stack,H b=none:=λb hb=>by
 rcases gf.mp (I.stkSub b hb) with e|hb
 .rw [e];show I.free
 .obtain ⟨_,o,ho,_⟩:=I.ok.funs.mem hb;show I.base.free b o ho (I.ok.frf b hb) λz=>I.ok.exfs b z hb
theorem av.step {g':Array GenState}{t':Nat}{d':Drawn}{ch:List Addr}(I:av X pins σ H s)(hch:∀ b∈ch,(b∈X.ex\/X.s₀.heap.objs.size<=b)/\b≠X.env.locals/\(∀ x c,X.env.cells.lookup x=some c->c≠b)/\∀ p∈X.pn++pins,p.1≠b)(keep:∀ b o,b≠X.env.locals->b∉X.fs->b∉ch->s.heap.get? b=some o->H b=none->h'.get? b=some o)(slot:∀ b o,b≠X.env.locals->b∈X.fs->b∉ch->s.heap.get? b=some o->H b=none->∃ sl,h'.get? b=some { o with slots:=sl })(free:∀ b o,b∉ch->s.heap.get? b=some o->H b=none->H' b=none)(there:∀ b o,b∉ch->s.heap.get? b=some o->∃ o',h'.get? b=some o')(tups:∀ b xs,H b=some (.tup xs)->H' b=some (.tup xs))(frzs:∀ b o u,H b=some (.frz o u)->H' b=some (.frz o u))(tbls:∀ b ps,H b=some (.tbl ps)->∃ more,H' b=some (.tbl (ps++more)))(ns:∀ m,s.heap.Ns X.env.locals m->h'.Ns X.env.locals m)(hok:eC X.prog X.w H' h')(hg:AllBare g'):
  av X pins σ H' { s with heap:=h',gens:=g',drawn:=d',toks:=t' }:=by
 have neL:∀ b o,X.s₀.heap.get? b=some o->b≠X.env.locals:=λb o e=>eS (dN (bZ e) I.ok.above);have neC:∀ b o,X.s₀.heap.get? b=some o->b∉X.ex->b∉ch:=λb o e hx hb=>by
  rcases (hch b hb).1 with z|z
  .exact hx z
  .exact absurd (dN (bZ e) z) (iR _)
 have cellK:∀ x c,X.env.cells.lookup x=some c->∀ v,s.heap.IsCell c v->h'.IsCell c v:=λx c e v ⟨o,ho,hd⟩=>by
  have nch:c∉ch:=λz=>(hch c z).2.2.1 x c e rfl;by_cases hc:c∈X.fs
  .obtain ⟨sl,q⟩:=slot c o (I.cne x c e) hc nch ho (I.freeC x c e);show⟨_,q,hd⟩
  .exact ⟨o,keep c o (I.cne x c e) hc nch ho (I.freeC x c e),hd⟩
 show⟨I.ok,I.os,hg,⟨λb o e n hb hx=>?_,λb o e n hb hx=>?_,λb o e n hx=>?_,λb o e hx=>?_,λb xs e=>tups b xs (I.base.tups b xs e),λb o xs e=>frzs b o xs (I.base.frzs b o xs e),λb ps e=>?_⟩,?_,λx c e=>?_,?_,λx c e=>?_,λp hp=>?_,hok,I.len⟩
 .exact keep b o (neL b o e) hb (neC b o e hx) (I.base.keep b o e n hb hx) (I.base.free b o e n hx)
 .obtain ⟨sl,e1⟩:=I.base.slot b o e n hb hx;obtain⟨sl',e2⟩:=slot b _ (neL b o e) hb (neC b o e hx) e1 (I.base.free b o e n hx);show⟨sl',e2⟩
 .obtain ⟨o',e1⟩:=I.base.there b o e hx;show free b o' (neC b o e hx) e1 (I.base.free b o e n hx)
 .obtain ⟨o',e1⟩:=I.base.there b o e hx;show there b o' (neC b o e hx) e1
 .obtain ⟨m1,e1⟩:=I.base.tbls b ps e;obtain⟨m2,e2⟩:=tbls b _ e1;show⟨m1++m2,by rw[e2,Array.append_assoc]⟩
 .refine ao I.loc λm hn hl=>?_;show⟨m,ns m hn,λi x v e1 e2 e3=>?_⟩;show ao (hl i x v e1 e2 e3) λu r l=>?_;show⟨u,r,?_⟩;rcases l with l|⟨k,c,e,z⟩
  .exact .inl l
  .exact .inr ⟨k,c,e,cellK x c e _ z⟩
 .obtain ⟨v,z⟩:=I.cell x c e;show⟨v,cellK x c e v z⟩
 .refine ao I.loc λm e920 _=>?_;obtain⟨o,_,_,ho,_⟩:=e920;show free _ o (λz=>(hch _ z).2.1 rfl) ho I.free
 .obtain ⟨v,o,ho,hd⟩:=I.cell x c e;show free c o (λz=>(hch c z).2.2.1 x c e rfl) ho (I.freeC x c e)
 .refine dj (I.pin p hp) λe n ne nf d=>?_;have nch:p.1∉ch:=λz=>(hch p.1 z).2.2.2 p hp rfl;show⟨keep p.1 p.2 ne nf nch e n,free p.1 p.2 nch e n,ne,nf,d⟩
theorem av.un {t':Nat}(I:av X pins σ H s)(u:Un X.fs [] H H' s.heap h')(hok:eC X.prog X.w H' h'):av X pins σ H' { s with heap:=h',toks:=t' }:=by
 show ao (id I.loc) λm e921 _=>?_;obtain⟨o,es,ep,ho,r⟩:=e921;obtain⟨sl,hL⟩:=u.any ho I.free (by simp);show I.step (g':=s.gens) (d':=s.drawn) (ch:=[]) (λ_ z=>nomatch z) (λb o _ hb _ e n=>u.keep b o e n hb (by simp)) (λb o _ hb _ e n=>u.slot b o e n hb (by simp)) (λb o _ e n=>u.free b o e n (by simp)) (λb o _ e=>u.there b o e (by simp)) u.tups u.frzs u.tbls (λm' hm=>by
  show fU hm λo' es' ep' ho' r'=>?_;clear hm;rw[ho] at ho';cases ho';show⟨_,es',ep',hL,r'⟩) hok I.bare
theorem av.call {g':Array GenState}{t':Nat}{d':Drawn}{ch:List Addr}(I:av X pins σ H s)(u:Un (frs X.stack) ch H H' s.heap h')(hok:eC X.prog X.w H' h')(hg:AllBare g')(hch:∀ b∈ch,(b∈X.ex\/X.s₀.heap.objs.size<=b)/\b≠X.env.locals/\(∀ x c,X.env.cells.lookup x=some c->c≠b)/\∀ p∈X.pn++pins,p.1≠b):
  av X pins σ H' { s with heap:=h',gens:=g',drawn:=d',toks:=t' }:=by
 show ao (id I.loc) λm e922 _=>?_;obtain⟨o,es,ep,ho,r⟩:=e922;obtain⟨sl,hL⟩:=u.any ho I.free λz=>(hch _ z).2.1 rfl;show I.step (ch:=ch) hch (λb o hL hb hc e n=>u.keep b o e n (λz=>(gf.mp (I.stkSub b z)).elim hL hb) hc) (λb o _ _ hc e n=>u.any e n hc) (λb o hc e n=>u.free b o e n hc) (λb o hc e=>u.there b o e hc) u.tups u.frzs u.tbls (λm' hm=>by
  show fU hm λo' es' ep' ho' r'=>?_;clear hm;rw[ho] at ho';cases ho';show⟨_,es',ep',hL,r'⟩) hok hg
theorem av.turned {t':Nat}{it:Addr}(I:av X pins σ H s)(k:∀ b o,b≠it->s.heap.get? b=some o->h'.get? b=some o)(hn:H it=none)(hL:it≠X.env.locals)(h1:it∈X.ex\/X.s₀.heap.objs.size<=it)(h2:∀ x c,X.env.cells.lookup x=some c->c≠it)(h3:∀ p∈X.pn++pins,p.1≠it):av X pins σ H { s with heap:=h',toks:=t' }:=by
 have nit:∀ b u,H b=some u->b≠it:=λb u e z=>by rw[z,hn] at e;cases e
 show I.step (g':=s.gens) (d':=s.drawn) (ch:=[it]) (λb hb=>?_) (λb o _ _ hc e _=>k b o (λz=>hc (by simp[z])) e) (λb o _ _ hc e _=>⟨o.slots,k b o (λz=>hc (by simp[z])) e⟩) (λ_ _ _ _ n=>n)
  (λb o hc e=>⟨o,k b o (λz=>hc (by simp[z])) e⟩) (λ_ _ e=>e) (λ_ _ _ e=>e) (λb ps e=>⟨#[],by rw[e];simp⟩) (λm hm=>?_) (λb u e=>?_) I.bare
 .have e:b=it:=by simpa using hb
  subst e;show⟨h1,hL,h2,h3⟩
 .refine fU hm λo es ep ho r=>?_;clear hm;show dc o es ep ⟨k _ o (f_ hL) ho,r⟩
 .refine (I.hok b u e).stay (λc v hc q=>k c v ?_ q) (λ_ q=>q) (λ_ _ q=>q) λ_ _ _ q=>q;rcases hc with z|z
  .rw [z];show nit b u e
  .exact nit c _ z
theorem av.tok (I:av X pins σ H s)(t:Nat):av X pins σ H { s with toks:=t }:=I.un (h':=s.heap) (t':=t) Un.refl I.hok
theorem av.kept {t':Nat}(I:av X pins σ H s)(k:∀ b u,s.heap.get? b=some u->h'.get? b=some u):av X pins σ H { s with heap:=h',toks:=t' }:=I.un (Un.kept k) (I.hok.kept k)
theorem av.laid {a:Addr}{o:HO}{t':Nat}(I:av X pins σ H s)(k:∀ b u,s.heap.get? b=some u->h'.get? b=some u)(hp:s.heap.objs.size<=a)(new:bF X.prog X.w (ar H a o) h' a o):
  av X pins σ (ar H a o) { s with heap:=h',toks:=t' }:=I.un (Un.laid k hp (I.hok.fresh hp)) (I.hok.laid k hp new)
theorem av.write {x e:Addr}{o:HO}{t':Nat}(I:av X pins σ H s)(mu:xY (H x))(he:e=x\/H e=some (.own x))(k:∀ b u,b≠e->s.heap.get? b=some u->h'.get? b=some u)(heo:∃ u,h'.get? e=some u)(new:bF X.prog X.w (ar H x o) h' x o):av X pins σ (ar H x o) { s with heap:=h',toks:=t' }:=I.un (Un.write mu he k heo) (I.hok.write mu he k heo new)
theorem av.pins_of {pins':List (Addr×Obj)}(I:av X pins σ H s)(h:∀ p∈pins',s.heap.get? p.1=some p.2/\H p.1=none/\p.1≠X.env.locals/\p.1∉X.fs/\∀ v,p.2.data≠.cell v):av X pins' σ H s:=
 ⟨I.ok,I.os,I.bare,I.base,I.loc,I.cell,I.free,I.freeC,λp hp=>(cj.mp hp).elim (λz=>I.pin p (si _ z)) (h p),I.hok,I.len⟩
theorem Er {N:List Str}(hN:N.Nodup){i j:Nat}{x:Str}(a:N[i]?=some x)(b:N[j]?=some x):i=j:=by
 obtain⟨h1,e1⟩:=b_.mp a;obtain⟨h2,e2⟩:=b_.mp b;show (List.getElem_inj hN).mp (e1.trans e2.symm)
theorem Fn {M:Model}{A:Around}{E:Value->Shared->Prop}{i:Nat}{x:Str}{v:V}{u:Value}{Q:Unit->Shared->Prop}(I:av X pins σ H s)(hN:X.N.Nodup)(hi:X.N[i]?=some x)(hx:ya X.env.scope x)(r:aI v u)(h:∀ s',av X pins (σ.set i (some v)) H s'->(∃ a,Heap.SameBut a s.heap s'.heap/\(a=X.env.locals\/X.env.cells.lookup x=some a))->Q () s')(hf:X.fn x=true\/X.env.scope.names.lookup x=some .local:=by right):wpAny M A (storeName X.env x u) Q E s:=by
 show ao (id I.loc) λm hn hl=>?_;have hcls:(X.env.scope.kind == .class || (X.env.scope.kind == .module && X.env.locals != X.env.globals))=false:=by rw[I.ok.kind];rfl
 have hiσ:i<σ.length:=by rw[I.len];show (b_.mp hi).1
 have cne:=I.cne;have tracked:∀ {a:Addr} {h':Heap},(∃ o,s.heap.get? a=some o/\H a=none)->Heap.SameBut a s.heap h'->eC X.prog X.w H h':=λ{a h'} ha hs b ob e=>by
  show ao ha λ_ _ hfree=>?_;clear ha;show (I.hok b ob e).stay (λc w' hc q=>(hs.2 c ?_).trans q) (λ_ q=>q) (λ_ _ q=>q) λ_ _ _ q=>q;rintro rfl;rcases hc with rfl|hc
  .rw [hfree] at e;cases e
  .rw [hfree] at hc;cases hc
 rcases hx with hk|hk
 .refine wpAny_storeName_local hk hn (λh' hn' hs=>?_) hcls;show fU (id hn) λoL _ _ hoL _=>?_;show h _ ⟨I.ok,I.os,I.bare,⟨λb o e n hb hx=>?_,λb o e n hb hx=>?_,I.base.free,λb o e hx=>?_,I.base.tups,I.base.frzs,I.base.tbls⟩,⟨_,hn',λj y v' e1 e2 e3=>?_⟩,λy c e=>?_,I.free,I.freeC,λp hp=>?_,tracked ⟨oL,hoL,I.free⟩ hs,by simpa using I.len⟩ ⟨_,hs,.inl rfl⟩
  .exact (hs.2 b (eS (dN (bZ e) I.ok.above))).trans (I.base.keep b o e n hb hx)
  .obtain ⟨sl,e1⟩:=I.base.slot b o e n hb hx;show⟨sl,(hs.2 b (eS (dN (bZ e) I.ok.above))).trans e1⟩
  .obtain ⟨o',e1⟩:=I.base.there b o e hx;show⟨o',(hs.2 b (eS (dN (bZ e) I.ok.above))).trans e1⟩
  .by_cases hj:j=i
   .subst hj;rw[hi] at e1;cases e1;rw[List.getElem?_set_self hiσ] at e2;cases e2;show⟨u,r,.inl ⟨hk,by simp⟩⟩
   .rw [yq (f_ hj)] at e2;show ao (hl j y v' e1 e2 e3) λu' r' q=>?_;show⟨u',r',?_⟩;rcases q with ⟨k,e⟩|⟨k,c,e,z⟩
    .refine .inl ⟨k,?_⟩;have:y≠x:=λe=>hj (Er hN e1 (e ▸ hi));simp[this,e]
    .exact .inr ⟨k,c,e,z.sameBut hs (cne y c e)⟩
  .obtain ⟨w',z⟩:=I.cell y c e;show⟨w',z.sameBut hs (cne y c e)⟩
  .refine dj (I.pin p hp) λe n ne nf d=>?_;show⟨(hs.2 p.1 ne).trans e,n,ne,nf,d⟩
 .have hfn:X.fn x=true:=by
   rcases hf with z|z
   .exact z
   .rw [z] at hk;cases hk
  obtain⟨c,hc⟩:=I.ok.has x (.inl hk);obtain⟨w',z⟩:=I.cell x c hc;show wpAny_storeName_cell I.ok.kind hk hc z (λh' hc' hs=>?_);show ao (id z) λoc hoc hocd=>?_;show h { s with heap:=h' } ⟨I.ok,I.os,I.bare,⟨λb o e n hb hx=>?_,λb o e n hb hx=>?_,I.base.free,λb o e hx=>?_,I.base.tups,I.base.frzs,I.base.tbls⟩,⟨m,hn.sameBut hs (f_ (cne x c hc)),λj y v' e1 e2 e3=>?_⟩,λy c' e=>?_,I.free,I.freeC,λp hp=>?_,tracked ⟨oc,hoc,I.freeC x c hc⟩ hs,by simpa using I.len⟩ ⟨c,hs,.inr hc⟩
  .exact (hs.2 b (eS (dN (bZ e) (I.ok.cab x c hfn hc)))).trans (I.base.keep b o e n hb hx)
  .obtain ⟨sl,e1⟩:=I.base.slot b o e n hb hx;show⟨sl,(hs.2 b (eS (dN (bZ e) (I.ok.cab x c hfn hc)))).trans e1⟩
  .obtain ⟨o',e1⟩:=I.base.there b o e hx;show⟨o',(hs.2 b (eS (dN (bZ e) (I.ok.cab x c hfn hc)))).trans e1⟩
  .by_cases hj:j=i
   .subst hj;rw[hi] at e1;cases e1;rw[List.getElem?_set_self hiσ] at e2;cases e2;show⟨u,r,.inr ⟨.inl hk,c,hc,hc'⟩⟩
   .rw [yq (f_ hj)] at e2;show ao (hl j y v' e1 e2 e3) λu' r' q=>?_;show⟨u',r',?_⟩;rcases q with q|⟨k,c',e,z'⟩
    .exact .inl q
    .refine .inr ⟨k,c',e,z'.sameBut hs ?_⟩;rintro rfl;show hj (Er hN e1 (I.ok.inj _ _ _ e hc ▸ hi))
  .by_cases hcc:c'=c
   .subst hcc;show⟨_,hc'⟩
   .obtain ⟨w2,z2⟩:=I.cell y c' e;show⟨w2,z2.sameBut hs hcc⟩
  .refine dj (I.pin p hp) λe n ne nf d=>?_;show⟨(hs.2 p.1 ?_).trans e,n,ne,nf,d⟩;intro q;rw[q,hoc] at e;have q':oc=p.2:=gw e;show d w' (by rw[<- q'];show hocd)
theorem xI {M:Model}{A:Around}{E:Value->Shared->Prop}{i:Nat}{x:Str}{v:V}{u:Value}{Q:Unit->Shared->Prop}(I:av X pins σ H s)(hN:X.N.Nodup)(hi:X.N[i]?=some x)(hx:ya X.env.scope x)(r:aI v u)(h:∀ s',av X pins (σ.set i (some v)) H s'->Q () s')(hf:X.fn x=true\/X.env.scope.names.lookup x=some .local:=by right):wpAny M A (storeName X.env x u) Q E s:=
 Fn I hN hi hx r (λs' I' _=>h s' I') hf
theorem av.call' {s':Shared}{ch:List Addr}(I:av X pins σ H s)(ho:s'.os=s.os)(u:Un (frs X.stack) ch H H' s.heap s'.heap)(hok:eC X.prog X.w H' s'.heap)(hg:AllBare s'.gens)(hch:∀ b∈ch,(b∈X.ex\/X.s₀.heap.objs.size<=b)/\b≠X.env.locals/\(∀ x c,X.env.cells.lookup x=some c->c≠b)/\∀ p∈X.pn++pins,p.1≠b):av X pins σ H' s':=by
 obtain⟨h',g',d',t',o'⟩:=s';have e:o'=s.os:=ho;subst e;show I.call (g':=g') (t':=t') (d':=d') u hok hg hch
end
abbrev XK:=Value->Option Addr->Hp->Prop
abbrev St:=List (Option V)
abbrev VK:=V->Hp->Prop
abbrev TE:=St->Hp->VK->Prop
abbrev TT:=St->Hp->(Bool->Hp->Prop)->Prop
abbrev TA:=St->Hp->(List V->Hp->Prop)->Prop
structure cO where
 nx:St->Hp->Prop
 rt:VK
 bk:St->Hp->Prop:=λ_ _=>False
 ct:St->Hp->Prop:=λ_ _=>False
abbrev TS:=cO->St->Hp->Prop
def EP (X:Cx)(pins:List (Addr×Obj))(σ:St)(Q:VK)(u:Value)(s':Shared):Prop:=∃ v H',av X pins σ H' s'/\aI v u/\Q v H'
def TP (X:Cx)(pins:List (Addr×Obj))(σ:St)(Q:Bool->Hp->Prop)(b:Bool)(s':Shared):Prop:=∃ H',av X pins σ H' s'/\Q b H'
def AP (X:Cx)(pins:List (Addr×Obj))(σ:St)(Q:List V->Hp->Prop)(us:List Value)(s':Shared):Prop:=∃ vs H',av X pins σ H' s'/\au vs us/\Q vs H'
def SP (X:Cx)(pins:List (Addr×Obj))(D:cO)(f:Flow)(s':Shared):Prop:=
 match f with
 | .next=>∃ σ' H',av X pins σ' H' s'/\D.nx σ' H'
 | .brk=>∃ σ' H',av X pins σ' H' s'/\D.bk σ' H'
 | .cont=>∃ σ' H',av X pins σ' H' s'/\D.ct σ' H'
 | .ret u=>∃ v σ' H',av X pins σ' H' s'/\aI v u/\D.rt v H'
def PE (X:Cx)(e:Expr)(t:TE):Prop:=
 ∀ (pins:List (Addr×Obj)) (s:Shared) (σ:St) (H:Hp) (Q:VK),av X pins σ H s->t σ H Q->wpAny (model X.prog X.w) X.A (eval e X.env) (EP X pins σ Q) X.xe s
def PT (X:Cx)(e:Expr)(t:TT):Prop:=
 ∀ (pins:List (Addr×Obj)) (s:Shared) (σ:St) (H:Hp) (Q:Bool->Hp->Prop),av X pins σ H s->t σ H Q->wpAny (model X.prog X.w) X.A (isTrue e X.env (eval e X.env)) (TP X pins σ Q) X.xe s
def PW (X:Cx)(e:Expr)(t:TT):Prop:=
 ∀ (whole:Sem Value) (pins:List (Addr×Obj)) (s:Shared) (σ:St) (H:Hp) (Q:Bool->Hp->Prop),av X pins σ H s->t σ H Q->wpAny (model X.prog X.w) X.A (isTrue e X.env whole) (TP X pins σ Q) X.xe s
theorem PW.pt {X:Cx}{e:Expr}{t:TT}(h:PW X e t):PT X e t:=h _
def PA (X:Cx)(es:List Expr)(t:TA):Prop:=
 ∀ (pos:Pos) (pins:List (Addr×Obj)) (s:Shared) (σ:St) (H:Hp) (Q:List V->Hp->Prop),av X pins σ H s->t σ H Q->wpAny (model X.prog X.w) X.A (spliced (backTo pos (starEach es X.env))) (AP X pins σ Q) X.xe s
def PS (X:Cx)(st:Stmt)(t:TS):Prop:=
 ∀ (pins:List (Addr×Obj)) (s:Shared) (σ:St) (H:Hp) (D:cO),av X pins σ H s->t D σ H->wpAny (model X.prog X.w) X.A (exec st X.env) (SP X pins D) X.xe s
def iL (X:Cx)(st:List Stmt)(t:TS):Prop:=
 ∀ (pins:List (Addr×Obj)) (s:Shared) (σ:St) (H:Hp) (D:cO),av X pins σ H s->t D σ H->wpAny (model X.prog X.w) X.A (execs st X.env) (SP X pins D) X.xe s
theorem aX {α:Type}{t:Sem α}{Q Q':α->Shared->Prop}{M:Model}{A:Around}{E:Value->Shared->Prop}{s:Shared}(h:wpAny M A t Q E s)(hQ:∀ a s,Q a s->Q' a s):wpAny M A t Q' E s:=jh h hQ λ_ _ x=>x
section
variable {X:Cx}
theorem bin {a b:Expr}{ta tb:TE}(ha:PE X a ta)(hb:PE X b tb){pins:List (Addr×Obj)}{s:Shared}{σ:St}{H:Hp}{R:V->V->Hp->Prop}(I:av X pins σ H s)(h:ta σ H λx H1=>tb σ H1 λy H2=>R x y H2){α:Type}{Q:α->Shared->Prop}{f:Value->Value->Sem α}(hf:∀ v u s2 x y H2,av X pins σ H2 s2->aI x v->aI y u->R x y H2->wpAny (model X.prog X.w) X.A (f v u) Q X.xe s2):
  wpAny (model X.prog X.w) X.A (eval a X.env) (λv s₁=>wpAny (model X.prog X.w) X.A (eval b X.env) (λu s₂=>wpAny (model X.prog X.w) X.A (f v u) Q X.xe s₂) X.xe s₁) X.xe s:=by
 show aX (ha pins s σ H _ I h) λv s1 ⟨x,H1,I1,r1,q1⟩=>?_;show aX (hb pins s1 σ H1 _ I1 q1) λu s2 ⟨y,H2,I2,r2,q2⟩=>?_;show hf v u s2 x y H2 I2 r1 r2 q2
def eG (i:Nat):TE:=λσ H Q=>∃ v,σ[i]?=some (some v)/\Q v H
def tC (v:V):TE:=λ_ H Q=>Q v H
theorem pV {i:Nat}{x:Str}{pos:Pos}(hN:X.N[i]?=some x)(hv:xT X.env.scope x)(hd:(x == ("__debug__" : Str))=false:=by decide)(hcd:(x == ("__classdict__" : Str))=false:=by decide):PE X (.Name x pos) (eG i):=by
 intro pins s σ H Q I h;obtain⟨v,e,h⟩:=h;obtain⟨m,hn,hl⟩:=I.loc;obtain⟨u,r,l⟩:=hl i x v hN e hv;have fin:EP X pins σ Q u s:=⟨v,H,I,r,h⟩
 rcases l with ⟨hk,hm⟩|⟨hk,c,hc,hcell⟩
 .exact wpAny_Name (wpAny_loadName_local I.ok.kind hk hn hm fin) hd
 .rcases hk with hk|hk
  .exact wpAny_Name (wpAny_loadName_cell I.ok.kind hk hc hcell fin) hd
  .exact wpAny_Name (wpAny_loadName_free I.ok.kind hk hc hcell fin hcd) hd
theorem aq {i j pos}:PE X (.Constant (.int i) j pos) (tC (.int i)):=λ_ _ _ H _ I h=>wpAny_Constant_int ⟨.int i,H,I.tok _,⟨_,rfl⟩,h⟩
theorem fX {b j pos}:PE X (.Constant (.bool b) j pos) (tC (.bl b)):=λ_ _ _ H _ I h=>Constant_bool ⟨.bl b,H,I,rfl,h⟩
theorem pW {j pos}:PE X (.Constant .none j pos) (tC .non):=λ_ _ _ H _ I h=>Constant_none ⟨.non,H,I,rfl,h⟩
theorem vf {x j pos}:PE X (.Constant (.str x) j pos) (tC (.str x)):=λ_ _ _ H _ I h=>Calls.Constant_str ⟨.str x,H,I.tok _,⟨_,rfl⟩,h⟩
def Gl (X:Cx)(x:Str):Prop:=X.env.kindOf x=some .globalImplicit
theorem zr {E:Value->Shared->Prop}{pins:List (Addr×Obj)}{s:Shared}{σ:St}{H:Hp}{x:Str}{u:Value}{pos:Pos}{Q:Value->Shared->Prop}(I:av X pins σ H s)(hg:Gl X x)(hm:X.mg x=some u)(h:Q u s)(hd:(x == ("__debug__" : Str))=false:=by decide):wpAny (model X.prog X.w) X.A (eval (.Name x pos) X.env) Q E s:=
 Calls.Name_function_global I.ok.kind hg (Calls.loadGlobal_global (by rw[I.ok.glob];show I.mod.glob.keeps I.bk) hm h) hd
theorem oK {E:Value->Shared->Prop}{pins:List (Addr×Obj)}{s:Shared}{σ:St}{H:Hp}{x:Str}{u:Value}{pos:Pos}{Q:Value->Shared->Prop}(I:av X pins σ H s)(hg:Gl X x)(hm:X.mg x=none)(hv:bootBuiltins x=some u)(h:Q u s)(hn:x ≠ "__name__" := by decide)(hd:(x == ("__debug__" : Str))=false:=by decide):wpAny (model X.prog X.w) X.A (eval (.Name x pos) X.env) Q E s:=by
 show ao I.mod.blt λmb h1 h2=>?_;show Calls.Name_function_global I.ok.kind hg (Calls.loadGlobal_builtin (by rw[I.ok.glob];show I.mod.glob.keeps I.bk) hm (by rw[I.ok.blt];show h1.keeps I.bk) ((h2 x hn).trans hv) h) hd
theorem DJ {x:Str}{v:V}{u:Value}{pos:Pos}(hg:Gl X x)(hm:X.mg x=some u)(r:aI v u)(hd:(x == ("__debug__" : Str))=false:=by decide):PE X (.Name x pos) (tC v):=
 λ_ _ _ H _ I h=>zr I hg hm ⟨v,H,I,r,h⟩ hd
theorem lN {x:Str}{v:V}{u:Value}{pos:Pos}(hg:Gl X x)(hm:X.mg x=none)(hv:bootBuiltins x=some u)(r:aI v u)(hn:x ≠ "__name__" := by decide)(hd:(x == ("__debug__" : Str))=false:=by decide):PE X (.Name x pos) (tC v):=
 λ_ _ _ H _ I h=>oK I hg hm hv ⟨v,H,I,r,h⟩ hn hd
variable {a b:Expr}{ta tb:TE}{pos:Pos}
def PC (X:Cx)(op:CmpOp)(a b:Expr)(t:TE):Prop:=
 ∀ (pins:List (Addr×Obj)) (s:Shared) (σ:St) (H:Hp) (Q:VK),av X pins σ H s->t σ H Q->
  wpAny (model X.prog X.w) X.A (eval a X.env) (λv s₁=>wpAny (model X.prog X.w) X.A (eval b X.env) (λu s₂=>wpAny (model X.prog X.w) X.A (compareOp op v u) (EP X pins σ Q) X.xe s₂) X.xe s₁) X.xe s
theorem Gu (b:Expr){op:CmpOp}(h:op≠.In)(h2:op≠.NotIn):behindInMarks op b=false:=by
 have e1:(op == CmpOp.In)=false:=by cases op <;> first|rfl|show absurd rfl h
 have e2:(op == CmpOp.NotIn)=false:=by cases op <;> first|rfl|show absurd rfl h2
 cases b <;> simp[behindInMarks,e1,e2]
def tB (t:TE):TT:=λσ H Q=>t σ H λx H1=>∃ c,x=.bl c/\Q c H1
theorem yA {op:CmpOp}{t:TE}(h:PC X op a b t)(h1:behindInMarks op b=false:=by first|show Gu _ ⇑0 ⇑0|rfl):PT X (.Compare a [op] [b] pos) (tB t):=by
 intro pins s σ H Q I hw;show BY (aX (h pins s σ H _ I hw) λv s1 h1=>aX h1 λu s2 h2=>aX h2 λc s3 ⟨x,H1,I1,r1,q1⟩=>?_) h1;show ao q1 λd e923 q=>?_;clear q1;obtain rfl:=e923;cases r1;show jl ⟨H1,I1,q⟩
theorem eY {e:Expr}{t:TE}(h:PE X e t)(he:∀ whole,isTrue e X.env whole=(do let v <- whole;standAt e.pos;holding [v] (truthy v)):=by intro _;rfl):PT X e (tB t):=by
 intro pins s σ H Q I hw;show isTrue_plain (aX (h pins s σ H _ I hw) λv s1 ⟨x,H1,I1,r1,q1⟩=>?_) (he _);show ao q1 λd e924 q=>?_;clear q1;obtain rfl:=e924;cases r1;show jl ⟨H1,I1,q⟩
variable {tA tB':TT}{rest:List Expr}
def tAnd (t u:TT):TT:=λσ H Q=>t σ H λc H1=>if c=true then u σ H1 Q else Q false H1
def tOr (t u:TT):TT:=λσ H Q=>t σ H λc H1=>if c=true then Q true H1 else u σ H1 Q
def tNot (t:TT):TT:=λσ H Q=>t σ H λc H1=>Q (!c) H1
theorem tD (ha:PT X a tA):PW X (.BoolOp .And [a] pos) tA:=by
 intro wh pins s σ H Q I h;show isTrue_and (aX (ha pins s σ H Q I h) λc s1 e=>?_);cases c with
 | true=>show isTrue_and_nil e
 | false=>show e
theorem gG (ha:PT X a tA):PW X (.BoolOp .Or [a] pos) tA:=by
 intro wh pins s σ H Q I h;show isTrue_or (aX (ha pins s σ H Q I h) λc s1 e=>?_);cases c with
 | false=>show isTrue_or_nil e
 | true=>show e
theorem tj (ha:PT X a tA)(hb:PW X (.BoolOp .And (b::rest) pos) tB'):PW X (.BoolOp .And (a::b::rest) pos) (tAnd tA tB'):=by
 intro wh pins s σ H Q I h;show isTrue_and (aX (ha pins s σ H _ I h) λc s1 ⟨H1,I1,q1⟩=>?_);cases c with
 | true=>show hb wh pins s1 σ H1 Q I1 q1
 | false=>show⟨H1,I1,q1⟩
theorem fM (ha:PT X a tA)(hb:PW X (.BoolOp .Or (b::rest) pos) tB'):PW X (.BoolOp .Or (a::b::rest) pos) (tOr tA tB'):=by
 intro wh pins s σ H Q I h;show isTrue_or (aX (ha pins s σ H _ I h) λc s1 ⟨H1,I1,q1⟩=>?_);cases c with
 | true=>show⟨H1,I1,q1⟩
 | false=>show hb wh pins s1 σ H1 Q I1 q1
theorem d_ (ha:PT X a tA):PT X (.UnaryOp .Not a pos) (tNot tA):=by
 intro pins s σ H Q I h;show isTrue_not (ha pins s σ H (λc H1=>Q (!c) H1) I h)
def tAndV (ta tb:TE):TE:=λσ H Q=>ta σ H λx H1=>∃ c,x=.bl c/\if c=true then tb σ H1 Q else Q (.bl false) H1
def tOrV (ta tb:TE):TE:=λσ H Q=>ta σ H λx H1=>∃ c,x=.bl c/\if c=true then Q (.bl true) H1 else tb σ H1 Q
def tNotV (ta:TE):TE:=λσ H Q=>ta σ H λx H1=>∃ c,x=.bl c/\Q (.bl (!c)) H1
theorem nN {op}{t:TE}(h:PE X a t):PE X (.BoolOp op [a] pos) t:=λpins s σ H Q I hw=>BoolOp_one (h pins s σ H Q I hw)
theorem nL (ha:PE X a ta)(hb:PE X (.BoolOp .And (b::rest) pos) tb):PE X (.BoolOp .And (a::b::rest) pos) (tAndV ta tb):=by
 intro pins s σ H Q I h;show BoolOp_and (aX (ha pins s σ H _ I h) λv s1 ⟨x,H1,I1,r1,q1⟩=>?_);obtain⟨c,rfl,q1⟩:=q1;cases r1;show jl ?_;cases c with
 | true=>show hb pins s1 σ H1 Q I1 q1
 | false=>show⟨.bl false,H1,I1,rfl,q1⟩
theorem ug (ha:PE X a ta)(hb:PE X (.BoolOp .Or (b::rest) pos) tb):PE X (.BoolOp .Or (a::b::rest) pos) (tOrV ta tb):=by
 intro pins s σ H Q I h;show BoolOp_or (aX (ha pins s σ H _ I h) λv s1 ⟨x,H1,I1,r1,q1⟩=>?_);obtain⟨c,rfl,q1⟩:=q1;cases r1;show jl ?_;cases c with
 | false=>show hb pins s1 σ H1 Q I1 q1
 | true=>show⟨.bl true,H1,I1,rfl,q1⟩
theorem CL (ha:PE X a ta):PE X (.UnaryOp .Not a pos) (tNotV ta):=by
 intro pins s σ H Q I h;show UnaryOp_ (aX (ha pins s σ H _ I h) λv s1 ⟨x,H1,I1,r1,q1⟩=>?_);obtain⟨c,rfl,q1⟩:=q1;cases r1;show not_of (jl ⟨.bl (!c),H1,I1,rfl,q1⟩)
def tIf (t:TT)(ta tb:TE):TE:=λσ H Q=>t σ H λc H1=>if c=true then ta σ H1 Q else tb σ H1 Q
end
def aj (K:Frag)(H:Hp)(a:Addr)(xs:List V):Prop:=
 Rd H a (.lst xs) \/
  ∃ (o:Obj) (its:Array Value) (n:Nat),K.lookup a=some o/\o.cls=.type "list" /\ o.dict=none/\o.data=.seq its n/\its.size<=sizeLine/\au xs its.toList
def aE (K:Frag)(H:Hp)(a:Addr)(xs:List V):Prop:=
 Rd H a (.tup xs) \/
  ∃ (o:Obj) (its:Array Value) (n:Nat),K.lookup a=some o/\o.cls=.type "tuple" /\ o.data=.seq its n/\its.size<=sizeLine/\au xs its.toList
noncomputable def absV:Value->Option V
 | .none=>some .non
 | .bool b=>some (.bl b)
 | .int i _=>⇑i
 | .str x _=>some (.str x)
 | .bytes b _=>some (.byt b)
 | .float b _=>some (.flt b)
 | .ref a=>↥a
 | .type n=>some (.ty n)
 | _=>none
theorem aI.abs {x:V}{u:Value}(r:aI x u):absV u=some x:=by
 cases x with
 | non=>cases r;rfl
 | bl _=>cases r;rfl
 | int _=>obtain⟨t,rfl⟩:=r;rfl
 | str _=>obtain⟨t,rfl⟩:=r;rfl
 | byt _=>obtain⟨t,rfl⟩:=r;rfl
 | flt _=>obtain⟨t,rfl⟩:=r;rfl
 | ref _=>cases r;rfl
 | ty _=>cases r;rfl
theorem aI.inj {x y:V}{u:Value}(r:aI x u)(q:aI y u):x=y:=gw (r.abs.symm.trans q.abs)
theorem au.inj:∀ {xs ys:List V} {us:List Value},au xs us->au ys us->xs=ys
 | _,_,_,.nil,.nil=>rfl
 | _,_,_,.cons r t,.cons r' t'=>by rw[r.inj r',au.inj t t']
section
variable {X:Cx}{pins:List (Addr×Obj)}{σ:St}{H:Hp}{s:Shared}{a:Addr}{xs ys:List V}
theorem aj.of {K:Frag}(h:H a=some (.lst xs)):aj K H a xs:=.inl (.inl h)
theorem aE.of {K:Frag}(h:H a=some (.tup xs)):aE K H a xs:=.inl (.inl h)
theorem av.list (I:av X pins σ H s)(h:aj X.K H a xs):∃ its:List Value,au xs its/\PlainL s.heap a its.toArray/\xs.length<=sizeLine:=by
 rcases h with h|⟨o,its,n,hk,hc,hd,hs,hz,r⟩
 .obtain ⟨z,its,n,r,e⟩:=h.ok I.hok;show⟨its,r,⟨_,n,e,rfl,rfl,rfl⟩,z⟩
 .refine ⟨its.toList,r,⟨o,n,I.kIn a o hk,hc,hd,by simpa using hs⟩,?_⟩;have e:=r.length;simp only[Array.length_toList] at e;omega
theorem av.tuple (I:av X pins σ H s)(h:aE X.K H a xs):∃ its:List Value,au xs its/\IsTup s.heap a its.toArray/\xs.length<=sizeLine:=by
 rcases h with h|⟨o,its,n,hk,hc,hs,hz,r⟩
 .obtain ⟨z,its,r,p⟩:=h.ok I.hok;show⟨its,r,p,z⟩
 .refine ⟨its.toList,r,⟨o,I.kIn a o hk,hc,n,by simpa using hs⟩,?_⟩;have e:=r.length;simp only[Array.length_toList] at e;omega
theorem av.list_inj (I:av X pins σ H s)(h:aj X.K H a xs)(h':aj X.K H a ys):xs=ys:=by
 show bh (I.list h) λits r e925 _=>?_;obtain⟨o,n,e,_,_,d⟩:=e925;show bh (I.list h') λits' r' e926 _=>?_;obtain⟨o',n',e',_,_,d'⟩:=e926;rw[e] at e';cases e';rw[d] at d'
 injection d' with d1 _
 have:its=its':=by simpa using jC Array.toList d1
 subst this;show r.inj r'
theorem av.tuple_inj (I:av X pins σ H s)(h:aE X.K H a xs)(h':aE X.K H a ys):xs=ys:=by
 show bh (I.tuple h) λits r e927 _=>?_;obtain⟨o,e,_,n,d⟩:=e927;show bh (I.tuple h') λits' r' e928 _=>?_;obtain⟨o',e',_,n',d'⟩:=e928;rw[e] at e';cases e';rw[d] at d'
 injection d' with d1 _
 have:its=its':=by simpa using jC Array.toList d1
 subst this;show r.inj r'
end
noncomputable abbrev Cx.wish (X:Cx)(E:Value->Shared->Prop):Cx:={ X with xe:=E }
noncomputable abbrev Cx.nox (X:Cx):Cx:=X.wish λ_ _=>False
theorem Cx.Ok.wish {X:Cx}(ok:X.Ok)(E:Value->Shared->Prop):(X.wish E).Ok:=
 ⟨ok.mod,ok.kind,ok.glob,ok.blt,ok.above,ok.inj,ok.has,ok.cab,ok.hd,ok.frames,ok.stk,ok.exf,ok.bs,ok.bsz,ok.noex,ok.exfs,ok.funs,ok.frf,ok.top⟩
theorem Cx.Ok.unwish {X:Cx}{E:Value->Shared->Prop}(ok:(X.wish E).Ok):X.Ok:=
 ⟨ok.mod,ok.kind,ok.glob,ok.blt,ok.above,ok.inj,ok.has,ok.cab,ok.hd,ok.frames,ok.stk,ok.exf,ok.bs,ok.bsz,ok.noex,ok.exfs,ok.funs,ok.frf,ok.top⟩
section
variable {X:Cx}{pins:List (Addr×Obj)}{σ:St}{H:Hp}{s:Shared}{E:Value->Shared->Prop}
theorem av.wish (I:av X pins σ H s)(E:Value->Shared->Prop):av (X.wish E) pins σ H s:=⟨I.ok.wish E,I.os,I.bare,I.base,I.loc,I.cell,I.free,I.freeC,I.pin,I.hok,I.len⟩
theorem av.unwish (I:av (X.wish E) pins σ H s):av X pins σ H s:=⟨I.ok.unwish,I.os,I.bare,I.base,I.loc,I.cell,I.free,I.freeC,I.pin,I.hok,I.len⟩
theorem SP.unwish {D:cO}{f:Flow}{s':Shared}(h:SP (X.wish E) pins D f s'):SP X pins D f s':=by
 cases f with
 | next=>obtain⟨σ',H',I,q⟩:=h;show⟨σ',H',I.unwish,q⟩
 | brk=>obtain⟨σ',H',I,q⟩:=h;show⟨σ',H',I.unwish,q⟩
 | cont=>obtain⟨σ',H',I,q⟩:=h;show⟨σ',H',I.unwish,q⟩
 | ret u=>obtain⟨v,σ',H',I,r,q⟩:=h;show⟨v,σ',H',I.unwish,r,q⟩
theorem iL.nox {st:List Stmt}{t:TS}(h:iL X.nox st t):iL X st t:=λpins s σ H D I hw=>
 jh (h pins s σ H D (I.wish _) hw) (λ_ _ q=>q.unwish) λ_ _ z=>False.elim z
end
section
variable {X:Cx}{st:Stmt}{rest:List Stmt}{t u:TS}{e:Expr}{te:TE}{pos:Pos}
def tNext:TS:=λD σ H=>D.nx σ H
def rh (t u:TS):TS:=λD σ H=>t { D with nx:=u D } σ H
theorem bJ:iL X [] tNext:=λ_ _ σ H _ I h=>yh ⟨σ,H,I,h⟩
theorem Hi (h1:PS X st t)(h2:iL X rest u):iL X (st::rest) (rh t u):=by
 intro pins s σ H D I h;show wpAny_execs_cons (aX (h1 pins s σ H { D with nx:=u D } I h) λf s1 q=>?_);cases f with
 | next=>
  obtain⟨σ',H',I',q⟩:=q;show h2 pins s1 σ' H' D I' q
 | ret v=>show q
 | brk=>show q
 | cont=>show q
theorem bE (h1:PS X st t):iL X [st] t:=by
 intro pins s σ H D I h;show wpAny_execs_cons (aX (h1 pins s σ H D I h) λf s1 q=>?_);cases f with
 | next=>show yh q
 | ret v=>show q
 | brk=>show q
 | cont=>show q
def tCont:TS:=λD σ H=>D.ct σ H
theorem IV:PS X (.Continue pos) tCont:=λ_ _ σ H _ I h=>wpAny_Continue ⟨σ,H,I,h⟩
theorem av.quiet {pins:List (Addr×Obj)}{σ:St}{H:Hp}{s:Shared}(I:av X pins σ H s):interactive X.env=false:=by simp[interactive,I.ok.kind]
def tDrop (te:TE):TS:=λD σ H=>te σ H λ_ H1=>D.nx σ H1
theorem gK (he:PE X e te)(hs:swapsWith e none pos.line X.env=pure false:=by rfl):PS X (.Expr e pos) (tDrop te):=by
 intro pins s σ H D I h;show wpAny_Expr_any (aX (he pins s σ H _ I h) λv s1 ⟨x,H1,I1,r1,q1⟩=>⟨σ,H1,I1,q1⟩) I.quiet hs
def tRet (te:TE):TS:=λD σ H=>te σ H D.rt
theorem pS (he:PE X e te):PS X (.Return (some e) pos) (tRet te):=by
 intro pins s σ H D I h;show wpAny_Return_some (aX (he pins s σ H _ I h) λv s1 ⟨x,H1,I1,r1,q1⟩=>⟨x,σ,H1,I1,r1,q1⟩)
def tRetN:TS:=λD _ H=>D.rt .non H
def tIfS (c:TT)(t u:TS):TS:=λD σ H=>c σ H λb H1=>if b=true then t D σ H1 else u D σ H1
theorem bI {c:Expr}{a b:List Stmt}{tc:TT}(hc:PT X c tc)(ha:iL X a t)(hb:iL X b u):PS X (.If c a b pos) (tIfS tc t u):=by
 intro pins s σ H D I h;show wpAny_If (aX (hc pins s σ H _ I h) λd s1 ⟨H1,I1,q1⟩=>?_);cases d with
 | true=>show ha pins s1 σ H1 D I1 q1
 | false=>show hb pins s1 σ H1 D I1 q1
def tNever:TS:=λ_ _ _=>False
theorem kI:PS X st tNever:=λ_ _ _ _ _ _ h=>h.elim
end
abbrev TG:=V->St->Hp->(St->Hp->Prop)->Prop
abbrev nV:=List V->St->Hp->(St->Hp->Prop)->Prop
def PG (X:Cx)(target:Expr)(t:TG):Prop:=
 ∀ (pins:List (Addr×Obj)) (s:Shared) (σ:St) (H:Hp) (v:V) (u:Value) (Q:St->Hp->Prop),av X pins σ H s->aI v u->t v σ H Q->
  wpAny (model X.prog X.w) X.A (assign target X.env u) (λ_ s'=>∃ σ' H',av X pins σ' H' s'/\Q σ' H') X.xe s
def vX (X:Cx)(ts:List Expr)(t:nV):Prop:=
 ∀ (pins:List (Addr×Obj)) (s:Shared) (σ:St) (H:Hp) (vs:List V) (us:List Value) (Q:St->Hp->Prop),av X pins σ H s->au vs us->t vs σ H Q->
  wpAny (model X.prog X.w) X.A (assignInOrder ((assignEach ts X.env).map (·.2)) us) (λ_ s'=>∃ σ' H',av X pins σ' H' s'/\Q σ' H') X.xe s
abbrev nU:=V->V->V->Hp->(Hp->Prop)->Prop
def vW (X:Cx)(t:nU):Prop:=
 ∀ (pins:List (Addr×Obj)) (s:Shared) (σ:St) (H:Hp) (o i v:V) (ov iv u:Value) (Q:Hp->Prop),av X pins σ H s->aI o ov->aI i iv->aI v u->t o i v H Q->
  wpAny (model X.prog X.w) X.A (setItem ov iv u) (λ_ s'=>∃ H',av X pins σ H' s'/\Q H') X.xe s
abbrev By:=V->V->Hp->VK->Prop
section
variable {X:Cx}{pos:Pos}
def bU (i:Nat):TG:=λv σ H Q=>Q (σ.set i (some v)) H
theorem oW {i:Nat}{x:Str}(hN:X.N.Nodup)(hi:X.N[i]?=some x)(hx:ya X.env.scope x)(hf:X.fn x=true\/X.env.scope.names.lookup x=some .local:=by right):PG X (.Name x pos) (bU i):=by
 intro pins s σ H v u Q I r h;show wpAny_assign_Name (xI I hN hi hx r (λs' I'=>⟨_,H,I',h⟩) hf)
def jw:nV:=λvs σ H Q=>vs=[]/\Q σ H
def g_ (t:TG)(u:nV):nV:=λvs σ H Q=>∃ v r,vs=v::r/\t v σ H λσ' H'=>u r σ' H' Q
theorem cU:vX X [] jw:=by
 intro pins s σ H vs us Q I r h;obtain⟨e,h⟩:=h;subst e;cases r;show assignInOrder_nil ⟨σ,H,I,h⟩
theorem J8 {e:Expr}{es:List Expr}{t:TG}{u:nV}(h1:PG X e t)(h2:vX X es u)(hs:(assignEach (e::es) X.env).map (·.2)=assign e X.env::(assignEach es X.env).map (·.2):=by rfl):vX X (e::es) (g_ t u):=by
 intro pins s σ H vs us Q I r h;obtain⟨v,vr,e1,h⟩:=h;subst e1;cases r with
 | cons r rr=>
  rw[hs];show assignInOrder_cons (aX (h1 pins s σ H _ _ _ I r h) λ_ s1 ⟨σ1,H1,I1,q1⟩=>?_);show h2 pins s1 σ1 H1 _ _ Q I1 rr q1
def iV (K:Frag)(n:Nat)(t:nV):TG:=λv σ H Q=>∃ a xs,v=.ref a/\aE K H a xs/\xs.length=n/\t xs σ H Q
theorem dY {es:List Expr}{k:Nat}{t:nV}{n:Nat}(hc:X.calm=true)(h:vX X es t)(hn:(assignEach es X.env).length=n:=by rfl)(hst:(assignEach es X.env).findIdx? (·.1)=none:=by rfl):PG X (.Tuple es k pos) (iV X.K n t):=by
 intro pins s σ H v u Q I r hw;obtain⟨a,xs,e1,hq,hl,hw⟩:=hw;subst e1;cases r;obtain⟨its,rv,ht,hz⟩:=I.tuple hq;show assign_Tuple_tuple (I.ok.hd hc) ht (by simp[hn,<- hl,rv.length]) hst λh' hx=>?_;have I1:av X pins σ H { s with heap:=h' }:=I.kept (t':=s.toks) λb o e=>hx b o (eS (bZ e)) e;show h pins _ σ H xs _ Q I1 (by simpa using rv) hw
def gSub (to ti:TE)(t:nU):TG:=λv σ H Q=>to σ H λo H1=>ti σ H1 λi H2=>t o i v H2 λH3=>Q σ H3
theorem iZ {o i:Expr}{to ti:TE}{t:nU}(ho:PE X o to)(hi:PE X i ti)(hs:vW X t)(ha:∀ v,assign (.Subscript o i pos) X.env v=(do
   let ov <- holding [v] (eval o X.env)
   let iv <- holding [v,ov] (eval i X.env)
   standAt pos
   holding [v,ov,iv] (setItem ov iv v)
   release [v,ov,iv] []):=by intro _;rfl):PG X (.Subscript o i pos) (gSub to ti t):=by
 intro pins s σ H v u Q I r h;rw[ha];show bP (rW (aX (ho pins s σ H _ I h) λov s1 ⟨x,H1,I1,r1,q1⟩=>?_));show bP (rW (aX (hi pins s1 σ H1 _ I1 q1) λiv s2 ⟨y,H2,I2,r2,q2⟩=>?_));show bP (ye (bP (rW (aX (hs pins s2 σ H2 x y v ov iv u _ I2 r1 r2 r q2) λ_ s3 ⟨H3,I3,q3⟩=>?_))));show wpAny_release ⟨σ,H3,I3,q3⟩
def tAsg (te:TE)(g:TG):TS:=λD σ H=>te σ H λx H1=>g x σ H1 D.nx
theorem d9 {tg e:Expr}{te:TE}{g:TG}(he:PE X e te)(hg:PG X tg g)(hs:swapsWithSole [tg] e pos.line X.env=pure false:=by rfl)(hw:swappedStores [tg] e X.env=pure none:=by rfl)(h1:(assignEach [tg] X.env).map (·.2)=[assign tg X.env]:=by rfl):PS X (.Assign [tg] e pos) (tAsg te g):=by
 intro pins s σ H D I h;show wpAny_Assign_stores (aX (he pins s σ H _ I h) λv s1 ⟨x,H1,I1,r1,q1⟩=>?_) hs hw;rw[h1];show aX (hg pins s1 σ H1 x v _ I1 r1 q1) λ_ s2 q=>q
theorem gs {i:Nat}{x:Str}{e:Expr}{te:TE}{pos':Pos}(hN:X.N.Nodup)(hi:X.N[i]?=some x)(hx:ya X.env.scope x)(he:PE X e te)(hs:swapsWith e (some (.Name x pos')) pos.line X.env=pure false:=by rfl)(hf:X.fn x=true\/X.env.scope.names.lookup x=some .local:=by right):
  PS X (.Assign [.Name x pos'] e pos) (tAsg te (bU i)):=by
 intro pins s σ H D I h;show wpAny_Assign_Name (aX (he pins s σ H _ I h) λv s1 ⟨y,H1,I1,r1,q1⟩=>?_) hs;show xI I1 hN hi hx r1 (λs2 I2=>⟨_,H1,I2,q1⟩) hf
def tPar (i j:Nat)(ta:TA):TS:=λD σ H=>ta σ H λvs H1=>∃ v w,vs=[v,w]/\D.nx ((σ.set i (some v)).set j (some w)) H1
theorem td {i j:Nat}{x y:Str}{a b:Expr}{ta:TA}{px py pt:Pos}{kt k2 pt2}(hc:X.calm=true)(hN:X.N.Nodup)(hi:X.N[i]?=some x)(hj:X.N[j]?=some y)(hij:i≠j)(hx:X.env.scope.names.lookup x=some .local)(hy:X.env.scope.names.lookup y=some .local)(ha:PA X [a,b] ta)(hw:swappedStores [.Tuple [.Name x px,.Name y py] kt pt] (.Tuple [a,b] k2 pt2) X.env=pure (some [x,y]))(hs:swapsWithSole [.Tuple [.Name x px,.Name y py] kt pt] (.Tuple [a,b] k2 pt2) pos.line X.env=pure false:=by rfl):
  PS X (.Assign [.Tuple [.Name x px,.Name y py] kt pt] (.Tuple [a,b] k2 pt2) pos) (tPar i j ta):=by
 intro pins s σ H D I h;rw[exec_Assign_arm];show bP (ye ?_);rw[hs];show bP (dG ?_);rw[if_neg ⇑0];show bP (Tuple_ (aX (ha _ pins s σ H _ I h) λus s1 ⟨vs,H1,I1,r1,q1⟩=>?_));obtain⟨v,w,e1,q1⟩:=q1;subst e1;obtain⟨u1,u2,rfl,rv,rw'⟩:∃ u1 u2,us=[u1,u2]/\aI v u1/\aI w u2:=by
  cases r1 with
  | cons p q=>
   cases q with
   | cons p' q'=>
    cases q';show⟨_,_,rfl,p,p'⟩
 show wpAny_newObj_type ?_ (by show 2<=sizeLine;decide);have I2:av X pins σ H1 { s1 with heap:=s1.heap.push { cls:=.type "tuple",data:=.seq [u1,u2].toArray } }:=I1.kept (t':=s1.toks) λb o e=>d5 _ e;rw[hw];show bP (dG ?_);change wpAny (model X.prog X.w) X.A (do rule "assign.swapped-stores";let items <- unpackItems (.ref s1.heap.objs.size) 2 none;assignInOrder [λv=>bindName X.env y v,λv=>bindName X.env x v] items.reverse;pure Flow.next) _ _ _;show bP (wpAny_rule (bP (unpackItems_tuple (items:=#[u1,u2]) (I.ok.hd hc) (IsTup.new s1.heap _) λh' hx'=>?_)));have I3:=I2.kept (h':=h') (t':=s1.toks) λb o e=>hx' b o (eS (bZ e)) e;change wpAny _ _ (assignInOrder [λv=>bindName X.env y v,λv=>bindName X.env x v] [u2,u1] >>= λ_=>pure Flow.next) _ _ _;show bP (assignInOrder_cons (wpAny_bindName (xI I3 hN hj (.inl hy) rw' (λs2 I4=>?_) (.inr hy))));show assignInOrder_cons (wpAny_bindName (xI I4 hN hi (.inl hx) rv (λs3 I5=>assignInOrder_nil (dG ?_)) (.inr hx)));rw[List.set_comm _ _ (f_ hij)] at I5;show⟨_,H1,I5,q1⟩
def tAug (i:Nat)(te:TE)(ti:By):TS:=λD σ H=>∃ x,σ[i]?=some (some x)/\te σ H λy H1=>ti x y H1 λz H2=>D.nx (σ.set i (some z)) H2
def tAugS (to ti te:TE)(tget:V->V->Hp->VK->Prop)(tip:By)(tset:nU):TS:=λD σ H=>to σ H λo H1=>ti σ H1 λi H2=>tget o i H2 λx H3=>te σ H3 λy H4=>tip x y H4 λz H5=>tset o i z H5 λH6=>D.nx σ H6
def ipI (f:Int->Int->Int):By:=λx y H Q=>∃ i j,x=.int i/\y=.int j/\Q (.int (f i j)) H
def tWhile (c:TT)(tb:TS):TS:=λD σ H=>∃ W:Nat->St->Hp->Prop,(∃ m,W m σ H)/\∀ m σ H,W m σ H->
 c σ H λb H1=>if b=true then ∃ N:St->Hp->Prop,(∀ σ' H',N σ' H'->∃ m',m'<m/\W m' σ' H')/\tb { D with nx:=N,ct:=N,bk:=D.nx } σ H1 else D.nx σ H1
theorem vH {c:Expr}{body:List Stmt}{tc:TT}{tb:TS}(hp:PassesOwn (model X.prog X.w) X.A X.env X.xe)(hc:PT X c tc)(hb:iL X body tb):PS X (.While c body [] pos) (tWhile tc tb):=by
 intro pins s σ H D I h;show ao h λW e929 turn=>?_;clear h;obtain⟨m0,w0⟩:=e929;show wpAny_While (codeAny_whileLoop (λn s'=>∃ σ' H',av X pins σ' H' s'/\W n σ' H') ?_ m0 ⟨σ,H,I,w0⟩);intro n s1 e91;show cE e91 λσ1 H1 I1 w1=>?_;clear e91;show r8 hp (aX (hc pins s1 σ1 H1 _ I1 (turn n σ1 H1 w1)) λb s2 ⟨H2,I2,q2⟩=>?_);cases b with
 | true=>
  obtain⟨N,hN,q2⟩:=q2;rw[if_pos rfl];show r8 hp (aX (hb pins s2 σ1 H2 _ I2 q2) λf s3 q3=>?_);cases f with
  | next=>
   show cE q3 λσ3 H3 I3 n3=>?_;clear q3;show ao (hN σ3 H3 n3) λm' hm w3=>?_;show⟨m',hm,σ3,H3,I3,w3⟩
  | cont=>
   show cE q3 λσ3 H3 I3 n3=>?_;clear q3;show ao (hN σ3 H3 n3) λm' hm w3=>?_;show⟨m',hm,σ3,H3,I3,w3⟩
  | brk=>show q3
  | ret v=>show q3
 | false=>
  rw[if_neg eU];show yh ⟨σ1,H2,I2,q2⟩
end
structure It where
 go:Nat->Hp->Prop
 yld:Nat->Hp->V->Hp->Prop
 stop:Nat->Hp->Prop
def cx (X:Cx)(pins:List (Addr×Obj))(H:Hp)(b:Addr):Prop:=
 H b=none/\b≠X.env.locals/\b∉X.fs/\(b∈X.ex\/X.s₀.heap.objs.size<=b)/\(∀ x c,X.env.cells.lookup x=some c->c≠b)/\∀ p∈X.pn++pins,p.1≠b
theorem av.fpOk {X:Cx}{pins:List (Addr×Obj)}{σ:St}{H H':Hp}{s:Shared}{b:Addr}(I:av X pins σ H s)(hb:s.heap.objs.size<=b)(hn:H' b=none):cx X pins H' b:=by
 show⟨hn,tV (dN I.lt hb),I.nofs hb,.inr (cD I.sz hb),λx c e z=>?_,λp hp z=>?_⟩
 .obtain ⟨v,q⟩:=I.cell x c e;show absurd (dN q.lt (by rw[z];show hb)) (iR _)
 .exact absurd (dN (bZ (I.pin p hp).1) (by rw[z];show hb)) (iR _)
structure iK (P:Program)(w:World)(K:Frag)(tg:Expr)(J:It)(fp:List Addr)(it:Addr)(tn:Nat->Heap->Prop):Prop where
 mem:it∈fp
 obj:∀ i h,tn i h->∀ b∈fp,∃ o,h.get? b=some o/\∀ v,o.data≠.cell v
 keep:∀ i h h',tn i h->(∀ b∈fp,∀ o,h.get? b=some o->h'.get? b=some o)->tn i h'
 item:∀ (X:Cx),X.prog=P->X.w=w->X.K=K->X.calm=true->∀ (i:Nat) (pins:List (Addr×Obj)) (s:Shared) (σ:St) (H:Hp) (E:Value->Shared->Prop),av X pins σ H s->(∀ b∈fp,cx X pins H b)->tn i s.heap->J.go i H->
  wpAny (model P w) X.A (pyNext (.ref it)) (λr s1=>∃ u,r=some u /\
   wpAny (model P w) X.A (letOwnedTupleGo tg (.ref it) u) (λ_ s2=>∃ x H',av X pins σ H' s2/\aI x u/\J.yld i H x H'/\tn (i+1) s2.heap/\∀ b∈fp,H' b=none) E s1) E s
 done:∀ (X:Cx),X.prog=P->X.w=w->X.K=K->X.calm=true->∀ (i:Nat) (pins:List (Addr×Obj)) (s:Shared) (σ:St) (H:Hp) (E:Value->Shared->Prop),av X pins σ H s->(∀ b∈fp,cx X pins H b)->tn i s.heap->J.stop i H->
  wpAny (model P w) X.A (pyNext (.ref it)) (λr s1=>r=none/\av X pins σ H s1) E s
 self:∀ (A:Around) (i:Nat) (s:Shared) (Q:Value->Shared->Prop) (E:Value->Shared->Prop),tn i s.heap->Q (.ref it) s->wpAny (model P w) A (pyIter (.ref it)) Q E s
abbrev TI:=St->Hp->(It->Hp->Prop)->Prop
def FR (X:Cx)(pins:List (Addr×Obj))(σ:St)(tg:Expr)(R:It->Hp->Prop)(itv:Value)(s2:Shared):Prop:=
 ∃ (it:Addr) (fp:List Addr) (tn:Nat->Heap->Prop) (J:It) (H':Hp),itv=.ref it/\av X pins σ H' s2/\iK X.prog X.w X.K tg J fp it tn/\tn 0 s2.heap/\(∀ b∈fp,cx X pins H' b)/\R J H'
def PI (X:Cx)(tg iter:Expr)(wi:TI):Prop:=
 ∀ (pins:List (Addr×Obj)) (s:Shared) (σ:St) (H:Hp) (R:It->Hp->Prop),av X pins σ H s->wi σ H R->
  wpAny (model X.prog X.w) X.A (eval iter X.env) (λv s1=>wpAny (model X.prog X.w) X.A (pyIter v) (FR X pins σ tg R) X.xe s1) X.xe s
theorem jN {M:Model}{A:Around}{E:Value->Shared->Prop}{s:Shared}{tg:Expr}{it:Addr}{u:Value}{o:Obj}{n:String}{vs:Array Value}{Q:Unit->Shared->Prop}(ho:s.heap.get? it=some o)(hc:o.cls=.type n)(hd:o.data=.fields vs)(hn:["enumerate","zip","dict_itemiterator","dict_reverseitemiterator","odict_iterator","itertools.zip_longest","itertools.pairwise"].contains n=false)(hQ:Q () s):wpAny M A (letOwnedTupleGo tg (.ref it) u) Q E s:=by
 unfold letOwnedTupleGo;cases tg <;> first
  | show dG hQ
  | (cases u <;> first
    | show dG hQ
    | (show bP (wpAny_load ho ?_);rw[hc,hd];change wpAny M A (if (["enumerate","zip","dict_itemiterator","dict_reverseitemiterator","odict_iterator","itertools.zip_longest","itertools.pairwise"].contains n && vs[0]? == some (rawInt _))=true then _ else _) Q E s;rw[if_neg (by intro h;rw[hn,yk] at h;cases h)];show dG hQ))
def jq (K:Frag)(a:Addr):It:=
 ⟨λi H=>∃ xs x,aj K H a xs/\xs[i]?=some x,λi H x H'=>H'=H/\∀ xs,aj K H a xs->xs[i]?=some x,λi H=>∃ xs,aj K H a xs/\xs.length<=i⟩
def sJ (K:Frag)(a:Addr):It:=
 ⟨λi H=>∃ xs x,aE K H a xs/\xs[i]?=some x,λi H x H'=>H'=H/\∀ xs,aE K H a xs->xs[i]?=some x,λi H=>∃ xs,aE K H a xs/\xs.length<=i⟩
def ja (lo:Int)(n:Nat):It:=⟨λi _=>i<n,λi H x H'=>H'=H/\x=.int (lo+i),λi _=>n<=i⟩
theorem Ie {P:Program}{w:World}{K:Frag}{tg:Expr}(a it:Addr):iK P w K tg (jq K a) [it] it (λi h=>h.IsListIter it a i) where
 mem:=by simp
 obj:=λi h st b hb=>by
  have e:b=it:=by simpa using hb
  subst e;show bh st λo e c d=>?_;clear st;show⟨o,e,λv z=>by rw[d] at z;cases z⟩
 keep:=λi h h' st k=>st.at λo e=>k it (by simp) o e
 item:=by
  intro X hP hw hK hc i pins s σ H E I hf st hg;subst hP hw hK;show cE hg λxs x hq hx=>?_;clear hg;show bh (I.list hq) λits rv p hz=>?_;show ao (rv.get hx) λu hu ru=>?_;show gn (hf it (by simp)) λf0 f1 f2 f3 f4 f5=>?_;show Ci st p.isList (x:=u) (by simpa using hu) λh' st' sb=>?_;have I1:av X pins σ H { s with heap:=h' }:=I.turned (t':=s.toks) (λb o hb e=>(sb.2 b hb).trans e) f0 f1 f3 f4 f5;show bh (id st') λo e c d=>?_;show⟨u,rfl,jN (s:={ s with heap:=h' }) e c d ⇑0 ⟨x,H,I1,ru,⟨rfl,λys hy=>by rw[I.list_inj hy hq];show hx⟩,st',λb hb=>(hf b hb).1⟩⟩
 done:=by
  intro X hP hw hK hc i pins s σ H E I hf st hg;subst hP hw hK;show ao hg λxs hq hx=>?_;clear hg;show bh (I.list hq) λits rv p hz=>?_;show gn (hf it (by simp)) λf0 f1 f2 f3 f4 f5=>?_;have hl:=rv.length;show BX (I.ok.hd hc) st p.isList (by simp;omega) λh' eb=>⟨rfl,I.turned (t':=s.toks) (λb o hb e=>eb b o hb e) f0 f1 f3 f4 f5⟩
 self:=λ_ _ _ _ _ st h=>wpAny_pyIter_listiter st h
theorem IC {P:Program}{w:World}{K:Frag}{tg:Expr}(a it:Addr):iK P w K tg (sJ K a) [it] it (λi h=>h.IsTupleIter it a i) where
 mem:=by simp
 obj:=λi h st b hb=>by
  have e:b=it:=by simpa using hb
  subst e;show bh st λo e c d=>?_;clear st;show⟨o,e,λv z=>by rw[d] at z;cases z⟩
 keep:=λi h h' st k=>st.at λo e=>k it (by simp) o e
 item:=by
  intro X hP hw hK hc i pins s σ H E I hf st hg;subst hP hw hK;show cE hg λxs x hq hx=>?_;clear hg;show bh (I.tuple hq) λits rv p hz=>?_;show ao (rv.get hx) λu hu ru=>?_;show gn (hf it (by simp)) λf0 f1 f2 f3 f4 f5=>?_;show wpAny_pyNext_tuple_item st (show s.heap.IsTuple a its.toArray from p) (x:=u) (by simpa using hu) λh' st' sb=>?_;have I1:av X pins σ H { s with heap:=h' }:=I.turned (t':=s.toks) (λb o hb e=>(sb.2 b hb).trans e) f0 f1 f3 f4 f5;show bh (id st') λo e c d=>?_;show⟨u,rfl,jN (s:={ s with heap:=h' }) e c d ⇑0 ⟨x,H,I1,ru,⟨rfl,λys hy=>by rw[I.tuple_inj hy hq];show hx⟩,st',λb hb=>(hf b hb).1⟩⟩
 done:=by
  intro X hP hw hK hc i pins s σ H E I hf st hg;subst hP hw hK;show ao hg λxs hq hx=>?_;clear hg;show bh (I.tuple hq) λits rv p hz=>?_;show gn (hf it (by simp)) λf0 f1 f2 f3 f4 f5=>?_;have hl:=rv.length;show wpAny_pyNext_tuple_end (I.ok.hd hc) st (show s.heap.IsTuple a its.toArray from p) (by simp;omega) λh' eb=>⟨rfl,I.turned (t':=s.toks) (λb o hb e=>eb b o hb e) f0 f1 f3 f4 f5⟩
 self:=λ_ _ _ _ _ st h=>wpAny_pyIter_tupleiter st h
theorem Iz {P:Program}{w:World}{K:Frag}{tg:Expr}(it:Addr)(lo:Int)(n:Nat):iK P w K tg (ja lo n) [it] it (λi h=>IsRangeIter h it (lo+(i:Nat)*1) ((n:Int)-(i:Nat)) 1) where
 mem:=by simp
 obj:=λi h st b hb=>by
  have e:b=it:=by simpa using hb
  subst e;show⟨_,st,λv z=>by
   have z':Data.fields _=Data.cell v:=z;cases z'⟩
 keep:=λi h h' st k=>k it (by simp) _ st
 item:=by
  intro X hP hw hK hc i pins s σ H E I hf st hg;subst hP hw hK;show gn (hf it (by simp)) λf0 f1 f2 f3 f4 f5=>?_;have W:=Walks.range (prog:=X.prog) (w:=X.w) (I.ok.hd hc) it lo 1 n;show W.item i s _ _ hg st λv h' tk hv st' kk=>?_;obtain⟨t,rfl⟩:=hv;have I1:av X pins σ H { s with heap:=h',toks:=tk }:=I.turned (λb o hb e=>kk b o (by simpa using hb) e) f0 f1 f3 f4 f5;show⟨_,rfl,jN (s:={ s with heap:=h',toks:=tk }) (n:="range_iterator") st' rfl rfl ⇑0 ⟨.int (lo+i),H,I1,⟨t,?_⟩,⟨rfl,rfl⟩,st',λb hb=>(hf b hb).1⟩⟩;rw[Int.mul_one]
 done:=by
  intro X hP hw hK hc i pins s σ H E I hf st hg;subst hP hw hK;show gn (hf it (by simp)) λf0 f1 f2 f3 f4 f5=>?_;show wpAny_pyNext_range_end (I.ok.hd hc) st (by have:n<=i:=hg;omega) λh' eb=>⟨rfl,I.turned (t':=s.toks) (λb o hb e=>eb b o hb e) f0 f1 f3 f4 f5⟩
 self:=λ_ _ _ _ _ st h=>wpAny_pyIter_rangeiter st h
section
variable {X:Cx}{tg:Expr}
def yN (K:Frag)(tl:TE):TI:=λσ H R=>tl σ H λx H1=>∃ a,x=.ref a/\(∃ xs,aj K H1 a xs)/\R (jq K a) H1
def iTup (K:Frag)(tl:TE):TI:=λσ H R=>tl σ H λx H1=>∃ a,x=.ref a/\(∃ xs,aE K H1 a xs)/\R (sJ K a) H1
theorem eJ {l:Expr}{tl:TE}(hl:PE X l tl):PI X tg l (yN X.K tl):=by
 intro pins s σ H R I h;show aX (hl pins s σ H _ I h) λv s1 ⟨x,H1,I1,r1,q1⟩=>?_;show bh q1 λa e e930 q=>?_;clear q1;obtain⟨xs,hq⟩:=e930;subst e;cases r1;show bh (I1.list hq) λits rv p hz=>?_;show yv p.isList ?_;show kB s1.heap.objs.size [s1.heap.objs.size] _ _ H1 ⟨rfl,I1.kept (t':=s1.toks) λb o e=>d5 _ e,Ie a _,⟨_,ij _ rfl,rfl,rfl⟩,λb hb=>?_,q⟩;have e:b=s1.heap.objs.size:=by simpa using hb
 subst e;show I1.fpOk (aQ _) (I1.hok.fresh (aQ _))
theorem y2 {l:Expr}{tl:TE}(hl:PE X l tl):PI X tg l (iTup X.K tl):=by
 intro pins s σ H R I h;show aX (hl pins s σ H _ I h) λv s1 ⟨x,H1,I1,r1,q1⟩=>?_;show bh q1 λa e e931 q=>?_;clear q1;obtain⟨xs,hq⟩:=e931;subst e;cases r1;show bh (I1.tuple hq) λits rv p hz=>?_;show wpAny_pyIter_tuple (show s1.heap.IsTuple a its.toArray from p) ?_;show kB s1.heap.objs.size [s1.heap.objs.size] _ _ H1 ⟨rfl,I1.kept (t':=s1.toks) λb o e=>d5 _ e,IC a _,⟨_,ij _ rfl,rfl,rfl⟩,λb hb=>?_,q⟩;have e:b=s1.heap.objs.size:=by simpa using hb
 subst e;show I1.fpOk (aQ _) (I1.hok.fresh (aQ _))
theorem EB {pins:List (Addr×Obj)}{σ:St}{H:Hp}{s:Shared}{R:It->Hp->Prop}{E:Value->Shared->Prop}{lo hi:Int}{t u v:Tok}{tk:Nat}(I:av X pins σ H s)(h1:-(2 ^ 62)<=lo)(h2:lo<2 ^ 62)(h3:-(2 ^ 62)<=hi)(h4:hi<2 ^ 62)(q:R (ja lo (hi-lo).toNat) H):wpAny (model X.prog X.w) X.A (pyIter (.ref s.heap.objs.size)) (FR X pins σ tg R) E { s with heap:=s.heap.push { cls:=.type "range",data:=.fields #[.int lo t,.int hi u,.int 1 v] },toks:=tk }:=by
 show wpAny_pyIter_range (IsRange.new ..) (small_one h1 h2 h3 h4) ?_;have I1:av X pins σ H { s with heap:=s.heap.push { cls:=.type "range",data:=.fields #[.int lo t,.int hi u,.int 1 v] },toks:=tk }:=I.kept λb o e=>d5 _ e;show kB ((s.heap.push { cls:=.type "range",data:=.fields #[.int lo t,.int hi u,.int 1 v] }).objs.size) [(s.heap.push { cls:=.type "range",data:=.fields #[.int lo t,.int hi u,.int 1 v] }).objs.size] _ _ H ⟨rfl,I1.kept (t':=tk) λb o e=>d5 _ e,Iz _ lo (hi-lo).toNat,?_,λb hb=>?_,q⟩
 .have e1:lo+((0:Nat):Int)*1=lo:=by simp
  have e2:(((hi-lo).toNat:Nat):Int)-((0:Nat):Int)=Builtin.Range.rangeSize lo hi 1:=by rw[rangeSize_one];split <;> omega
  change IsRangeIter _ _ (lo+((0:Nat):Int)*1) ((((hi-lo).toNat:Nat):Int)-((0:Nat):Int)) 1;rw[e1,e2];show ij _ rfl
 .have e:b=(s.heap.push { cls:=.type "range",data:=.fields #[.int lo t,.int hi u,.int 1 v] }).objs.size:=by simpa using hb
  subst e;show I1.fpOk (aQ _) (I1.hok.fresh (aQ _))
def yO (ta:TA):TI:=λσ H R=>ta σ H λvs H1=>∃ j:Int,vs=[.int j]/\-(2 ^ 62)<=j/\j<2 ^ 62/\R (ja 0 j.toNat) H1
def Dk (ta:TA):TI:=λσ H R=>ta σ H λvs H1=>∃ i j:Int,vs=[.int i,.int j]/\(-(2 ^ 62)<=i/\i<2 ^ 62/\-(2 ^ 62)<=j/\j<2 ^ 62)/\R (ja i (j-i).toNat) H1
theorem HX {a:Expr}{ta:TA}{p pos:Pos}(hg:Gl X "range")(hm:X.mg "range" = none)(ha:PA X [a] ta)(hs:starEach [a] X.env=[(false,eval a X.env)]:=by rfl):PI X tg (.Call (.Name "range" p) [a] [] pos) (yO ta):=by
 intro pins s σ H R I h;show Call_ (oK I hg hm boot_range (wI (aX (ha pos pins s σ H _ I h) λus s1 ⟨vs,H1,I1,r1,q1⟩=>?_) hs rfl));obtain⟨j,e,q1,q2,q⟩:=q1;subst e;cases r1 with
 | cons r rr=>
  cases rr;obtain⟨t,rfl⟩:=r;show call_range_1 (EB I1 ∅ ∅ q1 q2 (by simpa using q))
theorem HY {a b:Expr}{ta:TA}{p pos:Pos}(hg:Gl X "range")(hm:X.mg "range" = none)(ha:PA X [a,b] ta)(hs:starEach [a,b] X.env=[(false,eval a X.env),(false,eval b X.env)]:=by rfl)(hs2:starEach [b] X.env=[(false,eval b X.env)]:=by rfl):
  PI X tg (.Call (.Name "range" p) [a,b] [] pos) (Dk ta):=by
 intro pins s σ H R I h;show Call_ (oK I hg hm boot_range (wI (aX (ha pos pins s σ H _ I h) λus s1 ⟨vs,H1,I1,r1,q1⟩=>?_) (by rw[hs,hs2]) (by rw[hs2];rfl)));show cF q1 λi j e e932 q=>?_;clear q1;obtain⟨q1,q2,q3,q4⟩:=e932;subst e;cases r1 with
 | cons r rr=>
  cases rr with
  | cons r' rr=>
   cases rr;obtain⟨t,rfl⟩:=r;obtain⟨t',rfl⟩:=r';show call_range_2 (EB I1 q1 q2 q3 q4 q)
def tFor (wi:TI)(g:TG)(tb:TS):TS:=λD σ H=>wi σ H λJ H1=>∃ W:Nat->Nat->St->Hp->Prop,(∃ m,W 0 m σ H1)/\∀ i m σ H,W i m σ H->
 (J.stop i H/\D.nx σ H)\/(J.go i H/\∃ N:St->Hp->Prop,(∀ σ' H',N σ' H'->∃ m',m'<m/\W (i+1) m' σ' H')/\∀ x H',J.yld i H x H'->g x σ H' λσ2 H2=>tb { D with nx:=N,ct:=N,bk:=D.nx } σ2 H2)
def vh (fp:List Addr)(h:Heap):List (Addr×Obj):=fp.filterMap λb=>(h.get? b).map λo=>(b,o)
theorem vO {fp:List Addr}{h:Heap}{b:Addr}{o:Obj}(hb:b∈fp)(e:h.get? b=some o):(b,o)∈vh fp h:=List.mem_filterMap.mpr ⟨b,hb,by rw[e];rfl⟩
theorem HH {fp:List Addr}{h:Heap}{p:Addr×Obj}(hp:p∈vh fp h):p.1∈fp/\h.get? p.1=some p.2:=by
 show ao (List.mem_filterMap.mp hp) λb hb e=>?_;cases q:h.get? b with
 | none=>rw[q] at e;cases e
 | some o=>
  rw[q] at e;have e':(b,o)=p:=gw e;subst e';show⟨hb,q⟩
theorem av.pinned {pins:List (Addr×Obj)}{σ:St}{H:Hp}{s:Shared}{fp:List Addr}(I:av X pins σ H s)(hf:∀ b∈fp,cx X pins H b)(ho:∀ b∈fp,∃ o,s.heap.get? b=some o/\∀ v,o.data≠.cell v):av X (pins++vh fp s.heap) σ H s:=
 I.pins_of λp hp=>(cj.mp hp).elim (λz=>I.pin p (gQ _ z)) λz=>by
  obtain⟨hb,e⟩:=HH z;show cA (hf p.1 hb) λf0 f1 f2 _=>?_;show ao (ho p.1 hb) λo e' d=>?_;rw[e] at e';cases e';show⟨e,f0,f1,f2,d⟩
theorem av.unpinned {pins pl:List (Addr×Obj)}{σ:St}{H:Hp}{s:Shared}(I:av X (pins++pl) σ H s):av X pins σ H s:=I.pins_of λp hp=>I.pin p (gQ _ (si _ hp))
theorem dt {iter:Expr}{body:List Stmt}{wi:TI}{g:TG}{tb:TS}{pos:Pos}(hp:PassesOwn (model X.prog X.w) X.A X.env X.xe)(hc:X.calm=true)(hi:PI X tg iter wi)(hg:PG X tg g)(hb:iL X body tb)(hs:∀ x,foldedSetIterable iter X.env x=pure x:=by intro _;rfl):PS X (.For tg iter body [] pos) (tFor wi g tb):=by
 intro pins s σ H D I h;show wpAny_For (aX (hi pins s σ H _ I h) λv s1 h1=>aX h1 λitv s2 h2=>?_) hs;show iE h2 λit fp tn J H2 e I2 T e933=>?_;clear h2;show bC e933 λst2 f2 e934=>?_;clear e933;obtain⟨W,⟨m0,w0⟩,turn⟩:=e934;subst e
 have stat:∀ {H':Hp},(∀ b∈fp,H' b=none)->∀ b∈fp,cx X pins H' b:=λhn b hb=>⟨hn b hb,(f2 b hb).2⟩
 show codeAny_forLoop_any (λn s'=>∃ i σ' H',av X pins σ' H' s'/\tn i s'.heap/\(∀ b∈fp,H' b=none)/\W i n σ' H') ?_ m0 ⟨0,σ,H2,I2,st2,λb hb=>(f2 b hb).1,w0⟩;intro n s3 e92;show cK e92 λi σ3 H3 I3 st3 fr3 w3=>?_;clear e92;rcases turn i n σ3 H3 w3 with ⟨stop,qn⟩|⟨go,N,hN,step⟩
 .refine r8 hp (aX (T.done X rfl rfl rfl hc i pins s3 σ3 H3 X.xe I3 (stat fr3) st3 stop) λr s4 ⟨hr,I4⟩=>?_);subst hr;show yh ⟨σ3,H3,I4,qn⟩
 .refine r8 hp (aX (T.item X rfl rfl rfl hc i pins s3 σ3 H3 X.xe I3 (stat fr3) st3 go) λr s4 ⟨u,hr,h4⟩=>?_);subst hr;show r8 hp (aX h4 λ_ s5 ⟨x,H5,I5,r5,y5,st5,fr5⟩=>?_);have I5':=I5.pinned (stat fr5) (T.obj _ _ st5);show r8 hp (aX (hg _ s5 σ3 H5 x u _ I5' r5 (step x H5 y5)) λ_ s6 ⟨σ6,H6,I6,q6⟩=>?_);show r8 hp (aX (hb _ s6 σ6 H6 _ I6 q6) λf s7 q7=>?_);have again:∀ {σ7:St} {H7:Hp},av X (pins++vh fp s5.heap) σ7 H7 s7->N σ7 H7->∃ m,m<n/\∃ i σ' H',av X pins σ' H' s7/\tn i s7.heap/\(∀ b∈fp,H' b=none)/\W i m σ' H':=λ{σ7 H7} I7 n7=>by
   show ao (hN σ7 H7 n7) λm' hm w7=>?_;show⟨m',hm,i+1,σ7,H7,I7.unpinned,T.keep _ _ _ st5 λb hb o e=>(I7.pin (b,o) (gQ _ (gQ _ (vO hb e)))).1,λb hb=>?_,w7⟩;show ao (T.obj _ _ st5 b hb) λo e d=>?_;show (I7.pin (b,o) (gQ _ (gQ _ (vO hb e)))).2.1
  cases f with
  | next=>obtain⟨σ7,H7,I7,n7⟩:=q7;show again I7 n7
  | cont=>obtain⟨σ7,H7,I7,n7⟩:=q7;show again I7 n7
  | brk=>obtain⟨σ7,H7,I7,q7⟩:=q7;show⟨σ7,H7,I7.unpinned,q7⟩
  | ret v=>obtain⟨x7,σ7,H7,I7,r7,q7⟩:=q7;show⟨x7,σ7,H7,I7.unpinned,r7,q7⟩
end
theorem tH {K:Frag}{a:Addr}{xs:List V}{g:TG}{tb:TS}{D:cO}{σ:St}{H:Hp}(Pv:Nat->St->Hp->Prop)(h0:Pv 0 σ H)(hl:∀ i σ H,i<=xs.length->Pv i σ H->aj K H a xs)(hs:∀ i x σ H,xs[i]?=some x->Pv i σ H->g x σ H λσ2 H2=>tb { D with nx:=Pv (i+1),ct:=Pv (i+1),bk:=D.nx } σ2 H2)(hd:∀ σ H,Pv xs.length σ H->D.nx σ H):
  ∃ W:Nat->Nat->St->Hp->Prop,(∃ m,W 0 m σ H)/\∀ i m σ H,W i m σ H->
   ((jq K a).stop i H/\D.nx σ H)\/((jq K a).go i H/\∃ N:St->Hp->Prop,(∀ σ' H',N σ' H'->∃ m',m'<m/\W (i+1) m' σ' H')/\∀ x H',(jq K a).yld i H x H'->g x σ H' λσ2 H2=>tb { D with nx:=N,ct:=N,bk:=D.nx } σ2 H2):=by
 show⟨λi m σ H=>m=xs.length-i/\i<=xs.length/\Pv i σ H,⟨xs.length,by simp,fE _,h0⟩,?_⟩;intro i m σ H e93;show bC e93 λe935 hi p=>?_;clear e93;obtain rfl:=e935;have q:=hl i σ H hi p;by_cases hlt:i<xs.length
 .refine .inr ⟨⟨xs,xs[i],q,by simp[hlt]⟩,Pv (i+1),λσ' H' p'=>⟨xs.length-(i+1),∅,rfl,hlt,p'⟩,λx H' y=>?_⟩;obtain⟨e,y⟩:=y;subst e;show hs i x σ _ (y xs q) p
 .have e:i=xs.length:=∅
  subst e;show .inl ⟨⟨xs,q,aQ _⟩,hd σ H p⟩
theorem Dt {K:Frag}{a:Addr}{xs:List V}{g:TG}{tb:TS}{D:cO}{σ:St}{H:Hp}(Pv:Nat->St->Hp->Prop)(h0:Pv 0 σ H)(hl:∀ i σ H,i<=xs.length->Pv i σ H->aE K H a xs)(hs:∀ i x σ H,xs[i]?=some x->Pv i σ H->g x σ H λσ2 H2=>tb { D with nx:=Pv (i+1),ct:=Pv (i+1),bk:=D.nx } σ2 H2)(hd:∀ σ H,Pv xs.length σ H->D.nx σ H):
  ∃ W:Nat->Nat->St->Hp->Prop,(∃ m,W 0 m σ H)/\∀ i m σ H,W i m σ H->
   ((sJ K a).stop i H/\D.nx σ H)\/((sJ K a).go i H/\∃ N:St->Hp->Prop,(∀ σ' H',N σ' H'->∃ m',m'<m/\W (i+1) m' σ' H')/\∀ x H',(sJ K a).yld i H x H'->g x σ H' λσ2 H2=>tb { D with nx:=N,ct:=N,bk:=D.nx } σ2 H2):=by
 show⟨λi m σ H=>m=xs.length-i/\i<=xs.length/\Pv i σ H,⟨xs.length,by simp,fE _,h0⟩,?_⟩;intro i m σ H e94;show bC e94 λe936 hi p=>?_;clear e94;obtain rfl:=e936;have q:=hl i σ H hi p;by_cases hlt:i<xs.length
 .refine .inr ⟨⟨xs,xs[i],q,by simp[hlt]⟩,Pv (i+1),λσ' H' p'=>⟨xs.length-(i+1),∅,rfl,hlt,p'⟩,λx H' y=>?_⟩;obtain⟨e,y⟩:=y;subst e;show hs i x σ _ (y xs q) p
 .have e:i=xs.length:=∅
  subst e;show .inl ⟨⟨xs,q,aQ _⟩,hd σ H p⟩
theorem hO {lo:Int}{n:Nat}{g:TG}{tb:TS}{D:cO}{σ:St}{H:Hp}(Pv:Nat->St->Hp->Prop)(h0:Pv 0 σ H)(hs:∀ i σ H,i<n->Pv i σ H->g (.int (lo+i)) σ H λσ2 H2=>tb { D with nx:=Pv (i+1),ct:=Pv (i+1),bk:=D.nx } σ2 H2)(hd:∀ σ H,Pv n σ H->D.nx σ H):
  ∃ W:Nat->Nat->St->Hp->Prop,(∃ m,W 0 m σ H)/\∀ i m σ H,W i m σ H->
   ((ja lo n).stop i H/\D.nx σ H)\/((ja lo n).go i H/\∃ N:St->Hp->Prop,(∀ σ' H',N σ' H'->∃ m',m'<m/\W (i+1) m' σ' H')/\∀ x H',(ja lo n).yld i H x H'->g x σ H' λσ2 H2=>tb { D with nx:=N,ct:=N,bk:=D.nx } σ2 H2):=by
 show⟨λi m σ H=>m=n-i/\i<=n/\Pv i σ H,⟨n,by simp,fE _,h0⟩,?_⟩;intro i m σ H e95;show bC e95 λe937 hi p=>?_;clear e95;obtain rfl:=e937;by_cases hlt:i<n
 .refine .inr ⟨hlt,Pv (i+1),λσ' H' p'=>⟨n-(i+1),∅,rfl,hlt,p'⟩,λx H' y=>?_⟩;obtain⟨e,y⟩:=y;subst e y;show hs i σ _ hlt p
 .have e:i=n:=∅
  subst e;show .inl ⟨aQ _,hd σ H p⟩
abbrev R2:=V->V->Hp->VK->Prop
def cm (X:Cx)(f:Value->Value->Sem Value)(r:R2):Prop:=
 ∀ (pins:List (Addr×Obj)) (s:Shared) (σ:St) (H:Hp) (x y:V) (v u:Value) (Q:VK),av X pins σ H s->aI x v->aI y u->r x y H Q->
  wpAny (model X.prog X.w) X.A (f v u) (EP X pins σ Q) X.xe s
def Bv (X:Cx)(f:Value->Sem Value)(r:V->Hp->VK->Prop):Prop:=
 ∀ (pins:List (Addr×Obj)) (s:Shared) (σ:St) (H:Hp) (x:V) (v:Value) (Q:VK),av X pins σ H s->aI x v->r x H Q->
  wpAny (model X.prog X.w) X.A (f v) (EP X pins σ Q) X.xe s
def jb (X:Cx)(f:Value)(r:List V->Hp->VK->Prop):Prop:=
 ∀ (pins:List (Addr×Obj)) (s:Shared) (σ:St) (H:Hp) (xs:List V) (us:List Value) (Q:VK),av X pins σ H s->au xs us->r xs H Q->
  wpAny (model X.prog X.w) X.A (call f us) (EP X pins σ Q) X.xe s
def Bx (X:Cx)(r:V->Hp->(Bool->Hp->Prop)->Prop):Prop:=
 ∀ (pins:List (Addr×Obj)) (s:Shared) (σ:St) (H:Hp) (x:V) (v:Value) (Q:Bool->Hp->Prop),av X pins σ H s->aI x v->r x H Q->
  wpAny (model X.prog X.w) X.A (truthy v) (TP X pins σ Q) X.xe s
def tOp (r:R2)(ta tb:TE):TE:=λσ H Q=>ta σ H λx H1=>tb σ H1 λy H2=>r x y H2 Q
def tUn (r:V->Hp->VK->Prop)(ta:TE):TE:=λσ H Q=>ta σ H λx H1=>r x H1 Q
def rI (C:Int->Int->Prop)(g:Int->Int->V):R2:=λx y H Q=>∃ i j,x=.int i/\y=.int j/\C i j/\Q (g i j) H
def rI0 (g:Int->Int->V):R2:=λx y H Q=>∃ i j,x=.int i/\y=.int j/\Q (g i j) H
def rU (g:Int->V):V->Hp->VK->Prop:=λx H Q=>∃ i,x=.int i/\Q (g i) H
section
variable {X:Cx}{a b c:Expr}{ta tb tc:TE}{pos:Pos}
theorem binT (ha:PE X a ta)(hb:PE X b tb){pins:List (Addr×Obj)}{s:Shared}{σ:St}{H:Hp}{R:V->V->Hp->Prop}(I:av X pins σ H s)(h:ta σ H λx H1=>tb σ H1 λy H2=>R x y H2){Q:Value->Shared->Prop}{f:Value->Value->Sem Value}(hf:∀ v u s2 x y H2,av X pins σ H2 s2->aI x v->aI y u->R x y H2->wpAny (model X.prog X.w) X.A (f v u) Q X.xe s2):
  wpAny (model X.prog X.w) X.A (eval a X.env) (λv s₁=>wpAny (model X.prog X.w) X.A (eval b X.env) (λu s₂=>wpAny (model X.prog X.w) X.A (f v u) Q X.xe s₂) X.xe s₁) X.xe s:=by
 show aX (ha pins s σ H _ I h) λv s1 ⟨x,H1,I1,r1,q1⟩=>?_;show aX (hb pins s1 σ H1 _ I1 q1) λu s2 ⟨y,H2,I2,r2,q2⟩=>?_;show hf v u s2 x y H2 I2 r1 r2 q2
theorem uh {op:Operator}{r:R2}(ho:cm X (binaryOp op) r)(ha:PE X a ta)(hb:PE X b tb):PE X (.BinOp a op b pos) (tOp r ta tb):=by
 intro pins s σ H Q I h;show wpAny_BinOp (binT ha hb I h λv u s2 x y H2 I2 rx ry q=>ho pins s2 σ H2 x y v u Q I2 rx ry q)
theorem gm {op:UnaryOp}{r:V->Hp->VK->Prop}(ho:Bv X (unaryOp op) r)(ha:PE X a ta):PE X (.UnaryOp op a pos) (tUn r ta):=by
 intro pins s σ H Q I h;show UnaryOp_ (aX (ha pins s σ H _ I h) λv s1 ⟨x,H1,I1,r1,q1⟩=>ho pins s1 σ H1 x v Q I1 r1 q1)
theorem opI {f:Value->Value->Sem Value}{C:Int->Int->Prop}{g:Int->Int->Int}(rule:∀ (i j:Int) (t u:Tok) (s:Shared) (Q:Value->Shared->Prop) (E:Value->Shared->Prop),C i j->Q (.int (g i j) s.toks) { s with toks:=s.toks+1 }->wpAny (model X.prog X.w) X.A (f (.int i t) (.int j u)) Q E s):
  cm X f (rI C λi j=>.int (g i j)):=by
 intro pins s σ H x y v u Q I rx ry h;show eW h λi j e938 e939 hc q=>?_;clear h;subst e938;obtain rfl:=e939;obtain⟨t,rfl⟩:=rx;obtain⟨t',rfl⟩:=ry;show rule i j t t' s _ _ hc ⟨.int (g i j),H,I.tok _,⟨_,rfl⟩,q⟩
theorem opI0 {f:Value->Value->Sem Value}{g:Int->Int->Int}(rule:∀ (i j:Int) (t u:Tok) (s:Shared) (Q:Value->Shared->Prop) (E:Value->Shared->Prop),Q (.int (g i j) s.toks) { s with toks:=s.toks+1 }->wpAny (model X.prog X.w) X.A (f (.int i t) (.int j u)) Q E s):
  cm X f (rI0 λi j=>.int (g i j)):=by
 intro pins s σ H x y v u Q I rx ry h;show cF h λi j e940 e941 q=>?_;clear h;subst e940;obtain rfl:=e941;obtain⟨t,rfl⟩:=rx;obtain⟨t',rfl⟩:=ry;show rule i j t t' s _ _ ⟨.int (g i j),H,I.tok _,⟨_,rfl⟩,q⟩
theorem opB0 {f:Value->Value->Sem Value}{g:Int->Int->Bool}(rule:∀ (i j:Int) (t u:Tok) (s:Shared) (Q:Value->Shared->Prop) (E:Value->Shared->Prop),Q (.bool (g i j)) s->wpAny (model X.prog X.w) X.A (f (.int i t) (.int j u)) Q E s):
  cm X f (rI0 λi j=>.bl (g i j)):=by
 intro pins s σ H x y v u Q I rx ry h;show cF h λi j e942 e943 q=>?_;clear h;subst e942;obtain rfl:=e943;obtain⟨t,rfl⟩:=rx;obtain⟨t',rfl⟩:=ry;show rule i j t t' s _ _ ⟨.bl (g i j),H,I,rfl,q⟩
def Cq (i j:Int):Prop:=0<j/\j<1073741824
def wM (i j:Int):Prop:=0<=j/\j<=1000000/\i.natAbs<2 ^ 64
def sM (i j:Int):Prop:=(-(2 ^ 64)<i/\i<2 ^ 64)\/(-(2 ^ 64)<j/\j<2 ^ 64)
theorem sM.ok {i j:Int}(h:sM i j):IntMulOk i j:=by
 rcases h with ⟨h1,h2⟩|⟨h1,h2⟩
 .exact .of_left (intBits_le_64 h1 h2)
 .exact .of_right (intBits_le_64 h1 h2)
theorem iA (k:Nat):(0:Int)<=2 ^ k:=by
 rw[two_pow_cast];show BL _
theorem eL:cm X (binaryOp .Add) (rI0 λi j=>.int (i+j)):=opI0 λ_ _ _ _ _ _ _ q=>add_int q
theorem iG:cm X (binaryOp .Sub) (rI0 λi j=>.int (i-j)):=opI0 λ_ _ _ _ _ _ _ q=>sub_int q
theorem jV:cm X (binaryOp .Mult) (rI sM λi j=>.int (i*j)):=opI λ_ _ _ _ _ _ _ hc q=>mul_int q hc.ok
theorem xx:cm X (binaryOp .FloorDiv) (rI Cq λi j=>.int (i / j)):=opI λi j _ _ _ _ _ hc q=>by
 have h1:(0:Int)<j:=hc.1;have h2:j<1073741824:=hc.2;show floordiv_int ∅ (by rw[sI i ∅];show q) (.inl (PyProof.noPylong_small ∅))
theorem fY:cm X (binaryOp .Mod) (rI (λ_ j=>0<j) λi j=>.int (i % j)):=opI λi j _ _ _ _ _ hc q=>by
 have h1:(0:Int)<j:=hc;show mod_int' ∅ (by rw[Int.fmod_eq_emod_of_nonneg i ∅];show q)
theorem DH:cm X (binaryOp .Mod) (rI (λ_ j=>j≠0) λi j=>.int (i.fmod j)):=opI λ_ _ _ _ _ _ _ hc q=>mod_int' hc q
theorem CI:cm X (binaryOp .Pow) (rI wM λi j=>.int (i ^ j.toNat)):=opI λ_ _ _ _ _ _ _ hc q=>pow_int_small hc.1 hc.2.1 hc.2.2 q
theorem CJ:cm X (binaryOp .RShift) (rI (λ_ j=>0<=j) λi j=>.int (i / 2 ^ j.toNat)):=opI λi j _ _ _ _ _ hc q=>
 rshift_int hc (by rw[sI i (iA _)];show q)
theorem unI {f:Value->Sem Value}{g:Int->Int}(rule:∀ (i:Int) (t:Tok) (s:Shared) (Q:Value->Shared->Prop) (E:Value->Shared->Prop),Q (.int (g i) s.toks) { s with toks:=s.toks+1 }->wpAny (model X.prog X.w) X.A (f (.int i t)) Q E s):
  Bv X f (rU λi=>.int (g i)):=by
 intro pins s σ H x v Q I rx h;show ao h λi e944 q=>?_;clear h;subst e944;obtain⟨t,rfl⟩:=rx;show rule i t s _ _ ⟨.int (g i),H,I.tok _,⟨_,rfl⟩,q⟩
theorem gp:Bv X (unaryOp .USub) (rU λi=>.int (-i)):=unI λ_ _ _ _ _ q=>neg_int q
end
noncomputable def scal:V->V->Bool
 | .non,.non=>true | .non,.int _=>true | .int _,.non=>true | .non,.bl _=>true | .bl _,.non=>true | .non,.str _=>true | .str _,.non=>true
 | .int _,.int _=>true | .bl _,.bl _=>true | .str _,.str _=>true | .byt _,.byt _=>true
 | .int _,.str _=>true | .str _,.int _=>true | .bl _,.str _=>true | .str _,.bl _=>true
 | _,_=>false
def rEq:R2:=λx y H Q=>scal x y=true/\Q (.bl (decide (x=y))) H
def rNe:R2:=λx y H Q=>scal x y=true/\Q (.bl (!decide (x=y))) H
theorem Dp {i j:Int}:decide (V.int i=V.int j)=(i == j):=by
 rw[sF];simp
theorem Cy {i j:Bool}:decide (V.bl i=V.bl j)=(i == j):=by
 rw[sF];simp
theorem Dq {i j:Str}:decide (V.str i=V.str j)=(i == j):=by
 rw[sF];simp
theorem Do {i j:Array UInt8}:decide (V.byt i=V.byt j)=(i.toList == j.toList):=by
 rw[sF];cases i;cases j;simp
section
variable {X:Cx}{a b c:Expr}{ta tb tc:TE}{pos:Pos}
theorem dr {pins:List (Addr×Obj)}{σ:St}{H:Hp}{s:Shared}{Q:VK}{k k':Bool}(I:av X pins σ H s)(q:Q (.bl k) H)(e:k=k'):EP X pins σ Q (.bool k') s:=by
 subst e;show aM (.bl k) H ⟨I,rfl,q⟩
theorem dI:cm X (compareOp .Eq) rEq:=by
 intro pins s σ H x y v u Q I rx ry h;obtain⟨hs,q⟩:=h;cases x with
 | non=>
  cases rx;cases y with
  | non=>cases ry;show PySem.EqNone.eq_none_none (dr I q (by simp))
  | bl j=>cases ry;show PySem.EqNone.eq_none_bool (dr I q (by simp))
  | int j=>obtain⟨t',rfl⟩:=ry;show PySem.EqNone.eq_none_int (dr I q (by simp))
  | str j=>obtain⟨t',rfl⟩:=ry;show PySem.EqNone.eq_none_str (dr I q (by simp))
  | _=>show absurd (show false=true from hs) eU
 | bl i=>
  cases rx;cases y with
  | non=>cases ry;show PySem.EqNone.eq_bool_none (dr I q (by simp))
  | bl j=>cases ry;show eq_bool (dr I q Cy)
  | str j=>obtain⟨t',rfl⟩:=ry;show PySem.EqMixed.eq_bool_str (dr I q (by simp))
  | _=>show absurd (show false=true from hs) eU
 | int i=>
  obtain⟨t,rfl⟩:=rx;cases y with
  | non=>cases ry;show PySem.EqNone.eq_int_none (dr I q (by simp))
  | int j=>obtain⟨t',rfl⟩:=ry;show eq_int (dr I q Dp)
  | str j=>obtain⟨t',rfl⟩:=ry;show PySem.EqMixed.eq_int_str (dr I q (by simp))
  | _=>show absurd (show false=true from hs) eU
 | str i=>
  obtain⟨t,rfl⟩:=rx;cases y with
  | non=>cases ry;show PySem.EqNone.eq_str_none (dr I q (by simp))
  | bl j=>cases ry;show PySem.EqMixed.eq_str_bool (dr I q (by simp))
  | int j=>obtain⟨t',rfl⟩:=ry;show PySem.EqMixed.eq_str_int (dr I q (by simp))
  | str j=>obtain⟨t',rfl⟩:=ry;show eq_str (dr I q Dq)
  | _=>show absurd (show false=true from hs) eU
 | byt i=>
  obtain⟨t,rfl⟩:=rx;cases y with
  | byt j=>obtain⟨t',rfl⟩:=ry;show PySem.W.eq_bytes (dr I q Do)
  | _=>show absurd (show false=true from hs) eU
 | _=>cases y <;> show absurd (show false=true from hs) eU
theorem fW:cm X (compareOp .NotEq) rNe:=by
 intro pins s σ H x y v u Q I rx ry h;obtain⟨hs,q⟩:=h;cases x with
 | non=>
  cases rx;cases y with
  | non=>cases ry;show PySem.EqNone.ne_none_none (dr I q (by simp))
  | bl j=>cases ry;show PySem.EqNone.ne_none_bool (dr I q (by simp))
  | int j=>obtain⟨t',rfl⟩:=ry;show PySem.EqNone.ne_none_int (dr I q (by simp))
  | str j=>obtain⟨t',rfl⟩:=ry;show PySem.EqNone.ne_none_str (dr I q (by simp))
  | _=>show absurd (show false=true from hs) eU
 | bl i=>
  cases rx;cases y with
  | non=>cases ry;show PySem.EqNone.ne_bool_none (dr I q (by simp))
  | bl j=>cases ry;show ne_bool (dr I q (jC not Cy))
  | str j=>obtain⟨t',rfl⟩:=ry;show PySem.EqMixed.ne_bool_str (dr I q (by simp))
  | _=>show absurd (show false=true from hs) eU
 | int i=>
  obtain⟨t,rfl⟩:=rx;cases y with
  | non=>cases ry;show PySem.EqNone.ne_int_none (dr I q (by simp))
  | int j=>obtain⟨t',rfl⟩:=ry;show ne_int (dr I q (jC not Dp))
  | str j=>obtain⟨t',rfl⟩:=ry;show PySem.EqMixed.ne_int_str (dr I q (by simp))
  | _=>show absurd (show false=true from hs) eU
 | str i=>
  obtain⟨t,rfl⟩:=rx;cases y with
  | non=>cases ry;show PySem.EqNone.ne_str_none (dr I q (by simp))
  | bl j=>cases ry;show PySem.EqMixed.ne_str_bool (dr I q (by simp))
  | int j=>obtain⟨t',rfl⟩:=ry;show PySem.EqMixed.ne_str_int (dr I q (by simp))
  | str j=>obtain⟨t',rfl⟩:=ry;show ne_str (dr I q (jC not Dq))
  | _=>show absurd (show false=true from hs) eU
 | byt i=>
  obtain⟨t,rfl⟩:=rx;cases y with
  | byt j=>obtain⟨t',rfl⟩:=ry;show PySem.W.ne_bytes (dr I q (jC not Do))
  | _=>show absurd (show false=true from hs) eU
 | _=>cases y <;> show absurd (show false=true from hs) eU
theorem jS:cm X (compareOp .Lt) (rI0 λi j=>.bl (decide (i<j))):=opB0 λ_ _ _ _ _ _ _ q=>lt_int q
theorem sQ:cm X (compareOp .LtE) (rI0 λi j=>.bl (decide (i<=j))):=opB0 λ_ _ _ _ _ _ _ q=>le_int q
theorem gF:cm X (compareOp .Gt) (rI0 λi j=>.bl (decide (j<i))):=opB0 λ_ _ _ _ _ _ _ q=>gt_int q
theorem jL:cm X (compareOp .GtE) (rI0 λi j=>.bl (decide (j<=i))):=opB0 λ_ _ _ _ _ _ _ q=>ge_int q
theorem lR:cm X (compareOp .IsNot) (λx y H Q=>y=.non/\Q (.bl (!decide (x=.non))) H):=by
 intro pins s σ H x y v u Q I rx ry h;obtain⟨rfl,q⟩:=h;cases ry;show isnot_none_gen (dr I q ?_);cases x <;> first
  | (cases rx;rfl)
  | (obtain⟨t,rfl⟩:=rx;rfl)
theorem cm.or {f:Value->Value->Sem Value}{r r':R2}(h:cm X f r)(h':cm X f r'):cm X f (λx y H Q=>r x y H Q\/r' x y H Q):=by
 intro pins s σ H x y v u Q I rx ry q;rcases q with q|q
 .exact h pins s σ H x y v u Q I rx ry q
 .exact h' pins s σ H x y v u Q I rx ry q
theorem bo (b:Expr){op:CmpOp}(h:op≠.In:=by decide)(h2:op≠.NotIn:=by decide):behindInMarks op b=false:=by
 have e1:(op == CmpOp.In)=false:=by cases op <;> first|rfl|show absurd rfl h
 have e2:(op == CmpOp.NotIn)=false:=by cases op <;> first|rfl|show absurd rfl h2
 cases b <;> simp[behindInMarks,e1,e2]
theorem i4 {op:CmpOp}{r:R2}(ho:cm X (compareOp op) r)(ha:PE X a ta)(hb:PE X b tb)(hm:behindInMarks op b=false):PE X (.Compare a [op] [b] pos) (tOp r ta tb):=by
 intro pins s σ H Q I h;show wpAny_Compare1 (binT ha hb I h λv u s2 x y H2 I2 rx ry q=>ho pins s2 σ H2 x y v u Q I2 rx ry q) hm
def Dl (t:TE):TT:=λσ H Q=>t σ H λx H'=>∃ k,x=.bl k/\Q k H'
theorem iI {op:CmpOp}{r:R2}(ho:cm X (compareOp op) r)(ha:PE X a ta)(hb:PE X b tb)(hm:behindInMarks op b=false):PT X (.Compare a [op] [b] pos) (Dl (tOp r ta tb)):=by
 intro pins s σ H Q I h;show BY (aX (ha pins s σ H _ I h) λv s1 ⟨x,H1,I1,r1,q1⟩=>aX (hb pins s1 σ H1 _ I1 q1) λu s2 ⟨y,H2,I2,r2,q2⟩=>
  aX (ho pins s2 σ H2 x y v u _ I2 r1 r2 q2) λc s3 ⟨z,H3,I3,r3,k,e,q3⟩=>?_) hm
 subst e;cases r3;show jl ⟨H3,I3,q3⟩
def EO (r r':R2)(ta tb tc:TE):TE:=λσ H Q=>ta σ H λx H1=>tb σ H1 λy H2=>r x y H2 λz H3=>∃ k,z=.bl k /\
 (if k=true then tc σ H3 λw' H4=>r' y w' H4 Q else Q (.bl false) H3)
theorem Eu {op op':CmpOp}{r r':R2}(ho:cm X (compareOp op) r)(ho':cm X (compareOp op') r')(ha:PE X a ta)(hb:PE X b tb)(hc:PE X c tc)(hm:lastMarks [op,op'] [b,c]=false:=by with_unfolding_all rfl):PE X (.Compare a [op,op'] [b,c] pos) (EO r r' ta tb tc):=by
 intro pins s σ H Q I h;show Compare_chain (aX (ha pins s σ H _ I h) λv s1 ⟨x,H1,I1,r1,q1⟩=>chain_link (aX (hb pins s1 σ H1 _ I1 q1) λu s2 ⟨y,H2,I2,r2,q2⟩=>
  aX (ho pins s2 σ H2 x y v u _ I2 r1 r2 q2) λd s3 ⟨z,H3,I3,r3,k,e,q3⟩=>?_)) hm
 subst e;cases r3;show jl ?_;cases k with
 | false=>show ite_ff ⟨.bl false,H3,I3,rfl,q3⟩
 | true=>show ite_tt (chain_last (aX (hc pins s3 σ H3 _ I3 q3) λw' s4 ⟨z',H4,I4,r4,q4⟩=>ho' pins s4 σ H4 y z' u w' Q I4 r2 r4 q4))
theorem Ey {op op':CmpOp}{r r':R2}(ho:cm X (compareOp op) r)(ho':cm X (compareOp op') r')(ha:PE X a ta)(hb:PE X b tb)(hc:PE X c tc)(hm:lastMarks [op,op'] [b,c]=false:=by with_unfolding_all rfl):PT X (.Compare a [op,op'] [b,c] pos) (Dl (EO r r' ta tb tc)):=by
 intro pins s σ H Q I h;show isTrue_chain (aX (ha pins s σ H _ I h) λv s1 ⟨x,H1,I1,r1,q1⟩=>test_link (aX (hb pins s1 σ H1 _ I1 q1) λu s2 ⟨y,H2,I2,r2,q2⟩=>
  aX (ho pins s2 σ H2 x y v u _ I2 r1 r2 q2) λd s3 ⟨z,H3,I3,r3,k,e,q3⟩=>?_)) hm
 subst e;cases r3;show jl ?_;cases k with
 | false=>
  show ao q3 λk' e' q'=>?_;clear q3;cases e';show ite_ff ⟨H3,I3,q'⟩
 | true=>
  show ite_tt (test_last (aX (hc pins s3 σ H3 _ I3 q3) λw' s4 ⟨z',H4,I4,r4,q4⟩=>aX (ho' pins s4 σ H4 y z' u w' _ I4 r2 r4 q4) λd' s5 ⟨z2,H5,I5,r5,k2,e2,q5⟩=>?_));subst e2;cases r5;show jl ⟨H5,I5,q5⟩
def vR (K:Frag)(x:V)(H:Hp)(k:Bool):Prop:=
 match x with
 | .non=>k=false
 | .bl b=>k=b
 | .int i=>k=(i != 0)
 | .str y=>y.length<=sizeLine/\k=((y.length:Int) != 0)
 | .byt y=>y.size<=sizeLine/\k=((y.size:Int) != 0)
 | .ref p=>(∃ xs,aj K H p xs/\k=!xs.isEmpty)\/(∃ xs,aE K H p xs/\k=!xs.isEmpty)\/∃ kvs,H p=some (.dK kvs)/\k=!kvs.isEmpty
 | _=>False
theorem II {κ:Type}{kvs:List (κ×V)}{vs:List (κ×Value)}(r:KV kvs vs):(!vs.isEmpty)=!kvs.isEmpty:=by
 cases r <;> rfl
theorem FD {xs:List V}{its:List Value}(r:au xs its):(!its.toArray.isEmpty)=!xs.isEmpty:=by
 cases r <;> simp
theorem u_:(sizeLine:Nat)<2 ^ 63:=by rw[sizeLine_eq];decide
theorem pO:Bx X (λx H Q=>∃ k,vR X.K x H k/\Q k H):=by
 intro pins s σ H x v Q I rx h;show ao h λk e q=>?_;clear h;have hl:=u_;have hs:sizeLine=16777216:=sizeLine_eq;cases x with
 | non=>
  cases rx;have e':k=false:=e;subst e';show truthy_none ⟨H,I,q⟩
 | bl b=>
  cases rx;have e':k=b:=e;subst e';show jl ⟨H,I,q⟩
 | int i=>
  obtain⟨t,rfl⟩:=rx;have e':k=(i != 0):=e;subst e';show PySem.P.truthy_int ⟨H,I,q⟩
 | str y=>
  obtain⟨t,rfl⟩:=rx;obtain⟨hy,e'⟩:y.length<=sizeLine/\k=((y.length:Int) != 0):=e;subst e';show PySem.P.truthy_str ∅ ⟨H,I.tok _,q⟩
 | byt y=>
  obtain⟨t,rfl⟩:=rx;obtain⟨hy,e'⟩:y.size<=sizeLine/\k=((y.size:Int) != 0):=e;subst e';show PySem.W.truthy_bytes ∅ ⟨H,I.tok _,q⟩
 | ref p=>
  cases rx;have e':(∃ xs,aj X.K H p xs/\k=!xs.isEmpty)\/(∃ xs,aE X.K H p xs/\k=!xs.isEmpty)\/∃ kvs,H p=some (.dK kvs)/\k=!kvs.isEmpty:=e;rcases e' with ⟨xs,hx,e'⟩|⟨xs,hx,e'⟩|⟨kvs,hx,e'⟩
  .subst e';show bh (I.list hx) λits r pl hz=>?_;have hlen:=r.length;show wpAny_truthy_list pl.isList (by simp only[dS];omega) ⟨H,I.tok _,by rw[FD r];show q⟩
  .subst e';show bh (I.tuple hx) λits r pl hz=>?_;have hlen:=r.length;show truthy_tuple pl (by simp only[dS];omega) ⟨H,I.tok _,by rw[FD r];show q⟩
  .subst e';obtain⟨hz,hS,vs,r,m⟩:kvs.length<=sizeLine/\(p == sysModules)=false/\∃ vs,KV kvs vs/\s.heap.DictOf (zu X.prog X.w) p vs:=I.hok p _ hx;have hlen:kvs.length=vs.length:=Paired.length r;show wpAny_truthy_dict hS m ∅ ⟨H,I.tok _,by rw[II r];show q⟩
 | _=>show (show False from e).elim
theorem Hj (ha:PE X a ta)(he:∀ whole,isTrue a X.env whole=(do let v <- whole;standAt a.pos;holding [v] (truthy v))):
  PT X a (λσ H Q=>ta σ H λx H'=>∃ k,vR X.K x H' k/\Q k H'):=by
 intro pins s σ H Q I h;show isTrue_plain (aX (ha pins s σ H _ I h) λv s1 ⟨x,H1,I1,r1,q1⟩=>pO pins s1 σ H1 x v Q I1 r1 q1) (he _)
theorem rq {x:V}{us:List Value}(r:au [x] us):∃ u,us=[u]/\aI x u:=by
 cases r with
 | cons r1 r2=>cases r2;show⟨_,rfl,r1⟩
theorem vals2 {x y:V}{us:List Value}(r:au [x,y] us):∃ u w',us=[u,w']/\aI x u/\aI y w':=by
 cases r with
 | cons r1 r2=>
  cases r2 with
  | cons r3 r4=>cases r4;show⟨_,_,rfl,r1,r3⟩
theorem oR:jb X (.builtin "abs") (λxs H Q=>∃ i,xs=[.int i]/\Q (.int (if i<0 then -i else i)) H):=by
 intro pins s σ H xs us Q I r h;show ao h λi e968 q=>?_;clear h;subst e968;show ao (rq r) λu e969 e970=>?_;obtain rfl:=e969;obtain⟨t,rfl⟩:=e970;show call_abs_int λu tk=>⟨.int (if i<0 then -i else i),H,I.tok _,⟨_,rfl⟩,q⟩
theorem E8 (hc:X.calm=true):jb X (.builtin "min") (λxs H Q=>∃ i j,xs=[.int i,.int j]/\Q (.int (if j<i then j else i)) H):=by
 intro pins s σ H xs us Q I r h;show cE h λi j e975 q=>?_;clear h;subst e975;show cF (vals2 r) λu w' e976 e977 e978=>?_;obtain rfl:=e976;obtain⟨t,rfl⟩:=e977;obtain⟨t',rfl⟩:=e978;show min_two_ints (I.ok.hd hc) λh' tk k=>⟨_,H,I.kept k,?_,q⟩
 by_cases hj:j<i
 .rw [if_pos hj,if_pos hj];show⟨_,rfl⟩
 .rw [if_neg hj,if_neg hj];show⟨_,rfl⟩
theorem xM:jb X (.type "int") (λxs H Q=>(∃ i,xs=[.int i]/\Q (.int i) H)\/∃ k,xs=[.bl k]/\Q (.int (if k then 1 else 0)) H):=by
 intro pins s σ H xs us Q I r h;rcases h with ⟨i,rfl,q⟩|⟨k,rfl,q⟩
 .refine ao (rq r) λu e979 e980=>?_;obtain rfl:=e979;obtain⟨t,rfl⟩:=e980;show call_int_int ⟨.int i,H,I,⟨_,rfl⟩,q⟩
 .refine ao (rq r) λu e981 r1=>?_;obtain rfl:=e981;cases r1;show call_int_bool ⟨.int (if k then 1 else 0),H,I.tok _,⟨_,rfl⟩,q⟩
end
structure iM (h:Heap)(x dx C:Addr)(mA:Str->Option Value):Prop where
 obj:h.get? x=some (PySem.W.instObj C dx)
 ns:h.Ns1 dx mA
 ne:dx≠x
theorem HF {h:Heap}{dx:Addr}{mA:Str->Option Value}(n:h.Ns1 dx mA):∃ od,h.get? dx=some od/\∀ name,PySem.W.lookIn name od=some (mA name):=by
 show cK n λo es ep ho hd hk e9101=>?_;clear n;obtain⟨_,hm⟩:=e9101;show⟨o,ho,λname=>?_⟩;have e:=hm name;unfold nsFind findBy at e;rw[<- Array.find?_toList] at e;unfold PySem.W.lookIn;rw[hd];dsimp only;split
 .rename_i y q
  rw[q] at e;show jC some e
 .rename_i q
  rw[q] at e;have a:es.toList.any (·.refKey)=false:=by
   rw[List.any_eq_false];intro y hy;show eV (hk y (Array.mem_toList_iff.mp hy)) λz t hkey=>?_;simp[DictEntry.refKey,hkey]
  have a':¬ es.toList.any (·.refKey)=true:=by rw[a];show eU
  rw[if_neg a'];show jC some e
theorem iM.look {h:Heap}{x dx C:Addr}{mA:Str->Option Value}(I:iM h x dx C mA):∃ od,PySem.W.InstAt h x (PySem.W.instObj C dx) C (some od)/\∀ name,PySem.W.lookIn name od=some (mA name):=
 let ⟨od,ho,hl⟩:=HF I.ns
 ⟨od,⟨I.obj,rfl,rfl,ho⟩,hl⟩
section
variable {prog:Program}{w:World}{A:Around}{E:Value->Shared->Prop}{s:Shared}{K:Frag}{x dx C f:Addr}{mA:Str->Option Value}{name:Str}{v:Value}
theorem mV {expr:Bool}{Q:Value->Shared->Prop}(X:K.In s.heap)(I:iM s.heap x dx C mA)(hg:PySem.W.plainGet K C name=true)(hh:PySem.W.hasDictIn K C=true)(ha:PySem.W.findIn K (.ref C) name=some none)(hv:mA name=some v)(hv':PySem.W.handedIn v=true)(h:Q v { s with toks:=s.toks+1 }):
  wpAny (model prog w) A (getAttr (.ref x) name expr) Q E s:=by
 show ao I.look λod J hl=>?_;show PySem.W.get_value X J (BO hg).1 (PySem.W.findObj_own hh ha rfl (by rw[hl,hv])) hv' h
theorem GP {pl:Sem Bool}{Q:Value×List Value->Shared->Prop}(X:K.In s.heap)(I:iM s.heap x dx C mA)(hg:PySem.W.plainGet K C name=true)(hf:PySem.W.findIn K (.ref C) name=some (↥f))(ht:PySem.W.isFn K (.ref f)=true)(hv:mA name=none)(h:Q (.ref f,[.ref x]) s):
  wpAny (model prog w) A (getMethod (.ref x) name pl) Q E s:=by
 show ao I.look λod J hl=>?_;show PySem.W.method_fn X J (BO hg).1 (BO hg).2 hf (eQ.mp ht) (by show (PySem.W.lookIn name od).map (·.isSome)=some false;rw[hl,hv];rfl) h
theorem k8 {ns:List Str}{Q:Unit->Shared->Prop}(X:K.In s.heap)(I:iM s.heap x dx C mA)(hs:PySem.W.findIn K (.ref C) "__setattr__" = some (some (.builtin "object.__setattr__")))(hp:PySem.W.plainOver K C=true)(ht:PySem.W.takerIn K C name=some none)(hh:PySem.W.hasDictIn K C=true)(hw:PySem.Within mA ns)(hsz:ns.length<=sizeLine)(h:∀ h',iM h' x dx C (λy=>if y=name then some v else mA y)->Heap.SameBut dx s.heap h'->Q () { s with heap:=h',toks:=s.toks+2 }):
  wpAny (model prog w) A (setAttr (.ref x) name v) Q E s:=by
 show ao I.look λod J hl=>?_;show PySem.W.set_plain X J hs (PySem.W.osa_open (s:={ s with toks:=s.toks+1 }) (r:=none) X J hp ht λb=>?_);show ao (PySem.W.any_some hh) λcd hc hd'=>?_;have hx:s.heap.get? x=some ⟨.ref C,some dx,.plain,#[]⟩:=I.obj;show bP (dG (bP (bP (wpAny_loadPart hx (bP (PySem.W.Looks.here (s:={ s with toks:=s.toks+1 }) (PySem.W.looks_clsIn X hc) ?_))))));rw[hd'];show dG (a:=some dx) (bP (dG (bP ?_)));show wpAny_nsSet1 (s:={ s with toks:=s.toks+1 }) I.ns λh' hn2 hs2=>?_;show iD (hn2.count (PySem.Within.cons name v hw)) λoD esD epD hoD hdD hcD=>?_;show bP (wpAny_lookBehind hoD (by rw[hdD];show pastItsLine_dict (cD hcD (by rw[kM];omega))) ?_);show dG (h _ ⟨(hs2.2 _ (f_ I.ne)).trans I.obj,hn2,I.ne⟩ hs2)
theorem GU {R:Result->Shared->Prop}{vs:List Value}{kw:List (Str×Value)}(X:K.In s.heap)(hm:PySem.W.makesIn K C=true)(hi:PySem.W.findIn K (.ref C) "__init__" = some (↥f))(hf:PySem.W.typeIn K (.ref f)=some (.type "function"))(h:codeAny (model prog w) (A.under (.builtin "type.__call__" ⟨.ref C::vs,kw⟩)) (.call (.ref f) ⟨.ref (s.heap.objs.size+1)::vs,kw⟩) (PySem.W.InitBack (s.heap.objs.size+1) R)
   { s with heap:=(s.heap.push PySem.W.emptyDict).push (PySem.W.instObj C s.heap.objs.size) }):
  codeAny (model prog w) A (.call (.ref C) ⟨vs,kw⟩) R s:=by
 obtain⟨hh,g,d,t,os⟩:=s;show PySem.W.make_core (PySem.W.makes_of X hm) (PySem.W.looks_findIn X hi) (λself=>PySem.W.bind_fn X self hf) (.inl rfl) h
end
noncomputable def bS (f:Str)(v:V):List (Str×V)->List (Str×V)
 | []=>[(f,v)]
 | (g,x)::r=>if g=f then (g,v)::r else (g,x)::bS f v r
theorem gM (f g:Str)(v:V):∀ fs:List (Str×V),(bS f v fs).lookup g=if g=f then some v else fs.lookup g
 | []=>by
  change List.lookup g [(f,v)]=_;by_cases h:g=f
  .have hb:(g == f)=true:=eQ.mpr h;simp only[List.lookup,hb,if_pos h]
  .have hb:(g == f)=false:=ym.mpr h;simp only[List.lookup,hb,if_neg h]
 | (k,x)::r=>by
  have ih:=gM f g v r;rw[show bS f v ((k,x)::r)=(if k=f then (k,v)::r else (k,x)::bS f v r) from rfl];by_cases hk:k=f
  .rw [if_pos hk];by_cases h:g=k
   .have hb:(g == k)=true:=eQ.mpr h;simp only[List.lookup,hb,if_pos (h.trans hk)]
   .have hb:(g == k)=false:=ym.mpr h;simp only[List.lookup,hb,if_neg (λe:g=f=>h (e.trans hk.symm))]
  .rw [if_neg hk];by_cases h:g=k
   .have hb:(g == k)=true:=eQ.mpr h;simp only[List.lookup,hb,if_neg (λe:g=f=>hk (h.symm.trans e))]
   .have hb:(g == k)=false:=ym.mpr h;simp only[List.lookup,hb];show ih
theorem Aq (f:Str)(v:V):∀ fs:List (Str×V),f∈(bS f v fs).map (·.1)/\∀ g,g∈fs.map (·.1)->g∈(bS f v fs).map (·.1)
 | []=>⟨by simp[bS],λg h=>by simp at h⟩
 | (k,x)::r=>by
  obtain⟨i1,i2⟩:=Aq f v r;rw[show bS f v ((k,x)::r)=(if k=f then (k,v)::r else (k,x)::bS f v r) from rfl];by_cases hk:k=f
  .rw [if_pos hk];subst hk;show⟨by simp,λg h=>by simpa using h⟩
  .rw [if_neg hk];show⟨?_,λg h=>?_⟩
   .rw [List.map_cons];show kO _ i1
   .rw [List.map_cons] at h ⊢;rcases gf.mp h with e|e
    .exact gf.mpr (.inl e)
    .exact kO _ (i2 g e)
theorem rS (f:Str)(v:V):∀ fs:List (Str×V),(bS f v fs).length<=fs.length+1
 | []=>by simp[bS]
 | (k,x)::r=>by
  have ih:=rS f v r;rw[show bS f v ((k,x)::r)=(if k=f then (k,v)::r else (k,x)::bS f v r) from rfl];by_cases hk:k=f
  .rw [if_pos hk,kM,kM];omega
  .rw [if_neg hk,kM,kM];omega
theorem fC.some_of {v:V}{o:Option Value}(r:fC (some v) o):∃ u,o=some u/\aI v u:=by
 cases o with
 | none=>show (show False from r).elim
 | some u=>show⟨u,rfl,r⟩
theorem fC.none_of {o:Option Value}(r:fC none o):o=none:=by
 cases o with
 | none=>rfl
 | some u=>show (show False from r).elim
theorem Hw {v:V}{u:Value}(r:aI v u):PySem.W.handedIn u=true:=by
 cases v with
 | non=>cases (show u=Value.none from r);rfl
 | bl b=>cases (show u=Value.bool b from r);rfl
 | int i=>obtain⟨t,e⟩:=(show ∃ t,u=Value.int i t from r);cases e;rfl
 | str x=>obtain⟨t,e⟩:=(show ∃ t,u=Value.str x t from r);cases e;rfl
 | byt b=>obtain⟨t,e⟩:=(show ∃ t,u=Value.bytes b t from r);cases e;rfl
 | flt b=>obtain⟨t,e⟩:=(show ∃ t,u=Value.float b t from r);cases e;rfl
 | ref a=>cases (show u=Value.ref a from r);rfl
 | ty n=>cases (show u=Value.type n from r);rfl
section
variable {P:Program}{w:World}{H H':Hp}{h h':Heap}{a C dx:Addr}{fs fs':List (Str×V)}
theorem xv (hok:eC P w H h)(e:H a=some (.ins C dx fs)):∃ mA,iM h a dx C mA/\(∀ f,fC (fs.lookup f) (mA f))/\PySem.Within mA (fs.map (·.1))/\fs.length<=1000/\H dx=some (.own a):=by
 show dj (show bF P w H h a (.ins C dx fs) from hok a _ e) λd z ne ob e9102=>?_;obtain⟨mA,n,r,q⟩:=e9102;show⟨mA,⟨ob,n,ne⟩,r,q,z,d⟩
end
structure iz (K:Frag)(C:Addr):Prop where
 pg:PySem.W.plainGet K C Str.empty=true
 hd:PySem.W.hasDictIn K C=true
 po:PySem.W.plainOver K C=true
 sa:PySem.W.findIn K (.ref C) "__setattr__" = some (some (.builtin "object.__setattr__"))
theorem iz.get {K:Frag}{C:Addr}(c:iz K C)(f:Str):PySem.W.plainGet K C f=true:=c.pg
def bK (K:Frag)(C:Addr)(f:Str):Prop:=PySem.W.findIn K (.ref C) f=some none
theorem bK.taker {K:Frag}{C:Addr}{f:Str}(n:bK K C f):PySem.W.takerIn K C f=some none:=by
 unfold PySem.W.takerIn;rw[show PySem.W.findIn K (.ref C) f=some none from n];rfl
structure KC (K:Frag)(C:Addr)(f:Str)(v:V)(u:Value):Prop where
 at_:PySem.W.findIn K (.ref C) f=some (some u)
 rel:aI v u
 get:PySem.W.specialIn K u "__get__" = some none
 cp:PySem.W.copiedNames.contains f=false
structure iN (K:Frag)(C:Addr)(m:Str)(f:Addr):Prop where
 at_:PySem.W.findIn K (.ref C) m=some (↥f)
 fn:PySem.W.isFn K (.ref f)=true
 kp:PySem.W.keepIn K (.ref f)=true
section
variable {X:Cx}{pins:List (Addr×Obj)}{σ:St}{H:Hp}{s:Shared}{a C dx:Addr}{fs:List (Str×V)}{f:Str}{v:V}{A:Around}{E:Value->Shared->Prop}
theorem IH {b:Bool}{Q:Value->Shared->Prop}(I:av X pins σ H s)(e:H a=some (.ins C dx fs))(c:iz X.K C)(n:bK X.K C f)(l:fs.lookup f=some v)(h:∀ u s',av X pins σ H s'->aI v u->Q u s'):wpAny (model X.prog X.w) A (getAttr (.ref a) f b) Q E s:=by
 show sS (xv I.hok e) λmA O r _ _ _=>?_;obtain⟨u,hu,ru⟩:=fC.some_of (v:=v) (o:=mA f) (by rw[<- l];show r f);show mV I.kIn O (c.get f) c.hd n hu (Hw ru) (h u _ (I.tok _) ru)
theorem FC {m:Str}{g:Addr}{pl:Sem Bool}{Q:Value×List Value->Shared->Prop}(I:av X pins σ H s)(e:H a=some (.ins C dx fs))(c:iz X.K C)(k:iN X.K C m g)(l:fs.lookup m=none)(h:Q (.ref g,[.ref a]) s):wpAny (model X.prog X.w) A (getMethod (.ref a) m pl) Q E s:=by
 show sS (xv I.hok e) λmA O r _ _ _=>?_;have hn:mA m=none:=fC.none_of (by rw[<- l];show r m);show GP I.kIn O (c.get m) k.at_ k.fn hn h
theorem Ir {y:V}{u:Value}{Q:Unit->Shared->Prop}(I:av X pins σ H s)(e:H a=some (.ins C dx fs))(c:iz X.K C)(n:bK X.K C f)(hl:fs.length<1000)(ry:aI y u)(h:∀ s',av X pins σ (ar H a (.ins C dx (bS f y fs))) s'->Q () s'):wpAny (model X.prog X.w) A (setAttr (.ref a) f u) Q E s:=by
 show sS (xv I.hok e) λmA O r wi _ ho=>?_;have hz:(fs.map (·.1)).length<=sizeLine:=by rw[aB,sizeLine_eq];omega
 show k8 I.kIn O c.sa c.po n.taker c.hd wi hz λh' O' sb=>h _ ?_;have hd:∃ o,h'.get? dx=some o:=let ⟨o,_,_,e',_⟩:=O'.ns;⟨o,e'⟩;show I.write (x:=a) (e:=dx) (by rw[e];show True.intro) (.inr ho) (λb q hb z=>(sb.2 b hb).trans z) hd ?_;show⟨by rw[aR O.ne];show ho,?_,O.ne,O'.obj,_,O'.ns,λg=>?_,λg hg=>?_⟩
 .have:=rS f y fs;omega
 .change fC ((bS f y fs).lookup g) (if g=f then some u else mA g);rw[gM];by_cases q:g=f
  .rw [if_pos q,if_pos q];show ry
  .rw [if_neg q,if_neg q];show r g
 .by_cases q:g=f
  .rw [q];show (Aq f y fs).1
  .refine (Aq f y fs).2 g (wi g λz=>hg ?_);change (if g=f then some u else mA g)=none;rw[if_neg q];show z
theorem av.made (I:av X pins σ H s):av X pins σ (ar (ar H s.heap.objs.size (.own (s.heap.objs.size+1))) (s.heap.objs.size+1) (.ins C s.heap.objs.size []))
  { s with heap:=(s.heap.push PySem.W.emptyDict).push (PySem.W.instObj C s.heap.objs.size) }:=by
 have e1:(s.heap.push PySem.W.emptyDict).get? s.heap.objs.size=some PySem.W.emptyDict:=ij s.heap rfl;have e2:((s.heap.push PySem.W.emptyDict).push (PySem.W.instObj C s.heap.objs.size)).get? (s.heap.objs.size+1)=some (PySem.W.instObj C s.heap.objs.size):=by
  have:=ij (s.heap.push PySem.W.emptyDict) (o:=PySem.W.instObj C s.heap.objs.size) rfl;rwa [sv] at this
 have e3:(s.heap.push PySem.W.emptyDict).Ns s.heap.objs.size (λ_=>none):=⟨PySem.W.emptyDict,#[],_,e1,rfl,(λe he=>absurd he (by simp)),λ_=>rfl⟩
 have I1:=I.laid (a:=s.heap.objs.size) (o:=.own (s.heap.objs.size+1)) (h':=s.heap.push PySem.W.emptyDict) (t':=s.toks) (λb u q=>d5 _ q) (aQ _) ⟨_,e1⟩;show I1.laid (a:=s.heap.objs.size+1) (o:=.ins C s.heap.objs.size []) (t':=s.toks) (λb u q=>d5 _ q) (Nat.le_of_eq (sv _ _)) ?_;have ne:s.heap.objs.size≠s.heap.objs.size+1:=eS (wq _);show⟨by rw[aR ne,aw],fE _,ne,e2,λ_=>none,(Heap.Ns1.of_empty e3).at λo q=>d5 _ q,λ_=>True.intro,λy hy=>absurd rfl hy⟩
theorem nh {prog:Program}{w:World}{env:Env}{e:Expr}{f:Str}{pos:Pos}{s:Shared}{Q:Value->Shared->Prop}(hb:attributeBase e f env (eval e env)=eval e env)(h:wpAny (model prog w) A (eval e env) (λo s₁=>wpAny (model prog w) A (getAttr o f true) Q E s₁) E s):wpAny (model prog w) A (eval (.Attribute e f pos) env) Q E s:=
 Attribute_any_ h (by rw[arm_eval_Attribute,hb])
end
def tFld (K:Frag)(ta:TE)(f:Str):TE:=λσ H Q=>ta σ H λx H1=>∃ a C dx fs v,x=.ref a/\H1 a=some (.ins C dx fs)/\iz K C/\bK K C f/\fs.lookup f=some v/\Q v H1
def sFld (K:Frag)(ta tv:TE)(f:Str):TS:=λD σ H=>tv σ H λy H1=>ta σ H1 λx H2=>∃ a C dx fs,x=.ref a/\H2 a=some (.ins C dx fs)/\iz K C/\bK K C f/\fs.length<1000 /\
 D.nx σ (ar H2 a (.ins C dx (bS f y fs)))
section
variable {X:Cx}{o e value:Expr}{f:Str}{pos pos' tpos:Pos}{ta tv:TE}
theorem iH (he:PE X e ta)(hb:attributeBase e f X.env (eval e X.env)=eval e X.env):PE X (.Attribute e f pos) (tFld X.K ta f):=by
 intro pins s σ H Q I h;show nh hb (aX (he pins s σ H _ I h) λu s1 ⟨x,H1,I1,rx,a,C,dx,fs,v,ex,ea,c,n,l,q⟩=>?_);subst ex;obtain rfl:u=Value.ref a:=rx;show IH I1 ea c n l λu' s2 I2 ru=>⟨v,H1,I2,ru,q⟩
theorem rH (ha:PE X o ta)(hv:PE X value tv)(hs:swapsWith value (some (.Attribute o f pos')) pos.line X.env=pure false):PS X (.Assign [.Attribute o f pos'] value pos) (sFld X.K ta tv f):=by
 intro pins s σ H D I h;show plainObj_wpAny_Assign_Attribute (aX (hv pins s σ H _ I h) λu s1 ⟨y,H1,I1,ry,q⟩=>aX (ha pins s1 σ H1 _ I1 q) λov s2 ⟨x,H2,I2,rx,a,C,dx,fs,ex,ea,c,n,l,q2⟩=>?_) hs;subst ex;obtain rfl:ov=Value.ref a:=rx;show Ir I2 ea c n l ry λs3 I3=>⟨σ,_,I3,q2⟩
theorem oi {pl:Sem Bool}{m:Str}{apos:Pos}{args:List Expr}{pins:List (Addr×Obj)}{s:Shared}{σ:St}{H:Hp}{Q:Value->Shared->Prop}{te:TE}(he:PE X e te)(I:av X pins σ H s)(h:te σ H λx H1=>∃ a C dx fs g,x=.ref a/\H1 a=some (.ins C dx fs)/\iz X.K C/\iN X.K C m g/\fs.lookup m=none /\
   ∀ s1,av X pins σ H1 s1->wpAny (model X.prog X.w) X.A (callWith pos (.ref g) [.ref a] (backTo pos (starEach args X.env)) (backToKw pos (keywordEach [] X.env))) Q X.xe s1)(ht:eval (.Call (.Attribute e m apos) args [] pos) X.env=(do
   let ov <- eval e X.env
   standAt apos.atName
   let (f,first) <- holding [ov] (getMethod ov m pl)
   callWith pos f first (backTo pos (starEach args X.env)) (backToKw pos (keywordEach [] X.env)))):
  wpAny (model X.prog X.w) X.A (eval (.Call (.Attribute e m apos) args [] pos) X.env) Q X.xe s:=by
 show PySem.W.methodCall_KW (pl:=pl) (aX (he pins s σ H _ I h) λu s1 ⟨x,H1,I1,rx,a,C,dx,fs,g,ex,ea,c,k,l,q⟩=>?_) ht;subst ex;obtain rfl:u=Value.ref a:=rx;show FC I1 ea c k l (q s1 I1)
end
section
variable {X:Cx}{pins:List (Addr×Obj)}{σ:St}{H:Hp}{s:Shared}{A:Around}{E:Value->Shared->Prop}{Q:Value->Shared->Prop}{c:Value}{b:Bool}
inductive c9 (K:Frag) (H:Hp):V->Value->Prop where
 | non:c9 K H .non (.type "NoneType")
 | bl (x:Bool):c9 K H (.bl x) (.type "bool")
 | int (i:Int):c9 K H (.int i) (.type "int")
 | str (x:Str):c9 K H (.str x) (.type "str")
 | flt (x:UInt64):c9 K H (.flt x) (.type "float")
 | lst {a:Addr} {xs:List V} (e:H a=some (.lst xs)):c9 K H (.ref a) (.type "list")
 | frz {a:Addr} {o:Obj} {xs:List V} (e:H a=some (.frz o (.lst xs))):c9 K H (.ref a) (.type "list")
 | tup {a:Addr} {xs:List V} (e:H a=some (.tup xs)):c9 K H (.ref a) (.type "tuple")
 | dK {a:Addr} {kvs:List (gv×V)} (e:H a=some (.dK kvs)):c9 K H (.ref a) (.type "dict")
 | dT {a:Addr} {kvs:List (List gv×V)} (e:H a=some (.dT kvs)):c9 K H (.ref a) (.type "dict")
 | ins {a C dx:Addr} {fs:List (Str×V)} (e:H a=some (.ins C dx fs)) (cl:iz K C) (ha:PySem.W.findIn K (.ref C) "__class__" = some (some (.builtin "object.__class__")))
   (hn:PySem.W.specialIn K (.builtin "object.__class__") "__get__" = some (some (.builtin "getset_descriptor.__get__"))) (htk:PySem.W.takesIn K (.builtin "object.__class__")=some true)
   (hm:PySem.W.mroIn K C (.type "object")=some true):c9 K H (.ref a) (.ref C)
theorem HQ {x:V}{u t:Value}(I:av X pins σ H s)(rx:aI x u)(ty:c9 X.K H x t)(e:PySem.W.kitOne X.K t c=some b)(h:∀ tk,Q (.bool b) { s with toks:=tk }):
  wpAny (model X.prog X.w) A (call (.builtin "isinstance") [u,c]) Q E s:=by
 cases ty with
 | non=>cases (show u=Value.none from rx);show j_ PySem.W.kitx_none I.kIn True.intro e (λz=>nomatch z) h
 | bl y=>cases (show u=Value.bool y from rx);show j_ PySem.W.kitx_bool I.kIn True.intro e (λz=>nomatch z) h
 | int i=>obtain⟨t,q⟩:=(show ∃ t,u=Value.int i t from rx);cases q;show j_ PySem.W.kitx_int I.kIn True.intro e (λz=>nomatch z) h
 | str y=>obtain⟨t,q⟩:=(show ∃ t,u=Value.str y t from rx);cases q;show j_ PySem.W.kitx_str I.kIn True.intro e (λz=>nomatch z) h
 | flt y=>obtain⟨t,q⟩:=(show ∃ t,u=Value.float y t from rx);cases q;show j_ PySem.W.kitx_float I.kIn True.intro e (λz=>nomatch z) h
 | @lst a xs ea=>
  cases (show u=Value.ref a from rx);obtain⟨_,_,n,_,h1⟩:=(show bF X.prog X.w H s.heap a (.lst xs) from I.hok a _ ea)
  show j_ PySem.W.kitx_list I.kIn ⟨_,h1,rfl⟩ e (λz=>nomatch z) h
 | @frz a ob xs ea=>
  cases (show u=Value.ref a from rx);obtain⟨_,_,_,n,_,h1⟩:=(show bF X.prog X.w H s.heap a (.frz ob (.lst xs)) from I.hok a _ ea)
  show j_ PySem.W.kitx_list I.kIn ⟨_,h1,rfl⟩ e (λz=>nomatch z) h
 | @tup a xs ea=>
  cases (show u=Value.ref a from rx);obtain⟨_,_,_,p⟩:=(show bF X.prog X.w H s.heap a (.tup xs) from I.hok a _ ea)
  show bh p λo h1 h2 _=>?_;clear p;show j_ PySem.W.kitx_tuple I.kIn ⟨o,h1,h2⟩ e (λz=>nomatch z) h
 | @dK a kvs ea=>
  cases (show u=Value.ref a from rx);show bC (show bF X.prog X.w H s.heap a (.dK kvs) from I.hok a _ ea) λ_ _ e9107=>?_;obtain⟨vs,_,p⟩:=e9107;show iD p λo es ep h1 h2 _=>?_;clear p;show j_ PySem.W.kitx_dict I.kIn ⟨o,h1,h2.1⟩ e (λz=>nomatch z) h
 | @dT a kvs ea=>
  cases (show u=Value.ref a from rx);show bC (show bF X.prog X.w H s.heap a (.dT kvs) from I.hok a _ ea) λ_ _ e9108=>?_;obtain⟨xs,_,o,es,ep,h1,h2,_⟩:=e9108;show j_ PySem.W.kitx_dict I.kIn ⟨o,h1,h2.1⟩ e (λz=>nomatch z) h
 | @ins a C dx fs ea cl ha hn htk hm=>
  cases (show u=Value.ref a from rx);show ao (xv I.hok ea) λmA O _=>?_;show ao O.look λod J _=>?_;show j_ (PySem.W.kitx_own (cl.get _) cl.hd ha hn htk hm) I.kIn J e (λz=>nomatch z) h
end
structure bp (k:Nat)(A:Around):Prop where
 hd:A.handled=none
 dp:A.depth+3*k+205<recursionLimit
 un:A.units+16*k+200<cLine
theorem bp.mono {j k:Nat}{A:Around}(r:bp k A)(h:j<=k):bp j A:=⟨r.hd,by have:=r.dp;omega,by have:=r.un;omega⟩
theorem bp.m {j k:Nat}{A:Around}(r:bp k A)(h:j<=k:=by decide):bp j A:=r.mono h
theorem bp.deeper {k:Nat}{A:Around}(r:bp (k+1) A)(env:Env):bp k (A.deeper env):=
 ⟨r.hd,by have:=r.dp;change A.depth+1+3*k+205<_;omega,by have:=r.un;change A.units+3+16*k+200<_;omega⟩
theorem Ik {A:Around}{C:Addr}{us:List Value}{kw:List (Str×Value)}:(A.under (.builtin "type.__call__" ⟨.ref C::us,kw⟩)).depth=A.depth+1:=by
 first|rfl|simp[Around.under,Code.weight,Code.isCreation,Code.isGuard,Code.isCaller,Code.frames,Code.isFrame,guardIds]
theorem Il {A:Around}{C:Addr}{us:List Value}{kw:List (Str×Value)}:(A.under (.builtin "type.__call__" ⟨.ref C::us,kw⟩)).units=A.units+1:=by
 first|rfl|simp[Around.under,Code.cUnits,Code.frames,Code.isFrame]
theorem bp.make {k:Nat}{A:Around}(r:bp (k+1) A)(C:Addr)(us:List Value)(kw:List (Str×Value)):bp k (A.under (.builtin "type.__call__" ⟨.ref C::us,kw⟩)):=
 ⟨r.hd,by have:=r.dp;rw[Ik];omega,by have:=r.un;rw[Il];omega⟩
theorem bp.depth {k:Nat}{A:Around}(r:bp k A):A.depth<recursionLimit:=by have:=r.dp;omega
theorem bp.units {k:Nat}{A:Around}(r:bp k A):A.units+64<cLine:=by have:=r.un;omega
def oC:TA:=λ_ H Q=>Q [] H
def jd (ta:TE)(tr:TA):TA:=λσ H Q=>ta σ H λx H1=>tr σ H1 λxs H2=>Q (x::xs) H2
section
variable {X:Cx}{e:Expr}{es:List Expr}{te:TE}{t:TA}{pos:Pos}
theorem ah:PA X [] oC:=λ_ _ _ _ H Q I h=>Calls.spliced_nil ⟨[],H,I,.nil,h⟩
theorem lO (ha:PE X e te)(hr:PA X es t)(hs:starEach (e::es) X.env=(false,eval e X.env)::starEach es X.env:=by rfl):PA X (e::es) (jd te t):=by
 intro pos pins s σ H Q I h;rw[hs];change wpAny _ _ (spliced ((false,eval e X.env)::backTo pos (starEach es X.env))) _ _ s;show Calls.spliced_cons (aX (ha pins s σ H _ I h) λu s1 ⟨x,H1,I1,r1,q1⟩=>?_);show aX (hr pos pins s1 σ H1 _ I1 q1) λus s2 ⟨xs,H2,I2,r2,q2⟩=>⟨x::xs,H2,I2,.cons r1 r2,q2⟩
def tTup (t:TA):TE:=λσ H Q=>t σ H λxs H1=>xs.length<=sizeLine/\∀ p,H1 p=none->Q (.ref p) (ar H1 p (.tup xs))
def tLst (t:TA):TE:=λσ H Q=>t σ H λxs H1=>xs.length<=sizeLine/\∀ p,H1 p=none->Q (.ref p) (ar H1 p (.lst xs))
theorem bQ {x1}(h:PA X es t):PE X (.Tuple es x1 pos) (tTup t):=by
 intro pins s σ H Q I hq;show wpAny_Tuple_spliced (aX (h pos pins s σ H _ I hq) λus s1 ⟨xs,H1,I1,r,z,q⟩=>⟨by rw[<- r.length];show z,?_⟩);have hf:H1 s1.heap.objs.size=none:=I1.hok.fresh (aQ _);show aM (.ref s1.heap.objs.size) (ar H1 s1.heap.objs.size (.tup xs)) ⟨I1.laid (t':=s1.toks) (λb u e=>d5 _ e) (aQ _) ?_,rfl,q _ hf⟩;show⟨z,us,r,⟨_,ij _ rfl,rfl,_,rfl⟩⟩
theorem dJ (h:PA X es t):PE X (.List es pos) (tLst t):=by
 intro pins s σ H Q I hq;show wpAny_List_spliced (aX (h pos pins s σ H _ I hq) λus s1 ⟨xs,H1,I1,r,z,q⟩=>⟨by rw[<- r.length];show z,?_⟩);have hf:H1 s1.heap.objs.size=none:=I1.hok.fresh (aQ _);show aM (.ref s1.heap.objs.size) (ar H1 s1.heap.objs.size (.lst xs)) ⟨I1.laid (t':=s1.toks) (λb u e=>d5 _ e) (aQ _) ?_,rfl,q _ hf⟩;show⟨z,us,0,r,ij _ rfl⟩
end
abbrev Sp:=List V->Hp->VK->XK->Prop
abbrev iS:=List Env->Hp->Shared->XK->Value->Shared->Prop
structure gW (P:Program)(w:World)(K:Frag)(mg:Str->Option Value)(base:Heap)(A:Around)(outer:List Env)(s:Shared)(H:Hp):Prop where
 frames:A.frames=some outer
 mod:x_ K mg base
 bs:∀ b o,base.get? b=some o->s.heap.get? b=some o/\H b=none
 bsz:base.objs.size<=s.heap.objs.size
 funs:s.heap.FunFrames base outer
 frf:∀ b∈frs outer,H b=none
 hok:eC P w H s.heap
 bare:AllBare s.gens
def CE (outer:List Env)(P:Program)(w:World)(H:Hp)(s:Shared)(Q:VK)(u:Value)(s':Shared):Prop:=
 ∃ v H',s'.os=s.os/\AllBare s'.gens/\Un (frs outer) [] H H' s.heap s'.heap/\eC P w H' s'.heap/\aI v u/\Q v H'
def CR (CX:iS)(outer:List Env)(P:Program)(w:World)(H:Hp)(s:Shared)(Q:VK)(E:XK)(r:Result)(s':Shared):Prop:=
 match r with
 | .ok (.ret u)=>CE outer P w H s Q u s'
 | .ok _=>False
 | .error e=>CX outer H s E e s'
structure cu (P:Program)(w:World)(K:Frag)(mg:Str->Option Value)(base:Heap)(CX:iS)(k:Nat)(f:Addr)(fd:FuncData)(ps:List Str)(sp:Sp):Prop where
 len:∀ vs H Q E,sp vs H Q E->vs.length=ps.length
 run:∀ (A:Around) (outer:List Env) (s:Shared) (H:Hp) (args:Args) (us:List Value) (vs:List V) (Q:VK) (E:XK),bp k A->gW P w K mg base A outer s H->BindsTo s fd args (ps.zip us)->au vs us->sp vs H Q E->
  codeAny (model P w) A (.call (.ref f) args) (CR CX outer P w H s Q E) s
theorem gW.make {P:Program}{w:World}{K:Frag}{mg:Str->Option Value}{base:Heap}{A:Around}{outer:List Env}{s:Shared}{H:Hp}(e:gW P w K mg base A outer s H)(C:Addr)(us:List Value)(kw:List (Str×Value)):
  gW P w K mg base (A.under (.builtin "type.__call__" ⟨.ref C::us,kw⟩)) outer s H:=⟨by first|show e.frames|(simpa [Around.under,Code.envs,Code.isFrame,pushEnvs] using e.frames),e.mod,e.bs,e.bsz,e.funs,e.frf,e.hok,e.bare⟩
section
variable {X:Cx}{pins:List (Addr×Obj)}{σ:St}{H:Hp}{s s':Shared}
theorem av.env0 (I:av X pins σ H s):gW X.prog X.w X.K X.mg X.base X.A X.stack s H:=
 ⟨I.ok.frames,I.ok.mod,I.bs,cD I.ok.bsz I.sz,I.stack,I.stkFree,I.hok,I.bare⟩
theorem av.after {Q:VK}{u:Value}(I:av X pins σ H s)(h:CE X.stack X.prog X.w H s Q u s'):EP X pins σ Q u s':=by
 show gE h λv H' os bare un hok r q=>?_;clear h;obtain⟨hh,g,d,t,os'⟩:=s';obtain rfl:os'=s.os:=os;show aM v H' ⟨I.call (h':=hh) (g':=g) (d':=d) (t':=t) (ch:=[]) un hok bare (λb z=>absurd z (by simp)),r,q⟩
end
def wZ (sp:Sp)(dvs:List V)(E:XK)(t:TA):TE:=λσ H Q=>t σ H λvs H1=>sp (vs++dvs) H1 Q E
def y6 (C:Addr)(m:Str)(sp:Sp)(dvs:List V)(E:XK)(ta:TE)(t:TA):TE:=λσ H Q=>ta σ H λx H1=>∃ a dx fs,x=.ref a/\H1 a=some (.ins C dx fs)/\fs.lookup m=none /\
 t σ H1 λvs H2=>sp (x::(vs++dvs)) H2 Q E
def zc (C:Addr)(sp:Sp)(dvs:List V)(E:XK)(t:TA):TE:=λσ H Q=>t σ H λvs H1=>∀ x dx,H1 x=none->H1 dx=none->dx≠x->
 sp (.ref x::(vs++dvs)) (ar (ar H1 dx (.own x)) x (.ins C dx [])) (λv H2=>v=.non/\Q (.ref x) H2) E
def bL (K:Frag)(fd:FuncData)(ps:List Str)(ds:List Value):Prop:=
 ∀ (s:Shared) (us:List Value),K.In s.heap->(us++ds).length=ps.length->BindsTo s fd ⟨us,[]⟩ (ps.zip (us++ds))
theorem bL.all {K:Frag}{fd:FuncData}{ps:List Str}(h:∀ us:List Value,us.length=ps.length->bindArgs fd ⟨us,[]⟩=pure (ps.zip us)):bL K fd ps []:=λs us _ hl=>by
 rw[r9] at hl ⊢;show .of_eq (h us hl)
def sY (CX:iS)(X:Cx)(E:XK):Prop:=∀ (pins:List (Addr×Obj)) (σ:St) (H:Hp) (s:Shared) (e:Value) (s':Shared),av X pins σ H s->CX X.stack H s E e s'->X.xe e s'
section
variable {X:Cx}{CX:iS}{k:Nat}{f C:Addr}{fd:FuncData}{ps:List Str}{sp:Sp}{dvs:List V}{ds:List Value}{E:XK}{x m:Str}{p pos apos:Pos}{e o:Expr}{es:List Expr}{ta:TE}{t:TA}
theorem CO {pins:List (Addr×Obj)}{σ:St}{H:Hp}{s:Shared}{Q:VK}{us:List Value}{vs:List V}(F:cu X.prog X.w X.K X.mg X.base CX k f fd ps sp)(hr:bp k X.A)(hb:bL X.K fd ps ds)(hd:au dvs ds)(hx:sY CX X E)(I:av X pins σ H s)(r:au vs us)(h:sp (vs++dvs) H Q E):wpAny (model X.prog X.w) X.A (call (.ref f) us) (EP X pins σ Q) X.xe s:=by
 have r2:au (vs++dvs) (us++ds):=r.append hd;have hl:(us++ds).length=ps.length:=by rw[<- r2.length];show F.len _ _ _ _ h
 show wpAny_call (codeAny_mono (F.run X.A X.stack s H ⟨us,[]⟩ (us++ds) (vs++dvs) Q E hr I.env0 (hb s us I.kIn hl) r2 h) λr s' hq=>?_);cases r with
 | error e=>show hx pins σ H s e s' I hq
 | ok fl=>
  cases fl with
  | ret u=>show I.after hq
  | next=>show False.elim hq
  | brk=>show False.elim hq
  | cont=>show False.elim hq
theorem lM (F:cu X.prog X.w X.K X.mg X.base CX k f fd ps sp)(hr:bp k X.A)(hg:Gl X x)(hm:X.mg x=↥f)(hk:PySem.W.keepIn X.K (.ref f)=true)(hb:bL X.K fd ps ds)(hd:au dvs ds)(hx:sY CX X E)(ha:PA X (e::es) t)(hdb:(x == ("__debug__" : Str))=false:=by decide)(he:starEach (e::es) X.env=(false,eval e X.env)::starEach es X.env:=by rfl)(hpl:(backTo pos (starEach es X.env)).any (·.1)=false:=by rfl):
  PE X (.Call (.Name x p) (e::es) [] pos) (wZ sp dvs E t):=by
 intro pins s σ H Q I h;show wx (zr I hg hm ?_ hdb);show BK (h₀:=X.base) I.ok.mod.kin hk (aX (ha pos pins s σ H _ I h) λus s1 ⟨vs,H1,I1,r,q⟩=>⟨I1.kIn,?_⟩) he hpl;show CO F hr hb hd hx I1 r q
theorem DK {pl:Sem Bool}(he:PE X o ta)(c:iz X.K C)(hm:iN X.K C m f)(F:cu X.prog X.w X.K X.mg X.base CX k f fd ps sp)(hr:bp k X.A)(hb:bL X.K fd ps ds)(hd:au dvs ds)(hx:sY CX X E)(ha:PA X (e::es) t)(hst:starEach (e::es) X.env=(false,eval e X.env)::starEach es X.env:=by rfl)(hpl:(backTo pos (starEach es X.env)).any (·.1)=false:=by rfl)(ht:eval (.Call (.Attribute o m apos) (e::es) [] pos) X.env=(do
   let ov <- eval o X.env
   standAt apos.atName
   let (f,first) <- holding [ov] (getMethod ov m pl)
   callWith pos f first (backTo pos (starEach (e::es) X.env)) (backToKw pos (keywordEach [] X.env))):=by rfl):
  PE X (.Call (.Attribute o m apos) (e::es) [] pos) (y6 C m sp dvs E ta t):=by
 intro pins s σ H Q I h;show PySem.W.methodCall_KW (pl:=pl) (aX (he pins s σ H _ I h) λu s1 ⟨x,H1,I1,rx,a,dx,fs,ex,ea,l,q⟩=>?_) ht;subst ex;obtain rfl:u=Value.ref a:=rx;show FC I1 ea c hm l ?_;show BK (first:=[.ref a]) (h₀:=X.base) I.ok.mod.kin hm.kp (aX (ha pos pins s1 σ H1 _ I1 q) λus s2 ⟨vs,H2,I2,r,q2⟩=>⟨I2.kIn,?_⟩) hst hpl;show CO (us:=.ref a::us) (vs:=.ref a::vs) F hr hb hd hx I2 (.cons rfl r) q2
structure Mk (K:Frag)(C f:Addr):Prop where
 makes:PySem.W.makesIn K C=true
 init:PySem.W.findIn K (.ref C) "__init__" = some (↥f)
 fn:PySem.W.isFn K (.ref f)=true
 kp:PySem.W.keepIn K (.ref C)=true
theorem Ho {pins:List (Addr×Obj)}{σ:St}{H:Hp}{s:Shared}{Q:VK}{us:List Value}{vs:List V}(M:Mk X.K C f)(F:cu X.prog X.w X.K X.mg X.base CX k f fd ps sp)(hr:bp (k+1) X.A)(hb:bL X.K fd ps ds)(hd:au dvs ds)(hx:sY CX X E)(I:av X pins σ H s)(r:au vs us)(h:∀ x dx,H x=none->H dx=none->dx≠x->sp (.ref x::(vs++dvs)) (ar (ar H dx (.own x)) x (.ins C dx [])) (λv H2=>v=.non/\Q (.ref x) H2) E):
  wpAny (model X.prog X.w) X.A (call (.ref C) us) (EP X pins σ Q) X.xe s:=by
 have hq:=h (s.heap.objs.size+1) s.heap.objs.size (I.hok.fresh (Nat.le_succ _)) (I.hok.fresh (aQ _)) (eS (wq _));have I2:=av.made (C:=C) I;have r2:au (V.ref (s.heap.objs.size+1)::(vs++dvs)) (Value.ref (s.heap.objs.size+1)::(us++ds)):=.cons rfl (r.append hd);have hl:(Value.ref (s.heap.objs.size+1)::us++ds).length=ps.length:=by
  have e:=r2.length;rw[F.len _ _ _ _ hq] at e;show e.symm
 show wpAny_call (GU (f:=f) I.kIn M.makes M.init (eQ.mp M.fn) (codeAny_mono (F.run _ X.stack _ _ ⟨Value.ref (s.heap.objs.size+1)::us,[]⟩ (Value.ref (s.heap.objs.size+1)::(us++ds)) _ _ E (hr.make C us [])
  (I2.env0.make C us []) (hb _ (Value.ref (s.heap.objs.size+1)::us) I2.kIn hl) r2 hq) λr s' hq'=>?_))
 cases r with
 | error e=>show hx pins σ _ _ e s' I2 hq'
 | ok fl=>
  cases fl with
  | ret u=>
   show eW (I2.after hq') λv H' I3 rv ev q3=>?_;subst ev;show⟨rv,⟨V.ref (s.heap.objs.size+1),H',I3,rfl,q3⟩⟩
  | next=>show False.elim hq'
  | brk=>show False.elim hq'
  | cont=>show False.elim hq'
theorem lK (M:Mk X.K C f)(F:cu X.prog X.w X.K X.mg X.base CX k f fd ps sp)(hr:bp (k+1) X.A)(hg:Gl X x)(hm:X.mg x=↥C)(hb:bL X.K fd ps ds)(hd:au dvs ds)(hx:sY CX X E)(ha:PA X (e::es) t)(hdb:(x == ("__debug__" : Str))=false:=by decide)(he:starEach (e::es) X.env=(false,eval e X.env)::starEach es X.env:=by rfl)(hpl:(backTo pos (starEach es X.env)).any (·.1)=false:=by rfl):
  PE X (.Call (.Name x p) (e::es) [] pos) (zc C sp dvs E t):=by
 intro pins s σ H Q I h;show wx (zr I hg hm ?_ hdb);show BK (h₀:=X.base) I.ok.mod.kin M.kp (aX (ha pos pins s σ H _ I h) λus s1 ⟨vs,H1,I1,r,q⟩=>⟨I1.kIn,?_⟩) he hpl;show Ho M F hr hb hd hx I1 r q
end
section
variable {X:Cx}{CX:iS}{k:Nat}{f C:Addr}{fd:FuncData}{ps ks:List Str}{sp:Sp}{E:XK}{x m:Str}{p pos apos kpos:Pos}{e o:Expr}{es:List Expr}{kws:List Keyword}{te ta:TE}{t tk:TA}{nm:Option Str}
structure BH (K:Frag)(fd:FuncData)(ps ks:List Str)(g:List Value->List Value->List Value)(gV:List V->List V->List V):Prop where
 to:∀ (s:Shared) (us ws:List Value),K.In s.heap->(g us ws).length=ps.length->BindsTo s fd ⟨us,ks.zip ws⟩ (ps.zip (g us ws))
 rel:∀ {vs:List V} {us:List Value} {zs:List V} {ws:List Value},au vs us->au zs ws->au (gV vs zs) (g us ws)
variable {g:List Value->List Value->List Value}{gV:List V->List V->List V}
end
structure ag (N P:List Str)(sc:Scope):Prop where
 kind:sc.kind=.function
 co:sc.isCoroutine=false
 gen:sc.isGenerator=false
 nd:N.Nodup
 pre:N.take P.length=P
 par:∀ x∈P,sc.names.lookup x=some .local\/sc.names.lookup x=some .cell
 nofree:∀ y∈sc.names,y.2≠.free
theorem E6 {kindOf:Str->Option NameKind}{x:Str}:∀ {binds:List (Str×Value)} {m:Str->Option Value},(∀ v,(x,v)∉binds)->bindL kindOf binds m x=m x
 | [],_,_=>rfl
 | (n,v)::r,m,h=>by
  unfold bindL;rw[E6 λw hw=>h w (kO _ hw)];split
  .have:x≠n:=by rintro rfl;show h v o_
   simp[this]
  .rfl
theorem E4 {kindOf:Str->Option NameKind}{x:Str}:∀ {binds:List (Str×Value)} {m:Str->Option Value},(∀ v,(x,v)∉binds)->bindC kindOf binds m x=m x
 | [],_,_=>rfl
 | (n,v)::r,m,h=>by
  unfold bindC;rw[E4 λw hw=>h w (kO _ hw)];split
  .rfl
  .have:x≠n:=by rintro rfl;show h v o_
   simp[this]
theorem E5 {kindOf:Str->Option NameKind}{x:Str}{v:Value}:∀ {P:List Str} {vs:List Value} {i:Nat} {m:Str->Option Value},P.Nodup->P[i]?=some x->vs[i]?=some v->kindOf x=some .local->
  bindL kindOf (P.zip vs) m x=some v
 | [],_,_,_,_,h,_,_=>by simp at h
 | _::_,[],_,_,_,_,h,_=>by simp at h
 | p::P,w::vs,0,m,nd,h1,h2,hk=>by
  simp at h1 h2;subst h1;subst h2;change bindL kindOf ((p,w)::P.zip vs) m p=_;unfold bindL;rw[E6 λv hv=>(yg.mp nd).1 (List.of_mem_zip hv).1,if_pos hk];simp
 | p::P,w::vs,i+1,m,nd,h1,h2,hk=>by
  change bindL kindOf ((p,w)::P.zip vs) m x=_;unfold bindL;show E5 (i:=i) (yg.mp nd).2 (by simpa using h1) (by simpa using h2) hk
theorem E3 {kindOf:Str->Option NameKind}{x:Str}{v:Value}:∀ {P:List Str} {vs:List Value} {i:Nat} {m:Str->Option Value},P.Nodup->P[i]?=some x->vs[i]?=some v->kindOf x≠some .local->
  bindC kindOf (P.zip vs) m x=some v
 | [],_,_,_,_,h,_,_=>by simp at h
 | _::_,[],_,_,_,_,h,_=>by simp at h
 | p::P,w::vs,0,m,nd,h1,h2,hk=>by
  simp at h1 h2;subst h1;subst h2;change bindC kindOf ((p,w)::P.zip vs) m p=_;unfold bindC;rw[E4 λv hv=>(yg.mp nd).1 (List.of_mem_zip hv).1,if_neg hk];simp
 | p::P,w::vs,i+1,m,nd,h1,h2,hk=>by
  change bindC kindOf ((p,w)::P.zip vs) m x=_;unfold bindC;show E3 (i:=i) (yg.mp nd).2 (by simpa using h1) (by simpa using h2) hk
noncomputable def start (N:List Str)(vs:List V):St:=vs.map some++List.replicate (N.length-vs.length) none
def nE (CX:iS)(P:Program)(w:World)(K:Frag)(mg:Str->Option Value)(base:Heap)(N:List Str)(qual:Str)(scope:Scope)(f:Addr)(cd:Value)(A:Around)(outer:List Env)(s:Shared)(H:Hp)(E:XK):Cx where
 prog:=P
 w:=w
 K:=K
 mg:=mg
 base:=base
 A:=A.deeper (envOfC qual scope s.heap.objs.size f cd)
 N:=N
 s₀:=s
 H₀:=H
 env:=envOfC qual scope s.heap.objs.size f cd
 outer:=outer
 stack:=envOfC qual scope s.heap.objs.size f cd::outer
 ex:=[]
 calm:=true
 fn:=λ_=>true
 pn:=[]
 xe:=λe s'=>wpAny (model P w) (A.deeper (envOfC qual scope s.heap.objs.size f cd)) (leaving (envOfC qual scope s.heap.objs.size f cd) e) (λ_ s''=>CX outer H s E e s'') (λe' s''=>CX outer H s E e' s'') s'
theorem Ef {sc:Scope}{n:Nat}{x:Str}(h:sc.names.lookup x=some .cell):∃ c,(cellsFrom n sc.names []).lookup x=some c:=by
 have q:=yu sc.names n [] (.inl h);show B_.mp q
theorem HM {CX:iS}{P:Program}{w:World}{K:Frag}{mg:Str->Option Value}{base:Heap}{N ps:List Str}{qual:Str}{scope:Scope}{f:Addr}{cd:Value}{A:Around}{outer:List Env}{s s1:Shared}{H:Hp}{E:XK}{us:List Value}{vs:List V}(S:ag N ps scope)(hd:A.handled=none)(e0:gW P w K mg base A outer s H)(hl:vs.length=ps.length)(r:au vs us)(x:InCallC s s.heap.objs.size (bindL (envOfC qual scope s.heap.objs.size f cd).kindOf (ps.zip us) λ_=>none) (cellsFrom (s.heap.objs.size+1) scope.names []) (bindC (envOfC qual scope s.heap.objs.size f cd).kindOf (ps.zip us) λ_=>none) s1):
  av (nE CX P w K mg base N qual scope f cd A outer s H E) [] (start N vs) H s1:=by
 have hpl:ps.length<=N.length:=by have:=jC List.length S.pre;rw[i8] at this;omega
 show cE x.done λh1 tk e9109 hk=>?_;obtain rfl:=e9109;have noA:∀ b:Addr,b∉(nE CX P w K mg base N qual scope f cd A outer s H E).ex:=λb z=>absurd (show b∈([]:List Addr) from z) (by simp);show⟨⟨e0.mod,S.kind,rfl,rfl,aQ _,λy z c h1 h2=>?_,λy hy=>?_,λy c _ h=>?_,λ_=>hd,Around.frames_deeper e0.frames,.inr ⟨rfl,rfl⟩,λb z=>absurd z (noA b),e0.bs,e0.bsz,λb _ _=>noA b,λb z=>absurd z (noA b),e0.funs,e0.frf,⟨_,_,rfl,S.gen,S.co,rfl,rfl⟩⟩,
  rfl,e0.bare,Un.kept hk,⟨_,x.toInCall.ns,λi y v h1 h2 h3=>?_⟩,λy c h=>⟨_,x.cell y c h⟩,e0.hok.fresh (aQ _),λy c h=>?_,λp hp=>absurd (show p∈([]:List (Addr×Obj)) from hp) (by simp),e0.hok.kept hk,?_⟩
 .exact name_of_addr x.apart (jn h1) (jn h2)
 .have hy:scope.names.lookup y=some .cell\/scope.names.lookup y=some .free:=hy;rcases hy with hy|hy
  .exact Ef hy
  .exact absurd rfl (S.nofree _ (jn hy))
 .exact gR (x.above y c (jn h))
 .have hi:i<vs.length:=by
   unfold start at h2;by_cases hi:i<vs.length
   .exact hi
   .rw [fu (by simpa using hi)] at h2;rw[sG] at h2;split at h2 <;> cases h2
  have ha:vs[i]?=some v:=by
   unfold start at h2;rw[fq (by simpa using hi),bj] at h2;cases e:vs[i]? with
   | none=>rw[e] at h2;cases h2
   | some a=>rw[e] at h2;cases h2;rfl
  show ao (r.get ha) λu hu rv=>?_;have hp:ps[i]?=some y:=by
   rw[<- S.pre,Cj ∅];show h1
  have ndP:ps.Nodup:=by rw[<- S.pre];show S.nd.sublist (List.take_sublist _ _)
  show⟨u,rv,?_⟩;rcases S.par y (aY hp) with k|k
  .exact .inl ⟨k,E5 ndP hp hu k⟩
  .obtain ⟨c,e⟩:=Ef (n:=s.heap.objs.size+1) k;show .inr ⟨.inl k,c,e,?_⟩;have q:=x.cell y c e;rw[E3 ndP hp hu (by show scope.names.lookup y≠_;rw[k];decide)] at q;show q
 .exact e0.hok.fresh (gR (x.above y c (jn h)))
 .unfold start;change _=N.length;rw[bN,aB,eM];omega
theorem jO {CX:iS}{P:Program}{w:World}{K:Frag}{mg:Str->Option Value}{base:Heap}{k:Nat}{f:Addr}{name qual:Str}{params:Arguments}{body:List Stmt}{scope:Scope}{dV kV doc pm cdv ct oc:Value}{an od:Option Addr}{osl:Array (Option Value)}{N ps:List Str}{sp:Sp}(lk:K.lookup f=some ⟨oc,od,.func (PySem.W.fnOf name qual params body scope dV kV doc pm an cdv ct),osl⟩)(hcd:PySem.W.codeIn K cdv qual=true)(S:ag N ps scope)(len:∀ vs H Q E,sp vs H Q E->vs.length=ps.length)(hbody:∀ (A:Around) (outer:List Env) (s:Shared) (H:Hp) (vs:List V) (Q:VK) (E:XK),bp k (A.deeper (envOfC qual scope s.heap.objs.size f cdv))->sp vs H Q E->
   ∃ t,iL (nE CX P w K mg base N qual scope f cdv A outer s H E) body t/\t { nx:=λ_ H'=>Q .non H',rt:=Q } (start N vs) H):
  cu P w K mg base CX (k+1) f (PySem.W.fnOf name qual params body scope dV kV doc pm an cdv ct) ps sp:=by
 show⟨len,λA outer s H args us vs Q E hr e0 hb r hsp=>?_⟩;have hl:=len _ _ _ _ hsp;have KX:K.In s.heap:=e0.mod.kin.keeps λb o e=>(e0.bs b o e).1;have lim:s.heap.NoLimit:=e0.mod.nolimit.keeps λb o e=>(e0.bs b o e).1;have hkind:∀ y∈ps.zip us,scope.names.lookup y.1=some .local\/(scope.names.lookup y.1=some .cell/\((cellsFrom (s.heap.objs.size+1) scope.names []).lookup y.1).isSome=true):=λ⟨n,v⟩ hy=>by
  rcases S.par n (List.of_mem_zip hy).1 with q|q
  .exact .inl q
  .exact .inr ⟨q,yu _ _ _ (.inl q)⟩
 show codeAny_call_function hr.depth (KX _ _ lk) rfl S.co S.gen rfl (PySem.W.codeRec_of KX hcd) (hb _ _ _ _ ?_);show wpAny_newFunctionEnv_cells S.kind hkind λenv he s1 x=>?_;subst he;show⟨lim.keeps x.toInCall.keep,codeAny_func ?_⟩;show ao (hbody A outer s H vs Q E (hr.deeper _) hsp) λt ht hq=>?_;have I:av (nE CX P w K mg base N qual scope f cdv A outer s H E) [] (start N vs) H s1:=HM S hr.hd e0 hl r x;show jh (ht [] s1 (start N vs) H _ I hq) (λfl s' hs=>?_) λe s' hs=>hs;have fin:∀ {σ':St} {H':Hp} {v:V} {u:Value},av (nE CX P w K mg base N qual scope f cdv A outer s H E) [] σ' H' s'->aI v u->Q v H'->CE outer P w H s Q u s':=
  λ{σ' H' v u} J rv q=>⟨v,H',J.os,J.bare,J.base,J.hok,rv,q⟩
 cases fl with
 | ret u=>
  show iD hs λv σ' H' J rv q=>?_;clear hs;show fin J rv q
 | next=>
  show cE hs λσ' H' J q=>?_;clear hs;show fin (v:=V.non) (u:=Value.none) J rfl q
 | brk=>
  show cE hs λ_ _ _ q=>?_;clear hs;show False.elim q
 | cont=>
  show cE hs λ_ _ _ q=>?_;clear hs;show False.elim q
section
variable {X:Cx}{x:Str}{p pos:Pos}{e:Expr}{es:List Expr}{t:TA}{id T:String}{r:List V->Hp->VK->Prop}
def tCB (r:List V->Hp->VK->Prop)(t:TA):TE:=λσ H Q=>t σ H λvs H1=>r vs H1 Q
theorem Hg (hc:jb X (.builtin id) r)(hg:Gl X x)(hm:X.mg x=none)(hv:bootBuiltins x=some (.builtin id))(ha:PA X (e::es) t)(hn:x ≠ "__name__" := by decide)(hdb:(x == ("__debug__" : Str))=false:=by decide)(he:starEach (e::es) X.env=(false,eval e X.env)::starEach es X.env:=by rfl)(hpl:(backTo pos (starEach es X.env)).any (·.1)=false:=by rfl):PE X (.Call (.Name x p) (e::es) [] pos) (tCB r t):=by
 intro pins s σ H Q I h;show wx (oK I hg hm hv ?_ hn hdb);show PyProof.Rows.callWith_builtin1 (aX (ha pos pins s σ H _ I h) λus s1 ⟨vs,H1,I1,r1,q1⟩=>hc pins s1 σ H1 vs us Q I1 r1 q1) he hpl
theorem HJ (hc:jb X (.type T) r)(hg:Gl X x)(hm:X.mg x=none)(hv:bootBuiltins x=some (.type T))(ha:PA X (e::es) t)(hn:x ≠ "__name__" := by decide)(hdb:(x == ("__debug__" : Str))=false:=by decide)(he:starEach (e::es) X.env=(false,eval e X.env)::starEach es X.env:=by rfl)(hpl:(backTo pos (starEach es X.env)).any (·.1)=false:=by rfl):PE X (.Call (.Name x p) (e::es) [] pos) (tCB r t):=by
 intro pins s σ H Q I h;show wx (oK I hg hm hv ?_ hn hdb);show wI (aX (ha pos pins s σ H _ I h) λus s1 ⟨vs,H1,I1,r1,q1⟩=>hc pins s1 σ H1 vs us Q I1 r1 q1) he hpl
end
end L2
namespace HT
open PySem PyProof.Rows
section
open PySem.SeqAt
open PySem.AutoSeq1 (wpAny_loadPart')
open PySem.MeetsSeq PySem.MeetsSeq2 PySem.MeetsSeq3
end
section
variable {prog:Program}{w:World}{A:Around}{E:Value->Shared->Prop}{s:Shared}
noncomputable def sIx (n d:Nat):Option Int->Nat
 | none=>d
 | some v=>if v<0 then (v+(n:Int)).toNat else min v.toNat n
end
end HT
namespace L2
open PySem PySem.Spec PyProof.Rows
abbrev TO:=St->Hp->(Option Int->Hp->Prop)->Prop
def PO (X:Cx)(e:Option Expr)(t:TO):Prop:=
 ∀ (pins:List (Addr×Obj)) (s:Shared) (σ:St) (H:Hp) (Q:Option Int->Hp->Prop),av X pins σ H s->t σ H Q->
  wpAny (model X.prog X.w) X.A (evalPart e X.env) (λu s'=>∃ o H',av X pins σ H' s'/\IsPart u o/\Q o H') X.xe s
def IT:TO:=λ_ H Q=>Q none H
def tPart (t:TE):TO:=λσ H Q=>t σ H λx H1=>∃ i,x=.int i/\Q (some i) H1
section
variable {X:Cx}{e:Expr}{te:TE}{lo hi:Option Expr}{tl th:TO}{pos p2:Pos}
theorem lC:PO X none IT:=by
 intro pins s σ H Q I h;rw[evalPart_none];show dG ⟨none,H,I,.none,h⟩
theorem zG (h:PE X e te):PO X (some e) (tPart te):=by
 intro pins s σ H Q I hw;rw[evalPart_some];show aX (h pins s σ H _ I hw) λu s1 ⟨x,H1,I1,r1,q1⟩=>?_;show ao q1 λi e9110 q=>?_;clear q1;obtain rfl:=e9110;obtain⟨t,rfl⟩:=r1;show aM (some i) H1 ⟨I1,.int i t,q⟩
def Bz (X:Cx)(r:V->Option Int->Option Int->Hp->VK->Prop):Prop:=
 ∀ (pins:List (Addr×Obj)) (s:Shared) (σ:St) (H:Hp) (x:V) (v vl vu:Value) (lo hi:Option Int) (sl:Addr) (Q:VK),av X pins σ H s->aI x v->s.heap.IsSliceOf sl vl vu .none->IsPart vl lo->IsPart vu hi->r x lo hi H Q->
  ∃ T id,typeLookup (.type T) "__getitem__" = pure (some (.builtin id))/\s.TypeIs v T/\wpAny (model X.prog X.w) X.A (getItem v (.ref sl)) (EP X pins σ Q) X.xe s
def tSl (r:V->Option Int->Option Int->Hp->VK->Prop)(te:TE)(tl th:TO):TE:=λσ H Q=>te σ H λx H1=>tl σ H1 λl H2=>th σ H2 λu H3=>r x l u H3 Q
theorem Ew {r:V->Option Int->Option Int->Hp->VK->Prop}(hr:Bz X r)(he:PE X e te)(hl:PO X lo tl)(hu:PO X hi th):PE X (.Subscript e (.Slice lo hi none p2) pos) (tSl r te tl th):=by
 intro pins s σ H Q I h;show Subscript_ (aX (he pins s σ H _ I h) λv s1 ⟨x,H1,I1,r1,q1⟩=>?_);show wpAny_Slice (aX (hl pins s1 σ H1 _ I1 q1) λvl s2 ⟨l,H2,I2,pl,q2⟩=>aX (hu pins s2 σ H2 _ I2 q2) λvu s3 ⟨u,H3,I3,pu,q3⟩=>?_);rw[evalPart_none];show dG ?_;have I4:av X pins σ H3 { s3 with heap:=s3.heap.push { cls:=.type "slice",data:=.fields #[vl,vu,.none] } }:=I3.kept (t':=s3.toks) λb ob q=>d5 _ q;show cF (hr pins { s3 with heap:=s3.heap.push { cls:=.type "slice",data:=.fields #[vl,vu,.none] } } σ H3 x v vl vu l u s3.heap.objs.size Q I4 r1 (Heap.IsSliceOf.new ..) pl pu q3) λT id hT ht hg=>?_;change wpAny (model X.prog X.w) X.A (subscriptTail e (.Slice lo hi none p2) v (.ref s3.heap.objs.size)) (EP X pins σ Q) X.xe { s3 with heap:=s3.heap.push { cls:=.type "slice",data:=.fields #[vl,vu,.none] } };show tail_any (ops:=[.ref s3.heap.objs.size,v]) ht hT hg (by with_unfolding_all rfl)
def nC (xs:List V)(lo hi:Option Int):List V:=(xs.drop (HT.sIx xs.length 0 lo)).take (HT.sIx xs.length xs.length hi-HT.sIx xs.length 0 lo)
theorem IP (xs:List V)(lo hi:Option Int):(nC xs lo hi).length<=xs.length:=by
 unfold nC;rw[i8,o8];omega
end
noncomputable def ixN (n:Nat)(i:Int):Option Nat:=if 0<=i then (if i<n then some i.toNat else none) else if -(n:Int)<=i then some (i+n).toNat else none
noncomputable def atI {α:Type}(xs:List α)(i:Int):Option α:=(ixN xs.length i).bind λj=>xs[j]?
theorem Dy {n:Nat}{i:Int}{j:Nat}(h:ixN n i=some j):seqIndex? i n=some j/\j<n/\-(n:Int)<=i/\i<n:=by
 unfold ixN at h;by_cases h0:0<=i
 .rw [if_pos h0] at h;by_cases h1:i<n
  .rw [if_pos h1] at h;have e:i.toNat=j:=gw h;show⟨by rw[seqIndex_of h0 h1,e],∅,∅,h1⟩
  .rw [if_neg h1] at h;cases h
 .rw [if_neg h0] at h;by_cases h1:-(n:Int)<=i
  .rw [if_pos h1] at h;have e:(i+n).toNat=j:=gw h;show⟨by rw[seqIndex_neg ∅ h1,e],∅,h1,∅⟩
  .rw [if_neg h1] at h;cases h
theorem Dx {α:Type}{xs:List α}{i:Int}{v:α}(h:atI xs i=some v):∃ j,seqIndex? i xs.length=some j/\xs[j]?=some v/\j<xs.length/\-(xs.length:Int)<=i/\i<xs.length:=by
 unfold atI at h;cases e:ixN xs.length i with
 | none=>rw[e] at h;cases h
 | some j=>
  rw[e] at h;show cA (Dy e) λh1 h2 h3 h4=>?_;show⟨j,h1,h,h2,h3,h4⟩
theorem nq {α:Type}{xs:List α}{j:Nat}{v:α}(h:xs[j]?=some v):atI xs (j:Int)=some v:=by
 have hj:j<xs.length:=(b_.mp h).1;have e:ixN xs.length (j:Int)=some j:=by
  unfold ixN;rw[if_pos ∅,if_pos ∅];simp
 unfold atI;rw[e];show h
theorem F_ {α:Type}(xs:List α)(v:α):atI (xs++[v]) (-1)=some v:=by
 have hl:(xs++[v]).length=xs.length+1:=by simp
 have e:ixN (xs++[v]).length (-1)=some xs.length:=by
  unfold ixN;rw[hl,if_neg ⇑0,if_pos ∅];congr 1;omega
 unfold atI;rw[e];change (xs++[v])[xs.length]?=some v;simp
def nX (b:Expr):Prop:=∀ o i,subscripted b false o i=operate [o,i] (getItem o i)
def oe (X:Cx)(r:R2):Prop:=
 ∀ (value slice:Expr) (pins:List (Addr×Obj)) (s:Shared) (σ:St) (H:Hp) (x y:V) (v u:Value) (Q:VK),av X pins σ H s->aI x v->aI y u->r x y H Q->
  subscripted slice false v u=operate [v,u] (getItem v u)->wpAny (model X.prog X.w) X.A (subscriptTail value slice v u) (EP X pins σ Q) X.xe s
def xZ (X:Cx)(id:String)(r:V->List V->Hp->VK->Prop):Prop:=
 ∀ (pins:List (Addr×Obj)) (s:Shared) (σ:St) (H:Hp) (x:V) (xs:List V) (v:Value) (us:List Value) (Q:VK),av X pins σ H s->aI x v->au xs us->r x xs H Q->
  wpAny (model X.prog X.w) X.A (call (.builtin id) (v::us)) (EP X pins σ Q) X.xe s
section
variable {X:Cx}{a b:Expr}{ta tb:TE}{pos:Pos}
theorem ui {r:R2}(hr:oe X r)(ha:PE X a ta)(hb:PE X b tb)(hs:nX b):PE X (.Subscript a b pos) (tOp r ta tb):=by
 intro pins s σ H Q I h;show Subscript_ (binT ha hb I h λv u s2 x y H2 I2 rx ry q=>hr a b pins s2 σ H2 x y v u Q I2 rx ry q (hs _ _))
def rIxL (K:Frag):R2:=λx y H Q=>∃ p xs i v,x=.ref p/\y=.int i/\aj K H p xs/\atI xs i=some v/\Q v H
def rIxT (K:Frag):R2:=λx y H Q=>∃ p xs i v,x=.ref p/\y=.int i/\aE K H p xs/\atI xs i=some v/\Q v H
theorem a_:oe X (rIxL X.K):=by
 intro value slice pins s σ H x y v u Q I rx ry h hs;show cZ h λp xs i z e9120 e9121 hq e9122=>?_;clear h;subst e9120;obtain rfl:=e9121;obtain⟨he,q⟩:=e9122;cases rx;obtain⟨t,rfl⟩:=ry;show bh (I.list hq) λits r pl hz=>?_;show sS (Dx he) λj h1 h2 h3 h4 h5=>?_;show ao (r.get h2) λw ew rw'=>?_;have hl:=r.length;have hn:=u_;have fin:EP X pins σ Q w s:=⟨z,H,I,rw',q⟩
 by_cases h0:0<=i
 .have hj:i.toNat=j:=by
   rw[seqIndex_of h0 h5] at h1;show gw h1
  show item_listR pl.isList h0 ∅ (by rw[hj];simpa using ew) fin hs
 .have hj:(i+(its.toArray.size:Int)).toNat=j:=by
   rw[seqIndex_neg ∅ h4] at h1;rw[dS,<- hl];show gw h1
  show subscriptTail_builtinR (x:=w) pl.isList.typeIs slot_list_getitem.lookup
   (wpAny_getItem_list_neg (Q:=λr s'=>r=w/\EP X pins σ Q r s') pl.isList ∅ (by rw[dS] <;> omega) ∅ (by rw[hj];simpa using ew) ⟨rfl,fin⟩) hs
theorem bq:oe X (rIxT X.K):=by
 intro value slice pins s σ H x y v u Q I rx ry h hs;show cZ h λp xs i z e9123 e9124 hq e9125=>?_;clear h;subst e9123;obtain rfl:=e9124;obtain⟨he,q⟩:=e9125;cases rx;obtain⟨t,rfl⟩:=ry;show bh (I.tuple hq) λits r pl hz=>?_;show sS (Dx he) λj h1 h2 h3 h4 h5=>?_;show ao (r.get h2) λw ew rw'=>?_;have hl:=r.length;have hn:=u_;have fin:EP X pins σ Q w s:=⟨z,H,I,rw',q⟩
 show subscriptTail_builtinR (x:=w) pl.typeIs slot_tuple_getitem.lookup
  (getItem_tuple (j:=j) (Q:=λr s'=>r=w/\EP X pins σ Q r s') pl ∅ ∅ (by rw[dS,<- hl];show h1) (by simpa using ew) ⟨rfl,fin⟩) hs
theorem Im (its:List Value)(n j:Nat)(u:Value):Obj.mapSeq (·.setIfInBounds j u) { cls:=.type "list",data:=.seq its.toArray n }={ cls:=.type "list",data:=.seq (its.set j u).toArray n }:=by
 simp[Obj.mapSeq]
theorem av.lst {pins:List (Addr×Obj)}{σ:St}{H:Hp}{s:Shared}{p:Addr}{xs:List V}(I:av X pins σ H s)(h:H p=some (.lst xs)):
  ∃ (its:List Value) (n:Nat),au xs its/\s.heap.get? p=some { cls:=.type "list",data:=.seq its.toArray n }/\xs.length<=sizeLine:=by
 obtain⟨z,its,n,r,e⟩:=I.hok p _ h;show aM its n ⟨r,e,z⟩
theorem av.lstUpd {pins:List (Addr×Obj)}{σ:St}{H:Hp}{s:Shared}{p:Addr}{xs ys:List V}{its its':List Value}{n n':Nat}{f:Obj->Obj}(I:av X pins σ H s)(h:H p=some (.lst xs))(ho:s.heap.get? p=some { cls:=.type "list",data:=.seq its.toArray n })(hf:f { cls:=.type "list",data:=.seq its.toArray n }={ cls:=.type "list",data:=.seq its'.toArray n' })(r:au ys its')(hz:ys.length<=sizeLine)(t:Nat):
  av X pins σ (ar H p (.lst ys)) { s with heap:=s.heap.update p f,toks:=t }:=by
 have e:(s.heap.update p f).get? p=some { cls:=.type "list",data:=.seq its'.toArray n' }:=by
  rw[Heap.get?_update_self f ho (by rw[hf] <;> rfl),hf]
 show I.write (x:=p) (e:=p) (by rw[h];trivial) (.inl rfl) (λb u hb q=>(Heap.get?_update_other _ _ (f_ hb)).trans q) ⟨_,e⟩ ?_;show⟨hz,its',n',r,e⟩
def rSetL:V->V->V->Hp->(Hp->Prop)->Prop:=λo i v H Q=>∃ p xs k j,o=.ref p/\i=.int k/\H p=some (.lst xs)/\ixN xs.length k=some j/\Q (ar H p (.lst (xs.set j v)))
theorem i5:vW X rSetL:=by
 intro pins s σ H o i v ov iv u Q I ro ri rv h;show cZ h λp xs k j e9129 e9130 hp e9131=>?_;clear h;subst e9129;obtain rfl:=e9130;obtain⟨hj,q⟩:=e9131;cases ro;obtain⟨t,rfl⟩:=ri;show cF (I.lst hp) λits n r ho hz=>?_;show cA (Dy hj) λh1 h2 h3 h4=>?_;have hl:=r.length;have hn:=u_;have I':av X pins σ (ar H p (.lst (xs.set j v))) { s with heap:=s.heap.update p (Obj.mapSeq (·.setIfInBounds j u)) }:=
  I.lstUpd hp ho (Im its n j u) (r.set rv j) (by rw[dC];show hz) s.toks
 by_cases h0:0<=k
 .have hk:k.toNat=j:=by
   rw[seqIndex_of h0 h4] at h1;show gw h1
  show PySem.W.ki_setAt ho h0 ∅ (by rw[dS,<- hl];show h4) (by rw[hk];show⟨_,I',q⟩)
 .have hk:(k+(its.toArray.size:Int)).toNat=j:=by
   rw[seqIndex_neg ∅ h3] at h1;rw[dS,<- hl];show gw h1
  show PySem.W.ki_setBack ho ∅ (by rw[dS,<- hl];show h3) ∅ (by rw[hk];show⟨_,I',q⟩)
theorem IZ (lo hi:Option Int)(n:Nat):(sliceBounds lo hi none n).1=((HT.sIx n 0 lo:Nat):Int)/\(sliceBounds lo hi none n).2.1=((HT.sIx n n hi:Nat):Int)/\(sliceBounds lo hi none n).2.2=1:=by
 show⟨?_,?_,rfl⟩
 .cases lo with
  | none=>simp[sliceBounds,HT.sIx]
  | some i=>
   simp only[sliceBounds,HT.sIx,Option.getD_none,show (1:Int) > 0 by decide,fm];by_cases h:i<0
   .simp only [h,fm] <;> omega
   .simp only [h,if_false] <;> omega
 .cases hi with
  | none=>simp[sliceBounds,HT.sIx]
  | some i=>
   simp only[sliceBounds,HT.sIx,Option.getD_none,show (1:Int) > 0 by decide,fm];by_cases h:i<0
   .simp only [h,fm] <;> omega
   .simp only [h,if_false] <;> omega
theorem Jb (its:List Value)(lo hi:Option Int):slicePick its.toArray lo hi none=((its.drop (HT.sIx its.length 0 lo)).take (HT.sIx its.length its.length hi-HT.sIx its.length 0 lo)).toArray:=by
 show bC (IZ lo hi its.toArray.size) λh1 h2 h3=>?_;unfold slicePick;rw[h1,h2,h3];simp only[sliceRange_one,pick_run,dS] <;> rfl
def rSlL (K:Frag):V->Option Int->Option Int->Hp->VK->Prop:=λx lo hi H Q=>∃ a xs,x=.ref a/\aj K H a xs/\∀ p,H p=none->Q (.ref p) (ar H p (.lst (nC xs lo hi)))
theorem DQ:Bz X (rSlL X.K):=by
 intro pins s σ H x v vl vu lo hi sl Q I rx hs pl pu h;show cF h λa xs e9132 hx q=>?_;clear h;subst e9132;cases rx;show bh (I.list hx) λits r ht hz=>?_;have hlen:=r.length;show aM ("list") _ ⟨slot_list_getitem.lookup,ht.isList.typeIs,?_⟩;show wpAny_getItem_list_slice ht.isList hs pl pu .none (by simp) ?_ (by rw[dS] <;> omega);rw[Jb,<- hlen];show aM (.ref s.heap.objs.size) _ ⟨I.laid (t':=s.toks) (o:=.lst (nC xs lo hi)) (λb ob q=>d5 _ q) (aQ _) ?_,rfl,q _ (I.hok.fresh (aQ _))⟩;show⟨cD (IP xs lo hi) hz,_,0,(r.drop (HT.sIx xs.length 0 lo)).take (HT.sIx xs.length xs.length hi-HT.sIx xs.length 0 lo),ij _ rfl⟩
def sV:V->Bool
 | .non=>true
 | .bl _=>true
 | .int _=>true
 | .str _=>true
 | _=>false
noncomputable def eqV:V->V->Bool
 | .non,.non=>true
 | .bl a,.bl b=>a == b
 | .bl a,.int b=>(if a then 1 else 0) == b
 | .int a,.bl b=>a == (if b then 1 else 0)
 | .int a,.int b=>a == b
 | .str a,.str b=>a == b
 | _,_=>false
theorem qV {A:Around}{s:Shared}{y x:V}{u v:Value}(ry:aI y u)(rx:aI x v)(fy:sV y=true)(fx:sV x=true):SeqAt.EqAt A s u v (eqV y x):=by
 cases y with
 | non=>
  cases ry;cases x with
  | non=>cases rx;show SeqAt.EqAt.same _
  | bl b=>cases rx;show SeqAt.EqAt.none_bool b
  | int b=>obtain⟨t,rfl⟩:=rx;show SeqAt.EqAt.none_int b t
  | str b=>obtain⟨t,rfl⟩:=rx;show SeqAt.EqAt.none_str b t
  | _=>show absurd (show false=true from fx) eU
 | bl a=>
  cases ry;cases x with
  | non=>cases rx;show SeqAt.EqAt.bool_none a
  | bl b=>cases rx;show SeqAt.EqAt.bool_bool a b
  | int b=>obtain⟨t,rfl⟩:=rx;show SeqAt.EqAt.bool_int a b t
  | str b=>obtain⟨t,rfl⟩:=rx;show SeqAt.EqAt.bool_str a b t
  | _=>show absurd (show false=true from fx) eU
 | int a=>
  obtain⟨t',rfl⟩:=ry;cases x with
  | non=>cases rx;show SeqAt.EqAt.int_none a t'
  | bl b=>cases rx;show SeqAt.EqAt.int_bool a t' b
  | int b=>obtain⟨t,rfl⟩:=rx;show SeqAt.EqAt.int_int a t' b t
  | str b=>obtain⟨t,rfl⟩:=rx;show SeqAt.EqAt.int_str a t' b t
  | _=>show absurd (show false=true from fx) eU
 | str a=>
  obtain⟨t',rfl⟩:=ry;cases x with
  | non=>cases rx;show SeqAt.EqAt.str_none a t'
  | bl b=>cases rx;show SeqAt.EqAt.str_bool a t' b
  | int b=>obtain⟨t,rfl⟩:=rx;show SeqAt.EqAt.str_int a t' b t
  | str b=>obtain⟨t,rfl⟩:=rx;show SeqAt.EqAt.str_str a t' b t
  | _=>show absurd (show false=true from fx) eU
 | _=>show absurd (show false=true from fy) eU
noncomputable def inV (x:V)(xs:List V):Bool:=xs.any λy=>eqV y x
def rIn (K:Frag)(neg:Bool):R2:=λx y H Q=>∃ p xs,y=.ref p/\(aj K H p xs\/aE K H p xs)/\sV x=true/\xs.all sV=true/\Q (.bl (if neg then !inV x xs else inV x xs)) H
theorem h_:jb X (.builtin "len") (λxs H Q=>∃ p ys,xs=[.ref p]/\(aj X.K H p ys\/aE X.K H p ys)/\Q (.int ys.length) H):=by
 intro pins s σ H xs us Q I r h;show cF h λp ys e9137 hq q=>?_;clear h;subst e9137;show ao (rq r) λu e9138 rx=>?_;obtain rfl:=e9138;cases rx;have hn:=u_;rcases hq with hq|hq
 .refine bh (I.list hq) λits r' pl hz=>?_;have hlen:=r'.length;show Calls.call_len_list pl.isList (by simp only[dS] <;> omega) ⟨.int ys.length,H,I.tok _,⟨s.toks+1,by rw[dS,hlen]⟩,q⟩
 .refine bh (I.tuple hq) λits r' pl hz=>?_;have hlen:=r'.length;show len_tuple pl (by simp only[dS] <;> omega) ⟨.int ys.length,H,I.tok _,⟨s.toks+1,by rw[dS,hlen]⟩,q⟩
theorem vP:jb X (.type "list") (λxs H Q=>∃ p ys,xs=[.ref p]/\(aj X.K H p ys\/aE X.K H p ys)/\∀ l,H l=none->Q (.ref l) (ar H l (.lst ys))):=by
 intro pins s σ H xs us Q I r h;show cF h λp ys e9142 hq q=>?_;clear h;subst e9142;show ao (rq r) λu e9143 rx=>?_;obtain rfl:=e9143;cases rx;have fin:∀ (its:List Value),au ys its->ys.length<=sizeLine->∀ (h':Heap) (c':Nat),(∀ b o',s.heap.get? b=some o'->h'.get? b=some o')->
   h'.get? s.heap.objs.size=some { cls:=.type "list",dict:=none,data:=.seq its.toArray c',slots:=#[] }->EP X pins σ Q (.ref s.heap.objs.size) { s with heap:=h' }:=λits r' hz h' c' kp e=>
  ⟨.ref s.heap.objs.size,_,I.laid (t':=s.toks) kp (aQ _) (show bF X.prog X.w _ h' _ (.lst ys) from ⟨hz,its,c',r',e⟩),rfl,q _ (I.hok.fresh (aQ _))⟩
 rcases hq with hq|hq
 .refine bh (I.list hq) λits r' pl hz=>?_;have hlen:=r'.length;obtain⟨o,ho,hc,n,hd⟩:=pl.isList;show call_list_seq p (.inl rfl) ho hc hd (λh' c' kp e=>fin its r' hz h' c' kp e) (by simp only[dS] <;> omega)
 .obtain ⟨its,r',pl,hz⟩:=I.tuple hq;have hlen:=r'.length;obtain⟨o,ho,hc,n,hd⟩:=pl;show call_list_seq p (.inr rfl) ho hc hd (λh' c' kp e=>fin its r' hz h' c' kp e) (by simp only[dS] <;> omega)
def tyV (K:Frag)(T:String)(x:V)(H:Hp):Prop:=match x with
 | .str _=>T="str"
 | .int _=>T="int"
 | .ref p=>(T="list" /\ ∃ xs,aj K H p xs)\/(T="tuple" /\ ∃ o,K.lookup p=some o/\o.cls=.type "tuple" /\ o.dict=none) \/
   (T="dict" /\ ((∃ kvs,H p=some (.dK kvs))\/∃ kvs,H p=some (.dT kvs)))\/(T="set" /\ ∃ S n,H p=some (.set S n))
 | _=>False
theorem Dh {pins:List (Addr×Obj)}{σ:St}{H:Hp}{s:Shared}{T:String}{x:V}{v:Value}(I:av X pins σ H s)(r:aI x v)(ty:tyV X.K T x H):
  s.TypeIs v T/\∀ a,v=.ref a->∃ ob,s.heap.get? a=some ob/\ob.dict=none:=by
 cases x with
 | str z=>
  obtain⟨t,rfl⟩:=r;cases (show T="str" from ty);show⟨typeIs_str s z t,λ_ e=>nomatch e⟩
 | int i=>
  obtain⟨t,rfl⟩:=r;cases (show T="int" from ty);show⟨typeIs_int s i t,λ_ e=>nomatch e⟩
 | ref p=>
  cases r;rcases ty with ⟨rfl,xs,hq⟩|⟨rfl,o,hk,hc,hd⟩|⟨rfl,hk⟩|⟨rfl,S,n,hk⟩
  .refine bh (I.list hq) λits _ pl _=>?_;show⟨pl.isList.typeIs,λa e=>?_⟩;cases e;show eW pl λo n e c hd _=>?_;clear pl;show⟨o,e,hd⟩
  .refine ⟨⟨o,I.kIn p o hk,hc⟩,λa e=>?_⟩;cases e;show⟨o,I.kIn _ o hk,hd⟩
  .have z:∃ o,s.heap.get? p=some o/\o.ExactDict:=by
    rcases hk with ⟨kvs,hk⟩|⟨kvs,hk⟩
    .refine bC (I.hok p _ hk) λ_ _ e9144=>?_;obtain⟨_,_,o,_,_,e,ex,_⟩:=e9144;show⟨o,e,ex⟩
    .refine bC (I.hok p _ hk) λ_ _ e9145=>?_;obtain⟨_,_,o,_,_,e,ex,_⟩:=e9145;show⟨o,e,ex⟩
   show ao z λo e ex=>?_;clear z;show⟨⟨o,e,ex.1⟩,λa e2=>?_⟩;cases e2;show⟨o,e,ex.2.1⟩
  .refine jR (I.hok p _ hk) λo _ _ _ e ex _=>?_;show⟨⟨o,e,ex.1⟩,λa e2=>?_⟩;cases e2;show⟨o,e,ex.2.1⟩
 | _=>show False.elim ty
def tBM0 (K:Frag)(T:String)(r:V->List V->Hp->VK->Prop)(to:TE):TE:=λσ H Q=>to σ H λx H1=>tyV K T x H1/\r x [] H1 Q
def tBM (K:Frag)(T:String)(r:V->List V->Hp->VK->Prop)(to:TE)(t:TA):TE:=λσ H Q=>to σ H λx H1=>tyV K T x H1/\t σ H1 λxs H2=>r x xs H2 Q
variable {o e:Expr}{es:List Expr}{to:TE}{t:TA}{name:Str}{apos cpos:Pos}{T id:String}{r:V->List V->Hp->VK->Prop}
theorem yW (pa:PlainAttrs T)(slot:Slot T name id)(hty:typeOf (.builtin id)=pure (.type "method_descriptor"))(hm:xZ X id r)(ho:PE X o to)(hbase:attributeBase o name X.env (eval o X.env)=eval o X.env:=by rfl)(hline:(apos.endLine == cpos.line)=true:=by rfl):PE X (.Call (.Attribute o name apos) [] [] cpos) (tBM0 X.K T r to):=by
 intro pins s σ H Q I h;show wpAny_Call_method0_late hbase hline (aX (ho pins s σ H _ I h) λv s1 ⟨x,H1,I1,r1,ty,q1⟩=>?_);obtain⟨h1,h2⟩:=Dh I1 r1 ty;show aM T id ⟨pa,slot,hty,h1,h2,Calls.callWith_builtin rfl (PySem.evalArgs_none (hm pins s1 σ H1 x [] v [] Q I1 r1 .nil q1))⟩
theorem gk (pa:PlainAttrs T)(slot:Slot T name id)(hty:typeOf (.builtin id)=pure (.type "method_descriptor"))(hm:xZ X id r)(ho:PE X o to)(ha:PA X (e::es) t)(hbase:attributeBase o name X.env (eval o X.env)=eval o X.env:=by rfl)(hfew:((backTo cpos (starEach (e::es) X.env)).all (λx=>!x.1) && (backToKw cpos (keywordEach [] X.env)).all (λx=>x.1.isSome)
   && decide ((e::es).length+([]:List Keyword).length+(if ([]:List Keyword).isEmpty then 0 else 1)<30))=true:=by rfl)(hline:(apos.endLine == cpos.line)=true:=by rfl)(hs:starEach (e::es) X.env=(false,eval e X.env)::starEach es X.env:=by rfl)(hplain:(backTo cpos (starEach es X.env)).any (·.1)=false:=by rfl):
  PE X (.Call (.Attribute o name apos) (e::es) [] cpos) (tBM X.K T r to t):=by
 intro pins s σ H Q I h;show wpAny_Call_method_late hbase hfew hline rfl (aX (ho pins s σ H _ I h) λv s1 ⟨x,H1,I1,r1,ty,q1⟩=>?_);obtain⟨h1,h2⟩:=Dh I1 r1 ty;show aM T id ⟨pa,slot,hty,h1,h2,?_⟩;have hA:=ha cpos pins s1 σ H1 _ I1 q1;rw[hs] at hA ⊢;show Calls.callWith_builtin (by show (false || (backTo cpos (starEach es X.env)).any (·.1))=false;rw[hplain] <;> rfl) (Calls.evalArgs_plain ?_);show aX hA λus s2 ⟨vs,H2,I2,r2,q2⟩=>hm pins s2 σ H2 x vs v us Q I2 r1 r2 q2
end
def x8 (X:Cx)(id:String)(r:V->List V->Hp->VK->Prop):Prop:=
 ∀ (pins:List (Addr×Obj)) (s:Shared) (σ:St) (H:Hp) (x:V) (xs:List V) (v:Value) (us:List Value) (Q:VK),av X pins σ H s->aI x v->au xs us->r x xs H Q->
  wpAny (model X.prog X.w) X.A (call (.builtin id) (v::us)) (EP X pins σ Q) X.xe s
theorem au.one:∀ {x:V} {us:List Value},au [x] us->∃ u,us=[u]/\aI x u
 | _,_,.cons r .nil=>⟨_,rfl,r⟩
theorem au.zero:∀ {us:List Value},au [] us->us=[]
 | _,.nil=>rfl
theorem au.eraseIdx:∀ {xs:List V} {us:List Value} (i:Nat),au xs us->au (xs.eraseIdx i) (us.eraseIdx i)
 | _,_,_,.nil=>.nil
 | _,_,0,.cons _ t=>t
 | _,_,i+1,.cons r t=>.cons r (au.eraseIdx i t)
theorem au.rep {xs:List V}{us:List Value}(h:au xs us):∀ k:Nat,au (List.replicate k xs).flatten (List.replicate k us).flatten
 | 0=>.nil
 | k+1=>by
  rw[pd,pd,t9,t9];show au.append h (au.rep h k)
theorem Fe {α:Type}:∀ (l:List α) (i:Nat),(l.eraseIdx i).length<=l.length
 | [],_=>aQ _
 | _::_,0=>Nat.le_succ _
 | _::r,i+1=>Nat.succ_le_succ (Fe r i)
theorem Fq (its:List Value):∀ (k:Nat) (acc:List Value),
  List.foldl (λx1 x2=>x1++x2) acc.toArray (List.replicate k its.toArray)=(acc++(List.replicate k its).flatten).toArray
 | 0,acc=>by simp
 | k+1,acc=>by
  have e:acc.toArray++its.toArray=(acc++its).toArray:=by simp
  have e2:(acc++its)++(List.replicate k its).flatten=acc++(List.replicate (k+1) its).flatten:=by
   rw[pd,t9,wu]
  rw[<- e2,<- Fq its k (acc++its),<- e,pd,List.foldl_cons]
section
variable {X:Cx}{pins:List (Addr×Obj)}{σ:St}{H:Hp}{s:Shared}{l b:Addr}{xs ys zs:List V}
theorem av.lset {its its':List Value}{n:Nat}{f:Array Value->Array Value}{t':Nat}(I:av X pins σ H s)(hH:H l=some (.lst xs))(e:s.heap.get? l=some { cls:=.type "list",data:=.seq its.toArray n })(hf:f its.toArray=its'.toArray)(hv:au ys its')(hz:ys.length<=sizeLine):
  av X pins σ (ar H l (.lst ys)) { s with heap:=s.heap.update l (Obj.mapSeq f),toks:=t' }:=by
 have q:=PySem.IsL.update e f;rw[hf] at q;show I.write (x:=l) (e:=l) (by rw[hH];show trivial) (.inl rfl) (λb' u hb hu=>(Heap.get?_update_other s.heap (Obj.mapSeq f) (f_ hb)).trans hu) ⟨_,q⟩ ?_;show⟨hz,its',_,hv,q⟩
theorem av.lnew {its:List Value}{t':Nat}(I:av X pins σ H s)(hv:au ys its)(hz:ys.length<=sizeLine):
  av X pins σ (ar H s.heap.objs.size (.lst ys)) { s with heap:=s.heap.push { cls:=.type "list",data:=.seq its.toArray },toks:=t' }:=
 I.laid (λ_ _ q=>d5 _ q) (aQ _) ⟨hz,its,0,hv,ij _ rfl⟩
theorem av.fresh (I:av X pins σ H s):H s.heap.objs.size=none:=I.hok.fresh (aQ _)
theorem av.lstM (I:av X pins σ H s)(hH:H l=some (.lst xs)):xs.length<=sizeLine/\∃ (its:List Value) (n:Nat),au xs its/\xs.length=its.length/\s.heap.get? l=some { cls:=.type "list",data:=.seq its.toArray n }:=by
 obtain⟨z,its,n,r,e⟩:=I.hok l _ hH;show⟨z,its,n,r,r.length,e⟩
theorem Es {n:Nat}(h:n<=sizeLine):Builtin.List.listTooLong n=false:=by
 unfold Builtin.List.listTooLong;show d6 ∅
end
section
variable {X:Cx}
def Ar:V->List V->Hp->VK->Prop:=λx vs H Q=>∃ l xs y,x=.ref l/\vs=[y]/\H l=some (.lst xs)/\xs.length<sizeLine/\Q .non (ar H l (.lst (xs++[y])))
theorem gq:x8 X "list.append" Ar:=by
 intro pins s σ H x vs v us Q I rx rv h;show cK h λl xs y e9146 e9147 hH e9148=>?_;clear h;subst e9146;obtain rfl:=e9147;obtain⟨hz,q⟩:=e9148;cases rx;show ao rv.one λu e9149 ru=>?_;obtain rfl:=e9149;obtain⟨z,its,n,r,hl,e⟩:=I.lstM hH;show vZ F.slot_list_append ⟨_,e,rfl⟩ F.entry_list_append (F.args_list_append_2 _ _) (PySem.list_append l its.toArray n u (by rw[dS];omega)) ⟨e,?_⟩;show aM .non _ ⟨I.lset (its':=its++[u]) hH e (by simp) (r.append (.cons ru .nil)) ?_,rfl,q⟩;rw[bN,BW];omega
def rExtend:V->List V->Hp->VK->Prop:=λx vs H Q=>∃ l b xs zs,x=.ref l/\vs=[.ref b]/\H l=some (.lst xs)/\H b=some (.lst zs)/\xs.length+zs.length<=sizeLine/\Q .non (ar H l (.lst (xs++zs)))
theorem sN:x8 X "list.extend" rExtend:=by
 intro pins s σ H x vs v us Q I rx rv h;show cZ h λl b xs zs e9150 e9151 hH e9152=>?_;clear h;subst e9150;obtain rfl:=e9151;show bC e9152 λhB hz q=>?_;clear e9152;cases rx;show ao rv.one λu e9153 ru=>?_;obtain rfl:=e9153;cases ru;obtain⟨z,its,n,r,hl,e⟩:=I.lstM hH;obtain⟨z2,its2,n2,r2,hl2,e2⟩:=I.lstM hB;have hsz:its.toArray.size+its2.toArray.size<=sizeLine:=by rw[dS,dS];omega
 have hlong:¬ (!its.toArray.isEmpty && Builtin.List.listTooLong (its.toArray.size+its2.toArray.size))=true:=by
  rw[Es hsz,Bool.and_false];show eU
 show vZ F.slot_list_extend ⟨_,e,rfl⟩ F.entry_list_extend (F.args_list_extend_2 _ _)
  (AutoSeq1.list_extend_list_list_0 l its.toArray n b its2.toArray n2 hlong (by rw[dS];omega) ∅) ⟨e,e2,?_⟩
 show aM .non _ ⟨I.lset (its':=its++its2) hH e (by simp) (r.append r2) ?_,rfl,q⟩;rw[bN];omega
def HR:V->List V->Hp->VK->Prop:=λx vs H Q=>∃ l xs i k y,x=.ref l/\vs=[.int i]/\H l=some (.lst xs)/\-(2 ^ 63)<=i/\i<2 ^ 63/\seqIndex? i xs.length=some k/\xs[k]?=some y/\Q y (ar H l (.lst (xs.eraseIdx k)))
theorem Gs:x8 X "list.pop" HR:=by
 intro pins s σ H x vs v us Q I rx rv h;show iE h λl xs i k y e9157 e9158 hH e9159=>?_;clear h;subst e9157;obtain rfl:=e9158;show dj e9159 λh1 h2 hk hy q=>?_;clear e9159;cases rx;show ao rv.one λu e9160 ru=>?_;obtain rfl:=e9160;obtain⟨t,rfl⟩:=ru;obtain⟨z,its,n,r,hl,e⟩:=I.lstM hH;show ao (r.get hy) λw hw rw'=>?_;show vZ F.slot_list_pop ⟨_,e,rfl⟩ F.entry_list_pop (F.args_list_pop_2 _ _)
  (MeetsSeq.list_pop_at l its.toArray n i t k w (fitsIndex_both h1 h2) (by rw[dS,<- hl];show hk) (by rw[<- Array.getElem?_toList];show hw) (by rw[dS];omega)) ⟨e,?_⟩
 show aM y _ ⟨I.lset (its':=its.eraseIdx k) hH e ?_ (r.eraseIdx k) ?_,rw',q⟩
 .change its.toArray.eraseIdxIfInBounds k=(its.eraseIdx k).toArray;rw[List.eraseIdxIfInBounds_toArray]
 .have:=Fe xs k;omega
def rCat:R2:=λx y H Q=>∃ l b xs zs,x=.ref l/\y=.ref b/\H l=some (.lst xs)/\H b=some (.lst zs)/\xs.length+zs.length<=sizeLine/\∀ p,H p=none->Q (.ref p) (ar H p (.lst (xs++zs)))
theorem yU:cm X (binaryOp .Add) rCat:=by
 intro pins s σ H x y v u Q I rx ry h;show cZ h λl b xs zs e9165 e9166 hH e9167=>?_;clear h;subst e9165;obtain rfl:=e9166;show bC e9167 λhB hz q=>?_;clear e9167;cases rx;cases ry;obtain⟨z,its,n,r,hl,e⟩:=I.lstM hH;obtain⟨z2,its2,n2,r2,hl2,e2⟩:=I.lstM hB;show PySem.P.add_list e e2 ?_ (by rw[dS,dS];omega);have ea:its.toArray++its2.toArray=(its++its2).toArray:=by simp
 rw[ea];show aM (.ref _) _ ⟨I.lnew (t':=s.toks) (r.append r2) (by rw[bN];omega),rfl,q _ I.fresh⟩
def rRep:R2:=λx y H Q=>∃ l k xs,x=.ref l/\y=.int k/\H l=some (.lst xs)/\-(2 ^ 63)<=k/\k<2 ^ 63/\xs.length*k.toNat<=sizeLine /\
 ∀ p,H p=none->Q (.ref p) (ar H p (.lst (List.replicate k.toNat xs).flatten))
theorem mK {α:Type}(xs:List α)(k:Nat):(List.replicate k xs).flatten.length=k*xs.length:=by
 induction k with
 | zero=>simp
 | succ k ih=>rw[pd,t9,bN,ih,o6,Nat.add_comm]
theorem yV:cm X (binaryOp .Mult) rRep:=by
 intro pins s σ H x y v u Q I rx ry h;show cK h λl k xs e9168 e9169 hH e9170=>?_;clear h;subst e9168;obtain rfl:=e9169;show cA e9170 λh1 h2 hz q=>?_;clear e9170;cases rx;obtain⟨t,rfl⟩:=ry;obtain⟨z,its,n,r,hl,e⟩:=I.lstM hH;have hlen:its.toArray.size*k.toNat<=sizeLine:=by rw[dS,<- hl];show hz
 have hcap:¬ its.toArray.size*k.toNat > (2 ^ 63-1) / 8:=by
  have:(sizeLine:Nat)<=(2 ^ 63-1) / 8:=⇑0
  omega
 have hfit:¬ (!Builtin.List.listFitsIndex k)=true:=by
  rw[fitsIndex_both h1 h2];show eU
 have hlong:¬ Builtin.List.listTooLong (its.toArray.size*k.toNat)=true:=by
  rw[Es hlen];show eU
 have hnew:List.foldl (λx1 x2=>x1++x2) #[] (List.replicate (if its.toArray.isEmpty=true then 0 else k.toNat) its.toArray)=(List.replicate k.toNat its).flatten.toArray:=by
  have f0:∀ m:Nat,List.foldl (λx1 x2=>x1++x2) #[] (List.replicate m its.toArray)=(List.replicate m its).flatten.toArray:=λm=>by
   have:=Fq its m [];rw[List.nil_append] at this;show this
  rw[f0];cases its with
  | nil=>simp
  | cons a r'=>rw[if_neg (by simp)]
 show wpAny_binaryOp_repeat_ref (T:="list") (U:="int") ⇑0 ⟨_,e,rfl⟩ (λs'=>typeIs_int s' k t) noFill_list_mul F.fills_int_mul F.slot_int_rmul repeat_list F.slot_int_index.lookup
  (vZ F.slot_int_rmul (typeIs_int s k t) F.entry_int_rmul (F.args_int_rmul_2 _ _) (int___rmul___int_list k t l its.toArray n)
   ⟨e,rfl,⟨_,e,rfl⟩,vZ F.slot_list_mul ⟨_,e,rfl⟩ F.entry_list_mul (F.args_list_mul_2 _ _) (AutoListH.list___mul___list_int_3 l its.toArray n k t hfit hcap hlong) ⟨e,?_⟩⟩)
 rw[hnew];show aM (.ref _) _ ⟨I.lnew (t':=s.toks) (r.rep k.toNat) (by rw[mK,rZ];show hz),rfl,q _ I.fresh⟩
end
section
variable {prog:Program}{w:World}{A:Around}{E:Value->Shared->Prop}{s:Shared}
end
section
variable {X:Cx}
end
end L2
namespace Att
open PySem PySem.W PySem.Calls PyProof.Rows
theorem Jw {P:Params}{h:Heap}:∀ (ns:List Int) (vs:List Value),WellAll P h vs (ns.map WData.int)->IntsAre vs ns:=by
 intro ns
 induction ns with
 | nil=>
  intro vs w;rw[List.map_nil] at w;cases w;show .nil
 | cons n ns ih=>
  intro vs w;rw[List.map_cons] at w;cases w with
  | cons a b=>
   cases a;show .cons _ _ (ih _ b)
theorem HV {l:OpenLaw}{n:Nat}(hn:l.most=some n){P:Params}{h:Heap}{args:List WData}{vals:List Value}(hpre:l.row.toRowW.claim.pre args=true)(hwl:WellAll P h vals args):
  ∃ a vs ns,vals=[Value.ref a]/\args=[WData.list (ns.map WData.int)]/\h.get? a=some { cls:=.type "list",data:=.seq vs.toArray }/\IntsAre vs ns/\ns.length<=n:=by
 have hsh:WShape.hasAll [] args [.list .int]=true:=(pre_splitW hpre).1;have hc:l.pre.holds [] { args:=args }=true:=(pre_splitW hpre).2;obtain⟨d,r,rfl,h1,h2⟩:=hasAllW_cons hsh;obtain rfl:=hasAllW_nil h2;obtain⟨xs,rfl,h3⟩:=hasW_list h1;obtain⟨ns,rfl⟩:=items_int h3;have hlen:ns.length<=n:=by
  unfold OpenLaw.pre at hc;have h4:(WTm.not (.lt (.lit (.int (n:Int))) (.len (.arg 0)))).holds [] { args:=[.list (ns.map .int)] }=true:=by
   have h4:=(holds_andW hc).1;rw[hn] at h4;show h4
  have h5:=condW_of h4 (w_not (w_lt w_lit (w_len_list (w_arg rfl))));rw[aB] at h5;show t7 λq=>?_;have q':(n:Int)<((ns.length:Nat):Int):=∅
  first
   | (rw[cf q'] at h5;show absurd h5 ⇑0)
   | (simp at h5;omega)
 cases hwl with
 | cons w1 w2=>
  cases w2;cases w1 with
  | list ho hall=>show⟨_,_,ns,rfl,rfl,ho,Jw ns _ hall,hlen⟩
theorem H_ (l:OpenLaw)(args:List WData):l.row.toRowW.claim.post args (.bool true) args=true:=
 postW_of (r:=l.row.toRowW) (X:=(true == true))
  (show WShape.has [] (.bool true) .bool=true by first|rfl|decide|simp[WShape.has,WShape.arms,WShape.armsAll])
  (show (WTm.eq .res (.lit (.bool true))).value [] { args:=args,res:=some (.bool true),after:=args }=some (.bool (true == true)) from w_eq_bool (w_res rfl) w_lit) rfl
theorem ot {l:OpenLaw}{n:Nat}{q:Program}{loose:List Str}{XP:(Str->Option Value)->Heap->Prop}{YP:World->Heap->Prop}{d:DefRec}(hn:l.most=some n)(hdf:d.params.defaults=[])(call:∀ (w:World) (s₀ s₁:Shared) (mg mb:Str->Option Value) (fa:Addr) (o:Obj) (pm cd doc:Value) (a:Addr) (vs:List Value) (ns:List Int),
   Ground q loose [] XP w s₀ mg mb s₁.heap->YP w s₁.heap->
   s₁.heap.get? fa=some o->o.data=.func (docDef d.name d.params d.body d.scope pm cd doc)->s₁.heap.CodeRec cd d.name->mg d.name=↥fa->
   s₁.heap.get? a=some { cls:=.type "list",data:=.seq vs.toArray }->IntsAre vs ns->ns.length<=n->s₁.gens=#[]->
   codeAny (model l.prog w) callerA (.call (.ref fa) ⟨[.ref a],[]⟩) (λr s'=>r=.ok (.ret (.bool true))/\OldK s₁.heap s'.heap/\s'.os=s₁.os/\AllBare s'.gens) s₁):
  WalkO q loose XP YP l.row.toRowW d [] (λf vs=>PySem.call f vs):=by
 intro w s₀ s₁ mg mb G Y fa o pm cd doc dV kV ho hd hcd hD hmg hg args vals as hpre hlay hrd hwl hlo;obtain rfl:dV=.none:=Dflts.none hD hdf;obtain rfl:kV=.none:=Dflts.noKw hD;obtain⟨a,vs,ns,rfl,rfl,hobj,hints,hlen⟩:=HV hn hpre hwl;show enter_call (codeAny_mono (call w s₀ s₁ mg mb fa o pm cd doc a vs ns G Y ho (fd_plain hd) hcd hmg hobj hints hlen hg) λr s' hq=>?_);obtain⟨rfl,h2,h3,h4⟩:=hq;show⟨.inl ⟨.bool true,.bool true,[],rfl,λ_=>rfl,.bool true,H_ l _,λ_=>⟨List.Pairwise.nil,λ_ hm=>(nomatch hm)⟩⟩,h2,h3,h4⟩
section
variable {prog:Program}{w:World}{A:Around}{E:Value->Shared->Prop}{s:Shared}{K:Frag}
end
end Att
namespace L2
open PySem PySem.Spec PyProof.Rows
theorem Fx:∀ {vs:List Value} {ns:List Int},IntsAre vs ns->au (ns.map V.int) vs
 | _,_,.nil=>.nil
 | _,_,.cons n t h=>.cons ⟨t,rfl⟩ (Fx h)
noncomputable def tq (s:Stmt)(j:Nat):Stmt:=match s with
 | .ClassDef _ _ _ body _ _ _ _ _ _ _=>body.getD j (.Pass ⟨0,0,0,0⟩)
 | _=>.Pass ⟨0,0,0,0⟩
noncomputable def jg (s:Stmt):Arguments:=match s with
 | .FunctionDef _ a _ _ _ _ _ _ _ _=>a
 | _=>{ posonlyargs:=[],args:=[],vararg:=none,kwonlyargs:=[],kw_defaults:=[],kwarg:=none,defaults:=[] }
noncomputable def hJ (s:Stmt):List Stmt:=match s with
 | .FunctionDef _ _ b _ _ _ _ _ _ _=>b
 | _=>[]
noncomputable def aZ (s:Stmt):Scope:=match s with
 | .FunctionDef _ _ _ _ _ _ sc _ _ _=>sc
 | _=>{ kind:=.function,names:=[],isGenerator:=false,isCoroutine:=false }
abbrev gY:iS:=λ_ _ _ _ _ _=>False
abbrev E0:XK:=λ_ _ _=>False
theorem wU {X:Cx}:sY gY X E0:=λ_ _ _ _ _ _ _ h=>h.elim
structure ik (K:Frag)(x qual:Str)(st:Stmt)(f:Addr)(fd:FuncData):Prop where
 ex:∃ (oc:Value) (od:Option Addr) (kV doc pm:Value) (an:Option Addr) (cdv ct:Value) (osl:Array (Option Value)),
  fd=PySem.W.fnOf x qual (jg st) (hJ st) (aZ st) .none kV doc pm an cdv ct/\K.lookup f=some ⟨oc,od,.func fd,osl⟩/\PySem.W.codeIn K cdv qual=true
 kp:PySem.W.keepIn K (.ref f)=true
section
theorem ik.ok {x qual:Str}{st:Stmt}{f:Addr}{fd:FuncData}{N ps:List Str}{k:Nat}{sp:Sp}(F:ik K x qual st f fd)(S:ag N ps (aZ st))(len:∀ vs H Q E,sp vs H Q E->vs.length=ps.length)(hbody:∀ (cdv:Value) (A:Around) (outer:List Env) (s:Shared) (H:Hp) (vs:List V) (Q:VK) (E:XK),bp k (A.deeper (envOfC qual (aZ st) s.heap.objs.size f cdv))->sp vs H Q E->
   ∃ t,iL (nE gY P w K mg base N qual (aZ st) f cdv A outer s H E).nox (hJ st) t/\t { nx:=λ_ H'=>Q .non H',rt:=Q } (start N vs) H):cu P w K mg base gY (k+1) f fd ps sp:=by
 show uV F.ex λoc od kV doc pm an cdv ct osl e9171 lk hcd=>?_;obtain rfl:=e9171;show jO lk hcd S len λA outer s H vs Q E hr hsp=>?_;show ao (hbody cdv A outer s H vs Q E hr hsp) λt h q=>?_;show⟨t,h.nox,q⟩
theorem ik.binds {x qual:Str}{st:Stmt}{f:Addr}{fd:FuncData}{ps:List Str}(F:ik K x qual st f fd)(h:∀ (kV doc pm:Value) (an:Option Addr) (cdv ct:Value) (us:List Value),us.length=ps.length->bindArgs (PySem.W.fnOf x qual (jg st) (hJ st) (aZ st) .none kV doc pm an cdv ct) ⟨us,[]⟩=pure (ps.zip us)):bL K fd ps []:=by
 show uV F.ex λoc od kV doc pm an cdv ct osl e9172 lk hcd=>?_;obtain rfl:=e9172;show .all (h kV doc pm an cdv ct)
theorem qU {x qual:Str}{st:Stmt}{f:Addr}{oc:Value}{od an:Option Addr}{osl:Array (Option Value)}{kV doc pm cdv ct:Value}(l:K.lookup f=some ⟨oc,od,.func (PySem.W.fnOf x qual (jg st) (hJ st) (aZ st) .none kV doc pm an cdv ct),osl⟩)(c:PySem.W.codeIn K cdv qual=true)(k:PySem.W.keepIn K (.ref f)=true):ik K x qual st f (PySem.W.fnOf x qual (jg st) (hJ st) (aZ st) .none kV doc pm an cdv ct):=⟨⟨oc,od,kV,doc,pm,an,cdv,ct,osl,rfl,l,c⟩,k⟩
end
theorem cT {n:Nat}(h:n<=1000):n<sizeLine:=jm h ⇑0
section
variable {X:Cx}
theorem pv (i:Nat){x:Str}{pos:Pos}(hN:X.N[i]?=some x:=by rfl)(hv:xT X.env.scope x:=by right)(hd:(x == ("__debug__" : Str))=false:=by decide)(hcd:(x == ("__classdict__" : Str))=false:=by decide):PE X (.Name x pos) (eG i):=pV hN hv hd hcd
end
theorem iteF {A B:Prop}(h:B):if false=true then A else B:=by
 rw[if_neg eU];show h
theorem iteT {A B:Prop}(h:A):if true=true then A else B:=by
 rw[if_pos rfl];show h
theorem bH {c A B:Prop}[Decidable c](h1:c->A)(h2:¬ c->B):if c then A else B:=by
 by_cases h:c
 .rw [if_pos h];show h1 h
 .rw [if_neg h];show h2 h
def aa (H H':Hp):Prop:=∀ b o,H b=some o->H' b=some o
theorem aa.refl (H:Hp):aa H H:=λ_ _ h=>h
theorem aa.trans {H H1 H2:Hp}(a:aa H H1)(b:aa H1 H2):aa H H2:=λc o h=>b c o (a c o h)
theorem aa.free {H H':Hp}(e:aa H H'){l:Addr}(h:H' l=Option.none):H l=Option.none:=by
 cases q:H l with
 | none=>rfl
 | some o=>
  rw[e l o q] at h;cases h
theorem aa.seq {K:Frag}{H H':Hp}{a:Addr}{xs:List V}(e:aa H H')(h:aj K H a xs):aj K H' a xs:=by
 rcases h with (h|⟨o,h⟩)|h
 .exact .inl (.inl (e _ _ h))
 .exact .inl (.inr ⟨o,e _ _ h⟩)
 .exact .inr h
theorem wQ {x:Str}{c:Addr}:∀ (names:List (Str×NameKind)) (n:Nat) (acc:List (Str×Addr)),(cellsFrom n names acc).lookup x=some c->n<=c\/acc.lookup x=some c
 | [],_,_,h=>.inr h
 | (y,k)::r,n,acc,h=>by
  unfold cellsFrom at h;split at h
  .rcases wQ r (n+1) _ h with z|z
   .exact .inl (kQ z)
   .rw [fo] at z;cases e:x == y with
    | true=>rw[e] at z;cases z;show .inl (aQ _)
    | false=>rw[e] at z;show .inr z
  .exact wQ r n acc h
theorem yJ {x:Str}{c:Addr}:∀ (names:List (Str×NameKind)) (n:Nat) (acc:List (Str×Addr)),(x,NameKind.cell)∈names->(cellsFrom n names acc).lookup x=some c->n<=c
 | [],_,_,m,_=>nomatch m
 | (y,k)::r,n,acc,m,h=>by
  unfold cellsFrom at h;split at h
  .by_cases m':(x,NameKind.cell)∈r
   .exact kQ (yJ r (n+1) _ m' h)
   .have e:(x,NameKind.cell)=(y,k):=(gf.mp m).resolve_right m';cases e;rcases wQ r (n+1) _ h with z|z
    .exact kQ z
    .rw [fo,beq_self_eq_true] at z;cases z;show aQ _
  .rename_i hk
   have m':(x,NameKind.cell)∈r:=by
    rcases gf.mp m with e|m'
    .cases e;show absurd rfl hk
    .exact m'
   show yJ r n acc m' h
theorem yI {x:Str}:∀ {names:List (Str×NameKind)} {n:Nat} {acc:List (Str×Addr)},(x,NameKind.cell)∉names->(cellsFrom n names acc).lookup x=acc.lookup x
 | [],_,_,_=>rfl
 | (y,k)::r,n,acc,h=>by
  unfold cellsFrom;have hr:(x,NameKind.cell)∉r:=λm=>h (kO _ m);split
  .rename_i hk
   have hy:(x == y)=false:=by
    cases e:x == y with
    | false=>rfl
    | true=>
     exfalso;show h ?_;rw[eQ.mp e,eQ.mp hk];show o_
   rw[yI hr,fo,hy]
  .exact yI hr
theorem yP:∀ (names:List (Str×NameKind)) (n:Nat) (acc:List (Str×Addr)),(∀ x c,acc.lookup x=some c->c<n)->(∀ x y c,acc.lookup x=some c->acc.lookup y=some c->x=y)->
  ∀ x y c,(cellsFrom n names acc).lookup x=some c->(cellsFrom n names acc).lookup y=some c->x=y
 | [],_,_,_,hi=>hi
 | (z,k)::r,n,acc,hl,hi=>by
  unfold cellsFrom;split
  .refine yP r (n+1) _ (λx c h=>?_) (λx y c h1 h2=>?_)
   .rw [fo] at h;cases e:x == z with
    | true=>rw[e] at h;cases h;show wq _
    | false=>rw[e] at h;show o9 (hl x c h)
   .rw [fo] at h1 h2;cases e1:x == z with
    | true=>
     rw[e1] at h1;cases h1;cases e2:y == z with
     | true=>rw[eQ.mp e1,eQ.mp e2]
     | false=>rw[e2] at h2;show absurd (hl y _ h2) (iR _)
    | false=>
     rw[e1] at h1;cases e2:y == z with
     | true=>rw[e2] at h2;cases h2;show absurd (hl x _ h1) (iR _)
     | false=>rw[e2] at h2;show hi x y c h1 h2
  .exact yP r n acc hl hi
theorem zi {x:Str}{c:Addr}:∀ (names:List (Str×NameKind)) (h:Heap) (acc:List (Str×Addr)),(cellsFrom h.objs.size names acc).lookup x=some c->(pushCells h names).IsCell c none\/acc.lookup x=some c
 | [],_,_,z=>.inr z
 | (y,k)::r,h,acc,z=>by
  unfold cellsFrom at z;unfold pushCells;split at z
  .rename_i hk
   rw[if_pos hk];have z':(cellsFrom (h.push { cls:=.type "cell",data:=.cell none }).objs.size r ((y,h.objs.size)::acc)).lookup x=some c:=by rw[sv];show z
   rcases zi r _ _ z' with q|q
   .exact .inl q
   .rw [fo] at q;cases e:x == y with
    | true=>
     rw[e] at q;cases q;show .inl ⟨_,pushCells_keeps _ _ _ _ (ij _ rfl),rfl⟩
    | false=>rw[e] at q;show .inr q
  .rename_i hk
   rw[if_neg hk];show zi r h acc z
theorem zj {env:Env}(f:Str×NameKind->List (Str×Addr)->Sem (ForInStep (List (Str×Addr))))(hf:∀ name kind cs,f (name,kind) cs=if kind == .free then (do let a <- cellOf env name;pure (.yield ((name,a)::cs))) else pure (.yield cs)):
  ∀ (names:List (Str×NameKind)) (acc:List (Str×Addr)),(∀ y∈names,y.2=.free->∃ c,env.cells.lookup y.1=some c)->(∀ x c,acc.lookup x=some c->env.cells.lookup x=some c)->
  ∃ cl,forIn names acc f=pure cl/\(∀ x c,cl.lookup x=some c->env.cells.lookup x=some c)/\(∀ y∈names,y.2=.free->∃ c,cl.lookup y.1=some c)/\∀ x c,acc.lookup x=some c->∃ c',cl.lookup x=some c'
 | [],acc,_,ha=>⟨acc,rfl,ha,(λ_ m=>nomatch m),λx c e=>⟨c,e⟩⟩
 | (y,k)::r,acc,h,ha=>by
  rw[List.forIn_cons,hf];have hr:∀ y∈r,y.2=NameKind.free->∃ c,env.cells.lookup y.1=some c:=λz m=>h z (kO _ m);by_cases hk:(k == NameKind.free)=true
  .obtain ⟨c,hc⟩:=h (y,k) o_ (eQ.mp hk);have e:cellOf env y=pure c:=by unfold cellOf;rw[hc]
   rw[if_pos hk,e,pure_bind,pure_bind];have ha':∀ x d,((y,c)::acc).lookup x=some d->env.cells.lookup x=some d:=λx d e=>by
    rw[fo] at e;cases e1:x == y with
    | true=>rw[e1] at e;cases e;rw[eQ.mp e1];show hc
    | false=>rw[e1] at e;show ha x d e
   show uO (zj f hf r ((y,c)::acc) hr ha') λcl q1 q2 q3 q4=>?_;show⟨cl,q1,q2,λz m hz=>?_,λx d e=>?_⟩
   .rcases gf.mp m with e|m
    .subst e;show q4 y c (by rw[fo,beq_self_eq_true])
    .exact q3 z m hz
   .by_cases e1:(x == y)=true
    .exact q4 x c (by rw[fo,e1])
    .exact q4 x d (by rw[fo];simp only[e1];show e)
  .rw [if_neg hk,pure_bind];show uO (zj f hf r acc hr ha) λcl q1 q2 q3 q4=>?_;show⟨cl,q1,q2,λz m hz=>?_,q4⟩;rcases gf.mp m with e|m
   .subst e;show absurd (eQ.mpr hz) hk
   .exact q3 z m hz
theorem zk {scope:Scope}{env:Env}(h:∀ y∈scope.names,y.2=.free->∃ c,env.cells.lookup y.1=some c):
  ∃ cl,closureFor scope env=pure cl/\(∀ x c,cl.lookup x=some c->env.cells.lookup x=some c)/\∀ y∈scope.names,y.2=.free->∃ c,cl.lookup y.1=some c:=by
 obtain⟨cl,q1,q2,q3,_⟩:=zj (env:=env) (λx cs=>if x.2 == .free then (do let a <- cellOf env x.1;pure (.yield ((x.1,a)::cs))) else pure (.yield cs)) (λ_ _ _=>rfl) scope.names [] h (λ_ _ e=>nomatch e);show⟨cl,?_,q2,q3⟩;unfold closureFor;have e:(λ(x:Str×NameKind) (r:List (Str×Addr))=>(match x with
   | (name,kind)=>if (kind == NameKind.free)=true then (do let __do_lift <- cellOf env name;pure (ForInStep.yield ((name,__do_lift)::r))) else pure (ForInStep.yield r):Sem (ForInStep (List (Str×Addr))))) =
   λx cs=>if x.2 == .free then (do let a <- cellOf env x.1;pure (.yield ((x.1,a)::cs))) else pure (.yield cs):=by
  funext x cs
  rfl
 have q:(forIn scope.names ([]:List (Str×Addr)) λ(x:Str×NameKind) (r:List (Str×Addr))=>(match x with
   | (name,kind)=>if (kind == NameKind.free)=true then (do let __do_lift <- cellOf env name;pure (ForInStep.yield ((name,__do_lift)::r))) else pure (ForInStep.yield r):Sem (ForInStep (List (Str×Addr)))))=pure cl:=by
  rw[e];show q1
 simpa using q
theorem IW {M:Model}{A:Around}{E:Value->Shared->Prop}{s:Shared}{scope:Scope}{globals:Addr}{cl:List (Str×Addr)}{qual:Str}{env:Env}{Q:Env->Shared->Prop}(hQ:∀ h',h'.Ns s.heap.objs.size (λ_=>none)->(∀ b o,s.heap.get? b=some o->h'.get? b=some o)->
   (∀ x c,(cellsFrom (s.heap.objs.size+1) scope.names cl).lookup x=some c->h'.IsCell c none\/cl.lookup x=some c)->
   Q { scope,locals:=s.heap.objs.size,globals,cells:=cellsFrom (s.heap.objs.size+1) scope.names cl,qual,func:=none,code:=env.code,frame:=env.frame,builtins:=env.builtins } { s with heap:=h' }):
  wpAny M A (newFunctionEnv scope globals cl [] qual none .none (some env)) Q E s:=by
 simp only[newFunctionEnv,Option.isSome_some,fm];show bP (wpAny_alloc ?_);show bP (wpAny_layCells _ (λname kind cells=>by cases hkc:kind == NameKind.cell <;> simp[hkc]) _ _ _ _ ?_);have hsz:(s.heap.push { cls:=.type "dict",data:=.dict #[] }).objs.size=s.heap.objs.size+1:=sv ..;have q:=hQ (pushCells (s.heap.push { cls:=.type "dict",data:=.dict #[] }) scope.names) ((Heap.Ns.new s.heap (.type "dict")).keeps (pushCells_keeps _ _)) (λb o e=>pushCells_keeps _ _ b o (d5 _ e))
  (λx c e=>zi scope.names (s.heap.push { cls:=.type "dict",data:=.dict #[] }) cl (by rw[hsz];show e))
 change wpAny _ _ _ _ _ _;rw[show ({ s with heap:=s.heap.push { cls:=.type "dict",data:=.dict #[] } }:Shared).heap.objs.size=s.heap.objs.size+1 from hsz];show bP (dG (dG q))
theorem FG {env:Env}{x:Str}:∀ {names:List (Str×NameKind)},names.lookup x=some .free->
  (names.map λ(n,k)=>if (k == NameKind.free && env.scope.kind == .function && env.kindOf n == some .cell) then (n,NameKind.cell) else (n,k)).lookup x=some .cell \/
  (names.map λ(n,k)=>if (k == NameKind.free && env.scope.kind == .function && env.kindOf n == some .cell) then (n,NameKind.cell) else (n,k)).lookup x=some .free
 | [],h=>by simp at h
 | (n,k)::r,h=>by
  have ih:=@FG env x r;change List.lookup x ((if (k == NameKind.free && env.scope.kind == .function && env.kindOf n == some .cell)=true then (n,NameKind.cell) else (n,k))::_)=_\/List.lookup x ((if (k == NameKind.free && env.scope.kind == .function && env.kindOf n == some .cell)=true then (n,NameKind.cell) else (n,k))::_)=_;cases hx:x == n with
  | true=>
   simp only[fo,hx] at h;cases h;split <;> simp[fo,hx]
  | false=>
   simp only[fo,hx] at h;split <;> (simp only[fo,hx];show ih h)
theorem AR {env:Env}{x:Str}{kd:NameKind}:∀ {names:List (Str×NameKind)},
  (names.map λ(n,k)=>if (k == NameKind.free && env.scope.kind == .function && env.kindOf n == some .cell) then (n,NameKind.cell) else (n,k)).lookup x=some kd->
  names.lookup x=some kd\/names.lookup x=some .free
 | [],h=>by simp at h
 | (n,k)::r,h=>by
  have ih:=@AR env x kd r;have h':List.lookup x ((if (k == NameKind.free && env.scope.kind == .function && env.kindOf n == some .cell)=true then (n,NameKind.cell) else (n,k))::(r.map λ(n,k)=>if (k == NameKind.free && env.scope.kind == .function && env.kindOf n == some .cell) then (n,NameKind.cell) else (n,k)))=some kd:=h;cases hx:x == n with
  | true=>
   by_cases hc:(k == NameKind.free && env.scope.kind == .function && env.kindOf n == some .cell)=true
   .have hk:k=.free:=by
     have:=(o7 _ _ ▸ (o7 _ _ ▸ hc).1).1;show eQ.mp this
    subst hk;show .inr (by simp[fo,hx])
   .rw [if_neg hc] at h';simp only[fo,hx] at h';cases h';show .inl (by simp[fo,hx])
  | false=>
   have h2:List.lookup x (r.map λ(n,k)=>if (k == NameKind.free && env.scope.kind == .function && env.kindOf n == some .cell) then (n,NameKind.cell) else (n,k))=some kd:=by
    split at h' <;> simpa only [fo,hx] using h'
   rcases ih h2 with z|z
   .exact .inl (by simp only[fo,hx];show z)
   .exact .inr (by simp only[fo,hx];show z)
noncomputable def fR (X:Cx)(N:List Str)(scope:Scope)(cl:List (Str×Addr))(s:Shared)(H:Hp)(fp:List Addr):Cx where
 prog:=X.prog
 w:=X.w
 K:=X.K
 mg:=X.mg
 base:=X.base
 A:=X.A
 N:=N
 s₀:=s
 H₀:=H
 env:={ scope:=relabel scope X.env,locals:=s.heap.objs.size,globals:=X.env.globals,cells:=cellsFrom (s.heap.objs.size+1) scope.names cl,qual:=X.env.qual,func:=none,code:=X.env.code,frame:=X.env.frame,builtins:=X.env.builtins }
 outer:=X.stack
 stack:=X.stack
 ex:=fp
 fn:=λx=>scope.names.lookup x == some .cell
 calm:=X.calm
 pn:=[]
 xe:=λ_ _=>False
structure dO (X:Cx)(scope:Scope)(own:List Str)(fr:List (Str×Nat)):Prop where
 kind:scope.kind=.function
 free:∀ y∈scope.names,y.2=.free->X.env.scope.names.lookup y.1=some .cell\/X.env.scope.names.lookup y.1=some .free
 loc:∀ y∈scope.names,y.2=.local->scope.names.lookup y.1=some .local
 look:∀ y∈scope.names,scope.names.lookup y.1=some y.2
 cap:∀ y∈fr,scope.names.lookup y.1=some .free/\X.N[y.2]?=some y.1
noncomputable def dP (k:Nat)(fr:List (Str×Nat))(σ:St):St:=List.replicate k none++fr.map λy=>(σ[y.2]?).getD none
noncomputable def fj (own:List Str)(fr:List (Str×Nat)):List Str:=own++fr.map (·.1)
section
variable {X:Cx}{pins:List (Addr×Obj)}{σ:St}{H:Hp}{s:Shared}
theorem HK {scope:Scope}{own:List Str}{fr:List (Str×Nat)}{cl:List (Str×Addr)}{fp:List Addr}{h':Heap}(I:av X pins σ H s)(B:dO X scope own fr)(hcl:∀ x c,cl.lookup x=some c->X.env.cells.lookup x=some c)(hcl2:∀ y∈scope.names,y.2=.free->∃ c,cl.lookup y.1=some c)(hfp:∀ b∈fp,cx X pins H b)(hfo:∀ b∈fp,∃ o,s.heap.get? b=some o)(hn:h'.Ns s.heap.objs.size (λ_=>none))(hk:∀ b o,s.heap.get? b=some o->h'.get? b=some o)(hc:∀ x c,(cellsFrom (s.heap.objs.size+1) scope.names cl).lookup x=some c->h'.IsCell c none\/cl.lookup x=some c):
  av (fR X (fj own fr) scope cl s H fp) [] (dP own.length fr σ) H { s with heap:=h' }:=by
 have clt:∀ x c,cl.lookup x=some c->c<s.heap.objs.size:=λx c e=>by
  obtain⟨v,z⟩:=I.cell x c (hcl x c e);show z.lt
 have ownC:∀ x c,(cellsFrom (s.heap.objs.size+1) scope.names cl).lookup x=some c->s.heap.objs.size+1<=c\/cl.lookup x=some c:=λx c e=>wQ _ _ _ e;have bsz:X.base.objs.size<=s.heap.objs.size:=cD I.ok.bsz I.sz;show⟨⟨I.ok.mod,B.kind,I.ok.glob,I.ok.blt,aQ _,?_,?_,?_,I.ok.hd,I.ok.frames,.inl rfl,?_,I.bs,bsz,?_,?_,I.stack,I.stkFree,I.ok.top⟩,rfl,I.bare,Un.kept hk,⟨_,hn,?_⟩,?_,I.hok.fresh (aQ _),?_,?_,I.hok.kept hk,?_⟩
 .exact yP _ _ _ (λx c e=>o9 (clt x c e)) λx y c e1 e2=>I.ok.inj x y c (hcl x c e1) (hcl y c e2)
 .intro x hx;have hx:(relabel scope X.env).names.lookup x=some .cell\/(relabel scope X.env).names.lookup x=some .free:=hx;have q:scope.names.lookup x=some .cell\/scope.names.lookup x=some .free:=by
   rcases hx with z|z
   .exact AR z
   .exact (AR z).elim .inr .inr
  show B_.mp (yu scope.names _ _ ?_);rcases q with z|z
  .exact .inl z
  .obtain ⟨c,e⟩:=hcl2 _ (jn z) rfl;show .inr (by rw[e];rfl)
 .intro x c hf e;have hf:(scope.names.lookup x == some .cell)=true:=hf;show kQ (yJ _ _ _ (jn (eQ.mp hf)) e)
 .intro b hb;obtain⟨o,ho⟩:=hfo b hb;show⟨eS (bZ ho),λx c e=>?_⟩;rcases ownC x c e with z|z
  .intro q;subst q;show absurd (dN (bZ ho) (kQ z)) (iR _)
  .exact (hfp b hb).2.2.2.2.1 x c (hcl x c z)
 .intro b o e hb;rcases (hfp b hb).2.2.2.1 with z|z
  .exact I.ok.noex b o e z
  .exact absurd (dN (bZ e) (cD I.ok.bsz z)) (iR _)
 .intro b hb z;rcases gf.mp (I.stkSub b z) with q|q
  .exact (hfp b hb).2.1 q
  .exact (hfp b hb).2.2.1 q
 .intro i x v h1 h2 h3;have h1:(fj own fr)[i]?=some x:=h1;unfold fj at h1;unfold dP at h2;by_cases hi:i<own.length
  .rw [fq (by rw[eM];show hi),sG,if_pos hi] at h2;cases h2
  .have hi':own.length<=i:=t7 hi;rw[fu hi',bj] at h1;rw[fu (by rw[eM];show hi'),eM,bj] at h2;cases e:fr[i-own.length]? with
   | none=>rw[e] at h1;cases h1
   | some y=>
    rw[e] at h1 h2;have hy1:y.1=x:=gw h1;have hy2:(σ[y.2]?).getD none=some v:=gw h2;obtain⟨c1,c2⟩:=B.cap y (aY e);rw[hy1] at c1 c2;have hs:σ[y.2]?=some (some v):=by
     cases e2:σ[y.2]? with
     | none=>rw[e2] at hy2;cases hy2
     | some o=>rw[e2] at hy2;cases o with
      | none=>cases hy2
      | some w=>cases hy2;rfl
    show ao I.loc λm hm hl=>?_;have hfree:=B.free _ (jn c1) rfl;show ao (hl y.2 x v c2 hs (hfree.elim (λz=>.inr (.inl z)) λz=>.inr (.inr z))) λu r l=>?_;show⟨u,r,?_⟩;obtain⟨k,c,e3,z⟩:(X.env.kindOf x=some .cell\/X.env.kindOf x=some .free)/\∃ c,X.env.cells.lookup x=some c/\s.heap.IsCell c (some u):=by
     rcases l with ⟨k,_⟩|q
     .have k:X.env.scope.names.lookup x=some .local:=k;rcases hfree with z|z <;> (rw[z] at k;cases k)
     .exact q
    obtain⟨d,hd⟩:=hcl2 _ (jn c1) rfl;have hd':=hcl x d hd;rw[e3] at hd';cases hd';obtain⟨c',hc'⟩:∃ c',(cellsFrom (s.heap.objs.size+1) scope.names cl).lookup x=some c':=B_.mp (yu scope.names _ _ (.inr (by rw[hd];rfl)));have hcc:c'=c:=by
     rcases ownC x c' hc' with q|q
     .-- an own cell of that name: it is free,so no
      exfalso;have:(x,NameKind.cell)∉scope.names:=λm=>by
       have:=B.look _ m;rw[c1] at this;cases this
      show absurd hc' (by
       rw[yI this];intro z;rw[hd] at z;cases z;show absurd (clt x _ hd) (Nat.not_lt.mpr (kQ q)))
     .rw [hd] at q;cases q;rfl
    subst hcc;show .inr ⟨?_,c',hc',z.keeps hk⟩;show FG c1
 .intro x c e;rcases hc x c e with z|z
  .exact ⟨_,z⟩
  .obtain ⟨v,q⟩:=I.cell x c (hcl x c z);show⟨v,q.keeps hk⟩
 .intro x c e;rcases ownC x c e with z|z
  .exact I.hok.fresh (kQ z)
  .exact I.freeC x c (hcl x c z)
 .intro p hp;show absurd (show p∈([]:List (Addr×Obj)) from hp) (by simp)
 .change (dP _ _ _).length=(fj _ _).length;unfold dP fj;simp
end
def vV (X:Cx)(ifs:List Expr)(t:TT):Prop:=
 ∀ (pins:List (Addr×Obj)) (s:Shared) (σ:St) (H:Hp) (Q:Bool->Hp->Prop),av X pins σ H s->t σ H Q->
  wpAny (model X.prog X.w) X.A (forIn ifs true λc r=>if r=true then do let ok <- isTrue c X.env (eval c X.env);pure (ForInStep.yield ok) else pure (ForInStep.yield r)) (TP X pins σ Q) X.xe s
def dh:TT:=λ_ H Q=>Q true H
theorem df {X:Cx}:vV X [] dh:=λpins s σ H Q I h=>wpAny_tests_nil ⟨H,I,h⟩
theorem zH {X:Cx}{c:Expr}{t:TT}(hc:PT X c t):vV X [c] t:=λpins s σ H Q I h=>wpAny_tests_one (hc pins s σ H Q I h)
section
variable {prog:Program}{w:World}{A:Around}{R:Result->Shared->Prop}{s:Shared}
theorem IU {elt target iter:Expr}{ifs:List Expr}{scope:Scope}{pos:Pos}{it acc:Value}{env:Env}(I:Nat->Shared->Prop)(turn:∀ n s,I n s->wpAny (model prog w) A (pyNext it) (λr s₁=>match r with
   | none=>R (.ok .next) s₁
   | some v=>wpAny (model prog w) A (letOwnedTupleGo target it v) (λ_ s₁=>wpAny (model prog w) A (assign target env v) (λ_ s₂=>
     wpAny (model prog w) A (forIn ifs true λc r=>if r=true then do let ok <- isTrue c env (eval c env);pure (ForInStep.yield ok) else pure (ForInStep.yield r)) (λok s₃=>
      if ok=true then wpAny (model prog w) A (eval elt env) (λx s₄=>
       wpAny (model prog w) A (call (.builtin "list.append") [acc,x]) (λ_ s₅=>∃ m,m<n/\I m s₅) (λ_ _=>False) s₄) (λ_ _=>False) s₃
      else ∃ m,m<n/\I m s₃) (λ_ _=>False) s₂) (λ_ _=>False) s₁) (λ_ _=>False) s₁) (λ_ _=>False) s)(n:Nat)(h:I n s):
  codeAny (model prog w) A (.compLoop (.ListComp elt [⟨target,iter,ifs,0⟩] scope pos) 0 it acc env) R s:=by
 show codeAny_loop rfl I (λn s hI=>?_) n h;change wpAny _ A ((compTurn (.ListComp elt [⟨target,iter,ifs,0⟩] scope pos) 0 it acc env).onRaise (λx=>do noteFrame x env;theTreesLotGoes x)) _ _ s;show wpAny_noted ?_;rw[compTurn_list];show bP (ye (bP (jh (turn n s hI) (λr s₁ h₁=>?_) λ_ _ h'=>h'.elim)));cases r with
 | none=>show dG h₁
 | some v=>
  show bP (jh h₁ (λ_ s₁' h₁'=>?_) λ_ _ h'=>h'.elim);show bP (jh h₁' (λ_ s₂ h₂=>bP (jh h₂ (λok s₃ h₃=>?_) λ_ _ h'=>h'.elim)) λ_ _ h'=>h'.elim);cases ok with
  | false=>show dG ⟨rfl,h₃⟩
  | true=>
   show bP (bP (jh h₃ (λx s₄ h₄=>bP (jh h₄ (λ_ s₅ h₅=>dG (dG ⟨rfl,h₅⟩)) λ_ _ h'=>h'.elim)) λ_ _ h'=>h'.elim))
end
def eZ (g:TG)(tt:TT)(te:TE)(J:It)(D:Addr)(σ0:St)(H1:Hp)(Q:VK):Prop:=
 ∃ W:Nat->Nat->St->Hp->Prop,(∃ m,W 0 m σ0 (ar H1 D (.lst [])))/\∀ i m σ' H2,W i m σ' H2->
  (J.stop i H2/\Q (.ref D) H2)\/(J.go i H2/\∀ x H3,J.yld i H2 x H3->g x σ' H3 λσ4 H4=>tt σ4 H4 λb H5=>
   if b=true then te σ4 H5 λy H6=>∃ vs,H6 D=some (.lst vs)/\vs.length<sizeLine/\∃ m',m'<m/\W (i+1) m' σ4 (ar H6 D (.lst (vs++[y])))
   else ∃ m',m'<m/\W (i+1) m' σ4 H5)
def tComp (k:Nat)(fr:List (Str×Nat))(wi:TI)(g:TG)(tt:TT)(te:TE):TE:=λσ H Q=>wi σ H λJ H1=>∀ D,H1 D=none->eZ g tt te J D (dP k fr σ) H1 Q
section
variable {X:Cx}{tg iter elt:Expr}{ifs:List Expr}{scope:Scope}{pos:Pos}{own:List Str}{fr:List (Str×Nat)}{wi:TI}{g:TG}{tt:TT}{te:TE}
theorem Ei {pins:List (Addr×Obj)}{s2:Shared}{σ:St}{H2:Hp}{it:Addr}{fp:List Addr}{tn:Nat->Heap->Prop}{J:It}{Q:VK}{cl:List (Str×Addr)}{RR:Value->Addr->Result->Shared->Prop}{E:Value->Shared->Prop}(hc:X.calm=true)(B:dO X scope own fr)(hb:∀ cl s H fp,PG (fR X (fj own fr) scope cl s H fp) tg g/\vV (fR X (fj own fr) scope cl s H fp) ifs tt/\PE (fR X (fj own fr) scope cl s H fp) elt te)(hcl:∀ x c,cl.lookup x=some c->X.env.cells.lookup x=some c)(hcl2:∀ y∈scope.names,y.2=.free->∃ c,cl.lookup y.1=some c)(I2:av X pins σ H2 s2)(T:iK X.prog X.w X.K tg J fp it tn)(st2:tn 0 s2.heap)(f2:∀ b∈fp,cx X pins H2 b)(q:∀ D,H2 D=none->eZ g tt te J D (dP own.length fr σ) H2 Q)(hRR:∀ D C s' H',av X pins σ H' s'->Q (.ref D) H'->(∃ m,s'.heap.Ns C m)->C≠X.env.locals->(∀ x c,X.env.cells.lookup x=some c->c≠C)->(∀ p∈X.pn++pins,p.1≠C)->X.s₀.heap.objs.size<=C->H' C=none->RR (.ref D) C (.ok .next) s'):
  wpAny (model X.prog X.w) X.A (newList []) (λacc s₃=>wpAny (model X.prog X.w) X.A (newFunctionEnv scope X.env.globals cl [] X.env.qual none .none (some X.env)) (λcenv s₄=>
   codeAny (model X.prog X.w) X.A (.compStart (.ListComp elt [⟨tg,iter,ifs,0⟩] scope pos) 0 (.ref it) acc { cenv with scope:=relabel scope X.env }) (RR acc cenv.locals) s₄) E s₃) E s2:=by
 show wpAny_newObj_type ?_;have fr0:H2 s2.heap.objs.size=none:=I2.hok.fresh (aQ _);have I3:=I2.lnew (its:=[]) (ys:=[]) (t':=s2.toks) .nil (fE _);generalize hs3:({ s2 with heap:=s2.heap.push { cls:=.type "list",data:=.seq ([]:List Value).toArray } }:Shared)=s3 at *;have k23:∀ b o,s2.heap.get? b=some o->s3.heap.get? b=some o:=λb o e=>by rw[<- hs3];show d5 _ e
 have sz3:s3.heap.objs.size=s2.heap.objs.size+1:=by rw[<- hs3];show sv ..
 have I3':av X pins σ (ar H2 s2.heap.objs.size (.lst [])) s3:=I3;have fne:∀ b∈fp,b≠s2.heap.objs.size:=λb hb z=>by
  show ao (T.obj 0 _ st2 b hb) λo ho _=>?_;show absurd (bZ ho) (by rw[z];show iR _)
 have f3:∀ b∈fp,cx X pins (ar H2 s2.heap.objs.size (.lst [])) b:=λb hb=>⟨by rw[aR (fne b hb)];show (f2 b hb).1,(f2 b hb).2⟩
 have st3:tn 0 s3.heap:=T.keep 0 _ _ st2 λb _ o e=>k23 b o e;have hfo:∀ b∈fp,∃ o,s3.heap.get? b=some o:=λb hb=>let ⟨o,ho,_⟩:=T.obj 0 _ st3 b hb;⟨o,ho⟩;show IW λh' hn hk hce=>?_;have I4:=HK (own:=own) I3' B hcl hcl2 f3 hfo hn hk hce;show bC (hb cl s3 (ar H2 s2.heap.objs.size (.lst [])) fp) λhg ht he=>?_;have st4:tn 0 h':=T.keep 0 _ _ st3 λb _ o e=>hk b o e;have stat:∀ {H':Hp},(∀ b∈fp,H' b=none)->∀ b∈fp,cx (fR X (fj own fr) scope cl s3 (ar H2 s2.heap.objs.size (.lst [])) fp) [] H' b:=λ{H'} hnn b hb=>
  ⟨hnn b hb,(I4.ok.exf b hb).1,I4.ok.exfs b hb,.inl hb,(I4.ok.exf b hb).2,λp hp=>absurd (show p∈([]:List (Addr×Obj)) from hp) (by simp)⟩
 show ao (q s2.heap.objs.size fr0) λW e92 turn=>?_;obtain⟨m0,w0⟩:=e92;have loop:codeAny (model X.prog X.w) X.A (.compLoop (.ListComp elt [⟨tg,iter,ifs,0⟩] scope pos) 0 (.ref it) (.ref s2.heap.objs.size) (fR X (fj own fr) scope cl s3 (ar H2 s2.heap.objs.size (.lst [])) fp).env)
   (RR (.ref s2.heap.objs.size) s3.heap.objs.size) { s3 with heap:=h' }:=by
  show IU (λn s'=>∃ i σ' H',av (fR X (fj own fr) scope cl s3 (ar H2 s2.heap.objs.size (.lst [])) fp) [] σ' H' s'/\tn i s'.heap/\(∀ b∈fp,H' b=none)/\W i n σ' H') ?_ m0
   ⟨0,_,_,I4,st4,λb hb=>(f3 b hb).1,w0⟩
  intro n s5 e91;show cK e91 λi σ5 H5 I5 st5 fr5 w5=>?_;clear e91;rcases turn i n σ5 H5 w5 with ⟨stop,qn⟩|⟨go,step⟩
  .refine aX (T.done (fR X (fj own fr) scope cl s3 (ar H2 s2.heap.objs.size (.lst [])) fp) rfl rfl rfl hc i [] s5 σ5 H5 _ I5 (stat fr5) st5 stop) λr s6 ⟨hr,I6⟩=>?_;subst hr;have I7:av X pins σ H5 s6:=I3'.call' (ch:=fp) I6.os I6.base I6.hok I6.bare λb hb=>⟨(f3 b hb).2.2.2.1,(f3 b hb).2.1,(f3 b hb).2.2.2.2.1,(f3 b hb).2.2.2.2.2⟩
   show ao I6.loc λm6 hn6 _=>?_;show hRR _ _ s6 H5 I7 qn ⟨m6,hn6⟩ (tV I3'.lt) (λx c e=>?_) (λp hp=>?_) I3'.sz I6.free
   .obtain ⟨v,z⟩:=I3'.cell x c e;show eS z.lt
   .exact eS (bZ (I3'.pin p hp).1)
  .refine aX (T.item (fR X (fj own fr) scope cl s3 (ar H2 s2.heap.objs.size (.lst [])) fp) rfl rfl rfl hc i [] s5 σ5 H5 _ I5 (stat fr5) st5 go) λr s6 ⟨u,hr,h6⟩=>?_;subst hr;show aX h6 λ_ s7 ⟨x,H7,I7,r7,y7,st7,fr7⟩=>?_;have I7':=I7.pinned (stat fr7) (T.obj _ _ st7);show aX (hg _ s7 σ5 H7 x u _ I7' r7 (step x H7 y7)) λ_ s8 ⟨σ8,H8,I8,q8⟩=>?_;show aX (ht _ s8 σ8 H8 _ I8 q8) λb s9 ⟨H9,I9,q9⟩=>?_;have again:∀ {sA:Shared} {σA:St} {HA:Hp} {m':Nat},av (fR X (fj own fr) scope cl s3 (ar H2 s2.heap.objs.size (.lst [])) fp) ([]++vh fp s7.heap) σA HA sA->m'<n->W (i+1) m' σA HA->
     ∃ m,m<n/\∃ i σ' H',av (fR X (fj own fr) scope cl s3 (ar H2 s2.heap.objs.size (.lst [])) fp) [] σ' H' sA/\tn i sA.heap/\(∀ b∈fp,H' b=none)/\W i m σ' H':=λ{sA σA HA m'} IA hm wA=>by
    show⟨m',hm,i+1,σA,HA,IA.unpinned,T.keep _ _ _ st7 λb hb o e=>(IA.pin (b,o) (gQ _ (gQ _ (vO hb e)))).1,λb hb=>?_,wA⟩;show ao (T.obj _ _ st7 b hb) λo e d=>?_;show (IA.pin (b,o) (gQ _ (gQ _ (vO hb e)))).2.1
   cases b with
   | false=>
    show ao q9 λm' hm w9=>?_;clear q9;show again I9 hm w9
   | true=>
    have q9:te σ8 H9 _:=q9;change wpAny _ _ _ _ _ _;show aX (he _ s9 σ8 H9 _ I9 q9) λy sA ⟨vy,HA,IA,rA,vs,hvs,hlen,m',hm,wA⟩=>?_;show aX (gq (X:=fR X (fj own fr) scope cl s3 (ar H2 s2.heap.objs.size (.lst [])) fp) _ sA σ8 HA (.ref s2.heap.objs.size) [vy] (.ref s2.heap.objs.size) [y] (λ_ HB=>W (i+1) m' σ8 HB) IA rfl (.cons rA .nil) ⟨_,vs,vy,rfl,rfl,hvs,hlen,wA⟩) λ_ sB ⟨_,HB,IB,_,wB⟩=>?_;show again IB hm wB
 show codeAny_compStart_list loop (T.self _ 0 _ _ _ st4 loop)
theorem SameBut.get {a:Addr}{h h':Heap}(x:Heap.SameBut a h h'):∀ b o,b≠a->h.get? b=some o->h'.get? b=some o:=λb o n e=>(x.2 b n).trans e
theorem dR (hc:X.calm=true)(B:dO X scope own fr)(hi:PI X tg iter wi)(hb:∀ cl s H fp,PG (fR X (fj own fr) scope cl s H fp) tg g/\vV (fR X (fj own fr) scope cl s H fp) ifs tt/\PE (fR X (fj own fr) scope cl s H fp) elt te)(hs:∀ x,foldedSetIterable iter X.env x=pure x:=by intro _;rfl):
  PE X (.ListComp elt [⟨tg,iter,ifs,0⟩] scope pos) (tComp own.length fr wi g tt te):=by
 intro pins s σ H Q I h;show bh (zk (scope:=scope) (env:=X.env) λy hy hf=>I.ok.has y.1 (B.free y hy hf)) λcl hclos hcl hcl2=>?_;rw[eval_ListComp];show wpAny_comprehension_free (use:=none) rfl hs hclos B.kind B.loc (aX (hi pins s σ H _ I h) λv s1 h1=>aX h1 λitv s2 h2=>?_);show iE h2 λit fp tn J H2 e I2 T e93=>?_;clear h2;show bC e93 λst2 f2 q=>?_;clear e93;subst e;show Ei (RR:=λacc C=>compPost (model X.prog X.w) X.A X.xe none (EP X pins σ Q) acc C) (Q:=Q) hc B hb hcl hcl2 I2 T st2 f2 q ?_;intro D C s' H' I' hq hn n1 n2 n3 n4 n5;obtain⟨m,hn⟩:=hn;show⟨m,hn,λh' hs'=>⟨.ref D,H',I'.turned (it:=C) (t':=s'.toks) (λb o hb e=>SameBut.get hs' b o hb e) n5 (f_ (f_ n1)) (.inr n4) n2 n3,rfl,hq⟩⟩
theorem oO {i:Nat}{x:Str}{pos' spos:Pos}(hc:X.calm=true)(B:dO X scope own fr)(hi:PI X tg iter wi)(hb:∀ cl s H fp,PG (fR X (fj own fr) scope cl s H fp) tg g/\vV (fR X (fj own fr) scope cl s H fp) ifs tt/\PE (fR X (fj own fr) scope cl s H fp) elt te)(hN:X.N.Nodup)(hix:X.N[i]?=some x)(hx:X.env.scope.names.lookup x=some .local)(hsw:swapsWith (.ListComp elt [⟨tg,iter,ifs,0⟩] scope pos) (some (.Name x pos')) spos.line X.env=pure true)(hs:∀ x,foldedSetIterable iter X.env x=pure x:=by intro _;rfl):
  PS X (.Assign [.Name x pos'] (.ListComp elt [⟨tg,iter,ifs,0⟩] scope pos) spos) (tAsg (tComp own.length fr wi g tt te) (bU i)):=by
 intro pins s σ H D I h;show bh (zk (scope:=scope) (env:=X.env) λy hy hf=>I.ok.has y.1 (B.free y hy hf)) λcl hclos hcl hcl2=>?_;rw[exec_Assign_Name_used _ _ _ _ hsw];show bP (ye (bP ?_));change wpAny _ _ (do let _ <- comprehension (.ListComp elt [⟨tg,iter,ifs,0⟩] scope pos) scope X.env _ (newList []) false (eval iter X.env) (some (assign (.Name x pos') X.env))) _ _ s;show bP (jh (wpAny_comprehension_free (use:=some (assign (.Name x pos') X.env)) (Q:=λ_ s'=>SP X pins D .next s') rfl hs hclos B.kind B.loc (aX (hi pins s σ H _ I h) λv s1 h1=>aX h1 λitv s2 h2=>?_))
  (λ_ s' hq=>dG (dG hq)) λ_ _ e=>e)
 show iE h2 λit fp tn J H2 e I2 T e94=>?_;clear h2;show bC e94 λst2 f2 q=>?_;clear e94;subst e;show Ei (RR:=λacc C=>compPost (model X.prog X.w) X.A X.xe (some (assign (.Name x pos') X.env)) (λ_ s'=>SP X pins D .next s') acc C) (Q:=λv H'=>bU i v σ H' D.nx) hc B hb hcl hcl2 I2 T st2 f2 q ?_;intro DD C s' H' I' hq hn n1 n2 n3 n4 n5;obtain⟨m,hn⟩:=hn;change wpAny _ _ (assign (.Name x pos') X.env (.ref DD)) _ _ s';show wpAny_assign_Name (Fn I' hN hix (.inl hx) (v:=.ref DD) rfl (λs3 I3 ⟨a,hsa,ha⟩=>?_) (.inr hx));have hCa:C≠a:=by
  rcases ha with z|z
  .rw [z];show n1
  .exact (n2 x a z).symm
 show⟨m,hn.sameBut hsa hCa,λh' hs'=>⟨σ.set i (↥DD),H',I3.turned (it:=C) (t':=s3.toks) (λb o hb e=>SameBut.get hs' b o hb e) n5 n1 (.inr n4) n2 n3,hq⟩⟩
end
section
variable {X:Cx}
theorem eH:cm X (binaryOp .Mult) (rI IntMulOk λi j=>.int (i*j)):=
 opI λi j t u s Q E c h=>PyProof.Rows.mul_int h c
noncomputable def cV:V->Option Value
 | .ty n=>some (.type n)
 | .ref a=>↥a
 | _=>none
theorem iJ:jb X (.builtin "isinstance") (λxs H Q=>∃ x y c t b,xs=[x,y]/\cV y=some c/\c9 X.K H x t/\PySem.W.kitOne X.K t c=some b/\Q (.bl b) H):=by
 intro pins s σ H xs us Q I r h;show iE h λx y c t b e93 hc ty e94=>?_;clear h;subst e93;obtain⟨e,q⟩:=e94;show cF (vals2 r) λu v e95 rx ry=>?_;obtain rfl:=e95;have hv:v=c:=by
  cases y <;> first|(cases hc;done)|(cases hc;cases ry;rfl)
 subst hv;show HQ I rx ty e λtk=>⟨.bl b,H,I.tok _,rfl,q⟩
theorem tM (bs:List Bool):(List.range bs.length).all (λi=>(bs[i]?).getD true)=bs.all id:=by
 rw[sF,jk,jk];constructor
 .intro h b hb;obtain⟨i,hi,rfl⟩:=dZ.mp hb;have:=h i (dU.mpr hi);rw[aG hi] at this;show this
 .intro h i hi;have hi:=dU.mp hi;rw[aG hi];show h _ (dm hi)
theorem IM {A:Around}{prog:Program}{w:World}{bs:List Bool}{its:List Value}(r:au (bs.map V.bl) its):TruthOf prog w A (λi v=>its.toArray[i]?=some v) (λi=>(bs[i]?).getD true):=by
 intro i v s Q E hP hQ;have hP:its[i]?=some v:=by simpa using hP
 have hl:=r.length;rw[aB] at hl;have hi:i<bs.length:=by rw[hl];show (b_.mp hP).1
 obtain⟨u,hu,rv⟩:=r.get (i:=i) (x:=.bl bs[i]) (by rw[bj,aG hi];rfl);rw[hP] at hu;cases hu;cases rv;have hQ:Q ((bs[i]?).getD true) s:=hQ;rw[aG hi] at hQ;show jl hQ
theorem rM (hc:X.calm=true):jb X (.builtin "all") (λxs H Q=>∃ (p:Addr) (bs:List Bool),xs=[.ref p]/\aj X.K H p (bs.map V.bl)/\Q (.bl (bs.all id)) H):=by
 intro pins s σ H xs us Q I r h;show cF h λp bs e96 hq q=>?_;clear h;subst e96;show ao (rq r) λu e97 rx=>?_;obtain rfl:=e97;cases rx;show bh (I.list hq) λits rv pl hz=>?_;have hl:=rv.length;rw[aB] at hl;show call_all_walk (yv pl.isList ?_);have hne:p≠s.heap.objs.size:=λe=>by
  show cE pl λo n ho _=>?_;clear pl;show absurd (bZ ho) (by rw[e];show iR _)
 show wX s.heap.objs.size _ _ _ _ _ (λi=>(bs[i]?).getD true) ⟨rfl,Walks.list (A:=X.A.in1) (I.ok.hd hc) _ p hne its.toArray,⟨⟨_,ij _ rfl,rfl,rfl⟩,pl.isList.at λo e=>d5 _ e⟩,IM rv,λh' tk kp=>?_⟩;have e:(List.range its.toArray.size).all (λi=>(bs[i]?).getD true)=bs.all id:=by
  rw[dS,<- hl];show tM bs
 rw[e];have f:=I.fpOk (H':=H) (aQ s.heap.objs.size) (I.hok.fresh (aQ _));show aM (.bl _) H ⟨(I.kept (h':=s.heap.push { cls:=.type "list_iterator",data:=.fields #[.ref p,.int 0 0] }) (t':=s.toks) λb o e=>d5 _ e).turned (it:=s.heap.objs.size) (t':=tk) (λb o hb e=>kp b o (by simpa using hb) e) f.1 f.2.1 f.2.2.2.1 f.2.2.2.2.1 f.2.2.2.2.2,rfl,q⟩
end
inductive iw (K:Frag) (H:Hp):Nat->V->V->Bool->Prop where
 | flat {n:Nat} {x y:V} (hx:sV x=true) (hy:sV y=true):iw K H n x y (eqV x y)
 | same {n:Nat} {a:Addr}:iw K H n (.ref a) (.ref a) true
 | list {n:Nat} {a c:Addr} {xs ys:List V} {bs:List Bool} (ne:a≠c) (ha:aj K H a xs) (hc:aj K H c ys) (hl:xs.length=ys.length) (hb:bs.length=xs.length)
   (he:∀ (j:Nat) x y b,xs[j]?=some x->ys[j]?=some y->bs[j]?=some b->iw K H n x y b):iw K H (n+1) (.ref a) (.ref c) (bs.all id)
 | listL {n:Nat} {a c:Addr} {xs ys:List V} (ne:a≠c) (ha:aj K H a xs) (hc:aj K H c ys) (hl:xs.length≠ys.length):iw K H (n+1) (.ref a) (.ref c) false
 | tuple {n:Nat} {a c:Addr} {xs ys:List V} {bs:List Bool} (ne:a≠c) (ha:aE K H a xs) (hc:aE K H c ys) (hl:xs.length=ys.length) (hb:bs.length=xs.length)
   (he:∀ (j:Nat) x y b,xs[j]?=some x->ys[j]?=some y->bs[j]?=some b->iw K H n x y b):iw K H (n+1) (.ref a) (.ref c) (bs.all id)
def vp (K:Frag)(H:Hp)(n:Nat)(xs ys:List V)(bs:List Bool):Prop:=
 xs.length=ys.length/\bs.length=xs.length/\∀ (j:Nat) x y b,xs[j]?=some x->ys[j]?=some y->bs[j]?=some b->iw K H n x y b
section
variable {X:Cx}{pins:List (Addr×Obj)}{σ:St}{H:Hp}{s:Shared}
theorem vF {A:Around}{xs ys:List V}{us vs:List Value}{bs:List Bool}(rx:au xs us)(ry:au ys vs)(hl:xs.length=ys.length)(hb:bs.length=xs.length)(ih:∀ (j:Nat) x y b,xs[j]?=some x->ys[j]?=some y->bs[j]?=some b->∀ u v,aI x u->aI y v->SeqAt.EqAt A s u v b):
  ∀ j (h1:j<us.toArray.size) (h2:j<vs.toArray.size),SeqAt.EqAt A s us.toArray[j] vs.toArray[j] ((bs[j]?).getD true):=by
 intro j h1 h2;have e1:=rx.length;have e2:=ry.length;have h1':j<us.length:=by simpa using h1
 have h2':j<vs.length:=by simpa using h2
 have g1:xs[j]?=some (xs[j]'(by omega)):=aG _;have g2:ys[j]?=some (ys[j]'(by omega)):=aG _;have g3:bs[j]?=some (bs[j]'(by omega)):=aG _;show ao (rx.get g1) λu hu ru=>?_;show ao (ry.get g2) λv hv rv=>?_;have eu:us.toArray[j]=u:=by
  rw[aG h1'] at hu;simpa using hu
 have ev:vs.toArray[j]=v:=by
  rw[aG h2'] at hv;simpa using hv
 rw[eu,ev,g3];show ih j _ _ _ g1 g2 g3 u v ru rv
theorem iw.at {n:Nat}{x y:V}{b:Bool}(I:av X pins σ H s)(e:iw X.K H n x y b):∀ {A:Around} {u v:Value},A.units+n<cLine->aI x u->aI y v->SeqAt.EqAt A s u v b:=by
 induction e with
 | flat hx hy=>intro A u v _ ru rv;show qV ru rv hx hy
 | same=>intro A u v _ ru rv;cases ru;cases rv;show SeqAt.EqAt.same _
 | @list n a c xs ys bs ne ha hc hl hb he ih=>
  intro A u v hA ru rv;cases ru;cases rv;show bh (I.list ha) λits r1 p1 _=>?_;show bh (I.list hc) λits' r2 p2 _=>?_;have e1:=r1.length;have e2:=r2.length;have q:=SeqAt.RcAt.lists (e:=λj=>(bs[j]?).getD true) p1.isList p2.isList (by simp;omega) ∅ (vF (A:=A.in1) r1 r2 hl hb λj x y b h1 h2 h3 u v ru rv=>ih j x y b h1 h2 h3 (show A.units+1+n<cLine by omega) ru rv);rw[show its.toArray.size=bs.length by simp;omega,tM] at q;show BJ ne q
 | @listL n a c xs ys ne ha hc hl=>
  intro A u v hA ru rv;cases ru;cases rv;show bh (I.list ha) λits r1 p1 _=>?_;show bh (I.list hc) λits' r2 p2 _=>?_;have e1:=r1.length;have e2:=r2.length;show BJ ne (SeqAt.RcAt.lists_lengths p1.isList p2.isList (by simp;omega) ∅)
 | @tuple n a c xs ys bs ne ha hc hl hb he ih=>
  intro A u v hA ru rv;cases ru;cases rv;show bh (I.tuple ha) λits r1 p1 _=>?_;show bh (I.tuple hc) λits' r2 p2 _=>?_;have e1:=r1.length;have e2:=r2.length;have q:=SeqAt.RcAt.tuples (e:=λj=>(bs[j]?).getD true) p1 p2 ∅ (vF (A:=A.in1) r1 r2 hl hb λj x y b h1 h2 h3 u v ru rv=>ih j x y b h1 h2 h3 (show A.units+1+n<cLine by omega) ru rv);rw[show min its.toArray.size its'.toArray.size=bs.length by simp;omega,tM,show (its.toArray.size == its'.toArray.size)=true by simp;omega,yd] at q;show BJ ne q
def rEqL (K:Frag)(neg:Bool):R2:=λx y H Q=>∃ a c xs ys,x=.ref a/\y=.ref c/\aj K H a xs/\aj K H c ys /\
 ((xs.length≠ys.length/\Q (.bl neg) H)\/∃ bs,vp K H 6 xs ys bs/\Q (.bl (if neg then !bs.all id else bs.all id)) H)
def sO (K:Frag)(neg:Bool):R2:=λx y H Q=>∃ a c xs ys bs,x=.ref a/\y=.ref c/\aE K H a xs/\aE K H c ys/\vp K H 6 xs ys bs/\Q (.bl (if neg then !bs.all id else bs.all id)) H
theorem CF (hu:X.A.units+8<cLine):cm X (compareOp .Eq) (rEqL X.K false):=by
 intro pins s σ H x y v u Q I rx ry h;show cZ h λa c xs ys e921 e922 ha e923=>?_;clear h;subst e921;obtain rfl:=e922;obtain⟨hc,h⟩:=e923;cases rx;cases ry;show bh (I.list ha) λits r1 p1 _=>?_;show bh (I.list hc) λits' r2 p2 _=>?_;have e1:=r1.length;have e2:=r2.length;rcases h with ⟨hne,q⟩|⟨bs,⟨hl,hb,he⟩,q⟩
 .exact SeqAt.eq_list_lengthsAt p1.isList p2.isList (by simp;omega) ∅ ⟨.bl false,H,I,rfl,q⟩
 .refine SeqAt.eq_listAt (e:=λj=>(bs[j]?).getD true) p1.isList p2.isList (by simp;omega) ∅ (vF (A:=X.A.in1) r1 r2 hl hb λj x y b h1 h2 h3 u v ru rv=>(he j x y b h1 h2 h3).at I (show X.A.units+1+6<cLine by omega) ru rv) ?_;rw[show its.toArray.size=bs.length by simp;omega,tM];show aM (.bl (bs.all id)) H ⟨I,rfl,q⟩
theorem yC (hu:X.A.units+8<cLine):cm X (compareOp .Eq) (sO X.K false):=by
 intro pins s σ H x y v u Q I rx ry h;show iE h λa c xs ys bs e927 e928 ha e929=>?_;clear h;subst e927;obtain rfl:=e928;show bC e929 λhc e930 q=>?_;clear e929;obtain⟨hl,hb,he⟩:=e930;cases rx;cases ry;show bh (I.tuple ha) λits r1 p1 _=>?_;show bh (I.tuple hc) λits' r2 p2 _=>?_;have e1:=r1.length;have e2:=r2.length;show SeqAt.eq_tupleAt (e:=λj=>(bs[j]?).getD true) p1 p2 ∅ (vF (A:=X.A.in1) r1 r2 hl hb λj x y b h1 h2 h3 u v ru rv=>(he j x y b h1 h2 h3).at I (show X.A.units+1+6<cLine by omega) ru rv) ?_;rw[show min its.toArray.size its'.toArray.size=bs.length by simp;omega,tM,show (its.toArray.size == its'.toArray.size)=true by simp;omega,yd];show aM (.bl (bs.all id)) H ⟨I,rfl,q⟩
theorem CG (hu:X.A.units+8<cLine):cm X (compareOp .NotEq) (sO X.K true):=by
 intro pins s σ H x y v u Q I rx ry h;show iE h λa c xs ys bs e931 e932 ha e933=>?_;clear h;subst e931;obtain rfl:=e932;show bC e933 λhc e934 q=>?_;clear e933;obtain⟨hl,hb,he⟩:=e934;cases rx;cases ry;show bh (I.tuple ha) λits r1 p1 _=>?_;show bh (I.tuple hc) λits' r2 p2 _=>?_;have e1:=r1.length;have e2:=r2.length;show SeqAt.RcNeAt.tuples (e:=λj=>(bs[j]?).getD true) p1 p2 ∅ (vF (A:=X.A.in1) r1 r2 hl hb λj x y b h1 h2 h3 u v ru rv=>(he j x y b h1 h2 h3).at I (show X.A.units+1+6<cLine by omega) ru rv) _ _ _ _ ?_;rw[show min its.toArray.size its'.toArray.size=bs.length by simp;omega,tM,show (its.toArray.size == its'.toArray.size)=true by simp;omega,yd];show aM (.bl (!bs.all id)) H ⟨I,rfl,q⟩
end
theorem Fc (K:Frag):PySem.W.kitOne K (.type "int") (.type "int")=some true:=by rfl
theorem FE (K:Frag):PySem.W.kitOne K (.type "int") (.type "bool")=some false:=by kernel_rfl
theorem FF (K:Frag):PySem.W.kitOne K (.type "bool") (.type "bool")=some true:=by rfl
theorem IK (K:Frag):PySem.W.kitOne K (.type "bool") (.type "int")=some true:=by kernel_rfl
theorem Ap (K:Frag):PySem.W.kitOne K (.type "tuple") (.type "tuple")=some true:=by rfl
theorem xR (K:Frag):PySem.W.kitOne K (.type "list") (.type "list")=some true:=by rfl
structure Cp (P:Program)(w:World)(K:Frag)(mg:Str->Option Value)(base:Heap)(x:Str)(k:Nat)(sp:Sp):Prop where
 ex:∃ (f:Addr) (fd:FuncData) (ps:List Str),cu P w K mg base gY k f fd ps sp/\mg x=↥f/\PySem.W.keepIn K (.ref f)=true/\bL K fd ps []
theorem pZ {X:Cx}{x:Str}{k:Nat}{sp:Sp}{e:Expr}{es:List Expr}{t:TA}{p pos:Pos}(C:Cp X.prog X.w X.K X.mg X.base x k sp)(hr:bp k X.A)(hg:Gl X x)(ha:PA X (e::es) t)(hdb:(x == ("__debug__" : Str))=false:=by decide)(he:starEach (e::es) X.env=(false,eval e X.env)::starEach es X.env:=by rfl)(hpl:(backTo pos (starEach es X.env)).any (·.1)=false:=by rfl):
  PE X (.Call (.Name x p) (e::es) [] pos) (wZ sp [] E0 t):=by
 show cK C.ex λf fd ps F hm hk hb=>?_;show lM F hr hg hm hk hb .nil wU ha hdb he hpl
structure kh (P:Program)(w:World)(K:Frag)(mg:Str->Option Value)(base:Heap)(C:Addr)(m:Str)(k:Nat)(sp:Sp):Prop where
 ex:∃ (f:Addr) (fd:FuncData) (ps:List Str),cu P w K mg base gY k f fd ps sp/\iN K C m f/\bL K fd ps []
structure gX (P:Program)(w:World)(K:Frag)(mg:Str->Option Value)(base:Heap)(x:Str)(C:Addr)(k:Nat)(sp:Sp):Prop where
 ex:∃ (f:Addr) (fd:FuncData) (ps:List Str),cu P w K mg base gY k f fd ps sp/\Mk K C f/\mg x=↥C/\bL K fd ps []
theorem pX {X:Cx}{x:Str}{C:Addr}{k:Nat}{sp:Sp}{e:Expr}{es:List Expr}{t:TA}{p pos:Pos}(M:gX X.prog X.w X.K X.mg X.base x C k sp)(hr:bp (k+1) X.A)(hg:Gl X x)(ha:PA X (e::es) t)(hdb:(x == ("__debug__" : Str))=false:=by decide)(he:starEach (e::es) X.env=(false,eval e X.env)::starEach es X.env:=by rfl)(hpl:(backTo pos (starEach es X.env)).any (·.1)=false:=by rfl):
  PE X (.Call (.Name x p) (e::es) [] pos) (zc C sp [] E0 t):=by
 show cK M.ex λf fd ps F hm hk hb=>?_;show lK hm F hr hg hk hb .nil wU ha hdb he hpl
theorem CK {X:Cx}{m:Str}{C:Addr}{k:Nat}{sp:Sp}{o e:Expr}{es:List Expr}{ta:TE}{t:TA}{apos pos:Pos}{pl:Sem Bool}(c:iz X.K C)(M:kh X.prog X.w X.K X.mg X.base C m k sp)(hr:bp k X.A)(ho:PE X o ta)(ha:PA X (e::es) t)(hst:starEach (e::es) X.env=(false,eval e X.env)::starEach es X.env:=by rfl)(hpl:(backTo pos (starEach es X.env)).any (·.1)=false:=by rfl)(ht:eval (.Call (.Attribute o m apos) (e::es) [] pos) X.env=(do
   let ov <- eval o X.env
   standAt apos.atName
   let (f,first) <- holding [ov] (getMethod ov m pl)
   callWith pos f first (backTo pos (starEach (e::es) X.env)) (backToKw pos (keywordEach [] X.env))):=by rfl):
  PE X (.Call (.Attribute o m apos) (e::es) [] pos) (y6 C m sp [] E0 ta t):=by
 show iD M.ex λf fd ps F hm hb=>?_;show DK ho c hm F hr hb .nil wU ha hst hpl ht
noncomputable def blOk (outer:List (Str×NameKind))(N:List Str)(scope:Scope)(fr:List (Str×Nat)):Bool:=
 scope.kind == .function && scope.names.all (λy=>y.2 != .free || outer.lookup y.1 == some .cell || outer.lookup y.1 == some .free) && scope.names.all (λy=>scope.names.lookup y.1 == some y.2) &&
 fr.all λy=>scope.names.lookup y.1 == some .free && N[y.2]? == some y.1
theorem cW {X:Cx}{scope:Scope}{own:List Str}{fr:List (Str×Nat)}(h:blOk X.env.scope.names X.N scope fr=true):dO X scope own fr:=by
 unfold blOk at h;simp only[o7,jk] at h;obtain⟨⟨⟨h1,h2⟩,h3⟩,h4⟩:=h;show⟨?_,λy hy hf=>?_,λy hy hl=>?_,λy hy=>?_,λy hy=>?_⟩
 .cases e:scope.kind <;> rw[e] at h1 <;> first|rfl|(show absurd h1 ⇑0)
 .have:=h2 y hy;rw[hf] at this;simp only[tX,eQ] at this;rcases this with (q|q)|q
  .exact absurd q ⇑0
  .exact .inl q
  .exact .inr q
 .have:=h3 y hy;rw[hl] at this;show eQ.mp this
 .exact eQ.mp (h3 y hy)
 .have:=h4 y hy;show⟨eQ.mp this.1,eQ.mp this.2⟩
def Sh (k:Nat)(cap σ:St):Prop:=∃ o,o.length=k/\σ=o++cap
theorem Sh.mk1 {cap:St}{a:Option V}:Sh 1 cap (a::cap):=⟨[a],rfl,rfl⟩
theorem Sh.mk2 {cap:St}{a b:Option V}:Sh 2 cap (a::b::cap):=⟨[a,b],rfl,rfl⟩
theorem Sh.one {cap σ:St}(h:Sh 1 cap σ):∃ a,σ=a::cap:=by
 show ao h λo h1 e92=>?_;clear h;subst e92
 match o,h1 with
 | [a],_=>show⟨a,rfl⟩
theorem Sh.two {cap σ:St}(h:Sh 2 cap σ):∃ a b,σ=a::b::cap:=by
 show ao h λo h1 e93=>?_;clear h;subst e93
 match o,h1 with
 | [a,b],_=>show⟨a,b,rfl⟩
noncomputable def cy (fr:List (Str×Nat))(σ:St):St:=fr.map λy=>(σ[y.2]?).getD none
def Wv (n k:Nat)(cap:St)(Pv:Nat->List V->Hp->Prop):Nat->Nat->St->Hp->Prop:=λi m σ H=>m=n-i/\i<=n/\Sh k cap σ/\∃ vs,Pv i vs H
def Lf (D:Addr)(n k:Nat)(cap:St)(Pv:Nat->List V->Hp->Prop)(i:Nat)(σ4:St)(y:V)(H6:Hp):Prop:=
 ∃ vs,H6 D=some (.lst vs)/\vs.length<sizeLine/\∃ m',m'<n-i/\Wv n k cap Pv (i+1) m' σ4 (ar H6 D (.lst (vs++[y])))
def FS (n k:Nat)(cap:St)(Pv:Nat->List V->Hp->Prop)(i:Nat)(σ4:St)(H5:Hp):Prop:=∃ m',m'<n-i/\Wv n k cap Pv (i+1) m' σ4 H5
theorem gj {D:Addr}{n k:Nat}{cap:St}{Pv:Nat->List V->Hp->Prop}{i:Nat}{σ4:St}{y:V}{H6:Hp}{vs ws:List V}(hi:i<n)(sh:Sh k cap σ4)(hD:H6 D=some (.lst vs))(hl:vs.length<sizeLine)(p:Pv (i+1) ws (ar H6 D (.lst (vs++[y])))):Lf D n k cap Pv i σ4 y H6:=⟨vs,hD,hl,n-(i+1),∅,rfl,hi,sh,ws,p⟩
theorem leaf0 {n k:Nat}{cap:St}{Pv:Nat->List V->Hp->Prop}{i:Nat}{σ4:St}{H5:Hp}{ws:List V}(hi:i<n)(sh:Sh k cap σ4)(p:Pv (i+1) ws H5):FS n k cap Pv i σ4 H5:=⟨n-(i+1),∅,rfl,hi,sh,ws,p⟩
def gD (g:TG)(tt:TT)(te:TE)(D:Addr)(n k:Nat)(cap:St)(Pv:Nat->List V->Hp->Prop)(i:Nat)(x:V)(σ':St)(H:Hp):Prop:=
 g x σ' H λσ4 H4=>tt σ4 H4 λb H5=>if b=true then te σ4 H5 λy H6=>Lf D n k cap Pv i σ4 y H6 else FS n k cap Pv i σ4 H5
section
variable {K:Frag}{a D:Addr}{xs:List V}{g:TG}{tt:TT}{te:TE}{k:Nat}{fr:List (Str×Nat)}{σ:St}{H1:Hp}{Q:VK}
theorem sh0:Sh k (cy fr σ) (dP k fr σ):=⟨List.replicate k none,eM,rfl⟩
theorem zW {J:It}{n:Nat}(it:Nat->V->Prop)(Pv:Nat->List V->Hp->Prop)(h0:Pv 0 [] (ar H1 D (.lst [])))(go:∀ i vs H,i<n->Pv i vs H->J.go i H/\∀ x H',J.yld i H x H'->H'=H/\it i x)(stop:∀ vs H,Pv n vs H->J.stop n H)(hs:∀ i x vs σ' H,i<n->it i x->Sh k (cy fr σ) σ'->Pv i vs H->gD g tt te D n k (cy fr σ) Pv i x σ' H)(hd:∀ vs H,Pv n vs H->Q (.ref D) H):eZ g tt te J D (dP k fr σ) H1 Q:=by
 show⟨Wv n k (cy fr σ) Pv,⟨n,by simp,fE _,sh0,[],h0⟩,?_⟩;intro i m σ' H2 e91;show cA e91 λe94 hi sh e95=>?_;clear e91;obtain rfl:=e94;obtain⟨vs,p⟩:=e95;by_cases hlt:i<n
 .obtain ⟨g1,g2⟩:=go i vs H2 hlt p;show .inr ⟨g1,λx H3 y=>?_⟩;obtain⟨rfl,hx⟩:=g2 x H3 y;show hs i x vs σ' _ hlt hx sh p
 .have e:i=n:=∅
  subst e;show .inl ⟨stop vs H2 p,hd vs H2 p⟩
theorem rO (Pv:Nat->List V->Hp->Prop)(h0:Pv 0 [] (ar H1 D (.lst [])))(hl:∀ i vs H,i<=xs.length->Pv i vs H->aj K H a xs)(hs:∀ i x vs σ' H,i<xs.length->xs[i]?=some x->Sh k (cy fr σ) σ'->Pv i vs H->gD g tt te D xs.length k (cy fr σ) Pv i x σ' H)(hd:∀ vs H,Pv xs.length vs H->Q (.ref D) H):eZ g tt te (jq K a) D (dP k fr σ) H1 Q:=
 zW (λi x=>xs[i]?=some x) Pv h0 (λi vs H hi p=>⟨⟨xs,xs[i],hl i vs H (gR hi) p,by simp[hi]⟩,λx H' y=>⟨y.1,y.2 xs (hl i vs H (gR hi) p)⟩⟩)
  (λvs H p=>⟨xs,hl _ vs H (aQ _) p,aQ _⟩) hs hd
theorem Gd (Pv:Nat->List V->Hp->Prop)(h0:Pv 0 [] (ar H1 D (.lst [])))(hl:∀ i vs H,i<=xs.length->Pv i vs H->aE K H a xs)(hs:∀ i x vs σ' H,i<xs.length->xs[i]?=some x->Sh k (cy fr σ) σ'->Pv i vs H->gD g tt te D xs.length k (cy fr σ) Pv i x σ' H)(hd:∀ vs H,Pv xs.length vs H->Q (.ref D) H):eZ g tt te (sJ K a) D (dP k fr σ) H1 Q:=
 zW (λi x=>xs[i]?=some x) Pv h0 (λi vs H hi p=>⟨⟨xs,xs[i],hl i vs H (gR hi) p,by simp[hi]⟩,λx H' y=>⟨y.1,y.2 xs (hl i vs H (gR hi) p)⟩⟩)
  (λvs H p=>⟨xs,hl _ vs H (aQ _) p,aQ _⟩) hs hd
theorem vC {lo:Int}{n:Nat}(Pv:Nat->List V->Hp->Prop)(h0:Pv 0 [] (ar H1 D (.lst [])))(hs:∀ i x vs σ' H,i<n->x=.int (lo+i)->Sh k (cy fr σ) σ'->Pv i vs H->gD g tt te D n k (cy fr σ) Pv i x σ' H)(hd:∀ vs H,Pv n vs H->Q (.ref D) H):eZ g tt te (ja lo n) D (dP k fr σ) H1 Q:=
 zW (λi x=>x=.int (lo+i)) Pv h0 (λi vs H hi p=>⟨hi,λx H' y=>y⟩) (λvs H p=>aQ _) hs hd
end
def bf (l:Addr)(H H':Hp):Prop:=∀ b o,b≠l->H b=some o->H' b=some o
theorem bf.refl (l:Addr)(H:Hp):bf l H H:=λ_ _ _ e=>e
theorem bf.trans {l:Addr}{H H1 H2:Hp}(a:bf l H H1)(b:bf l H1 H2):bf l H H2:=λc o n e=>b c o n (a c o n e)
theorem bf.new {l p:Addr}{H:Hp}{o:HO}(h:H p=none):bf l H (ar H p o):=λc u _ e=>by rw[aR (bV e h)];show e
theorem bf.set {l:Addr}{H:Hp}{o:HO}:bf l H (ar H l o):=λc u n e=>by rw[aR n];show e
theorem aa.ext {l:Addr}{H H':Hp}(s:aa H H'):bf l H H':=λc o _ e=>s c o e
theorem aa.new {p:Addr}{H:Hp}{o:HO}(h:H p=none):aa H (ar H p o):=λc u e=>by rw[aR (bV e h)];show e
theorem aa.upd {p:Addr}{H H':Hp}{o:HO}(s:aa H H')(h:H p=none):aa H (ar H' p o):=λc u e=>by rw[aR (bV e h)];show s c u e
theorem bf.upd {l p:Addr}{H H':Hp}{o:HO}(s:bf l H H')(h:H p=none):bf l H (ar H' p o):=λc u n e=>by rw[aR (bV e h)];show s c u n e
theorem bf.free {l p:Addr}{H H':Hp}(s:bf l H H')(n:p≠l)(h:H' p=none):H p=none:=by
 cases e:H p with
 | none=>rfl
 | some o=>rw[s p o n e] at h;cases h
theorem FY {CX:iS}{P:Program}{w:World}{K:Frag}{mg:Str->Option Value}{base:Heap}{N:List Str}{qual:Str}{scope:Scope}{f:Addr}{cd:Value}{A:Around}{outer:List Env}{s:Shared}{H:Hp}{E:XK}:(nE CX P w K mg base N qual scope f cd A outer s H E).K=K:=rfl
theorem FX {X:Cx}{N:List Str}{scope:Scope}{cl:List (Str×Addr)}{s:Shared}{H:Hp}{fp:List Addr}:(fR X N scope cl s H fp).K=X.K:=rfl
theorem Kr {X:Cx}{E:Value->Shared->Prop}:(X.wish E).K=X.K:=rfl
theorem tJ {X:Cx}{x:Str}{i:Int}{pos:Pos}(hg:Gl X x)(hm:∃ t,X.mg x=some (.int i t))(hd:(x == ("__debug__" : Str))=false:=by decide):PE X (.Name x pos) (tC (.int i)):=by
 obtain⟨t,e⟩:=hm;show DJ hg e ⟨t,rfl⟩ hd
theorem eK {α:Type}{xs:List α}{i:Int}{v:α}(h0:0<=i)(h:xs[i.toNat]?=some v):atI xs i=some v:=by
 have e:((i.toNat:Nat):Int)=i:=i9 h0;rw[<- e];show nq h
def fw:Expr->Bool
 | .Starred _ _=>true
 | _=>false
theorem hV {e:Expr}{es:List Expr}{env:Env}(h:fw e=false):starEach (e::es) env=(false,eval e env)::starEach es env:=by
 cases e <;> first|rfl|cases h
theorem tL {pos:Pos}{env:Env}:∀ {es:List Expr},es.all (λx=>!fw x)=true->(backTo pos (starEach es env)).any (·.1)=false
 | [],_=>rfl
 | e::es,h=>by
  rw[we,o7] at h;have h1:fw e=false:=by simpa using h.1
  rw[hV h1];change ((false,_).1 || (backTo pos (starEach es env)).any (·.1))=false;rw[tL h.2];rfl
section
variable {X:Cx}{x:Str}{p pos:Pos}{e:Expr}{es:List Expr}{te:TE}{t:TA}{id T:String}{r:List V->Hp->VK->Prop}
theorem yB (ha:PE X e te)(hr:PA X es t)(h:fw e=false:=by rfl):PA X (e::es) (jd te t):=lO ha hr (hV h)
theorem cg (hc:jb X (.builtin id) r)(hg:Gl X x)(hm:X.mg x=none)(hv:bootBuiltins x=some (.builtin id))(ha:PA X (e::es) t)(h:fw e=false:=by rfl)(h2:es.all (λx=>!fw x)=true:=by rfl)(hn:x ≠ "__name__" := by decide)(hdb:(x == ("__debug__" : Str))=false:=by decide):PE X (.Call (.Name x p) (e::es) [] pos) (tCB r t):=Hg hc hg hm hv ha hn hdb (hV h) (tL h2)
theorem ku (hc:jb X (.type T) r)(hg:Gl X x)(hm:X.mg x=none)(hv:bootBuiltins x=some (.type T))(ha:PA X (e::es) t)(h:fw e=false:=by rfl)(h2:es.all (λx=>!fw x)=true:=by rfl)(hn:x ≠ "__name__" := by decide)(hdb:(x == ("__debug__" : Str))=false:=by decide):PE X (.Call (.Name x p) (e::es) [] pos) (tCB r t):=HJ hc hg hm hv ha hn hdb (hV h) (tL h2)
theorem J9 {k:Nat}{sp:Sp}(C:Cp X.prog X.w X.K X.mg X.base x k sp)(hr:bp k X.A)(hg:Gl X x)(ha:PA X (e::es) t)(h:fw e=false:=by rfl)(h2:es.all (λx=>!fw x)=true:=by rfl)(hdb:(x == ("__debug__" : Str))=false:=by decide):PE X (.Call (.Name x p) (e::es) [] pos) (wZ sp [] E0 t):=pZ C hr hg ha hdb (hV h) (tL h2)
theorem pY {C:Addr}{k:Nat}{sp:Sp}(M:gX X.prog X.w X.K X.mg X.base x C k sp)(hr:bp (k+1) X.A)(hg:Gl X x)(ha:PA X (e::es) t)(h:fw e=false:=by rfl)(h2:es.all (λx=>!fw x)=true:=by rfl)(hdb:(x == ("__debug__" : Str))=false:=by decide):PE X (.Call (.Name x p) (e::es) [] pos) (zc C sp [] E0 t):=pX M hr hg ha hdb (hV h) (tL h2)
theorem fv {tg a:Expr}{ta:TA}(hg:Gl X "range")(hm:X.mg "range" = none)(ha:PA X [a] ta)(h:fw a=false:=by rfl):PI X tg (.Call (.Name "range" p) [a] [] pos) (yO ta):=HX hg hm ha (hV h)
theorem jK {tg a b:Expr}{ta:TA}(hg:Gl X "range")(hm:X.mg "range" = none)(ha:PA X [a,b] ta)(h:fw a=false:=by rfl)(h2:fw b=false:=by rfl):PI X tg (.Call (.Name "range" p) [a,b] [] pos) (Dk ta):=
 HY hg hm ha (by rw[hV h,hV h2];rfl) (hV h2)
end
theorem Kw {i j:Int}:scal (.int i) (.int j)=true:=rfl
theorem Kv {i j:Bool}:scal (.bl i) (.bl j)=true:=rfl
theorem Kx {i j:Str}:scal (.str i) (.str j)=true:=rfl
theorem iW {X:Cx}{x:Str}{n:String}{pos:Pos}(hg:Gl X x)(hm:X.mg x=none)(hv:bootBuiltins x=some (.type n))(hn:x ≠ "__name__" := by decide)(hd:(x == ("__debug__" : Str))=false:=by decide):PE X (.Name x pos) (tC (.ty n)):=lN (v:=.ty n) hg hm hv rfl hn hd
section
variable {X:Cx}(K:Frag)(hK:X.K=K)
include hK
theorem jX {pos:Pos}{es:List Expr}{k:Nat}{t:nV}{n:Nat}(hc:X.calm=true)(h:vX X es t)(hn:(assignEach es X.env).length=n)(hst:(assignEach es X.env).findIdx? (·.1)=none):PG X (.Tuple es k pos) (iV K n t):=by subst hK;show dY hc h hn hst
theorem FJ:jb X (.type "list") (λxs H Q=>∃ p ys,xs=[.ref p]/\(aj K H p ys\/aE K H p ys)/\∀ l,H l=none->Q (.ref l) (ar H l (.lst ys))):=by subst hK;show vP
theorem kH:oe X (rIxL K):=by subst hK;show a_
theorem zq:oe X (rIxT K):=by subst hK;show bq
theorem G0:Bz X (rSlL K):=by subst hK;show DQ
theorem lL {e:Expr}{f:Str}{pos:Pos}{ta:TE}(he:PE X e ta)(hb:attributeBase e f X.env (eval e X.env)=eval e X.env):PE X (.Attribute e f pos) (tFld K ta f):=by subst hK;show iH he hb
theorem Hh {tg l:Expr}{tl:TE}(hl:PE X l tl):PI X tg l (yN K tl):=by subst hK;show eJ hl
end
theorem fQ {g:TG}{tb:TS}{D:cO}{x:V}{σ:St}{H:Hp}(h:∀ D':cO,D'=D->g x σ H λσ2 H2=>tb D' σ2 H2):g x σ H λσ2 H2=>tb D σ2 H2:=h D rfl
theorem cutI {c:TT}{A B:TS}{D:cO}{σ:St}{H:Hp}(h:∀ A',A'=A->tIfS c A' B D σ H):tIfS c A B D σ H:=h A rfl
theorem fV {xs:List V}{k:Nat}{v:V}(h:xs[k]?=some v):atI xs ((k:Nat):Int)=some v:=eK (BL _) (by rw[fG];show h)
theorem ou {xs:List V}{k:Nat}{v:V}(h:xs[k]?=some v):atI xs (0+((k:Nat):Int))=some v:=by rw[j8];show fV h
theorem nK {as:List Addr}{k:Nat}{a:Addr}(h:as[k]?=some a):atI (as.map V.ref) ((k:Nat):Int)=↥a:=fV (by rw[bj,h];rfl)
theorem rf {as:List Addr}{k:Nat}{a:Addr}(h:as[k]?=some a):atI (as.map V.ref) (0+((k:Nat):Int))=↥a:=by rw[j8];show nK h
theorem ju (n:Nat):-2 ^ 62<=((n:Nat):Int):=∅
theorem jt {n:Nat}(h:n<=1000):((n:Nat):Int)<2 ^ 62:=∅
theorem eX {α:Type}{xs:List α}{k n:Nat}(h:k<n)(hl:xs.length=n):k<xs.length:=hl ▸ h
theorem yQ {α:Type}{xs:List α}{m n:Nat}(hl:xs.length=n)(h:n<=m):xs.length<=m:=hl ▸ h
theorem Ee {n k:Nat}:((n:Int)-(k:Int)).toNat=n-k:=by show oz59
theorem qK {n k i:Nat}(h:i<n-k):k+i<n:=by show oz54 h
theorem rm {n k:Nat}(h:k<n):ixN n ((k:Nat):Int)=some k:=by
 unfold ixN;rw[if_pos (BL _),if_pos ∅,fG]
theorem wV {as:List Addr}{k n:Nat}(h:k<n)(hl:as.length=n):ixN (as.map V.ref).length ((k:Nat):Int)=some k:=rm (by rw[aB,hl];show h)
end L2
set_option maxHeartbeats 1000000
namespace HT
open PySem PySem.Spec PyProof.Rows
section
variable {prog:Program}{w:World}{A:Around}{E:Value->Shared->Prop}{s:Shared}
end
end HT
namespace L2
open PySem PySem.Spec PyProof.Rows
theorem uE (K:Frag)(C:Addr):PySem.W.kitOne K (.ref C) (.ref C)=some true:=by
 unfold PySem.W.kitOne;rw[if_pos]
 first|show beq_self_eq_true _|(simp)|rfl
section
variable {X:Cx}{e es:Expr}{te ts:TE}{pos p2:Pos}
end
section
variable {X:Cx}
def rGetL (K:Frag):V->V->Hp->VK->Prop:=λx y H Q=>∃ p xs i v,x=.ref p/\y=.int i/\0<=i/\aj K H p xs/\xs[i.toNat]?=some v/\Q v H
end
def ua (x:Int):Prop:=-(100000000000000000000000000000000)<x/\x<100000000000000000000000000000000
theorem ua.mul {x y:Int}(hx:ua x)(hy:ua y):IntMulOk x y:=by
 have e:(2:Nat) ^ 200 > 100000000000000000000000000000000:=⋯
 have b:∀ {z:Int},ua z->Builtin.Int.intBits z<=2 ^ 20:=λ{z} h=>by
  have hz:z.natAbs<2 ^ 200:=by have:=h.1;have:=h.2;omega
  unfold Builtin.Int.intBits;split
  .exact fE _
  .rename_i h0
   have:z.natAbs.log2<200:=(Nat.log2_lt (by intro c;apply h0;simpa using c)).mpr hz;have e2:(2:Nat) ^ 20=1048576:=⇑0
   rw[e2];omega
 show .of_bits (b hx) (b hy)
def atZ (ns:List Int)(i:Int):Int:=ns.getD i.toNat 0
theorem nj {ns:List Int}{i:Int}(h:i.toNat<ns.length):(ns.map V.int)[i.toNat]?=some (.int (atZ ns i)):=by
 rw[bj,aG h];simp[atZ,h]
theorem ni {ns:List Int}{i:Int}(h:i.toNat<ns.length):atZ ns i∈ns:=by
 unfold atZ;rw[aW,aG h];show dm h
section
variable {X:Cx}{pins:List (Addr×Obj)}{σ:St}{H:Hp}{s:Shared}{h':Heap}
theorem av.turnedL {t':Nat}{fp:List Addr}(I:av X pins σ H s)(hf:∀ b∈fp,cx X pins H b)(k:∀ b o,b∉fp->s.heap.get? b=some o->h'.get? b=some o):av X pins σ H { s with heap:=h',toks:=t' }:=by
 have nit:∀ b u,H b=some u->b∉fp:=λb u e z=>by rw[(hf b z).1] at e;cases e
 show I.step (g':=s.gens) (d':=s.drawn) (ch:=fp) (λb hb=>?_) (λb o _ _ hc e _=>k b o hc e) (λb o _ _ hc e _=>⟨o.slots,k b o hc e⟩) (λ_ _ _ _ n=>n)
  (λb o hc e=>⟨o,k b o hc e⟩) (λ_ _ e=>e) (λ_ _ _ e=>e) (λb ps e=>⟨#[],by rw[e];simp⟩) (λm hm=>?_) (λb u e=>?_) I.bare
 .refine gn (hf b hb) λf0 f1 f2 f3 f4 f5=>?_;show⟨f3,f1,f4,f5⟩
 .refine fU hm λo es ep ho r=>?_;clear hm;show dc o es ep ⟨k _ o (λz=>(hf _ z).2.1 rfl) ho,r⟩
 .refine (I.hok b u e).stay (λc v hc q=>k c v ?_ q) (λ_ q=>q) (λ_ _ q=>q) λ_ _ _ q=>q;rcases hc with z|z
  .rw [z];show nit b u e
  .exact nit c _ z
theorem av.turnedT {t':Nat}{fp:List Addr}{p:Addr}{o:HO}(I:av X pins σ H s)(hf:∀ b∈fp,cx X pins H b)(k:∀ b o,b∉fp->s.heap.get? b=some o->h'.get? b=some o)(hp:s.heap.objs.size<=p)(new:bF X.prog X.w (ar H p o) h' p o):av X pins σ (ar H p o) { s with heap:=h',toks:=t' }:=by
 have hn:H p=none:=I.hok.fresh hp;have nit:∀ b u,H b=some u->b∉fp:=λb u e z=>by rw[(hf b z).1] at e;cases e
 have npp:∀ b u,s.heap.get? b=some u->b≠p:=λb u e=>eS (dN (bZ e) hp);show I.step (g':=s.gens) (d':=s.drawn) (ch:=fp) (λb hb=>?_) (λb o _ _ hc e _=>k b o hc e) (λb o _ _ hc e _=>⟨o.slots,k b o hc e⟩) (λb o _ e n=>by rw[aR (npp b o e)];show n)
  (λb o hc e=>⟨o,k b o hc e⟩) (λb xs e=>by rw[aR (bV e hn)];show e) (λb u xs e=>by rw[aR (bV e hn)];show e) (λb ps e=>⟨#[],by rw[aR (bV e hn),e];simp⟩) (λm hm=>?_) (λb u e=>?_) I.bare
 .refine gn (hf b hb) λf0 f1 f2 f3 f4 f5=>?_;show⟨f3,f1,f4,f5⟩
 .refine fU hm λo es ep ho r=>?_;clear hm;show dc o es ep ⟨k _ o (λz=>(hf _ z).2.1 rfl) ho,r⟩
 .by_cases hb:b=p
  .subst hb;rw[aw] at e;cases e;show new
  .rw [aR hb] at e;show (I.hok b u e).stay (λc v hc q=>k c v ?_ q) (λc q=>by rw[aR (bV q hn)];show q) (λc xs q=>by rw[aR (bV q hn)];show q) λc _ _ q=>by rw[aR (bV q hn)];show q
   rcases hc with z|z
   .rw [z];show nit b u e
   .exact nit c _ z
end
def pf (K:Frag)(a b:Addr):It:=
 ⟨λi H=>∃ xs ys x y,aj K H a xs/\aj K H b ys/\xs[i]?=some x/\ys[i]?=some y,λi H v H'=>∃ x y p,v=.ref p/\H p=none/\H'=ar H p (.tup [x,y])/\(∀ xs,aj K H a xs->xs[i]?=some x)/\∀ ys,aj K H b ys->ys[i]?=some y,λi H=>∃ xs ys,aj K H a xs/\aj K H b ys/\(xs.length<=i\/ys.length<=i)⟩
theorem G7 {P:Program}{w:World}{K:Frag}{elts:List Expr}{x1:Nat}{pos:Pos}{z TI TO i1 i2 a b:Addr}(D:ZipApart z TI TO i1 i2 a b):
  iK P w K (.Tuple elts x1 pos) (pf K a b) [z,TI,TO,i1,i2] z (λi h=>IsZip h z TI TO .none/\IsPair h TI (.ref i1) (.ref i2)/\(∃ u v,IsPair h TO u v)/\h.IsListIter i1 a i/\h.IsListIter i2 b i) where
 mem:=by simp
 obj:=λi h st c hc=>by
  show dj st λhz hTI e92 e93 e94=>?_;clear st;obtain⟨u,v,hTO⟩:=e92;obtain⟨o1,e1,c1,d1⟩:=e93;obtain⟨o2,e2,c2,d2⟩:=e94;simp at hc;rcases hc with rfl|rfl|rfl|rfl|rfl
  .exact ⟨_,hz,λv z=>by have z':Data.fields _=Data.cell v:=z;cases z'⟩
  .exact ⟨_,hTI,λv z=>by have z':Data.seq _ _=Data.cell v:=z;cases z'⟩
  .exact ⟨_,hTO,λv z=>by have z':Data.seq _ _=Data.cell v:=z;cases z'⟩
  .exact ⟨o1,e1,λv z=>by rw[d1] at z;cases z⟩
  .exact ⟨o2,e2,λv z=>by rw[d2] at z;cases z⟩
 keep:=λi h h' st k=>by
  show dj st λhz hTI e95 h1 h2=>?_;clear st;obtain⟨u,v,hTO⟩:=e95;show⟨k z (by simp) _ hz,k TI (by simp) _ hTI,⟨u,v,k TO (by simp) _ hTO⟩,h1.at λo e=>k i1 (by simp) o e,h2.at λo e=>k i2 (by simp) o e⟩
 item:=by
  intro X hP hw hK hc i pins s σ H E I hf st hg;subst hP hw hK;show cZ hg λxs ys x y hqa hqb hx hy=>?_;clear hg;show bh (I.list hqa) λits rv p hz1=>?_;show bh (I.list hqb) λits2 rv2 p2 hz2=>?_;show ao (rv.get hx) λu hu ru=>?_;show ao (rv2.get hy) λu2 hu2 ru2=>?_;show dj st λhz hTI e96 h1 h2=>?_;clear st;obtain⟨c,d,hTO⟩:=e96;show wpAny_pyNext_zip_item D hz hTI hTO h1 h2 p.isList p2.isList (by simpa using hu) (by simpa using hu2) λh' a1 a2 a3 a4 a5 a6 a7=>?_;show⟨_,rfl,wpAny_letOwnedTupleGo_zip a1 λh'' b1 b2=>?_⟩;have nz:s.heap.objs.size≠z:=tV (bZ hz);have k2:∀ c o,c∉[z,TI,TO,i1,i2]->s.heap.get? c=some o->h''.get? c=some o:=λc o hc e=>by
   simp at hc;show b2.extBut _ _ hc.1 (a7 c o hc.1 hc.2.2.1 hc.2.2.2.1 hc.2.2.2.2 e)
  have I2:av X pins σ (ar H s.heap.objs.size (.tup [x,y])) { s with heap:=h'' }:=I.turnedT (t':=s.toks) hf k2 (aQ _)
   ⟨by show 2<=sizeLine;decide,[u,u2],.cons ru (.cons ru2 .nil),_,b2.extBut _ _ nz a5,rfl,_,rfl⟩
  show aM (.ref s.heap.objs.size) _ ⟨I2,rfl,⟨x,y,_,rfl,I.hok.fresh (aQ _),rfl,λxs' hq=>by rw[I.list_inj hq hqa];show hx,λys' hq=>by rw[I.list_inj hq hqb];show hy⟩,⟨b1,b2.extBut _ _ D.TIz (a7 _ _ D.TIz D.TITO D.TIi1 D.TIi2 hTI),⟨_,_,b2.extBut _ _ D.TOz a2⟩,a3.extBut b2.extBut D.i1z,a4.extBut b2.extBut D.i2z⟩,λc hc=>?_⟩;have hlt:∀ c∈[z,TI,TO,i1,i2],c<s.heap.objs.size:=λc hc=>by
   simp at hc;show ao h1 λo1 e1 _=>?_;clear h1;show ao h2 λo2 e2 _=>?_;clear h2;rcases hc with rfl|rfl|rfl|rfl|rfl
   .exact bZ hz
   .exact bZ hTI
   .exact bZ hTO
   .exact bZ e1
   .exact bZ e2
  rw[aR (eS (hlt c hc))];show (hf c hc).1
 done:=by
  intro X hP hw hK hc i pins s σ H E I hf st hg;subst hP hw hK;show cF hg λxs ys hqa hqb hx=>?_;clear hg;show bh (I.list hqa) λits rv p hz1=>?_;show bh (I.list hqb) λits2 rv2 p2 hz2=>?_;show dj st λhz hTI e97 h1 h2=>?_;clear st;obtain⟨c,d,hTO⟩:=e97;have l1:=rv.length;have l2:=rv2.length;show wpAny_pyNext_zip_end (I.ok.hd hc) D hz hTI hTO h1 h2 p.isList p2.isList ?_ λh' kk=>⟨rfl,I.turnedL (t':=s.toks) hf λc o hc e=>?_⟩
  .rcases hx with hx|hx
   .exact .inl (by simp;omega)
   .exact .inr (by simp;omega)
  .simp at hc;show kk c o hc.1 hc.2.2.1 hc.2.2.2.1 hc.2.2.2.2 e
 self:=λ_ _ _ _ _ st h=>wpAny_pyIter_zip st.1 h
section
variable {X:Cx}
def iZip (K:Frag)(ta:TA):TI:=λσ H R=>ta σ H λvs H1=>∃ a b,vs=[.ref a,.ref b]/\(∃ xs,aj K H1 a xs)/\(∃ ys,aj K H1 b ys)/\R (pf K a b) H1
theorem kD {elts:List Expr}{x1:Nat}{pt p pos:Pos}{a b:Expr}{ta:TA}(hg:Gl X "zip")(hm:X.mg "zip" = none)(ha:PA X [a,b] ta)(h:fw a=false:=by rfl)(h2:fw b=false:=by rfl):
  PI X (.Tuple elts x1 pt) (.Call (.Name "zip" p) [a,b] [] pos) (iZip X.K ta):=by
 intro pins s σ H R I hh;show Call_ (oK I hg hm boot_zip (wI (aX (ha pos pins s σ H _ I hh) λus s1 ⟨vs,H1,I1,r1,q1⟩=>?_) (by rw[hV h,hV h2]) (by rw[hV h2];rfl)));show eW q1 λc d e e98 e99 q=>?_;clear q1;obtain⟨xs,hq1⟩:=e98;obtain⟨ys,hq2⟩:=e99;subst e;cases r1 with
 | cons r rr=>
  cases rr with
  | cons r' rr=>
   cases rr;cases r;cases r';show bh (I1.list hq1) λits rv p1 hz1=>?_;show bh (I1.list hq2) λits2 rv2 p2 hz2=>?_;have lt1:c<s1.heap.objs.size:=by obtain⟨o,ho,_⟩:=p1.isList;show bZ ho
   have lt2:d<s1.heap.objs.size:=by obtain⟨o,ho,_⟩:=p2.isList;show bZ ho
   show call_zip_2 p1.isList p2.isList λh' a1 a2 a3 a4 a5 a6 a7=>wpAny_pyIter_zip (s:={ s1 with heap:=h' }) a1 ?_;show kB _ _ _ _ H1 ⟨rfl,I1.kept (t':=s1.toks) a7,G7 (zipApart_new lt1 lt2),⟨a1,a2,⟨_,_,a3⟩,a4,a5⟩,λb hb=>?_,q⟩;have hb':s1.heap.objs.size<=b:=by
    simp at hb;rcases hb with rfl|rfl|rfl|rfl|rfl
    .exact tZ _ _
    .exact tZ _ _
    .exact tZ _ _
    .exact aQ _
    .exact tZ _ _
   have:=(I1.fpOk (H':=H1) hb' (I1.hok.fresh hb'))
   show this
theorem Gb (hc:X.calm=true):jb X (.builtin "sum") (λxs H Q=>∃ (p:Addr) (ns:List Int),xs=[.ref p]/\aj X.K H p (ns.map V.int)/\Q (.int (preSum (λi=>ns.getD i 0) ns.length)) H):=by
 intro pins s σ H xs us Q I r h;show cF h λp ns e910 hq q=>?_;clear h;subst e910;show ao (rq r) λu e911 rx=>?_;obtain rfl:=e911;cases rx;show bh (I.list hq) λits rv pl hz=>?_;have hl:=rv.length;rw[aB] at hl;show call_sum_walkG (yv pl.isList ?_);have hne:p≠s.heap.objs.size:=λe=>by
  show cE pl λo n ho _=>?_;clear pl;show absurd (bZ ho) (by rw[e];show iR _)
 show wX s.heap.objs.size _ _ _ _ _ (λi=>ns.getD i 0) ⟨rfl,Walks.list (A:=X.A.in1) (I.ok.hd hc) _ p hne its.toArray,⟨⟨_,ij _ rfl,rfl,rfl⟩,pl.isList.at λo e=>d5 _ e⟩,?_,?_,λh' tk t' kp=>?_⟩
 .intro b hb;simp at hb;rcases hb with rfl|rfl
  .rw [sv];show wq _
  .rw [sv];show ao pl.isList λo ho _=>?_;show o9 (bZ ho)
 .intro i v hv;have hv:its[i]?=some v:=by simpa using hv
  have hi:i<ns.length:=by rw[hl];show (b_.mp hv).1
  obtain⟨u,hu,ru⟩:=rv.get (i:=i) (x:=.int ns[i]) (by rw[bj,aG hi];rfl);rw[hv] at hu;cases hu;obtain⟨t,rfl⟩:=ru;show⟨t,by simp[hi]⟩
 .rw [dS,<- hl];have f:=I.fpOk (H':=H) (aQ s.heap.objs.size) (I.hok.fresh (aQ _));show aM (.int _) H ⟨(I.kept (h':=s.heap.push { cls:=.type "list_iterator",data:=.fields #[.ref p,.int 0 0] }) (t':=s.toks) λb o e=>d5 _ e).turned (it:=s.heap.objs.size) (t':=tk) (λb o hb e=>kp b o (by simpa using hb) e) f.1 f.2.1 f.2.2.2.1 f.2.2.2.2.1 f.2.2.2.2.2,⟨t',rfl⟩,q⟩
end
section
variable {K:Frag}{a b D:Addr}{xs ys:List V}{g:TG}{tt:TT}{te:TE}{k:Nat}{fr:List (Str×Nat)}{σ:St}{H1:Hp}{Q:VK}
theorem xF (Pv:Nat->List V->Hp->Prop)(hlen:ys.length=xs.length)(h0:Pv 0 [] (ar H1 D (.lst [])))(hl:∀ i vs H,i<=xs.length->Pv i vs H->aj K H a xs/\aj K H b ys)(hs:∀ i x y p vs σ' H,i<xs.length->xs[i]?=some x->ys[i]?=some y->H p=none->Sh k (cy fr σ) σ'->Pv i vs H->gD g tt te D xs.length k (cy fr σ) Pv i (.ref p) σ' (ar H p (.tup [x,y])))(hd:∀ vs H,Pv xs.length vs H->Q (.ref D) H):
  eZ g tt te (pf K a b) D (dP k fr σ) H1 Q:=by
 show⟨Wv xs.length k (cy fr σ) Pv,⟨xs.length,by simp,fE _,sh0,[],h0⟩,?_⟩;intro i m σ' H2 e91;show cA e91 λe912 hi sh e913=>?_;clear e91;obtain rfl:=e912;obtain⟨vs,p⟩:=e913;obtain⟨q1,q2⟩:=hl i vs H2 hi p;by_cases hlt:i<xs.length
 .refine .inr ⟨⟨xs,ys,xs[i],ys[i]'(by omega),q1,q2,by simp[hlt],by simp[hlen,hlt]⟩,λx H3 y=>?_⟩;show cK y λu v pp e914 hp e915 e916=>?_;clear y;obtain rfl:=e914;obtain rfl:=e915;obtain⟨e1,e2⟩:=e916;show hs i u v pp vs σ' _ hlt (e1 _ q1) (e2 _ q2) hp sh p
 .have e:i=xs.length:=∅
  subst e;show .inl ⟨⟨xs,ys,q1,q2,.inl (aQ _)⟩,hd vs H2 p⟩
end
def nrm (a b:Int):Int×Int:=(a / (Int.gcd a b:Int),b / (Int.gcd a b:Int))
def rV (x:Int×Int):Prop:=0<x.2/\Int.gcd x.1 x.2=1
theorem emulR (a b p:Int):a*(b % p) % p=a*b % p:=by rw[Int.mul_emod,Int.emod_emod,<- Int.mul_emod]
theorem rP {a b:Int}(hb:0<b):0<(Int.gcd a b:Int):=by
 have:0<Int.gcd a b:=Cc a ∅;omega
theorem DC {a b:Int}:(nrm a b).1*(Int.gcd a b:Int)=a:=n_ (jj ..)
theorem zA {a b:Int}:(nrm a b).2*(Int.gcd a b:Int)=b:=n_ (ke ..)
theorem mI {a b:Int}(hb:0<b):0<(nrm a b).2:=by
 have h2:=@zA a b;have g0:=rP (a:=a) hb;rcases B5 0 (nrm a b).2 with h|h|h
 .exact h
 .rw [<- h,Int.zero_mul] at h2;omega
 .have:=Int.mul_neg_of_neg_of_pos h g0;omega
theorem DE {a b:Int}(hb:0<b):rV (nrm a b):=by
 show⟨mI hb,?_⟩;have h:=Int.gcd_mul_right (nrm a b).1 (Int.gcd a b:Int) (nrm a b).2;rw[DC,zA] at h;have g0:=rP (a:=a) hb;have:Int.gcd a b=Int.gcd (nrm a b).1 (nrm a b).2*Int.gcd a b:=by simpa using h
 have g1:0<Int.gcd a b:=∅
 show (Nat.eq_of_mul_eq_mul_right g1 ∅).symm
theorem Ij {x y:Int×Int}(hx:rV x)(hy:rV y)(h:x.1*y.2=y.1*x.2):x=y:=by
 obtain⟨x0,gx⟩:=hx;obtain⟨y0,gy⟩:=hy;have d1:x.2.natAbs ∣ y.2.natAbs:=by
  have c:Nat.Coprime x.2.natAbs x.1.natAbs:=by rw[Nat.coprime_comm];show gx
  show c.dvd_of_dvd_mul_left ?_;rw[<- j9,h,j9];show Nat.dvd_mul_left ..
 have d2:y.2.natAbs ∣ x.2.natAbs:=by
  have c:Nat.Coprime y.2.natAbs y.1.natAbs:=by rw[Nat.coprime_comm];show gy
  show c.dvd_of_dvd_mul_left ?_;rw[<- j9,<- h,j9];show Nat.dvd_mul_left ..
 have e:=Nat.dvd_antisymm d1 d2;have e2:x.2=y.2:=∅
 have e1:x.1=y.1:=by
  rw[e2] at h;show Int.eq_of_mul_eq_mul_right ∅ h
 show Prod.ext e1 e2
theorem FK (a:Int){g:Int}(hg:0<g)(hd:g ∣ a):(a / g).natAbs<=a.natAbs:=by
 obtain⟨k,rfl⟩:=hd;rw[Int.mul_ediv_cancel_left _ ∅,j9];show Nat.le_mul_of_pos_left _ ∅
def Bd (B:Nat)(x:Int×Int):Prop:=x.1.natAbs<=B/\x.2.natAbs<=B
def bc (p:Int)(x:Int×Int):Prop:=(p=0/\rV x)\/(0<p/\0<=x.1/\x.1<p/\x.2=1)
noncomputable def dX (p:Int)(x y:Int×Int):Int×Int:=if p=0 then nrm (x.1*y.2+y.1*x.2) (x.2*y.2) else ((x.1+y.1) % p,1)
noncomputable def je (p:Int)(x y:Int×Int):Int×Int:=if p=0 then nrm (x.1*y.2-y.1*x.2) (x.2*y.2) else ((x.1-y.1) % p,1)
noncomputable def cM (p:Int)(x y:Int×Int):Int×Int:=if p=0 then nrm (x.1*y.1) (x.2*y.2) else (x.1*y.1 % p,1)
noncomputable def de (p k:Int):Int×Int:=if p=0 then (k,1) else (k % p,1)
theorem bc.pos {p:Int}{x:Int×Int}(h:bc p x):0<x.2:=by
 rcases h with ⟨_,h⟩|⟨_,_,_,h⟩
 .exact h.1
 .omega
theorem zp {p a b:Int}(hp:p=0)(hb:0<b):bc p (nrm a b):=.inl ⟨hp,DE hb⟩
theorem xw {p a:Int}(hp:0<p):bc p (a % p,1):=.inr ⟨hp,gO _ ∅,gA _ hp,rfl⟩
theorem oU {p:Int}{x y:Int×Int}(h0:0<=p)(hx:bc p x)(hy:bc p y):bc p (dX p x y):=by
 unfold dX;split
 .rename_i h;show zp h (kN hx.pos hy.pos)
 .exact xw ∅
theorem Fu {p:Int}{x y:Int×Int}(h0:0<=p)(hx:bc p x)(hy:bc p y):bc p (je p x y):=by
 unfold je;split
 .rename_i h;show zp h (kN hx.pos hy.pos)
 .exact xw ∅
theorem fO {p:Int}{x y:Int×Int}(h0:0<=p)(hx:bc p x)(hy:bc p y):bc p (cM p x y):=by
 unfold cM;split
 .rename_i h;show zp h (kN hx.pos hy.pos)
 .exact xw ∅
theorem gJ {p k:Int}(h0:0<=p):bc p (de p k):=by
 unfold de;split
 .rename_i h;show .inl ⟨h,⟨by show (0:Int)<1;decide,by simp⟩⟩
 .exact xw ∅
theorem EJ (a b:Int):Int.gcd b (a % b)=Int.gcd a b:=by
 rw[Int.emod_def,Int.sub_eq_add_neg,<- Int.mul_neg,Int.gcd_add_mul_left_right,v_]
structure og (K:Frag)(x qual:Str)(st:Stmt)(f:Addr)(fd:FuncData)(T:Addr):Prop where
 ex:∃ (oc:Value) (od:Option Addr) (kV doc pm:Value) (an:Option Addr) (cdv ct:Value) (osl:Array (Option Value)),
  fd=PySem.W.fnOf x qual (jg st) (hJ st) (aZ st) (.ref T) kV doc pm an cdv ct/\K.lookup f=some ⟨oc,od,.func fd,osl⟩/\PySem.W.codeIn K cdv qual=true
section
theorem og.ok {x qual:Str}{st:Stmt}{f T:Addr}{fd:FuncData}{N ps:List Str}{k:Nat}{sp:Sp}(F:og K x qual st f fd T)(S:ag N ps (aZ st))(len:∀ vs H Q E,sp vs H Q E->vs.length=ps.length)(hbody:∀ (cdv:Value) (A:Around) (outer:List Env) (s:Shared) (H:Hp) (vs:List V) (Q:VK) (E:XK),bp k (A.deeper (envOfC qual (aZ st) s.heap.objs.size f cdv))->sp vs H Q E->
   ∃ t,iL (nE gY P w K mg base N qual (aZ st) f cdv A outer s H E).nox (hJ st) t/\t { nx:=λ_ H'=>Q .non H',rt:=Q } (start N vs) H):cu P w K mg base gY (k+1) f fd ps sp:=by
 show uV F.ex λoc od kV doc pm an cdv ct osl e91 lk hcd=>?_;obtain rfl:=e91;show jO lk hcd S len λA outer s H vs Q E hr hsp=>?_;show ao (hbody cdv A outer s H vs Q E hr hsp) λt h q=>?_;show⟨t,h.nox,q⟩
end
structure sL (P:Program)(w:World)(K:Frag)(mg:Str->Option Value)(base:Heap)(C:Addr)(m:Str)(k:Nat)(sp:Sp)(dvs:List V):Prop where
 ex:∃ (f:Addr) (fd:FuncData) (ps:List Str) (ds:List Value),cu P w K mg base gY k f fd ps sp/\iN K C m f/\bL K fd ps ds/\au dvs ds
theorem lI {X:Cx}{m:Str}{C:Addr}{k:Nat}{sp:Sp}{dvs:List V}{o e:Expr}{es:List Expr}{ta:TE}{t:TA}{apos pos:Pos}{pl:Sem Bool}(c:iz X.K C)(M:sL X.prog X.w X.K X.mg X.base C m k sp dvs)(hr:bp k X.A)(ho:PE X o ta)(ha:PA X (e::es) t)(h:fw e=false:=by rfl)(h2:es.all (λx=>!fw x)=true:=by rfl)(ht:eval (.Call (.Attribute o m apos) (e::es) [] pos) X.env=(do
   let ov <- eval o X.env
   standAt apos.atName
   let (f,first) <- holding [ov] (getMethod ov m pl)
   callWith pos f first (backTo pos (starEach (e::es) X.env)) (backToKw pos (keywordEach [] X.env))):=by rfl):
  PE X (.Call (.Attribute o m apos) (e::es) [] pos) (y6 C m sp dvs E0 ta t):=by
 show cZ M.ex λf fd ps ds F hm hb hd=>?_;show DK ho c hm F hr hb hd wU ha (hV h) (tL h2) ht
theorem FI {K:Frag}{fd:FuncData}{ps:List Str}{T:Addr}{oc:Value}{od:Option Addr}{osl:Array (Option Value)}{items:Array Value}{n:Nat}{ds:List Value}(lk:K.lookup T=some ⟨oc,od,.seq items n,osl⟩)(hd:fd.defaults=.ref T)(h:∀ us:List Value,(us++ds).length=ps.length->∃ k,bindArgs fd ⟨us,[]⟩=seqItems? fd.defaults >>= k/\k (some items)=pure (ps.zip (us++ds))):bL K fd ps ds:=λs us KX hl=>by
 show ao (h us hl) λk h1 h2=>?_;show .of_defaults hd (KX T _ lk) rfl h1 h2
def rNeN (K:Frag):R2:=λx y H Q=>rNe x y H Q\/sO K true x y H Q
theorem p6 {X:Cx}(hu:X.A.units+8<cLine):cm X (compareOp .NotEq) (rNeN X.K):=fW.or (CG hu)
theorem lS {X:Cx}:cm X (compareOp .IsNot) (λx y H Q=>∃ a b,x=.bl a/\y=.bl b/\Q (.bl (!(a == b))) H):=by
 intro pins s σ H x y v u Q I rx ry h;show cF h λa b e94 e95 q=>?_;clear h;subst e94;obtain rfl:=e95;cases rx;cases ry;show dG (a:=Value.bool (!(Value.bool a == Value.bool b))) ⟨.bl (!(a == b)),H,I,?_,q⟩;cases a <;> cases b <;> rfl
def rBits:V->List V->Hp->VK->Prop:=λx vs H Q=>∃ i:Int,x=.int i/\vs=[]/\Q (.int ((Builtin.Int.intBits i:Nat):Int)) H
theorem zw {X:Cx}:x8 X "int.bit_length" rBits:=by
 intro pins s σ H x vs v us Q I rx rv h;show bh h λi e91 e92 q=>?_;clear h;subst e91;obtain rfl:=e92;obtain⟨t,rfl⟩:=rx;have hus:=rv.zero;subst hus;show call_gives F.slot_int_bit_length (typeIs_int s i t) F.entry_int_bit_length (F.args_int_bit_length_1 _) (AutoIntG2.int_bit_length_int_0 i t) ⟨.int ((Builtin.Int.intBits i:Nat):Int),H,I.tok _,⟨_,rfl⟩,q⟩
theorem nc {i:Int}{n:Nat}(h:i.natAbs<2 ^ n):Builtin.Int.intBits i<=n:=by
 unfold Builtin.Int.intBits;split
 .exact fE _
 .rename_i h0
  have h1:i.natAbs≠0:=by
   intro e;show h0 (by simp[Int.natAbs_eq_zero.mp e])
  show (Nat.log2_lt h1).mpr h
def t_ (K:Frag)(a:Addr):It:=
 ⟨λi H=>∃ xs x,aj K H a xs/\xs[i]?=some x,λi H v H'=>∃ x p,v=.ref p/\H p=none/\H'=ar H p (.tup [.int i,x])/\(∀ xs,aj K H a xs->xs[i]?=some x),λi H=>∃ xs,aj K H a xs/\xs.length<=i⟩
theorem G6 {P:Program}{w:World}{K:Frag}{elts:List Expr}{x1:Nat}{pos:Pos}{e i1 a:Addr}(hne:e≠i1):
  iK P w K (.Tuple elts x1 pos) (t_ K a) [e,i1] e (λi h=>(∃ old,IsEnum h e i1 (i:Int) old)/\h.IsListIter i1 a i) where
 mem:=by simp
 obj:=λi h st c hc=>by
  obtain⟨⟨old,hz⟩,⟨o1,e1,c1,d1⟩⟩:=st;simp at hc;rcases hc with rfl|rfl
  .exact ⟨_,hz,λv z=>by have z':Data.fields _=Data.cell v:=z;cases z'⟩
  .exact ⟨o1,e1,λv z=>by rw[d1] at z;cases z⟩
 keep:=λi h h' st k=>by
  obtain⟨⟨old,hz⟩,h1⟩:=st;show⟨⟨old,k e (by simp) _ hz⟩,h1.at λo e=>k i1 (by simp) o e⟩
 item:=by
  intro X hP hw hK hc i pins s σ H E I hf st hg;subst hP hw hK;show cE hg λxs x hqa hx=>?_;clear hg;show bh (I.list hqa) λits rv p hz1=>?_;show ao (rv.get hx) λu hu ru=>?_;obtain⟨⟨old,hz⟩,h1⟩:=st;show wpAny_pyNext_enum_item hz h1 p.isList (by simpa using hu) hne λh' a1 a2 a3 a4 a5=>?_;show⟨_,rfl,wpAny_letOwnedTupleGo_enum a1 λh'' b1 b2=>?_⟩;have nz:s.heap.objs.size≠e:=tV (bZ hz);have k2:∀ c o,c∉[e,i1]->s.heap.get? c=some o->h''.get? c=some o:=λc o hc q=>by
   simp at hc;show b2.extBut _ _ hc.1 (a5 c o hc.1 hc.2 q)
  have I2:av X pins σ (ar H s.heap.objs.size (.tup [.int i,x])) { s with heap:=h'',toks:=s.toks+1 }:=I.turnedT (t':=s.toks+1) hf k2 (aQ _)
   ⟨by show 2<=sizeLine;decide,[.int i s.toks,u],.cons ⟨_,rfl⟩ (.cons ru .nil),_,b2.extBut _ _ nz a3,rfl,_,rfl⟩
  show aM (.ref s.heap.objs.size) _ ⟨I2,rfl,⟨x,_,rfl,I.hok.fresh (aQ _),rfl,λxs' hq=>by rw[I.list_inj hq hqa];show hx⟩,⟨⟨x |> λ_=>u,by simpa using b1⟩,a2.extBut b2.extBut hne.symm⟩,λc hc=>?_⟩;have hlt:∀ c∈[e,i1],c<s.heap.objs.size:=λc hc=>by
   simp at hc;show ao h1 λo1 e1 _=>?_;clear h1;rcases hc with rfl|rfl
   .exact bZ hz
   .exact bZ e1
  rw[aR (eS (hlt c hc))];show (hf c hc).1
 done:=by
  intro X hP hw hK hc i pins s σ H E I hf st hg;subst hP hw hK;show ao hg λxs hqa hx=>?_;clear hg;show bh (I.list hqa) λits rv p hz1=>?_;obtain⟨⟨old,hz⟩,h1⟩:=st;have l1:=rv.length;show wpAny_pyNext_enum_end (I.ok.hd hc) hz h1 p.isList (by simp;omega) λh' kk=>⟨rfl,I.turnedL (t':=s.toks) hf λc o hc q=>?_⟩
  simp at hc;show kk c o hc.2 q
 self:=λ_ _ _ _ _ st h=>by
  obtain⟨⟨old,hz⟩,h1⟩:=st;show wpAny_pyIter_enum hz h
section
variable {X:Cx}
def iEnm (K:Frag)(ta:TA):TI:=λσ H R=>ta σ H λvs H1=>∃ a,vs=[.ref a]/\(∃ xs,aj K H1 a xs)/\R (t_ K a) H1
theorem vg {elts:List Expr}{x1:Nat}{pt p pos:Pos}{a:Expr}{ta:TA}(hg:Gl X "enumerate")(hm:X.mg "enumerate" = none)(ha:PA X [a] ta)(h:fw a=false:=by rfl):
  PI X (.Tuple elts x1 pt) (.Call (.Name "enumerate" p) [a] [] pos) (iEnm X.K ta):=by
 intro pins s σ H R I hh;show Call_ (oK I hg hm boot_enumerate (wI (aX (ha pos pins s σ H _ I hh) λus s1 ⟨vs,H1,I1,r1,q1⟩=>?_) (by rw[hV h]) ⇑1));show bh q1 λc e e93 q=>?_;clear q1;obtain⟨xs,hq1⟩:=e93;subst e;cases r1 with
 | cons r rr=>
   cases rr;cases r;show bh (I1.list hq1) λits rv p1 hz1=>?_;show call_enumerate_list p1.isList λh' a1 a2 a3 a4=>wpAny_pyIter_enum (s:={ s1 with heap:=h' }) a1 ?_;show kB _ _ _ _ H1 ⟨rfl,I1.kept (t':=s1.toks) a4,G6 (Nat.succ_ne_self _),⟨⟨_,a1⟩,a2⟩,λb hb=>?_,q⟩;have hb':s1.heap.objs.size<=b:=by
    simp at hb;rcases hb with rfl|rfl
    .exact tZ _ _
    .exact aQ _
   have:=(I1.fpOk (H':=H1) hb' (I1.hok.fresh hb'))
   show this
end
section
variable {K:Frag}{a b D:Addr}{xs ys:List V}{g:TG}{tt:TT}{te:TE}{k:Nat}{fr:List (Str×Nat)}{σ:St}{H1:Hp}{Q:VK}
theorem xt {tb:TS}{Dn:cO}{σ:St}{H:Hp}(Pv:Nat->St->Hp->Prop)(h0:Pv 0 σ H)(hl:∀ i σ H,i<=xs.length->Pv i σ H->aj K H a xs)(hs:∀ (i:Nat) x p σ H,xs[i]?=some x->H p=none->Pv i σ H->g (.ref p) σ (ar H p (.tup [.int i,x])) λσ2 H2=>tb { Dn with nx:=Pv (i+1),ct:=Pv (i+1),bk:=Dn.nx } σ2 H2)(hd:∀ σ H,Pv xs.length σ H->Dn.nx σ H):
  ∃ W:Nat->Nat->St->Hp->Prop,(∃ m,W 0 m σ H)/\∀ i m σ H,W i m σ H->
   ((t_ K a).stop i H/\Dn.nx σ H)\/((t_ K a).go i H/\∃ N:St->Hp->Prop,(∀ σ' H',N σ' H'->∃ m',m'<m/\W (i+1) m' σ' H')/\∀ x H',(t_ K a).yld i H x H'->g x σ H' λσ2 H2=>tb { Dn with nx:=N,ct:=N,bk:=Dn.nx } σ2 H2):=by
 show⟨λi m σ H=>m=xs.length-i/\i<=xs.length/\Pv i σ H,⟨xs.length,by simp,fE _,h0⟩,?_⟩;intro i m σ H e91;show bC e91 λe94 hi p=>?_;clear e91;obtain rfl:=e94;have q:=hl i σ H hi p;by_cases hlt:i<xs.length
 .refine .inr ⟨⟨xs,xs[i],q,by simp[hlt]⟩,Pv (i+1),λσ' H' p'=>⟨xs.length-(i+1),∅,rfl,hlt,p'⟩,λx H' y=>?_⟩;show eW y λu pp e95 hp e96 e1=>?_;clear y;obtain rfl:=e95;obtain rfl:=e96;show hs i u pp σ _ (e1 xs q) hp p
 .have e:i=xs.length:=∅
  subst e;show .inl ⟨⟨xs,q,aQ _⟩,hd σ H p⟩
theorem Gc (Pv:Nat->List V->Hp->Prop)(h0:Pv 0 [] (ar H1 D (.lst [])))(hl:∀ i vs H,i<=xs.length->Pv i vs H->aj K H a xs)(hs:∀ (i:Nat) x p vs σ' H,i<xs.length->xs[i]?=some x->H p=none->Sh k (cy fr σ) σ'->Pv i vs H->gD g tt te D xs.length k (cy fr σ) Pv i (.ref p) σ' (ar H p (.tup [.int i,x])))(hd:∀ vs H,Pv xs.length vs H->Q (.ref D) H):
  eZ g tt te (t_ K a) D (dP k fr σ) H1 Q:=by
 show⟨Wv xs.length k (cy fr σ) Pv,⟨xs.length,by simp,fE _,sh0,[],h0⟩,?_⟩;intro i m σ' H2 e92;show cA e92 λe97 hi sh e98=>?_;clear e92;obtain rfl:=e97;obtain⟨vs,p⟩:=e98;have q1:=hl i vs H2 hi p;by_cases hlt:i<xs.length
 .refine .inr ⟨⟨xs,xs[i],q1,by simp[hlt]⟩,λx H3 y=>?_⟩;show eW y λu pp e99 hp e910 e1=>?_;clear y;obtain rfl:=e99;obtain rfl:=e910;show hs i u pp vs σ' _ hlt (e1 _ q1) hp sh p
 .have e:i=xs.length:=∅
  subst e;show .inl ⟨⟨xs,q1,aQ _⟩,hd vs H2 p⟩
end
end L2
namespace L2
open PySem PySem.Spec PyProof.Rows PySem.W
structure Ka (B:Heap)(fr:List Env)(e:Addr)(cls c0 fl:Value)(h:Heap):Prop where
 st:B.StaysIn h
 nw:B.get? e=none
 ff:h.FunFrames B fr
 ob:∃ (o:Obj) (vs:Array Value) (T:Addr) (oT:Obj) (us:Array Value),h.get? e=some o/\o.cls=cls/\o.data=.fields vs/\vs[2]?=some c0/\vs[1]?=↥T/\B.get? T=none/\T≠e/\h.get? T=some oT/\oT.data=.fields us/\us[3]?=some fl
section
variable {M:Model}{A:Around}{E:Value->Shared->Prop}{s:Shared}{B:Heap}{fr:List Env}{e L:Addr}{cls c0:Value}{Q:Unit->Shared->Prop}
end
structure Kk (P:Program)(w:World)(outer:List Env)(H:Hp)(s:Shared)(a:Addr)(cls c0:Value)(H':Hp)(s':Shared):Prop where
 os:s'.os=s.os
 bare:AllBare s'.gens
 hok:eC P w H' s'.heap
 un:Un (frs outer) [] H H' s.heap s'.heap
 fly:∃ B,Ka B outer a cls c0 .none s'.heap/\(∀ b o,s.heap.get? b=some o->b∉frs outer->∃ o',B.get? b=some o')/\∀ b u,H' b=some u->∃ o',B.get? b=some o'
 new:∀ o,s.heap.get? a≠some o
 free:H' a=none
def yy (P:Program)(w:World):iS:=λouter H s E e s'=>∃ (a:Addr) (cls c0:Value) (H':Hp),e=.ref a/\Kk P w outer H s a cls c0 H' s'/\E cls none H'/\(c0=.none\/E cls (some 0) H')
section
variable {N:List Str}{qual:Str}{scope:Scope}{f:Addr}{cd:Value}{A:Around}{outer:List Env}{s:Shared}{H:Hp}{E:XK}{pins:List (Addr×Obj)}{σ:St}{H1:Hp}{s1 s2:Shared}{e:Addr}{cls:Value}
end
def Kq (t:TA)(R:Hp->Prop):TS:=λ_ σ H=>t σ H λvs H1=>vs.length<=1000/\R H1
section
variable {X:Cx}{x:Str}{C:Addr}{bm bmN:List Value}{B Bn newId nid initId inN:String}{np cpos pos:Pos}{e₀:Expr}{rest:List Expr}{t:TA}{R:Hp->Prop}
end
section
end
section
variable {X:Cx}{pins:List (Addr×Obj)}{σ:St}{H H':Hp}{s s':Shared}{a:Addr}{cls:Value}
end
section
variable {M:Model}{A:Around}{E:Value->Shared->Prop}
variable {nm q:Str}{C N:Addr}{bs bm:List Value}{hdct:Bool}{sn:List Str}{sub:List Value}{ab:Bool}{col:Option Bool}{dd:Option Addr}{k0 k1 k2 k3 k5:Option Value}{newId:String}
variable {nm' q':Str}{C' N':Addr}{bs' bm':List Value}{hdct':Bool}{sn':List Str}{sub':List Value}{ab':Bool}{col':Option Bool}{dd':Option Addr}{j0 j1 j2 j3 j5:Option Value}{newId':String}
end
noncomputable abbrev Cx.pnx (X:Cx)(pins:List (Addr×Obj)):Cx:={ X with pn:=X.pn++pins }
noncomputable abbrev Cx.hnd (X:Cx)(pins:List (Addr×Obj))(a:Addr):Cx:={ X with pn:=X.pn++pins,A:=X.A.mark (↥a),calm:=false,xe:=λ_ _=>False }
section
variable {X:Cx}{pins pins':List (Addr×Obj)}{σ:St}{H:Hp}{s:Shared}{a:Addr}
theorem av.pnx (I:av X pins σ H s):av (X.pnx pins) [] σ H s:=
 ⟨⟨I.ok.mod,I.ok.kind,I.ok.glob,I.ok.blt,I.ok.above,I.ok.inj,I.ok.has,I.ok.cab,I.ok.hd,I.ok.frames,I.ok.stk,I.ok.exf,I.ok.bs,I.ok.bsz,I.ok.noex,I.ok.exfs,I.ok.funs,I.ok.frf,I.ok.top⟩,I.os,I.bare,I.base,I.loc,I.cell,I.free,I.freeC,λp hp=>I.pin p (by simpa using hp),I.hok,I.len⟩
theorem av.hnd (I:av X pins σ H s)(a:Addr):av (X.hnd pins a) [] σ H s:=
 ⟨⟨I.ok.mod,I.ok.kind,I.ok.glob,I.ok.blt,I.ok.above,I.ok.inj,I.ok.has,I.ok.cab,(λz=>nomatch z),I.ok.frames,I.ok.stk,I.ok.exf,I.ok.bs,I.ok.bsz,I.ok.noex,I.ok.exfs,I.ok.funs,I.ok.frf,I.ok.top⟩,I.os,I.bare,I.base,I.loc,I.cell,I.free,I.freeC,λp hp=>I.pin p (by simpa using hp),I.hok,I.len⟩
end
def isExc (a:Addr)(cls:Value):HO:=.ext λh=>∃ ob,h.get? a=some ob/\ob.cls=cls
def hEnds (X:Cx)(D:cO):cO:={ nx:=λ_ H=>D.nx (List.replicate X.N.length none) H,rt:=D.rt,bk:=λ_ H=>D.bk (List.replicate X.N.length none) H,ct:=λ_ H=>D.ct (List.replicate X.N.length none) H }
def tTry (X:Cx)(E':XK)(tb:TS)(i:Nat)(th:TS):TS:=λD σ H=>tb D σ H/\∀ (cls:Value) (H':Hp) (a:Addr) (σ':St),E' cls none H'->H' a=none->σ'.length=X.N.length->th (hEnds X D) (σ'.set i (↥a)) (ar H' a (isExc a cls))
section
variable {X:Cx}{x n:Str}{np hpos pos:Pos}{body suite:List Stmt}{b₀:Stmt}{E':XK}{tb th:TS}{i:Nat}{D:Addr}{bmD:List Value}{newD:String}
end
end L2
namespace L2
open PySem PySem.Spec PySem.Calls PyProof.Rows PySem.W Builtin Builtin.ObjectAttr Builtin.Getset_descriptor
structure Cn (K:Frag)(C:Addr):Prop where
 ga:findIn K (.ref C) "__getattribute__" = some (some (.builtin "BaseException.__getattribute__"))
 gt:findIn K (.ref C) "__getattr__" = some none
 cl:findIn K (.ref C) "__class__" = some (some (.builtin "object.__class__"))
 so:mroIn K C (.type "object")=some true
 sb:mroIn K C (.type "BaseException")=some true
section
variable {prog:Program}{w:World}{A:Around}{E:Value->Shared->Prop}{h:Heap}{g:Array GenState}{d:Drawn}{t:Nat}{os:OsState}{a C:Addr}{ox:Obj}{K:Frag}
end
end L2
namespace L2
open PySem PySem.Spec PyProof.Rows PySem.W
section
variable {X:Cx}
end
structure Ko (P:Program)(w:World)(K:Frag)(mg:Str->Option Value)(base:Heap)(x:Str)(k:Nat)(sp:Sp):Prop where
 ex:∃ (f:Addr) (fd:FuncData) (ps:List Str),cu P w K mg base (yy P w) k f fd ps sp/\mg x=↥f/\PySem.W.keepIn K (.ref f)=true/\bL K fd ps []
structure FU (P:Program)(w:World)(K:Frag)(mg:Str->Option Value)(base:Heap)(C:Addr)(m:Str)(k:Nat)(sp:Sp):Prop where
 ex:∃ (f:Addr) (fd:FuncData) (ps:List Str),cu P w K mg base (yy P w) k f fd ps sp/\iN K C m f/\bL K fd ps []
structure FV (P:Program)(w:World)(K:Frag)(mg:Str->Option Value)(base:Heap)(x:Str)(C:Addr)(k:Nat)(sp:Sp):Prop where
 ex:∃ (f:Addr) (fd:FuncData) (ps:List Str),cu P w K mg base (yy P w) k f fd ps sp/\Mk K C f/\mg x=↥C/\bL K fd ps []
section
variable {X:Cx}{x m:Str}{k:Nat}{sp:Sp}{e o:Expr}{es:List Expr}{ta:TE}{t:TA}{p pos apos:Pos}{E:XK}{C:Addr}
end
theorem Ct {X:Cx}{pins:List (Addr×Obj)}{a:Addr}:(X.hnd pins a).K=X.K:=rfl
theorem Cr {X:Cx}{pins:List (Addr×Obj)}:(X.pnx pins).K=X.K:=rfl
structure FW (P:Program)(w:World)(K:Frag)(mg:Str->Option Value)(base:Heap)(C:Addr)(m:Str)(k:Nat)(sp:Sp)(dvs:List V):Prop where
 ex:∃ (f:Addr) (fd:FuncData) (ps:List Str) (ds:List Value),cu P w K mg base (yy P w) k f fd ps sp/\iN K C m f/\bL K fd ps ds/\au dvs ds
section
variable {N:List Str}{qual:Str}{scope:Scope}{f:Addr}{cd:Value}{A:Around}{outer:List Env}{s:Shared}{H:Hp}{E:XK}
end
end L2
namespace L2
open PySem PySem.Spec PyProof.Rows
structure oY (k:Nat)(A:Around):Prop where
 dp:A.depth+3*k+205<recursionLimit
 un:A.units+16*k+200<cLine
theorem bp.mark {k:Nat}{A:Around}(r:bp k A)(v:Option Value):oY k (A.mark v):=⟨r.dp,r.un⟩
structure wK (P:Program)(w:World)(K:Frag)(mg:Str->Option Value)(base:Heap)(CX:iS)(k:Nat)(f:Addr)(fd:FuncData)(ps:List Str)(sp:Sp):Prop where
 len:∀ vs H Q E,sp vs H Q E->vs.length=ps.length
 run:∀ (A:Around) (outer:List Env) (s:Shared) (H:Hp) (args:Args) (us:List Value) (vs:List V) (Q:VK) (E:XK),oY k A->gW P w K mg base A outer s H->BindsTo s fd args (ps.zip us)->au vs us->sp vs H Q E->
  codeAny (model P w) A (.call (.ref f) args) (CR CX outer P w H s Q E) s
section
structure Km (P:Program)(w:World)(K:Frag)(mg:Str->Option Value)(base:Heap)(x:Str)(k:Nat)(sp:Sp):Prop where
 ex:∃ (f:Addr) (fd:FuncData) (ps:List Str),wK P w K mg base gY k f fd ps sp/\mg x=↥f/\PySem.W.keepIn K (.ref f)=true/\bL K fd ps []
end
section
variable {X:Cx}{CX:iS}{k:Nat}{f C:Addr}{fd:FuncData}{ps:List Str}{sp:Sp}{dvs:List V}{ds:List Value}{E:XK}{x m:Str}{p pos apos:Pos}{e o:Expr}{es:List Expr}{ta:TE}{t:TA}
end
section
variable {X:Cx}
def rNeTs (K:Frag):R2:=λx y H Q=>rNe x y H Q\/sO K true x y H Q
theorem lT (hu:X.A.units+8<cLine):cm X (compareOp .NotEq) (rNeTs X.K):=fW.or (CG hu)
end
section
variable {prog:Program}{w:World}{A:Around}{s:Shared}{E:Value->Shared->Prop}
end
section
variable {X:Cx}
end
def Kj (K:Frag)(a:Addr)(n:Nat):It:=
 ⟨λi H=>∃ xs,aj K H a xs/\xs.length=n/\i<n,λi H v H'=>H'=H/\∀ xs,aj K H a xs->xs[n-1-i]?=some v,λi H=>∃ xs,aj K H a xs/\xs.length=n/\i=n⟩
section
variable {X:Cx}
def iRvl (K:Frag)(ta:TA):TI:=λσ H R=>ta σ H λvs H1=>∃ a xs,vs=[.ref a]/\aj K H1 a xs/\R (Kj K a xs.length) H1
end
section
variable {K:Frag}{a:Addr}{xs:List V}{g:TG}
end
section
variable {prog:Program}{w:World}{A:Around}{E:Value->Shared->Prop}{s:Shared}
end
section
variable {prog:Program}{w:World}{A:Around}{s:Shared}{E:Value->Shared->Prop}
structure KA (items:Array Value)(lo:Addr)(h:Heap)(as:List Addr):Prop where
 rise:as.Pairwise (· < ·)
 above:∀ a∈as,lo<a
 pairs:∀ (j:Nat) (a:Addr),as[j]?=some a->∃ t x,items[j]?=some x/\h.get? a=some { cls:=.type "tuple",data:=.seq #[.int j t,x] }
end
section
variable {prog:Program}{w:World}{A:Around}{s:Shared}{R:Result->Shared->Prop}{items:Array Value}
end
section
variable {prog:Program}{w:World}{A:Around}{s:Shared}{E:Value->Shared->Prop}
end
section
variable {X:Cx}{pins:List (Addr×Obj)}{σ:St}
def tLE (K:Frag)(ta:TA):TE:=λσ H Q=>ta σ H λvs H1=>∃ a xs,vs=[.ref a]/\aj K H1 a xs/\∀ (l:Addr) (ps:List Addr) (H':Hp),aa H1 H'->H1 l=none->(∀ q∈ps,q≠l)->H' l=some (.lst (ps.map V.ref))->ps.length=xs.length->
 (∀ (i:Nat) q x,ps[i]?=some q->xs[i]?=some x->H' q=some (.tup [.int i,x]))->Q (.ref l) H'
end
section
variable {X:Cx}
def gSl0 (to:TE)(th:TO):TG:=λv σ H Q=>to σ H λx H1=>th σ H1 λu H2=>∃ l b xs ys,∃ c:Int,x=.ref l/\v=.ref b/\u=some c/\H2 l=some (.lst xs)/\H2 b=some (.lst ys)/\l≠b/\0<=c/\c<=xs.length/\xs.length+ys.length<=sizeLine/\Q σ (ar H2 l (.lst (ys++xs.drop c.toNat)))
end
section
variable {K:Frag}{a b D:Addr}{xs ys:List V}{g:TG}{tt:TT}{te:TE}{k:Nat}{fr:List (Str×Nat)}{σ:St}{H1:Hp}{Q:VK}
end
theorem DI {X:Cx}(K:Frag)(hK:X.K=K)(hu:X.A.units+8<cLine):cm X (compareOp .NotEq) (rNeN K):=hK ▸ p6 hu
def Bt (n:Nat)(z:Int):Prop:=z.natAbs<2 ^ n
theorem Bt.le {n m:Nat}{z:Int}(h:Bt n z)(hm:n<=m):Bt m z:=dN h (wH ⇑0 hm)
theorem Bt.mul {n m:Nat}{x y:Int}(h:Bt n x)(h':Bt m y):Bt (n+m) (x*y):=by
 unfold Bt at *;rw[j9,tU];show Nat.mul_lt_mul'' h h'
theorem Bt.add {n:Nat}{x y:Int}(h:Bt n x)(h':Bt n y):Bt (n+1) (x+y):=by
 unfold Bt at *;rw[wg];omega
theorem Bt.sub {n:Nat}{x y:Int}(h:Bt n x)(h':Bt n y):Bt (n+1) (x-y):=by
 unfold Bt at *;rw[wg];omega
theorem Bt.neg {n:Nat}{x:Int}(h:Bt n x):Bt n (-x):=by unfold Bt at *;rw[Int.natAbs_neg];show h
theorem Bt.abs_le {n:Nat}{x y:Int}(h:Bt n x)(hy:y.natAbs<=x.natAbs):Bt n y:=jm hy h
theorem Bt.quo {n:Nat}{x y:Int}(h:Bt n x)(hd:y ∣ x):Bt n (x / y):=h.abs_le (by
 rw[Int.natAbs_ediv,if_pos (.inr (.inr hd))];show Nat.div_le_self _ _)
theorem xE (n:Nat):Bt n 0:=nZ n
theorem dF {n:Nat}{z:Int}(hn:7<=n)(h:z.natAbs<128):Bt n z:=dN h (wH (show 0<2 by decide) hn)
theorem Bt.bits {n:Nat}{z:Int}(h:Bt n z):Builtin.Int.intBits z<=n:=nc h
theorem Bt.ok {n m:Nat}{x y:Int}(h:Bt n x)(h':Bt m y)(hs:n+m<=134217728):IntMulOk x y:=mulOk_of_bits h.bits h'.bits hs
theorem jz {X:Cx}(ht:X.prog.given.tree=none)(hd:X.A.depth+Builtin.pylongFrames<recursionLimit):cm X (binaryOp .FloorDiv) (rI (λ_ j=>j≠0) λi j=>.int (i.fdiv j)):=by
 intro pins s σ H x y v u Q I rx ry h;show eW h λi j e91 e92 hc q=>?_;clear h;subst e91;obtain rfl:=e92;obtain⟨t,rfl⟩:=rx;obtain⟨t',rfl⟩:=ry;show floordiv_int hc ⟨.int (i.fdiv j),H,I.tok _,⟨_,rfl⟩,q⟩ (.inr (I.long ht hd))
theorem jA {k:Nat}{A:Around}(hr:bp k A):A.depth+Builtin.pylongFrames<recursionLimit:=by
 have:=hr.dp;have e:Builtin.pylongFrames<=200:=⇑0
 omega
theorem kF {i j:Int}(h:0<j):i.fdiv j=i / j:=sI i ∅
theorem Gn {a b c d x y:Int}(h:a*d-b*c=1\/a*d-b*c=-1):Int.gcd (a*x+b*y) (c*x+d*y)=Int.gcd x y:=by
 apply Nat.dvd_antisymm
 .have h1:((Int.gcd (a*x+b*y) (c*x+d*y):Nat):Int) ∣ a*x+b*y:=jj ..;have h2:((Int.gcd (a*x+b*y) (c*x+d*y):Nat):Int) ∣ c*x+d*y:=ke ..;generalize Int.gcd (a*x+b*y) (c*x+d*y)=g at *;obtain⟨u,hu⟩:=h1;obtain⟨v,hv⟩:=h2;have dx:(g:Int) ∣ x:=by
   rcases h with h|h
   .exact ⟨d*u-b*v,by grind⟩
   .exact ⟨b*v-d*u,by grind⟩
  have dy:(g:Int) ∣ y:=by
   rcases h with h|h
   .exact ⟨a*v-c*u,by grind⟩
   .exact ⟨c*u-a*v,by grind⟩
  show Int.ofNat_dvd.mp (Int.dvd_coe_gcd dx dy)
 .have h1:((Int.gcd x y:Nat):Int) ∣ x:=jj ..;have h2:((Int.gcd x y:Nat):Int) ∣ y:=ke ..;generalize Int.gcd x y=g at *;obtain⟨u,hu⟩:=h1;obtain⟨v,hv⟩:=h2;show Int.ofNat_dvd.mp (Int.dvd_coe_gcd ⟨a*u+b*v,by grind⟩ ⟨c*u+d*v,by grind⟩)
structure eo (x0 y0 a b c d x y:Int):Prop where
 hx:a*x0+b*y0=x
 hy:c*x0+d*y0=y
 sg:∃ e:Int,(e=1\/e=-1)/\a*d-b*c=e/\0<=e*a/\0<=-(e*b)/\0<=-(e*c)/\0<=e*d
 x64:18446744073709551616<=x
 yn:0<=y
 yx:y<=x
 ab:a.natAbs<4611686018427387904/\b.natAbs<4611686018427387904
 pr:(a=1/\b=0/\c=0/\d=1)\/(b≠0/\x+y+18446744073709551616<=x0+y0)
theorem Ff {u x m:Int}(hu:0<=u)(hx:18446744073709551616<=x)(h:u*x<=m)(hm:m<85070591730234615865843651857942052864):u<4611686018427387904:=by
 apply jo;intro z;have h1:(4611686018427387904:Int)*18446744073709551616<=u*x:=Int.mul_le_mul ∅ hx ∅ hu;omega
theorem eo.cd {x0 y0 a b c d x y:Int}(h:eo x0 y0 a b c d x y)(h0:x0<85070591730234615865843651857942052864)(h1:y0<=x0):c.natAbs<4611686018427387904/\d.natAbs<4611686018427387904:=by
 show uP h.sg λe he det sa sb sc sd=>?_;have ee:e*e=1:=by rcases he with rfl|rfl <;> rfl
 have ex:(e*d)*x+(-(e*b))*y=x0:=by
  rw[<- h.hx,<- h.hy];have:(e*d)*(a*x0+b*y0)+(-(e*b))*(c*x0+d*y0)=e*(a*d-b*c)*x0:=by grind
  rw[this,det,ee,Int.one_mul]
 have ey:(-(e*c))*x+(e*a)*y=y0:=by
  rw[<- h.hx,<- h.hy];have:(-(e*c))*(a*x0+b*y0)+(e*a)*(c*x0+d*y0)=e*(a*d-b*c)*y0:=by grind
  rw[this,det,ee,Int.one_mul]
 have p1:0<=(-(e*b))*y:=su sb h.yn;have p2:0<=(e*a)*y:=su sa h.yn;have q1:=Ff sd h.x64 (show (e*d)*x<=x0 by omega) h0;have q2:=Ff sc h.x64 (show (-(e*c))*x<=x0 by omega) h0;constructor
 .rcases he with rfl|rfl <;> omega
 .rcases he with rfl|rfl <;> omega
theorem eo.next {x0 y0 a b c d x y:Int}(h:eo x0 y0 a b c d x y)(h0:x0<85070591730234615865843651857942052864)(h1:y0<=x0)(hy:18446744073709551616<=y):eo x0 y0 c d (a-x / y*c) (b-x / y*d) y (x-x / y*y):=by
 have cd:=h.cd h0 h1;show uP h.sg λe he det sa sb sc sd=>?_;have m0:0<=x / y:=yf (by have:=h.x64;omega) ∅;have m1:1<=x / y:=by
  have:=h.yx;show (Int.le_ediv_iff_mul_le ∅).mpr ∅
 have hr:x-x / y*y=x % y:=by
  have:=BV x y;rw[rY y] at this;omega
 have r0:=gO x (show y≠0 by omega);have r1:=gA x (show 0<y by omega);have e1:=h.hx;have e2:=h.hy;generalize hq:x / y=q at *;have qy:y<=q*y:=by
  have:=Ck m1 (show 0<=y by omega);omega
 show⟨h.hy,by rw[<- e1,<- e2];grind,⟨-e,?_,by grind,by grind,by grind,?_,?_⟩,hy,∅,∅,cd,.inr ⟨?_,?_⟩⟩
 .rcases he with rfl|rfl <;> simp
 .have p:=su m0 sc;have:-(-e*(a-q*c))=e*a+q * -(e*c):=by grind
  omega
 .have p:=su m0 sd;have:-e*(b-q*d)=-(e*b)+q*(e*d):=by grind
  omega
 .rcases h.pr with ⟨_,_,_,rfl⟩|⟨hb,_⟩
  .decide
  .intro z;subst z;have hbc:-(b*c)=e:=by rw[<- det];grind
   have hc1:c.natAbs=1:=by
    have:b.natAbs*c.natAbs=1:=by rw[<- j9];rcases he with rfl|rfl <;> omega
    show Nat.eq_one_of_mul_eq_one_left this
   have e2':c*x0=y:=by rw[<- e2];grind
   have hc:c=1:=by
    rcases (show c=1\/c=-1 by omega) with z|z
    .exact z
    .subst z;have:=h.x64;have:=h.yx;omega
   subst hc;rcases h.pr with ⟨_,hb0,_⟩|⟨_,hs⟩
   .exact hb hb0
   .have:=h.x64;have:=h.yx;have:=h.yn;omega
 .rcases h.pr with ⟨rfl,rfl,rfl,rfl⟩|⟨_,hs⟩
  .have g1:x0=x:=by rw[<- e1];grind
   have g2:y0=y:=by rw[<- e2];grind
   omega
  .omega
end L2
namespace L2
open PySem PySem.Spec PyProof.Rows PySem.W
def oD (X:Cx)(N:List Str)(qual:Str)(scope:Scope)(cl:List (Str×Addr))(f:Addr)(cd:Value)(A:Around)(s:Shared)(H:Hp):Cx where
 prog:=X.prog
 w:=X.w
 K:=X.K
 mg:=X.mg
 base:=X.base
 A:=A.deeper (envX qual scope s.heap.objs.size f cd cl)
 N:=N
 s₀:=s
 H₀:=H
 env:=envX qual scope s.heap.objs.size f cd cl
 outer:=X.stack
 stack:=envX qual scope s.heap.objs.size f cd cl::X.stack
 ex:=[]
 fn:=λ_=>false
 calm:=true
 pn:=[]
 xe:=λ_ _=>False
structure bY (X:Cx)(sc:Scope)(x:Str)(fr:List (Str×Nat)):Prop where
 kind:sc.kind=.function
 co:sc.isCoroutine=false
 gen:sc.isGenerator=false
 nocell:∀ y∈sc.names,y.2≠.cell
 par:sc.names.lookup x=some .local
 free:∀ y∈sc.names,y.2=.free->X.env.scope.names.lookup y.1=some .cell\/X.env.scope.names.lookup y.1=some .free
 cap:∀ y∈fr,sc.names.lookup y.1=some .free/\X.N[y.2]?=some y.1
abbrev kq (x:Str)(fr:List (Str×Nat)):List Str:=x::fr.map (·.1)
noncomputable abbrev oz (v:V)(fr:List (Str×Nat))(σ:St):St:=some v::fr.map λy=>(σ[y.2]?).getD none
section
variable {X:Cx}{pins:List (Addr×Obj)}{σ:St}{H:Hp}{s:Shared}{A:Around}{sc:Scope}{x:Str}{fr:List (Str×Nat)}{cl:List (Str×Addr)}{f:Addr}{cd:Value}{qual:Str}
theorem mQ {h':Heap}{v:V}{u:Value}(I:av X pins σ H s)(B:bY X sc x fr)(hfr:A.frames=some X.stack)(hd:A.handled=none)(hcl:∀ x c,cl.lookup x=some c->X.env.cells.lookup x=some c)(hcl2:∀ y∈sc.names,y.2=.free->∃ c,cl.lookup y.1=some c)(rv:aI v u)(hn:h'.Ns s.heap.objs.size (λy=>[(x,u)].reverse.lookup y))(hk:∀ b o,s.heap.get? b=some o->h'.get? b=some o):
  av (oD X (kq x fr) qual sc cl f cd A s H) [] (oz v fr σ) H { s with heap:=h',toks:=s.toks+1 }:=by
 have bsz:X.base.objs.size<=s.heap.objs.size:=cD I.ok.bsz I.sz;have noA:∀ b:Addr,b∉(oD X (kq x fr) qual sc cl f cd A s H).ex:=λb z=>absurd (show b∈([]:List Addr) from z) (by simp);show⟨⟨I.ok.mod,B.kind,rfl,rfl,aQ _,λy z c h1 h2=>I.ok.inj y z c (hcl y c h1) (hcl z c h2),λy hy=>?_,λy c hf _=>absurd (show false=true from hf) eU,λ_=>hd,Around.frames_deeper hfr,.inr ⟨rfl,rfl⟩,λb z=>absurd z (noA b),I.bs,bsz,λb _ _=>noA b,λb z=>absurd z (noA b),I.stack,I.stkFree,⟨_,_,rfl,B.gen,B.co,rfl,rfl⟩⟩,
  rfl,I.bare,Un.kept hk,⟨_,hn,λi y w h1 h2 h3=>?_⟩,λy c e=>?_,I.hok.fresh (aQ _),λy c e=>I.freeC y c (hcl y c e),λp hp=>absurd (show p∈([]:List (Addr×Obj)) from hp) (by simp),I.hok.kept hk,by show (oz v fr σ).length=(kq x fr).length;simp⟩
 .have hy:sc.names.lookup y=some .cell\/sc.names.lookup y=some .free:=hy;rcases hy with z|z
  .exact absurd rfl (B.nocell _ (jn z))
  .exact hcl2 _ (jn z) rfl
 .have h1:(kq x fr)[i]?=some y:=h1;cases i with
  | zero=>
   have e1:x=y:=gw h1;have e2:some v=some w:=gw h2;cases e2;subst e1;show⟨u,rv,.inl ⟨B.par,by simp⟩⟩
  | succ i=>
   rw[List.getElem?_cons_succ,bj] at h1 h2;cases e:fr[i]? with
   | none=>rw[e] at h1;cases h1
   | some z=>
    rw[e] at h1 h2;have hy1:z.1=y:=gw h1;have hy2:(σ[z.2]?).getD none=some w:=gw h2;obtain⟨c1,c2⟩:=B.cap z (aY e);rw[hy1] at c1 c2;have hs:σ[z.2]?=some (some w):=by
     cases e2:σ[z.2]? with
     | none=>rw[e2] at hy2;cases hy2
     | some o=>rw[e2] at hy2;cases o with
      | none=>cases hy2
      | some w=>cases hy2;rfl
    show ao I.loc λm hm hl=>?_;have hfree:=B.free _ (jn c1) rfl;show ao (hl z.2 y w c2 hs (hfree.elim (λz=>.inr (.inl z)) λz=>.inr (.inr z))) λu' r l=>?_;show⟨u',r,?_⟩;obtain⟨k,c,e3,ce⟩:(X.env.kindOf y=some .cell\/X.env.kindOf y=some .free)/\∃ c,X.env.cells.lookup y=some c/\s.heap.IsCell c (some u'):=by
     rcases l with ⟨k,_⟩|q
     .have k:X.env.scope.names.lookup y=some .local:=k;rcases hfree with z|z <;> (rw[z] at k;cases k)
     .exact q
    obtain⟨d,hd'⟩:=hcl2 _ (jn c1) rfl;have hd2:=hcl y d hd';rw[e3] at hd2;cases hd2;show .inr ⟨.inr c1,c,hd',ce.keeps hk⟩
 .obtain ⟨w,q⟩:=I.cell y c (hcl y c e);show⟨w,q.keeps hk⟩
theorem k9 {c':Addr}{params:Arguments}{body:Expr}{name:Str}{pm ctv:Value}{v:V}{u:Value}{te:TE}{Q:VK}(I:av X pins σ H s)(B:bY X sc x fr)(hfr:A.frames=some X.stack)(hd:A.handled=none)(hroom:A.depth<recursionLimit)(hcl:∀ x c,cl.lookup x=some c->X.env.cells.lookup x=some c)(hcl2:∀ y∈sc.names,y.2=.free->∃ c,cl.lookup y.1=some c)(rv:aI v u)(hf:s.heap.get? f=some (kla_obj name qual params body sc cl pm c' ctv))(hcd:s.heap.CodeRec (.ref c') qual)(hb:bindArgs (kla_fn name qual params body sc cl pm (.ref c') ctv) ⟨[u],[]⟩=pure [(x,u)])(he:PE (oD X (kq x fr) qual sc cl f (.ref c') A.in1 s H) body te)(q:te (oz v fr σ) H Q):
  wpAny (model X.prog X.w) A.in1 (call (.ref f) [u]) (EP X pins σ Q) (λ_ _=>False) s:=by
 show wpAny_call (kla_callFunE (A:=A.in1) hroom hf rfl B.co B.gen rfl hcd ?_);rw[hb];show dG (wpAny_newFunctionEnv B.nocell (λy hy=>?_) (λh₁ hns hsb=>⟨I.nolimit.fresh _ hsb,?_⟩) B.kind)
 .rw [cS.mp hy];show B.par
 .change codeAny _ _ (.expr body (envX qual sc s.heap.objs.size f (.ref c') cl)) _ _;have hk₁:∀ b o,s.heap.get? b=some o->h₁.get? b=some o:=λb o e=>hsb.extBut b o (eS (bZ e)) (d5 _ e);have I1:av (oD X (kq x fr) qual sc cl f (.ref c') A.in1 s H) [] (oz v fr σ) H { s with heap:=h₁,toks:=s.toks+1 }:=mQ (A:=A.in1) I B hfr hd hcl hcl2 rv hns hk₁;show kla_codeExpr (jh (he [] _ _ _ _ I1 q) (λy s' h=>?_) λ_ _ h=>h.elim);show cF h λv' H' J r' q'=>?_;clear h;show I.after ⟨v',H',J.os,J.bare,J.base,J.hok,r',q'⟩
end
structure cR (X:Cx)(pins:List (Addr×Obj))(sc:Scope)(params:Arguments)(body:Expr)(qual:Str)(P:Addr)(H:Hp)(s:Shared)(f c':Addr)(cl:List (Str×Addr))(ctv pm:Value):Prop where
 fn:s.heap.get? f=some (kla_obj "<lambda>" qual params body sc cl pm c' ctv)
 fp:cx X pins H f
 cod:∃ oc vs t,H c'=some (.frz oc (.own P))/\oc.data=.fields vs/\vs[1]?=some (.str qual t)
 hcl:∀ x c,cl.lookup x=some c->X.env.cells.lookup x=some c
 hcl2:∀ y∈sc.names,y.2=.free->∃ c,cl.lookup y.1=some c
section
variable {X:Cx}{pins:List (Addr×Obj)}{σ:St}{H:Hp}{s:Shared}{sc:Scope}{x:Str}{fr:List (Str×Nat)}{P c:Addr}{params:Arguments}{body:Expr}{pos:Pos}
theorem cR.code {H:Hp}{s:Shared}{f c':Addr}{cl:List (Str×Addr)}{ctv pm:Value}{qual:Str}(L:cR X pins sc params body qual P H s f c' cl ctv pm)(I:av X pins σ H s):s.heap.CodeRec (.ref c') qual:=by
 show iD L.cod λoc vs t e d v=>?_;obtain⟨e1,_⟩:=I.hok c' _ e;show jc c' oc vs t ⟨rfl,e1,d,v⟩
theorem qI {Q:Value->Shared->Prop}(I:av X pins σ H s)(B:bY X sc x fr)(hcode:X.env.code=.ref c)(C:CodeHd X.base c P)(hP:H P=some (.tab (pos.line:Int) (pos.col:Int) (X.env.qual ++ "<lambda>")))(hdef:defaultsOf params X.env=([],[]))(h:∀ s' H' f c' cl ctv pm,av X pins σ H' s'->aa H H'->cR X pins sc params body (X.env.qual ++ "<lambda>") P H' s' f c' cl ctv pm->Q (.ref f) s'):
  wpAny (model X.prog X.w) X.A (eval (.Lambda params body sc pos) X.env) Q X.xe s:=by
 show bh (zk (scope:=sc) (env:=X.env) λy hy hf=>I.ok.has y.1 ((B.free y hy hf).elim .inl .inr)) λcl hcl q1 q2=>?_;have hg:s.heap.Ns mainGlobals X.mg:=I.mod.glob.keeps I.bk;have CH:CodeHd s.heap c P:=by
  show sU C λo vs file tf flags tg inF text tt e1 r=>?_;clear C;show uX o vs file tf flags tg inF text tt ⟨I.bk _ _ e1,r⟩
 show gE I.mod.bmain λbm ob b1 b2 b3 b4 b5 b6=>?_;have b3':=I.bs _ _ b3;have hgP:mainGlobals≠P:=λq=>by
  show iD I.mod.glob λo es ep e hd _=>?_;have:=(I.bs _ _ e).2;rw[q,hP] at this;cases this
 have hbP:bm≠P:=λq=>by
  have:=b3'.2;rw[q,hP] at this;cases this
 have hbG:bm≠mainGlobals:=λq=>by
  show iD I.mod.glob λo es ep e hd _=>?_;rw[q,e] at b3;cases b3;rw[hd] at b6;cases b6
 have BA:s.heap.BuiltinsAt X.mg P:=⟨bm,ob,b1,b2,hbG,hbP,b3'.1,b4,b5,b6⟩
 have ok:=I.hok P _ hP;show kla_eval hdef ?_;rcases ok with e0|⟨c',oc,vs,t,e0,ne,e2,d2,v2⟩
 .-- the first one
  show kla_makeFunction (mg:=X.mg) hcl I.ok.glob hg hcode CH e0 (by show True.intro) rfl hgP BA λc' ctv h' tk hx hge hlt hrec htb=>?_;show cZ hrec λc2 oc vs t ec hoc hd hv=>?_;clear hrec;cases ec;have hcn:H c'=none:=I.hok.fresh hge;have hcP:c'≠P:=λz=>by rw[z,hP] at hcn;cases hcn
  have hxk:∀ b o,b≠P->s.heap.get? b=some o->(h'.push (kla_obj "<lambda>" (X.env.qual ++ "<lambda>") params body sc cl ((X.mg "__name__").getD .none) c' ctv)).get? b=some o:=λb o hb e=>d5 _ (hx b o hb e);have gP:(h'.push (kla_obj "<lambda>" (X.env.qual ++ "<lambda>") params body sc cl ((X.mg "__name__").getD .none) c' ctv)).get? P=some (tabObj (#[] ++ #[rawInt pos.line,rawInt pos.col,.ref c'])):=d5 _ htb;have gc:(h'.push (kla_obj "<lambda>" (X.env.qual ++ "<lambda>") params body sc cl ((X.mg "__name__").getD .none) c' ctv)).get? c'=some oc:=d5 _ hoc;have sm:aa H (ar H c' (.frz oc (.own P))):=λb u e=>by rw[aR (bV e hcn)];show e
  have nP:∀ {b:Addr},H b=none->b≠P:=λe z=>by rw[z,hP] at e;cases e
  have U:Un X.fs [] H (ar H c' (.frz oc (.own P))) s.heap (h'.push (kla_obj "<lambda>" (X.env.qual ++ "<lambda>") params body sc cl ((X.mg "__name__").getD .none) c' ctv)):=by
   show⟨λb o e n _ _=>hxk b o (nP n) e,λb o e n _ _=>⟨o.slots,hxk b o (nP n) e⟩,λb o e n _=>?_,λb o e _=>?_,λb xs e=>sm _ _ e,λb o u e=>sm _ _ e,λb ps e=>⟨#[],by rw[sm _ _ e];simp⟩⟩
   .rw [aR (eS (dN (bZ e) hge))];show n
   .by_cases z:b=P
    .exact ⟨_,by rw[z];show gP⟩
    .exact ⟨o,hxk b o z e⟩
  have O:eC X.prog X.w (ar H c' (.frz oc (.own P))) (h'.push (kla_obj "<lambda>" (X.env.qual ++ "<lambda>") params body sc cl ((X.mg "__name__").getD .none) c' ctv)):=λb u e=>by
   by_cases hb:b=c'
   .subst hb;rw[aw] at e;cases e;show⟨gc,⟨oc,gc⟩⟩
   .rw [aR hb] at e;by_cases hbP':b=P
    .subst hbP';rw[hP] at e;cases e;show .inr ⟨c',oc,vs,t,gP,hcP,aw,hd,hv⟩
    .refine (I.hok b u e).stay (λa v ha q=>hxk a v ?_ q) (λa z=>sm _ _ z) (λa xs z=>sm _ _ z) λa o' u' z=>sm _ _ z;rcases ha with rfl|ha
     .exact hbP'
     .intro z;rw[z,hP] at ha;cases ha
  have I':av X pins σ (ar H c' (.frz oc (.own P))) { s with heap:=h'.push (kla_obj "<lambda>" (X.env.qual ++ "<lambda>") params body sc cl ((X.mg "__name__").getD .none) c' ctv),toks:=tk }:=I.un U O;have hsz:s.heap.objs.size<=h'.objs.size:=gR (jm hge hlt);show h _ _ h'.objs.size c' cl ctv _ I' sm ⟨ij _ rfl,I.fpOk hsz ?_,⟨oc,vs,t,aw,hd,hv⟩,q1,q2⟩;rw[aR (tV hlt)];show I.hok.fresh hsz
 .-- the code is there
  show kla_makeFunctionHit (cv:=.ref c') (mg:=X.mg) hcl I.ok.glob hg hcode CH e0 (by simp[TriplesOk,rawInt]) (by simp[codeAmong,rawInt]) BA λctv h' tk hk hsz=>?_;have I':av X pins σ H { s with heap:=h'.push (kla_obj "<lambda>" (X.env.qual ++ "<lambda>") params body sc cl ((X.mg "__name__").getD .none) c' ctv),toks:=tk }:=I.kept λb o e=>d5 _ (hk b o e);show h _ _ h'.objs.size c' cl ctv _ I' (aa.refl _) ⟨ij _ rfl,I.fpOk hsz (I.hok.fresh hsz),⟨oc,vs,t,e2,d2,v2⟩,q1,q2⟩
end
theorem aa.sqL {K:Frag}{H H':Hp}{a:Addr}{xs:List V}(s:aa H H')(h:aj K H a xs):aj K H' a xs:=s.seq h
def kg (kf:Nat->Int)(n i:Nat):Prop:=i<n/\∀ j,j<n->kf i<=kf j/\(j<i->kf i<kf j)
section
variable {X:Cx}{pins:List (Addr×Obj)}{σ:St}{sc:Scope}{x:Str}{fr:List (Str×Nat)}{P:Addr}{params:Arguments}{body:Expr}{qual:Str}{f c' l It S:Addr}{cl:List (Str×Addr)}{ctv pm:Value}{xs:List V}{te:TE}{H0:Hp}{kf:Nat->Int}
noncomputable abbrev Kh:List (Str×Value):=[("default",Value.none)]
theorem cx.same {pins:List (Addr×Obj)}{H H':Hp}{b:Addr}(h:cx X pins H b)(e:H' b=none):cx X pins H' b:=⟨e,h.2⟩
theorem Dz {H:Hp}{s:Shared}{i:Nat}{v:V}{u:Value}{b₁:Addr}{o₁:Obj}{b₂:Addr}{o₂:Obj}(hc:X.calm=true)(hroom:X.A.depth<recursionLimit)(B:bY X sc x fr)(hbd:∀ u pm c' ctv cl,bindArgs (kla_fn "<lambda>" qual params body sc cl pm (.ref c') ctv) ⟨[u],[]⟩=pure [(x,u)])(he:∀ cl f c' s H,PE (oD X (kq x fr) qual sc cl f (.ref c') X.A.in1 s H) body te)(I:av X pins σ H s)(L:cR X pins sc params body qual P H s f c' cl ctv pm)(ht:te (oz v fr σ) H λy H'=>y=.int (kf i)/\aa H H')(rv:aI v u)(f1:cx X pins H b₁)(g1:s.heap.get? b₁=some o₁)(d1:∀ v,o₁.data≠.cell v)(f2:cx X pins H b₂)(g2:s.heap.get? b₂=some o₂)(d2:∀ v,o₂.data≠.cell v):
  wpAny (model X.prog X.w) X.A.in1 (call (.ref f) [u]) (λy s'=>∃ t H',y=.int (kf i) t/\aa H H'/\av X pins σ H' s'/\cR X pins sc params body qual P H' s' f c' cl ctv pm/\s'.heap.get? b₁=some o₁/\H' b₁=none/\s'.heap.get? b₂=some o₂/\H' b₂=none) (λ_ _=>False) s:=by
 have Ip:=I.pinned (fp:=[b₁,b₂,f]) (λb hb=>by
  rcases gf.mp hb with rfl|hb
  .exact f1
  .rcases gf.mp hb with rfl|hb
   .exact f2
   .rw [cS.mp hb];show L.fp) (λb hb=>by
  rcases gf.mp hb with rfl|hb
  .exact ⟨_,g1,d1⟩
  .rcases gf.mp hb with rfl|hb
   .exact ⟨_,g2,d2⟩
   .rw [cS.mp hb];show⟨_,L.fn,λv z=>by cases z⟩)
 show aX (k9 Ip B I.ok.frames (I.ok.hd hc) hroom L.hcl L.hcl2 rv L.fn (L.code I) (hbd _ _ _ _ _) (he _ _ _ _ _) ht) λy s' h=>?_;show eW h λw H' I' r e91 sm=>?_;clear h;subst e91;obtain⟨t,rfl⟩:=r;have pn:∀ b∈[b₁,b₂,f],∀ o,s.heap.get? b=some o->s'.heap.get? b=some o/\H' b=none:=λb hb o e=>by
  have:=I'.pin (b,o) (gQ _ (gQ _ (vO hb e)));show⟨this.1,this.2.1⟩
 show fU L.cod λoc vs tk e r=>?_;obtain⟨p1,p1'⟩:=pn b₁ (by simp) _ g1;obtain⟨p2,p2'⟩:=pn b₂ (by simp) _ g2;obtain⟨p3,p3'⟩:=pn f (by simp) _ L.fn;show aM t H' ⟨rfl,sm,I'.unpinned,⟨p3,L.fp.same p3',⟨oc,vs,tk,sm _ _ e,r⟩,L.hcl,L.hcl2⟩,p1,p1',p2,p2'⟩
theorem Gr (hc:X.calm=true)(hroom:X.A.depth<recursionLimit)(B:bY X sc x fr)(hbd:∀ u pm c' ctv cl,bindArgs (kla_fn "<lambda>" qual params body sc cl pm (.ref c') ctv) ⟨[u],[]⟩=pure [(x,u)])(he:∀ cl f c' s H,PE (oD X (kq x fr) qual sc cl f (.ref c') X.A.in1 s H) body te)(hlI:l≠It)(hSI:S≠It)(hfI:f≠It)(hfS:f≠S)(ht:∀ i v H,xs[i]?=some v->aa H0 H->te (oz v fr σ) H λy H'=>y=.int (kf i)/\aa H H')(hl0:aj X.K H0 l xs){R:Result->Shared->Prop}(hR:∀ i v u s' H',kg kf xs.length i->xs[i]?=some v->aI v u->aa H0 H'->av X pins σ H' s'->R (.ok (.ret u)) s'):
  ∀ (r j i:Nat) (s:Shared) (H:Hp) (vb:V) (ub:Value) (tb:Tok) (n:Nat),xs.length-(j+1)=r->j+1<=xs.length->aa H0 H->av X pins σ H s->cR X pins sc params body qual P H s f c' cl ctv pm->cx X pins H S->cx X pins H It->
   s.heap.get? S=some (seqObj "list" #[ub,.int (kf i) tb] n)->s.heap.IsListIter It l (j+1)->xs[i]?=some vb->aI vb ub->i<=j->(∀ j',j'<=j->kf i<=kf j'/\(j'<i->kf i<kf j'))->
   codeAny (model X.prog X.w) X.A (.builtin "min.loop" ⟨[.ref It,.ref f,.ref S],Kh⟩) R s:=by
 have hname:(toString "min" ++ toString ".loop" : String)="min.loop" := by decide
 intro r
 induction r with
 | zero=>
  intro j i s H vb ub tb n hr hj sm I L fS fI gS hit hvb rvb hij hbest;have hin:j+1=xs.length:=∅
  show bh (I.list (sm.sqL hl0)) λits rv p hz=>?_;have hlen:=rv.length;show codeAny_builtin Cf ?_;rw[BR sj _];change wpAny _ X.A.in1 (seqItems? (.ref S) >>= _) _ _ _;show bP (wpAny_seqItems gS rfl ?_);change wpAny _ X.A.in1 (tryCatch (pyNext (.ref It)) _ >>= _) _ _ _;show bP (sq (BX (A:=X.A.in1) (I.ok.hd hc) hit p.isList (by simp;omega) λh' eb=>?_));have I1:av X pins σ H { s with heap:=h' }:=I.turned (t':=s.toks) (λb o hb e=>eb b o hb e) fI.1 fI.2.1 fI.2.2.2.1 fI.2.2.2.2.1 fI.2.2.2.2.2;have gS':h'.get? S=some (seqObj "list" #[ub,.int (kf i) tb] n):=eb S _ hSI gS;change wpAny _ X.A.in1 (updateSeq S (λ_=>#[]) >>= _) _ _ _;show bP ?_;show wpAny_updateSeq gS' rfl (bP (wpAny_letGo (dG ?_)));have s1:=BN h' S (Obj.mapSeq λ_=>(#[]:Array Value));have I2:=I1.turned (t':=s.toks) (h':=h'.update S (Obj.mapSeq λ_=>(#[]:Array Value))) (λb o hb e=>(s1.2 b hb).trans e) fS.1 fS.2.1 fS.2.2.2.1 fS.2.2.2.2.1 fS.2.2.2.2.2;show hR i vb ub _ H ⟨∅,λj' hj'=>hbest j' ∅⟩ hvb rvb sm I2
 | succ r ih=>
  intro j i s H vb ub tb n hr hj sm I L fS fI gS hit hvb rvb hij hbest;have hlt:j+1<xs.length:=∅
  show bh (I.list (sm.sqL hl0)) λits rv p hz=>?_;have hlen:=rv.length;have hx:xs[j+1]?=some (xs[j+1]'hlt):=aG hlt;show ao (rv.get hx) λu hu ru=>?_;show codeAny_builtin Cf ?_;rw[BR sj _];change wpAny _ X.A.in1 (seqItems? (.ref S) >>= _) _ _ _;show bP (wpAny_seqItems gS rfl ?_);change wpAny _ X.A.in1 (tryCatch (pyNext (.ref It)) _ >>= _) _ _ _;show bP (sq (Ci (A:=X.A.in1) hit p.isList (x:=u) (by simpa using hu) λh' hit' sb=>?_));have I1:av X pins σ H { s with heap:=h' }:=I.turned (t':=s.toks) (λb o hb e=>(sb.2 b hb).trans e) fI.1 fI.2.1 fI.2.2.2.1 fI.2.2.2.2.1 fI.2.2.2.2.2;have gS':h'.get? S=some (seqObj "list" #[ub,.int (kf i) tb] n):=(sb.2 S hSI).trans gS;show bh (id hit') λoI goI hoc hod=>?_;have L1:cR X pins sc params body qual P H { s with heap:=h' } f c' cl ctv pm:=⟨(sb.2 f hfI).trans L.fn,L.fp,L.cod,L.hcl,L.hcl2⟩
  change wpAny _ X.A.in1 (tryCatch (holding [u] (call (.ref f) [u])) _ >>= _) _ _ _;show bP (sq (rW (jh (Dz (i:=j+1) hc hroom B hbd he I1 L1 (ht (j+1) _ H hx sm) ru fS gS' (λv z=>by cases z) fI goI (λv z=>by rw[hod] at z;cases z)) (λy s2 hy=>?_) λ_ _ hF=>hF.elim)));show gE hy λt2 H2 e92 sm2 I2 L2' gS2 e93=>?_;clear hy;obtain rfl:=e92;show bC e93 λnS2 gI2 nI2=>?_;clear e93;have hit2:s2.heap.IsListIter It l (j+1+1):=⟨oI,gI2,hoc,hod⟩
  change wpAny _ X.A.in1 (tryCatch (holding [u,.int (kf (j+1)) t2] (richCompare .Lt (.int (kf (j+1)) t2) (.int (kf i) tb) >>= _)) _ >>= _) _ _ _;show bP (sq (rW (bP (CmpOf.ints_lt (prog:=X.prog) (w:=X.w) (A:=X.A.in1) (P:=λi v=>∃ t,v=.int (kf i) t) kf (λi v h=>h) (j+1) i _ _ _ _ _ ⟨t2,rfl⟩ ⟨tb,rfl⟩ ?_))));show bP (rW (jl ?_));show bP (wpAny_letGo (dG ?_));by_cases hb':kf (j+1)<kf i
  .have s1:=BN s2.heap S (Obj.mapSeq λ_=>#[u,.int (kf (j+1)) t2]);obtain⟨c2,hc2⟩:∃ c2,(s2.heap.update S (Obj.mapSeq λ_=>#[u,.int (kf (j+1)) t2])).get? S=some (seqObj "list" #[u,.int (kf (j+1)) t2] c2):=⟨_,get?_update_seq gS2 λ_=>#[u,.int (kf (j+1)) t2]⟩
   simp only[hb',decide_true,fm];show bP ?_;show wpAny_updateSeq gS2 rfl (bP (wpAny_letGo ?_));rw[hname];have I3:=I2.turned (t':=s2.toks) (h':=s2.heap.update S (Obj.mapSeq λ_=>#[u,.int (kf (j+1)) t2])) (λb o hb e=>(s1.2 b hb).trans e) nS2 fS.2.1 fS.2.2.2.1 fS.2.2.2.2.1 fS.2.2.2.2.2;have L3:cR X pins sc params body qual P H2 { s2 with heap:=s2.heap.update S (Obj.mapSeq λ_=>#[u,.int (kf (j+1)) t2]) } f c' cl ctv pm:=⟨(s1.2 f hfS).trans L2'.fn,L2'.fp,L2'.cod,L2'.hcl,L2'.hcl2⟩
   show dG ⟨yc sj _,ih (j+1) (j+1) _ H2 _ u t2 c2 ∅ hlt (sm.trans sm2) I3 L3 (fS.same nS2) (fI.same nI2) hc2 ⟨oI,(s1.2 It hSI.symm).trans gI2,hoc,hod⟩ hx ru (aQ _) λj' hj'=>?_⟩;by_cases e:j'=j+1
   .subst e;show⟨∅,λ_=>∅⟩
   .have hb1:=hbest j' ∅;have hb2:=hb1.1;show⟨∅,λ_=>∅⟩
  .simp only [hb',decide_false,Bool.false_eq_true,if_false];show bP (wpAny_letGo ?_);rw[hname];show dG ⟨yc sj _,ih (j+1) i s2 H2 vb ub tb n ∅ hlt (sm.trans sm2) I2 L2' (fS.same nS2) (fI.same nI2) gS2 hit2 hvb rvb ∅ λj' hj'=>?_⟩;by_cases e:j'=j+1
   .subst e;show⟨∅,λ_=>∅⟩
   .exact hbest j' ∅
theorem GV (a v d:Value):argsOk "min" ⟨[a],[(Str.ofString "key",v),(Str.ofString "default",d)]⟩:=by unfold argsOk;kernel_rfl
theorem Gq {s:Shared}{Q:Value->Shared->Prop}(hc:X.calm=true)(hroom:X.A.depth<recursionLimit)(B:bY X sc x fr)(hbd:∀ u pm c' ctv cl,bindArgs (kla_fn "<lambda>" qual params body sc cl pm (.ref c') ctv) ⟨[u],[]⟩=pure [(x,u)])(he:∀ cl f c' s H,PE (oD X (kq x fr) qual sc cl f (.ref c') X.A.in1 s H) body te)(I:av X pins σ H0 s)(L:cR X pins sc params body qual P H0 s f c' cl ctv pm)(ht:∀ i v H,xs[i]?=some v->aa H0 H->te (oz v fr σ) H λy H'=>y=.int (kf i)/\aa H H')(hl0:aj X.K H0 l xs)(q0:xs=[]->∀ s' H',aa H0 H'->av X pins σ H' s'->Q .none s')(q1:∀ i v u s' H',kg kf xs.length i->xs[i]?=some v->aI v u->aa H0 H'->av X pins σ H' s'->Q u s'):
  wpAny (model X.prog X.w) X.A (call (.builtin "min") [.ref l] [(Str.ofString "key",.ref f),(Str.ofString "default",.none)]) Q X.xe s:=by
 have hname:(toString "min" ++ toString ".loop" : String)="min.loop" := by decide
 show bh (I.list hl0) λits rv p hz=>?_;have hlen:=rv.length;show ao (id p.isList) λol hol _=>?_;have hll:l<s.heap.objs.size:=bZ hol;have hfl:f<s.heap.objs.size:=bZ L.fn;show kmk_tree PySem.F.kind_min PySem.F.plain_min PySem.F.entry_min (GV _ _ _) ?_;change wpAny _ X.A.in1 (Builtin.Builtins.bindParams "min" ["key","default"] 0 ⟨[],[(Str.ofString "key",.ref f),(Str.ofString "default",.none)]⟩ >>= _) _ _ s;show bP (wpAny_of_eq (show Builtin.Builtins.bindParams "min" ["key","default"] 0 ⟨[],[(Str.ofString "key",.ref f),(Str.ofString "default",.none)]⟩=pure [↥f,some .none] from rfl) ?_);show bP (dG ?_);show bP (yv p.isList ?_);show bP (wpAny_newList ?_ (fE _));rw[hname];have hS:(s.heap.push { cls:=.type "list_iterator",data:=.fields #[.ref l,.int 0 0] }).objs.size=s.heap.objs.size+1:=size_push' ..;have gI:((s.heap.push { cls:=.type "list_iterator",data:=.fields #[.ref l,.int 0 0] }).push (seqObj "list" #[] 0)).get? s.heap.objs.size=some { cls:=.type "list_iterator",data:=.fields #[.ref l,.int 0 0] }:=
  d5 _ (ij _ rfl)
 have gS:((s.heap.push { cls:=.type "list_iterator",data:=.fields #[.ref l,.int 0 0] }).push (seqObj "list" #[] 0)).get? (s.heap.push { cls:=.type "list_iterator",data:=.fields #[.ref l,.int 0 0] }).objs.size=some (seqObj "list" #[] 0):=ij _ rfl;rw[hS] at gS;have hk:∀ b o,s.heap.get? b=some o->((s.heap.push { cls:=.type "list_iterator",data:=.fields #[.ref l,.int 0 0] }).push (seqObj "list" #[] 0)).get? b=some o:=λb o e=>d5 _ (d5 _ e);have I0:av X pins σ H0 { s with heap:=(s.heap.push { cls:=.type "list_iterator",data:=.fields #[.ref l,.int 0 0] }).push (seqObj "list" #[] 0) }:=I.kept (t':=s.toks) hk;have fI:cx X pins H0 s.heap.objs.size:=I.fpOk (aQ _) (I.hok.fresh (aQ _));have fS:cx X pins H0 (s.heap.objs.size+1):=I.fpOk (Nat.le_succ _) (I.hok.fresh (Nat.le_succ _));have L0:cR X pins sc params body qual P H0 { s with heap:=(s.heap.push { cls:=.type "list_iterator",data:=.fields #[.ref l,.int 0 0] }).push (seqObj "list" #[] 0) } f c' cl ctv pm:=⟨hk _ _ L.fn,L.fp,L.cod,L.hcl,L.hcl2⟩
 have hSI:s.heap.objs.size+1≠s.heap.objs.size:=∅
 have p0:PlainL ((s.heap.push { cls:=.type "list_iterator",data:=.fields #[.ref l,.int 0 0] }).push (seqObj "list" #[] 0)) l its.toArray:=by
  show cE p λo n e r=>?_;clear p;show aM o n ⟨hk _ _ e,r⟩
 have hit:Heap.IsListIter ((s.heap.push { cls:=.type "list_iterator",data:=.fields #[.ref l,.int 0 0] }).push (seqObj "list" #[] 0)) s.heap.objs.size l 0:=⟨_,gI,rfl,rfl⟩
 show dG ⟨yc sj _,?_⟩;rw[hS];show codeAny_builtin Cf ?_;rw[BR sj _];change wpAny _ X.A.in1 (seqItems? (.ref _) >>= _) _ _ _;show bP (wpAny_seqItems gS rfl ?_);change wpAny _ X.A.in1 (tryCatch (pyNext (.ref s.heap.objs.size)) _ >>= _) _ _ _;cases hxs:xs with
 | nil=>
  subst hxs;have e0:its=[]:=List.length_eq_zero_iff.mp (by simpa using hlen.symm);show bP (sq (BX (A:=X.A.in1) (I.ok.hd hc) hit p0.isList (by rw[e0];rfl) λh' eb=>?_));have I1:av X pins σ H0 { s with heap:=h' }:=I0.turned (t':=s.toks) (λb o hb e=>eb b o hb e) fI.1 fI.2.1 fI.2.2.2.1 fI.2.2.2.2.1 (λp hp=>fI.2.2.2.2.2 p hp);change wpAny _ X.A.in1 (rule _ >>= _) _ _ _;show bP (wpAny_rule (dG (q0 rfl _ H0 (aa.refl _) I1)))
 | cons v0 r0=>
  have hne:0<xs.length:=by rw[hxs];show Nat.zero_lt_succ _
  have hx:xs[0]?=some v0:=by rw[hxs];rfl
  rw[<- hxs] at *;show ao (rv.get hx) λu hu ru=>?_;show bP (sq (Ci (A:=X.A.in1) hit p0.isList (x:=u) (by simpa using hu) λh' hit' sb=>?_));have I1:av X pins σ H0 { s with heap:=h' }:=I0.turned (t':=s.toks) (λb o hb e=>(sb.2 b hb).trans e) fI.1 fI.2.1 fI.2.2.2.1 fI.2.2.2.2.1 fI.2.2.2.2.2;have gS':h'.get? (s.heap.objs.size+1)=some (seqObj "list" #[] 0):=(sb.2 _ hSI).trans gS;show bh (id hit') λoI goI hoc hod=>?_;have L1:cR X pins sc params body qual P H0 { s with heap:=h' } f c' cl ctv pm:=⟨(sb.2 f (eS hfl)).trans L0.fn,L.fp,L.cod,L.hcl,L.hcl2⟩
  change wpAny _ X.A.in1 (tryCatch (holding [u] (call (.ref f) [u])) _ >>= _) _ _ _;show bP (sq (rW (jh (Dz (i:=0) hc hroom B hbd he I1 L1 (ht 0 _ H0 hx (aa.refl _)) ru fS gS' (λv z=>by cases z) fI goI (λv z=>by rw[hod] at z;cases z)) (λy s2 hy=>?_) λ_ _ hF=>hF.elim)));show gE hy λt2 H2 e94 sm2 I2 L2' gS2 e95=>?_;clear hy;obtain rfl:=e94;show bC e95 λnS2 gI2 nI2=>?_;clear e95;have s1:=BN s2.heap (s.heap.objs.size+1) (Obj.mapSeq λ_=>#[u,.int (kf 0) t2]);obtain⟨c2,hc2⟩:∃ c2,(s2.heap.update (s.heap.objs.size+1) (Obj.mapSeq λ_=>#[u,.int (kf 0) t2])).get? (s.heap.objs.size+1)=some (seqObj "list" #[u,.int (kf 0) t2] c2):=⟨_,get?_update_seq gS2 λ_=>#[u,.int (kf 0) t2]⟩
  change wpAny _ X.A.in1 (updateSeq (s.heap.objs.size+1) (λ_=>#[u,.int (kf 0) t2]) >>= _) _ _ _;show bP ?_;show wpAny_updateSeq gS2 rfl ?_;rw[hname];have I3:=I2.turned (t':=s2.toks) (h':=s2.heap.update (s.heap.objs.size+1) (Obj.mapSeq λ_=>#[u,.int (kf 0) t2])) (λb o hb e=>(s1.2 b hb).trans e) nS2 fS.2.1 fS.2.2.2.1 fS.2.2.2.2.1 fS.2.2.2.2.2;have hfS:f≠s.heap.objs.size+1:=eS (o9 hfl);have L3:cR X pins sc params body qual P H2 { s2 with heap:=s2.heap.update (s.heap.objs.size+1) (Obj.mapSeq λ_=>#[u,.int (kf 0) t2]) } f c' cl ctv pm:=⟨(s1.2 f hfS).trans L2'.fn,L2'.fp,L2'.cod,L2'.hcl,L2'.hcl2⟩
  show dG ⟨yc sj _,Gr (H0:=H0) hc hroom B hbd he (eS hll) hSI (eS hfl) hfS ht hl0 (λi v u s' H' a b c d e=>q1 i v u s' H' a b c d e) _ 0 0 _ H2 v0 u t2 c2 rfl hne sm2 I3 L3 (fS.same nS2) (fI.same nI2) hc2 ⟨oI,(s1.2 _ hSI.symm).trans gI2,hoc,hod⟩ hx ru (aQ _) λj' hj'=>?_⟩;have e:j'=0:=∅
  subst e;show⟨∅,λh=>absurd h (iR _)⟩
end
def tMinL (K:Frag)(P:Addr)(ln co:Int)(q:Str)(fr:List (Str×Nat))(ta te:TE):TE:=λσ H Q=>ta σ H λv H1=>∃ l xs,∃ kf:Nat->Int,v=.ref l/\aj K H1 l xs/\H1 P=some (.tab ln co q) /\
 (∀ i v H,xs[i]?=some v->aa H1 H->te (oz v fr σ) H λy H'=>y=.int (kf i)/\aa H H')/\(xs=[]->∀ H',aa H1 H'->Q .non H')/\∀ i v H',kg kf xs.length i->xs[i]?=some v->aa H1 H'->Q v H'
section
variable {X:Cx}{sc:Scope}{x:Str}{fr:List (Str×Nat)}{P c:Addr}{params:Arguments}{body e:Expr}{lpos p pos k1 k2 kp:Pos}{ta te:TE}
theorem lJ {i0:Nat}(hc:X.calm=true)(hroom:X.A.depth<recursionLimit)(hg:Gl X "min")(hm:X.mg "min" = none)(B:bY X sc x fr)(hcode:X.env.code=.ref c)(C:CodeHd X.base c P)(hdef:defaultsOf params X.env=([],[]))(hbd:∀ u pm c' ctv cl,bindArgs (kla_fn "<lambda>" (X.env.qual ++ "<lambda>") params body sc cl pm (.ref c') ctv) ⟨[u],[]⟩=pure [(x,u)])(ha:PE X e ta)(he:∀ cl f c' s H,PE (oD X (kq x fr) (X.env.qual ++ "<lambda>") sc cl f (.ref c') X.A.in1 s H) body te)(hs:fw e=false:=by rfl):
  PE X (.Call (.Name "min" p) [e] [⟨some "key",.Lambda params body sc lpos,k1⟩,⟨some "default",.Constant .none i0 kp,k2⟩] pos) (tMinL X.K P (lpos.line:Int) (lpos.col:Int) (X.env.qual ++ "<lambda>") fr ta te):=by
 intro pins s σ H Q I h;show wx (oK I hg hm boot_min ?_ ⇑0 ⇑0);have hst:backTo pos (starEach [e] X.env)=(false,eval e X.env)::backTo pos (starEach [] X.env):=by rw[hV hs];rfl
 show callWith_kw (id:="min") (e:=e) (rest:=[]) ?_ hst (by rw[hst];rfl) ⇑1 (by rfl);rw[hst];show Calls.spliced_cons (aX (ha pins s σ H _ I h) λu s1 ⟨v,H1,I1,r1,h1⟩=>?_);show cK h1 λl xs kf e96 hl hP e97=>?_;clear h1;obtain rfl:=e96;show bC e97 λht q0 q1=>?_;clear e97;cases r1;show Calls.spliced_nil ?_;show kws_cons (qI I1 B hcode C hP hdef λs2 H2 f c' cl ctv pm I2 sm L=>?_);show kws_cons (Constant_none (kws_nil ?_));change wpAny _ _ (call (.builtin "min") [.ref l] [(Str.ofString "key",.ref f),(Str.ofString "default",.none)]) _ _ s2;show Gq (kf:=kf) hc hroom B hbd he I2 L (λi v H hi sm2=>ht i v H hi (sm.trans sm2)) (sm.sqL hl) (λe0 s' H' sm2 I'=>?_) λi v u s' H' hmn hi ru sm2 I'=>?_
 .exact aM .non H' ⟨I',rfl,q0 e0 H' (sm.trans sm2)⟩
 .exact aM v H' ⟨I',ru,q1 i v H' hmn hi (sm.trans sm2)⟩
end
abbrev ie:=List (Addr×Int×Int×Str)
def uZ (tb:ie)(H:Hp):Prop:=∀ b t,tb.lookup b=some t->H b=some (.tab t.1 t.2.1 t.2.2)
noncomputable def hp0 (K:Frag)(tb:ie)(a:Addr)(oa:Obj)(xs:List V):Hp:=λb=>if b=a then (if (K.lookup a).isSome=true then none else some (.frz oa (.lst xs))) else (tb.lookup b).map λt=>.tab t.1 t.2.1 t.2.2
theorem HE {P:Program}{w:World}{K:Frag}{mg mb:Str->Option Value}{CX:iS}{k:Nat}{fa a:Addr}{fd:FuncData}{x:Str}{sp:Sp}{s₁:Shared}{vs:List Value}{ns:List Int}{tb:ie}(KX:K.In s₁.heap)(hns:s₁.heap.Ns mainGlobals mg)(hb:s₁.heap.Ns builtinsNs mb)(hbb:∀ x:Str,x ≠ "__name__" -> mb x=bootBuiltins x)(hlim:s₁.heap.NoLimit)(hseer:s₁.heap.NoSeer)(hbm:∃ bm ob,mg "__builtins__" = ↥bm/\bm≠builtinsNs/\s₁.heap.get? bm=some ob/\ob.cls=.type "module" /\ ob.dict=some builtinsNs/\ob.data=.plain)(hg:s₁.gens=#[])(htb:∀ b t,tb.lookup b=some t->s₁.heap.get? b=some (tabObj #[])/\K.lookup b=none/\isCodeTable s₁.heap b)(ha:s₁.heap.get? a=some { cls:=.type "list",data:=.seq vs.toArray })(hi:IntsAre vs ns)(hl:ns.length<=sizeLine)(hr:bp k callerA)(F:∀ base:Heap,K.In base->base.Ns mainGlobals mg->cu P w K mg base CX k fa fd [x] sp)(hbind:∀ (s:Shared) (u:Value),BindsTo s fd ⟨[u],[]⟩ [(x,u)])(hsp:∀ H:Hp,aj K H a (ns.map V.int)->uZ tb H->sp [.ref a] H (λv H'=>v=.bl true/\uZ tb H') λ_ _ _=>False)(hCX:∀ H e s',CX [] H s₁ (λ_ _ _=>False) e s'->False):
  codeAny (model P w) callerA (.call (.ref fa) ⟨[.ref a],[]⟩) (λr s'=>r=.ok (.ret (.bool true))/\OldK s₁.heap s'.heap/\s'.os=s₁.os/\AllBare s'.gens) s₁:=by
 have rv:=Fx hi;have lenV:=hi.length;generalize hH:hp0 K tb a { cls:=.type "list",data:=.seq vs.toArray } (ns.map V.int)=H;have tne:∀ b t,tb.lookup b=some t->b≠a:=λb t e z=>by
  have:=(htb b t e).1;rw[z,ha] at this;cases this
 have hT:uZ tb H:=λb t e=>by
  rw[<- hH];unfold hp0;rw[if_neg (tne b t e),e];rfl
 have cases3:∀ b,H b=none\/(b=a/\K.lookup a=none/\H b=some (.frz { cls:=.type "list",data:=.seq vs.toArray } (.lst (ns.map V.int))))\/∃ t,tb.lookup b=some t/\H b=some (.tab t.1 t.2.1 t.2.2):=λb=>by
  rw[<- hH];unfold hp0;by_cases hba:b=a
  .rw [if_pos hba];cases hk:K.lookup a with
   | none=>show .inr (.inl ⟨hba,rfl,rfl⟩)
   | some o=>show .inl rfl
  .rw [if_neg hba];cases ht:tb.lookup b with
   | none=>show .inl rfl
   | some t=>show .inr (.inr ⟨t,rfl,rfl⟩)
 have free:∀ {b:Addr} {o:Obj},s₁.heap.get? b=some o->(∀ xs n,o.data≠.seq xs n)->(∀ xs,o.data≠.fields xs)->H b=none:=λ{b o} e d1 d2=>by
  rcases cases3 b with h|⟨rfl,_,_⟩|⟨t,h,_⟩
  .exact h
  .rw [ha] at e;cases e;show absurd rfl (d1 _ _)
  .rw [(htb b t h).1] at e;cases e;show absurd rfl (d2 _)
 have base_of:∀ {b:Addr} {o:Obj},s₁.heap.get? b=some o->H b=none->(ko s₁.heap H).get? b=some o:=λe n=>GR e n;have nsK:∀ {b:Addr} {m:Str->Option Value},s₁.heap.Ns b m->(ko s₁.heap H).Ns b m:=λ{b m} ⟨o,es,ep,e,d,r⟩=>⟨o,es,ep,base_of e (free e (λxs n z=>by rw[d] at z;cases z) λxs z=>by rw[d] at z;cases z),d,r⟩
 have hKb:K.In (ko s₁.heap H):=λb o e=>base_of (KX b o e) (by
  rcases cases3 b with h|⟨rfl,h,_⟩|⟨t,h,_⟩
  .exact h
  .rw [h] at e;cases e
  .rw [(htb b t h).2.1] at e;cases e)
 have seerB:(ko s₁.heap H).NoSeer:=⟨let ⟨mc,x,y⟩:=hseer.statics;⟨mc,nsK x,y⟩,let ⟨mc,x,y⟩:=hseer.mods;⟨mc,nsK x,y⟩,let ⟨mc,x,y⟩:=hseer.imp;⟨mc,nsK x,y⟩,let ⟨mg',bm,ob,x,y,z,u,v⟩:=hseer.main;⟨mg',bm,ob,nsK x,y,base_of z (by
   rcases cases3 bm with h|⟨rfl,_,_⟩|⟨t,h,_⟩
   .exact h
   .rw [ha] at z;cases z;have u':Value.type "list" = Value.type "module" := u
    injection u' with u'
    show absurd u' ⇑0
   .rw [(htb bm t h).1] at z;cases z;cases u),u,v⟩⟩
 have hM:x_ K mg (ko s₁.heap H):=⟨hKb,nsK hns,⟨mb,nsK hb,hbb⟩,let ⟨mc,h1,h2⟩:=hlim;⟨mc,nsK h1,h2⟩,seerB,let ⟨bm,ob,x1,x2,x3,x4,x5,x6⟩:=hbm;⟨bm,ob,x1,x2,base_of x3 (free x3 (λxs n z=>by rw[x6] at z;cases z) λxs z=>by rw[x6] at z;cases z),x4,x5,x6⟩⟩
 have hS:aj K H a (ns.map V.int):=by
  rcases hk:K.lookup a with _|o
  .refine .inl (.inr ⟨{ cls:=.type "list",data:=.seq vs.toArray },?_⟩);rw[<- hH];unfold hp0;rw[if_pos rfl,hk];rfl
  .have e:=KX a o hk;rw[ha] at e;cases e;show .inr ⟨_,vs.toArray,_,hk,rfl,rfl,rfl,by rw[dS,lenV];show hl,by simpa using rv⟩
 have hok:eC P w H s₁.heap:=λb u e=>by
  rcases cases3 b with h|⟨rfl,_,h⟩|⟨t,h0,h⟩
  .rw [h] at e;cases e
  .rw [h] at e;cases e;show⟨ha,by rw[aB];show hl,vs,_,rv,ha⟩
  .rw [h] at e;cases e;show .inl (htb b t h0).1
 have e0:gW P w K mg (ko s₁.heap H) callerA [] s₁ H:=⟨rfl,hM,λb o e=>mG e,Nat.le_of_eq (Hx _ _),trivial,λb hb=>absurd (show b∈([]:List Addr) from hb) (by simp),hok,.of_eq hg⟩
 show codeAny_mono ((F _ hKb (nsK hns)).run callerA [] s₁ H ⟨[.ref a],[]⟩ [.ref a] [.ref a] _ _ hr e0 (hbind s₁ (.ref a)) (.cons rfl .nil) (hsp H hS hT)) λr s' h=>?_;cases r with
 | error e=>show (hCX H e s' h).elim
 | ok fl=>
  cases fl with
  | next=>show False.elim h
  | brk=>show False.elim h
  | cont=>show False.elim h
  | ret u=>
   show gE h λv H' os bare un hok' r' q=>?_;clear h;obtain⟨q',hT'⟩:=q;subst q';obtain rfl:u=Value.bool true:=r';have noF:∀ b:Addr,b∉frs ([]:List Env):=λb z=>absurd (show b∈([]:List Addr) from z) (by simp);show⟨rfl,⟨λb o e=>?_,λb o e=>un.there b o e (by simp)⟩,os,bare⟩;rcases cases3 b with h|⟨rfl,_,h⟩|⟨t,h0,h⟩
   .exact .inl (un.keep b o e h (noF b) (by simp))
   .have z2:=un.frzs _ _ _ h;obtain⟨e1,_⟩:=hok _ _ h;obtain⟨e2,_⟩:=hok' _ _ z2;rw[e] at e1;cases e1;show .inl e2
   .rw [(htb b t h0).1] at e;cases e;rcases hok' b _ (hT' b t h0) with e2|⟨c',oc,ws,tk,e2,_⟩
    .exact .inl e2
    .exact .inr (.inl ⟨(htb b t h0).2.2,rfl,#[],_,rfl,by rw[e2,Array.empty_append]⟩)
theorem G_ {l:PySem.W.OpenLaw}{n k:Nat}{q:Program}{loose:List Str}{XP:(Str->Option Value)->Heap->Prop}{YP:World->Heap->Prop}{d:DefRec}{K:Params->Frag}{CX:World->iS}{sp:World->Sp}{x:Str}{tb:ie}(hq:importsNone q=true)(hn:l.most=some n)(hn2:n<=sizeLine)(hdf:d.params.defaults=[])(hr:bp k callerA)(hY:∀ (w:World) (h:Heap),YP w h->(K w.params).In h)(htb:∀ (w:World) (h:Heap),YP w h->∀ b t,tb.lookup b=some t->h.get? b=some (tabObj #[])/\(K w.params).lookup b=none/\isCodeTable h b)(F:∀ (w:World) (mg:Str->Option Value) (fa:Addr) (h:Heap),(K w.params).In h->h.Ns mainGlobals mg->mg d.name=↥fa->
   ∃ fd:FuncData,(∀ (s:Shared) (u:Value),BindsTo s fd ⟨[u],[]⟩ [(x,u)]) /\
    ∀ base:Heap,(K w.params).In base->base.Ns mainGlobals mg->cu l.prog w (K w.params) mg base (CX w) k fa fd [x] (sp w))(hsp:∀ (w:World) (H:Hp) (a:Addr) (ns:List Int),ns.length<=n->aj (K w.params) H a (ns.map V.int)->uZ tb H->sp w [.ref a] H (λv H'=>v=.bl true/\uZ tb H') λ_ _ _=>False)(hCX:∀ (w:World) (H:Hp) (s:Shared) (e:Value) (s':Shared),CX w [] H s (λ_ _ _=>False) e s'->False):
  PySem.W.WalkO q loose XP YP l.row.toRowW d [] (λf vs=>PySem.call f vs):=by
 show Att.ot hn hdf λw s₀ s₁ mg mb fa o pm cd doc a vs ns G Y ho hd hcd hmg hobj hints hlen hg=>?_;have KX:=hY w _ Y;show ao (F w mg fa _ KX G.T.g hmg) λfd hb hF=>?_;show HE KX G.T.g G.T.b G.T.builtins G.T.nolimit (G.T.seer hq) G.T.bmain hg (htb w _ Y) hobj hints (cD hlen hn2) hr hF hb (λH hS hT=>hsp w H a ns hlen hS hT) λH e s'=>hCX w H s₁ e s'
noncomputable def lamOk (outer:List (Str×NameKind))(N:List Str)(sc:Scope)(x:Str)(fr:List (Str×Nat)):Bool:=
 sc.kind == .function && !sc.isCoroutine && !sc.isGenerator && sc.names.all (λy=>y.2 != .cell) && sc.names.lookup x == some .local &&
 sc.names.all (λy=>y.2 != .free || outer.lookup y.1 == some .cell || outer.lookup y.1 == some .free) &&
 fr.all λy=>sc.names.lookup y.1 == some .free && N[y.2]? == some y.1
theorem qM {X:Cx}{sc:Scope}{x:Str}{fr:List (Str×Nat)}(h:lamOk X.env.scope.names X.N sc x fr=true):bY X sc x fr:=by
 unfold lamOk at h;simp only[o7,jk] at h;obtain⟨⟨⟨⟨⟨⟨h1,h2⟩,h3⟩,h4⟩,h5⟩,h6⟩,h7⟩:=h;show⟨?_,?_,?_,λy hy z=>?_,eQ.mp h5,λy hy hf=>?_,λy hy=>?_⟩
 .cases e:sc.kind <;> rw[e] at h1 <;> first|rfl|(show absurd h1 ⇑0)
 .simpa using h2
 .simpa using h3
 .have:=h4 y hy;rw[z] at this;show absurd this ⇑0
 .have:=h6 y hy;rw[hf] at this;simp only[tX,eQ] at this;rcases this with (q|q)|q
  .exact absurd q ⇑0
  .exact .inl q
  .exact .inr q
 .have:=h7 y hy;show⟨eQ.mp this.1,eQ.mp this.2⟩
structure jr (K:Frag)(x qual:Str)(st:Stmt)(f:Addr)(fd:FuncData)(c:Addr):Prop where
 ex:∃ (oc:Value) (od:Option Addr) (kV doc pm:Value) (an:Option Addr) (ct:Value) (osl:Array (Option Value)),
  fd=PySem.W.fnOf x qual (jg st) (hJ st) (aZ st) .none kV doc pm an (.ref c) ct/\K.lookup f=some ⟨oc,od,.func fd,osl⟩/\PySem.W.codeIn K (.ref c) qual=true
section
theorem jr.ok {x qual:Str}{st:Stmt}{f c:Addr}{fd:FuncData}{N ps:List Str}{k:Nat}{sp:L2.Sp}(F:jr K x qual st f fd c)(S:ag N ps (aZ st))(len:∀ vs H Q E,sp vs H Q E->vs.length=ps.length)(hbody:∀ (A:Around) (outer:List Env) (s:Shared) (H:Hp) (vs:List V) (Q:VK) (E:XK),bp k (A.deeper (envOfC qual (aZ st) s.heap.objs.size f (.ref c)))->sp vs H Q E->
   ∃ t,iL (nE gY P w K mg base N qual (aZ st) f (.ref c) A outer s H E).nox (hJ st) t/\t { nx:=λ_ H'=>Q .non H',rt:=Q } (start N vs) H):cu P w K mg base gY (k+1) f fd ps sp:=by
 show jF F.ex λoc od kV doc pm an ct osl e98 lk hcd=>?_;obtain rfl:=e98;show jO lk hcd S len λA outer s H vs Q E hr hsp=>?_;show ao (hbody A outer s H vs Q E hr hsp) λt h q=>?_;show⟨t,h.nox,q⟩
theorem jr.binds {x qual:Str}{st:Stmt}{f c:Addr}{fd:FuncData}{ps:List Str}(F:jr K x qual st f fd c)(h:∀ (kV doc pm:Value) (an:Option Addr) (cdv ct:Value) (us:List Value),us.length=ps.length->bindArgs (PySem.W.fnOf x qual (jg st) (hJ st) (aZ st) .none kV doc pm an cdv ct) ⟨us,[]⟩=pure (ps.zip us)):bL K fd ps []:=by
 show jF F.ex λoc od kV doc pm an ct osl e99 lk hcd=>?_;obtain rfl:=e99;show .all (h kV doc pm an (.ref c) ct)
end
noncomputable def hdIn (K:Frag)(c P:Addr):Bool:=
 match List.lookup c K with
 | some ⟨.type t,_,.fields (vs:Array Value),_⟩=>t == "code" && (match (vs[11]?:Option Value) with|some (Value.ref q)=>q == P|_=>false) && (match vs.getD 11 .none with | .ref q=>q == P|_=>false) && (match vs.getD 18 .none with | .str _ _=>true|_=>false) && (match vs.getD 7 .none with | .int _ _=>true|_=>false) && (match vs.getD 9 .none with | .bool _=>true|_=>false) && (match vs.getD 10 .none with | .int _ _=>true|_=>false) && c != P
 | _=>false
theorem om {K:Frag}{h:Heap}{c P:Addr}(X:K.In h)(e:hdIn K c P=true):PySem.W.CodeHd h c P:=by
 unfold hdIn at e;split at e
 .rename_i t d vs sl hl
  simp only[o7] at e;obtain⟨⟨⟨⟨⟨⟨⟨e1,e2⟩,e3⟩,e4⟩,e5⟩,e6⟩,e7⟩,e8⟩:=e;have e1:=eq_of_beq e1;subst e1;have h2:vs[11]?=↥P:=by
   split at e2
   .rename_i q hq
    rw[hq,eq_of_beq e2]
   .cases e2
  have h3:vs.getD 11 .none=.ref P:=by
   split at e3
   .rename_i q hq
    rw[hq,eq_of_beq e3]
   .cases e3
  have h4:∃ f t,vs.getD 18 .none=.str f t:=by
   split at e4
   .rename_i f t hq
    show⟨f,t,hq⟩
   .cases e4
  have h5:∃ f t,vs.getD 7 .none=.int f t:=by
   split at e5
   .rename_i f t hq
    show⟨f,t,hq⟩
   .cases e5
  have h6:∃ f,vs.getD 9 .none=.bool f:=by
   split at e6
   .rename_i f hq
    show⟨f,hq⟩
   .cases e6
  have h7:∃ f t,vs.getD 10 .none=.int f t:=by
   split at e7
   .rename_i f t hq
    show⟨f,t,hq⟩
   .cases e7
  obtain⟨f1,t1,h4⟩:=h4;obtain⟨f2,t2,h5⟩:=h5;obtain⟨f3,h6⟩:=h6;obtain⟨f4,t4,h7⟩:=h7;show⟨_,vs,f1,t1,f2,t2,f3,f4,t4,X c _ hl,rfl,rfl,h2,h3,h4,h5,h6,h7,by simpa using e8⟩
 .cases e
theorem G9 {l:PySem.W.OpenLaw}{n k:Nat}{q:Program}{loose:List Str}{XP:(Str->Option Value)->Heap->Prop}{YP:World->Heap->Prop}{d:DefRec}{K:Params->Frag}{sp:World->Sp}{x:Str}(cL PL:Addr)(ln co:Int)(qu:Str)(hq:importsNone q=true)(hn:l.most=some n)(hn2:n<=sizeLine)(hdf:d.params.defaults=[])(hr:bp k callerA)(hY:∀ (w:World) (h:Heap),YP w h->(K w.params).In h)(hP:∀ (w:World) (h:Heap),YP w h->h.get? PL=some (PySem.W.tabObj #[]))(hN:∀ p,(K p).lookup PL=none)(hC:∀ p,hdIn (K p) cL PL=true)(F:∀ (w:World) (mg:Str->Option Value) (fa:Addr) (h:Heap),(K w.params).In h->h.Ns mainGlobals mg->mg d.name=↥fa->
   ∃ fd:FuncData,(∀ (s:Shared) (u:Value),BindsTo s fd ⟨[u],[]⟩ [(x,u)]) /\
    ∀ base:Heap,(K w.params).In base->base.Ns mainGlobals mg->cu l.prog w (K w.params) mg base gY k fa fd [x] (sp w))(hsp:∀ (w:World) (H:Hp) (a:Addr) (ns:List Int) (Q:VK) (E:XK),ns.length<=n->aj (K w.params) H a (ns.map V.int)->H PL=some (.tab ln co qu)->(∀ H',H' PL=some (.tab ln co qu)->Q (.bl true) H')->sp w [.ref a] H Q E):
  PySem.W.WalkO q loose XP YP l.row.toRowW d [] (λf vs=>PySem.call f vs):=by
 have one:∀ b t,([(PL,ln,co,qu)]:ie).lookup b=some t->b=PL/\t=(ln,co,qu):=λb t e=>by
  rw[fo] at e;split at e
  .rename_i hb
   cases e;show⟨eq_of_beq hb,rfl⟩
  .cases e
 have two:([(PL,ln,co,qu)]:ie).lookup PL=some (ln,co,qu):=by rw[fo];simp
 show G_ (l:=l) (n:=n) (k:=k) (K:=K) (CX:=λ_=>gY) (sp:=sp) (x:=x) (tb:=[(PL,ln,co,qu)]) hq hn hn2 hdf hr hY (λw h Y b t e=>?_) F (λw H a ns hl hS hT=>?_) (λ_ _ _ _ _ h=>h)
 .obtain ⟨rfl,_⟩:=one b t e;have g:=hP w h Y;show⟨g,hN _,((om (hY w h Y) (hC _)).tab g).isCodeTable⟩
 .refine hsp w H a ns _ _ hl hS (hT PL _ two) λH' h'=>⟨rfl,λb t e=>?_⟩
  obtain⟨rfl,rfl⟩:=one b t e;show h'
end L2
namespace L2
open PySem PySem.Spec PyProof.Rows
noncomputable abbrev two (elt t1 i1 t2 i2:Expr)(scope:Scope)(pos:Pos):Expr:=.ListComp elt [⟨t1,i1,[],0⟩,⟨t2,i2,[],0⟩] scope pos
section
variable {prog:Program}{w:World}{A:Around}{R:Result->Shared->Prop}{s:Shared}{elt t1 i1 t2 i2:Expr}{scope:Scope}{pos:Pos}{it acc:Value}{env:Env}
end
section
variable {X:Cx}{tg iter t2 i2 elt:Expr}{scope:Scope}{pos:Pos}{own:List Str}{fr:List (Str×Nat)}{wi wi2:TI}{g g2:TG}{te:TE}
end
end L2
namespace L3
open L2
open Lean.Grind
def Zp (n:Nat):Type:=Fin n
instance {n:Nat}[NeZero n]:CommRing (Zp n):=inferInstanceAs (CommRing (Fin n))
class PrimeN (n:Nat):Prop where
 gt:1<n
 inv:∀ r:Nat,0<r->r<n->∃ k,k<n/\k*r % n=1
instance {n:Nat}[h:PrimeN n]:NeZero n:=⟨by have:=h.gt;omega⟩
section
variable {n:Nat}[hn:PrimeN n]
theorem C_ (a:Zp n)(h:a≠0):∃ b:Zp n,a*b=1:=by
 have h0:0<(show Fin n from a).val:=by
  rcases B9 (show Fin n from a).val with z|z
  .exact absurd (show a=0 from Fin.ext (by rw[z];rfl)) h
  .exact z
 show ao (hn.inv _ h0 (show Fin n from a).isLt) λk hk e=>?_;show⟨(⟨k,hk⟩:Fin n),?_⟩;apply Fin.ext;change ((show Fin n from a).val*k) % n=1 % n;rw[rZ,e,wo hn.gt]
open Classical in
noncomputable def zinv (a:Zp n):Zp n:=if h:a≠0 then Classical.choose (C_ a h) else 0
theorem xK {a:Zp n}(h:a≠0):a*zinv a=1:=by
 unfold zinv;rw[dif_pos h];show BU (C_ a h)
theorem An:zinv (0:Zp n)=0:=by
 unfold zinv;rw[dif_neg (by simp)]
theorem AC:(0:Zp n)≠1:=λz=>by
 have:=jC (λx:Fin n=>x.val) z;have h1:(0:Nat) % n=1 % n:=this;rw[Nat.zero_mod,wo hn.gt] at h1;omega
theorem D8 {a b c:Zp n}(h1:a*b=1)(h2:a*c=1):b=c:=by
 have:b=b*(a*c):=by rw[h2];grind
 rw[this]
 grind
theorem Ig (a:Zp n):zinv (zinv a)=a:=by
 by_cases h:a=0
 .rw [h,An,An]
 .have h1:=xK h;have h2:zinv a≠0:=λz=>by
   rw[z] at h1;show AC (by rw[<- h1];grind)
  show D8 (xK h2) (by rw[<- h1];grind)
theorem Hb:zinv (1:Zp n)=1:=D8 (xK (λz=>AC z.symm)) (by grind)
noncomputable instance:Inv (Zp n):=⟨zinv⟩
noncomputable instance:Div (Zp n):=⟨λa b=>a*zinv b⟩
noncomputable def zpw (a:Zp n):Int->Zp n
 | .ofNat k=>a ^ k
 | .negSucc k=>zinv (a ^ (k+1))
noncomputable instance:HPow (Zp n) Int (Zp n):=⟨zpw⟩
noncomputable instance:Field (Zp n) where
 div_eq_mul_inv:=λa b=>rfl
 zero_ne_one:=AC
 inv_zero:=An
 mul_inv_cancel:=λh=>xK h
 zpow_zero:=λa=>Semiring.pow_zero a
 zpow_succ:=λa k=>Semiring.pow_succ a k
 zpow_neg:=λa k=>by
  match k with
  | .ofNat 0=>show (show a ^ (0:Nat)=zinv (a ^ (0:Nat)) by rw[Semiring.pow_zero,Hb])
  | .ofNat (m+1)=>rfl
  | .negSucc m=>show (Ig (a ^ (m+1))).symm
end
section
variable {F:Type}[Field F]
noncomputable def ic (z:Int):F:=(Ring.intCast:IntCast F).intCast z
theorem xg (x y:Int):(ic (x+y):F)=ic x+ic y:=Ring.intCast_add x y
theorem vo (x y:Int):(ic (x-y):F)=ic x-ic y:=Ring.intCast_sub x y
theorem eN (x y:Int):(ic (x*y):F)=ic x*ic y:=Ring.intCast_mul x y
theorem xh (x:Int):(ic (-x):F)=-ic x:=Ring.intCast_neg x
theorem oP:(ic 0:F)=0:=Ring.intCast_zero
theorem iF:(ic 1:F)=1:=Ring.intCast_one
end
def Rz (p z:Int):Prop:=p=0\/(0<=z/\z<p)
structure aK (p:Int)(F:Type)[Field F]:Prop where
 z0:∀ z:Int,Rz p z->(ic z:F)=0->z=0
 md:p≠0->(ic p:F)=0
theorem xp:aK 0 Rat:=⟨λz _ h=>by
 have h2:(z:Rat)=((0:Int):Rat):=h;show Rat.intCast_inj.mp h2,λh=>absurd rfl h⟩
theorem Da {n:Nat}[PrimeN n](k:Nat):(show Fin n from (ic ((k:Nat):Int):Zp n)).val=k % n:=by
 have:(ic ((k:Nat):Int):Zp n)=(Semiring.natCast:NatCast (Zp n)).natCast k:=Ring.intCast_natCast k;rw[this];rfl
theorem Gj {n:Nat}[hn:PrimeN n]:aK n (Zp n):=by
 show⟨λz hz h=>?_,λ_=>?_⟩
 .have hz:0<=z/\z<n:=hz.resolve_left (by have:=hn.gt;omega);obtain⟨k,rfl⟩:=Int.eq_ofNat_of_zero_le hz.1;have h2:=Da (n:=n) k;rw[h,wo ∅] at h2;have h3:0 % n=k:=h2;rw[Nat.zero_mod] at h3;rw[<- h3];rfl
 .apply Fin.ext;have h2:=Da (n:=n) n;rw[Nat.mod_self] at h2;show h2.trans ?_;change 0=0 % n;rw[Nat.zero_mod]
noncomputable def nm {F:Type}[Field F](x:Int×Int):F:=ic x.1 / ic x.2
section
variable {p:Int}{F:Type}[Field F]
theorem Fp {a b c:F}(h:b≠0)(e:c*b=a):a / b=c:=by grind
theorem aK.modF (hF:aK p F)(hp:p≠0)(z:Int):(ic (z % p):F)=ic z:=by
 have e:z=z % p+p*(z / p):=(BV z p).symm;have e2:(ic z:F)=ic (z % p)+ic p*ic (z / p):=by
  rw[<- eN,<- xg,<- e]
 rw[e2,hF.md hp]
 grind
theorem aK.ne0 (hF:aK p F){z:Int}(hz:Rz p z)(h:z≠0):(ic z:F)≠0:=λe=>h (hF.z0 z hz e)
theorem aK.bot (hF:aK p F){x:Int×Int}(h:bc p x):(ic x.2:F)≠0:=by
 rcases h with ⟨hp,h1,_⟩|⟨_,_,_,h1⟩
 .exact hF.ne0 (.inl hp) ∅
 .rw [h1,iF];show λz=>Field.zero_ne_one (α:=F) z.symm
theorem aK.nrmF (hF:aK p F)(hp:p=0){a b:Int}(hb:0<b):(nm (nrm a b):F)=ic a / ic b:=by
 have g0:(ic ((Int.gcd a b:Nat):Int):F)≠0:=hF.ne0 (.inl hp) (by have:=rP (a:=a) hb;omega);have b0:(ic b:F)≠0:=hF.ne0 (.inl hp) ∅;have e1:(ic (nrm a b).1:F)*ic ((Int.gcd a b:Nat):Int)=ic a:=by rw[<- eN,DC]
 have e2:(ic (nrm a b).2:F)*ic ((Int.gcd a b:Nat):Int)=ic b:=by rw[<- eN,zA]
 have c0:(ic (nrm a b).2:F)≠0:=λz=>b0 (by rw[<- e2,z];grind);unfold nm;rw[<- e1,<- e2];generalize (ic (nrm a b).1:F)=x at *;generalize (ic (nrm a b).2:F)=y at *;generalize (ic ((Int.gcd a b:Nat):Int):F)=g at *;show Fp c0 (by grind)
theorem aK.one (hF:aK p F)(z:Int):(nm (z,1):F)=ic z:=by
 unfold nm;rw[iF];show Fp (λz=>Field.zero_ne_one (α:=F) z.symm) (by grind)
theorem aK.plus (hF:aK p F){x y:Int×Int}(hx:bc p x)(hy:bc p y):(nm (dX p x y):F)=nm x+nm y:=by
 have bx:=hF.bot hx;have by':=hF.bot hy
 unfold dX;split
 .rename_i hp
  rw[hF.nrmF hp (kN hx.pos hy.pos),xg,eN,eN,eN];unfold nm
  grind
 .rename_i hp
  rw[hF.one,hF.modF hp,xg];rcases hx with ⟨z,_⟩|⟨_,_,_,h1⟩
  .exact absurd z hp
  .rcases hy with ⟨z,_⟩|⟨_,_,_,h2⟩
   .exact absurd z hp
   .unfold nm;rw[h1,h2,iF]
    grind
theorem aK.minus (hF:aK p F){x y:Int×Int}(hx:bc p x)(hy:bc p y):(nm (je p x y):F)=nm x-nm y:=by
 have bx:=hF.bot hx;have by':=hF.bot hy
 unfold je;split
 .rename_i hp
  rw[hF.nrmF hp (kN hx.pos hy.pos),vo,eN,eN,eN];unfold nm
  grind
 .rename_i hp
  rw[hF.one,hF.modF hp,vo];rcases hx with ⟨z,_⟩|⟨_,_,_,h1⟩
  .exact absurd z hp
  .rcases hy with ⟨z,_⟩|⟨_,_,_,h2⟩
   .exact absurd z hp
   .unfold nm;rw[h1,h2,iF]
    grind
theorem aK.times (hF:aK p F){x y:Int×Int}(hx:bc p x)(hy:bc p y):(nm (cM p x y):F)=nm x*nm y:=by
 have bx:=hF.bot hx;have by':=hF.bot hy
 unfold cM;split
 .rename_i hp
  rw[hF.nrmF hp (kN hx.pos hy.pos),eN,eN];unfold nm
  grind
 .rename_i hp
  rw[hF.one,hF.modF hp,eN];rcases hx with ⟨z,_⟩|⟨_,_,_,h1⟩
  .exact absurd z hp
  .rcases hy with ⟨z,_⟩|⟨_,_,_,h2⟩
   .exact absurd z hp
   .unfold nm;rw[h1,h2,iF]
    grind
theorem aK.intF (hF:aK p F)(k:Int):(nm (de p k):F)=ic k:=by
 unfold de;split
 .exact hF.one k
 .rename_i hp
  rw[hF.one,hF.modF hp]
theorem aK.inj (hF:aK p F){x y:Int×Int}(hx:bc p x)(hy:bc p y)(e:(nm x:F)=nm y):x=y:=by
 have bx:=hF.bot hx;have by':=hF.bot hy
 have e2:(ic x.1:F)*ic y.2=ic y.1*ic x.2:=by unfold nm at e;grind
 rw[<- eN,<- eN] at e2;have e3:(ic (x.1*y.2-y.1*x.2):F)=0:=by rw[vo,e2];grind
 by_cases hp:p=0
 .have h:=hF.z0 _ (.inl hp) e3;rcases hx with ⟨_,lx⟩|⟨z,_⟩
  .rcases hy with ⟨_,ly⟩|⟨z,_⟩
   .exact Ij lx ly ∅
   .omega
  .omega
 .rcases hx with ⟨z,_⟩|⟨pp,x0,x1,h1⟩
  .exact absurd z hp
  .rcases hy with ⟨z,_⟩|⟨_,y0,y1,h2⟩
   .exact absurd z hp
   .rw [h1,h2,Int.mul_one,Int.mul_one] at e3;rw[<- hF.modF hp] at e3;have h:=hF.z0 _ (.inr ⟨gO _ hp,gA _ pp⟩) e3;have h3:x.1=y.1:=by
     have:=Int.emod_emod_of_dvd (x.1-y.1) (Int.dvd_refl p);by_cases q:y.1<=x.1
     .rw [kP ∅ ∅] at h;omega
     .have h4:(x.1-y.1+p) % p=0:=by rw[Int.add_emod_right];show h
      rw[kP ∅ ∅] at h4;omega
    show Prod.ext h3 (by rw[h1,h2])
end
end L3
namespace L3
open Lean.Grind
section
variable {F:Type}[Field F]
noncomputable def sm:Nat->(Nat->F)->F
 | 0,_=>0
 | n+1,f=>sm n f+f n
theorem aO:∀ {n:Nat} {f g:Nat->F},(∀ i,i<n->f i=g i)->sm n f=sm n g
 | 0,_,_,_=>rfl
 | n+1,f,g,h=>by
  change sm n f+f n=sm n g+g n;rw[aO (n:=n) λi hi=>h i ∅,h n ∅]
theorem fA:∀ n:Nat,sm n (λ_=>(0:F))=0
 | 0=>rfl
 | n+1=>by
  change sm n (λ_=>(0:F))+0=0;rw[fA n]
  grind
theorem jT:∀ (n:Nat) (f g:Nat->F),sm n (λi=>f i+g i)=sm n f+sm n g
 | 0,_,_=>by show (0:F)=0+0;grind
 | n+1,f,g=>by
  change sm n (λi=>f i+g i)+(f n+g n)=(sm n f+f n)+(sm n g+g n);rw[jT n]
  grind
theorem eO (a:F):∀ (n:Nat) (f:Nat->F),sm n (λi=>a*f i)=a*sm n f
 | 0,_=>by show (0:F)=a*0;grind
 | n+1,f=>by
  change sm n (λi=>a*f i)+a*f n=a*(sm n f+f n);rw[eO a n]
  grind
theorem fN (a:F)(n:Nat)(f:Nat->F):sm n (λi=>f i*a)=sm n f*a:=by
 rw[show (λi=>f i*a)=λi=>a*f i from funext λi=>by grind,eO]
 grind
theorem gL:∀ (n m:Nat) (f:Nat->Nat->F),sm n (λi=>sm m (λj=>f i j))=sm m (λj=>sm n (λi=>f i j))
 | 0,m,f=>(fA m).symm
 | n+1,m,f=>by
  change sm n (λi=>sm m (λj=>f i j))+sm m (λj=>f n j)=sm m (λj=>sm n (λi=>f i j)+f n j);rw[gL n m,jT]
theorem kE:∀ {n k:Nat} (f:Nat->F),k<n->sm n (λi=>if i=k then f i else 0)=f k
 | 0,_,_,h=>absurd h (sE _)
 | n+1,k,f,h=>by
  change sm n (λi=>if i=k then f i else 0)+(if n=k then f n else 0)=f k;by_cases e:n=k
  .subst e;rw[if_pos rfl,aO (g:=λ_=>0) (λi hi=>by rw[if_neg ∅]),fA]
   grind
  .rw [if_neg e,kE f ∅]
   grind
theorem CQ {n k:Nat}(f:Nat->F)(h:k<n):sm n (λi=>(if i=k then 1 else 0)*f i)=f k:=by
 rw[<- kE f h];show aO λi _=>by split <;> grind
theorem tE {n k:Nat}(f:Nat->F)(h:k<n):sm n (λi=>f i*(if i=k then 1 else 0))=f k:=by
 rw[<- kE f h];show aO λi _=>by split <;> grind
theorem oV {n k:Nat}(f:Nat->F)(h:k<n):sm n (λi=>f i*(if k=i then 1 else 0))=f k:=by
 rw[<- kE f h];show aO λi _=>by
  by_cases e:i=k
  .rw [if_pos e,if_pos e.symm];grind
  .rw [if_neg e,if_neg (λz=>e z.symm)];grind
theorem uf {n:Nat}{f:Nat->F}(h:sm n f≠0):∃ i,i<n/\f i≠0:=by
 apply jo;intro z;apply h;rw[aO (g:=λ_=>0) λi hi=>jo λq=>z ⟨i,hi,q⟩,fA]
noncomputable def sk (k j:Nat):Nat:=if j<k then j else j+1
theorem EF:∀ {n k:Nat} (f:Nat->F),k<=n->sm (n+1) f=f k+sm n (λj=>f (sk k j))
 | n,k,f,h=>by
  by_cases e:k=n
  .subst e;change sm k f+f k=_;rw[aO (n:=k) (f:=f) (g:=λj=>f (sk k j)) λi hi=>by unfold sk;rw[if_pos hi]]
   grind
  .cases n with
   | zero=>omega
   | succ n=>
    change sm (n+1) f+f (n+1)=f k+(sm n (λj=>f (sk k j))+f (sk k n));rw[EF (n:=n) (k:=k) f (oz64 h e)];have:sk k n=n+1:=by unfold sk;rw[if_neg ∅]
    rw[this]
    grind
theorem sZ:∀ (r s:Nat) (Y:Nat->Nat->F),r<s->∃ v:Nat->F,(∃ j,j<s/\v j≠0)/\∀ i,i<r->sm s (λj=>Y i j*v j)=0
 | 0,s,Y,h=>⟨λ_=>1,⟨0,h,λz=>Field.zero_ne_one (α:=F) z.symm⟩,λi hi=>absurd hi (sE _)⟩
 | r+1,s,Y,h=>by
  by_cases hz:∀ j,j<s->Y r j=0
  .obtain ⟨v,hv,he⟩:=sZ r s Y ∅;show⟨v,hv,λi hi=>?_⟩;by_cases e:i=r
   .subst e;rw[aO (g:=λ_=>0) λj hj=>by rw[hz j hj];grind,fA]
   .exact he i (oA hi e)
  .obtain ⟨k,hk⟩:∃ k,k<s/\Y r k≠0:=by
    apply jo;intro z;show hz λj hj=>jo λq=>z ⟨j,hj,q⟩
   obtain⟨hk,hy⟩:=hk;obtain⟨s',rfl⟩:∃ s',s=s'+1:=⟨s-1,∅⟩
   obtain⟨v',⟨j0,hj0,hv0⟩,he⟩:=sZ r s' (λi j=>Y i (sk k j)-Y i k / Y r k*Y r (sk k j)) ∅;obtain⟨v,hvk,hv'⟩:∃ v:Nat->F,v k=-(sm s' (λj=>Y r (sk k j)*v' j)) / Y r k/\∀ j,v (sk k j)=v' j:=by
    show⟨λi=>if i=k then -(sm s' (λj=>Y r (sk k j)*v' j)) / Y r k else v' (if i<k then i else i-1),if_pos rfl,λj=>?_⟩;have h1:sk k j≠k:=by unfold sk;split <;> omega
    change (if sk k j=k then _ else v' (if sk k j<k then sk k j else sk k j-1))=v' j;rw[if_neg h1];congr 1;unfold sk;by_cases q:j<k
    .rw [if_pos q,if_pos q]
    .rw [if_neg q,if_neg ∅];omega
   show⟨v,⟨sk k j0,by unfold sk;split <;> omega,by rw[hv'];show hv0⟩,λi hi=>?_⟩;rw[EF (k:=k) _ ∅,hvk];rw[aO (n:=s') (f:=λj=>Y i (sk k j)*v (sk k j)) (g:=λj=>Y i (sk k j)*v' j) λj hj=>by rw[hv']];by_cases e:i=r
   .subst e;generalize sm s' (λj=>Y i (sk k j)*v' j)=S
    grind
   .have h2:=he i (oA hi e);have h3:sm s' (λj=>(Y i (sk k j)-Y i k / Y r k*Y r (sk k j))*v' j)=sm s' (λj=>Y i (sk k j)*v' j)-Y i k / Y r k*sm s' (λj=>Y r (sk k j)*v' j):=by
     rw[<- eO];have:∀ (f g:Nat->F),sm s' (λj=>f j-g j)=sm s' f-sm s' g:=λf g=>by
      have e1:=jT s' (λj=>f j-g j) g;rw[show (λj=>f j-g j+g j)=f from funext λj=>by grind] at e1;rw[e1]
      grind
     rw[<- this];show aO λj _=>by grind
    rw[h3] at h2;generalize sm s' (λj=>Y i (sk k j)*v' j)=S1 at *;generalize sm s' (λj=>Y r (sk k j)*v' j)=S2 at *
    grind
noncomputable abbrev del (i k:Nat):F:=if i=k then 1 else 0
theorem qW {r s:Nat}{X Y:Nat->Nat->F}(h:∀ i k,i<s->k<s->sm r (λt=>X i t*Y t k)=del i k):s<=r:=by
 apply jo;intro z;obtain⟨v,⟨j,hj,hv⟩,he⟩:=sZ r s Y ∅;apply hv;have h1:sm s (λk=>sm r (λt=>X j t*Y t k)*v k)=v j:=by
  rw[aO (g:=λk=>del j k*v k) λk hk=>by rw[h j k hj hk]];rw[show (λk=>del j k*v k)=λk=>v k*(if j=k then 1 else 0) from funext λk=>by grind];show oV v hj
 rw[<- h1];rw[aO (g:=λk=>sm r (λt=>X j t*Y t k*v k)) λk _=>by rw[fN],gL];rw[aO (g:=λ_=>0) λt ht=>?_,fA];rw[show (λk=>X j t*Y t k*v k)=λk=>X j t*(Y t k*v k) from funext λk=>by grind,eO,he t ht]
 grind
structure Rk (A:Nat->Nat->F)(m n r:Nat):Prop where
 fac:∃ B C:Nat->Nat->F,∀ i j,i<m->j<n->A i j=sm r λk=>B i k*C k j
 piv:∃ P Q:Nat->Nat->F,∀ i k,i<r->k<r->sm m (λa=>P i a*sm n λb=>A a b*Q b k)=del i k
theorem Fv {m n r s:Nat}{A B C P Q:Nat->Nat->F}(hf:∀ i j,i<m->j<n->A i j=sm r λk=>B i k*C k j)(hp:∀ i k,i<s->k<s->sm m (λa=>P i a*sm n λb=>A a b*Q b k)=del i k):s<=r:=by
 show qW (X:=λi t=>sm m λa=>P i a*B a t) (Y:=λt k=>sm n λb=>C t b*Q b k) λi k hi hk=>?_;rw[<- hp i k hi hk];have e1:∀ a,a<m->(sm n λb=>A a b*Q b k)=sm r λt=>B a t*sm n λb=>C t b*Q b k:=λa ha=>by
  rw[aO (g:=λb=>sm r λt=>B a t*(C t b*Q b k)) λb hb=>?_,gL]
  .exact aO λt _=>eO _ _ _
  .rw [hf a b ha hb,<- fN];show aO λt _=>by grind
 rw[aO (n:=m) (g:=λa=>sm r λt=>P i a*B a t*sm n λb=>C t b*Q b k) λa ha=>?_,gL]
 .exact aO λt _=>by rw[fN]
 .rw [e1 a ha,<- eO];show aO λt _=>by grind
theorem Rk.uniq {A:Nat->Nat->F}{m n r s:Nat}(h:Rk A m n r)(h':Rk A m n s):r=s:=by
 obtain⟨B,C,hf⟩:=h.fac;obtain⟨P,Q,hp⟩:=h.piv;obtain⟨B',C',hf'⟩:=h'.fac;obtain⟨P',Q',hp'⟩:=h'.piv;have:=Fv hf hp';have:=Fv hf' hp;omega
theorem Rk.congr {A B:Nat->Nat->F}{m n r:Nat}(h:Rk A m n r)(e:∀ i j,i<m->j<n->A i j=B i j):Rk B m n r:=by
 obtain⟨X,Y,hf⟩:=h.fac;obtain⟨P,Q,hp⟩:=h.piv;show⟨⟨X,Y,λi j hi hj=>by rw[<- e i j hi hj];show hf i j hi hj⟩,⟨P,Q,λi k hi hk=>?_⟩⟩;rw[<- hp i k hi hk];show aO λa ha=>by rw[aO (n:=n) λb hb=>by rw[<- e a b ha hb]]
noncomputable abbrev mm (n:Nat)(A B:Nat->Nat->F):Nat->Nat->F:=λi j=>sm n λk=>A i k*B k j
theorem xG (n l:Nat)(A B C:Nat->Nat->F)(i j:Nat):mm l (mm n A B) C i j=mm n A (mm l B C) i j:=by
 change sm l (λk=>sm n (λt=>A i t*B t k)*C k j)=sm n λt=>A i t*sm l λk=>B t k*C k j;rw[aO (n:=l) (g:=λk=>sm n λt=>A i t*(B t k*C k j)) λk _=>?_,gL]
 .exact aO λt _=>eO _ _ _
 .rw [<- fN];show aO λt _=>by grind
noncomputable abbrev zv:Nat->F:=λ_=>0
inductive Sp (S:(Nat->F)->Prop):(Nat->F)->Prop
 | mem {v:Nat->F}:S v->Sp S v
 | zero:Sp S zv
 | comb {u v:Nat->F} (a b:F):Sp S u->Sp S v->Sp S λj=>a*u j+b*v j
theorem Sp.trans {S T:(Nat->F)->Prop}{v:Nat->F}(h:Sp S v)(k:∀ u,S u->Sp T u):Sp T v:=by
 induction h with
 | mem h=>show k _ h
 | zero=>show .zero
 | comb a b _ _ h1 h2=>show .comb a b h1 h2
theorem Sp.smul {S:(Nat->F)->Prop}{v:Nat->F}(a:F)(h:Sp S v):Sp S λj=>a*v j:=by
 have:=Sp.comb a 0 h Sp.zero;rwa [show (λj=>a*v j+0*(zv j:F))=λj=>a*v j from funext λj=>by grind] at this
abbrev gN (L:List (Nat->F))(v:Nat->F):Prop:=Sp (· ∈ L) v
structure bA (L L':List (Nat->F)):Prop where
 le:∀ v∈L,gN L' v
 ge:∀ v∈L',gN L v
theorem bA.refl (L:List (Nat->F)):bA L L:=⟨λ_ h=>.mem h,λ_ h=>.mem h⟩
theorem bA.symm {L L':List (Nat->F)}(h:bA L L'):bA L' L:=⟨h.ge,h.le⟩
theorem bA.trans {L L' L'':List (Nat->F)}(h:bA L L')(h':bA L' L''):bA L L'':=⟨λv hv=>(h.le v hv).trans λu hu=>h'.le u hu,λv hv=>(h'.ge v hv).trans λu hu=>h.ge u hu⟩
theorem bA.mems {L L':List (Nat->F)}(h:∀ v,v∈L ↔ v∈L'):bA L L':=⟨λv hv=>.mem ((h v).mp hv),λv hv=>.mem ((h v).mpr hv)⟩
noncomputable abbrev at' (L:List (Nat->F))(i:Nat):Nat->F:=L.getD i zv
theorem ef {L:List (Nat->F)}{i:Nat}(h:i<L.length):at' L i∈L:=by
 unfold at';rw[aW,aG h];show dm h
theorem Sp.coef {L:List (Nat->F)}{v:Nat->F}(h:gN L v):∃ c:Nat->F,∀ j,v j=sm L.length λi=>c i*at' L i j:=by
 induction h with
 | mem h=>
  obtain⟨i,hi,rfl⟩:=dZ.mp h;show⟨λk=>del k i,λj=>?_⟩;rw[CQ (λk=>at' L k j) hi];unfold at';rw[aW,aG hi];rfl
 | zero=>show⟨λ_=>0,λj=>by rw[aO (g:=λ_=>0) λi _=>by grind,fA]⟩
 | comb a b _ _ h1 h2=>
  obtain⟨c,hc⟩:=h1;obtain⟨d,hd⟩:=h2;show⟨λi=>a*c i+b*d i,λj=>?_⟩;change a*_+b*_=_;rw[hc j,hd j,<- eO,<- eO,<- jT];show aO λi _=>by grind
theorem Sp.sum {S:(Nat->F)->Prop}(c:Nat->F)(u:Nat->Nat->F):∀ n:Nat,(∀ i,i<n->Sp S (u i))->Sp S λj=>sm n λi=>c i*u i j
 | 0,_=>.zero
 | n+1,h=>by
  have:=Sp.comb 1 (c n) (Sp.sum c u n λi hi=>h i ∅) (h n ∅);rwa [show (λj=>1*(sm n λi=>c i*u i j)+c n*u n j)=λj=>sm (n+1) λi=>c i*u i j from funext λj=>by show _=sm n _+_;grind] at this
structure RR (L:List (Nat->F))(n r:Nat)(c:Nat->Nat):Prop where
 rl:r<=L.length
 cn:∀ i,i<r->c i<n
 mono:∀ i k,i<k->k<r->c i<c k
 piv:∀ i k,i<r->k<r->at' L i (c k)=del i k
 low:∀ i j,i<r->j<c i->at' L i j=0
 zer:∀ i j,r<=i->i<L.length->j<n->at' L i j=0
theorem RR.expand {L:List (Nat->F)}{n r:Nat}{c:Nat->Nat}(R:RR L n r c){v:Nat->F}(h:gN L v):∀ j,j<n->v j=sm r λi=>v (c i)*at' L i j:=by
 induction h with
 | mem h=>
  obtain⟨i,hi,rfl⟩:=dZ.mp h;have e:L[i]=at' L i:=by unfold at';rw[aW,aG hi];rfl
  rw[e];intro j hj;by_cases hr:i<r
  .rw [aO (g:=λk=>at' L k j*(if i=k then 1 else 0)) λk hk=>by rw[R.piv i k hr hk];grind,oV _ hr]
  .rw [R.zer i j (d8 hr) hi hj,aO (g:=λ_=>0) λk hk=>by rw[R.zer i (c k) (d8 hr) hi (R.cn k hk)];grind,fA]
 | zero=>show λj _=>by rw[aO (g:=λ_=>0) λi _=>by grind,fA]
 | comb a b _ _ h1 h2=>
  intro j hj;change a*_+b*_=_;rw[h1 j hj,h2 j hj,<- eO,<- eO,<- jT];show aO λi _=>by grind
theorem RR.meets {L L':List (Nat->F)}{n r r':Nat}{c c':Nat->Nat}(R:RR L n r c)(R':RR L' n r' c')(h:∀ v∈L,gN L' v){i:Nat}(hi:i<r):∃ k,k<r'/\c i=c' k:=by
 have hs:=h _ (ef (dN hi R.rl));have e:=R'.expand hs (c i) (R.cn i hi);rw[R.piv i i hi hi] at e;have ne:sm r' (λk=>at' L i (c' k)*at' L' k (c i))≠0:=λz=>by
  rw[z] at e;show Field.zero_ne_one (α:=F) (by rw[<- e];simp)
 obtain⟨k,hk,hne⟩:=uf ne;show⟨k,hk,?_⟩;rcases B3 (c i) (c' k) with h1|h1|h1
 .exact absurd (by rw[R'.low k _ hk h1];grind) hne
 .exact h1
 .exact absurd (by rw[R.low i _ hi h1];grind) hne
theorem RR.uniq {L L':List (Nat->F)}{n r r':Nat}{c c':Nat->Nat}(R:RR L n r c)(R':RR L' n r' c')(h:bA L L'):r=r'/\(∀ i,i<r->c i=c' i)/\∀ i j,i<r->j<n->at' L i j=at' L' i j:=by
 have go:∀ i,i<r->i<r'/\c i=c' i:=by
  intro i
  induction i using Nat.strongRecOn with
  | _ i ih=>
   intro hi;obtain⟨k,hk,e⟩:=R.meets R' h.le hi;have hki:i<=k:=t7 λhlt=>by
    have:=(ih k hlt (oz27 hi hlt)).2;have:=R.mono k i hlt hi;omega
   have hi':i<r':=∅
   show⟨hi',?_⟩;obtain⟨l,hl,e2⟩:=R'.meets R h.ge hi';have hil:i<=l:=t7 λhlt=>by
    have:=(ih l hlt ∅).2;have:=R'.mono l i hlt hi';omega
   have h1:c' i<=c' k:=by
    rcases Nat.lt_or_eq_of_le hki with q|q
    .exact gR (R'.mono i k q hk)
    .rw [q];show aQ _
   have h2:c i<=c l:=by
    rcases Nat.lt_or_eq_of_le hil with q|q
    .exact gR (R.mono i l q hl)
    .rw [q];show aQ _
   omega
 have le1:r<=r':=t7 λhlt=>by
  have:=(go r' ∅).1;omega
 have le2:r'<=r:=t7 λhlt=>by
  obtain⟨k,hk,e⟩:=R'.meets R h.ge (i:=r) hlt;have h1:=(go k hk).2;have h2:=R'.mono k r hk hlt;omega
 show⟨∅,λi hi=>(go i hi).2,λi j hi hj=>?_⟩;have hs:=h.le _ (ef (dN hi R.rl));rw[R'.expand hs j hj];rw[aO (g:=λk=>at' L' k j*(if i=k then 1 else 0)) λk hk=>by
  rw[<- (go k ∅).2,R.piv i k hi ∅]
  grind,oV _ ∅]
theorem RR.rk {L L':List (Nat->F)}{n r:Nat}{c:Nat->Nat}(R:RR L n r c)(h:bA L' L):Rk (λi j=>at' L' i j) L'.length n r:=by
 show⟨⟨λi k=>at' L' i (c k),λk j=>at' L k j,λi j hi hj=>R.expand (h.le _ (ef hi)) j hj⟩,?_⟩;have hc:∀ k,k<r->∃ d:Nat->F,∀ j,at' L k j=sm L'.length λi=>d i*at' L' i j:=λk hk=>(h.ge _ (ef (dN hk R.rl))).coef;show⟨λk=>if hk:k<r then Classical.choose (hc k hk) else zv,λb k=>del b (c k),λi k hi hk=>?_⟩;rw[aO (g:=λa=>Classical.choose (hc i hi) a*at' L' a (c k)) λa _=>by
  change (if hk:i<r then Classical.choose (hc i hk) else zv) a*sm n (λb=>at' L' a b*(if b=c k then 1 else 0))=_;rw[dif_pos hi,tE _ (R.cn k hk)]]
 rw[<- BU (hc i hi) (c k)];show R.piv i k hi hk
end
end L3
namespace L3
open L2 Lean.Grind
def gcdL (zs:List Int):Nat:=zs.foldl (λd z=>Int.gcd z d) 0
theorem zL:∀ (zs:List Int) (d:Nat),(zs.foldl (λd z=>Int.gcd z d) d) ∣ d/\∀ z∈zs,((zs.foldl (λd z=>Int.gcd z d) d:Nat):Int) ∣ z
 | [],d=>⟨Nat.dvd_refl _,λz h=>by simp at h⟩
 | y::zs,d=>by
  obtain⟨h1,h2⟩:=zL zs (Int.gcd y d);have h3:Int.gcd y d ∣ d:=by have:=Int.gcd_dvd_natAbs_right y d;simpa using this
  show⟨Nat.dvd_trans h1 h3,λz hz=>?_⟩;rcases gf.mp hz with rfl|hz
  .exact Int.dvd_trans (Int.ofNat_dvd.mpr h1) (jj z d)
  .exact h2 z hz
theorem vD {zs:List Int}{z:Int}(h:z∈zs):(gcdL zs:Int) ∣ z:=(zL zs 0).2 z h
theorem Hv (zs:List Int)(i:Nat):gcdL zs ∣ gcdL (zs.take i):=by
 have e:gcdL zs=(zs.drop i).foldl (λd z=>Int.gcd z d) (gcdL (zs.take i)):=by
  unfold gcdL;rw[<- List.foldl_append,List.take_append_drop]
 rw[e];show (zL _ _).1
theorem Hu {zs:List Int}{i:Nat}{z:Int}(h:zs[i]?=some z):gcdL (zs.take (i+1))=Int.gcd z (gcdL (zs.take i)):=by
 rw[List.take_add_one,h];unfold gcdL;rw[List.foldl_append];rfl
theorem Fs {zs:List Int}(h:gcdL zs=0){z:Int}(hz:z∈zs):z=0:=by
 have:=vD hz;rw[h] at this;show Int.zero_dvd.mp this
noncomputable def dQ (p:Int)(zs:List Int):List Int:=if p=0 then zs.map (· / (gcdL zs:Int)) else zs.map (· % p)
theorem G5 {zs:List Int}(h:gcdL zs=1):dQ 0 zs=zs:=by
 unfold dQ;rw[if_pos rfl,h];have:(λz:Int=>z / ((1:Nat):Int))=id:=by funext z;simp
 rw[this,List.map_id]
theorem AI {zs:List Int}(h:gcdL zs=0):dQ 0 zs=zs:=by
 unfold dQ;rw[if_pos rfl];have:∀ z∈zs,z / (gcdL zs:Int)=id z:=λz hz=>by rw[Fs h hz];simp
 rw[List.map_congr_left this,List.map_id]
theorem ES {p:Int}{zs:List Int}:(dQ p zs).length=zs.length:=by unfold dQ;split <;> simp
theorem EK {f:Int->Int}(h:f 0=0)(zs:List Int)(j:Nat):(zs.map f).getD j 0=f (zs.getD j 0):=by
 rw[aW,aW,bj];cases zs[j]? with
 | none=>show h.symm
 | some z=>rfl
theorem Gp {f:Int->Int->Int}(h:f 0 0=0){xs ys:List Int}(hl:xs.length=ys.length)(j:Nat):(List.zipWith f xs ys).getD j 0=f (xs.getD j 0) (ys.getD j 0):=by
 rw[aW,aW,aW,yr];by_cases hj:j<xs.length
 .rw [aG hj,aG (show j<ys.length by omega)];rfl
 .rw [dH ∅,dH ∅];show h.symm
theorem Ao {zs:List Int}(j:Nat):zs.getD j 0∈zs\/zs.getD j 0=0:=by
 rw[aW];cases e:zs[j]? with
 | none=>show .inr rfl
 | some z=>show .inl (aY e)
theorem xC {p:Int}(zs:List Int)(j:Nat):(dQ p zs).getD j 0=if p=0 then zs.getD j 0 / (gcdL zs:Int) else zs.getD j 0 % p:=by
 unfold dQ;split
 .exact EK (f:=(· / (gcdL zs:Int))) (by simp) zs j
 .exact EK (f:=(· % p)) (by simp) zs j
theorem Fw {p:Int}{zs:List Int}{j:Nat}(h:zs.getD j 0=0):(dQ p zs).getD j 0=0:=by
 rw[xC,h];split <;> simp
def Rw (p:Int)(W:Nat)(zs:List Int):Prop:=zs.length=W/\∀ z∈zs,Rz p z
theorem Rw.at {p:Int}{W:Nat}{zs:List Int}(h:Rw p W zs)(h0:0<=p)(j:Nat):Rz p (zs.getD j 0):=by
 rcases Ao (zs:=zs) j with m|e
 .exact h.2 _ m
 .rw [e];rcases B5 p 0 with h|h|h
  .omega
  .exact .inl h
  .exact .inr ⟨∅,h⟩
theorem zJ {p:Int}{W:Nat}{zs:List Int}(h0:0<=p)(h:zs.length=W):Rw p W (dQ p zs):=by
 show⟨by rw[ES];show h,λz hz=>?_⟩;unfold dQ at hz;split at hz
 .exact .inl (by assumption)
 .refine ao (bR.mp hz) λy _ e93=>?_;obtain rfl:=e93;show .inr ⟨gO _ (by assumption),gA _ ∅⟩
def fJ (row lead:List Int)(k:Nat):List Int:=List.zipWith (λx y=>lead.getD k 0 / (Int.gcd (row.getD k 0) (lead.getD k 0):Int)*x-row.getD k 0 / (Int.gcd (row.getD k 0) (lead.getD k 0):Int)*y) row lead
noncomputable def dE (p:Int)(row lead:List Int)(k:Nat):List Int:=if row.getD k 0=0 then row else dQ p (fJ row lead k)
theorem ED {p:Int}{W:Nat}{row lead:List Int}{k:Nat}(h0:0<=p)(h:Rw p W row)(h':Rw p W lead):Rw p W (dE p row lead k):=by
 unfold dE;split
 .exact h
 .exact zJ h0 (by unfold fJ;rw[r_,h.1,h'.1];omega)
theorem w_ {row lead:List Int}(hl:row.length=lead.length)(k j:Nat):(fJ row lead k).getD j 0=lead.getD k 0 / (Int.gcd (row.getD k 0) (lead.getD k 0):Int)*row.getD j 0-row.getD k 0 / (Int.gcd (row.getD k 0) (lead.getD k 0):Int)*lead.getD j 0:=by
 unfold fJ;show Gp (by simp) hl j
theorem ID {p:Int}{row lead:List Int}{k j:Nat}(hl:row.length=lead.length)(h:row.getD j 0=0)(h':lead.getD j 0=0):(dE p row lead k).getD j 0=0:=by
 unfold dE;split
 .exact h
 .exact Fw (by rw[w_ hl,h,h'];simp)
theorem Eg {p:Int}{row lead:List Int}{k:Nat}(hl:row.length=lead.length):(dE p row lead k).getD k 0=0:=by
 unfold dE;split
 .assumption
 .refine Fw ?_;rw[w_ hl];have d1:(Int.gcd (row.getD k 0) (lead.getD k 0):Int) ∣ row.getD k 0:=jj ..;have d2:(Int.gcd (row.getD k 0) (lead.getD k 0):Int) ∣ lead.getD k 0:=ke ..;generalize (Int.gcd (row.getD k 0) (lead.getD k 0):Int)=g at *;have e1:=n_ d1;have e2:=n_ d2;generalize row.getD k 0 / g=u at *;generalize lead.getD k 0 / g=v at *;rw[<- e1,<- e2]
  grind
section
variable {p:Int}{F:Type}[Field F]
noncomputable def vz (zs:List Int):Nat->F:=λj=>ic (zs.getD j 0)
theorem kj:(1:F)≠0:=λz=>Field.zero_ne_one (α:=F) z.symm
theorem D7 (hF:aK p F)(zs:List Int):∃ c:F,c≠0/\∀ j,c*vz (dQ p zs) j=vz zs j:=by
 by_cases hp:p=0
 .by_cases hg:gcdL zs=0
  .subst hp;rw[AI hg];show⟨1,kj,λj=>by grind⟩
  .refine ⟨ic (gcdL zs:Int),hF.ne0 (.inl hp) ∅,λj=>?_⟩;unfold vz;rw[xC,if_pos hp,<- eN,rY,n_];rcases Ao (zs:=zs) j with m|e
   .exact vD m
   .rw [e];show Int.dvd_zero _
 .refine ⟨1,kj,λj=>?_⟩;unfold vz;rw[xC,if_neg hp,hF.modF hp]
  grind
theorem tG {W:Nat}{row lead:List Int}{k:Nat}(h0:0<=p)(hF:aK p F)(h:Rw p W row)(h':Rw p W lead)(hk:lead.getD k 0≠0):∃ a b:F,a≠0/\∀ j,vz (dE p row lead k) j=a*vz row j+b*vz lead j:=by
 unfold dE;split
 .exact aM 1 0 ⟨kj,λj=>by grind⟩
 .have hl:row.length=lead.length:=h.1.trans h'.1.symm;show ao (D7 hF (fJ row lead k)) λc hc e=>?_;have d2:(Int.gcd (row.getD k 0) (lead.getD k 0):Int) ∣ lead.getD k 0:=ke ..;have e2:=n_ d2;have l0:(ic (lead.getD k 0):F)≠0:=hF.ne0 (h'.at h0 k) hk;have ek:∀ j,(vz (fJ row lead k) j:F)=ic (lead.getD k 0 / (Int.gcd (row.getD k 0) (lead.getD k 0):Int))*vz row j-ic (row.getD k 0 / (Int.gcd (row.getD k 0) (lead.getD k 0):Int))*vz lead j:=λj=>by
   unfold vz;rw[w_ hl,vo,eN,eN]
  generalize (Int.gcd (row.getD k 0) (lead.getD k 0):Int)=g at *;have k0:(ic (lead.getD k 0 / g):F)≠0:=λz=>l0 (by rw[<- e2,eN,z];grind);generalize (ic (lead.getD k 0 / g):F)=u at *;generalize (ic (row.getD k 0 / g):F)=v at *;show aM (u / c) (-(v / c)) ⟨by grind,λj=>?_⟩;have e3:=e j;rw[ek j] at e3;generalize (vz (dQ p (fJ row lead k)) j:F)=y at *
  grind
theorem zt {Z:List (List Int)}{v:Nat->F}(h:v∈Z.map vz):∃ row∈Z,v=vz row:=by
 show ao (bR.mp h) λrow h1 h2=>?_;show⟨row,h1,h2.symm⟩
theorem Fy {W k:Nat}{A B:List (List Int)}{lead:List Int}(h0:0<=p)(hF:aK p F)(hA:∀ row∈A,Rw p W row)(hB:lead∈B)(hL:Rw p W lead)(hk:lead.getD k 0≠0):
  bA (F:=F) ((A.map (λrow=>dE p row lead k)++B).map vz) ((A++B).map vz):=by
 show⟨λv hv=>?_,λv hv=>?_⟩
 .refine ao (zt hv) λrow hr e94=>?_;obtain rfl:=e94;rcases cj.mp hr with hr|hr
  .refine ao (bR.mp hr) λrow' hr' e95=>?_;obtain rfl:=e95;show cE (tG (k:=k) h0 hF (hA _ hr') hL hk) λa b _ e=>?_;rw[show vz (dE p row' lead k)=λj=>a*vz row' j+b*vz lead j from funext e];show .comb a b (.mem (bR.mpr ⟨row',cj.mpr (.inl hr'),rfl⟩)) (.mem (bR.mpr ⟨lead,cj.mpr (.inr hB),rfl⟩))
  .exact .mem (bR.mpr ⟨row,cj.mpr (.inr hr),rfl⟩)
 .refine ao (zt hv) λrow hr e96=>?_;obtain rfl:=e96;rcases cj.mp hr with hr|hr
  .refine cE (tG (k:=k) h0 hF (hA _ hr) hL hk) λa b ha e=>?_;rw[show (vz row:Nat->F)=λj=>(1 / a)*vz (dE p row lead k) j+(-(b / a))*vz lead j from funext λj=>by rw[e j];grind];show .comb _ _ (.mem (bR.mpr ⟨_,cj.mpr (.inl (bR.mpr ⟨row,hr,rfl⟩)),rfl⟩)) (.mem (bR.mpr ⟨lead,cj.mpr (.inr hB),rfl⟩))
  .exact .mem (bR.mpr ⟨row,cj.mpr (.inr hr),rfl⟩)
end
inductive Sw (p:Int) (Z:List (List Int)):Nat->List (List Int)->List (List Int)->List Nat->Prop
 | start:Sw p Z 0 [] Z []
 | skip {k:Nat} {done left:List (List Int)} {pl:List Nat}:Sw p Z k done left pl->(∀ row∈left,row.getD k 0=0)->Sw p Z (k+1) done left pl
 | take {k:Nat} {done left:List (List Int)} {pl:List Nat} (i:Nat) (lead:List Int):Sw p Z k done left pl->left[i]?=some lead->lead.getD k 0≠0->Sw p Z (k+1) (done++[lead]) ((left.eraseIdx i).map λrow=>dE p row lead k) (pl++[k])
structure xV (p:Int)(W:Nat)(Z:List (List Int))(k:Nat)(done left:List (List Int))(pl:List Nat):Prop where
 len:done.length=pl.length
 all:done.length+left.length=Z.length
 rw:∀ row∈done++left,Rw p W row
 asc:∀ i j,i<j->j<pl.length->pl.getD i 0<pl.getD j 0
 lt:∀ i,i<pl.length->pl.getD i 0<k
 piv:∀ i,i<pl.length->(done.getD i []).getD (pl.getD i 0) 0≠0
 low:∀ i j,i<pl.length->j<pl.getD i 0->(done.getD i []).getD j 0=0
 zer:∀ row∈left,∀ j,j<k->row.getD j 0=0
 sp:∀ (F:Type) [Field F],aK p F->bA (F:=F) ((done++left).map vz) (Z.map vz)
theorem HG {α:Type}{xs:List α}{i:Nat}{x y:α}(h:xs[i]?=some x)(hy:y∈xs):y=x\/y∈xs.eraseIdx i:=by
 obtain⟨j,hj,rfl⟩:=dZ.mp hy;by_cases e:j=i
 .subst e;rw[aG hj] at h;cases h;show .inl rfl
 .refine .inr ?_;rw[List.mem_eraseIdx_iff_getElem?];show⟨j,e,aG hj⟩
theorem kG {α:Type}{xs:List α}{x d:α}{i:Nat}:(xs++[x]).getD i d=if i<xs.length then xs.getD i d else if i=xs.length then x else d:=by
 rw[aW,aW];by_cases h:i<xs.length
 .rw [if_pos h,fq h]
 .rw [if_neg h,fu ∅];by_cases e:i=xs.length
  .rw [if_pos e,e,rX];rfl
  .rw [if_neg e,dH (by simp;omega)];rfl
theorem Sw.inv {p:Int}{W:Nat}{Z:List (List Int)}{k:Nat}{done left:List (List Int)}{pl:List Nat}(h0:0<=p)(hZ:∀ row∈Z,Rw p W row)(h:Sw p Z k done left pl):xV p W Z k done left pl:=by
 induction h with
 | start=>show⟨rfl,by simp,by simpa using hZ,λi j _ h=>by simp at h,λi h=>by simp at h,λi h=>by simp at h,λi j h=>by simp at h,λ_ _ j h=>∅,λF _ _=>bA.refl _⟩
 | @skip k done left pl h hz ih=>
  show⟨ih.len,ih.all,ih.rw,ih.asc,λi hi=>o9 (ih.lt i hi),ih.piv,ih.low,λrow hr j hj=>?_,ih.sp⟩;by_cases e:j=k
  .subst e;show hz row hr
  .exact ih.zer row hr j ∅
 | @take k done left pl i lead h hi hk ih=>
  have hlm:lead∈left:=aY hi;have hil:i<left.length:=(b_.mp hi).1;have rl:Rw p W lead:=ih.rw _ (cj.mpr (.inr hlm));have re:∀ row∈left.eraseIdx i,Rw p W row:=λrow hr=>ih.rw _ (cj.mpr (.inr (pe hr)));have hlen:=ih.len;show⟨by rw[bN,bN,hlen];rfl,?_,λrow hr=>?_,λa b hab hb=>?_,λa ha=>?_,λa ha=>?_,λa b ha hb=>?_,λrow hr j hj=>?_,λF _ hF=>?_⟩
  .rw [bN,aB,List.length_eraseIdx_of_lt hil];have:=ih.all;simp only[kM,tW];omega
  .rcases cj.mp hr with hr|hr
   .rcases cj.mp hr with hr|hr
    .exact ih.rw _ (cj.mpr (.inl hr))
    .rw [cS.mp hr];show rl
   .refine ao (bR.mp hr) λrow' hr' e97=>?_;obtain rfl:=e97;show ED h0 (re _ hr') rl
  .rw [bN] at hb;simp only[kM,tW] at hb;rw[kG,kG,if_pos ∅];by_cases e:b<pl.length
   .rw [if_pos e];show ih.asc a b hab e
   .rw [if_neg e,if_pos ∅];show ih.lt a ∅
  .rw [bN] at ha;simp only[kM,tW] at ha;rw[kG];by_cases e:a<pl.length
   .rw [if_pos e];show o9 (ih.lt a e)
   .rw [if_neg e,if_pos ∅];omega
  .rw [bN] at ha;simp only[kM,tW] at ha;rw[kG,kG];by_cases e:a<pl.length
   .rw [if_pos e,if_pos ∅];show ih.piv a e
   .rw [if_neg e,if_neg ∅,if_pos ∅,if_pos ∅];show hk
  .rw [bN] at ha;simp only[kM,tW] at ha;rw[kG] at hb ⊢;by_cases e:a<pl.length
   .rw [if_pos e] at hb;rw[if_pos ∅];show ih.low a b e hb
   .rw [if_neg e,if_pos ∅] at hb;rw[if_neg ∅,if_pos ∅];show ih.zer _ hlm b hb
  .refine ao (bR.mp hr) λrow' hr' e98=>?_;obtain rfl:=e98;have hl:row'.length=lead.length:=(re _ hr').1.trans rl.1.symm;by_cases e:j=k
   .subst e;show Eg hl
   .exact ID hl (ih.zer _ (pe hr') j ∅) (ih.zer _ hlm j ∅)
  .refine bA.trans ?_ (ih.sp F hF);show bA.trans (bA.mems (L':=((left.eraseIdx i).map (λrow=>dE p row lead k)++(done++[lead])).map vz) λv=>?_) (bA.trans (Fy (k:=k) h0 hF re (by simp) rl hk) (bA.mems λv=>?_))
   .simp only [bR,cj];show⟨λ⟨a,b,c⟩=>⟨a,b.symm,c⟩,λ⟨a,b,c⟩=>⟨a,b.symm,c⟩⟩
   .simp only [bR,cj,cS];constructor
    .intro e91;show ao e91 λa b c=>?_;clear e91;show⟨a,?_,c⟩;rcases b with b|b|b
     .exact .inr (pe b)
     .exact .inl b
     .rw [b];show .inr hlm
    .intro e92;show ao e92 λa b c=>?_;clear e92;show⟨a,?_,c⟩;rcases b with b|b
     .exact .inr (.inl b)
     .rcases HG hi b with b|b
      .exact .inr (.inr b)
      .exact .inl b
noncomputable def fk (p:Int)(pl:List Nat)(R0:List (List Int)):Nat->List (List Int)
 | 0=>R0
 | t+1=>((fk p pl R0 t).take (pl.length-1-t)).map (λrow=>dE p row ((fk p pl R0 t).getD (pl.length-1-t) []) (pl.getD (pl.length-1-t) 0))++(fk p pl R0 t).drop (pl.length-1-t)
theorem cQ {α:Type}{xs:List α}{i:Nat}{d:α}(h:i<xs.length):xs.getD i d=xs[i]:=by rw[aW,aG h];rfl
theorem ng {p:Int}{pl:List Nat}{R0:List (List Int)}{t i:Nat}:(fk p pl R0 (t+1)).getD i [] =
  if i<pl.length-1-t/\i<(fk p pl R0 t).length then dE p ((fk p pl R0 t).getD i []) ((fk p pl R0 t).getD (pl.length-1-t) []) (pl.getD (pl.length-1-t) 0) else (fk p pl R0 t).getD i []:=by
 change (((fk p pl R0 t).take (pl.length-1-t)).map (λrow=>dE p row ((fk p pl R0 t).getD (pl.length-1-t) []) (pl.getD (pl.length-1-t) 0))++(fk p pl R0 t).drop (pl.length-1-t)).getD i []=_;generalize fk p pl R0 t=R;generalize pl.length-1-t=a;rw[aW];by_cases h:i<a/\i<R.length
 .rw [if_pos h,fq (by rw[aB,i8];omega),bj,Cj h.1,aG h.2,cQ h.2];rfl
 .rw [if_neg h,fu (by rw[aB,i8];omega),aB,i8,B8,aW];by_cases h2:i<R.length
  .congr 2;omega
  .rw [dH ∅,dH ∅]
structure wN (p:Int)(W wide:Nat)(Z:List (List Int))(pl:List Nat)(F:Type)[Field F](t:Nat)(R:List (List Int)):Prop where
 len:R.length=Z.length
 rw:∀ row∈R,Rw p W row
 piv:∀ i,i<pl.length->(vz (R.getD i []) (pl.getD i 0):F)≠0
 low:∀ i j,i<pl.length->j<pl.getD i 0->(vz (R.getD i []) j:F)=0
 zer:∀ i j,pl.length<=i->i<R.length->j<wide->(vz (R.getD i []) j:F)=0
 up:∀ i l,i<pl.length->l<pl.length->pl.length-t<=l->l≠i->(vz (R.getD i []) (pl.getD l 0):F)=0
 sp:bA (F:=F) (R.map vz) (Z.map vz)
theorem tF {F:Type}[Field F]{zs:List Int}{j:Nat}(h:zs.getD j 0=0):(vz zs j:F)=0:=by unfold vz;rw[h,oP]
theorem jY {α:Type}{xs:List α}{x:α}(h:x∈xs)(d:α):∃ i,i<xs.length/\xs.getD i d=x:=by
 obtain⟨i,hi,rfl⟩:=dZ.mp h;show⟨i,hi,cQ hi⟩
theorem bD {α:Type}{xs:List α}{i:Nat}{d:α}(h:i<xs.length):xs.getD i d∈xs:=by rw[cQ h];show dm h
theorem Sw.back {p:Int}{W wide:Nat}{Z:List (List Int)}{done left:List (List Int)}{pl:List Nat}(h0:0<=p)(I:xV p W Z wide done left pl){F:Type}[Field F](hF:aK p F):
  ∀ t,t<=pl.length->wN p W wide Z pl F t (fk p pl (done++left) t)
 | 0,_=>by
  have hlen:=I.len;have e:∀ i,i<pl.length->(done++left).getD i []=done.getD i []:=λi hi=>by
   rw[aW,fq ∅,aW]
  show⟨by show (done++left).length=_;rw[bN];show I.all,I.rw,λi hi=>?_,λi j hi hj=>?_,λi j hi hi2 hj=>?_,λi l hi hl h=>∅,I.sp F hF⟩
  .change (ic (((done++left).getD i []).getD (pl.getD i 0) 0):F)≠0;have hr:(done++left).getD i []∈done++left:=bD (by rw[bN];omega);show hF.ne0 ((I.rw _ hr).at h0 _) (by rw[e i hi];show I.piv i hi)
  .exact tF (by show ((done++left).getD i []).getD j 0=0;rw[e i hi];show I.low i j hi hj)
  .have hi2':i<done.length+left.length:=by rw[<- bN];show hi2
   show tF (I.zer _ ?_ j hj);change (done++left).getD i []∈left;rw[aW,fu ∅,<- aW];show bD ∅
 | t+1,ht=>by
  have B:=Sw.back h0 I hF t ∅;have hlen:=I.len;have hall:=I.all;have bat:∀ i,(fk p pl (done++left) (t+1)).getD i []=_:=λi=>ng (p:=p) (pl:=pl) (R0:=done++left) (t:=t) (i:=i);have bdef:fk p pl (done++left) (t+1)=((fk p pl (done++left) t).take (pl.length-1-t)).map (λrow=>dE p row ((fk p pl (done++left) t).getD (pl.length-1-t) []) (pl.getD (pl.length-1-t) 0))++(fk p pl (done++left) t).drop (pl.length-1-t):=rfl;generalize fk p pl (done++left) (t+1)=R' at *;generalize fk p pl (done++left) t=R at *;have bl:=B.len;have ha:pl.length-1-t<R.length:=∅
  have hap:pl.length-1-t<pl.length:=∅
  have hla:R.getD (pl.length-1-t) []∈R:=bD ha;have rl:=B.rw _ hla;have pa:=B.piv _ hap;have ka:(R.getD (pl.length-1-t) []).getD (pl.getD (pl.length-1-t) 0) 0≠0:=λz=>pa (tF z)
  have lowA:=B.low (pl.length-1-t);have upA:=B.up (pl.length-1-t);generalize hla':R.getD (pl.length-1-t) []=lead at *;have ascA:∀ i,i<pl.length-1-t->pl.getD i 0<pl.getD (pl.length-1-t) 0:=λi hi=>I.asc i _ hi hap;have ri:∀ i,i<R.length->Rw p W (R.getD i []):=λi hi=>B.rw _ (bD hi);show⟨?_,λrow hr=>?_,λi hi=>?_,λi j hi hj=>?_,λi j hi hi2 hj=>?_,λi l hi hl h hne=>?_,?_⟩
  .rw [bdef,bN,aB,i8,o8];omega
  .rw [bdef] at hr;rcases cj.mp hr with hr|hr
   .refine ao (bR.mp hr) λrow' hr' e99=>?_;obtain rfl:=e99;show ED h0 (B.rw _ (wG hr')) rl
   .exact B.rw _ (BQ hr)
  .rw [bat];split
   .rename_i hc
    show cE (tG (k:=pl.getD (pl.length-1-t) 0) h0 hF (ri i hc.2) rl ka) λa b ha0 e=>?_;rw[e,lowA _ hap (ascA i hc.1)];have:=B.piv i hi
    grind
   .exact B.piv i hi
  .rw [bat];split
   .rename_i hc
    show cE (tG (k:=pl.getD (pl.length-1-t) 0) h0 hF (ri i hc.2) rl ka) λa b ha0 e=>?_;have:=ascA i hc.1;rw[e,lowA j hap ∅,B.low i j hi hj]
    grind
   .exact B.low i j hi hj
  .rw [bat,if_neg ∅];show B.zer i j hi ?_ hj;have:R'.length=R.length:=by
    rw[bdef,bN,aB,i8,o8];omega
   omega
  .rw [bat];by_cases hla2:l=pl.length-1-t
   .subst hla2;by_cases hc:i<pl.length-1-t
    .rw [if_pos ⟨hc,∅⟩];show tF (Eg ((ri i ∅).1.trans rl.1.symm))
    .rw [if_neg ∅];show B.low i _ hi (I.asc _ _ ∅ hi)
   .have hu:=B.up i l hi hl ∅ hne;split
    .rename_i hc
     show cE (tG (k:=pl.getD (pl.length-1-t) 0) h0 hF (ri i hc.2) rl ka) λa b ha0 e=>?_;rw[e,hu,upA l hap hl ∅ ∅]
     grind
    .exact hu
  .refine bA.trans ?_ B.sp;rw[bdef];have hm:lead∈R.drop (pl.length-1-t):=by
    rw[<- hla',cQ ha,List.drop_eq_getElem_cons ha];show o_
   have:=Fy (A:=R.take (pl.length-1-t)) (B:=R.drop (pl.length-1-t)) (k:=pl.getD (pl.length-1-t) 0) h0 hF (λrow hr=>B.rw _ (wG hr)) hm rl ka;rwa [List.take_append_drop] at this
noncomputable def iY (pl:List Nat)(R:List (List Int))(i:Nat):Int:=if i<pl.length then (R.getD i []).getD (pl.getD i 0) 0 else 1
theorem wN.lead {p:Int}{W wide:Nat}{Z:List (List Int)}{pl:List Nat}{F:Type}[Field F]{R:List (List Int)}(B:wN p W wide Z pl F pl.length R)(i:Nat):(ic (iY pl R i):F)≠0:=by
 unfold iY;split
 .exact B.piv i (by assumption)
 .rw [iF];show kj
theorem wN.rr {p:Int}{W wide:Nat}{Z:List (List Int)}{pl:List Nat}{F:Type}[Field F]{R:List (List Int)}(B:wN p W wide Z pl F pl.length R)(asc:∀ i j,i<j->j<pl.length->pl.getD i 0<pl.getD j 0)(lt:∀ i,i<pl.length->pl.getD i 0<wide)(hr:pl.length<=Z.length){L:List (Nat->F)}(hl:L.length=Z.length)(he:∀ i,i<Z.length->at' L i=λj=>vz (R.getD i []) j / ic (iY pl R i)):RR L wide pl.length (λi=>pl.getD i 0)/\bA L (Z.map vz):=by
 have bl:=B.len;show⟨⟨∅,lt,λi k h1 h2=>asc i k h1 h2,λi k hi hk=>?_,λi j hi hj=>?_,λi j hi hi2 hj=>?_⟩,?_⟩
 .rw [he i ∅];change (vz (R.getD i []) (pl.getD k 0):F) / ic (iY pl R i)=if i=k then 1 else 0
  by_cases e:i=k
  .subst e;rw[if_pos rfl];have:=B.piv i hi;have e2:(ic (iY pl R i):F)=vz (R.getD i []) (pl.getD i 0):=by unfold iY vz;rw[if_pos hi]
   rw[e2]
   grind
  .rw [if_neg e,B.up i k hi hk ∅ (λz=>e z.symm)];have:=B.lead i
   grind
 .rw [he i ∅];change (vz (R.getD i []) j:F) / ic (iY pl R i)=0;rw[B.low i j hi hj];have:=B.lead i
  grind
 .rw [he i ∅];change (vz (R.getD i []) j:F) / ic (iY pl R i)=0;rw[B.zer i j hi ∅ hj];have:=B.lead i
  grind
 .refine bA.trans ⟨λv hv=>?_,λv hv=>?_⟩ B.sp
  .refine ao (jY hv zv) λi hi e=>?_;have e':v=at' L i:=e.symm;rw[e',he i ∅];have hm:gN (R.map vz) (vz (R.getD i []):Nat->F):=.mem (bR.mpr ⟨_,bD ∅,rfl⟩);have:=hm.smul (1 / ic (iY pl R i));rwa [show (λj=>1 / ic (iY pl R i)*vz (R.getD i []) j:Nat->F)=λj=>vz (R.getD i []) j / ic (iY pl R i) from funext λj=>by have:=B.lead i;grind] at this
  .refine ao (zt hv) λrow hr e910=>?_;obtain rfl:=e910;show ao (jY hr []) λi hi e911=>?_;obtain rfl:=e911;have hm:gN L (at' L i):=.mem (ef ∅);have:=hm.smul (ic (iY pl R i));rwa [show (λj=>ic (iY pl R i)*at' L i j:Nat->F)=vz (R.getD i []) from funext λj=>by rw[he i ∅];have:=B.lead i;grind] at this
def aP (n:Nat)(row:List Int):Prop:=∀ z∈row,Bt n z
theorem aP.le {n m:Nat}{row:List Int}(h:aP n row)(hm:n<=m):aP m row:=λz hz=>(h z hz).le hm
theorem aP.at {n:Nat}{row:List Int}(h:aP n row)(j:Nat):Bt n (row.getD j 0):=by
 rcases Ao (zs:=row) j with m|e
 .exact h _ m
 .rw [e];show xE n
theorem Iv {p:Int}{n:Nat}{row:List Int}(hp:0<=p)(p97:p<=97)(h7:7<=n)(h:p=0->aP n row):aP n (dQ p row):=λz hz=>by
 unfold dQ at hz;split at hz
 .rename_i h0
  show ao (bR.mp hz) λy hy e912=>?_;obtain rfl:=e912;show (h h0 y hy).quo (vD hy)
 .rename_i h0
  show ao (bR.mp hz) λy hy e913=>?_;obtain rfl:=e913;have h1:=gO y h0;have h2:=gA y (show 0<p by omega);show dF h7 ∅
theorem HW {n:Nat}{row lead:List Int}{k:Nat}(h:aP n row)(h':aP n lead):aP (2*n+1) (fJ row lead k):=λz hz=>by
 obtain⟨j,hj0,rfl⟩:=dZ.mp hz;have hj:j<min row.length lead.length:=by have:=hj0;unfold fJ at this;rwa [r_] at this
 have e:(fJ row lead k)[j]'(by unfold fJ;rw[r_];show hj)=lead.getD k 0 / (Int.gcd (row.getD k 0) (lead.getD k 0):Int)*row[j]'(by omega)-row.getD k 0 / (Int.gcd (row.getD k 0) (lead.getD k 0):Int)*lead[j]'(by omega):=by
  unfold fJ;rw[List.getElem_zipWith]
 rw[e];have b1:=((h'.at k).quo (ke (row.getD k 0) (lead.getD k 0))).mul (h _ (dm (show j<row.length by omega)));have b2:=((h.at k).quo (jj (row.getD k 0) (lead.getD k 0))).mul (h' _ (dm (show j<lead.length by omega)));have:=Bt.sub b1 b2;rwa [show n+n+1=2*n+1 by omega] at this
end L3
namespace L2
open PySem PySem.Spec PyProof.Rows
section
variable {H:Hp}{Q:VK}{σ:St}{x:V}{z0 z1 z2 z3 z4 z5 z6 z7 z8 z9 z10 z11 z12:Option V}
theorem iX {i:Nat}(h:σ[i]?=some (some x)):eG i σ H Q=Q x H:=by
 unfold eG;rw[h];show propext ⟨λ⟨v,e,q⟩=>by cases e;show q,λq=>⟨x,rfl,q⟩⟩
theorem tv0:eG 0 (some x::σ) H Q=Q x H:=iX rfl
theorem tv1:eG 1 (z0::some x::σ) H Q=Q x H:=iX rfl
theorem tv2:eG 2 (z0::z1::some x::σ) H Q=Q x H:=iX rfl
theorem tv3:eG 3 (z0::z1::z2::some x::σ) H Q=Q x H:=iX rfl
theorem tv4:eG 4 (z0::z1::z2::z3::some x::σ) H Q=Q x H:=iX rfl
theorem tv5:eG 5 (z0::z1::z2::z3::z4::some x::σ) H Q=Q x H:=iX rfl
theorem tv6:eG 6 (z0::z1::z2::z3::z4::z5::some x::σ) H Q=Q x H:=iX rfl
theorem tv7:eG 7 (z0::z1::z2::z3::z4::z5::z6::some x::σ) H Q=Q x H:=iX rfl
theorem tv8:eG 8 (z0::z1::z2::z3::z4::z5::z6::z7::some x::σ) H Q=Q x H:=iX rfl
theorem tv9:eG 9 (z0::z1::z2::z3::z4::z5::z6::z7::z8::some x::σ) H Q=Q x H:=iX rfl
theorem tv10:eG 10 (z0::z1::z2::z3::z4::z5::z6::z7::z8::z9::some x::σ) H Q=Q x H:=iX rfl
theorem tv11:eG 11 (z0::z1::z2::z3::z4::z5::z6::z7::z8::z9::z10::some x::σ) H Q=Q x H:=iX rfl
theorem tv12:eG 12 (z0::z1::z2::z3::z4::z5::z6::z7::z8::z9::z10::z11::some x::σ) H Q=Q x H:=iX rfl
theorem tv13:eG 13 (z0::z1::z2::z3::z4::z5::z6::z7::z8::z9::z10::z11::z12::some x::σ) H Q=Q x H:=iX rfl
theorem pI0 {g:Int->Int->V}{i j:Int}:rI0 g (.int i) (.int j) H Q=Q (g i j) H:=propext ⟨λ⟨_,_,e,e',q⟩=>by cases e;cases e';show q,λq=>⟨i,j,rfl,rfl,q⟩⟩
theorem pI {D:Int->Int->Prop}{g:Int->Int->V}{i j:Int}:rI D g (.int i) (.int j) H Q=(D i j/\Q (g i j) H):=propext ⟨λ⟨_,_,e,e',q⟩=>by cases e;cases e';show q,λq=>⟨i,j,rfl,rfl,q⟩⟩
theorem pU {g:Int->V}{i:Int}:rU g (.int i) H Q=Q (g i) H:=propext ⟨λ⟨_,e,q⟩=>by cases e;show q,λq=>⟨i,rfl,q⟩⟩
theorem pIxL {K:Frag}{a:Addr}{k:Int}:rIxL K (.ref a) (.int k) H Q=∃ xs,aj K H a xs/\∃ v,atI xs k=some v/\Q v H:=propext ⟨λ⟨_,xs,_,v,e,e',h,h',q⟩=>by cases e;cases e';show⟨xs,h,v,h',q⟩,λ⟨xs,h,v,h',q⟩=>⟨a,xs,k,v,rfl,rfl,h,h',q⟩⟩
theorem pIxT {K:Frag}{a:Addr}{k:Int}:rIxT K (.ref a) (.int k) H Q=∃ xs,aE K H a xs/\∃ v,atI xs k=some v/\Q v H:=propext ⟨λ⟨_,xs,_,v,e,e',h,h',q⟩=>by cases e;cases e';show⟨xs,h,v,h',q⟩,λ⟨xs,h,v,h',q⟩=>⟨a,xs,k,v,rfl,rfl,h,h',q⟩⟩
theorem pEb {b:Bool}{p:Bool->Prop}:(∃ k,V.bl b=V.bl k/\p k)=p b:=propext ⟨λ⟨_,e,q⟩=>by cases e;show q,λq=>⟨b,rfl,q⟩⟩
theorem pEi {b:Int}{p:Int->Prop}:(∃ k,V.int b=V.int k/\p k)=p b:=propext ⟨λ⟨_,e,q⟩=>by cases e;show q,λq=>⟨b,rfl,q⟩⟩
theorem pEr {b:Addr}{p:Addr->Prop}:(∃ k,V.ref b=V.ref k/\p k)=p b:=propext ⟨λ⟨_,e,q⟩=>by cases e;show q,λq=>⟨b,rfl,q⟩⟩
theorem pEqT {K:Frag}{b:Bool}{a c:Addr}:sO K b (.ref a) (.ref c) H Q=∃ xs,aE K H a xs/\∃ ys,aE K H c ys/\∃ bs,vp K H 6 xs ys bs/\Q (V.bl (if b=true then !bs.all id else bs.all id)) H:=propext ⟨λ⟨_,_,xs,ys,bs,e,e',h,h',h'',q⟩=>by cases e;cases e';show⟨xs,h,ys,h',bs,h'',q⟩,λ⟨xs,h,ys,h',bs,h'',q⟩=>⟨a,c,xs,ys,bs,rfl,rfl,h,h',h'',q⟩⟩
theorem pEqL {K:Frag}{b:Bool}{a c:Addr}:rEqL K b (.ref a) (.ref c) H Q=∃ xs,aj K H a xs/\∃ ys,aj K H c ys/\(xs.length≠ys.length/\Q (V.bl b) H\/∃ bs,vp K H 6 xs ys bs/\Q (V.bl (if b=true then !bs.all id else bs.all id)) H):=propext ⟨λ⟨_,_,xs,ys,e,e',h,h',q⟩=>by cases e;cases e';show⟨xs,h,ys,h',q⟩,λ⟨xs,h,ys,h',q⟩=>⟨a,c,xs,ys,rfl,rfl,h,h',q⟩⟩
theorem pSlL {K:Frag}{a:Addr}{lo hi:Option Int}:rSlL K (.ref a) lo hi H Q=∃ xs,aj K H a xs/\∀ p,H p=none->Q (.ref p) (ar H p (.lst (nC xs lo hi))):=propext ⟨λ⟨_,xs,e,h,q⟩=>by cases e;show⟨xs,h,q⟩,λ⟨xs,h,q⟩=>⟨a,xs,rfl,h,q⟩⟩
theorem pCat {a c:Addr}:rCat (.ref a) (.ref c) H Q=∃ xs,H a=some (.lst xs)/\∃ ys,H c=some (.lst ys)/\xs.length+ys.length<=sizeLine/\∀ p,H p=none->Q (.ref p) (ar H p (.lst (xs++ys))):=propext ⟨λ⟨_,_,xs,ys,e,e',h,h',q⟩=>by cases e;cases e';show⟨xs,h,ys,h',q⟩,λ⟨xs,h,ys,h',q⟩=>⟨a,c,xs,ys,rfl,rfl,h,h',q⟩⟩
theorem pApp {a:Addr}{v:V}:Ar (.ref a) [v] H Q=∃ xs,H a=some (.lst xs)/\xs.length<sizeLine/\Q .non (ar H a (.lst (xs++[v]))):=propext ⟨λ⟨_,xs,_,e,e',q⟩=>by cases e;cases e';show⟨xs,q⟩,λ⟨xs,q⟩=>⟨a,xs,v,rfl,rfl,q⟩⟩
theorem pTup {K:Frag}{n:Nat}{t:nV}{a:Addr}{R:St->Hp->Prop}:iV K n t (.ref a) σ H R=∃ xs,aE K H a xs/\xs.length=n/\t xs σ H R:=propext ⟨λ⟨_,xs,e,q⟩=>by cases e;show⟨xs,q⟩,λ⟨xs,q⟩=>⟨a,xs,rfl,q⟩⟩
theorem pL1 {α:Type}{a:Addr}{p:Addr->α->Prop}:(∃ b y,[V.ref a]=[V.ref b]/\p b y)=∃ y,p a y:=propext ⟨λ⟨_,y,e,q⟩=>by cases e;show⟨y,q⟩,λ⟨y,q⟩=>⟨a,y,rfl,q⟩⟩
theorem pL0 {a:Addr}{p:Addr->Prop}:(∃ b,[V.ref a]=[V.ref b]/\p b)=p a:=propext ⟨λ⟨_,e,q⟩=>by cases e;show q,λq=>⟨a,rfl,q⟩⟩
theorem pLi {a:Int}{p:Int->Prop}:(∃ b,[V.int a]=[V.int b]/\p b)=p a:=propext ⟨λ⟨_,e,q⟩=>by cases e;show q,λq=>⟨a,rfl,q⟩⟩
theorem pE5 {α β γ δ:Type}{a:Addr}{p:Addr->α->β->γ->δ->Prop}:(∃ b x y z u,V.ref a=V.ref b/\p b x y z u)=∃ x y z u,p a x y z u:=propext ⟨λ⟨_,x,y,z,u,e,q⟩=>by cases e;show⟨x,y,z,u,q⟩,λ⟨x,y,z,u,q⟩=>⟨a,x,y,z,u,rfl,q⟩⟩
end
def onV:Option (Option V)->(V->Prop)->Prop
 | some (some v),k=>k v
 | _,_=>False
theorem Ky (v:V)(k:V->Prop):onV (some (some v)) k=k v:=rfl
def tVr (i:Nat):TE:=λσ H Q=>onV σ[i]? λv=>Q v H
theorem kZ {i:Nat}{σ:St}{H:Hp}{Q:VK}(h:tVr i σ H Q):eG i σ H Q:=by
 unfold tVr at h;cases e:σ[i]? with
 | none=>rw[e] at h;show h.elim
 | some o=>
  rw[e] at h;cases o with
  | none=>show h.elim
  | some v=>show⟨v,e,h⟩
theorem ae {X:Cx}(i:Nat){x:Str}{pos:Pos}(hN:X.N[i]?=some x:=by rfl)(hv:xT X.env.scope x:=by right)(hd:(x == ("__debug__" : Str))=false:=by decide)(hcd:(x == ("__classdict__" : Str))=false:=by decide):PE X (.Name x pos) (tVr i):=λpins s σ H Q I h=>pv i hN hv hd hcd pins s σ H Q I (kZ h)
def onI:V->(Int->Prop)->Prop
 | .int i,k=>k i
 | _,_=>False
def onR:V->(Addr->Prop)->Prop
 | .ref a,k=>k a
 | _,_=>False
def onB:V->(Bool->Prop)->Prop
 | .bl b,k=>k b
 | _,_=>False
def on1:List V->(V->Prop)->Prop
 | [y],k=>k y
 | _,_=>False
theorem Kt (i:Int)(k:Int->Prop):onI (.int i) k=k i:=rfl
theorem Ku (a:Addr)(k:Addr->Prop):onR (.ref a) k=k a:=rfl
theorem Kp (b:Bool)(k:Bool->Prop):onB (.bl b) k=k b:=rfl
theorem Ks (y:V)(k:V->Prop):on1 [y] k=k y:=rfl
theorem oM {x:V}{k:Int->Prop}(h:onI x k):∃ i,x=.int i/\k i:=by
 cases x <;> first|show⟨_,rfl,h⟩|show False.elim h
theorem w8 {x:V}{k:Addr->Prop}(h:onR x k):∃ a,x=.ref a/\k a:=by
 cases x <;> first|show⟨_,rfl,h⟩|show False.elim h
theorem p7 {x:V}{k:Bool->Prop}(h:onB x k):∃ b,x=.bl b/\k b:=by
 cases x <;> first|show⟨_,rfl,h⟩|show False.elim h
theorem p8 {vs:List V}{k:V->Prop}(h:on1 vs k):∃ y,vs=[y]/\k y:=by
 match vs,h with
 | [y],h=>show⟨y,rfl,h⟩
def rJ0 (g:Int->Int->V):R2:=λx y H Q=>onI x λi=>onI y λj=>Q (g i j) H
def rJ (C:Int->Int->Prop)(g:Int->Int->V):R2:=λx y H Q=>onI x λi=>onI y λj=>C i j/\Q (g i j) H
def rEqJ:R2:=λx y H Q=>onI x λi=>onI y λj=>Q (.bl (decide (i=j))) H
def rNeJ:R2:=λx y H Q=>onI x λi=>onI y λj=>Q (.bl (!decide (i=j))) H
section
variable {X:Cx}{f:Value->Value->Sem Value}
theorem g7 {g:Int->Int->V}(h:cm X f (rI0 g)):cm X f (rJ0 g):=λpins s σ H x y v u Q I rx ry q=>h pins s σ H x y v u Q I rx ry (let ⟨i,ei,q⟩:=oM q;let ⟨j,ej,q⟩:=oM q;⟨i,j,ei,ej,q⟩)
theorem opJ {C:Int->Int->Prop}{g:Int->Int->V}(h:cm X f (rI C g)):cm X f (rJ C g):=λpins s σ H x y v u Q I rx ry q=>h pins s σ H x y v u Q I rx ry (let ⟨i,ei,q⟩:=oM q;let ⟨j,ej,q⟩:=oM q;⟨i,j,ei,ej,q⟩)
theorem qX {i j:Int}:decide (V.int i=V.int j)=decide (i=j):=by
 by_cases c:i=j
 .rw [cf c,cf (by rw[c])]
 .rw [d6 c,d6 λz=>c (V.int.inj z)]
theorem sP (h:cm X f rEq):cm X f rEqJ:=λpins s σ H x y v u Q I rx ry q=>h pins s σ H x y v u Q I rx ry (by
 show ao (oM q) λi e91 q1=>?_;obtain rfl:=e91;show ao (oM q1) λj e92 q2=>?_;obtain rfl:=e92;show⟨rfl,by rw[qX];show q2⟩)
def tTst (t:TE):TT:=λσ H Q=>t σ H λx H'=>onB x λk=>Q k H'
theorem bX {op:CmpOp}{r:R2}{a b:Expr}{ta tb:TE}{pos:Pos}(ho:cm X (compareOp op) r)(ha:PE X a ta)(hb:PE X b tb)(hm:behindInMarks op b=false):PT X (.Compare a [op] [b] pos) (tTst (tOp r ta tb)):=by
 intro pins s σ H Q I h;show BY (aX (ha pins s σ H _ I h) λv s1 ⟨x,H1,I1,r1,q1⟩=>aX (hb pins s1 σ H1 _ I1 q1) λu s2 ⟨y,H2,I2,r2,q2⟩=>
  aX (ho pins s2 σ H2 x y v u _ I2 r1 r2 q2) λc s3 ⟨z,H3,I3,r3,q3⟩=>?_) hm
 show ao (p7 q3) λk e q3=>?_;subst e;cases r3;show jl ⟨H3,I3,q3⟩
def rIxJ (K:Frag):R2:=λx y H Q=>onR x λp=>onI y λi=>∃ xs,aj K H p xs/\∃ v,atI xs i=some v/\Q v H
def rIxTJ (K:Frag):R2:=λx y H Q=>onR x λp=>onI y λi=>∃ xs,aE K H p xs/\∃ v,atI xs i=some v/\Q v H
theorem ixJ {K:Frag}(h:oe X (rIxL K)):oe X (rIxJ K):=λa b pins s σ H x y v u Q I rx ry q=>h a b pins s σ H x y v u Q I rx ry (by
 show ao (w8 q) λp e95 q1=>?_;obtain rfl:=e95;show ao (oM q1) λi e96 e97=>?_;obtain rfl:=e96;obtain⟨xs,h1,v,h2,q2⟩:=e97;show⟨p,xs,i,v,rfl,rfl,h1,h2,q2⟩)
theorem cP {K:Frag}(h:oe X (rIxT K)):oe X (rIxTJ K):=λa b pins s σ H x y v u Q I rx ry q=>h a b pins s σ H x y v u Q I rx ry (by
 show ao (w8 q) λp e98 q1=>?_;obtain rfl:=e98;show ao (oM q1) λi e99 e910=>?_;obtain rfl:=e99;obtain⟨xs,h1,v,h2,q2⟩:=e910;show⟨p,xs,i,v,rfl,rfl,h1,h2,q2⟩)
def rAppJ:V->List V->Hp->VK->Prop:=λx vs H Q=>onR x λl=>on1 vs λy=>∃ xs,H l=some (.lst xs)/\xs.length<sizeLine/\Q .non (ar H l (.lst (xs++[y])))
theorem mtJ {id:String}(h:xZ X id Ar):xZ X id rAppJ:=λpins s σ H x xs v us Q I rx rv q=>h pins s σ H x xs v us Q I rx rv (by
 show ao (w8 q) λl e911 q1=>?_;obtain rfl:=e911;show ao (p8 q1) λy e912 e913=>?_;obtain rfl:=e912;obtain⟨ys,h1,h2,q2⟩:=e913;show⟨l,ys,y,rfl,rfl,h1,h2,q2⟩)
def tFldJ (K:Frag)(ta:TE)(f:Str):TE:=λσ H Q=>ta σ H λx H1=>onR x λa=>∃ C dx fs,H1 a=some (.ins C dx fs)/\iz K C/\bK K C f/\∃ v,fs.lookup f=some v/\Q v H1
theorem G2 {i:Nat}{σ:St}{H:Hp}{Q Q':VK}(h:tVr i σ H Q)(m:∀ x H1,Q x H1->Q' x H1):tVr i σ H Q':=by
 unfold tVr at *;cases e:σ[i]? with
 | none=>rw[e] at h;show h.elim
 | some o=>
  rw[e] at h;cases o with
  | none=>show h.elim
  | some v=>show m _ _ h
theorem eI {e:Expr}{i:Nat}{f:Str}{pos:Pos}(he:PE X e (tVr i))(hb:attributeBase e f X.env (eval e X.env)=eval e X.env):PE X (.Attribute e f pos) (tFldJ X.K (tVr i) f):=λpins s σ H Q I h=>iH he hb pins s σ H Q I (G2 h λx H1 q=>by
 show ao (w8 q) λa e914 e915=>?_;obtain rfl:=e914;obtain⟨C,dx,fs,h1,h2,h3,v,h4,q⟩:=e915;show⟨a,C,dx,fs,v,rfl,h1,h2,h3,h4,q⟩)
end
section
variable {prog:Program}{w:World}{A:Around}{E:Value->Shared->Prop}{s:Shared}
abbrev FQ (h:Heap)(T:Addr)(a b c:Value):Prop:=h.get? T=some { cls:=.type "tuple",data:=.seq #[a,b,c] }
structure Z3 (h:Heap)(n:Nat)(l1 l2 l3:Nat)(k:Nat)(f:Value):Prop where
 z:IsZip h (n+5) (n+3) (n+4) f
 ti:FQ h (n+3) (.ref n) (.ref (n+1)) (.ref (n+2))
 to:∃ a b c,FQ h (n+4) a b c
 i1:h.IsListIter n l1 k
 i2:h.IsListIter (n+1) l2 k
 i3:h.IsListIter (n+2) l3 k
theorem dA {a b:Nat}(h:a≠b):(a:Addr)≠b:=h
end
def Ki (K:Frag)(a b c:Addr):It:=
 ⟨λi H=>∃ xs ys ws x y u,aj K H a xs/\aj K H b ys/\aj K H c ws/\xs[i]?=some x/\ys[i]?=some y/\ws[i]?=some u,λi H v H'=>∃ x y u p,v=.ref p/\H p=none/\H'=ar H p (.tup [x,y,u])/\(∀ xs,aj K H a xs->xs[i]?=some x)/\(∀ ys,aj K H b ys->ys[i]?=some y)/\∀ ws,aj K H c ws->ws[i]?=some u,λi H=>∃ xs,aj K H a xs/\xs.length<=i⟩
section
variable {X:Cx}
def iZ3 (K:Frag)(ta:TA):TI:=λσ H R=>ta σ H λvs H1=>∃ a b c,vs=[.ref a,.ref b,.ref c]/\(∃ xs,aj K H1 a xs)/\(∃ ys,aj K H1 b ys)/\(∃ ws,aj K H1 c ws)/\R (Ki K a b c) H1
end
section
variable {K:Frag}{a b c D:Addr}{xs ys ws:List V}{g:TG}{tt:TT}{te:TE}{k:Nat}{fr:List (Str×Nat)}{σ:St}{H1:Hp}{Q:VK}
end
end L2
namespace L3
open Lean.Grind
section
variable {F:Type}[Field F]
structure Ec (L:List (Nat->F))(n r:Nat)(c:Nat->Nat):Prop where
 rl:r<=L.length
 cn:∀ i,i<r->c i<n
 mono:∀ i k,i<k->k<r->c i<c k
 piv:∀ i,i<r->at' L i (c i)≠0
 low:∀ i j,i<r->j<c i->at' L i j=0
 zer:∀ i j,r<=i->i<L.length->j<n->at' L i j=0
end
end L3
namespace L2
open PySem PySem.Spec PyProof.Rows
section
variable {X:Cx}
end
end L2
namespace L3
open L2
open Lean.Grind
theorem y3:∀ (N M:Nat) (f:Nat->Nat),N<M->(∀ a,a<M->f a<N)->∃ a b,a<b/\b<M/\f a=f b
 | 0,M,f,h,hf=>absurd (hf 0 h) (sE _)
 | N+1,M,f,h,hf=>by
  by_cases hz:∃ c,c<M/\f c=N
  .refine ao hz λc hc e=>?_;clear hz;by_cases h2:∃ d,d<M/\d≠c/\f d=N
   .refine bh h2 λd hd ne e2=>?_;clear h2;rcases Nat.lt_or_gt_of_ne ne with q|q
    .exact aM d c ⟨q,hc,by rw[e,e2]⟩
    .exact aM c d ⟨q,hd,by rw[e,e2]⟩
   .obtain ⟨a,b,h3,h4,h5⟩:=y3 N (M-1) (λa=>f (if a<c then a else a+1)) ∅ λa ha=>by
     have h6:=hf (if a<c then a else a+1) (by split <;> omega);have h7:f (if a<c then a else a+1)≠N:=λz=>h2 ⟨_,by split <;> omega,by split <;> omega,z⟩;omega
    show aM (if a<c then a else a+1) (if b<c then b else b+1) ⟨by split <;> split <;> omega,by split <;> omega,h5⟩
  .exact y3 N M f ∅ λa ha=>by
    have h6:=hf a ha;have h7:f a≠N:=λz=>hz ⟨a,ha,z⟩;omega
noncomputable def enc (N:Nat):Nat->(Nat->Nat)->Nat
 | 0,_=>0
 | l+1,y=>enc N l y+y l*2 ^ (N*l)
theorem xf {N:Nat}{y:Nat->Nat}:∀ {l:Nat},(∀ i,i<l->y i<2 ^ N)->enc N l y<2 ^ (N*l)
 | 0,_=>by show 0<2 ^ (N*0);show nZ _
 | l+1,h=>by
  have h1:=xf (l:=l) λi hi=>h i ∅;have h2:=h l ∅;change enc N l y+y l*2 ^ (N*l)<_;rw[Nat.mul_add,Nat.mul_one,tU,rZ (2 ^ (N*l))];have h3:(y l+1)*2 ^ (N*l)<=2 ^ N*2 ^ (N*l):=gg h2 (aQ _);rw[i7,o5] at h3;omega
theorem Ds {N:Nat}{y z:Nat->Nat}:∀ {l:Nat},(∀ i,i<l->y i<2 ^ N)->(∀ i,i<l->z i<2 ^ N)->enc N l y=enc N l z->∀ i,i<l->y i=z i
 | 0,_,_,_,i,hi=>absurd hi (sE _)
 | l+1,hy,hz,e,i,hi=>by
  have h1:=xf (l:=l) λi hi=>hy i ∅;have h2:=xf (l:=l) λi hi=>hz i ∅;have e':enc N l y+y l*2 ^ (N*l)=enc N l z+z l*2 ^ (N*l):=e;have ey:y l=z l:=by
   have a1:(enc N l y+y l*2 ^ (N*l)) / 2 ^ (N*l)=y l:=by rw[Nat.add_mul_div_right _ _ (nZ _),Nat.div_eq_of_lt h1,Nat.zero_add]
   have a2:(enc N l z+z l*2 ^ (N*l)) / 2 ^ (N*l)=z l:=by rw[Nat.add_mul_div_right _ _ (nZ _),Nat.div_eq_of_lt h2,Nat.zero_add]
   rw[<- a1,e',a2]
  by_cases q:i=l
  .rw [q];show ey
  .refine Ds (l:=l) (λi hi=>hy i ∅) (λi hi=>hz i ∅) ?_ i ∅;rw[ey] at e';omega
noncomputable def dig (m a i:Nat):Nat:=a / 2 ^ (m*i) % 2 ^ m
theorem yK (m a i:Nat):dig m a i<2 ^ m:=Nat.mod_lt _ (nZ _)
theorem Dr {m a b:Nat}:∀ {s:Nat},(∀ i,i<s->dig m a i=dig m b i)->a % 2 ^ (m*s)=b % 2 ^ (m*s)
 | 0,_=>by rw[Nat.mul_zero,Nat.pow_zero,Nat.mod_one,Nat.mod_one]
 | s+1,h=>by
  have h1:=Dr (s:=s) λi hi=>h i ∅;have h2:=h s ∅;unfold dig at h2;rw[Nat.mul_add,Nat.mul_one,tU,Nat.mod_mul,Nat.mod_mul,h1,h2]
noncomputable def smz:Nat->(Nat->Int)->Int
 | 0,_=>0
 | n+1,f=>smz n f+f n
theorem Fm:∀ {n:Nat} {f g:Nat->Int},(∀ i,i<n->f i=g i)->smz n f=smz n g
 | 0,_,_,_=>rfl
 | n+1,f,g,h=>by
  change smz n f+f n=smz n g+g n;rw[Fm (λi hi=>h i ∅),h n ∅]
theorem DT:∀ (n:Nat) (f g:Nat->Int),smz n (λi=>f i-g i)=smz n f-smz n g
 | 0,_,_=>rfl
 | n+1,f,g=>by
  change smz n (λi=>f i-g i)+(f n-g n)=smz n f+f n-(smz n g+g n);rw[DT n f g];omega
theorem De {B:Nat}:∀ {n:Nat} {f:Nat->Int},(∀ i,i<n->(f i).natAbs<=B)->(smz n f).natAbs<=n*B
 | 0,_,_=>by show (0:Int).natAbs<=_;simp
 | n+1,f,h=>by
  have h1:=De (B:=B) (n:=n) (f:=f) λi hi=>h i ∅;have h2:=h n ∅;have h3:=B0 (smz n f) (f n);change (smz n f+f n).natAbs<=_;rw[i7,o5];omega
theorem Dd {B L n:Nat}{f:Nat->Int}(h:∀ i,i<n->Bt B (f i))(hn:n<=2 ^ L):Bt (B+L) (smz n f):=by
 have h1:=De (B:=2 ^ B-1) (n:=n) (f:=f) λi hi=>by have:=h i hi;unfold Bt at this;omega
 change (smz n f).natAbs<2 ^ (B+L);rw[tU];have p1:=nZ B;have p2:=nZ L;have h2:n*(2 ^ B-1)<=2 ^ L*(2 ^ B-1):=gg hn (aQ _);have h3:2 ^ L*(2 ^ B-1)<2 ^ L*2 ^ B:=Nat.mul_lt_mul_of_pos_left ∅ p2;rw[rZ (2 ^ B)];omega
theorem yZ {F:Type}[Field F]:∀ (n:Nat) (f:Nat->Int),(ic (smz n f):F)=sm n λi=>ic (f i)
 | 0,_=>oP
 | n+1,f=>by
  change (ic (smz n f+f n):F)=sm n (λi=>ic (f i))+ic (f n);rw[xg,yZ n f]
theorem siegel {s b L:Nat}{A:Nat->Nat->Int}(hA:∀ i l,i<s+1->l<s->Bt b (A i l))(hs:s+1<=2 ^ L):
  ∃ α:Nat->Int,(∃ i,i<s+1/\α i≠0)/\(∀ i,Bt ((b+L+1)*s+1) (α i))/\∀ l,l<s->smz (s+1) (λi=>α i*A i l)=0:=by
 generalize hm:(b+L+1)*s+1=m;have hd:∀ a i,Bt m ((dig m a i:Nat):Int):=λa i=>by show ((dig m a i:Nat):Int).natAbs<_;rw[B7];show yK ..
 have hy:∀ a l,l<s->Bt (m+b+L) (smz (s+1) λi=>(dig m a i:Int)*A i l):=λa l hl=>Dd (λi hi=>(hd a i).mul (hA i l hi hl)) hs
 let y:Nat->Nat->Nat:=λa l=>((smz (s+1) λi=>(dig m a i:Int)*A i l)+2 ^ (m+b+L)).toNat
 have y1:∀ a l,l<s->y a l<2 ^ (m+b+L+1)/\((y a l:Nat):Int)=(smz (s+1) λi=>(dig m a i:Int)*A i l)+2 ^ (m+b+L):=λa l hl=>by
  have:=hy a l hl;unfold Bt at this;have e:((2 ^ (m+b+L):Nat):Int)=(2:Int) ^ (m+b+L):=Int.natCast_pow 2 _;change ((smz (s+1) λi=>(dig m a i:Int)*A i l)+2 ^ (m+b+L)).toNat<_/\(((smz (s+1) λi=>(dig m a i:Int)*A i l)+2 ^ (m+b+L)).toNat:Int)=_;rw[wg,<- e];generalize (smz (s+1) λi=>(dig m a i:Int)*A i l)=z at *;generalize (2 ^ (m+b+L):Nat)=q at *;omega
 obtain⟨a,c,hac,hc,e⟩:=y3 (2 ^ ((m+b+L+1)*s)) (2 ^ (m*(s+1))) (λa=>enc (m+b+L+1) s (y a)) (wD ⇑0 (by
  rw[show m+b+L+1=m+(b+L+1) by omega,i7,Nat.mul_add,Nat.mul_one];omega)) λa _=>xf λi hi=>(y1 a i hi).1
 have ey:=Ds (λi hi=>(y1 a i hi).1) (λi hi=>(y1 c i hi).1) e;show⟨λi=>(dig m a i:Int)-(dig m c i:Int),?_,λi=>?_,λl hl=>?_⟩
 .apply jo;intro z;have h1:a % 2 ^ (m*(s+1))=c % 2 ^ (m*(s+1)):=Dr λi hi=>by
   apply jo;intro q;show z ⟨i,hi,λw=>q (by have:(dig m a i:Int)-(dig m c i:Int)=0:=w;omega)⟩
  rw[wo ∅,wo hc] at h1;omega
 .have h1:=yK m a i;have h2:=yK m c i;change ((dig m a i:Int)-(dig m c i:Int)).natAbs<2 ^ m;omega
 .have h1:=(y1 a l hl).2;have h2:=(y1 c l hl).2;rw[ey l hl] at h1;have h3:smz (s+1) (λi=>(dig m a i:Int)*A i l)=smz (s+1) λi=>(dig m c i:Int)*A i l:=∅
  rw[Fm (g:=λi=>(dig m a i:Int)*A i l-(dig m c i:Int)*A i l) λi _=>by rw[Int.sub_mul],DT,h3];omega
theorem EG {n:Nat}:∀ {zs:List Int} {d:Nat},n ∣ d->(∀ z∈zs,(n:Int) ∣ z)->n ∣ zs.foldl (λd z=>Int.gcd z d) d
 | [],d,hd,_=>hd
 | z::zs,d,hd,h=>EG (zs:=zs) (d:=Int.gcd z d) (Nat.dvd_gcd (Int.ofNat_dvd_left.mp (h z (by simp))) (by simpa using hd)) λy hy=>h y (by simp[hy])
theorem EH {n:Nat}{zs:List Int}(h:∀ z∈zs,(n:Int) ∣ z):n ∣ gcdL zs:=EG (Nat.dvd_zero n) h
def nB (zs:List Int):Prop:=gcdL zs=1\/∀ z∈zs,z=0
theorem lj {v:List Int}{w:Nat->Int}{γ:Rat}(hv:gcdL v=1)(h:∀ j,((v.getD j 0:Int):Rat)=γ*(w j:Rat))(j:Nat):(v.getD j 0).natAbs<=(w j).natAbs:=by
 have e:∀ j,v.getD j 0*(γ.den:Int)=γ.num*w j:=λj=>by
  have h1:=h j;have h2:(γ.den:Rat)≠0:=by
   have:=γ.den_nz;show λz=>this (by exact_mod_cast z)
  have h3:γ*(γ.den:Rat)=(γ.num:Rat):=by
   have h4:γ=(γ.num:Rat) / (γ.den:Rat):=by
    rw[<- Rat.intCast_natCast,<- Rat.divInt_eq_div];show (Rat.num_divInt_den γ).symm
   generalize (γ.num:Rat)=n at *;generalize (γ.den:Rat)=d at *;rw[h4]
   grind
  apply Rat.intCast_inj.mp;rw[Rat.intCast_mul,Rat.intCast_mul,h1,<- h3];have:(((γ.den:Nat):Int):Rat)=(γ.den:Rat):=Rat.intCast_natCast _;rw[this]
  grind
 have d1:γ.num.natAbs ∣ gcdL v:=EH λz hz=>by
  obtain⟨i,hi,rfl⟩:=dZ.mp hz;have h1:=e i;rw[cQ hi] at h1;have h2:γ.num.natAbs ∣ v[i].natAbs*γ.den:=by
   have:γ.num ∣ v[i]*(γ.den:Int):=⟨w i,h1⟩
   have:=Int.natAbs_dvd_natAbs.mpr this;rwa [j9,B7] at this
  have h3:=Nat.Coprime.dvd_of_dvd_mul_right γ.reduced h2;show Int.ofNat_dvd_left.mpr h3
 rw[hv] at d1;have n1:=Nat.eq_one_of_dvd_one d1;have h1:=jC Int.natAbs (e j);rw[j9,j9,n1,B7,o5] at h1;have:=γ.den_pos;rw[<- h1];show Nat.le_mul_of_pos_right _ this
theorem GZ {s b L:Nat}{G:Nat->List Int}{c:Nat->Nat}{D:Nat->Nat->Rat}{X:Nat->Nat->Rat}{x:Nat->Rat}{v:List Int}(hs:s+1<=2 ^ L)(hG:∀ i,i<s+1->aP b (G i))(hD:∀ i,i<s->∀ j,D i j=sm (s+1) λt=>X i t*vz (G t) j)(tri:∀ i j,j<i->i<s->D i (c j)=0)(piv:∀ i,i<s->D i (c i)≠0)(hv:∀ j,(vz v j:Rat)=sm (s+1) λt=>x t*vz (G t) j)(v0:∀ l,l<s->v.getD (c l) 0=0)(pr:nB v):aP ((s+1)*(b+L+1)) v:=by
 rcases pr with g1|z0
 .refine bh (siegel (s:=s) (b:=b) (L:=L) (A:=λi l=>(G i).getD (c l) 0) (λi l hi hl=>(hG i hi).at _) hs) λα e91 hαb hαe=>?_;obtain⟨i0,hi0,hα0⟩:=e91;show ao (sZ (F:=Rat) (s+1) (s+2) (λt k=>if k<s then X k t else if k=s then x t else ic (α t)) ∅) λu e92 hu=>?_;obtain⟨k0,hk0,hu0⟩:=e92
  have hu':∀ t,t<s+1->(sm s λk=>X k t*u k)+x t*u s+ic (α t)*u (s+1)=0:=λt ht=>by
   have h1:=hu t ht;have h2:sm (s+2) (λk=>(if k<s then X k t else if k=s then x t else ic (α t))*u k)=(sm s λk=>X k t*u k)+x t*u s+ic (α t)*u (s+1):=by
    change sm s _+(if s<s then X s t else if s=s then x t else ic (α t))*u s+(if s+1<s then X (s+1) t else if s+1=s then x t else ic (α t))*u (s+1)=_;rw[if_neg (iR s),if_pos rfl,if_neg ∅,if_neg ∅];congr 2;show aO λk hk=>by rw[if_pos hk]
   rw[<- h2];show h1
  have hr:∀ j,(sm s λk=>D k j*u k)+vz v j*u s+(sm (s+1) λt=>ic (α t)*vz (G t) j)*u (s+1)=0:=λj=>by
   have h1:(sm s λk=>D k j*u k)=sm (s+1) λt=>(sm s λk=>X k t*u k)*vz (G t) j:=by
    rw[aO (g:=λk=>sm (s+1) λt=>X k t*vz (G t) j*u k) λk hk=>by rw[hD k hk j,<- fN],gL];show aO λt _=>by
     rw[<- fN];show aO λk _=>by grind
   rw[h1,hv j,<- fN,<- fN,<- jT,<- jT];rw[aO (g:=λ_=>0) λt ht=>by
    have:=hu' t ht;have e:(sm s λk=>X k t*u k)*vz (G t) j+x t*vz (G t) j*u s+ic (α t)*vz (G t) j*u (s+1)=((sm s λk=>X k t*u k)+x t*u s+ic (α t)*u (s+1))*vz (G t) j:=by grind
    rw[e,this];grind,fA]
  have hw0:∀ l,l<s->(sm (s+1) λt=>ic (α t)*vz (G t) (c l):Rat)=0:=λl hl=>by
   have:=hαe l hl;have h1:=yZ (F:=Rat) (s+1) (λi=>α i*(G i).getD (c l) 0);rw[this,oP] at h1;rw[h1];show aO λt _=>by rw[eN];rfl
  have uz:∀ k,k<s->u k=0:=by
   intro k
   induction k using Nat.strongRecOn with
   | _ k ih=>
    intro hk;have h1:=hr (c k);rw[hw0 k hk,show (vz v (c k):Rat)=0 from tF (v0 k hk)] at h1;have h2:(sm s λi=>D i (c k)*u i)=D k (c k)*u k:=by
     rw[aO (g:=λi=>if i=k then D i (c k)*u i else 0) λi hi=>by
      by_cases q:i=k
      .rw [if_pos q]
      .rw [if_neg q];rcases Nat.lt_or_gt_of_ne q with q|q
       .rw [ih i q hi];grind
       .rw [tri i k q hi];grind,kE (λi=>D i (c k)*u i) hk]
    rw[h2] at h1;have h3:=piv k hk
    grind
  have hc:∀ t,t<s+1->x t*u s+ic (α t)*u (s+1)=0:=λt ht=>by
   have h1:=hu' t ht;rw[aO (g:=λ_=>0) λk hk=>by rw[uz k hk];grind,fA] at h1
   grind
  have us:u s≠0:=λz=>by
   have h1:u (s+1)≠0:=λz1=>hu0 (by
    by_cases q:k0<s
    .exact uz k0 q
    .by_cases q2:k0=s
     .rw [q2];show z
     .rw [show k0=s+1 by omega];show z1)
   have h2:=hc i0 hi0;rw[z] at h2;have h3:(ic (α i0):Rat)≠0:=λq=>hα0 (xp.z0 _ (.inl rfl) q)
   grind
  have key:∀ j,((v.getD j 0:Int):Rat)=-(u (s+1) / u s)*((smz (s+1) λt=>α t*(G t).getD j 0:Int):Rat):=λj=>by
   have h1:(vz v j:Rat)=-(u (s+1) / u s)*sm (s+1) λt=>ic (α t)*vz (G t) j:=by
    rw[hv j,<- eO];show aO λt ht=>by have:=hc t ht;grind
   have h2:((smz (s+1) λt=>α t*(G t).getD j 0:Int):Rat)=sm (s+1) λt=>ic (α t)*vz (G t) j:=by
    have:=yZ (F:=Rat) (s+1) λt=>α t*(G t).getD j 0;show Eq.trans this (aO λt _=>by rw[eN];rfl)
   rw[h2];show h1
  intro z hz;show ao (jY hz 0) λj hj e93=>?_;obtain rfl:=e93;have h1:=lj g1 key j;have h2:Bt ((b+L+1)*s+1+b+L) (smz (s+1) λt=>α t*(G t).getD j 0):=Dd (λt ht=>(hαb t).mul ((hG t ht).at j)) hs;show (h2.abs_le h1).le ?_;rw[show (s+1)*(b+L+1)=(b+L+1)*s+(b+L+1) by rw[i7,o5,rZ s]];omega
 .intro z hz;rw[z0 z hz];show nZ _
theorem Fh (zs:List Int):nB (dQ 0 zs):=by
 by_cases hg:gcdL zs=0
 .rw [AI hg];show .inr λz hz=>Fs hg hz
 .left;have d:gcdL (dQ 0 zs)*gcdL zs ∣ gcdL zs:=EH λz hz=>by
   show ao (jY hz 0) λj hj e94=>?_;obtain rfl:=e94;have h1:(gcdL (dQ 0 zs):Int) ∣ (dQ 0 zs).getD j 0:=vD (bD (by rw[ES];show hj));rw[xC,if_pos rfl] at h1;have h2:=n_ (vD hz);obtain⟨q,hq⟩:=h1;show⟨q,?_⟩;rw[<- h2,hq,nY]
   grind
  have h1:gcdL (dQ 0 zs)*gcdL zs<=1*gcdL zs:=by rw[o5];show Nat.le_of_dvd ∅ d
  have h2:=Nat.le_of_mul_le_mul_right h1 ∅;have h3:gcdL (dQ 0 zs)≠0:=λz=>by
   rw[z,Nat.zero_mul] at d;show hg (Nat.eq_zero_of_zero_dvd d)
  omega
theorem Io {row lead:List Int}{k:Nat}(h:nB row):nB (dE 0 row lead k):=by
 unfold dE;split
 .exact h
 .exact Fh _
theorem gN.mono {F:Type}[Field F]{L L':List (Nat->F)}{v:Nat->F}(h:gN L v)(k:∀ u∈L,u∈L'):gN L' v:=h.trans λu hu=>.mem (k u hu)
theorem FB {α:Type}{xs:List α}{i j:Nat}{d:α}:(xs.eraseIdx i).getD j d=xs.getD (sk i j) d:=by
 rw[aW,aW,List.getElem?_eraseIdx];unfold sk;split <;> rfl
structure Kg (Z done left od ol:List (List Int)):Prop where
 ld:od.length=done.length
 ll:ol.length=left.length
 zd:∀ z∈od,z∈Z
 zl:∀ z∈ol,z∈Z
 sd:∀ i,i<done.length->gN (F:=Rat) ((od.take (i+1)).map vz) (vz (done.getD i []))
 sl:∀ j,j<left.length->gN (F:=Rat) ((od++[ol.getD j []]).map vz) (vz (left.getD j []))
 pr:∀ row∈done++left,nB row
theorem Sw.org {W:Nat}{Z:List (List Int)}(hZ:∀ row∈Z,row.length=W/\nB row){k:Nat}{done left:List (List Int)}{pl:List Nat}(h:Sw 0 Z k done left pl):∃ od ol,Kg Z done left od ol:=by
 have hR:∀ row∈Z,Rw 0 W row:=λrow hr=>⟨(hZ row hr).1,λ_ _=>.inl rfl⟩
 induction h with
 | start=>show⟨[],Z,rfl,rfl,by simp,λz h=>h,λi hi=>absurd hi (sE _),λj hj=>.mem (by simp),λrow hr=>(hZ row (by simpa using hr)).2⟩
 | skip _ _ ih=>show ih
 | @take k done left pl i lead sw hi hk ih=>
  show eV ih λod ol O=>?_;clear ih;have I:=sw.inv (tT 0) hR;have hil:i<left.length:=(b_.mp hi).1;have el:left.getD i []=lead:=by rw[aW,hi];rfl
  have lm:lead∈left:=aY hi;have ll:=O.ll;have ld:=O.ld;have sl:=O.sl i hil;rw[el] at sl;show aM (od++[ol.getD i []]) (ol.eraseIdx i) ⟨by rw[bN,bN,ld];rfl,by rw[aB,wC,wC,ll],λz hz=>?_,λz hz=>O.zl z (pe hz),λa ha=>?_,λj hj=>?_,λrow hr=>?_⟩
  .rcases cj.mp hz with h|h
   .exact O.zd z h
   .rw [cS.mp h];show O.zl _ (bD ∅)
  .rw [bN] at ha;have ha:a<done.length+1:=ha;by_cases q:a<done.length
   .rw [kG,if_pos q,List.take_append_of_le_length ∅];show O.sd a q
   .rw [kG,if_neg q,if_pos ∅,yt (by rw[bN];change od.length+1<=_;omega)];show sl
  .rw [aB,wC,if_pos hil] at hj;have hs:sk i j<left.length:=by unfold sk;split <;> omega
   have e1:((left.eraseIdx i).map λrow=>dE 0 row lead k).getD j []=dE 0 (left.getD (sk i j) []) lead k:=by
    rw[aW,bj,aG (by rw[wC,if_pos hil];show hj)];change dE 0 _ lead k=_;rw[<- FB,cQ (by rw[wC,if_pos hil];show hj)]
   rw[e1,FB];show cE (tG (p:=0) (F:=Rat) (W:=W) (row:=left.getD (sk i j) []) (lead:=lead) (k:=k) (tT 0) xp (I.rw _ (gQ _ (bD hs))) (I.rw _ (gQ _ lm)) hk) λa b _ e=>?_;rw[show (vz (dE 0 (left.getD (sk i j) []) lead k):Nat->Rat)=λx=>a*vz (left.getD (sk i j) []) x+b*vz lead x from funext e];show .comb a b ((O.sl _ hs).mono λu hu=>?_) (sl.mono λu hu=>?_)
   .rw [dW] at hu;rw[dW,dW];rcases cj.mp hu with h|h
    .exact si _ (si _ h)
    .exact gQ _ h
   .rw [dW];show si _ hu
  .rcases cj.mp hr with h|h
   .rcases cj.mp h with h|h
    .exact O.pr row (si _ h)
    .rw [cS.mp h];show O.pr lead (gQ _ lm)
   .refine ao (bR.mp h) λy hy e95=>?_;obtain rfl:=e95;show Io (O.pr y (gQ _ (pe hy)))
theorem Fk {s b L:Nat}{G:List (List Int)}{c:Nat->Nat}{D:Nat->List Int}{v:List Int}(hg:G.length=s+1)(hs:s+1<=2 ^ L)(hG:∀ g∈G,aP b g)(hD:∀ i,i<s->gN (F:=Rat) (G.map vz) (vz (D i)))(tri:∀ i j,j<i->i<s->(D i).getD (c j) 0=0)(piv:∀ i,i<s->(D i).getD (c i) 0≠0)(hv:gN (F:=Rat) (G.map vz) (vz v))(v0:∀ l,l<s->v.getD (c l) 0=0)(pr:nB v):aP ((s+1)*(b+L+1)) v:=by
 have at1:∀ t,t<s+1->(at' (G.map vz) t:Nat->Rat)=vz (G.getD t []):=λt ht=>by
  unfold at';rw[aW,bj,aG ∅,cQ ∅];rfl
 have ln:(G.map (vz (F:=Rat))).length=s+1:=by rw[aB];show hg
 have co:∀ {u:List Int},gN (F:=Rat) (G.map vz) (vz u)->∃ x:Nat->Rat,∀ j,vz u j=sm (s+1) λt=>x t*vz (G.getD t []) j:=λ{u} h=>by
  obtain⟨x,hx⟩:=h.coef;show⟨x,λj=>?_⟩;rw[hx j,ln];show aO λt ht=>by rw[at1 t ht]
 obtain⟨x,hx⟩:=co hv;have hX:∃ X:Nat->Nat->Rat,∀ i,i<s->∀ j,vz (D i) j=sm (s+1) λt=>X i t*vz (G.getD t []) j:=by
  show⟨λi=>if h:i<s then Classical.choose (co (hD i h)) else λ_=>0,λi hi j=>?_⟩;change _=sm (s+1) λt=>(if h:i<s then Classical.choose (co (hD i h)) else λ_=>0) t*vz (G.getD t []) j;rw[dif_pos hi];show BU (co (hD i hi)) j
 obtain⟨X,hX⟩:=hX;show GZ (G:=λt=>G.getD t []) (D:=λi=>vz (D i)) hs (λi hi=>hG _ (bD ∅)) hX (λi j h1 h2=>tF (tri i j h1 h2)) (λi hi z=>piv i hi (xp.z0 _ (.inl rfl) z)) hx v0 pr
theorem xV.pl_le {p:Int}{W:Nat}{Z:List (List Int)}{k:Nat}{done left:List (List Int)}{pl:List Nat}(I:xV p W Z k done left pl):pl.length<=k:=by
 have key:∀ i,i<pl.length->i<=pl.getD i 0:=by
  intro i
  induction i with
  | zero=>intro _;omega
  | succ i ih=>
   intro h;have a:=ih ∅;have b:=I.asc i (i+1) ∅ h;omega
 by_cases h:pl.length=0
 .omega
 .have a:=key (pl.length-1) ∅;have b:=I.lt (pl.length-1) ∅;omega
section
variable {W wide b L R:Nat}{Z:List (List Int)}(hZ:∀ row∈Z,row.length=W/\nB row)(hb:∀ row∈Z,aP b row)(hR:Z.length<=R\/wide+1<=R)(hL:R<=2 ^ L)
include hZ hb hR hL
theorem ud {k:Nat}{done left:List (List Int)}{pl:List Nat}(hk:k<=wide)(sw:Sw 0 Z k done left pl):∀ row∈done++left,aP (R*(b+L+1)) row:=by
 have I:=sw.inv (W:=W) (tT 0) λrow hr=>⟨(hZ row hr).1,λ_ _=>.inl rfl⟩
 show eV (sw.org hZ) λod ol O=>?_;have e1:=I.len;have e2:=I.all;have e3:=I.pl_le;have ld:=O.ld;have ll:=O.ll;intro row hr;rcases cj.mp hr with h|h
 .refine ao (jY h []) λi hi e96=>?_;obtain rfl:=e96;have hi':i+1<=R:=by rcases hR with q|q <;> omega
  show (Fk (s:=i) (b:=b) (L:=L) (G:=od.take (i+1)) (c:=λl=>pl.getD l 0) (D:=λl=>done.getD l []) (by rw[i8];omega) (cD hi' hL) (λg hg=>hb g (O.zd g (wG hg))) (λl hl=>(O.sd l ∅).mono λu hu=>?_) (λl j h1 h2=>I.low l _ ∅ (I.asc j l h1 ∅)) (λl hl=>I.piv l ∅) (O.sd i hi) (λl hl=>I.low i _ ∅ (I.asc l i hl ∅)) (O.pr _ hr)).le (gg hi' (aQ _));show ao (bR.mp hu) λy hy e97=>?_;obtain rfl:=e97;show bR.mpr ⟨y,(List.take_subset_take_left od (show l+1<=i+1 by omega)) hy,rfl⟩
 .refine ao (jY h []) λj hj e98=>?_;obtain rfl:=e98;have hi':pl.length+1<=R:=by rcases hR with q|q <;> omega
  show (Fk (s:=pl.length) (b:=b) (L:=L) (G:=od++[ol.getD j []]) (c:=λl=>pl.getD l 0) (D:=λl=>done.getD l []) (by rw[bN];change od.length+1=_;omega) (cD hi' hL) (λg hg=>?_) (λl hl=>(O.sd l ∅).mono λu hu=>?_) (λl j h1 h2=>I.low l _ ∅ (I.asc j l h1 ∅)) (λl hl=>I.piv l ∅) (O.sl j hj) (λl hl=>I.zer _ h _ (I.lt l hl)) (O.pr _ hr)).le (gg hi' (aQ _))
  .rcases cj.mp hg with h|h
   .exact hb g (O.zd g h)
   .rw [cS.mp h];show hb _ (O.zl _ (bD ∅))
  .refine ao (bR.mp hu) λy hy e99=>?_;obtain rfl:=e99;show bR.mpr ⟨y,si _ (wG hy),rfl⟩
omit hb hR hL in
end
end L3
namespace L2
open PySem PySem.Spec PyProof.Rows
def FT (K:Frag)(H:Hp)(n:Nat)(x y:V)(b:Bool):Prop:=∀ (X:Cx) (pins:List (Addr×Obj)) (σ:St) (s:Shared),X.K=K->av X pins σ H s->∀ (A:Around) (u v:Value),A.units+n<cLine->aI x u->aI y v->SeqAt.EqAt A s u v b
def BE (K:Frag)(H:Hp)(n:Nat)(x y:V)(b:Bool):Prop:=∀ (X:Cx) (pins:List (Addr×Obj)) (σ:St) (s:Shared),X.K=K->av X pins σ H s->∀ (A:Around) (u v:Value),A.units+n<cLine->aI x u->aI y v->SeqAt.RcAt A s u v b
def rEqG (K:Frag):R2:=λx y H Q=>∃ b,BE K H 8 x y b/\Q (.bl b) H
inductive Kd (K:Frag) (H:Hp):V->Nat->Prop where
 | non:Kd K H .non 0
 | bl (b:Bool):Kd K H (.bl b) 1
 | int (i:Int):Kd K H (.int i) 2
 | str (z:Str):Kd K H (.str z) 3
 | lst {a:Addr} {xs:List V} (h:aj K H a xs):Kd K H (.ref a) 4
 | tup {a:Addr} {xs:List V} (h:aE K H a xs):Kd K H (.ref a) 5
theorem xA {i:Str}{u:Value}(h:aI (.str i) u):∃ t,u=.str i t:=by simpa [aI] using h
section
variable {K:Frag}{H:Hp}
inductive tR (s:Shared):Value->Nat->Prop where
 | non:tR s .none 0
 | bl (b:Bool):tR s (.bool b) 1
 | int (i:Int) (t:Tok):tR s (.int i t) 2
 | str (z:Str) (t:Tok):tR s (.str z t) 3
 | lst {l:Addr} {items:Array Value} (h:s.heap.IsList l items):tR s (.ref l) 4
 | tup {l:Addr} {items:Array Value} (h:s.heap.IsTuple l items):tR s (.ref l) 5
theorem BE.str {n:Nat}(a b:Str):BE K H n (.str a) (.str b) (a == b):=λX pins σ s hK I A u v hu ru rv=>by
 obtain⟨t,rfl⟩:=xA ru;obtain⟨t',rfl⟩:=xA rv;show SeqAt.RcAt.str_str _ _ _ _
theorem FT.str {n:Nat}(a b:Str):FT K H n (.str a) (.str b) (a == b):=λX pins σ s hK I A u v hu ru rv=>by
 obtain⟨t,rfl⟩:=xA ru;obtain⟨t',rfl⟩:=xA rv;show SeqAt.EqAt.str_str _ _ _ _
end
end L2
set_option maxHeartbeats 4000000
open PySem L2 PyProof.Rows
local macro_rules|`($i>>>$n)=>`(@oW _ _ $i _ $n rfl (Or.inl rfl) (Or.inl rfl))
local macro_rules|`($i<<<$l)=>`(@oW _ _ $i _ (show (($l) : List Str).Nodup by decide +kernel) rfl (Or.inl rfl) (Or.inr rfl))
local macro_rules|`($i|||$n|||$x)=>`(gs (i:=$i) $n rfl (Or.inl rfl) $x)
local macro_rules|`($a^^^$b)=>`(@J8 _ _ _ _ _ $a $b (by rfl))
local macro_rules|`($c<$>$h<$>$x)=>`(J9 $c ($h).m rfl $x)
local macro_rules | `($a<&>$b)=>`(@yB _ _ _ _ _ $a $b ⇑1)
local macro_rules | `($a<*>$b)=>`(@Hi _ _ _ _ _ $a $b)
local macro_rules | `($o<|>$a<&&>$b)=>`(@uh _ _ _ _ _ _ _ _ $o $a $b)
local macro_rules | `($o<|>$a<||>$b)=>`(@ui _ _ _ _ _ _ _ $o $a $b (λ_ _=>rfl))
local macro_rules | `(~~~$x)=>`(@bE _ _ _ (@pS _ _ _ _ $x))
local macro_rules | `(tactic| walk_at "wp")=>do
 let f (s:String):=(s.splitOn " ").toArray.map λx=>Lean.mkIdent x.toName
 let a:=f "tv0 tv1 tv2 tv3 tv4 tv5 tv6 tv7 tv8 tv9 tv10 tv11 tv12 tv13 pI0 pI pU pIxL pIxT pEb pEi pEr pEqT pEqL pSlL pCat pApp pTup pL1 pL0 pLi pE5 rh tIfS Dl tOp tUn tVr Ky Kt Ku Kp Ks rJ0 rJ rEqJ rNeJ tTst rIxJ rIxTJ rAppJ tFldJ tC tCB jd oC tRet tRetN tNext tDrop tAsg tAug ipI bU iV g_ jw gSub tTup tLst tSl IT tPart EO wZ tBM tBM0 tPar tB tAnd tOr tNot tAndV tOrV tNotV tIf dh zc y6 tFld sFld tAugS rGetL rI0 rI rU rIxL rIxT rSetL rSlL Ar rEqG iZ3 HR iEnm iRvl tLE gSl0 tMinL rBits tTry hEnds Kq Ct Cr rCat rEq rNe rEqL sO rIn Kw Kv Kx yN iTup yO Dk cV FY FX Kr E0 L2.start"
 let b:=f "eG List.map List.length List.replicate List.cons_append List.nil_append List.getElem?_cons_zero List.getElem?_cons_succ List.set_cons_zero List.set_cons_succ"
 let c:=f "r9 Option.some.injEq exists_eq_left' exists_eq_left exists_and_left V.int.injEq V.bl.injEq V.ref.injEq V.ty.injEq List.cons.injEq reduceCtorEq false_and and_false exists_false or_false false_or and_true true_and Nat.reduceSub Nat.reduceAdd Nat.reduceLT fm if_false Bool.false_eq_true"
 `(tactic| ((try dsimp only [$[↓$a:term],*,$[$b:term],*]);(try simp only[$[↓$a:term],*,$[$b:term],*,$[$c:term],*])))
local macro_rules|`(tactic|left)=>`(tactic|walk_at "wp")
namespace Pf
open PySem L2 PyProof.Rows
noncomputable def top (i:Nat):Stmt:=PySem.Challenge.pw_limbtables_k65_papers_of_the_unlike.main.body.getD i (.Pass ⟨0,0,0,0⟩)
abbrev xQ:Stmt:=top 11
noncomputable abbrev Bh:Stmt:=top 20
abbrev Ax:Stmt:=top 21
noncomputable abbrev A9:Stmt:=tq (top 22) 0
abbrev Bj:Stmt:=top 12
abbrev Bi:Stmt:=top 13
abbrev AO:Stmt:=top 14
abbrev Bg:Stmt:=top 15
abbrev Bq:Stmt:=top 16
abbrev Az:Stmt:=top 27
abbrev zP:Stmt:=top 28
abbrev AH:Stmt:=top 32
abbrev zQ:Stmt:=top 36
abbrev Ac:Stmt:=top 37
abbrev rT:Stmt:=top 38
abbrev zK:Stmt:=top 39
abbrev yX:Stmt:=top 40
abbrev AJ:Stmt:=top 42
abbrev A0:Stmt:=top 43
abbrev AS:Stmt:=top 44
abbrev Bf:Stmt:=tq (top 45) 0
abbrev AQ:Stmt:=top 46
abbrev Bb:Stmt:=top 49
abbrev Bk:Stmt:=top 50
noncomputable abbrev Be:Stmt:=top 51
abbrev AU:Stmt:=top 52
abbrev AK:Stmt:=top 54
abbrev Bm:Stmt:=top 60
abbrev Ak:Stmt:=top 61
abbrev Ay:Stmt:=top 64
abbrev Bo:Stmt:=top 65
abbrev Aw:Stmt:=top 66
abbrev Ad:Stmt:=top 67
abbrev Al:Stmt:=top 68
abbrev AZ:Stmt:=top 69
abbrev Bc:Stmt:=tq (top 70) 0
abbrev jB:Stmt:=tq (top 70) 1
abbrev A_:Stmt:=tq (top 70) 3
abbrev Bp:Stmt:=tq (top 70) 6
abbrev AB:Stmt:=top 72
abbrev Af:Stmt:=top 73
abbrev AE:Stmt:=top 74
abbrev Ag:Stmt:=top 75
abbrev xS:Stmt:=top 76
abbrev Br:Stmt:=top 77
abbrev AW:Stmt:=top 78
abbrev Ae:Stmt:=top 79
abbrev Aj:Stmt:=top 80
abbrev Ah:Stmt:=top 81
abbrev AA:Stmt:=top 82
abbrev AG:Stmt:=top 83
abbrev AN:Stmt:=top 84
abbrev AD:Stmt:=top 85
abbrev A7:Stmt:=top 86
abbrev AM:Stmt:=top 87
abbrev A8:Stmt:=top 88
abbrev AX:Stmt:=top 89
abbrev A4:Stmt:=top 90
abbrev Ba:Stmt:=top 91
abbrev A6:Stmt:=top 92
abbrev AV:Stmt:=top 93
abbrev A5:Stmt:=top 94
abbrev Ai:Stmt:=top 95
abbrev AF:Stmt:=top 98
abbrev A3:Stmt:=top 96
abbrev AL:Stmt:=top 97
abbrev AY:Stmt:=top 99
abbrev nH:Stmt:=top 100
theorem FO:ag ["thing"] ["thing"] (aZ xQ):=⟨rfl,rfl,rfl,⋯,rfl,⋯,⋯⟩
theorem J0:ag ["many","arrows"] ["many","arrows"] (aZ Bh):=⟨rfl,rfl,rfl,⋯,rfl,⋯,⋯⟩
theorem Jn:ag ["many","thing"] ["many","thing"] (aZ Ax):=⟨rfl,rfl,rfl,⋯,rfl,⋯,⋯⟩
theorem JS:ag ["self","many","arrows"] ["self","many","arrows"] (aZ A9):=⟨rfl,rfl,rfl,⋯,rfl,⋯,⋯⟩
theorem J1:ag ["one","other"] ["one","other"] (aZ Bj):=⟨rfl,rfl,rfl,⋯,rfl,⋯,⋯⟩
theorem J4:ag ["one","other"] ["one","other"] (aZ Bi):=⟨rfl,rfl,rfl,⋯,rfl,⋯,⋯⟩
theorem JB:ag ["one","other","shift","a","b","c","d"] ["one","other"] (aZ AO):=⟨rfl,rfl,rfl,⋯,rfl,⋯,⋯⟩
theorem JZ:ag ["one","other","a","b","c","d","many"] ["one","other"] (aZ Bg):=⟨rfl,rfl,rfl,⋯,rfl,⋯,⋯⟩
theorem J6:ag ["one","other"] ["one","other"] (aZ Bq):=⟨rfl,rfl,rfl,⋯,rfl,⋯,⋯⟩
theorem Jp:ag ["ground","thing","high","wide","rows"] ["ground","thing"] (aZ Az):=⟨rfl,rfl,rfl,⋯,rfl,⋯,⋯⟩
theorem IX:ag ["ground","wide","thing"] ["ground","wide","thing"] (aZ zP):=⟨rfl,rfl,rfl,⋯,rfl,⋯,⋯⟩
theorem JD:ag ["ground","row","bottom","number"] ["ground","row"] (aZ AH):=⟨rfl,rfl,rfl,⋯,rfl,⋯,⋯⟩
theorem IY:ag ["ground","row","divisor","number"] ["ground","row"] (aZ zQ):=⟨rfl,rfl,rfl,⋯,rfl,⋯,⋯⟩
theorem Jc:ag ["ground","row","lead","place","divisor","keep","take"] ["ground","row","lead","place"] (aZ Ac):=⟨rfl,rfl,rfl,⋯,rfl,⋯,⋯⟩
theorem FN:ag ["rows","place","found"] ["rows","place"] (aZ rT):=⟨rfl,rfl,rfl,⋯,rfl,⋯,⋯⟩
theorem IL:ag ["ground","rows","wide","done","left","places","place","at","lead"] ["ground","rows","wide"] (aZ zK):=⟨rfl,rfl,rfl,⋯,rfl,⋯,⋯⟩
theorem HU:ag ["ground","table"] ["ground","table"] (aZ yX):=⟨rfl,rfl,rfl,⋯,rfl,⋯,⋯⟩
theorem Jx:ag ["drawing","thing"] ["drawing","thing"] (aZ AJ):=⟨rfl,rfl,rfl,⋯,rfl,⋯,⋯⟩
theorem JN:ag ["ground","high","wide","thing"] ["ground","high","wide","thing"] (aZ A0):=⟨rfl,rfl,rfl,⋯,rfl,⋯,⋯⟩
theorem JE:ag ["ground","drawing","sizes","thing"] ["ground","drawing","sizes","thing"] (aZ AS):=⟨rfl,rfl,rfl,⋯,rfl,⋯,⋯⟩
theorem JY:ag ["self","ground","drawing","sizes","tables"] ["self","ground","drawing","sizes","tables"] (aZ Bf):=⟨rfl,rfl,rfl,⋯,rfl,⋯,⋯⟩
theorem JC:ag ["standing","ground","drawing"] ["standing","ground","drawing"] (aZ AQ):=⟨rfl,rfl,rfl,⋯,rfl,⋯,⋯⟩
theorem JV:ag ["one","other","starts","wide","high"] ["one","other"] (aZ Bb):=⟨rfl,rfl,rfl,⋯,rfl,⋯,⋯⟩
theorem J2:ag ["one","other","at","row_place","column_place","ground","starts","tail","head","found","k","number","row","place"] ["one","other","at","row_place","column_place"] (aZ Bk):=⟨rfl,rfl,rfl,⋯,rfl,⋯,⋯⟩
theorem JL:ag ["one","other","rows","at","tail","head","row_place","column_place"] ["one","other"] (aZ Be):=⟨rfl,rfl,rfl,⋯,rfl,⋯,⋯⟩
theorem JF:ag ["one","other","table"] ["one","other"] (aZ AU):=⟨rfl,rfl,rfl,⋯,rfl,⋯,⋯⟩
theorem FH:ag ["standing","thing"] ["standing","thing"] (aZ AK):=⟨rfl,rfl,rfl,⋯,rfl,⋯,⋯⟩
theorem J3:ag ["standing","other","part"] ["standing","other","part"] (aZ Bm):=⟨rfl,rfl,rfl,⋯,rfl,⋯,⋯⟩
theorem Jk:ag ["standing","paper"] ["standing","paper"] (aZ Ak):=⟨rfl,rfl,rfl,⋯,rfl,⋯,⋯⟩
theorem Jo:ag ["number"] ["number"] (aZ Ay):=⟨rfl,rfl,rfl,⋯,rfl,⋯,⋯⟩
theorem JW:ag ["thing"] ["thing"] (aZ Bo):=⟨rfl,rfl,rfl,⋯,rfl,⋯,⋯⟩
theorem Jm:ag ["top","bottom","divisor"] ["top","bottom"] (aZ Aw):=⟨rfl,rfl,rfl,⋯,rfl,⋯,⋯⟩
theorem Jd:ag ["rest","prime","low","high","low_times","high_times","many"] ["rest","prime"] (aZ Ad):=⟨rfl,rfl,rfl,⋯,rfl,⋯,⋯⟩
theorem Jl:ag ["top","bottom","prime","below"] ["top","bottom","prime"] (aZ Al):=⟨rfl,rfl,rfl,⋯,rfl,⋯,⋯⟩
theorem JM:ag ["thing","top","bottom"] ["thing"] (aZ AZ):=⟨rfl,rfl,rfl,⋯,rfl,⋯,⋯⟩
theorem JK:ag ["self","prime"] ["self","prime"] (aZ Bc):=⟨rfl,rfl,rfl,⋯,rfl,⋯,⋯⟩
theorem JX:ag ["self","top","bottom"] ["self","top","bottom"] (aZ jB):=⟨rfl,rfl,rfl,⋯,rfl,⋯,⋯⟩
theorem JT:ag ["self","a","b"] ["self","a","b"] (aZ A_):=⟨rfl,rfl,rfl,⋯,rfl,⋯,⋯⟩
theorem J5:ag ["self","thing"] ["self","thing"] (aZ Bp):=⟨rfl,rfl,rfl,⋯,rfl,⋯,⋯⟩
theorem Jr:ag ["_law_script","_law_k"] ["_law_script","_law_k"] (aZ AB):=⟨rfl,rfl,rfl,⋯,rfl,⋯,⋯⟩
theorem Jf:ag ["_law_cell_here"] ["_law_cell_here"] (aZ Af):=⟨rfl,rfl,rfl,⋯,rfl,⋯,⋯⟩
theorem Jt:ag ["_law_bag_here","_law_many","_law_found"] ["_law_bag_here","_law_many"] (aZ AE):=⟨rfl,rfl,rfl,⋯,rfl,⋯,⋯⟩
theorem Jg:ag ["_law_one","_law_two","_law_rest"] ["_law_one","_law_two"] (aZ Ag):=⟨rfl,rfl,rfl,⋯,rfl,⋯,⋯⟩
theorem FP:ag ["_law_top","_law_bottom","_law_both"] ["_law_top","_law_bottom"] (aZ xS):=⟨rfl,rfl,rfl,⋯,rfl,⋯,⋯⟩
theorem J7:ag ["_law_bag_here"] ["_law_bag_here"] (aZ Br):=⟨rfl,rfl,rfl,⋯,rfl,⋯,⋯⟩
theorem JH:ag ["_law_bag_here","_law_p"] ["_law_bag_here","_law_p"] (aZ AW):=⟨rfl,rfl,rfl,⋯,rfl,⋯,⋯⟩
theorem Je:ag ["_law_p","_law_a","_law_b"] ["_law_p","_law_a","_law_b"] (aZ Ae):=⟨rfl,rfl,rfl,⋯,rfl,⋯,⋯⟩
theorem Jj:ag ["_law_p","_law_a","_law_b"] ["_law_p","_law_a","_law_b"] (aZ Aj):=⟨rfl,rfl,rfl,⋯,rfl,⋯,⋯⟩
theorem Jh:ag ["_law_p","_law_k"] ["_law_p","_law_k"] (aZ Ah):=⟨rfl,rfl,rfl,⋯,rfl,⋯,⋯⟩
theorem Jq:ag ["_law_p","_law_a"] ["_law_p","_law_a"] (aZ AA):=⟨rfl,rfl,rfl,⋯,rfl,⋯,⋯⟩
theorem Jv:ag ["_law_bag_here","_law_p","_law_high","_law_wide","_law_thin","_law_rows_here","_law_i","_law_row","_law_j","_law_number_here"] ["_law_bag_here","_law_p","_law_high","_law_wide"] (aZ AG):=⟨rfl,rfl,rfl,⋯,rfl,⋯,⋯⟩
theorem JA:ag ["_law_bag_here","_law_p","_law_high","_law_wide","_law_rows_here","_law_a"] ["_law_bag_here","_law_p","_law_high","_law_wide"] (aZ AN):=⟨rfl,rfl,rfl,⋯,rfl,⋯,⋯⟩
theorem Js:ag ["_law_table_here"] ["_law_table_here"] (aZ AD):=⟨rfl,rfl,rfl,⋯,rfl,⋯,⋯⟩
theorem JQ:ag ["_law_p","_law_one","_law_other","_law_rows_here","_law_row","_law_made_here","_law_j","_law_number_here","_law_k"] ["_law_p","_law_one","_law_other"] (aZ A7):=⟨rfl,rfl,rfl,⋯,rfl,⋯,⋯⟩
theorem Jz:ag ["_law_p","_law_many"] ["_law_p","_law_many"] (aZ AM):=⟨rfl,rfl,rfl,⋯,rfl,⋯,⋯⟩
theorem JR:ag ["_law_p","_law_table_here","_law_high","_law_wide","_law_rows_here","_law_done","_law_column","_law_some","_law_back_here","_law_k","_law_less"] ["_law_p","_law_table_here"] (aZ A8):=⟨rfl,rfl,rfl,⋯,rfl,⋯,⋯⟩
theorem JI:ag ["_law_one","_law_other"] ["_law_one","_law_other"] (aZ AX):=⟨rfl,rfl,rfl,⋯,rfl,⋯,⋯⟩
theorem FM:ag ["_law_bag_here","_law_many","_law_way","_law_pairs","_law_k","_law_one","_law_arrows","_law_other","_law_turn"] ["_law_bag_here"] (aZ A4):=⟨rfl,rfl,rfl,⋯,rfl,⋯,⋯⟩
theorem JU:ag ["_law_bag_here","_law_p","_law_many","_law_arrows","_law_sizes","_law_left","_law_k","_law_tables"] ["_law_bag_here","_law_p","_law_many","_law_arrows"] (aZ Ba):=⟨rfl,rfl,rfl,⋯,rfl,⋯,⋯⟩
theorem JP:ag ["_law_bag_here","_law_p"] ["_law_bag_here","_law_p"] (aZ A6):=⟨rfl,rfl,rfl,⋯,rfl,⋯,⋯⟩
theorem JG:ag ["_law_bag_here","_law_p","_law_size","_law_high","_law_wide","_law_rows_here","_law_a","_law_k","_law_one","_law_other"] ["_law_bag_here","_law_p","_law_size"] (aZ AV):=⟨rfl,rfl,rfl,⋯,rfl,⋯,⋯⟩
theorem JO:ag ["_law_p","_law_table_here","_law_size","_law_led_here"] ["_law_p","_law_table_here"] (aZ A5):=⟨rfl,rfl,rfl,⋯,rfl,⋯,⋯⟩
theorem Ji:ag ["_law_p","_law_arrows","_law_standing_here","_law_changes","_law_backs","_law_tables","_law_table_here","_law_tail","_law_head"] ["_law_p","_law_arrows","_law_standing_here","_law_changes","_law_backs"] (aZ Ai):=⟨rfl,rfl,rfl,⋯,rfl,⋯,⋯⟩
theorem Ju:ag ["_law_ground","_law_drawing_here","_law_standing_here"] ["_law_ground","_law_drawing_here","_law_standing_here"] (aZ AF):=⟨rfl,rfl,rfl,⋯,rfl,⋯,⋯⟩
theorem FL:ag ["_law_p","_law_arrow","_law_k","_law_one","_law_other","_law_spot","_law_starts","_law_here","_law_there","_law_row","_law_tail","_law_head","_law_j","_law_at","_law_less"] ["_law_p","_law_arrow","_law_k","_law_one","_law_other","_law_spot"] (aZ A3):=⟨rfl,rfl,rfl,⋯,rfl,⋯,⋯⟩
theorem Jy:ag ["_law_p","_law_arrows","_law_one","_law_other","_law_rows_here","_law_k","_law_arrow","_law_i","_law_j","_law_many"] ["_law_p","_law_arrows","_law_one","_law_other"] (aZ AL):=⟨rfl,rfl,rfl,⋯,rfl,⋯,⋯⟩
theorem JJ:ag ["_law_p","_law_many","_law_arrows","_law_point","_law_size","_law_sizes","_law_tables","_law_tail","_law_head","_law_rows_here"] ["_law_p","_law_many","_law_arrows","_law_point","_law_size"] (aZ AY):=⟨rfl,rfl,rfl,⋯,rfl,⋯,⋯⟩
theorem FZ:ag ["_law_script","_law_cell_here","_law_bag_here","_law_p","_law_many","_law_arrows","_law_one","_law_other","_law_changes","_law_led_here","_law_part","_law_some","_law_standing_here","_law_due","_law_near","_law_far","_law_found"] ["_law_script"] (aZ nH):=⟨rfl,rfl,rfl,⋯,rfl,⋯,⋯⟩
structure J_ (K:Frag)(mg:Str->Option Value)(C G S:Addr):Prop where
 cl_Drawing:iz K C
 nM:bK K C "many"
 nA:bK K C "arrows"
 cl_Ground:iz K G
 nP:bK K G "prime"
 cl_Standing:iz K S
 nSg:bK K S "ground"
 nSd:bK K S "drawing"
 nSs:bK K S "sizes"
 nSt:bK K S "tables"
 n_len:mg "len" = none
 n_range:mg "range" = none
 n_list:mg "list" = none
 n_min:mg "min" = none
 n_int:mg "int" = none
 n_bool:mg "bool" = none
 n_tuple:mg "tuple" = none
 n_all:mg "all" = none
 n_isinstance:mg "isinstance" = none
 n_abs:mg "abs" = none
 n_zip:mg "zip" = none
 n_enumerate:mg "enumerate" = none
 n_reversed:mg "reversed" = none
 n_sum:mg "sum" = none
 n_any:mg "any" = none
 g_MOST_POINTS:∃ t,mg "MOST_POINTS" = some (.int 8 t)
 g_MOST_ARROWS:∃ t,mg "MOST_ARROWS" = some (.int 9 t)
 g_LARGEST_PRIME:∃ t,mg "LARGEST_PRIME" = some (.int 97 t)
 g_LONG:∃ t,mg "LONG" = some (.int 4000 t)
 g_LEADING:∃ t,mg "LEADING" = some (.int 126 t)
 g_Standing:mg "Standing" = ↥S
 ic1:PySem.W.findIn K (.ref S) "__class__" = some (some (.builtin "object.__class__"))
 ic2:PySem.W.specialIn K (.builtin "object.__class__") "__get__" = some (some (.builtin "getset_descriptor.__get__"))
 ic3:PySem.W.takesIn K (.builtin "object.__class__")=some true
 ic4:PySem.W.mroIn K S (.type "object")=some true
noncomputable def oB (a b:Int):HO:=.lst [.int a,.int b]
def bw (H:Hp)(l:Addr):Prop:=∃ a b:Int,H l=some (oB a b)/\0<=b/\b<2147483647
def DV (K:Frag):Sp:=λvs H Q _=>∃ (a:Addr) (ns:List Int) (k:Int),vs=[.ref a,.int k]/\aj K H a (ns.map V.int)/\ns.length<=63/\0<=k/\∀ c,Q (.int c) H
def spBag:Sp:=λvs H Q _=>∃ c:Int,vs=[.int c]/\∀ (l:Addr) (a b:Int),H l=none->0<=b->b<2147483647->Q (.ref l) (ar H l (oB a b))
def jf:Sp:=λvs H Q _=>∃ (l:Addr) (a b n:Int),vs=[.ref l,.int n]/\H l=some (oB a b)/\0<=b/\b<2147483647/\0<n/\n<1000000000 /\
 ∀ (r a' b':Int),0<=r->r<n->0<=b'->b'<2147483647->Q (.int r) (ar H l (oB a' b'))
section
variable {C G S:Addr}
theorem mx (F:⇑("_law_cell",AB))(T:⇑()):⇑[1,["_law_script","_law_k"],DV K]:=by
 exists Jr,fU,3
 show cK h λa ns k e92 hS hl e93=>?_;clear h;subst e92;obtain⟨h0,q⟩:=e93;show⟨_,((@bI _ _ _ _ _ _ _ _ (bX jS (ae 1) (cg h_ rfl T.n_len ig ((ae 0)<&>ah)) (bo _)) (~~~((ixJ a_)<|>(ae 0)<||>(ae 1))) bJ)<*>(~~~aq)),?_⟩;left;show⟨_,.inl hS,bH (λhc=>?_) (λ_=>q 0)⟩;have hc:=fc hc;rw[aB] at hc;show⟨_,hS,V.int (ns[k.toNat]'(by omega)),eK h0 ?_,q _⟩;rw[bj,aG ∅];rfl
theorem cpow (k:Int)(h0:0<=k)(h1:k<=1000):wM 10 k:=⟨h0,∅,⇑0⟩
theorem ve (c n:Int)(h:0<n):0<=c % n:=gO _ ∅
theorem vc (c n:Int)(h:0<n):c % n<n:=gA _ h
theorem bw.ne {H:Hp}{l p:Addr}(h:bw H l)(hp:H p=none):p≠l:=by
 show cE h λa b e _=>?_;clear h;show (bV e hp).symm
theorem bw.new {H:Hp}{l p:Addr}{o:HO}(h:bw H l)(hp:p≠l):bw (ar H p o) l:=by
 show cF h λa b e h1 h2=>?_;clear h;show aM a b ⟨by rw[aR hp.symm];show e,h1,h2⟩
theorem bw.set {H:Hp}{l:Addr}{a b:Int}(h1:0<=b)(h2:b<2147483647):bw (ar H l (oB a b)) l:=⟨a,b,aw,h1,h2⟩
def d7 (H:Hp)(m:Int)(x:V):Prop:=∃ (t:Addr) (i j:Int),x=.ref t/\H t=some (.tup [.int i,.int j])/\0<=i/\i<m/\0<=j/\j<m
def aJ (H:Hp)(m:Int)(xs:List V):Prop:=∀ x∈xs,d7 H m x
theorem d7.same {H H':Hp}{m:Int}{x:V}(e:d7 H m x)(s:aa H H'):d7 H' m x:=by
 show iD e λt i j h1 h2 h3=>?_;clear e;show dc t i j ⟨h1,s _ _ h2,h3⟩
theorem aJ.same {H H':Hp}{m:Int}{xs:List V}(e:aJ H m xs)(s:aa H H'):aJ H' m xs:=λx hx=>(e x hx).same s
theorem d7.ext {H H':Hp}{m:Int}{l:Addr}{x:V}{ys:List V}(e:d7 H m x)(s:bf l H H')(hl:H l=some (.lst ys)):d7 H' m x:=by
 show iD e λt i j h1 h2 h3=>?_;clear e;show dc t i j ⟨h1,s _ _ (fL h2 hl (by intro z;cases z)) h2,h3⟩
theorem aJ.ext {H H':Hp}{m:Int}{l:Addr}{xs ys:List V}(e:aJ H m xs)(s:bf l H H')(hl:H l=some (.lst ys)):aJ H' m xs:=λx hx=>(e x hx).ext s hl
theorem aJ.nil {H:Hp}{m:Int}:aJ H m []:=λ_ h=>nomatch h
theorem aJ.snoc {H:Hp}{m:Int}{xs:List V}{x:V}(e:aJ H m xs)(h:d7 H m x):aJ H m (xs++[x]):=λy hy=>by
 rcases cj.mp hy with z|z
 .exact e y z
 .rw [cS.mp z];show h
theorem aJ.put {H:Hp}{m:Int}{xs ys:List V}{p:Addr}{o:HO}(e:aJ H m xs)(hp:H p=some (.lst ys)):aJ (ar H p o) m xs:=e.ext (l:=p) bf.set hp
structure xX (l:Addr)(H:Hp)(p e:Addr)(m:Int)(xs:List V)(H':Hp):Prop where
 ext:bf l H H'
 bag:bw H' l
 tup:H' p=some (.tup [.int m,.ref e])
 lst:H' e=some (.lst xs)
 new:H e=none
 lo:1<=m
 hi:m<=8
 len:xs.length<=9
 ed:aJ H' m xs
def spOut (K0:List V->Prop):Sp:=λvs H Q _=>∃ (l:Addr) (r:List V),vs=.ref l::r/\K0 r/\bw H l/\∀ p e m xs H',xX l H p e m xs H'->Q (.ref p) H'
def way0 (r:List V):Prop:=r=[]
theorem d7.mk {H:Hp}{p:Addr}{i j m:Int}(h1:0<=i)(h2:i<m)(h3:0<=j)(h4:j<m):d7 (ar H p (.tup [.int i,.int j])) m (.ref p):=⟨p,i,j,rfl,aw,h1,h2,h3,h4⟩
theorem aJ.add {H:Hp}{p:Addr}{i j m:Int}{xs:List V}(e:aJ H m xs)(hp:H p=none)(h1:0<=i)(h2:i<m)(h3:0<=j)(h4:j<m):aJ (ar H p (.tup [.int i,.int j])) m (xs++[.ref p]):=
 (e.same (aa.new hp)).snoc (d7.mk h1 h2 h3 h4)
theorem IE {fr:List (Str×Nat)}{σ:L2.St}{t1 t2:TE}{lo m:Int}{n:Nat}{D:Addr}{H1:Hp}{Q:VK}(a b:Nat->Int)(hD:H1 D=none)(hn:n<=9)(h1:∀ i H Q,i<n->Q (.int (a i)) H->t1 (some (.int (lo+(i:Nat)))::cy fr σ) H Q)(h2:∀ i H Q,i<n->Q (.int (b i)) H->t2 (some (.int (lo+(i:Nat)))::cy fr σ) H Q)(hr:∀ i,i<n->0<=a i/\a i<m/\0<=b i/\b i<m)(hQ:∀ xs H',aa H1 H'->H' D=some (.lst xs)->xs.length=n->aJ H' m xs->Q (.ref D) H'):
  eZ (bU 0) dh (tTup (jd t1 (jd t2 oC))) (ja lo n) D (dP 1 fr σ) H1 Q:=by
 show vC (λi vs H=>aa H1 H/\H D=some (.lst vs)/\vs.length=i/\aJ H m vs) ⟨aa.new hD,aw,rfl,aJ.nil⟩ ?_ (λvs H ⟨s,e,l,d⟩=>hQ vs H s e l d);intro i x vs σ' H hi e91;obtain rfl:=e91;intro sh e92;show cA e92 λs e hl d=>?_;clear e92;obtain⟨z,rfl⟩:=sh.one;simp only[gD,bU,dh,List.set_cons_zero,fm,tTup,jd,oC];show h1 i H _ hi (h2 i H _ hi ⟨by show 2<=sizeLine;decide,λp hp=>?_⟩);show cA (hr i hi) λr1 r2 r3 r4=>?_;have nD:D≠p:=bV e hp;have e':(ar H p (.tup [.int (a i),.int (b i)])) D=some (.lst vs):=by rw[aR nD];show e
 show gj (ws:=vs++[.ref p]) hi Sh.mk1 e' (cT ∅) ⟨(s.trans (aa.new hp)).upd hD,aw,by rw[bN,hl];rfl,(d.add hp r1 r2 r3 r4).put e'⟩
theorem xX.fin {l p t:Addr}{m:Int}{xs:List V}{H H2:Hp}(ex:bf l H H2)(b:bw H2 l)(hp:H2 p=some (.lst xs))(new:H p=none)(lo:1<=m)(hi:m<=8)(len:xs.length<=9)(d:aJ H2 m xs)(ht:H2 t=none):
  xX l H t p m xs (ar H2 t (.tup [.int m,.ref p])):=
 ⟨ex.trans (bf.new ht),b.new (b.ne ht),aw,by rw[aR (bV hp ht)];show hp,new,lo,hi,len,d.same (aa.new ht)⟩
theorem bw.draw {H:Hp}{l:Addr}{n:Int}{Q:VK}{E:XK}(b:bw H l)(h0:0<n)(h1:n<1000000000)(q:∀ (r:Int) (H':Hp),0<=r->r<n->bf l H H'->bw H' l->Q (.int r) H'):jf [.ref l,.int n] H Q E:=by
 show cF b λx y e y0 y1=>?_;clear b;show jc l x y n ⟨rfl,e,y0,y1,h0,h1,λr a' b' r0 r1 c0 c1=>q r _ r0 r1 bf.set (bw.set c0 c1)⟩
theorem bw.lst {H:Hp}{l:Addr}(b:bw H l):∃ ys,H l=some (.lst ys):=by
 show cE b λx y e _=>?_;clear b;show⟨_,e⟩
theorem aJ.bag {H H':Hp}{m:Int}{l:Addr}{xs:List V}(e:aJ H m xs)(s:bf l H H')(b:bw H l):aJ H' m xs:=by
 obtain⟨ys,h⟩:=b.lst;show e.ext s h
theorem Hk {R:It->Hp->Prop}{l:Addr}{σ:L2.St}{H:Hp}{k:Int}(b:bw H l)(h0:0<k)(h1:k<1000000000)(q:∀ (n:Int) (H3:Hp),0<=n->n<k->bf l H H3->bw H3 l->R (ja 0 n.toNat) H3):
  yO (jd (wZ jf [] E0 (jd (eG 0) (jd (tC (.int k)) oC))) oC) (↥l::σ) H R:=by
 show⟨_,rfl,?_⟩;simp only[jd,tC,oC,r9];show b.draw h0 h1 λn H3 n0 n1 e3 b3=>⟨n,rfl,∅,∅,q n H3 n0 n1 e3 b3⟩
theorem bw.same {H H':Hp}{l:Addr}(b:bw H l)(s:aa H H'):bw H' l:=by
 show cF b λx y e h1 h2=>?_;clear b;show aM x y ⟨s _ _ e,h1,h2⟩
end
end Pf
set_option maxHeartbeats 1000000
namespace Pf
open PySem L2 PyProof.Rows
section
variable {C G S:Addr}
theorem oy {c A B:Prop}[Decidable c](hc:c)(h:A):if c then A else B:=by rw[if_pos hc];show h
theorem eE {c A B:Prop}[Decidable c](hc:¬ c)(h:B):if c then A else B:=by rw[if_neg hc];show h
theorem xN {a D:Addr}{xs:List V}{fr:List (Str×Nat)}{σ:L2.St}{te:TE}{H1:Hp}{Q:VK}(fb:Nat->Bool)(ha:H1 a=some (.lst xs))(hD:H1 D=none)(hn:xs.length<=1000)(h:∀ (i:Nat) x H (Q:VK),xs[i]?=some x->aa H1 H->(∀ H',aa H H'->Q (.bl (fb i)) H')->te (some x::cy fr σ) H Q)(hQ:∀ H',aa H1 H'->H' D=some (.lst (((List.range xs.length).map fb).map V.bl))->Q (.ref D) H'):eZ (bU 0) dh te (jq K a) D (dP 1 fr σ) H1 Q:=by
 show rO (xs:=xs) (λi vs H=>aa H1 H/\H D=some (.lst vs)/\vs=((List.range i).map fb).map V.bl) ⟨aa.new hD,aw,rfl⟩ (λi vs H _ p=>aj.of (p.1 _ _ ha)) ?_ (λvs H ⟨s,e,hv⟩=>hQ H s (by rw[e,hv]));intro i x vs σ' H hi hx sh e91;show bC e91 λs e e93=>?_;clear e91;obtain rfl:=e93;obtain⟨z,rfl⟩:=sh.one;simp only[gD,bU,dh,List.set_cons_zero,fm];show h i x H _ hx s λH' s'=>?_;show gj (ws:=((List.range (i+1)).map fb).map V.bl) hi Sh.mk1 (s' _ _ e) (cT (by rw[aB,aB,dq];omega)) ⟨(s.trans s').upd hD,by rw[aw,i_,dW,dW];rfl,rfl⟩
theorem Hr {a D:Addr}{xs:List V}{fr:List (Str×Nat)}{σ:L2.St}{te:TE}{H1:Hp}{Q:VK}(fb:Nat->Bool)(ha:H1 a=some (.tup xs))(hD:H1 D=none)(hn:xs.length<=1000)(h:∀ (i:Nat) x H (Q:VK),xs[i]?=some x->aa H1 H->(∀ H',aa H H'->Q (.bl (fb i)) H')->te (some x::cy fr σ) H Q)(hQ:∀ H',aa H1 H'->H' D=some (.lst (((List.range xs.length).map fb).map V.bl))->Q (.ref D) H'):eZ (bU 0) dh te (sJ K a) D (dP 1 fr σ) H1 Q:=by
 show Gd (xs:=xs) (λi vs H=>aa H1 H/\H D=some (.lst vs)/\vs=((List.range i).map fb).map V.bl) ⟨aa.new hD,aw,rfl⟩ (λi vs H _ p=>aE.of (p.1 _ _ ha)) ?_ (λvs H ⟨s,e,hv⟩=>hQ H s (by rw[e,hv]));intro i x vs σ' H hi hx sh e92;show bC e92 λs e e94=>?_;clear e92;obtain rfl:=e94;obtain⟨z,rfl⟩:=sh.one;simp only[gD,bU,dh,List.set_cons_zero,fm];show h i x H _ hx s λH' s'=>?_;show gj (ws:=((List.range (i+1)).map fb).map V.bl) hi Sh.mk1 (s' _ _ e) (cT (by rw[aB,aB,dq];omega)) ⟨(s.trans s').upd hD,by rw[aw,i_,dW,dW];rfl,rfl⟩
theorem vA (n:Nat):((List.range n).map λ_=>true).all id=true:=by
 rw[jk];intro b hb;show ao (bR.mp hb) λ_ _ e95=>?_;obtain rfl:=e95;rfl
def vK:Sp:=λvs H Q _=>∃ i:Int,vs=[.int i]/\Q (.bl true) H
theorem GM (F:⇑("is_whole",xQ))(T:⇑()):⇑[1,["thing"],vK]:=by
 exists FO,ao,1
 show ao h λi e97 q=>?_;clear h;subst e97;show⟨_,(~~~(nL (cg iJ rfl T.n_isinstance iP ((ae 0)<&>((iW rfl T.n_int boot_int)<&>ah))) (nN (CL (cg iJ rfl T.n_isinstance iP ((ae 0)<&>((iW rfl T.n_bool boot_bool)<&>ah))))))),?_⟩;left;show aM _ _ ⟨⟨rfl,rfl⟩,_,rfl,_,.int i,_,Fc K,iteT ⟨_,_,⟨rfl,rfl⟩,_,rfl,_,.int i,_,FE K,q⟩⟩
def E9:Sp:=λvs H Q _=>∃ (m:Int) (x:V),vs=[.int m,x]/\d7 H m x/\∀ H',aa H H'->Q (.bl true) H'
theorem Gw (F:⇑("is_arrow",Ax))(T:⇑())(Yab:⇑("is_whole",1,vK)):⇑[2,["many","thing"],E9]:=by
 exists Jn,cE,2
 show cF h λm x e99 e910 q=>?_;clear h;subst e99;obtain⟨t,i,j,rfl,ht,i0,i1,j0,j1⟩:=e910;show⟨_,((@bI _ _ _ _ _ _ _ _ (PW.pt (fM (d_ (eY (cg iJ rfl T.n_isinstance iP ((ae 1)<&>((iW rfl T.n_tuple boot_tuple)<&>ah))))) (gG (bX fW (cg h_ rfl T.n_len ig ((ae 1)<&>ah)) aq (bo _))))) (~~~fX) bJ)<*>(~~~(cg (rM rfl) rfl T.n_all boot_all ((dR (own:=["end"]) (fr:=[("many",0)]) rfl (cW (by kernel_rfl)) (y2 (pv 1)) (λ_ _ _ _=>⟨(0<<<["end","many"]),df,(nL (Yab<$>hr<$>((pv 0)<&>ah)) (nN (Eu sQ jS aq (pv 0) (pv 1))))⟩))<&>ah)))),?_⟩;left;show aM _ _ ⟨⟨rfl,rfl⟩,_,rfl,_,.tup ht,_,Ap K,iteF ⟨_,.inr (aE.of ht),iteF ?_⟩⟩;show⟨_,rfl,t,rfl,⟨_,aE.of ht⟩,λD hD=>Hr (λ_=>true) ht hD (by show 2<=1000;decide) (λk x H' Q' hx s' q'=>?_) λH' s' e'=>⟨D,rfl,_,aj.of e',?_⟩⟩
 .have hx':∃ z:Int,x=.int z/\0<=z/\z<m:=by
   match k,hx with
   | 0,hx=>show⟨i,(gw hx).symm,i0,i1⟩
   | 1,hx=>show⟨j,(gw hx).symm,j0,j1⟩
   | k+2,hx=>cases hx
  show bh hx' λz e911 z0 z1=>?_;clear hx';obtain rfl:=e911;show⟨_,rfl,⟨z,rfl,true,rfl,iteT ⟨_,rfl,_,_,rfl,rfl,_,rfl,?_⟩⟩⟩;show oy (cf z0) ⟨_,rfl,_,_,rfl,rfl,?_⟩;change Q' (V.bl (decide (z<m))) H';rw[cf z1];show q' H' (aa.refl _)
 .rw [vA];show q H' s'
def EU:Sp:=λvs H Q _=>∃ (m:Int) (a:Addr) (xs:List V),vs=[.int m,.ref a]/\1<=m/\m<=8/\H a=some (.lst xs)/\xs.length<=9/\aJ H m xs/\∀ H',aa H H'->Q (.bl true) H'
theorem GD (F:⇑("makes_drawing",Bh))(T:⇑())(Yab:⇑("is_whole",1,vK))(Yaz:⇑("is_arrow",2,E9)):⇑[3,["many","arrows"],EU]:=by
 exists J0,fU,3
 show cK h λm a xs e913 m0 m8 e914=>?_;clear h;subst e913;show cA e914 λha hl d q=>?_;clear e914;show⟨_,((@bI _ _ _ _ _ _ _ _ (PW.pt (fM (d_ (eY (Yab<$>hr<$>((ae 0)<&>ah)))) (gG (d_ (Ey sQ sQ aq (ae 0) (tJ rfl T.g_MOST_POINTS)))))) (~~~fX) bJ)<*>((@bI _ _ _ _ _ _ _ _ (PW.pt (fM (d_ (eY (cg iJ rfl T.n_isinstance iP ((ae 1)<&>((iW rfl T.n_list j7)<&>ah))))) (gG (bX gF (cg h_ rfl T.n_len ig ((ae 1)<&>ah)) (tJ rfl T.g_MOST_ARROWS) (bo _))))) (~~~fX) bJ)<*>(~~~(cg (rM rfl) rfl T.n_all boot_all ((dR (own:=["arrow"]) (fr:=[("many",0)]) rfl (cW (by kernel_rfl)) (eJ (pv 1)) (λ_ _ _ _=>⟨(0<<<["arrow","many"]),df,(Yaz<$>hr<$>((pv 1)<&>((pv 0)<&>ah)))⟩))<&>ah))))),?_⟩;left;show⟨m,rfl,true,rfl,iteF (oy (cf m0) (eE (by rw[cf m8];decide) ⟨_,_,⟨rfl,rfl⟩,_,rfl,_,.lst ha,_,xR K,iteF ⟨_,.inl (aj.of ha),eE (by rw[d6 ∅];decide) ?_⟩⟩))⟩;show⟨_,rfl,a,rfl,⟨_,aj.of ha⟩,λD hD=>xN (λ_=>true) ha hD ∅ (λk x H' Q' hx s' q'=>?_) λH' s' e'=>⟨D,rfl,_,aj.of e',?_⟩⟩
 .exact ⟨_,rfl,_,rfl,m,x,rfl,(d x (aY hx)).same s',q'⟩
 .rw [vA];show q H' s'
noncomputable def flds (m:Int)(lp:Addr):List (Str×V):=bS "arrows" (.ref lp) (bS "many" (.int m) [])
theorem tQ (m:Int)(lp:Addr):(flds m lp).lookup ("arrows" : Str)=↥lp:=by
 unfold flds;rw[gM,if_pos rfl]
theorem Ab (m:Int)(lp:Addr):(flds m lp).lookup ("many" : Str)=⇑m:=by
 unfold flds;rw[gM,if_neg ⋯,gM,if_pos rfl]
theorem Gk (m:Int):(bS "many" (.int m) ([]:List (Str×V))).length<1000:=by
 have:=rS "many" (.int m) [];simp at this;omega
def xc (C:Addr):Sp:=λvs H Q _=>∃ (p dx:Addr) (m:Int) (a:Addr) (xs:List V),vs=[.ref p,.int m,.ref a]/\H p=some (.ins C dx [])/\1<=m/\m<=8/\H a=some (.lst xs)/\xs.length<=9/\aJ H m xs /\
 ∀ (lp:Addr) (H':Hp),bf p H H'->H' p=some (.ins C dx (flds m lp))->H lp=none->H' lp=some (.lst xs)->Q .non H'
theorem mi (F:ik K "__init__" "Drawing.__init__" A9 f fd)(T:⇑())(Yb1:⇑("makes_drawing",3,EU)):⇑[4,["self","many","arrows"],xc C]:=by
 exists JS,uQ,5
 show iE h λp dx m a xs e93 hp m0 e94=>?_;clear h;subst e93;show dj e94 λm8 ha hl d q=>?_;clear e94;show⟨_,((@bI _ _ _ _ _ _ _ _ (d_ (eY (Yb1<$>hr<$>((ae 1)<&>((ae 2)<&>ah))))) (@bE _ _ _ kI) bJ)<*>((rH (ae 0) (ae 1) rfl)<*>(@bE _ _ _ (rH (ae 0) (ku vP rfl T.n_list j7 ((ae 2)<&>ah)) rfl)))),?_⟩;left;show dc m a xs ⟨rfl,m0,m8,ha,hl,d,λH1 s1=>⟨true,rfl,iteF ?_⟩⟩;have nap:a≠p:=fL ha hp (by intro z;cases z);show dc C dx [] ⟨s1 _ _ hp,T.cl_Drawing,T.nM,by show 0<1000;decide,xs,.inl (aj.of (by rw[aR nap];show s1 _ _ ha)),λl hl0=>?_⟩;have npl:p≠l:=bV aw hl0;show dc C dx _ ⟨by rw[aR npl];show aw,T.cl_Drawing,T.nA,Gk m,?_⟩;have fl:H l=none:=by
  rw[aR npl.symm] at hl0;show s1.free hl0
 show q l _ (λb o nb e=>?_) aw fl (by rw[aR npl.symm];show aw);rw[aR nb,aR (bV e fl),aR nb];show s1 _ _ e
def dw (H:Hp)(xs:List V)(ps:List (Int×Int)):Prop:=xs.length=ps.length/\∀ (i:Nat) (x:V) (q:Int×Int),xs[i]?=some x->ps[i]?=some q->∃ t,x=.ref t/\H t=some (.tup [.int q.1,.int q.2])
theorem dw.same {H H':Hp}{xs:List V}{ps:List (Int×Int)}(h:dw H xs ps)(s:aa H H'):dw H' xs ps:=⟨h.1,λi x q h1 h2=>let ⟨t,e1,e2⟩:=h.2 i x q h1 h2;⟨t,e1,s _ _ e2⟩⟩
def kC (C:Addr)(H:Hp)(p:Addr)(m:Int)(lp:Addr)(xs:List V):Prop:=∃ dx,H p=some (.ins C dx (flds m lp))/\H lp=some (.lst xs)
def jD (m:Int)(ps:List (Int×Int)):Prop:=∀ q∈ps,0<=q.1/\q.1<m/\0<=q.2/\q.2<m
theorem dw.nil {H:Hp}:dw H [] []:=⟨rfl,λi x q h=>by simp at h⟩
theorem dw.put {H:Hp}{D:Addr}{l:List V}{o:HO}{xs:List V}{ps:List (Int×Int)}(h:dw H xs ps)(hD:H D=some (.lst l)):dw (ar H D o) xs ps:=
 ⟨h.1,λi x q h1 h2=>let ⟨t,e1,e2⟩:=h.2 i x q h1 h2;⟨t,e1,by rw[aR (fL e2 hD (by intro z;cases z))];show e2⟩⟩
theorem D6 {H:Hp}{m:Int}:∀ {xs:List V},aJ H m xs->∃ ps,dw H xs ps/\jD m ps
 | [],_=>⟨[],dw.nil,λq h=>by simp at h⟩
 | x::xs,d=>by
  show ao (D6 (xs:=xs) λy hy=>d y (kO _ hy)) λps e92 h3=>?_;obtain⟨h1,h2⟩:=e92;show iD (d x o_) λt i j e93 ht hb=>?_;obtain rfl:=e93;show⟨(i,j)::ps,⟨by simp[h1],λk y q e1 e2=>?_⟩,λq hq=>?_⟩
  .cases k with
   | zero=>
    simp at e1 e2;subst e1 e2;show⟨t,rfl,ht⟩
   | succ k=>show h2 k y q (by simpa using e1) (by simpa using e2)
  .rcases gf.mp hq with rfl|hq
   .exact hb
   .exact h3 q hq
theorem Gi {H:Hp}{m:Int}{xs:List V}{ps:List (Int×Int)}(h:dw H xs ps)(r:jD m ps):aJ H m xs:=by
 intro x hx;obtain⟨i,hi,rfl⟩:=dZ.mp hx;have hl:=h.1;have hq:ps[i]?=some (ps[i]'(by omega)):=aG _;show ao (h.2 i _ _ (aG hi) hq) λt e1 e2=>?_;show dc t _ _ ⟨e1,e2,r _ (aY hq)⟩
theorem uK {k:Nat}{A:Around}(hr:bp k A):A.units+8<cLine:=by have:=hr.units;omega
theorem aa.thru {l:Addr}{H H1 H2:Hp}(s:aa H H1)(h:H l=none)(e:bf l H1 H2):aa H H2:=λb o eb=>e b o (bV eb h) (s b o eb)
theorem Hq {lo:Int}{n:Nat}{D:Addr}{fr:List (Str×Nat)}{σ:L2.St}{te:TE}{H1:Hp}{Q:VK}(fb:Nat->Bool)(hD:H1 D=none)(hn:n<=1000)(h:∀ (i:Nat) H (Q:VK),i<n->aa H1 H->(∀ H',aa H H'->Q (.bl (fb i)) H')->te (some (.int (lo+(i:Nat)))::cy fr σ) H Q)(hQ:∀ H',aa H1 H'->H' D=some (.lst (((List.range n).map fb).map V.bl))->Q (.ref D) H'):eZ (bU 0) dh te (ja lo n) D (dP 1 fr σ) H1 Q:=by
 show vC (λi vs H=>aa H1 H/\H D=some (.lst vs)/\vs=((List.range i).map fb).map V.bl) ⟨aa.new hD,aw,rfl⟩ ?_ (λvs H ⟨s,e,hv⟩=>hQ H s (by rw[e,hv]));intro i x vs σ' H hi e91;obtain rfl:=e91;intro sh e92;show bC e92 λs e e93=>?_;clear e92;obtain rfl:=e93;obtain⟨z,rfl⟩:=sh.one;simp only[gD,bU,dh,List.set_cons_zero,fm];show h i H _ hi s λH' s'=>?_;show gj (ws:=((List.range (i+1)).map fb).map V.bl) hi Sh.mk1 (s' _ _ e) (cT (by rw[aB,aB,dq];omega)) ⟨(s.trans s').upd hD,by rw[aw,i_,dW,dW];rfl,rfl⟩
abbrev vY:Nat:=67000002
abbrev NB:Nat:=67000001
def Kb (a:Int):Prop:=Bt NB a
def jU (p:Int):Prop:=1<p/\p<=97/\∀ d:Int,2<=d->d<p->p % d≠0
def EW:Sp:=λvs H Q _=>∃ p:Int,vs=[.int p]/\jU p/\∀ H',aa H H'->Q (.bl true) H'
theorem GF (F:⇑("is_prime",Ay))(T:⇑()):⇑[1,["number"],EW]:=by
 exists Jo,ao,1
 show bh h λp e95 e96 q=>?_;clear h;subst e95;obtain⟨p1,p2,p3⟩:=e96;show⟨_,(~~~(nL (i4 (g7 gF) (ae 0) aq (bo _)) (nN (cg (rM rfl) rfl T.n_all boot_all ((dR (own:=["divisor"]) (fr:=[("number",0)]) rfl (cW (by kernel_rfl)) (jK rfl T.n_range (aq<&>((pv 0)<&>ah))) (λ_ _ _ _=>⟨(0<<<["divisor","number"]),df,(i4 fW (fY<|>(pv 1)<&&>(pv 0)) aq (bo _))⟩))<&>ah))))),?_⟩;left;show oy (cf p1) ⟨_,rfl,2,p,rfl,⟨⇑0,⇑0,∅,∅⟩,λD hD=>Hq (λ_=>true) hD ∅ (λi H' Q' hi s' q'=>?_) λH' s' e'=>⟨D,rfl,_,aj.of e',?_⟩⟩
 .have h0:(0:Int)<2+(i:Int):=∅
  have hne:=p3 (2+(i:Int)) ∅ ∅;show⟨_,rfl,_,rfl,_,_,rfl,rfl,h0,rfl,?_⟩;have:(!decide (V.int (p % (2+(i:Int)))=V.int 0))=true:=by simp only[V.int.injEq,d6 hne];rfl
  rw[this];show q' H' (aa.refl _)
 .rw [vA];show q H' s'
def af (p:Int):Prop:=p=0\/jU p
def E2:Sp:=λvs H Q _=>∃ p:Int,vs=[.int p]/\af p/\∀ H',aa H H'->Q (.bl true) H'
theorem GK (F:⇑("tells_ground",Bo))(T:⇑())(Yab:⇑("is_whole",1,vK))(Yb3:⇑("is_prime",1,EW)):⇑[2,["thing"],E2]:=by
 exists JW,ao,1
 show bh h λp e98 hp q=>?_;clear h;subst e98;have p0:0<=p:=by rcases hp with rfl|⟨h,_⟩ <;> omega
 have p97:p<=97:=by rcases hp with rfl|⟨_,h,_⟩ <;> omega
 show⟨_,((@bI _ _ _ _ _ _ _ _ (PW.pt (fM (d_ (eY (Yab<$>hr<$>((ae 0)<&>ah)))) (gG (d_ (Ey sQ sQ aq (ae 0) (tJ rfl T.g_LARGEST_PRIME)))))) (~~~fX) bJ)<*>(~~~(ug (i4 (sP dI) (ae 0) aq (bo _)) (nN (Yb3<$>hr<$>((ae 0)<&>ah)))))),?_⟩;left;show⟨p,rfl,true,rfl,iteF (oy (cf p0) (eE (by rw[cf p97];decide) (bH (λ_=>q H (aa.refl _)) (λhc=>?_))))⟩;rcases hp with rfl|hp
 .exact absurd (cf rfl) hc
 .exact ⟨p,rfl,hp,q⟩
def oF (p:Int):List (Str×V):=bS "prime" (.int p) []
theorem jZ (p:Int):(oF p).lookup ("prime" : Str)=⇑p:=by
 unfold oF;rw[gM,if_pos rfl]
theorem zN (p:Int){x:Str}(h1:¬ x="prime"):(oF p).lookup x=none:=by
 unfold oF;rw[gM,if_neg h1];rfl
def xB (G:Addr):Sp:=λvs H Q _=>∃ (g dx:Addr) (p:Int),vs=[.ref g,.int p]/\H g=some (.ins G dx [])/\af p/\∀ (H':Hp),bf g H H'->H' g=some (.ins G dx (oF p))->Q .non H'
theorem Gz (F:ik K "__init__" "Ground.__init__" Bc f fd)(T:⇑())(Ybu:⇑("tells_ground",2,E2)):⇑[3,["self","prime"],xB G]:=by
 exists JK,fU,3
 show cK h λg dx p e910 hg hp q=>?_;clear h;subst e910;show⟨_,((@bI _ _ _ _ _ _ _ _ (d_ (eY (Ybu<$>hr<$>((ae 1)<&>ah)))) (@bE _ _ _ kI) bJ)<*>(@bE _ _ _ (rH (ae 0) (ae 1) rfl))),?_⟩;left;show⟨p,rfl,hp,λH1 s1=>⟨true,rfl,iteF ⟨G,dx,[],s1 _ _ hg,T.cl_Ground,T.nP,by show 0<1000;decide,?_⟩⟩⟩;show q _ (λb o nb e=>by rw[aR nb];show s1 _ _ e) aw
noncomputable def goodB (p:Int):Bool:=p == 0 || (decide (1<p) && decide (p<=97) && (List.range 98).all λd=>decide ((d:Int)<2) || decide (p<=(d:Int)) || decide (p % (d:Int)≠0))
theorem GQ {p:Int}(h:goodB p=true):af p:=by
 unfold goodB at h;simp only[tX,o7,eQ,decide_eq_true_eq,jk,dU] at h;rcases h with h|⟨⟨h1,h2⟩,h3⟩
 .exact .inl h
 .refine .inr ⟨h1,h2,λd d2 dp=>?_⟩;have:=h3 d.toNat ∅;rw[show ((d.toNat:Nat):Int)=d by omega] at this;rcases this with (h|h)|h
  .omega
  .omega
  .exact h
theorem HZ {L:List Int}(h:L.all goodB=true){i:Int}(i0:0<=i)(i1:i<L.length):∃ p,atI (L.map V.int) i=⇑p/\af p:=by
 have hi:i.toNat<L.length:=∅
 show⟨_,eK i0 (nj hi),GQ (jk.mp h _ (ni hi))⟩
def aF (H:Hp)(p:Int)(v:V)(x:Int×Int):Prop:=if p=0 then ∃ t,v=.ref t/\H t=some (.tup [.int x.1,.int x.2]) else v=.int x.1
theorem aF.same {H H':Hp}{p:Int}{v:V}{x:Int×Int}(h:aF H p v x)(s:aa H H'):aF H' p v x:=by
 unfold aF at *;split
 .rename_i hp
  rw[if_pos hp] at h;show ao h λt e ht=>?_;clear h;show⟨t,e,s _ _ ht⟩
 .rename_i hp
  rw[if_neg hp] at h;show h
theorem aF.tup {H:Hp}{p:Int}{t:Addr}{x:Int×Int}(hp:p=0)(h:H t=some (.tup [.int x.1,.int x.2])):aF H p (.ref t) x:=by
 unfold aF;rw[if_pos hp];show⟨t,rfl,h⟩
theorem aF.of {H:Hp}{p:Int}{x:Int×Int}(hp:¬ p=0):aF H p (.int x.1) x:=by
 unfold aF;rw[if_neg hp]
theorem aF.ref {H:Hp}{p:Int}{v:V}{x:Int×Int}(h:aF H p v x)(hp:p=0):∃ t,v=.ref t/\H t=some (.tup [.int x.1,.int x.2]):=by
 unfold aF at h;rw[if_pos hp] at h;show h
theorem aF.int {H:Hp}{p:Int}{v:V}{x:Int×Int}(h:aF H p v x)(hp:¬ p=0):v=.int x.1:=by
 unfold aF at h;rw[if_neg hp] at h;show h
theorem af.lo {p:Int}(h:af p):0<=p:=by rcases h with rfl|⟨h,_⟩ <;> omega
theorem af.hi {p:Int}(h:af p):p<=97:=by rcases h with rfl|⟨_,h,_⟩ <;> omega
def fh (G:Addr)(H:Hp)(g:Addr)(p:Int):Prop:=∃ dx,H g=some (.ins G dx (oF p))
theorem fh.same {H H':Hp}{g:Addr}{p:Int}(h:fh G H g p)(s:aa H H'):fh G H' g p:=let ⟨dx,e⟩:=h;⟨dx,s _ _ e⟩
end
theorem tP {a b:Int}{A B:Nat}(ha:a.natAbs<=A)(hb:b.natAbs<=B):(a*b).natAbs<=A*B:=by rw[j9];show gg ha hb
theorem cw {α:Type}{xs:List α}{i:Nat}{x d:α}(h:xs[i]?=some x):xs.getD i d=x:=by rw[aW,h];rfl
section
variable {C G S:Addr}
theorem bG {A X:TS}{D:cO}{σ:L2.St}{H:Hp}(h:∀ X',X'=X->rh A X' D σ H):rh A X D σ H:=h X rfl
theorem rj {z:Int}(h:z.natAbs<170141183460469231731687303715884105728):Bt 127 z:=dN h ⋯
def DY:Sp:=λvs H Q _=>∃ x0 y0:Int,vs=[.int x0,.int y0]/\18446744073709551616<=x0/\x0<85070591730234615865843651857942052864/\0<=y0/\y0<=x0 /\
 ∀ (a b c d x y:Int) (t:Addr) (H':Hp),aa H H'->H' t=some (.tup [.int a,.int b,.int c,.int d])->eo x0 y0 a b c d x y->Q (.ref t) H'
theorem mh (F:⇑("leading_steps",Bg))(T:⇑())(hpt:P.given.tree=none):⇑[1,["one","other"],DY]:=by
 exists JZ,cE,2
 show gE h λx0 y0 e95 hx64 hx hy0 hyx q=>?_;clear h;subst e95;show⟨_,((d9 (@bQ _ _ _ _ _ (aq<&>(aq<&>(aq<&>(aq<&>ah))))) (@dY _ _ _ _ _ 4 rfl ((2>>>nd)^^^((3>>>nd)^^^((4>>>nd)^^^((5>>>nd)^^^(@cU _))))) ⇑1 ⇑1))<*>((vH cX (iI jL (pv 1) (CI<|>aq<&&>aq) (bo _)) ((6|||nd|||((jz hpt (jA hr))<|>(ae 0)<&&>(ae 1)))<*>((td (i:=0) (j:=1) rfl nd rfl rfl ⇑0 rfl rfl ((ae 1)<&>((iG<|>(ae 0)<&&>(eH<|>(ae 6)<&&>(ae 1)))<&>ah)) rfl)<*>(@bE _ _ _ (d9 (@bQ _ _ _ _ _ ((ae 4)<&>((ae 5)<&>((iG<|>(ae 2)<&&>(eH<|>(ae 6)<&&>(ae 4)))<&>((iG<|>(ae 3)<&&>(eH<|>(ae 6)<&&>(ae 5)))<&>ah))))) (@dY _ _ _ _ _ 4 rfl ((2>>>nd)^^^((3>>>nd)^^^((4>>>nd)^^^((5>>>nd)^^^(@cU _))))) ⇑1 ⇑1))))))<*>(~~~(@bQ _ _ _ _ _ ((ae 2)<&>((ae 3)<&>((ae 4)<&>((ae 5)<&>ah)))))))),?_⟩;left;show⟨⇑0,λp hp=>⟨_,aE.of aw,rfl,_,_,rfl,_,_,rfl,_,_,rfl,_,_,rfl,rfl,?_⟩⟩;show⟨λn σ H2=>∃ (a b c d x y:Int) (o:Option V),σ=[⇑x,⇑y,⇑a,⇑b,⇑c,⇑d,o]/\aa H H2/\n=y.natAbs/\eo x0 y0 a b c d x y,
  ⟨_,1,0,0,1,x0,y0,none,rfl,aa.new hp,rfl,⟨∅,∅,⟨1,⇑0,⇑0,⇑0,⇑0,⇑0,⇑0⟩,hx64,hy0,hyx,⇑0,.inl ⟨rfl,rfl,rfl,rfl⟩⟩⟩,?_⟩
 intro n σ H2 e91;show sT e91 λa b c d x y o e96 s2 e97 st=>?_;clear e91;obtain rfl:=e96;obtain rfl:=e97;left;have e64:(2:Int) ^ Int.toNat 64=18446744073709551616:=⋯
 rw[e64];show⟨⟨⇑0,⇑0,⇑0⟩,bH (λhc=>?_) (λhc=>?_)⟩
 .have hc:=fc hc;have nx:=st.next hx hyx hc;obtain⟨c1,c2⟩:=st.cd hx hyx;have hxs:x<=x0+y0:=by
   rcases st.pr with ⟨rfl,rfl,rfl,rfl⟩|⟨_,h⟩
   .have:=st.hx;omega
   .have:=st.yn;omega
  have hyx':=st.yx;have hx0:=st.x64;have q0:0<=x / y:=yf ∅ ∅;have q1:x / y<=x:=Int.ediv_le_self _ ∅;have hr0:=nx.yn;have hr1:x-x / y*y<y:=by
   have h1:=gA x (show 0<y by omega);have h2:=BV x y;rw[rY y] at h2;omega
  show⟨_,λ_ _ h=>h,∅,?_⟩;rw[kF ∅];show⟨(rj ∅).ok (rj ∅) ⇑0,_,_,⟨rfl,rfl⟩,(rj ∅).ok (rj ∅) ⇑0,(rj ∅).ok (rj ∅) ⇑0,⇑0,λp2 hp2=>⟨_,aE.of aw,rfl,_,_,rfl,_,_,rfl,_,_,rfl,_,_,rfl,rfl,?_⟩⟩;show⟨_,∅,_,_,_,_,_,_,_,rfl,s2.trans (aa.new hp2),rfl,nx⟩
 .exact ⟨⇑0,λt ht=>q a b c d x y t _ (s2.trans (aa.new ht)) aw st⟩
theorem Gm (x:Int){y:Int}(h:y≠0):(x.fmod y).natAbs<y.natAbs:=by
 rcases Int.lt_or_gt_of_ne h with h|h
 .have e:x.fmod y=-((-x).fmod (-y)):=by rw[Int.neg_fmod_neg,Int.neg_neg]
  have h1:=Ce (-x) (show 0 < -y by omega);have h2:=B6 (-x) (show 0 < -y by omega);omega
 .have h1:=Ce x (show 0<y by omega);have h2:=B6 x (show 0<y by omega);omega
theorem Ft (a b:Int):Int.gcd b (a.fmod b)=Int.gcd a b:=by
 rw[Int.fmod_def,Int.sub_eq_add_neg,<- Int.mul_neg,Int.gcd_add_mul_left_right,v_]
theorem GY {x y S a b c d X Y:Int}(hS:0<S)(st:eo (x / S) (y / S) a b c d X Y)(hx:x / S<85070591730234615865843651857942052864)(hyx:y / S<=x / S)(hb:b≠0)(y0:0<=y)(x0:0<=x):(a*x+b*y).natAbs+(c*x+d*y).natAbs<(x+y).natAbs:=by
 obtain⟨c1,d1⟩:=st.cd hx hyx;obtain⟨a1,b1⟩:=st.ab;obtain⟨_,hs⟩:=st.pr.resolve_left λz=>hb z.2.1;have ex:x=S*(x / S)+x % S:=(Int.mul_ediv_add_emod x S).symm;have ey:y=S*(y / S)+y % S:=(Int.mul_ediv_add_emod y S).symm;have rx0:=gO x (show S≠0 by omega);have rx1:=gA x hS;have ry0:=gO y (show S≠0 by omega);have ry1:=gA y hS;have hX:=st.x64;have hY:=st.yn;have e1:a*x+b*y=S*X+(a*(x % S)+b*(y % S)):=by
  rw[<- st.hx]
  grind
 have e2:c*x+d*y=S*Y+(c*(x % S)+d*(y % S)):=by
  rw[<- st.hy]
  grind
 rw[e1,e2];generalize x / S=x' at *;generalize y / S=y' at *;generalize x % S=rx at *;generalize y % S=ry at *;have p1:=tP (show a.natAbs<=4611686018427387903 by omega) (show rx.natAbs<=S.natAbs by show oz1 rx0 rx1);have p2:=tP (show b.natAbs<=4611686018427387903 by omega) (show ry.natAbs<=S.natAbs by show oz1 ry0 ry1);have p3:=tP (show c.natAbs<=4611686018427387903 by omega) (show rx.natAbs<=S.natAbs by show oz1 rx0 rx1);have p4:=tP (show d.natAbs<=4611686018427387903 by omega) (show ry.natAbs<=S.natAbs by show oz1 ry0 ry1);have m1:S*(X+Y+18446744073709551616)<=S*(x'+y'):=Int.mul_le_mul_of_nonneg_left hs ∅;rw[Int.mul_add,Int.mul_add,Int.mul_add] at m1;have m2:0<=S*X:=su ∅ ∅;have m3:0<=S*Y:=su ∅ hY;have tri:∀ u v z:Int,(u+(v+z)).natAbs<=u.natAbs+(v.natAbs+z.natAbs):=λu v z=>cD (B0 _ _) (BM (B0 _ _) _);have t1:=tri (S*X) (a*rx) (b*ry);have t2:=tri (S*Y) (c*rx) (d*ry);have q1:=yp m2;have q2:=yp m3;have q3:=yp (show 0<=S by omega);have q4:=yp (show 0<=x+y by omega);clear e1 e2 hs st a1 b1 c1 d1 hx hyx hX hY;generalize (S*X+(a*rx+b*ry)).natAbs=N1 at *;generalize (S*Y+(c*rx+d*ry)).natAbs=N2 at *;generalize (a*rx).natAbs=n1 at *;generalize (b*ry).natAbs=n2 at *;generalize (c*rx).natAbs=n3 at *;generalize (d*ry).natAbs=n4 at *;generalize (S*X).natAbs=n5 at *;generalize (S*Y).natAbs=n6 at *;generalize (x+y).natAbs=n7 at *;generalize S.natAbs=n8 at *;generalize S*X=zX at *;generalize S*Y=zY at *;generalize S*x'=zx at *;generalize S*y'=zy at *;omega
theorem Ga {x:Int}{n:Nat}(h0:0<=x)(h:Builtin.Int.intBits x=n)(hn:126<=n):18446744073709551616<=x / 2 ^ (n-126)/\x / 2 ^ (n-126)<85070591730234615865843651857942052864:=by
 have hp:(0:Int)<2 ^ (n-126):=Int.pow_pos ⇑0;have hu:x.natAbs<2 ^ n:=yo.mp (oz25 h);have hl:¬ x.natAbs<2 ^ (n-1):=λz=>by have:=yo.mpr z;omega
 constructor
 .refine (Int.le_ediv_iff_mul_le hp).mpr ?_;have e:(18446744073709551616:Int)*2 ^ (n-126)=2 ^ (n-62):=by
   rw[show (18446744073709551616:Int)=2 ^ 64 by decide +kernel,<- Int.pow_add];congr 1;show oz43 hn
  have e2:(2:Int) ^ (n-62)=((2 ^ (n-62):Nat):Int):=by rw[Int.natCast_pow];rfl
  have e3:(2:Nat) ^ (n-62)<=2 ^ (n-1):=wH ⇑0 ∅;rw[e,e2];omega
 .refine Int.ediv_lt_of_lt_mul hp ?_;have e:(85070591730234615865843651857942052864:Int)*2 ^ (n-126)=2 ^ n:=by
   rw[show (85070591730234615865843651857942052864:Int)=2 ^ 126 by decide +kernel,<- Int.pow_add];congr 1;omega
  have e2:(2:Int) ^ n=((2 ^ n:Nat):Int):=by rw[Int.natCast_pow];rfl
  rw[e,e2];omega
def EY:Sp:=λvs H Q _=>∃ x y:Int,vs=[.int x,.int y]/\0<=x/\0<=y/\4000<Builtin.Int.intBits x/\4000<Builtin.Int.intBits y/\Bt vY x/\Bt vY y /\
 ∀ (u v:Int) (t:Addr) (H':Hp),aa H H'->H' t=some (.tup [.int u,.int v])->0<=u->0<=v->u+v<x+y->Int.gcd u v=Int.gcd x y->Q (.ref t) H'
theorem GH (F:⇑("shortened",AO))(T:⇑())(Ybi:⇑("leading_steps",1,DY)):⇑[2,["one","other"],EY]:=by
 exists JB,cE,2
 show gE h λx y e99 x0 y0 xb yb e910=>?_;clear h;subst e99;show bC e910 λbx by' q=>?_
 clear e910;show⟨_,((@bI _ _ _ _ _ _ _ _ (bX jS (ae 0) (ae 1) (bo _)) (@bE _ _ _ (td (i:=0) (j:=1) rfl nd rfl rfl ⇑0 rfl rfl ((ae 1)<&>((ae 0)<&>ah)) rfl)) bJ)<*>((2|||nd|||(iG<|>(yW Cd Cb Ca zw (ae 0))<&&>(tJ rfl T.g_LEADING)))<*>((d9 (Ybi<$>hr<$>((CJ<|>(ae 0)<&&>(ae 2))<&>((CJ<|>(ae 1)<&&>(ae 2))<&>ah))) (@dY _ _ _ _ _ 4 rfl ((3>>>nd)^^^((4>>>nd)^^^((5>>>nd)^^^((6>>>nd)^^^(@cU _))))) ⇑1 ⇑1))<*>((@bI _ _ _ _ _ _ _ _ (bX dI (ae 4) aq (bo _)) (~~~(@bQ _ _ _ _ _ ((ae 1)<&>((DH<|>(ae 0)<&&>(ae 1))<&>ah)))) bJ)<*>(~~~(@bQ _ _ _ _ _ ((cg oR rfl T.n_abs o4 ((eL<|>(eH<|>(ae 3)<&&>(ae 0))<&&>(eH<|>(ae 4)<&&>(ae 1)))<&>ah))<&>((cg oR rfl T.n_abs o4 ((eL<|>(eH<|>(ae 5)<&&>(ae 0))<&&>(eH<|>(ae 6)<&&>(ae 1)))<&>ah))<&>ah)))))))),?_⟩;show bG λX hX=>?_;left;have aft:∀ x y:Int,0<=y->y<=x->4000<Builtin.Int.intBits x->4000<Builtin.Int.intBits y->Bt vY x->Bt vY y->(∀ (u v:Int) (t:Addr) (H':Hp),aa H H'->H' t=some (.tup [.int u,.int v])->0<=u->0<=v->u+v<x+y->Int.gcd u v=Int.gcd x y->Q (.ref t) H')->
   X { nx:=λx H'=>Q V.non H',rt:=Q } [⇑x,⇑y,none,none,none,none,none] H:=by
  intro x y y0 yx xb yb bx by' q
  subst hX;left;have x0:0<=x:=∅
  obtain⟨b1,b2⟩:=Ga x0 rfl (show 126<=Builtin.Int.intBits x by omega);have en:((Builtin.Int.intBits x:Int)-126).toNat=Builtin.Int.intBits x-126:=by show oz32
  rw[en];have hS:(0:Int)<2 ^ (Builtin.Int.intBits x-126):=Int.pow_pos ⇑0;generalize (2:Int) ^ (Builtin.Int.intBits x-126)=S at *;have yn:y≠0:=λz=>by
   subst z;have:Builtin.Int.intBits 0=0:=rfl;omega
  have hyx:y / S<=x / S:=Int.ediv_le_ediv hS yx;show⟨rfl,∅,∅,_,_,rfl,b1,b2,yf y0 ∅,hyx,λa b c d X' Y' t H1 s1 ht st=>?_⟩;show⟨t,rfl,_,aE.of ht,rfl,_,_,rfl,_,_,rfl,_,_,rfl,_,_,rfl,rfl,rfl,bH (λhb=>?_) (λhb=>?_)⟩
  .refine ⟨yn,⇑0,λp hp=>?_⟩;have f0:=Ce x (show 0<y by omega);have f1:=B6 x (show 0<y by omega);show q _ _ p _ (s1.trans (aa.new hp)) aw y0 f0 ∅ (Ft x y)
  .have hb:b≠0:=λz=>hb (cf (by rw[z]));obtain⟨a1,a2⟩:=st.ab;obtain⟨c1,c2⟩:=st.cd b2 hyx;have sm:∀ z:Int,z.natAbs<4611686018427387904->Bt 127 z:=λz hz=>rj ∅;have lt:=GY hS st b2 hyx hb y0 x0;show⟨_,rfl,(sm a a1).ok bx ⇑0,_,rfl,(sm b a2).ok by' ⇑0,_,rfl,(sm c c1).ok bx ⇑0,_,rfl,(sm d c2).ok by' ⇑0,⇑0,λp hp=>?_⟩;have ab:∀ z:Int,(if z<0 then -z else z)=(z.natAbs:Int):=λz=>by split <;> omega
   rw[ab,ab];show q _ _ p _ (s1.trans (aa.new hp)) aw oz13 oz13 (oz11 y0 x0 lt) ?_;show bh st.sg λe he det _=>?_;have eg:∀ u v:Int,Int.gcd (u.natAbs:Int) (v.natAbs:Int)=Int.gcd u v:=λu v=>by simp[Int.gcd]
   rw[eg,Gn (by rcases he with rfl|rfl <;> omega)]
 show bH (λhc=>?_) (λhc=>?_)
 .have hc:=fc hc;show aM _ _ ⟨⟨rfl,rfl⟩,aft y x x0 ∅ yb xb by' bx λu v t H' s' ht u0 v0 huv hg=>q u v t H' s' ht u0 v0 ∅ (by rw[hg,v_])⟩
 .have hc:¬ x<y:=λz=>hc (cf z);show aft x y y0 ∅ xb yb bx by' q
theorem E7 {x y:Int}(h:x.natAbs<=y.natAbs):Builtin.Int.intBits x<=Builtin.Int.intBits y:=yo.mpr (jm h (yo.mp (aQ _)))
def spNbl:Sp:=λvs H Q _=>∃ x y:Int,vs=[.int x,.int y]/\0<=x/\0<=y/\Bt NB x/\Bt NB y /\
 ∀ (u v:Int) (t:Addr) (H':Hp),aa H H'->H' t=some (.tup [.int u,.int v])->Int.gcd u v=Int.gcd x y->Q (.ref t) H'
theorem qh (F:⇑("not_both_long",Bi))(T:⇑())(Ya4:⇑("shortened",2,EY)):⇑[3,["one","other"],spNbl]:=by
 exists J4,cE,2
 show gE h λx y e912 x0 y0 bx by' q=>?_
 clear h;subst e912;show⟨_,((vH cX (iI gF (yW Cd Cb Ca zw (cg (E8 rfl) rfl T.n_min boot_min ((pv 0)<&>((pv 1)<&>ah)))) (tJ rfl T.g_LONG) (bo _)) (@bE _ _ _ (d9 (Ya4<$>hr<$>((ae 0)<&>((ae 1)<&>ah))) (@dY _ _ _ _ _ 2 rfl ((0>>>nd)^^^((1>>>nd)^^^(@cU _))) ⇑1 ⇑1))))<*>(~~~(@bQ _ _ _ _ _ ((ae 0)<&>((ae 1)<&>ah))))),?_⟩;left;show⟨λn σ H2=>∃ u v:Int,σ=[⇑u,⇑v]/\aa H H2/\n=(u+v).toNat/\0<=u/\0<=v/\u+v<=x+y/\Int.gcd u v=Int.gcd x y,⟨_,x,y,rfl,aa.refl _,rfl,x0,y0,tT _,rfl⟩,?_⟩;intro n σ H2 e92;show gE e92 λu v e913 s2 e914 u0 v0 e915=>?_;clear e92;obtain rfl:=e913;obtain rfl:=e914;obtain⟨huv,hg⟩:=e915;left;have hb:∀ z:Int,0<=z->z<=x+y->Bt vY z:=λz z0 z1=>(Bt.add bx by').abs_le ∅;show aM _ _ ⟨⟨rfl,rfl⟩,rfl,bH (λhc=>?_) (λhc=>?_)⟩
 .have hc:=fc hc;have bu:4000<Builtin.Int.intBits u:=by
   by_cases h:v<u
   .rw [if_pos h] at hc;show dN ∅ (E7 (show v.natAbs<=u.natAbs by show oz1 v0 h))
   .rw [if_neg h] at hc;omega
  have bv:4000<Builtin.Int.intBits v:=by
   by_cases h:v<u
   .rw [if_pos h] at hc;omega
   .rw [if_neg h] at hc;show dN ∅ (E7 (show u.natAbs<=v.natAbs by omega))
  show⟨_,λ_ _ h=>h,u,v,rfl,u0,v0,bu,bv,hb u u0 ∅,hb v v0 ∅,λu' v' t H3 s3 ht u0' v0' lt hg'=>⟨t,rfl,_,aE.of ht,rfl,_,_,rfl,_,_,rfl,rfl,(u'+v').toNat,∅,u',v',rfl,s2.trans s3,rfl,u0',v0',∅,hg'.trans hg⟩⟩
 .exact ⟨⇑0,λt ht=>q u v t _ (s2.trans (aa.new ht)) aw hg⟩
def sW:Sp:=λvs H Q _=>∃ a b:Int,vs=[.int a,.int b]/\Bt NB a/\Bt NB b/\∀ H',aa H H'->Q (.int (Int.gcd a b:Int)) H'
theorem qx (F:⇑("common_divisor",Bj))(T:⇑())(Yax:⇑("not_both_long",3,spNbl)):⇑[4,["one","other"],sW]:=by
 exists J1,cE,2
 show eW h λa b e917 ha hb q=>?_;clear h;subst e917;show⟨_,((@bI _ _ _ _ _ _ _ _ (bX gF (yW Cd Cb Ca zw (ae 0)) (tJ rfl T.g_LONG) (bo _)) (@bE _ _ _ (d9 (Yax<$>hr<$>((cg oR rfl T.n_abs o4 ((ae 0)<&>ah))<&>((cg oR rfl T.n_abs o4 ((ae 1)<&>ah))<&>ah))) (@dY _ _ _ _ _ 2 rfl ((0>>>nd)^^^((1>>>nd)^^^(@cU _))) ⇑1 ⇑1))) bJ)<*>((vH cX (iI fW (pv 1) aq (bo _)) (@bE _ _ _ (td (i:=0) (j:=1) rfl nd rfl rfl ⇑0 rfl rfl ((ae 1)<&>((DH<|>(ae 0)<&&>(ae 1))<&>ah)) rfl)))<*>(~~~(cg oR rfl T.n_abs o4 ((ae 0)<&>ah))))),?_⟩;show bG λX hX=>?_;left;have aft:∀ (x y:Int) (H1:Hp),aa H H1->Int.gcd x y=Int.gcd a b->X { nx:=λx H'=>Q V.non H',rt:=Q } [⇑x,⇑y] H1:=by
  intro x y H1 s1 hg;subst hX;left;show⟨λn σ H2=>∃ x y:Int,σ=[⇑x,⇑y]/\H2=H1/\n=y.natAbs/\Int.gcd x y=Int.gcd a b,⟨_,x,y,rfl,rfl,rfl,hg⟩,?_⟩;intro n σ H2 e93;show eW e93 λx y e918 e919 e920 hg=>?_;clear e93;obtain rfl:=e918;obtain rfl:=e919;obtain rfl:=e920;left;show bH (λhc=>?_) (λhc=>?_)
  .have hy0:¬ y=0:=by simpa using hc
   show⟨_,λ_ _ h=>h,hy0,_,_,⟨rfl,rfl⟩,(x.fmod y).natAbs,Gm x hy0,y,x.fmod y,rfl,rfl,rfl,by rw[Ft];show hg⟩
  .have hy0:y=0:=by simpa using hc
   subst hy0;have e:(if x<0 then -x else x)=(Int.gcd a b:Int):=by
    rw[<- hg,Int.gcd_zero];split <;> omega
   rw[e];show q _ s1
 have ab:∀ z:Int,(if z<0 then -z else z)=(z.natAbs:Int):=λz=>by split <;> omega
 show⟨rfl,bH (λhc=>?_) (λhc=>aft a b H (aa.refl _) rfl)⟩;rw[ab,ab];show aM _ _ ⟨rfl,oz42,oz42,ha.abs_le (by simp),hb.abs_le (by simp),λu v t H1 s1 ht hg=>⟨t,rfl,_,aE.of ht,rfl,_,_,rfl,_,_,rfl,rfl,aft u v H1 s1 (by rw[hg];simp[Int.gcd])⟩⟩
def Kn (H:Hp)(v:V):Prop:=v=.non\/(∃ b,v=.bl b)\/(∃ i,v=.int i)\/(∃ s,v=.str s)\/(∃ a xs,v=.ref a/\H a=some (.lst xs)/\xs.length<=1000)\/∃ a xs,v=.ref a/\H a=some (.tup xs)/\xs.length<=1000
theorem Kn.same {H H':Hp}{v:V}(h:Kn H v)(s:aa H H'):Kn H' v:=by
 rcases h with h|h|h|h|⟨a,xs,h1,h2,h3⟩|⟨a,xs,h1,h2,h3⟩
 .exact .inl h
 .exact .inr (.inl h)
 .exact .inr (.inr (.inl h))
 .exact .inr (.inr (.inr (.inl h)))
 .exact .inr (.inr (.inr (.inr (.inl ⟨a,xs,h1,s _ _ h2,h3⟩))))
 .exact .inr (.inr (.inr (.inr (.inr ⟨a,xs,h1,s _ _ h2,h3⟩))))
theorem Kn.int {H:Hp}{i:Int}:Kn H (.int i):=.inr (.inr (.inl ⟨i,rfl⟩))
theorem Kn.bl {H:Hp}{i:Bool}:Kn H (.bl i):=.inr (.inl ⟨i,rfl⟩)
theorem Kn.str {H:Hp}{i:Str}:Kn H (.str i):=.inr (.inr (.inr (.inl ⟨i,rfl⟩)))
theorem Kn.lst {H:Hp}{a:Addr}{xs:List V}(h:H a=some (.lst xs))(hl:xs.length<=1000):Kn H (.ref a):=.inr (.inr (.inr (.inr (.inl ⟨a,xs,rfl,h,hl⟩))))
theorem Kn.tup {H:Hp}{a:Addr}{xs:List V}(h:H a=some (.tup xs))(hl:xs.length<=1000):Kn H (.ref a):=.inr (.inr (.inr (.inr (.inr ⟨a,xs,rfl,h,hl⟩))))
def isI:V->Bool
 | .int _=>true
 | .bl _=>true
 | _=>false
def isBl:V->Bool
 | .bl _=>true
 | _=>false
def jQ (H:Hp):V->Bool
 | .ref a=>match H a with
  | some (.tup _)=>true
  | _=>false
 | _=>false
def nG (H:Hp):V->Bool
 | .ref a=>match H a with
  | some (.lst _)=>true
  | _=>false
 | _=>false
def whB:V->Bool
 | .int _=>true
 | _=>false
theorem qN {H:Hp}{v:V}(h:Kn H v):∃ t,c9 K H v t/\PySem.W.kitOne K t (.type "int")=some (isI v):=by
 rcases h with rfl|⟨b,rfl⟩|⟨i,rfl⟩|⟨z,rfl⟩|⟨a,xs,rfl,h2,_⟩|⟨a,xs,rfl,h2,_⟩
 .exact ⟨_,.non,by kernel_rfl⟩
 .exact ⟨_,.bl b,IK K⟩
 .exact ⟨_,.int i,Fc K⟩
 .exact ⟨_,.str z,by kernel_rfl⟩
 .exact ⟨_,.lst h2,by kernel_rfl⟩
 .exact ⟨_,.tup h2,by kernel_rfl⟩
theorem mN {H:Hp}{v:V}(h:Kn H v):∃ t,c9 K H v t/\PySem.W.kitOne K t (.type "bool")=some (isBl v):=by
 rcases h with rfl|⟨b,rfl⟩|⟨i,rfl⟩|⟨z,rfl⟩|⟨a,xs,rfl,h2,_⟩|⟨a,xs,rfl,h2,_⟩
 .exact ⟨_,.non,by kernel_rfl⟩
 .exact ⟨_,.bl b,FF K⟩
 .exact ⟨_,.int i,FE K⟩
 .exact ⟨_,.str z,by kernel_rfl⟩
 .exact ⟨_,.lst h2,by kernel_rfl⟩
 .exact ⟨_,.tup h2,by kernel_rfl⟩
theorem CA {H:Hp}{v:V}(h:Kn H v):∃ t,c9 K H v t/\PySem.W.kitOne K t (.type "tuple")=some (jQ H v):=by
 rcases h with rfl|⟨b,rfl⟩|⟨i,rfl⟩|⟨z,rfl⟩|⟨a,xs,rfl,h2,_⟩|⟨a,xs,rfl,h2,_⟩
 .exact ⟨_,.non,by kernel_rfl⟩
 .exact ⟨_,.bl b,by kernel_rfl⟩
 .exact ⟨_,.int i,by kernel_rfl⟩
 .exact ⟨_,.str z,by kernel_rfl⟩
 .refine ⟨_,.lst h2,?_⟩;simp only[jQ,h2]
  kernel_rfl
 .refine ⟨_,.tup h2,?_⟩;simp only[jQ,h2];show Ap K
theorem DA {H:Hp}{v:V}(h:Kn H v):∃ t,c9 K H v t/\PySem.W.kitOne K t (.type "list")=some (nG H v):=by
 rcases h with rfl|⟨b,rfl⟩|⟨i,rfl⟩|⟨z,rfl⟩|⟨a,xs,rfl,h2,_⟩|⟨a,xs,rfl,h2,_⟩
 .exact ⟨_,.non,by kernel_rfl⟩
 .exact ⟨_,.bl b,by kernel_rfl⟩
 .exact ⟨_,.int i,by kernel_rfl⟩
 .exact ⟨_,.str z,by kernel_rfl⟩
 .refine ⟨_,.lst h2,?_⟩;simp only[nG,h2];show xR K
 .refine ⟨_,.tup h2,?_⟩;simp only[nG,h2]
  kernel_rfl
def xP:Sp:=λvs H Q _=>∃ v:V,vs=[v]/\Kn H v/\Q (.bl (whB v)) H
theorem HI (F:⇑("is_whole",xQ))(T:⇑()):⇑[1,["thing"],xP]:=by
 exists FO,ao,1
 show bh h λv e92 hk q=>?_;clear h;subst e92;show⟨_,(~~~(nL (cg iJ rfl T.n_isinstance iP ((ae 0)<&>((iW rfl T.n_int boot_int)<&>ah))) (nN (CL (cg iJ rfl T.n_isinstance iP ((ae 0)<&>((iW rfl T.n_bool boot_bool)<&>ah))))))),?_⟩;left;show ao (qN (K:=K) hk) λt1 h1 h2=>?_;show ao (mN (K:=K) hk) λt2 h3 h4=>?_;show aM _ _ ⟨⟨rfl,rfl⟩,_,rfl,_,h1,_,h2,bH (λhc=>⟨_,_,⟨rfl,rfl⟩,_,rfl,_,h3,_,h4,?_⟩) (λhc=>?_)⟩
 .cases v <;> first|show q|cases hc
 .cases v <;> first|show q|show absurd rfl hc
noncomputable def frB (H:Hp):V->Bool
 | .ref a=>match H a with
  | some (.tup [.int x,.int y])=>decide (1<=y) && decide (Int.gcd x y=1)
  | _=>false
 | _=>false
noncomputable def iT (p:Int)(H:Hp)(v:V):Bool:=if p=0 then frB H v else match v with
 | .int i=>decide (0<=i) && decide (i<p)
 | _=>false
def jv (p wd:Int)(H:Hp):V->Bool
 | .ref a=>match H a with
  | some (.lst xs)=>decide ((xs.length:Int)=wd) && xs.all (iT p H)
  | _=>false
 | _=>false
noncomputable def tabB (p:Int)(H:Hp):V->Bool
 | .ref a=>match H a with
  | some (.tup [.int h,.int wd,.ref r])=>match H r with
   | some (.lst rows)=>decide (0<=h) && decide (0<=wd) && decide ((rows.length:Int)=h) && rows.all (jv p wd H)
   | _=>false
  | _=>false
 | _=>false
def vS (y:V):Prop:=∀ i,y=.int i->Kb i
def kJ (H:Hp)(v:V):Prop:=Kn H v/\∀ a xs,v=.ref a->H a=some (.tup xs)->∀ y∈xs,Kn H y/\vS y
def nT (H:Hp)(v:V):Prop:=Kn H v/\∀ a xs,v=.ref a->H a=some (.lst xs)->∀ y∈xs,kJ H y
def Bu (H:Hp)(v:V):Prop:=Kn H v/\∀ a xs,v=.ref a->H a=some (.tup xs)->∀ y∈xs,Kn H y/\∀ r rows,y=.ref r->H r=some (.lst rows)->∀ z∈rows,nT H z
theorem Kn.back {H H':Hp}{a:Addr}{o:HO}(h:Kn H (.ref a))(s:aa H H')(e:H' a=some o):H a=some o:=by
 rcases h with h|⟨_,h⟩|⟨_,h⟩|⟨_,h⟩|⟨b,xs,h1,h2,_⟩|⟨b,xs,h1,h2,_⟩
 .cases h
 .cases h
 .cases h
 .cases h
 .cases h1;rw[s _ _ h2] at e;rw[h2,e]
 .cases h1;rw[s _ _ h2] at e;rw[h2,e]
theorem Kn.at {H H':Hp}{a:Addr}(h:Kn H (.ref a))(s:aa H H'):H' a=H a:=by
 rcases h with h|⟨_,h⟩|⟨_,h⟩|⟨_,h⟩|⟨b,xs,h1,h2,_⟩|⟨b,xs,h1,h2,_⟩
 .cases h
 .cases h
 .cases h
 .cases h
 .cases h1;rw[s _ _ h2,h2]
 .cases h1;rw[s _ _ h2,h2]
theorem kJ.same {H H':Hp}{v:V}(h:kJ H v)(s:aa H H'):kJ H' v:=
 ⟨h.1.same s,λa xs e1 e2 y hy=>by subst e1;show⟨(h.2 a xs rfl (h.1.back s e2) y hy).1.same s,(h.2 a xs rfl (h.1.back s e2) y hy).2⟩⟩
theorem nT.same {H H':Hp}{v:V}(h:nT H v)(s:aa H H'):nT H' v:=
 ⟨h.1.same s,λa xs e1 e2 y hy=>by subst e1;show (h.2 a xs rfl (h.1.back s e2) y hy).same s⟩
theorem Fg {H H':Hp}{p:Int}{v:V}(h:kJ H v)(s:aa H H'):iT p H' v=iT p H v:=by
 unfold iT;split
 .cases v <;> try rfl
  simp only[frB,h.1.at s]
 .rfl
theorem FA {α:Type}{f g:α->Bool}:∀ {xs:List α},(∀ x∈xs,f x=g x)->xs.all f=xs.all g
 | [],_=>rfl
 | x::xs,h=>by
  rw[we,we,h x o_,FA λy hy=>h y (kO _ hy)]
theorem HS {H H':Hp}{p wd:Int}{v:V}(h:nT H v)(s:aa H H'):jv p wd H' v=jv p wd H v:=by
 cases v <;> try rfl
 rename_i a
 simp only[jv,h.1.at s];split
 .rename_i xs e
  rw[FA λy hy=>Fg (h.2 a xs rfl e y hy) s]
 .rfl
theorem oh {H:Hp}{v:V}(h:Kn H v)(ht:jQ H v=true):∃ a xs,v=.ref a/\H a=some (.tup xs)/\xs.length<=1000:=by
 rcases h with rfl|⟨b,rfl⟩|⟨i,rfl⟩|⟨z,rfl⟩|⟨a,xs,rfl,h2,_⟩|h
 .cases ht
 .cases ht
 .cases ht
 .cases ht
 .simp only [jQ,h2] at ht;cases ht
 .exact h
theorem oj {H:Hp}{v:V}(h:Kn H v)(ht:nG H v=true):∃ a xs,v=.ref a/\H a=some (.lst xs)/\xs.length<=1000:=by
 rcases h with rfl|⟨b,rfl⟩|⟨i,rfl⟩|⟨z,rfl⟩|h|⟨a,xs,rfl,h2,_⟩
 .cases ht
 .cases ht
 .cases ht
 .cases ht
 .exact h
 .simp only [nG,h2] at ht;cases ht
theorem uM {v:V}(h:whB v=true):∃ i,v=.int i:=by
 cases v <;> first|show⟨_,rfl⟩|cases h
theorem mW {H:Hp}{v:V}(h:jQ H v=false):frB H v=false:=by
 cases v <;> try rfl
 simp only[jQ] at h;simp only[frB];split
 .rename_i e;rw[e] at h;cases h
 .rfl
theorem mZ {H:Hp}{a:Addr}{xs:List V}(h:H a=some (.tup xs))(hl:xs.length≠2):frB H (.ref a)=false:=by
 simp only[frB,h];split
 .rename_i e;cases e;show absurd rfl hl
 .rfl
theorem Du {H:Hp}{a:Addr}{x y:V}(h:H a=some (.tup [x,y]))(hw:whB x=false\/whB y=false):frB H (.ref a)=false:=by
 simp only[frB,h];split
 .rename_i e
  cases e;rcases hw with hw|hw <;> cases hw
 .rfl
theorem EI {H:Hp}{a:Addr}{x y:Int}(h:H a=some (.tup [.int x,.int y])):frB H (.ref a)=(decide (1<=y) && decide (Int.gcd x y=1)):=by
 simp only[frB,h]
def spFr:Sp:=λvs H Q _=>∃ v:V,vs=[v]/\kJ H v/\∀ H',aa H H'->Q (.bl (frB H v)) H'
theorem ux (F:⇑("is_fraction",AZ))(T:⇑())(Yab:⇑("is_whole",1,xP))(Yaf:⇑("common_divisor",4,sW)):⇑[5,["thing"],spFr]:=by
 exists JM,ao,1
 show bh h λv e92 e93 q=>?_;clear h;subst e92;obtain⟨hk,hx⟩:=e93;show⟨_,((@bI _ _ _ _ _ _ _ _ (PW.pt (fM (d_ (eY (cg iJ rfl T.n_isinstance iP ((ae 0)<&>((iW rfl T.n_tuple boot_tuple)<&>ah))))) (gG (bX fW (cg h_ rfl T.n_len ig ((ae 0)<&>ah)) aq (bo _))))) (~~~fX) bJ)<*>((d9 (ae 0) (@dY _ _ _ _ _ 2 rfl ((1>>>nd)^^^((2>>>nd)^^^(@cU _))) ⇑1 ⇑1))<*>((@bI _ _ _ _ _ _ _ _ (PW.pt (fM (d_ (eY (Yab<$>hr<$>((ae 1)<&>ah)))) (fM (d_ (eY (Yab<$>hr<$>((ae 2)<&>ah)))) (gG (bX jS (ae 2) aq (bo _)))))) (~~~fX) bJ)<*>(~~~(i4 dI (Yaf<$>hr<$>((ae 1)<&>((ae 2)<&>ah))) aq (bo _)))))),?_⟩;left;show ao (CA (K:=K) hk) λt1 h1 h2=>?_;show aM _ _ ⟨⟨rfl,rfl⟩,_,rfl,_,h1,_,h2,?_⟩;show bH (λhc=>?_) (λhc=>?_)
 .have hc:jQ H v=false:=by simpa using hc
  rw[mW hc] at q;show q _ (aa.refl _)
 .have hc:jQ H v=true:=by simpa using hc
  show cF (oh hk hc) λa xs e94 ha hl=>?_;obtain rfl:=e94;show⟨a,rfl,xs,.inr (aE.of ha),bH (λhn=>?_) (λhn=>?_)⟩
  .have hn:¬ xs.length=2:=by intro z;rw[z] at hn;show absurd hn ⇑0
   rw[mZ ha hn] at q;show q _ (aa.refl _)
  .have hn:xs.length=2:=by
    have:((xs.length:Nat):Int)=2:=by simpa using hn
    omega
   obtain⟨x,y,rfl⟩:∃ x y,xs=[x,y]:=by
    match xs,hn with
    | [x,y],_=>show⟨x,y,rfl⟩
   show⟨a,rfl,_,aE.of ha,rfl,_,_,rfl,_,_,rfl,rfl,x,rfl,(hx a _ rfl ha x (by simp)).1,_,rfl,bH (λh1=>?_) (λh1=>?_)⟩
   .rw [Du ha (.inl (by simpa using h1))] at q;show q _ (aa.refl _)
   .obtain ⟨i,rfl⟩:=uM (v:=x) (by simpa using h1);show⟨y,rfl,(hx a _ rfl ha y (by simp)).1,_,rfl,bH (λh2=>?_) (λh2=>?_)⟩
    .rw [Du ha (.inr (by simpa using h2))] at q;show q _ (aa.refl _)
    .obtain ⟨j,rfl⟩:=uM (v:=y) (by simpa using h2);rw[EI ha] at q;show⟨j,rfl,bH (λh3=>?_) (λh3=>?_)⟩
     .have h3:=fc h3;rw[d6 (show ¬ 1<=j by omega)] at q;show q _ (aa.refl _)
     .have h3:¬ j<1:=λz=>h3 (cf z);show aM i j ⟨rfl,(hx a _ rfl ha _ (by simp)).2 i rfl,(hx a _ rfl ha _ (by simp)).2 j rfl,λH' s'=>⟨rfl,?_⟩⟩;rw[cf (show 1<=j by omega)] at q;have:decide (V.int (Int.gcd i j:Int)=V.int 1)=decide (Int.gcd i j=1):=by
       simp only[V.int.injEq];by_cases e:Int.gcd i j=1
       .rw [cf e,cf ∅]
       .rw [d6 e,d6 ∅]
      rw[this];show q _ s'
def spIsN (G:Addr):Sp:=λvs H Q _=>∃ (g:Addr) (p:Int) (v:V),vs=[.ref g,v]/\fh G H g p/\af p/\kJ H v/\∀ H',aa H H'->Q (.bl (iT p H v)) H'
theorem mH {p:Int}{H:Hp}{v:V}(hp:¬ p=0)(h:whB v=false):iT p H v=false:=by
 unfold iT;rw[if_neg hp];cases v <;> first|rfl|cases h
theorem Et {p i:Int}{H:Hp}(hp:¬ p=0):iT p H (.int i)=(decide (0<=i) && decide (i<p)):=by
 unfold iT;rw[if_neg hp]
theorem DF {p:Int}{H:Hp}{v:V}(hp:p=0):iT p H v=frB H v:=by
 unfold iT;rw[if_pos hp]
theorem qm (F:ik K "is_number" "Ground.is_number" Bp f fd)(T:⇑())(Yab:⇑("is_whole",1,xP))(Ybp:⇑("is_fraction",5,spFr)):⇑[6,["self","thing"],spIsN G]:=by
 exists J5,fU,3
 show cK h λg p v e96 e97 hp e98=>?_;clear h;subst e96;obtain⟨dx,hg⟩:=e97;obtain⟨hw,q⟩:=e98;show⟨_,((@bI _ _ _ _ _ _ _ _ (bX dI (eI (ae 0) rfl) aq (bo _)) (~~~(Ybp<$>hr<$>((ae 1)<&>ah))) bJ)<*>(~~~(nL (Yab<$>hr<$>((ae 1)<&>ah)) (nN (Eu sQ jS aq (ae 1) (eI (ae 0) rfl)))))),?_⟩;left;show dc G dx _ ⟨hg,T.cl_Ground,T.nP,_,jZ p,rfl,bH (λhc=>?_) (λhc=>?_)⟩
 .have hp0:p=0:=by simpa using hc
  rw[DF hp0] at q;show⟨v,rfl,hw,q⟩
 .have hp0:¬ p=0:=by simpa using hc
  show⟨v,rfl,hw.1,_,rfl,bH (λh1=>?_) (λh1=>?_)⟩
  .obtain ⟨i,rfl⟩:=uM h1;rw[Et hp0] at q;show⟨i,rfl,bH (λh2=>⟨G,dx,_,hg,T.cl_Ground,T.nP,_,jZ p,i,rfl,p,rfl,?_⟩) (λh2=>?_)⟩
   .rw [h2,wc] at q;show q _ (aa.refl _)
   .rw [show decide (0<=i)=false by simpa using h2,yk] at q;show q _ (aa.refl _)
  .rw [mH hp0 (by simpa using h1)] at q;show q _ (aa.refl _)
theorem CS {f:V->Bool}(xs:List V):((List.range xs.length).map λi=>f (xs.getD i .non)).all id=xs.all f:=by
 rw[sF,jk,jk];constructor
 .intro h x hx;obtain⟨i,hi,rfl⟩:=dZ.mp hx;have:=h (f (xs.getD i .non)) (bR.mpr ⟨i,dU.mpr hi,rfl⟩);simpa [hi] using this
 .intro h b hb;show ao (bR.mp hb) λi hi e99=>?_;obtain rfl:=e99;have hi:=dU.mp hi;simpa [hi] using h _ (dm hi)
theorem Dv {xs:List V}{i:Nat}{x:V}(h:xs[i]?=some x):xs.getD i .non=x:=by rw[aW,h];rfl
def D_ (G:Addr):Sp:=λvs H Q _=>∃ (g:Addr) (p wd:Int) (v:V),vs=[.ref g,.int wd,v]/\fh G H g p/\af p/\nT H v/\∀ H',aa H H'->Q (.bl (jv p wd H v)) H'
theorem Hl {p wd:Int}{H:Hp}{v:V}(h:nG H v=false):jv p wd H v=false:=by
 cases v <;> try rfl
 simp only[nG] at h;simp only[jv];split
 .rename_i e;rw[e] at h;cases h
 .rfl
theorem DO {p wd:Int}{H:Hp}{a:Addr}{xs:List V}(h:H a=some (.lst xs)):jv p wd H (.ref a)=(decide ((xs.length:Int)=wd) && xs.all (iT p H)):=by
 simp only[jv,h]
theorem GA (F:⇑("is_row",zP))(T:⇑())(Ybo:kh P w K mg base G "is_number" 6 (spIsN G)):⇑[7,["ground","wide","thing"],D_ G]:=by
 exists IX,nI,4
 show cZ h λg p wd v e911 e912 hp e913=>?_;clear h;subst e911;obtain⟨dx,hg⟩:=e912;obtain⟨⟨hk,hx⟩,q⟩:=e913;show⟨_,((@bI _ _ _ _ _ _ _ _ (PW.pt (fM (d_ (eY (cg iJ rfl T.n_isinstance iP ((ae 2)<&>((iW rfl T.n_list j7)<&>ah))))) (gG (bX fW (cg h_ rfl T.n_len ig ((ae 2)<&>ah)) (ae 1) (bo _))))) (~~~fX) bJ)<*>(~~~(cg (rM rfl) rfl T.n_all boot_all ((dR (own:=["number"]) (fr:=[("ground",0)]) rfl (cW (by kernel_rfl)) (eJ (pv 2)) (λ_ _ _ _=>⟨(0<<<["number","ground"]),df,(CK T.cl_Ground Ybo hr.m (pv 1) ((pv 0)<&>ah))⟩))<&>ah)))),?_⟩;left;show ao (DA (K:=K) hk) λt1 h1 h2=>?_;show aM _ _ ⟨⟨rfl,rfl⟩,_,rfl,_,h1,_,h2,bH (λhc=>?_) (λhc=>?_)⟩
 .rw [Hl (by simpa using hc)] at q;show q H (aa.refl _)
 .refine cF (oj hk (by simpa using hc)) λa xs e914 ha hl=>?_;obtain rfl:=e914;rw[DO ha] at q;show⟨a,rfl,xs,.inl (aj.of ha),bH (λhn=>?_) (λhn=>?_)⟩
  .rw [show decide ((xs.length:Int)=wd)=false by simpa using hn,yk] at q;show q H (aa.refl _)
  .rw [show decide ((xs.length:Int)=wd)=true by simpa using hn,wc] at q;show⟨_,rfl,a,rfl,⟨_,aj.of ha⟩,λD hD=>xN (λi=>iT p H (xs.getD i .non)) ha hD ∅ (λi y H' Q' hy s' q'=>?_) λH' s' e'=>⟨D,rfl,_,aj.of e',?_⟩⟩
   .have wy:=hx a xs rfl ha y (aY hy);show⟨_,rfl,g,dx,_,rfl,s' _ _ hg,zN _ ⋯,_,rfl,g,p,y,rfl,⟨dx,s' _ _ hg⟩,hp,wy.same s',?_⟩;rw[Fg wy s',<- Dv hy];show λH2 s2=>q' H2 s2
   .rw [CS];show q H' s'
def Eb (G:Addr):Sp:=λvs H Q _=>∃ (g:Addr) (p:Int) (v:V),vs=[.ref g,v]/\fh G H g p/\af p/\Bu H v/\∀ H',aa H H'->Q (.bl (tabB p H v)) H'
theorem G4 {p:Int}{H:Hp}{v:V}(h:jQ H v=false):tabB p H v=false:=by
 cases v <;> try rfl
 simp only[jQ] at h;simp only[tabB];split
 .rename_i e;rw[e] at h;cases h
 .rfl
theorem G3 {p:Int}{H:Hp}{a:Addr}{xs:List V}(h:H a=some (.tup xs))(hl:xs.length≠3):tabB p H (.ref a)=false:=by
 simp only[tabB,h];split
 .rename_i e;cases e;show absurd rfl hl
 .rfl
theorem Fz {p:Int}{H:Hp}{a:Addr}{x y z:V}(h:H a=some (.tup [x,y,z]))(hw:whB x=false\/whB y=false):tabB p H (.ref a)=false:=by
 simp only[tabB,h];split
 .rename_i e
  cases e;rcases hw with hw|hw <;> cases hw
 .rfl
theorem Am {p:Int}{H:Hp}{a:Addr}{i j:Int}{z:V}(h:H a=some (.tup [.int i,.int j,z]))(hw:(i<0\/j<0)\/nG H z=false):tabB p H (.ref a)=false:=by
 simp only[tabB,h];split
 .rename_i e
  cases e;split
  .rename_i rows e2
   rcases hw with (hw|hw)|hw
   .rw [d6 (show ¬ 0<=i by omega)];simp
   .rw [d6 (show ¬ 0<=j by omega)];simp
   .simp only [nG,e2] at hw;cases hw
  .rfl
 .rfl
theorem Fo {p:Int}{H:Hp}{a r:Addr}{i j:Int}{rows:List V}(h:H a=some (.tup [.int i,.int j,.ref r]))(hr:H r=some (.lst rows))(h0:¬ i<0)(h1:¬ j<0):tabB p H (.ref a)=(decide ((rows.length:Int)=i) && rows.all (jv p j H)):=by
 simp only[tabB,h,hr];rw[cf (show 0<=i by omega),cf (show 0<=j by omega)];rfl
theorem GB (F:⇑("is_table",Az))(T:⇑())(Yab:⇑("is_whole",1,xP))(Ya7:⇑("is_row",7,D_ G)):⇑[8,["ground","thing"],Eb G]:=by
 exists Jp,fU,3
 show cK h λg p v e916 e917 hp e918=>?_;clear h;subst e916;obtain⟨dx,hg⟩:=e917;obtain⟨⟨hk,hx⟩,q⟩:=e918;show⟨_,((@bI _ _ _ _ _ _ _ _ (PW.pt (fM (d_ (eY (cg iJ rfl T.n_isinstance iP ((ae 1)<&>((iW rfl T.n_tuple boot_tuple)<&>ah))))) (gG (bX fW (cg h_ rfl T.n_len ig ((ae 1)<&>ah)) aq (bo _))))) (~~~fX) bJ)<*>((d9 (ae 1) (@dY _ _ _ _ _ 3 rfl ((2>>>nd)^^^((@oW _ _ 3 _ nd rfl (Or.inr rfl) (Or.inl rfl))^^^((4>>>nd)^^^(@cU _)))) ⇑1 ⇑1))<*>((@bI _ _ _ _ _ _ _ _ (PW.pt (fM (d_ (eY (Yab<$>hr<$>((ae 2)<&>ah)))) (fM (d_ (eY (Yab<$>hr<$>((ae 3)<&>ah)))) (fM (bX jS (ae 2) aq (bo _)) (gG (bX jS (ae 3) aq (bo _))))))) (~~~fX) bJ)<*>((@bI _ _ _ _ _ _ _ _ (PW.pt (fM (d_ (eY (cg iJ rfl T.n_isinstance iP ((ae 4)<&>((iW rfl T.n_list j7)<&>ah))))) (gG (bX fW (cg h_ rfl T.n_len ig ((ae 4)<&>ah)) (ae 2) (bo _))))) (~~~fX) bJ)<*>(~~~(cg (rM rfl) rfl T.n_all boot_all ((dR (own:=["row"]) (fr:=[("ground",0),("wide",3)]) rfl (cW (by kernel_rfl)) (eJ (pv 4)) (λ_ _ _ _=>⟨(0<<<["row","ground","wide"]),df,(Ya7<$>hr<$>((pv 1)<&>((pv 2)<&>((pv 0)<&>ah))))⟩))<&>ah))))))),?_⟩;left;show ao (CA (K:=K) hk) λt1 h1 h2=>?_;show aM _ _ ⟨⟨rfl,rfl⟩,_,rfl,_,h1,_,h2,bH (λhc=>?_) (λhc=>?_)⟩
 .rw [G4 (by simpa using hc)] at q;show q H (aa.refl _)
 .refine cF (oh hk (by simpa using hc)) λa xs e919 ha hl=>?_;obtain rfl:=e919;show⟨a,rfl,xs,.inr (aE.of ha),bH (λhn=>?_) (λhn=>?_)⟩
  .have hn:¬ xs.length=3:=by intro z;rw[z] at hn;show absurd hn ⇑0
   rw[G3 ha hn] at q;show q H (aa.refl _)
  .have hn:xs.length=3:=by
    have:((xs.length:Nat):Int)=3:=by simpa using hn
    omega
   obtain⟨x,y,z,rfl⟩:∃ x y z,xs=[x,y,z]:=by
    match xs,hn with
    | [x,y,z],_=>show⟨x,y,z,rfl⟩
   have kx:=(hx a _ rfl ha x (by simp)).1;have ky:=(hx a _ rfl ha y (by simp)).1;obtain⟨kz,hz⟩:=hx a _ rfl ha z (by simp);show⟨a,rfl,_,aE.of ha,rfl,_,_,rfl,_,_,rfl,_,_,rfl,rfl,x,rfl,kx,_,rfl,bH (λh1=>?_) (λh1=>?_)⟩
   .rw [Fz ha (.inl (by simpa using h1))] at q;show q H (aa.refl _)
   .obtain ⟨i,rfl⟩:=uM (v:=x) (by simpa using h1);show⟨y,rfl,ky,_,rfl,bH (λh2=>?_) (λh2=>?_)⟩
    .rw [Fz ha (.inr (by simpa using h2))] at q;show q H (aa.refl _)
    .obtain ⟨j,rfl⟩:=uM (v:=y) (by simpa using h2);show⟨i,rfl,bH (λh3=>?_) (λh3=>⟨j,rfl,bH (λh4=>?_) (λh4=>?_)⟩)⟩
     .rw [Am ha (.inl (.inl (fc h3)))] at q;show q H (aa.refl _)
     .rw [Am ha (.inl (.inr (fc h4)))] at q;show q H (aa.refl _)
     .have h3:¬ i<0:=λz=>h3 (cf z);have h4:¬ j<0:=λz=>h4 (cf z);show ao (DA (K:=K) kz) λt3 h5 h6=>?_;show aM _ _ ⟨⟨rfl,rfl⟩,_,rfl,_,h5,_,h6,bH (λhc2=>?_) (λhc2=>?_)⟩
      .rw [Am ha (.inr (by simpa using hc2))] at q;show q H (aa.refl _)
      .refine cF (oj kz (by simpa using hc2)) λr rows e920 hr1 hrl=>?_;obtain rfl:=e920;rw[Fo ha hr1 h3 h4] at q;have ed:decide (V.int ((rows.length:Nat):Int)=V.int i)=decide ((rows.length:Int)=i):=by simp only[V.int.injEq]
       show⟨r,rfl,rows,.inl (aj.of hr1),rfl,bH (λhn2=>?_) (λhn2=>?_)⟩
       .rw [ed] at hn2;rw[show decide ((rows.length:Int)=i)=false by simpa using hn2,yk] at q;show q H (aa.refl _)
       .rw [ed] at hn2;rw[show decide ((rows.length:Int)=i)=true by simpa using hn2,wc] at q;show⟨_,rfl,r,rfl,⟨_,aj.of hr1⟩,λD hD=>xN (λk=>jv p j H (rows.getD k .non)) hr1 hD ∅ (λk y H' Q' hy s' q'=>?_) λH' s' e'=>⟨D,rfl,_,aj.of e',?_⟩⟩
        .have wy:=hz r rows rfl hr1 y (aY hy);show⟨_,rfl,_,rfl,_,rfl,g,p,j,y,rfl,⟨dx,s' _ _ hg⟩,hp,wy.same s',λH2 s2=>?_⟩;rw[HS wy s',<- Dv hy];show q' H2 s2
        .rw [CS];show q H' s'
def cI (H:Hp)(p:Int)(B:Nat)(v:V):Prop:=∃ x,aF H p v x/\bc p x/\Bd B x
theorem cI.same {H H':Hp}{p:Int}{B:Nat}{v:V}(h:cI H p B v)(s:aa H H'):cI H' p B v:=let ⟨x,a,b,c⟩:=h;⟨x,a.same s,b,c⟩
theorem cI.put {H:Hp}{D:Addr}{l:List V}{o:HO}{p:Int}{B:Nat}{v:V}(h:cI H p B v)(hD:H D=some (.lst l)):cI (ar H D o) p B v:=by
 show bh h λx a b c=>?_;clear h;show⟨x,?_,b,c⟩;by_cases hp:p=0
 .refine ao (a.ref hp) λt e93 ht=>?_;obtain rfl:=e93;show aF.tup hp (by rw[aR (fL ht hD (by intro z;cases z))];show ht)
 .obtain rfl:=a.int hp;show aF.of hp
theorem aF.ext {l:Addr}{H H':Hp}{p:Int}{v:V}{x:Int×Int}(h:aF H p v x)(b:bw H l)(e:bf l H H'):aF H' p v x:=by
 by_cases hp:p=0
 .refine ao (h.ref hp) λt e94 ht=>?_;obtain rfl:=e94;show cE b λa c hb _=>?_;clear b;show aF.tup hp (e _ _ (fL ht hb (by intro z;cases z)) ht)
 .obtain rfl:=h.int hp;show aF.of hp
theorem cI.ext {l:Addr}{H H':Hp}{p:Int}{B:Nat}{v:V}(h:cI H p B v)(b:bw H l)(e:bf l H H'):cI H' p B v:=let ⟨x,a,c,d⟩:=h;⟨x,a.ext b e,c,d⟩
def cG (H:Hp)(p:Int)(B:Nat)(wd:Int)(a:Addr):Prop:=∃ xs,H a=some (.lst xs)/\(xs.length:Int)=wd/\∀ x∈xs,cI H p B x
theorem cG.same {H H':Hp}{p wd:Int}{B:Nat}{a:Addr}(h:cG H p B wd a)(s:aa H H'):cG H' p B wd a:=let ⟨xs,h1,h2,h3⟩:=h;⟨xs,s _ _ h1,h2,λx hx=>(h3 x hx).same s⟩
theorem cG.ext {l:Addr}{H H':Hp}{p wd:Int}{B:Nat}{a:Addr}(h:cG H p B wd a)(b:bw H l)(e:bf l H H')(n:a≠l):cG H' p B wd a:=let ⟨xs,h1,h2,h3⟩:=h;⟨xs,e _ _ n h1,h2,λx hx=>(h3 x hx).ext b e⟩
theorem cG.put {H:Hp}{D:Addr}{l:List V}{o:HO}{p wd:Int}{B:Nat}{a:Addr}(h:cG H p B wd a)(hD:H D=some (.lst l))(n:a≠D):cG (ar H D o) p B wd a:=let ⟨xs,h1,h2,h3⟩:=h;⟨xs,by rw[aR n];show h1,h2,λx hx=>(h3 x hx).put hD⟩
theorem i6 (rs:List Addr)(a:Addr):rs.map V.ref++[.ref a]=(rs++[a]).map V.ref:=by rw[dW];rfl
theorem Ge {a D:Addr}{xs:List V}{fr:List (Str×Nat)}{σ:L2.St}{te:TE}{H1:Hp}{Q:VK}(R:Hp->V->Prop)(hS:∀ {H H' y},R H y->aa H H'->R H' y)(hP:∀ {H y l o},R H y->H D=some (.lst l)->R (ar H D o) y)(ha:H1 a=some (.lst xs))(hD:H1 D=none)(hn:xs.length<=1000)(h:∀ (i:Nat) x H (Q:VK),xs[i]?=some x->aa H1 H->(∀ y H',aa H H'->R H' y->Q y H')->te (some x::cy fr σ) H Q)(hQ:∀ ys H',aa H1 H'->H' D=some (.lst ys)->ys.length=xs.length->(∀ y∈ys,R H' y)->Q (.ref D) H'):eZ (bU 0) dh te (jq K a) D (dP 1 fr σ) H1 Q:=by
 show rO (xs:=xs) (λi vs H=>aa H1 H/\H D=some (.lst vs)/\vs.length=i/\∀ y∈vs,R H y) ⟨aa.new hD,aw,rfl,by simp⟩ (λi vs H _ p=>aj.of (p.1 _ _ ha)) ?_ (λvs H ⟨s,e,hl,hr⟩=>hQ vs H s e hl hr);intro i x vs σ' H hi hx sh e91;show cA e91 λs e hl hr=>?_;clear e91;obtain⟨z,rfl⟩:=sh.one;simp only[gD,bU,dh,List.set_cons_zero,fm];show h i x H _ hx s λy H' s' ry=>?_;show gj (ws:=vs++[y]) hi Sh.mk1 (s' _ _ e) (cT ∅) ⟨(s.trans s').upd hD,aw,by rw[bN,hl];rfl,λu hu=>?_⟩;rcases cj.mp hu with hu|hu
 .exact hP (hS (hr u hu) s') (s' _ _ e)
 .rw [cS.mp hu];show hP ry (s' _ _ e)
theorem IF {a b D:Addr}{xs ys:List V}{fr:List (Str×Nat)}{σ:L2.St}{te:TE}{H1:Hp}{Q:VK}(R:Hp->V->Prop)(hS:∀ {H H' y},R H y->aa H H'->R H' y)(hP:∀ {H y l o},R H y->H D=some (.lst l)->R (ar H D o) y)(ha:H1 a=some (.lst xs))(hb:H1 b=some (.lst ys))(hlen:ys.length=xs.length)(hD:H1 D=none)(hn:xs.length<=1000)(h:∀ (i:Nat) x y H (Q:VK),xs[i]?=some x->ys[i]?=some y->aa H1 H->(∀ u H',aa H H'->R H' u->Q u H')->te (some x::some y::cy fr σ) H Q)(hQ:∀ zs H',aa H1 H'->H' D=some (.lst zs)->zs.length=xs.length->(∀ y∈zs,R H' y)->Q (.ref D) H'):eZ (iV K 2 (g_ (bU 0) (g_ (bU 1) jw))) dh te (pf K a b) D (dP 2 fr σ) H1 Q:=by
 show xF (xs:=xs) (ys:=ys) (λi vs H=>aa H1 H/\H D=some (.lst vs)/\vs.length=i/\∀ y∈vs,R H y) hlen ⟨aa.new hD,aw,rfl,by simp⟩ (λi vs H _ p=>⟨aj.of (p.1 _ _ ha),aj.of (p.1 _ _ hb)⟩) ?_ (λvs H ⟨s,e,hl,hr⟩=>hQ vs H s e hl hr);intro i x y p vs σ' H hi hx hy hp sh e92;show cA e92 λs e hl hr=>?_;clear e92;show eV sh.two λz1 z2 e95=>?_;obtain rfl:=e95;have s0:=aa.new (o:=.tup [x,y]) hp;show aM p _ ⟨rfl,aE.of aw,rfl,_,_,rfl,_,_,rfl,rfl,?_⟩;simp only[dh,List.set_cons_zero,List.set_cons_succ,fm];show h i x y _ _ hx hy (s.trans s0) λu H' s' ru=>?_;have s1:=s0.trans s';show gj (ws:=vs++[u]) hi Sh.mk2 (s1 _ _ e) (cT ∅) ⟨(s.trans s1).upd hD,aw,by rw[bN,hl];rfl,λv hv=>?_⟩;rcases cj.mp hv with hv|hv
 .exact hP (hS (hr v hv) s1) (s1 _ _ e)
 .rw [cS.mp hv];show hP ru (s1 _ _ e)
def BB:Nat:=2 ^ 1000000
theorem lq {a b:Nat}(h:a<b):2 ^ a<2 ^ b:=wD ⇑0 h
theorem lu {a b:Nat}(h:a<=b):2 ^ a<=2 ^ b:=wH ⇑0 h
theorem pj:BB<2 ^ NB:=by
 unfold BB;show lq ⇑0
theorem ze {n m:Nat}(h:n<2 ^ m)(hm:m<=1000000):n<=BB:=by
 unfold BB;show gR (dN h (lu hm))
theorem ph {n:Nat}(h:n<=100000000000000000000000000000000):n<=BB:=ze (m:=120) (jm h ⋯) ⇑0
theorem vG {n:Nat}(h:0<n):ixN n (-1)=some (n-1):=by
 unfold ixN;rw[if_neg ∅,if_pos ∅];congr 1;show oz60
theorem rL (rs:List Addr)(j:Nat)(a:Addr):(rs.map V.ref).set j (.ref a)=(rs.set j a).map V.ref:=(List.map_set).symm
theorem vE {rs:List Addr}{j:Nat}(h:j<rs.length):(rs.map V.ref)[j]?=some (.ref rs[j]):=by rw[bj,aG h];rfl
theorem Hy {rs:List Addr}(h:0<rs.length):atI (rs.map V.ref) (-1)=some (.ref (rs[rs.length-1]'(by omega))):=by
 unfold atI;rw[aB,vG h];show vE ∅
structure fB (H:Hp)(p:Int)(hh wd:Int)(t r:Addr)(rs:List Addr):Prop where
 tup:H t=some (.tup [.int hh,.int wd,.ref r])
 lst:H r=some (.lst (rs.map V.ref))
 len:(rs.length:Int)=hh
 row:∀ a∈rs,cG H p BB wd a
 nin:r∉rs
theorem fB.same {H H':Hp}{p hh wd:Int}{t r:Addr}{rs:List Addr}(h:fB H p hh wd t r rs)(s:aa H H'):fB H' p hh wd t r rs:=⟨s _ _ h.tup,s _ _ h.lst,h.len,λa ha=>(h.row a ha).same s,h.nin⟩
def Fl (v:V):Prop:=v=.non\/(∃ b,v=.bl b)\/(∃ i,v=.int i)\/∃ s,v=.str s
theorem Fl.kn {H:Hp}{v:V}(h:Fl v):Kn H v:=by
 rcases h with h|h|h|h
 .exact .inl h
 .exact .inr (.inl h)
 .exact .inr (.inr (.inl h))
 .exact .inr (.inr (.inr (.inl h)))
theorem Ha {H:Hp}{v:V}(h:Kn H v)(hn:∀ a,v≠.ref a):kJ H v:=⟨h,λa xs e=>absurd e (hn a)⟩
theorem kT {H:Hp}{a:Addr}{xs:List V}(h:H a=some (.tup xs))(hl:xs.length<=1000)(hk:∀ y∈xs,Kn H y/\vS y):kJ H (.ref a):=⟨.tup h hl,λb ys e1 e2 y hy=>by cases e1;rw[h] at e2;cases e2;show hk y hy⟩
def oN (H:Hp)(v:V):Prop:=Kn H v/\∀ r rows,v=.ref r->H r=some (.lst rows)->∀ z∈rows,nT H z
theorem cI.wf {H:Hp}{p:Int}{B:Nat}{v:V}(h:cI H p B v)(hB:B<=BB:=by first|show aQ _|show ph ⇑0):kJ H v:=by
 show bh h λx nv _ bd=>?_;clear h;by_cases hp:p=0
 .refine ao (nv.ref hp) λt e96 ht=>?_;obtain rfl:=e96;show kT ht (by show 2<=1000;decide) λu hu=>?_;simp only[gf,yj,or_false] at hu;rcases hu with rfl|rfl
  .exact ⟨Kn.int,λj e=>by cases e;show jm (cD bd.1 hB) pj⟩
  .exact ⟨Kn.int,λj e=>by cases e;show jm (cD bd.2 hB) pj⟩
 .obtain rfl:=nv.int hp;show Ha Kn.int (by intro a z;cases z)
theorem cG.wf {H:Hp}{p wd:Int}{B:Nat}{a:Addr}(h:cG H p B wd a)(w24:wd<=24)(hB:B<=BB:=by first|show aQ _|show ph ⇑0):nT H (.ref a):=by
 show bh h λxs h1 h2 h3=>?_;clear h;show⟨.lst h1 (oz58 w24 h2),λb ys e1 e2 y hy=>by cases e1;rw[h1] at e2;cases e2;show (h3 y hy).wf hB⟩
theorem kS {H:Hp}{a:Addr}{xs:List V}(h:H a=some (.lst xs))(hl:xs.length<=1000)(hk:∀ y∈xs,nT H y):oN H (.ref a):=⟨.lst h hl,λb ys e1 e2 y hy=>by cases e1;rw[h] at e2;cases e2;show hk y hy⟩
theorem kR {H:Hp}{a:Addr}{xs:List V}(h:H a=some (.tup xs))(hl:xs.length<=1000)(hk:∀ y∈xs,oN H y):Bu H (.ref a):=⟨.tup h hl,λb ys e1 e2 y hy=>by cases e1;rw[h] at e2;cases e2;show hk y hy⟩
theorem ET {H:Hp}{v:V}(h:Fl v):oN H v:=⟨h.kn,λa xs e=>by subst e;rcases h with h|⟨_,h⟩|⟨_,h⟩|⟨_,h⟩ <;> cases h⟩
theorem fi {i:Int}:Fl (.int i):=.inr (.inr (.inl ⟨_,rfl⟩))
theorem fb {i:Bool}:Fl (.bl i):=.inr (.inl ⟨_,rfl⟩)
theorem fB.wfs {H:Hp}{p hh wd:Int}{t r:Addr}{rs:List Addr}(h:fB H p hh wd t r rs)(h24:hh<=24)(w24:wd<=24):oN H (.ref r):=by
 have:=h.len;show kS h.lst (by rw[aB];show oz58 h24 this) λy hy=>by obtain⟨a,ha,rfl⟩:=bR.mp hy;show (h.row a ha).wf w24
theorem three {H:Hp}{x y z:V}(hx:oN H x)(hy:oN H y)(hz:oN H z):∀ u∈[x,y,z],oN H u:=λu hu=>by
 simp only[gf,yj,or_false] at hu;rcases hu with rfl|rfl|rfl
 .exact hx
 .exact hy
 .exact hz
theorem fB.ext {l:Addr}{H H':Hp}{p hh wd:Int}{t r:Addr}{rs:List Addr}(h:fB H p hh wd t r rs)(b:bw H l)(e:bf l H H')(nt:t≠l)(nr:r≠l)(ns:l∉rs):fB H' p hh wd t r rs:=
 ⟨e _ _ nt h.tup,e _ _ nr h.lst,h.len,λa ha=>(h.row a ha).ext b e (λz=>ns (z ▸ ha)),h.nin⟩
theorem fB.wft {H:Hp}{p hh wd:Int}{t r:Addr}{rs:List Addr}(h:fB H p hh wd t r rs)(h24:hh<=24)(w24:wd<=24):Bu H (.ref t):=
 kR h.tup (by show 3<=1000;decide) (three (ET fi) (ET fi) (h.wfs h24 w24))
theorem cI.is {H:Hp}{p:Int}{B:Nat}{v:V}(h:cI H p B v):iT p H v=true:=by
 show bh h λx nv ix _=>?_;clear h;by_cases hp:p=0
 .refine ao (nv.ref hp) λt e97 ht=>?_;obtain rfl:=e97;rw[DF hp,EI ht];rcases ix with ⟨_,lo⟩|⟨h,_⟩
  .have:=lo.1;rw[cf (show 1<=x.2 by omega),cf lo.2];rfl
  .omega
 .obtain rfl:=nv.int hp;rw[Et hp];rcases ix with ⟨h,_⟩|⟨_,h1,h2,_⟩
  .exact absurd h hp
  .rw [cf h1,cf h2];rfl
theorem cG.is {H:Hp}{p wd:Int}{B:Nat}{a:Addr}(h:cG H p B wd a):jv p wd H (.ref a)=true:=by
 show bh h λxs h1 h2 h3=>?_;clear h;rw[DO h1,cf h2,wc];show jk.mpr λx hx=>(h3 x hx).is
theorem fB.is {H:Hp}{p hh wd:Int}{t r:Addr}{rs:List Addr}(h:fB H p hh wd t r rs)(h0:0<=hh)(w0:0<=wd):tabB p H (.ref t)=true:=by
 rw[Fo h.tup h.lst ∅ ∅,aB,cf h.len,wc];show jk.mpr λy hy=>by obtain⟨a,ha,rfl⟩:=bR.mp hy;show (h.row a ha).is
structure cC (H:Hp)(p hh wd:Int)(t r:Addr)(rs:List Addr)(M:List (List V)):Prop where
 tab:fB H p hh wd t r rs
 con:∀ (i:Nat) (a:Addr),rs[i]?=some a->H a=some (.lst (M.getD i []))
theorem cC.same {H H':Hp}{p hh wd:Int}{t r:Addr}{rs:List Addr}{M:List (List V)}(h:cC H p hh wd t r rs M)(s:aa H H'):cC H' p hh wd t r rs M:=⟨h.tab.same s,λi a e=>s _ _ (h.con i a e)⟩
def ck (H:Hp)(z:Addr)(ns:List Int):Prop:=H z=some (.lst (ns.map V.int))/\ns.length<=8/\∀ n∈ns,0<=n/\n<=24
theorem ck.same {H H':Hp}{z:Addr}{ns:List Int}(h:ck H z ns)(s:aa H H'):ck H' z ns:=⟨s _ _ h.1,h.2⟩
def spSz (C:Addr):Sp:=λvs H Q _=>∃ (d z lp:Addr) (m:Int) (xs:List V) (ns:List Int),vs=[.ref d,.ref z]/\kC C H d m lp xs/\ck H z ns/\(ns.length:Int)=m/\∀ H',aa H H'->Q (.bl true) H'
theorem ur (F:⇑("are_sizes",AJ))(T:⇑())(Yab:⇑("is_whole",1,vK)):⇑[2,["drawing","thing"],spSz C]:=by
 exists Jx,uR,6
 show nJ h λd z lp m xs ns e95 e96 e97 e98=>?_;clear h;subst e95;obtain⟨dx,hd,hlp⟩:=e96;obtain⟨hz,h8,hn⟩:=e97;obtain⟨hm,q⟩:=e98;show⟨_,((@bI _ _ _ _ _ _ _ _ (PW.pt (fM (d_ (eY (cg iJ rfl T.n_isinstance iP ((ae 1)<&>((iW rfl T.n_list j7)<&>ah))))) (gG (bX fW (cg h_ rfl T.n_len ig ((ae 1)<&>ah)) (eI (ae 0) rfl) (bo _))))) (~~~fX) bJ)<*>(~~~(cg (rM rfl) rfl T.n_all boot_all ((dR (own:=["size"]) (fr:=[]) rfl (cW (by kernel_rfl)) (eJ (pv 1)) (λ_ _ _ _=>⟨(0<<<["size"]),df,(nL (Yab<$>hr<$>((pv 0)<&>ah)) (nN (i4 jL (pv 0) aq (bo _))))⟩))<&>ah)))),?_⟩;left;show aM _ _ ⟨⟨rfl,rfl⟩,_,rfl,_,.lst hz,true,xR K,eE ⇑0 ⟨_,.inl (aj.of hz),C,dx,_,hd,T.cl_Drawing,T.nM,_,Ab m lp,rfl,eE ?_ ⟨_,rfl,z,rfl,⟨_,aj.of hz⟩,λD hD=>xN (λ_=>true) hz hD (by rw[aB];omega) (λk x H' Q' hx s' q'=>?_) λH' s' e'=>⟨D,rfl,_,aj.of e',?_⟩⟩⟩⟩
 .rw [cf (by rw[aB,hm])];decide
 .rw [bj] at hx;cases e:ns[k]? with
  | none=>rw[e] at hx;cases hx
  | some n=>
   rw[e] at hx;cases hx;have n0:=(hn n (aY e)).1;show⟨_,rfl,n,rfl,true,rfl,iteT ⟨_,rfl,_,_,rfl,rfl,?_⟩⟩;change Q' (V.bl (decide (0<=n))) H';rw[cf n0];show q' H' (aa.refl _)
 .rw [vA];show q H' s'
def spTo (G:Addr):Sp:=λvs H Q _=>∃ (g t r:Addr) (p hh wd:Int) (rs:List Addr),vs=[.ref g,.int hh,.int wd,.ref t]/\fh G H g p/\af p/\fB H p hh wd t r rs/\0<=hh/\hh<=24/\0<=wd/\wd<=24/\∀ H',aa H H'->Q (.bl true) H'
theorem uo (F:⇑("is_table_of",A0))(T:⇑())(Yaq:⇑("is_table",8,Eb G)):⇑[9,["ground","high","wide","thing"],spTo G]:=by
 exists JN,uT,7
 show sT h λg t r p hh wd rs e910 hg hp e911=>?_;clear h;subst e910;show gn e911 λtb h0 h24 w0 w24 q=>?_;clear e911;show⟨_,(~~~(nL (Yaq<$>hr<$>((ae 0)<&>((ae 3)<&>ah))) (nL (i4 dI ((cP bq)<|>(ae 3)<||>aq) (ae 1) (bo _)) (nN (i4 dI ((cP bq)<|>(ae 3)<||>aq) (ae 2) (bo _)))))),?_⟩;left;show dc g p (.ref t) ⟨rfl,hg,hp,tb.wft h24 w24,λH1 s1=>⟨_,rfl,oy (tb.is h0 w0) ⟨_,aE.of (s1 _ _ tb.tup),_,rfl,rfl,oy (cf rfl) ⟨_,aE.of (s1 _ _ tb.tup),_,rfl,rfl,by rw[cf rfl];show q H1 s1⟩⟩⟩⟩
theorem CP {cap:L2.St}{a b c:Option V}:Sh 3 cap (a::b::c::cap):=⟨[a,b,c],rfl,rfl⟩
theorem EE {cap σ:L2.St}(h:Sh 3 cap σ):∃ a b c,σ=a::b::c::cap:=by
 show ao h λo h1 e912=>?_;clear h;subst e912
 match o,h1 with
 | [a,b,c],_=>show⟨a,b,c,rfl⟩
theorem rE {ns:List Int}{i:Int}(h0:0<=i)(h1:i<ns.length):atI (ns.map V.int) i=some (.int (ns.getD i.toNat 0)):=by
 show eK h0 ?_;rw[bj,aW,aG (show i.toNat<ns.length by omega)];rfl
def spTs (C G:Addr):Sp:=λvs H Q _=>∃ (g d z l lp:Addr) (p m:Int) (xs:List V) (ps:List (Int×Int)) (ns:List Int) (ts:List Addr),vs=[.ref g,.ref d,.ref z,.ref l]/\fh G H g p/\af p/\kC C H d m lp xs/\dw H xs ps/\jD m ps/\ps.length<=9/\ck H z ns/\(ns.length:Int)=m /\
 H l=some (.lst (ts.map V.ref))/\ts.length=ps.length/\(∀ (i:Nat) t q,ts[i]?=some t->ps[i]?=some q->∃ r rs,fB H p (ns.getD q.2.toNat 0) (ns.getD q.1.toNat 0) t r rs)/\∀ H',aa H H'->Q (.bl true) H'
theorem uk (F:⇑("are_tables",AS))(T:⇑())(Ybg:⇑("is_table_of",9,spTo G)):⇑[10,["ground","drawing","sizes","thing"],spTs C G]:=by
 exists JE,Di,11
 show Dj h λg d z l lp p m xs ps ns ts e914 hg hp e915=>?_;clear h;subst e914;show y8 e915 λe916 pr ip p9 hz hm hl hlen tb q=>?_;clear e915;obtain⟨dx,hd,hlp⟩:=e916;show⟨_,((@bI _ _ _ _ _ _ _ _ (PW.pt (fM (d_ (eY (cg iJ rfl T.n_isinstance iP ((ae 3)<&>((iW rfl T.n_list j7)<&>ah))))) (gG (bX fW (cg h_ rfl T.n_len ig ((ae 3)<&>ah)) (cg h_ rfl T.n_len ig ((eI (ae 1) rfl)<&>ah)) (bo _))))) (~~~fX) bJ)<*>(~~~(cg (rM rfl) rfl T.n_all boot_all ((dR (own:=["tail","head","table"]) (fr:=[("ground",0),("sizes",2)]) rfl (cW (by kernel_rfl)) (kD rfl T.n_zip ((iH (pv 1) rfl)<&>((pv 3)<&>ah))) (λ_ _ _ _=>⟨(@jX _ K rfl _ _ _ _ 2 rfl ((@jX _ K rfl _ _ _ _ 2 rfl ((0<<<["tail","head","table","ground","sizes"])^^^((1<<<["tail","head","table","ground","sizes"])^^^(@cU _))) ⇑1 ⇑1)^^^((2<<<["tail","head","table","ground","sizes"])^^^(@cU _))) ⇑1 ⇑1),df,(Ybg<$>hr<$>((pv 3)<&>(((kH K rfl)<|>(pv 4)<||>(pv 1))<&>(((kH K rfl)<|>(pv 4)<||>(pv 0))<&>((pv 2)<&>ah)))))⟩))<&>ah)))),?_⟩;left;have hxl:=pr.1;show aM _ _ ⟨⟨rfl,rfl⟩,_,rfl,_,.lst hl,true,xR K,eE ⇑0 ⟨_,.inl (aj.of hl),C,dx,_,hd,T.cl_Drawing,T.nA,_,tQ m lp,lp,rfl,_,.inl (aj.of hlp),eE ?_ ?_⟩⟩
 .rw [cf (by rw[aB];omega)];decide
 .refine ⟨_,rfl,d,C,dx,_,_,rfl,hd,T.cl_Drawing,T.nA,tQ m lp,_,rfl,lp,l,rfl,⟨_,aj.of hlp⟩,⟨_,aj.of hl⟩,λD hD=>?_⟩;show xF (k:=3) (xs:=xs) (ys:=ts.map V.ref) (λi vs H'=>aa H H'/\H' D=some (.lst vs)/\vs=((List.range i).map λ_=>true).map V.bl) (by rw[aB];show oz39 hlen hxl) ⟨aa.new hD,aw,rfl⟩ (λi vs H' _ pv=>⟨aj.of (pv.1 _ _ hlp),aj.of (pv.1 _ _ hl)⟩) ?_ ?_
  .intro i x y pz vs σ' H' hi hx hy hpz sh e91;show bC e91 λs' e' e917=>?_;clear e91;obtain rfl:=e917;show jH (EE sh) λz1 z2 z3 e918=>?_;obtain rfl:=e918;have hi':i<ps.length:=by show bM hxl hi
   have hq:ps[i]?=some ps[i]:=aG hi';show ao (pr.2 i x _ hx hq) λta e919 hta=>?_;obtain rfl:=e919;have hti:ts[i]?=some (ts[i]'(oz40 hlen hxl hi)):=aG (oz40 hlen hxl hi);rw[bj,hti] at hy;cases hy;show eV (tb i _ _ hti hq) λr rs tb1=>?_;show cA (ip _ (aY hq)) λi0 i1 j0 j1=>?_;have s0:=s'.trans (aa.new (o:=.tup [V.ref ta,V.ref (ts[i]'(oz8 hlen hi'))]) hpz);have hz0:=hz.same s0;have a1:=rE (ns:=ns) i0 ∅;have a2:=rE (ns:=ns) j0 ∅;have b1:=hz.2.2 (ns.getD ps[i].1.toNat 0) (by rw[aW,aG (show ps[i].1.toNat<ns.length by omega)];show dm _);have b2:=hz.2.2 (ns.getD ps[i].2.toNat 0) (by rw[aW,aG (show ps[i].2.toNat<ns.length by omega)];show dm _);show aM pz _ ⟨rfl,aE.of aw,rfl,_,_,rfl,ta,_,rfl,aE.of (s0 _ _ hta),rfl,_,_,rfl,_,_,rfl,rfl,_,_,rfl,rfl,?_⟩;simp only[dh,List.set_cons_zero,List.set_cons_succ,fm];show⟨_,rfl,_,rfl,_,rfl,z,_,_,_,rfl,rfl,aj.of hz0.1,a2,_,rfl,_,rfl,z,_,_,_,rfl,rfl,aj.of hz0.1,a1,_,rfl,g,_,r,p,_,_,rs,rfl,hg.same s0,hp,tb1.same s0,b2.1,b2.2,b1.1,b1.2,λH'' s''=>?_⟩;have s1:=(aa.new (o:=.tup [V.ref ta,V.ref (ts[i]'(oz8 hlen hi'))]) hpz).trans s'';show gj (ws:=((List.range (i+1)).map λ_=>true).map V.bl) hi CP (s1 _ _ e') (cT (by rw[aB,aB,dq];omega)) ⟨(s'.trans s1).upd hD,by rw[aw,i_,dW,dW];rfl,rfl⟩
  .intro vs H' e92;show bC e92 λs' e' e920=>?_;clear e92;obtain rfl:=e920;show⟨D,rfl,_,aj.of e',by rw[vA];show q H' s'⟩
def vT (H0 H:Hp)(p hh wd:Int)(t:Addr)(M:List (List V)):Prop:=∃ r rs,cC H p hh wd t r rs M/\H0 t=none/\H0 r=none/\∀ a∈rs,H0 a=none
def ie (H:Hp)(p:Int)(l:Addr)(ts:List Addr)(cs:List (Int×Int×List (List V))):Prop:=H l=some (.lst (ts.map V.ref))/\ts.length=cs.length/\cs.length<=9/\∀ (i:Nat) t c,ts[i]?=some t->cs[i]?=some c->(∃ r rs,cC H p c.1 c.2.1 t r rs c.2.2)/\0<=c.1/\c.1<=24/\0<=c.2.1/\c.2.1<=24
theorem cC.put {H:Hp}{p hh wd:Int}{t r D:Addr}{rs:List Addr}{M:List (List V)}{l:List V}{o:HO}(h:cC H p hh wd t r rs M)(hD:H D=some (.lst l))(nr:r≠D)(ns:D∉rs):cC (ar H D o) p hh wd t r rs M:=by
 have nt:t≠D:=fL h.tab.tup hD (by intro z;cases z);have na:∀ a∈rs,a≠D:=λa ha z=>ns (z ▸ ha);show⟨⟨by rw[aR nt];show h.tab.tup,by rw[aR nr];show h.tab.lst,h.tab.len,λa ha=>(h.tab.row a ha).put hD (na a ha),h.tab.nin⟩,λi a e=>by rw[aR (na a (aY e))];show h.con i a e⟩
abbrev teRow (K:Frag):TE:=tCB (λxs H Q=>∃ p,xs=[V.ref p]/\∃ x,(aj K H p x\/aE K H p x)/\∀ (l:Addr),H l=none->Q (V.ref l) (ar H l (HO.lst x))) (jd (eG 0) oC)
abbrev teTab (K:Frag):TE:=tTup (jd (eG 0) (jd (eG 1) (jd (tComp 1 [] (yN K (eG 2)) (bU 0) dh (teRow K)) oC)))
theorem Hs {r D:Addr}{rs:List Addr}{M:List (List V)}{fr:List (Str×Nat)}{σ:L2.St}{H1:Hp}{Q:VK}(hr:H1 r=some (.lst (rs.map V.ref)))(hc:∀ (i:Nat) (a:Addr),rs[i]?=some a->H1 a=some (.lst (M.getD i [])))(hn:rs.length<=100)(hD:H1 D=none)(hQ:∀ (rs':List Addr) H',aa H1 H'->H' D=some (.lst (rs'.map V.ref))->rs'.length=rs.length->(∀ (i:Nat) (a:Addr),rs'[i]?=some a->H' a=some (.lst (M.getD i [])))->(∀ a∈rs',H1 a=none/\a≠D)->rs'.Nodup->Q (.ref D) H'):
  eZ (bU 0) dh (teRow K) (jq K r) D (dP 1 fr σ) H1 Q:=by
 show rO (xs:=rs.map V.ref) (λi vs H=>∃ rs':List Addr,vs=rs'.map V.ref/\aa H1 H/\H D=some (.lst vs)/\rs'.length=i/\(∀ (j:Nat) (a:Addr),rs'[j]?=some a->H a=some (.lst (M.getD j [])))/\(∀ a∈rs',H1 a=none/\a≠D)/\rs'.Nodup)
  ⟨[],rfl,aa.new hD,aw,rfl,λj a e=>by simp at e,(λa ha=>by simp at ha),List.nodup_nil⟩ (λi vs H _ ⟨_,_,s,_⟩=>aj.of (s _ _ hr)) ?_ (λvs H ⟨rs',hv,s,e,hl,hc',fr',nd'⟩=>hQ rs' H s (hv ▸ e) (by rw[hl,aB]) hc' fr' nd')
 intro i x vs σ' H hi hx sh e91;show uP e91 λrs' e93 s e hl hc' e94=>?_;clear e91;obtain rfl:=e93;obtain⟨fr',nd'⟩:=e94;obtain⟨z,rfl⟩:=sh.one;rw[aB] at hi;rw[vE hi] at hx;cases hx;have ha:=s _ _ (hc i _ (aG hi));simp only[gD,bU,dh,List.set_cons_zero,fm];show⟨_,rfl,_,rfl,_,.inl (aj.of ha),λc hc0=>?_⟩;have nDc:D≠c:=bV e hc0;have hDc:(ar H c (.lst (M.getD i []))) D=some (.lst (rs'.map V.ref)):=by rw[aR nDc];show e
 have sc:=s.trans (aa.new (o:=.lst (M.getD i [])) hc0);show gj (ws:=rs'.map V.ref++[.ref c]) (by rw[aB];show hi) Sh.mk1 hDc (cT (by rw[aB];omega)) ⟨rs'++[c],i6 _ _,sc.upd hD,by rw[aw,i6],by rw[bN,hl];rfl,λj a ej=>?_,λa ha=>?_,?_⟩
 .by_cases hj:j<rs'.length
  .rw [fq hj] at ej;have:=hc' j a ej;have naD:=(fr' a (aY ej)).2;rw[aR naD,aR (bV this hc0)];show this
  .rw [fu (d8 hj)] at ej;have hj0:j-rs'.length=0:=by
    by_cases z:j-rs'.length=0
    .exact z
    .rw [dH (by simp;show oz7 z)] at ej;cases ej
   rw[hj0] at ej;cases ej;rw[aR nDc.symm,aw,show j=i by show oz2 hl hj hj0]
 .rcases cj.mp ha with ha|ha
  .exact fr' a ha
  .rw [cS.mp ha];show⟨s.free hc0,nDc.symm⟩
 .refine BZ.mpr ⟨nd',by simp,λa ha b hb z=>?_⟩;rw[cS.mp hb] at z;subst z;obtain⟨j,hj,rfl⟩:=dZ.mp ha;have:=hc' j _ (aG hj);rw[hc0] at this;cases this
def Kf (H:Hp)(D:Addr)(ts:List Addr):Prop:=∃ rr:List (Addr×List Addr),rr.length=ts.length/\(∀ (i:Nat) t x,ts[i]?=some t->rr[i]?=some x->(∃ h w:V,H t=some (.tup [h,w,.ref x.1]))/\H x.1=some (.lst (x.2.map V.ref)))/\(∀ x∈rr,x.1≠D/\D∉x.2)/\(∀ x∈rr,∀ y∈rr,x.1∉y.2)/\(rr.map (·.2)).flatten.Nodup
theorem Ht {l D:Addr}{p:Int}{ts:List Addr}{cs:List (Int×Int×List (List V))}{fr:List (Str×Nat)}{σ:L2.St}{H1:Hp}{Q:VK}(hT:ie H1 p l ts cs)(hD:H1 D=none)(hQ:∀ (ts':List Addr) H',aa H1 H'->H' D=some (.lst (ts'.map V.ref))->ts'.length=cs.length->(∀ (i:Nat) t c,ts'[i]?=some t->cs[i]?=some c->vT H1 H' p c.1 c.2.1 t c.2.2)->Kf H' D ts'->Q (.ref D) H'):
  eZ (iV K 3 (g_ (bU 0) (g_ (bU 1) (g_ (bU 2) jw)))) dh (teTab K) (jq K l) D (dP 3 fr σ) H1 Q:=by
 show cA hT λhl hlen h9 hc=>?_;clear hT;show rO (k:=3) (xs:=ts.map V.ref) (λi vs H=>∃ (ts':List Addr) (rr:List (Addr×List Addr)),vs=ts'.map V.ref/\aa H1 H/\H D=some (.lst vs)/\ts'.length=i/\rr.length=i/\((∀ x∈rr,∀ y∈rr,x.1∉y.2)/\(rr.map (·.2)).flatten.Nodup)/\(∀ x∈rr,x.1≠D/\D∉x.2/\(∃ o,H x.1=some o)/\∀ a∈x.2,∃ o,H a=some o)/\∀ (j:Nat) t c x,ts'[j]?=some t->cs[j]?=some c->rr[j]?=some x->cC H p c.1 c.2.1 t x.1 x.2 c.2.2/\H1 t=none/\H1 x.1=none/\∀ a∈x.2,H1 a=none)
  ⟨[],[],rfl,aa.new hD,aw,rfl,rfl,⟨by simp,by simp⟩,by simp,λj t c x e=>by simp at e⟩ (λi vs H _ ⟨_,_,_,s,_⟩=>aj.of (s _ _ hl)) ?_ (λvs H ⟨ts',rr,hv,s,e,hl',hrr,sp,sD,hc'⟩=>?_)
 rotate_left
 .have hrl:rr.length=ts'.length:=∅
  have htl:ts'.length=cs.length:=by rw[hl',aB,hlen]
  show hQ ts' H s (hv ▸ e) htl (λi t c e1 e2=>?_) ⟨rr,hrl,λi t x e1 e2=>?_,λx hx=>⟨(sD x hx).1,(sD x hx).2.1⟩,sp⟩
  .have hi:i<rr.length:=by have:=(b_.mp e1).1;show oz23 hl' hrr this
   show cA (hc' i t c _ e1 e2 (aG hi)) λa1 a2 a3 a4=>?_;show aM _ _ ⟨a1,a2,a3,a4⟩
  .have hi:i<cs.length:=by have:=(b_.mp e1).1;show bM htl this
   obtain⟨a1,_⟩:=hc' i t _ x e1 (aG hi) e2;show⟨⟨_,_,a1.tab.tup⟩,a1.tab.lst⟩
 intro i x vs σ' H hi hx sh e92;show gE e92 λts' rr e95 s e hl' hrr e96=>?_;clear e92;obtain rfl:=e95;show bC e96 λsp sD hc'=>?_;clear e96;show jH (EE sh) λz1 z2 z3 e97=>?_;obtain rfl:=e97;rw[aB] at hi;rw[vE hi] at hx;cases hx;have hci:cs[i]?=some (cs[i]'(bM hlen hi)):=aG (bM hlen hi);show dj (hc i _ _ (aG hi) hci) λe98 c0 c24 w0 w24=>?_;obtain⟨r,rs,tc⟩:=e98;have tcH:=tc.same s;have hrl:=tc.tab.len;show aM _ _ ⟨rfl,aE.of tcH.tab.tup,rfl,_,_,rfl,_,_,rfl,_,_,rfl,rfl,?_⟩;simp only[dh,List.set_cons_zero,List.set_cons_succ,fm];show⟨_,rfl,_,rfl,_,rfl,r,rfl,⟨_,aj.of tcH.tab.lst⟩,λD2 hD2=>Hs (M:=(cs[i]'(bM hlen hi)).2.2) tcH.tab.lst tcH.con ∅ hD2 λrs' H' s' hD2' hl2 hc2 fr2 nd2=>?_⟩;show⟨by show 3<=sizeLine;decide,λpt hpt=>?_⟩;have s0:=aa.new (o:=.tup [V.int (cs[i]'(bM hlen hi)).1,V.int (cs[i]'(bM hlen hi)).2.1,V.ref D2]) hpt;have s1:=s'.trans s0;have sA:=s.trans s1;have hDpt:=s1 _ _ e;have nDp:D≠pt:=bV (s' _ _ e) hpt;have nD2:D2≠D:=λz=>by rw[z,e] at hD2;cases hD2
 have nDr:D∉rs':=λz=>by have:=(fr2 D z).1;rw[e] at this;cases this
 have tcN:cC (ar H' pt (.tup [V.int (cs[i]'(bM hlen hi)).1,V.int (cs[i]'(bM hlen hi)).2.1,V.ref D2])) p (cs[i]'(bM hlen hi)).1 (cs[i]'(bM hlen hi)).2.1 pt D2 rs' (cs[i]'(bM hlen hi)).2.2:=by
  show⟨⟨aw,s0 _ _ hD2',∅,λa ha=>?_,λz=>(fr2 D2 z).2 rfl⟩,λj a ej=>s0 _ _ (hc2 j a ej)⟩;obtain⟨j,hj,rfl⟩:=dZ.mp ha;have hj':j<rs.length:=by show bM hl2 hj
  show bh (tcH.tab.row rs[j] (dm hj')) λys hy hyl hyn=>?_;rw[tcH.con j _ (aG hj')] at hy;cases hy;show⟨_,s0 _ _ (hc2 j _ (aG hj)),hyl,λy hy=>(hyn y hy).same s1⟩
 have sep':∀ x∈rr++[(D2,rs')],∀ y∈rr++[(D2,rs')],x.1∉y.2:=λx hx y hy z=>by
  rcases cj.mp hx with hx|hx <;> rcases cj.mp hy with hy|hy
  .exact sp.1 x hx y hy z
  .rw [cS.mp hy] at z;obtain⟨o,ho⟩:=(sD x hx).2.2.1;have:=(fr2 x.1 z).1;rw[ho] at this;cases this
  .rw [cS.mp hx] at z;obtain⟨o,ho⟩:=(sD y hy).2.2.2 _ z;rw[hD2] at ho;cases ho
  .rw [cS.mp hx,cS.mp hy] at z;show (fr2 D2 z).2 rfl
 have nodup':((rr++[(D2,rs')]).map (·.2)).flatten.Nodup:=by
  rw[dW,List.flatten_append];show BZ.mpr ⟨sp.2,by simpa using nd2,λa ha b hb z=>?_⟩;subst z;show ao (List.mem_flatten.mp ha) λu hu hau=>?_;show ao (bR.mp hu) λy hy e99=>?_;obtain rfl:=e99;obtain⟨o,ho⟩:=(sD y hy).2.2.2 a hau;have:=(fr2 a (by simpa using hb)).1;rw[ho] at this;cases this
 show gj (ws:=ts'.map V.ref++[.ref pt]) (by rw[aB];show hi) CP hDpt (cT (by rw[aB];omega)) ⟨ts'++[pt],rr++[(D2,rs')],i6 _ _,sA.upd hD,by rw[aw,i6],by rw[bN,hl'];rfl,by rw[bN,hrr];rfl,⟨sep',nodup'⟩,λx hx=>?_,λj t c x e1 e2 e3=>?_⟩
 .have keep:∀ b o,b≠D->(ar H' pt (.tup [V.int (cs[i]'(bM hlen hi)).1,V.int (cs[i]'(bM hlen hi)).2.1,V.ref D2])) b=some o->∀ o',(ar (ar H' pt (.tup [V.int (cs[i]'(bM hlen hi)).1,V.int (cs[i]'(bM hlen hi)).2.1,V.ref D2])) D o') b=some o:=λb o nb h o'=>by rw[aR nb];show h
  rcases cj.mp hx with hx|hx
  .refine cA (sD x hx) λx1 x2 e910 x4=>?_;obtain⟨o,ho⟩:=e910;show⟨x1,x2,⟨o,keep _ _ x1 (s1 _ _ ho) _⟩,λa ha=>?_⟩;obtain⟨o,ho⟩:=x4 a ha;show⟨o,keep _ _ (λz=>x2 (z ▸ ha)) (s1 _ _ ho) _⟩
  .rw [cS.mp hx];show⟨nD2,nDr,⟨_,keep _ _ nD2 tcN.tab.lst _⟩,λa ha=>?_⟩;show ao (tcN.tab.row a ha) λys hy _=>?_;show⟨_,keep _ _ (λz=>nDr (z ▸ ha)) hy _⟩
 by_cases hj:j<ts'.length
 .rw [fq hj] at e1;rw[fq (oz23 hl' hrr hj)] at e3;show cA (hc' j t c x e1 e2 e3) λa1 a2 a3 a4=>?_;show bC (sD x (aY e3)) λa5 a6 _=>?_;show⟨(a1.same s1).put hDpt a5 a6,a2,a3,a4⟩
 .rw [fu (d8 hj)] at e1;rw[fu ∅] at e3;have hj0:j-ts'.length=0:=by
   by_cases z:j-ts'.length=0
   .exact z
   .rw [dH (by simp;show oz7 z)] at e1;cases e1
  rw[show j-rr.length=0 by show oz51 hl' hrr hj0] at e3;rw[hj0] at e1;cases e1;cases e3;have hji:j=i:=by show oz2 hl' hj hj0
  subst hji;rw[hci] at e2;cases e2;show⟨tcN.put hDpt nD2 nDr,(s.trans s').free hpt,s.free hD2,λa ha=>s.free (fr2 a ha).1⟩
theorem cI.extI {x C0 dx:Addr}{fs:List (Str×V)}{H H':Hp}{p:Int}{B:Nat}{v:V}(h:cI H p B v)(hx:H x=some (.ins C0 dx fs))(e:bf x H H'):cI H' p B v:=by
 show bh h λy nv b c=>?_;clear h;show⟨y,?_,b,c⟩;by_cases hp:p=0
 .refine ao (nv.ref hp) λt e911 ht=>?_;obtain rfl:=e911;show aF.tup hp (e _ _ (fL ht hx (by intro z;cases z)) ht)
 .obtain rfl:=nv.int hp;show aF.of hp
theorem cC.extI {x C0 dx:Addr}{fs:List (Str×V)}{H H':Hp}{p hh wd:Int}{t r:Addr}{rs:List Addr}{M:List (List V)}(h:cC H p hh wd t r rs M)(hx:H x=some (.ins C0 dx fs))(e:bf x H H'):cC H' p hh wd t r rs M:=by
 show⟨⟨e _ _ (fL h.tab.tup hx (by intro z;cases z)) h.tab.tup,e _ _ (fL h.tab.lst hx (by intro z;cases z)) h.tab.lst,h.tab.len,λa ha=>?_,h.tab.nin⟩,λi a ei=>e _ _ (fL (h.con i a ei) hx (by intro z;cases z)) (h.con i a ei)⟩;show bh (h.tab.row a ha) λys h1 h2 h3=>?_;show⟨ys,e _ _ (fL h1 hx (by intro z;cases z)) h1,h2,λy hy=>(h3 y hy).extI hx e⟩
theorem ie.extI {x C0 dx:Addr}{fs:List (Str×V)}{H H':Hp}{p:Int}{l:Addr}{ts:List Addr}{cs:List (Int×Int×List (List V))}(h:ie H p l ts cs)(hx:H x=some (.ins C0 dx fs))(e:bf x H H'):ie H' p l ts cs:=
 ⟨e _ _ (fL h.1 hx (by intro z;cases z)) h.1,h.2.1,h.2.2.1,λi t c e1 e2=>let ⟨⟨r,rs,a⟩,b⟩:=h.2.2.2 i t c e1 e2;⟨⟨r,rs,a.extI hx e⟩,b⟩⟩
theorem ie.same {H H':Hp}{p:Int}{l:Addr}{ts:List Addr}{cs:List (Int×Int×List (List V))}(h:ie H p l ts cs)(s:aa H H'):ie H' p l ts cs:=
 ⟨s _ _ h.1,h.2.1,h.2.2.1,λi t c e1 e2=>let ⟨⟨r,rs,a⟩,b⟩:=h.2.2.2 i t c e1 e2;⟨⟨r,rs,a.same s⟩,b⟩⟩
noncomputable def jx (g d z l:Addr):List (Str×V):=bS "tables" (.ref l) (bS "sizes" (.ref z) (bS "drawing" (.ref d) (bS "ground" (.ref g) [])))
theorem Fj (g d z l:Addr):(jx g d z l).lookup ("tables" : Str)=↥l:=by unfold jx;rw[gM,if_pos rfl]
theorem tK (g d z l:Addr):(jx g d z l).lookup ("sizes" : Str)=↥z:=by unfold jx;rw[gM,if_neg ⋯,gM,if_pos rfl]
theorem tO (g d z l:Addr):(jx g d z l).lookup ("drawing" : Str)=↥d:=by unfold jx;rw[gM,if_neg ⋯,gM,if_neg ⋯,gM,if_pos rfl]
theorem vL (g d z l:Addr):(jx g d z l).lookup ("ground" : Str)=↥g:=by unfold jx;rw[gM,if_neg ⋯,gM,if_neg ⋯,gM,if_neg ⋯,gM,if_pos rfl]
def wL (ns:List Int)(cs:List (Int×Int×List (List V)))(ps:List (Int×Int)):Prop:=cs.length=ps.length/\∀ (i:Nat) c q,cs[i]?=some c->ps[i]?=some q->c.1=ns.getD q.2.toNat 0/\c.2.1=ns.getD q.1.toNat 0
def spSI (S C G:Addr):Sp:=λvs H Q _=>∃ (x dx g d z l lp:Addr) (p m:Int) (xs:List V) (ps:List (Int×Int)) (ns:List Int) (ts:List Addr) (cs:List (Int×Int×List (List V))),vs=[.ref x,.ref g,.ref d,.ref z,.ref l]/\H x=some (.ins S dx [])/\fh G H g p/\af p /\
 kC C H d m lp xs/\dw H xs ps/\jD m ps/\ps.length<=9/\ck H z ns/\(ns.length:Int)=m/\ie H p l ts cs/\wL ns cs ps /\
 ∀ (z' l':Addr) (ts':List Addr) (H':Hp),bf x H H'->H' x=some (.ins S dx (jx g d z' l'))->H z'=none->H l'=none->ck H' z' ns->H' l'=some (.lst (ts'.map V.ref))->ts'.length=cs.length->(∀ (i:Nat) t c,ts'[i]?=some t->cs[i]?=some c->vT H H' p c.1 c.2.1 t c.2.2)->Q .non H'
theorem GI (F:ik K "__init__" "Standing.__init__" Bf f fd)(T:⇑())(Ya1:⇑("are_sizes",2,spSz C))(Ybe:⇑("are_tables",10,spTs C G)):⇑[11,["self","ground","drawing","sizes","tables"],spSI S C G]:=by
 exists JY,xk,14
 show xi h λx dx g d z l lp p m xs ps ns ts cs e913 hx hg e914=>?_;clear h;subst e913;show y8 e914 λhp hd pr ip p9 hz hm hT ft q=>?_;clear e914;show⟨_,((@bI _ _ _ _ _ _ _ _ (PW.pt (fM (d_ (eY (Ya1<$>hr<$>((ae 2)<&>((ae 3)<&>ah))))) (gG (d_ (eY (Ybe<$>hr<$>((ae 1)<&>((ae 2)<&>((ae 3)<&>((ae 4)<&>ah)))))))))) (@bE _ _ _ kI) bJ)<*>((rH (ae 0) (ae 1) rfl)<*>((rH (ae 0) (ae 2) rfl)<*>((rH (ae 0) (ku vP rfl T.n_list j7 ((ae 3)<&>ah)) rfl)<*>(@bE _ _ _ (rH (ae 0) (dR (own:=["high","wide","rows"]) (fr:=[]) rfl (cW (by kernel_rfl)) (eJ (pv 4)) (λ_ _ _ _=>⟨(@jX _ K rfl _ _ _ _ 3 rfl ((0<<<["high","wide","rows"])^^^((1<<<["high","wide","rows"])^^^((2<<<["high","wide","rows"])^^^(@cU _)))) ⇑1 ⇑1),df,(@bQ _ _ _ _ _ ((pv 0)<&>((pv 1)<&>((dR (own:=["row"]) (fr:=[]) rfl (cW (by kernel_rfl)) (Hh K rfl (pv 2)) (λ_ _ _ _=>⟨(0<<<["row"]),df,(ku (FJ K rfl) rfl T.n_list j7 ((pv 0)<&>ah))⟩))<&>ah))))⟩)) rfl)))))),?_⟩;left;show oH d z lp m xs ns ⟨rfl,hd,hz,hm,λH1 s1=>⟨true,rfl,eE ⇑0 ?_⟩⟩;have hT1:=hT;show cA hT λhl hlen h9 hc=>?_;clear hT;show ao hd λdxd hd1 hd2=>?_;clear hd;show pG g d z l lp p m xs ps ns ts ⟨rfl,hg.same s1,hp,⟨dxd,s1 _ _ hd1,s1 _ _ hd2⟩,pr.same s1,ip,p9,hz.same s1,hm,s1 _ _ hl,by rw[hlen,ft.1],λi t q' e1 e2=>?_,λH2 s2=>⟨true,rfl,eE ⇑0 ?_⟩⟩
 .have hi:i<ps.length:=(b_.mp e2).1;have hci:cs[i]?=some (cs[i]'(by have:=ft.1;show dD hi this)):=aG _;obtain⟨⟨r,rs,tc⟩,_⟩:=hc i t _ e1 hci;obtain⟨f1,f2⟩:=ft.2 i _ _ hci e2;rw[<- f1,<- f2];show⟨r,rs,tc.tab.same s1⟩
 .have s12:=s1.trans s2;have hx2:=s12 _ _ hx;have nzx:z≠x:=fL hz.1 hx (by intro w;cases w);show dc S dx [] ⟨hx2,T.cl_Standing,T.nSg,by show 0<1000;decide,S,dx,_,aw,T.cl_Standing,T.nSd,by have l1:=rS "ground" (.ref g) [];simp at l1;omega,_,.inl (aj.of (by rw[aR nzx,aR nzx];show s12 _ _ hz.1)),λl1 hl1=>?_⟩;have nxl:x≠l1:=bV aw hl1;have f1:H l1=none:=by
   rw[aR nxl.symm,aR nxl.symm] at hl1;show s12.free hl1
  have g1:=rS "ground" (.ref g) [];have g2:=rS "drawing" (.ref d) (bS "ground" (.ref g) []);have g3:=rS "sizes" (.ref l1) (bS "drawing" (.ref d) (bS "ground" (.ref g) []));simp only[tW] at g1;show dc S dx _ ⟨by rw[aR nxl];show aw,T.cl_Standing,T.nSs,∅,?_⟩;have e6:bf x H (ar (ar (ar (ar H2 x (.ins S dx (bS "ground" (.ref g) []))) x (.ins S dx (bS "drawing" (.ref d) (bS "ground" (.ref g) [])))) l1 (.lst (ns.map V.int))) x (.ins S dx (bS "sizes" (.ref l1) (bS "drawing" (.ref d) (bS "ground" (.ref g) []))))):=λb o nb eb=>by
   rw[aR nb,aR (bV eb f1),aR nb,aR nb];show s12 _ _ eb
  have hx6:(ar (ar (ar (ar H2 x (.ins S dx (bS "ground" (.ref g) []))) x (.ins S dx (bS "drawing" (.ref d) (bS "ground" (.ref g) [])))) l1 (.lst (ns.map V.int))) x (.ins S dx (bS "sizes" (.ref l1) (bS "drawing" (.ref d) (bS "ground" (.ref g) []))))) x=some (.ins S dx (bS "sizes" (.ref l1) (bS "drawing" (.ref d) (bS "ground" (.ref g) [])))):=aw;have hl6:(ar (ar (ar (ar H2 x (.ins S dx (bS "ground" (.ref g) []))) x (.ins S dx (bS "drawing" (.ref d) (bS "ground" (.ref g) [])))) l1 (.lst (ns.map V.int))) x (.ins S dx (bS "sizes" (.ref l1) (bS "drawing" (.ref d) (bS "ground" (.ref g) []))))) l1=some (.lst (ns.map V.int)):=by rw[aR nxl.symm];show aw
  generalize ar (ar (ar (ar H2 x (.ins S dx (bS "ground" (.ref g) []))) x (.ins S dx (bS "drawing" (.ref d) (bS "ground" (.ref g) [])))) l1 (.lst (ns.map V.int))) x (.ins S dx (bS "sizes" (.ref l1) (bS "drawing" (.ref d) (bS "ground" (.ref g) []))))=H6 at *;have fr6:∀ b,H6 b=none->H b=none:=λb hb=>by
   cases eb:H b with
   | none=>rfl
   | some o=>
    by_cases nb:b=x
    .rw [nb,hx6] at hb;cases hb
    .rw [e6 b o nb eb] at hb;cases hb
  have hT6:=hT1.extI hx e6;show⟨_,rfl,l,rfl,⟨_,aj.of hT6.1⟩,λD hD=>Ht hT6 hD λts' H7 s7 hD7 hl7 ht7 _=>?_⟩;have hx7:=s7 _ _ hx6;have nDx:D≠x:=λw=>by rw[w,hx6] at hD;cases hD
  show dc S dx _ ⟨hx7,T.cl_Standing,T.nSt,∅,?_⟩;show q l1 D ts' _ (λb o nb eb=>by rw[aR nb];show s7 _ _ (e6 b o nb eb)) aw f1 (fr6 D hD) ⟨by rw[aR nxl.symm];show s7 _ _ hl6,hz.2⟩ (by rw[aR nDx];show hD7) hl7 λi t c e1 e2=>?_;show eW (ht7 i t c e1 e2) λr rs a1 a2 a3 a4=>?_;show aM r rs ⟨a1.extI hx7 (λb o nb eb=>by rw[aR nb];show eb),fr6 t a2,fr6 r a3,λa ha=>fr6 a (a4 a ha)⟩
end
end Pf
set_option maxRecDepth 50000
set_option maxHeartbeats 500000
namespace Pf
open PySem L2 PyProof.Rows
section
variable {C G S:Addr}
theorem fB.ext2 {l:Addr}{H H':Hp}{p hh wd:Int}{t r:Addr}{rs:List Addr}(h:fB H p hh wd t r rs)(b:bw H l)(e:bf l H H')(nr:r≠l)(ns:l∉rs):fB H' p hh wd t r rs:=
 ⟨by obtain⟨ys,hy⟩:=b.lst;show e _ _ (fL h.tup hy (by intro z;cases z)) h.tup,e _ _ nr h.lst,h.len,λa ha=>(h.row a ha).ext b e (λz=>ns (z ▸ ha)),h.nin⟩
theorem cC.ext {l:Addr}{H H':Hp}{p hh wd:Int}{t r:Addr}{rs:List Addr}{M:List (List V)}(h:cC H p hh wd t r rs M)(b:bw H l)(e:bf l H H')(nr:r≠l)(ns:l∉rs):cC H' p hh wd t r rs M:=
 ⟨h.tab.ext2 b e nr ns,λi a ei=>e _ _ (λz=>ns (z ▸ aY ei)) (h.con i a ei)⟩
noncomputable def rowOf (H:Hp)(a:Addr):List V:=match H a with
 | some (.lst xs)=>xs
 | _=>[]
theorem fB.toC {H:Hp}{p hh wd:Int}{t r:Addr}{rs:List Addr}(h:fB H p hh wd t r rs):∃ M,cC H p hh wd t r rs M:=by
 show⟨rs.map (rowOf H),h,λi a e=>?_⟩;rw[aW,bj,e];show ao (h.row a (aY e)) λxs hx _=>?_;change H a=some (.lst (rowOf H a));unfold rowOf;rw[hx]
theorem dw.bag {l:Addr}{H H':Hp}{xs:List V}{ps:List (Int×Int)}(h:dw H xs ps)(b:bw H l)(e:bf l H H'):dw H' xs ps:=
 ⟨h.1,λi x q h1 h2=>by
  show ao (h.2 i x q h1 h2) λt e1 e2=>?_;obtain⟨ys,hy⟩:=b.lst;show⟨t,e1,e _ _ (fL e2 hy (by intro z;cases z)) e2⟩⟩
abbrev Nv:=Int×Int
abbrev Mv:=List (List Nv)
def aA {α β:Type}(P:α->β->Prop)(xs:List α)(ys:List β):Prop:=xs.length=ys.length/\∀ (i:Nat) x y,xs[i]?=some x->ys[i]?=some y->P x y
theorem aA.nil {α β:Type}{P:α->β->Prop}:aA P [] []:=⟨rfl,λi x y e=>by simp at e⟩
theorem aA.take {α β:Type}{P:α->β->Prop}{xs:List α}{ys:List β}(h:aA P xs ys)(n:Nat):aA P (xs.take n) (ys.take n):=⟨by rw[i8,i8,h.1],λi x y e1 e2=>by
 by_cases hi:i<n
 .rw [Cj hi] at e1 e2;show h.2 i x y e1 e2
 .rw [dH (by rw[i8];omega)] at e1;cases e1⟩
theorem aA.drop {α β:Type}{P:α->β->Prop}{xs:List α}{ys:List β}(h:aA P xs ys)(n:Nat):aA P (xs.drop n) (ys.drop n):=⟨by rw[o8,o8,h.1],λi x y e1 e2=>by
 rw[B8] at e1 e2;show h.2 _ x y e1 e2⟩
theorem aA.app {α β:Type}{P:α->β->Prop}{xs xs':List α}{ys ys':List β}(h:aA P xs ys)(h':aA P xs' ys'):aA P (xs++xs') (ys++ys'):=⟨by rw[bN,bN,h.1,h'.1],λi x y e1 e2=>by
 have hl:=h.1;by_cases hi:i<xs.length
 .rw [fq hi] at e1;rw[fq (bM hl hi)] at e2;show h.2 i x y e1 e2
 .rw [fu ∅] at e1 e2;rw[<- hl] at e2;show h'.2 _ x y e1 e2⟩
theorem aA.one {α β:Type}{P:α->β->Prop}{x:α}{y:β}(h:P x y):aA P [x] [y]:=⟨rfl,λi a b e1 e2=>by
 cases i with
 | zero=>cases e1;cases e2;show h
 | succ i=>simp at e1⟩
theorem aA.mono {α β:Type}{P P':α->β->Prop}{xs:List α}{ys:List β}(h:aA P xs ys)(k:∀ x y,P x y->P' x y):aA P' xs ys:=⟨h.1,λi x y e1 e2=>k x y (h.2 i x y e1 e2)⟩
theorem aA.monoM {α β:Type}{P P':α->β->Prop}{xs:List α}{ys:List β}(h:aA P xs ys)(k:∀ x y,x∈xs->P x y->P' x y):aA P' xs ys:=⟨h.1,λi x y e1 e2=>k x y (aY e1) (h.2 i x y e1 e2)⟩
theorem aA.set {α β:Type}{P:α->β->Prop}{xs:List α}{ys:List β}(h:aA P xs ys)(n:Nat){x:α}{y:β}(hp:P x y):aA P (xs.set n x) (ys.set n y):=⟨by rw[dC,dC,h.1],λi a b e1 e2=>by
 rw[wt] at e1 e2;by_cases hi:n=i
 .rw [if_pos hi] at e1 e2;split at e1
  .split at e2
   .cases e1;cases e2;show hp
   .cases e2
  .cases e1
 .rw [if_neg hi] at e1 e2;show h.2 i a b e1 e2⟩
theorem aA.rep {α β:Type}{P:α->β->Prop}{x:α}{y:β}(h:P x y)(n:Nat):aA P (List.replicate n x) (List.replicate n y):=⟨by simp,λi a b e1 e2=>by
 rw[sG] at e1 e2;split at e1
 .rename_i hi
  rw[if_pos hi] at e2;cases e1;cases e2;show h
 .cases e1⟩
theorem aA.at {α β:Type}{P:α->β->Prop}{xs:List α}{ys:List β}(h:aA P xs ys){i:Nat}{y:β}(e:ys[i]?=some y):∃ x,xs[i]?=some x/\P x y:=by
 have hi:i<ys.length:=(b_.mp e).1;have hx:xs[i]?=some (xs[i]'(by have:=h.1;show dD hi this)):=aG _;show⟨_,hx,h.2 i _ y hx e⟩
theorem aA.at' {α β:Type}{P:α->β->Prop}{xs:List α}{ys:List β}(h:aA P xs ys){i:Nat}{x:α}(e:xs[i]?=some x):∃ y,ys[i]?=some y/\P x y:=by
 have hi:i<xs.length:=(b_.mp e).1;have hy:ys[i]?=some (ys[i]'(by have:=h.1;omega)):=aG _;show⟨_,hy,h.2 i x _ e hy⟩
theorem aA.pick {α β:Type}{P:α->β->Prop}:∀ {xs:List α},(∀ x∈xs,∃ y,P x y)->∃ ys,aA P xs ys
 | [],_=>⟨[],aA.nil⟩
 | x::xs,h=>by
  obtain⟨y,hy⟩:=h x (by simp);obtain⟨ys,hys⟩:=aA.pick (xs:=xs) λz hz=>h z (by simp[hz]);show⟨y::ys,(aA.one hy).app hys⟩
def aV (H:Hp)(p:Int)(a:Addr)(xs:List Nv):Prop:=∃ vs,H a=some (.lst vs)/\aA (aF H p) vs xs
theorem aV.same {H H':Hp}{p:Int}{a:Addr}{xs:List Nv}(h:aV H p a xs)(s:aa H H'):aV H' p a xs:=let ⟨vs,h1,h2⟩:=h;⟨vs,s _ _ h1,h2.mono λ_ _ k=>k.same s⟩
theorem aF.put {H:Hp}{D:Addr}{l:List V}{o:HO}{p:Int}{v:V}{x:Nv}(h:aF H p v x)(hD:H D=some (.lst l)):aF (ar H D o) p v x:=by
 by_cases hp:p=0
 .refine ao (h.ref hp) λt e94 ht=>?_;obtain rfl:=e94;show aF.tup hp (by rw[aR (fL ht hD (by intro z;cases z))];show ht)
 .obtain rfl:=h.int hp;show aF.of hp
theorem aV.put {H:Hp}{D:Addr}{l:List V}{o:HO}{p:Int}{a:Addr}{xs:List Nv}(h:aV H p a xs)(hD:H D=some (.lst l))(n:a≠D):aV (ar H D o) p a xs:=let ⟨vs,h1,h2⟩:=h;⟨vs,by rw[aR n];show h1,h2.mono λ_ _ k=>k.put hD⟩
theorem aV.ext {l:Addr}{H H':Hp}{p:Int}{a:Addr}{xs:List Nv}(h:aV H p a xs)(b:bw H l)(e:bf l H H')(n:a≠l):aV H' p a xs:=let ⟨vs,h1,h2⟩:=h;⟨vs,e _ _ n h1,h2.mono λ_ _ k=>k.ext b e⟩
structure cN (H:Hp)(p hh wd:Int)(t r:Addr)(rs:List Addr)(M:Mv):Prop where
 tup:H t=some (.tup [.int hh,.int wd,.ref r])
 lst:H r=some (.lst (rs.map V.ref))
 row:aA (aV H p) rs M
 nin:r∉rs
theorem cN.same {H H':Hp}{p hh wd:Int}{t r:Addr}{rs:List Addr}{M:Mv}(h:cN H p hh wd t r rs M)(s:aa H H'):cN H' p hh wd t r rs M:=⟨s _ _ h.tup,s _ _ h.lst,h.row.mono λ_ _ k=>k.same s,h.nin⟩
theorem cN.put {H:Hp}{D:Addr}{l:List V}{o:HO}{p hh wd:Int}{t r:Addr}{rs:List Addr}{M:Mv}(h:cN H p hh wd t r rs M)(hD:H D=some (.lst l))(nr:r≠D)(ns:D∉rs):cN (ar H D o) p hh wd t r rs M:=
 ⟨by rw[aR (fL h.tup hD (by intro z;cases z))];show h.tup,by rw[aR nr];show h.lst,h.row.monoM λa _ ha k=>k.put hD (λz=>ns (z ▸ ha)),h.nin⟩
theorem cN.ext {l:Addr}{H H':Hp}{p hh wd:Int}{t r:Addr}{rs:List Addr}{M:Mv}(h:cN H p hh wd t r rs M)(b:bw H l)(e:bf l H H')(nr:r≠l)(ns:l∉rs):cN H' p hh wd t r rs M:=
 ⟨e _ _ (λz=>by obtain⟨x,y,hb,_⟩:=b;rw[<- z,h.tup] at hb;cases hb) h.tup,e _ _ nr h.lst,h.row.monoM λa _ ha k=>k.ext b e (λz=>ns (z ▸ ha)),h.nin⟩
def Ke (hh wd:Int)(M:Mv):Prop:=(M.length:Int)=hh/\∀ row∈M,(row.length:Int)=wd
theorem rQ {α:Type}{R:Addr->α->Prop}{rs:List Addr}{xs:List α}(h:aA R rs xs):aA (λv x=>∃ a,v=.ref a/\R a x) (rs.map V.ref) xs:=⟨by rw[aB];show h.1,λi v x e1 e2=>by
 rw[bj] at e1;cases e:rs[i]? with
 | none=>rw[e] at e1;cases e1
 | some a=>rw[e] at e1;cases e1;show⟨a,rfl,h.2 i a x e e2⟩⟩
theorem oS {a D:Addr}{xs:List V}{fr:List (Str×Nat)}{σ:L2.St}{te:TE}{H1:Hp}{Q:VK}(R:Nat->Hp->V->Prop)(hS:∀ {i H H' y},R i H y->aa H H'->R i H' y)(hP:∀ {i H y l o},R i H y->H D=some (.lst l)->R i (ar H D o) y)(ha:H1 a=some (.lst xs))(hD:H1 D=none)(hn:xs.length<=1000)(h:∀ (i:Nat) x H (Q:VK),xs[i]?=some x->aa H1 H->(∃ l,H D=some (.lst l))->(∀ y H',aa H H'->R i H' y->Q y H')->te (some x::cy fr σ) H Q)(hQ:∀ ys H',aa H1 H'->H' D=some (.lst ys)->ys.length=xs.length->(∀ (i:Nat) y,ys[i]?=some y->R i H' y)->Q (.ref D) H'):eZ (bU 0) dh te (jq K a) D (dP 1 fr σ) H1 Q:=by
 show rO (xs:=xs) (λi vs H=>aa H1 H/\H D=some (.lst vs)/\vs.length=i/\∀ (j:Nat) y,vs[j]?=some y->R j H y) ⟨aa.new hD,aw,rfl,λj y e=>by simp at e⟩ (λi vs H _ p=>aj.of (p.1 _ _ ha)) ?_ (λvs H ⟨s,e,hl,hr⟩=>hQ vs H s e hl hr);intro i x vs σ' H hi hx sh e91;show cA e91 λs e hl hr=>?_;clear e91;obtain⟨z,rfl⟩:=sh.one;simp only[gD,bU,dh,List.set_cons_zero,fm];show h i x H _ hx s ⟨_,e⟩ λy H' s' ry=>?_;show gj (ws:=vs++[y]) hi Sh.mk1 (s' _ _ e) (cT ∅) ⟨(s.trans s').upd hD,aw,by rw[bN,hl];rfl,λj u hu=>?_⟩;by_cases hj:j<vs.length
 .rw [fq hj] at hu;show hP (hS (hr j u hu) s') (s' _ _ e)
 .rw [fu (d8 hj)] at hu;have hj0:j-vs.length=0:=by
   by_cases z:j-vs.length=0
   .exact z
   .rw [dH (by simp;show oz7 z)] at hu;cases hu
  rw[hj0] at hu;cases hu;rw[show j=i by show oz2 hl hj hj0];show hP ry (s' _ _ e)
theorem z_ {lo:Int}{n:Nat}{D:Addr}{fr:List (Str×Nat)}{σ:L2.St}{te:TE}{H1:Hp}{Q:VK}(R:Nat->Hp->V->Prop)(hS:∀ {i H H' y},R i H y->aa H H'->R i H' y)(hP:∀ {i H y l o},R i H y->H D=some (.lst l)->R i (ar H D o) y)(hD:H1 D=none)(hn:n<=1000)(h:∀ (i:Nat) H (Q:VK),i<n->aa H1 H->(∃ l,H D=some (.lst l))->(∀ y H',aa H H'->R i H' y->Q y H')->te (some (.int (lo+(i:Nat)))::cy fr σ) H Q)(hQ:∀ ys H',aa H1 H'->H' D=some (.lst ys)->ys.length=n->(∀ (i:Nat) y,ys[i]?=some y->R i H' y)->Q (.ref D) H'):eZ (bU 0) dh te (ja lo n) D (dP 1 fr σ) H1 Q:=by
 show vC (n:=n) (λi vs H=>aa H1 H/\H D=some (.lst vs)/\vs.length=i/\∀ (j:Nat) y,vs[j]?=some y->R j H y) ⟨aa.new hD,aw,rfl,λj y e=>by simp at e⟩ ?_ (λvs H ⟨s,e,hl,hr⟩=>hQ vs H s e hl hr);intro i x vs σ' H hi e92;obtain rfl:=e92;intro sh e93;show cA e93 λs e hl hr=>?_;clear e93;obtain⟨z,rfl⟩:=sh.one;simp only[gD,bU,dh,List.set_cons_zero,fm];show h i H _ hi s ⟨_,e⟩ λy H' s' ry=>?_;show gj (ws:=vs++[y]) hi Sh.mk1 (s' _ _ e) (cT ∅) ⟨(s.trans s').upd hD,aw,by rw[bN,hl];rfl,λj u hu=>?_⟩;by_cases hj:j<vs.length
 .rw [fq hj] at hu;show hP (hS (hr j u hu) s') (s' _ _ e)
 .rw [fu (d8 hj)] at hu;have hj0:j-vs.length=0:=by
   by_cases z:j-vs.length=0
   .exact z
   .rw [dH (by simp;show oz7 z)] at hu;cases hu
  rw[hj0] at hu;cases hu;rw[show j=i by show oz2 hl hj hj0];show hP ry (s' _ _ e)
theorem zo {ys:List V}{g:Nat->Int}{n:Nat}(hl:ys.length=n)(h:∀ (i:Nat) y,ys[i]?=some y->y=.int (g i)):ys=((List.range n).map g).map V.int:=by
 apply BI;intro i;by_cases hi:i<n
 .rw [aG (oz8 hl hi),h i _ (aG (oz8 hl hi)),bj,bj,gB hi];rfl
 .rw [dH ∅,dH (by simp;show d8 hi)]
theorem vt {P:Nat->Addr->Prop}:∀ {ys:List V},(∀ (i:Nat) y,ys[i]?=some y->∃ b,y=.ref b/\P i b)->∃ bs:List Addr,ys=bs.map V.ref/\∀ (i:Nat) b,bs[i]?=some b->P i b:=by
 intro ys
 induction ys generalizing P with
 | nil=>show λ_=>⟨[],rfl,λi b e=>by simp at e⟩
 | cons y ys ih=>
  intro h;show ao (h 0 y rfl) λb e97 hb=>?_;obtain rfl:=e97;show ao (ih (P:=λi b=>P (i+1) b) λi u e=>h (i+1) u (by simpa using e)) λbs e98 hbs=>?_;obtain rfl:=e98;show⟨b::bs,rfl,λi u e=>by
   cases i with
   | zero=>cases e;show hb
   | succ i=>show hbs i u (by simpa using e)⟩
theorem zI {D:Addr}{H1 H':Hp}{p:Int}{M:Mv}{ys:List V}(hl:ys.length=M.length)(h:∀ (i:Nat) y,ys[i]?=some y->∃ a,y=.ref a/\aV H' p a (M.getD i [])/\a≠D/\H1 a=none):∃ rs:List Addr,ys=rs.map V.ref/\aA (aV H' p) rs M/\D∉rs/\∀ a∈rs,H1 a=none:=by
 show ao (vt (P:=λi a=>aV H' p a (M.getD i [])/\a≠D/\H1 a=none) h) λrs e99 hr=>?_;obtain rfl:=e99;rw[aB] at hl;show⟨rs,rfl,⟨hl,λi a xs e1 e2=>?_⟩,λz=>?_,λa ha=>?_⟩
 .have:=(hr i a e1).1;rwa [aW,e2] at this
 .obtain ⟨j,hj,e⟩:=dZ.mp z;show (hr j D (by rw[aG hj,e])).2.1 rfl
 .obtain ⟨j,hj,rfl⟩:=dZ.mp ha;show (hr j _ (aG hj)).2.2
structure fZ (H:Hp)(t r:Addr)(rs:List Addr):Prop where
 t:H t=none
 r:H r=none
 rs:∀ a∈rs,H a=none
def DX:Sp:=λvs H Q _=>∃ (p hh wd:Int) (t r:Addr) (rs:List Addr) (M:Mv),vs=[.ref t]/\cN H p hh wd t r rs M/\M.length<=200/\∀ (t' r':Addr) (rs':List Addr) (H':Hp),aa H H'->fZ H t' r' rs'->cN H' p hh wd t' r' rs' M->Q (.ref t') H'
theorem mq (F:⇑("_law_copy",AD))(T:⇑()):⇑[1,["_law_table_here"],DX]:=by
 exists Js,uT,7
 show sT h λp hh wd t r rs M e92 tb ml q=>?_;clear h;subst e92;have hln:=tb.row.1;show⟨_,(~~~(@bQ _ _ _ _ _ (((cP bq)<|>(ae 0)<||>aq)<&>(((cP bq)<|>(ae 0)<||>aq)<&>((dR (own:=["_law_row"]) (fr:=[]) rfl (cW (by kernel_rfl)) (eJ (bq<|>(pv 0)<||>aq)) (λ_ _ _ _=>⟨(0<<<["_law_row"]),df,(ku (FJ K rfl) rfl T.n_list j7 ((pv 0)<&>ah))⟩))<&>ah))))),?_⟩;left;show⟨_,aE.of tb.tup,_,rfl,_,aE.of tb.tup,_,rfl,?_⟩;show⟨_,rfl,t,_,2,_,rfl,rfl,aE.of tb.tup,rfl,r,rfl,⟨_,aj.of tb.lst⟩,λD hD=>?_⟩;show oS (λi Hc y=>∃ a,y=.ref a/\aV Hc p a (M.getD i [])/\a≠D/\H a=none) (λ⟨a,e,b,c⟩ s=>⟨a,e,b.same s,c⟩) (λ⟨a,e,b,c,d⟩ hD=>⟨a,e,b.put hD c,c,d⟩) tb.lst hD (by rw[aB];omega) (λi x H' Q' hx s' ⟨lD,hlD⟩ q'=>?_) (λys H' s' h' hyl hys=>?_)
 .refine ao ((rQ tb.row).at' hx) λrow er e93=>?_;obtain⟨a,rfl,vs,h1,h2⟩:=e93;show⟨_,rfl,_,rfl,vs,.inl (aj.of (s' _ _ h1)),λc hc=>?_⟩;have sc:=s'.trans (aa.new (o:=.lst vs) hc);show q' _ _ (aa.new hc) ⟨c,rfl,⟨vs,aw,by rw[cw er];show h2.mono λ_ _ k=>k.same sc⟩,(bV hlD hc).symm,s'.free hc⟩
 .rw [aB] at hyl;show uO (zI (D:=D) (H1:=H) (p:=p) (M:=M) (oz17 hln hyl) hys) λrs' e94 a2 nD fr=>?_;obtain rfl:=e94;show⟨by show 3<=sizeLine;decide,λt' ht'=>?_⟩;have s2:=aa.new (o:=.tup [.int hh,.int wd,.ref D]) ht';show q t' D rs' _ (s'.trans s2) ⟨s'.free ht',hD,fr⟩ ⟨aw,s2 _ _ h',a2.mono λ_ _ k=>k.same s2,nD⟩
abbrev Tv:=Int×Int×Mv
noncomputable abbrev t0:Tv:=(0,0,[])
abbrev hF (cs:List Tv)(i:Nat):Int:=(cs.getD i t0).1
abbrev wF (cs:List Tv)(i:Nat):Int:=(cs.getD i t0).2.1
noncomputable abbrev mF (cs:List Tv)(i:Nat):Mv:=(cs.getD i t0).2.2
theorem zZ {a D:Addr}{xs:List V}{fr:List (Str×Nat)}{σ:L2.St}{te:TE}{H1:Hp}{Q:VK}(g:Nat->Int)(ha:H1 a=some (.lst xs))(hD:H1 D=none)(hn:xs.length<=1000)(h:∀ (i:Nat) x H (Q:VK),xs[i]?=some x->aa H1 H->(∀ H',aa H H'->Q (.int (g i)) H')->te (some x::cy fr σ) H Q)(hQ:∀ H',aa H1 H'->H' D=some (.lst (((List.range xs.length).map g).map V.int))->Q (.ref D) H'):eZ (bU 0) dh te (jq K a) D (dP 1 fr σ) H1 Q:=
 oS (λi _ y=>y=.int (g i)) (λr _=>r) (λr _=>r) ha hD hn (λi x H Q hx s _ k=>h i x H Q hx s λH' s'=>k _ H' s' rfl) (λys H' s e hl hr=>hQ H' s (by rw[e,zo hl hr]))
structure Kl (cs:List Tv):Prop where
 few:cs.length<=9
 bd:∀ i,i<cs.length->0<=hF cs i/\hF cs i<=24/\0<=wF cs i/\wF cs i<=24/\Ke (hF cs i) (wF cs i) (mF cs i)
structure Kc (H:Hp)(p:Int)(a:Addr)(ts:List Addr)(cs:List Tv):Prop where
 lst:H a=some (.lst (ts.map V.ref))
 tab:aA (λt c=>∃ r rs,cN H p c.1 c.2.1 t r rs c.2.2) ts cs
end
end Pf
namespace Pf
open PySem L2 L3 PyProof.Rows
section
variable {C G S:Addr}
noncomputable def nrS (a b:Int):Int×Int:=if b<0 then nrm (-a) (-b) else nrm a b
theorem qF {a b:Int}(h:b≠0):((a.fdiv (if b<0 then -(Int.gcd a b:Int) else (Int.gcd a b:Int)),b.fdiv (if b<0 then -(Int.gcd a b:Int) else (Int.gcd a b:Int))):Int×Int)=nrS a b:=by
 unfold nrS nrm;by_cases hb:b<0
 .simp only [if_pos hb];have e1:∀ z g:Int,z.fdiv (-g)=(-z).fdiv g:=λz g=>by rw[<- Int.neg_fdiv_neg (-z) g,Int.neg_neg]
  have e2:Int.gcd (-a) (-b)=Int.gcd a b:=by rw[Int.gcd_neg,Int.neg_gcd]
  rw[e1,e1,e2,sI _ ∅,sI _ ∅]
 .simp only [if_neg hb];rw[sI _ ∅,sI _ ∅]
def zS:Sp:=λvs H Q _=>∃ a b:Int,vs=[.int a,.int b]/\Bt NB a/\Bt NB b/\b≠0/\∀ t H',aa H H'->H' t=some (.tup [.int (nrS a b).1,.int (nrS a b).2])->Q (.ref t) H'
theorem Gy (F:⇑("fraction",Aw))(T:⇑())(hpt:P.given.tree=none)(Yaf:⇑("common_divisor",4,sW)):⇑[5,["top","bottom"],zS]:=by
 exists Jm,cE,2
 show kA h λa b e93 ha hb b0 q=>?_;clear h;subst e93;show⟨_,((@bI _ _ _ _ _ _ _ _ (bX (sP dI) (ae 1) aq (bo _)) (@bE _ _ _ kI) bJ)<*>((2|||nd|||(Yaf<$>hr<$>((ae 0)<&>((ae 1)<&>ah))))<*>((@bI _ _ _ _ _ _ _ _ (bX (g7 jS) (ae 1) aq (bo _)) (@bE _ _ _ (2|||nd|||(gm gp (ae 2)))) bJ)<*>(~~~(@bQ _ _ _ _ _ (((jz hpt (jA hr))<|>(ae 0)<&&>(ae 2))<&>(((jz hpt (jA hr))<|>(ae 1)<&&>(ae 2))<&>ah))))))),?_⟩;left;have eE:∀ {c A B:Prop} [Decidable c],¬ c->B->if c then A else B:=λhc h=>by rw[if_neg hc];show h
 show eE (by rw[d6 b0];decide) ⟨a,b,rfl,ha,hb,λH1 s1=>?_⟩;have g0:0<Int.gcd a b:=Cc _ b0;have e:=qF (a:=a) b0;show bH (λhc=>?_) (λhc=>?_)
 .have hc:=fc hc;rw[if_pos hc] at e;show⟨_,rfl,∅,∅,⇑0,λt ht=>q t _ (s1.trans (aa.new ht)) ?_⟩;rw[aw,<- e]
 .have hc:¬ b<0:=λz=>hc (cf z);rw[if_neg hc] at e;show⟨_,rfl,∅,_,rfl,∅,⇑0,λt ht=>q t _ (s1.trans (aa.new ht)) ?_⟩;rw[aw,<- e]
theorem Ib {b p:Int}(hp:jU p)(h0:0<b)(h1:b<p):Int.gcd b p=1:=by
 have hd1:((Int.gcd b p:Nat):Int) ∣ b:=jj b p;have hd2:((Int.gcd b p:Nat):Int) ∣ p:=ke b p;have hle:=Int.le_of_dvd h0 hd1;have hpos:0<Int.gcd b p:=Int.gcd_pos_of_ne_zero_left _ ∅;by_cases h:Int.gcd b p=1
 .exact h
 .exact absurd (Int.emod_eq_zero_of_dvd hd2) (hp.2.2 _ ∅ ∅)
theorem mR {p z b c:Int}(h:p ∣ z*b-c):(z % p*b) % p=c % p:=by
 obtain⟨k,hk⟩:=h;have e:z % p*b=c+p*(k-z / p*b):=by rw[Int.emod_def];grind
 rw[e,Int.add_mul_emod_self_left]
theorem Eo {a b:Int}(ha:1<=a)(hb:0<=b):b<=a*b:=by
 have:=Ck ha hb;omega
theorem uJ {x:Int}(h:x.natAbs<=97):Bt 7 x:=jm h ⇑0
def spInv:Sp:=λvs H Q _=>∃ b p:Int,vs=[.int b,.int p]/\jU p/\0<b/\b<p/\∀ r H',aa H H'->0<=r->r<p->(r*b) % p=1->Q (.int r) H'
theorem qo (F:⇑("inverse",Ad))(T:⇑()):⇑[1,["rest","prime"],spInv]:=by
 exists Jd,cE,2
 show kA h λb p e95 hp b0 b1 q=>?_;clear h;subst e95;have p1:=hp.1;have p97:=hp.2.1;show⟨_,((td (i:=2) (j:=3) rfl nd rfl rfl ⇑0 rfl rfl ((ae 0)<&>((ae 1)<&>ah)) rfl)<*>((d9 (@bQ _ _ _ _ _ (aq<&>(aq<&>ah))) (@dY _ _ _ _ _ 2 rfl ((4>>>nd)^^^((5>>>nd)^^^(@cU _))) ⇑1 ⇑1))<*>((vH cX (iI gF (pv 2) aq (bo _)) ((6|||nd|||((opJ xx)<|>(ae 3)<&&>(ae 2)))<*>((td (i:=2) (j:=3) rfl nd rfl rfl ⇑0 rfl rfl (((g7 iG)<|>(ae 3)<&&>((opJ eH)<|>(ae 6)<&&>(ae 2)))<&>((ae 2)<&>ah)) rfl)<*>(@bE _ _ _ (td (i:=4) (j:=5) rfl nd rfl rfl ⇑0 rfl rfl (((g7 iG)<|>(ae 5)<&&>((opJ eH)<|>(ae 6)<&&>(ae 4)))<&>((ae 4)<&>ah)) rfl)))))<*>(~~~((opJ fY)<|>(ae 4)<&&>(ae 1)))))),?_⟩;left;show aM _ _ ⟨⟨rfl,rfl⟩,⇑0,λt ht=>⟨_,aE.of aw,rfl,_,_,rfl,_,_,rfl,rfl,?_⟩⟩;show⟨λn σ H2=>∃ (lo hi lt ht':Int) (o:Option V),σ=[⇑b,⇑p,⇑lo,⇑hi,⇑lt,⇑ht',o]/\H2=ar H t (.tup [V.int 1,V.int 0])/\n=lo.toNat/\1<=lo/\lo<hi/\hi<=p/\Int.gcd lo hi=1/\p ∣ lt*b-lo/\p ∣ ht'*b-hi /\
   ∃ u v:Int,0<=u/\0<=v/\lo*v+hi*u=p/\((lt=u/\ht'=-v)\/(lt=-u/\ht'=v)),
  ⟨_,b,p,1,0,none,rfl,rfl,rfl,∅,b1,tT _,Ib hp b0 b1,⟨0,∅⟩,⟨-1,∅⟩,1,0,⇑0,⇑0,∅,.inl ⟨rfl,rfl⟩⟩,?_⟩
 intro n σ H2 e91;show iE e91 λlo hi lt ht' o e96 e97 e98 e99=>?_;clear e91;obtain rfl:=e96;obtain rfl:=e97;obtain rfl:=e98;show uN e99 λl1 l2 l3 hg d1 d2 e910=>?_;clear e99;obtain⟨u,v,u0,v0,huv,hs⟩:=e910;left;show bH (λhc=>?_) (λhc=>?_)
 .have hc:=fc hc;have hm:hi-hi / lo*lo=hi % lo:=by rw[Int.emod_def,rY lo]
  have m0:0<=hi / lo:=yf ∅ ∅;have m1:hi / lo<=hi:=Int.ediv_le_self _ ∅;have r0:=gO hi (show lo≠0 by omega);have r1:=gA hi (show 0<lo by show iC hc);have hg':Int.gcd (hi % lo) lo=1:=by rw[v_,EJ,v_];show hg
  have r2:1<=hi % lo:=by
   by_cases z:hi % lo=0
   .rw [z,Int.zero_gcd] at hg';omega
   .omega
  have u1:=Eo (a:=hi) ∅ u0;have v1:=Eo (a:=lo) ∅ v0;have um:u<=97:=∅
  have vm:v<=97:=∅
  have e3:(hi-hi / lo*lo)*u+lo*(v+hi / lo*u)=p:=by rw[<- huv];grind
  have mu:0<=hi / lo*u:=su m0 u0;show⟨_,λ_ _ h=>h,⟨iC hc,oz56 p97 l2 l3⟩,(uJ (oz16 p97 l3 m0 m1)).ok (uJ (oz44 p97 l2 l3 hc)) ⇑0,_,_,⟨rfl,rfl⟩,(uJ (oz16 p97 l3 m0 m1)).ok (uJ (by rcases hs with ⟨h,_⟩|⟨h,_⟩ <;> omega)) ⇑0,_,_,⟨rfl,rfl⟩,(hi % lo).toNat,∅,
   hi-hi / lo*lo,lo,ht'-hi / lo*lt,lt,_,rfl,rfl,by rw[hm],by rw[hm];show r2,by rw[hm];show r1,oz29 l2 l3,by rw[hm];show hg',?_,d1,v+hi / lo*u,∅,u,u0,e3,?_⟩
  .have e:(ht'-hi / lo*lt)*b-(hi-hi / lo*lo)=(ht'*b-hi)-hi / lo*(lt*b-lo):=by grind
   rw[e];show Int.dvd_sub d2 (Int.dvd_mul_of_dvd_right d1)
  .rcases hs with ⟨h1,h2⟩|⟨h1,h2⟩
   .subst h1 h2;show .inr ⟨by grind,rfl⟩
   .subst h1 h2;show .inl ⟨by grind,rfl⟩
 .have hc:¬ 1<lo:=λz=>hc (cf z);have hl:lo=1:=∅
  subst hl;show⟨iC p1,q _ _ (aa.new ht) (gO _ ∅) (gA _ (iC p1)) ?_⟩;rw[mR d1,kP ⇑0 p1]
def EX:Sp:=λvs H Q E=>∃ a b p:Int,vs=[.int a,.int b,.int p]/\jU p/\Bt NB a/\b % p≠0/\∀ r H',aa H H'->0<=r->r<p->(r*b-a) % p=0->Q (.int r) H'
theorem GG (F:⇑("rest_of",Al))(T:⇑())(Ya6:⇑("inverse",1,spInv)):⇑[2,["top","bottom","prime"],EX]:=by
 exists Jl,fU,3
 show cK h λa b p e912 hp ha e913=>?_;clear h;subst e912;obtain⟨hb,q⟩:=e913;have p1:=hp.1;have p97:=hp.2.1;have b0:=gO b (show p≠0 by omega);have b1:=gA b (show 0<p by show iC p1);show⟨_,((3|||nd|||((opJ fY)<|>(ae 1)<&&>(ae 2)))<*>((@bI _ _ _ _ _ _ _ _ (bX (sP dI) (ae 3) aq (bo _)) (@bE _ _ _ kI) bJ)<*>(~~~(fY<|>(eH<|>(ae 0)<&&>(Ya6<$>hr<$>((ae 3)<&>((ae 2)<&>ah))))<&&>(ae 2))))),?_⟩;left;have eE:∀ {c A B:Prop} [Decidable c],¬ c->B->if c then A else B:=λhc h=>by rw[if_neg hc];show h
 show⟨iC p1,eE (by rw[d6 hb];decide) ?_⟩;show aM _ p ⟨rfl,hp,∅,b1,λr H' s' r0 r1 hr1=>⟨r,rfl,ha.ok (uJ ∅) ⇑0,iC p1,q _ H' s' (gO _ ∅) (gA _ (iC p1)) ?_⟩⟩;have k1:p ∣ r*(b % p)-1:=Int.dvd_of_emod_eq_zero (by rw[Int.sub_emod,hr1,kP ⇑0 p1];rfl);obtain⟨k,hk⟩:=k1;have e:(a*r % p)*b-a=p*(a*k+a*r*(b / p)-a*r / p*b):=by
  rw[Int.emod_def] at hk ⊢
  grind
 rw[e,Int.mul_emod_right]
structure wJ (p a b:Int)(x:Int×Int):Prop where
 is:bc p x
 fd:∀ (F:Type) [Lean.Grind.Field F],aK p F->(nm x:F)=ic a / ic b
 bt:∀ n:Nat,7<=n->Bt n a->Bt n b->Bt n x.1/\Bt n x.2
theorem En {a b:Int}(b0:b≠0):wJ 0 a b (nrS a b):=by
 have key:∀ a b:Int,0<b->wJ 0 a b (nrm a b):=λa b h=>by
  show⟨.inl ⟨rfl,?_⟩,λF _ hF=>hF.nrmF rfl h,λn _ ha hb=>?_⟩
  .exact DE h
  .have g0:=rP (a:=a) h;show⟨ha.quo (jj ..),hb.quo (ke ..)⟩
 unfold nrS;by_cases h:b<0
 .rw [if_pos h];obtain⟨h1,h2,h3⟩:=key (-a) (-b) ∅;show⟨h1,λF _ hF=>?_,λn h7 ha hb=>h3 n h7 ha.neg hb.neg⟩;rw[h2 F hF,xh,xh];have:(ic b:F)≠0:=hF.ne0 (.inl rfl) b0
  grind
 .rw [if_neg h];show key a b ∅
theorem HP {p a b r:Int}(hp:jU p)(hb:b % p≠0)(r0:0<=r)(r1:r<p)(h:(r*b-a) % p=0):wJ p a b (r,1):=by
 have p1:=hp.1;have p97:=hp.2.1;show⟨.inr ⟨iC p1,r0,r1,rfl⟩,λF _ hF=>?_,λn h7 _ _=>⟨dF h7 (by show r.natAbs<128;omega),dF h7 (by show (1:Int).natAbs<128;decide)⟩⟩;have e1:(ic b:F)≠0:=by
  rw[<- hF.modF ∅];show hF.ne0 (.inr ⟨gO _ ∅,gA _ (iC p1)⟩) hb
 have e2:(ic (r*b-a):F)=0:=by rw[<- hF.modF ∅,h,oP]
 rw[vo,eN] at e2;rw[hF.one]
 grind
def zb (G:Addr):Sp:=λvs H Q _=>∃ (g:Addr) (p a b:Int),vs=[.ref g,.int a,.int b]/\fh G H g p/\af p/\Bt NB a/\Bt NB b/\(p=0->b≠0)/\(p≠0->b % p≠0)/\∀ v x H',aa H H'->aF H' p v x->wJ p a b x->Q v H'
theorem lZ {f D:Addr}{fd:FuncData}(F:og K "number" "Ground.number" jB f fd D)(T:⇑())(Yas:⇑("fraction",5,zS))(Ybl:⇑("rest_of",2,EX)):⇑[6,["self","top","bottom"],zb G]:=by
 exists JX,nI,4
 show cZ h λg p a b e915 e916 hp e917=>?_;clear h;subst e915;obtain⟨dx,hg⟩:=e916;show dj e917 λha hb h0 h1 q=>?_;clear e917;show⟨_,((@bI _ _ _ _ _ _ _ _ (bX dI (eI (ae 0) rfl) aq (bo _)) (~~~(Yas<$>hr<$>((ae 1)<&>((ae 2)<&>ah)))) bJ)<*>(~~~(Ybl<$>hr<$>((ae 1)<&>((ae 2)<&>((eI (ae 0) rfl)<&>ah)))))),?_⟩;left;show dc G dx _ ⟨hg,T.cl_Ground,T.nP,_,jZ p,rfl,bH (λhc=>?_) (λhc=>?_)⟩
 .have hp0:p=0:=by simpa using hc
  subst hp0;show aM a b ⟨rfl,ha,hb,h0 rfl,λt H' s' ht=>q _ _ _ s' (aF.tup rfl ht) (En (h0 rfl))⟩
 .have hp0:¬ p=0:=by simpa using hc
  have hp1:jU p:=hp.resolve_left hp0;show dc G dx _ ⟨hg,T.cl_Ground,T.nP,_,jZ p,a,b,p,rfl,hp1,ha,h1 hp0,λr H' s' r0 r1 hr=>q _ (r,1) H' s' (aF.of (x:=(r,1)) hp0) (HP hp1 (h1 hp0) r0 r1 hr)⟩
def spCmB:Sp:=λvs H Q _=>∃ a b:Int,vs=[.int a,.int b]/\0<a/\0<b/\Bt NB a/\Bt NB b/\∀ m H',aa H H'->0<m->a ∣ m->b ∣ m->m<=a*b->Q (.int m) H'
theorem qv (F:⇑("common_multiple",Bq))(T:⇑())(hpt:P.given.tree=none)(Yaf:⇑("common_divisor",4,sW)):⇑[5,["one","other"],spCmB]:=by
 exists J6,cE,2
 show gE h λa b e919 ha hb ta tb q=>?_;clear h;subst e919;show⟨_,(~~~(eH<|>((jz hpt (jA hr))<|>(ae 0)<&&>(Yaf<$>hr<$>((ae 0)<&>((ae 1)<&>ah))))<&&>(ae 1))),?_⟩;left;have g0:=rP (a:=a) hb;have e1:a / (Int.gcd a b:Int)*(Int.gcd a b:Int)=a:=n_ (jj ..);obtain⟨k,hk⟩:(Int.gcd a b:Int) ∣ b:=ke ..;have dpos:0<a / (Int.gcd a b:Int):=by
  rcases B5 0 (a / (Int.gcd a b:Int)) with h|h|h
  .exact h
  .rw [<- h,Int.zero_mul] at e1;omega
  .have:=Int.mul_neg_of_neg_of_pos h g0;omega
 have bd:Bt NB (a / (Int.gcd a b:Int)):=ta.quo (jj ..);have dle:(a / (Int.gcd a b:Int)).natAbs<=a.natAbs:=FK a g0 (jj ..);show aM a b ⟨rfl,ta,tb,λH' s'=>⟨_,rfl,∅,?_⟩⟩;rw[kF g0];show⟨bd.ok tb ⇑0,q _ _ s' (kN dpos hb) ⟨k,?_⟩ ⟨_,rY ..⟩ (Ck ∅ ∅)⟩;generalize (Int.gcd a b:Int)=g at *;generalize a / g=d at *;rw[hk,<- e1,Int.mul_assoc]
abbrev HB:Nat:=33500000
def bO (H:Hp)(a:Addr)(zs:List Int):Prop:=H a=some (.lst (zs.map V.int))
theorem bO.same {H H':Hp}{a:Addr}{zs:List Int}(h:bO H a zs)(s:aa H H'):bO H' a zs:=s _ _ h
theorem bO.put {H:Hp}{D:Addr}{o:HO}{a:Addr}{zs:List Int}(h:bO H a zs)(n:a≠D):bO (ar H D o) a zs:=by unfold bO;rw[aR n];show h
theorem xO {a b D:Addr}{xs ys:List V}{fr:List (Str×Nat)}{σ:L2.St}{te:TE}{H1:Hp}{Q:VK}(R:Nat->Hp->V->Prop)(hS:∀ {i H H' y},R i H y->aa H H'->R i H' y)(hP:∀ {i H y l o},R i H y->H D=some (.lst l)->R i (ar H D o) y)(ha:H1 a=some (.lst xs))(hb:H1 b=some (.lst ys))(hlen:ys.length=xs.length)(hD:H1 D=none)(hn:xs.length<=1000)(h:∀ (i:Nat) x y H (Q:VK),xs[i]?=some x->ys[i]?=some y->aa H1 H->(∃ l,H D=some (.lst l))->(∀ u H',aa H H'->R i H' u->Q u H')->te (some x::some y::cy fr σ) H Q)(hQ:∀ zs H',aa H1 H'->H' D=some (.lst zs)->zs.length=xs.length->(∀ (i:Nat) y,zs[i]?=some y->R i H' y)->Q (.ref D) H'):eZ (iV K 2 (g_ (bU 0) (g_ (bU 1) jw))) dh te (pf K a b) D (dP 2 fr σ) H1 Q:=by
 show xF (xs:=xs) (ys:=ys) (λi vs H=>aa H1 H/\H D=some (.lst vs)/\vs.length=i/\∀ (j:Nat) y,vs[j]?=some y->R j H y) hlen ⟨aa.new hD,aw,rfl,λj y e=>by simp at e⟩ (λi vs H _ p=>⟨aj.of (p.1 _ _ ha),aj.of (p.1 _ _ hb)⟩) ?_ (λvs H ⟨s,e,hl,hr⟩=>hQ vs H s e hl hr);intro i x y p vs σ' H hi hx hy hp sh e91;show cA e91 λs e hl hr=>?_;clear e91;show eV sh.two λz1 z2 e96=>?_;obtain rfl:=e96;have s0:=aa.new (o:=.tup [x,y]) hp;show aM p _ ⟨rfl,aE.of aw,rfl,_,_,rfl,_,_,rfl,rfl,?_⟩;simp only[dh,List.set_cons_zero,List.set_cons_succ,fm];show h i x y _ _ hx hy (s.trans s0) ⟨_,s0 _ _ e⟩ λu H' s' ru=>?_;have s1:=s0.trans s';show gj (ws:=vs++[u]) hi Sh.mk2 (s1 _ _ e) (cT ∅) ⟨(s.trans s1).upd hD,aw,by rw[bN,hl];rfl,λj v hv=>?_⟩;by_cases hj:j<vs.length
 .rw [fq hj] at hv;show hP (hS (hr j v hv) s1) (s1 _ _ e)
 .rw [fu (d8 hj)] at hv;have hj0:j-vs.length=0:=by
   by_cases z:j-vs.length=0
   .exact z
   .rw [dH (by simp;show oz7 z)] at hv;cases hv
  rw[hj0] at hv;cases hv;rw[show j=i by show oz2 hl hj hj0];show hP ru (s1 _ _ e)
theorem Hm {H:Hp}{p:Int}{vs:List V}{xs:List Nv}(hp:p≠0)(h:aA (aF H p) vs xs):vs=(xs.map λx=>x.1).map V.int:=by
 apply BI;intro i;have hl:=h.1;by_cases hi:i<vs.length
 .have e2:xs[i]?=some (xs[i]'(by omega)):=aG _;have:=(h.2 i _ _ (aG hi) e2).int hp;rw[aG hi,this,bj,bj,e2];rfl
 .rw [dH (d8 hi),dH (by simp;omega)]
structure vQ (p:Int)(xs:List Nv)(zs:List Int)(b:Int):Prop where
 len:zs.length=xs.length
 pos:0<b
 one:p≠0->b=1
 eq:∀ i,zs.getD i 0*(xs.getD i (0,1)).2=(xs.getD i (0,1)).1*b
def aH (p:Int)(k:Nat)(xs:List Nv):Prop:=∀ x∈xs,bc p x/\Bt k x.1/\Bt k x.2
def spWrZ (G:Addr):Sp:=λvs H Q _=>∃ (g a:Addr) (p:Int) (xs:List Nv) (k:Nat),vs=[.ref g,.ref a]/\fh G H g p/\af p/\aV H p a xs/\xs.length<=900/\aH p k xs/\1<=k/\(xs.length+1)*k<=NB /\
 ∀ (t l:Addr) (zs:List Int) (b:Int) H',aa H H'->H l=none->H' t=some (.tup [.ref l,.int b])->bO H' l zs->vQ p xs zs b->aP ((xs.length+1)*k) zs->Bt ((xs.length+1)*k) b->Q (.ref t) H'
theorem p_ (F:⇑("whole_row",AH))(T:⇑())(hpt:P.given.tree=none)(Yb2:⇑("common_multiple",5,spCmB)):⇑[6,["ground","row"],spWrZ G]:=by
 exists JD,uQ,5
 show iE h λg a p xs k e98 e99 hp e910=>?_;clear h;subst e98;obtain⟨dx,hg⟩:=e99;show gn e910 λe911 xl gd k1 kb q=>?_;clear e910;obtain⟨vs,hv,al⟩:=e911;have vl:=al.1;show⟨_,((@bI _ _ _ _ _ _ _ _ (bX fW (eI (ae 0) rfl) aq (bo _)) (~~~(@bQ _ _ _ _ _ ((ku vP rfl T.n_list j7 ((ae 1)<&>ah))<&>(aq<&>ah)))) bJ)<*>((gs (i:=2) nd rfl (Or.inr rfl) aq)<*>((dt cX rfl (eJ (pv 1)) (3>>>nd) (@bE _ _ _ (gs (i:=2) nd rfl (Or.inr rfl) (Yb2<$>hr<$>((ae 2)<&>(((cP bq)<|>(ae 3)<||>aq)<&>ah))))))<*>(~~~(@bQ _ _ _ _ _ ((dR (own:=["number"]) (fr:=[("bottom",2)]) rfl (cW (by kernel_rfl)) (eJ (pv 1)) (λ_ _ _ _=>⟨(0<<<["number","bottom"]),df,(eH<|>((zq K rfl)<|>(pv 0)<||>aq)<&&>((jz hpt (jA hr))<|>(pv 1)<&&>((zq K rfl)<|>(pv 0)<||>aq)))⟩))<&>((ae 2)<&>ah))))))),?_⟩;left;show dc G dx _ ⟨hg,T.cl_Ground,T.nP,_,jZ p,rfl,bH (λhc=>?_) (λhc=>?_)⟩
 .have hp0:¬ p=0:=by simpa using hc
  show⟨_,.inl (aj.of hv),λl hl=>⟨⇑0,λt ht=>?_⟩⟩;have s1:=aa.new (o:=.lst vs) hl;have s2:=aa.new (o:=.tup [V.ref l,V.int 1]) ht;have ev:=Hm hp0 al;show q t l (xs.map λx=>x.1) 1 _ (s1.trans s2) hl aw (by show ar (ar H l (.lst vs)) t _ l=_;rw[s2 _ _ aw,ev]) ⟨by rw[aB],⇑0,λ_=>rfl,λi=>?_⟩ (λz hz=>?_) (by
   change (1:Int).natAbs<2 ^ _;show Nat.one_lt_two_pow (by rw[i7];omega))
  .rw [aW,aW,bj];cases e:xs[i]? with
   | none=>rfl
   | some x=>
    rcases (gd _ (aY e)).1 with ⟨h,_⟩|⟨_,_,_,h⟩
    .exact absurd h hp0
    .change x.1*x.2=x.1*1;rw[h]
  .refine ao (bR.mp hz) λx hx e912=>?_;obtain rfl:=e912;show (gd x hx).2.1.le ?_;rw[i7];omega
 .have hp0:p=0:=by simpa using hc
  show⟨_,rfl,a,rfl,⟨_,aj.of hv⟩,tH (xs:=vs) (λi σ H2=>∃ (v3:Option V) (b:Int),σ=[↥g,↥a,⇑b,v3]/\aa H H2/\0<b/\b.natAbs<=2 ^ (i*k)/\∀ j,j<i->(xs.getD j (0,1)).2 ∣ b)
   ⟨none,1,rfl,aa.refl _,⇑0,by simp,λj hj=>∅⟩ (λi σ H2 _ ⟨_,_,_,e,_⟩=>aj.of (e _ _ hv)) ?_ ?_⟩
  .intro i x σ H2 hi e92;show kA e92 λv3 b e913 s2 b0 bB dv=>?_;clear e92;obtain rfl:=e913;show ao (al.at' hi) λy ey hy=>?_;show ao (hy.ref hp0) λty e914 hty=>?_;obtain rfl:=e914;show bC (gd y (aY ey)) λiy by1 by2=>?_;have hil:i<vs.length:=(b_.mp hi).1;have kik:i*k+k<=(xs.length+1)*k:=by
    rw[show i*k+k=(i+1)*k by rw[i7,o5]];show gg ∅ (aQ _)
   have bT:Bt NB b:=jm bB (wD ⇑0 ∅);have yT:Bt NB y.2:=by2.le ∅;left;show⟨_,aE.of (s2 _ _ hty),_,rfl,b,y.2,rfl,b0,iy.pos,bT,yT,λm H3 s3 m0 d1 d2 ml=>⟨_,m,⟨rfl,rfl⟩,s2.trans s3,m0,?_,λj hj=>?_⟩⟩
   .have h1:(b*y.2).natAbs<=2 ^ (i*k)*2 ^ k:=tP bB (gR by2);rw[i7,o5,tU];show oz52 m0 ml h1
   .by_cases h:j=i
    .subst h;rw[cw ey];show d2
    .exact Int.dvd_trans (dv j (oA hj h)) d1
  .intro σ H2 e93;show kA e93 λv3 b e915 s2 b0 bB dv=>?_;clear e93;obtain rfl:=e915;rw[vl] at bB dv;left;show⟨_,rfl,a,rfl,⟨_,aj.of (s2 _ _ hv)⟩,λD hD=>zZ (λi=>(xs.getD i (0,1)).1*(b / (xs.getD i (0,1)).2)) (s2 _ _ hv) hD ∅ (λi x H' Q' hx s' q'=>?_) λH1 s1 e1=>?_⟩
   .refine ao (al.at' hx) λy ey hy=>?_;show ao (hy.ref hp0) λty e916 hty=>?_;obtain rfl:=e916;show bC (gd y (aY ey)) λiy by1 by2=>?_;have hil:i<vs.length:=(b_.mp hx).1;have d2:=dv i (bM vl hil);have q2:=q' H' (aa.refl _);rw[cw ey] at d2 q2;have hty':=(s2.trans s') _ _ hty;have bT:Bt NB b:=jm bB (wD ⇑0 (by rw[i7] at kb;omega));have fe:=kF (i:=b) iy.pos;show⟨_,rfl,ty,_,_,_,rfl,rfl,aE.of hty',rfl,_,rfl,_,rfl,ty,_,_,_,rfl,rfl,aE.of hty',rfl,_,_,rfl,rfl,(by have:=iy.pos;omega),_,_,rfl,rfl,?_,?_⟩
    .rw [fe];show (by1.le (m:=NB) (by rw[i7] at kb;omega)).ok (bT.quo d2) ⇑0
    .rw [fe];show q2
   .rw [vl] at e1;show⟨⇑0,λt ht=>?_⟩;have s3:=aa.new (o:=.tup [V.ref D,V.int b]) ht;show q t D ((List.range xs.length).map λi=>(xs.getD i (0,1)).1*(b / (xs.getD i (0,1)).2)) b _ ((s2.trans s1).trans s3) (s2.free hD) aw (s3 _ _ e1) ⟨by rw[aB,dq],b0,λh=>absurd hp0 h,λi=>?_⟩ (λz hz=>?_) (jm bB (wD ⇑0 (by rw[i7];omega)))
    .rw [aW,bj];by_cases hi:i<xs.length
     .have e:xs[i]?=some xs[i]:=aG hi;have d2:=dv i hi;rw[gB hi];change (xs.getD i (0,1)).1*(b / (xs.getD i (0,1)).2)*(xs.getD i (0,1)).2=_;rw[Int.mul_assoc,n_ d2]
     .rw [dH (by simp;show d8 hi),aW,dH (d8 hi)];simp
    .refine ao (bR.mp hz) λi hi e917=>?_;obtain rfl:=e917;have hi:=dU.mp hi;have e:xs[i]?=some xs[i]:=aG hi;have d2:=dv i hi;rw[cw e] at d2 ⊢;show bC (gd _ (dm hi)) λiy by1 by2=>?_;have h1:(b / xs[i].2).natAbs<=b.natAbs:=FK b iy.pos d2;have h2:=tP (aQ xs[i].1.natAbs) (cD h1 bB);change (xs[i].1*(b / xs[i].2)).natAbs<2 ^ ((xs.length+1)*k);rw[i7,o5,tU,rZ];show jm h2 (Nat.mul_lt_mul_of_pos_right by1 (nZ _))
theorem jW {zs:List Int}{i:Nat}{x:V}(h:(zs.map V.int)[i]?=some x):∃ z,zs[i]?=some z/\x=.int z:=by
 rw[bj] at h;cases e:zs[i]? with
 | none=>rw[e] at h;cases h
 | some z=>rw[e] at h;cases h;show⟨z,rfl,rfl⟩
theorem As {zs:List Int}(f:Int->Int):(List.range zs.length).map (λi=>f (zs.getD i 0))=zs.map f:=by
 apply BI;intro i;rw[bj,bj];by_cases hi:i<zs.length
 .rw [gB hi,aG hi];change some (f (zs.getD i 0))=some (f zs[i]);rw[cw (aG hi)]
 .rw [dH (by simp;show d8 hi),dH (d8 hi)];rfl
def zD (G:Addr):Sp:=λvs H Q _=>∃ (g a:Addr) (p:Int) (zs:List Int),vs=[.ref g,.ref a]/\fh G H g p/\af p/\bO H a zs/\zs.length<=900/\(p=0->aP NB zs) /\
 ∀ (a':Addr) H',aa H H'->bO H' a' (dQ p zs)->(a'=a\/H a'=none)->Q (.ref a') H'
theorem lV (F:⇑("tidied",zQ))(T:⇑())(hpt:P.given.tree=none)(Yaf:⇑("common_divisor",4,sW)):⇑[5,["ground","row"],zD G]:=by
 exists IY,nI,4
 show cZ h λg a p zs e919 e920 hp e921=>?_;clear h;subst e919;obtain⟨dx,hg⟩:=e920;show cA e921 λrz zl sm q=>?_;clear e921;show⟨_,((@bI _ _ _ _ _ _ _ _ (bX fW (eI (ae 0) rfl) aq (bo _)) (~~~(dR (own:=["number"]) (fr:=[("ground",0)]) rfl (cW (by kernel_rfl)) (eJ (pv 1)) (λ_ _ _ _=>⟨(0<<<["number","ground"]),df,(fY<|>(pv 0)<&&>(lL K rfl (pv 1) rfl))⟩))) bJ)<*>((gs (i:=2) nd rfl (Or.inr rfl) aq)<*>((dt cX rfl (eJ (pv 1)) (3>>>nd) ((gs (i:=2) nd rfl (Or.inr rfl) (Yaf<$>hr<$>((ae 3)<&>((ae 2)<&>ah))))<*>(@bE _ _ _ (@bI _ _ _ _ _ _ _ _ (bX dI (ae 2) aq (bo _)) (~~~(ae 1)) bJ))))<*>((@bI _ _ _ _ _ _ _ _ (bX dI (ae 2) aq (bo _)) (~~~(ae 1)) bJ)<*>(~~~(dR (own:=["number"]) (fr:=[("divisor",2)]) rfl (cW (by kernel_rfl)) (eJ (pv 1)) (λ_ _ _ _=>⟨(0<<<["number","divisor"]),df,((jz hpt (jA hr))<|>(pv 0)<&&>(pv 1))⟩))))))),?_⟩;left;show dc G dx _ ⟨hg,T.cl_Ground,T.nP,_,jZ p,rfl,bH (λhc=>?_) (λhc=>?_)⟩
 .have hp0:¬ p=0:=by simpa using hc
  have p0:=hp.lo;show⟨_,rfl,a,rfl,⟨_,aj.of rz⟩,λD hD=>zZ (λi=>zs.getD i 0 % p) rz hD (by rw[aB];omega) (λi x H' Q' hx s' q'=>?_) λH1 s1 e1=>?_⟩
  .refine ao (jW hx) λz ez e922=>?_;obtain rfl:=e922;have q2:=q' H' (aa.refl _);rw[cw ez] at q2;simp only[cy];left;show⟨_,rfl,_,rfl,G,dx,_,s' _ _ hg,T.cl_Ground,T.nP,_,jZ p,_,rfl,∅,q2⟩
  .rw [aB,As (· % p)] at e1;show q D H1 s1 ?_ (.inr hD);unfold dQ;rw[if_neg hp0];show e1
 .have hp0:p=0:=by simpa using hc
  have sm:=sm hp0;show⟨_,rfl,a,rfl,⟨_,aj.of rz⟩,tH (xs:=zs.map V.int) (λi σ H2=>∃ (v3:Option V),σ=[↥g,↥a,some (.int (gcdL (zs.take i):Nat)),v3]/\aa H H2/\Bt NB (gcdL (zs.take i):Nat))
   ⟨none,rfl,aa.refl _,xE _⟩ (λi σ H2 _ ⟨_,_,e,_⟩=>aj.of (e _ _ rz)) ?_ ?_⟩
  .intro i x σ H2 hi e94;show bh e94 λv3 e923 s2 bg=>?_;clear e94;obtain rfl:=e923;show ao (jW hi) λz ez e924=>?_;obtain rfl:=e924;left;have eg:=Hu ez;have bz:=sm z (aY ez);show aM z _ ⟨rfl,bz,bg,λH3 s3=>?_⟩;rw[<- eg];show⟨rfl,bH (λhc=>?_) (λhc=>?_)⟩
   .have hc:(gcdL (zs.take (i+1)):Int)=1:=by simpa using hc
    have h1:gcdL zs=1:=Nat.dvd_one.mp (by have:=Hv zs (i+1);rwa [show gcdL (zs.take (i+1))=1 by omega] at this);show q a H3 (s2.trans s3) ?_ (.inl rfl);subst hp0;rw[G5 h1];show rz.same (s2.trans s3)
   .refine ⟨_,⟨rfl,rfl⟩,s2.trans s3,?_⟩;rw[eg];by_cases z0:z=0
    .subst z0;show bg.abs_le ?_;simp[Int.gcd]
    .refine bz.abs_le ?_;have:=Int.gcd_le_natAbs_left (gcdL (zs.take i):Int) z0;omega
  .intro σ H2 e95;show bh e95 λv3 e925 s2 bg=>?_;clear e95;obtain rfl:=e925;rw[aB,wm] at *;left;show bH (λhc=>?_) (λhc=>?_)
   .have hc:(gcdL zs:Int)=0:=by simpa using hc
    show q a H2 s2 ?_ (.inl rfl);subst hp0;rw[AI ∅];show rz.same s2
   .have hc:¬ (gcdL zs:Int)=0:=by simpa using hc
    show⟨_,rfl,a,rfl,⟨_,aj.of (s2 _ _ rz)⟩,λD hD=>zZ (λi=>zs.getD i 0 / (gcdL zs:Int)) (s2 _ _ rz) hD (by rw[aB];omega) (λi x H' Q' hx s' q'=>?_) λH1 s1 e1=>?_⟩
    .refine ao (jW hx) λz ez e926=>?_;obtain rfl:=e926;have q2:=q' H' (aa.refl _);rw[cw ez,<- kF ∅] at q2;show⟨_,rfl,_,rfl,z,_,rfl,rfl,hc,q2⟩
    .rw [aB,As (· / (gcdL zs:Int))] at e1;show q D H1 (s2.trans s1) ?_ (.inr (s2.free hD));unfold dQ;rw[if_pos hp0];show e1
def Fb (G:Addr):Sp:=λvs H Q _=>∃ (g a l:Addr) (p:Int) (row lead:List Int) (k:Nat),vs=[.ref g,.ref a,.ref l,.int k]/\fh G H g p/\af p/\bO H a row/\bO H l lead/\row.length=lead.length/\row.length<=900/\k<row.length/\lead.getD k 0≠0/\aP HB row/\aP HB lead /\
 ∀ (a':Addr) H',aa H H'->bO H' a' (dE p row lead k)->(a'=a\/H a'=none)->Q (.ref a') H'
theorem Gx (F:⇑("cleared",Ac))(T:⇑())(hpt:P.given.tree=none)(Yaf:⇑("common_divisor",4,sW))(Yap:⇑("tidied",5,zD G)):⇑[6,["ground","row","lead","place"],Fb G]:=by
 exists Jc,uT,7
 show sT h λg a l p row lead k e928 hg hp e929=>?_;clear h;subst e928;show jI e929 λra rl hl wl kl k0 s1 s2 q=>?_;clear e929;show⟨_,((@bI _ _ _ _ _ _ _ _ (bX dI ((ixJ a_)<|>(ae 1)<||>(ae 3)) aq (bo _)) (~~~(ae 1)) bJ)<*>((4|||nd|||(Yaf<$>hr<$>(((ixJ a_)<|>(ae 1)<||>(ae 3))<&>(((ixJ a_)<|>(ae 2)<||>(ae 3))<&>ah))))<*>((gs (i:=5) nd rfl (Or.inr rfl) ((jz hpt (jA hr))<|>((ixJ a_)<|>(ae 2)<||>(ae 3))<&&>(ae 4)))<*>((gs (i:=6) nd rfl (Or.inr rfl) ((jz hpt (jA hr))<|>((ixJ a_)<|>(ae 1)<||>(ae 3))<&&>(ae 4)))<*>(~~~(Yap<$>hr<$>((ae 0)<&>((dR (own:=["number","other"]) (fr:=[("keep",5),("take",6)]) rfl (cW (by kernel_rfl)) (kD rfl T.n_zip ((pv 1)<&>((pv 2)<&>ah))) (λ_ _ _ _=>⟨(@jX _ K rfl _ _ _ _ 2 rfl ((0<<<["number","other","keep","take"])^^^((1<<<["number","other","keep","take"])^^^(@cU _))) ⇑1 ⇑1),df,(iG<|>(eH<|>(pv 2)<&&>(pv 0))<&&>(eH<|>(pv 3)<&&>(pv 1)))⟩))<&>ah)))))))),?_⟩;left;have at_:∀ {zs:List Int},k<zs.length->atI (zs.map V.int) (k:Int)=some (.int (zs.getD k 0)):=λ{zs} h=>by
  show eK ∅ ?_;rw[fG,bj,aG h,cQ h];rfl
 show⟨_,aj.of ra,_,at_ kl,rfl,bH (λhc=>?_) (λhc=>?_)⟩
 .have hc:row.getD k 0=0:=by simpa using hc
  show q a H (aa.refl _) ?_ (.inl rfl);unfold dE;rw[if_pos hc];show ra
 .have hc:¬ row.getD k 0=0:=by simpa using hc
  have cz:dE p row lead k=dQ p (fJ row lead k):=by unfold dE;rw[if_neg hc]
  show⟨_,aj.of ra,_,at_ kl,_,aj.of rl,_,at_ (bM hl kl),_,_,rfl,(s1.at k).le ⇑0,(s2.at k).le ⇑0,λH1 t1=>?_⟩;have g0:(0:Int)<(Int.gcd (row.getD k 0) (lead.getD k 0):Int):=by have:=Cc (row.getD k 0) k0;omega
  show⟨_,aj.of (t1 _ _ rl),_,at_ (bM hl kl),_,rfl,_,rfl,∅,_,aj.of (t1 _ _ ra),_,at_ kl,_,rfl,_,rfl,∅,?_⟩;rw[kF g0,kF g0];have bl:=(s2.at k).quo (ke (row.getD k 0) (lead.getD k 0));have br:=(s1.at k).quo (jj (row.getD k 0) (lead.getD k 0));have rlen:(fJ row lead k).length=row.length:=by unfold fJ;rw[r_];omega
  show⟨_,rfl,_,rfl,a,l,rfl,⟨_,aj.of (t1 _ _ ra)⟩,⟨_,aj.of (t1 _ _ rl)⟩,λD hD=>xO (λi _ y=>y=.int ((fJ row lead k).getD i 0)) (λr _=>r) (λr _=>r) (t1 _ _ ra) (t1 _ _ rl) (by rw[aB,aB];show oz47 hl) hD (by rw[aB];omega) (λi x y H' Q' hx hy s' _ q'=>?_) λys H2 t2 e2 hyl hys=>?_⟩
  .refine ao (jW hx) λz ez e930=>?_;obtain rfl:=e930;show ao (jW hy) λu eu e931=>?_;obtain rfl:=e931;simp only[cy];left;show⟨_,rfl,_,rfl,bl.ok (s1 z (aY ez)) ⇑0,_,rfl,_,rfl,br.ok (s2 u (aY eu)) ⇑0,q' _ H' (aa.refl _) ?_⟩;rw[w_ hl,cw ez,cw eu]
  .rw [aB] at hyl;have e3:ys=(fJ row lead k).map V.int:=by
    have e4:=As (zs:=fJ row lead k) id;rw[List.map_id] at e4;rw[zo hyl hys,<- rlen];show jC (List.map V.int) e4
   rw[e3] at e2;have sr:aP NB (fJ row lead k):=(HW s1 s2).le ⇑0;have t12:=t1.trans t2;show jc g D p (fJ row lead k) ⟨rfl,hg.same t12,hp,e2,∅,λ_=>sr,λa' H3 t3 r3 fr=>q a' H3 (t12.trans t3) (by rw[cz];show r3) ?_⟩;rcases fr with rfl|fr
   .exact .inr (t1.free hD)
   .exact .inr (t12.free fr)
end
section
variable {G PL cL:Addr}
noncomputable abbrev lamO:HO:=(HO.tab 161 26 ("leading_row.<locals>." ++ "<lambda>"))
noncomputable def nzs (Z:List (List Int))(k n:Nat):List Nat:=(List.range n).filter λj=>decide ((Z.getD j []).getD k 0≠0)
theorem zB {Z:List (List Int)}{k n j:Nat}:j∈nzs Z k n ↔ j<n/\(Z.getD j []).getD k 0≠0:=by
 unfold nzs;rw[tY,dU,decide_eq_true_iff]
theorem Gv {Z:List (List Int)}{k n:Nat}:nzs Z k (n+1)=nzs Z k n++(if (Z.getD n []).getD k 0≠0 then [n] else []):=by
 unfold nzs;rw[i_,List.filter_append];congr 1;by_cases h:(Z.getD n []).getD k 0≠0
 .rw [if_pos h,List.filter_cons,if_pos (by simpa using h)];rfl
 .rw [if_neg h,List.filter_cons,if_neg (by simpa using h)];rfl
def spLr (PL:Addr):L2.Sp:=λvs H Q _=>∃ (L:Addr) (as:List Addr) (Z:List (List Int)) (k:Nat),vs=[.ref L,.int k]/\H L=some (.lst (as.map V.ref))/\aA (bO H) as Z/\(∀ row∈Z,k<row.length)/\Z.length<=900/\H PL=some lamO /\
 (∀ H',aa H H'->(∀ row∈Z,row.getD k 0=0)->Q .non H')/\(∀ (i:Nat) row H',aa H H'->Z[i]?=some row->row.getD k 0≠0->Q (.int i) H')
theorem uw (F:jr K "leading_row" "leading_row" rT f fd cL)(T:⇑())(hcb:PySem.W.CodeHd base cL PL):⇑[1,["rows","place"],spLr PL]:=by
 have nd:=FN.nd;show F.ok FN (λvs H Q E h=>?_) (λA outer s H vs Q E hr h=>?_)
 .refine nI h λL as Z k e92 _=>?_;clear h;subst e92;rfl
 .refine cZ h λL as Z k e93 hL al e94=>?_;clear h;subst e93;show dj e94 λwd zl hP q0 q1=>?_;clear e94;have hdep:(A.deeper (envOfC "leading_row" (aZ rT) s.heap.objs.size f (.ref cL))).depth<recursionLimit:=by have:=hr.dp;omega
  show⟨_,((oO (i:=2) (own:=["at","row"]) (fr:=[("place",1)]) rfl (cW (by kernel_rfl)) (vg rfl T.n_enumerate ((pv 0)<&>ah)) (λ_ _ _ _=>⟨(@jX _ K rfl _ _ _ _ 2 rfl ((0<<<["at","row","place"])^^^((1<<<["at","row","place"])^^^(@cU _))) ⇑1 ⇑1),(zH (iI fW ((kH K rfl)<|>(pv 1)<||>(pv 2)) aq (bo _))),(pv 0)⟩) nd rfl rfl rfl)<*>(~~~(lJ (x:="at") (fr:=[("rows",0),("place",1)]) rfl hdep rfl T.n_min (qM (by kernel_rfl)) rfl hcb rfl (λ_ _ _ _ _=>rfl) (ae 2) (λ_ _ _ _ _=>(cg oR rfl T.n_abs o4 (((kH K rfl)<|>((kH K rfl)<|>(pv 1)<||>(pv 0))<||>(pv 2))<&>ah)))))),?_⟩;show bG λX hX=>?_;left;have zal:=al.1;have aft:∀ (D:Addr) (H1:Hp),aa H H1->H1 D=some (.lst ((nzs Z k as.length).map λ(j:Nat)=>V.int j))->X { nx:=λx H'=>Q V.non H',rt:=Q } [↥L,⇑k,↥D] H1:=by
   intro D H1 t1 hD;subst hX;left;show⟨_,aj.of hD,t1 _ _ hP,λi=>((((Z.getD ((nzs Z k as.length).getD i 0) []).getD k 0).natAbs:Nat):Int),λi v H2 hi t2=>?_,λe H2 t2=>?_,λi v H2 _ hi t2=>?_⟩
   .rw [bj] at hi;cases e:(nzs Z k as.length)[i]? with
    | none=>rw[e] at hi;cases hi
    | some j=>
     rw[e] at hi;cases hi;obtain⟨h1,h2⟩:=zB.mp (aY e);have ea:as[j]?=some as[j]:=aG h1;show ao (al.at' ea) λrow er ha=>?_;have kr:=wd row (aY er);have t12:=t1.trans t2;have ew:(nzs Z k as.length).getD i 0=j:=by rw[aW,e];rfl
     have ez:Z.getD j []=row:=by rw[aW,er];rfl
     show⟨_,rfl,L,rfl,_,_,rfl,aj.of (t12 _ _ hL),_,eK ∅ (by rw[fG,bj,ea];rfl),_,rfl,as[j],rfl,_,_,rfl,aj.of (t12 _ _ ha),_,eK ∅ (by rw[fG,bj,aG kr];rfl),row[k],rfl,?_,aa.refl _⟩;change _=((((Z.getD ((nzs Z k as.length).getD i 0) []).getD k 0).natAbs:Nat):Int);rw[ew,ez,cQ kr];split <;> omega
   .have e0:nzs Z k as.length=[]:=List.map_eq_nil_iff.mp e;show q0 H2 (t1.trans t2) λrow hr=>?_;show ao (jY hr []) λj hj e95=>?_;obtain rfl:=e95;apply jo;intro z;have:j∈nzs Z k as.length:=zB.mpr ⟨oz8 zal hj,z⟩;rw[e0] at this;simp at this
   .rw [bj] at hi;cases e:(nzs Z k as.length)[i]? with
    | none=>rw[e] at hi;cases hi
    | some j=>
     rw[e] at hi;cases hi;obtain⟨h1,h2⟩:=zB.mp (aY e);show q1 j (Z.getD j []) H2 (t1.trans t2) (by rw[cQ (bM zal h1)];show aG _) h2
  show⟨_,rfl,L,rfl,⟨_,aj.of hL⟩,λD hD=>Gc (xs:=as.map V.ref) (λi vs H2=>aa H H2/\H2 D=some (.lst vs)/\vs=(nzs Z k i).map λ(j:Nat)=>V.int j) ⟨aa.new hD,aw,rfl⟩ (λi vs H2 _ p=>aj.of (p.1 _ _ hL)) ?_ λvs H2 ⟨t2,e2,e3⟩=>?_⟩
  .intro i x q' vs σ' H2 hi hx hq sh e91;show bC e91 λt2 e2 e3=>?_;clear e91;show eV sh.two λz1 z2 e96=>?_;obtain rfl:=e96;have s0:=aa.new (o:=.tup [.int i,x]) hq;rw[bj] at hx;cases ea:as[i]? with
   | none=>rw[ea] at hx;cases hx
   | some a=>
    rw[ea] at hx;cases hx;show ao (al.at' ea) λrow er ha=>?_;have kr:=wd row (aY er);have ez:Z.getD i []=row:=by rw[aW,er];rfl
    have hln:vs.length<=900:=by
     rw[e3,aB];show cD (List.length_filter_le _ _) ?_;rw[dq];rw[aB] at hi;omega
    simp only[gD];show aM q' _ ⟨rfl,aE.of aw,rfl,_,_,rfl,_,_,rfl,rfl,?_⟩;simp only[List.set_cons_zero,List.set_cons_succ,cy];left;show⟨_,rfl,_,_,rfl,aj.of ((t2.trans s0) _ _ ha),_,eK ∅ (by rw[fG,bj,aG kr];rfl),rfl,?_⟩;have nx:=Gv (Z:=Z) (k:=k) (n:=i);rw[ez,cQ kr] at nx;show bH (λhc=>?_) (λhc=>?_)
    .have hc:row[k]≠0:=by simpa using hc
     rw[if_pos hc] at nx;show gj (ws:=vs++[V.int i]) hi Sh.mk2 (s0 _ _ e2) (cT ∅) ⟨(t2.trans s0).upd hD,aw,?_⟩;rw[e3,nx,dW];rfl
    .have hc:¬ row[k]≠0:=by simpa using hc
     rw[if_neg hc,r9] at nx;show leaf0 (ws:=vs) hi Sh.mk2 ⟨t2.trans s0,s0 _ _ e2,by rw[e3,nx]⟩
  .rw [aB] at e3;rw[e3] at e2;show aft D H2 t2 e2
def uY (p:Int)(k:Nat)(zs:List Int)(xs:List Nv):Prop:=∃ ws b,vQ p xs ws b/\aP ((xs.length+1)*k) ws/\zs=dQ p ws
def rK (p:Int)(k:Nat)(Z:List (List Int))(M:Mv):Prop:=aA (uY p k) Z M
def zf (p:Int)(k wide:Nat)(M:Mv):Prop:=∀ Z,rK p k Z M->∀ j done left pl,j<=wide->Sw p Z j done left pl->∀ row∈done++left,aP HB row
structure oX (H:Hp)(p:Int)(k W:Nat)(L:Addr)(as:List Addr)(M:Mv):Prop where
 lst:H L=some (.lst (as.map V.ref))
 row:aA (aV H p) as M
 wd:∀ xs∈M,xs.length=W
 gd:∀ xs∈M,aH p k xs
 h900:M.length<=900
 w900:W<=900
 k1:1<=k
 kb:(W+1)*k<=NB
structure vU (H H2:Hp)(dA lA pA:Addr)(ds ls:List Addr)(done left:List (List Int))(pl:List Nat):Prop where
 sm:aa H H2
 fd:H dA=none
 fl:H lA=none
 fp:H pA=none
 ne1:dA≠lA
 ne2:dA≠pA
 ne3:lA≠pA
 hd:H2 dA=some (.lst (ds.map V.ref))
 hl:H2 lA=some (.lst (ls.map V.ref))
 hp:H2 pA=some (.lst (pl.map λ(j:Nat)=>V.int j))
 rd:aA (bO H2) ds done
 rl:aA (bO H2) ls left
 nd:∀ a∈ds,H a=none/\a≠dA/\a≠lA/\a≠pA
 nl:∀ a∈ls,H a=none/\a≠dA/\a≠lA/\a≠pA
theorem vU.same {H H2 H3:Hp}{dA lA pA:Addr}{ds ls:List Addr}{done left:List (List Int)}{pl:List Nat}(h:vU H H2 dA lA pA ds ls done left pl)(s:aa H2 H3):vU H H3 dA lA pA ds ls done left pl:=
 ⟨h.sm.trans s,h.fd,h.fl,h.fp,h.ne1,h.ne2,h.ne3,s _ _ h.hd,s _ _ h.hl,s _ _ h.hp,h.rd.mono λ_ _ k=>k.same s,h.rl.mono λ_ _ k=>k.same s,h.nd,h.nl⟩
theorem aA.eraseIdx {α β:Type}{P:α->β->Prop}{xs:List α}{ys:List β}(h:aA P xs ys)(n:Nat):aA P (xs.eraseIdx n) (ys.eraseIdx n):=by
 rw[yw,yw];show (h.take n).app (h.drop (n+1))
theorem aA.of_get {α β:Type}{P:α->β->Prop}{xs:List α}{ys:List β}{d:β}(hl:xs.length=ys.length)(h:∀ (i:Nat) x,xs[i]?=some x->P x (ys.getD i d)):aA P xs ys:=⟨hl,λi x y e1 e2=>by
 have:=h i x e1;rwa [aW,e2] at this⟩
theorem Au {p:Int}{k W:Nat}{Z:List (List Int)}{M:Mv}(h0:0<=p)(h:rK p k Z M)(wd:∀ xs∈M,xs.length=W):∀ row∈Z,Rw p W row:=λrow hr=>by
 obtain⟨i,hi,e⟩:=dZ.mp hr;show ao (h.at' (i:=i) (x:=row) (by rw[aG hi,e])) λxs ex e93=>?_;obtain⟨ws,b,w1,_,rfl⟩:=e93;show zJ h0 (w1.len.trans (wd xs (aY ex)))
theorem tyL {H:Hp}{p:Addr}{xs:List V}(h:H p=some (.lst xs)):tyV K "list" (.ref p) H:=.inl ⟨rfl,_,aj.of h⟩
theorem seqIx {j n:Nat}(h:j<n):PySem.seqIndex? (j:Int) n=some j:=by
 unfold PySem.seqIndex?;simp only[show ¬ ((j:Int)<0) by omega,if_false];rw[if_pos (by simp;omega)];rfl
theorem I_ {α β:Type}(f:α->β)(xs:List α)(n:Nat):(xs.map f).eraseIdx n=(xs.eraseIdx n).map f:=by
 rw[yw,yw,dW,List.map_take,List.map_drop]
def EZ (G PL:Addr):L2.Sp:=λvs H Q _=>∃ (g L:Addr) (p:Int) (as:List Addr) (M:Mv) (k W wide:Nat),vs=[.ref g,.ref L,.int wide]/\fh G H g p/\af p/\oX H p k W L as M/\wide<=W/\H PL=some lamO/\zf p k wide M /\
 ∀ (t F pA:Addr) (rs:List Addr) (Z done left:List (List Int)) (pl:List Nat) H',aa H H'->H' t=some (.tup [.ref F,.ref pA])->H F=none->H pA=none->F≠pA->H' pA=some (.lst (pl.map λ(j:Nat)=>V.int j))->H' F=some (.lst (rs.map V.ref))->aA (bO H') rs (done++left)->(∀ a∈rs,H a=none/\a≠F/\a≠pA)->
  rK p k Z M->Sw p Z wide done left pl->Q (.ref t) H'
theorem GJ (F:⇑("swept",zK))(T:⇑())(Ya3:⇑("whole_row",6,spWrZ G))(Yap:⇑("tidied",5,zD G))(Ybw:⇑("cleared",6,Fb G))(Ybc:⇑("leading_row",1,spLr PL)):⇑[7,["ground","rows","wide"],EZ G PL]:=by
 exists IL,jG,8
 show uU h λg L p as M k W wide e95 hg hp e96=>?_;clear h;subst e95;show dj e96 λR hw hPL sw q=>?_;clear e96;show⟨_,((3|||nd|||(@dJ _ _ _ _ ah))<*>((oO (i:=4) (own:=["row"]) (fr:=[("ground",0)]) rfl (cW (by kernel_rfl)) (eJ (pv 1)) (λ_ _ _ _=>⟨(0<<<["row","ground"]),df,(Yap<$>hr<$>((pv 1)<&>(((zq K rfl)<|>(Ya3<$>hr<$>((pv 1)<&>((pv 0)<&>ah)))<||>aq)<&>ah)))⟩) nd rfl rfl rfl)<*>((5|||nd|||(@dJ _ _ _ _ ah))<*>((dt cX rfl (fv rfl T.n_range ((pv 2)<&>ah)) (@oW _ _ 6 _ nd rfl (Or.inr rfl) (Or.inl rfl)) ((7|||nd|||(Ybc<$>hr<$>((ae 4)<&>((ae 6)<&>ah))))<*>(@bE _ _ _ (@bI _ _ _ _ _ _ _ _ (bX lR (ae 7) pW (bo _)) ((gs (i:=8) nd rfl (Or.inr rfl) (gk gC PySem.F.slot_list_pop PySem.F.type_list_pop Gs (ae 4) ((ae 7)<&>ah)))<*>((oO (i:=4) (own:=["row"]) (fr:=[("ground",0),("lead",8),("place",6)]) rfl (cW (by kernel_rfl)) (eJ (pv 4)) (λ_ _ _ _=>⟨(0<<<["row","ground","lead","place"]),df,(Ybw<$>hr<$>((pv 1)<&>((pv 0)<&>((pv 2)<&>((pv 3)<&>ah)))))⟩) nd rfl rfl rfl)<*>((gK (gk gC gU gT (mtJ gq) (ae 3) ((ae 8)<&>ah)))<*>(@bE _ _ _ (gK (gk gC gU gT (mtJ gq) (ae 5) ((ae 6)<&>ah))))))) bJ))))<*>(~~~(@bQ _ _ _ _ _ ((yU<|>(ae 3)<&&>(ae 4))<&>((ae 5)<&>ah)))))))),?_⟩;left;have p0:=hp.lo;have ml:=R.row.1;have h9:=R.h900;have w9:=R.w900;have k1:=R.k1;have kb:=R.kb;show⟨⇑0,λdA hdA=>?_⟩;have s1:=aa.new (o:=.lst []) hdA;show⟨_,rfl,L,rfl,⟨_,aj.of (s1 _ _ R.lst)⟩,λlA hlA=>oS (λi Hc y=>∃ (a:Addr) (zs:List Int),y=.ref a/\bO Hc a zs/\uY p k zs (M.getD i [])/\H a=none/\a≠dA/\a≠lA) (λ⟨a,zs,e,b,c⟩ s=>⟨a,zs,e,b.same s,c⟩) (λ⟨a,zs,e,b,c,d,e',f⟩ hD=>⟨a,zs,e,b.put f,c,d,e',f⟩) (s1 _ _ R.lst) hlA (by rw[aB];omega) (λi x H' Q' hx s' ⟨lD,hlD⟩ q'=>?_) (λys H1 s2 e2 hyl hys=>?_)⟩
 .refine ao ((rQ R.row).at' hx) λrow er e97=>?_;obtain⟨a,rfl,rv⟩:=e97;have hrow:=aY er;have wr:=R.wd row hrow;have t1:=s1.trans s';show⟨_,rfl,_,rfl,_,rfl,g,a,p,row,k,rfl,hg.same t1,hp,rv.same t1,∅,R.gd row hrow,k1,by rw[wr];show kb,λt l zs b H2 s3 fl ht rz wz sz _=>?_⟩;show jc t _ 0 _ ⟨rfl,rfl,aE.of ht,rfl,g,l,p,zs,rfl,hg.same (t1.trans s3),hp,rz,by rw[wz.len];omega,λ_=>sz.le (by rw[wr];show kb),λa' H3 s4 rz' fr=>?_⟩;have hn:H' a'=none:=by
   rcases fr with rfl|fr
   .exact fl
   .exact s3.free fr
  show q' _ H3 (s3.trans s4) ⟨a',_,rfl,rz',⟨zs,b,?_,?_,rfl⟩,t1.free hn,λz=>?_,λz=>?_⟩
  .rw [cw er];show wz
  .rw [cw er];show sz
  .rw [z,s' _ _ aw] at hn;cases hn
  .rw [z,hlD] at hn;cases hn
 rw[aB] at hyl;obtain⟨ls,rfl,hls⟩:=vt (P:=λi a=>∃ zs,bO H1 a zs/\uY p k zs (M.getD i [])/\H a=none/\a≠dA/\a≠lA) λi y e=>let ⟨a,zs,h1,h2⟩:=hys i y e;⟨a,h1,zs,h2⟩;rw[aB] at hyl;obtain⟨Z,hZ⟩:=aA.pick (P:=λ(ai:Addr×Nat) zs=>bO H1 ai.1 zs/\uY p k zs (M.getD ai.2 [])/\H ai.1=none/\ai.1≠dA/\ai.1≠lA) (xs:=ls.zipIdx) λai hai=>by
  obtain⟨a,i⟩:=ai;have hi:=List.mk_mem_zipIdx_iff_getElem?.mp hai;show hls i a hi
 have zlen:Z.length=ls.length:=by have:=hZ.1;rw[List.length_zipIdx] at this;show oz47 this
 have zat:∀ (i:Nat) (a:Addr) (zs:List Int),ls[i]?=some a->Z[i]?=some zs->bO H1 a zs/\uY p k zs (M.getD i [])/\H a=none/\a≠dA/\a≠lA:=λi a zs e1 e2=>by
  have:=hZ.2 i (a,i) zs (by rw[List.getElem?_zipIdx,e1];simp) e2;show this
 have IR:rK p k Z M:=⟨∅,λi zs xs e1 e2=>by
  have hi:i<ls.length:=by have:=(b_.mp e1).1;show bM zlen this
  have:=(zat i _ zs (aG hi) e1).2.1;rwa [cw e2] at this⟩
 have rlZ:aA (bO H1) ls Z:=⟨oz47 zlen,λi a zs e1 e2=>(zat i a zs e1 e2).1⟩
 have nlZ:∀ a∈ls,H a=none/\a≠dA/\a≠lA:=λa ha=>by
  obtain⟨i,hi,rfl⟩:=dZ.mp ha;show (zat i _ _ (aG hi) (aG (show i<Z.length by show oz8 zlen hi))).2.2
 have rwZ:=Au p0 IR R.wd;show⟨⇑0,λpA hpA=>?_⟩;have s3:=aa.new (o:=.lst []) hpA;have t1:=s1.trans s2;have t13:=t1.trans s3;have nel:dA≠lA:=λz=>by rw[<- z,aw] at hlA;cases hlA
 have H1d:H1 dA=some (.lst []):=s2 _ _ aw;have nep:∀ {b:Addr} {o:HO},H1 b=some o->b≠pA:=λ{b o} e z=>by rw[z,hpA] at e;cases e
 have S0:vU H (ar H1 pA (.lst [])) dA lA pA [] ls [] Z []:=⟨t13,hdA,s1.free hlA,t1.free hpA,nel,nep H1d,nep e2,by rw[aR (nep H1d)];show H1d,by rw[aR (nep e2)];show e2,aw,aA.nil,rlZ.mono λ_ _ r=>r.same s3,λa ha=>by simp at ha,λa ha=>⟨(nlZ a ha).1,(nlZ a ha).2.1,(nlZ a ha).2.2,by
  obtain⟨i,hi,rfl⟩:=dZ.mp ha;show ao (rlZ.at' (aG hi)) λzs _ hz=>?_;show nep hz⟩⟩
 show⟨_,rfl,_,rfl,∅,∅,hO (n:=wide) (λi σ H2=>∃ (lA:Addr) (ds ls:List Addr) (done left:List (List Int)) (pl:List Nat) (v6 v7 v8:Option V),σ=[↥g,↥L,⇑wide,↥dA,↥lA,↥pA,v6,v7,v8]/\vU H H2 dA lA pA ds ls done left pl/\Sw p Z i done left pl)
  ⟨lA,[],ls,[],Z,[],none,none,none,rfl,S0,Sw.start⟩ ?_ ?_⟩
 .intro i σ H2 hi e91;show uV e91 λlA ds ls done left pl v6 v7 v8 e98 S sw1=>?_;clear e91;obtain rfl:=e98;have I:=sw1.inv p0 rwZ;have rwl:∀ row∈left,Rw p W row:=λrow hr=>I.rw row (cj.mpr (.inr hr));have zl:=zlen;have ill:=I.all;have idl:=I.len;have smA:=sw Z IR i done left pl ∅ sw1;show fQ λD1 hD1=>?_;simp only[bU,List.set_cons_zero,List.set_cons_succ];show bG λX hX=>?_;left;have ei:(0:Int)+(i:Int)=(i:Int):=∅
  rw[ei];show jc lA ls left i ⟨rfl,S.hl,S.rl,λrow hr=>by rw[(rwl row hr).1];omega,∅,S.sm _ _ hPL,λH3 s3 hz=>?_,λj lead H3 s3 hj hk=>?_⟩
  .subst hX;show cutI λY hY=>?_;left;rw[if_neg ⇑0];subst hD1;show uX _ _ _ _ _ _ _ _ _ ⟨rfl,S.same s3,Sw.skip sw1 hz⟩
  .have S3:=S.same s3;subst hX;dsimp only;show cutI λY hY=>?_;left;rw[if_pos ⇑0];subst hY;show bG λX hX=>?_;left;have hjl:j<left.length:=(b_.mp hj).1;have hjs:j<ls.length:=by have:=S3.rl.1;show dD hjl this
   have ej:ls[j]?=some ls[j]:=aG hjs;have rlead:=S3.rl.2 j _ _ ej hj;have nlead:=S3.nl _ (aY ej);generalize ls[j]=aL at *;have hlm:lead∈left:=aY hj;show⟨tyL S3.hl,_,S3.hl,∅,∅,j,by rw[aB];show seqIx hjs,.ref aL,by rw[bj,ej];rfl,?_⟩;rw[I_];have hlp:ar H3 lA (.lst ((ls.eraseIdx j).map V.ref)) lA=some (.lst ((ls.eraseIdx j).map V.ref)):=aw;have keep:∀ {b:Addr} {o:HO},b≠lA->H3 b=some o->ar H3 lA (.lst ((ls.eraseIdx j).map V.ref)) b=some o:=λn e=>by rw[aR n];show e
   have sm4:aa H (ar H3 lA (.lst ((ls.eraseIdx j).map V.ref))):=S3.sm.upd S3.fl;have re:aA (bO (ar H3 lA (.lst ((ls.eraseIdx j).map V.ref)))) (ls.eraseIdx j) (left.eraseIdx j):=(S3.rl.eraseIdx j).monoM λa _ ha r=>keep (S3.nl a (pe ha)).2.2.1 r;have hd4:=keep S3.ne1 S3.hd;have hp4:=keep (f_ S3.ne3) S3.hp;have rl4:bO (ar H3 lA (.lst ((ls.eraseIdx j).map V.ref))) aL lead:=keep nlead.2.2.1 rlead;have rd4:aA (bO (ar H3 lA (.lst ((ls.eraseIdx j).map V.ref)))) ds done:=S3.rd.monoM λa _ ha r=>keep (S3.nd a ha).2.2.1 r;generalize ar H3 lA (.lst ((ls.eraseIdx j).map V.ref))=H4 at *;have elen:(ls.eraseIdx j).length=(left.eraseIdx j).length:=re.1;subst hX;show bG λX hX=>?_;show⟨_,rfl,lA,rfl,⟨_,aj.of hlp⟩,λD hD=>oS (λi' Hc y=>∃ a:Addr,y=.ref a/\bO Hc a (dE p ((left.eraseIdx j).getD i' []) lead i)/\H a=none/\a≠dA/\a≠D/\a≠pA) (λ⟨a,e,b,c⟩ s=>⟨a,e,b.same s,c⟩) (λ⟨a,e,b,c,d,e',f⟩ hD=>⟨a,e,b.put e',c,d,e',f⟩) hlp hD (by rw[aB];have:=List.length_eraseIdx_le ls j;have:=S3.rl.1;omega) (λi' x H' Q' hx s' ⟨lD,hlD⟩ q'=>?_) (λys H5 s5 e5 hyl hys=>?_)⟩
   .refine ao ((rQ re).at' hx) λrow er e99=>?_;obtain⟨a,rfl,rz⟩:=e99;have hm:row∈left:=pe (aY er);have ha:a∈ls.eraseIdx j:=by
     have:=aY hx;show ao (bR.mp this) λb hb e=>?_;cases e;show hb
    have nla:=S3.nl a (pe ha);have rw1:=rwl row hm;have rw2:=rwl lead hlm;show⟨_,rfl,_,rfl,_,rfl,_,rfl,g,a,aL,p,row,lead,i,rfl,hg.same (sm4.trans s'),hp,rz.same s',rl4.same s',rw1.1.trans rw2.1.symm,by rw[rw1.1];omega,by rw[rw1.1];omega,hk,smA row (cj.mpr (.inr hm)),smA lead (cj.mpr (.inr hlm)),λa' H6 s6 rz' fr=>q' _ H6 s6 ⟨a',rfl,?_,?_⟩⟩
    .rw [cw er];show rz'
    .rcases fr with rfl|fr
     .exact ⟨nla.1,nla.2.1,λz=>(by have e1:H4 a'=some _:=rz;rw[z,hD] at e1;cases e1),nla.2.2.2⟩
     .exact ⟨(sm4.trans s').free fr,λz=>(by rw[z,s' _ _ hd4] at fr;cases fr),λz=>(by rw[z,hlD] at fr;cases fr),λz=>(by rw[z,s' _ _ hp4] at fr;cases fr)⟩
   .rw [aB] at hyl;show ao (vt (P:=λi' a=>bO H5 a (dE p ((left.eraseIdx j).getD i' []) lead i)/\H a=none/\a≠dA/\a≠D/\a≠pA) hys) λbs e910 hbs=>?_;obtain rfl:=e910;rw[aB] at hyl;have neD:∀ {b:Addr} {o:HO},H4 b=some o->b≠D:=λ{b o} e z=>by rw[z,hD] at e;cases e
    have hd5:=s5 _ _ hd4;have hp5:=s5 _ _ hp4;have dlen:=S3.rd.1;have hp6:ar H5 dA (.lst (ds.map V.ref++[V.ref aL])) pA=some (.lst (pl.map λ(j:Nat)=>V.int j)):=by rw[aR (f_ S3.ne2)];show hp5
    subst hX;left;show⟨tyL hd5,_,hd5,by rw[aB];show cT ∅,tyL hp6,_,hp6,by rw[aB];show cT ∅,?_⟩;subst hD1;show uX D (ds++[aL]) bs (done++[lead]) ((left.eraseIdx j).map (λrow=>dE p row lead i)) (pl++[i]) _ _ _ ⟨rfl,⟨?_,hdA,sm4.free hD,S3.fp,neD hd4,S3.ne2,f_ (neD hp4),?_,?_,?_,?_,?_,?_,?_⟩,Sw.take j lead sw1 hj hk⟩
    .exact ((sm4.trans s5).upd hdA).upd S3.fp
    .rw [aR S3.ne2,aw,dW];rfl
    .rw [aR (f_ (neD hp4)),aR (f_ (neD hd4))];show e5
    .rw [aw,dW];rfl
    .refine aA.app (rd4.monoM λa _ ha r=>?_) (aA.one ?_)
     .exact ((r.same s5).put (S3.nd a ha).2.1).put (S3.nd a ha).2.2.2
     .exact ((rl4.same s5).put nlead.2.1).put nlead.2.2.2
    .refine aA.of_get (d:=[]) (by rw[aB];show oz17 elen hyl) λi' b e=>?_;have hi':i'<(left.eraseIdx j).length:=by have:=(b_.mp e).1;omega
     show dj (hbs i' b e) λh1 h2 h3 h4 h5=>?_;rw[cw (show _=some _ by rw[bj,aG hi'];rfl)];rw[cQ hi'] at h1;show (h1.put h3).put h5
    .intro a ha;rcases cj.mp ha with ha|ha
     .have hn:=S3.nd a ha;show⟨hn.1,hn.2.1,?_,hn.2.2.2⟩;obtain⟨i',hi',rfl⟩:=dZ.mp ha;show ao (rd4.at' (aG hi')) λzs _ hz=>?_;show neD hz
     .rw [cS.mp ha];show⟨nlead.1,nlead.2.1,neD rl4,nlead.2.2.2⟩
    .intro a ha;obtain⟨i',hi',rfl⟩:=dZ.mp ha;show dj (hbs i' _ (aG hi')) λh1 h2 h3 h4 h5=>?_;show⟨h2,h3,h4,h5⟩
 .intro σ H2 e92;show uV e92 λlA ds ls done left pl v6 v7 v8 e911 S sw1=>?_;clear e92;obtain rfl:=e911;have I:=sw1.inv p0 rwZ;have d1:=S.rd.1;have d2:=S.rl.1;have ill:=I.all;have zl:=zlen;left;show⟨_,S.hd,_,S.hl,by rw[aB,aB];show gR (cT ∅),λF hF=>⟨⇑0,λt ht=>?_⟩⟩;have s4:=aa.new (o:=.lst (ds.map V.ref++ls.map V.ref)) hF;have s5:=aa.new (o:=.tup [V.ref F,V.ref pA]) ht;have s45:=s4.trans s5;have neF:∀ {b:Addr} {o:HO},H2 b=some o->b≠F:=λ{b o} e z=>by rw[z,hF] at e;cases e
  show q t F pA (ds++ls) Z done left pl _ (S.sm.trans s45) aw (S.sm.free hF) S.fp (f_ (neF S.hp)) (s45 _ _ S.hp) (s5 _ _ (by rw[aw,dW])) ((S.rd.app S.rl).mono λ_ _ r=>r.same s45) (λa ha=>?_) IR sw1;have hn:H a=none/\a≠dA/\a≠lA/\a≠pA:=by
   rcases cj.mp ha with ha|ha
   .exact S.nd a ha
   .exact S.nl a ha
  obtain⟨i',hi',e'⟩:=dZ.mp ha;show ao ((S.rd.app S.rl).at' (aG hi')) λzs _ hz=>?_;rw[e'] at hz;show⟨hn.1,neF hz,hn.2.2.2⟩
theorem mO:((List.range 98).all λp=>decide (p<2) || (List.range p).any (λd=>decide (2<=d) && p % d == 0) || (List.range p).all λr=>r == 0 || (List.range p).any λk=>k*r % p == 1)=true:=⋯
theorem Cz {p b:Int}(hp:jU p)(hb:b % p≠0):∃ k:Nat,1<=k/\(k:Int)<p/\(k:Int)*b % p=1:=by
 show bC hp λp1 p97 hd=>?_;clear hp;have h:=jk.mp mO p.toNat (dU.mpr ∅);have ep:((p.toNat:Nat):Int)=p:=i9 ∅;rw[tX,tX] at h;rcases h with (h|h)|h
 .have:=fc h;omega
 .refine ao (List.any_eq_true.mp h) λd d1 d2=>?_;have d1:=dU.mp d1;rw[o7] at d2;have d3:=fc d2.1;have d4:p.toNat % d=0:=by simpa using d2.2
  show absurd ?_ (hd d ∅ ∅);rw[<- ep,<- Int.natCast_emod,d4];rfl
 .have b0:0<=b % p:=gO _ ∅;have b1:b % p<p:=gA _ (iC p1);have h:=jk.mp h (b % p).toNat (dU.mpr ∅);rw[tX] at h;rcases h with h|h
  .have:(b % p).toNat=0:=by simpa using h
   omega
  .refine ao (List.any_eq_true.mp h) λk k1 k2=>?_;have k1:=dU.mp k1;have k2:k*(b % p).toNat % p.toNat=1:=by simpa using k2
   have k3:(k:Int)*(b % p) % p=1:=by
    have e:(((b % p).toNat:Nat):Int)=b % p:=i9 b0;have:((k*(b % p).toNat % p.toNat:Nat):Int)=1:=by rw[k2];rfl
    rw[Int.natCast_emod,nY,e,ep] at this;show this
   show⟨k,?_,∅,by rw[emulR] at k3;show k3⟩;rcases B9 k with rfl|h
   .simp at k2
   .exact h
theorem Ia {p:Int}(hp:jU p):PrimeN p.toNat:=by
 have p1:=hp.1;have ep:((p.toNat:Nat):Int)=p:=i9 ∅;show⟨∅,λr r0 r1=>?_⟩;obtain⟨k,k1,kp,kr⟩:=Cz (b:=(r:Int)) hp (by rw[kP ∅ ∅];omega);show⟨k,∅,?_⟩;rw[<- ep,<- nY,<- Int.natCast_emod] at kr;omega
theorem oE {p:Int}(hp:af p):∃ (F:Type) (_:Lean.Grind.Field F),aK p F:=by
 rcases hp with rfl|hp
 .exact ⟨Rat,inferInstance,xp⟩
 .have:PrimeN p.toNat:=Ia hp;have h:=Gj (n:=p.toNat);rw[i9 (by have:=hp.1;omega)] at h;show⟨Zp p.toNat,inferInstance,h⟩
theorem lU {p:Int}(hp:af p)(h:p≠0):(1:Int) % p≠0:=by
 rcases hp with h'|h'
 .exact absurd h' h
 .rw [kP ⇑0 h'.1];decide
theorem El {p:Int}(hp:af p):de p 1=(1,1):=by
 unfold de;split
 .rfl
 .rw [kP ⇑0];rcases hp with h|⟨h,_⟩ <;> omega
theorem newrows {lo:Int}{n:Nat}{D:Addr}{fr:List (Str×Nat)}{σ:L2.St}{te:TE}{H1:Hp}{Q:VK}{p:Int}(M:Nat->List Nv)(hD:H1 D=none)(hn:n<=1000)(h:∀ (i:Nat) H (Q:VK),i<n->aa H1 H->(∀ a H',H a=none->aa H H'->aV H' p a (M i)->Q (.ref a) H')->te (some (.int (lo+(i:Nat)))::cy fr σ) H Q)(hQ:∀ (rs:List Addr) H',aa H1 H'->H' D=some (.lst (rs.map V.ref))->aA (aV H' p) rs ((List.range n).map M)->D∉rs->rs.Nodup->(∀ a∈rs,H1 a=none)->Q (.ref D) H'):eZ (bU 0) dh te (ja lo n) D (dP 1 fr σ) H1 Q:=by
 show vC (n:=n) (λi vs H=>∃ rs:List Addr,vs=rs.map V.ref/\aa H1 H/\H D=some (.lst (rs.map V.ref))/\aA (aV H p) rs ((List.range i).map M)/\D∉rs/\rs.Nodup/\∀ a∈rs,H1 a=none) ⟨[],rfl,aa.new hD,aw,aA.nil,by simp,by simp,by simp⟩ ?_ (λvs H ⟨rs,e,a,b,c,d,f,g⟩=>hQ rs H a b c d f g);intro i x vs σ' H hi e91;obtain rfl:=e91;intro sh e92;show uP e92 λrs e93 s e al nD e94=>?_;clear e92;obtain rfl:=e93;obtain⟨nd,fr⟩:=e94;obtain⟨z,rfl⟩:=sh.one;simp only[gD,bU,dh,List.set_cons_zero,fm];show h i H _ hi s λa H' ha s' rv=>?_;have nDa:D≠a:=bV e ha;have na:a∉rs:=λz=>by
  obtain⟨j,hj,ej⟩:=dZ.mp z;show ao (al.at' (aG hj)) λ_ _ e95=>?_;obtain⟨us,hu,_⟩:=e95;rw[ej,ha] at hu;cases hu
 have l1:=al.1;rw[aB,dq] at l1;show gj (ws:=rs.map V.ref++[.ref a]) hi Sh.mk1 (s' _ _ e) (cT (by rw[aB];omega)) ⟨rs++[a],i6 _ _,(s.trans s').upd hD,by rw[aw,i6],?_,λz=>?_,?_,λb hb=>?_⟩
 .rw [i_,dW];show (al.monoM λc x hc k=>(k.same s').put (s' _ _ e) (λz=>nD (z ▸ hc))).app (aA.one (rv.put (s' _ _ e) nDa.symm))
 .rcases cj.mp z with h|h
  .exact nD h
  .exact nDa (cS.mp h)
 .rw [BZ];show⟨nd,by simp,λx hx y hy e=>na (by rw[<- cS.mp hy,<- e];show hx)⟩
 .rcases cj.mp hb with h|h
  .exact fr b h
  .rw [cS.mp h];show s.free ha
theorem vM (p:Int):de p 0=(0,1):=by
 unfold de;split
 .rfl
 .rw [Int.zero_emod]
theorem rep1 (n:Nat)(v:V):(List.replicate n [v]).flatten=List.replicate n v:=by
 induction n with
 | zero=>rfl
 | succ n ih=>rw[pd,t9,ih,pd];rfl
noncomputable abbrev zR (n:Nat):List Nv:=List.replicate n (0,1)
noncomputable abbrev zM (h n:Nat):Mv:=(List.range h).map λ_=>zR n
noncomputable abbrev eR (n i:Nat):List Nv:=(zR n).set i (1,1)
abbrev di (n:Nat):Mv:=(List.range n).map λi=>eR n i
end
section
variable {p:Int}{F:Type}[Lean.Grind.Field F]
noncomputable def vN (xs:List Nv):Nat->F:=λj=>nm (xs.getD j (0,1))
theorem oQ:(nm ((0,1):Nv):F)=0:=by
 unfold nm;rw[oP,iF];have:=kj (F:=F)
 grind
theorem sX {xs:List Nv}{j:Nat}(h:xs.length<=j):(vN xs j:F)=0:=by
 unfold vN;rw[aW,dH h];show oQ
theorem uL {xs:List Nv}{j:Nat}{x:Nv}(h:xs[j]?=some x):(vN xs j:F)=nm x:=by
 unfold vN;rw[aW,h];rfl
theorem w4 {α:Type}{f:α->Nat->F}{Z:List α}{i:Nat}{d:α}(h:i<Z.length):at' (Z.map f) i=f (Z.getD i d):=by
 change (Z.map f).getD i zv=_;rw[aW,bj,aG h,aW,aG h];rfl
theorem Iw {L L':List (Nat->F)}(hl:L.length=L'.length)(h:∀ i,i<L.length->∃ c:F,c≠0/\∀ j,at' L i j=c*at' L' i j):bA L L':=by
 show⟨λv hv=>?_,λv hv=>?_⟩
 .refine ao (jY hv zv) λi hi e=>?_;show ao (h i hi) λc _ hc=>?_;have e1:v=λj=>c*at' L' i j:=by rw[<- e];show funext hc
  rw[e1];show Sp.smul c (.mem (ef (bM hl hi)))
 .refine ao (jY hv zv) λi hi e=>?_;show ao (h i (oz8 hl hi)) λc c0 hc=>?_;have e1:v=λj=>(1 / c)*at' L i j:=by
   rw[<- e];show funext λj=>?_;rw[hc j];change at' L' i j=_
   grind
  rw[e1];show Sp.smul _ (.mem (ef (oz8 hl hi)))
theorem uc (hF:aK p F){xs:List Nv}{zs:List Int}{b:Int}(h:vQ p xs zs b)(hx:∀ x∈xs,bc p x)(j:Nat):(vz zs j:F)=ic b*vN xs j:=by
 have e:=h.eq j;have e2:(ic (zs.getD j 0):F)*ic (xs.getD j (0,1)).2=ic (xs.getD j (0,1)).1*ic b:=by rw[<- eN,<- eN,e]
 have b2:(ic (xs.getD j (0,1)).2:F)≠0:=by
  by_cases hj:j<xs.length
  .rw [cQ hj];show hF.bot (hx _ (dm hj))
  .rw [aW,dH (d8 hj)];change (ic 1:F)≠0;rw[iF];show kj
 unfold vz vN nm;generalize (ic (zs.getD j 0):F)=u at *;generalize (ic (xs.getD j (0,1)).1:F)=v at *;generalize (ic (xs.getD j (0,1)).2:F)=t at *
 grind
theorem yz (hF:aK p F){xs:List Nv}{zs:List Int}{b:Int}(h:vQ p xs zs b):(ic b:F)≠0:=by
 by_cases hp:p=0
 .exact hF.ne0 (.inl hp) (by have:=h.pos;omega)
 .rw [h.one hp,iF];show kj
theorem qT (hF:aK p F){k:Nat}{Z:List (List Int)}{M:Mv}(h:rK p k Z M)(hM:∀ xs∈M,∀ x∈xs,bc p x):bA (F:=F) (Z.map vz) (M.map vN):=by
 have hl:=h.1;show Iw (by rw[aB,aB];show hl) λi hi=>?_;rw[aB] at hi;show cF (h.2 i _ _ (aG hi) (aG (show i<M.length by show bM hl hi))) λws b w1 _ e=>?_;rw[w4 (d:=[]) hi,w4 (d:=[]) (show i<M.length by show bM hl hi),cQ hi,cQ (show i<M.length by show bM hl hi),e];show ao (D7 hF ws) λc c0 hc=>?_;show⟨ic b / c,?_,λj=>?_⟩
 .have:=yz hF w1
  grind
 .have e1:=hc j;rw[uc hF w1 (hM _ (dm _)) j] at e1;generalize (vz (dQ p ws) j:F)=y at *
  grind
end
theorem G1 {p:Int}{W:Nat}{row:List Int}(h0:p≠0)(p97:p<=97)(h:Rw p W row):aP 7 row:=λz hz=>by
 rcases h.2 z hz with e|⟨e1,e2⟩
 .exact absurd e h0
 .exact dF (aQ _) ∅
theorem Ja {p:Int}{k W:Nat}{Z:List (List Int)}{M:Mv}(hp:af p)(h7:7<=k)(h:rK p k Z M)(wd:∀ xs∈M,xs.length=W):∀ row∈Z,aP ((W+1)*k) row:=λrow hr=>by
 obtain⟨i,hi,e⟩:=dZ.mp hr;show ao (h.at' (i:=i) (x:=row) (by rw[aG hi,e])) λxs ex e91=>?_;obtain⟨ws,b,w1,sm,rfl⟩:=e91;rw[wd xs (aY ex)] at sm;show Iv hp.lo hp.hi (by rw[i7];omega) λ_=>sm
end Pf
set_option maxHeartbeats 1000000
namespace Pf
open PySem L2 L3 PyProof.Rows
section
variable {F:Type}[Lean.Grind.Field F]
theorem qG:(nm ((1,1):Nv):F)=1:=by
 unfold nm;rw[iF];have:=kj (F:=F)
 grind
theorem vv {n i j:Nat}(hi:i<n)(hj:j<n):(vN ((di n).getD i []) j:F)=del i j:=by
 have e:(di n).getD i []=eR n i:=by
  rw[aW,bj,gB hi];rfl
 rw[e];unfold vN;rw[aW,wt];change _=if i=j then (1:F) else 0
 by_cases h:i=j
 .subst h;rw[if_pos rfl,if_pos (by rw[eM];show hi),if_pos rfl];show qG
 .rw [if_neg h,if_neg h,sG,if_pos hj];show oQ
end
theorem w6 {p:Int}(hp:af p):bc p (0,1)/\bc p (1,1):=by
 have h0:=gJ (p:=p) (k:=0) hp.lo;have h1:=gJ (p:=p) (k:=1) hp.lo;rw[vM] at h0;rw[El hp] at h1;show⟨h0,h1⟩
section
variable {p:Int}{F:Type}[Lean.Grind.Field F]
end
section
variable {G PL cL:Addr}
structure aU (H:Hp)(p:Int)(k n wd:Nat)(t r:Addr)(rs:List Addr)(M:Mv):Prop where
 tv:cN H p n wd t r rs M
 hl:M.length=n
 hw:∀ xs∈M,xs.length=wd
 gd:∀ xs∈M,aH p k xs
theorem aU.same {H H':Hp}{p:Int}{k n wd:Nat}{t r:Addr}{rs:List Addr}{M:Mv}(h:aU H p k n wd t r rs M)(s:aa H H'):aU H' p k n wd t r rs M:=⟨h.tv.same s,h.hl,h.hw,h.gd⟩
theorem Iu {a D:Addr}{p:Int}{fr:List (Str×Nat)}{σ:L2.St}{te:TE}{H1:Hp}{Q:VK}{as:List Addr}{M:Mv}(f:List Nv->List Nv)(ha:H1 a=some (.lst (as.map V.ref)))(rv:aA (aV H1 p) as M)(hD:H1 D=none)(hn:as.length<=1000)(h:∀ (b:Addr) xs H (Q:VK),xs∈M->aV H p b xs->aa H1 H->(∀ c H',H c=none->aa H H'->aV H' p c (f xs)->Q (.ref c) H')->te (↥b::cy fr σ) H Q)(hQ:∀ (rs:List Addr) H',aa H1 H'->H' D=some (.lst (rs.map V.ref))->aA (aV H' p) rs (M.map f)->D∉rs->(∀ b∈rs,H1 b=none)->Q (.ref D) H'):eZ (bU 0) dh te (jq K a) D (dP 1 fr σ) H1 Q:=by
 show oS (λi Hc y=>∃ b,y=.ref b/\aV Hc p b ((M.map f).getD i [])/\b≠D/\H1 b=none) (λ⟨a,e,b,c⟩ s=>⟨a,e,b.same s,c⟩) (λ⟨a,e,b,c,d⟩ hD=>⟨a,e,b.put hD c,c,d⟩) ha hD (by rw[aB];show hn) (λi x H' Q' hx s' ⟨lD,hlD⟩ q'=>?_) (λys H' s' h' hyl hys=>?_)
 .refine ao ((rQ rv).at' hx) λxs er e91=>?_;obtain⟨b,rfl,rb⟩:=e91;show h b xs H' Q' (aY er) (rb.same s') s' λc H2 hc s2 rc=>q' _ H2 s2 ⟨c,rfl,?_,(bV hlD hc).symm,s'.free hc⟩;rw[cw (show _=some _ by rw[bj,er];rfl)];show rc
 .rw [aB] at hyl;obtain⟨rs',rfl,a2,nD,fr⟩:=zI (D:=D) (H1:=H1) (p:=p) (M:=M.map f) (by rw[aB,<- rv.1];show hyl) hys;show hQ rs' H' s' h' a2 nD fr
end
end Pf
namespace Pf
open PySem L2 PyProof.Rows
section
variable {C G S:Addr}
theorem qE (F:⇑("_law_bag",Af))(T:⇑()):⇑[1,["_law_cell_here"],spBag]:=by
 exists Jf,ao,1
 show ao h λc e93 q=>?_;clear h;subst e93;show⟨_,((@bI _ _ _ _ _ _ _ _ (bX jL (ae 0) ((opJ CI)<|>aq<&&>aq) (bo _)) (~~~(@dJ _ _ _ _ ((ae 0)<&>(((opJ fY)<|>(ae 0)<&&>aq)<&>ah)))) bJ)<*>(~~~(@dJ _ _ _ _ (aq<&>(((opJ fY)<|>((g7 eL)<|>((opJ jV)<|>((opJ fY)<|>(ae 0)<&&>aq)<&&>aq)<&&>aq)<&&>aq)<&>ah))))),?_⟩;left;show⟨cpow _ ⇑0 ⇑0,bH (λ_=>?_) (λ_=>?_)⟩
 .exact ⟨⇑0,⇑0,λp hp=>q p _ _ hp (ve _ _ ⇑0) (vc _ _ ⇑0)⟩
 .exact ⟨⇑0,.inr ⟨⇑0,⇑0⟩,⇑0,⇑0,λp hp=>q p _ _ hp (ve _ _ ⇑0) (vc _ _ ⇑0)⟩
theorem mj (F:⇑("_law_draw",AE))(T:⇑()):⇑[1,["_law_bag_here","_law_many"],jf]:=by
 exists Jt,nI,4
 show cZ h λl a b n e95 hl b0 e96=>?_;clear h;subst e95;show cA e96 λb1 n0 n1 q=>?_;clear e96;show⟨_,((@bI _ _ _ _ _ _ _ _ (bX gF ((ixJ a_)<|>(ae 0)<||>aq) aq (bo _)) ((2|||nd|||(fY<|>((ixJ a_)<|>(ae 0)<||>aq)<&&>(ae 1)))<*>((d9 (xx<|>((ixJ a_)<|>(ae 0)<||>aq)<&&>(ae 1)) (iZ (ae 0) aq i5))<*>(~~~(ae 2)))) bJ)<*>((d9 (fY<|>(eL<|>(jV<|>((ixJ a_)<|>(ae 0)<||>aq)<&&>aq)<&&>aq)<&&>aq) (iZ (ae 0) aq i5))<*>(~~~(fY<|>(xx<|>(fY<|>(jV<|>((ixJ a_)<|>(ae 0)<||>aq)<&&>(eL<|>(xx<|>((ixJ a_)<|>(ae 0)<||>aq)<&&>aq)<&&>aq))<&&>aq)<&&>aq)<&&>(ae 1))))),?_⟩;left;show⟨_,aj.of hl,_,rfl,_,rfl,bH (λhc=>?_) (λhc=>?_)⟩
 .refine ⟨_,aj.of hl,_,rfl,_,rfl,n0,_,aj.of hl,_,rfl,_,rfl,⟨n0,∅⟩,_,hl,_,rfl,?_⟩;show q _ _ _ (ve _ _ n0) (vc _ _ n0) b0 b1
 .refine ⟨_,aj.of hl,_,rfl,_,rfl,.inr ⟨⇑0,⇑0⟩,⇑0,_,hl,_,rfl,_,aj.of aw,_,rfl,_,aj.of aw,_,rfl,_,rfl,⟨⇑0,⇑0⟩,_,rfl,?_⟩;have h1:=ve (b*48271+4099) 2147483647 ⇑0;have h2:=vc (b*48271+4099) 2147483647 ⇑0;show⟨.inl ⟨∅,∅⟩,⇑0,⟨⇑0,⇑0⟩,n0,?_⟩;show q _ _ _ (ve _ _ n0) (vc _ _ n0) h1 h2
def yE:Sp:=λvs H Q _=>∃ a b:Int,vs=[.int a,.int b]/\Q (.int (Int.gcd a b:Int)) H
theorem qr (F:⇑("_law_gcd",Ag))(T:⇑()):⇑[1,["_law_one","_law_two"],yE]:=by
 exists Jg,cE,2
 show cE h λa b e98 q=>?_;clear h;subst e98;show⟨_,((0|||nd|||(cg oR rfl T.n_abs o4 ((ae 0)<&>ah)))<*>((1|||nd|||(cg oR rfl T.n_abs o4 ((ae 1)<&>ah)))<*>((vH cX (iI gF (pv 1) aq (bo _)) ((2|||nd|||((opJ fY)<|>(ae 0)<&&>(ae 1)))<*>((0|||nd|||(ae 1))<*>(@bE _ _ _ (1|||nd|||(ae 2))))))<*>(~~~(ae 0))))),?_⟩;left;have ea:(if a<0 then -a else a)=(a.natAbs:Int):=by split <;> omega
 have eb:(if b<0 then -b else b)=(b.natAbs:Int):=by split <;> omega
 rw[ea,eb];show⟨λn σ H2=>∃ (x y:Int) (v:Option V),σ=[⇑x,⇑y,v]/\H2=H/\0<=x/\0<=y/\n=y.toNat/\Int.gcd x y=Int.gcd a b,⟨_,_,_,none,rfl,rfl,oz42,oz42,rfl,by unfold Int.gcd;rfl⟩,?_⟩;intro n σ H2 e91;show cK e91 λx y v e99 e910 hx e911=>?_;clear e91;obtain rfl:=e99;obtain rfl:=e910;show bC e911 λhy e912 hg=>?_;clear e911;obtain rfl:=e912;left;show bH (λhc=>?_) (λhc=>?_)
 .have y1:0<y:=fc hc;have l1:=gO x (show y≠0 by omega);have l2:=gA x y1;show⟨_,λ_ _ h=>h,?_⟩;left;show⟨y1,_,∅,y,x % y,_,⟨rfl,rfl,rfl⟩,∅,l1,rfl,by rw[EJ];show hg⟩
 .have hy0:¬ 0<y:=λz=>hc (cf z);have hy0:y=0:=∅
  subst hy0;have e:x=(Int.gcd a b:Int):=by
   rw[<- hg,Int.gcd_zero];omega
  rw[<- e] at q;show q
def rD:Sp:=λvs H Q _=>∃ p k:Int,vs=[.int p,.int k]/\af p/\∀ v H',aa H H'->aF H' p v (de p k)->Q v H'
theorem qp (F:⇑("_law_int",Ah))(T:⇑()):⇑[1,["_law_p","_law_k"],rD]:=by
 exists Jh,cE,2
 show cF h λp k e914 hp q=>?_;clear h;subst e914;have p0:=hp.lo;show⟨_,((@bI _ _ _ _ _ _ _ _ (bX (g7 gF) (ae 0) aq (bo _)) (~~~((opJ fY)<|>(ae 1)<&&>(ae 0))) bJ)<*>(~~~(@bQ _ _ _ _ _ ((ae 1)<&>(aq<&>ah))))),?_⟩;left;show bH (λhc=>?_) (λhc=>?_)
 .have hc:=fc hc;show⟨hc,q _ H (aa.refl _) ?_⟩;have:=aF.of (H:=H) (x:=de p k) (show ¬ p=0 by omega);rw[de,if_neg ∅] at this ⊢;show this
 .have hc:¬ 0<p:=λz=>hc (cf z);have hp0:p=0:=∅
  show⟨⇑0,λt ht=>q _ _ (aa.new ht) ?_⟩;rw[de,if_pos hp0];show aF.tup hp0 aw
end
end Pf
namespace Pf
open PySem L2 L3 PyProof.Rows
section
variable {p:Int}{F:Type}[Lean.Grind.Field F]
theorem gH {α:Type}{L:List α}{k i:Nat}{v d:α}(hk:k<L.length):(L.set k v).getD i d=if i=k then v else L.getD i d:=by
 rw[aW,wt,aW];by_cases h:i=k
 .subst h;rw[if_pos rfl,if_pos rfl,if_pos hk];rfl
 .rw [if_neg (λz=>h z.symm),if_neg h]
theorem zE {L L':List (Nat->F)}(h1:∀ i,i<L.length->gN L' (at' L i))(h2:∀ i,i<L'.length->gN L (at' L' i)):bA L L':=by
 show⟨λv hv=>?_,λv hv=>?_⟩
 .refine ao (jY hv zv) λi hi e=>?_;have:=h1 i hi;rwa [show at' L i=v from e] at this
 .refine ao (jY hv zv) λi hi e=>?_;have:=h2 i hi;rwa [show at' L' i=v from e] at this
theorem Iy {L L':List (Nat->F)}{k:Nat}(hl:L'.length=L.length)(hk:k<L.length)(a:F)(ha:a≠0)(h:∀ i,i<L.length->i≠k->at' L' i=at' L i)(e:∀ j,at' L' k j=a*at' L k j):bA L' L:=by
 show zE (λi hi=>?_) (λi hi=>?_)
 .by_cases hik:i=k
  .subst hik;rw[show at' L' i=λj=>a*at' L i j from funext e];show Sp.smul a (.mem (ef hk))
  .rw [h i (bM hl hi) hik];show .mem (ef (bM hl hi))
 .by_cases hik:i=k
  .subst hik;rw[show at' L i=λj=>(1 / a)*at' L' i j from funext λj=>by rw[e j];change at' L i j=_;grind];show Sp.smul _ (.mem (ef (oz8 hl hi)))
  .rw [<- h i hi hik];show .mem (ef (oz8 hl hi))
theorem Ih {L L':List (Nat->F)}{k d:Nat}(hl:L'.length=L.length)(hk:k<L.length)(hd:d<L.length)(hne:d≠k)(b:F)(h:∀ i,i<L.length->i≠k->at' L' i=at' L i)(e:∀ j,at' L' k j=at' L k j+b*at' L d j):bA L' L:=by
 show zE (λi hi=>?_) (λi hi=>?_)
 .by_cases hik:i=k
  .subst hik;rw[show at' L' i=λj=>1*at' L i j+b*at' L d j from funext λj=>by rw[e j];change at' L i j+_=_;grind];show .comb 1 b (.mem (ef hk)) (.mem (ef hd))
  .rw [h i (bM hl hi) hik];show .mem (ef (bM hl hi))
 .by_cases hik:i=k
  .subst hik;rw[show at' L i=λj=>1*at' L' i j+(-b)*at' L' d j from funext λj=>by rw[h d hd hne,e j];change at' L i j=_;grind];show .comb 1 (-b) (.mem (ef (oz8 hl hi))) (.mem (ef (oz8 hl hd)))
  .rw [<- h i hi hik];show .mem (ef (oz8 hl hi))
theorem Ii {L L':List (Nat->F)}{s d:Nat}(hl:L'.length=L.length)(hs:s<L.length)(hd:d<L.length)(h:∀ i,i<L.length->at' L' i=if i=d then at' L s else if i=s then at' L d else at' L i):bA L' L:=by
 show zE (λi hi=>?_) (λi hi=>?_)
 .rw [h i (bM hl hi)];split
  .exact .mem (ef hs)
  .split
   .exact .mem (ef hd)
   .exact .mem (ef (bM hl hi))
 .by_cases h1:i=d
  .subst h1;have e:=h s hs;by_cases h2:s=i
   .rw [if_pos h2,h2] at e;rw[<- e];show .mem (ef ∅)
   .rw [if_neg h2,if_pos rfl] at e;rw[<- e];show .mem (ef (oz8 hl hs))
  .by_cases h2:i=s
   .subst h2;have e:=h d hd;rw[if_pos rfl] at e;rw[<- e];show .mem (ef (oz8 hl hd))
   .have e:=h i hi;rw[if_neg h1,if_neg h2] at e;rw[<- e];show .mem (ef (oz8 hl hi))
structure iO (F:Type)[Lean.Grind.Field F](n c:Nat)(M0 M:Mv)(pl:List Nat):Prop where
 ml:M.length=n
 dl:pl.length<=n
 asc:∀ i j,i<j->j<pl.length->pl.getD i 0<pl.getD j 0
 lt:∀ i,i<pl.length->pl.getD i 0<c
 one:∀ i,i<pl.length->(vN (M.getD i []) (pl.getD i 0):F)=1
 col:∀ i k,i<n->k<pl.length->i≠k->(vN (M.getD i []) (pl.getD k 0):F)=0
 low:∀ i j,i<pl.length->j<pl.getD i 0->(vN (M.getD i []) j:F)=0
 zer:∀ i j,pl.length<=i->i<n->j<c->(vN (M.getD i []) j:F)=0
 sp:bA (F:=F) (M.map vN) (M0.map vN)
theorem iO.start {n:Nat}{M:Mv}(h:M.length=n):iO F n 0 M M []:=
 ⟨h,fE _,λi j _ h=>by simp at h,λi h=>by simp at h,λi h=>by simp at h,λi k _ h=>by simp at h,λi j h=>by simp at h,λi j _ _ h=>∅,bA.refl _⟩
theorem iO.skip {n c:Nat}{M0 M:Mv}{pl:List Nat}(h:iO F n c M0 M pl)(hz:∀ i,pl.length<=i->i<n->(vN (M.getD i []) c:F)=0):iO F n (c+1) M0 M pl:=
 ⟨h.ml,h.dl,h.asc,λi hi=>o9 (h.lt i hi),h.one,h.col,h.low,λi j h1 h2 h3=>by
  by_cases e:j=c
  .subst e;show hz i h1 h2
  .exact h.zer i j h1 h2 (oA h3 e),h.sp⟩
structure j6 (F:Type)[Lean.Grind.Field F](n c k:Nat)(M0 M:Mv)(pl:List Nat):Prop where
 ml:M.length=n
 dl:pl.length<n
 asc:∀ i j,i<j->j<pl.length->pl.getD i 0<pl.getD j 0
 lt:∀ i,i<pl.length->pl.getD i 0<c
 one:∀ i,i<pl.length->(vN (M.getD i []) (pl.getD i 0):F)=1
 col:∀ i k,i<n->k<pl.length->i≠k->(vN (M.getD i []) (pl.getD k 0):F)=0
 low:∀ i j,i<pl.length->j<pl.getD i 0->(vN (M.getD i []) j:F)=0
 zer:∀ i j,pl.length<=i->i<n->j<c->(vN (M.getD i []) j:F)=0
 pv:(vN (M.getD pl.length []) c:F)=1
 cl:∀ i,i<k->i<n->i≠pl.length->(vN (M.getD i []) c:F)=0
 sp:bA (F:=F) (M.map vN) (M0.map vN)
theorem fK {M:Mv}{i:Nat}(h:i<M.length):at' (M.map (vN (F:=F))) i=vN (M.getD i []):=w4 h
theorem iO.lead {n c s:Nat}{M0 M M':Mv}{pl:List Nat}{a:F}(h:iO F n c M0 M pl)(hs:pl.length<=s)(hsn:s<n)(ha:(vN (M.getD s []) c:F)*a=1)(hl:M'.length=n)(e1:∀ j,(vN (M'.getD pl.length []) j:F)=a*vN (M.getD s []) j)(e2:∀ i,i<n->i≠pl.length->(vN (M'.getD i []):Nat->F)=if i=s then vN (M.getD pl.length []) else vN (M.getD i [])):j6 F n c 0 M0 M' pl:=by
 have dn:pl.length<n:=∅
 have ml:=h.ml;have a0:a≠0:=λz=>by
  rw[z] at ha;show kj (F:=F) (by rw[<- ha];grind)
 have eq:∀ i,i<pl.length->(vN (M'.getD i []):Nat->F)=vN (M.getD i []):=λi hi=>by rw[e2 i (oz27 dn hi) ∅,if_neg ∅]
 show⟨hl,dn,h.asc,h.lt,λi hi=>by rw[eq i hi];show h.one i hi,λi k hi hk hne=>?_,λi j hi hj=>by rw[eq i hi];show h.low i j hi hj,λi j h1 h2 h3=>?_,?_,λi hi=>∅,?_⟩
 .by_cases hd:i=pl.length
  .rw [hd,e1,h.col s k hsn hk ∅]
   grind
  .rw [e2 i hi hd];split
   .exact h.col _ k dn hk ∅
   .exact h.col i k hi hk hne
 .by_cases hd:i=pl.length
  .rw [hd,e1,h.zer s j hs hsn h3]
   grind
  .rw [e2 i h2 hd];split
   .exact h.zer _ j (aQ _) dn h3
   .exact h.zer i j h1 h2 h3
 .rw [e1]
  grind
 .-- swap,then divide
  show bA.trans ?_ h.sp;have hM:(M.map (vN (F:=F))).length=n:=by rw[aB];show ml
  have step1:=Iy (L:=(((M.set s (M.getD pl.length [])).set pl.length (M.getD s [])).map (vN (F:=F)))) (L':=M'.map vN) (k:=pl.length) (by rw[aB,aB,dC,dC];show oz39 hl ml) (by rw[aB,dC,dC];show dD dn ml) a a0
   (λi hi hne=>by
    rw[aB,dC,dC] at hi;rw[fK (oz40 hl ml hi),fK (by rw[dC,dC];omega),e2 i (bM ml hi) hne,gH (by rw[dC];show dD dn ml),if_neg hne,gH (dD hsn ml)];split <;> rfl)
   (λj=>by
    rw[fK (oz8 hl dn),fK (by rw[dC,dC];show dD dn ml),e1,gH (by rw[dC];show dD dn ml),if_pos rfl])
  show step1.trans (Ii (s:=s) (d:=pl.length) (by simp) (dD hsn hM) (dD dn hM) λi hi=>?_);rw[hM] at hi;rw[fK (by rw[dC,dC];show oz8 ml hi),gH (by rw[dC];show dD dn ml),gH (dD hsn ml),fK (dD hsn ml),fK (dD dn ml),fK (oz8 ml hi)];split
  .rfl
  .split <;> rfl
theorem j6.skip {n c k:Nat}{M0 M:Mv}{pl:List Nat}(h:j6 F n c k M0 M pl)(hz:k≠pl.length->k<n->(vN (M.getD k []) c:F)=0):j6 F n c (k+1) M0 M pl:=
 ⟨h.ml,h.dl,h.asc,h.lt,h.one,h.col,h.low,h.zer,h.pv,λi h1 h2 h3=>by
  by_cases e:i=k
  .subst e;show hz h3 h2
  .exact h.cl i (oA h1 e) h2 h3,h.sp⟩
theorem j6.take {n c k:Nat}{M0 M M':Mv}{pl:List Nat}(h:j6 F n c k M0 M pl)(hk:k<n)(hkd:k≠pl.length)(hl:M'.length=n)(e1:∀ j,(vN (M'.getD k []) j:F)=vN (M.getD k []) j+(-vN (M.getD k []) c)*vN (M.getD pl.length []) j)(e2:∀ i,i<n->i≠k->M'.getD i []=M.getD i []):j6 F n c (k+1) M0 M' pl:=by
 have ml:=h.ml;have dn:=h.dl;have zd:∀ j,j<c->(vN (M.getD pl.length []) j:F)=0:=λj hj=>h.zer _ j (aQ _) dn hj;show⟨hl,dn,h.asc,h.lt,λi hi=>?_,λi l hi hl' hne=>?_,λi j hi hj=>?_,λi j h1 h2 h3=>?_,?_,λi h1 h2 h3=>?_,?_⟩
 .by_cases hik:i=k
  .subst hik;rw[e1,zd _ (h.lt i hi),h.one i hi]
   grind
  .rw [e2 i (oz27 dn hi) hik];show h.one i hi
 .by_cases hik:i=k
  .subst hik;rw[e1,zd _ (h.lt l hl'),h.col i l hi hl' hne]
   grind
  .rw [e2 i hi hik];show h.col i l hi hl' hne
 .by_cases hik:i=k
  .subst hik;rw[e1,zd j (by have:=h.lt i hi;omega),h.low i j hi hj]
   grind
  .rw [e2 i (oz27 dn hi) hik];show h.low i j hi hj
 .by_cases hik:i=k
  .subst hik;rw[e1,zd j h3,h.zer i j h1 h2 h3]
   grind
  .rw [e2 i h2 hik];show h.zer i j h1 h2 h3
 .rw [e2 _ dn (f_ hkd)];show h.pv
 .by_cases hik:i=k
  .subst hik;rw[e1,h.pv]
   grind
  .rw [e2 i h2 hik];show h.cl i (oA h1 hik) h2 h3
 .refine bA.trans (Ih (k:=k) (d:=pl.length) (by rw[aB,aB];show oz39 hl ml) (by rw[aB];show dD hk ml) (by rw[aB];show oz8 ml dn) (f_ hkd) (-vN (M.getD k []) c) (λi hi hne=>?_) λj=>?_) h.sp
  .rw [aB] at hi;rw[fK (oz40 hl ml hi),fK hi,e2 i (bM ml hi) hne]
  .rw [fK (dD hk hl),fK (dD hk ml),fK (oz8 ml dn)];show e1 j
theorem j6.next {n c:Nat}{M0 M:Mv}{pl:List Nat}(h:j6 F n c n M0 M pl):iO F n (c+1) M0 M (pl++[c]):=by
 have dn:=h.dl;have gl:∀ {i:Nat},i<pl.length->(pl++[c]).getD i 0=pl.getD i 0:=λ{i} hi=>by rw[kG,if_pos hi]
 have gd:(pl++[c]).getD pl.length 0=c:=by rw[kG,if_neg ∅,if_pos rfl]
 have ll:(pl++[c]).length=pl.length+1:=by rw[bN];rfl
 show⟨h.ml,∅,λi j hij hj=>?_,λi hi=>?_,λi hi=>?_,λi k hi hk hne=>?_,λi j hi hj=>?_,λi j h1 h2 h3=>?_,h.sp⟩
 .rw [ll] at hj;rw[gl ∅];by_cases e:j<pl.length
  .rw [gl e];show h.asc i j hij e
  .rw [show j=pl.length by show oz14 hj e,gd];show h.lt i ∅
 .rw [ll] at hi;by_cases e:i<pl.length
  .rw [gl e];show o9 (h.lt i e)
  .rw [show i=pl.length by show oz14 hi e,gd];omega
 .rw [ll] at hi;by_cases e:i<pl.length
  .rw [gl e];show h.one i e
  .rw [show i=pl.length by show oz14 hi e,gd];show h.pv
 .rw [ll] at hk;by_cases e:k<pl.length
  .rw [gl e];show h.col i k hi e hne
  .have ek:k=pl.length:=by show oz14 hk e
   rw[ek,gd];show h.cl i hi hi ∅
 .rw [ll] at hi;by_cases e:i<pl.length
  .rw [gl e] at hj;show h.low i j e hj
  .have ei:i=pl.length:=by show oz14 hi e
   rw[ei,gd] at hj;rw[ei];show h.zer _ j (aQ _) dn hj
 .rw [ll] at h1;by_cases e:j=c
  .subst e;show h.cl i h2 h2 ∅
  .exact h.zer i j ∅ h2 (oA h3 e)
theorem iO.rr {n wd:Nat}{M0 M:Mv}{pl:List Nat}(h:iO F n wd M0 M pl):RR (M.map (vN (F:=F))) wd pl.length (λi=>pl.getD i 0):=by
 have ml:=h.ml;have dl:=h.dl;show⟨by rw[aB];omega,h.lt,λi k h1 h2=>h.asc i k h1 h2,λi k hi hk=>?_,λi j hi hj=>?_,λi j hi hi2 hj=>?_⟩
 .rw [fK ∅];change _=if i=k then (1:F) else 0
  by_cases e:i=k
  .subst e;rw[if_pos rfl];show h.one i hi
  .rw [if_neg e];show h.col i k ∅ hk e
 .rw [fK ∅];show h.low i j hi hj
 .rw [aB] at hi2;rw[fK hi2];show h.zer i j hi (bM ml hi2) hj
end
def cq (p:Int)(n wd:Nat)(M:Mv)(r:Nat):Prop:=∀ (F:Type) [Lean.Grind.Field F],aK p F->Rk (λi j=>(vN (M.getD i []) j:F)) n wd r
theorem ue {p:Int}{k n wd:Nat}{Z done left:List (List Int)}{M:Mv}{pl:List Nat}(hp:af p)(IR:rK p k Z M)(sw:Sw p Z wd done left pl)(hl:M.length=n)(hw:∀ xs∈M,xs.length=wd)(hM:∀ xs∈M,∀ x∈xs,bc p x):cq p n wd M pl.length:=λF _ hF=>by
 have p0:=hp.lo;have I:=sw.inv p0 (Au p0 IR hw);have B:=Sw.back p0 I hF pl.length (aQ _);have bl:=B.len;have zM:=IR.1;have h1:=I.all;have h2:=I.len;obtain⟨r1,r2⟩:=B.rr I.asc I.lt ∅ (L:=(List.range Z.length).map λi=>λj=>vz ((fk p pl (done++left) pl.length).getD i []) j / ic (iY pl (fk p pl (done++left) pl.length) i)) (by rw[aB,dq]) λi hi=>by
  have e:(List.range Z.length).getD i 0=i:=by rw[aW,gB hi];rfl
  rw[w4 (d:=0) (by rw[dq];show hi),e]
 have rk:=r1.rk ((qT hF IR hM).symm.trans r2.symm);rw[aB,hl] at rk;show rk.congr λi j hi hj=>by rw[fK (oz8 hl hi)]
theorem cq.uniq {p:Int}{n wd r s:Nat}{M:Mv}(hp:af p)(h:cq p n wd M r)(h':cq p n wd M s):r=s:=by
 obtain⟨F,_,hF⟩:=oE hp;show (h F hF).uniq (h' F hF)
section
variable {G PL cL:Addr}
def D9 (G PL:Addr):L2.Sp:=λvs H Q _=>∃ (g t r:Addr) (rs:List Addr) (p hh:Int) (k wd:Nat) (M:Mv),vs=[.ref g,.ref t]/\fh G H g p/\af p/\H t=some (.tup [.int hh,.int wd,.ref r])/\oX H p k wd r rs M/\zf p k wd M/\H PL=some lamO /\
 ∀ (rk:Nat) H',aa H H'->cq p M.length wd M rk->Q (.int (rk:Nat)) H'
theorem lX (F:⇑("rank",yX))(T:⇑())(Ybr:⇑("swept",7,EZ G PL)):⇑[8,["ground","table"],D9 G PL]:=by
 exists HU,sU,9
 show uW h λg t r rs p hh k wd M e92 hg hp e93=>?_;clear h;subst e92;show dj e93 λht rb sm hPL q=>?_;clear e93;show⟨_,(~~~(cg h_ rfl T.n_len ig ((bq<|>(Ybr<$>hr<$>((ae 0)<&>(((cP bq)<|>(ae 1)<||>aq)<&>(((cP bq)<|>(ae 1)<||>aq)<&>ah))))<||>aq)<&>ah))),?_⟩;left;show⟨_,aE.of ht,_,rfl,_,aE.of ht,_,rfl,g,r,p,rs,M,k,wd,wd,rfl,hg,hp,rb,aQ _,hPL,sm,λt' F' pA rs' Z done left pl H1 s1 ht hF hpA nFp ep eF rz nrs IR sw=>?_⟩;show⟨t',rfl,_,aE.of ht,_,rfl,pA,rfl,_,.inl (aj.of ep),?_⟩;rw[aB];show q pl.length H1 s1 (ue hp IR sw rfl rb.wd λxs hx x hxx=>(rb.gd xs hx x hxx).1)
def xm:L2.Sp:=λvs H Q _=>∃ a b:Int,vs=[.int a,.int b]/\0<b/\∀ t,H t=none->Q (.ref t) (ar H t (.tup [.int (nrm a b).1,.int (nrm a b).2]))
theorem l_ (F:⇑("_law_lowest",xS))(T:⇑())(hpt:P.given.tree=none)(Yao:⇑("_law_gcd",1,yE)):⇑[2,["_law_top","_law_bottom"],xm]:=by
 exists FP,cE,2
 show cF h λa b e92 hb q=>?_;clear h;subst e92;have eE:∀ {c A B:Prop} [Decidable c],¬ c->B->if c then A else B:=λhc h=>by rw[if_neg hc];show h
 show⟨_,((@bI _ _ _ _ _ _ _ _ (iI jS (ae 1) aq (bo _)) (@bE _ _ _ kI) bJ)<*>((2|||nd|||(Yao<$>hr<$>((ae 0)<&>((ae 1)<&>ah))))<*>(~~~(@bQ _ _ _ _ _ (((jz hpt (jA hr))<|>(ae 0)<&&>(ae 2))<&>(((jz hpt (jA hr))<|>(ae 1)<&&>(ae 2))<&>ah)))))),?_⟩;left;have g0:=rP (a:=a) hb;show eE (by rw[d6 ∅];decide) ⟨a,b,rfl,_,rfl,∅,_,rfl,∅,⇑0,λt ht=>?_⟩;rw[kF g0,kF g0];show q t ht
def D5:L2.Sp:=λvs H Q _=>∃ a b:Int,vs=[.int a,.int b]/\b≠0/\∀ t,H t=none->Q (.ref t) (ar H t (.tup [.int (nrS a b).1,.int (nrS a b).2]))
theorem l9 (F:⇑("_law_lowest",xS))(T:⇑())(hpt:P.given.tree=none)(Yao:⇑("_law_gcd",1,yE))(Yag:⇑("_law_lowest",2,xm)):⇑[3,["_law_top","_law_bottom"],D5]:=by
 exists FP,cE,2
 show cF h λa b e94 hb q=>?_;clear h;subst e94;show⟨_,((@bI _ _ _ _ _ _ _ _ (iI jS (ae 1) aq (bo _)) (~~~(Yag<$>hr<$>((gm gp (ae 0))<&>((gm gp (ae 1))<&>ah)))) bJ)<*>((2|||nd|||(Yao<$>hr<$>((ae 0)<&>((ae 1)<&>ah))))<*>(~~~(@bQ _ _ _ _ _ (((jz hpt (jA hr))<|>(ae 0)<&&>(ae 2))<&>(((jz hpt (jA hr))<|>(ae 1)<&&>(ae 2))<&>ah)))))),?_⟩;left;show bH (λhc=>?_) (λhc=>?_)
 .have hc:=fc hc;show aM (-a) (-b) ⟨rfl,∅,λt ht=>?_⟩;have:=q t ht;unfold nrS at this;rw[if_pos hc] at this;show this
 .have hc:¬ b<0:=λz=>hc (cf z);have g0:=rP (a:=a) (show 0<b by omega);show aM a b ⟨rfl,_,rfl,∅,_,rfl,∅,⇑0,λt ht=>?_⟩;rw[kF g0,kF g0];have:=q t ht;unfold nrS at this;rw[if_neg hc] at this;show this
structure Bw (H:Hp)(p:Int)(va vb:V)(x y:Nv):Prop where
 a:aF H p va x
 b:aF H p vb y
 hx:bc p x
 hy:bc p y
 bt:∃ n m:Nat,Bt n x.1/\Bt n x.2/\Bt m y.1/\Bt m y.2/\n+m<=134000000
def jy (op:Int->Nv->Nv->Nv):L2.Sp:=λvs H Q _=>∃ (p:Int) (va vb:V) (x y:Nv),vs=[.int p,va,vb]/\af p/\Bw H p va vb x y/\∀ v H',aa H H'->aF H' p v (op p x y)->Q v H'
theorem mE (F:⇑("_law_add",Ae))(T:⇑())(Yag:⇑("_law_lowest",2,xm)):⇑[3,["_law_p","_law_a","_law_b"],jy dX]:=by
 exists Je,uQ,5
 show iE h λp va vb x y e96 hp h2 q=>?_;clear h;subst e96;have p0:=hp.lo;show kA h2.bt λn m b1 b2 b3 b4 nm'=>?_;show⟨_,((@bI _ _ _ _ _ _ _ _ (iI gF (ae 0) aq (bo _)) (~~~(fY<|>(eL<|>(ae 1)<&&>(ae 2))<&&>(ae 0))) bJ)<*>(~~~(Yag<$>hr<$>((eL<|>(eH<|>(bq<|>(ae 1)<||>aq)<&&>(bq<|>(ae 2)<||>aq))<&&>(eH<|>(bq<|>(ae 2)<||>aq)<&&>(bq<|>(ae 1)<||>aq)))<&>((eH<|>(bq<|>(ae 1)<||>aq)<&&>(bq<|>(ae 2)<||>aq))<&>ah))))),?_⟩;left;show bH (λhc=>?_) (λhc=>?_)
 .have hc:=fc hc;obtain rfl:=h2.a.int ∅;obtain rfl:=h2.b.int ∅;show⟨_,rfl,_,rfl,hc,q _ H (aa.refl _) ?_⟩;have:=aF.of (H:=H) (x:=dX p x y) (show ¬ p=0 by omega);rw[dX,if_neg ∅] at this ⊢;show this
 .have hc:¬ 0<p:=λz=>hc (cf z);have hp0:p=0:=∅
  show ao (h2.a.ref hp0) λta e97 hta=>?_;obtain rfl:=e97;show ao (h2.b.ref hp0) λtb e98 htb=>?_;obtain rfl:=e98;left;show⟨_,aE.of hta,_,rfl,_,aE.of htb,_,rfl,_,rfl,_,rfl,b1.ok b4 ∅,_,aE.of htb,_,rfl,_,aE.of hta,_,rfl,_,rfl,_,rfl,b3.ok b2 ∅,_,aE.of hta,_,rfl,_,aE.of htb,_,rfl,_,rfl,_,rfl,b2.ok b4 ∅,?_⟩;show aM _ _ ⟨rfl,kN h2.hx.pos h2.hy.pos,λt ht=>q _ _ (aa.new ht) ?_⟩;rw[dX,if_pos hp0];show aF.tup hp0 aw
theorem l6 (F:⇑("_law_mul",Aj))(T:⇑())(Yag:⇑("_law_lowest",2,xm)):⇑[3,["_law_p","_law_a","_law_b"],jy cM]:=by
 exists Jj,uQ,5
 show iE h λp va vb x y e910 hp h2 q=>?_;clear h;subst e910;have p0:=hp.lo;show kA h2.bt λn m b1 b2 b3 b4 nm'=>?_;show⟨_,((@bI _ _ _ _ _ _ _ _ (iI gF (ae 0) aq (bo _)) (~~~(fY<|>(jV<|>(ae 1)<&&>(ae 2))<&&>(ae 0))) bJ)<*>(~~~(Yag<$>hr<$>((eH<|>(bq<|>(ae 1)<||>aq)<&&>(bq<|>(ae 2)<||>aq))<&>((eH<|>(bq<|>(ae 1)<||>aq)<&&>(bq<|>(ae 2)<||>aq))<&>ah))))),?_⟩;left;show bH (λhc=>?_) (λhc=>?_)
 .have hc:=fc hc;obtain rfl:=h2.a.int ∅;obtain rfl:=h2.b.int ∅;have p97:=hp.hi;have hx:0<=x.1/\x.1<p:=by rcases h2.hx with ⟨h,_⟩|⟨_,h,h',_⟩ <;> omega
  show⟨_,rfl,_,rfl,.inl ⟨∅,∅⟩,hc,q _ H (aa.refl _) ?_⟩;have:=aF.of (H:=H) (x:=cM p x y) (show ¬ p=0 by omega);rw[cM,if_neg ∅] at this ⊢;show this
 .have hc:¬ 0<p:=λz=>hc (cf z);have hp0:p=0:=∅
  show ao (h2.a.ref hp0) λta e911 hta=>?_;obtain rfl:=e911;show ao (h2.b.ref hp0) λtb e912 htb=>?_;obtain rfl:=e912;left;show⟨_,aE.of hta,_,rfl,_,aE.of htb,_,rfl,_,rfl,_,rfl,b1.ok b3 ∅,_,aE.of hta,_,rfl,_,aE.of htb,_,rfl,_,rfl,_,rfl,b2.ok b4 ∅,?_⟩;show aM _ _ ⟨rfl,kN h2.hx.pos h2.hy.pos,λt ht=>q _ _ (aa.new ht) ?_⟩;rw[cM,if_pos hp0];show aF.tup hp0 aw
abbrev bW (n:Nat)(x:Nv):Prop:=Bt n x.1/\Bt n x.2
theorem bW.le {n m:Nat}{x:Nv}(h:bW n x)(hm:n<=m):bW m x:=⟨h.1.le hm,h.2.le hm⟩
theorem xD {p:Int}{x:Nv}(h0:p≠0)(p97:p<=97)(h:bc p x):bW 7 x:=by
 rcases h with ⟨e,_⟩|⟨_,e1,e2,e3⟩
 .exact absurd e h0
 .exact ⟨dF (aQ _) ∅,by rw[e3];show dF (aQ _) ⇑0⟩
theorem zh {a b:Int}{n:Nat}(ha:Bt n a)(hb:Bt n b):bW n (nrm a b):=⟨ha.quo (jj ..),hb.quo (ke ..)⟩
theorem vB {p:Int}{x y:Nv}{n m:Nat}(hp:af p)(hx:bc p x)(hy:bc p y)(h1:bW n x)(h2:bW m y)(h7:7<=n):bW (n+m+1) (dX p x y):=by
 by_cases h0:p=0
 .unfold dX;rw[if_pos h0];show zh ?_ ((h1.2.mul h2.2).le ∅);have a:=h1.1.mul h2.2;have b:=h2.1.mul h1.2;rw[Nat.add_comm m n] at b;show Bt.add a b
 .exact (xD h0 hp.hi (oU hp.lo hx hy)).le ∅
theorem rR {p:Int}{x y:Nv}{n m:Nat}(hp:af p)(hx:bc p x)(hy:bc p y)(h1:bW n x)(h2:bW m y)(h7:7<=n+m):bW (n+m) (cM p x y):=by
 by_cases h0:p=0
 .unfold cM;rw[if_pos h0];show zh (h1.1.mul h2.1) (h1.2.mul h2.2)
 .exact (xD h0 hp.hi (fO hp.lo hx hy)).le h7
theorem zV {p:Int}{x:Nv}{n:Nat}(hp:af p)(hx:bc p x)(h:bW n x)(h7:7<=n):bW (n+1) (cM p (de p (-1)) x):=by
 by_cases h0:p=0
 .unfold cM de;rw[if_pos h0,if_pos h0];show zh ?_ ?_
  .exact (show Bt n (-1*x.1) by rw[show -1*x.1=-x.1 by omega];show h.1.neg).le ∅
  .exact (show Bt n (1*x.2) by rw[Int.one_mul];show h.2).le ∅
 .exact (xD h0 hp.hi (fO hp.lo (gJ hp.lo) hx)).le ∅
theorem Eh {lo:Int}{n:Nat}{D:Addr}{fr:List (Str×Nat)}{σ:L2.St}{tt:TT}{H1:Hp}{Q:VK}(fb:Nat->Bool)(hD:H1 D=none)(hn:n<=1000)(h:∀ (i:Nat) H (Q:Bool->Hp->Prop),i<n->aa H1 H->(∀ H',aa H H'->Q (fb i) H')->tt (some (.int (lo+(i:Nat)))::cy fr σ) H Q)(hQ:∀ H',aa H1 H'->H' D=some (.lst (((List.range n).filter fb).map λi=>V.int (lo+(i:Nat))))->Q (.ref D) H'):eZ (bU 0) tt (eG 0) (ja lo n) D (dP 1 fr σ) H1 Q:=by
 show vC (n:=n) (λi vs H=>aa H1 H/\H D=some (.lst vs)/\vs=(((List.range i).filter fb).map λi=>V.int (lo+(i:Nat)))) ⟨aa.new hD,aw,rfl⟩ ?_ (λvs H ⟨s,e,hv⟩=>hQ H s (by rw[e,hv]));intro i x vs σ' H hi e91;obtain rfl:=e91;intro sh e92;show bC e92 λs e e93=>?_;clear e92;obtain rfl:=e93;obtain⟨z,rfl⟩:=sh.one;simp only[gD,bU,List.set_cons_zero];show h i H _ hi s λH' s'=>?_;have e2:(List.range (i+1)).filter fb=(List.range i).filter fb++(if fb i=true then [i] else []):=by
  rw[i_,List.filter_append];congr 1;cases hb:fb i <;> simp[hb]
 have e':=s' _ _ e;cases hb:fb i with
 | false=>
  rw[hb] at e2;show leaf0 (ws:=((List.range (i+1)).filter fb).map λi=>V.int (lo+(i:Nat))) hi Sh.mk1 ⟨s.trans s',by rw[e',e2];simp,rfl⟩
 | true=>
  rw[hb,if_pos rfl] at e2;show⟨_,rfl,gj (ws:=((List.range (i+1)).filter fb).map λi=>V.int (lo+(i:Nat))) hi Sh.mk1 e' (cT ?_) ⟨(s.trans s').upd hD,by rw[aw,e2,dW];rfl,rfl⟩⟩;have:=List.length_filter_le fb (List.range i);rw[aB];rw[dq] at this;omega
structure Cm (p:Int)(x y:Nv):Prop where
 is:bc p y
 fd:∀ (F:Type) [Lean.Grind.Field F],aK p F->(nm x:F)*nm y=1
 bt:∀ n:Nat,7<=n->bW n x->bW n y
theorem GS {x:Nv}(hx:bc 0 x)(h:x.1≠0):Cm 0 x (nrS x.2 x.1):=by
 have iq:=En (a:=x.2) h;show⟨iq.is,λF _ hF=>?_,λn h7 b=>iq.bt n h7 b.2 b.1⟩;rw[iq.fd F hF];have b1:=hF.bot hx;have b2:(ic x.1:F)≠0:=hF.ne0 (.inl rfl) h;unfold nm
 grind
theorem HN {p:Int}{x:Nv}{k:Int}(hp:jU p)(hx:bc p x)(k0:0<=k)(k1:k<p)(h:k*x.1 % p=1):Cm p x (k,1):=by
 have p1:=hp.1;have p97:=hp.2.1;show⟨.inr ⟨iC p1,k0,k1,rfl⟩,λF _ hF=>?_,λn h7 _=>⟨dF h7 (by show k.natAbs<128;omega),dF h7 (by show (1:Int).natAbs<128;decide)⟩⟩;have hx2:x.2=1:=by
  rcases hx with ⟨z,_⟩|⟨_,_,_,h⟩
  .omega
  .exact h
 have e:(ic (k*x.1):F)=1:=by rw[<- hF.modF ∅,h,iF]
 rw[hF.one];unfold nm;rw[hx2,iF];rw[eN] at e;have:=kj (F:=F)
 grind
def E_:L2.Sp:=λvs H Q _=>∃ (p:Int) (va:V) (x:Nv),vs=[.int p,va]/\af p/\aF H p va x/\bc p x/\x.1≠0/\∀ v y H',aa H H'->aF H' p v y->Cm p x y->Q v H'
theorem my (F:⇑("_law_back",AA))(T:⇑())(Yag:⇑("_law_lowest",3,D5)):⇑[4,["_law_p","_law_a"],E_]:=by
 exists Jq,fU,3
 show cK h λp va x e95 hp nx e96=>?_;clear h;subst e95;show bC e96 λix x0 q=>?_;clear e96;show⟨_,((@bI _ _ _ _ _ _ _ _ (bX (sP dI) (ae 0) aq (bo _)) (~~~(Yag<$>hr<$>(((cP bq)<|>(ae 1)<||>aq)<&>(((cP bq)<|>(ae 1)<||>aq)<&>ah)))) bJ)<*>(~~~(a_<|>(dR (own:=["_law_k"]) (fr:=[("_law_a",1),("_law_p",0)]) rfl (cW (by kernel_rfl)) (jK rfl T.n_range (aq<&>((pv 0)<&>ah))) (λ_ _ _ _=>⟨(0<<<["_law_k","_law_a","_law_p"]),(zH (iI dI (fY<|>(jV<|>(pv 0)<&&>(pv 1))<&&>(pv 2)) aq (bo _))),(pv 0)⟩))<||>aq))),?_⟩;left;show bH (λhc=>?_) (λhc=>?_)
 .have hp0:p=0:=by simpa using hc
  subst hp0;show ao (nx.ref rfl) λta e97 hta=>?_;obtain rfl:=e97;left;show⟨_,aE.of hta,_,rfl,_,aE.of hta,_,rfl,_,_,rfl,x0,λt ht=>q _ _ _ (aa.new ht) (aF.tup rfl aw) (GS ix x0)⟩
 .have hp0:¬ p=0:=by simpa using hc
  obtain rfl:=nx.int hp0;have hp1:jU p:=hp.resolve_left hp0;have p1:=hp1.1;have p97:=hp1.2.1;have xr:0<=x.1/\x.1<p:=by rcases ix with ⟨h,_⟩|⟨_,h,h',_⟩ <;> omega
  obtain⟨k,k1,kp,kb⟩:=Cz (b:=x.1) hp1 (by rw[kP xr.1 xr.2];show x0);show⟨_,rfl,1,p,rfl,⟨⇑0,⇑0,∅,∅⟩,λD hD=>Eh (λi=>decide ((1+(i:Nat):Int)*x.1 % p=1)) hD ∅ (λi H4 Q4 hi s4 q4=>?_) λH4 s4 e4=>?_⟩
  .simp only [cy];left;show⟨_,rfl,_,rfl,.inl ⟨∅,∅⟩,_,rfl,_,rfl,iC p1,?_⟩;show q4 H4 (aa.refl _)
  .have hmem:k-1∈(List.range (p-1).toNat).filter (λi=>decide ((1+(i:Nat):Int)*x.1 % p=1)):=by
    rw[tY,dU];show⟨∅,cf ?_⟩;rw[show (1+((k-1:Nat):Int))=k by omega];show kb
   generalize hL:(List.range (p-1).toNat).filter (λi=>decide ((1+(i:Nat):Int)*x.1 % p=1))=L at *;cases L with
   | nil=>simp at hmem
   | cons i L=>
    have hi:i∈(List.range (p-1).toNat).filter (λi=>decide ((1+(i:Nat):Int)*x.1 % p=1)):=by rw[hL];simp
    rw[tY,dU] at hi;have hib:=fc hi.2;show⟨D,rfl,_,aj.of e4,_,eK ⇑0 rfl,q _ (1+(i:Int),1) H4 s4 (aF.of (x:=(1+(i:Int),1)) hp0) (HN hp1 ix ∅ ∅ hib)⟩
def jP (p:Int)(f g:Nat->Nv):Nat->Nv
 | 0=>de p 0
 | k+1=>dX p (jP p f g k) (cM p (f k) (g k))
noncomputable abbrev dotV (p:Int)(xs ys:List Nv):Nv:=jP p (λk=>xs.getD k (0,1)) (λk=>ys.getD k (0,1)) xs.length
abbrev gZ (B:Mv)(j:Nat):List Nv:=B.map λrow=>row.getD j (0,1)
def cY (p:Int)(A B:Mv)(wd:Nat):Mv:=A.map λrow=>(List.range wd).map λj=>dotV p row (gZ B j)
theorem zT {p:Int}{x y:Nv}{n m:Nat}(hp:af p)(hx:bc p x)(hy:bc p y)(h1:bW n x)(h2:bW m y):bW (n+m+7) (cM p x y):=by
 have:=rR hp hx hy h1 (h2.le (show m<=m+7 by omega)) ∅;rwa [<- Nat.add_assoc] at this
theorem yL {p:Int}(hp:af p){f g:Nat->Nv}{k1 k2:Nat}:∀ {n:Nat},(∀ i,i<n->bc p (f i)/\bW k1 (f i))->(∀ i,i<n->bc p (g i)/\bW k2 (g i))->bc p (jP p f g n)/\bW (7+n*(k1+k2+8)) (jP p f g n)
 | 0,_,_=>⟨gJ hp.lo,by
   change bW _ (de p 0);unfold de;split
   .exact ⟨xE _,dF ∅ ⇑0⟩
   .rw [Int.zero_emod];show⟨xE _,dF ∅ ⇑0⟩⟩
 | n+1,hf,hg=>by
  obtain⟨i1,b1⟩:=yL hp (k1:=k1) (k2:=k2) (n:=n) (λi hi=>hf i ∅) (λi hi=>hg i ∅);obtain⟨i2,b2⟩:=hf n ∅;obtain⟨i3,b3⟩:=hg n ∅;have it:=fO hp.lo i2 i3;show⟨oU hp.lo i1 it,?_⟩;have:=vB hp i1 it b1 (zT hp i2 i3 b2 b3) ∅;show this.le ?_;rw[i7 n 1];omega
theorem Cv {p:Int}{wd k:Nat}{B:Mv}(hw:∀ xs∈B,xs.length=wd)(g:∀ xs∈B,aH p k xs){j:Nat}(hj:j<wd):aH p k (gZ B j):=λx hx=>by
 show ao (bR.mp hx) λrow hr e97=>?_;obtain rfl:=e97;show g row hr _ (bD (by rw[hw row hr];show hj))
theorem yM {p:Int}{F:Type}[Lean.Grind.Field F](hp:af p)(hF:aK p F){f g:Nat->Nv}:∀ {n:Nat},(∀ i,i<n->bc p (f i))->(∀ i,i<n->bc p (g i))->bc p (jP p f g n)/\(nm (jP p f g n):F)=sm n λi=>nm (f i)*nm (g i)
 | 0,_,_=>⟨gJ hp.lo,by
   change (nm (de p 0):F)=0;rw[hF.intF,oP]⟩
 | n+1,hf,hg=>by
  obtain⟨i1,e1⟩:=yM hp hF (n:=n) (λi hi=>hf i ∅) (λi hi=>hg i ∅);have it:=fO hp.lo (hf n ∅) (hg n ∅);show⟨oU hp.lo i1 it,?_⟩;change (nm (dX p (jP p f g n) (cM p (f n) (g n))):F)=sm n (λi=>nm (f i)*nm (g i))+nm (f n)*nm (g n);rw[hF.plus i1 it,e1,hF.times (hf n ∅) (hg n ∅)]
def spLpB:L2.Sp:=λvs H Q _=>∃ (t1 r1 t2 r2:Addr) (rs1 rs2:List Addr) (p:Int) (n1 m1 w2 k1 k2:Nat) (A B:Mv),vs=[.int p,.ref t1,.ref t2]/\af p/\aU H p k1 n1 m1 t1 r1 rs1 A/\aU H p k2 m1 w2 t2 r2 rs2 B/\n1<=200/\m1<=200/\w2<=200/\7+m1*(k1+k2+8)+k1+k2+7<=134000000 /\
 ∀ t r rs H',aa H H'->fZ H t r rs->cN H' p n1 w2 t r rs (cY p A B w2)->Q (.ref t) H'
theorem m4 {k m a b:Nat}(h:k<=m)(l:7+m*(a+b+8)+a+b+7<=134000000):7+k*(a+b+8)+(a+b+7)<=134000000:=by
 have:=gg h (aQ (a+b+8));omega
theorem qk (F:⇑("_law_product",A7))(T:⇑())(Yac:⇑("_law_int",1,rD))(Yae:⇑("_law_add",3,jy dX))(Yad:⇑("_law_mul",3,jy cM)):⇑[4,["_law_p","_law_one","_law_other"],spLpB]:=by
 exists JQ,xk,14
 show xi h λt1 r1 t2 r2 rs1 rs2 p n1 m1 w2 k1 k2 A B e99 hp T1 e910=>?_;clear h;subst e99;show gn e910 λT2 n24 m24 w24 lim q=>?_;clear e910;have lim2:k1+k2<=134000000:=∅
 have la:=T1.tv.row.1;have sA:=T1.hl;have sB:=T2.hl;show⟨_,((3|||nd|||(@dJ _ _ _ _ ah))<*>((dt cX rfl (eJ (bq<|>(pv 1)<||>aq)) (4>>>nd) ((5|||nd|||(@dJ _ _ _ _ ah))<*>((dt cX rfl (fv rfl T.n_range ((bq<|>(pv 2)<||>aq)<&>ah)) (6>>>nd) ((7|||nd|||(Yac<$>hr<$>((ae 0)<&>(aq<&>ah))))<*>((dt cX rfl (fv rfl T.n_range ((bq<|>(pv 1)<||>aq)<&>ah)) (8>>>nd) (@bE _ _ _ (7|||nd|||(Yae<$>hr<$>((ae 0)<&>((ae 7)<&>((Yad<$>hr<$>((ae 0)<&>(((ixJ a_)<|>(ae 4)<||>(ae 8))<&>((a_<|>(a_<|>((cP bq)<|>(ae 2)<||>aq)<||>(ae 8))<||>(ae 6))<&>ah))))<&>ah)))))))<*>(@bE _ _ _ (gK (gk gC gU gT (mtJ gq) (ae 5) ((ae 7)<&>ah)))))))<*>(@bE _ _ _ (gK (gk gC gU gT (mtJ gq) (ae 3) ((ae 5)<&>ah)))))))<*>(~~~(@bQ _ _ _ _ _ (((cP bq)<|>(ae 1)<||>aq)<&>(((cP bq)<|>(ae 2)<||>aq)<&>((ae 3)<&>ah))))))),?_⟩;left;show⟨⇑0,λR hR=>?_⟩;have sR:=aa.new (o:=.lst []) hR;show⟨_,rfl,t1,_,2,_,rfl,rfl,aE.of (sR _ _ T1.tv.tup),rfl,r1,rfl,⟨_,aj.of (sR _ _ T1.tv.lst)⟩,tH (xs:=rs1.map V.ref) (λi σ H3=>∃ (v4 v5 v6 v7 v8:Option V) (rs:List Addr),σ=[⇑p,↥t1,↥t2,↥R,v4,v5,v6,v7,v8]/\aa H H3/\H3 R=some (.lst (rs.map V.ref))/\R∉rs/\(∀ a∈rs,H a=none)/\aA (aV H3 p) rs ((cY p A B w2).take i))
  ⟨none,none,none,none,none,[],rfl,sR,aw,by simp,by simp,by rw[List.take_zero];show aA.nil⟩ (λi σ H3 _ ⟨_,_,_,_,_,_,_,s3,_⟩=>aj.of (s3 _ _ T1.tv.lst)) ?_ ?_⟩
 .intro i x σ H3 hi e91;show nJ e91 λv4 v5 v6 v7 v8 rs e911 s3 h3 e912=>?_;clear e91;obtain rfl:=e911;show bC e912 λnR nf a3=>?_;clear e912;show fQ λD1 hD1=>?_;show ao ((rQ T1.tv.row).at' hi) λrow er e913=>?_;obtain⟨a,rfl,rv⟩:=e913;have hrow:=aY er;have wr:=T1.hw row hrow;have gr:=T1.gd row hrow;have lA:i<A.length:=(b_.mp er).1;have ep:(cY p A B w2)[i]?=some ((List.range w2).map λj=>dotV p row (gZ B j)):=by unfold cY;rw[bj,er];rfl
  have l3:=a3.1;rw[i8] at l3;left;show⟨⇑0,λb hb=>?_⟩;have s4:=aa.new (o:=.lst []) hb;show⟨_,rfl,t2,_,1,_,rfl,rfl,aE.of ((s3.trans s4) _ _ T2.tv.tup),rfl,(w2:Int),rfl,ju _,jt (cD w24 ⇑0),hO (λj σ H5=>∃ (v6 v7 v8:Option V) (vs:List V),σ=[⇑p,↥t1,↥t2,↥R,↥a,↥b,v6,v7,v8]/\aa H3 H5/\H5 b=some (.lst vs)/\aA (aF H5 p) vs ((List.range j).map λj=>dotV p row (gZ B j)))
   ⟨v6,v7,v8,[],rfl,s4,aw,aA.nil⟩ ?_ ?_⟩
  .intro j σ H5 hj e92;show cZ e92 λu6 u7 u8 vs e914 s5 h5 a5=>?_;clear e92;obtain rfl:=e914;show fQ λD2 hD2=>?_;have hj:j<w2:=hj;have s05:=s3.trans s5;have l5:=a5.1;rw[aB,dq] at l5;have gc:aH p k2 (gZ B j):=Cv T2.hw T2.gd hj;left;show aM p 0 ⟨rfl,hp,λn0 H6 s6 hn0=>?_⟩;rw[show de p 0=jP p (λk=>row.getD k (0,1)) (λk=>(gZ B j).getD k (0,1)) 0 from rfl] at hn0;show⟨_,rfl,t1,_,1,_,rfl,rfl,aE.of ((s05.trans s6) _ _ T1.tv.tup),rfl,(m1:Int),rfl,ju _,jt (cD m24 ⇑0),hO (λk σ H7=>∃ (n v8:V),σ=[⇑p,↥t1,↥t2,↥R,↥a,↥b,some (.int (0+(j:Int))),some n,if k=0 then u8 else some v8]/\aa H5 H7/\aF H7 p n (jP p (λk=>row.getD k (0,1)) (λk=>(gZ B j).getD k (0,1)) k))
    ⟨n0,n0,rfl,s6,hn0⟩ ?_ ?_⟩
   .intro k σ H7 hk e93;show cF e93 λn v8' e915 s7 hn=>?_;clear e93;obtain rfl:=e915;show fQ λD3 hD3=>?_;have hk:k<m1:=hk;have s07:=s05.trans s7;have hk1:k<row.length:=eX hk wr;have ex:row[k]?=some row[k]:=aG hk1;have hkB:k<B.length:=eX hk sB;have eB:B[k]?=some B[k]:=aG hkB;have wB:=T2.hw _ (dm hkB);have hjB:j<(B[k]).length:=eX hj wB;have ey:(B[k])[j]?=some ((B[k])[j]'hjB):=aG _;have ecl:(gZ B j)[k]?=some ((B[k])[j]'hjB):=by rw[bj,eB];change some ((B[k]).getD j (0,1))=_;rw[cw ey]
    show ao (rv.same s07) λxsv hx1 hx2=>?_;show ao (hx2.at ex) λvx evx nvx=>?_;show ao ((T2.tv.same s07).row.at eB) λbk ebk e916=>?_;obtain⟨ysv,hy1,hy2⟩:=e916;show ao (hy2.at ey) λvy evy nvy=>?_;have gx:=gr _ (dm hk1);have gy:=gc _ (aY ecl);have fi:∀ i,i<k->bc p (row.getD i (0,1))/\bW k1 (row.getD i (0,1)):=λi hi=>gr _ (bD (Nat.lt_trans hi hk1));have gi:∀ i,i<k->bc p ((gZ B j).getD i (0,1))/\bW k2 ((gZ B j).getD i (0,1)):=λi hi=>gc _ (bD (by rw[aB];show Nat.lt_trans hi hkB));obtain⟨isd,bdd⟩:=yL hp (n:=k) fi gi;left;show⟨_,aj.of hx1,vx,ou evx,_,aE.of (s07 _ _ T2.tv.tup),_,rfl,_,rfl,_,aj.of (s07 _ _ T2.tv.lst),_,rf ebk,_,rfl,_,aj.of hy1,vy,ou evy,p,vx,vy,_,_,rfl,hp,⟨nvx,nvy,gx.1,gy.1,k1,k2,gx.2.1,gx.2.2,gy.2.1,gy.2.2,lim2⟩,λm H8 s8 hm=>?_⟩;have it:=fO hp.lo gx.1 gy.1;have bt:bW (k1+k2+7) (cM p row[k] ((B[k])[j]'hjB)):=zT hp gx.1 gy.1 gx.2 gy.2;show kB p n m _ _ ⟨rfl,hp,⟨hn.same s8,hm,isd,it,_,_,bdd.1,bdd.2,bt.1,bt.2,m4 (gR hk) lim⟩,λn' H9 s9 hn'=>?_⟩;subst hD3;show aM n' (.int (0+(k:Int))) ⟨?_,(s7.trans s8).trans s9,?_⟩
    .simp
    .change aF H9 p n' (dX p _ (cM p (row.getD k (0,1)) ((gZ B j).getD k (0,1))));rw[cw ex,cw ecl];show hn'
   .intro σ H7 e94;show cF e94 λn v8' e917 s7 hn=>?_;clear e94;obtain rfl:=e917;have h57:=s7 _ _ h5;left;show⟨.inl ⟨rfl,_,aj.of h57⟩,_,h57,cT (yQ l5 (gR (dN hj (cD w24 ⇑0)))),?_⟩;subst hD2;show jc _ _ _ _ ⟨rfl,?_,aw,?_⟩
    .exact (s5.trans s7).upd hb
    .rw [i_,dW];rw[fG,<- wr] at hn;show (a5.mono λ_ _ k=>(k.same s7).put h57).app (aA.one (hn.put h57))
  .intro σ H5 e95;show cZ e95 λu6 u7 u8 vs e918 s5 h5 a5=>?_;clear e95;obtain rfl:=e918;have h35:=s5 _ _ h3;have nb:b≠R:=(bV h3 hb).symm;left;show⟨.inl ⟨rfl,_,aj.of h35⟩,_,h35,cT (by rw[aB];omega),?_⟩;subst hD1;show oH _ _ _ _ _ (rs++[b]) ⟨rfl,(s3.trans s5).upd hR,by rw[aw,i6],λz=>?_,λc hc=>?_,?_⟩
   .rcases cj.mp z with h|h
    .exact nR h
    .exact nb (cS.mp h).symm
   .rcases cj.mp hc with h|h
    .exact nf c h
    .rw [cS.mp h];show s3.free hb
   .rw [List.take_add_one,ep];show (a3.monoM λc x hc k=>(k.same s5).put h35 (λz=>nR (z ▸ hc))).app (aA.one (aV.put ⟨vs,h5,a5⟩ h35 nb))
 .intro σ H3 e96;show nJ e96 λv4 v5 v6 v7 v8 rs e919 s3 h3 e920=>?_;clear e96;obtain rfl:=e919;show bC e920 λnR nf a3=>?_;clear e920;rw[aB,la,yt (by unfold cY;rw[aB];omega)] at a3;left;show⟨_,aE.of (s3 _ _ T1.tv.tup),_,rfl,_,aE.of (s3 _ _ T2.tv.tup),_,rfl,⇑0,λt ht=>?_⟩;have s5:=aa.new (o:=.tup [.int n1,.int w2,.ref R]) ht;show q t R rs _ (s3.trans s5) ⟨s3.free ht,hR,nf⟩ ⟨aw,s5 _ _ h3,a3.mono λ_ _ q=>q.same s5,nR⟩
theorem GN {H:Hp}{t u:Addr}{a b c d:Int}{Q:VK}(neg:Bool)(ht:H t=some (.tup [.int a,.int b]))(hu:H u=some (.tup [.int c,.int d]))(q:Q (.bl (if neg then !(decide (a=c) && decide (b=d)) else (decide (a=c) && decide (b=d)))) H):sO K neg (.ref t) (.ref u) H Q:=by
 have e:∀ i j:Int,eqV (.int i) (.int j)=decide (i=j):=λi j=>by simp[eqV,Bool.beq_eq_decide_eq]
 show kB t u _ _ [decide (a=c),decide (b=d)] ⟨rfl,rfl,aE.of ht,aE.of hu,⟨rfl,rfl,λj x y z e1 e2 e3=>?_⟩,?_⟩
 .match j,e1,e2,e3 with
  | 0,e1,e2,e3=>
   cases e1;cases e2;cases e3;have:=iw.flat (K:=K) (H:=H) (n:=6) (x:=.int a) (y:=.int c) rfl rfl;rw[e] at this;show this
  | 1,e1,e2,e3=>
   cases e1;cases e2;cases e3;have:=iw.flat (K:=K) (H:=H) (n:=6) (x:=.int b) (y:=.int d) rfl rfl;rw[e] at this;show this
  | j+2,e1,e2,e3=>cases e1
 .simpa using q
theorem DG {H:Hp}{p:Int}{v u:V}{x y:Nv}{Q:VK}(h:aF H p v x)(h':aF H p u y)(hx:bc p x)(hy:bc p y)(q:Q (.bl (decide (x≠y))) H):rNeN K v u H Q:=by
 by_cases hp:p=0
 .refine ao (h.ref hp) λt e95 ht=>?_;obtain rfl:=e95;show ao (h'.ref hp) λt' e96 ht'=>?_;obtain rfl:=e96;show .inr (GN true ht ht' ?_);have:(if true=true then !(decide (x.1=y.1) && decide (x.2=y.2)) else (decide (x.1=y.1) && decide (x.2=y.2)))=decide (x≠y):=by
   rw[if_pos rfl,<- Bool.decide_and,<- decide_not];show wj.mpr (not_congr Prod.ext_iff.symm)
  rw[this];show q
 .obtain rfl:=h.int hp;obtain rfl:=h'.int hp;show .inl ⟨rfl,?_⟩;have:(!decide (V.int x.1=V.int y.1))=decide (x≠y):=by
   rw[<- decide_not];have h2:x.2=y.2:=by
    rcases hx with ⟨z,_⟩|⟨_,_,_,h1⟩
    .exact absurd z hp
    .rcases hy with ⟨z,_⟩|⟨_,_,_,h2⟩
     .exact absurd z hp
     .rw [h1,h2]
   show wj.mpr (not_congr ?_);rw[Prod.ext_iff,V.int.injEq];show⟨λh=>⟨h,h2⟩,λh=>h.1⟩
  rw[this];show q
noncomputable def lb (p:Int)(k c:Nat):Nat:=if p=0 then (k+1)*4 ^ c-1 else 7
structure c_ (H:Hp)(p:Int)(b n wd:Nat)(r:Addr)(rs:List Addr)(M:Mv):Prop where
 lst:H r=some (.lst (rs.map V.ref))
 row:aA (aV H p) rs M
 nin:r∉rs
 hl:M.length=n
 hw:∀ xs∈M,xs.length=wd
 gd:∀ xs∈M,aH p b xs
theorem c_.same {H H':Hp}{p:Int}{b n wd:Nat}{r:Addr}{rs:List Addr}{M:Mv}(h:c_ H p b n wd r rs M)(s:aa H H'):c_ H' p b n wd r rs M:=⟨s _ _ h.lst,h.row.mono λ_ _ k=>k.same s,h.nin,h.hl,h.hw,h.gd⟩
theorem c_.at {H:Hp}{p:Int}{b n wd:Nat}{r:Addr}{rs:List Addr}{M:Mv}(h:c_ H p b n wd r rs M){i c:Nat}(hi:i<n)(hc:c<wd):∃ (a:Addr) (vs:List V) (v:V),rs[i]?=some a/\a≠r/\H a=some (.lst vs)/\vs.length=wd/\aA (aF H p) vs (M.getD i [])/\vs[c]?=some v/\aF H p v ((M.getD i []).getD c (0,1))/\bc p ((M.getD i []).getD c (0,1))/\bW b ((M.getD i []).getD c (0,1)):=by
 have hl:=h.hl;have e:M[i]?=some (M.getD i []):=by rw[cQ (dD hi hl)];show aG _
 show ao (h.row.at e) λa ea e97=>?_;obtain⟨vs,hv,al⟩:=e97;have hm:M.getD i []∈M:=aY e;have wl:=h.hw _ hm;have vl:=al.1;have ec:(M.getD i [])[c]?=some ((M.getD i []).getD c (0,1)):=by rw[cQ (show c<(M.getD i []).length by show dD hc wl)];show aG _
 show ao (al.at ec) λv ev nv=>?_;have g:=h.gd _ hm _ (aY ec);show dc a vs v ⟨ea,λz=>h.nin (z ▸ aY ea),hv,∅,al,ev,nv,g.1,g.2⟩
theorem c_.set {H:Hp}{p:Int}{b n wd:Nat}{r:Addr}{rs:List Addr}{M:Mv}(h:c_ H p b n wd r rs M){k:Nat}{a:Addr}{xs:List Nv}(hk:k<n)(ha:aV H p a xs)(hr:a≠r)(hx:xs.length=wd){b':Nat}(hb:∀ ys∈M.set k xs,aH p b' ys):c_ (ar H r (.lst ((rs.set k a).map V.ref))) p b' n wd r (rs.set k a) (M.set k xs):=by
 show⟨aw,(h.row.set k ha).monoM λc ys hc q=>q.put h.lst (λz=>?_),λz=>?_,by rw[dC];show h.hl,λys hy=>?_,hb⟩
 .rcases fH hc with h1|h1
  .exact h.nin (z ▸ h1)
  .exact hr (h1 ▸ z)
 .rcases fH z with h1|h1
  .exact h.nin h1
  .exact hr h1.symm
 .rcases fH hy with h1|h1
  .exact h.hw ys h1
  .rw [h1];show hx
theorem cut2 {A B X:TS}{D:cO}{σ:L2.St}{H:Hp}(h:∀ X',X'=X->rh A (rh B X') D σ H):rh A (rh B X) D σ H:=h X rfl
theorem tw {p:Int}{k c:Nat}(h7:7<=k):(p=0->4*lb p k c+2<=lb p k (c+1))/\7<=lb p k c/\lb p k c<=lb p k (c+1):=by
 unfold lb;by_cases h:p=0
 .rw [if_pos h,if_pos h,wg,<- Nat.mul_assoc];have:(k+1)*1<=(k+1)*4 ^ c:=gg (aQ _) (Nat.pos_of_ne_zero (by simp));show⟨λ_=>∅,∅,∅⟩
 .rw [if_neg h,if_neg h];show⟨λz=>absurd z h,aQ _,aQ _⟩
theorem mL {p:Int}{k c d:Nat}(h7:7<=k)(h:c<=d):lb p k c<=lb p k d:=by
 induction d with
 | zero=>rw[show c=0 by omega];show aQ _
 | succ d ih=>
  by_cases e:c=d+1
  .rw [e];show aQ _
  .exact cD (ih (oz64 h e)) (tw h7).2.2
theorem EL {p:Int}{b:Nat}{xs:List Nv}(h0:p≠0)(p97:p<=97)(h7:7<=b)(h:∀ x∈xs,bc p x):aH p b xs:=λx hx=>⟨h x hx,(xD h0 p97 (h x hx)).le h7⟩
theorem qS {p:Int}{x:Nv}(hx:bc p x)(h:x≠(0,1)):x.1≠0:=λz=>by
 show h (Prod.ext z ?_);rcases hx with ⟨_,h1,h2⟩|⟨_,_,_,h1⟩
 .rw [z] at h2;simp[Int.gcd] at h2;change x.2=1;omega
 .exact h1
theorem qJ {f:Nv->Nv}{xs:List Nv}{j:Nat}(h:j<xs.length):(xs.map f).getD j (0,1)=f (xs.getD j (0,1)):=by
 rw[aW,bj,aG h,cQ h];rfl
noncomputable abbrev rG (p:Int)(y:Nv)(row:List Nv):List Nv:=row.map λx=>cM p y x
abbrev wY (p:Int)(l:Nv)(row lead:List Nv):List Nv:=(List.range row.length).map λj=>dX p (row.getD j (0,1)) (cM p l (lead.getD j (0,1)))
theorem GW {p:Int}{F:Type}[Lean.Grind.Field F](hF:aK p F){y:Nv}{row:List Nv}(hy:bc p y)(hr:∀ x∈row,bc p x)(j:Nat):(vN (rG p y row) j:F)=nm y*vN row j:=by
 by_cases h:j<row.length
 .unfold vN;rw[qJ h,hF.times hy (hr _ (bD h))]
 .rw [sX (by rw[aB];omega),sX (d8 h)]
  grind
theorem lG {p:Int}{F:Type}[Lean.Grind.Field F](hp:af p)(hF:aK p F){l:Nv}{row lead:List Nv}(hl:bc p l)(he:row.length=lead.length)(hr:∀ x∈row,bc p x)(hd:∀ x∈lead,bc p x)(j:Nat):(vN (wY p l row lead) j:F)=vN row j+nm l*vN lead j:=by
 by_cases h:j<row.length
 .unfold vN;rw[aW,bj,gB h];have h1:=hr _ (bD (d:=(0,1)) h);have h2:=hd _ (bD (d:=(0,1)) (show j<lead.length by show bM he h));change (nm (dX p (row.getD j (0,1)) (cM p l (lead.getD j (0,1)))):F)=_;rw[hF.plus h1 (fO hp.lo hl h2),hF.times hl h2]
 .rw [sX (by rw[aB,dq];show d8 h),sX (d8 h),sX ∅]
  grind
theorem GX {p:Int}{b:Nat}(hp:af p)(h7:7<=b){y:Nv}{row:List Nv}(hy:bc p y)(by':bW b y)(hr:aH p b row):aH p (2*b) (rG p y row):=λx hx=>by
 show ao (bR.mp hx) λu hu e98=>?_;obtain rfl:=e98;obtain⟨i1,b1⟩:=hr u hu;have:=rR hp hy i1 by' b1 ∅
 rw[<- Nat.two_mul] at this;show⟨fO hp.lo hy i1,this⟩
theorem lE {p:Int}{b:Nat}(hp:af p)(h7:7<=b){l:Nv}{row lead:List Nv}(hl:bc p l)(bl:bW (b+1) l)(he:row.length=lead.length)(hr:aH p b row)(hd:aH p (2*b) lead):aH p (4*b+2) (wY p l row lead):=λx hx=>by
 show ao (bR.mp hx) λj hj e99=>?_;obtain rfl:=e99;have hj:=dU.mp hj;obtain⟨i1,b1⟩:=hr _ (bD (d:=(0,1)) hj);obtain⟨i2,b2⟩:=hd _ (bD (d:=(0,1)) (show j<lead.length by show bM he hj));have t1:=rR hp hl i2 bl b2 ∅;have t2:=vB hp i1 (fO hp.lo hl i2) b1 t1 h7;show⟨oU hp.lo i1 (fO hp.lo hl i2),bW.le t2 ∅⟩
theorem DL {p:Int}(hp:af p):Bt 7 (de p (-1)).1:=by
 unfold de;split
 .exact dF (aQ _) ⇑0
 .have h1:=gO (-1) (show p≠0 by assumption);have h2:=gA (-1) (show 0<p by have:=hp.lo;omega);have h3:=hp.hi;show dF (aQ _) (by show (-1 % p).natAbs<128;omega)
theorem DM {p:Int}(hp:af p):Bt 7 (de p (-1)).2:=by
 unfold de;split
 .exact dF (aQ _) ⇑0
 .exact dF (aQ _) (show (1:Int).natAbs<128 by decide)
def o3 (H:Hp)(p:Int)(t r1:Addr)(k n wd:Nat)(M:Mv)(c:Nat)(σ:L2.St)(H3:Hp):Prop:=∃ (v6 v7 v8 v9 v10:Option V) (rs2:List Addr) (M2:Mv) (pl:List Nat),σ=[⇑p,↥t,⇑n,⇑wd,↥r1,some (.int (pl.length:Nat)),v6,v7,v8,v9,v10]/\aa H H3/\c_ H3 p (lb p k c) n wd r1 rs2 M2/\(∀ a∈rs2,H a=none)/\∀ (F:Type) [Lean.Grind.Field F],aK p F->iO F n c M M2 pl
def zC:L2.Sp:=λvs H Q _=>∃ (p:Int) (t r:Addr) (rs:List Addr) (k n wd:Nat) (M:Mv),vs=[.int p,.ref t]/\af p/\aU H p k n wd t r rs M/\7<=k/\n<=48/\wd<=24/\(p=0->(k+1)*4 ^ wd<=134000000) /\
 ∀ (t' tm r':Addr) (rs':List Addr) (M':Mv) (pl:List Nat) H',aa H H'->H' t'=some (.tup [.int (pl.length:Nat),.ref tm])->fZ H tm r' rs'->aU H' p (lb p k wd) n wd tm r' rs' M'->(∀ (F:Type) [Lean.Grind.Field F],aK p F->iO F n wd M M' pl)->Q (.ref t') H'
theorem qL {p:Int}{k c wd:Nat}(h7:7<=k)(hc:c+1<=wd)(kb:p=0->(k+1)*4 ^ wd<=134000000):4*lb p k c+2<=134000000:=by
 have h1:=(tw (p:=p) (c:=c) h7).1;have h2:=mL (p:=p) h7 hc;by_cases h0:p=0
 .have h3:lb p k wd<=134000000:=by
   unfold lb;rw[if_pos h0];have:=kb h0;omega
  have:=h1 h0;omega
 .unfold lb;rw[if_neg h0];decide
theorem l8 (F:⇑("_law_reduced",A8))(T:⇑())(Yb0:⇑("_law_copy",1,DX))(Yac:⇑("_law_int",1,rD))(Yae:⇑("_law_add",3,jy dX))(Yad:⇑("_law_mul",3,jy cM))(Ybx:⇑("_law_back",4,E_)):⇑[5,["_law_p","_law_table_here"],zC]:=by
 exists JR,jG,8
 show uU h λp t r rs k n wd M e911 hp tb e912=>?_;clear h;subst e911;show dj e912 λk7 n24 w24 kb q=>?_;clear e912;show⟨_,((d9 (Yb0<$>hr<$>((ae 1)<&>ah)) (@dY _ _ _ _ _ 3 rfl ((2>>>nd)^^^((3>>>nd)^^^((@oW _ _ 4 _ nd rfl (Or.inr rfl) (Or.inl rfl))^^^(@cU _)))) ⇑1 ⇑1))<*>((5|||nd|||aq)<*>((dt cX rfl (fv rfl T.n_range ((pv 3)<&>ah)) (@oW _ _ 6 _ nd rfl (Or.inr rfl) (Or.inl rfl)) ((oO (i:=7) (own:=["_law_k"]) (fr:=[("_law_rows_here",4),("_law_column",6),("_law_p",0)]) rfl (cW (by kernel_rfl)) (jK rfl T.n_range ((pv 5)<&>((pv 2)<&>ah))) (λ_ _ _ _=>⟨(0<<<["_law_k","_law_rows_here","_law_column","_law_p"]),(zH (iI (DI K rfl (uK hr)) ((kH K rfl)<|>((kH K rfl)<|>(pv 1)<||>(pv 0))<||>(pv 2)) (Yac<$>hr<$>((pv 3)<&>(aq<&>ah))) (bo _))),(pv 0)⟩) nd rfl rfl rfl)<*>((@bI _ _ _ _ _ _ _ _ (iI (CF (uK hr)) (ae 7) (@dJ _ _ _ _ ah) (bo _)) (@bE _ _ _ IV) bJ)<*>((d9 (@bQ _ _ _ _ _ ((a_<|>(ae 4)<||>(ae 5))<&>((a_<|>(ae 4)<||>(a_<|>(ae 7)<||>(gm gp aq)))<&>ah))) (@dY _ _ _ _ _ 2 rfl ((iZ (ae 4) (a_<|>(ae 7)<||>(gm gp aq)) i5)^^^((iZ (ae 4) (ae 5) i5)^^^(@cU _))) ⇑1 ⇑1))<*>((gs (i:=8) nd rfl (Or.inr rfl) (Ybx<$>hr<$>((ae 0)<&>((a_<|>(a_<|>(ae 4)<||>(ae 5))<||>(ae 6))<&>ah))))<*>((d9 (dR (own:=["_law_number_here"]) (fr:=[("_law_p",0),("_law_back_here",8)]) rfl (cW (by kernel_rfl)) (eJ (a_<|>(pv 4)<||>(pv 5))) (λ_ _ _ _=>⟨(0<<<["_law_number_here","_law_p","_law_back_here"]),df,(Yad<$>hr<$>((pv 1)<&>((pv 2)<&>((pv 0)<&>ah))))⟩)) (iZ (ae 4) (ae 5) i5))<*>((dt cX rfl (fv rfl T.n_range ((pv 2)<&>ah)) (9>>>nd) (@bE _ _ _ (@bI _ _ _ _ _ _ _ _ (PW.pt (tj (iI fW (ae 9) (ae 5) (bo _)) (tD (iI (DI K rfl (uK hr)) (a_<|>(a_<|>(ae 4)<||>(ae 9))<||>(ae 6)) (Yac<$>hr<$>((ae 0)<&>(aq<&>ah))) (bo _))))) ((gs (i:=10) nd rfl (Or.inr rfl) (Yad<$>hr<$>((ae 0)<&>((Yac<$>hr<$>((ae 0)<&>((gm gp aq)<&>ah)))<&>((a_<|>(a_<|>(ae 4)<||>(ae 9))<||>(ae 6))<&>ah)))))<*>(@bE _ _ _ (d9 (dR (own:=["_law_a","_law_b"]) (fr:=[("_law_p",0),("_law_less",10)]) rfl (cW (by kernel_rfl)) (kD rfl T.n_zip ((a_<|>(pv 4)<||>(pv 9))<&>((a_<|>(pv 4)<||>(pv 5))<&>ah))) (λ_ _ _ _=>⟨(@jX _ K rfl _ _ _ _ 2 rfl ((0<<<["_law_a","_law_b","_law_p","_law_less"])^^^((1<<<["_law_a","_law_b","_law_p","_law_less"])^^^(@cU _))) ⇑1 ⇑1),df,(Yae<$>hr<$>((pv 2)<&>((pv 0)<&>((Yad<$>hr<$>((pv 2)<&>((pv 3)<&>((pv 1)<&>ah))))<&>ah))))⟩)) (iZ (ae 4) (ae 9) i5)))) bJ)))<*>(@bE _ _ _ (5|||nd|||(eL<|>(ae 5)<&&>aq))))))))))<*>(~~~(@bQ _ _ _ _ _ ((ae 5)<&>((@bQ _ _ _ _ _ ((ae 2)<&>((ae 3)<&>((ae 4)<&>ah))))<&>ah))))))),?_⟩;left;show wX p n wd t r rs M ⟨rfl,tb.tv,by rw[tb.hl];omega,λt1 r1 rs1 H1 s1 nw1 tb1=>?_⟩;show⟨t1,rfl,_,aE.of tb1.tup,rfl,_,_,rfl,_,_,rfl,_,_,rfl,rfl,?_⟩;show⟨_,rfl,(wd:Int),rfl,ju _,jt (cD w24 ⇑0),hO (n:=wd) (λc σ H3=>o3 H p t r1 k n wd M c σ H3)
  ⟨none,none,none,none,none,rs1,M,[],rfl,s1,⟨tb1.lst,tb1.row,tb1.nin,tb.hl,tb.hw,?_⟩,nw1.rs,λF _ hF=>iO.start tb.hl⟩ ?_ ?_⟩
 .intro xs hx;by_cases h0:p=0
  .have:lb p k 0=k:=by unfold lb;rw[if_pos h0];simp
   rw[this];show tb.gd xs hx
  .exact EL h0 hp.hi (tw k7).2.1 λx hxx=>(tb.gd xs hx x hxx).1
 .intro c σ H3 hc e91;show uU e91 λv6 v7 v8 v9 v10 rs2 M2 pl e913 s3 R3 e914=>?_;clear e91;obtain rfl:=e913;obtain⟨f3,lr⟩:=e914;show fQ λD1 hD1=>?_;simp only[bU,List.set_cons_zero,List.set_cons_succ];obtain⟨F0,_,hF0⟩:=oE hp;have dl:=(lr F0 hF0).dl;have m2:=R3.hl;have rl2:=R3.row.1;show cut2 λX hX=>?_;left;have ec:(0:Int)+(c:Int)=(c:Int):=j8 _;rw[ec];have aft:∀ (Dn:cO) (D:Addr) (s:Nat) (L:List Nat) (H4:Hp),(∀ σ H5,o3 H p t r1 k n wd M (c+1) σ H5->Dn.nx σ H5)->aa H3 H4->H4 D=some (.lst ((L++[s]).map λ(i:Nat)=>V.int i))->pl.length<=s->s<n->(M2.getD s []).getD c (0,1)≠(0,1)->
    X Dn [⇑p,↥t,⇑n,⇑wd,↥r1,some (.int (pl.length:Nat)),⇑c,↥D,v8,v9,v10] H4:=by
   intro Dn D s L H4 hDn s4 e4 hs1 hs2 hs3;subst hX;show bG λX2 hX2=>?_;have R4:=R3.same s4;have rl4:rs2.length=n:=R4.row.1.trans m2;have hpn:pl.length<n:=jm hs1 hs2;have hpM:pl.length<M2.length:=eX hpn m2;have hsM:s<M2.length:=eX hs2 m2;have es:rs2[s]?=some (rs2[s]'(eX hs2 rl4)):=aG _;have ed:rs2[pl.length]?=some (rs2[pl.length]'(eX hpn rl4)):=aG _;generalize hea:rs2[s]'(eX hs2 rl4)=aS at es;generalize hed:rs2[pl.length]'(eX hpn rl4)=aD at ed;have lastL:atI ((L++[s]).map λ(i:Nat)=>V.int i) (-1)=⇑s:=by
    unfold atI;rw[vG (by simp)];simp
   have rvD:aV H4 p aD (M2.getD pl.length []):=R4.row.2 pl.length _ _ ed (by rw[cQ hpM];show aG _);have rvS:aV H4 p aS (M2.getD s []):=R4.row.2 s _ _ es (by rw[cQ hsM];show aG _);have nD:aD≠r1:=λz=>R4.nin (z ▸ aY ed);have nS:aS≠r1:=λz=>R4.nin (z ▸ aY es);have mD:M2.getD pl.length []∈M2:=bD hpM;have mS:M2.getD s []∈M2:=bD hsM;show bC (tw (p:=p) (c:=c) k7) λlb1 lb7 lb2=>?_;have sm4:=qL k7 hc kb;have sm2:lb p k c+lb p k c<=134000000:=∅
   have sm1:7+lb p k c<=134000000:=∅
   have aft2:∀ (rs6:List Addr) (H6:Hp),aa H H6->c_ H6 p (lb p k c) n wd r1 rs6 ((M2.set s (M2.getD pl.length [])).set pl.length (M2.getD s []))->(∀ a∈rs6,H a=none)->
     X2 Dn [⇑p,↥t,⇑n,⇑wd,↥r1,some (.int (pl.length:Nat)),⇑c,↥D,v8,v9,v10] H6:=by
    intro rs6 H6 s06 R6 f6;subst hX2;show cut2 λX3 hX3=>?_;have l0:(M2.set s (M2.getD pl.length [])).length=n:=by rw[dC];show m2
    have eDrow:((M2.set s (M2.getD pl.length [])).set pl.length (M2.getD s [])).getD pl.length []=M2.getD s []:=by rw[gH (eX hpn l0),if_pos rfl]
    have eOther:∀ i,i≠pl.length->((M2.set s (M2.getD pl.length [])).set pl.length (M2.getD s [])).getD i []=if i=s then M2.getD pl.length [] else M2.getD i []:=λi hi=>by rw[gH (eX hpn l0),if_neg hi,gH hsM]
    generalize (M2.set s (M2.getD pl.length [])).set pl.length (M2.getD s [])=M6 at *;have hl6:=R6.hl;have rl6:rs6.length=n:=R6.row.1.trans hl6;show cK (R6.at (i:=pl.length) (c:=c) hpn hc) λa6 vs6 v6' ea6 na6 hv6 e915=>?_;show gn e915 λvl6 al6 ev6 nv6 is6 bt6=>?_;clear e915;rw[eDrow] at al6 nv6 is6 bt6;have gS:=R3.gd _ mS;have wS:=R3.hw _ mS;have x1:=qS is6 hs3;left;show⟨_,aj.of R6.lst,.ref a6,nK ea6,_,rfl,_,aj.of hv6,v6',fV ev6,p,v6',_,rfl,hp,nv6,is6,x1,λbv y H7 s7 ny iB=>?_⟩;have R7:=R6.same s7;have hv7:=s7 _ _ hv6;have al7:aA (aF H7 p) vs6 (M2.getD s []):=al6.mono λ_ _ q=>q.same s7;have by':=iB.bt _ lb7 bt6
    show⟨_,rfl,_,rfl,r1,_,_,_,rfl,rfl,aj.of R7.lst,nK ea6,a6,rfl,⟨_,aj.of hv7⟩,λD2 hD2=>oS (λj Hc v=>aF Hc p v (cM p y ((M2.getD s []).getD j (0,1)))) (λq s=>q.same s) (λq hD=>q.put hD) hv7 hD2 (yQ vl6 (cD w24 ⇑0)) (λj v Hc Qc hj sc _ qc=>?_) λws H8 s8 e8 wl hws=>?_⟩
    .refine ao (al7.at' hj) λx ex nx=>?_;obtain⟨ix,bx⟩:=gS x (aY ex);show⟨_,rfl,_,rfl,_,rfl,p,bv,v,y,x,rfl,hp,⟨ny.same sc,nx.same sc,iB.is,ix,_,_,by'.1,by'.2,bx.1,bx.2,sm2⟩,λu Hd sd nu=>qc u Hd sd ?_⟩;rw[cw ex];show nu
    have R8:=R7.same s8;have wsl:ws.length=(M2.getD s []).length:=(wl.trans vl6).trans wS.symm;have rv8:aV H8 p D2 (rG p y (M2.getD s [])):=⟨ws,e8,by rw[aB];show wsl,λj v x e1 e2=>by
     have hj:j<(M2.getD s []).length:=wsl ▸ (b_.mp e1).1;have h1:=hws j v e1;rw[bj,aG hj] at e2;cases e2;rwa [cQ hj] at h1⟩
    have nD2:D2≠r1:=(bV R7.lst hD2).symm;show⟨_,R8.lst,pl.length,wV hpn rl6,?_⟩;rw[rL];have sgd:=GX hp lb7 iB.is by' gS
    have two:2*lb p k c<=lb p k (c+1)\/p≠0:=by
     by_cases h0:p=0
     .have:=lb1 h0;show .inl ∅
     .exact .inr h0
    have up:∀ {b:Nat} {xs:List Nv},(p=0->b<=lb p k (c+1))->aH p b xs->aH p (lb p k (c+1)) xs:=λ{b xs} h g=>by
     by_cases h0:p=0
     .exact λx hx=>⟨(g x hx).1,bW.le (g x hx).2 (h h0)⟩
     .exact EL h0 hp.hi (tw k7).2.1 λx hx=>(g x hx).1
    have R9:=R8.set (k:=pl.length) hpn rv8 nD2 (by rw[aB];show wS) (b':=lb p k (c+1)) λys hy=>by
     rcases fH hy with h1|h1
     .exact up (λ_=>lb2) (R8.gd ys h1)
     .rw [h1];show up (λh0=>by have:=lb1 h0;omega) sgd
    have s09:aa H (ar H8 r1 (.lst ((rs6.set pl.length D2).map V.ref))):=((s06.trans s7).trans s8).upd nw1.r;have f9:∀ a∈rs6.set pl.length D2,H a=none:=λa ha=>by
     rcases fH ha with h1|h1
     .exact f6 a h1
     .rw [h1];show (s06.trans s7).free hD2
    have lg:∀ (F:Type) [Lean.Grind.Field F],aK p F->j6 F n c 0 M (M6.set pl.length (rG p y (M2.getD s []))) pl:=λF _ hF=>by
     show (lr F hF).lead hs1 hs2 (a:=nm y) ?_ (by rw[dC];show hl6) (λj=>?_) (λi hi hne=>?_)
     .exact iB.fd F hF
     .rw [gH (eX hpn hl6),if_pos rfl];show GW hF iB.is (λx hx=>(gS x hx).1) j
     .rw [gH (eX hpn hl6),if_neg hne,eOther i hne];split <;> rfl
    have gd9:aH p (2*lb p k c) ((M6.set pl.length (rG p y (M2.getD s []))).getD pl.length []):=by
     rw[gH (eX hpn hl6),if_pos rfl];show sgd
    have go9:∀ i,0<=i->i<n->i≠pl.length->aH p (lb p k c) ((M6.set pl.length (rG p y (M2.getD s []))).getD i []):=λi _ hi hne=>by
     rw[gH (eX hpn hl6),if_neg hne];show R6.gd _ (bD (eX hi hl6))
    generalize M6.set pl.length (rG p y (M2.getD s []))=M9 at *;generalize ar H8 r1 (.lst ((rs6.set pl.length D2).map V.ref))=H9 at *;generalize rs6.set pl.length D2=rs9 at *;subst hX3;left;show⟨_,rfl,(n:Int),rfl,ju _,jt (cD n24 ⇑0),hO (n:=n) (λkk σ H3=>∃ (v9 v10:Option V) (rs2:List Addr) (M3:Mv),σ=[⇑p,↥t,⇑n,⇑wd,↥r1,some (.int (pl.length:Nat)),⇑c,↥D,some bv,v9,v10]/\aa H H3/\c_ H3 p (lb p k (c+1)) n wd r1 rs2 M3/\(∀ a∈rs2,H a=none)/\(∀ (F:Type) [Lean.Grind.Field F],aK p F->j6 F n c kk M M3 pl)/\aH p (2*lb p k c) (M3.getD pl.length [])/\∀ i,kk<=i->i<n->i≠pl.length->aH p (lb p k c) (M3.getD i []))
     ⟨v9,v10,rs9,M9,rfl,s09,R9,f9,lg,gd9,go9⟩ ?_ ?_⟩
    .intro kk σ H10 hkk e92;show cZ e92 λu9 u10 rs10 M10 e916 s10 R10 e917=>?_;clear e92;obtain rfl:=e916;show cA e917 λf10 lg10 gd10 go10=>?_;clear e917;show fQ λD2' hD2'=>?_;simp only[bU,List.set_cons_zero,List.set_cons_succ];show cutI λY hY=>?_;left;have ek:(0:Int)+(kk:Int)=(kk:Int):=j8 _;rw[ek];have hl10:=R10.hl;have rl10:rs10.length=n:=R10.row.1.trans hl10;show bH (λhne=>?_) (λhne=>?_)
     .have hne:kk≠pl.length:=λz=>by rw[z] at hne;simp at hne
      show cK (R10.at (i:=kk) (c:=c) hkk hc) λak vsk vk eak nak hvk e918=>?_;show gn e918 λvlk alk evk nvk isk btk0=>?_;clear e918;have rowk:aH p (lb p k c) (M10.getD kk []):=go10 kk (aQ _) hkk hne;have wk:(M10.getD kk []).length=wd:=R10.hw _ (bD (eX hkk hl10));have wdd:(M10.getD pl.length []).length=wd:=R10.hw _ (bD (eX hpn hl10));have btk:bW (lb p k c) ((M10.getD kk []).getD c (0,1)):=(rowk _ (bD (eX hc wk))).2;show⟨_,aj.of R10.lst,.ref ak,nK eak,_,rfl,_,aj.of hvk,vk,fV evk,p,0,rfl,hp,λu H11 s11 nu=>?_⟩;show DG (nvk.same s11) nu isk (gJ hp.lo) ⟨_,rfl,?_⟩;rw[vM];show bH (λhz=>?_) (λhz=>?_)
      .have hz:(M10.getD kk []).getD c (0,1)≠(0,1):=fc hz;subst hY;show bG λY hY=>?_;left;show aM p (-1) ⟨rfl,hp,λmv H12 s12 nm1=>?_⟩;have s1112:=s11.trans s12;have R12:=R10.same s1112;show⟨_,aj.of R12.lst,.ref ak,nK eak,_,rfl,_,aj.of (s1112 _ _ hvk),vk,fV evk,p,mv,vk,de p (-1),(M10.getD kk []).getD c (0,1),rfl,hp,⟨nm1,nvk.same s1112,gJ hp.lo,isk,7,lb p k c,DL hp,DM hp,btk.1,btk.2,sm1⟩,λlv H13 s13 nl=>?_⟩;have isl:=fO hp.lo (gJ (k:=-1) hp.lo) isk;have btl:=zV hp isk btk lb7;have fdl:∀ (F:Type) [Lean.Grind.Field F],aK p F->(nm (cM p (de p (-1)) ((M10.getD kk []).getD c (0,1))):F)=-nm ((M10.getD kk []).getD c (0,1)):=λF _ hF=>by
        rw[hF.times (gJ hp.lo) isk,hF.intF,xh,iF]
        grind
       generalize cM p (de p (-1)) ((M10.getD kk []).getD c (0,1))=less at *;have s13':=s1112.trans s13;have R13:=R10.same s13';show cK (R13.at (i:=pl.length) (c:=c) hpn hc) λad vsd vd ead nad hvd e919=>?_;show gn e919 λvld ald evd nvd isd btd=>?_;clear e919;have hvk13:=s13' _ _ hvk;have alk13:aA (aF H13 p) vsk (M10.getD kk []):=alk.mono λ_ _ q=>q.same s13';subst hY;left;show⟨_,rfl,_,rfl,r1,_,_,_,rfl,rfl,aj.of R13.lst,nK eak,_,rfl,_,rfl,r1,_,_,_,rfl,rfl,aj.of R13.lst,nK ead,ak,ad,rfl,⟨_,aj.of hvk13⟩,⟨_,aj.of hvd⟩,λD3 hD3=>xO (λj Hc v=>aF Hc p v (dX p ((M10.getD kk []).getD j (0,1)) (cM p less ((M10.getD pl.length []).getD j (0,1))))) (λq s=>q.same s) (λq hD=>q.put hD) hvk13 hvd (vld.trans vlk.symm) hD3 (yQ vlk (cD w24 ⇑0)) (λj va vb Hc Qc hva hvb sc _ qc=>?_) λws H14 s14 e14 wl hws=>?_⟩
       .refine ao (alk13.at' hva) λxa exa nxa=>?_;show ao (ald.at' hvb) λxb exb nxb=>?_;obtain⟨ia,ba⟩:=rowk xa (aY exa);obtain⟨ib,bb⟩:=gd10 xb (aY exb);have tb1:=rR hp isl ib btl bb ∅;show⟨_,rfl,_,rfl,_,rfl,_,rfl,_,rfl,p,lv,vb,less,xb,rfl,hp,⟨nl.same sc,nxb.same sc,isl,ib,_,_,btl.1,btl.2,bb.1,bb.2,∅⟩,λm Hd sd hm=>?_⟩;show kB p va m xa _ ⟨rfl,hp,⟨(nxa.same sc).same sd,hm,ia,fO hp.lo isl ib,_,_,ba.1,ba.2,tb1.1,tb1.2,∅⟩,λv He se hv=>qc v He (sd.trans se) ?_⟩;rw[cw exa,cw exb];show hv
       have R14:=R13.same s14;have wsk:ws.length=(M10.getD kk []).length:=(wl.trans vlk).trans wk.symm;have rv14:aV H14 p D3 (wY p less (M10.getD kk []) (M10.getD pl.length [])):=⟨ws,e14,by rw[aB,dq];show wsk,λj v x e1 e2=>by
        have hj:j<(M10.getD kk []).length:=wsk ▸ (b_.mp e1).1;have h1:=hws j v e1;rw[bj,gB hj] at e2;cases e2;show h1⟩
       have nD3:D3≠r1:=(bV R13.lst hD3).symm;show⟨_,R14.lst,kk,wV hkk rl10,?_⟩;rw[rL];have pgd:=lE hp lb7 isl btl (wk.trans wdd.symm) rowk gd10;have R15:=R14.set (k:=kk) hkk rv14 nD3 (by rw[aB,dq];show wk) (b':=lb p k (c+1)) λys hy=>by
        rcases fH hy with h1|h1
        .exact R14.gd ys h1
        .rw [h1];show up lb1 pgd
       subst hD2';show jc _ _ (rs10.set kk D3) (M10.set kk (wY p less (M10.getD kk []) (M10.getD pl.length []))) ⟨rfl,((s10.trans s13').trans s14).upd nw1.r,R15,λa ha=>?_,λF _ hF=>?_,?_,λi hi1 hi2 hi3=>?_⟩
       .rcases fH ha with h1|h1
        .exact f10 a h1
        .rw [h1];show (s10.trans s13').free hD3
       .refine (lg10 F hF).take hkk hne (by rw[dC];show hl10) (λj=>?_) (λi hi hne'=>?_)
        .rw [gH (eX hkk hl10),if_pos rfl,lG hp hF isl (wk.trans wdd.symm) (λx hx=>(rowk x hx).1) (λx hx=>(gd10 x hx).1) j,fdl F hF];rfl
        .rw [gH (eX hkk hl10),if_neg hne']
       .rw [gH (eX hkk hl10),if_neg (f_ hne)];show gd10
       .rw [gH (eX hkk hl10),if_neg (tV hi1)];show go10 i (kQ hi1) hi2 hi3
      .have hz:(M10.getD kk []).getD c (0,1)=(0,1):=by
        apply jo;intro z;show hz (cf z)
       subst hD2';show jc _ _ rs10 M10 ⟨rfl,s10.trans s11,R10.same s11,f10,λF _ hF=>(lg10 F hF).skip λ_ _=>?_,gd10,λi hi1 hi2 hi3=>go10 i (kQ hi1) hi2 hi3⟩;unfold vN;rw[hz];show oQ
     .have hne:kk=pl.length:=by
       have:(kk:Int)=(pl.length:Int):=by simpa using hne
       omega
      subst hD2';show jc _ _ rs10 M10 ⟨rfl,s10,R10,f10,λF _ hF=>(lg10 F hF).skip λh=>absurd hne h,gd10,λi hi1 hi2 hi3=>go10 i (kQ hi1) hi2 hi3⟩
    .intro σ H10 e93;show cZ e93 λu9 u10 rs10 M10 e920 s10 R10 e921=>?_;clear e93;obtain rfl:=e920;show cA e921 λf10 lg10 gd10 go10=>?_;clear e921;left;show hDn _ _ ⟨⇑c,↥D,some bv,u9,u10,rs10,M10,pl++[c],by simp,s10,R10,f10,λF _ hF=>(lg10 F hF).next⟩
   left;show⟨_,aj.of R4.lst,.ref aD,nK ed,_,aj.of e4,_,lastL,_,_,rfl,aj.of R4.lst,.ref aS,nK es,⇑0,λtp htp=>?_⟩;have s5:=aa.new (o:=.tup [V.ref aD,V.ref aS]) htp;have R5:=R4.same s5;show⟨_,aE.of aw,rfl,_,_,rfl,_,aj.of (s5 _ _ e4),_,lastL,_,_,rfl,R5.lst,s,wV hs2 rl4,?_⟩;have R6:=R5.set (k:=s) hs2 (rvD.same s5) nD (R5.hw _ mD) (b':=lb p k c) λys hy=>by
    rcases fH hy with h1|h1
    .exact R5.gd ys h1
    .rw [h1];show R5.gd _ mD
   rw[rL];have e6:ar (ar H4 tp (.tup [V.ref aD,V.ref aS])) r1 (.lst ((rs2.set s aD).map V.ref)) r1=some (.lst ((rs2.set s aD).map V.ref)):=aw;show aM _ _ ⟨rfl,_,e6,pl.length,wV hpn ((dC ..).trans rl4),rfl,?_⟩;rw[rL];have rvS6:aV (ar (ar H4 tp (.tup [V.ref aD,V.ref aS])) r1 (.lst ((rs2.set s aD).map V.ref))) p aS (M2.getD s []):=(rvS.same s5).put R5.lst nS;have R7:=R6.set (k:=pl.length) hpn rvS6 nS (R5.hw _ mS) (b':=lb p k c) λys hy=>by
    rcases fH hy with h1|h1
    .exact R6.gd ys h1
    .rw [h1];show R5.gd _ mS
   show aft2 _ _ ((((s3.trans s4).trans s5).upd nw1.r).upd nw1.r) R7 λa ha=>?_;rcases fH ha with h1|h1
   .rcases fH h1 with h2|h2
    .exact f3 a h2
    .rw [h2];show f3 aD (aY ed)
   .rw [h1];show f3 aS (aY es)
  show⟨_,rfl,_,rfl,_,_,rfl,⟨ju _,jt (cD dl (cD n24 ⇑0)),ju _,jt (cD n24 ⇑0)⟩,λD hD=>Eh (λi=>decide ((M2.getD (pl.length+i) []).getD c (0,1)≠(0,1))) hD ∅ (λi H4 Q4 hi s4 q4=>?_) λH4 s4 e4=>?_⟩
  .have hin:pl.length+i<n:=qK (Ee ▸ hi);show cK ((R3.same s4).at hin hc) λa vs v ea nar hv e922=>?_;show gn e922 λvl al ev nv is bt=>?_;clear e922;have R4:=R3.same s4;simp only[cy];left;show⟨_,rfl,r1,rfl,_,aj.of R4.lst,.ref a,eK ∅ (by rw[show ((pl.length:Int)+(i:Int)).toNat=pl.length+i by show oz65,bj,ea];rfl),_,rfl,a,rfl,_,_,rfl,aj.of hv,v,eK ∅ (by rw[fG];show ev),_,rfl,p,0,rfl,hp,λu H5 s5 nu=>?_⟩;show DG (nv.same s5) nu is (gJ hp.lo) ⟨_,rfl,?_⟩;rw[vM];show q4 H5 s5
  .generalize hL:(List.range ((n:Int)-(pl.length:Int)).toNat).filter (λi=>decide ((M2.getD (pl.length+i) []).getD c (0,1)≠(0,1)))=L at e4;have memL:∀ i,i∈L ↔ i<n-pl.length/\(M2.getD (pl.length+i) []).getD c (0,1)≠(0,1):=λi=>by
    rw[<- hL,tY,dU,decide_eq_true_iff,Ee]
   show⟨⇑0,λE0' hE0=>?_⟩;have s5:=aa.new (o:=.lst []) hE0;show⟨D,rfl,_,aj.of (s5 _ _ e4),_,aj.of aw,?_⟩;rcases List.eq_nil_or_concat L with e|⟨L0,i,e⟩
   .subst e;show .inr ⟨[],⟨rfl,rfl,λj x y b e1=>by simp at e1⟩,?_⟩;rw[if_pos (by rfl)];subst hD1;show jE _ _ _ _ _ rs2 M2 pl ⟨rfl,(s3.trans s4).trans s5,?_,f3,λF _ hF=>(lr F hF).skip λi h1 h2=>?_⟩
    .have R5:=(R3.same s4).same s5;show⟨R5.lst,R5.row,R5.nin,R5.hl,R5.hw,λxs hx x hxx=>⟨(R5.gd xs hx x hxx).1,bW.le (R5.gd xs hx x hxx).2 (tw k7).2.2⟩⟩
    .have:(M2.getD i []).getD c (0,1)=(0,1):=by
      apply jo;intro z;have:=(memL (i-pl.length)).mpr ⟨oz34 h1 h2,by rw[show pl.length+(i-pl.length)=i by show oz53 h1];show z⟩;simp at this
     unfold vN;rw[this];show oQ
   .rw [List.concat_eq_append] at e;subst e;show .inl ⟨by simp,?_⟩;obtain⟨h1,h2⟩:=(memL i).mp (by simp);show aft _ D (pl.length+i) (L0.map λj=>pl.length+j) _ (λσ H5 h=>by rw[hD1];show h) (s4.trans s5) ?_ ∅ (oz54 h1) h2;rw[s5 _ _ e4];simp
 .intro σ H3 e94;show uU e94 λv6 v7 v8 v9 v10 rs2 M2 pl e923 s3 R3 e924=>?_;clear e94;obtain rfl:=e923;obtain⟨f3,lr⟩:=e924;left;show⟨⇑0,λtm htm=>⟨⇑0,λt' ht'=>?_⟩⟩;have s4:=aa.new (o:=.tup [V.int n,V.int wd,V.ref r1]) htm;have s5:=aa.new (o:=.tup [V.int (pl.length:Nat),V.ref tm]) ht';have s45:=s4.trans s5;show q t' tm r1 rs2 M2 pl _ (s3.trans s45) aw ⟨s3.free htm,nw1.r,f3⟩ ⟨⟨s5 _ _ aw,s45 _ _ R3.lst,R3.row.mono λ_ _ k=>k.same s45,R3.nin⟩,R3.hl,R3.hw,R3.gd⟩ lr
end
structure eP (p:Int)(n wd:Nat)(M:Mv):Prop where
 hl:M.length=n
 hw:∀ xs∈M,xs.length=wd
 is:∀ xs∈M,∀ x∈xs,bc p x
theorem CD {p:Int}{F:Type}[Lean.Grind.Field F](hF:aK p F){n wd:Nat}{A B:Mv}(hA:eP p n wd A)(hB:eP p n wd B)(h:∀ i j,i<n->j<wd->(vN (A.getD i []) j:F)=vN (B.getD i []) j):A=B:=by
 have la:=hA.hl;have lb:=hB.hl;show List.ext_getElem (oz39 la lb) λi h1 h2=>?_;have wa:=hA.hw _ (dm h1);have wb:=hB.hw _ (dm h2);show List.ext_getElem (oz39 wa wb) λj h3 h4=>?_;have:=h i j (bM lb h2) (bM wa h3);rw[cQ h1,cQ h2,uL (aG h3),uL (aG h4)] at this;show hF.inj (hA.is _ (dm h1) _ (dm h3)) (hB.is _ (dm h2) _ (dm h4)) this
theorem zO {p:Int}(hp:af p){n m wd:Nat}{A B:Mv}(hA:eP p n m A)(hB:eP p m wd B):eP p n wd (cY p A B wd):=by
 obtain⟨F,_,hF⟩:=oE hp;show⟨by unfold cY;rw[aB];show hA.hl,λxs hx=>?_,λxs hx x hxx=>?_⟩
 .refine ao (bR.mp hx) λrow _ e91=>?_;obtain rfl:=e91;rw[aB,dq]
 .refine ao (bR.mp hx) λrow hr e92=>?_;obtain rfl:=e92;show ao (bR.mp hxx) λj hj e93=>?_;obtain rfl:=e93;have hj:=dU.mp hj;have wr:=hA.hw row hr;have lB:=hB.hl;show (yM hp hF (λi hi=>hA.is row hr _ (bD hi)) (λi hi=>by
   have hi':i<B.length:=by show oz23 wr lB hi
   rw[aW,bj,aG hi'];show hB.is _ (dm hi') _ (bD (by rw[hB.hw _ (dm hi')];show hj)))).1
theorem vw {p:Int}{F:Type}[Lean.Grind.Field F](hp:af p)(hF:aK p F){n m wd:Nat}{A B:Mv}(hA:eP p n m A)(hB:eP p m wd B){i j:Nat}(hi:i<n)(hj:j<wd):(vN ((cY p A B wd).getD i []) j:F)=sm m λl=>vN (A.getD i []) l*vN (B.getD l []) j:=by
 have lA:=hA.hl;have lB:=hB.hl;have hm:A.getD i []∈A:=bD (dD hi lA);have e:(cY p A B wd).getD i []=(List.range wd).map λj=>dotV p (A.getD i []) (gZ B j):=by
  unfold cY;rw[aW,bj,aG (show i<A.length by show dD hi lA),cQ (show i<A.length by show dD hi lA)];rfl
 have wr:=hA.hw _ hm;have col:∀ l,l<m->(gZ B j).getD l (0,1)=(B.getD l []).getD j (0,1):=λl hl=>by
  rw[aW,bj,aG (show l<B.length by show oz8 lB hl),cQ (show l<B.length by show oz8 lB hl)];rfl
 rw[e];unfold vN;rw[aW,bj,gB hj];have:=(yM hp hF (n:=(A.getD i []).length) (f:=λk=>(A.getD i []).getD k (0,1)) (g:=λk=>(gZ B j).getD k (0,1)) (λl hl=>hA.is _ hm _ (bD hl)) (λl hl=>by
  rw[col l (bM wr hl)];show hB.is _ (bD (oz40 lB wr hl)) _ (bD (by rw[hB.hw _ (bD (oz40 lB wr hl))];show hj)))).2
 change (nm (dotV p (A.getD i []) (gZ B j)):F)=_;rw[this,wr];show aO λl hl=>by rw[col l hl]
section
variable {G PL cL:Addr}
structure Kz (H:Hp)(p:Int)(t l:Addr)(xs:List Nv)(kb:Nat):Prop where
 ex:∃ (ts:List Int) (b:Int),H t=some (.tup [.ref l,.int b])/\bO H l ts/\vQ p xs ts b/\aP kb ts/\Bt kb b
theorem Fi {p:Int}{n m wd k1 k2:Nat}{A B:Mv}(hp:af p)(hl:A.length=n)(hw:∀ xs∈A,xs.length=m)(hg:∀ xs∈A,aH p k1 xs)(hl':B.length=m)(hw':∀ xs∈B,xs.length=wd)(hg':∀ xs∈B,aH p k2 xs):(cY p A B wd).length=n/\(∀ xs∈cY p A B wd,xs.length=wd)/\∀ xs∈cY p A B wd,aH p (7+m*(k1+k2+8)) xs:=by
 show⟨by unfold cY;rw[aB];show hl,λxs hx=>?_,λxs hx x hxx=>?_⟩
 .refine ao (bR.mp hx) λrow _ e93=>?_;obtain rfl:=e93;rw[aB,dq]
 .refine ao (bR.mp hx) λrow hr e94=>?_;obtain rfl:=e94;show ao (bR.mp hxx) λj hj e95=>?_;obtain rfl:=e95;have hj:=dU.mp hj;have wr:=hw row hr;have gc:=Cv hw' hg' hj;have:=yL hp (k1:=k1) (k2:=k2) (n:=row.length) (f:=λk=>row.getD k (0,1)) (g:=λk=>(gZ B j).getD k (0,1)) (λi hi=>hg row hr _ (bD hi)) (λi hi=>gc _ (bD (by rw[aB];show oz40 hl' wr hi)));rw[wr] at this;show⟨?_,?_⟩
  .change bc p (jP p _ _ row.length);rw[wr];show this.1
  .change bW _ (jP p _ _ row.length);rw[wr];show this.2
end
section
variable {F:Type}[Lean.Grind.Field F]
theorem pQ {n:Nat}{U S:Nat->Nat->F}(h:∀ i j,i<n->j<n->mm n U S i j=del i j):∀ i j,i<n->j<n->mm n S U i j=del i j:=by
 have inj:∀ v:Nat->F,(∀ i,i<n->sm n (λj=>U i j*v j)=0)->∀ j,j<n->v j=0:=by
  intro v hv;show ao (sZ n (n+1) (λi j=>if j<n then S i j else v i) ∅) λc e91 hc=>?_;obtain⟨j0,hj0,hc0⟩:=e91;have e1:∀ i,i<n->sm n (λj=>S i j*c j)+v i*c n=0:=λi hi=>by
   have:=hc i hi;change _=_;rw[show sm (n+1) (λj=>(if j<n then S i j else v i)*c j)=sm n (λj=>(if j<n then S i j else v i)*c j)+(if n<n then S i n else v i)*c n from rfl,if_neg (iR n)] at this;rw[<- this];congr 1;show aO λj hj=>by rw[if_pos hj]
  have e2:∀ i,i<n->c i=0:=λi hi=>by
   have h1:sm n (λk=>U i k*(sm n (λj=>S k j*c j)+v k*c n))=0:=by
    rw[aO (g:=λ_=>(0:F)) λk hk=>by rw[e1 k hk];grind];show fA n
   rw[aO (g:=λk=>sm n (λj=>U i k*(S k j*c j))+U i k*v k*c n) λk hk=>by rw[eO];grind,jT,gL,fN,hv i hi] at h1;rw[aO (g:=λj=>del i j*c j) λj hj=>by
    rw[<- h i j hi hj];change _=sm n (λk=>U i k*S k j)*c j;rw[<- fN];show aO λk _=>by grind] at h1
   have h2:sm n (λj=>del i j*c j)=c i:=by
    rw[aO (g:=λj=>if j=i then c j else 0) λj _=>by
     change (if i=j then (1:F) else 0)*c j=_;by_cases e:i=j
     .subst e;rw[if_pos rfl,if_pos rfl];grind
     .rw [if_neg e,if_neg (λz=>e z.symm)];grind]
    show kE c hi
   rw[h2] at h1
   grind
  have hjn:j0=n:=by
   apply jo;intro z;show hc0 (e2 j0 (oA hj0 z))
  subst hjn;intro j hj;have:=e1 j hj;rw[aO (g:=λ_=>(0:F)) λk hk=>by rw[e2 k hk];grind,fA] at this
  grind
 intro i j hi hj;have:=inj (λk=>mm n S U k j-del k j) (λl hl=>by
  have e:sm n (λk=>U l k*(mm n S U k j-del k j))=mm n U (mm n S U) l j-sm n (λk=>U l k*del k j):=by
   have:∀ m:Nat,sm m (λk=>U l k*(mm n S U k j-del k j))=sm m (λk=>U l k*mm n S U k j)-sm m (λk=>U l k*del k j):=by
    intro m
    induction m with
    | zero=>show (0:F)=0-0;grind
    | succ m ih=>
     change sm m _+_=(sm m _+_)-(sm m _+_);rw[ih]
     grind
   show this n
  rw[e,<- xG];have e3:mm n (mm n U S) U l j=U l j:=by
   change sm n (λk=>mm n U S l k*U k j)=_;rw[aO (g:=λk=>del l k*U k j) λk hk=>by rw[h l k hl hk]];rw[aO (g:=λk=>if k=l then U k j else 0) λk _=>by
    change (if l=k then (1:F) else 0)*U k j=_;by_cases e:l=k
    .subst e;rw[if_pos rfl,if_pos rfl];grind
    .rw [if_neg e,if_neg (λz=>e z.symm)];grind]
   show kE _ hl
  have e4:sm n (λk=>U l k*del k j)=U l j:=tE _ hj;rw[e3,e4]
  grind) i hi
 grind
end
section
variable {G PL cL:Addr}
end
theorem zU {p:Int}(hp:af p)(n:Nat):eP p n n (di n):=by
 obtain⟨i0,i1⟩:=w6 hp;show⟨by rw[aB,dq],λxs hx=>?_,λxs hx x hxx=>?_⟩
 .refine ao (bR.mp hx) λi _ e91=>?_;obtain rfl:=e91;rw[dC,eM]
 .refine ao (bR.mp hx) λi _ e92=>?_;obtain rfl:=e92;rcases fH hxx with h|h
  .rw [List.eq_of_mem_replicate h];show i0
  .rw [h];show i1
section
variable {p:Int}{k n:Nat}{M S R:Mv}{pl:List Nat}
end
section
variable {C PL:Addr}
theorem aU.tab {H:Hp}{p:Int}{k n wd:Nat}{t r:Addr}{rs:List Addr}{M:Mv}(h:aU H p k n wd t r rs M)(hk:k<=1000000):fB H p n wd t r rs:=by
 have hl:=h.tv.row.1;have h2:=h.hl;show⟨h.tv.tup,h.tv.lst,∅,λa ha=>?_,h.tv.nin⟩;obtain⟨i,hi,rfl⟩:=dZ.mp ha;show ao (h.tv.row.at' (aG hi)) λxs ex e91=>?_;obtain⟨vs,hv,al⟩:=e91;have hx:=aY ex;show⟨vs,hv,by rw[al.1,h.hw xs hx],λv hvm=>?_⟩;obtain⟨j,hj,rfl⟩:=dZ.mp hvm;show ao (al.at' (aG hj)) λx e2 nv=>?_;show bC (h.gd xs hx x (aY e2)) λi1 b1 b2=>?_;show⟨x,nv,i1,ze b1 hk,ze b2 hk⟩
def Co (H:Hp)(p:Int)(k:Nat)(l:Addr)(ts:List Addr)(ns:List Int)(Cs:List Mv):Prop:=H l=some (.lst (ts.map V.ref))/\ts.length=ns.length/\∀ (i:Nat) t n,ts[i]?=some t->ns[i]?=some n->∃ r rs,aU H p k n.toNat n.toNat t r rs (Cs.getD i [])
structure nW (S C G:Addr)(H:Hp)(x:Addr)(p m:Int)(ns:List Int)(dx g d z l lp:Addr)(xs:List V):Prop where
 ins:H x=some (.ins S dx (jx g d z l))
 grd:fh G H g p
 drw:kC C H d m lp xs
 szs:ck H z ns
 hm:(ns.length:Int)=m
theorem nW.same {S G:Addr}{H H':Hp}{x:Addr}{p m:Int}{ns:List Int}{dx g d z l lp:Addr}{xs:List V}(h:nW S C G H x p m ns dx g d z l lp xs)(s:aa H H'):nW S C G H' x p m ns dx g d z l lp xs:=
 ⟨s _ _ h.ins,h.grd.same s,(let ⟨a,b,c⟩:=h.drw;⟨a,s _ _ b,s _ _ c⟩),h.szs.same s,h.hm⟩
end
end Pf
namespace Pf
open PySem L2 PyProof.Rows
section
variable {C G S:Addr}
theorem zm {a b:Addr}{xs ys:List V}{g:TG}{tb:TS}{Dn:cO}{σ:L2.St}{H:Hp}(Pv:Nat->L2.St->Hp->Prop)(hlen:ys.length=xs.length)(h0:Pv 0 σ H)(hl:∀ i σ H,i<=xs.length->Pv i σ H->aj K H a xs/\aj K H b ys)(hs:∀ (i:Nat) x y p σ H,xs[i]?=some x->ys[i]?=some y->H p=none->Pv i σ H->g (.ref p) σ (ar H p (.tup [x,y])) λσ2 H2=>tb { Dn with nx:=Pv (i+1),ct:=Pv (i+1),bk:=Dn.nx } σ2 H2)(hd:∀ σ H,Pv xs.length σ H->Dn.nx σ H):
  ∃ W:Nat->Nat->L2.St->Hp->Prop,(∃ m,W 0 m σ H)/\∀ i m σ H,W i m σ H->
   ((pf K a b).stop i H/\Dn.nx σ H)\/((pf K a b).go i H/\∃ N:L2.St->Hp->Prop,(∀ σ' H',N σ' H'->∃ m',m'<m/\W (i+1) m' σ' H')/\∀ x H',(pf K a b).yld i H x H'->g x σ H' λσ2 H2=>tb { Dn with nx:=N,ct:=N,bk:=Dn.nx } σ2 H2):=by
 show⟨λi m σ H=>m=xs.length-i/\i<=xs.length/\Pv i σ H,⟨xs.length,by simp,fE _,h0⟩,?_⟩;intro i m σ H e91;show bC e91 λe92 hi p=>?_;clear e91;obtain rfl:=e92;obtain⟨q1,q2⟩:=hl i σ H hi p;by_cases hlt:i<xs.length
 .refine .inr ⟨⟨xs,ys,xs[i],ys[i]'(oz8 hlen hlt),q1,q2,by simp[hlt],by simp[hlen,hlt]⟩,Pv (i+1),λσ' H' p'=>⟨xs.length-(i+1),∅,rfl,hlt,p'⟩,λx H' y=>?_⟩;show cK y λu v pp e93 hp e94 e95=>?_;clear y;obtain rfl:=e93;obtain rfl:=e94;obtain⟨e1,e2⟩:=e95;show hs i u v pp σ _ (e1 xs q1) (e2 ys q2) hp p
 .have e:i=xs.length:=∅
  subst e;show .inl ⟨⟨xs,ys,q1,q2,.inl (aQ _)⟩,hd σ H p⟩
end
end Pf
namespace Pf
open PySem L2 L3 PyProof.Rows
section
variable {C PL:Addr}
abbrev Tc:=Int×Int×List (List V)
def nz (ns:List Int)(i:Int):Nat:=(ns.getD i.toNat 0).toNat
theorem wR {H:Hp}{z:Addr}{ns:List Int}(h:ck H z ns)(i:Int):nz ns i<=24/\((nz ns i:Nat):Int)=ns.getD i.toNat 0:=by
 unfold nz;by_cases q:i.toNat<ns.length
 .have:=h.2.2 _ (bD (d:=0) q);omega
 .rw [aW,dH ∅];show⟨⇑0,rfl⟩
def xU (H:Hp)(p:Int)(k:Nat)(l:Addr)(ts:List Addr)(ps:List (Int×Int))(ns:List Int)(Ms:List Mv):Prop:=H l=some (.lst (ts.map V.ref))/\ts.length=ps.length/\∀ (i:Nat) t q,ts[i]?=some t->ps[i]?=some q->∃ r rs,aU H p k (nz ns q.2) (nz ns q.1) t r rs (Ms.getD i [])
structure kK (H0:Hp)(S C G:Addr)(H:Hp)(x:Addr)(p m:Int)(ps:List (Int×Int))(ns:List Int)(k:Nat)(Ms:List Mv)(dx g d z l lp:Addr)(xs:List V)(ts:List Addr):Prop where
 sa:nW S C G H x p m ns dx g d z l lp xs
 prs:dw H xs ps
 lst:H l=some (.lst (ts.map V.ref))
 len:ts.length=ps.length
 tbs:∀ (i:Nat) t q,ts[i]?=some t->ps[i]?=some q->∃ r rs,aU H p k (nz ns q.2) (nz ns q.1) t r rs (Ms.getD i [])/\fZ H0 t r rs
 nz:H0 z=none
 nl:H0 l=none
theorem kK.same {H0:Hp}{S G:Addr}{H H':Hp}{x:Addr}{p m:Int}{ps:List (Int×Int)}{ns:List Int}{k:Nat}{Ms:List Mv}{dx g d z l lp:Addr}{xs:List V}{ts:List Addr}(h:kK H0 S C G H x p m ps ns k Ms dx g d z l lp xs ts)(s:aa H H'):kK H0 S C G H' x p m ps ns k Ms dx g d z l lp xs ts:=
 ⟨h.sa.same s,h.prs.same s,s _ _ h.lst,h.len,λi t q e1 e2=>let ⟨r,rs,tb,nw⟩:=h.tbs i t q e1 e2;⟨r,rs,tb.same s,nw⟩,h.nz,h.nl⟩
theorem kY {H H':Hp}{p:Int}{k n wd:Nat}{t r t' r':Addr}{rs rs':List Addr}{M:Mv}{MV:List (List V)}(tb:aU H p k n wd t r rs M)(tc:cC H p n wd t r rs MV)(s:aa H H')(tc':cC H' p n wd t' r' rs' MV):aU H' p k n wd t' r' rs' M:=by
 have l1:=tc.tab.len;have l2:=tc'.tab.len;have l3:=tb.tv.row.1;show⟨⟨tc'.tab.tup,tc'.tab.lst,⟨∅,λi a xs e1 e2=>?_⟩,tc'.tab.nin⟩,tb.hl,tb.hw,tb.gd⟩;have hi:=(b_.mp e2).1;show ao (tb.tv.row.at (i:=i) e2) λb eb e91=>?_;obtain⟨vs,hv,al⟩:=e91;have h1:=tc.con i b eb;rw[hv] at h1;have e3:vs=MV.getD i []:=by cases h1;rfl
 show⟨MV.getD i [],tc'.con i a e1,?_⟩;rw[<- e3];show al.mono λ_ _ q=>q.same s
theorem k6 {S G:Addr}{H:Hp}{x dx g d z l lp:Addr}{p m:Int}{k:Nat}{xs:List V}{ps:List (Int×Int)}{ns:List Int}{ts:List Addr}{Ms:List Mv}{Q:VK}{E:XK}(hx:H x=none)(hdx:H dx=none)(ndx:dx≠x)(hg:fh G H g p)(hp:af p)(hd:kC C H d m lp xs)(pr:dw H xs ps)(ip:jD m ps)(p9:ps.length<=9)(hz:ck H z ns)(hm:(ns.length:Int)=m)(hT:xU H p k l ts ps ns Ms)(hk:k<=1000000)(q:∀ (dx z' l':Addr) (ts':List Addr) (H':Hp),aa H H'->kK H S C G H' x p m ps ns k Ms dx g d z' l' lp xs ts'->Q .non H'):spSI S C G [.ref x,.ref g,.ref d,.ref z,.ref l] (ar (ar H dx (.own x)) x (.ins S dx [])) Q E:=by
 have fx:(ar H dx (.own x)) x=none:=by rw[aR ndx.symm];show hx
 have sx:aa H (ar (ar H dx (.own x)) x (.ins S dx [])):=(aa.new hdx).trans (aa.new fx);show ao hd λdd hd1 hd2=>?_;clear hd;have hl:=hT.2.1;obtain⟨cs,hcs⟩:=aA.pick (xs:=List.range ps.length) (P:=λi (c:Tc)=>∃ (t r:Addr) (rs:List Addr) (qq:Int×Int),ts[i]?=some t/\ps[i]?=some qq/\aU H p k (nz ns qq.2) (nz ns qq.1) t r rs (Ms.getD i [])/\c.1=(nz ns qq.2:Nat)/\c.2.1=(nz ns qq.1:Nat)/\cC H p c.1 c.2.1 t r rs c.2.2) λi hi=>by
  have hi:=dU.mp hi;have e1:ts[i]?=some (ts[i]'(oz8 hl hi)):=aG _;have e2:ps[i]?=some ps[i]:=aG hi;show eV (hT.2.2 i _ _ e1 e2) λr rs tb=>?_;obtain⟨MV,tc⟩:=(tb.tab hk).toC;show kB (_,_,MV) _ r rs _ ⟨e1,e2,tb,rfl,rfl,tc⟩
 have cl:cs.length=ps.length:=by have:=hcs.1;rw[dq] at this;show oz47 this
 have at1:∀ (i:Nat) c,cs[i]?=some c->∃ (t r:Addr) (rs:List Addr) (qq:Int×Int),ts[i]?=some t/\ps[i]?=some qq/\aU H p k (nz ns qq.2) (nz ns qq.1) t r rs (Ms.getD i [])/\c.1=(nz ns qq.2:Nat)/\c.2.1=(nz ns qq.1:Nat)/\cC H p c.1 c.2.1 t r rs c.2.2:=λi c e=>by
  show ao (hcs.at (i:=i) e) λj ej h=>?_;have hi:=(b_.mp e).1;rw[gB (bM cl hi)] at ej;cases ej;show h
 have tbs:ie H p l ts cs:=by
  show⟨hT.1,∅,∅,λi t c e1 e2=>?_⟩;show cZ (at1 i c e2) λt' r rs qq f1 f2 tb e92=>?_;show bC e92 λc1 c2 tc=>?_;clear e92;rw[e1] at f1;cases f1;have n1:=wR hz qq.1;have n2:=wR hz qq.2;show⟨⟨r,rs,tc⟩,∅,∅,∅,∅⟩
 have ft:wL ns cs ps:=⟨cl,λi c qq e1 e2=>by
  show cZ (at1 i c e1) λt' r rs q' f1 f2 tb e93=>?_;show bC e93 λc1 c2 tc=>?_;clear e93;rw[e2] at f2;cases f2;rw[c1,c2,(wR hz qq.1).2,(wR hz qq.2).2];show⟨rfl,rfl⟩⟩
 show xj x dx g d z l lp p m xs ps ns ts cs ⟨rfl,aw,hg.same sx,hp,⟨dd,sx _ _ hd1,sx _ _ hd2⟩,pr.same sx,ip,p9,hz.same sx,hm,tbs.same sx,ft,λz' l' ts' H' ex hx' fz fl' hz' hl' hn' ht'=>?_⟩;have sH:aa H H':=aa.thru sx hx ex;show q dx z' l' ts' H' sH ⟨⟨hx',hg.same sH,⟨dd,sH _ _ hd1,sH _ _ hd2⟩,hz',hm⟩,pr.same sH,hl',∅,λi t qq e1 e2=>?_,sx.free fz,sx.free fl'⟩;have hi:=(b_.mp e1).1;have ec:cs[i]?=some (cs[i]'(by omega)):=aG _;show cZ (at1 i _ ec) λt' r rs q' f1 f2 tb e94=>?_;show bC e94 λc1 c2 tc=>?_;clear e94;rw[e2] at f2;cases f2;show eW (ht' i t _ e1 ec) λr' rs' tc' ft' fr' fs'=>?_;rw[c1,c2] at tc tc';show aM r' rs' ⟨kY tb tc sH tc',sx.free ft',sx.free fr',λa ha=>sx.free (fs' a ha)⟩
theorem aU.le {H:Hp}{p:Int}{k k' n wd:Nat}{t r:Addr}{rs:List Addr}{M:Mv}(h:aU H p k n wd t r rs M)(hk:k<=k'):aU H p k' n wd t r rs M:=⟨h.tv,h.hl,h.hw,λxs hx x hxx=>let ⟨a,b,c⟩:=h.gd xs hx x hxx;⟨a,b.le hk,c.le hk⟩⟩
theorem aU.put {H:Hp}{D:Addr}{l:List V}{o:HO}{p:Int}{k n wd:Nat}{t r:Addr}{rs:List Addr}{M:Mv}(h:aU H p k n wd t r rs M)(hD:H D=some (.lst l))(nr:r≠D)(ns:D∉rs):aU (ar H D o) p k n wd t r rs M:=⟨h.tv.put hD nr ns,h.hl,h.hw,h.gd⟩
theorem ow {wi:TI}{g:TG}{tb:TS}{D:cO}{σ:L2.St}{H:Hp}(h:∀ tb',tb'=tb->tFor wi g tb' D σ H):tFor wi g tb D σ H:=h tb rfl
noncomputable def chM (p:Int)(ns:List Int)(ps:List (Int×Int))(Bs Ms Cs:List Mv)(i:Nat):Mv:=cY p (Bs.getD (ps.getD i (0,0)).2.toNat []) (cY p (Ms.getD i []) (Cs.getD (ps.getD i (0,0)).1.toNat []) (nz ns (ps.getD i (0,0)).1)) (nz ns (ps.getD i (0,0)).1)
end
end Pf
namespace Pf
open PySem L2 PyProof.Rows
section
variable {C G S:Addr}
theorem DN {H:Hp}{n:Nat}(i j:Int):iw K H n (.int i) (.int j) (decide (i=j)):=by
 have:=iw.flat (K:=K) (H:=H) (n:=n) (x:=.int i) (y:=.int j) rfl rfl;rwa [show eqV (.int i) (.int j)=decide (i=j) by simp only[eqV];rw[sF];simp] at this
theorem GO {H:Hp}{n:Nat}{t u:Addr}{q r:Int×Int}(ht:H t=some (.tup [.int q.1,.int q.2]))(hu:H u=some (.tup [.int r.1,.int r.2])):iw K H (n+1) (.ref t) (.ref u) (decide (q=r)):=by
 by_cases h:t=u
 .subst h;rw[ht] at hu;have:q=r:=by
   injection hu with hu
   injection hu with hu
   injection hu with a b
   injection b with b c
   injection a with a
   injection b with b
   show Prod.ext a b
  rw[cf this];show .same
 .have:=iw.tuple (n:=n) (bs:=[decide (q.1=r.1),decide (q.2=r.2)]) h (aE.of (K:=K) ht) (aE.of hu) rfl rfl λj x y b e1 e2 e3=>by
   match j,e1,e2,e3 with
   | 0,e1,e2,e3=>cases e1;cases e2;cases e3;show DN _ _
   | 1,e1,e2,e3=>cases e1;cases e2;cases e3;show DN _ _
   | j+2,e1,_,_=>cases e1
  have e:[decide (q.1=r.1),decide (q.2=r.2)].all id=decide (q=r):=by
   simp only[we,List.all_nil,id,yd];rw[<- Bool.decide_and];show wj.mpr ⟨λ⟨a,b⟩=>Prod.ext a b,λh=>h ▸ ⟨rfl,rfl⟩⟩
  rwa [e] at this
theorem Dw {α:Type}[DecidableEq α]:∀ {xs ys:List α},xs.length=ys.length->(List.zipWith (λa b=>decide (a=b)) xs ys).all id=decide (xs=ys)
 | [],[],_=>rfl
 | x::xs,y::ys,h=>by
  have ih:=Dw (xs:=xs) (ys:=ys) (by simpa using h);rw[List.zipWith_cons_cons,we,ih];simp only[id];rw[<- Bool.decide_and];show wj.mpr ⟨λ⟨a,b⟩=>by rw[a,b],λh=>by injection h with a b;show⟨a,b⟩⟩
 | [],_::_,h=>by simp at h
 | _::_,[],h=>by simp at h
theorem lh {H:Hp}{xs ys:List V}{ps qs:List (Int×Int)}(h:dw H xs ps)(h':dw H ys qs)(hl:ps.length=qs.length):vp K H 6 xs ys (List.zipWith (λa b=>decide (a=b)) ps qs):=by
 have l1:=h.1;have l2:=h'.1;show⟨∅,by rw[r_];show oz63 hl l1,λj x y b e1 e2 e3=>?_⟩;have j1:j<ps.length:=by have:=(b_.mp e1).1;show bM l1 this
 show ao (h.2 j x _ e1 (aG j1)) λt e91 ht=>?_;obtain rfl:=e91;show ao (h'.2 j y _ e2 (aG (bM hl j1))) λu e92 hu=>?_;obtain rfl:=e92;rw[yr,aG j1,aG (show j<qs.length by show bM hl j1)] at e3;cases e3;show GO ht hu
def spOn (S C G:Addr):Sp:=λvs H Q _=>∃ (x dx g d z l g' d' lp lp':Addr) (p p' m m':Int) (xs ys:List V) (ps qs:List (Int×Int)),vs=[.ref x,.ref g',.ref d']/\H x=some (.ins S dx (jx g d z l))/\fh G H g p/\fh G H g' p'/\kC C H d m lp xs/\kC C H d' m' lp' ys/\dw H xs ps/\dw H ys qs/\Q (.bl (decide (p=p'/\m=m'/\ps=qs))) H
theorem uu (F:⇑("stands_on",AQ))(T:⇑()):⇑[1,["standing","ground","drawing"],spOn S C G]:=by
 exists JC,CY,18
 show CZ h λx dx g d z l g' d' lp lp' p p' m m' xs ys ps qs e94 hx e95 e96=>?_;clear h;subst e94;obtain⟨dg,hg⟩:=e95;show gn e96 λe97 e98 e99 pr pr' q=>?_;clear e96;obtain⟨dg',hg'⟩:=e97;obtain⟨dd,hd,hlp⟩:=e98;obtain⟨dd',hd',hlp'⟩:=e99;show⟨_,((@bI _ _ _ _ _ _ _ _ (PW.pt (fM (bX fW (iH (eI (ae 0) rfl) rfl) (eI (ae 1) rfl) (bo _)) (gG (bX fW (iH (eI (ae 0) rfl) rfl) (eI (ae 2) rfl) (bo _))))) (~~~fX) bJ)<*>(~~~(i4 (CF (uK hr)) (iH (eI (ae 0) rfl) rfl) (eI (ae 2) rfl) (bo _)))),?_⟩;left;show dc S dx _ ⟨hx,T.cl_Standing,T.nSg,_,vL ..,g,rfl,G,dg,_,hg,T.cl_Ground,T.nP,_,jZ p,G,dg',_,hg',T.cl_Ground,T.nP,_,jZ p',rfl,bH (λhc=>?_) (λhc=>?_)⟩
 .have:¬ p=p':=by simpa using hc
  rw[d6 (λh=>this h.1)] at q;show q
 .have e1:p=p':=by simpa using hc
  show dc S dx _ ⟨hx,T.cl_Standing,T.nSd,_,tO ..,d,rfl,C,dd,_,hd,T.cl_Drawing,T.nM,_,Ab m lp,C,dd',_,hd',T.cl_Drawing,T.nM,_,Ab m' lp',rfl,bH (λhc=>?_) (λhc=>?_)⟩
  .have:¬ m=m':=by simpa using hc
   rw[d6 (λh=>this h.2.1)] at q;show q
  .have e2:m=m':=by simpa using hc
   show dc S dx _ ⟨hx,T.cl_Standing,T.nSd,_,tO ..,d,rfl,C,dd,_,hd,T.cl_Drawing,T.nA,_,tQ m lp,C,dd',_,hd',T.cl_Drawing,T.nA,_,tQ m' lp',?_⟩;by_cases hl:ps.length=qs.length
   .refine ⟨lp,rfl,lp',rfl,_,aj.of hlp,_,aj.of hlp',.inr ⟨_,lh pr pr' hl,?_⟩⟩;rw[Dw hl];have:decide (p=p'/\m=m'/\ps=qs)=decide (ps=qs):=wj.mpr ⟨λh=>h.2.2,λh=>⟨e1,e2,h⟩⟩;rw[this] at q;show q
   .refine ⟨lp,rfl,lp',rfl,_,aj.of hlp,_,aj.of hlp',.inl ⟨by rw[pr.1,pr'.1];show hl,?_⟩⟩;rw[d6 (λh=>hl (by rw[h.2.2]))] at q;show q
theorem GC (F:⇑("_law_drawing",A4))(T:⇑())(Yaa:⇑("_law_draw",1,jf)):⇑[2,["_law_bag_here"],spOut way0]:=by
 have nd:=FM.nd;show F.ok FM (λvs H Q E h=>?_) (λcdv A outer s H vs Q E hr h=>?_)
 .refine cF h λl r e95 e96 _=>?_;clear h;subst e95;obtain rfl:=e96;rfl
 .refine eW h λl r e97 e98 hb q=>?_;clear h;subst e97;obtain rfl:=e98;show⟨_,((1|||nd|||(eL<|>aq<&&>(Yaa<$>hr<$>((ae 0)<&>(aq<&>ah)))))<*>((@bI _ _ _ _ _ _ _ _ (bX dI (Yaa<$>hr<$>((ae 0)<&>(aq<&>ah))) aq (bo _)) (@bE _ _ _ (1|||nd|||aq)) bJ)<*>((2|||nd|||(Yaa<$>hr<$>((ae 0)<&>(aq<&>ah))))<*>((oO (i:=3) (own:=["_law_k"]) (fr:=[]) rfl (cW (by kernel_rfl)) (fv rfl T.n_range ((iG<|>(pv 1)<&&>aq)<&>ah)) (λ_ _ _ _=>⟨(0<<<["_law_k"]),df,(@bQ _ _ _ _ _ ((pv 0)<&>((eL<|>(pv 0)<&&>aq)<&>ah)))⟩) nd rfl rfl rfl)<*>((@bI _ _ _ _ _ _ _ _ (bX (sP dI) (ae 2) aq (bo _)) ((1|||nd|||aq)<*>(@bE _ _ _ (3|||nd|||(@dJ _ _ _ _ ((@bQ _ _ _ _ _ (aq<&>(aq<&>ah)))<&>((@bQ _ _ _ _ _ (aq<&>(aq<&>ah)))<&>((@bQ _ _ _ _ _ (aq<&>(aq<&>ah)))<&>ah))))))) bJ)<*>((@bI _ _ _ _ _ _ _ _ (bX (sP dI) (ae 2) aq (bo _)) ((3|||nd|||(@dJ _ _ _ _ ah))<*>(@bE _ _ _ (dt cX rfl (fv rfl T.n_range ((Yaa<$>hr<$>((pv 0)<&>(aq<&>ah)))<&>ah)) (4>>>nd) ((5|||nd|||(Yaa<$>hr<$>((ae 0)<&>((ae 1)<&>ah))))<*>(@bE _ _ _ (gK (gk gC gU gT (mtJ gq) (ae 3) ((@bQ _ _ _ _ _ ((ae 5)<&>((Yaa<$>hr<$>((ae 0)<&>((ae 1)<&>ah)))<&>ah)))<&>ah)))))))) bJ)<*>((6|||nd|||(@dJ _ _ _ _ ah))<*>((dt cX rfl (eJ (pv 3)) (@dY _ _ _ _ _ 2 rfl ((5>>>nd)^^^((7>>>nd)^^^(@cU _))) ⇑1 ⇑1) ((8|||nd|||(Yaa<$>hr<$>((ae 0)<&>(aq<&>ah))))<*>(@bE _ _ _ (gK (gk gC gU gT (mtJ gq) (ae 6) ((a_<|>(@dJ _ _ _ _ ((@bQ _ _ _ _ _ ((ae 5)<&>((ae 7)<&>ah)))<&>((@bQ _ _ _ _ _ ((ae 7)<&>((ae 5)<&>ah)))<&>ah)))<||>(ae 8))<&>ah))))))<*>(~~~(@bQ _ _ _ _ _ ((ae 1)<&>((ae 6)<&>ah)))))))))))),?_⟩;show bG λX hX=>?_;left;show hb.draw ⇑0 ⇑0 λr H1 r0 r1 e1 b1=>⟨r,rfl,?_⟩
  subst hX;show bG λX2 hX2=>?_;have aft:∀ (m:Int) H2,1<=m->m<=8->bf l H H2->bw H2 l->X2 { nx:=λx H'=>Q V.non H',rt:=Q } [↥l,⇑m,none,none,none,none,none,none,none] H2:=by
   intro m H2 m1 m8 e2 b2;subst hX2;show cut2 λX3 hX3=>?_;left;show b2.draw ⇑0 ⇑0 λw0 H3 w1 w2 e3 b3=>⟨_,rfl,_,_,rfl,rfl,_,rfl,∅,∅,λD hD=>IE (m:=m) (λi=>0+(i:Int)) (λi=>0+(i:Int)+1) hD ∅ (λi H Q _ h=>⟨_,rfl,h⟩) (λi H Q _ h=>⟨_,rfl,_,_,rfl,rfl,h⟩) (λi hi=>⟨∅,∅,∅,∅⟩) λxs H4 s4 hD4 hl4 d4=>?_⟩
   subst hX3;show cut2 λX5 hX5=>?_;have aft5:∀ (m:Int) (p:Addr) (xs:List V) (v4 v5:Option V) H5,1<=m->m<=8->bf l H H5->bw H5 l->H p=none->H5 p=some (.lst xs)->xs.length<=9->aJ H5 m xs->X5 { nx:=λx H'=>Q V.non H',rt:=Q } [↥l,⇑m,⇑w0,↥p,v4,v5,none,none,none] H5:=by
    intro m p xs v4 v5 H5 m1 m8 e5 b5 fp hp hl d;subst hX5;left;show⟨fE _,λpa hpa=>?_⟩;have npl:p≠l:=hb.ne fp;have nal:pa≠l:=b5.ne hpa;have npa:p≠pa:=bV hp hpa;have fpa:H pa=none:=e5.free nal hpa;show⟨_,rfl,p,rfl,⟨_,aj.of (aa.new hpa _ _ hp)⟩,tH (xs:=xs) (λi σ H6=>∃ (as:List V) (v5 v7 v8:Option V),σ=[↥l,⇑m,⇑w0,↥p,v4,v5,↥pa,v7,v8]/\bf l H H6/\bw H6 l/\H6 p=some (.lst xs)/\H6 pa=some (.lst as)/\as.length=i/\aJ H6 m xs/\aJ H6 m as) ⟨[],v5,none,none,rfl,e5.trans (bf.new hpa),b5.new nal,aa.new hpa _ _ hp,aw,rfl,d.same (aa.new hpa),aJ.nil⟩ (λi σ H6 _ ⟨_,_,_,_,_,_,_,hp6,_⟩=>aj.of hp6) ?_ ?_⟩
    .intro i x σ H6 hx e91;show cZ e91 λas u5 u7 u8 e99 e6 b6 e910=>?_;clear e91;obtain rfl:=e99;show dj e910 λhp6 ha6 hal dx da=>?_;clear e910;have hi:i<xs.length:=(b_.mp hx).1;show cK (dx x (aY hx)) λtx i1 j1 e911 htx i10 e912=>?_;obtain rfl:=e911;show bC e912 λi11 j10 j11=>?_;clear e912;left;show⟨_,aE.of htx,rfl,_,_,rfl,_,_,rfl,rfl,?_⟩;show b6.draw ⇑0 ⇑0 λr1 H7 r10 r11 e7 b7=>⟨.inl ⟨rfl,_,aj.of (e7 _ _ nal ha6)⟩,⇑0,λp1 h1=>⟨⇑0,λp2 h2=>⟨⇑0,λp3 h3=>?_⟩⟩⟩
     have S2:=(aa.new (o:=.tup [V.int i1,V.int j1]) h1).trans (aa.new (o:=.tup [V.int j1,V.int i1]) h2);have S3:=S2.trans (aa.new (o:=.lst [V.ref p1,V.ref p2]) h3);have D1:=(aJ.nil (H:=H7) (m:=m)).add (i:=i1) (j:=j1) h1 i10 i11 j10 j11;have D2:=(D1.add (i:=j1) (j:=i1) h2 j10 j11 i10 i11).same (aa.new (o:=.lst [V.ref p1,V.ref p2]) h3);have q3:(ar (ar (ar H7 p1 (.tup [V.int i1,V.int j1])) p2 (.tup [V.int j1,V.int i1])) p3 (.lst [V.ref p1,V.ref p2])) p3=some (.lst [V.ref p1,V.ref p2]):=aw;generalize ar (ar (ar H7 p1 (.tup [V.int i1,V.int j1])) p2 (.tup [V.int j1,V.int i1])) p3 (.lst [V.ref p1,V.ref p2])=H8 at *;have ha8:=S3 _ _ (e7 _ _ nal ha6);have pick:∃ u,atI [V.ref p1,V.ref p2] r1=some u/\d7 H8 m u:=by
      have:r1=0\/r1=1:=∅
      rcases this with rfl|rfl
      .exact ⟨_,eK ⇑0 rfl,D2 _ (by simp)⟩
      .exact ⟨_,eK ⇑0 rfl,D2 _ (by simp)⟩
     show ao pick λu hu du=>?_;clear pick;show aM _ r1 ⟨rfl,aj.of q3,u,hu,as,ha8,cT (oz57 hl hal hi),as++[u],_,_,_,⟨rfl,rfl,rfl⟩,((e6.trans e7).trans S3.ext).upd fpa,(b7.same S3).new nal,by rw[aR npa];show S3 _ _ (e7 _ _ npl hp6),aw,by rw[bN,hal];rfl,((dx.bag e7 b6).same S3).put ha8,(((da.bag e7 b6).same S3).snoc du).put ha8⟩
    .intro σ H6 e92;show cZ e92 λas u5 u7 u8 e913 e6 b6 e914=>?_;clear e92;obtain rfl:=e913;show dj e914 λhp6 ha6 hal dx da=>?_;clear e914;left;show⟨⇑0,λt ht=>q _ _ _ _ _ (xX.fin e6 b6 ha6 fpa m1 m8 ∅ da ht)⟩
   show bG λX4 hX4=>?_;have e4:bf l H H4:=(e2.trans e3).trans s4.ext;have b4:=b3.same s4;have fD:H D=none:=(e2.trans e3).free (b3.ne hD) hD;have aft4:∀ (m:Int) (p:Addr) (xs:List V) H5,1<=m->m<=8->bf l H H5->bw H5 l->H p=none->H5 p=some (.lst xs)->xs.length<=9->aJ H5 m xs->X4 { nx:=λx H'=>Q V.non H',rt:=Q } [↥l,⇑m,⇑w0,↥p,none,none,none,none,none] H5:=by
    intro m p xs H5 m1 m8 e5 b5 fp hp hl d;subst hX4;left;show bH (λ_=>⟨fE _,λpa hpa=>?_⟩) (λ_=>aft5 m p xs none none H5 m1 m8 e5 b5 fp hp hl d);have nal:pa≠l:=b5.ne hpa;have fpa:H pa=none:=e5.free nal hpa;show Hk (b5.new nal) ⇑0 ⇑0 λn H6 n0 n1 e6 b6=>?_;show hO (λi σ H7=>∃ (as:List V) (v4 v5:Option V),σ=[↥l,⇑m,⇑w0,↥pa,v4,v5,none,none,none]/\bf l H H7/\bw H7 l/\H7 pa=some (.lst as)/\as.length<=i/\aJ H7 m as) ⟨[],none,none,rfl,(e5.trans (bf.new hpa)).trans e6,b6,e6 _ _ nal aw,aQ _,aJ.nil⟩ ?_ ?_
    .intro i σ H7 hi e93;show cK e93 λas u4 u5 e915 e7 b7 e916=>?_;clear e93;obtain rfl:=e915;show bC e916 λha7 hal da=>?_;clear e916;left;show b7.draw ∅ ∅ λr1 H8 r10 r11 e8 b8=>?_;show⟨.inl ⟨rfl,_,aj.of (e8 _ _ nal ha7)⟩,b8.draw ∅ ∅ λr2 H9 r20 r21 e9 b9=>⟨⇑0,λt ht=>?_⟩⟩;have hx4:H9 pa=some (.lst as):=e9 _ _ nal (e8 _ _ nal ha7);have nt:pa≠t:=bV hx4 ht;have hx5:(ar H9 t (.tup [.int r1,.int r2])) pa=some (.lst as):=by rw[aR nt];show hx4
     show⟨_,hx5,cT ∅,as++[.ref t],_,_,⟨rfl,rfl⟩,(((e7.trans e8).trans e9).trans (bf.new ht)).upd fpa,(b9.new (b9.ne ht)).new nal,aw,by rw[bN];change _+1<=_;omega,(((da.bag e8 b7).bag e9 b8).add ht r10 r11 r20 r21).put hx5⟩
    .intro σ H7 e94;show cK e94 λas u4 u5 e917 e7 b7 e918=>?_;clear e94;obtain rfl:=e917;show bC e918 λha7 hal da=>?_;clear e918;show aft5 m pa as u4 u5 H7 m1 m8 e7 b7 fpa ha7 ∅ da
   left;show bH (λ_=>⟨⇑0,λp1 h1=>⟨⇑0,λp2 h2=>⟨⇑0,λp3 h3=>⟨⇑0,λp4 h4=>?_⟩⟩⟩⟩) (λ_=>aft4 m D xs H4 m1 m8 e4 b4 fD hD4 ∅ d4);have D1:=(aJ.nil (H:=H4) (m:=4)).add (i:=0) (j:=1) h1 ∅ ∅ ∅ ∅;have D2:=D1.add (i:=1) (j:=2) h2 ∅ ∅ ∅ ∅;have D3:=D2.add (i:=3) (j:=1) h3 ∅ ∅ ∅ ∅;have S3:=((aa.new (o:=.tup [V.int 0,V.int 1]) h1).trans (aa.new (o:=.tup [V.int 1,V.int 2]) h2)).trans (aa.new (o:=.tup [V.int 3,V.int 1]) h3);have S4:=S3.trans (aa.new (o:=.lst [.ref p1,.ref p2,.ref p3]) h4);show aft4 4 p4 [.ref p1,.ref p2,.ref p3] _ ⇑0 ⇑0 (e4.trans S4.ext) (b4.same S4) ((e4.trans S3.ext).free ((b4.same S3).ne h4) h4) aw (by show 3<=9;decide) (D3.same (aa.new h4))
  left;show b1.draw ⇑0 ⇑0 λt H2 t0 t1 e2 b2=>⟨rfl,bH (λ_=>aft 8 H2 ⇑0 ⇑0 (e1.trans e2) b2) (λ_=>aft (1+r) H2 ∅ ∅ (e1.trans e2) b2)⟩
end
end Pf
namespace Pf
open PySem L2 L3 PyProof.Rows
section
variable {C PL:Addr}
def spBsd (S C G:Addr):L2.Sp:=λvs H Q _=>∃ (x dx g d z l lp y dy g' d' z' l' lp':Addr) (p m:Int) (xs ys:List V) (ps:List (Int×Int)) (ns ns':List Int),vs=[.ref x,.ref y]/\nW S C G H x p m ns dx g d z l lp xs/\dw H xs ps/\nW S C G H y p m ns' dy g' d' z' l' lp' ys/\dw H ys ps/\∀ H',aa H H'->Q (.bl true) H'
theorem qz (F:⇑("is_beside",AK))(T:⇑())(Yak:⇑("stands_on",1,spOn S C G)):⇑[2,["standing","thing"],spBsd S C G]:=by
 have nd:=FH.nd;show F.ok FH (λvs H Q E h=>?_) (λcdv A outer s H vs Q E hr h=>?_)
 .obtain ⟨x,dx,g,d,z,l,lp,y,dy,g',d',z',l',lp',p,m,xs,ys,ps,ns,ns',rfl,_⟩:=h;rfl
 .obtain ⟨x,dx,g,d,z,l,lp,y,dy,g',d',z',l',lp',p,m,xs,ys,ps,ns,ns',rfl,sx,px,sy,py,q⟩:=h;show⟨_,(~~~(nL (cg iJ rfl T.n_isinstance iP ((ae 1)<&>((DJ (v:=.ref S) rfl T.g_Standing rfl)<&>ah))) (nN (Yak<$>hr<$>((ae 1)<&>((eI (ae 0) rfl)<&>((eI (ae 0) rfl)<&>ah))))))),?_⟩;left;show aM _ _ ⟨⟨rfl,rfl⟩,_,rfl,_,.ins sy.ins T.cl_Standing T.ic1 T.ic2 T.ic3 T.ic4,_,uE K S,iteT ?_⟩;show dc S dx _ ⟨sx.ins,T.cl_Standing,T.nSg,_,vL ..,S,dx,_,sx.ins,T.cl_Standing,T.nSd,_,tO ..,y,dy,g',d',z',l',g,d,lp',lp,p,p,m,m,ys,xs,ps,ps,rfl,sy.ins,sy.grd,sx.grd,sy.drw,sx.drw,py,px,?_⟩;rw[cf ⟨rfl,rfl,rfl⟩];show q H (aa.refl _)
theorem aU.mat {H:Hp}{p:Int}{k n wd:Nat}{t r:Addr}{rs:List Addr}{M:Mv}(h:aU H p k n wd t r rs M):eP p n wd M:=⟨h.hl,h.hw,λxs hx x hxx=>(h.gd xs hx x hxx).1⟩
def spSmp:L2.Sp:=λvs H Q _=>∃ l:Addr,vs=[.ref l]/\bw H l/\∀ p H',bf l H H'->bw H' l->af p->Q (.int p) H'
theorem qd (F:⇑("_law_small_prime",Br))(T:⇑())(Yaa:⇑("_law_draw",1,jf)):⇑[2,["_law_bag_here"],spSmp]:=by
 exists J7,ao,1
 show bh h λl e92 hb q=>?_;clear h;subst e92;show⟨_,(~~~(a_<|>(@dJ _ _ _ _ (aq<&>(aq<&>(aq<&>(aq<&>(aq<&>(aq<&>ah)))))))<||>(Yaa<$>hr<$>((ae 0)<&>(aq<&>ah))))),?_⟩;left;show⟨⇑0,λa ha=>?_⟩;have na:=hb.ne ha;show (hb.new na).draw ⇑0 ⇑0 λz H2 z0 z1 e2 b2=>?_;show ao (HZ (L:=[0,2,3,5,97,2]) ⇑0 z0 z1) λp h1 h2=>?_;show aM _ z ⟨rfl,aj.of (e2 _ _ na aw),_,h1,q p H2 ((bf.new ha).trans e2) b2 h2⟩
def xn (b:Nat):L2.Sp:=λvs H Q _=>∃ (l:Addr) (p:Int),vs=[.ref l,.int p]/\bw H l/\af p/\∀ v x H',bf l H H'->bw H' l->aF H' p v x->bc p x->bW b x->Q v H'
theorem oo {p z:Int}(hp:af p)(h0:0<p)(z0:0<=z)(z1:z<p):bc p (z,1)/\bW 7 (z,1):=by
 have p97:=hp.hi;show⟨.inr ⟨h0,z0,z1,rfl⟩,?_,?_⟩
 .change z.natAbs<2 ^ 7;omega
 .change (1:Int).natAbs<2 ^ 7;decide
theorem oq {x:Nv}(h:rV x)(h1:x.1.natAbs<128)(h2:x.2.natAbs<128):bc 0 x/\bW 7 x:=⟨.inl ⟨rfl,h⟩,h1,h2⟩
theorem Ex {H:Hp}{l pl:Addr}{as:List Addr}{xs:List Nv}{n:Int}{Q:VK}(b:bw H l)(hl:H pl=some (.lst (as.map V.ref)))(npl:pl≠l)(hn:n=as.length)(n1:1<=n)(n9:n<=9)(hx:xs.length=as.length)(ht:∀ (i:Nat) a x,as[i]?=some a->xs[i]?=some x->a≠l/\H a=some (.tup [.int x.1,.int x.2]))(q:∀ v x H',bf l H H'->bw H' l->aF H' 0 v x->x∈xs->Q v H'):jf [.ref l,.int n] H (λy H2=>∃ ys i,y=.int i/\aj K H2 pl ys/\∃ v,atI ys i=some v/\Q v H2) E0:=by
 show b.draw ∅ ∅ λz H2 z0 z1 e2 b2=>?_;have hz:z.toNat<as.length:=∅
 have ea:as[z.toNat]?=some (as[z.toNat]'hz):=aG _;have ex:xs[z.toNat]?=some (xs[z.toNat]'(by omega)):=aG _;obtain⟨na,ta⟩:=ht _ _ _ ea ex;show aM _ z ⟨rfl,aj.of (e2 _ _ npl hl),_,eK z0 (by rw[bj,ea];rfl),q _ _ H2 e2 b2 (aF.tup rfl (e2 _ _ na ta)) (aY ex)⟩
theorem lY (F:⇑("_law_number",AW))(T:⇑())(Yaa:⇑("_law_draw",1,jf)):⇑[2,["_law_bag_here","_law_p"],xn 7]:=by
 exists JH,cE,2
 show eW h λl p e94 hb hp q=>?_;clear h;subst e94;have p0:=hp.lo;have p97:=hp.hi;show⟨_,((@bI _ _ _ _ _ _ _ _ (bX (g7 gF) (ae 1) aq (bo _)) (~~~(Yaa<$>hr<$>((ae 0)<&>((ae 1)<&>ah)))) bJ)<*>(~~~(a_<|>(@dJ _ _ _ _ ((@bQ _ _ _ _ _ (aq<&>(aq<&>ah)))<&>((@bQ _ _ _ _ _ (aq<&>(aq<&>ah)))<&>((@bQ _ _ _ _ _ ((gm gp aq)<&>(aq<&>ah)))<&>((@bQ _ _ _ _ _ (aq<&>(aq<&>ah)))<&>((@bQ _ _ _ _ _ (aq<&>(aq<&>ah)))<&>ah))))))<||>(Yaa<$>hr<$>((ae 0)<&>(aq<&>ah)))))),?_⟩;left;show bH (λhc=>?_) (λhc=>?_)
 .have hc:=fc hc;show hb.draw hc ∅ λz H2 z0 z1 e2 b2=>?_;have w:=oo hp hc z0 z1;show q (.int z) (z,1) H2 e2 b2 (aF.of (x:=(z,1)) ∅) w.1 w.2
 .have hc:¬ 0<p:=λz=>hc (cf z);have hp0:p=0:=∅
  subst hp0;show⟨⇑0,λp1 h1=>⟨⇑0,λp2 h2=>⟨⇑0,λp3 h3=>⟨⇑0,λp4 h4=>⟨⇑0,λp5 h5=>⟨⇑0,λpl hl=>?_⟩⟩⟩⟩⟩⟩;have n1:=hb.ne h1;have b1:=hb.new n1 (o:=.tup [.int 0,.int 1]);have n2:=b1.ne h2;have b2:=b1.new n2 (o:=.tup [.int 1,.int 1]);have n3:=b2.ne h3;have b3:=b2.new n3 (o:=.tup [.int (-1),.int 1]);have n4:=b3.ne h4;have b4:=b3.new n4 (o:=.tup [.int 2,.int 1]);have n5:=b4.ne h5;have b5:=b4.new n5 (o:=.tup [.int 1,.int 2]);have n6:=b5.ne hl;have s6:=aa.new (o:=.lst [.ref p1,.ref p2,.ref p3,.ref p4,.ref p5]) hl;have s5:=(aa.new (o:=.tup [.int 1,.int 2]) h5).trans s6;have s4:=(aa.new (o:=.tup [.int 2,.int 1]) h4).trans s5;have s3:=(aa.new (o:=.tup [.int (-1),.int 1]) h3).trans s4;have s2:=(aa.new (o:=.tup [.int 1,.int 1]) h2).trans s3;have s1:=(aa.new (o:=.tup [.int 0,.int 1]) h1).trans s2;show Ex (as:=[p1,p2,p3,p4,p5]) (xs:=[(0,1),(1,1),(-1,1),(2,1),(1,2)]) (b5.new n6) aw n6 rfl ⇑0 ⇑0 rfl (λi a x ea ex=>?_) λv x H' e b n m=>?_
  .match i with
   | 0=>cases ea;cases ex;show⟨n1,s2 _ _ aw⟩
   | 1=>cases ea;cases ex;show⟨n2,s3 _ _ aw⟩
   | 2=>cases ea;cases ex;show⟨n3,s4 _ _ aw⟩
   | 3=>cases ea;cases ex;show⟨n4,s5 _ _ aw⟩
   | 4=>cases ea;cases ex;show⟨n5,s6 _ _ aw⟩
   | i+5=>cases ea
  .have w:rV x/\x.1.natAbs<128/\x.2.natAbs<128:=by
    simp only[gf,yj,or_false] at m;rcases m with rfl|rfl|rfl|rfl|rfl <;> show⟨⟨⇑0,⇑0⟩,⇑0,⇑0⟩
   have w2:=oq w.1 w.2.1 w.2.2;show q v x H' (s1.ext.trans e) b n w2.1 w2.2
theorem uG {x:Nv}(h:bW 7 x):Bd 127 x:=⟨Nat.le_of_lt_succ h.1,Nat.le_of_lt_succ h.2⟩
theorem uB {x:Nv}(h:Bd 127 x):bW 7 x:=⟨Nat.lt_succ_of_le h.1,Nat.lt_succ_of_le h.2⟩
theorem uH (p:Int):Bd 127 (de p 0):=by
 rw[vM];show⟨⇑0,⇑0⟩
def spNzF:L2.Sp:=λvs H Q _=>∃ (l:Addr) (p:Int),vs=[.ref l,.int p]/\bw H l/\af p/\∀ v x H',bf l H H'->bw H' l->aF H' p v x->bc p x->bW 7 x->x.1≠0->Q v H'
theorem qg (F:⇑("_law_nonzero",A6))(T:⇑())(Yaa:⇑("_law_draw",1,jf)):⇑[2,["_law_bag_here","_law_p"],spNzF]:=by
 exists JP,cE,2
 show eW h λl p e96 hb hp q=>?_;clear h;subst e96;have p0:=hp.lo;have p97:=hp.hi;show⟨_,((@bI _ _ _ _ _ _ _ _ (bX (g7 gF) (ae 1) aq (bo _)) (~~~(eL<|>aq<&&>(Yaa<$>hr<$>((ae 0)<&>(((g7 iG)<|>(ae 1)<&&>aq)<&>ah))))) bJ)<*>(~~~(a_<|>(@dJ _ _ _ _ ((@bQ _ _ _ _ _ (aq<&>(aq<&>ah)))<&>((@bQ _ _ _ _ _ ((gm gp aq)<&>(aq<&>ah)))<&>((@bQ _ _ _ _ _ (aq<&>(aq<&>ah)))<&>((@bQ _ _ _ _ _ (aq<&>(aq<&>ah)))<&>ah)))))<||>(Yaa<$>hr<$>((ae 0)<&>(aq<&>ah)))))),?_⟩;left;show bH (λhc=>?_) (λhc=>?_)
 .have hc:=fc hc;have p2:1<p:=by rcases hp with h|h;omega;show h.1
  show hb.draw ∅ ∅ λz H2 z0 z1 e2 b2=>⟨z,rfl,?_⟩
  have w:=oo hp hc (z:=1+z) ∅ ∅;show q (.int (1+z)) (1+z,1) H2 e2 b2 (aF.of (x:=(1+z,1)) ∅) w.1 w.2 (by show 1+z≠0;omega)
 .have hc:¬ 0<p:=λz=>hc (cf z);have hp0:p=0:=∅
  subst hp0;show⟨⇑0,λp1 h1=>⟨⇑0,λp2 h2=>⟨⇑0,λp3 h3=>⟨⇑0,λp4 h4=>⟨⇑0,λpl hl=>?_⟩⟩⟩⟩⟩;have n1:=hb.ne h1;have b1:=hb.new n1 (o:=.tup [.int 1,.int 1]);have n2:=b1.ne h2;have b2:=b1.new n2 (o:=.tup [.int (-1),.int 1]);have n3:=b2.ne h3;have b3:=b2.new n3 (o:=.tup [.int 2,.int 1]);have n4:=b3.ne h4;have b4:=b3.new n4 (o:=.tup [.int 1,.int 2]);have n6:=b4.ne hl;have s6:=aa.new (o:=.lst [.ref p1,.ref p2,.ref p3,.ref p4]) hl;have s4:=(aa.new (o:=.tup [.int 1,.int 2]) h4).trans s6;have s3:=(aa.new (o:=.tup [.int 2,.int 1]) h3).trans s4;have s2:=(aa.new (o:=.tup [.int (-1),.int 1]) h2).trans s3;have s1:=(aa.new (o:=.tup [.int 1,.int 1]) h1).trans s2;show Ex (as:=[p1,p2,p3,p4]) (xs:=[(1,1),(-1,1),(2,1),(1,2)]) (b4.new n6) aw n6 rfl ⇑0 ⇑0 rfl (λi a x ea ex=>?_) λv x H' e b n m=>?_
  .match i with
   | 0=>cases ea;cases ex;show⟨n1,s2 _ _ aw⟩
   | 1=>cases ea;cases ex;show⟨n2,s3 _ _ aw⟩
   | 2=>cases ea;cases ex;show⟨n3,s4 _ _ aw⟩
   | 3=>cases ea;cases ex;show⟨n4,s6 _ _ aw⟩
   | i+4=>cases ea
  .have w:(rV x/\x.1.natAbs<128/\x.2.natAbs<128)/\x.1≠0:=by
    simp only[gf,yj,or_false] at m;rcases m with rfl|rfl|rfl|rfl <;> show⟨⟨⟨⇑0,⇑0⟩,⇑0,⇑0⟩,⇑0⟩
   have w2:=oq w.1.1 w.1.2.1 w.1.2.2;show q v x H' (s1.ext.trans e) b n w2.1 w2.2 w.2
def Ea:Sp:=λvs H Q _=>∃ (l:Addr) (p hh wd:Int),vs=[.ref l,.int p,.int hh,.int wd]/\bw H l/\af p/\0<=hh/\hh<=24/\0<=wd/\wd<=24 /\
 ∀ (r:Addr) (rs:List Addr) (H':Hp),bf l H H'->bw H' l->H r=none->(∀ a∈rs,H a=none)->r∉rs->H' r=some (.lst (rs.map V.ref))->(rs.length:Int)=hh->(∀ a∈rs,cG H' p 127 wd a)->Q (.ref r) H'
theorem lW (F:⇑("_law_rows",AG))(T:⇑())(Yaa:⇑("_law_draw",1,jf))(Yai:⇑("_law_number",2,xn 7))(Yac:⇑("_law_int",1,rD)):⇑[4,["_law_bag_here","_law_p","_law_high","_law_wide"],Ea]:=by
 exists Jv,nI,4
 show cZ h λl p hh wd e98 hb hp e99=>?_;clear h;subst e98;show dj e99 λh0 h24 w0 w24 q=>?_;clear e99;show⟨_,((4|||nd|||(eL<|>aq<&&>(Yaa<$>hr<$>((ae 0)<&>(aq<&>ah)))))<*>((5|||nd|||(@dJ _ _ _ _ ah))<*>((dt cX rfl (fv rfl T.n_range ((pv 2)<&>ah)) (6>>>nd) ((7|||nd|||(@dJ _ _ _ _ ah))<*>((dt cX rfl (fv rfl T.n_range ((pv 3)<&>ah)) (8>>>nd) ((9|||nd|||(Yai<$>hr<$>((ae 0)<&>((ae 1)<&>ah))))<*>(@bE _ _ _ (@bI _ _ _ _ _ _ _ _ (bX jS (Yaa<$>hr<$>((ae 0)<&>(aq<&>ah))) (ae 4) (bo _)) (@bE _ _ _ (gK (gk gC gU gT (mtJ gq) (ae 7) ((ae 9)<&>ah)))) (@bE _ _ _ (gK (gk gC gU gT (mtJ gq) (ae 7) ((Yac<$>hr<$>((ae 1)<&>(aq<&>ah)))<&>ah))))))))<*>(@bE _ _ _ (gK (gk gC gU gT (mtJ gq) (ae 5) ((ae 7)<&>ah)))))))<*>(~~~(ae 5))))),?_⟩;left;show hb.draw ⇑0 ⇑0 λz H2 z0 z1 e2 b2=>⟨z,rfl,⇑0,λr hr0=>?_⟩
 have nr:r≠l:=b2.ne hr0;have fr:H r=none:=e2.free nr hr0;show⟨_,rfl,hh,rfl,∅,∅,hO (λi σ H3=>∃ (v6 v7 v8 v9:Option V) (rs:List Addr),σ=[↥l,⇑p,⇑hh,⇑wd,some (.int (1+z)),↥r,v6,v7,v8,v9]/\bf l H H3/\bw H3 l/\(∀ a∈rs,H a=none)/\r∉rs/\H3 r=some (.lst (rs.map V.ref))/\rs.length=i/\∀ a∈rs,cG H3 p 127 wd a)
  ⟨none,none,none,none,[],rfl,e2.trans (bf.new hr0),b2.new nr,by simp,by simp,aw,rfl,by simp⟩ ?_ ?_⟩
 .intro i σ H3 hi e91;show iE e91 λv6 v7 v8 v9 rs e910 e3 b3 e911=>?_;clear e91;obtain rfl:=e910;show dj e911 λhf nm hr3 hln hro=>?_;clear e911;left;show⟨⇑0,λa ha=>?_⟩;have na:a≠l:=b3.ne ha;have fa:H a=none:=e3.free na ha;have nar:r≠a:=bV hr3 ha;have nas:a∉rs:=λz=>by obtain⟨xs,h1,_⟩:=hro a z;rw[ha] at h1;cases h1
  show⟨_,rfl,wd,rfl,∅,∅,hO (λj σ H4=>∃ (v8 v9:Option V) (xs:List V),σ=[↥l,⇑p,⇑hh,⇑wd,some (.int (1+z)),↥r,some (.int (0+(i:Int))),↥a,v8,v9]/\bf l H H4/\bw H4 l/\H4 r=some (.lst (rs.map V.ref))/\(∀ a∈rs,cG H4 p 127 wd a)/\H4 a=some (.lst xs)/\xs.length=j/\∀ x∈xs,cI H4 p 127 x)
   ⟨v8,v9,[],rfl,e3.trans (bf.new ha),b3.new na,by rw[aR nar];show hr3,λb hb=>(hro b hb).same (aa.new ha),aw,rfl,by simp⟩ ?_ ?_⟩
  .intro j σ H4 hj e92;show cK e92 λu8 u9 xs e912 e4 b4 e913=>?_;clear e92;obtain rfl:=e912;show dj e913 λhr4 hro4 ha4 hlx hnx=>?_;clear e913;left;have step:∀ (v:V) (H5:Hp),bf l H4 H5->bw H5 l->cI H5 p 127 v->(bf l H (ar H5 a (.lst (xs++[v])))/\bw (ar H5 a (.lst (xs++[v]))) l/\ar H5 a (.lst (xs++[v])) r=some (.lst (rs.map V.ref))/\(∀ b∈rs,cG (ar H5 a (.lst (xs++[v]))) p 127 wd b) /\
     ∃ ys,ar H5 a (.lst (xs++[v])) a=some (.lst ys)/\ys.length=j+1/\∀ x∈ys,cI (ar H5 a (.lst (xs++[v]))) p 127 x):=by
    intro v H5 e5 b5 nv;have ha5:=e5 _ _ na ha4;show⟨(e4.trans e5).upd fa,b5.new na,by rw[aR nar];show e5 _ _ nr hr4,λb hbm=>?_,_,aw,by rw[bN,hlx];rfl,λx hx=>?_⟩
    .have nb:b≠l:=hb.ne (hf b hbm);show ((hro4 b hbm).ext b4 e5 nb).put ha5 (λz=>nas (z ▸ hbm))
    .rcases cj.mp hx with hx|hx
     .exact ((hnx x hx).ext b4 e5).put ha5
     .rw [cS.mp hx];show nv.put ha5
   have hsz:xs.length<sizeLine:=cT (oz50 w24 hj hlx);show aM l p ⟨rfl,b4,hp,λv x H5 e5 b5 nv iv bv=>?_⟩;show b5.draw ⇑0 ⇑0 λy H6 y0 y1 e6 b6=>⟨y,rfl,bH (λ_=>?_) (λ_=>?_)⟩
   .have ha6:=(e5.trans e6) _ _ na ha4;show⟨.inl ⟨rfl,_,aj.of ha6⟩,xs,ha6,hsz,_,_,⟨rfl,rfl⟩,step v H6 (e5.trans e6) b6 ⟨x,nv.ext b5 e6,iv,uG bv⟩⟩
   .have ha6:=(e5.trans e6) _ _ na ha4;show⟨.inl ⟨rfl,_,aj.of ha6⟩,p,0,rfl,hp,λv0 H7 s7 n0=>?_⟩;have ha7:=s7 _ _ ha6;show⟨xs,ha7,hsz,_,_,⟨rfl,rfl⟩,step v0 H7 ((e5.trans e6).trans s7.ext) (b6.same s7) ⟨_,n0,gJ hp.lo,uH p⟩⟩
  .intro σ H4 e93;show cK e93 λu8 u9 xs e914 e4 b4 e915=>?_;clear e93;obtain rfl:=e914;show dj e915 λhr4 hro4 ha4 hlx hnx=>?_;clear e915;left;show⟨.inl ⟨rfl,_,aj.of hr4⟩,_,hr4,cT (by rw[aB];show oz50 h24 hi hln),_,_,_,_,⟨rfl,rfl,rfl,rfl⟩,e4.upd fr,b4.new nr,rs++[a],?_,?_,?_,by rw[bN,hln];rfl,?_⟩
   .intro b hbm;rcases cj.mp hbm with h|h
    .exact hf b h
    .rw [cS.mp h];show fa
   .intro z;rcases cj.mp z with h|h
    .exact nm h
    .exact nar (cS.mp h)
   .rw [aw,i6]
   .intro b hbm;rcases cj.mp hbm with h|h
    .exact (hro4 b h).put hr4 (λz=>nm (z ▸ h))
    .rw [cS.mp h];show cG.put ⟨xs,ha4,oz45 w0 hlx,hnx⟩ hr4 nar.symm
 .intro σ H3 e94;show iE e94 λv6 v7 v8 v9 rs e916 e3 b3 e917=>?_;clear e94;obtain rfl:=e916;show dj e917 λhf nm hr3 hln hro=>?_;clear e917;show q r rs H3 e3 b3 fr hf nm hr3 (oz45 h0 hln) hro
def dB (H:Hp)(p:Int)(B:Nat)(v:V):Prop:=∃ x,aF H p v x/\bc p x/\bW B x
theorem dB.same {H H':Hp}{p:Int}{B:Nat}{v:V}(h:dB H p B v)(s:aa H H'):dB H' p B v:=let ⟨x,a,b,c⟩:=h;⟨x,a.same s,b,c⟩
theorem dB.weak {H:Hp}{p:Int}{B B':Nat}{v:V}(h:dB H p B v)(hB:B<=B'):dB H p B' v:=let ⟨x,a,b,c⟩:=h;⟨x,a,b,c.le hB⟩
theorem dB.ext {l:Addr}{H H':Hp}{p:Int}{B:Nat}{v:V}(h:dB H p B v)(b:bw H l)(e:bf l H H'):dB H' p B v:=let ⟨x,a,c,d⟩:=h;⟨x,a.ext b e,c,d⟩
theorem dB.put {H:Hp}{D:Addr}{l:List V}{o:HO}{p:Int}{B:Nat}{v:V}(h:dB H p B v)(hD:H D=some (.lst l)):dB (ar H D o) p B v:=let ⟨x,a,b,c⟩:=h;⟨x,a.put hD,b,c⟩
def cH (H:Hp)(p:Int)(B:Nat)(wd:Int)(a:Addr):Prop:=∃ xs,H a=some (.lst xs)/\(xs.length:Int)=wd/\∀ x∈xs,dB H p B x
theorem cH.same {H H':Hp}{p wd:Int}{B:Nat}{a:Addr}(h:cH H p B wd a)(s:aa H H'):cH H' p B wd a:=let ⟨xs,h1,h2,h3⟩:=h;⟨xs,s _ _ h1,h2,λx hx=>(h3 x hx).same s⟩
theorem cH.weak {H:Hp}{p wd:Int}{B B':Nat}{a:Addr}(h:cH H p B wd a)(hB:B<=B'):cH H p B' wd a:=let ⟨xs,h1,h2,h3⟩:=h;⟨xs,h1,h2,λx hx=>(h3 x hx).weak hB⟩
theorem cH.ext {l:Addr}{H H':Hp}{p wd:Int}{B:Nat}{a:Addr}(h:cH H p B wd a)(b:bw H l)(e:bf l H H')(n:a≠l):cH H' p B wd a:=let ⟨xs,h1,h2,h3⟩:=h;⟨xs,e _ _ n h1,h2,λx hx=>(h3 x hx).ext b e⟩
theorem cH.put {H:Hp}{D:Addr}{l:List V}{o:HO}{p wd:Int}{B:Nat}{a:Addr}(h:cH H p B wd a)(hD:H D=some (.lst l))(n:a≠D):cH (ar H D o) p B wd a:=let ⟨xs,h1,h2,h3⟩:=h;⟨xs,by rw[aR n];show h1,h2,λx hx=>(h3 x hx).put hD⟩
theorem k_ {H:Hp}{p wd:Int}{a:Addr}(h:cG H p 127 wd a):cH H p 7 wd a:=let ⟨xs,h1,h2,h3⟩:=h;⟨xs,h1,h2,λx hx=>let ⟨y,a,b,c⟩:=h3 x hx;⟨y,a,b,uB c⟩⟩
theorem Ic {H:Hp}{p hh wd:Int}{k:Nat}{t r:Addr}{rs:List Addr}(hl:(rs.length:Int)=hh)(w0:0<=wd)(ht:H t=some (.tup [.int hh,.int wd,.ref r]))(hr:H r=some (.lst (rs.map V.ref)))(ro:∀ a∈rs,cH H p k wd a)(nin:r∉rs):∃ M,aU H p k hh.toNat wd.toNat t r rs M:=by
 obtain⟨M,hM⟩:=aA.pick (xs:=rs) (P:=λa ys=>aV H p a ys/\(ys.length:Int)=wd/\aH p k ys) λa ha=>by
  show bh (ro a ha) λxs h1 h2 h3=>?_;obtain⟨ys,hy⟩:=aA.pick (xs:=xs) (P:=λv y=>aF H p v y/\bc p y/\bW k y) λv hv=>h3 v hv;show⟨ys,⟨xs,h1,hy.mono λ_ _ z=>z.1⟩,by rw[<- hy.1];show h2,λy m=>?_⟩;obtain⟨i,e⟩:=BS.mp m;show ao (hy.at (i:=i) e) λv _ z=>?_;show⟨z.2.1,z.2.2⟩
 have row:∀ ys∈M,(ys.length:Int)=wd/\aH p k ys:=λys m=>by
  obtain⟨i,e⟩:=BS.mp m;show ao (hM.at (i:=i) e) λa _ z=>?_;show z.2
 have h1:((hh.toNat:Nat):Int)=hh:=∅
 have h2:((wd.toNat:Nat):Int)=wd:=∅
 show⟨M,⟨by rw[h1,h2];show ht,hr,hM.mono λ_ _ z=>z.1,nin⟩,by rw[<- hM.1];omega,λys m=>by have:=(row ys m).1;omega,λys m=>(row ys m).2⟩
def spTbG:L2.Sp:=λvs H Q _=>∃ (l:Addr) (p hh wd:Int),vs=[.ref l,.int p,.int hh,.int wd]/\bw H l/\af p/\0<=hh/\hh<=24/\0<=wd/\wd<=24 /\
 ∀ (t r:Addr) (rs:List Addr) (M:Mv) (H':Hp),bf l H H'->bw H' l->fZ H t r rs->aU H' p 60 hh.toNat wd.toNat t r rs M->Q (.ref t) H'
theorem uq (F:⇑("_law_table",AN))(T:⇑())(Ybq:⇑("_law_rows",4,Ea))(Yaa:⇑("_law_draw",1,jf))(Yai:⇑("_law_number",2,xn 7))(Yad:⇑("_law_mul",3,jy cM))(Yae:⇑("_law_add",3,jy dX)):⇑[5,["_law_bag_here","_law_p","_law_high","_law_wide"],spTbG]:=by
 exists JA,nI,4
 show cZ h λl p hh wd e92 hb hp e93=>?_;clear h;subst e92;show dj e93 λh0 h24 w0 w24 q=>?_;clear e93;show⟨_,((4|||nd|||(Ybq<$>hr<$>((ae 0)<&>((ae 1)<&>((ae 2)<&>((ae 3)<&>ah))))))<*>((@bI _ _ _ _ _ _ _ _ (PW.pt (tj (bX (g7 gF) (ae 2) aq (bo _)) (tD (bX dI (Yaa<$>hr<$>((ae 0)<&>(aq<&>ah))) aq (bo _))))) ((gs (i:=5) nd rfl (Or.inr rfl) (Yai<$>hr<$>((ae 0)<&>((ae 1)<&>ah))))<*>((d9 (dR (own:=["_law_number_here"]) (fr:=[("_law_p",1),("_law_a",5)]) rfl (cW (by kernel_rfl)) (eJ (a_<|>(pv 4)<||>aq)) (λ_ _ _ _=>⟨(0<<<["_law_number_here","_law_p","_law_a"]),df,(Yad<$>hr<$>((pv 1)<&>((pv 2)<&>((pv 0)<&>ah))))⟩)) (iZ (ae 4) (gm gp aq) i5))<*>(@bE _ _ _ (@bI _ _ _ _ _ _ _ _ (PW.pt (tj (bX (g7 gF) (ae 2) aq (bo _)) (tD (bX dI (Yaa<$>hr<$>((ae 0)<&>(aq<&>ah))) aq (bo _))))) (@bE _ _ _ (d9 (dR (own:=["_law_b","_law_c"]) (fr:=[("_law_p",1)]) rfl (cW (by kernel_rfl)) (kD rfl T.n_zip ((a_<|>(pv 4)<||>(gm gp aq))<&>((a_<|>(pv 4)<||>aq)<&>ah))) (λ_ _ _ _=>⟨(@jX _ K rfl _ _ _ _ 2 rfl ((0<<<["_law_b","_law_c","_law_p"])^^^((1<<<["_law_b","_law_c","_law_p"])^^^(@cU _))) ⇑1 ⇑1),df,(Yae<$>hr<$>((pv 2)<&>((pv 0)<&>((pv 1)<&>ah))))⟩)) (iZ (ae 4) (gm gp aq) i5))) bJ)))) bJ)<*>(~~~(@bQ _ _ _ _ _ ((ae 2)<&>((ae 3)<&>((ae 4)<&>ah))))))),?_⟩;left;show jc l p hh wd ⟨rfl,hb,hp,h0,h24,w0,w24,λr rs H1 e1 b1 fr hf nin hr1 hln hro=>?_⟩;have nr:r≠l:=hb.ne fr;have fin:∀ (H2:Hp) (rs2:List Addr),bf l H H2->bw H2 l->H2 r=some (.lst (rs2.map V.ref))->(rs2.length:Int)=hh->(∀ a∈rs2,cH H2 p 60 wd a)->r∉rs2->(∀ a∈rs2,H a=none)->
   (3<=sizeLine/\∀ t,H2 t=none->Q (.ref t) (ar H2 t (.tup [.int hh,.int wd,.ref r]))):=by
  intro H2 rs2 e2 b2 hr2 hl2 hro2 nin2 hf2;show⟨⇑0,λt ht=>?_⟩;have nt:=b2.ne ht;have hr2':(ar H2 t (.tup [.int hh,.int wd,.ref r])) r=some (.lst (rs2.map V.ref)):=by rw[aR (bV hr2 ht)];show hr2
  obtain⟨M,tb⟩:=Ic (t:=t) hl2 w0 aw hr2' (λa ha=>(hro2 a ha).same (aa.new ht)) nin2;show q t r rs2 M _ (e2.trans (bf.new ht)) (b2.new nt) ⟨e2.free nt ht,fr,hf2⟩ tb
 have hroB:∀ H2,bf l H1 H2->∀ B:Nat,7<=B->∀ a∈rs,cH H2 p B wd a:=λH2 e2 B hB a ha=>((k_ (hro a ha)).ext b1 e2 (hb.ne (hf a ha))).weak hB;show bH (λhc1=>?_) (λ_=>fin H1 rs e1 b1 hr1 hln (hroB H1 (bf.refl _ _) 60 ⇑0) nin hf);have hc1:=fc hc1;show b1.draw ⇑0 ⇑0 λz H2 z0 z1 e2 b2=>⟨rfl,bH (λ_=>?_) (λ_=>fin H2 rs (e1.trans e2) b2 (e2 _ _ nr hr1) hln (hroB H2 e2 60 ⇑0) nin hf)⟩
 show aM l p ⟨rfl,b2,hp,λva x H3 e3 b3 na ia ba=>?_⟩;have hr3:=(e2.trans e3) _ _ nr hr1;have hro3:=hroB H3 (e2.trans e3) 7 ⇑0;have hn0:0<rs.length:=∅
 show bh (hro3 (rs[0]) (dm hn0)) λxs0 hx0 lx0 nx0=>?_;show⟨_,rfl,r,_,0,_,rfl,rfl,aj.of hr3,eK ⇑0 (vE hn0),_,rfl,⟨_,aj.of hx0⟩,λD hD=>Ge (λH y=>dB H p 21 y) (λh s=>h.same s) (λh e=>h.put e) hx0 hD (oz58 w24 lx0) (λi y H' Q' hy s' q'=>?_) λys H4 s4 hD4 ly hys=>?_⟩
 .refine bh (nx0 y (aY hy)) λxy ny iy byy=>?_;show⟨_,rfl,_,rfl,_,rfl,p,va,y,x,xy,rfl,hp,⟨na.same s',ny.same s',ia,iy,7,7,ba.1,ba.2,byy.1,byy.2,⇑0⟩,λv H5 s5 n5=>q' v H5 s5 ⟨_,n5,fO hp.lo ia iy,zT hp ia iy ba byy⟩⟩
 have hr4:=s4 _ _ hr3;have nDl:D≠l:=b3.ne hD;have fD:H D=none:=((e1.trans e2).trans e3).free nDl hD;have nDr:r≠D:=bV hr3 hD;show⟨r,rfl,_,hr4,_,vG (by rw[aB];show hn0),?_⟩;rw[aB,rL];have b4:=b3.same s4;have e4:bf l H H4:=((e1.trans e2).trans e3).trans s4.ext;have e5:bf l H (ar H4 r (.lst ((rs.set (rs.length-1) D).map V.ref))):=e4.upd fr;have b5:bw (ar H4 r (.lst ((rs.set (rs.length-1) D).map V.ref))) l:=b4.new nr;have ro5:∀ a∈rs.set (rs.length-1) D,cH (ar H4 r (.lst ((rs.set (rs.length-1) D).map V.ref))) p 21 wd a:=λa ha=>by
  rcases fH ha with ha|rfl
  .exact (((hro3 a ha).same s4).weak ⇑0).put hr4 (λz=>nin (z ▸ ha))
  .exact cH.put ⟨ys,hD4,oz18 lx0 ly,hys⟩ hr4 nDr.symm
 have nin5:r∉rs.set (rs.length-1) D:=λz=>by
  rcases fH z with z|z
  .exact nin z
  .exact nDr z
 have hf5:∀ a∈rs.set (rs.length-1) D,H a=none:=λa ha=>by
  rcases fH ha with ha|rfl
  .exact hf a ha
  .exact fD
 have ln5:((rs.set (rs.length-1) D).length:Int)=hh:=by rw[dC];show hln
 have r5:(ar H4 r (.lst ((rs.set (rs.length-1) D).map V.ref))) r=some (.lst ((rs.set (rs.length-1) D).map V.ref)):=aw;generalize ar H4 r (.lst ((rs.set (rs.length-1) D).map V.ref))=H5 at *;generalize rs.set (rs.length-1) D=rs5 at *;show bH (λhc2=>?_) (λ_=>fin H5 rs5 e5 b5 r5 ln5 (λa ha=>(ro5 a ha).weak ⇑0) nin5 hf5);have hc2:=fc hc2;show b5.draw ⇑0 ⇑0 λz2 H6 _ _ e6 b6=>⟨rfl,bH (λ_=>?_) (λ_=>fin H6 rs5 (e5.trans e6) b6 (e6 _ _ nr r5) ln5 (λa ha=>((ro5 a ha).ext b5 e6 (hb.ne (hf5 a ha))).weak ⇑0) nin5 hf5)⟩
 have r6:=e6 _ _ nr r5;have ro6:∀ a∈rs5,cH H6 p 21 wd a:=λa ha=>(ro5 a ha).ext b5 e6 (hb.ne (hf5 a ha));have hn5:0<rs5.length:=∅
 have hn1:1<rs5.length:=∅
 show bh (ro6 (rs5[rs5.length-1]'(by omega)) (dm _)) λxa hxa lxa nxa=>?_;show bh (ro6 (rs5[1]) (dm hn1)) λxb hxb lxb nxb=>?_;show⟨_,rfl,_,rfl,r,_,-1,_,rfl,rfl,aj.of r6,Hy hn5,_,rfl,r,_,1,_,rfl,rfl,aj.of r6,eK ⇑0 (vE hn1),_,_,rfl,⟨_,aj.of hxa⟩,⟨_,aj.of hxb⟩,λD2 hD2=>IF (λH y=>dB H p 60 y) (λh s=>h.same s) (λh e=>h.put e) hxa hxb (oz22 lxa lxb) hD2 (oz58 w24 lxa) (λi y u H' Q' hy hu s' q'=>?_) λys2 H7 s7 hD7 ly2 hys2=>?_⟩
 .refine bh (nxa y (aY hy)) λxy ny iy byy=>?_;show bh (nxb u (aY hu)) λxu nu iu bu=>?_;show⟨_,rfl,_,rfl,_,rfl,p,y,u,xy,xu,rfl,hp,⟨ny.same s',nu.same s',iy,iu,21,21,byy.1,byy.2,bu.1,bu.2,⇑0⟩,λv H8 s8 n8=>q' v H8 s8 ⟨_,n8,oU hp.lo iy iu,(vB hp iy iu byy bu ⇑0).le ⇑0⟩⟩
 have r7:=s7 _ _ r6;have nDl2:D2≠l:=b6.ne hD2;have fD2:H D2=none:=(e5.trans e6).free nDl2 hD2;have nDr2:r≠D2:=bV r6 hD2;show⟨r,rfl,_,r7,_,vG (by rw[aB];show hn5),?_⟩;rw[aB,rL];show fin _ (rs5.set (rs5.length-1) D2) (((e5.trans e6).trans s7.ext).upd fr) ((b6.same s7).new nr) aw (by rw[dC];show ln5) (λa ha=>?_) (λz=>?_) (λa ha=>?_)
 .rcases fH ha with ha|rfl
  .exact (((ro6 a ha).same s7).weak ⇑0).put r7 (λz=>nin5 (z ▸ ha))
  .exact cH.put ⟨ys2,hD7,oz18 lxa ly2,hys2⟩ r7 nDr2.symm
 .rcases fH z with z|z
  .exact nin5 z
  .exact nDr2 z
 .rcases fH ha with ha|rfl
  .exact hf5 a ha
  .exact fD2
end
def js (p:Int)(n:Nat)(M:Mv):Prop:=∀ (F:Type) [Lean.Grind.Field F],aK p F->∃ U:Nat->Nat->F,∀ i j,i<n->j<n->sm n (λt=>U i t*vN (M.getD t []) j)=del i j
section
variable {p:Int}{n:Nat}{M:Mv}
theorem pM {F:Type}[Lean.Grind.Field F]{M:Mv}{a t:Nat}{row:List Nv}(ha:a<M.length)(j:Nat):(vN ((M.set a row).getD t []) j:F)=if t=a then vN row j else vN (M.getD t []) j:=by
 rw[aW,wt];by_cases q:a=t
 .rw [if_pos q,if_pos ha,if_pos q.symm];rfl
 .rw [if_neg q,if_neg (λz=>q z.symm),<- aW]
theorem Em {a:Nat}{row:List Nv}(ha:a<n)(hl:M.length=n)(iv:js p n M)(h:∀ (F:Type) [Lean.Grind.Field F],aK p F->∀ U:Nat->Nat->F,(∀ i j,i<n->j<n->sm n (λt=>U i t*vN (M.getD t []) j)=del i j)->∃ U':Nat->Nat->F,∀ i j,i<n->j<n->sm n (λt=>U' i t*(if t=a then vN row j else vN (M.getD t []) j))=del i j):js p n (M.set a row):=λF _ hF=>by
 obtain⟨U,hU⟩:=iv F hF;obtain⟨U',hU'⟩:=h F hF U hU;show⟨U',λi j hi hj=>?_⟩;rw[<- hU' i j hi hj];show aO λt _=>by rw[pM (dD ha hl)]
theorem HL {a:Nat}{u:Nv}{row:List Nv}(ha:a<n)(hl:M.length=n)(iv:js p n M)(hu:∀ (F:Type) [Lean.Grind.Field F],aK p F->(nm u:F)≠0)(hr:∀ (F:Type) [Lean.Grind.Field F],aK p F->∀ j,j<n->(vN row j:F)=nm u*vN (M.getD a []) j):js p n (M.set a row):=
 Em ha hl iv λF _ hF U hU=>⟨λi t=>if t=a then U i t / nm u else U i t,λi j hi hj=>by
  rw[<- hU i j hi hj];show aO λt ht=>?_;have u0:=hu F hF;change (if t=a then U i t / nm u else U i t)*(if t=a then vN row j else vN (M.getD t []) j)=_;by_cases q:t=a
  .subst q;rw[if_pos rfl,if_pos rfl,hr F hF j hj];generalize (nm u:F)=y at *
   grind
  .rw [if_neg q,if_neg q]⟩
theorem mT {a b:Nat}{u:Nv}{row:List Nv}(ha:a<n)(hb:b<n)(hab:a≠b)(hl:M.length=n)(iv:js p n M)(hr:∀ (F:Type) [Lean.Grind.Field F],aK p F->∀ j,j<n->(vN row j:F)=vN (M.getD a []) j+nm u*vN (M.getD b []) j):js p n (M.set a row):=
 Em ha hl iv λF _ hF U hU=>⟨λi t=>if t=b then U i b-nm u*U i a else U i t,λi j hi hj=>by
  rw[<- hU i j hi hj];have e:∀ t,t<n->(if t=b then U i b-nm u*U i a else U i t)*(if t=a then vN row j else vN (M.getD t []) j)=U i t*vN (M.getD t []) j+((if t=a then U i t*(nm u*vN (M.getD b []) j) else 0)+(if t=b then -(nm u*U i a*vN (M.getD t []) j) else 0)):=λt ht=>by
   by_cases q:t=a
   .subst q;rw[if_neg hab,if_pos rfl,if_pos rfl,if_neg hab,hr F hF j hj]
    grind
   .rw [if_neg q,if_neg q];by_cases q2:t=b
    .subst q2;rw[if_pos rfl,if_pos rfl]
     grind
    .rw [if_neg q2,if_neg q2]
     grind
  rw[aO e,jT,jT,kE (λt=>U i t*(nm u*vN (M.getD b []) j)) ha,kE (λt=>-(nm u*U i a*vN (M.getD t []) j)) hb]
  grind⟩
end
section
variable {C PL:Addr}
def yF:L2.Sp:=λvs H Q _=>∃ p n:Int,vs=[.int p,.int n]/\af p/\0<=n/\n<=24/\∀ t r rs H',aa H H'->fZ H t r rs->cN H' p n n t r rs (di n.toNat)->Q (.ref t) H'
theorem qf (F:⇑("_law_plain",AM))(T:⇑())(Yac:⇑("_law_int",1,rD)):⇑[2,["_law_p","_law_many"],yF]:=by
 exists Jz,cE,2
 show kA h λp n e94 hp n0 n24 q=>?_;clear h;subst e94;show⟨_,(~~~(@bQ _ _ _ _ _ ((ae 1)<&>((ae 1)<&>((dR (own:=["_law_i"]) (fr:=[("_law_many",1),("_law_p",0)]) rfl (cW (by kernel_rfl)) (fv rfl T.n_range ((pv 1)<&>ah)) (λ_ _ _ _=>⟨(@oW _ _ 0 _ (show (["_law_i","_law_many","_law_p"]:List Str).Nodup by decide +kernel) rfl (Or.inr rfl) (Or.inl rfl)),df,(dR (own:=["_law_j"]) (fr:=[("_law_p",2),("_law_i",0)]) rfl (cW (by kernel_rfl)) (fv rfl T.n_range ((pv 1)<&>ah)) (λ_ _ _ _=>⟨(0<<<["_law_j","_law_p","_law_i"]),df,(Yac<$>hr<$>((pv 1)<&>((ku xM rfl T.n_int boot_int ((i4 dI (pv 2) (pv 0) (bo _))<&>ah))<&>ah)))⟩))⟩))<&>ah))))),?_⟩;left;show⟨_,rfl,n,rfl,∅,∅,λD hD=>newrows (p:=p) (λi=>eR n.toNat i) hD ∅ (λi H' Q' hi s' q'=>?_) λrs H3 s3 hD3 al3 nD nds fr=>?_⟩
 .refine ⟨_,rfl,n,rfl,∅,∅,λE1 hE1=>z_ (λj Hc y=>aF Hc p y (if i=j then (1,1) else (0,1))) (λk s=>k.same s) (λk hD=>k.put hD) hE1 ∅ (λj Hc Qc hj sc _ qc=>?_) λys Hc sc ec yl yn=>?_⟩
  .simp only [cy];left;show⟨_,rfl,_,rfl,rfl,p,_,rfl,hp,λv Hd sd nv=>qc v Hd sd ?_⟩;by_cases h:i=j
   .subst h;rw[if_pos rfl];rw[cf rfl,if_pos rfl] at nv;have e:de p 1=(1,1):=El hp;rwa [e] at nv
   .rw [if_neg h];rw[d6 (λz=>h (by have:=V.int.inj z;omega)),if_neg ⇑0] at nv;rwa [vM] at nv
  .refine q' E1 Hc hE1 sc ⟨ys,ec,by rw[dC,eM];omega,λk y x f1 f2=>?_⟩;have nk:=yn k y f1;have hk:k<n.toNat:=by have:=(b_.mp f1).1;omega
   rw[wt,sG,if_pos hk] at f2;by_cases h:i=k
   .subst h;rw[if_pos rfl] at nk f2;rw[if_pos (by rw[eM];show hk)] at f2;cases f2;show nk
   .rw [if_neg h] at nk f2;cases f2;show nk
 .refine ⟨⇑0,λt ht=>?_⟩;have s5:=aa.new (o:=.tup [V.int n,V.int n,V.ref D]) ht;show q t D rs _ (s3.trans s5) ⟨s3.free ht,hD,fr⟩ ⟨aw,s5 _ _ hD3,al3.mono λ_ _ q=>q.same s5,nD⟩
theorem tI {α:Type}{xs:List α}{k:Nat}{y z:α}(h:z∈xs.set k y):z=y\/z∈xs:=by
 rcases fH h with h|h
 .exact .inr h
 .exact .inl h
structure gh (H0 H:Hp)(p:Int)(n b:Nat)(r:Addr)(rs:List Addr)(M:Mv):Prop where
 lst:H r=some (.lst (rs.map V.ref))
 row:aA (aV H p) rs M
 nin:r∉rs
 fr:∀ a∈rs,H0 a=none
 hl:M.length=n
 hw:∀ xs∈M,xs.length=n
 gd:∀ xs∈M,aH p b xs
 iv:js p n M
theorem aH.le {p:Int}{b b':Nat}{xs:List Nv}(h:aH p b xs)(hb:b<=b'):aH p b' xs:=λx hx=>⟨(h x hx).1,(h x hx).2.1.le hb,(h x hx).2.2.le hb⟩
theorem gh.same {H0 H H':Hp}{p:Int}{n b:Nat}{r:Addr}{rs:List Addr}{M:Mv}(h:gh H0 H p n b r rs M)(s:aa H H'):gh H0 H' p n b r rs M:=⟨s _ _ h.lst,h.row.mono λ_ _ q=>q.same s,h.nin,h.fr,h.hl,h.hw,h.gd,h.iv⟩
theorem gh.le {H0 H:Hp}{p:Int}{n b b':Nat}{r:Addr}{rs:List Addr}{M:Mv}(h:gh H0 H p n b r rs M)(hb:b<=b'):gh H0 H p n b' r rs M:=⟨h.lst,h.row,h.nin,h.fr,h.hl,h.hw,λxs hx=>(h.gd xs hx).le hb,h.iv⟩
theorem gh.ext {l:Addr}{H0 H H':Hp}{p:Int}{n b:Nat}{r:Addr}{rs:List Addr}{M:Mv}(h:gh H0 H p n b r rs M)(b0:bw H0 l)(b1:bw H l)(e:bf l H H')(nr:r≠l):gh H0 H' p n b r rs M:=
 ⟨e _ _ nr h.lst,h.row.monoM λa xs ha q=>q.ext b1 e (b0.ne (h.fr a ha)),h.nin,h.fr,h.hl,h.hw,h.gd,h.iv⟩
theorem gh.put {H0 H:Hp}{p:Int}{n b b' k:Nat}{r D:Addr}{rs:List Addr}{M:Mv}{row:List Nv}(h:gh H0 H p n b r rs M)(hb:b<=b')(rv:aV H p D row)(rl:row.length=n)(rg:aH p b' row)(iv:js p n (M.set k row))(nD:D≠r)(fD:H0 D=none):gh H0 (ar H r (.lst ((rs.map V.ref).set k (.ref D)))) p n b' r (rs.set k D) (M.set k row):=by
 show⟨by rw[aw,rL],(h.row.monoM λa xs ha q=>q.put h.lst (λz=>h.nin (z ▸ ha))).set k (rv.put h.lst nD),λz=>?_,λa ha=>?_,by rw[dC];show h.hl,λxs hx=>?_,λxs hx=>?_,iv⟩
 .rcases tI z with e|e
  .exact nD e.symm
  .exact h.nin e
 .rcases tI ha with e|e
  .rw [e];show fD
  .exact h.fr a e
 .rcases tI hx with e|e
  .rw [e];show rl
  .exact h.hw xs e
 .rcases tI hx with e|e
  .rw [e];show rg
  .exact (h.gd xs e).le hb
theorem gh.tabB {H0 H:Hp}{p:Int}{n b:Nat}{t r:Addr}{rs:List Addr}{M:Mv}(h:gh H0 H p n b r rs M)(ht:H t=some (.tup [.int n,.int n,.ref r])):aU H p b n n t r rs M:=⟨⟨ht,h.lst,h.row,h.nin⟩,h.hl,h.hw,h.gd⟩
theorem uC {p:Int}{u:Nv}(hp:af p)(h:bc p u)(h0:u.1≠0):∀ (F:Type) [Lean.Grind.Field F],aK p F->(nm u:F)≠0:=λF _ hF z=>by
 have e:=hF.inj h (w6 hp).1 (by rw[z,hF.one,oP]);show h0 (by rw[e])
abbrev cB (i:Nat):Nat:=22*2 ^ i-8
theorem m9 (i:Nat):14<=cB i/\cB (i+1)=2*cB i+8:=by
 have:1<=2 ^ i:=Nat.one_le_two_pow;show⟨by show 14<=22*2 ^ i-8;omega,?_⟩;change 22*2 ^ (i+1)-8=2*(22*2 ^ i-8)+8;rw[wg];omega
theorem qH {a d n:Int}(a0:0<=a)(a1:a<n)(d0:0<=d)(d1:d<n-1):0<=(a+1+d) % n/\(a+1+d) % n<n/\(a+1+d) % n≠a:=by
 show⟨gO _ ∅,gA _ ∅,?_⟩;by_cases h:a+1+d<n
 .rw [kP ∅ h];omega
 .have:(a+1+d) % n=(a+1+d-n) % n:=by rw[<- Int.sub_emod_right]
  rw[this,kP ∅ ∅];omega
def spChg:L2.Sp:=λvs H Q _=>∃ (l:Addr) (p n:Int),vs=[.ref l,.int p,.int n]/\bw H l/\af p/\0<=n/\n<=24/\∀ t r rs M H',bf l H H'->bw H' l->fZ H t r rs->H' t=some (.tup [.int n,.int n,.ref r])->gh H H' p n.toNat 80 r rs M->Q (.ref t) H'
theorem qw (F:⇑("_law_change",AV))(T:⇑())(Yan:⇑("_law_plain",2,yF))(Ybd:⇑("_law_nonzero",2,spNzF))(Yad:⇑("_law_mul",3,jy cM))(Yaa:⇑("_law_draw",1,jf))(Yai:⇑("_law_number",2,xn 7))(Yae:⇑("_law_add",3,jy dX)):⇑[4,["_law_bag_here","_law_p","_law_size"],spChg]:=by
 exists JG,fU,3
 show cK h λl p n e96 hb hp e97=>?_;clear h;subst e96;show bC e97 λn0 n24 q=>?_;clear e97;show⟨_,((d9 (Yan<$>hr<$>((ae 1)<&>((ae 2)<&>ah))) (@dY _ _ _ _ _ 3 rfl ((3>>>nd)^^^((4>>>nd)^^^((5>>>nd)^^^(@cU _)))) ⇑1 ⇑1))<*>((@bI _ _ _ _ _ _ _ _ (bX (g7 gF) (ae 2) aq (bo _)) ((gs (i:=6) nd rfl (Or.inr rfl) (Ybd<$>hr<$>((ae 0)<&>((ae 1)<&>ah))))<*>(@bE _ _ _ (d9 (dR (own:=["_law_number_here"]) (fr:=[("_law_p",1),("_law_a",6)]) rfl (cW (by kernel_rfl)) (eJ (a_<|>(pv 5)<||>aq)) (λ_ _ _ _=>⟨(0<<<["_law_number_here","_law_p","_law_a"]),df,(Yad<$>hr<$>((pv 1)<&>((pv 2)<&>((pv 0)<&>ah))))⟩)) (iZ (ae 5) aq i5)))) bJ)<*>((dt cX rfl (fv rfl T.n_range ((jV<|>aq<&&>(ku xM rfl T.n_int boot_int ((i4 gF (pv 2) aq (bo _))<&>ah)))<&>ah)) (7>>>nd) ((8|||nd|||(Yaa<$>hr<$>((ae 0)<&>((ae 2)<&>ah))))<*>((9|||nd|||(fY<|>(eL<|>((g7 eL)<|>(ae 8)<&&>aq)<&&>(Yaa<$>hr<$>((ae 0)<&>(((g7 iG)<|>(ae 2)<&&>aq)<&>ah))))<&&>(ae 2)))<*>((gs (i:=6) nd rfl (Or.inr rfl) (Yai<$>hr<$>((ae 0)<&>((ae 1)<&>ah))))<*>(@bE _ _ _ (d9 (dR (own:=["_law_b","_law_c"]) (fr:=[("_law_p",1),("_law_a",6)]) rfl (cW (by kernel_rfl)) (kD rfl T.n_zip ((a_<|>(pv 5)<||>(pv 8))<&>((a_<|>(pv 5)<||>(pv 9))<&>ah))) (λ_ _ _ _=>⟨(@jX _ K rfl _ _ _ _ 2 rfl ((0<<<["_law_b","_law_c","_law_p","_law_a"])^^^((1<<<["_law_b","_law_c","_law_p","_law_a"])^^^(@cU _))) ⇑1 ⇑1),df,(Yae<$>hr<$>((pv 2)<&>((pv 0)<&>((Yad<$>hr<$>((pv 2)<&>((pv 3)<&>((pv 1)<&>ah))))<&>ah))))⟩)) (iZ (ae 5) (ae 8) i5)))))))<*>(~~~(@bQ _ _ _ _ _ ((ae 3)<&>((ae 4)<&>((ae 5)<&>ah)))))))),?_⟩;show bG λX hX=>?_;left;show aM p n ⟨rfl,hp,n0,n24,λt r rs H1 s1 nw tv=>⟨t,rfl,_,aE.of tv.tup,rfl,_,_,rfl,_,_,rfl,_,_,rfl,rfl,?_⟩⟩;have nr:r≠l:=hb.ne nw.r;have c0:gh H H1 p n.toNat 7 r rs (di n.toNat):=⟨tv.lst,tv.row,tv.nin,nw.rs,by unfold di;rw[aB,dq],λxs hx=>(zU hp n.toNat).2 xs hx,λxs hx x hxx=>?_,λF _ hF=>⟨λi t=>if t=i then 1 else 0,λi j hi hj=>?_⟩⟩
 rotate_left
 .have h01:=w6 hp;show ao (bR.mp hx) λj _ e98=>?_;obtain rfl:=e98;rcases tI hxx with e|e
  .rw [e];show⟨h01.2,by unfold Bt;decide,by unfold Bt;decide⟩
  .rw [(iQ.mp e).2];show⟨h01.1,by unfold Bt;decide,by unfold Bt;decide⟩
 .change sm n.toNat (λt=>(if t=i then 1 else 0)*vN ((di n.toNat).getD t []) j)=_;rw[CQ (λt=>vN ((di n.toNat).getD t []) j) hi,vv hi hj]
 have b1:=hb.same s1;subst hX;show bG λY hY=>?_;have aft:∀ (v6:Option V) (rs:List Addr) (M:Mv) (H2:Hp),bf l H H2->bw H2 l->gh H H2 p n.toNat 14 r rs M->Y { nx:=λx H'=>Q V.non H',rt:=Q } [↥l,⇑p,⇑n,⇑n,⇑n,↥r,v6,none,none,none] H2:=by
  intro v6 rs M H2 e2 b2 ch;subst hY;show bG λX hX=>?_;show ow λY hY=>?_;have cnt:∃ c:Int,(if decide (1<n)=true then (1:Int) else 0)=c/\0<=c/\c<=1/\(c=1->1<n):=by
   by_cases h:1<n
   .exact ⟨1,by rw[cf h];rfl,⇑0,⇑0,λ_=>h⟩
   .exact ⟨0,by rw[d6 h];rfl,⇑0,⇑0,λz=>by cases z⟩
  show uO cnt λc ec c0 c1 cn=>?_;clear cnt;show⟨_,rfl,_,_,rfl,rfl,.inr ⟨_,rfl,?_⟩⟩;rw[ec];show aM _ _ ⟨rfl,rfl,.inl ⟨∅,∅⟩,_,rfl,∅,∅,?_⟩;show hO (λi σ H3=>∃ (v6 v7 v8 v9:Option V) (rs:List Addr) (M:Mv),σ=[↥l,⇑p,⇑n,⇑n,⇑n,↥r,v6,v7,v8,v9]/\bf l H H3/\bw H3 l/\gh H H3 p n.toNat (cB i) r rs M) ⟨v6,none,none,none,rs,M,rfl,e2,b2,ch⟩ ?_ ?_
  .intro i σ H3 hi e91;show nJ e91 λv6 v7 v8 v9 rs M e99 e3 b3 ch=>?_;clear e91;obtain rfl:=e99;show fQ λD2 hD2=>?_;have c1':c=1:=∅
   have hn:=cn c1';have i2:i<=1:=∅
   have bi:cB i<=36:=by
    have:i=0\/i=1:=∅
    rcases this with rfl|rfl <;> decide
   obtain⟨lo14,nxt⟩:=m9 i;simp only[bU,List.set_cons_zero,List.set_cons_succ];subst hY;show bG λY hY=>?_;left;show b3.draw (iC hn) ∅ λa H4 a0 a1 e4 b4=>?_;have c4:=ch.ext hb b3 e4 nr;subst hY;show bG λY hY=>?_;left;show b4.draw ∅ ∅ λd H5 d0 d1 e5 b5=>?_;have c5:=c4.ext hb b4 e5 nr;show bC (qH a0 a1 d0 d1) λb0 b1' nab=>?_;show⟨_,rfl,iC hn,?_⟩;generalize (a+1+d) % n=b at *;subst hY;show bG λY hY=>?_;left;show aM l p ⟨rfl,b5,hp,λvu u H6 e6 b6 nu iu bu=>?_⟩;have c6:=c5.ext hb b5 e6 nr;have e06:bf l H H6:=((e3.trans e4).trans e5).trans e6;clear c4 c5 e4 e5 e6 b4 b5 ch;subst hY;have ha':a.toNat<n.toNat:=∅
   have hb':b.toNat<n.toNat:=by show oz33 b1' ha'
   have hab:a.toNat≠b.toNat:=by show oz26 a0 b0 nab
   have rl:=c6.row.1;have ml:=c6.hl;have eA:rs[a.toNat]?=some (rs[a.toNat]'(oz6 ha' rl ml)):=aG _;have eB:rs[b.toNat]?=some (rs[b.toNat]'(oz6 hb' rl ml)):=aG _;show ao (c6.row.at' eA) λxa fa e910=>?_;obtain⟨va,hva,ala⟩:=e910;show ao (c6.row.at' eB) λxb fb e911=>?_;obtain⟨vb,hvb,alb⟩:=e911;have wa:=c6.hw xa (aY fa);have wb:=c6.hw xb (aY fb);have ga:=c6.gd xa (aY fa);have gb:=c6.gd xb (aY fb);generalize hAdr:rs[a.toNat]'(oz6 ha' rl ml)=A at *;generalize hBdr:rs[b.toNat]'(oz6 hb' rl ml)=B at *;have atA:atI (rs.map V.ref) a=↥A:=eK a0 (by rw[bj,eA];rfl);have atB:atI (rs.map V.ref) b=↥B:=eK b0 (by rw[bj,eB];rfl);have ixA:ixN (rs.map V.ref).length a=some a.toNat:=by
    have:=rm (n:=(rs.map V.ref).length) (k:=a.toNat) (by rw[aB];show oz6 ha' rl ml);rwa [i9 a0] at this
   left;show⟨_,rfl,_,rfl,r,_,a,_,rfl,rfl,aj.of c6.lst,atA,_,rfl,_,rfl,r,_,b,_,rfl,rfl,aj.of c6.lst,atB,A,B,rfl,⟨_,aj.of hva⟩,⟨_,aj.of hvb⟩,λD hD=>?_⟩;show xO (λj Hc y=>aF Hc p y (dX p (xa.getD j (0,1)) (cM p u (xb.getD j (0,1))))) (λk s=>k.same s) (λk hD=>k.put hD) hva hvb (by rw[ala.1,alb.1];omega) hD (by rw[ala.1];omega) (λj v v' Hc Qc hv hv' sc _ qc=>?_) λys H8 s8 e8 yl hys=>?_
   .refine ao (ala.at' hv) λx ex nx=>?_;show ao (alb.at' hv') λx' ex' nx'=>?_;have gx:=ga x (aY ex);have gx':=gb x' (aY ex');have bt:=rR hp iu gx'.1 bu gx'.2 ∅;rw[cw ex,cw ex'] at qc;simp only[cy];left;show⟨_,rfl,_,rfl,_,rfl,p,vu,v',u,x',rfl,hp,⟨nu.same sc,nx'.same sc,iu,gx'.1,7,cB i,bu.1,bu.2,gx'.2.1,gx'.2.2,∅⟩,λw1 He se nw1=>⟨p,v,w1,x,_,rfl,hp,⟨(nx.same sc).same se,nw1,gx.1,fO hp.lo iu gx'.1,cB i,7+cB i,gx.2.1,gx.2.2,bt.1,bt.2,∅⟩,λw2 Hf sf nw2=>qc w2 Hf (se.trans sf) nw2⟩⟩
   .have rv:aV H8 p D ((List.range n.toNat).map λj=>dX p (xa.getD j (0,1)) (cM p u (xb.getD j (0,1)))):=⟨ys,e8,by rw[yl,aB,dq,ala.1];show wa,λk y x f1 f2=>by
     have hk:k<n.toNat:=by have:=(b_.mp f1).1;have:=ala.1;omega
     rw[bj,gB hk] at f2;cases f2;show hys k y f1⟩
    have c8:=c6.same s8;show⟨_,c8.lst,a.toNat,ixA,?_⟩;subst hD2;show oH _ _ _ _ (rs.set a.toNat D) (M.set a.toNat ((List.range n.toNat).map λj=>dX p (xa.getD j (0,1)) (cM p u (xb.getD j (0,1))))) ⟨rfl,(e06.trans s8.ext).upd nw.r,(b6.same s8).new nr,c8.put ∅ rv (by rw[aB,dq]) (λx hx=>?_) (mT (b:=b.toNat) (u:=u) ha' hb' hab ml c6.iv λF _ hF j hj=>?_) (bV c6.lst hD).symm (e06.free (b6.ne hD) hD)⟩
    .refine ao (bR.mp hx) λj hj e912=>?_;obtain rfl:=e912;have hj:=dU.mp hj;have g1:=ga _ (bD (d:=(0,1)) (show j<xa.length by show oz5 wa hj));have g2:=gb _ (bD (d:=(0,1)) (show j<xb.length by show oz5 wb hj));have bt:=vB hp g1.1 (fO hp.lo iu g2.1) g1.2 (rR hp iu g2.1 bu g2.2 ∅) ∅;show⟨oU hp.lo g1.1 (fO hp.lo iu g2.1),bt.le ∅⟩
    .rw [cw fa,cw fb,uL (x:=dX p (xa.getD j (0,1)) (cM p u (xb.getD j (0,1)))) (by rw[bj,gB hj];rfl)];have g1:=(ga _ (bD (d:=(0,1)) (show j<xa.length by show oz5 wa hj))).1;have g2:=(gb _ (bD (d:=(0,1)) (show j<xb.length by show oz5 wb hj))).1;rw[hF.plus g1 (fO hp.lo iu g2),hF.times iu g2];rfl
  .intro σ H3 e92;show nJ e92 λv6 v7 v8 v9 rs M e913 e3 b3 ch=>?_;clear e92;obtain rfl:=e913;have ch:gh H H3 p n.toNat 80 r rs M:=ch.le (by
    have:(2*c).toNat=0\/(2*c).toNat=2:=∅
    rcases this with h|h <;> rw[h] <;> decide)
   subst hX;left;show⟨⇑0,λt ht=>q t r rs M _ (e3.trans (bf.new ht)) (b3.new (b3.ne ht)) ⟨e3.free (b3.ne ht) ht,nw.r,ch.fr⟩ aw (ch.same (aa.new ht))⟩
 clear hY;left;show bH (λhc=>?_) (λ_=>aft none rs _ H1 s1.ext b1 (c0.le ⇑0));have hn:=fc hc;show aM l p ⟨rfl,b1,hp,λva u H3 e3 b3 nu iu bu u0=>?_⟩;have c3:=c0.ext hb b1 e3 nr;have rl:=c3.row.1;have ml:=c3.hl;have eA:rs[0]?=some (rs[0]'(oz55 hn rl ml)):=aG _;show ao (c3.row.at' eA) λxa fa e914=>?_;obtain⟨vs,hva,ala⟩:=e914;have wa:=c3.hw xa (aY fa);have ga:=c3.gd xa (aY fa);generalize hAdr:rs[0]'(oz55 hn rl ml)=A at *;have atA:atI (rs.map V.ref) 0=↥A:=eK ⇑0 (by rw[bj];change (rs[0]?).map _=_;rw[eA];rfl);left;show⟨_,rfl,r,_,0,_,rfl,rfl,aj.of c3.lst,atA,A,rfl,⟨_,aj.of hva⟩,λD hD=>?_⟩;show oS (λj Hc y=>aF Hc p y (cM p u (xa.getD j (0,1)))) (λk s=>k.same s) (λk hD=>k.put hD) hva hD (by rw[ala.1];omega) (λj v Hc Qc hv sc _ qc=>?_) λys H7 s7 e7 yl hys=>?_
 .refine ao (ala.at' hv) λx ex nx=>?_;have gx:=ga x (aY ex);rw[cw ex] at qc;simp only[cy];left;show⟨_,rfl,_,rfl,p,va,v,u,x,rfl,hp,⟨nu.same sc,nx.same sc,iu,gx.1,7,7,bu.1,bu.2,gx.2.1,gx.2.2,∅⟩,λw He se nw=>qc w He se nw⟩
 .have rv:aV H7 p D (xa.map (cM p u)):=⟨ys,e7,by rw[yl,aB];show ala.1,λk y x f1 f2=>by
   rw[bj] at f2;cases f3:xa[k]? with
   | none=>rw[f3] at f2;cases f2
   | some z=>
    rw[f3] at f2;cases f2;have:=hys k y f1;rwa [cw f3] at this⟩
  have c7:=c3.same s7;show⟨_,c7.lst,0,rm (n:=(rs.map V.ref).length) (k:=0) (by rw[aB];show oz55 hn rl ml),?_⟩;show aft _ (rs.set 0 D) (M:=(di n.toNat).set 0 (xa.map (cM p u))) _ (((s1.ext.trans e3).trans s7.ext).upd nw.r) ((b3.same s7).new nr) (c7.put ⇑0 rv (by rw[aB];show wa) (λx hx=>?_) (HL ∅ ml c3.iv (uC hp iu u0) λF _ hF j hj=>?_) (bV c3.lst hD).symm ((s1.ext.trans e3).free (b3.ne hD) hD))
  .refine ao (bR.mp hx) λz hz e915=>?_;obtain rfl:=e915;show⟨fO hp.lo iu (ga z hz).1,(rR hp iu (ga z hz).1 bu (ga z hz).2 ⇑0)⟩
  .rw [cw fa];have ez:xa[j]?=some (xa[j]'(oz5 wa hj)):=aG _;rw[uL ez,uL (x:=cM p u (xa[j]'(oz5 wa hj))) (by rw[bj,ez];rfl)];show hF.times iu (ga _ (aY ez)).1
end
section
variable {F:Type}[Lean.Grind.Field F]
theorem kW {xs:List Nv}{w j:Nat}:(vN (xs.drop w) j:F)=vN xs (w+j):=by
 unfold vN;rw[aW,B8,aW]
theorem pN {xs ys:List Nv}{j:Nat}:(vN (xs++ys) j:F)=if j<xs.length then vN xs j else vN ys (j-xs.length):=by
 unfold vN;split
 .rename_i h
  rw[aW,fq h,aW]
 .rename_i h
  rw[aW,fu (d8 h),aW]
end
section
variable {C PL:Addr}
theorem m7 (xs:List V)(k:Int)(h0:0<=k)(h1:k<=xs.length):nC xs (some k) none=xs.drop k.toNat:=by
 unfold nC HT.sIx;have e:¬ k<0:=∅
 have e2:min k.toNat xs.length=k.toNat:=by show oz19 h1
 simp only[e,if_false,e2];rw[yt];rw[o8];omega
def EV:L2.Sp:=λvs H Q _=>∃ (t1 r1 t2 r2:Addr) (rs1 rs2:List Addr) (p:Int) (k n w1 w2:Nat) (A B:Mv),vs=[.ref t1,.ref t2]/\aU H p k n w1 t1 r1 rs1 A/\aU H p k n w2 t2 r2 rs2 B/\n<=200/\w1<=200/\w2<=200 /\
 ∀ t r rs H',aa H H'->fZ H t r rs->aU H' p k n (w1+w2) t r rs ((List.range n).map λi=>A.getD i []++B.getD i [])->Q (.ref t) H'
theorem GE (F:⇑("_law_pasted",AX))(T:⇑()):⇑[1,["_law_one","_law_other"],EV]:=by
 exists JI,y9,13
 show y_ h λt1 r1 t2 r2 rs1 rs2 p k n w1 w2 A B e92 T1 T2 e93=>?_;clear h;subst e92;show cA e93 λn24 w24 w24' q=>?_;clear e93;show⟨_,(~~~(@bQ _ _ _ _ _ (((cP bq)<|>(ae 0)<||>aq)<&>((eL<|>((cP bq)<|>(ae 0)<||>aq)<&&>((cP bq)<|>(ae 1)<||>aq))<&>((dR (own:=["_law_row","_law_more"]) (fr:=[]) rfl (cW (by kernel_rfl)) (kD rfl T.n_zip ((bq<|>(pv 0)<||>aq)<&>((bq<|>(pv 1)<||>aq)<&>ah))) (λ_ _ _ _=>⟨(@jX _ K rfl _ _ _ _ 2 rfl ((0<<<["_law_row","_law_more"])^^^((1<<<["_law_row","_law_more"])^^^(@cU _))) ⇑1 ⇑1),df,(yU<|>(pv 0)<&&>(pv 1))⟩))<&>ah))))),?_⟩;left;have la:=T1.tv.row.1;have lb:=T2.tv.row.1;have hA:=T1.hl;have hB:=T2.hl;have tup1:=T1.tv.tup;have tup2:=T2.tv.tup;show⟨_,aE.of tup1,_,rfl,_,aE.of tup1,_,rfl,_,aE.of tup2,_,rfl,_,rfl,_,rfl,_,rfl,t1,_,2,_,rfl,rfl,aE.of tup1,rfl,_,rfl,t2,_,2,_,rfl,rfl,aE.of tup2,rfl,r1,r2,rfl,⟨_,aj.of T1.tv.lst⟩,⟨_,aj.of T2.tv.lst⟩,λD hD=>xO (λi Hc y=>∃ a,y=.ref a/\aV Hc p a (((List.range n).map λi=>A.getD i []++B.getD i []).getD i [])/\a≠D/\H a=none) (λ⟨a,e,b,c⟩ s=>⟨a,e,b.same s,c⟩) (λ⟨a,e,b,c,d⟩ hD=>⟨a,e,b.put hD c,c,d⟩) T1.tv.lst T2.tv.lst (by rw[aB,aB];omega) hD (by rw[aB];omega) (λi x y H' Q' hx hy s' ⟨lD,hlD⟩ q'=>?_) (λys H1 s1 e1 yl hys=>?_)⟩
 .refine ao ((rQ T1.tv.row).at' hx) λrow er e94=>?_;obtain⟨a,rfl,vs,hv1,hv2⟩:=e94;show ao ((rQ T2.tv.row).at' hy) λrow' er' e95=>?_;obtain⟨b,rfl,us,hu1,hu2⟩:=e95;have w1':=T1.hw row (aY er);have w2':=T2.hw row' (aY er');have l1:=hv2.1;have l2:=hu2.1;have hi:i<n:=by have:=(b_.mp er).1;show bM hA this
  show⟨_,rfl,_,rfl,a,b,vs,us,rfl,rfl,s' _ _ hv1,s' _ _ hu1,gR (cT ∅),λc hc=>q' _ _ (aa.new hc) ⟨c,rfl,?_,(bV hlD hc).symm,s'.free hc⟩⟩;have e:((List.range n).map λi=>A.getD i []++B.getD i []).getD i []=row++row':=by
   rw[cw (show _=some _ by rw[bj,gB hi];rfl)];change A.getD i []++B.getD i []=_;rw[cw er,cw er']
  rw[e];have sc:=aa.new (o:=.lst (vs++us)) hc;show⟨_,aw,(hv2.mono λ_ _ k=>k.same (s'.trans sc)).app (hu2.mono λ_ _ k=>k.same (s'.trans sc))⟩
 .rw [aB] at yl;obtain⟨rs',rfl,a2,nD,fr⟩:=zI (D:=D) (H1:=H) (p:=p) (M:=(List.range n).map λi=>A.getD i []++B.getD i []) (by rw[aB,dq];omega) hys;show⟨⇑0,λt' ht'=>?_⟩;have s2:=aa.new (o:=.tup [V.int n,V.int ((w1:Int)+(w2:Int)),.ref D]) ht';show q t' D rs' _ (s1.trans s2) ⟨s1.free ht',hD,fr⟩ ⟨⟨by rw[aw];rfl,s2 _ _ e1,a2.mono λ_ _ k=>k.same s2,nD⟩,by rw[aB,dq],λxs hx=>?_,λxs hx x hxx=>?_⟩
  .refine ao (bR.mp hx) λi hi e96=>?_;obtain rfl:=e96;have hi:=dU.mp hi;rw[bN,T1.hw _ (bD (oz8 hA hi)),T2.hw _ (bD (oz8 hB hi))]
  .refine ao (bR.mp hx) λi hi e97=>?_;obtain rfl:=e97;have hi:=dU.mp hi;rcases cj.mp hxx with h|h
   .exact T1.gd _ (bD (oz8 hA hi)) x h
   .exact T2.gd _ (bD (oz8 hB hi)) x h
noncomputable abbrev oJ (M:Mv)(n:Nat):Mv:=(List.range n).map λi=>M.getD i []++(di n).getD i []
theorem G8 (n i:Nat)(h:i<n):((di n).getD i []).length=n:=by
 unfold di;rw[aW,bj,gB h];change ((zR n).set i (1,1)).length=n;rw[dC,eM]
theorem mP {p:Int}{n:Nat}{M M':Mv}{pl:List Nat}(hp:af p)(mM:eP p n n M)(iv:js p n M)(mM':eP p n (n+n) M')(lr:∀ (F:Type) [Lean.Grind.Field F],aK p F->iO F n (n+n) (oJ M n) M' pl):
  eP p n n (M'.map λrow=>row.drop n)/\cY p (M'.map λrow=>row.drop n) M n=di n/\cY p M (M'.map λrow=>row.drop n) n=di n:=by
 have mB:eP p n n (M'.map λrow=>row.drop n):=by
  show⟨by rw[aB];show mM'.hl,λxs hx=>?_,λxs hx x hxx=>?_⟩
  .refine ao (bR.mp hx) λrow hr e98=>?_;obtain rfl:=e98;rw[o8,mM'.hw row hr];omega
  .refine ao (bR.mp hx) λrow hr e99=>?_;obtain rfl:=e99;show mM'.3 row hr x (BQ hxx)
 obtain⟨F,_,hF⟩:=oE hp;obtain⟨U,hU⟩:=iv F hF;have hU2:=pQ (n:=n) (U:=U) (S:=λt j=>vN (M.getD t []) j) hU;have lF:=lr F hF;have hl:=mM.hl;have hl':=mM'.hl;have tl:(oJ M n).length=n:=by rw[aB,dq]
 have eT:∀ {l:Nat},l<n->(oJ M n).getD l []=M.getD l []++(di n).getD l []:=λ{l} h=>by
  rw[aW,bj,gB h];rfl
 have aT:∀ {l j:Nat},l<n->(at' ((oJ M n).map vN) l j:F)=if j<n then vN (M.getD l []) j else if j<n+n then del l (j-n) else 0:=λ{l j} h=>by
  rw[fK (oz8 tl h),eT h,pN,mM.hw _ (bD (oz8 hl h))];by_cases hj:j<n
  .rw [if_pos hj,if_pos hj]
  .rw [if_neg hj,if_neg hj];by_cases h2:j<n+n
   .rw [if_pos h2,vv h (oz3 h2)]
   .rw [if_neg h2,sX (by rw[G8 n l h];show oz37 h2)]
 have aN:∀ {i j:Nat},i<n->at' ((List.range n).map λi j=>if j<n then (del i j:F) else if j<n+n then U i (j-n) else 0) i j=if j<n then (del i j:F) else if j<n+n then U i (j-n) else 0:=λ{i j} h=>by
  unfold at';rw[aW,bj,gB h];rfl
 have nl:((List.range n).map λi j=>if j<n then (del i j:F) else if j<n+n then U i (j-n) else 0).length=n:=by rw[aB,dq]
 have rN:RR ((List.range n).map λi j=>if j<n then (del i j:F) else if j<n+n then U i (j-n) else 0) (n+n) n (λi=>i):=by
  show⟨∅,λi hi=>by show i<n+n;omega,λi k h _=>h,λi k hi hk=>?_,λi j hi hj=>?_,λi j h1 h2 _=>∅⟩
  .rw [aN hi,if_pos hk]
  .rw [aN hi,if_pos (oz27 hi hj)];have hj:j<i:=hj;unfold del;rw[if_neg ∅]
 have sp:bA (M'.map (vN (F:=F))) ((List.range n).map λi j=>if j<n then (del i j:F) else if j<n+n then U i (j-n) else 0):=by
  show lF.sp.trans ⟨λv hv=>?_,λv hv=>?_⟩
  .obtain ⟨l,hl0,rfl⟩:=dZ.mp hv;have hln:l<n:=by rw[aB] at hl0;show bM tl hl0
   have:=Sp.sum (S:=λv=>v∈(List.range n).map λi j=>if j<n then (del i j:F) else if j<n+n then U i (j-n) else 0) (λi=>vN (M.getD l []) i) (λi=>at' ((List.range n).map λi j=>if j<n then (del i j:F) else if j<n+n then U i (j-n) else 0) i) n λi hi=>.mem (ef (oz8 nl hi));have e:((oJ M n).map (vN (F:=F)))[l]=λj=>sm n λi=>vN (M.getD l []) i*at' ((List.range n).map λi j=>if j<n then (del i j:F) else if j<n+n then U i (j-n) else 0) i j:=funext λj=>by
    have a1:=aT (j:=j) hln;unfold at' at a1;rw[aW,aG hl0] at a1;show a1.trans ?_;by_cases hj:j<n
    .rw [if_pos hj,aO λi hi=>by rw[aN hi,if_pos hj]];show (tE (λi=>vN (M.getD l []) i) hj).symm
    .rw [if_neg hj];by_cases h2:j<n+n
     .rw [if_pos h2,aO λi hi=>by rw[aN hi,if_neg hj,if_pos h2]];show (hU2 l (j-n) hln (oz3 h2)).symm
     .rw [if_neg h2,aO λi hi=>by rw[aN hi,if_neg hj,if_neg h2]];rw[aO (g:=λ_=>0) λi _=>by grind];show (fA n).symm
   rw[e];show this
  .obtain ⟨i,hi0,rfl⟩:=dZ.mp hv;have hin:i<n:=by rw[nl] at hi0;show hi0
   have:=Sp.sum (S:=λv=>v∈(oJ M n).map (vN (F:=F))) (λl=>U i l) (λl=>at' ((oJ M n).map (vN (F:=F))) l) n λl hl0=>.mem (ef (by rw[aB];show oz8 tl hl0));have e:((List.range n).map λi j=>if j<n then (del i j:F) else if j<n+n then U i (j-n) else 0)[i]=λj=>sm n λl=>U i l*at' ((oJ M n).map (vN (F:=F))) l j:=funext λj=>by
    have a1:=aN (j:=j) hin;unfold at' at a1;rw[aW,aG hi0] at a1;show a1.trans ?_;by_cases hj:j<n
    .rw [if_pos hj,aO λl hl0=>by rw[aT hl0,if_pos hj]];show (hU i j hin hj).symm
    .rw [if_neg hj];by_cases h2:j<n+n
     .rw [if_pos h2,aO λl hl0=>by rw[aT hl0,if_neg hj,if_pos h2]];show (tE (λl=>U i l) (show j-n<n by show oz3 h2)).symm
     .rw [if_neg h2,aO λl hl0=>by rw[aT hl0,if_neg hj,if_neg h2]];rw[aO (g:=λ_=>0) λi _=>by grind];show (fA n).symm
   rw[e];show this
 show bC (lF.rr.uniq rN sp) λer _ eq=>?_;have eB:∀ {i j:Nat},i<n->j<n->(vN ((M'.map λrow=>row.drop n).getD i []) j:F)=U i j:=λ{i j} hi hj=>by
  have a1:=eq i (n+j) (oz8 er hi) (oz9 hj);rw[fK (oz8 hl' hi),aN hi,if_neg ∅,if_pos (oz9 hj)] at a1;rw[aW,bj,aG (show i<M'.length by show oz8 hl' hi)];change (vN (M'[i].drop n) j:F)=_;rw[kW];rw[cQ (show i<M'.length by show oz8 hl' hi)] at a1;rw[a1];congr 1;omega
 have mU:=zU hp n;show⟨mB,CD hF (zO hp mB mM) mU λi j hi hj=>?_,CD hF (zO hp mM mB) mU λi j hi hj=>?_⟩
 .rw [vw hp hF mB mM hi hj,vv hi hj,<- hU i j hi hj];show aO λl hl0=>by rw[eB hi hl0]
 .rw [vw hp hF mM mB hi hj,vv hi hj,<- hU2 i j hi hj];show aO λl hl0=>by rw[eB hl0 hj]
def D4:L2.Sp:=λvs H Q _=>∃ (p:Int) (t r:Addr) (rs:List Addr) (n:Nat) (M:Mv),vs=[.int p,.ref t]/\af p/\aU H p 80 n n t r rs M/\js p n M/\n<=2 /\
 ∀ t' r' rs' B H',aa H H'->fZ H t' r' rs'->aU H' p 20800 n n t' r' rs' B->cY p B M n=di n/\cY p M B n=di n->Q (.ref t') H'
theorem ma (F:⇑("_law_inverse",A5))(T:⇑())(Yan:⇑("_law_plain",2,yF))(Yay:⇑("_law_pasted",1,EV))(Yar:⇑("_law_reduced",5,zC)):⇑[6,["_law_p","_law_table_here"],D4]:=by
 exists JO,uR,6
 show nJ h λp t r rs n M e911 hp tb e912=>?_;clear h;subst e911;show bC e912 λiv n2 q=>?_;clear e912;show⟨_,((gs (i:=2) nd rfl (Or.inr rfl) ((cP bq)<|>(ae 1)<||>aq))<*>((3|||nd|||(bq<|>(Yar<$>hr<$>((ae 0)<&>((Yay<$>hr<$>((ae 1)<&>((Yan<$>hr<$>((ae 0)<&>((ae 2)<&>ah)))<&>ah)))<&>ah)))<||>aq))<*>(~~~(@bQ _ _ _ _ _ ((ae 2)<&>((ae 2)<&>((dR (own:=["_law_row"]) (fr:=[("_law_size",2)]) rfl (cW (by kernel_rfl)) (eJ (bq<|>(pv 3)<||>aq)) (λ_ _ _ _=>⟨(0<<<["_law_row","_law_size"]),df,(@Ew _ _ _ _ _ _ _ _ _ _ (G0 K rfl) (pv 0) (@zG _ _ _ (pv 1)) lC)⟩))<&>ah))))))),?_⟩;left;show⟨_,aE.of tb.tv.tup,_,rfl,p,n,rfl,hp,∅,∅,λtu ru rsu H1 s1 nw1 tvu=>?_⟩;have tbu:aU H1 p 80 n n tu ru rsu (di n):=by
  have mU:=zU hp n;show⟨tvu,mU.hl,mU.hw,λxs hx x hxx=>?_⟩;have h01:=w6 hp;show ao (bR.mp hx) λj _ e913=>?_;obtain rfl:=e913;rcases tI hxx with e|e
  .rw [e];show⟨h01.2,by unfold Bt;decide,by unfold Bt;decide⟩
  .rw [(iQ.mp e).2];show⟨h01.1,by unfold Bt;decide,by unfold Bt;decide⟩
 show pF t r tu ru rs rsu p 80 n n n M (di n) ⟨rfl,tb.same s1,tbu,nF n2,nF n2,nF n2,λtp rp rsp H2 s2 nw2 tbp=>?_⟩;have hk:(80+1)*4 ^ (n+n)<=20737:=by
  have:n=0\/n=1\/n=2:=∅
  rcases this with rfl|rfl|rfl <;> decide
 show jE p tp rp rsp 80 n (n+n) _ ⟨rfl,hp,tbp,⇑0,∅,∅,λ_=>∅,λt1 tm r1 rs1 M1 pl H3 s3 h1 nw3 tb3 lr=>?_⟩;have mM:eP p n n M:=⟨tb.hl,tb.hw,λxs hx x hxx=>(tb.gd xs hx x hxx).1⟩
 have mM1:eP p n (n+n) M1:=⟨tb3.hl,tb3.hw,λxs hx x hxx=>(tb3.gd xs hx x hxx).1⟩
 show bC (mP hp mM iv mM1 lr) λmB i1 i2=>?_;have hlb:lb p 80 (n+n)<=20800:=by
  unfold lb;split <;> omega
 show⟨t1,rfl,_,aE.of h1,_,rfl,?_⟩;left;show⟨_,rfl,tm,_,2,_,rfl,rfl,aE.of tb3.tv.tup,rfl,r1,rfl,⟨_,aj.of tb3.tv.lst⟩,λD hD=>Iu (λrow=>row.drop n) tb3.tv.lst tb3.tv.row hD (by rw[tb3.tv.row.1,tb3.hl];omega) (λa xs H' Q' hx rv s' q'=>?_) λrsS H5 s5 e5 rvS nS fS=>⟨⇑0,λtS htS=>?_⟩⟩
 .refine ao rv λvs hv al=>?_;clear rv;have xl:=tb3.hw xs hx;have vl:=al.1;show⟨_,rfl,_,rfl,_,rfl,a,vs,rfl,aj.of hv,λb hb=>?_⟩;rw[m7 _ _ ∅ ∅,fG];have sb:=aa.new (o:=.lst (vs.drop n)) hb;show q' b _ hb sb ⟨_,aw,(al.drop n).mono λ_ _ r=>r.same sb⟩
 .have s6:=aa.new (o:=.tup [V.int n,V.int n,V.ref D]) htS;have s13:=(s1.trans s2).trans s3;show q tS D rsS _ _ ((s13.trans s5).trans s6) ⟨(s13.trans s5).free htS,s13.free hD,λb hb=>s13.free (fS b hb)⟩ ⟨⟨aw,s6 _ _ e5,rvS.mono λ_ _ r=>r.same s6,nS⟩,mB.hl,mB.hw,λxs hx=>?_⟩ ⟨i1,i2⟩;show ao (bR.mp hx) λrow hr e914=>?_;obtain rfl:=e914;show λx hxx=>(tb3.gd row hr).le hlb x (BQ hxx)
theorem aU.ext {l:Addr}{H0 H H':Hp}{p:Int}{k n wd:Nat}{t r:Addr}{rs:List Addr}{M:Mv}(h:aU H p k n wd t r rs M)(b0:bw H0 l)(nw:fZ H0 t r rs)(b:bw H l)(e:bf l H H'):aU H' p k n wd t r rs M:=
 ⟨⟨e _ _ (b0.ne nw.t) h.tv.tup,e _ _ (b0.ne nw.r) h.tv.lst,h.tv.row.monoM λa xs ha q=>q.ext b e (b0.ne (nw.rs a ha)),h.tv.nin⟩,h.hl,h.hw,h.gd⟩
structure GL (H0 H:Hp)(p:Int)(k:Nat)(l:Addr)(ts:List Addr)(ds:List (Nat×Nat))(Ms:List Mv):Prop where
 lst:H l=some (.lst (ts.map V.ref))
 len:ts.length=ds.length
 nl:H0 l=none
 tab:∀ (i:Nat) t d,ts[i]?=some t->ds[i]?=some d->∃ r rs,aU H p k d.1 d.2 t r rs (Ms.getD i [])/\fZ H0 t r rs
theorem GL.same {H0 H H':Hp}{p:Int}{k:Nat}{l:Addr}{ts:List Addr}{ds:List (Nat×Nat)}{Ms:List Mv}(h:GL H0 H p k l ts ds Ms)(s:aa H H'):GL H0 H' p k l ts ds Ms:=⟨s _ _ h.lst,h.len,h.nl,λi t d e1 e2=>let ⟨r,rs,a,b⟩:=h.tab i t d e1 e2;⟨r,rs,a.same s,b⟩⟩
theorem GL.le {H0 H:Hp}{p:Int}{k k':Nat}{l:Addr}{ts:List Addr}{ds:List (Nat×Nat)}{Ms:List Mv}(h:GL H0 H p k l ts ds Ms)(hk:k<=k'):GL H0 H p k' l ts ds Ms:=⟨h.lst,h.len,h.nl,λi t d e1 e2=>let ⟨r,rs,a,b⟩:=h.tab i t d e1 e2;⟨r,rs,a.le hk,b⟩⟩
theorem GL.ext {b:Addr}{H0 H H':Hp}{p:Int}{k:Nat}{l:Addr}{ts:List Addr}{ds:List (Nat×Nat)}{Ms:List Mv}(h:GL H0 H p k l ts ds Ms)(b0:bw H0 b)(b1:bw H b)(e:bf b H H'):GL H0 H' p k l ts ds Ms:=⟨e _ _ (b0.ne h.nl) h.lst,h.len,h.nl,λi t d e1 e2=>let ⟨r,rs,a,nw⟩:=h.tab i t d e1 e2;⟨r,rs,a.ext b0 nw b1 e,nw⟩⟩
noncomputable abbrev tds (ns:List Int)(ps:List (Int×Int)):List (Nat×Nat):=ps.map λq=>(nz ns q.2,nz ns q.1)
noncomputable abbrev cds (ns:List Int):List (Nat×Nat):=ns.map λn=>(n.toNat,n.toNat)
theorem GL.tbl {H0 H:Hp}{p:Int}{k:Nat}{l:Addr}{ts:List Addr}{ps:List (Int×Int)}{ns:List Int}{Ms:List Mv}(h:GL H0 H p k l ts (tds ns ps) Ms):xU H p k l ts ps ns Ms:=⟨h.lst,by rw[h.len,aB],λi t q e1 e2=>let ⟨r,rs,a,_⟩:=h.tab i t (nz ns q.2,nz ns q.1) e1 (by rw[bj,e2];rfl);⟨r,rs,a⟩⟩
theorem GL.chl {H0 H:Hp}{p:Int}{k:Nat}{l:Addr}{ts:List Addr}{ns:List Int}{Ms:List Mv}(h:GL H0 H p k l ts (cds ns) Ms):Co H p k l ts ns Ms:=⟨h.lst,by rw[h.len,aB],λi t n e1 e2=>let ⟨r,rs,a,_⟩:=h.tab i t (n.toNat,n.toNat) e1 (by rw[bj,e2];rfl);⟨r,rs,a⟩⟩
noncomputable abbrev ledM (p:Int)(ns:List Int)(ps:List (Int×Int))(Ms Cs Bs:List Mv):List Mv:=(List.range ps.length).map (chM p ns ps Bs Ms Cs)
noncomputable abbrev ledB (kt k k2:Nat):Nat:=7+2*(k2+(7+2*(kt+k+8))+8)
def DZ:L2.Sp:=λvs H Q _=>∃ (e st z tl cl bl:Addr) (p:Int) (kt k k2:Nat) (xs:List V) (ps:List (Int×Int)) (ns:List Int) (ts cts bts:List Addr) (Ms Cs Bs:List Mv),vs=[.int p,.ref e,.ref st,.ref cl,.ref bl]/\af p/\H e=some (.lst xs)/\dw H xs ps/\jD (ns.length:Int) ps/\ps.length<=9/\H st=some (.tup [.ref z,.ref tl])/\(∀ i,nz ns i<=2) /\
 xU H p kt tl ts ps ns Ms/\Co H p k cl cts ns Cs/\Co H p k2 bl bts ns Bs/\kt<=100000/\k<=100000/\k2<=100000/\∀ t l' ts' H',aa H H'->H t=none->H' t=some (.tup [.ref z,.ref l'])->GL H H' p (ledB kt k k2) l' ts' (tds ns ps) (ledM p ns ps Ms Cs Bs)->Q (.ref t) H'
theorem mf (F:⇑("_law_led",Ai))(T:⇑())(Yau:⇑("_law_product",4,spLpB)):⇑[5,["_law_p","_law_arrows","_law_standing_here","_law_changes","_law_backs"],DZ]:=by
 exists Ji,pJ,19
 show pH h λe st z tl cl bl p kt k k2 xs ps ns ts cts bts Ms Cs Bs e94 hp he e95=>?_;clear h;subst e94;show pL e95 λpr ip p9 hst n2 ht hc hb kt1 k1 k21 q=>?_;clear e95;show⟨_,((5|||nd|||(@dJ _ _ _ _ ah))<*>((dt cX rfl (kD rfl T.n_zip ((bq<|>(pv 2)<||>aq)<&>((pv 1)<&>ah))) (@dY _ _ _ _ _ 2 rfl ((6>>>nd)^^^((@dY _ _ _ _ _ 2 rfl ((7>>>nd)^^^((8>>>nd)^^^(@cU _))) ⇑1 ⇑1)^^^(@cU _))) ⇑1 ⇑1) (@bE _ _ _ (gK (gk gC gU gT (mtJ gq) (ae 5) ((Yau<$>hr<$>((ae 0)<&>(((ixJ a_)<|>(ae 4)<||>(ae 8))<&>((Yau<$>hr<$>((ae 0)<&>((ae 6)<&>(((ixJ a_)<|>(ae 3)<||>(ae 7))<&>ah))))<&>ah))))<&>ah)))))<*>(~~~(@bQ _ _ _ _ _ (((cP bq)<|>(ae 2)<||>aq)<&>((ae 5)<&>ah)))))),?_⟩;show bG λX hX=>?_;left;show⟨⇑0,λD hD=>?_⟩;have s1:=aa.new (o:=.lst []) hD;have eD:(ar H D (.lst [])) D=some (.lst []):=aw;generalize ar H D (.lst [])=H1 at *;subst hX;show bG λX hX=>?_;show ow λY hY=>?_;have xl:=pr.1;have tl1:=ht.2.1;have cl1:=hc.2.1;have bl1:=hb.2.1;show⟨_,rfl,st,_,1,_,rfl,rfl,aE.of (s1 _ _ hst),rfl,_,rfl,tl,e,rfl,⟨_,aj.of (s1 _ _ ht.1)⟩,⟨_,aj.of (s1 _ _ he)⟩,
  zm (xs:=ts.map V.ref) (ys:=xs) (λi σ H3=>∃ (v6 v7 v8:Option V) (us:List Addr),σ=[⇑p,↥e,↥st,↥cl,↥bl,↥D,v6,v7,v8]/\aa H H3/\H3 D=some (.lst (us.map V.ref))/\us.length=i/\∀ (j:Nat) t q,us[j]?=some t->ps[j]?=some q->∃ r rs,aU H3 p (ledB kt k k2) (nz ns q.2) (nz ns q.1) t r rs (chM p ns ps Bs Ms Cs j)/\fZ H t r rs/\r≠D/\D∉rs) (by rw[aB];show oz39 xl tl1) ⟨none,none,none,[],rfl,s1,eD,rfl,λj t q e=>by simp at e⟩ (λi σ H3 _ ⟨_,_,_,_,_,s3,_⟩=>⟨aj.of (s3 _ _ ht.1),aj.of (s3 _ _ he)⟩) ?_ ?_⟩
 .intro i y v pz σ H3 hy hv hpz e91;show cZ e91 λv6 v7 v8 us e96 s3 e3 e97=>?_;clear e91;obtain rfl:=e96;obtain⟨ul,hu⟩:=e97;show fQ λD2 hD2=>?_;have hi:i<ps.length:=by have:=(b_.mp hv).1;show bM xl this
  have hq:ps[i]?=some (ps.getD i (0,0)):=by rw[cQ hi];show aG _
  have hti:ts[i]?=some (ts[i]'(oz8 tl1 hi)):=aG _;rw[bj,hti] at hy;cases hy;show eV (ht.2.2 i _ _ hti hq) λr rs tb=>?_;have ec:chM p ns ps Bs Ms Cs i=cY p (Bs.getD (ps.getD i (0,0)).2.toNat []) (cY p (Ms.getD i []) (Cs.getD (ps.getD i (0,0)).1.toNat []) (nz ns (ps.getD i (0,0)).1)) (nz ns (ps.getD i (0,0)).1):=rfl;generalize ps.getD i (0,0)=qq at *;obtain⟨tl',hd'⟩:=qq;show ao (pr.2 i v _ hv hq) λta e98 hta=>?_;obtain rfl:=e98;show cA (ip _ (aY hq)) λi0 i1 j0 j1=>?_;have s4:=aa.new (o:=.tup [V.ref (ts[i]'(oz8 tl1 hi)),V.ref ta]) hpz;have e4:=s4 _ _ e3;have p4:(ar H3 pz (.tup [V.ref (ts[i]'(oz8 tl1 hi)),V.ref ta])) pz=some (.tup [V.ref (ts[i]'(oz8 tl1 hi)),V.ref ta]):=aw;have s04:=s3.trans s4;generalize ar H3 pz (.tup [V.ref (ts[i]'(oz8 tl1 hi)),V.ref ta])=H4 at *;simp only[iV,g_,jw,bU,List.set_cons_zero,List.set_cons_succ];show aM pz _ ⟨rfl,aE.of p4,rfl,_,_,rfl,_,_,rfl,ta,_,rfl,aE.of (s04 _ _ hta),rfl,_,_,rfl,_,_,rfl,rfl,rfl,?_⟩;subst hY;left;have hnt:ns[tl'.toNat]?=some (ns.getD tl'.toNat 0):=by rw[cQ ∅];show aG _
  have hnh:ns[hd'.toNat]?=some (ns.getD hd'.toNat 0):=by rw[cQ ∅];show aG _
  have hbt:bts[hd'.toNat]?=some (bts[hd'.toNat]'(by omega)):=aG _;have hct:cts[tl'.toNat]?=some (cts[tl'.toNat]'(by omega)):=aG _;show eV (hb.2.2 _ _ _ hbt hnh) λrB rsB tbB=>?_;show eV (hc.2.2 _ _ _ hct hnt) λrC rsC tbC=>?_;have tb:aU H p kt (nz ns hd') (nz ns tl') _ r rs _:=tb;have tbB:aU H p k2 (nz ns hd') (nz ns hd') _ rB rsB _:=tbB;have tbC:aU H p k (nz ns tl') (nz ns tl') _ rC rsC _:=tbC;have m1:=n2 tl';have m2:=n2 hd';have l1:nz ns tl'*(kt+k+8)<=2*(kt+k+8):=gg m1 (aQ _);have l2:nz ns hd'*(k2+(7+2*(kt+k+8))+8)<=2*(k2+(7+2*(kt+k+8))+8):=gg m2 (aQ _);show⟨.inl ⟨rfl,_,aj.of e4⟩,_,aj.of (s04 _ _ hb.1),_,eK j0 (by rw[bj,hbt];rfl),_,aj.of (s04 _ _ hc.1),_,eK i0 (by rw[bj,hct];rfl),?_⟩;show xj _ r _ rC rs rsC p (nz ns hd') (nz ns tl') (nz ns tl') kt k _ _ ⟨rfl,hp,tb.same s04,tbC.same s04,nF m2,nF m1,nF m1,∅,λt5 r5 rs5 H5 s5 nw5 tv5=>?_⟩;show bC (Fi (wd:=nz ns tl') hp tb.hl tb.hw tb.gd tbC.hl tbC.hw tbC.gd) λg1 g2 g3=>?_;have tb5:aU H5 p (7+2*(kt+k+8)) (nz ns hd') (nz ns tl') t5 r5 rs5 _:=⟨tv5,g1,g2,λxs hx=>(g3 xs hx).le (BM l1 7)⟩
  have s05:=s04.trans s5;have e5:=s5 _ _ e4;show xj _ rB t5 r5 rsB rs5 p (nz ns hd') (nz ns hd') (nz ns tl') k2 _ _ _ ⟨rfl,hp,tbB.same s05,tb5,nF m2,nF m2,nF m1,∅,λt6 r6 rs6 H6 s6 nw6 tv6=>?_⟩;show bC (Fi (wd:=nz ns tl') hp tbB.hl tbB.hw tbB.gd tb5.hl tb5.hw tb5.gd) λg1 g2 g3=>?_;have tb6:aU H6 p (ledB kt k k2) (nz ns hd') (nz ns tl') t6 r6 rs6 _:=⟨tv6,g1,g2,λxs hx=>(g3 xs hx).le (BM l2 7)⟩
  have s06:=s05.trans s6;have e6:=s6 _ _ e5;have n6:r6≠D:=λz=>by have:=nw6.r;rw[z,e5] at this;cases this
  have n6':D∉rs6:=λz=>by have:=nw6.rs D z;rw[e5] at this;cases this
  subst hD2;show⟨_,e6,cT (by rw[aB];show oz57 p9 ul hi),_,_,_,us++[t6],rfl,s06.upd hD,by rw[aw,i6],by rw[bN,ul];rfl,λj t q f1 f2=>?_⟩;by_cases hj:j<us.length
  .rw [fq hj] at f1;show eW (hu j t q f1 f2) λr' rs' tb' nw' n1 n2=>?_;show aM r' rs' ⟨(((tb'.same s4).same s5).same s6).put e6 n1 n2,nw',n1,n2⟩
  .have hj0:j=us.length:=by
    have:=(b_.mp f1).1;rw[bN] at this;have:j<us.length+1:=this;show oz31 hj this
   subst hj0;rw[fu (aQ _),rX] at f1;cases f1;rw[ul] at f2 ⊢;rw[hq] at f2;cases f2;rw[ec];show aM r6 rs6 ⟨tb6.put e6 n6 n6',⟨s05.free nw6.t,s05.free nw6.r,λx hx=>s05.free (nw6.rs x hx)⟩,n6,n6'⟩
 .intro σ H3 e92;show cZ e92 λv6 v7 v8 us e99 s3 e3 e910=>?_;clear e92;obtain rfl:=e99;obtain⟨ul,hu⟩:=e910;subst hX;left;show⟨_,aE.of (s3 _ _ hst),_,rfl,⇑0,λt ht'=>?_⟩;have s5:=aa.new (o:=.tup [.ref z,.ref D]) ht';show q t D us _ (s3.trans s5) (s3.free ht') aw ⟨s5 _ _ e3,by rw[ul,aB,aB];show tl1,hD,λi t d f1 f2=>?_⟩;rw[bj] at f2;cases eq':ps[i]? with
  | none=>rw[eq'] at f2;cases f2
  | some q'=>
   rw[eq'] at f2;cases f2;show eW (hu i t q' f1 eq') λr rs tb nw _ _=>?_;have hi:i<ps.length:=(b_.mp eq').1;have em:(ledM p ns ps Ms Cs Bs).getD i []=chM p ns ps Bs Ms Cs i:=by
    rw[aW,bj,gB hi];rfl
   rw[em];show aM r rs ⟨tb.same s5,nw⟩
def spMd (S C G:Addr):L2.Sp:=λvs H Q _=>∃ (g d st z tl lp:Addr) (p m:Int) (k:Nat) (xs:List V) (ps:List (Int×Int)) (ns:List Int) (ts:List Addr) (Ms:List Mv),vs=[.ref g,.ref d,.ref st]/\fh G H g p/\af p/\kC C H d m lp xs/\dw H xs ps/\jD m ps/\ps.length<=9/\ck H z ns/\(ns.length:Int)=m/\xU H p k tl ts ps ns Ms/\k<=1000000/\H st=some (.tup [.ref z,.ref tl]) /\
 ∀ (x dx z' l':Addr) (ts':List Addr) (H1 H':Hp),aa H H'->kK H S C G H' x p m ps ns k Ms dx g d z' l' lp xs ts'->Q (.ref x) H'
theorem uv (F:⇑("_law_made",AF))(T:⇑())(Ybm:gX P w K mg base "Standing" S 11 (spSI S C G)):⇑[13,["_law_ground","_law_drawing_here","_law_standing_here"],spMd S C G]:=by
 exists Ju,xk,14
 show xi h λg d st z tl lp p m k xs ps ns ts Ms e92 hg hp e93=>?_;clear h;subst e92;show y8 e93 λhd pr ip p9 hz hm ht hk hst q=>?_;clear e93;show⟨_,(~~~(pY Ybm hr.m rfl ((ae 0)<&>((ae 1)<&>(((cP bq)<|>(ae 2)<||>aq)<&>(((cP bq)<|>(ae 2)<||>aq)<&>ah)))))),?_⟩;left;show⟨_,aE.of hst,_,rfl,_,aE.of hst,_,rfl,λx dx hx hdx ndx=>k6 hx hdx ndx hg hp hd pr ip p9 hz hm ht hk λdx2 z' l' ts' H4 s4 sb=>⟨rfl,q x dx2 z' l' ts' H H4 s4 sb⟩⟩
def spLs7:L2.Sp:=λvs H Q _=>∃ (l a:Addr) (p m:Int) (xs:List V) (ps:List (Int×Int)),vs=[.ref l,.int p,.int m,.ref a]/\bw H l/\af p/\H a=some (.lst xs)/\dw H xs ps/\jD m ps/\ps.length<=9/\1<=m/\m<=8/\a≠l /\
 ∀ (t z tl:Addr) (ns:List Int) (ts:List Addr) (Ms:List Mv) (H':Hp),bf l H H'->bw H' l->H t=none->H' t=some (.tup [.ref z,.ref tl])->H z=none->H' z=some (.lst (ns.map V.int))->(ns.length:Int)=m->(∀ n∈ns,0<=n/\n<=2)->ns.sum<=7->(p=0->ns.sum<=4)->GL H H' p 60 tl ts (tds ns ps) Ms->Q (.ref t) H'
theorem qj (F:⇑("_law_standing",Ba))(T:⇑())(Yaa:⇑("_law_draw",1,jf))(Ybf:⇑("_law_table",5,spTbG)):⇑[6,["_law_bag_here","_law_p","_law_many","_law_arrows"],spLs7]:=by
 exists JU,uR,6
 show nJ h λl a p m xs ps e96 hb hp e97=>?_;clear h;subst e96;show jJ e97 λha pr ip p9 m1 m8 na q=>?_;clear e97;show⟨_,((gs (i:=4) nd rfl (Or.inr rfl) (@dJ _ _ _ _ ah))<*>((5|||nd|||(a_<|>(@dJ _ _ _ _ (aq<&>(aq<&>ah)))<||>(ku xM rfl T.n_int boot_int ((i4 (g7 gF) (ae 1) aq (bo _))<&>ah))))<*>((dt cX rfl (fv rfl T.n_range ((pv 2)<&>ah)) (6>>>nd) ((gK (gk gC gU gT (mtJ gq) (ae 4) ((cg (E8 rfl) rfl T.n_min boot_min ((ae 5)<&>((Yaa<$>hr<$>((ae 0)<&>(aq<&>ah)))<&>ah)))<&>ah)))<*>(@bE _ _ _ (5|||nd|||(iG<|>(ae 5)<&&>(a_<|>(ae 4)<||>(gm gp aq)))))))<*>((oO (i:=7) (own:=["_law_tail","_law_head"]) (fr:=[("_law_bag_here",0),("_law_p",1),("_law_sizes",4)]) rfl (cW (by kernel_rfl)) (eJ (pv 3)) (λ_ _ _ _=>⟨(@jX _ K rfl _ _ _ _ 2 rfl ((0<<<["_law_tail","_law_head","_law_bag_here","_law_p","_law_sizes"])^^^((1<<<["_law_tail","_law_head","_law_bag_here","_law_p","_law_sizes"])^^^(@cU _))) ⇑1 ⇑1),df,(Ybf<$>hr<$>((pv 2)<&>((pv 3)<&>(((kH K rfl)<|>(pv 4)<||>(pv 1))<&>(((kH K rfl)<|>(pv 4)<||>(pv 0))<&>ah)))))⟩) nd rfl rfl rfl)<*>(~~~(@bQ _ _ _ _ _ ((ae 4)<&>((ae 7)<&>ah)))))))),?_⟩;show cut2 λX hX=>?_;left;have p0:=hp.lo;show⟨fE _,λz hz=>?_⟩;have nz:z≠l:=hb.ne hz;have naz:a≠z:=bV ha hz;have ez:(ar H z (.lst [])) z=some (.lst []):=aw;have s1:=aa.new (o:=.lst []) hz;have b1:=hb.new (o:=.lst []) nz;generalize ar H z (.lst [])=H1 at *;show⟨(show 2<=sizeLine by decide),λp1 hp1=>?_⟩;obtain⟨le0,hle,l0,l7,lp⟩:∃ le0:Int,atI [V.int 4,V.int 7] (if decide (0<p)=true then 1 else 0)=⇑le0/\0<=le0/\le0<=7/\(p=0->le0<=4):=by
  by_cases h:0<p
  .exact ⟨7,by rw[cf h];rfl,⇑0,⇑0,λz=>∅⟩
  .exact ⟨4,by rw[d6 h];rfl,⇑0,⇑0,λ_=>⇑0⟩
 have s2:=aa.new (o:=.lst [V.int 4,V.int 7]) hp1;show⟨_,aj.of aw,_,hle,?_⟩;have ez2:=s2 _ _ ez;have b2:=b1.same s2;have s02:=s1.trans s2;generalize ar H1 p1 (.lst [V.int 4,V.int 7])=H2 at *;subst hX;show bG λX hX=>?_;show ow λY hY=>?_;show⟨_,rfl,m,rfl,∅,∅,hO (λi σ H3=>∃ (v6:Option V) (le:Int) (ns:List Int),σ=[↥l,⇑p,⇑m,↥a,↥z,⇑le,v6,none]/\0<=le/\le+ns.sum<=le0/\bf l H H3/\bw H3 l/\H3 z=some (.lst (ns.map V.int))/\ns.length=i/\∀ n∈ns,0<=n/\n<=2)
  ⟨none,le0,[],rfl,l0,by simp,s02.ext,b2,ez2,rfl,by simp⟩ ?_ ?_⟩
 .intro i σ H3 hi e91;show cK e91 λv6 le ns e98 l1 l2 e99=>?_;clear e91;obtain rfl:=e98;show dj e99 λe3 b3 hz3 hln hn=>?_;clear e99;show fQ λD2 hD2=>?_;simp only[bU,List.set_cons_zero,List.set_cons_succ];subst hY;left;show⟨.inl ⟨rfl,_,aj.of hz3⟩,b3.draw ⇑0 ⇑0 λy H4 y0 y1 e4 b4=>⟨le,y,⟨rfl,rfl⟩,_,e4 _ _ nz hz3,cT (by rw[aB];omega),_,aj.of aw,_,F_ _ _,_,rfl,?_⟩⟩;subst hD2;show dc _ _ (ns++[if y<le then y else le]) ⟨rfl,?_,?_,(e3.trans e4).upd hz,b4.new nz,by rw[aw,dW];rfl,by rw[bN,hln];rfl,λn hnn=>?_⟩
  .split <;> omega
  .rw [List.sum_append,List.sum_singleton];split <;> omega
  .rcases cj.mp hnn with h|h
   .exact hn n h
   .rw [cS.mp h];split <;> omega
 .intro σ H3 e92;show cK e92 λv6 le ns e910 l1 l2 e911=>?_;clear e92;obtain rfl:=e910;show dj e911 λe3 b3 hz3 hln hn=>?_;clear e911;subst hX;left;have hxl:=pr.1;have ha3:=e3 _ _ na ha;show⟨_,rfl,a,rfl,⟨_,aj.of ha3⟩,λD hD=>?_⟩;have nDl:D≠l:=b3.ne hD;have fD:H D=none:=e3.free nDl hD;have nzD:z≠D:=bV hz3 hD;show rO (k:=2) (xs:=xs) (λi vs H'=>∃ (ts:List Addr) (Ms:List Mv),vs=ts.map V.ref/\bf l H3 H'/\bw H' l/\H' D=some (.lst vs)/\ts.length=i/\Ms.length=i/\∀ (j:Nat) t q,ts[j]?=some t->ps[j]?=some q->∃ r rs,aU H' p 60 (Pf.nz ns q.2) (Pf.nz ns q.1) t r rs (Ms.getD j [])/\fZ H t r rs/\r≠D/\D∉rs)
   ⟨[],[],rfl,bf.new hD,b3.new nDl,aw,rfl,rfl,λj t q e=>by simp at e⟩ (λi vs H' _ ⟨_,_,_,e',_⟩=>aj.of (e' _ _ na ha3)) ?_ ?_
  .intro i x vs σ' H' hi hx sh e93;show gE e93 λts Ms e912 e' b' hD' htl e913=>?_;clear e93;obtain rfl:=e912;obtain⟨hml,ht⟩:=e913;show eV sh.two λz1 z2 e914=>?_;obtain rfl:=e914;have hq:ps[i]?=some (ps[i]'(bM hxl hi)):=aG (bM hxl hi);show ao ((pr.bag hb (e3.trans e')).2 i x _ hx hq) λta e915 hta=>?_;obtain rfl:=e915;have hz':=e' _ _ nz hz3;show cA (ip _ (aY hq)) λi0 i1 j0 j1=>?_;have a1:=rE (ns:=ns) i0 (oz62 hln i1);have a2:=rE (ns:=ns) j0 (oz62 hln j1);have c1:=hn (ns.getD ps[i].1.toNat 0) (by rw[aW,aG (show ps[i].1.toNat<ns.length by omega)];show dm _);have c2:=hn (ns.getD ps[i].2.toNat 0) (by rw[aW,aG (show ps[i].2.toNat<ns.length by omega)];show dm _);show aM ta _ ⟨rfl,aE.of hta,rfl,_,_,rfl,_,_,rfl,rfl,?_⟩;simp only[dh,List.set_cons_zero,List.set_cons_succ,fm,cy];left;show⟨_,rfl,_,rfl,_,rfl,z,rfl,_,aj.of hz',_,a2,_,rfl,z,rfl,_,aj.of hz',_,a1,l,p,_,_,rfl,b',hp,c2.1,∅,c1.1,∅,λt r rs M H4 e4 b4 nw tb=>?_⟩;have hD4:=e4 _ _ nDl hD';have n3:r≠D:=λz=>by have:=nw.r;rw[z,hD'] at this;cases this
   have n4:D∉rs:=λz=>by have:=nw.rs D z;rw[hD'] at this;cases this
   have e0':=e3.trans e';show gj (ws:=ts.map V.ref++[.ref t]) hi Sh.mk2 hD4 (cT (by rw[aB];show oz49 p9 hxl hi htl)) ⟨ts++[t],i6 _ _,(e'.trans e4).upd hD,b4.new nDl,by rw[aw],by rw[bN,htl];rfl,Ms++[M],by rw[bN,hml];rfl,λj t' q' f1 f2=>?_⟩;by_cases hj:j<ts.length
   .rw [fq hj] at f1;show eW (ht j t' q' f1 f2) λr' rs' tb' nw' n1 n2=>?_;show aM r' rs' ⟨?_,nw',n1,n2⟩;rw[aW,fq (oz23 htl hml hj),<- aW];show (tb'.ext hb nw' b' e4).put hD4 n1 n2
   .rw [fu (d8 hj)] at f1;have hj0:j-ts.length=0:=by
     by_cases z:j-ts.length=0
     .exact z
     .rw [dH (by simp;show oz7 z)] at f1;cases f1
    rw[hj0] at f1;cases f1;have ji:j=i:=by show oz2 htl hj hj0
    subst ji;rw[hq] at f2;cases f2;show aM r rs ⟨?_,⟨e0'.free (b'.ne nw.t) nw.t,e0'.free (b'.ne nw.r) nw.r,λx hx=>e0'.free (b'.ne (nw.rs x hx)) (nw.rs x hx)⟩,n3,n4⟩;rw[aW,fu (oz25 hml),hml,rX];show tb.put hD4 n3 n4
  .intro vs H4 e94;show gE e94 λts Ms e916 e4 b4 hD4 htl e917=>?_;clear e94;obtain rfl:=e916;obtain⟨hml,ht⟩:=e917;show⟨⇑0,λt ht'=>?_⟩;have s5:=aa.new (o:=.tup [V.ref z,V.ref D]) ht';have e05:=(e3.trans e4).trans s5.ext;show q t z D ns ts Ms _ e05 (b4.same s5) ((e3.trans e4).free (b4.ne ht') ht') aw hz (s5 _ _ (e4 _ _ nz hz3)) ∅ hn ∅ (λz=>by have:=lp z;omega) ⟨s5 _ _ hD4,by rw[aB];show oz17 hxl htl,fD,λi t d f1 f2=>?_⟩;rw[bj] at f2;cases eq':ps[i]? with
   | none=>rw[eq'] at f2;cases f2
   | some q'=>
    rw[eq'] at f2;cases f2;show eW (ht i t q' f1 eq') λr rs tb nw _ _=>?_;show aM r rs ⟨tb.same s5,nw⟩
end
section
variable {G PL cL:Addr}
theorem mJ {a b:Int}(h:0<b):nrS a b=nrm a b:=by unfold nrS;rw[if_neg ∅]
theorem Av {p:Int}:de p 0=(0,1):=by
 unfold de;split
 .rfl
 .rw [Int.zero_emod]
theorem j4 {p:Int}(hp:af p):bc p (0,1):=by
 rw[<- Av (p:=p)];show gJ hp.lo
end
theorem Ep {p:Int}{x y:Nv}(hp:af p)(hx:bc p x)(hy:bc p y):dX p x (cM p (de p (-1)) y)=je p x y:=by
 obtain⟨F,_,hF⟩:=oE hp;have i1:=fO hp.lo (gJ (k:=-1) hp.lo) hy;show hF.inj (oU hp.lo hx i1) (Fu hp.lo hx hy) ?_;rw[hF.plus hx i1,hF.times (gJ hp.lo) hy,hF.intF,xh,iF,hF.minus hx hy]
 grind
theorem IS {p:Int}{x:Nv}(hp:af p)(hx:bc p x):dX p (0,1) x=x:=by
 obtain⟨F,_,hF⟩:=oE hp;show hF.inj (oU hp.lo (j4 hp) hx) hx ?_;rw[hF.plus (j4 hp) hx,oQ]
 grind
theorem Hz {p:Int}{x y:Nv}{n:Nat}(hp:af p)(hx:bc p x)(hy:bc p y)(h1:bW n x)(h2:bW n y)(h7:7<=n):bW (2*n+2) (je p x y):=by
 rw[<- Ep hp hx hy];show bW.le (vB hp hx (fO hp.lo (gJ hp.lo) hy) h1 (zV hp hy h2 h7) h7) ∅
def nt (ns:List Int)(i:Int):Nat:=(ns.getD i.toNat 0).toNat
noncomputable def stN (ns1 ns2:List Int):Nat->Nat
 | 0=>0
 | i+1=>stN ns1 ns2 i+(ns2.getD i 0).toNat*(ns1.getD i 0).toNat
theorem xH (ns1 ns2:List Int){i j:Nat}(h:i<=j):stN ns1 ns2 i<=stN ns1 ns2 j:=by
 induction j with
 | zero=>rw[show i=0 by omega];show aQ _
 | succ j ih=>
  by_cases e:i=j+1
  .rw [e];show aQ _
  .exact cD (ih (oz64 h e)) (tZ _ _)
def g8 (xs:List Nv)(s w c:Nat):Nat->List Nv->List Nv
 | 0,r=>r
 | k+1,r=>(g8 xs s w c k r).set (s+k*w+c) (xs.getD k (0,1))
noncomputable def iU (p:Int)(f:Nat->Nv)(s:Nat):Nat->List Nv->List Nv
 | 0,r=>r
 | k+1,r=>(iU p f s k r).set (s+k) (je p ((iU p f s k r).getD (s+k) (0,1)) (f k))
theorem nO (xs:List Nv)(s w c:Nat)(r:List Nv):∀ k,(g8 xs s w c k r).length=r.length
 | 0=>rfl
 | k+1=>by show (List.set _ _ _).length=_;rw[dC,nO xs s w c r k]
theorem vJ (p:Int)(f:Nat->Nv)(s:Nat)(r:List Nv):∀ k,(iU p f s k r).length=r.length
 | 0=>rfl
 | k+1=>by show (List.set _ _ _).length=_;rw[dC,vJ p f s r k]
theorem EA {xs:List Nv}{s w c:Nat}{r:List Nv}{q:Nat}:∀ {k:Nat},(∀ i,i<k->q≠s+i*w+c)->(g8 xs s w c k r).getD q (0,1)=r.getD q (0,1)
 | 0,_=>rfl
 | k+1,h=>by
  change (List.set _ _ _).getD q (0,1)=_;rw[aW,yq (λz=>h k ∅ z.symm),<- aW,EA λi hi=>h i ∅]
theorem ER {p:Int}{f:Nat->Nv}{s:Nat}{r:List Nv}{q:Nat}:∀ {k:Nat},(∀ i,i<k->q≠s+i)->(iU p f s k r).getD q (0,1)=r.getD q (0,1)
 | 0,_=>rfl
 | k+1,h=>by
  change (List.set _ _ _).getD q (0,1)=_;rw[aW,yq (λz=>h k ∅ z.symm),<- aW,ER λi hi=>h i ∅]
theorem Ez {xs:List Nv}{s w c k:Nat}{n:Nat}(hw:0<w):(g8 xs s w c k (List.replicate n (0,1))).getD (s+k*w+c) (0,1)=(0,1):=by
 rw[EA λi hi z=>?_]
 .rw [aW,sG];split <;> rfl
 .have:i*w<k*w:=(Nat.mul_lt_mul_right hw).mpr hi;omega
theorem xJ {p:Int}{f:Nat->Nv}{s k:Nat}{r:List Nv}:(iU p f s k r).getD (s+k) (0,1)=r.getD (s+k) (0,1):=ER λi hi z=>∅
theorem tx {p:Int}{n:Nat}{xs:List Nv}{s w c:Nat}{r:List Nv}(h0:aH p n [(0,1)])(hx:aH p n xs)(hr:aH p n r):∀ k,aH p n (g8 xs s w c k r)
 | 0=>hr
 | k+1=>λx h=>by
  rcases fH h with h|h
  .exact tx h0 hx hr k x h
  .rw [h,aW];cases e:xs[k]? with
   | none=>show h0 _ (by simp)
   | some y=>show hx y (aY e)
theorem zF {p:Int}{n:Nat}{f:Nat->Nv}{s:Nat}{r:List Nv}(hp:af p)(h7:7<=n)(h0:aH p n [(0,1)])(hf:∀ k,bc p (f k)/\bW n (f k))(hr:aH p n r):∀ k,aH p (2*n+2) (iU p f s k r)
 | 0=>λx hx=>⟨(hr x hx).1,bW.le (hr x hx).2 ∅⟩
 | k+1=>λx h=>by
  rcases fH h with h|h
  .exact zF hp h7 h0 hf hr k x h
  .rw [h,xJ];have:bc p (r.getD (s+k) (0,1))/\bW n (r.getD (s+k) (0,1)):=by
    rw[aW];cases e:r[s+k]? with
    | none=>show h0 _ (by simp)
    | some y=>show hr y (aY e)
   show⟨Fu hp.lo this.1 (hf k).1,Hz hp this.1 (hf k).1 this.2 (hf k).2 h7⟩
def g6 (p:Int)(ns1 ns2:List Int)(q:Int×Int)(A1 A2:Mv)(i j:Nat):List Nv:=
 iU p (λk=>(A1.getD k []).getD j (0,1)) (stN ns1 ns2 q.2.toNat+i*nt ns1 q.2) (nt ns1 q.2) (g8 (A2.getD i []) (stN ns1 ns2 q.1.toNat) (nt ns1 q.1) j (nt ns2 q.1) (List.replicate (stN ns1 ns2 ns1.length) (0,1)))
theorem Ej (p:Int)(ns1 ns2:List Int)(q:Int×Int)(A1 A2:Mv)(i j:Nat):(g6 p ns1 ns2 q A1 A2 i j).length=stN ns1 ns2 ns1.length:=by
 unfold g6;rw[vJ,nO,eM]
noncomputable def fT (p:Int)(ns1 ns2:List Int)(q:Int×Int)(A1 A2:Mv)(n:Nat):Mv:=(List.range n).flatMap λi=>(List.range (nt ns1 q.1)).map λj=>g6 p ns1 ns2 q A1 A2 i j
noncomputable def dM (p:Int)(ns1 ns2:List Int)(ps:List (Int×Int))(Ms1 Ms2:List Mv)(n:Nat):Mv:=(List.range n).flatMap λt=>fT p ns1 ns2 (ps.getD t (0,0)) (Ms1.getD t []) (Ms2.getD t []) (nt ns2 (ps.getD t (0,0)).2)
theorem Aa (p:Int)(ns1 ns2:List Int)(q:Int×Int)(A1 A2:Mv)(n:Nat):fT p ns1 ns2 q A1 A2 (n+1)=fT p ns1 ns2 q A1 A2 n++(List.range (nt ns1 q.1)).map λj=>g6 p ns1 ns2 q A1 A2 n j:=by
 unfold fT;rw[i_,List.flatMap_append];simp
theorem xo (p:Int)(ns1 ns2:List Int)(ps:List (Int×Int))(Ms1 Ms2:List Mv)(n:Nat):dM p ns1 ns2 ps Ms1 Ms2 (n+1)=dM p ns1 ns2 ps Ms1 Ms2 n++fT p ns1 ns2 (ps.getD n (0,0)) (Ms1.getD n []) (Ms2.getD n []) (nt ns2 (ps.getD n (0,0)).2):=by
 unfold dM;rw[i_,List.flatMap_append];simp
theorem Gh {p:Int}{ns1 ns2:List Int}{q:Int×Int}{A1 A2:Mv}{n:Nat}{xs:List Nv}(h:xs∈fT p ns1 ns2 q A1 A2 n):∃ i j,i<n/\j<nt ns1 q.1/\xs=g6 p ns1 ns2 q A1 A2 i j:=by
 unfold fT at h;rw[yi] at h;obtain⟨i,hi,h⟩:=h;obtain⟨j,hj,rfl⟩:=bR.mp h;show aM i j ⟨dU.mp hi,dU.mp hj,rfl⟩
theorem vn {p:Int}{ns1 ns2:List Int}{ps:List (Int×Int)}{Ms1 Ms2:List Mv}{n:Nat}{xs:List Nv}(h:xs∈dM p ns1 ns2 ps Ms1 Ms2 n):∃ t i j,t<n/\i<nt ns2 (ps.getD t (0,0)).2/\j<nt ns1 (ps.getD t (0,0)).1/\xs=g6 p ns1 ns2 (ps.getD t (0,0)) (Ms1.getD t []) (Ms2.getD t []) i j:=by
 unfold dM at h;rw[yi] at h;obtain⟨t,ht,h⟩:=h;obtain⟨i,j,a,b,e⟩:=Gh h;show dc t i j ⟨dU.mp ht,a,b,e⟩
theorem vq {p:Int}{ns1 ns2:List Int}{q:Int×Int}{A1 A2:Mv}:∀ n,(fT p ns1 ns2 q A1 A2 n).length=n*nt ns1 q.1
 | 0=>by rw[Nat.zero_mul];rfl
 | n+1=>by rw[Aa,bN,vq n,aB,dq,o6]
theorem yS:∀ {ns:List Int} {i:Nat},(∀ n∈ns,0<=n)->0<=ns.getD i 0/\ns.getD i 0<=ns.sum/\0<=ns.sum
 | [],i,_=>by simp
 | n::ns,i,h=>by
  have h0:=h n (by simp);show bC (yS (ns:=ns) (i:=i-1) λx hx=>h x (by simp[hx])) λa b c=>?_;rw[List.sum_cons];cases i with
  | zero=>show 0<=n/\n<=n+ns.sum/\_;show⟨h0,∅,∅⟩
  | succ i=>
   rw[Nat.add_sub_cancel] at a b;change 0<=ns.getD i 0/\ns.getD i 0<=n+ns.sum/\_;show⟨a,∅,∅⟩
theorem yR {a b c d:Nat}(h1:a<=c)(h2:b<=d):a*b<=c*d:=gg h1 h2
theorem vj:∀ (k:Nat) {ns1 ns2:List Int} {B:Nat},(∀ n∈ns1,0<=n)->(∀ n∈ns2,0<=n/\n<=B)->k<=ns1.length->stN ns1 ns2 k<=B*(ns1.take k).sum.toNat
 | 0,ns1,ns2,B,_,_,_=>by simp[stN]
 | k+1,ns1,ns2,B,h1,h2,hk=>by
  have ih:=vj k h1 h2 ∅;have e:(ns1.take (k+1)).sum=(ns1.take k).sum+ns1.getD k 0:=by
   rw[List.take_succ,List.sum_append,aG ∅,cQ ∅];simp
  have s0:0<=(ns1.take k).sum:=(yS (i:=0) λn hn=>h1 n (wG hn)).2.2;have a:=(yS (i:=k) h1).1;have b:(ns2.getD k 0).toNat<=B:=by
   by_cases z:k<ns2.length
   .have:=(h2 _ (bD (d:=0) z)).2;omega
   .rw [aW,dH (d8 z)];show fE _
  change stN ns1 ns2 k+_<=_;rw[e,show ((ns1.take k).sum+ns1.getD k 0).toNat=(ns1.take k).sum.toNat+(ns1.getD k 0).toNat by show oz4 s0 a,Nat.mul_add];show Nat.add_le_add ih (yR b (aQ _))
section
variable {C G S:Addr}
def e_ (H:Hp)(p:Int)(l:Addr)(ps:List (Int×Int))(ns:List Int)(Ms:List Mv):Prop:=∃ ts:List Addr,H l=some (.lst (ts.map V.ref))/\ts.length=ps.length/\∀ (i:Nat) t q,ts[i]?=some t->ps[i]?=some q->∃ r rs,cN H p (nt ns q.2:Nat) (nt ns q.1:Nat) t r rs (Ms.getD i [])
theorem e_.same {H H':Hp}{p:Int}{l:Addr}{ps:List (Int×Int)}{ns:List Int}{Ms:List Mv}(h:e_ H p l ps ns Ms)(s:aa H H'):e_ H' p l ps ns Ms:=
 let ⟨ts,a,b,c⟩:=h;⟨ts,s _ _ a,b,λi t q e1 e2=>let ⟨r,rs,tv⟩:=c i t q e1 e2;⟨r,rs,tv.same s⟩⟩
structure xW (S C G:Addr)(H:Hp)(x:Addr)(p m:Int)(ps:List (Int×Int))(ns:List Int)(Ms:List Mv)(dx g d z l lp:Addr)(xs:List V):Prop where
 ins:H x=some (.ins S dx (jx g d z l))
 grd:fh G H g p
 drw:kC C H d m lp xs
 prs:dw H xs ps
 szs:ck H z ns
 tbs:e_ H p l ps ns Ms
theorem xW.same {S G:Addr}{H H':Hp}{x:Addr}{p m:Int}{ps:List (Int×Int)}{ns:List Int}{Ms:List Mv}{dx g d z l lp:Addr}{xs:List V}(h:xW S C G H x p m ps ns Ms dx g d z l lp xs)(s:aa H H'):xW S C G H' x p m ps ns Ms dx g d z l lp xs:=
 ⟨s _ _ h.ins,h.grd.same s,(let ⟨a,b,c⟩:=h.drw;⟨a,s _ _ b,s _ _ c⟩),h.prs.same s,h.szs.same s,h.tbs.same s⟩
def fP (S C G:Addr)(H:Hp)(x:Addr)(p m:Int)(ps:List (Int×Int))(ns:List Int)(Ms:List Mv):Prop:=∃ dx g d z l lp xs,xW S C G H x p m ps ns Ms dx g d z l lp xs
theorem fP.same {S G:Addr}{H H':Hp}{x:Addr}{p m:Int}{ps:List (Int×Int)}{ns:List Int}{Ms:List Mv}(h:fP S C G H x p m ps ns Ms)(s:aa H H'):fP S C G H' x p m ps ns Ms:=let ⟨dx,g,d,z,l,lp,xs,k⟩:=h;⟨dx,g,d,z,l,lp,xs,k.same s⟩
structure au (p m:Int)(ps:List (Int×Int))(ns:List Int)(Ms:List Mv):Prop where
 ip:jD m ps
 p9:ps.length<=9
 hm:(ns.length:Int)=m
 sz:∀ n∈ns,0<=n/\n<=6
 sum:ns.sum<=8
 sh:∀ (i:Nat) q,ps[i]?=some q->(Ms.getD i []).length=nt ns q.2/\∀ xs∈Ms.getD i [],xs.length=nt ns q.1/\aH p 42229 xs
 z2:∀ n∈ns,n<=2
 z4:p=0->ns.sum<=4
theorem g9 {ns:List Int}{i:Int}{B:Nat}(h:∀ n∈ns,0<=n/\n<=B):nt ns i<=B/\0<=ns.getD i.toNat 0:=by
 unfold nt;by_cases z:i.toNat<ns.length
 .have:=h _ (bD (d:=0) z);show⟨∅,this.1⟩
 .rw [aW,dH ∅];show⟨fE _,⇑0⟩
def spMin (G:Addr):L2.Sp:=λvs H Q _=>∃ (g:Addr) (p:Int) (va vb:V) (x y:Nv),vs=[.ref g,va,vb]/\fh G H g p/\af p/\aF H p va x/\aF H p vb y/\bc p x/\bc p y/\bW 42300 x/\bW 42300 y/\∀ v H',aa H H'->aF H' p v (je p x y)->Q v H'
theorem qi (F:ik K "minus" "Ground.minus" A_ f fd)(T:⇑())(Yas:⇑("fraction",5,zS)):⇑[6,["self","a","b"],spMin G]:=by
 exists JT,uR,6
 show nJ h λg p va vb x y e98 e99 hp e910=>?_;clear h;subst e98;obtain⟨dx,hg⟩:=e99;show uN e910 λna nb ix iy bx by' q=>?_
 clear e910;have p0:=hp.lo;show⟨_,((@bI _ _ _ _ _ _ _ _ (bX dI (eI (ae 0) rfl) aq (bo _)) (~~~(Yas<$>hr<$>((iG<|>(eH<|>((cP bq)<|>(ae 1)<||>aq)<&&>((cP bq)<|>(ae 2)<||>aq))<&&>(eH<|>((cP bq)<|>(ae 2)<||>aq)<&&>((cP bq)<|>(ae 1)<||>aq)))<&>((eH<|>((cP bq)<|>(ae 1)<||>aq)<&&>((cP bq)<|>(ae 2)<||>aq))<&>ah)))) bJ)<*>(~~~(fY<|>((g7 iG)<|>(ae 1)<&&>(ae 2))<&&>(eI (ae 0) rfl)))),?_⟩;left;show dc G dx _ ⟨hg,T.cl_Ground,T.nP,_,jZ p,rfl,bH (λhc=>?_) (λhc=>?_)⟩
 .have hp0:p=0:=by simpa using hc
  show ao (na.ref hp0) λta e911 hta=>?_;obtain rfl:=e911;show ao (nb.ref hp0) λtb e912 htb=>?_;obtain rfl:=e912;have px:=ix.pos;have py:=iy.pos;have pb:0<x.2*y.2:=kN px py;left;show⟨_,aE.of hta,_,rfl,_,aE.of htb,_,rfl,_,rfl,_,rfl,bx.1.ok by'.2 ⇑0,_,aE.of htb,_,rfl,_,aE.of hta,_,rfl,_,rfl,_,rfl,by'.1.ok bx.2 ⇑0,_,aE.of hta,_,rfl,_,aE.of htb,_,rfl,_,rfl,_,rfl,bx.2.ok by'.2 ⇑0,?_⟩;show aM _ _ ⟨rfl,((bx.1.mul by'.2).sub ((by'.1.mul bx.2).le ⇑0)).le ⇑0,(bx.2.mul by'.2).le ⇑0,∅,λt H' s' ht=>q _ _ s' ?_⟩;rw[je,if_pos hp0];rw[mJ pb] at ht;show aF.tup hp0 ht
 .have hp0:¬ p=0:=by simpa using hc
  obtain rfl:=na.int hp0;obtain rfl:=nb.int hp0;left;show dc G dx _ ⟨hg,T.cl_Ground,T.nP,_,jZ p,p,rfl,∅,q _ H (aa.refl _) ?_⟩;have:=aF.of (H:=H) (x:=je p x y) hp0;rw[je,if_neg hp0] at this ⊢;show this
theorem IJ {p:Int}{x:Nv}(hp:af p)(h:wJ p 0 1 x):x=(0,1):=by
 obtain⟨F,_,hF⟩:=oE hp;show hF.inj h.is (j4 hp) ?_;rw[h.fd F hF,oQ,oP,iF]
 grind
noncomputable abbrev stL (ns1 ns2:List Int)(n:Nat):List V:=(List.range n).map λi=>V.int (stN ns1 ns2 i:Nat)
theorem vi {ns1 ns2:List Int}{n i:Nat}(h:i<n):(stL ns1 ns2 n)[i]?=some (V.int (stN ns1 ns2 i:Nat)):=by rw[bj,gB h];rfl
theorem vI {ns1 ns2:List Int}{n:Nat}:atI (stL ns1 ns2 (n+1)) (-1)=some (V.int (stN ns1 ns2 n:Nat)):=by
 have e:=vi (ns1:=ns1) (ns2:=ns2) (wq n);unfold atI;rw[vG (by rw[aB,dq];omega)];simpa using e
theorem EM {ns1 ns2:List Int}{n:Nat}{v:Int}(h:v=(stN ns1 ns2 n:Nat)):stL ns1 ns2 n++[V.int v]=stL ns1 ns2 (n+1):=by rw[stL,stL,i_,dW,h];rfl
theorem Ed {ns1 ns2:List Int}{i:Nat}{a b:Int}(ha:ns1[i]?=some a)(hb:ns2[i]?=some b)(a0:0<=a)(b0:0<=b):(stN ns1 ns2 i:Int)+b*a=(stN ns1 ns2 (i+1):Nat):=by
 change _=((stN ns1 ns2 i+(ns2.getD i 0).toNat*(ns1.getD i 0).toNat:Nat):Int);rw[cw ha,cw hb,kL,nY,i9 a0,i9 b0]
theorem tN {n:Int}(h0:0<=n)(h1:n<=24):ua n:=by unfold ua;omega
def yG (S C G:Addr):L2.Sp:=λvs H Q _=>∃ (x x':Addr) (p m:Int) (ps:List (Int×Int)) (ns ns':List Int) (Ms Ms':List Mv),vs=[.ref x,.ref x']/\fP S C G H x p m ps ns Ms/\fP S C G H x' p m ps ns' Ms'/\ns'.length=ns.length/\∀ (D:Addr) H',aa H H'->H D=none->H' D=some (.lst (stL ns ns' (ns.length+1)))->Q (.ref D) H'
theorem qb (F:⇑("place_starts",Bb))(T:⇑()):⇑[1,["one","other"],yG S C G]:=by
 exists JV,sU,9
 show uW h λx x' p m ps ns ns' Ms Ms' e914 e915 e916 e917=>?_;clear h;subst e914;obtain⟨dx,g,d,z,l,lp,xs,st⟩:=e915;obtain⟨dx',g',d',z',l',lp',xs',st'⟩:=e916;obtain⟨hl,q⟩:=e917;show⟨_,((2|||nd|||(@dJ _ _ _ _ (aq<&>ah)))<*>((dt cX rfl (kD rfl T.n_zip ((iH (pv 0) rfl)<&>((iH (pv 1) rfl)<&>ah))) (@dY _ _ _ _ _ 2 rfl ((3>>>nd)^^^((4>>>nd)^^^(@cU _))) ⇑1 ⇑1) (@bE _ _ _ (gK (gk gC gU gT (mtJ gq) (ae 2) ((eL<|>(a_<|>(ae 2)<||>(gm gp aq))<&&>((opJ eH)<|>(ae 4)<&&>(ae 3)))<&>ah)))))<*>(~~~(ae 2)))),?_⟩;left;show⟨⇑0,λD0 hD0=>?_⟩;have s1:=aa.new (o:=.lst [V.int 0]) hD0;have q1:(ar H D0 (.lst [V.int 0])) D0=some (.lst (stL ns ns' 1)):=aw;generalize ar H D0 (.lst [V.int 0])=H1 at *;have n8:=st.szs.2.1;show⟨_,rfl,x,S,dx,_,_,rfl,s1 _ _ st.ins,T.cl_Standing,T.nSs,tK ..,_,rfl,x',S,dx',_,_,rfl,s1 _ _ st'.ins,T.cl_Standing,T.nSs,tK ..,z,z',rfl,⟨_,aj.of (s1 _ _ st.szs.1)⟩,⟨_,aj.of (s1 _ _ st'.szs.1)⟩,
  zm (xs:=ns.map V.int) (ys:=ns'.map V.int) (λi σ H2=>∃ v3 v4:Option V,σ=[↥x,↥x',↥D0,v3,v4]/\aa H H2/\H2 D0=some (.lst (stL ns ns' (i+1)))) (by rw[aB,aB,hl]) ⟨none,none,rfl,s1,q1⟩ (λi σ H2 _ ⟨_,_,_,e,_⟩=>⟨aj.of (e _ _ st.szs.1),aj.of (e _ _ st'.szs.1)⟩) ?_ ?_⟩
 .intro i a b pz σ H2 ha hb hpz e91;show cF e91 λv3 v4 e918 s2 h2=>?_;clear e91;obtain rfl:=e918;show ao (jW ha) λn fa e919=>?_;obtain rfl:=e919;show ao (jW hb) λn' fb e920=>?_;obtain rfl:=e920;have hi:i<ns.length:=(b_.mp fa).1;obtain⟨a0,a1⟩:=st.szs.2.2 n (aY fa);obtain⟨b0,b1⟩:=st'.szs.2.2 n' (aY fb);have s3:=aa.new (o:=.tup [V.int n,V.int n']) hpz;have h3:=s3 _ _ h2;left;show⟨_,aE.of aw,rfl,_,_,rfl,_,_,rfl,rfl,?_⟩;generalize ar H2 pz (.tup [V.int n,V.int n'])=H3 at *;show⟨.inl ⟨rfl,_,aj.of h3⟩,_,aj.of h3,_,vI,(tN b0 b1).mul (tN a0 a1),_,rfl,_,h3,cT (by rw[aB,dq];omega),_,_,⟨rfl,rfl⟩,(s2.trans s3).upd hD0,?_⟩;rw[aw,EM (Ed fa fb a0 b0)]
 .intro σ H2 e92;show cF e92 λv3 v4 e921 s2 h2=>?_;clear e92;obtain rfl:=e921;rw[aB] at h2;show q D0 H2 s2 hD0 h2
theorem IQ (p:Int):(oF p).lookup ("number" : Str)=none:=zN _ ⋯
theorem IG (p:Int):(oF p).lookup ("minus" : Str)=none:=zN _ ⋯
theorem s_ {ns ns':List Int}{tl:Int}{k j:Nat}(h:tl.toNat<ns.length)(hk:k<nt ns' tl)(hj:j<nt ns tl):stN ns ns' tl.toNat+k*nt ns tl+j<stN ns ns' ns.length:=by
 have h1:=xH ns ns' (show tl.toNat+1<=ns.length by omega);have h2:stN ns ns' (tl.toNat+1)=stN ns ns' tl.toNat+nt ns' tl*nt ns tl:=rfl;have h3:(k+1)*nt ns tl<=nt ns' tl*nt ns tl:=gg hk (aQ _);rw[o6] at h3;omega
theorem e_.at {H:Hp}{p:Int}{l:Addr}{ps:List (Int×Int)}{ns:List Int}{Ms:List Mv}(h:e_ H p l ps ns Ms){t:Nat}{q:Int×Int}(hq:ps[t]?=some q):∃ ts tt r rs,H l=some (.lst ts)/\ts[t]?=↥tt/\cN H p (nt ns q.2:Nat) (nt ns q.1:Nat) tt r rs (Ms.getD t []):=by
 show bh h λts a b c=>?_;clear h;have ht:t<ts.length:=by have:=(b_.mp hq).1;show oz8 b this
 show eV (c t _ q (aG ht) hq) λr rs tv=>?_;show jc _ _ r rs ⟨a,by rw[bj,aG ht];rfl,tv⟩
theorem cN.rowAt {H:Hp}{p hh wd:Int}{t r:Addr}{rs:List Addr}{M:Mv}(h:cN H p hh wd t r rs M){i:Nat}(hi:i<M.length):∃ a vs,(rs.map V.ref)[i]?=↥a/\H a=some (.lst vs)/\aA (aF H p) vs (M.getD i []):=by
 have e:M[i]?=some (M.getD i []):=by rw[cQ hi];show aG _
 show ao (h.row.at e) λa ea e922=>?_;obtain⟨vs,hv,al⟩:=e922;show aM a vs ⟨by rw[bj,ea];rfl,hv,al⟩
theorem kv {H:Hp}{z:Addr}{ns:List Int}{i:Int}(h:ck H z ns)(h0:0<=i)(h1:i<ns.length):atI (ns.map V.int) i=some (.int (nt ns i:Nat)):=by
 have:=rE (ns:=ns) h0 h1;rw[this];have h2:=h.2.2 (ns.getD i.toNat 0) (bD ∅);unfold nt;rw[i9 h2.1]
def spDr (S C G:Addr):L2.Sp:=λvs H Q _=>∃ (x x':Addr) (p m:Int) (ps:List (Int×Int)) (ns ns':List Int) (Ms Ms':List Mv) (t i j:Nat) (q:Int×Int),vs=[.ref x,.ref x',.int t,.int i,.int j]/\fP S C G H x p m ps ns Ms/\fP S C G H x' p m ps ns' Ms'/\af p/\au p m ps ns Ms/\au p m ps ns' Ms'/\ps[t]?=some q/\i<nt ns' q.2/\j<nt ns q.1 /\
 ∀ (D:Addr) H',aa H H'->H D=none->aV H' p D (g6 p ns ns' q (Ms.getD t []) (Ms'.getD t []) i j)->Q (.ref D) H'
theorem uy (F:⇑("difference_row",Bk))(T:⇑())(Yal:⇑("place_starts",1,yG S C G))(Ybb:sL P w K mg base G "number" 6 (zb G) [.int 1])(Ybk:kh P w K mg base G "minus" 6 (spMin G)):⇑[7,["one","other","at","row_place","column_place"],spDr S C G]:=by
 exists J2,y9,13
 show y_ h λx x' p m ps ns ns' Ms Ms' t i j e924 e925 i1 i2 e926=>?_;clear h;obtain⟨tl,hd⟩:=e924;obtain rfl:=e925;show uN e926 λhp V1 V2 hq hi hj q=>?_;clear e926;show oG (id i1) λdx g d z l lp xs st=>?_;show oG (id i2) λdx' g' d' z' l' lp' xs' st'=>?_;have hi:i<nt ns' hd:=hi;have hj:j<nt ns tl:=hj;show⟨_,((5|||nd|||(eI (ae 0) rfl))<*>((6|||nd|||(Yal<$>hr<$>((ae 0)<&>((ae 1)<&>ah))))<*>((d9 (a_<|>(iH (eI (ae 0) rfl) rfl)<||>(ae 2)) (@dY _ _ _ _ _ 2 rfl ((7>>>nd)^^^((8>>>nd)^^^(@cU _))) ⇑1 ⇑1))<*>((9|||nd|||(yV<|>(@dJ _ _ _ _ ((lI T.cl_Ground Ybb hr.m (ae 5) (aq<&>ah))<&>ah))<&&>(a_<|>(ae 6)<||>(gm gp aq))))<*>((dt cX rfl (vg rfl T.n_enumerate ((a_<|>(bq<|>(a_<|>(iH (pv 1) rfl)<||>(pv 2))<||>aq)<||>(pv 3))<&>ah)) (@dY _ _ _ _ _ 2 rfl ((10>>>nd)^^^((11>>>nd)^^^(@cU _))) ⇑1 ⇑1) (@bE _ _ _ (d9 (ae 11) (iZ (ae 9) (eL<|>(eL<|>((ixJ a_)<|>(ae 6)<||>(ae 7))<&&>(jV<|>(ae 10)<&&>(a_<|>(eI (ae 0) rfl)<||>(ae 7))))<&&>(ae 4)) i5))))<*>((dt cX rfl (vg rfl T.n_enumerate ((bq<|>(a_<|>(iH (pv 0) rfl)<||>(pv 2))<||>aq)<&>ah)) (@dY _ _ _ _ _ 2 rfl ((10>>>nd)^^^((12>>>nd)^^^(@cU _))) ⇑1 ⇑1) ((13|||nd|||(eL<|>(eL<|>((ixJ a_)<|>(ae 6)<||>(ae 8))<&&>(jV<|>(ae 3)<&&>(a_<|>(eI (ae 0) rfl)<||>(ae 8))))<&&>(ae 10)))<*>(@bE _ _ _ (d9 (CK T.cl_Ground Ybk hr.m (ae 5) (((ixJ a_)<|>(ae 9)<||>(ae 13))<&>(((ixJ a_)<|>(ae 12)<||>(ae 4))<&>ah))) (iZ (ae 9) (ae 13) i5)))))<*>(~~~(ae 9)))))))),?_⟩;show cut2 λX hX=>?_;left;have hll:ns'.length=ns.length:=by have:=V1.hm;have:=V2.hm;omega
 show dc S dx _ ⟨st.ins,T.cl_Standing,T.nSg,_,vL ..,x,x',p,m,ps,ns,ns',Ms,Ms',rfl,i1,i2,hll,λD H1 s1 hD eD=>?_⟩;have st1:=st.same s1;have st1':=st'.same s1;clear st st' i1 i2;show ao st1.drw λdd hd1 hd2=>?_;obtain⟨xq,exq,hxq⟩:∃ xq,xs[t]?=↥xq/\H1 xq=some (.tup [.int tl,.int hd]):=by
  have ht:t<xs.length:=by have:=(b_.mp hq).1;have:=st1.prs.1;omega
  show ao (st1.prs.2 t _ _ (aG ht) hq) λxq e h=>?_;show⟨xq,by rw[aG ht,e],h⟩
 show cA (V1.ip _ (aY hq)) λi0 i1 j0 j1=>?_;subst hX;show bG λX hX=>?_;left;show dc S dx _ ⟨st1.ins,T.cl_Standing,T.nSd,_,tO ..,d,rfl,C,dd,_,hd1,T.cl_Drawing,T.nA,_,tQ m lp,lp,rfl,_,aj.of hd2,_,fV exq,_,rfl,_,aE.of hxq,rfl,_,_,rfl,_,_,rfl,rfl,?_⟩;subst hX;show bG λX hX=>?_;left;obtain⟨dg,hg0⟩:=st1.grd;have tot:stN ns ns' ns.length<=48:=by
  have h1:=vj ns.length (B:=6) (λn h=>(V1.sz n h).1) V2.sz (aQ _);rw[wm] at h1;have:=V1.sum;omega
 show aM dg _ ⟨hg0,IQ p,g,p,0,1,rfl,⟨dg,hg0⟩,hp,dF ⇑0 ⇑0,dF ⇑0 ⇑0,λ_=>⇑0,lU hp,λnv nx H2 s2 hnv iq=>⟨⇑0,λo1 ho1=>?_⟩⟩;rw[IJ hp iq] at hnv;have s3:=s2.trans (aa.new (o:=.lst [nv]) ho1);have e3:ar H2 o1 (.lst [nv]) o1=some (.lst [nv]):=aw;have hnv3:=hnv.same (aa.new (o:=.lst [nv]) ho1);generalize ar H2 o1 (.lst [nv])=H3 at *;show⟨_,aj.of (s3 _ _ eD),_,vI,o1,_,_,rfl,rfl,e3,∅,∅,by show 1*_<=_;rw[fG];show cD (show 1*_<=48 by omega) ⇑0,λFd hFd=>?_⟩;rw[rep1,fG];have s4:=s3.trans (aa.new (o:=.lst (List.replicate (stN ns ns' ns.length) nv)) hFd);have rF:aV (ar H3 Fd (.lst (List.replicate (stN ns ns' ns.length) nv))) p Fd (List.replicate (stN ns ns' ns.length) (0,1)):=⟨_,aw,aA.rep (hnv3.same (aa.new hFd)) _⟩
 generalize ar H3 Fd (.lst (List.replicate (stN ns ns' ns.length) nv))=H4 at *;have fF:H1 Fd=none:=s3.free hFd;have n8:=st1.szs.2.1;have hl1:=V1.hm;have ht0:tl.toNat<ns.length:=∅
 have hd0:hd.toNat<ns.length:=∅
 have et:atI (stL ns ns' (ns.length+1)) tl=some (V.int (stN ns ns' tl.toNat:Nat)):=eK i0 (vi (oz48 ht0));have eh:atI (stL ns ns' (ns.length+1)) hd=some (V.int (stN ns ns' hd.toNat:Nat)):=eK j0 (vi (oz48 hd0));show jR (st1.tbs.at hq) λts1 tt1 r1 rs1 hl1' et1 tv1=>?_;show jR (st1'.tbs.at hq) λts2 tt2 r2 rs2 hl2' et2 tv2=>?_;obtain⟨sh1,sr1⟩:=V1.sh t _ hq;obtain⟨sh2,sr2⟩:=V2.sh t _ hq;obtain⟨a2,vs2,ea2,ha2,al2⟩:=tv2.rowAt (i:=i) (by rw[sh2];show hi);have hr2:=sr2 _ (bD (d:=[]) (show i<(Ms'.getD t []).length by rw[sh2];show hi));have lv2:vs2.length=nt ns' tl:=al2.1.trans hr2.1;have b6:=(g9 (i:=tl) (B:=6) V1.sz).1;have b6':=(g9 (i:=tl) (B:=6) V2.sz).1;have b6h:=(g9 (i:=hd) (B:=6) V1.sz).1;have b6h':=(g9 (i:=hd) (B:=6) V2.sz).1;clear s2 s3 hnv hnv3 iq e3 ho1 hFd;subst hX;show bG λX hX=>?_;left;show⟨_,rfl,x',S,dx',_,_,rfl,s4 _ _ st1'.ins,T.cl_Standing,T.nSt,Fj ..,_,rfl,l',_,_,_,rfl,rfl,aj.of (s4 _ _ hl2'),fV et2,tt2,_,_,_,rfl,rfl,aE.of (s4 _ _ tv2.tup),rfl,_,rfl,r2,_,_,_,rfl,rfl,aj.of (s4 _ _ tv2.lst),fV ea2,a2,rfl,⟨_,aj.of (s4 _ _ ha2)⟩,
  xt (xs:=vs2) (λk σ H5=>∃ (v10 v11:Option V),σ=[↥x,↥x',⇑t,⇑i,⇑j,↥g,↥D,⇑tl,⇑hd,↥Fd,v10,v11,none,none]/\aa H1 H5/\aV H5 p Fd (g8 ((Ms'.getD t []).getD i []) (stN ns ns' tl.toNat) (nt ns tl) j k (List.replicate (stN ns ns' ns.length) (0,1))))
  ⟨none,none,rfl,s4,rF⟩ (λk σ H5 _ ⟨_,_,_,s5,_⟩=>aj.of (s5 _ _ ha2)) ?_ ?_⟩
 .intro k u pz σ H5 hu hpz e93;show cF e93 λv10 v11 e927 s5 r5=>?_;clear e93;obtain rfl:=e927;have hk:k<nt ns' tl:=by have:=(b_.mp hu).1;show bM lv2 this
  show ao (al2.at' hu) λy ey ny=>?_;have s6:=s5.trans (aa.new (o:=.tup [V.int k,u]) hpz);have r6:=r5.same (aa.new (o:=.tup [V.int k,u]) hpz);have e6:ar H5 pz (.tup [V.int k,u]) pz=some (.tup [V.int k,u]):=aw;generalize ar H5 pz (.tup [V.int k,u])=H6 at *;left;show⟨_,aE.of e6,rfl,_,_,rfl,_,_,rfl,rfl,?_⟩;show ao r6 λws hws alw=>?_;clear r6;have wl:ws.length=stN ns ns' ns.length:=by rw[alw.1,nO,eM]
  have pl:=s_ (j:=j) ht0 hk hj;show⟨_,aj.of (s6 _ _ eD),_,et,S,dx,_,s6 _ _ st1.ins,T.cl_Standing,T.nSs,_,tK ..,z,rfl,_,aj.of (s6 _ _ st1.szs.1),_,kv st1.szs i0 ∅,_,rfl,_,rfl,.inl ⟨∅,oz46 b6' hk⟩,_,rfl,ws,hws,stN ns ns' tl.toNat+k*nt ns tl+j,?_,_,_,⟨rfl,rfl⟩,s6.upd fF,⟨_,aw,?_⟩⟩
  .rw [show ((stN ns ns' tl.toNat:Nat):Int)+(k:Int)*((nt ns tl:Nat):Int)+(j:Int)=((stN ns ns' tl.toNat+k*nt ns tl+j:Nat):Int) by rw[kL,kL,nY]];show rm (wl ▸ pl)
  .have:=(alw.mono λ_ _ q=>q.put (o:=.lst (ws.set (stN ns ns' tl.toNat+k*nt ns tl+j) u)) hws).set (stN ns ns' tl.toNat+k*nt ns tl+j) ((ny.same s6).put hws);change aA _ _ (List.set _ _ _);rw[cw ey];show this
 .intro σ H5 e94;show cF e94 λv10 v11 e928 s5 r5=>?_;clear e94;obtain rfl:=e928;rw[lv2] at r5;have key:X { nx:=λx H'=>Q V.non H',rt:=Q } [↥x,↥x',⇑t,⇑i,⇑j,↥g,↥D,⇑tl,⇑hd,↥Fd,v10,v11,none,none] H5:=by
   subst hX;show bG λX hX=>?_;left;have rl1:rs1.length=nt ns hd:=tv1.row.1.trans sh1;show⟨_,rfl,x,S,dx,_,_,rfl,s5 _ _ st1.ins,T.cl_Standing,T.nSt,Fj ..,_,rfl,l,_,_,_,rfl,rfl,aj.of (s5 _ _ hl1'),fV et1,tt1,_,_,_,rfl,rfl,aE.of (s5 _ _ tv1.tup),rfl,r1,rfl,⟨_,aj.of (s5 _ _ tv1.lst)⟩,
    xt (xs:=rs1.map V.ref) (λk σ H6=>∃ (v10 v11 v12 v13:Option V),σ=[↥x,↥x',⇑t,⇑i,⇑j,↥g,↥D,⇑tl,⇑hd,↥Fd,v10,v11,v12,v13]/\aa H1 H6/\aV H6 p Fd (iU p (λk=>((Ms.getD t []).getD k []).getD j (0,1)) (stN ns ns' hd.toNat+i*nt ns hd) k (g8 ((Ms'.getD t []).getD i []) (stN ns ns' tl.toNat) (nt ns tl) j (nt ns' tl) (List.replicate (stN ns ns' ns.length) (0,1)))))
    ⟨v10,v11,none,none,rfl,s5,r5⟩ (λk σ H6 _ ⟨_,_,_,_,_,s6,_⟩=>aj.of (s6 _ _ tv1.lst)) ?_ ?_⟩
   .intro k u pz σ H6 hu hpz e95;show jR e95 λv10 v11 v12 v13 e929 s6 r6=>?_;clear e95;obtain rfl:=e929;have hk:k<nt ns hd:=by have:=(b_.mp hu).1;rw[aB,rl1] at this;show this
    obtain⟨a1,vs1,ea1,ha1,al1⟩:=tv1.rowAt (i:=k) (by rw[sh1];show hk);rw[hu] at ea1;cases ea1;have hr1:=sr1 _ (bD (d:=[]) (show k<(Ms.getD t []).length by rw[sh1];show hk));have lv1:vs1.length=nt ns tl:=al1.1.trans hr1.1;obtain⟨vb,evb⟩:∃ vb,vs1[j]?=some vb:=⟨_,aG (dD hj lv1)⟩
    show ao (al1.at' evb) λy ey ny=>?_;have s7:=s6.trans (aa.new (o:=.tup [V.int k,V.ref a1]) hpz);have r7:=r6.same (aa.new (o:=.tup [V.int k,V.ref a1]) hpz);have e7:ar H6 pz (.tup [V.int k,V.ref a1]) pz=some (.tup [V.int k,V.ref a1]):=aw;generalize ar H6 pz (.tup [V.int k,V.ref a1])=H7 at *;simp only[iV,g_,jw,bU,List.set_cons_zero,List.set_cons_succ];show aM pz _ ⟨rfl,aE.of e7,rfl,_,_,rfl,_,_,rfl,rfl,?_⟩;show ao r7 λws hws alw=>?_;clear r7;have wl:ws.length=stN ns ns' ns.length:=by rw[alw.1,vJ,nO,eM]
    have pl:=s_ (j:=k) hd0 hi hk;show bG λY hY=>?_;left;show⟨_,aj.of (s7 _ _ eD),_,eh,S,dx,_,s7 _ _ st1.ins,T.cl_Standing,T.nSs,_,tK ..,z,rfl,_,aj.of (s7 _ _ st1.szs.1),_,kv st1.szs j0 ∅,_,rfl,.inl ⟨∅,∅⟩,_,rfl,?_⟩;rw[show ((stN ns ns' hd.toNat:Nat):Int)+(i:Int)*((nt ns hd:Nat):Int)+(k:Int)=((stN ns ns' hd.toNat+i*nt ns hd+k:Nat):Int) by rw[kL,kL,nY]];subst hY;left;have hr1g:=hr1.2 y (aY ey);have hpos:stN ns ns' hd.toNat+i*nt ns hd+k<ws.length:=wl ▸ pl;obtain⟨va,eva⟩:∃ va,ws[stN ns ns' hd.toNat+i*nt ns hd+k]?=some va:=⟨_,aG hpos⟩
    show ao (alw.at' eva) λu eu nu=>?_;have gu:bc p u/\bW 42229 u:=by
     have h0:aH p 42229 [(0,1)]:=λx hx=>by rw[cS.mp hx];show⟨j4 hp,dF ⇑0 ⇑0,dF ⇑0 ⇑0⟩
     have hg:=tx (s:=stN ns ns' tl.toNat) (w:=nt ns tl) (c:=j) h0 hr2.2 (r:=List.replicate (stN ns ns' ns.length) (0,1)) (λx hx=>by rw[(iQ.mp hx).2];show h0 _ (by simp)) (nt ns' tl);have e1:=xJ (p:=p) (f:=λk=>((Ms.getD t []).getD k []).getD j (0,1)) (s:=stN ns ns' hd.toNat+i*nt ns hd) (k:=k) (r:=g8 ((Ms'.getD t []).getD i []) (stN ns ns' tl.toNat) (nt ns tl) j (nt ns' tl) (List.replicate (stN ns ns' ns.length) (0,1)));rw[cw eu] at e1;rw[e1];show hg _ (bD (by rw[nO,eM];show pl))
    show aM dg _ ⟨s7 _ _ hg0,IG p,_,aj.of hws,va,fV eva,_,aj.of (s7 _ _ ha1),vb,fV evb,g,p,va,vb,u,y,rfl,⟨dg,s7 _ _ hg0⟩,hp,nu,ny.same s7,gu.1,hr1g.1,bW.le gu.2 ⇑0,bW.le hr1g.2 ⇑0,λv8 H8 s8 n8=>?_⟩;have hws8:=s8 _ _ hws;show⟨ws,hws8,stN ns ns' hd.toNat+i*nt ns hd+k,rm hpos,_,_,_,_,⟨rfl,rfl,rfl,rfl⟩,(s7.trans s8).upd fF,⟨_,aw,?_⟩⟩;have:=(alw.mono λ_ _ q=>(q.same s8).put (o:=.lst (ws.set (stN ns ns' hd.toNat+i*nt ns hd+k) v8)) hws8).set (stN ns ns' hd.toNat+i*nt ns hd+k) (n8.put hws8);change aA _ _ (List.set _ _ _);rw[cw eu];change aA _ _ (List.set _ _ (je p u (((Ms.getD t []).getD k []).getD j (0,1))));rw[cw ey];show this
   .intro σ H6 e96;show jR e96 λv10 v11 v12 v13 e930 s6 r6=>?_;clear e96;obtain rfl:=e930;subst hX;left;rw[aB,rl1] at r6;show q Fd H6 (s1.trans s6) (s1.free fF) r6
  show key
end
section
variable {C PL:Addr}
def cJ (H H':Hp)(p:Int)(R:Addr)(rs:List Addr)(M:Mv):Prop:=H' R=some (.lst (rs.map V.ref))/\aA (aV H' p) rs M/\R∉rs/\∀ a∈rs,H a=none
theorem cJ.same {H H' H2:Hp}{p:Int}{R:Addr}{rs:List Addr}{M:Mv}(h:cJ H H' p R rs M)(s:aa H' H2):cJ H H2 p R rs M:=⟨s _ _ h.1,h.2.1.mono λ_ _ q=>q.same s,h.2.2⟩
theorem cJ.add {H H':Hp}{p:Int}{R a:Addr}{rs:List Addr}{M:Mv}{xs:List Nv}(h:cJ H H' p R rs M)(ha:aV H' p a xs)(na:a≠R)(fa:H a=none):cJ H (ar H' R (.lst (rs.map V.ref++[.ref a]))) p R (rs++[a]) (M++[xs]):=by
 show⟨by rw[aw,i6],(h.2.1.app (aA.one ha)).monoM λb ys hb q=>q.put h.1 (λz=>?_),λz=>?_,λb hb=>?_⟩
 .rcases cj.mp hb with h1|h1
  .exact h.2.2.1 (z ▸ h1)
  .exact na (by rw[<- cS.mp h1];show z)
 .rcases cj.mp z with h1|h1
  .exact h.2.2.1 h1
  .exact na (cS.mp h1).symm
 .rcases cj.mp hb with h1|h1
  .exact h.2.2.2 b h1
  .rw [cS.mp h1];show fa
theorem jM {ns ns':List Int}{i j:Int}(h:∀ n∈ns,0<=n/\n<=6)(h':∀ n∈ns',0<=n/\n<=6):nt ns' j*nt ns i<=36:=yR (c:=6) (d:=6) (g9 h').1 (g9 h).1
theorem uI {p:Int}{ns1 ns2:List Int}{ps:List (Int×Int)}{Ms1 Ms2:List Mv}(h1:∀ n∈ns1,0<=n/\n<=6)(h2:∀ n∈ns2,0<=n/\n<=6):∀ n,(dM p ns1 ns2 ps Ms1 Ms2 n).length<=36*n
 | 0=>aQ _
 | n+1=>by
  rw[xo,bN,vq];have:=uI (p:=p) (ps:=ps) (Ms1:=Ms1) (Ms2:=Ms2) h1 h2 n;have:=jM (i:=(ps.getD n (0,0)).1) (j:=(ps.getD n (0,0)).2) h1 h2;omega
theorem uF {p m:Int}{ns1 ns2:List Int}{ps:List (Int×Int)}{Ms1 Ms2:List Mv}(hp:af p)(V1:au p m ps ns1 Ms1)(V2:au p m ps ns2 Ms2):∀ xs∈dM p ns1 ns2 ps Ms1 Ms2 ps.length,aH p 84460 xs:=λxs hx=>by
 show cK (vn hx) λt i j ht hi hj e97=>?_;obtain rfl:=e97;have hq:ps[t]?=some (ps.getD t (0,0)):=by rw[cQ ht];show aG _
 have h0:aH p 42229 [(0,1)]:=λx hx=>by rw[cS.mp hx];show⟨j4 hp,dF ⇑0 ⇑0,dF ⇑0 ⇑0⟩
 obtain⟨sh1,sr1⟩:=V1.sh t _ hq;obtain⟨sh2,sr2⟩:=V2.sh t _ hq;unfold g6;show zF (n:=42229) hp ⇑0 h0 (λk=>?_) (tx h0 (sr2 _ (bD (dD hi sh2))).2 (λx hx=>by rw[(iQ.mp hx).2];show h0 _ (by simp)) _) _;by_cases hk:k<(Ms1.getD t []).length
 .have:=sr1 _ (bD (d:=[]) hk);show this.2 _ (bD ∅)
 .rw [show (Ms1.getD t []).getD k []=[] by rw[aW,dH (d8 hk)];rfl];show h0 _ (by simp)
theorem Dg {p m:Int}{ns1 ns2:List Int}{ps:List (Int×Int)}{Ms1 Ms2:List Mv}(V1:au p m ps ns1 Ms1)(V2:au p m ps ns2 Ms2):stN ns1 ns2 ns1.length<=48:=by
 have h1:=vj ns1.length (B:=6) (λn h=>(V1.sz n h).1) V2.sz (aQ _);rw[wm] at h1;have:=V1.sum;omega
theorem kX {p m:Int}{ns1 ns2:List Int}{ps:List (Int×Int)}{Ms1 Ms2:List Mv}(V1:au p m ps ns1 Ms1)(V2:au p m ps ns2 Ms2)(h:p=0):stN ns1 ns2 ns1.length<=8:=by
 have h1:=vj ns1.length (B:=2) (λn h=>(V1.sz n h).1) (λn h=>⟨(V2.sz n h).1,V2.z2 n h⟩) (aQ _);rw[wm] at h1;have:=V1.z4 h;omega
theorem pP {p:Int}{W:Nat}{M:Mv}(hp:af p)(hw:∀ xs∈M,xs.length=W)(hW:W<=48)(hW8:p=0->W<=8):zf p 84460 W M:=by
 have p0:=hp.lo;have p97:=hp.hi;intro Z IR j done left pl hj sw row hr;by_cases h0:p=0
 .have hW9:=hW8 h0;subst h0;have hZ:∀ row∈Z,row.length=W/\nB row:=λrow hr=>by
   obtain⟨i,hi,e⟩:=dZ.mp hr;show ao (IR.at' (i:=i) (x:=row) (by rw[aG hi,e])) λxs ex e98=>?_;obtain⟨ws,b,w1,sm,rfl⟩:=e98;show⟨(zJ (tT 0) (w1.len.trans (hw xs (aY ex)))).1,Fh _⟩
  show (ud (W:=W) (wide:=W) (b:=(W+1)*84460) (L:=6) (R:=W+1) hZ (Ja hp ⇑0 IR hw) (.inr (aQ _)) (by show W+1<=64;omega) hj sw row hr).le ?_;have:(W+1)*((W+1)*84460+6+1)<=9*(9*84460+6+1):=gg ∅ ∅;show cD this ⇑0
 .exact (G1 h0 p97 ((sw.inv p0 (Au p0 IR hw)).rw row hr)).le ⇑0
def spDif (S C G:Addr):L2.Sp:=λvs H Q _=>∃ (x x':Addr) (p m:Int) (ps:List (Int×Int)) (ns ns':List Int) (Ms Ms':List Mv),vs=[.ref x,.ref x']/\fP S C G H x p m ps ns Ms/\fP S C G H x' p m ps ns' Ms'/\af p/\au p m ps ns Ms/\au p m ps ns' Ms' /\
 ∀ (t R:Addr) (rs:List Addr) (n:Int) H',aa H H'->H' t=some (.tup [.int n,.int (stN ns ns' ns.length:Nat),.ref R])->cJ H H' p R rs (dM p ns ns' ps Ms Ms' ps.length)->Q (.ref t) H'
theorem qt (F:⇑("differences",Be))(T:⇑())(Yak:⇑("stands_on",1,spOn S C G))(Yal:⇑("place_starts",1,yG S C G))(Ybv:⇑("difference_row",7,spDr S C G)):⇑[8,["one","other"],spDif S C G]:=by
 exists JL,sU,9
 show uW h λx x' p m ps ns ns' Ms Ms' e910 i1 i2 e911=>?_;clear h;subst e910;show cA e911 λhp V1 V2 q=>?_;clear e911;show oG (id i1) λdx g d z l lp xs st=>?_;show oG (id i2) λdx' g' d' z' l' lp' xs' st'=>?_;show⟨_,((@bI _ _ _ _ _ _ _ _ (d_ (eY (Yak<$>hr<$>((ae 0)<&>((eI (ae 1) rfl)<&>((eI (ae 1) rfl)<&>ah)))))) (@bE _ _ _ kI) bJ)<*>((2|||nd|||(@dJ _ _ _ _ ah))<*>((dt cX rfl (vg rfl T.n_enumerate ((iH (iH (pv 0) rfl) rfl)<&>ah)) (@dY _ _ _ _ _ 2 rfl ((3>>>nd)^^^((@dY _ _ _ _ _ 2 rfl ((4>>>nd)^^^((5>>>nd)^^^(@cU _))) ⇑1 ⇑1)^^^(@cU _))) ⇑1 ⇑1) (@bE _ _ _ (dt cX rfl (fv rfl T.n_range ((a_<|>(iH (pv 1) rfl)<||>(pv 5))<&>ah)) (6>>>nd) (@bE _ _ _ (dt cX rfl (fv rfl T.n_range ((a_<|>(iH (pv 0) rfl)<||>(pv 4))<&>ah)) (7>>>nd) (@bE _ _ _ (gK (gk gC gU gT (mtJ gq) (ae 2) ((Ybv<$>hr<$>((ae 0)<&>((ae 1)<&>((ae 3)<&>((ae 6)<&>((ae 7)<&>ah))))))<&>ah)))))))))<*>(~~~(@bQ _ _ _ _ _ ((cg h_ rfl T.n_len ig ((ae 2)<&>ah))<&>((a_<|>(Yal<$>hr<$>((ae 0)<&>((ae 1)<&>ah)))<||>(gm gp aq))<&>((ae 2)<&>ah)))))))),?_⟩;show cut2 λX hX=>?_;left;show dc S dx' _ ⟨st'.ins,T.cl_Standing,T.nSg,_,vL ..,S,dx',_,st'.ins,T.cl_Standing,T.nSd,_,tO ..,x,dx,g,d,z,l,g',d',lp,lp',p,p,m,m,xs,xs',ps,ps,rfl,st.ins,st.grd,st'.grd,st.drw,st'.drw,st.prs,st'.prs,?_⟩;show⟨true,by rw[cf ⟨rfl,rfl,rfl⟩],eE ⇑0 ⟨⇑0,λR hR=>?_⟩⟩;have s1:=aa.new (o:=.lst []) hR;have q1:(ar H R (.lst [])) R=some (.lst []):=aw;generalize ar H R (.lst [])=H1 at *;subst hX;show bG λX hX=>?_;left;show ao st.drw λdd hd1 hd2=>?_;have hxl:=st.prs.1;show⟨_,rfl,x,S,dx,_,_,rfl,s1 _ _ st.ins,T.cl_Standing,T.nSd,tO ..,d,C,dd,_,_,rfl,s1 _ _ hd1,T.cl_Drawing,T.nA,tQ m lp,lp,rfl,⟨_,aj.of (s1 _ _ hd2)⟩,xt (xs:=xs) (λt σ H2=>∃ (v3 v4 v5 v6 v7:Option V) (rs:List Addr),σ=[↥x,↥x',↥R,v3,v4,v5,v6,v7]/\aa H H2/\cJ H H2 p R rs (dM p ns ns' ps Ms Ms' t))
  ⟨none,none,none,none,none,[],rfl,s1,q1,aA.nil,by simp,by simp⟩ (λi σ H2 _ ⟨_,_,_,_,_,_,_,e,_⟩=>aj.of (e _ _ hd2)) ?_ ?_⟩
 .intro t u pz σ H2 hu hpz e91;show uS e91 λv3 v4 v5 v6 v7 rs e912 s2 mr=>?_;clear e91;obtain rfl:=e912;show fQ λD2 hD2=>?_;have ht:t<ps.length:=by have:=(b_.mp hu).1;show bM hxl this
  have hq:ps[t]?=some (ps.getD t (0,0)):=by rw[cQ ht];show aG _
  have ds:=xo p ns ns' ps Ms Ms' t;have dl:=uI (p:=p) (ps:=ps) (Ms1:=Ms) (Ms2:=Ms') V1.sz V2.sz t;generalize ps.getD t (0,0)=pq at *;obtain⟨tl,hd⟩:=pq;show ao (st.prs.2 t u _ hu hq) λta e913 hta=>?_;obtain rfl:=e913;have s3:=s2.trans (aa.new (o:=.tup [V.int t,V.ref ta]) hpz);have mr3:=mr.same (aa.new (o:=.tup [V.int t,V.ref ta]) hpz);have e3:ar H2 pz (.tup [V.int t,V.ref ta]) pz=some (.tup [V.int t,V.ref ta]):=aw;generalize ar H2 pz (.tup [V.int t,V.ref ta])=H3 at *;show cA (V1.ip _ (aY hq)) λi0 i1' j0 j1=>?_;have hl1:=V1.hm;have hl2:=V2.hm;simp only[iV,g_,jw,bU,List.set_cons_zero,List.set_cons_succ];show aM pz _ ⟨rfl,aE.of e3,rfl,_,_,rfl,_,_,rfl,⟨ta,_,rfl,aE.of (s3 _ _ hta),rfl,_,_,rfl,_,_,rfl,rfl,?_⟩⟩;show⟨rfl,_,rfl,x',S,dx',_,_,rfl,s3 _ _ st'.ins,T.cl_Standing,T.nSs,tK ..,_,rfl,z',_,_,_,rfl,rfl,aj.of (s3 _ _ st'.szs.1),kv st'.szs j0 ∅,(nt ns' hd:Nat),rfl,ju _,jt (cD (g9 (i:=hd) (B:=6) V2.sz).1 ⇑0),?_⟩;rw[fG];have b6:=(g9 (i:=tl) (B:=6) V1.sz).1;have b36:=jM (i:=tl) (j:=hd) V1.sz V2.sz;show hO (n:=nt ns' hd) (λi σ H4=>∃ (v6 v7:Option V) (rs:List Addr),σ=[↥x,↥x',↥R,⇑t,⇑tl,⇑hd,v6,v7]/\aa H H4/\cJ H H4 p R rs (dM p ns ns' ps Ms Ms' t++fT p ns ns' (tl,hd) (Ms.getD t []) (Ms'.getD t []) i)) ⟨v6,v7,rs,rfl,s3,by rw[show fT p ns ns' (tl,hd) (Ms.getD t []) (Ms'.getD t []) 0=[] from rfl,r9];show mr3⟩ ?_ ?_
  .intro i σ H4 hi e92;show iD e92 λv6 v7 rs4 e914 s4 mr4=>?_;clear e92;obtain rfl:=e914;show fQ λD4 hD4=>?_;simp only[bU,List.set_cons_zero,List.set_cons_succ];have bs:=Aa p ns ns' (tl,hd) (Ms.getD t []) (Ms'.getD t []) i;have bl:=vq (p:=p) (ns1:=ns) (ns2:=ns') (q:=(tl,hd)) (A1:=Ms.getD t []) (A2:=Ms'.getD t []) i;have i36:(i+1)*nt ns tl<=36:=cD (gg hi (aQ _)) b36;rw[o6] at i36;have bl:(fT p ns ns' (tl,hd) (Ms.getD t []) (Ms'.getD t []) i).length+nt ns tl<=36:=by rw[bl];show i36
   rw[j8];show⟨_,rfl,x,S,dx,_,_,rfl,s4 _ _ st.ins,T.cl_Standing,T.nSs,tK ..,_,rfl,z,_,_,_,rfl,rfl,aj.of (s4 _ _ st.szs.1),kv st.szs i0 ∅,(nt ns tl:Nat),rfl,ju _,jt (cD b6 ⇑0),?_⟩;rw[fG];show hO (n:=nt ns tl) (λj σ H5=>∃ (v7:Option V) (rs:List Addr),σ=[↥x,↥x',↥R,⇑t,⇑tl,⇑hd,⇑i,v7]/\aa H H5/\cJ H H5 p R rs (dM p ns ns' ps Ms Ms' t++fT p ns ns' (tl,hd) (Ms.getD t []) (Ms'.getD t []) i++(List.range j).map λj=>g6 p ns ns' (tl,hd) (Ms.getD t []) (Ms'.getD t []) i j)) ⟨v7,rs4,rfl,s4,by rw[List.range_zero,List.map_nil,r9];show mr4⟩ ?_ ?_
   .intro j σ H5 hj e93;show cF e93 λv7 rs5 e915 s5 mr5=>?_;clear e93;obtain rfl:=e915;have l5:rs5.length<=900:=by
     rw[mr5.2.1.1,bN,bN,aB,dq];have:=V1.p9;show oz41 ht dl bl hj this
    left;rw[j8];show⟨.inl ⟨rfl,_,aj.of mr5.1⟩,x,x',p,m,ps,ns,ns',Ms,Ms',t,i,j,(tl,hd),rfl,i1.same s5,i2.same s5,hp,V1,V2,hq,hi,hj,λD H6 s6 hD rv=>?_⟩;have mr6:=mr5.same s6;show⟨_,mr6.1,cT (by rw[aB];omega),(s5.trans s6).upd hR,rs5++[D],?_⟩;have:=mr6.add rv (bV mr5.1 hD).symm (s5.free hD);rw[i_,dW,<- wu];show this
   .intro σ H5 e94;show cF e94 λv7 rs5 e916 s5 mr5=>?_;clear e94;obtain rfl:=e916;subst hD4;rw[wu,<- bs] at mr5;show dc _ v7 rs5 ⟨rfl,s5,mr5⟩
  .intro σ H4 e95;show iD e95 λv6 v7 rs4 e917 s4 mr4=>?_;clear e95;obtain rfl:=e917;subst hD2;rw[show dM p ns ns' ps Ms Ms' t++fT p ns ns' (tl,hd) (Ms.getD t []) (Ms'.getD t []) (nt ns' hd)=dM p ns ns' ps Ms Ms' (t+1) from ds.symm] at mr4;show oH _ _ _ v6 v7 rs4 ⟨rfl,s4,mr4⟩
 .intro σ H2 e96;show uS e96 λv3 v4 v5 v6 v7 rs e918 s2 mr=>?_;clear e96;obtain rfl:=e918;subst hX;left;rw[hxl] at mr;show⟨_,.inl (aj.of mr.1),x,x',p,m,ps,ns,ns',Ms,Ms',rfl,i1.same s2,i2.same s2,by have:=V1.hm;have:=V2.hm;omega,λD H3 s3 _ eD=>⟨D,rfl,_,aj.of eD,_,vI,⇑0,λtt htt=>?_⟩⟩;have s4:=aa.new (o:=.tup [V.int ((rs.map V.ref).length:Nat),V.int (stN ns ns' ns.length:Nat),V.ref R]) htt;show q tt R rs _ _ (s2.trans (s3.trans s4)) aw (mr.same (s3.trans s4))
def spCm (S C G PL:Addr):L2.Sp:=λvs H Q _=>∃ (x x':Addr) (p m:Int) (ps:List (Int×Int)) (ns ns':List Int) (Ms Ms':List Mv),vs=[.ref x,.ref x']/\fP S C G H x p m ps ns Ms/\fP S C G H x' p m ps ns' Ms'/\af p/\au p m ps ns Ms/\au p m ps ns' Ms'/\H PL=some lamO /\
 ∀ (rk:Nat) H',aa H H'->cq p (dM p ns ns' ps Ms Ms' ps.length).length (stN ns ns' ns.length) (dM p ns ns' ps Ms Ms' ps.length) rk->Q (.int ((stN ns ns' ns.length:Nat)-(rk:Nat))) H'
theorem uA (F:⇑("count_maps",AU))(T:⇑())(Ybs:⇑("differences",8,spDif S C G))(Ya9:⇑("rank",8,D9 G PL)):⇑[9,["one","other"],spCm S C G PL]:=by
 exists JF,sU,9
 show uW h λx x' p m ps ns ns' Ms Ms' e920 i1 i2 e921=>?_;clear h;subst e920;show dj e921 λhp V1 V2 hPL q=>?_;clear e921;show oG (id i1) λdx g d z l lp xs st=>?_;show⟨_,((2|||nd|||(Ybs<$>hr<$>((ae 0)<&>((ae 1)<&>ah))))<*>(~~~(iG<|>(bq<|>(ae 2)<||>aq)<&&>(Ya9<$>hr<$>((eI (ae 0) rfl)<&>((ae 2)<&>ah)))))),?_⟩;left;show uX x x' p m ps ns ns' Ms Ms' ⟨rfl,i1,i2,hp,V1,V2,λt R rs n H1 s1 ht mr=>?_⟩;have t36:=Dg V1 V2;have t8:=kX V1 V2;have dl:=uI (p:=p) (ps:=ps) (Ms1:=Ms) (Ms2:=Ms') V1.sz V2.sz ps.length;have p9:=V1.p9;have hw:∀ xs∈dM p ns ns' ps Ms Ms' ps.length,xs.length=stN ns ns' ns.length:=λxs hx=>by
  show cK (vn hx) λ_ _ _ _ _ _ e922=>?_;obtain rfl:=e922;show Ej ..
 have gd:=uF hp V1 V2;generalize dM p ns ns' ps Ms Ms' ps.length=M at *;generalize stN ns ns' ns.length=tt at *;show⟨t,rfl,_,aE.of ht,_,rfl,S,dx,_,s1 _ _ st.ins,T.cl_Standing,T.nSg,_,vL ..,g,t,R,rs,p,n,84460,tt,M,rfl,st.grd.same s1,hp,ht,⟨mr.1,mr.2.1,hw,gd,∅,∅,⇑0,?_⟩,pP hp hw t36 t8,s1 _ _ hPL,λrk H2 s2 ir=>⟨_,rfl,_,rfl,q rk H2 (s1.trans s2) ir⟩⟩;change (tt+1)*84460<=67000001;omega
def oZ (H:Hp)(a:Addr)(p:Int)(ps:List (Int×Int))(ns:List Int)(Ms:List Mv)(z l:Addr):Prop:=H a=some (.tup [.ref z,.ref l])/\ck H z ns/\e_ H p l ps ns Ms
theorem oZ.same {H H':Hp}{a:Addr}{p:Int}{ps:List (Int×Int)}{ns:List Int}{Ms:List Mv}{z l:Addr}(h:oZ H a p ps ns Ms z l)(s:aa H H'):oZ H' a p ps ns Ms z l:=⟨s _ _ h.1,h.2.1.same s,h.2.2.same s⟩
def DU:L2.Sp:=λvs H Q _=>∃ (ta t1 t2 z1 l1 z2 l2 sp:Addr) (p m tl hd:Int) (t i j:Nat) (ps:List (Int×Int)) (ns ns':List Int) (Ms Ms':List Mv),vs=[.int p,.ref ta,.int t,.ref t1,.ref t2,.ref sp]/\H ta=some (.tup [.int tl,.int hd])/\ps[t]?=some (tl,hd)/\H sp=some (.tup [.int i,.int j])/\i<nt ns' hd/\j<nt ns tl/\oZ H t1 p ps ns Ms z1 l1/\oZ H t2 p ps ns' Ms' z2 l2/\af p/\au p m ps ns Ms/\au p m ps ns' Ms' /\
 ∀ (R:Addr) H',aa H H'->H R=none->aV H' p R (g6 p ns ns' (tl,hd) (Ms.getD t []) (Ms'.getD t []) i j)->Q (.ref R) H'
theorem EC {m:Nat}{v:V}:(List.replicate m [v]).flatten=List.replicate m v:=by
 induction m with
 | zero=>rfl
 | succ n ih=>rw[pd,t9,ih];rfl
theorem mz (F:⇑("_law_ask_row",A3))(T:⇑())(Yac:⇑("_law_int",1,rD))(Yae:⇑("_law_add",3,jy dX))(Yad:⇑("_law_mul",3,jy cM)):⇑[4,["_law_p","_law_arrow","_law_k","_law_one","_law_other","_law_spot"],DU]:=by
 have nd:=FL.nd;show F.ok FL (λvs H Q E h=>?_) (λcdv A outer s H vs Q E hr h=>?_)
 .obtain ⟨ta,t1,t2,z1,l1,z2,l2,sp,p,m,tl,hd,t,i,j,ps,ns,ns',Ms,Ms',rfl,_⟩:=h;rfl
 .obtain ⟨ta,t1,t2,z1,l1,z2,l2,sp,p,m,tl,hd,t,i,j,ps,ns,ns',Ms,Ms',rfl,hta,hq,hsp,hi,hj,P1,P2,hp,V1,V2,q⟩:=h;have hll:ns'.length=ns.length:=by have:=V1.hm;have:=V2.hm;omega
  show cA (V1.ip _ (aY hq)) λi0 i1' j0 j1=>?_;have hl1:=V1.hm;have hl2:=V2.hm;have ht0:tl.toNat<ns.length:=∅
  have hd0:hd.toNat<ns.length:=∅
  have n8:=P1.2.1.2.1;have b6:=(g9 (i:=tl) (B:=6) V1.sz).1;have b6':=(g9 (i:=tl) (B:=6) V2.sz).1;have b6h:=(g9 (i:=hd) (B:=6) V1.sz).1;have b6h':=(g9 (i:=hd) (B:=6) V2.sz).1;have t36:=Dg V1 V2;show⟨_,((6|||nd|||(@dJ _ _ _ _ (aq<&>ah)))<*>((dt cX rfl (kD rfl T.n_zip ((bq<|>(pv 3)<||>aq)<&>((bq<|>(pv 4)<||>aq)<&>ah))) (@dY _ _ _ _ _ 2 rfl ((7>>>nd)^^^((8>>>nd)^^^(@cU _))) ⇑1 ⇑1) (@bE _ _ _ (gK (gk gC gU gT (mtJ gq) (ae 6) ((eL<|>(a_<|>(ae 6)<||>(gm gp aq))<&&>((opJ eH)<|>(ae 7)<&&>(ae 8)))<&>ah)))))<*>((9|||nd|||(yV<|>(@dJ _ _ _ _ ((Yac<$>hr<$>((ae 0)<&>(aq<&>ah)))<&>ah))<&&>(a_<|>(ae 6)<||>(gm gp aq))))<*>((d9 (ae 1) (@dY _ _ _ _ _ 2 rfl ((10>>>nd)^^^((11>>>nd)^^^(@cU _))) ⇑1 ⇑1))<*>((dt cX rfl (fv rfl T.n_range ((a_<|>(bq<|>(pv 4)<||>aq)<||>(pv 10))<&>ah)) (12>>>nd) ((13|||nd|||(eL<|>(eL<|>((ixJ a_)<|>(ae 6)<||>(ae 10))<&&>(jV<|>(ae 12)<&&>(a_<|>((cP bq)<|>(ae 3)<||>aq)<||>(ae 10))))<&&>((cP bq)<|>(ae 5)<||>aq)))<*>(@bE _ _ _ (d9 (Yae<$>hr<$>((ae 0)<&>(((ixJ a_)<|>(ae 9)<||>(ae 13))<&>((a_<|>(a_<|>(bq<|>(a_<|>((cP bq)<|>(ae 4)<||>aq)<||>(ae 2))<||>aq)<||>((cP bq)<|>(ae 5)<||>aq))<||>(ae 12))<&>ah)))) (iZ (ae 9) (ae 13) i5)))))<*>((dt cX rfl (fv rfl T.n_range ((a_<|>(bq<|>(pv 3)<||>aq)<||>(pv 11))<&>ah)) (12>>>nd) ((13|||nd|||(eL<|>(eL<|>((ixJ a_)<|>(ae 6)<||>(ae 11))<&&>(jV<|>((cP bq)<|>(ae 5)<||>aq)<&&>(a_<|>((cP bq)<|>(ae 3)<||>aq)<||>(ae 11))))<&&>(ae 12)))<*>((14|||nd|||(Yad<$>hr<$>((ae 0)<&>((Yac<$>hr<$>((ae 0)<&>((gm gp aq)<&>ah)))<&>((a_<|>(a_<|>(bq<|>(a_<|>((cP bq)<|>(ae 3)<||>aq)<||>(ae 2))<||>aq)<||>(ae 12))<||>((cP bq)<|>(ae 5)<||>aq))<&>ah)))))<*>(@bE _ _ _ (d9 (Yae<$>hr<$>((ae 0)<&>(((ixJ a_)<|>(ae 9)<||>(ae 13))<&>((ae 14)<&>ah)))) (iZ (ae 9) (ae 13) i5))))))<*>(~~~(ae 9)))))))),?_⟩;show bG λX hX=>?_;left;show⟨⇑0,λD hD=>?_⟩;have s1:=aa.new (o:=.lst [V.int 0]) hD;have q1:(ar H D (.lst [V.int 0])) D=some (.lst (stL ns ns' 1)):=aw;generalize ar H D (.lst [V.int 0])=H1 at *;subst hX;show bG λX hX=>?_;left;show⟨_,rfl,t1,_,_,_,rfl,rfl,aE.of (s1 _ _ P1.1),rfl,_,rfl,t2,_,_,_,rfl,rfl,aE.of (s1 _ _ P2.1),rfl,z1,z2,rfl,⟨_,aj.of (s1 _ _ P1.2.1.1)⟩,⟨_,aj.of (s1 _ _ P2.2.1.1)⟩,
   zm (xs:=ns.map V.int) (ys:=ns'.map V.int) (λi σ H2=>∃ v5 v6:Option V,σ=[⇑p,↥ta,⇑t,↥t1,↥t2,↥sp,↥D,v5,v6,none,none,none,none,none,none]/\aa H H2/\H2 D=some (.lst (stL ns ns' (i+1)))) (by rw[aB,aB,hll]) ⟨none,none,rfl,s1,q1⟩ (λi σ H2 _ ⟨_,_,_,e,_⟩=>⟨aj.of (e _ _ P1.2.1.1),aj.of (e _ _ P2.2.1.1)⟩) ?_ ?_⟩
  .intro i va vb pz σ H2 ha hb hpz e91;show cF e91 λv5 v6 e97 s2 h2=>?_;clear e91;obtain rfl:=e97;show ao (jW ha) λn fa e98=>?_;obtain rfl:=e98;show ao (jW hb) λn' fb e99=>?_;obtain rfl:=e99;have hi:i<ns.length:=(b_.mp fa).1;obtain⟨a0,a1⟩:=P1.2.1.2.2 n (aY fa);obtain⟨b0,b1⟩:=P2.2.1.2.2 n' (aY fb);have s3:=aa.new (o:=.tup [V.int n,V.int n']) hpz;have h3:=s3 _ _ h2;left;show⟨_,aE.of aw,rfl,_,_,rfl,_,_,rfl,rfl,?_⟩;generalize ar H2 pz (.tup [V.int n,V.int n'])=H3 at *;show⟨.inl ⟨rfl,_,aj.of h3⟩,_,aj.of h3,_,vI,(tN a0 a1).mul (tN b0 b1),_,rfl,_,h3,cT (by rw[aB,dq];omega),_,_,⟨rfl,rfl⟩,(s2.trans s3).upd hD,?_⟩;rw[aw,EM (by rw[rY n n'];show Ed fa fb a0 b0)]
  .intro σ H2 e92;show cF e92 λv5 v6 e910 s2 eD=>?_;clear e92;obtain rfl:=e910;rw[aB] at eD;subst hX;dsimp only;show bG λX hX=>?_;left;show aM p 0 ⟨rfl,hp,λnv H3 s3 nn=>⟨⇑0,λp0 hp0=>?_⟩⟩;rw[Av] at nn;have s4:=aa.new (o:=.lst [nv]) hp0;have nn4:=nn.same s4;have q4:(ar H3 p0 (.lst [nv])) p0=some (.lst [nv]):=aw;generalize ar H3 p0 (.lst [nv])=H4 at *;have s34:=s3.trans s4;show⟨_,aj.of (s34 _ _ eD),_,vI,p0,(stN ns ns' ns.length:Nat),_,rfl,rfl,q4,∅,∅,by show 1*_<=_;rw[fG];show cD (show 1*_<=48 by omega) ⇑0,λRw hRw=>?_⟩;rw[fG,EC];have s5:=aa.new (o:=.lst (List.replicate (stN ns ns' ns.length) nv)) hRw;have rw8:aV (ar H4 Rw (.lst (List.replicate (stN ns ns' ns.length) nv))) p Rw (List.replicate (stN ns ns' ns.length) (0,1)):=⟨_,aw,by rw[eM,eM],λk v x e1 e2=>by
    rw[(iQ.mp (aY e2)).2,(iQ.mp (aY e1)).2];show nn4.same s5⟩
   have s08:=(s2.trans s34).trans s5;have eD8:=(s34.trans s5) _ _ eD;have fRw:H Rw=none:=(s2.trans s34).free hRw;have nRD':D≠Rw:=bV (s34 _ _ eD) hRw;generalize ar H4 Rw (.lst (List.replicate (stN ns ns' ns.length) nv))=H8 at *;have et:atI (stL ns ns' (ns.length+1)) tl=some (V.int (stN ns ns' tl.toNat:Nat)):=eK i0 (vi (oz48 ht0));have eh:atI (stL ns ns' (ns.length+1)) hd=some (V.int (stN ns ns' hd.toNat:Nat)):=eK j0 (vi (oz48 hd0));show jR (P1.2.2.at hq) λts1 tt1 r1 rs1 hl1' et1 tv1=>?_;show jR (P2.2.2.at hq) λts2 tt2 r2 rs2 hl2' et2 tv2=>?_;obtain⟨sh1,sr1⟩:=V1.sh t _ hq;obtain⟨sh2,sr2⟩:=V2.sh t _ hq;obtain⟨a2,vs2,ea2,ha2,al2⟩:=tv2.rowAt (i:=i) (by rw[sh2];show hi);have hr2:=sr2 _ (bD (d:=[]) (show i<(Ms'.getD t []).length by rw[sh2];show hi));have lv2:vs2.length=nt ns' tl:=al2.1.trans hr2.1;have h0:aH p 42229 [(0,1)]:=λx hx=>by rw[cS.mp hx];show⟨j4 hp,dF ⇑0 ⇑0,dF ⇑0 ⇑0⟩
   clear s5 s34 s4 s3 nn nn4 q4 eD hRw s2 hp0 s1 q1;subst hX;show bG λX hX=>?_;left;show⟨_,aE.of (s08 _ _ hta),rfl,_,_,rfl,_,_,rfl,rfl,?_⟩;subst hX;show bG λZ hZ=>?_;show ow λY hY=>?_;show⟨_,rfl,t2,_,_,_,rfl,rfl,aE.of (s08 _ _ P2.1),rfl,_,rfl,z2,_,_,_,rfl,rfl,aj.of (s08 _ _ P2.2.1.1),kv P2.2.1 i0 ∅,(nt ns' tl:Nat),rfl,ju _,jt (cD b6' ⇑0),?_⟩;rw[fG];show hO (n:=nt ns' tl) (λk σ H5=>∃ (v15 v16 v17:Option V),σ=[⇑p,↥ta,⇑t,↥t1,↥t2,↥sp,↥D,v5,v6,↥Rw,⇑tl,⇑hd,v15,v16,v17]/\aa H H5/\H5 D=some (.lst (stL ns ns' (ns.length+1)))/\aV H5 p Rw (g8 ((Ms'.getD t []).getD i []) (stN ns ns' tl.toNat) (nt ns tl) j k (List.replicate (stN ns ns' ns.length) (0,1)))) ⟨none,none,none,rfl,s08,eD8,rw8⟩ ?_ ?_
   .intro k σ H9 hk e93;show cK e93 λv15 v16 v17 e911 s9 eD9 rw9=>?_;clear e93;obtain rfl:=e911;show fQ λD6 hD6=>?_;simp only[bU,List.set_cons_zero,List.set_cons_succ];rw[j8];subst hY;show bG λW hW=>?_;left;show⟨_,aj.of eD9,_,et,_,aE.of (s9 _ _ P1.1),_,rfl,z1,rfl,_,aj.of (s9 _ _ P1.2.1.1),_,kv P1.2.1 i0 ∅,_,rfl,.inl ⟨∅,oz46 b6' hk⟩,_,rfl,_,aE.of (s9 _ _ hsp),_,rfl,_,rfl,?_⟩;rw[show ((stN ns ns' tl.toNat:Nat):Int)+(k:Int)*((nt ns tl:Nat):Int)+(j:Int)=((stN ns ns' tl.toNat+k*nt ns tl+j:Nat):Int) by rw[kL,kL,nY]];show ao rw9 λws hws alw=>?_;clear rw9;have wl:ws.length=stN ns ns' ns.length:=by rw[alw.1,nO,eM]
    have pl:=s_ (j:=j) ht0 hk hj;have hpos:stN ns ns' tl.toNat+k*nt ns tl+j<ws.length:=wl ▸ pl;obtain⟨vb,evb⟩:∃ vb,vs2[k]?=some vb:=⟨_,aG (oz8 lv2 hk)⟩
    show ao (al2.at' evb) λy ey ny=>?_;have gy:=hr2.2 y (aY ey);obtain⟨va,eva⟩:∃ va,ws[stN ns ns' tl.toNat+k*nt ns tl+j]?=some va:=⟨_,aG hpos⟩
    show ao (alw.at' eva) λu eu nu=>?_;have hu0:u=(0,1):=by rw[<- cw (d:=(0,1)) eu];show Ez ∅
    subst hu0;subst hW;left;show⟨_,aj.of hws,va,fV eva,_,aE.of (s9 _ _ P2.1),_,rfl,l2,rfl,_,aj.of (s9 _ _ hl2'),_,fV et2,tt2,rfl,_,aE.of (s9 _ _ tv2.tup),_,rfl,_,aE.of (s9 _ _ hsp),_,rfl,r2,rfl,_,_,rfl,aj.of (s9 _ _ tv2.lst),_,fV ea2,a2,rfl,_,aj.of (s9 _ _ ha2),vb,fV evb,p,va,vb,(0,1),y,rfl,hp,⟨nu,ny.same s9,j4 hp,gy.1,7,42229,dF ⇑0 ⇑0,dF ⇑0 ⇑0,gy.2.1,gy.2.2,⇑0⟩,λv10 H10 s10 n10=>?_⟩;rw[IS hp gy.1] at n10;have hws10:=s10 _ _ hws;subst hD6;show⟨ws,hws10,stN ns ns' tl.toNat+k*nt ns tl+j,rm hpos,_,_,_,rfl,(s9.trans s10).upd fRw,by rw[aR nRD'];show s10 _ _ eD9,⟨_,aw,?_⟩⟩;have:=(alw.mono λ_ _ q=>(q.same s10).put (o:=.lst (ws.set (stN ns ns' tl.toNat+k*nt ns tl+j) v10)) hws10).set (stN ns ns' tl.toNat+k*nt ns tl+j) (n10.put hws10);change aA _ _ (List.set _ _ _);rw[cw ey];show this
   .intro σ H9 e94;show cK e94 λv15 v16 v17 e912 s9 eD9 rw9=>?_;clear e94;obtain rfl:=e912;have gP:=tx (s:=stN ns ns' tl.toNat) (w:=nt ns tl) (c:=j) h0 hr2.2 (r:=List.replicate (stN ns ns' ns.length) (0,1)) (λx hx=>by rw[(iQ.mp hx).2];show h0 _ (by simp)) (nt ns' tl);have lP:(g8 ((Ms'.getD t []).getD i []) (stN ns ns' tl.toNat) (nt ns tl) j (nt ns' tl) (List.replicate (stN ns ns' ns.length) (0,1))).length=stN ns ns' ns.length:=by rw[nO,eM]
    have eR:g6 p ns ns' (tl,hd) (Ms.getD t []) (Ms'.getD t []) i j=iU p (λk=>((Ms.getD t []).getD k []).getD j (0,1)) (stN ns ns' hd.toNat+i*nt ns hd) (nt ns hd) (g8 ((Ms'.getD t []).getD i []) (stN ns ns' tl.toNat) (nt ns tl) j (nt ns' tl) (List.replicate (stN ns ns' ns.length) (0,1))):=rfl;generalize g8 ((Ms'.getD t []).getD i []) (stN ns ns' tl.toNat) (nt ns tl) j (nt ns' tl) (List.replicate (stN ns ns' ns.length) (0,1))=PO at *;subst hZ;dsimp only;show bG λZ hZ=>?_;show ow λY hY=>?_;show⟨_,rfl,t1,_,_,_,rfl,rfl,aE.of (s9 _ _ P1.1),rfl,_,rfl,z1,_,_,_,rfl,rfl,aj.of (s9 _ _ P1.2.1.1),kv P1.2.1 j0 ∅,(nt ns hd:Nat),rfl,ju _,jt (cD b6h ⇑0),?_⟩;rw[fG];show hO (n:=nt ns hd) (λk σ H5=>∃ (v15 v16 v17:Option V),σ=[⇑p,↥ta,⇑t,↥t1,↥t2,↥sp,↥D,v5,v6,↥Rw,⇑tl,⇑hd,v15,v16,v17]/\aa H H5/\H5 D=some (.lst (stL ns ns' (ns.length+1)))/\aV H5 p Rw (iU p (λk=>((Ms.getD t []).getD k []).getD j (0,1)) (stN ns ns' hd.toNat+i*nt ns hd) k PO)) ⟨v15,v16,v17,rfl,s9,eD9,rw9⟩ ?_ ?_
    .intro k σ H10 hk e95;show cK e95 λv15 v16 v17 e913 s10 eD10 rw10=>?_;clear e95;obtain rfl:=e913;show fQ λD6 hD6=>?_;simp only[bU,List.set_cons_zero,List.set_cons_succ];rw[j8];obtain⟨a1,vs1,ea1,ha1,al1⟩:=tv1.rowAt (i:=k) (by rw[sh1];show hk);have hr1:=sr1 _ (bD (d:=[]) (show k<(Ms.getD t []).length by rw[sh1];show hk));have lv1:vs1.length=nt ns tl:=al1.1.trans hr1.1;have hj':j<nt ns tl:=hj;obtain⟨vb,evb⟩:∃ vb,vs1[j]?=some vb:=⟨_,aG (dD hj lv1)⟩
     show ao (al1.at' evb) λy ey ny=>?_;have gy:=hr1.2 y (aY ey);subst hY;show bG λW hW=>?_;left;show⟨_,aj.of eD10,_,eh,_,aE.of (s10 _ _ hsp),_,rfl,_,aE.of (s10 _ _ P1.1),_,rfl,z1,rfl,_,aj.of (s10 _ _ P1.2.1.1),_,kv P1.2.1 j0 ∅,_,rfl,_,rfl,.inl ⟨∅,∅⟩,_,rfl,?_⟩;rw[show ((stN ns ns' hd.toNat:Nat):Int)+(i:Int)*((nt ns hd:Nat):Int)+(k:Int)=((stN ns ns' hd.toNat+i*nt ns hd+k:Nat):Int) by rw[kL,kL,nY]];show ao rw10 λws hws alw=>?_;clear rw10;have wl:ws.length=stN ns ns' ns.length:=by rw[alw.1,vJ,lP]
     have pl:=s_ (j:=k) hd0 hi hk;have hpos:stN ns ns' hd.toNat+i*nt ns hd+k<ws.length:=wl ▸ pl;obtain⟨va,eva⟩:∃ va,ws[stN ns ns' hd.toNat+i*nt ns hd+k]?=some va:=⟨_,aG hpos⟩
     show ao (alw.at' eva) λu eu nu=>?_;have gu:bc p u/\bW 42229 u:=by
      have e1:=xJ (p:=p) (f:=λk=>((Ms.getD t []).getD k []).getD j (0,1)) (s:=stN ns ns' hd.toNat+i*nt ns hd) (k:=k) (r:=PO);rw[cw eu] at e1;rw[e1];show gP _ (bD (by rw[lP];show pl))
     subst hW;show bG λW hW=>?_;left;show aM p (-1) ⟨rfl,hp,λmv H11 s11 nm1=>?_⟩;have s011:=s10.trans s11;show⟨_,aE.of (s011 _ _ P1.1),_,rfl,l1,rfl,_,aj.of (s011 _ _ hl1'),_,fV et1,tt1,rfl,_,aE.of (s011 _ _ tv1.tup),_,rfl,r1,rfl,_,aj.of (s011 _ _ tv1.lst),_,fV ea1,_,aE.of (s011 _ _ hsp),_,rfl,a1,rfl,_,_,rfl,aj.of (s011 _ _ ha1),vb,fV evb,p,mv,vb,de p (-1),y,rfl,hp,⟨nm1,ny.same s011,gJ hp.lo,gy.1,7,42229,DL hp,DM hp,gy.2.1,gy.2.2,⇑0⟩,λlv H12 s12 nl=>?_⟩;have il:=fO hp.lo (gJ (k:=-1) hp.lo) gy.1;have bl':=zV hp gy.1 gy.2 ⇑0;have me:=Ep hp gu.1 gy.1;generalize cM p (de p (-1)) y=less at *;have s1112:=s11.trans s12;have hws12:=s1112 _ _ hws;subst hW;left;show⟨_,aj.of hws12,va,fV eva,p,va,lv,u,less,rfl,hp,⟨nu.same s1112,nl,gu.1,il,42229,42230,gu.2.1,gu.2.2,bl'.1,bl'.2,⇑0⟩,λv13 H13 s13 n13=>?_⟩;rw[me] at n13;have s1113:=s1112.trans s13;have hws13:=s13 _ _ hws12;subst hD6;show⟨ws,hws13,stN ns ns' hd.toNat+i*nt ns hd+k,rm hpos,_,_,_,rfl,(s10.trans s1113).upd fRw,by rw[aR nRD'];show s1113 _ _ eD10,⟨_,aw,?_⟩⟩;have:=(alw.mono λ_ _ q=>(q.same s1113).put (o:=.lst (ws.set (stN ns ns' hd.toNat+i*nt ns hd+k) v13)) hws13).set (stN ns ns' hd.toNat+i*nt ns hd+k) (n13.put hws13);change aA _ _ (List.set _ _ _);rw[cw eu];change aA _ _ (List.set _ _ (je p u (((Ms.getD t []).getD k []).getD j (0,1))));rw[cw ey];show this
    .intro σ H10 e96;show cK e96 λv15 v16 v17 e914 s10 eD10 rw10=>?_;clear e96;obtain rfl:=e914;subst hZ;left;show q Rw H10 s10 fRw (by rw[eR];show rw10)
end
section
variable {F:Type}[Lean.Grind.Field F]
end
theorem uD {p:Int}{n wd:Nat}{M D:Mv}{pl:List Nat}(hl:M.length=n)(lr:∀ (F:Type) [Lean.Grind.Field F],aK p F->iO F n wd M D pl):cq p n wd M pl.length:=λF _ hF=>by
 have lQ:=lr F hF;have rk:=lQ.rr.rk lQ.sp.symm;rw[aB,hl] at rk;show rk.congr λi j hi hj=>by rw[fK (oz8 hl hi)]
section
variable {p:Int}{F:Type}[Lean.Grind.Field F]
theorem kU {L:List Nv}{k:Nat}{x:Nv}(hk:k<L.length)(b:Nat):(vN (L.set k x) b:F)=vN L b+(if b=k then nm x-vN L k else 0):=by
 unfold vN;rw[gH hk];by_cases h:b=k
 .subst h;rw[if_pos rfl,if_pos rfl]
  grind
 .rw [if_neg h,if_neg h]
  grind
theorem Dc {L:List Nv}{k n:Nat}{x:Nv}(v:Nat->F)(hk:k<L.length)(hn:k<n):sm n (λb=>vN (L.set k x) b*v b)=sm n (λb=>vN L b*v b)+(nm x-vN L k)*v k:=by
 rw[aO (g:=λb=>vN L b*v b+(if b=k then (nm x-vN L k)*v b else 0)) λb _=>by
  rw[kU hk];split <;> grind,jT,kE (λb=>(nm x-vN L k)*v b) hn]
theorem DR {xs:List Nv}{s w c n:Nat}(v:Nat->F)(hw:0<w):∀ {k:Nat},(∀ i,i<k->s+i*w+c<n)->sm n (λb=>vN (g8 xs s w c k (List.replicate n (0,1))) b*v b)=sm k (λi=>vN xs i*v (s+i*w+c))
 | 0,_=>by
  change sm n _=0;rw[aO (g:=λ_=>0) λb _=>?_,fA];change (nm ((List.replicate n (0,1)).getD b (0,1)):F)*v b=0;rw[show (List.replicate n ((0,1):Nv)).getD b (0,1)=(0,1) by rw[aW,sG];split <;> rfl,oQ]
  grind
 | k+1,h=>by
  have l:s+k*w+c<(g8 xs s w c k (List.replicate n (0,1))).length:=by rw[nO,eM];show h k ∅
  change sm n (λb=>vN (List.set _ _ _) b*v b)=sm k _+_;rw[Dc v l (h k ∅),DR v hw λi hi=>h i ∅];have:(vN (g8 xs s w c k (List.replicate n (0,1))) (s+k*w+c):F)=0:=by unfold vN;rw[Ez hw,oQ]
  rw[this];change _+(vN xs k-0)*_=_
  grind
theorem DS {f:Nat->Nv}{s n:Nat}{r:List Nv}(hp:af p)(hF:aK p F)(v:Nat->F)(hl:r.length=n)(hr:∀ x∈r,bc p x)(hf:∀ k,bc p (f k)):∀ {k:Nat},(∀ i,i<k->s+i<n)->sm n (λb=>vN (iU p f s k r) b*v b)=sm n (λb=>vN r b*v b)-sm k (λi=>nm (f i)*v (s+i))
 | 0,_=>by
  change sm n (λb=>vN r b*v b)=sm n (λb=>vN r b*v b)-0
  grind
 | k+1,h=>by
  have l:s+k<(iU p f s k r).length:=by rw[vJ,hl];show h k ∅
  change sm n (λb=>vN (List.set _ _ _) b*v b)=_-(sm k _+_);rw[Dc v l (h k ∅),DS hp hF v hl hr hf λi hi=>h i ∅];have e:(iU p f s k r).getD (s+k) (0,1)=r.getD (s+k) (0,1):=xJ;have i1:bc p (r.getD (s+k) (0,1)):=hr _ (bD (by rw[hl];show h k ∅));have:(vN (iU p f s k r) (s+k):F)=nm (r.getD (s+k) (0,1)):=by unfold vN;rw[e]
  rw[this,e,hF.minus i1 (hf k)]
  grind
def oneV (ns:List Int)(b:Nat):Prop:=∃ u k:Nat,u<ns.length/\k<(ns.getD u 0).toNat/\b=stN ns ns u+k*(ns.getD u 0).toNat+k
open Classical in
noncomputable def idV (F:Type)[Lean.Grind.Field F](ns:List Int)(b:Nat):F:=if oneV ns b then 1 else 0
end
section
variable {p:Int}{F:Type}[Lean.Grind.Field F]
def BF (ns:List Int)(b u k:Nat):Prop:=u<ns.length/\k<(ns.getD u 0).toNat/\b=stN ns ns u+k*(ns.getD u 0).toNat+k
open Classical in
noncomputable def dgV (ns:List Int)(f:Nat->Nat->F)(b:Nat):F:=if h:∃ u k,BF ns b u k then f h.choose h.choose_spec.choose else 0
end
theorem qY {p:Int}{ns1 ns2:List Int}{ps:List (Int×Int)}{Ms1 Ms2:List Mv}{n t i j:Nat}(ht:t<n)(hi:i<nt ns2 (ps.getD t (0,0)).2)(hj:j<nt ns1 (ps.getD t (0,0)).1):g6 p ns1 ns2 (ps.getD t (0,0)) (Ms1.getD t []) (Ms2.getD t []) i j∈dM p ns1 ns2 ps Ms1 Ms2 n:=by
 unfold dM;rw[yi];show⟨t,dU.mpr ht,?_⟩;unfold fT;rw[yi];show⟨i,dU.mpr hi,bR.mpr ⟨j,dU.mpr hj,rfl⟩⟩
section
variable {p m:Int}{ps:List (Int×Int)}{ns:List Int}{Ms:List Mv}{rk:Nat}
end
section
variable {p:Int}{F:Type}[Lean.Grind.Field F]
theorem yY (n:Nat)(f:Nat->F):∀ k,sm (n+k) f=sm n f+sm k (λj=>f (n+j))
 | 0=>by
  change sm n f=sm n f+0
  grind
 | k+1=>by
  change sm (n+k) f+f (n+k)=sm n f+(sm k (λj=>f (n+j))+f (n+k));rw[yY n f k]
  grind
theorem pR {A B C D:Nat->Nat->F}{m m' n r r':Nat}(hA:Rk A m n r)(hB:Rk B m' n r')(hC:∀ v:Nat->F,(∀ i,i<m->sm n (λb=>A i b*v b)=0)->∀ i,i<m'->sm n (λb=>B i b*sm n (λa=>C b a*v a))=0)(hD:∀ i j,i<n->j<n->mm n D C i j=del i j):r'<=r:=by
 show eV hA.fac λX Y hf=>?_;show eV hB.piv λP Q hp=>?_;apply jo;intro z;show ao (sZ (n+r) (n+r') (λi k=>if i<n then (if k<n then C i k else Q i (k-n)) else (if k<n then Y (i-n) k else 0)) ∅) λu e91 he=>?_;obtain⟨j,hj,hu⟩:=e91;have e1:∀ b,b<n->sm n (λa=>C b a*u a)+sm r' (λk=>Q b k*u (n+k))=0:=λb hb=>by
  have:=he b ∅;rw[yY] at this;rw[<- this];congr 1
  .exact aO λa ha=>by rw[if_pos hb,if_pos ha]
  .exact aO λk _=>by rw[if_pos hb,if_neg ∅,Nat.add_sub_cancel_left]
 have e2:∀ k,k<r->sm n (λa=>Y k a*u a)=0:=λk hk=>by
  have:=he (n+k) ∅;rw[yY] at this;rw[aO (n:=n) (g:=λa=>Y k a*u a) λa ha=>by rw[if_neg ∅,if_pos ha,Nat.add_sub_cancel_left],aO (n:=r') (g:=λ_=>0) λt _=>by rw[if_neg ∅,if_neg ∅];grind,fA] at this
  grind
 have a0:∀ i,i<m->sm n (λb=>A i b*u b)=0:=λi hi=>by
  rw[aO (n:=n) (g:=λb=>sm r λk=>X i k*(Y k b*u b)) λb hb=>?_,gL,aO (n:=r) (g:=λ_=>0) λk hk=>?_,fA]
  .rw [eO,e2 k hk]
   grind
  .rw [hf i b hi hb,<- fN];show aO λk _=>by grind
 have b0:=hC u a0;have w0:∀ i,i<r'->u (n+i)=0:=λi hi=>by
  have e:sm r' (λk=>sm m' (λa=>P i a*sm n λb=>B a b*Q b k)*u (n+k))=u (n+i):=by
   rw[aO (n:=r') (g:=λk=>u (n+k)*(if i=k then 1 else 0)) λk hk=>by rw[hp i k hi hk];grind];show oV (λk=>u (n+k)) hi
  rw[<- e,aO (n:=r') (g:=λk=>sm m' λa=>P i a*sm n λb=>B a b*(Q b k*u (n+k))) λk _=>?_,gL,aO (n:=m') (g:=λ_=>0) λa ha=>?_,fA]
  .rw [eO,gL,aO (n:=n) (g:=λb=>(B a b*sm n (λc=>C b c*u c))*(0-1)) λb hb=>?_,fN,b0 a ha]
   .grind
   .rw [eO];have:=e1 b hb
    grind
  .rw [<- fN];show aO λa _=>by
    rw[show P i a*(sm n λb=>B a b*Q b k)*u (n+k)=P i a*((sm n λb=>B a b*Q b k)*u (n+k)) by grind,<- fN];rw[aO (n:=n) λb _=>by rw[show B a b*Q b k*u (n+k)=B a b*(Q b k*u (n+k)) by grind]]
 have c0:∀ b,b<n->sm n (λa=>C b a*u a)=0:=λb hb=>by
  have:=e1 b hb;rw[aO (n:=r') (g:=λ_=>0) λk hk=>by rw[w0 k hk];grind,fA] at this
  grind
 apply hu;by_cases h:j<n
 .have e:sm n (λa=>mm n D C j a*u a)=u j:=by
   rw[aO (n:=n) (g:=λa=>u a*(if j=a then 1 else 0)) λa ha=>by rw[hD j a h ha];grind];show oV u h
  rw[<- e,aO (n:=n) (g:=λa=>sm n λb=>D j b*(C b a*u a)) λa _=>?_,gL,aO (n:=n) (g:=λ_=>0) λb hb=>?_,fA]
  .rw [eO,c0 b hb]
   grind
  .change sm n (λb=>D j b*C b a)*u a=_;rw[<- fN];show aO λb _=>by grind
 .have:=w0 (j-n) ∅;rw[show n+(j-n)=j by omega] at this;show this
theorem Ek {m:Int}{ps:List (Int×Int)}{ns1 ns2:List Int}{Ms1 Ms2:List Mv}(hp:af p)(hF:aK p F)(V1:au p m ps ns1 Ms1)(V2:au p m ps ns2 Ms2)(v:Nat->F){t i j:Nat}{q:Int×Int}(hq:ps[t]?=some q)(hi:i<nt ns2 q.2)(hj:j<nt ns1 q.1):sm (stN ns1 ns2 ns1.length) (λb=>vN (g6 p ns1 ns2 q (Ms1.getD t []) (Ms2.getD t []) i j) b*v b)=sm (nt ns2 q.1) (λk=>vN ((Ms2.getD t []).getD i []) k*v (stN ns1 ns2 q.1.toNat+k*nt ns1 q.1+j))-sm (nt ns1 q.2) (λk=>nm (((Ms1.getD t []).getD k []).getD j (0,1))*v (stN ns1 ns2 q.2.toNat+i*nt ns1 q.2+k)):=by
 obtain⟨sh1,sr1⟩:=V1.sh t q hq;obtain⟨sh2,sr2⟩:=V2.sh t q hq;show cA (V1.ip _ (aY hq)) λi0 i1 j0 j1=>?_;have hm1:=V1.hm;have hm2:=V2.hm;have hu:q.1.toNat<ns1.length:=by show oz15 i0 i1 hm1
 have hv:q.2.toNat<ns1.length:=by show oz15 j0 j1 hm1
 have ri:=sr2 _ (bD (d:=[]) (show i<(Ms2.getD t []).length by show dD hi sh2));have h0:aH p 42229 [(0,1)]:=λx hx=>by rw[cS.mp hx];show⟨j4 hp,dF ⇑0 ⇑0,dF ⇑0 ⇑0⟩
 have gP:=tx (s:=stN ns1 ns2 q.1.toNat) (w:=nt ns1 q.1) (c:=j) h0 ri.2 (r:=List.replicate (stN ns1 ns2 ns1.length) (0,1)) (λx hx=>by rw[(iQ.mp hx).2];show h0 _ (by simp)) (nt ns2 q.1);unfold g6;rw[DS hp hF _ (by rw[nO,eM]) (λx hx=>(gP x hx).1) (λk=>?_) (λk hk=>s_ hv hi hk),DR _ ∅ λk hk=>s_ hu hk hj];by_cases hk:k<(Ms1.getD t []).length
 .have:=sr1 _ (bD (d:=[]) hk);show (this.2 _ (bD ∅)).1
 .rw [show (Ms1.getD t []).getD k []=[] by rw[aW,dH (d8 hk)];rfl];show j4 hp
end
noncomputable abbrev plc (ns1 ns2:List Int)(u k j:Nat):Nat:=stN ns1 ns2 u+k*(ns1.getD u 0).toNat+j
def ki (ns1 ns2:List Int)(u k j:Nat):Prop:=u<ns1.length/\k<(ns2.getD u 0).toNat/\j<(ns1.getD u 0).toNat
theorem Df (ns1 ns2:List Int)(u:Nat):stN ns1 ns2 (u+1)=stN ns1 ns2 u+(ns2.getD u 0).toNat*(ns1.getD u 0).toNat:=by
 change stN ns1 ns2 u+_*_=_
 first|rfl|rw[rZ]
theorem y4 {ns1 ns2:List Int}{u k j:Nat}(h:ki ns1 ns2 u k j):plc ns1 ns2 u k j<stN ns1 ns2 (u+1):=by
 show bC h λ_ hk hj=>?_;clear h;rw[Df];have:(k+1)*(ns1.getD u 0).toNat<=(ns2.getD u 0).toNat*(ns1.getD u 0).toNat:=gg hk (aQ _);rw[o6] at this;change stN ns1 ns2 u+_+_<_;omega
theorem pT {ns1 ns2:List Int}{u k j:Nat}(h:ki ns1 ns2 u k j):plc ns1 ns2 u k j<stN ns1 ns2 ns1.length:=dN (y4 h) (xH ns1 ns2 h.1)
theorem lH {ns1 ns2:List Int}{u k j u' k' j':Nat}(h:ki ns1 ns2 u k j)(h':ki ns1 ns2 u' k' j')(e:plc ns1 ns2 u k j=plc ns1 ns2 u' k' j'):u=u'/\k=k'/\j=j':=by
 have l1:=y4 h;have l2:=y4 h';unfold plc at *;have eu:u=u':=by
  rcases B3 u u' with h|h|h
  .have:=xH ns1 ns2 (show u+1<=u' from h);omega
  .exact h
  .have:=xH ns1 ns2 (show u'+1<=u from h);omega
 subst eu;show bC h λ_ hk hj=>?_;clear h;show bC h' λ_ hk' hj'=>?_;clear h';generalize (ns1.getD u 0).toNat=w at *;have e2:k*w+j=k'*w+j':=∅
 have ek:k=k':=by
  rcases B3 k k' with h|h|h
  .have:(k+1)*w<=k'*w:=gg h (aQ _);rw[o6] at this;omega
  .exact h
  .have:(k'+1)*w<=k*w:=gg h (aQ _);rw[o6] at this;omega
 subst ek;show⟨rfl,rfl,∅⟩
theorem CM {ns1 ns2:List Int}{b:Nat}:∀ n,n<=ns1.length->b<stN ns1 ns2 n->∃ u k j,ki ns1 ns2 u k j/\b=plc ns1 ns2 u k j
 | 0,_,h=>absurd h (sE _)
 | n+1,hn,h=>by
  by_cases z:b<stN ns1 ns2 n
  .exact CM n ∅ z
  .rw [Df] at h;have hw:0<(ns1.getD n 0).toNat:=by
    rcases B9 (ns1.getD n 0).toNat with e|e
    .rw [e,Nat.mul_zero] at h;omega
    .exact e
   show dc n ((b-stN ns1 ns2 n) / (ns1.getD n 0).toNat) ((b-stN ns1 ns2 n) % (ns1.getD n 0).toNat) ⟨⟨∅,?_,Nat.mod_lt _ hw⟩,?_⟩
   .exact (Nat.div_lt_iff_lt_mul hw).mpr ∅
   .have:=Nat.div_add_mod' (b-stN ns1 ns2 n) (ns1.getD n 0).toNat;change b=stN ns1 ns2 n+_+_;omega
section
variable {F:Type}[Lean.Grind.Field F]
open Classical in
noncomputable def blk (ns1 ns2:List Int)(T:Nat->Nat->Nat->F)(b a:Nat):F:=if h:∃ x:Nat×Nat×Nat,ki ns1 ns2 x.1 x.2.1 x.2.2/\b=plc ns1 ns2 x.1 x.2.1 x.2.2 then sm (ns2.getD h.choose.1 0).toNat (λl=>T h.choose.1 h.choose.2.1 l*(if a=plc ns1 ns2 h.choose.1 l h.choose.2.2 then 1 else 0)) else 0
theorem Cu {ns1 ns2:List Int}(T:Nat->Nat->Nat->F){u k j:Nat}(h:ki ns1 ns2 u k j)(a:Nat):blk ns1 ns2 T (plc ns1 ns2 u k j) a=sm (ns2.getD u 0).toNat (λl=>T u k l*(if a=plc ns1 ns2 u l j then 1 else 0)):=by
 unfold blk;have hx:∃ x:Nat×Nat×Nat,ki ns1 ns2 x.1 x.2.1 x.2.2/\plc ns1 ns2 u k j=plc ns1 ns2 x.1 x.2.1 x.2.2:=⟨(u,k,j),h,rfl⟩
 rw[dif_pos hx];have key:∀ x:Nat×Nat×Nat,ki ns1 ns2 x.1 x.2.1 x.2.2/\plc ns1 ns2 u k j=plc ns1 ns2 x.1 x.2.1 x.2.2->sm (ns2.getD x.1 0).toNat (λl=>T x.1 x.2.1 l*(if a=plc ns1 ns2 x.1 l x.2.2 then (1:F) else 0))=sm (ns2.getD u 0).toNat (λl=>T u k l*(if a=plc ns1 ns2 u l j then 1 else 0)):=λ⟨u',k',j'⟩ ⟨h',e⟩=>by
  show bC (lH h h' e) λe91 e92 e93=>?_;obtain rfl:=e91;obtain rfl:=e92;obtain rfl:=e93;rfl
 show key _ hx.choose_spec
theorem zg {ns1 ns2:List Int}(T:Nat->Nat->Nat->F){u k j:Nat}(h:ki ns1 ns2 u k j)(v:Nat->F):sm (stN ns1 ns2 ns1.length) (λa=>blk ns1 ns2 T (plc ns1 ns2 u k j) a*v a)=sm (ns2.getD u 0).toNat (λl=>T u k l*v (plc ns1 ns2 u l j)):=by
 rw[aO (n:=stN ns1 ns2 ns1.length) (g:=λa=>sm (ns2.getD u 0).toNat λl=>T u k l*v a*(if a=plc ns1 ns2 u l j then 1 else 0)) λa _=>?_,gL]
 .refine aO λl hl=>?_;rw[aO (g:=λa=>T u k l*(v a*(if a=plc ns1 ns2 u l j then 1 else 0))) λa _=>by grind,eO,tE v (pT ⟨h.1,hl,h.2.2⟩)]
 .rw [Cu T h,<- fN];show aO λl _=>by grind
theorem m_ {ns1 ns2:List Int}{T S:Nat->Nat->Nat->F}(h:∀ u k l,u<ns1.length->k<(ns2.getD u 0).toNat->l<(ns2.getD u 0).toNat->sm (ns2.getD u 0).toNat (λx=>S u k x*T u x l)=del k l):∀ i j,i<stN ns1 ns2 ns1.length->j<stN ns1 ns2 ns1.length->mm (stN ns1 ns2 ns1.length) (blk ns1 ns2 S) (blk ns1 ns2 T) i j=del i j:=λi j hi hj=>by
 show fU (CM _ (aQ _) hi) λu k x hp e94=>?_;obtain rfl:=e94;change sm _ (λa=>blk ns1 ns2 S _ a*blk ns1 ns2 T a j)=_;rw[zg S hp λa=>blk ns1 ns2 T a j];rw[aO (n:=(ns2.getD u 0).toNat) (g:=λl=>sm (ns2.getD u 0).toNat λy=>S u k l*T u l y*(if j=plc ns1 ns2 u y x then 1 else 0)) λl hl=>?_,gL]
 .rw [aO (n:=(ns2.getD u 0).toNat) (g:=λy=>(if j=plc ns1 ns2 u y x then 1 else 0)*(if k=y then 1 else 0)) λy hy=>?_,oV (λy=>if j=plc ns1 ns2 u y x then (1:F) else 0) hp.2.1]
  .by_cases e:j=plc ns1 ns2 u k x
   .rw [if_pos e];change (1:F)=if _ then 1 else 0
    rw[if_pos e.symm]
   .rw [if_neg e];change (0:F)=if _ then 1 else 0
    rw[if_neg λz=>e z.symm]
  .rw [fN,h u k y hp.1 hp.2.1 hy]
   grind
 .change S u k l*blk ns1 ns2 T (plc ns1 ns2 u l x) j=_;rw[Cu T ⟨hp.1,hl,hp.2.2⟩,<- eO];show aO λy _=>by grind
end
section
variable {p m:Int}{F:Type}[Lean.Grind.Field F]{ps:List (Int×Int)}{ns1 ns2:List Int}{Ns Ms Ls:List Mv}
noncomputable abbrev dMr (p:Int)(ns1 ns2:List Int)(ps:List (Int×Int))(Ns Ms:List Mv):Mv:=dM p ns1 ns2 ps Ns Ms ps.length
theorem Cw (hp:af p)(hF:aK p F)(V1:au p m ps ns1 Ns)(V2:au p m ps ns2 Ms)(v:Nat->F):(∀ i,i<(dMr p ns1 ns2 ps Ns Ms).length->sm (stN ns1 ns2 ns1.length) (λb=>vN ((dMr p ns1 ns2 ps Ns Ms).getD i []) b*v b)=0) ↔ ∀ (t:Nat) q i j,ps[t]?=some q->i<nt ns2 q.2->j<nt ns1 q.1->sm (nt ns2 q.1) (λk=>vN ((Ms.getD t []).getD i []) k*v (plc ns1 ns2 q.1.toNat k j))=sm (nt ns1 q.2) (λk=>nm (((Ns.getD t []).getD k []).getD j (0,1))*v (plc ns1 ns2 q.2.toNat i k)):=by
 constructor
 .intro h t q i j hq hi hj;have htl:=(b_.mp hq).1;have eq:ps.getD t (0,0)=q:=by rw[aW,hq];rfl
  have hm:=qY (p:=p) (ns1:=ns1) (ns2:=ns2) (ps:=ps) (Ms1:=Ns) (Ms2:=Ms) (n:=ps.length) (t:=t) (i:=i) (j:=j) htl (by rw[eq];show hi) (by rw[eq];show hj);obtain⟨x,hx,ex⟩:=dZ.mp hm;have:=h x hx;rw[show (dMr p ns1 ns2 ps Ns Ms).getD x []=_ from (cQ hx).trans ex,eq,Ek hp hF V1 V2 v hq hi hj] at this;have e:∀ a b:F,a-b=0->a=b:=λa b h=>by grind
  show e _ _ this
 .intro h i hi;show cK (vn (bD (d:=[]) hi)) λt a b ht ha hb e=>?_;have hq:ps[t]?=some (ps.getD t (0,0)):=by rw[cQ ht];show aG _
  change sm _ (λb=>vN ((dM p ns1 ns2 ps Ns Ms ps.length).getD i []) b*v b)=0;rw[e,Ek hp hF V1 V2 v hq ha hb];have:=h t _ a b hq ha hb;have e:∀ a b:F,a=b->a-b=0:=λa b h=>by grind
  show e _ _ this
theorem CN (hp:af p)(hF:aK p F)(V1:au p m ps ns1 Ns)(V2:au p m ps ns2 Ms)(V3:au p m ps ns2 Ls)(S T:Nat->Nat->Nat->F)(hST:∀ u k l,u<ns1.length->k<(ns2.getD u 0).toNat->l<(ns2.getD u 0).toNat->sm (ns2.getD u 0).toNat (λx=>S u k x*T u x l)=del k l)(hTS:∀ u k l,u<ns1.length->k<(ns2.getD u 0).toNat->l<(ns2.getD u 0).toNat->sm (ns2.getD u 0).toNat (λx=>T u k x*S u x l)=del k l)(hL:∀ (t:Nat) q i k,ps[t]?=some q->i<nt ns2 q.2->k<nt ns2 q.1->(vN ((Ls.getD t []).getD i []) k:F)=sm (nt ns2 q.2) λa=>S q.2.toNat i a*sm (nt ns2 q.1) λb=>vN ((Ms.getD t []).getD a []) b*T q.1.toNat b k){r r' n n':Nat}(hA:Rk (λi j=>(vN ((dMr p ns1 ns2 ps Ns Ms).getD i []) j:F)) (dMr p ns1 ns2 ps Ns Ms).length (stN ns1 ns2 ns1.length) r)(hB:Rk (λi j=>(vN ((dMr p ns1 ns2 ps Ns Ls).getD i []) j:F)) (dMr p ns1 ns2 ps Ns Ls).length (stN ns1 ns2 ns1.length) r'):r'<=r:=by
 show pR hA hB (C:=blk ns1 ns2 S) (D:=blk ns1 ns2 T) (λv h=>?_) (m_ hTS);rw[Cw hp hF V1 V2] at h;show (Cw hp hF V1 V3 _).mpr λt q i j hq hi hj=>?_;show cA (V1.ip _ (aY hq)) λi0 i1 j0 j1=>?_;have hm1:=V1.hm;have hu:q.1.toNat<ns1.length:=by show oz15 i0 i1 hm1
 have hv:q.2.toNat<ns1.length:=by show oz15 j0 j1 hm1
 have hj':j<(ns1.getD q.1.toNat 0).toNat:=hj;have hi':i<(ns2.getD q.2.toNat 0).toNat:=hi
 rw[aO (n:=nt ns1 q.2) (g:=λk=>sm (nt ns2 q.2) λa=>S q.2.toNat i a*(nm (((Ns.getD t []).getD k []).getD j (0,1))*v (plc ns1 ns2 q.2.toNat a k))) λk hk=>by
  rw[zg S ⟨hv,hi',hk⟩ v,<- eO];show aO λa _=>by grind,gL]
 rw[aO (n:=nt ns2 q.1) (g:=λk=>sm (nt ns2 q.2) λa=>S q.2.toNat i a*(sm (nt ns2 q.1) (λb=>vN ((Ms.getD t []).getD a []) b*T q.1.toNat b k)*sm (nt ns2 q.1) (λl=>S q.1.toNat k l*v (plc ns1 ns2 q.1.toNat l j)))) λk hk=>by
  rw[zg S ⟨hu,hk,hj'⟩ v,hL t q i k hq hi hk,<- fN];show aO λa _=>by
   change S q.2.toNat i a*_*sm (nt ns2 q.1) _=_
   grind,gL]
 show aO λa ha=>?_;rw[eO,eO];congr 1;rw[<- h t q a j hq ha hj]
 rw[aO (n:=nt ns2 q.1) (g:=λk=>sm (nt ns2 q.1) λb=>vN ((Ms.getD t []).getD a []) b*(T q.1.toNat b k*sm (nt ns2 q.1) (λl=>S q.1.toNat k l*v (plc ns1 ns2 q.1.toNat l j)))) λk _=>by
  rw[<- fN];show aO λb _=>by grind,gL]
 show aO λb hb=>?_;rw[eO];congr 1;rw[aO (n:=nt ns2 q.1) (g:=λk=>sm (nt ns2 q.1) λl=>T q.1.toNat b k*S q.1.toNat k l*v (plc ns1 ns2 q.1.toNat l j)) λk _=>by
  rw[<- eO];show aO λl _=>by grind,gL]
 rw[aO (n:=nt ns2 q.1) (g:=λl=>v (plc ns1 ns2 q.1.toNat l j)*(if b=l then 1 else 0)) λl hl=>by
  rw[fN,show sm (nt ns2 q.1) (λk=>T q.1.toNat b k*S q.1.toNat k l)=del b l from hTS _ b l hu hb hl]
  grind]
 show oV (λl=>v (plc ns1 ns2 q.1.toNat l j)) hb
end
section
variable {C PL:Addr}
theorem EN {ns1 ns2:List Int}(h1:∀ n∈ns1,0<=n)(h2:∀ n∈ns2,0<=n)(hl:ns1.length=ns2.length):∀ k,k<=ns1.length->preSum (λi=>(List.zipWith (λa b=>a*b) ns1 ns2).getD i 0) k=(stN ns1 ns2 k:Nat)
 | 0,_=>rfl
 | k+1,hk=>by
  have e1:ns1[k]?=some ns1[k]:=aG hk;have e2:ns2[k]?=some (ns2[k]'(by omega)):=aG ∅;have n1:=h1 _ (dm hk);have n2:=h2 _ (dm (show k<ns2.length by omega));change preSum _ k+(List.zipWith (λa b=>a*b) ns1 ns2).getD k 0=((stN ns1 ns2 k+(ns2.getD k 0).toNat*(ns1.getD k 0).toNat:Nat):Int);rw[EN h1 h2 hl k ∅,cw (show (List.zipWith (λa b=>a*b) ns1 ns2)[k]?=some (ns1[k]*ns2[k]'(by omega)) by rw[yr,e1,e2]),cw e1,cw e2,kL,nY,i9 n1,i9 n2,rY]
theorem Dm {p:Int}{ns1 ns2:List Int}{ps:List (Int×Int)}{Ms1 Ms2:List Mv}(h1:∀ n∈ns1,0<=n/\n<=2)(h2:∀ n∈ns2,0<=n/\n<=2):∀ n,(dM p ns1 ns2 ps Ms1 Ms2 n).length<=4*n
 | 0=>aQ _
 | n+1=>by
  rw[xo,bN,vq];have:=Dm (p:=p) (ps:=ps) (Ms1:=Ms1) (Ms2:=Ms2) h1 h2 n;have:=yR (c:=2) (d:=2) (g9 (i:=(ps.getD n (0,0)).2) h2).1 (g9 (i:=(ps.getD n (0,0)).1) h1).1;omega
abbrev wO (p:Int)(ps:List (Int×Int))(Ms:List Mv):Prop:=∀ i,i<ps.length->∀ xs∈Ms.getD i [],aH p 60 xs
theorem m5 {p m:Int}{ns1 ns2:List Int}{ps:List (Int×Int)}{Ms1 Ms2:List Mv}(hp:af p)(V1:au p m ps ns1 Ms1)(V2:au p m ps ns2 Ms2)(b1:wO p ps Ms1)(b2:wO p ps Ms2):∀ xs∈dM p ns1 ns2 ps Ms1 Ms2 ps.length,aH p 122 xs:=λxs hx=>by
 show cK (vn hx) λt i j ht hi hj e99=>?_;obtain rfl:=e99;have hq:ps[t]?=some (ps.getD t (0,0)):=by rw[cQ ht];show aG _
 have h0:aH p 60 [(0,1)]:=λx hx=>by rw[cS.mp hx];show⟨j4 hp,dF ⇑0 ⇑0,dF ⇑0 ⇑0⟩
 obtain⟨sh1,sr1⟩:=V1.sh t _ hq;obtain⟨sh2,sr2⟩:=V2.sh t _ hq;unfold g6;show zF (n:=60) hp ⇑0 h0 (λk=>?_) (tx h0 (b2 t ht _ (bD (dD hi sh2))) (λx hx=>by rw[(iQ.mp hx).2];show h0 _ (by simp)) _) _;by_cases hk:k<(Ms1.getD t []).length
 .have h1:=sr1 _ (bD (d:=[]) hk);show b1 t ht _ (bD (d:=[]) hk) _ (bD ∅)
 .rw [show (Ms1.getD t []).getD k []=[] by rw[aW,dH (d8 hk)];rfl];show h0 _ (by simp)
def DW:L2.Sp:=λvs H Q _=>∃ (a t1 t2 z1 l1 z2 l2:Addr) (p m:Int) (xs:List V) (ps:List (Int×Int)) (ns ns':List Int) (Ms Ms':List Mv),vs=[.int p,.ref a,.ref t1,.ref t2]/\H a=some (.lst xs)/\dw H xs ps/\oZ H t1 p ps ns Ms z1 l1/\oZ H t2 p ps ns' Ms' z2 l2/\af p/\au p m ps ns Ms/\au p m ps ns' Ms'/\wO p ps Ms/\wO p ps Ms'/\ns.sum<=7 /\
 ∀ (rk:Nat) H',aa H H'->cq p (dM p ns ns' ps Ms Ms' ps.length).length (stN ns ns' ns.length) (dM p ns ns' ps Ms Ms' ps.length) rk->Q (.int ((stN ns ns' ns.length:Nat)-(rk:Nat))) H'
theorem mw (F:⇑("_law_count",AL))(T:⇑())(Ybt:⇑("_law_ask_row",4,DU))(Yar:⇑("_law_reduced",5,zC)):⇑[6,["_law_p","_law_arrows","_law_one","_law_other"],DW]:=by
 exists Jy,CV,15
 show CW h λa t1 t2 z1 l1 z2 l2 p m xs ps ns ns' Ms Ms' e911 ha pr e912=>?_;clear h;subst e911;show jI e912 λP1 P2 hp V1 V2 bb1 bb2 hs q=>?_;clear e912;have h2:=V1.z2;have h2':=V2.z2;have hs0:=V1.z4;have hxl:=pr.1;have hl1:=V1.hm;have hl2:=V2.hm;show⟨_,((4|||nd|||(@dJ _ _ _ _ ah))<*>((dt cX rfl (vg rfl T.n_enumerate ((pv 1)<&>ah)) (@dY _ _ _ _ _ 2 rfl ((5>>>nd)^^^((6>>>nd)^^^(@cU _))) ⇑1 ⇑1) (@bE _ _ _ (dt cX rfl (fv rfl T.n_range ((a_<|>(bq<|>(pv 3)<||>aq)<||>(bq<|>(pv 6)<||>aq))<&>ah)) (7>>>nd) (@bE _ _ _ (dt cX rfl (fv rfl T.n_range ((a_<|>(bq<|>(pv 2)<||>aq)<||>(bq<|>(pv 6)<||>aq))<&>ah)) (8>>>nd) (@bE _ _ _ (gK (gk gC gU gT (mtJ gq) (ae 4) ((Ybt<$>hr<$>((ae 0)<&>((ae 6)<&>((ae 5)<&>((ae 2)<&>((ae 3)<&>((@bQ _ _ _ _ _ ((ae 7)<&>((ae 8)<&>ah)))<&>ah)))))))<&>ah)))))))))<*>((9|||nd|||(cg (Gb rfl) rfl T.n_sum boot_sum ((dR (own:=["_law_here","_law_there"]) (fr:=[]) rfl (cW (by kernel_rfl)) (kD rfl T.n_zip ((bq<|>(pv 2)<||>aq)<&>((bq<|>(pv 3)<||>aq)<&>ah))) (λ_ _ _ _=>⟨(@jX _ K rfl _ _ _ _ 2 rfl ((0<<<["_law_here","_law_there"])^^^((1<<<["_law_here","_law_there"])^^^(@cU _))) ⇑1 ⇑1),df,(eH<|>(pv 0)<&&>(pv 1))⟩))<&>ah)))<*>(~~~(iG<|>(ae 9)<&&>(bq<|>(Yar<$>hr<$>((ae 0)<&>((@bQ _ _ _ _ _ ((cg h_ rfl T.n_len ig ((ae 4)<&>ah))<&>((ae 9)<&>((ae 4)<&>ah))))<&>ah)))<||>aq)))))),?_⟩;show bG λX hX=>?_;left;show⟨⇑0,λR hR=>?_⟩;have s1:=aa.new (o:=.lst []) hR;have q1:(ar H R (.lst [])) R=some (.lst []):=aw;generalize ar H R (.lst [])=H1 at *;subst hX;show bG λX hX=>?_;left;show⟨_,rfl,a,rfl,⟨_,aj.of (s1 _ _ ha)⟩,xt (xs:=xs) (λt σ H2=>∃ (v5 v6 v7 v8 v9:Option V) (rs:List Addr),σ=[⇑p,↥a,↥t1,↥t2,↥R,v5,v6,v7,v8,v9]/\aa H H2/\cJ H H2 p R rs (dM p ns ns' ps Ms Ms' t))
  ⟨none,none,none,none,none,[],rfl,s1,q1,aA.nil,by simp,by simp⟩ (λi σ H2 _ ⟨_,_,_,_,_,_,_,e,_⟩=>aj.of (e _ _ ha)) ?_ ?_⟩
 .intro t u pz σ H2 hu hpz e91;show uS e91 λv5 v6 v7 v8 v9 rs e913 s2 mr=>?_;clear e91;obtain rfl:=e913;show fQ λD2 hD2=>?_;have ht:t<ps.length:=by have:=(b_.mp hu).1;show bM hxl this
  have hq:ps[t]?=some (ps.getD t (0,0)):=by rw[cQ ht];show aG _
  have ds:=xo p ns ns' ps Ms Ms' t;have dl:=uI (p:=p) (ps:=ps) (Ms1:=Ms) (Ms2:=Ms') V1.sz V2.sz t;generalize ps.getD t (0,0)=pq at *;obtain⟨tl,hd⟩:=pq;show ao (pr.2 t u _ hu hq) λta e914 hta=>?_;obtain rfl:=e914;have s3:=s2.trans (aa.new (o:=.tup [V.int t,V.ref ta]) hpz);have mr3:=mr.same (aa.new (o:=.tup [V.int t,V.ref ta]) hpz);have e3:ar H2 pz (.tup [V.int t,V.ref ta]) pz=some (.tup [V.int t,V.ref ta]):=aw;generalize ar H2 pz (.tup [V.int t,V.ref ta])=H3 at *;show cA (V1.ip _ (aY hq)) λi0 i1' j0 j1=>?_;simp only[iV,g_,jw,bU,List.set_cons_zero,List.set_cons_succ];show aM pz _ ⟨rfl,aE.of e3,rfl,_,_,rfl,_,_,rfl,rfl,?_⟩;have b6:=(g9 (i:=tl) (B:=6) V1.sz).1;have b6h:=(g9 (i:=hd) (B:=6) V2.sz).1;have b36:=jM (i:=tl) (j:=hd) V1.sz V2.sz;show⟨_,rfl,t2,_,_,_,rfl,rfl,aE.of (s3 _ _ P2.1),rfl,_,rfl,ta,_,_,_,rfl,rfl,aE.of (s3 _ _ hta),rfl,z2,_,_,_,rfl,rfl,aj.of (s3 _ _ P2.2.1.1),kv P2.2.1 j0 ∅,(nt ns' hd:Nat),rfl,ju _,jt (cD b6h ⇑0),?_⟩;rw[fG];show hO (n:=nt ns' hd) (λi σ H4=>∃ (v7 v8 v9:Option V) (rs:List Addr),σ=[⇑p,↥a,↥t1,↥t2,↥R,⇑t,↥ta,v7,v8,v9]/\aa H H4/\cJ H H4 p R rs (dM p ns ns' ps Ms Ms' t++fT p ns ns' (tl,hd) (Ms.getD t []) (Ms'.getD t []) i)) ⟨v7,v8,v9,rs,rfl,s3,by rw[show fT p ns ns' (tl,hd) (Ms.getD t []) (Ms'.getD t []) 0=[] from rfl,r9];show mr3⟩ ?_ ?_
  .intro i σ H4 hi e92;show jR e92 λv7 v8 v9 rs4 e915 s4 mr4=>?_;clear e92;obtain rfl:=e915;show fQ λD4 hD4=>?_;simp only[bU,List.set_cons_zero,List.set_cons_succ];have bs:=Aa p ns ns' (tl,hd) (Ms.getD t []) (Ms'.getD t []) i;have bl:=vq (p:=p) (ns1:=ns) (ns2:=ns') (q:=(tl,hd)) (A1:=Ms.getD t []) (A2:=Ms'.getD t []) i;have i36:(i+1)*nt ns tl<=36:=cD (gg hi (aQ _)) b36;rw[o6] at i36;have bl:(fT p ns ns' (tl,hd) (Ms.getD t []) (Ms'.getD t []) i).length+nt ns tl<=36:=by rw[bl];show i36
   rw[j8];show⟨_,rfl,t1,_,_,_,rfl,rfl,aE.of (s4 _ _ P1.1),rfl,_,rfl,ta,_,_,_,rfl,rfl,aE.of (s4 _ _ hta),rfl,z1,_,_,_,rfl,rfl,aj.of (s4 _ _ P1.2.1.1),kv P1.2.1 i0 ∅,(nt ns tl:Nat),rfl,ju _,jt (cD b6 ⇑0),?_⟩;rw[fG];show hO (n:=nt ns tl) (λj σ H5=>∃ (v8 v9:Option V) (rs:List Addr),σ=[⇑p,↥a,↥t1,↥t2,↥R,⇑t,↥ta,⇑i,v8,v9]/\aa H H5/\cJ H H5 p R rs (dM p ns ns' ps Ms Ms' t++fT p ns ns' (tl,hd) (Ms.getD t []) (Ms'.getD t []) i++(List.range j).map λj=>g6 p ns ns' (tl,hd) (Ms.getD t []) (Ms'.getD t []) i j)) ⟨v8,v9,rs4,rfl,s4,by rw[List.range_zero,List.map_nil,r9];show mr4⟩ ?_ ?_
   .intro j σ H5 hj e93;show iD e93 λv8 v9 rs5 e916 s5 mr5=>?_;clear e93;obtain rfl:=e916;have l5:rs5.length<=900:=by
     rw[mr5.2.1.1,bN,bN,aB,dq];have:=V1.p9;show oz41 ht dl bl hj this
    left;rw[j8];show⟨.inl ⟨rfl,_,aj.of mr5.1⟩,⇑0,λsp hsp=>?_⟩;have s6:=aa.new (o:=.tup [V.int i,V.int j]) hsp;have q6:(ar H5 sp (.tup [V.int i,V.int j])) sp=some (.tup [V.int i,V.int j]):=aw;generalize ar H5 sp (.tup [V.int i,V.int j])=H6 at *;have s56:=s5.trans s6;show⟨ta,t1,t2,z1,l1,z2,l2,sp,p,m,tl,hd,t,i,j,ps,ns,ns',Ms,Ms',rfl,s56 _ _ hta,hq,q6,hi,hj,P1.same s56,P2.same s56,hp,V1,V2,λRw H7 s7 fRw rv=>?_⟩;have mr7:=mr5.same (s6.trans s7);subst hD4;show⟨_,mr7.1,cT (by rw[aB];omega),_,_,⟨rfl,rfl⟩,(s56.trans s7).upd hR,rs5++[Rw],?_⟩;have:=mr7.add rv (bV (s6 _ _ mr5.1) fRw).symm (s56.free fRw);rw[i_,dW,<- wu];show this
   .intro σ H5 e94;show iD e94 λv8 v9 rs5 e917 s5 mr5=>?_;clear e94;obtain rfl:=e917;subst hD4;rw[wu,<- bs] at mr5;show jc _ v8 v9 rs5 ⟨rfl,s5,mr5⟩
  .intro σ H4 e95;show jR e95 λv7 v8 v9 rs4 e918 s4 mr4=>?_;clear e95;obtain rfl:=e918;subst hD2;rw[show dM p ns ns' ps Ms Ms' t++fT p ns ns' (tl,hd) (Ms.getD t []) (Ms'.getD t []) (nt ns' hd)=dM p ns ns' ps Ms Ms' (t+1) from ds.symm] at mr4;show oH _ _ v7 v8 v9 rs4 ⟨rfl,s4,mr4⟩
 .intro σ H2 e96;show uS e96 λv5 v6 v7 v8 v9 rs e919 s2 mr=>?_;clear e96;obtain rfl:=e919;subst hX;dsimp only;show bG λX hX=>?_;left;rw[hxl] at mr;have n8:=P1.2.1.2.1;have hz2:=s2 _ _ P1.2.1.1;have hz2':=s2 _ _ P2.2.1.1;show⟨_,rfl,t1,_,_,_,rfl,rfl,aE.of (s2 _ _ P1.1),rfl,_,rfl,t2,_,_,_,rfl,rfl,aE.of (s2 _ _ P2.1),rfl,z1,z2,rfl,⟨_,aj.of hz2⟩,⟨_,aj.of hz2'⟩,λD hD=>?_⟩;show xF (k:=2) (xs:=ns.map V.int) (ys:=ns'.map V.int) (λi vs H'=>aa H2 H'/\H' D=some (.lst vs)/\vs=((List.zipWith (λa b=>a*b) ns ns').take i).map V.int) (by rw[aB,aB];show oz22 hl1 hl2) ⟨aa.new hD,aw,rfl⟩ (λi vs H' _ pv=>⟨aj.of (pv.1 _ _ hz2),aj.of (pv.1 _ _ hz2')⟩) ?_ ?_
  .intro i x y pz vs σ' H' hi hx hy hpz sh e97;show bC e97 λs' e' e920=>?_;clear e97;obtain rfl:=e920;show eV sh.two λc1 c2 e921=>?_;obtain rfl:=e921;show ao (jW hx) λn fa e922=>?_;obtain rfl:=e922;show ao (jW hy) λn' fb e923=>?_;obtain rfl:=e923;have s0:=s'.trans (aa.new (o:=.tup [V.int n,V.int n']) hpz);show aM pz _ ⟨rfl,aE.of aw,rfl,_,_,rfl,_,_,rfl,rfl,?_⟩;simp only[dh,List.set_cons_zero,List.set_cons_succ,fm,cy];left;have nn:=V1.sz n (aY fa);have nn':=V2.sz n' (aY fb);have ei:i<ns.length:=(b_.mp fa).1;show⟨(tN nn.1 ∅).mul (tN nn'.1 ∅),gj (ws:=((List.zipWith (λa b=>a*b) ns ns').take (i+1)).map V.int) hi Sh.mk2 ((aa.new hpz) _ _ e') (cT (by rw[aB,i8];show oz36 n8 ei)) ⟨s0.upd hD,?_,rfl⟩⟩;rw[aw,List.take_succ,yr,fa,fb,dW];rfl
  .intro vs H3 e98;show bC e98 λs3 e3 e924=>?_;clear e98;obtain rfl:=e924;rw[aB,yt (by rw[r_];omega)] at e3;show⟨D,rfl,_,aj.of e3,?_⟩;rw[r_,show min ns.length ns'.length=ns.length by omega,EN (λn h=>(V1.sz n h).1) (λn h=>(V2.sz n h).1) ∅ ns.length (aQ _)];have mr3:=mr.same s3;have s03:=s2.trans s3;have rl:rs.length=(dM p ns ns' ps Ms Ms' ps.length).length:=mr3.2.1.1;have dl:=uI (p:=p) (ps:=ps) (Ms1:=Ms) (Ms2:=Ms') V1.sz V2.sz ps.length;subst hX;left;have sz2:∀ n∈ns,0<=n/\n<=2:=λn h=>⟨(V1.sz n h).1,h2 n h⟩
   have sz2':∀ n∈ns',0<=n/\n<=2:=λn h=>⟨(V2.sz n h).1,h2' n h⟩
   have d2:=Dm (p:=p) (ps:=ps) (Ms1:=Ms) (Ms2:=Ms') sz2 sz2' ps.length;have p9:=V1.p9;have st2:=vj ns.length (B:=2) (λn h=>(V1.sz n h).1) sz2' (aQ _);rw[wm] at st2;have hw:∀ xs∈dM p ns ns' ps Ms Ms' ps.length,xs.length=stN ns ns' ns.length:=λxs hx=>by
    show cK (vn hx) λ_ _ _ _ _ _ e925=>?_;obtain rfl:=e925;show Ej ..
   have gd:=m5 hp V1 V2 bb1 bb2;generalize dM p ns ns' ps Ms Ms' ps.length=M at *;generalize stN ns ns' ns.length=tt at *;show⟨_,.inl (aj.of mr3.1),⇑0,λt ht=>?_⟩;rw[aB,rl];have s4:=aa.new (o:=.tup [V.int (M.length:Nat),V.int (tt:Nat),V.ref R]) ht;show jE p t R rs 122 M.length tt M ⟨rfl,hp,⟨⟨aw,s4 _ _ mr3.1,mr3.2.1.mono λ_ _ q=>q.same s4,mr3.2.2.1⟩,rfl,hw,gd⟩,⇑0,∅,∅,λh0=>?_,λt' tm r' rs' M' pl H5 s5 ht' _ _ lr=>⟨_,rfl,_,aE.of ht',_,rfl,_,rfl,q pl.length H5 ((s03.trans s4).trans s5) (uD rfl lr)⟩⟩;have h4:tt<=8:=by have:=hs0 h0;omega
   show cD (gg (aQ _) (wH ⇑0 h4)) ⇑0
end
section
variable {p m:Int}{ps:List (Int×Int)}{ns1 ns2:List Int}{Ns Ms Ls:List Mv}
theorem GT {F:Type}[Lean.Grind.Field F]{h w:Nat}{L M S T S' T':Nat->Nat->F}(hL:∀ i k,i<h->k<w->L i k=sm h λa=>S i a*sm w λb=>M a b*T b k)(hh:∀ i j,i<h->j<h->mm h S' S i j=del i j)(hw:∀ i j,i<w->j<w->mm w T T' i j=del i j):∀ i k,i<h->k<w->M i k=sm h λa=>S' i a*sm w λb=>L a b*T' b k:=λi k hi hk=>by
 have e1:∀ a,a<h->sm w (λb=>L a b*T' b k)=sm h λc=>S a c*M c k:=λa ha=>by
  rw[aO (n:=w) (g:=λb=>mm h S (mm w M T) a b*T' b k) λb hb=>by rw[hL a b ha hb]];change mm w (mm h S (mm w M T)) T' a k=_;rw[xG];show aO λc hc=>?_;rw[xG];change S a c*sm w (λd=>M c d*mm w T T' d k)=_;rw[aO (n:=w) (g:=λd=>M c d*(if d=k then 1 else 0)) λd hd=>by rw[hw d k hd hk],tE (λd=>M c d) hk]
 rw[aO (n:=h) (g:=λa=>S' i a*mm h S M a k) λa ha=>by rw[e1 a ha]];change _=mm h S' (mm h S M) i k;rw[<- xG];change _=sm h λa=>mm h S' S i a*M a k;rw[aO (n:=h) (g:=λa=>M a k*(if i=a then 1 else 0)) λa ha=>by rw[hh i a hi ha];grind];show (oV (λa=>M a k) hi).symm
theorem q_ {F:Type}[Lean.Grind.Field F](hp:af p)(hF:aK p F){ns:List Int}{Cs Bs:List Mv}{t:Nat}{q:Int×Int}(hq:ps.getD t (0,0)=q)(hM:eP p (nz ns q.2) (nz ns q.1) (Ms.getD t []))(hC:eP p (nz ns q.1) (nz ns q.1) (Cs.getD q.1.toNat []))(hB:eP p (nz ns q.2) (nz ns q.2) (Bs.getD q.2.toNat [])){i k:Nat}(hi:i<nz ns q.2)(hk:k<nz ns q.1):(vN ((chM p ns ps Bs Ms Cs t).getD i []) k:F)=sm (nz ns q.2) λa=>vN ((Bs.getD q.2.toNat []).getD i []) a*sm (nz ns q.1) λb=>vN ((Ms.getD t []).getD a []) b*vN ((Cs.getD q.1.toNat []).getD b []) k:=by
 unfold chM;rw[hq,vw hp hF hB (zO hp hM hC) hi hk];show aO λa ha=>by rw[vw hp hF hM hC ha hk]
theorem qZ {Cs Bs:List Mv}{rk rk':Nat}(hp:af p)(V1:au p m ps ns1 Ns)(V2:au p m ps ns2 Ms)(V3:au p m ps ns2 Ls)(hl:ns1.length=ns2.length)(hch:∀ u,u<ns2.length->eP p (nz ns2 (u:Int)) (nz ns2 (u:Int)) (Cs.getD u [])/\eP p (nz ns2 (u:Int)) (nz ns2 (u:Int)) (Bs.getD u [])/\cY p (Bs.getD u []) (Cs.getD u []) (nz ns2 (u:Int))=di (nz ns2 (u:Int))/\cY p (Cs.getD u []) (Bs.getD u []) (nz ns2 (u:Int))=di (nz ns2 (u:Int)))(hL:∀ t,t<ps.length->Ls.getD t []=chM p ns2 ps Bs Ms Cs t)(hA:cq p (dMr p ns1 ns2 ps Ns Ms).length (stN ns1 ns2 ns1.length) (dMr p ns1 ns2 ps Ns Ms) rk)(hB:cq p (dMr p ns1 ns2 ps Ns Ls).length (stN ns1 ns2 ns1.length) (dMr p ns1 ns2 ps Ns Ls) rk'):rk'=rk:=by
 obtain⟨F,_,hF⟩:=oE hp;have un:∀ (X Y:List Mv) u,u<ns2.length->eP p (nz ns2 (u:Int)) (nz ns2 (u:Int)) (X.getD u [])->eP p (nz ns2 (u:Int)) (nz ns2 (u:Int)) (Y.getD u [])->cY p (X.getD u []) (Y.getD u []) (nz ns2 (u:Int))=di (nz ns2 (u:Int))->∀ k l,k<nz ns2 (u:Int)->l<nz ns2 (u:Int)->sm (nz ns2 (u:Int)) (λx=>(vN ((X.getD u []).getD k []) x:F)*vN ((Y.getD u []).getD x []) l)=del k l:=λX Y u hu mX mY e k l hk hl=>by
  rw[<- vw hp hF mX mY hk hl,e];show vv hk hl
 have nzu:∀ u:Nat,nz ns2 (u:Int)=(ns2.getD u 0).toNat:=λu=>by unfold nz;rw[fG]
 have hm:=V2.hm;have pos:∀ (t:Nat) q,ps[t]?=some q->q.1.toNat<ns2.length/\q.2.toNat<ns2.length/\((q.1.toNat:Nat):Int)=q.1/\((q.2.toNat:Nat):Int)=q.2:=λt q hq=>by
  show cA (V2.ip _ (aY hq)) λi0 i1 j0 j1=>?_;omega
 have BC:∀ u k l,u<ns1.length->k<(ns2.getD u 0).toNat->l<(ns2.getD u 0).toNat->sm (ns2.getD u 0).toNat (λx=>(vN ((Bs.getD u []).getD k []) x:F)*vN ((Cs.getD u []).getD x []) l)=del k l:=λu k l hu hk hl'=>by
  show cA (hch u (bM hl hu)) λmC mB e1 e2=>?_;have:=un Bs Cs u (bM hl hu) mB mC e1 k l (by rw[nzu];show hk) (by rw[nzu];show hl');rw[nzu] at this;show this
 have CB:∀ u k l,u<ns1.length->k<(ns2.getD u 0).toNat->l<(ns2.getD u 0).toNat->sm (ns2.getD u 0).toNat (λx=>(vN ((Cs.getD u []).getD k []) x:F)*vN ((Bs.getD u []).getD x []) l)=del k l:=λu k l hu hk hl'=>by
  show cA (hch u (bM hl hu)) λmC mB e1 e2=>?_;have:=un Cs Bs u (bM hl hu) mC mB e2 k l (by rw[nzu];show hk) (by rw[nzu];show hl');rw[nzu] at this;show this
 have lead:∀ (t:Nat) q i k,ps[t]?=some q->i<nt ns2 q.2->k<nt ns2 q.1->(vN ((Ls.getD t []).getD i []) k:F)=sm (nt ns2 q.2) λa=>vN ((Bs.getD q.2.toNat []).getD i []) a*sm (nt ns2 q.1) λb=>vN ((Ms.getD t []).getD a []) b*vN ((Cs.getD q.1.toNat []).getD b []) k:=λt q i k hq hi hk=>by
  show cA (pos t q hq) λh1 h2 e1 e2=>?_;have eq:ps.getD t (0,0)=q:=by rw[aW,hq];rfl
  obtain⟨s1,s2⟩:=V2.sh t q hq;obtain⟨mC,_⟩:=hch q.1.toNat h1;show bC (hch q.2.toNat h2) λ_ mB _=>?_;rw[e1] at mC;rw[e2] at mB;rw[hL t (b_.mp hq).1];show q_ hp hF eq ⟨s1,λxs hx=>(s2 xs hx).1,λxs hx x hxx=>((s2 xs hx).2 x hxx).1⟩ mC mB hi hk
 show Nat.le_antisymm (CN hp hF V1 V2 V3 (λu i a=>vN ((Bs.getD u []).getD i []) a) (λu i a=>vN ((Cs.getD u []).getD i []) a) BC CB lead (n:=0) (n':=0) (hA F hF) (hB F hF)) (CN hp hF V1 V3 V2 (λu i a=>vN ((Cs.getD u []).getD i []) a) (λu i a=>vN ((Bs.getD u []).getD i []) a) CB BC (λt q i k hq hi hk=>?_) (n:=0) (n':=0) (hB F hF) (hA F hF));show cA (pos t q hq) λh1 h2 _ _=>?_;show GT (λi k hi hk=>lead t q i k hq hi hk) (λi j hi hj=>CB q.2.toNat i j ∅ hi hj) (λi j hi hj=>CB q.1.toNat i j ∅ hi hj) i k hi hk
end
section
variable {C PL:Addr}
def yH (S C G PL:Addr):L2.Sp:=λvs H Q _=>∃ (x y z:Addr) (p m:Int) (ps:List (Int×Int)) (ns ns' np:List Int) (Ms Ms' Np:List Mv),vs=[.ref x,.ref y,.ref z]/\fP S C G H x p m ps ns Ms/\fP S C G H y p m ps ns' Ms'/\fP S C G H z p m ps np Np/\af p/\au p m ps ns Ms/\au p m ps ns' Ms'/\au p m ps np Np/\H PL=some lamO /\
 ∀ (r1 r2:Nat) H',aa H H'->cq p (dMr p np ns ps Np Ms).length (stN np ns np.length) (dMr p np ns ps Np Ms) r1->cq p (dMr p np ns' ps Np Ms').length (stN np ns' np.length) (dMr p np ns' ps Np Ms') r2->Q (.bl (!decide ((V.int ((stN np ns np.length:Nat)-(r1:Nat)):V)=V.int ((stN np ns' np.length:Nat)-(r2:Nat))))) H'
theorem qa (F:⇑("lets_by_unlike",Bm))(T:⇑())(Yav:⇑("is_beside",2,spBsd S C G))(Yat:⇑("count_maps",9,spCm S C G PL)):⇑[10,["standing","other","part"],yH S C G PL]:=by
 exists J3,CT,12
 show CU h λx y z p m ps ns ns' np Ms Ms' Np e92 sx sy e93=>?_;clear h;subst e92;show uN e93 λsz hp V1 V2 V3 hPL q=>?_;clear e93;show oG (id sx) λdx g d zx l lp xs stx=>?_;show oG (id sy) λdy gy dy' zy ly lpy ys sty=>?_;show oG (id sz) λdz gz dz' zz lz lpz zs stz=>?_;have ax:nW S C G H x p m ns dx g d zx l lp xs:=⟨stx.ins,stx.grd,stx.drw,stx.szs,V1.hm⟩
 have ay:nW S C G H y p m ns' dy gy dy' zy ly lpy ys:=⟨sty.ins,sty.grd,sty.drw,sty.szs,V2.hm⟩
 have az:nW S C G H z p m np dz gz dz' zz lz lpz zs:=⟨stz.ins,stz.grd,stz.drw,stz.szs,V3.hm⟩
 show⟨_,((@bI _ _ _ _ _ _ _ _ (PW.pt (fM (d_ (eY (Yav<$>hr<$>((ae 0)<&>((ae 1)<&>ah))))) (gG (d_ (eY (Yav<$>hr<$>((ae 0)<&>((ae 2)<&>ah)))))))) (~~~fX) bJ)<*>(~~~(i4 fW (Yat<$>hr<$>((ae 2)<&>((ae 0)<&>ah))) (Yat<$>hr<$>((ae 2)<&>((ae 1)<&>ah))) (bo _)))),?_⟩;show bG λX hX=>?_;left;show⟨x,dx,g,d,zx,l,lp,y,dy,gy,dy',zy,ly,lpy,p,m,xs,ys,ps,ns,ns',rfl,ax,stx.prs,ay,sty.prs,λH1 s1=>⟨true,rfl,eE ⇑0 ⟨x,dx,g,d,zx,l,lp,z,dz,gz,dz',zz,lz,lpz,p,m,xs,zs,ps,ns,np,rfl,ax.same s1,stx.prs.same s1,az.same s1,stz.prs.same s1,λH2 s2=>⟨true,rfl,eE ⇑0 ?_⟩⟩⟩⟩;have s02:=s1.trans s2;subst hX;left;show uX z x p m ps np ns Np Ms ⟨rfl,sz.same s02,sx.same s02,hp,V3,V1,s02 _ _ hPL,λr1 H3 s3 k1=>⟨z,y,p,m,ps,np,ns',Np,Ms',rfl,sz.same (s02.trans s3),sy.same (s02.trans s3),hp,V3,V2,(s02.trans s3) _ _ hPL,λr2 H4 s4 k2=>?_⟩⟩;show⟨rfl,q r1 r2 H4 ((s02.trans s3).trans s4) k1 k2⟩
def spUl (S C G PL:Addr):L2.Sp:=λvs H Q E=>∃ (x pa y z:Addr),vs=[.ref x,.ref pa]/\H pa=some (.tup [.str "unlike",.ref y,.ref z])/\yH S C G PL [.ref x,.ref y,.ref z] H Q E
theorem uj (F:⇑("lets_by",Ak))(T:⇑())(Ybz:⇑("lets_by_unlike",10,yH S C G PL)):⇑[11,["standing","paper"],spUl S C G PL]:=by
 exists Jk,nI,4
 show jR h λx pa y z e95 hpa q=>?_;clear h;subst e95;show⟨_,((@bI _ _ _ _ _ _ _ _ (PW.pt (fM (d_ (eY (cg iJ rfl T.n_isinstance iP ((ae 1)<&>((iW rfl T.n_tuple boot_tuple)<&>ah))))) (gG (d_ (Hj (ae 1) (λ_=>rfl)))))) (~~~fX) bJ)<*>((@bI _ _ _ _ _ _ _ _ (PW.pt (tj (bX dI ((cP bq)<|>(ae 1)<||>aq) vf (bo _)) (tD (bX dI (cg h_ rfl T.n_len ig ((ae 1)<&>ah)) aq (bo _))))) (@bE _ _ _ kI) bJ)<*>((@bI _ _ _ _ _ _ _ _ (PW.pt (tj (bX dI ((cP bq)<|>(ae 1)<||>aq) vf (bo _)) (tD (bX dI (cg h_ rfl T.n_len ig ((ae 1)<&>ah)) aq (bo _))))) (@bE _ _ _ kI) bJ)<*>((@bI _ _ _ _ _ _ _ _ (PW.pt (tj (bX dI ((cP bq)<|>(ae 1)<||>aq) vf (bo _)) (tD (bX dI (cg h_ rfl T.n_len ig ((ae 1)<&>ah)) aq (bo _))))) (~~~(Ybz<$>hr<$>((ae 0)<&>(((cP bq)<|>(ae 1)<||>aq)<&>(((cP bq)<|>(ae 1)<||>aq)<&>ah))))) bJ)<*>(@bE _ _ _ kI))))),?_⟩;show bG λX hX=>?_;left;show aM _ _ ⟨⟨rfl,rfl⟩,_,rfl,_,.tup hpa,true,Ap K,eE ⇑0 ⟨true,.inr (.inl ⟨_,aE.of hpa,rfl⟩),eE ⇑0 ?_⟩⟩;subst hX;show bG λX hX=>?_;left;show⟨_,aE.of hpa,_,rfl,rfl,eE ⇑0 ?_⟩;subst hX;show bG λX hX=>?_;left;show⟨_,aE.of hpa,_,rfl,rfl,eE ⇑0 ?_⟩;subst hX;left;show⟨_,aE.of hpa,_,rfl,rfl,oy ⇑0 ⟨_,.inr (aE.of hpa),oy (cf rfl) ⟨_,aE.of hpa,_,rfl,_,aE.of hpa,_,rfl,?_⟩⟩⟩;show q
noncomputable abbrev sgN (m pt:Nat)(sz:Int):List Int:=(List.range m).map λk=>if k=pt then sz else 0
theorem DP {pt:Nat}{sz:Int}(h0:0<=sz):∀ m,(sgN m pt sz).sum=if pt<m then sz else 0
 | 0=>rfl
 | m+1=>by
  have e:sgN (m+1) pt sz=sgN m pt sz++[if m=pt then sz else 0]:=by rw[sgN,i_,dW];rfl
  rw[e,List.sum_append,DP h0 m,List.sum_singleton];by_cases h1:pt<m
  .rw [if_pos h1,if_neg ∅,if_pos ∅];omega
  .by_cases h2:m=pt
   .rw [if_neg h1,if_pos h2,if_pos ∅];omega
   .rw [if_neg h1,if_neg h2,if_neg ∅];rfl
noncomputable abbrev noM (ns:List Int)(q:Int×Int):Mv:=List.replicate (nz ns q.2) (List.replicate (nz ns q.1) (0,1))
def spSgl:L2.Sp:=λvs H Q _=>∃ (a:Addr) (p:Int) (m pt:Nat) (sz:Int) (xs:List V) (ps:List (Int×Int)),vs=[.int p,.int m,.ref a,.int pt,.int sz]/\af p/\H a=some (.lst xs)/\dw H xs ps/\jD (m:Int) ps/\ps.length<=9/\m<=8/\pt<m/\0<=sz/\sz<=2 /\
 ∀ (t z tl:Addr) (ns:List Int) (ts:List Addr) (Ms:List Mv) (H':Hp),aa H H'->H t=none->H' t=some (.tup [.ref z,.ref tl])->H z=none->H' z=some (.lst (ns.map V.int))->(ns.length:Int)=m->(∀ n∈ns,0<=n/\n<=2)->ns.sum<=7->(p=0->ns.sum<=4)->GL H H' p 60 tl ts (tds ns ps) Ms->Q (.ref t) H'
theorem qe (F:⇑("_law_single",AY))(T:⇑())(Yac:⇑("_law_int",1,rD)):⇑[2,["_law_p","_law_many","_law_arrows","_law_point","_law_size"],spSgl]:=by
 exists JJ,uT,7
 show sT h λa p m pt sz xs ps e94 hp ha e95=>?_;clear h;subst e94;show jJ e95 λpr ip p9 h8 hpt z0 z2 q=>?_;clear e95;show⟨_,((gs (i:=5) nd rfl (Or.inr rfl) (dR (own:=["_law_k"]) (fr:=[("_law_size",4),("_law_point",3)]) rfl (cW (by kernel_rfl)) (fv rfl T.n_range ((pv 1)<&>ah)) (λ_ _ _ _=>⟨(0<<<["_law_k","_law_size","_law_point"]),df,(jV<|>(pv 1)<&&>(ku xM rfl T.n_int boot_int ((i4 dI (pv 0) (pv 2) (bo _))<&>ah)))⟩)))<*>((6|||nd|||(@dJ _ _ _ _ ah))<*>((dt cX rfl (eJ (pv 2)) (@dY _ _ _ _ _ 2 rfl ((@oW _ _ 7 _ nd rfl (Or.inr rfl) (Or.inl rfl))^^^((8>>>nd)^^^(@cU _))) ⇑1 ⇑1) ((oO (i:=9) (own:=["_law_k"]) (fr:=[("_law_p",0),("_law_sizes",5),("_law_tail",7)]) rfl (cW (by kernel_rfl)) (fv rfl T.n_range ((a_<|>(pv 5)<||>(pv 8))<&>ah)) (λ_ _ _ _=>⟨(0<<<["_law_k","_law_p","_law_sizes","_law_tail"]),df,(yV<|>(@dJ _ _ _ _ ((Yac<$>hr<$>((pv 1)<&>(aq<&>ah)))<&>ah))<&&>((kH K rfl)<|>(pv 2)<||>(pv 3)))⟩) nd rfl rfl rfl)<*>(@bE _ _ _ (gK (gk gC gU gT (mtJ gq) (ae 6) ((@bQ _ _ _ _ _ (((ixJ a_)<|>(ae 5)<||>(ae 8))<&>(((ixJ a_)<|>(ae 5)<||>(ae 7))<&>((ae 9)<&>ah))))<&>ah))))))<*>(~~~(@bQ _ _ _ _ _ ((ae 5)<&>((ae 6)<&>ah))))))),?_⟩;show bG λX hX=>?_;left;show⟨_,rfl,m,rfl,∅,∅,λD hD=>?_⟩;show z_ (n:=m) (λi _ y=>y=.int (if i=pt then sz else 0)) (λr _=>r) (λr _=>r) hD ∅ (λi H1 Q1 hi s1 _ q1=>?_) (λys H1 s1 hD1 yl hys=>?_)
 .left;simp only[cy];rw[j8];show⟨_,rfl,_,rfl,rfl,sz,rfl,.inl ⟨∅,∅⟩,q1 _ H1 (aa.refl _) ?_⟩;by_cases c:i=pt
  .subst c;rw[cf rfl,if_pos rfl,if_pos rfl,Int.mul_one]
  .rw [d6 (λz=>c (by have:=V.int.inj z;omega)),if_neg c,if_neg ⇑0,Int.mul_zero]
 .obtain rfl:=zo yl hys;clear hys yl;change H1 D=some (.lst ((sgN m pt sz).map V.int)) at hD1;have hbl:(sgN m pt sz).length=m:=by unfold sgN;rw[aB,dq]
  have hb1:∀ n∈sgN m pt sz,0<=n/\n<=2:=λn hn=>by
   show ao (bR.mp hn) λk _ e96=>?_;obtain rfl:=e96;split
   .exact ⟨z0,z2⟩
   .exact ⟨⇑0,⇑0⟩
  have hsm:(sgN m pt sz).sum<=2:=by rw[DP z0,if_pos hpt];show z2
  generalize sgN m pt sz=ns at *;have h00:=j4 hp;subst hX;show bG λX hX=>?_;left;show⟨fE _,λtb htb=>?_⟩;have nDt:D≠tb:=bV hD1 htb;have ftb:H tb=none:=s1.free htb;have s2:=s1.trans (aa.new (o:=.lst []) htb);have hD2:=(aa.new (o:=.lst []) htb) _ _ hD1;have q2:(ar H1 tb (.lst [])) tb=some (.lst []):=aw;generalize ar H1 tb (.lst [])=H2 at *;subst hX;show bG λX hX=>?_;show⟨_,rfl,a,rfl,⟨_,aj.of (s2 _ _ ha)⟩,tH (xs:=xs) (λi σ H3=>∃ (v7 v8 v9:Option V) (ts:List Addr),σ=[⇑p,⇑m,↥a,⇑pt,⇑sz,↥D,↥tb,v7,v8,v9]/\aa H H3/\H3 D=some (.lst (ns.map V.int))/\H3 tb=some (.lst (ts.map V.ref))/\ts.length=i/\∀ (j:Nat) t q,ts[j]?=some t->ps[j]?=some q->∃ r rs,aU H3 p 60 (nz ns q.2) (nz ns q.1) t r rs (noM ns q)/\fZ H t r rs/\r≠tb/\tb∉rs)
   ⟨none,none,none,[],rfl,s2,hD2,q2,rfl,λj t q e=>by simp at e⟩ (λi σ H3 _ ⟨_,_,_,_,_,s3,_⟩=>aj.of (s3 _ _ ha)) ?_ ?_⟩
  .intro i x σ H3 hx e91;show cZ e91 λv7 v8 v9 ts e97 s3 hD3 e98=>?_;clear e91;obtain rfl:=e97;show bC e98 λht3 tl tab=>?_;clear e98;show fQ λD2 hDD=>?_;have hi:i<ps.length:=by have:=pr.1;have:=(b_.mp hx).1;omega
   have hq:ps[i]?=some ps[i]:=aG hi;show ao ((pr.same s3).2 i x _ hx hq) λta e99 hta=>?_;obtain rfl:=e99;show cA (ip _ (aY hq)) λi0 i1 j0 j1=>?_;generalize ps[i]=qq at *;have a1:=rE (ns:=ns) i0 ∅;have a2:=rE (ns:=ns) j0 ∅;have c1:=hb1 (ns.getD qq.1.toNat 0) (bD (oz61 hpt hbl i1));have c2:=hb1 (ns.getD qq.2.toNat 0) (bD (oz61 hpt hbl j1));simp only[iV,g_,jw,bU,List.set_cons_zero,List.set_cons_succ];show aM ta _ ⟨rfl,aE.of hta,rfl,_,_,rfl,_,_,rfl,rfl,?_⟩;show bG λX2 hX2=>?_;left;show⟨_,rfl,_,rfl,D,_,_,_,rfl,rfl,aj.of hD3,a2,_,rfl,∅,∅,λD3 hD3'=>?_⟩;show z_ (n:=(ns.getD qq.2.toNat 0).toNat) (λ_ Hc y=>∃ c,y=.ref c/\aV Hc p c (List.replicate (ns.getD qq.1.toNat 0).toNat (0,1))/\c≠D3/\H3 c=none) (λ⟨c,e,r,n⟩ s=>⟨c,e,r.same s,n⟩) (λ⟨c,e,r,n1,n2⟩ hD=>⟨c,e,r.put hD n1,n1,n2⟩) hD3' ∅ (λk H7 Q7 hk s7 ⟨lD,hlD⟩ q7=>?_) (λys H7 s7 hD7 yl hys=>?_)
   .simp only [cy];left;show⟨_,rfl,p,0,rfl,hp,λva H8 s8 na=>⟨⇑0,λp0 hp0=>?_⟩⟩;rw[Av] at na;have s9:=s8.trans (aa.new (o:=.lst [va]) hp0);have q9:(ar H8 p0 (.lst [va])) p0=some (.lst [va]):=aw;have na9:=na.same (aa.new (o:=.lst [va]) hp0);generalize ar H8 p0 (.lst [va])=H9 at *;have s39:=s7.trans s9;show⟨_,rfl,_,rfl,D,rfl,_,_,rfl,aj.of (s39 _ _ hD3),_,a1,p0,_,_,rfl,rfl,q9,∅,∅,by show 1*_<=_;show cD (show 1*_<=1000 by omega) ⇑0,λRw hRw=>?_⟩;rw[EC];have s10:=aa.new (o:=.lst (List.replicate (ns.getD qq.1.toNat 0).toNat va)) hRw;show q7 (.ref Rw) _ (s9.trans s10) ⟨Rw,rfl,⟨_,aw,by rw[eM,eM],λk v x e1 e2=>?_⟩,(bV (s9 _ _ hlD) hRw).symm,s39.free hRw⟩;rw[(iQ.mp (aY e2)).2,(iQ.mp (aY e1)).2];show na9.same s10
   .refine ao (vt hys) λrs e910 hrs=>?_;obtain rfl:=e910;rw[aB] at yl;have nb3:D3≠tb:=(bV ht3 hD3').symm;subst hX2;left;have ht7:=s7 _ _ ht3;have hD7':=s7 _ _ hD3;show⟨.inl ⟨rfl,_,aj.of ht7⟩,_,aj.of hD7',_,a2,_,aj.of hD7',_,a1,⇑0,λt ht=>?_⟩;have s8:=aa.new (o:=.tup [V.int (ns.getD qq.2.toNat 0),V.int (ns.getD qq.1.toNat 0),V.ref D3]) ht;have q8:(ar H7 t (.tup [V.int (ns.getD qq.2.toNat 0),V.int (ns.getD qq.1.toNat 0),V.ref D3])) t=some (.tup [V.int (ns.getD qq.2.toNat 0),V.int (ns.getD qq.1.toNat 0),V.ref D3]):=aw;generalize ar H7 t (.tup [V.int (ns.getD qq.2.toNat 0),V.int (ns.getD qq.1.toNat 0),V.ref D3])=H8 at *;have s38:=s7.trans s8;have ht8:=s38 _ _ ht3;have f3:∀ c∈rs,c≠D3/\H3 c=none:=λc hc=>by
     obtain⟨k,e⟩:=BS.mp hc;show bC (hrs k c e) λ_ b d=>?_;show⟨b,d⟩
    have nin:D3∉rs:=λz=>(f3 _ z).1 rfl;have ntb:tb∉rs:=λz=>by have:=(f3 _ z).2;rw[ht3] at this;cases this
    have nw:fZ H t D3 rs:=⟨(s3.trans s7).free ht,s3.free hD3',λc hc=>s3.free (f3 c hc).2⟩
    have tbn:aU H8 p 60 (nz ns qq.2) (nz ns qq.1) t D3 rs (noM ns qq):=by
     show⟨⟨?_,s8 _ _ hD7,⟨by rw[eM];show yl,λk c x e1 e2=>?_⟩,nin⟩,eM,λxs hx=>?_,λxs hx x hxx=>?_⟩
     .rw [q8];change some (HO.tup [V.int (ns.getD qq.2.toNat 0),V.int (ns.getD qq.1.toNat 0),V.ref D3])=some (.tup [V.int ((ns.getD qq.2.toNat 0).toNat:Nat),V.int ((ns.getD qq.1.toNat 0).toNat:Nat),V.ref D3]);rw[i9 c1.1,i9 c2.1]
     .rw [(iQ.mp (aY e2)).2];show (hrs k c e1).1.same s8
     .rw [(iQ.mp hx).2,eM]
     .rw [(iQ.mp hx).2] at hxx;rw[(iQ.mp hxx).2];show⟨h00,dF ⇑0 ⇑0,dF ⇑0 ⇑0⟩
    subst hDD;show⟨_,ht8,cT (by rw[aB];show oz57 p9 tl hi),_,_,_,ts++[t],rfl,(s3.trans s38).upd ftb,by rw[aR nDt];show s38 _ _ hD3,by rw[aw,i6],by rw[bN,tl];rfl,λj t' q' f1 f2=>?_⟩;by_cases hj:j<ts.length
    .rw [fq hj] at f1;show eW (tab j t' q' f1 f2) λr rs' tb' nw' n1 n2=>?_;show aM r rs' ⟨(tb'.same s38).put ht8 n1 n2,nw',n1,n2⟩
    .have hjl:=(b_.mp f1).1;rw[bN,BW] at hjl;obtain rfl:j=i:=by show oz30 tl hj hjl
     rw[fu (d8 hj),tl,rX] at f1;cases f1;rw[hq] at f2;cases f2;show aM D3 rs ⟨tbn.put ht8 nb3 ntb,nw,nb3,ntb⟩
  .intro σ H3 e92;show cZ e92 λv7 v8 v9 ts e911 s3 hD3 e912=>?_;clear e92;obtain rfl:=e911;show bC e912 λht3 tl tab=>?_;clear e912;subst hX;left;show⟨⇑0,λt ht=>?_⟩;have s4:=aa.new (o:=.tup [V.ref D,V.ref tb]) ht;have hpl:=pr.1;show q t D tb ns ts (ps.map (noM ns)) _ (s3.trans s4) (s3.free ht) aw hD (s4 _ _ hD3) ∅ hb1 ∅ (λ_=>∅) ⟨s4 _ _ ht3,by rw[aB];omega,ftb,λi t d f1 f2=>?_⟩;rw[bj] at f2;cases eq':ps[i]? with
   | none=>rw[eq'] at f2;cases f2
   | some q'=>
    rw[eq'] at f2;cases f2;show eW (tab i t q' f1 eq') λr rs tb nw _ _=>?_;show aM r rs ⟨?_,nw⟩;rw[show (ps.map (noM ns)).getD i []=noM ns q' by rw[aW,bj,eq'];rfl];show tb.same s4
structure cc (l:Addr)(H:Hp)(p m:Int)(ps:List (Int×Int))(k:Nat)(st:Addr)(ns:List Int)(Ms:List Mv):Prop where
 ex:∃ (H0:Hp) (z tl:Addr) (ts:List Addr),bw H0 l/\st≠l/\z≠l/\H st=some (.tup [.ref z,.ref tl])/\H z=some (.lst (ns.map V.int))/\GL H0 H p k tl ts (tds ns ps) Ms
 hm:(ns.length:Int)=m
 s2:∀ n∈ns,0<=n/\n<=2
 s7:ns.sum<=7
 s4:p=0->ns.sum<=4
theorem cc.ext {l:Addr}{H H':Hp}{p m:Int}{ps:List (Int×Int)}{k:Nat}{st:Addr}{ns:List Int}{Ms:List Mv}(h:cc l H p m ps k st ns Ms)(b:bw H l)(e:bf l H H'):cc l H' p m ps k st ns Ms:=
 ⟨let ⟨H0,z,tl,ts,b0,n1,n2,a1,a2,g⟩:=h.ex;⟨H0,z,tl,ts,b0,n1,n2,e _ _ n1 a1,e _ _ n2 a2,g.ext b0 b e⟩,h.hm,h.s2,h.s7,h.s4⟩
theorem cc.same {l:Addr}{H H':Hp}{p m:Int}{ps:List (Int×Int)}{k:Nat}{st:Addr}{ns:List Int}{Ms:List Mv}(h:cc l H p m ps k st ns Ms)(s:aa H H'):cc l H' p m ps k st ns Ms:=
 ⟨let ⟨H0,z,tl,ts,b0,n1,n2,a1,a2,g⟩:=h.ex;⟨H0,z,tl,ts,b0,n1,n2,s _ _ a1,s _ _ a2,g.same s⟩,h.hm,h.s2,h.s7,h.s4⟩
theorem cc.le {l:Addr}{H:Hp}{p m:Int}{ps:List (Int×Int)}{k k':Nat}{st:Addr}{ns:List Int}{Ms:List Mv}(h:cc l H p m ps k st ns Ms)(hk:k<=k'):cc l H p m ps k' st ns Ms:=
 ⟨let ⟨H0,z,tl,ts,b0,n1,n2,a1,a2,g⟩:=h.ex;⟨H0,z,tl,ts,b0,n1,n2,a1,a2,g.le hk⟩,h.hm,h.s2,h.s7,h.s4⟩
theorem cc.tabs {l:Addr}{H:Hp}{p m:Int}{ps:List (Int×Int)}{k:Nat}{st:Addr}{ns:List Int}{Ms:List Mv}(h:cc l H p m ps k st ns Ms)(i:Nat)(q:Int×Int)(e:ps[i]?=some q):(Ms.getD i []).length=nt ns q.2/\∀ xs∈Ms.getD i [],xs.length=nt ns q.1/\aH p k xs:=by
 show cZ h.ex λH0 z tl ts b0 n1 n2 e91=>?_;show bC e91 λa1 a2 g=>?_;clear e91;have hi:=(b_.mp e).1;have hl:=g.tbl.2.1;show eV (g.tbl.2.2 i _ q (aG (show i<ts.length by show dD hi hl)) e) λr rs t=>?_;show⟨t.hl,λxs hx=>⟨t.hw xs hx,t.gd xs hx⟩⟩
theorem cc.vals {l:Addr}{H:Hp}{p m:Int}{ps:List (Int×Int)}{st:Addr}{ns:List Int}{Ms:List Mv}(h:cc l H p m ps 42229 st ns Ms)(ip:jD m ps)(p9:ps.length<=9):au p m ps ns Ms:=
 ⟨ip,p9,h.hm,λn hn=>⟨(h.s2 n hn).1,Int.le_trans (h.s2 n hn).2 ⇑0⟩,Int.le_trans h.s7 ⇑0,h.tabs,λn hn=>(h.s2 n hn).2,h.s4⟩
theorem cc.b60 {l:Addr}{H:Hp}{p m:Int}{ps:List (Int×Int)}{st:Addr}{ns:List Int}{Ms:List Mv}(h:cc l H p m ps 60 st ns Ms):wO p ps Ms:=λi hi xs hx=>((h.tabs i _ (aG hi)).2 xs hx).2
theorem cc.sizes {l:Addr}{H:Hp}{p m:Int}{ps:List (Int×Int)}{k:Nat}{st:Addr}{ns:List Int}{Ms:List Mv}(h:cc l H p m ps k st ns Ms)(m8:m<=8){z:Addr}(hz:H z=some (.lst (ns.map V.int))):ck H z ns:=
 ⟨hz,by have:=h.hm;omega,λn hn=>⟨(h.s2 n hn).1,Int.le_trans (h.s2 n hn).2 ⇑0⟩⟩
theorem cc.prv {l:Addr}{H:Hp}{p m:Int}{ps:List (Int×Int)}{k:Nat}{st:Addr}{ns:List Int}{Ms:List Mv}(h:cc l H p m ps k st ns Ms)(m8:m<=8):∃ z tl,oZ H st p ps ns Ms z tl:=by
 show cZ h.ex λH0 z tl ts b0 n1 n2 e92=>?_;show bC e92 λa1 a2 g=>?_;clear e92;show aM z tl ⟨a1,h.sizes m8 a2,ts,g.tbl.1,g.tbl.2.1,λi t q e1 e2=>let ⟨r,rs,t⟩:=g.tbl.2.2 i t q e1 e2;⟨r,rs,t.tv⟩⟩
theorem kK.put {S G:Addr}{H0 H:Hp}{D:Addr}{y:List V}{l0:List V}{o:HO}{x dx g d z l lp:Addr}{p m:Int}{k:Nat}{xs:List V}{ps:List (Int×Int)}{ns:List Int}{ts:List Addr}{Ms:List Mv}(h:kK H0 S C G H x p m ps ns k Ms dx g d z l lp xs ts)(h0:H0 D=some (.lst l0))(hD:H D=some (.lst y))(nl:lp≠D):kK H0 S C G (ar H D o) x p m ps ns k Ms dx g d z l lp xs ts:=by
 have no:∀ a,H0 a=none->a≠D:=λa e z=>by rw[z,h0] at e;cases e
 show⟨⟨?_,?_,?_,⟨?_,h.sa.szs.2⟩,h.sa.hm⟩,h.prs.put hD,?_,h.len,λi t q e1 e2=>?_,h.nz,h.nl⟩
 .rw [aR (fL h.sa.ins hD (by intro z;cases z))];show h.sa.ins
 .obtain ⟨dg,hg⟩:=h.sa.grd;show⟨dg,by rw[aR (fL hg hD (by intro z;cases z))];show hg⟩
 .refine ao h.sa.drw λdd hd hl=>?_;show⟨dd,by rw[aR (fL hd hD (by intro z;cases z))];show hd,by rw[aR nl];show hl⟩
 .rw [aR (no _ h.nz)];show h.sa.szs.1
 .rw [aR (no _ h.nl)];show h.lst
 .refine cE (h.tbs i t q e1 e2) λr rs tb nw=>?_;show aM r rs ⟨tb.put hD (no _ nw.r) λhz=>no _ (nw.rs _ hz) rfl,nw⟩
theorem k4 {S G:Addr}{H0 H:Hp}{x dx g d z l lp:Addr}{p m:Int}{k:Nat}{xs:List V}{ps:List (Int×Int)}{ns:List Int}{ts:List Addr}{Ms:List Mv}(sb:kK H0 S C G H x p m ps ns k Ms dx g d z l lp xs ts):fP S C G H x p m ps ns Ms:=
 ⟨dx,g,d,z,l,lp,xs,sb.sa.ins,sb.sa.grd,sb.sa.drw,sb.prs,sb.sa.szs,ts,sb.lst,sb.len,λi t q e1 e2=>let ⟨r,rs,tb,_⟩:=sb.tbs i t q e1 e2;⟨r,rs,tb.tv⟩⟩
def dk (S C G D:Addr)(H:Hp)(x:Addr)(p m:Int)(ps:List (Int×Int))(ns:List Int)(Ms:List Mv):Prop:=∃ (H0:Hp) (l0:List V) (k:Nat) (dx g d z l lp:Addr) (xs:List V) (ts:List Addr),kK H0 S C G H x p m ps ns k Ms dx g d z l lp xs ts/\H0 D=some (.lst l0)/\lp≠D
theorem dk.same {S G D:Addr}{H H':Hp}{x:Addr}{p m:Int}{ps:List (Int×Int)}{ns:List Int}{Ms:List Mv}(h:dk S C G D H x p m ps ns Ms)(s:aa H H'):dk S C G D H' x p m ps ns Ms:=let ⟨H0,l0,k,dx,g,d,z,l,lp,xs,ts,a,b⟩:=h;⟨H0,l0,k,dx,g,d,z,l,lp,xs,ts,a.same s,b⟩
theorem dk.put {S G D:Addr}{H:Hp}{y:List V}{o:HO}{x:Addr}{p m:Int}{ps:List (Int×Int)}{ns:List Int}{Ms:List Mv}(h:dk S C G D H x p m ps ns Ms)(hD:H D=some (.lst y)):dk S C G D (ar H D o) x p m ps ns Ms:=let ⟨H0,l0,k,dx,g,d,z,l,lp,xs,ts,a,b,n⟩:=h;⟨H0,l0,k,dx,g,d,z,l,lp,xs,ts,a.put b hD n,b,n⟩
theorem dk.stv {S G D:Addr}{H:Hp}{x:Addr}{p m:Int}{ps:List (Int×Int)}{ns:List Int}{Ms:List Mv}(h:dk S C G D H x p m ps ns Ms):fP S C G H x p m ps ns Ms:=let ⟨_,_,_,_,_,_,_,_,_,_,_,a,_⟩:=h;k4 a
end
end Pf
set_option maxHeartbeats 2000000
namespace Pf
open PySem L2 L3 PyProof.Rows
section
variable {C PL:Addr}
theorem Gg (ns:List Int)(lo hi:Option Int):∃ ms:List Int,nC (ns.map V.int) lo hi=ms.map V.int/\ms.length<=ns.length:=by
 show⟨(ns.drop (HT.sIx (ns.map V.int).length 0 lo)).take (HT.sIx (ns.map V.int).length (ns.map V.int).length hi-HT.sIx (ns.map V.int).length 0 lo),?_,?_⟩
 .unfold nC;rw[List.map_take,List.map_drop]
 .rw [i8,o8];show oz38
theorem Iq {H:Hp}{p:Int}{R:Addr->Hp->Prop}(hp:af p)(k:∀ g H',aa H H'->fh G H' g p->R g H'):∀ x dx,H x=none->H dx=none->dx≠x->xB G [.ref x,.int p] (ar (ar H dx (.own x)) x (.ins G dx [])) (λv H2=>v=.non/\R x H2) E0:=by
 intro g dg hg hdg ndg;have fg:(ar H dg (.own g)) g=none:=by rw[aR ndg.symm];show hg
 have sg:aa H (ar (ar H dg (.own g)) g (.ins G dg [])):=(aa.new hdg).trans (aa.new fg);show dc g dg p ⟨rfl,aw,hp,λH1 ex1 hg1=>⟨rfl,k g H1 (aa.thru sg hg ex1) ⟨dg,hg1⟩⟩⟩
theorem Hn {H:Hp}{m:Int}{e:Addr}{xs:List V}{ps:List (Int×Int)}{R:Addr->Hp->Prop}(m0:1<=m)(m8:m<=8)(he:H e=some (.lst xs))(pr:dw H xs ps)(ip:jD m ps)(p9:ps.length<=9)(k:∀ d lp H',aa H H'->H lp=none->kC C H' d m lp xs->R d H'):
  ∀ x dx,H x=none->H dx=none->dx≠x->xc C [.ref x,.int m,.ref e] (ar (ar H dx (.own x)) x (.ins C dx [])) (λv H2=>v=.non/\R x H2) E0:=by
 intro d dd hd hdd ndd;have fd0:(ar H dd (.own d)) d=none:=by rw[aR ndd.symm];show hd
 have sd:aa H (ar (ar H dd (.own d)) d (.ins C dd [])):=(aa.new hdd).trans (aa.new fd0);have:=pr.1;show kB d dd m e xs ⟨rfl,aw,m0,m8,sd _ _ he,∅,(Gi pr ip).same sd,λlp H3 ex3 hd3 flp hlp=>⟨rfl,k d lp H3 (aa.thru sd hd ex3) (sd.free flp) ⟨dd,hd3,hlp⟩⟩⟩
theorem CC {P:Nat->Mv->Prop}:∀ n,(∀ i,i<n->∃ b,P i b)->∃ bs:List Mv,bs.length=n/\∀ i,i<n->P i (bs.getD i [])
 | 0,_=>⟨[],rfl,λi h=>absurd h (sE i)⟩
 | n+1,h=>by
  show ao (CC n λi hi=>h i ∅) λbs l hb=>?_;obtain⟨b,e⟩:=h n ∅;show⟨bs++[b],by rw[bN,l];rfl,λi hi=>?_⟩;rw[aW];by_cases z:i<n
  .rw [fq (oz8 l z),<- aW];show hb i z
  .have:i=n:=by show oz14 hi z
   subst this;rw[fu (oz25 l),l,rX];show e
theorem dInt (a b:Int):(!decide ((V.int a:V)=V.int b))=!decide (a=b):=by by_cases h:a=b <;> simp[h]
def wW (K:Frag)(PL:Addr):L2.Sp:=λvs H Q _=>∃ (a:Addr) (ns:List Int),vs=[.ref a]/\aj K H a (ns.map V.int)/\ns.length<=63/\H PL=some lamO/\∀ H',H' PL=some lamO->Q (.bl true) H'
theorem ql (F:⇑("law",nH))(T:⇑())(Yb4:⇑("_law_cell",1,DV K))(Ybh:⇑("_law_bag",1,spBag))(Yaa:⇑("_law_draw",1,jf))(Ya0:⇑("_law_small_prime",2,spSmp))(Ybn:⇑("_law_drawing",2,spOut way0))(Yam:⇑("_law_standing",6,spLs7))(Ya5:⇑("_law_change",4,spChg))(Yba:⇑("_law_inverse",6,D4))(Ybj:⇑("_law_led",5,DZ))(Ya8:⇑("_law_single",2,spSgl))(Yby:⇑("_law_made",13,spMd S C G))(Yah:gX P w K mg base "Ground" G 3 (xB G))(Ya2:gX P w K mg base "Drawing" C 4 (xc C))(Yaw:⇑("_law_count",6,DW))(Yaj:⇑("lets_by",11,spUl S C G PL)):⇑[14,["_law_script"],wW K PL]:=by
 exists FZ,cE,2
 show kA h λa ns e910 hS hl hPL q=>?_;clear h;subst e910;show⟨_,((dt cX rfl (eJ (yU<|>(@dJ _ _ _ _ ((Yb4<$>hr<$>((pv 0)<&>(aq<&>ah)))<&>(aq<&>ah)))<&&>(@Ew _ _ _ _ _ _ _ _ _ _ DQ (pv 0) (@zG _ _ _ aq) (@zG _ _ _ aq)))) (1>>>nd) ((gs (i:=2) nd rfl (Or.inr rfl) (Ybh<$>hr<$>((ae 1)<&>ah)))<*>((gs (i:=3) nd rfl (Or.inr rfl) (Ya0<$>hr<$>((ae 2)<&>ah)))<*>((d9 (Ybn<$>hr<$>((ae 2)<&>ah)) (@dY _ _ _ _ _ 2 rfl ((4>>>nd)^^^((5>>>nd)^^^(@cU _))) ⇑1 ⇑1))<*>((6|||nd|||(Yam<$>hr<$>((ae 2)<&>((ae 3)<&>((ae 4)<&>((ae 5)<&>ah))))))<*>((7|||nd|||(Yam<$>hr<$>((ae 2)<&>((ae 3)<&>((ae 4)<&>((ae 5)<&>ah))))))<*>((oO (i:=8) (own:=["_law_size"]) (fr:=[("_law_bag_here",2),("_law_p",3)]) rfl (cW (by kernel_rfl)) (eJ (bq<|>(pv 6)<||>aq)) (λ_ _ _ _=>⟨(0<<<["_law_size","_law_bag_here","_law_p"]),df,(Ya5<$>hr<$>((pv 1)<&>((pv 2)<&>((pv 0)<&>ah))))⟩) nd rfl rfl rfl)<*>((9|||nd|||(Ybj<$>hr<$>((ae 3)<&>((ae 5)<&>((ae 6)<&>((ae 8)<&>((dR (own:=["_law_change_here"]) (fr:=[("_law_p",3)]) rfl (cW (by kernel_rfl)) (eJ (pv 8)) (λ_ _ _ _=>⟨(0<<<["_law_change_here","_law_p"]),df,(Yba<$>hr<$>((pv 1)<&>((pv 0)<&>ah)))⟩))<&>ah)))))))<*>((10|||nd|||(Yam<$>hr<$>((ae 2)<&>((ae 3)<&>((ae 4)<&>((ae 5)<&>ah))))))<*>((@bI _ _ _ _ _ _ _ _ (bX dI (Yaa<$>hr<$>((ae 2)<&>(aq<&>ah))) aq (bo _)) (@bE _ _ _ (10|||nd|||(Ya8<$>hr<$>((ae 3)<&>((ae 4)<&>((ae 5)<&>((Yaa<$>hr<$>((ae 2)<&>((ae 4)<&>ah)))<&>((Yaa<$>hr<$>((ae 2)<&>(aq<&>ah)))<&>ah)))))))) bJ)<*>((11|||nd|||(@dJ _ _ _ _ ah))<*>((dt cX rfl (y2 (@bQ _ _ _ _ _ ((pv 6)<&>((pv 7)<&>((pv 9)<&>((pv 10)<&>ah)))))) (12>>>nd) (@bE _ _ _ (gK (gk gC gU gT (mtJ gq) (ae 11) ((Yby<$>hr<$>((pY Yah hr.m rfl ((ae 3)<&>ah))<&>((pY Ya2 hr.m rfl ((ae 4)<&>((ku vP rfl T.n_list j7 ((ae 5)<&>ah))<&>ah)))<&>((ae 12)<&>ah))))<&>ah)))))<*>((13|||nd|||(i4 fW (Yaw<$>hr<$>((ae 3)<&>((ae 5)<&>((ae 10)<&>((ae 6)<&>ah))))) (Yaw<$>hr<$>((ae 3)<&>((ae 5)<&>((ae 10)<&>((ae 7)<&>ah))))) (bo _)))<*>((dt cX rfl (y2 (@bQ _ _ _ _ _ ((@bQ _ _ _ _ _ ((a_<|>(pv 11)<||>aq)<&>((a_<|>(pv 11)<||>aq)<&>ah)))<&>((@bQ _ _ _ _ _ ((a_<|>(pv 11)<||>aq)<&>((a_<|>(pv 11)<||>aq)<&>ah)))<&>((@bQ _ _ _ _ _ ((a_<|>(pv 11)<||>aq)<&>((a_<|>(pv 11)<||>aq)<&>ah)))<&>ah))))) (@dY _ _ _ _ _ 2 rfl ((14>>>nd)^^^((15>>>nd)^^^(@cU _))) ⇑1 ⇑1) ((16|||nd|||(Yaj<$>hr<$>((ae 14)<&>((@bQ _ _ _ _ _ (vf<&>((ae 15)<&>(((ixJ a_)<|>(ae 11)<||>aq)<&>ah))))<&>ah))))<*>(@bE _ _ _ (@bI _ _ _ _ _ _ _ _ (PW.pt (fM (d_ (eY (cg iJ rfl T.n_isinstance iP ((ae 16)<&>((iW rfl T.n_bool boot_bool)<&>ah))))) (gG (bX (lT (uK hr)) (ae 16) (ae 13) (bo _))))) (~~~fX) bJ))))<*>(@bE _ _ _ (@bI _ _ _ _ _ _ _ _ (bX lS (Yaj<$>hr<$>(((ixJ a_)<|>(ae 11)<||>aq)<&>((@bQ _ _ _ _ _ (vf<&>(((ixJ a_)<|>(ae 11)<||>aq)<&>(((ixJ a_)<|>(ae 11)<||>aq)<&>ah))))<&>ah))) fX (bo _)) (~~~fX) bJ))))))))))))))))<*>(~~~fX)),?_⟩;show bG λXX hXX=>?_;show ow λY hY=>?_;show ao (Gg ns (some 1) (some 6)) λms hms hml=>?_;show⟨_,rfl,a,ns,0,rfl,hS,hl,⇑0,λc0=>⟨by show 2<=sizeLine;decide,λp1 hp1=>⟨_,rfl,_,rfl,_,rfl,a,_,rfl,(aa.new hp1).seq hS,λp2 hp2=>?_⟩⟩⟩;rw[hms] at *;show jc p1 p2 _ _ ⟨rfl,rfl,by rw[aR (bV aw hp2)];show aw,aw,gR (cT (by rw[aB];change 2+ms.length<=1000;omega)),λp3 hp3=>?_⟩;have hz:[V.int c0,V.int 2]++ms.map V.int=(c0::2::ms).map V.int:=rfl;rw[hz];have e3:ar (ar (ar H p1 (.lst [V.int c0,V.int 2])) p2 (.lst (ms.map V.int))) p3 (.lst ((c0::2::ms).map V.int)) p3=some (.lst ((c0::2::ms).map V.int)):=aw;have s00:aa H (ar (ar (ar H p1 (.lst [V.int c0,V.int 2])) p2 (.lst (ms.map V.int))) p3 (.lst ((c0::2::ms).map V.int))):=((aa.new hp1).trans (aa.new hp2)).trans (aa.new hp3);have hPL0:=s00 _ _ hPL;generalize ar (ar (ar H p1 (.lst [V.int c0,V.int 2])) p2 (.lst (ms.map V.int))) p3 (.lst ((c0::2::ms).map V.int))=H0 at *;show⟨p3,rfl,⟨_,aj.of e3⟩,tH (xs:=(c0::2::ms).map V.int) (λi σ H2=>∃ v1 v2 v3 v4 v5 v6 v7 v8 v9 v10 v11 v12 v13 v14 v15 v16:Option V,σ=[↥a,v1,v2,v3,v4,v5,v6,v7,v8,v9,v10,v11,v12,v13,v14,v15,v16]/\aa H0 H2)
  ⟨none,none,none,none,none,none,none,none,none,none,none,none,none,none,none,none,rfl,aa.refl _⟩ (λi σ H2 _ ⟨_,_,_,_,_,_,_,_,_,_,_,_,_,_,_,_,_,sH⟩=>aj.of (sH _ _ e3)) ?_ ?_⟩
 .intro i x σ H2 hi e91;show za e91 λv1 v2 v3 v4 v5 v6 v7 v8 v9 v10 v11 v12 v13 v14 v15 v16 e911 s2=>?_;clear e91;obtain rfl:=e911;obtain⟨c,rfl⟩:∃ c:Int,x=.int c:=by
   rw[bj] at hi;cases e:(c0::2::ms)[i]? with
   | none=>rw[e] at hi;cases hi
   | some c=>rw[e] at hi;cases hi;show⟨c,rfl⟩
  show fQ λD2 hD2=>?_;simp only[bU,List.set_cons_zero,List.set_cons_succ];subst hY;show bG λX hX=>?_;left;show⟨c,rfl,λl xa xb hl0 xb0 xb1=>?_⟩;have b3:bw (ar H2 l (oB xa xb)) l:=bw.set xb0 xb1;have fl:=s2.free hl0;have s3:=s2.trans (aa.new (o:=oB xa xb) hl0);generalize ar H2 l (oB xa xb)=H3 at *;subst hX;show bG λX hX=>?_;left;show⟨l,rfl,b3,λp H4 e4 b4 hp=>?_⟩;have s4:=aa.thru s3 fl e4;subst hX;show bG λX hX=>?_;left;show aM l [] ⟨rfl,rfl,b4,λpt e m xs H5 O=>⟨pt,rfl,_,aE.of O.tup,rfl,_,_,rfl,_,_,rfl,rfl,?_⟩⟩;have s5:aa H0 H5:=aa.thru s4 fl O.ext;have b5:=O.bag;have m0:=O.lo;have m8:=O.hi;have x9:=O.len;have nel:e≠l:=b4.ne O.new;have he:=O.lst;show ao (D6 O.ed) λps pr ip=>?_;have pl:=pr.1;have p9:ps.length<=9:=∅
  clear O s4 e4 b4 b3 s3;subst hX;show bG λX hX=>?_;left;show oH l e p m xs ps ⟨rfl,b5,hp,he,pr,ip,p9,m0,m8,nel,λst1 z1 tl1 ns1 ts1 Ms1 H6 e6 b6 fst hst fz hz hm hn hs7 hs4 gt=>?_⟩;have R1:cc l H6 p m ps 60 st1 ns1 Ms1:=⟨⟨H5,z1,tl1,ts1,b5,b5.ne fst,b5.ne fz,hst,hz,gt⟩,hm,hn,hs7,hs4⟩
  have s6:aa H0 H6:=aa.thru s5 fl e6;have he6:=e6 _ _ nel he;have pr6:=pr.bag b5 e6;clear gt hz fz hst fst pr e6 he;subst hX;show bG λX hX=>?_;left;show oH l e p m xs ps ⟨rfl,b6,hp,he6,pr6,ip,p9,m0,m8,nel,λst2 z2 tl2 ns2 ts2 Ms2 H7 e7 b7 fst hst fz hz hm2 hn2 hs72 hs42 gt=>?_⟩;have R2:cc l H7 p m ps 60 st2 ns2 Ms2:=⟨⟨H6,z2,tl2,ts2,b6,b6.ne fst,b6.ne fz,hst,hz,gt⟩,hm2,hn2,hs72,hs42⟩
  have s7:aa H0 H7:=aa.thru s6 fl e7;have he7:=e7 _ _ nel he6;have pr7:=pr6.bag b6 e7
  replace R1:=R1.ext b6 e7
  clear gt hz fz hst fst pr6 e7 he6 hm2 hn2 hs72 hs42 b6 s6 b5 s5;subst hX;show bG λX hX=>?_;left;show cZ R1.ex λHz z1 tl1 ts1 bz nst nzl e912=>?_;show bC e912 λhst hz gt=>?_;clear e912;have n8:ns1.length<=8:=∅
  show⟨_,rfl,st1,_,0,_,rfl,rfl,aE.of hst,rfl,_,rfl,⟨_,aj.of hz⟩,λD hD=>?_⟩;have nDl:D≠l:=b7.ne hD;show rO (k:=1) (xs:=ns1.map V.int) (λi vs H'=>∃ (ts:List Addr) (Ms:List Mv),vs=ts.map V.ref/\bf l H7 H'/\bw H' l/\H' D=some (.lst vs)/\ts.length=i/\Ms.length=i/\∀ (j:Nat) t n,ts[j]?=some t->ns1[j]?=some n->∃ r rs,aU H' p 80 n.toNat n.toNat t r rs (Ms.getD j [])/\js p n.toNat (Ms.getD j [])/\fZ H7 t r rs/\r≠D/\D∉rs)
   ⟨[],[],rfl,bf.new hD,b7.new nDl,aw,rfl,rfl,λj t q e=>by simp at e⟩ (λi vs H' _ ⟨_,_,_,e',_⟩=>aj.of (e' _ _ nzl hz)) ?_ ?_
  .intro i x vs σ' H' hi hx sh e92;show gE e92 λts' Cs e913 e' b' hD' htl e914=>?_;clear e92;obtain rfl:=e913;obtain⟨hml,ht⟩:=e914;obtain⟨z1,rfl⟩:=sh.one;rw[bj] at hx;rw[aB] at hi;have hq:ns1[i]?=some ns1[i]:=aG hi;rw[hq] at hx;cases hx;obtain⟨c1,c2⟩:=hn _ (dm hi);simp only[dh,bU,List.set_cons_zero,List.set_cons_succ,fm,cy];left;show⟨_,rfl,_,rfl,_,rfl,l,p,_,rfl,b',hp,c1,∅,λt r rs M H4 e4 b4 nw htu ch=>?_⟩;have nn:((ns1[i].toNat:Nat):Int)=ns1[i]:=i9 c1;have tb:=ch.tabB (t:=t) (by rw[nn];show htu);have hD4:=e4 _ _ nDl hD';have n3:r≠D:=λz=>by have:=nw.r;rw[z,hD'] at this;cases this
   have n4:D∉rs:=λz=>by have:=nw.rs D z;rw[hD'] at this;cases this
   show gj (ws:=ts'.map V.ref++[.ref t]) (by rw[aB];show hi) Sh.mk1 hD4 (cT (by rw[aB];omega)) ⟨ts'++[t],i6 _ _,(e'.trans e4).upd hD,b4.new nDl,by rw[aw],by rw[bN,htl];rfl,Cs++[M],by rw[bN,hml];rfl,λj t' q' f1 f2=>?_⟩;by_cases hj:j<ts'.length
   .rw [fq hj] at f1;show kA (ht j t' q' f1 f2) λr' rs' tb' iv' nw' n1 n2=>?_;show⟨r',rs',?_,?_,nw',n1,n2⟩ <;> rw[aW,fq (oz23 htl hml hj),<- aW]
    .exact (tb'.ext b7 nw' b' e4).put hD4 n1 n2
    .exact iv'
   .rw [fu (d8 hj)] at f1;have hj0:j-ts'.length=0:=by
     by_cases z:j-ts'.length=0
     .exact z
     .rw [dH (by simp;show oz7 z)] at f1;cases f1
    rw[hj0] at f1;cases f1;have ji:j=i:=by show oz2 htl hj hj0
    subst ji;rw[hq] at f2;cases f2;show⟨r,rs,?_,?_,⟨e'.free (b'.ne nw.t) nw.t,e'.free (b'.ne nw.r) nw.r,λx hx=>e'.free (b'.ne (nw.rs x hx)) (nw.rs x hx)⟩,n3,n4⟩ <;> rw[aW,fu (oz25 hml),hml,rX]
    .exact tb.put hD4 n3 n4
    .exact ch.iv
  intro vs H8 e93;show gE e93 λcts Cs e915 e8 b8 hD8 ctl e916=>?_;clear e93;obtain rfl:=e915;obtain⟨cml,hcs⟩:=e916;rw[aB] at ctl cml;have s8:aa H0 H8:=aa.thru s7 fl e8;have gc:GL H7 H8 p 80 D cts (cds ns1) Cs:=⟨hD8,by rw[aB];omega,hD,λi t d f1 f2=>by
   rw[bj] at f2;cases eq':ns1[i]? with
   | none=>rw[eq'] at f2;cases f2
   | some n=>
    rw[eq'] at f2;cases f2;show eW (hcs i t n f1 eq') λr rs tb _ nw _=>?_;show⟨r,rs,tb,nw⟩⟩
  have ivs:∀ (i:Nat) n,ns1[i]?=some n->js p n.toNat (Cs.getD i []):=λi n f2=>by
   have hi:=(b_.mp f2).1;show cF (hcs i _ n (aG (show i<cts.length by show oz8 ctl hi)) f2) λr rs _ iv _=>?_;show iv
  clear hcs hst hz gt bz nst nzl
  replace R1:=R1.ext b7 e8
  replace R2:=R2.ext b7 e8
  have he8:=e8 _ _ nel he7;have pr8:=pr7.bag b7 e8;clear he7 pr7 e8 s7;subst hX;show bG λX hX=>?_;left;show⟨_,rfl,D,rfl,⟨_,aj.of hD8⟩,λDB hDB=>?_⟩;show oS (λi Hc y=>∃ t n,y=.ref t/\ns1[i]?=some n/\∃ r rs B,aU Hc p 20800 n.toNat n.toNat t r rs B/\cY p (Cs.getD i []) B n.toNat=di n.toNat/\cY p B (Cs.getD i []) n.toNat=di n.toNat/\(r≠DB/\DB∉rs)/\fZ H8 t r rs) (λ⟨t,d,e,ed,r,rs,B,a,n⟩ s=>⟨t,d,e,ed,r,rs,B,a.same s,n⟩) (λ⟨t,d,e,ed,r,rs,B,a,n0,n00,n,n2⟩ hD=>⟨t,d,e,ed,r,rs,B,a.put hD n.1 n.2,n0,n00,n,n2⟩) hD8 hDB (by rw[aB];omega) (λi y H1 Q1 hy s1 ⟨lD,hlD⟩ q1=>?_) (λys H9 s9 hD9 yl hys=>?_)
  .rw [bj] at hy;cases et:cts[i]? with
   | none=>rw[et] at hy;cases hy
   | some t=>
    rw[et] at hy;cases hy;have hi:i<ns1.length:=by have:=(b_.mp et).1;show bM ctl this
    have ed:=aG hi;obtain⟨r,rs,tb,_⟩:=gc.tab i t _ et (by rw[bj,ed];rfl);have iv:=ivs i _ ed;have hd:=hn _ (dm hi);generalize ns1[i]=n at *;simp only[cy];left;show⟨_,rfl,p,t,r,rs,n.toNat,_,rfl,hp,tb.same s1,iv,∅,λt' r' rs' B H2 s2 nw tb' ⟨e1,e2⟩=>q1 (.ref t') H2 s2 ⟨t',n,rfl,ed,r',rs',B,tb',e2,e1,⟨λz=>?_,λz=>?_⟩,⟨s1.free nw.t,s1.free nw.r,λx hx=>s1.free (nw.rs x hx)⟩⟩⟩
    .have:=nw.r;rw[z,hlD] at this;cases this
    .have:=nw.rs _ z;rw[hlD] at this;cases this
  rw[aB] at yl;have s09:=s8.trans s9;obtain⟨bts,Bs,rfl,gb,bk⟩:∃ (bts:List Addr) (Bs:List Mv),ys=bts.map V.ref/\GL H8 H9 p 20800 DB bts (cds ns1) Bs/\∀ (i:Nat) n,ns1[i]?=some n->cY p (Cs.getD i []) (Bs.getD i []) n.toNat=di n.toNat/\cY p (Bs.getD i []) (Cs.getD i []) n.toNat=di n.toNat:=by
   obtain⟨bts,rfl,hb⟩:=vt (P:=λi t=>∃ n,ns1[i]?=some n/\∃ r rs B,aU H9 p 20800 n.toNat n.toNat t r rs B/\cY p (Cs.getD i []) B n.toNat=di n.toNat/\cY p B (Cs.getD i []) n.toNat=di n.toNat/\(r≠DB/\DB∉rs)/\fZ H8 t r rs) λi y e=>let ⟨t,d,a,b⟩:=hys i y e;⟨t,a,d,b⟩;rw[aB] at yl;obtain⟨Bs,Bl,hB⟩:=CC (P:=λi B=>∀ t n,bts[i]?=some t->ns1[i]?=some n->(∃ r rs,aU H9 p 20800 n.toNat n.toNat t r rs B/\fZ H8 t r rs)/\cY p (Cs.getD i []) B n.toNat=di n.toNat/\cY p B (Cs.getD i []) n.toNat=di n.toNat) ns1.length λi hi=>by
    have e1:bts[i]?=some (bts[i]'(oz21 ctl yl hi)):=aG _;show ao (hb i _ e1) λn en e917=>?_;obtain⟨r,rs,B,tb,eb,eb',_,nw⟩:=e917;show⟨B,λt n' f1 f2=>?_⟩;rw[e1] at f1;rw[en] at f2;cases f1;cases f2;show⟨⟨r,rs,tb,nw⟩,eb,eb'⟩
   show aM bts Bs ⟨rfl,⟨hD9,by rw[aB];show oz17 ctl yl,hDB,λi t d f1 f2=>?_⟩,λi n en=>?_⟩
   .rw [bj] at f2;cases eq':ns1[i]? with
    | none=>rw[eq'] at f2;cases f2
    | some n=>
     rw[eq'] at f2;cases f2;show (hB i (b_.mp eq').1 t n f1 eq').1
   .have hi:=(b_.mp en).1;show (hB i hi _ n (aG (show i<bts.length by show oz21 ctl yl hi)) en).2
  clear hys yl ivs
  replace R1:=R1.same s9
  replace R2:=R2.same s9
  replace gc:=gc.same s9
  have he9:=s9 _ _ he8;have pr9:=pr8.same s9;have b9:=b8.same s9;clear he8 pr8 b8 s8 hD9;show cZ R1.ex λHz z1 tl1 ts1 bz nst nzl e918=>?_;show bC e918 λhst hz gt=>?_;clear e918;have nz2:∀ i,nz ns1 i<=2:=λi=>by
   unfold nz;by_cases hi:i.toNat<ns1.length
   .have:=hn _ (bD (d:=0) hi);omega
   .rw [aW,dH ∅];decide
  show pk e st1 z1 tl1 D DB p 60 80 20800 xs ps ns1 ts1 cts bts Ms1 Cs Bs ⟨rfl,hp,he9,pr9,by rw[hm];show ip,p9,hst,nz2,gt.tbl,gc.chl,gb.chl,⇑0,⇑0,⇑0,λst3 tl3 ts3 H10 s10 fst3 hst3 g3=>?_⟩;have R3:cc l H10 p m ps 42229 st3 ns1 (ledM p ns1 ps Ms1 Cs Bs):=⟨⟨H9,z1,tl3,ts3,b9,b9.ne fst3,nzl,hst3,s10 _ _ hz,g3⟩,hm,hn,hs7,hs4⟩
  have V1:=(R1.le (k':=42229) ⇑0).vals ip p9;have V3:=R3.vals ip p9;have hch:∀ u,u<ns1.length->eP p (nz ns1 (u:Int)) (nz ns1 (u:Int)) (Cs.getD u [])/\eP p (nz ns1 (u:Int)) (nz ns1 (u:Int)) (Bs.getD u [])/\cY p (Bs.getD u []) (Cs.getD u []) (nz ns1 (u:Int))=di (nz ns1 (u:Int))/\cY p (Cs.getD u []) (Bs.getD u []) (nz ns1 (u:Int))=di (nz ns1 (u:Int)):=λu hu=>by
   have eu:=aG hu;have en:nz ns1 (u:Int)=(ns1[u]).toNat:=by unfold nz;rw[fG,cQ hu]
   rw[en];have hc:=gc.chl;have hb:=gb.chl;have hbl:=hb.2.1;show eV (hc.2.2 u _ _ (aG (show u<cts.length by show oz8 ctl hu)) eu) λ_ _ tc=>?_;show eV (hb.2.2 u _ _ (aG (show u<bts.length by show dD hu hbl)) eu) λ_ _ tb=>?_;show⟨tc.mat,tb.mat,(bk u _ eu).2,(bk u _ eu).1⟩
  have hL:∀ t,t<ps.length->(ledM p ns1 ps Ms1 Cs Bs).getD t []=chM p ns1 ps Bs Ms1 Cs t:=λt ht=>by
   rw[aW,bj,gB ht];rfl
  have led:∀ (np:List Int) (Np:List Mv) (rk rk':Nat),au p m ps np Np->cq p (dMr p np ns1 ps Np Ms1).length (stN np ns1 np.length) (dMr p np ns1 ps Np Ms1) rk->cq p (dMr p np ns1 ps Np (ledM p ns1 ps Ms1 Cs Bs)).length (stN np ns1 np.length) (dMr p np ns1 ps Np (ledM p ns1 ps Ms1 Cs Bs)) rk'->rk'=rk:=λnp Np rk rk' Vp h h'=>qZ hp Vp V1 V3 (by have:=Vp.hm;show oz22 hm this) hch hL h h';generalize ledM p ns1 ps Ms1 Cs Bs=Ls at *;have s010:=s09.trans s10
  replace R1:=R1.same s10
  replace R2:=R2.same s10
  have he10:=s10 _ _ he9;have pr10:=pr9.same s10;have b10:=b9.same s10;clear hch hL bk gc gb he9 pr9 b9 g3 gt hz hst s9 s09 nz2 n8 bz nst nzl hn hs7 hs4 hm hst3;subst hX;show bG λX hX=>?_;left;show oH l e p m xs ps ⟨rfl,b10,hp,he10,pr10,ip,p9,m0,m8,nel,λst4 z4 tl4 ns4 ts4 Ms4 H11 e11 b11 fst hst fz hz hm hn hs7 hs4 gt=>?_⟩;have R4:cc l H11 p m ps 60 st4 ns4 Ms4:=⟨⟨H10,z4,tl4,ts4,b10,b10.ne fst,b10.ne fz,hst,hz,gt⟩,hm,hn,hs7,hs4⟩
  have s11:aa H0 H11:=aa.thru s010 fl e11
  replace R1:=R1.ext b10 e11
  replace R2:=R2.ext b10 e11
  replace R3:=R3.ext b10 e11
  have he11:=e11 _ _ nel he10;have pr11:=pr10.bag b10 e11;clear gt hz fz hst fst he10 pr10 hm hn hs7 hs4 e11 b10;subst hX;show bG λX hX=>?_;have aft:∀ (st4:Addr) (ns4:List Int) (Ms4:List Mv) (H12:Hp),bf l H11 H12->bw H12 l->cc l H12 p m ps 60 st4 ns4 Ms4->X D2 [↥a,⇑c,↥l,⇑p,⇑m,↥e,↥st1,↥st2,↥D,↥st3,↥st4,v11,v12,v13,v14,v15,v16] H12:=by
   intro st4 ns4 Ms4 H12 e12 b12 R4;have s12:aa H0 H12:=aa.thru s11 fl e12
   replace R1:=R1.ext b11 e12
   replace R2:=R2.ext b11 e12
   replace R3:=R3.ext b11 e12
   have he12:=e12 _ _ nel he11;have pr12:=pr11.bag b11 e12;subst hX;show bG λX hX=>?_;left;show⟨fE _,λSM hSM=>?_⟩;have q13:(ar H12 SM (.lst [])) SM=some (.lst []):=aw;have s13:=aa.new (o:=.lst []) hSM;generalize ar H12 SM (.lst [])=H13 at *;have hraw:∀ (i:Nat) (u:V),[V.ref st1,V.ref st2,V.ref st3,V.ref st4][i]?=some u->∃ st d,u=.ref st/\[(ns1,Ms1),(ns2,Ms2),(ns1,Ls),(ns4,Ms4)][i]?=some d/\cc l H12 p m ps 42229 st d.1 d.2:=λi u hu=>by
    match i,hu with
    | 0,hu=>cases hu;show⟨_,_,rfl,rfl,R1.le ⇑0⟩
    | 1,hu=>cases hu;show⟨_,_,rfl,rfl,R2.le ⇑0⟩
    | 2,hu=>cases hu;show⟨_,_,rfl,rfl,R3⟩
    | 3,hu=>cases hu;show⟨_,_,rfl,rfl,R4.le ⇑0⟩
    | i+4,hu=>cases hu
   subst hX;show bG λX hX=>?_;show ow λY hY=>?_;show⟨_,rfl,_,rfl,_,rfl,_,rfl,(show 4<=sizeLine by decide),λa4 ha4=>?_⟩;have s14:=s13.trans (aa.new (o:=.tup [V.ref st1,V.ref st2,V.ref st3,V.ref st4]) ha4);have q14:=(aa.new (o:=.tup [V.ref st1,V.ref st2,V.ref st3,V.ref st4]) ha4) _ _ q13;have t14:(ar H13 a4 (.tup [V.ref st1,V.ref st2,V.ref st3,V.ref st4])) a4=some (.tup [V.ref st1,V.ref st2,V.ref st3,V.ref st4]):=aw;generalize ar H13 a4 (.tup [V.ref st1,V.ref st2,V.ref st3,V.ref st4])=H14 at *;have na4:a4≠SM:=(bV q13 ha4).symm;show⟨a4,rfl,⟨_,aE.of t14⟩,Dt (xs:=[V.ref st1,V.ref st2,V.ref st3,V.ref st4]) (λj σ H'=>∃ (v12:Option V) (ys:List Addr),σ=[↥a,⇑c,↥l,⇑p,⇑m,↥e,↥st1,↥st2,↥D,↥st3,↥st4,↥SM,v12,v13,v14,v15,v16]/\aa H12 H'/\H' a4=some (.tup [V.ref st1,V.ref st2,V.ref st3,V.ref st4])/\H' SM=some (.lst (ys.map V.ref))/\ys.length=j/\∀ (i:Nat) x d,ys[i]?=some x->[(ns1,Ms1),(ns2,Ms2),(ns1,Ls),(ns4,Ms4)][i]?=some d->dk S C G SM H' x p m ps d.1 d.2) ⟨v12,[],rfl,s14,t14,q14,rfl,λi x d e=>by simp at e⟩ (λj σ H' _ ⟨_,_,_,_,h,_⟩=>aE.of h) ?_ ?_⟩
   .intro j u σ H15 hu e94;show gE e94 λv12 ys e919 s15 t15 q15 yl hy=>?_;clear e94;obtain rfl:=e919;have hj:j<4:=(b_.mp hu).1;show cF (hraw j u hu) λst d e920 hd R=>?_;obtain rfl:=e920;show fQ λD3 hD3=>?_;simp only[bU,List.set_cons_zero,List.set_cons_succ];subst hY;left;show⟨.inl ⟨rfl,_,aj.of q15⟩,Iq hp λg H16 s16 hg=>⟨_,.inl (aj.of ((s15.trans s16) _ _ he12)),λe1 he1=>?_⟩⟩;have s17:=aa.new (o:=.lst xs) he1;have q17:(ar H16 e1 (.lst xs)) e1=some (.lst xs):=aw;generalize ar H16 e1 (.lst xs)=H17 at *;have t17:=s15.trans (s16.trans s17);show Hn m0 m8 q17 (pr12.same t17) ip p9 λd' lp H18 s18 flp hd'=>?_;have t18:=t17.trans s18;have t58:=(s16.trans s17).trans s18;have R':=R.same t18;show cZ R'.ex λHz z tl ts bz nst nzl e921=>?_;show bC e921 λhst hz gt=>?_;clear e921;show xj g d' st z tl lp p m 42229 xs ps d.1 ts d.2 ⟨rfl,(hg.same s17).same s18,hp,hd',pr12.same t18,ip,p9,R'.sizes m8 hz,R'.hm,gt.tbl,⇑0,hst,λx dx z' l' ts' _ H19 s19 sb=>?_⟩;have q19:=(t58.trans s19) _ _ q15;have nlp:lp≠SM:=(bV ((s16.trans s17) _ _ q15) flp).symm;show⟨_,q19,cT (by rw[aB];omega),?_⟩;subst hD3;show aM _ (ys++[x]) ⟨rfl,(t18.trans s19).upd hSM,by rw[aR na4];show (t58.trans s19) _ _ t15,by rw[aw,i6],by rw[bN,yl];rfl,λi x' d'' f1 f2=>?_⟩;by_cases hi:i<ys.length
    .rw [fq hi] at f1;show ((hy i x' d'' f1 f2).same (t58.trans s19)).put q19
    .have hjl:=(b_.mp f1).1;rw[bN,BW] at hjl;obtain rfl:i=j:=by show oz30 yl hi hjl
     rw[fu (d8 hi),yl,rX] at f1;cases f1;rw[hd] at f2;cases f2;show dk.put ⟨H18,_,42229,dx,g,d',z',l',lp,xs,ts',sb,t58 _ _ q15,nlp⟩ q19
   .intro σ H15 e95;show gE e95 λv12 ys e922 s15 t15 q15 yl hy=>?_;clear e95;obtain rfl:=e922;obtain⟨x1,x2,x3,x4,rfl⟩:∃ x1 x2 x3 x4,ys=[x1,x2,x3,x4]:=by
     match ys,yl with
     | [a,b,c,d],_=>show⟨a,b,c,d,rfl⟩
    have K1:=(hy 0 x1 _ rfl rfl).stv;have K2:=(hy 1 x2 _ rfl rfl).stv;have K3:=(hy 2 x3 _ rfl rfl).stv;have K4:=(hy 3 x4 _ rfl rfl).stv;clear hy yl;dsimp only at K1 K2 K3 K4;have W1:=(R1.le (k':=42229) ⇑0).vals ip p9;have W2:=(R2.le (k':=42229) ⇑0).vals ip p9;have W4:=(R4.le (k':=42229) ⇑0).vals ip p9;have B1:=R1.b60;have B2:=R2.b60;have B4:=R4.b60;show eV ((R1.same s15).prv m8) λz1 l1 P1=>?_;show eV ((R2.same s15).prv m8) λz2 l2 P2=>?_;show eV ((R4.same s15).prv m8) λz4 l4 P4=>?_;have he15:=s15 _ _ he12;have pr15:=pr12.same s15;have h74:=R4.s7;have hPL15:=(s12.trans s15) _ _ hPL0;have s015:=s12.trans s15;clear R1 R2 R3 R4 he12 pr12 t15 e12 he11 pr11 V1 hraw;subst hX;dsimp only;show bG λX hX=>?_;left;show pE e st4 st1 z4 l4 z1 l1 p m xs ps ns4 ns1 Ms4 Ms1 ⟨rfl,he15,pr15,P4,P1,hp,W4,W1,B4,B1,h74,λra H16 s16 ka=>⟨e,st4,st2,z4,l4,z2,l2,p,m,xs,ps,ns4,ns2,Ms4,Ms2,rfl,s16 _ _ he15,pr15.same s16,P4.same s16,P2.same s16,hp,W4,W2,B4,B2,h74,λrb H17 s17 kb=>⟨rfl,?_⟩⟩⟩;have C1:∀ rk:Nat,cq p (dMr p ns4 ns1 ps Ms4 Ms1).length (stN ns4 ns1 ns4.length) (dMr p ns4 ns1 ps Ms4 Ms1) rk->((stN ns4 ns1 ns4.length:Nat):Int)-(rk:Nat)=((stN ns4 ns1 ns4.length:Nat):Int)-(ra:Nat):=λrk h=>by rw[cq.uniq hp h ka]
    have C2:∀ rk:Nat,cq p (dMr p ns4 ns2 ps Ms4 Ms2).length (stN ns4 ns2 ns4.length) (dMr p ns4 ns2 ps Ms4 Ms2) rk->((stN ns4 ns2 ns4.length:Nat):Int)-(rk:Nat)=((stN ns4 ns2 ns4.length:Nat):Int)-(rb:Nat):=λrk h=>by rw[cq.uniq hp h kb]
    have C3:∀ rk:Nat,cq p (dMr p ns4 ns1 ps Ms4 Ls).length (stN ns4 ns1 ns4.length) (dMr p ns4 ns1 ps Ms4 Ls) rk->((stN ns4 ns1 ns4.length:Nat):Int)-(rk:Nat)=((stN ns4 ns1 ns4.length:Nat):Int)-(ra:Nat):=λrk h=>by rw[led ns4 Ms4 ra rk W4 ka h]
    generalize ((stN ns4 ns1 ns4.length:Nat):Int)-(ra:Nat)=ca at *;generalize ((stN ns4 ns2 ns4.length:Nat):Int)-(rb:Nat)=cb at *;rw[dInt];have s57:=s16.trans s17;have q17:=s57 _ _ q15;have run:∀ {xa xb pa:Addr} {na nb:List Int} {Ma Mb:List Mv} {c1 c2:Int} {Q2:VK} {H':Hp},aa H17 H'->H' pa=some (.tup [.str "unlike",.ref xb,.ref x4])->fP S C G H15 xa p m ps na Ma->fP S C G H15 xb p m ps nb Mb->au p m ps na Ma->au p m ps nb Mb->(∀ rk:Nat,cq p (dMr p ns4 na ps Ms4 Ma).length (stN ns4 na ns4.length) (dMr p ns4 na ps Ms4 Ma) rk->((stN ns4 na ns4.length:Nat):Int)-(rk:Nat)=c1)->(∀ rk:Nat,cq p (dMr p ns4 nb ps Ms4 Mb).length (stN ns4 nb ns4.length) (dMr p ns4 nb ps Ms4 Mb) rk->((stN ns4 nb ns4.length:Nat):Int)-(rk:Nat)=c2)->(∀ H'',aa H' H''->Q2 (.bl (!decide (c1=c2))) H'')->spUl S C G PL [.ref xa,.ref pa] H' Q2 E0:=λ{xa xb pa na nb Ma Mb c1 c2 Q2 H'} s' hpa k1 k2 v1 v2 h1 h2 q2=>
     ⟨xa,pa,xb,x4,rfl,hpa,xa,xb,x4,p,m,ps,na,nb,ns4,Ma,Mb,Ms4,rfl,k1.same (s57.trans s'),k2.same (s57.trans s'),K4.same (s57.trans s'),hp,v1,v2,W4,(s57.trans s') _ _ hPL15,λr1 r2 H'' s'' k1 k2=>by rw[h1 r1 k1,h2 r2 k2,dInt];show q2 H'' s''⟩
    clear ka kb led P1 P2 P4 he15 pr15;subst hX;show bG λX hX=>?_;show ow λY hY=>?_;show⟨_,rfl,SM,_,_,_,rfl,rfl,aj.of q17,rfl,_,rfl,SM,_,_,_,rfl,rfl,aj.of q17,rfl,(show 2<=sizeLine by decide),λpA hA=>?_⟩;have qA:(ar H17 pA (.tup [V.ref x1,V.ref x2])) pA=some (.tup [V.ref x1,V.ref x2]):=aw;have sA:=aa.new (o:=.tup [V.ref x1,V.ref x2]) hA;generalize ar H17 pA (.tup [V.ref x1,V.ref x2])=HA at *;show⟨_,rfl,SM,_,_,_,rfl,rfl,aj.of (sA _ _ q17),rfl,_,rfl,SM,_,_,_,rfl,rfl,aj.of (sA _ _ q17),rfl,(show 2<=sizeLine by decide),λpB hB=>?_⟩;have qB:(ar HA pB (.tup [V.ref x2,V.ref x1])) pB=some (.tup [V.ref x2,V.ref x1]):=aw;have sB:=aa.new (o:=.tup [V.ref x2,V.ref x1]) hB;have qA:=sB _ _ qA;have sAB:=sA.trans sB;generalize ar HA pB (.tup [V.ref x2,V.ref x1])=HB at *;show⟨_,rfl,SM,_,_,_,rfl,rfl,aj.of (sAB _ _ q17),rfl,_,rfl,SM,_,_,_,rfl,rfl,aj.of (sAB _ _ q17),rfl,(show 2<=sizeLine by decide),λpC hC=>?_⟩;have qC:(ar HB pC (.tup [V.ref x3,V.ref x2])) pC=some (.tup [V.ref x3,V.ref x2]):=aw;have sC:=aa.new (o:=.tup [V.ref x3,V.ref x2]) hC;have qA:=sC _ _ qA;have qB:=sC _ _ qB;have sAC:=sAB.trans sC;generalize ar HB pC (.tup [V.ref x3,V.ref x2])=HC at *;show⟨(show 3<=sizeLine by decide),λpD hD=>?_⟩;have qD:(ar HC pD (.tup [V.ref pA,V.ref pB,V.ref pC])) pD=some (.tup [V.ref pA,V.ref pB,V.ref pC]):=aw;have sD:=aa.new (o:=.tup [V.ref pA,V.ref pB,V.ref pC]) hD;have qA:=sD _ _ qA;have qB:=sD _ _ qB;have qC:=sD _ _ qC;have sAD:=sAC.trans sD;generalize ar HC pD (.tup [V.ref pA,V.ref pB,V.ref pC])=HD at *;have sy:(!decide (cb=ca))=!decide (ca=cb):=by
     by_cases z:ca=cb
     .rw [z]
     .rw [d6 λh=>z h.symm,d6 z]
    show⟨pD,rfl,⟨_,aE.of qD⟩,Dt (xs:=[V.ref pA,V.ref pB,V.ref pC]) (λj σ H'=>∃ v14 v15 v16:Option V,σ=[↥a,⇑c,↥l,⇑p,⇑m,↥e,↥st1,↥st2,↥D,↥st3,↥st4,↥SM,v12,some (.bl (!decide (ca=cb))),v14,v15,v16]/\aa HD H') ⟨v14,v15,v16,rfl,aa.refl _⟩ (λj σ H' _ ⟨_,_,_,_,h⟩=>aE.of (h _ _ qD)) ?_ ?_⟩
    .intro j u σ H18 hu e96;show fU e96 λv14 v15 v16 e923 s18=>?_;clear e96;obtain rfl:=e923;show fQ λD3 hD3=>?_;have go:∀ (xa xb pa:Addr) (na nb:List Int) (Ma Mb:List Mv) (c1 c2:Int),H18 pa=some (.tup [V.ref xa,V.ref xb])->fP S C G H15 xa p m ps na Ma->fP S C G H15 xb p m ps nb Mb->au p m ps na Ma->au p m ps nb Mb->(∀ rk:Nat,cq p (dMr p ns4 na ps Ms4 Ma).length (stN ns4 na ns4.length) (dMr p ns4 na ps Ms4 Ma) rk->((stN ns4 na ns4.length:Nat):Int)-(rk:Nat)=c1)->(∀ rk:Nat,cq p (dMr p ns4 nb ps Ms4 Mb).length (stN ns4 nb ns4.length) (dMr p ns4 nb ps Ms4 Mb) rk->((stN ns4 nb ns4.length:Nat):Int)-(rk:Nat)=c2)->(!decide (c1=c2))=!decide (ca=cb)->(λσ2 H2=>Y D3 σ2 H2) [↥a,⇑c,↥l,⇑p,⇑m,↥e,↥st1,↥st2,↥D,↥st3,↥st4,↥SM,v12,some (.bl (!decide (ca=cb))),↥xa,↥xb,v16] H18:=by
      intro xa xb pa na nb Ma Mb c1 c2 hpa k1 k2 u1 u2 h1 h2 hc;subst hY;show bG λZ hZ=>?_;left;show⟨_,aj.of ((sAD.trans s18) _ _ q17),_,rfl,⇑0,λpE hE=>?_⟩;have s19:=aa.new (o:=.tup [V.str "unlike",V.ref xb,V.ref x4]) hE;show run ((sAD.trans s18).trans s19) aw k1 k2 u1 u2 h1 h2 λH20 s20=>?_;rw[hc];subst hZ;left;show aM _ _ ⟨⟨rfl,rfl⟩,_,rfl,_,.bl _,_,FF K,eE ⇑0 (.inl ⟨rfl,eE (by simp) ?_⟩)⟩;subst hD3;show dc _ _ _ ⟨rfl,s18.trans (s19.trans s20)⟩
     match j,hu with
     | 0,hu=>
      cases hu;simp only[iV,g_,jw,bU,List.set_cons_zero,List.set_cons_succ];show aM pA _ ⟨rfl,aE.of (s18 _ _ qA),rfl,_,_,rfl,_,_,rfl,rfl,?_⟩;show go x1 x2 pA ns1 ns2 Ms1 Ms2 ca cb (s18 _ _ qA) K1 K2 W1 W2 C1 C2 rfl
     | 1,hu=>
      cases hu;simp only[iV,g_,jw,bU,List.set_cons_zero,List.set_cons_succ];show aM pB _ ⟨rfl,aE.of (s18 _ _ qB),rfl,_,_,rfl,_,_,rfl,rfl,?_⟩;show go x2 x1 pB ns2 ns1 Ms2 Ms1 cb ca (s18 _ _ qB) K2 K1 W2 W1 C2 C1 sy
     | 2,hu=>
      cases hu;simp only[iV,g_,jw,bU,List.set_cons_zero,List.set_cons_succ];show aM pC _ ⟨rfl,aE.of (s18 _ _ qC),rfl,_,_,rfl,_,_,rfl,rfl,?_⟩;show go x3 x2 pC ns1 ns2 Ls Ms2 ca cb (s18 _ _ qC) K3 K2 V3 W2 C3 C2 rfl
     | j+3,hu=>cases hu
    .intro σ H18 e97;show fU e97 λv14 v15 v16 e924 s18=>?_;clear e97;obtain rfl:=e924;subst hX;dsimp only;left;have q18:=(sAD.trans s18) _ _ q17;show⟨_,aj.of q18,_,rfl,_,aj.of q18,_,rfl,_,aj.of q18,_,rfl,⇑0,λpE hE=>?_⟩;have s19:=aa.new (o:=.tup [V.str "unlike",V.ref x3,V.ref x4]) hE;show run ((sAD.trans s18).trans s19) aw K1 K3 W1 V3 C1 C3 λH20 s20=>⟨_,rfl,eE (by simp) ?_⟩
     subst hD2;show pw _ _ _ _ _ _ _ _ _ _ _ _ _ _ _ _ ⟨rfl,s015.trans (s57.trans (sAD.trans (s18.trans (s19.trans s20))))⟩
  left;show b11.draw ⇑0 ⇑0 λy H12 y0 y1 e12 b12=>⟨rfl,bH (λ_=>b12.draw ∅ ∅ λr H13 r0 r1 e13 b13=>b13.draw ⇑0 ⇑0 λsz H14 z0 z1 e14 b14=>?_) (λ_=>aft st4 ns4 Ms4 H12 e12 b12 (R4.ext b11 e12))⟩
  obtain⟨mn,rfl⟩:∃ n:Nat,m=n:=⟨m.toNat,∅⟩
  obtain⟨rn,rfl⟩:∃ n:Nat,r=n:=⟨r.toNat,∅⟩
  have e14':=(e12.trans e13).trans e14;show wX e p mn rn sz xs ps ⟨rfl,hp,e14' _ _ nel he11,pr11.bag b11 e14',ip,p9,∅,∅,z0,∅,λt z tl ns ts Ms H15 s15 ht ht' hz hz' hm hn hs7 hs4 gl=>aft t ns Ms H15 (e14'.trans s15.ext) (b14.same s15) ⟨⟨H14,z,tl,ts,b14,b14.ne ht,b14.ne hz,ht',hz',gl⟩,hm,hn,hs7,hs4⟩⟩
 .intro σ H2 e98;show za e98 λv1 v2 v3 v4 v5 v6 v7 v8 v9 v10 v11 v12 v13 v14 v15 v16 e925 s2=>?_;clear e98;obtain rfl:=e925;subst hXX;left;show q H2 (s2 _ _ hPL0)
end
end Pf
set_option maxHeartbeats 4000000
namespace Pf
open PySem L2 PyProof.Rows
open PySem.W (nsIn codeIn keepIn fnOf findIn isFn mg_of mg_none_of plainGet hasDictIn plainOver makesIn)
theorem ex1 {us:List Value}(hl:us.length=1):∃ a0,us=[a0]:=match us,hl with|[a0],_=>⟨a0,rfl⟩
theorem ex2 {us:List Value}(hl:us.length=2):∃ a0 a1,us=[a0,a1]:=match us,hl with|[a0,a1],_=>⟨a0,a1,rfl⟩
theorem ex3 {us:List Value}(hl:us.length=3):∃ a0 a1 a2,us=[a0,a1,a2]:=match us,hl with|[a0,a1,a2],_=>⟨a0,a1,a2,rfl⟩
theorem ex4 {us:List Value}(hl:us.length=4):∃ a0 a1 a2 a3,us=[a0,a1,a2,a3]:=match us,hl with|[a0,a1,a2,a3],_=>⟨a0,a1,a2,a3,rfl⟩
theorem ex5 {us:List Value}(hl:us.length=5):∃ a0 a1 a2 a3 a4,us=[a0,a1,a2,a3,a4]:=match us,hl with|[a0,a1,a2,a3,a4],_=>⟨a0,a1,a2,a3,a4,rfl⟩
theorem ex6 {us:List Value}(hl:us.length=6):∃ a0 a1 a2 a3 a4 a5,us=[a0,a1,a2,a3,a4,a5]:=match us,hl with|[a0,a1,a2,a3,a4,a5],_=>⟨a0,a1,a2,a3,a4,a5,rfl⟩
def Gf (K:Frag)(x:Str)(st:Stmt)(f:Addr):Prop:=nsIn K mainGlobals x=some (↥f)/\∃ fd,ik K x x st f fd
theorem bn1{p:List Value->Prop}(h:∀ a,p [a]:=by intros;rfl):∀ us,us.length=1->p us:=λus hl=>by obtain⟨_,rfl⟩:=ex1 hl;show h _
theorem bn2{p:List Value->Prop}(h:∀ a b,p [a,b]:=by intros;rfl):∀ us,us.length=2->p us:=λus hl=>by obtain⟨_,_,rfl⟩:=ex2 hl;show h _ _
theorem bn3{p:List Value->Prop}(h:∀ a b c,p [a,b,c]:=by intros;rfl):∀ us,us.length=3->p us:=λus hl=>by obtain⟨_,_,_,rfl⟩:=ex3 hl;show h _ _ _
theorem bn4{p:List Value->Prop}(h:∀ a b c d,p [a,b,c,d]:=by intros;rfl):∀ us,us.length=4->p us:=λus hl=>by obtain⟨_,_,_,_,rfl⟩:=ex4 hl;show h _ _ _ _
theorem bn5{p:List Value->Prop}(h:∀ a b c d e,p [a,b,c,d,e]:=by intros;rfl):∀ us,us.length=5->p us:=λus hl=>by obtain⟨_,_,_,_,_,rfl⟩:=ex5 hl;show h _ _ _ _ _
theorem bn6{p:List Value->Prop}(h:∀ a b c d e g,p [a,b,c,d,e,g]:=by intros;rfl):∀ us,us.length=6->p us:=λus hl=>by obtain⟨_,_,_,_,_,_,rfl⟩:=ex6 hl;show h _ _ _ _ _ _
theorem yD {l:PySem.W.OpenLaw}{w:World}{K:Frag}{h:Heap}{mg:Str->Option Value}{fa C Cg Cs:Addr}{t1 t2 t3 t4 t5:Tok}(hpt:l.prog.given.tree=none){cL PL:Addr}(X:K.In h)(G:h.Ns mainGlobals mg)(hfa:mg "law" = ↥fa){f1 f2 f3 f4 f5 f6 f7 f8 f9 f10 f11 f12 f13 f14 f15 f16 f17 f18 f19 f20 f21 f22 f23 f24 f25 f26 f27 f28 f29 f30 f31 f32 f33 f34 f35 f36 f37 f38 f39 f40 f41 f42 f43 f44 f45 f46 f47 f48 f49 f50 f51 f52 f53 f54 f55 f56 f57 f58 f59 f60 f61 f62 f63 f64 f65 f66 f67 f68:Addr}{od14 an14 od62 an62 od65 an65:Option Addr}{sl14 sl62 sl65:Array (Option Value)}{oc14 kV14 dc14 pm14 ct14 oc62 kV62 dc62 pm62 ct62 cd62 oc65 kV65 dc65 pm65 ct65 cd65:Value}{D65:Addr}{doc65:Value}{dod65:Option Addr}{dosl65:Array (Option Value)}{dn65:Nat}{dt65:Tok}(u1:Gf K "is_whole" xQ f1)(u2:Gf K "makes_drawing" Bh f2)(u3:Gf K "is_arrow" Ax f3)(u4:Gf K "common_divisor" Bj f4)(u5:Gf K "not_both_long" Bi f5)(u6:Gf K "shortened" AO f6)(u7:Gf K "leading_steps" Bg f7)(u8:Gf K "common_multiple" Bq f8)(u9:Gf K "is_table" Az f9)(u10:Gf K "is_row" zP f10)(u11:Gf K "whole_row" AH f11)(u12:Gf K "tidied" zQ f12)(u13:Gf K "cleared" Ac f13)(a14:nsIn K mainGlobals "leading_row" = some (↥f14))(l14:K.lookup f14=some ⟨oc14,od14,.func (fnOf "leading_row" "leading_row" (jg rT) (hJ rT) (aZ rT) .none kV14 dc14 pm14 an14 (.ref cL) ct14),sl14⟩)(c14:codeIn K (.ref cL) "leading_row" = true)(k14:keepIn K (.ref f14)=true)(u15:Gf K "swept" zK f15)(u16:Gf K "rank" yX f16)(u17:Gf K "are_sizes" AJ f17)(u18:Gf K "is_table_of" A0 f18)(u19:Gf K "are_tables" AS f19)(u20:Gf K "stands_on" AQ f20)(u21:Gf K "place_starts" Bb f21)(u22:Gf K "difference_row" Bk f22)(u23:Gf K "differences" Be f23)(u24:Gf K "count_maps" AU f24)(u25:Gf K "is_beside" AK f25)(u26:Gf K "lets_by_unlike" Bm f26)(u27:Gf K "lets_by" Ak f27)(u28:Gf K "is_prime" Ay f28)(u29:Gf K "tells_ground" Bo f29)(u30:Gf K "fraction" Aw f30)(u31:Gf K "inverse" Ad f31)(u32:Gf K "rest_of" Al f32)(u33:Gf K "is_fraction" AZ f33)(u34:Gf K "_law_cell" AB f34)(u35:Gf K "_law_bag" Af f35)(u36:Gf K "_law_draw" AE f36)(u37:Gf K "_law_gcd" Ag f37)(u38:Gf K "_law_lowest" xS f38)(u39:Gf K "_law_small_prime" Br f39)(u40:Gf K "_law_number" AW f40)(u41:Gf K "_law_add" Ae f41)(u42:Gf K "_law_mul" Aj f42)(u43:Gf K "_law_int" Ah f43)(u44:Gf K "_law_back" AA f44)(u45:Gf K "_law_rows" AG f45)(u46:Gf K "_law_table" AN f46)(u47:Gf K "_law_copy" AD f47)(u48:Gf K "_law_product" A7 f48)(u49:Gf K "_law_plain" AM f49)(u50:Gf K "_law_reduced" A8 f50)(u51:Gf K "_law_pasted" AX f51)(u52:Gf K "_law_drawing" A4 f52)(u53:Gf K "_law_standing" Ba f53)(u54:Gf K "_law_nonzero" A6 f54)(u55:Gf K "_law_change" AV f55)(u56:Gf K "_law_inverse" A5 f56)(u57:Gf K "_law_led" Ai f57)(u58:Gf K "_law_made" AF f58)(u59:Gf K "_law_ask_row" A3 f59)(u60:Gf K "_law_count" AL f60)(u61:Gf K "_law_single" AY f61)(a62:nsIn K mainGlobals "law" = some (↥f62))(l62:K.lookup f62=some ⟨oc62,od62,.func (fnOf "law" "law" (jg nH) (hJ nH) (aZ nH) .none kV62 dc62 pm62 an62 cd62 ct62),sl62⟩)(c62:codeIn K cd62 "law" = true)(k62:keepIn K (.ref f62)=true)(aC:nsIn K mainGlobals "Drawing" = some (↥C))(a63:findIn K (.ref C) "__init__" = some (↥f63))(i63:isFn K (.ref f63)=true)(u63:∃ fd,ik K "__init__" "Drawing.__init__" A9 f63 fd)(pg:plainGet K C Str.empty=true)(hd:hasDictIn K C=true)(po:plainOver K C=true)(sa:findIn K (.ref C) "__setattr__" = some (some (.builtin "object.__setattr__")))(mk:makesIn K C=true)(kc:keepIn K (.ref C)=true)(nM:findIn K (.ref C) "many" = some none)(nA:findIn K (.ref C) "arrows" = some none)(aCg:nsIn K mainGlobals "Ground" = some (↥Cg))(a64:findIn K (.ref Cg) "__init__" = some (↥f64))(i64:isFn K (.ref f64)=true)(u64:∃ fd,ik K "__init__" "Ground.__init__" Bc f64 fd)(a65:findIn K (.ref Cg) "number" = some (↥f65))(i65:isFn K (.ref f65)=true)(l65:K.lookup f65=some ⟨oc65,od65,.func (fnOf "number" "Ground.number" (jg jB) (hJ jB) (aZ jB) (.ref D65) kV65 dc65 pm65 an65 cd65 ct65),sl65⟩)(dl65:K.lookup D65=some ⟨doc65,dod65,.seq #[.int 1 dt65] dn65,dosl65⟩)(c65:codeIn K cd65 "Ground.number" = true)(k65:keepIn K (.ref f65)=true)(a66:findIn K (.ref Cg) "minus" = some (↥f66))(i66:isFn K (.ref f66)=true)(u66:∃ fd,ik K "minus" "Ground.minus" A_ f66 fd)(a67:findIn K (.ref Cg) "is_number" = some (↥f67))(i67:isFn K (.ref f67)=true)(u67:∃ fd,ik K "is_number" "Ground.is_number" Bp f67 fd)(pg_Cg:plainGet K Cg Str.empty=true)(hd_Cg:hasDictIn K Cg=true)(po_Cg:plainOver K Cg=true)(sa_Cg:findIn K (.ref Cg) "__setattr__" = some (some (.builtin "object.__setattr__")))(mk_Cg:makesIn K Cg=true)(kc_Cg:keepIn K (.ref Cg)=true)(nP:findIn K (.ref Cg) "prime" = some none)(aCs:nsIn K mainGlobals "Standing" = some (↥Cs))(a68:findIn K (.ref Cs) "__init__" = some (↥f68))(i68:isFn K (.ref f68)=true)(u68:∃ fd,ik K "__init__" "Standing.__init__" Bf f68 fd)(pg_Cs:plainGet K Cs Str.empty=true)(hd_Cs:hasDictIn K Cs=true)(po_Cs:plainOver K Cs=true)(sa_Cs:findIn K (.ref Cs) "__setattr__" = some (some (.builtin "object.__setattr__")))(mk_Cs:makesIn K Cs=true)(kc_Cs:keepIn K (.ref Cs)=true)(nSg:findIn K (.ref Cs) "ground" = some none)(nSd:findIn K (.ref Cs) "drawing" = some none)(nSs:findIn K (.ref Cs) "sizes" = some none)(nSt:findIn K (.ref Cs) "tables" = some none)(g1:nsIn K mainGlobals "MOST_POINTS" = some (some (.int 8 t1)))(g2:nsIn K mainGlobals "MOST_ARROWS" = some (some (.int 9 t2)))(g3:nsIn K mainGlobals "LARGEST_PRIME" = some (some (.int 97 t3)))(g4:nsIn K mainGlobals "LONG" = some (some (.int 4000 t4)))(g5:nsIn K mainGlobals "LEADING" = some (some (.int 126 t5)))(z0:nsIn K mainGlobals "len" = some none)(z1:nsIn K mainGlobals "range" = some none)(z2:nsIn K mainGlobals "list" = some none)(z3:nsIn K mainGlobals "min" = some none)(z4:nsIn K mainGlobals "int" = some none)(z5:nsIn K mainGlobals "bool" = some none)(z6:nsIn K mainGlobals "tuple" = some none)(z7:nsIn K mainGlobals "all" = some none)(z8:nsIn K mainGlobals "isinstance" = some none)(z9:nsIn K mainGlobals "abs" = some none)(z10:nsIn K mainGlobals "zip" = some none)(z11:nsIn K mainGlobals "enumerate" = some none)(z12:nsIn K mainGlobals "reversed" = some none)(z13:nsIn K mainGlobals "sum" = some none)(z14:nsIn K mainGlobals "any" = some none)(hcL:hdIn K cL PL=true)(x_ic1:findIn K (.ref Cs) "__class__" = some (some (.builtin "object.__class__")))(x_ic2:PySem.W.specialIn K (.builtin "object.__class__") "__get__" = some (some (.builtin "getset_descriptor.__get__")))(x_ic3:PySem.W.takesIn K (.builtin "object.__class__")=some true)(x_ic4:PySem.W.mroIn K Cs (.type "object")=some true):
  ∃ fd:FuncData,(∀ (s:Shared) (v:Value),BindsTo s fd ⟨[v],[]⟩ [("_law_script",v)])/\∀ base:Heap,K.In base->base.Ns mainGlobals mg->cu l.prog w K mg base gY 14 fa fd ["_law_script"] (wW K PL):=by
 have e:=hfa.symm.trans (mg_of X G a62);cases e;have T:J_ K mg C Cg Cs:=⟨⟨pg,hd,po,sa⟩,nM,nA,⟨pg_Cg,hd_Cg,po_Cg,sa_Cg⟩,nP,⟨pg_Cs,hd_Cs,po_Cs,sa_Cs⟩,nSg,nSd,nSs,nSt,mg_none_of X G z0,mg_none_of X G z1,mg_none_of X G z2,mg_none_of X G z3,mg_none_of X G z4,mg_none_of X G z5,mg_none_of X G z6,mg_none_of X G z7,mg_none_of X G z8,mg_none_of X G z9,mg_none_of X G z10,mg_none_of X G z11,mg_none_of X G z12,mg_none_of X G z13,mg_none_of X G z14,⟨t1,mg_of X G g1⟩,⟨t2,mg_of X G g2⟩,⟨t3,mg_of X G g3⟩,⟨t4,mg_of X G g4⟩,⟨t5,mg_of X G g5⟩,mg_of X G aCs,x_ic1,x_ic2,x_ic3,x_ic4⟩
 obtain⟨a1,_,F1⟩:=u1;have b1:=F1.binds (ps:=["thing"]) λ_ _ _ _ _ _=>bn1
 obtain⟨a2,_,F2⟩:=u2;have b2:=F2.binds (ps:=["many","arrows"]) λ_ _ _ _ _ _=>bn2
 obtain⟨a3,_,F3⟩:=u3;have b3:=F3.binds (ps:=["many","thing"]) λ_ _ _ _ _ _=>bn2
 obtain⟨a4,_,F4⟩:=u4;have b4:=F4.binds (ps:=["one","other"]) λ_ _ _ _ _ _=>bn2
 obtain⟨a5,_,F5⟩:=u5;have b5:=F5.binds (ps:=["one","other"]) λ_ _ _ _ _ _=>bn2
 obtain⟨a6,_,F6⟩:=u6;have b6:=F6.binds (ps:=["one","other"]) λ_ _ _ _ _ _=>bn2
 obtain⟨a7,_,F7⟩:=u7;have b7:=F7.binds (ps:=["one","other"]) λ_ _ _ _ _ _=>bn2
 obtain⟨a8,_,F8⟩:=u8;have b8:=F8.binds (ps:=["one","other"]) λ_ _ _ _ _ _=>bn2
 obtain⟨a9,_,F9⟩:=u9;have b9:=F9.binds (ps:=["ground","thing"]) λ_ _ _ _ _ _=>bn2
 obtain⟨a10,_,F10⟩:=u10;have b10:=F10.binds (ps:=["ground","wide","thing"]) λ_ _ _ _ _ _=>bn3
 obtain⟨a11,_,F11⟩:=u11;have b11:=F11.binds (ps:=["ground","row"]) λ_ _ _ _ _ _=>bn2
 obtain⟨a12,_,F12⟩:=u12;have b12:=F12.binds (ps:=["ground","row"]) λ_ _ _ _ _ _=>bn2
 obtain⟨a13,_,F13⟩:=u13;have b13:=F13.binds (ps:=["ground","row","lead","place"]) λ_ _ _ _ _ _=>bn4
 have F14:jr K "leading_row" "leading_row" rT f14 _ cL:=⟨⟨oc14,od14,kV14,dc14,pm14,an14,ct14,sl14,rfl,l14,c14⟩⟩
 have b14:=F14.binds (ps:=["rows","place"]) λ_ _ _ _ _ _=>bn2
 obtain⟨a15,_,F15⟩:=u15;have b15:=F15.binds (ps:=["ground","rows","wide"]) λ_ _ _ _ _ _=>bn3
 obtain⟨a16,_,F16⟩:=u16;have b16:=F16.binds (ps:=["ground","table"]) λ_ _ _ _ _ _=>bn2
 obtain⟨a17,_,F17⟩:=u17;have b17:=F17.binds (ps:=["drawing","thing"]) λ_ _ _ _ _ _=>bn2
 obtain⟨a18,_,F18⟩:=u18;have b18:=F18.binds (ps:=["ground","high","wide","thing"]) λ_ _ _ _ _ _=>bn4
 obtain⟨a19,_,F19⟩:=u19;have b19:=F19.binds (ps:=["ground","drawing","sizes","thing"]) λ_ _ _ _ _ _=>bn4
 obtain⟨a20,_,F20⟩:=u20;have b20:=F20.binds (ps:=["standing","ground","drawing"]) λ_ _ _ _ _ _=>bn3
 obtain⟨a21,_,F21⟩:=u21;have b21:=F21.binds (ps:=["one","other"]) λ_ _ _ _ _ _=>bn2
 obtain⟨a22,_,F22⟩:=u22;have b22:=F22.binds (ps:=["one","other","at","row_place","column_place"]) λ_ _ _ _ _ _=>bn5
 obtain⟨a23,_,F23⟩:=u23;have b23:=F23.binds (ps:=["one","other"]) λ_ _ _ _ _ _=>bn2
 obtain⟨a24,_,F24⟩:=u24;have b24:=F24.binds (ps:=["one","other"]) λ_ _ _ _ _ _=>bn2
 obtain⟨a25,_,F25⟩:=u25;have b25:=F25.binds (ps:=["standing","thing"]) λ_ _ _ _ _ _=>bn2
 obtain⟨a26,_,F26⟩:=u26;have b26:=F26.binds (ps:=["standing","other","part"]) λ_ _ _ _ _ _=>bn3
 obtain⟨a27,_,F27⟩:=u27;have b27:=F27.binds (ps:=["standing","paper"]) λ_ _ _ _ _ _=>bn2
 obtain⟨a28,_,F28⟩:=u28;have b28:=F28.binds (ps:=["number"]) λ_ _ _ _ _ _=>bn1
 obtain⟨a29,_,F29⟩:=u29;have b29:=F29.binds (ps:=["thing"]) λ_ _ _ _ _ _=>bn1
 obtain⟨a30,_,F30⟩:=u30;have b30:=F30.binds (ps:=["top","bottom"]) λ_ _ _ _ _ _=>bn2
 obtain⟨a31,_,F31⟩:=u31;have b31:=F31.binds (ps:=["rest","prime"]) λ_ _ _ _ _ _=>bn2
 obtain⟨a32,_,F32⟩:=u32;have b32:=F32.binds (ps:=["top","bottom","prime"]) λ_ _ _ _ _ _=>bn3
 obtain⟨a33,_,F33⟩:=u33;have b33:=F33.binds (ps:=["thing"]) λ_ _ _ _ _ _=>bn1
 obtain⟨a34,_,F34⟩:=u34;have b34:=F34.binds (ps:=["_law_script","_law_k"]) λ_ _ _ _ _ _=>bn2
 obtain⟨a35,_,F35⟩:=u35;have b35:=F35.binds (ps:=["_law_cell_here"]) λ_ _ _ _ _ _=>bn1
 obtain⟨a36,_,F36⟩:=u36;have b36:=F36.binds (ps:=["_law_bag_here","_law_many"]) λ_ _ _ _ _ _=>bn2
 obtain⟨a37,_,F37⟩:=u37;have b37:=F37.binds (ps:=["_law_one","_law_two"]) λ_ _ _ _ _ _=>bn2
 obtain⟨a38,_,F38⟩:=u38;have b38:=F38.binds (ps:=["_law_top","_law_bottom"]) λ_ _ _ _ _ _=>bn2
 obtain⟨a39,_,F39⟩:=u39;have b39:=F39.binds (ps:=["_law_bag_here"]) λ_ _ _ _ _ _=>bn1
 obtain⟨a40,_,F40⟩:=u40;have b40:=F40.binds (ps:=["_law_bag_here","_law_p"]) λ_ _ _ _ _ _=>bn2
 obtain⟨a41,_,F41⟩:=u41;have b41:=F41.binds (ps:=["_law_p","_law_a","_law_b"]) λ_ _ _ _ _ _=>bn3
 obtain⟨a42,_,F42⟩:=u42;have b42:=F42.binds (ps:=["_law_p","_law_a","_law_b"]) λ_ _ _ _ _ _=>bn3
 obtain⟨a43,_,F43⟩:=u43;have b43:=F43.binds (ps:=["_law_p","_law_k"]) λ_ _ _ _ _ _=>bn2
 obtain⟨a44,_,F44⟩:=u44;have b44:=F44.binds (ps:=["_law_p","_law_a"]) λ_ _ _ _ _ _=>bn2
 obtain⟨a45,_,F45⟩:=u45;have b45:=F45.binds (ps:=["_law_bag_here","_law_p","_law_high","_law_wide"]) λ_ _ _ _ _ _=>bn4
 obtain⟨a46,_,F46⟩:=u46;have b46:=F46.binds (ps:=["_law_bag_here","_law_p","_law_high","_law_wide"]) λ_ _ _ _ _ _=>bn4
 obtain⟨a47,_,F47⟩:=u47;have b47:=F47.binds (ps:=["_law_table_here"]) λ_ _ _ _ _ _=>bn1
 obtain⟨a48,_,F48⟩:=u48;have b48:=F48.binds (ps:=["_law_p","_law_one","_law_other"]) λ_ _ _ _ _ _=>bn3
 obtain⟨a49,_,F49⟩:=u49;have b49:=F49.binds (ps:=["_law_p","_law_many"]) λ_ _ _ _ _ _=>bn2
 obtain⟨a50,_,F50⟩:=u50;have b50:=F50.binds (ps:=["_law_p","_law_table_here"]) λ_ _ _ _ _ _=>bn2
 obtain⟨a51,_,F51⟩:=u51;have b51:=F51.binds (ps:=["_law_one","_law_other"]) λ_ _ _ _ _ _=>bn2
 obtain⟨a52,_,F52⟩:=u52;have b52:=F52.binds (ps:=["_law_bag_here"]) λ_ _ _ _ _ _=>bn1
 obtain⟨a53,_,F53⟩:=u53;have b53:=F53.binds (ps:=["_law_bag_here","_law_p","_law_many","_law_arrows"]) λ_ _ _ _ _ _=>bn4
 obtain⟨a54,_,F54⟩:=u54;have b54:=F54.binds (ps:=["_law_bag_here","_law_p"]) λ_ _ _ _ _ _=>bn2
 obtain⟨a55,_,F55⟩:=u55;have b55:=F55.binds (ps:=["_law_bag_here","_law_p","_law_size"]) λ_ _ _ _ _ _=>bn3
 obtain⟨a56,_,F56⟩:=u56;have b56:=F56.binds (ps:=["_law_p","_law_table_here"]) λ_ _ _ _ _ _=>bn2
 obtain⟨a57,_,F57⟩:=u57;have b57:=F57.binds (ps:=["_law_p","_law_arrows","_law_standing_here","_law_changes","_law_backs"]) λ_ _ _ _ _ _=>bn5
 obtain⟨a58,_,F58⟩:=u58;have b58:=F58.binds (ps:=["_law_ground","_law_drawing_here","_law_standing_here"]) λ_ _ _ _ _ _=>bn3
 obtain⟨a59,_,F59⟩:=u59;have b59:=F59.binds (ps:=["_law_p","_law_arrow","_law_k","_law_one","_law_other","_law_spot"]) λ_ _ _ _ _ _=>bn6
 obtain⟨a60,_,F60⟩:=u60;have b60:=F60.binds (ps:=["_law_p","_law_arrows","_law_one","_law_other"]) λ_ _ _ _ _ _=>bn4
 obtain⟨a61,_,F61⟩:=u61;have b61:=F61.binds (ps:=["_law_p","_law_many","_law_arrows","_law_point","_law_size"]) λ_ _ _ _ _ _=>bn5
 have F62:=qU (st:=nH) l62 c62 k62;obtain⟨_,F63⟩:=u63;have b63:=F63.binds (ps:=["self","many","arrows"]) λ_ _ _ _ _ _=>bn3
 obtain⟨_,F64⟩:=u64;have b64:=F64.binds (ps:=["self","prime"]) λ_ _ _ _ _ _=>bn2
 have F65:og K "number" "Ground.number" jB f65 _ D65:=⟨⟨oc65,od65,kV65,dc65,pm65,an65,cd65,ct65,sl65,rfl,l65,c65⟩⟩
 have b65:=FI (fd:=fnOf "number" "Ground.number" (jg jB) (hJ jB) (aZ jB) (.ref D65) kV65 dc65 pm65 an65 cd65 ct65) (ps:=["self","top","bottom"]) (ds:=[.int 1 dt65]) dl65 rfl λus hl=>match us,(show us.length=2 by simpa using hl) with|[_,_],_=>⟨_,rfl,rfl⟩
 have bF65:=FI (fd:=fnOf "number" "Ground.number" (jg jB) (hJ jB) (aZ jB) (.ref D65) kV65 dc65 pm65 an65 cd65 ct65) (ps:=["self","top","bottom"]) (ds:=[]) dl65 rfl λus hl=>match us,(show us.length=3 by simpa using hl) with|[_,_,_],_=>⟨_,rfl,rfl⟩
 obtain⟨_,F66⟩:=u66;have b66:=F66.binds (ps:=["self","a","b"]) λ_ _ _ _ _ _=>bn3
 obtain⟨_,F67⟩:=u67;have b67:=F67.binds (ps:=["self","thing"]) λ_ _ _ _ _ _=>bn2
 obtain⟨_,F68⟩:=u68;have b68:=F68.binds (ps:=["self","ground","drawing","sizes","tables"]) λ_ _ _ _ _ _=>bn5
 show⟨fnOf "law" "law" (jg nH) (hJ nH) (aZ nH) .none kV62 dc62 pm62 an62 cd62 ct62,λs v=>.of_eq rfl,λbase KB _=>?_⟩;have hcb:=om KB hcL;have km:=λ{x:Str}{k:Nat}{sp}{f}{fd}{ps}(h:cu l.prog w K mg base gY k f fd ps sp) a c b=>(⟨_,_,_,h,mg_of X G a,c,b⟩:Cp l.prog w K mg base x k sp);have C1:=km (GM F1 T) a1 F1.kp b1
 have C1A:=km (HI F1 T) a1 F1.kp b1
 have C3:=km (Gw F3 T C1) a3 F3.kp b3
 have C2:=km (GD F2 T C1 C3) a2 F2.kp b2
 have C63:gX l.prog w K mg base "Drawing" C 4 (xc C):=⟨_,_,_,mi F63 T C2,⟨mk,a63,i63,kc⟩,mg_of X G aC,b63⟩
 have C7:=km (mh F7 T hpt) a7 F7.kp b7
 have C6:=km (GH F6 T C7) a6 F6.kp b6
 have C5:=km (qh F5 T C6) a5 F5.kp b5
 have C4:=km (qx F4 T C5) a4 F4.kp b4
 have C28:=km (GF F28 T) a28 F28.kp b28
 have C29:=km (GK F29 T C1 C28) a29 F29.kp b29
 have C30:=km (Gy F30 T hpt C4) a30 F30.kp b30
 have C31:=km (qo F31 T) a31 F31.kp b31
 have C32:=km (GG F32 T C31) a32 F32.kp b32
 have C33:=km (ux F33 T C1A C4) a33 F33.kp b33
 have C64:gX l.prog w K mg base "Ground" Cg 3 (xB Cg):=⟨_,_,_,Gz F64 T C29,⟨mk_Cg,a64,i64,kc_Cg⟩,mg_of X G aCg,b64⟩
 have C65:sL l.prog w K mg base Cg "number" 6 (zb Cg) [.int 1]:=⟨_,_,_,_,lZ F65 T C30 C32,⟨a65,i65,k65⟩,b65,.cons ⟨_,rfl⟩ .nil⟩
 have C66:kh l.prog w K mg base Cg "minus" 6 (spMin Cg):=⟨_,_,_,qi F66 T C30,⟨a66,i66,F66.kp⟩,b66⟩
 have C67:kh l.prog w K mg base Cg "is_number" 6 (spIsN Cg):=⟨_,_,_,qm F67 T C1A C33,⟨a67,i67,F67.kp⟩,b67⟩
 have C10:=km (GA F10 T C67) a10 F10.kp b10
 have C9:=km (GB F9 T C1A C10) a9 F9.kp b9
 have C17:=km (ur F17 T C1) a17 F17.kp b17
 have C18:=km (uo F18 T C9) a18 F18.kp b18
 have C19:=km (uk F19 T C18) a19 F19.kp b19
 have C68:gX l.prog w K mg base "Standing" Cs 11 (spSI Cs C Cg):=⟨_,_,_,GI F68 T C17 C19,⟨mk_Cs,a68,i68,kc_Cs⟩,mg_of X G aCs,b68⟩
 have C8:=km (qv F8 T hpt C4) a8 F8.kp b8
 have C11:=km (p_ F11 T hpt C8) a11 F11.kp b11
 have C12:=km (lV F12 T hpt C4) a12 F12.kp b12
 have C13:=km (Gx F13 T hpt C4 C12) a13 F13.kp b13
 have C14:=km (uw F14 T hcb) a14 k14 b14
 have C15:=km (GJ F15 T C11 C12 C13 C14) a15 F15.kp b15
 have C16:=km (lX F16 T C15) a16 F16.kp b16
 have C20:=km (uu F20 T) a20 F20.kp b20
 have C21:=km (qb F21 T) a21 F21.kp b21
 have C22:=km (uy F22 T C21 C65 C66) a22 F22.kp b22
 have C23:=km (qt F23 T C20 C21 C22) a23 F23.kp b23
 have C24:=km (uA F24 T C23 C16) a24 F24.kp b24
 have C25:=km (qz F25 T C20) a25 F25.kp b25
 have C26:=km (qa F26 T C25 C24) a26 F26.kp b26
 have C27:=km (uj F27 T C26) a27 F27.kp b27
 have C34:=km (mx F34 T) a34 F34.kp b34
 have C35:=km (qE F35 T) a35 F35.kp b35
 have C36:=km (mj F36 T) a36 F36.kp b36
 have C37:=km (qr F37 T) a37 F37.kp b37
 have C38B:=km (l_ F38 T hpt C37) a38 F38.kp b38
 have C38Z:=km (l9 F38 T hpt C37 C38B) a38 F38.kp b38
 have C41B:=km (mE F41 T C38B) a41 F41.kp b41
 have C42B:=km (l6 F42 T C38B) a42 F42.kp b42
 have C43:=km (qp F43 T) a43 F43.kp b43
 have C44:=km (my F44 T C38Z) a44 F44.kp b44
 have C47:=km (mq F47 T) a47 F47.kp b47
 have C48:=km (qk F48 T C43 C41B C42B) a48 F48.kp b48
 have C50:=km (l8 F50 T C47 C43 C41B C42B C44) a50 F50.kp b50
 have C51:=km (GE F51 T) a51 F51.kp b51
 have C39:=km (qd F39 T C36) a39 F39.kp b39
 have C40:=km (lY F40 T C36) a40 F40.kp b40
 have C54:=km (qg F54 T C36) a54 F54.kp b54
 have C45:=km (lW F45 T C36 C40 C43) a45 F45.kp b45
 have C46:=km (uq F46 T C45 C36 C40 C42B C41B) a46 F46.kp b46
 have C52:=km (GC F52 T C36) a52 F52.kp b52
 have C49:=km (qf F49 T C43) a49 F49.kp b49
 have C55:=km (qw F55 T C49 C54 C42B C36 C40 C41B) a55 F55.kp b55
 have C56:=km (ma F56 T C49 C51 C50) a56 F56.kp b56
 have C57:=km (mf F57 T C48) a57 F57.kp b57
 have C53:=km (qj F53 T C36 C46) a53 F53.kp b53
 have C59:=km (mz F59 T C43 C41B C42B) a59 F59.kp b59
 have C60:=km (mw F60 T C59 C50) a60 F60.kp b60
 have C58:=km (uv F58 T C68) a58 F58.kp b58
 have C61:=km (qe F61 T C43) a61 F61.kp b61
 show ql F62 T C34 C35 C36 C39 C52 C53 C55 C56 C57 C61 C58 C64 C63 C60 C27
theorem walk {l:PySem.W.OpenLaw}{q:Program}{loose:List Str}{XP:(Str->Option Value)->Heap->Prop}{d:DefRec}{K:Params->Frag}{as:List Addr}{e:∀ (P:Params),as=List.map (λx=>x.fst) (K P)}{PL:Addr}(hq:importsNone q=true)(hn:l.most=some 63)(hdf:d.params.defaults=[])(hN:∀ p,(K p).lookup PL=none)(hC:∀ p,hdIn (K p) (PL+2) PL=true)(F:∀ (w:World) (mg:Str->Option Value) (fa:Addr) (h:Heap),(K w.params).In h->h.Ns mainGlobals mg->mg d.name=↥fa->
   ∃ fd:FuncData,(∀ (s:Shared) (u:Value),BindsTo s fd ⟨[u],[]⟩ [("_law_script",u)])/\∀ base:Heap,(K w.params).In base->base.Ns mainGlobals mg->cu l.prog w (K w.params) mg base gY 14 fa fd ["_law_script"] (wW (K w.params) PL)):
  PySem.W.WalkO q loose XP (PySem.W.kmHook K as e [PL]).says l.row.toRowW d [] (λf vs=>PySem.call f vs):=
 G9 (n:=63) (k:=14) (x:="_law_script") (sp:=λw=>wW (K w.params) PL) (PL+2) PL 161 26 ("leading_row.<locals>." ++ "<lambda>") hq hn ⇑0 hdf ⟨rfl,⇑0,⇑0⟩ (λw h Y=>PySem.W.km_in_of Y) (λw h Y=>PySem.W.km_tabs_of Y PL (cS.mpr rfl)) hN hC F (λ_ H a ns Q E hl hS hT q=>⟨a,ns,rfl,hS,hl,hT,q⟩)
end Pf
namespace PySem.W.Fast
def tw12791720096088950560:=0
def tw2344594094386034167:=0
def tw3815574758208636712:=0
def tw8087232141731009979:=0
def tw12161457253113338692:=0
def tw4771065626127654066:=0
def tw5884650992851589660:=0
def tw3479691942696484481:=0
def tw16934433504852118007:=0
def tw2851919648238278155:=0
def tw343083593176612182:=0
def tw1114674488870969880:=0
def tw4624847801915927985:=0
def tw11136784719773041533:=0
def tw3561444308652583922:=0
def tw4034800025458337166:=0
def tw4066628441614631745:=0
def tw8092806033662606004:=0
def tw14236407501891642241:=0
def tw6735098653038940849:=0
def tw2473963803613972738:=0
def tw9551696509714164281:=0
def tw4618812405264925109:=0
def tw11903155205453622399:=0
def tw3999550149749917468:=0
def tw16414545597925283477:=0
def tw9428176584616416591:=0
def tw3933132242161992031:=0
def tw7512377119984906635:=0
def tw9472288629219292564:=0
def tw3145755152049632545:=0
def tw17043345438018306663:=0
def tw1556018928113388130:=0
def tw11679155313314356803:=0
def tw8292394833725753486:=0
def tw10037082077946121127:=0
def tw2899055242798544894:=0
def tw17165295922585813243:=0
def tw7801677075505359352:=0
def tw3953379340577831344:=0
def tw3635868514120201277:=0
def tw11182291279379483328:=0
def tw17602398548693068615:=0
def tw2729040511287104472:=0
def tw1153218251894687293:=0
def tw4725215892651046562:=0
def tw12275395289079293837:=0
def tw4061816362575277176:=0
def tw8415014742577745258:=0
def tw16091676393827147289:=0
def tw16015677114501047621:=0
def tw4801376681547537822:=0
def tw13002417624122545847:=0
def tw18336258959877518938:=0
def tw16955465914042533090:=0
def tw1805998449547557394:=0
def tw16052543509493261239:=0
def tw16355645745855876245:=0
def tw10017618914154284247:=0
def tw6902876665297328022:=0
def tw12814984204838710279:=0
def tw5915624879468752345:=0
def tw5688489464776770617:=0
def tw7015184072926065717:=0
def tw12743088811819257584:=0
def tw17360185972289219558:=0
def tw15197068374978398776:=0
def tw13022906279965314879:=0
def tw9971941133482015721:=0
def tw10129192397219042390:=0
def tw3848161103672737327:=0
def tw16646427229046088395:=0
def tw16215608758803792074:=0
def tw2130674908782941154:=0
def tw10683961844713979537:=0
def tw17222066091691783873:=0
def tw17565145955683454036:=0
def tw14203393602997188493:=0
def tw6801807407916874480:=0
def tw3647848701082955220:=0
def tw17368413101686885130:=0
def tw7846739149493196360:=0
def tw11049011796297607492:=0
def tw9624044248409114496:=0
def tw9062564717451811438:=0
def tw9959176080211880884:=0
def tw4981647375655882556:=0
def tw10550286958360149851:=0
def tw4918521713939549902:=0
def tw80505089751358704:=0
def tw3959994171221359734:=0
def tw1226285995143660278:=0
def tw17736188278519449149:=0
def tw9512258121932864890:=0
def tw14087859080033685373:=0
def tw3885009663015625236:=0
def tw10882342117757545087:=0
def tw13034339706404524270:=0
def tw5225992716488871316:=0
def tw15369365370254499721:=0
def tw8890879735457401825:=0
def tw7458808048104655666:=0
def tw5034557510383573589:=0
def tw12199582285703642636:=0
def tw11451362019876502423:=0
def tw690627578073909345:=0
def tw5121831105611172651:=0
def tw8576035557593732214:=0
def tw15315033136244202558:=0
def tw17979781354747884327:=0
def tw5661455020540024645:=0
def tw4318732011886340505:=0
def tw4393665240934723253:=0
def tw13378461202045637276:=0
def tw1906230052402478049:=0
def tw17345567364322596271:=0
def tw8134687679462146228:=0
def tw6444821690056712059:=0
def tw9341164678574936091:=0
def tw15410922277279395190:=0
def tw18377871772456679499:=0
def tw8942166467669016447:=0
def tw5838889250065399499:=0
def tw1140112190010313248:=0
def tw16914241252463962536:=0
def tw4610999454715693147:=0
def tw2007261959026832877:=0
def tw8100458134410338632:=0
def tw1560801591941047696:=0
def tw9216286259590047723:=0
def tw17095424420631846201:=0
def tw220670802009004451:=0
def tw14412551847423227772:=0
def tw1873806879791895543:=0
def tw11576719544623685114:=0
def tw6159712658077008546:=0
def tw6098212260702670334:=0
def tw4325127809993592162:=0
def tw16455007543970543434:=0
def tw18422293635354488626:=0
def tw6887527431256550283:=0
def tw2400641027597913320:=0
def tw4990497681662254494:=0
def tw236828362071514967:=0
def tw5512720351547431222:=0
def tw13635162912469654449:=0
def tw15372074181125432228:=0
def tw4426412028461634693:=0
def tw16365846735829356080:=0
def tw13740412526247248626:=0
def tw2763503373019056992:=0
def tw11094182609093912332:=0
def tw4730651753700690278:=0
def tw4742556118647254318:=0
def tw4534651640643670798:=0
def tw14198173763690715721:=0
def tw7559302256267387348:=0
def tw12912326004218775803:=0
def tw9954028248743451117:=0
def tw14478606769171603592:=0
def tw15469392411553847415:=0
def tw11043830275202793083:=0
def tw18282107220147125152:=0
def tw10320393285938034007:=0
def tw2862680509628958707:=0
def tw16285390588801687273:=0
def tw13494311654502404668:=0
def tw14977984466310141262:=0
def tw10948009761327100025:=0
def tw10967305407089878160:=0
def tw14826735939484804241:=0
def tw17293034929522916056:=0
def tw14838002709222302019:=0
def tw6365946560385451475:=0
def tw16402394785476191591:=0
def tw8786835448256125737:=0
def tw4801531732971837023:=0
def tw11536309241596705655:=0
def tw14712192990654384670:=0
def tw6767223029886138882:=0
def tw8286144348553058537:=0
def tw11227525533777175411:=0
def tw7004884934214973589:=0
def tw16796786009324300524:=0
def tw355733529531377611:=0
def tw10783354099489293679:=0
def tw11282817482572696833:=0
def tw9764869983652367109:=0
def tw15362478056835982179:=0
def tw2694663492151383194:=0
def tw2972158418868549724:=0
def tw4883465247158325066:=0
def tw7007355601344054961:=0
def tw15326247001295461411:=0
def tw16935008591961632157:=0
def tw651336594962471:=0
def tw284333032265748840:=0
def tw18400378250855954845:=0
def tw468873269869666217:=0
def tw14155154586042139052:=0
def tw10653824924737408315:=0
def tw11835355036026187301:=0
def tw12739001275732660982:=0
def tw2814933228986109889:=0
def tw8871048801819888703:=0
def tw11694896176521862861:=0
def tw2033477060154486123:=0
def tw5349527415138548493:=0
def tw1925132593512075049:=0
def tw8339817711981046032:=0
def tw2188997242222811811:=0
def tw16593236941846817730:=0
def tw11866142301461451483:=0
def tw4937609405592712018:=0
def tw12168655061611196553:=0
def tw2393288052144160940:=0
def tw9318204709613428945:=0
def tw14690379835139819559:=0
def tw18210037647328766992:=0
def tw13689512709256693208:=0
def tw17141656635064826647:=0
def tw677765643811888268:=0
def tw16325106170616303555:=0
def tw3725831546323698023:=0
def tw7785642042151839521:=0
def tw5208319275486243705:=0
def tw3303389731901171373:=0
def tw9725864770461130870:=0
def tw17145809027118858176:=0
def tw13865133391528624345:=0
def tw10027612125832097963:=0
def tw7327524645512999059:=0
def tw14690818544617540733:=0
def tw4640590336899423826:=0
def tw18208479324029855526:=0
def tw10534995177013201905:=0
def tw12156525948522752716:=0
def tw14217530344549610185:=0
def tw4994126398505584203:=0
def tw15965845229808134184:=0
def tw12113420311263116147:=0
def tw15899976460623340209:=0
def tw3262547075334438856:=0
def tw4171769990531925125:=0
def tw3811756482643211963:=0
def tw606516439434855066:=0
def tw16210640149931562242:=0
def tw12635169082206809856:=0
def tw5370349371459133341:=0
def tw16459057909179626510:=0
def tw4762327774328881875:=0
def tw17596144548103545618:=0
def tw12123365539309777635:=0
def tw16596432385851818086:=0
def tw15600390009688120514:=0
def tw12182492496788386636:=0
def tw9736591087495598412:=0
def tw3327985758238809014:=0
def tw17639030727212826383:=0
def tw9474409043865600712:=0
def tw14510238346507069226:=0
def tw900513534590160357:=0
def tw3987358783484526484:=0
def tw13920135927386429739:=0
def tw9155327356965661274:=0
def tw5404596307956974946:=0
def tw7191053038286739758:=0
def tw14636136095077828413:=0
def tw13065358128721445410:=0
def tw5027971693995545679:=0
def tw18224618244487162660:=0
def tw9529575308709868844:=0
def tw16145520798120055674:=0
def tw4399948079792827231:=0
def tw3662510237329056682:=0
def tw10111323241143351446:=0
end PySem.W.Fast
open PySem PySem.W PyProof.Rows
local macro_rules | `(tactic| walk_at "v")=>`(tactic| show⟨_,⟨⟨_,_,_,_,_,_,_,_,_,rfl,by k_is,by k_is⟩,by k_is⟩⟩)
local macro_rules | `(tactic| walk_at "u")=>`(tactic| show⟨by k_is,_,⟨⟨_,_,_,_,_,_,_,_,_,rfl,by k_is,by k_is⟩,by k_is⟩⟩)
set_option maxRecDepth 100000 in
set_option maxHeartbeats 0 in
theorem PySem.Challenge.cw_limbtables_k65_papers_of_the_unlike_holds : PySem.Challenge.rw_limbtables_k65_papers_of_the_unlike.Holds := by
 w_on;o_law;k_head;(case hw=>w_witness2)
 k_fill
 refine Pf.walk (l:=PySem.Challenge.rw_limbtables_k65_papers_of_the_unlike) ⋯ rfl rfl (λp=>by kernel_rfl) (λp=>by kernel_rfl) ?F
 case F=>
  intro w mg fa h KX G hmg;refine' Pf.yD rfl KX G hmg ?u1 ?u2 ?u3 ?u4 ?u5 ?u6 ?u7 ?u8 ?u9 ?u10 ?u11 ?u12 ?u13 ?a14 ?l14 ?c14 ?k14 ?u15 ?u16 ?u17 ?u18 ?u19 ?u20 ?u21 ?u22 ?u23 ?u24 ?u25 ?u26 ?u27 ?u28 ?u29 ?u30 ?u31 ?u32 ?u33 ?u34 ?u35 ?u36 ?u37 ?u38 ?u39 ?u40 ?u41 ?u42 ?u43 ?u44 ?u45 ?u46 ?u47 ?u48 ?u49 ?u50 ?u51 ?u52 ?u53 ?u54 ?u55 ?u56 ?u57 ?u58 ?u59 ?u60 ?u61 ?a62 ?l62 ?c62 ?k62 ?aC ?a63 ?i63 ?u63 ?pg ?hd ?po ?sa ?mk ?kc ?nM ?nA ?aCg ?a64 ?i64 ?u64 ?a65 ?i65 ?l65 ?dl65 ?c65 ?k65 ?a66 ?i66 ?u66 ?a67 ?i67 ?u67 ?pg_Cg ?hd_Cg ?po_Cg ?sa_Cg ?mk_Cg ?kc_Cg ?nP ?aCs ?a68 ?i68 ?u68 ?pg_Cs ?hd_Cs ?po_Cs ?sa_Cs ?mk_Cs ?kc_Cs ?nSg ?nSd ?nSs ?nSt ?g1 ?g2 ?g3 ?g4 ?g5 ?z0 ?z1 ?z2 ?z3 ?z4 ?z5 ?z6 ?z7 ?z8 ?z9 ?z10 ?z11 ?z12 ?z13 ?z14 ?hcL ?x_ic1 ?x_ic2 ?x_ic3 ?x_ic4
  (case u1|u2|u3|u4|u5|u6|u7|u8|u9|u10|u11|u12|u13=>walk_at "u")
  (case a14|l14|c14|k14=>k_is)
  (case u15|u16|u17|u18|u19|u20|u21|u22|u23|u24|u25|u26|u27|u28|u29|u30|u31|u32|u33|u34|u35|u36|u37|u38|u39|u40|u41|u42|u43|u44|u45|u46|u47|u48|u49|u50|u51|u52|u53|u54|u55|u56|u57|u58|u59|u60|u61=>walk_at "u")
  (case a62|l62|c62|k62|aC|a63|i63=>k_is)
  (case u63=>walk_at "v")
  (case pg|hd|po|sa|mk|kc|nM|nA|aCg|a64|i64=>k_is)
  (case u64=>walk_at "v")
  (case a65|i65|l65|dl65|c65|k65|a66|i66=>k_is)
  (case u66=>walk_at "v")
  (case a67|i67=>k_is)
  (case u67=>walk_at "v")
  (case pg_Cg|hd_Cg|po_Cg|sa_Cg|mk_Cg|kc_Cg|nP|aCs|a68|i68=>k_is)
  (case u68=>walk_at "v")
  (case pg_Cs|hd_Cs|po_Cs|sa_Cs|mk_Cs|kc_Cs|nSg|nSd|nSs|nSt|g1|g2|g3|g4|g5|z0|z1|z2|z3|z4|z5|z6|z7|z8|z9|z10|z11|z12|z13|z14=>k_is)
  (case hcL=>kernel_rfl)
  (case x_ic1|x_ic2|x_ic3|x_ic4=>k_is)
#print axioms PySem.Challenge.cw_limbtables_k65_papers_of_the_unlike_holds