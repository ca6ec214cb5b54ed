import PyProof.Rows.All
import Wide.All
import OpenK.AllK
import Wide.FinOn
import Lean
import PyProof.EqAt
import PyProof.EqKinds
import PyProof.TupleCall
import PyProof.ZipIter
import PyProof.Rows.ZipGen
import PyProof.SumWalkG
import PyProof.EnumMake
import PyProof.EnumFor
import PyProof.FactsAll.int_6
import PyProof.AutoIntG2
import PyProof.RulesAs
import PyProof.Rows.TopTwo
import PyProof.ExcArgsOwn
import PyProof.ExcBaseAll.ValueError
import OpenK.KDescr
import KE.RegKIsAll
import PyProof.EqKinds
import KE.KRevIter
import PyProof.ListNew
import KE.KItemsList
import KE.KLam
import KE.KMinKey
import PyProof.MinMaxWalk
import PyProof.NeKinds
import PySem.Challenge.RW_limbtables_k66_papers_of_the_fixed
open PySem.W (Frag)
variable{P:PySem.Program}{w:PySem.World}{K:PySem.W.Frag}{mg:PySem.Str->Option PySem.Value}{base:PySem.Heap}{f:PySem.Addr}{fd:PySem.FuncData}
local macro_rules|`(∅)=>`(by omega)
local macro_rules|`(⋯)=>`(by decide +kernel)
local macro_rules|`(⇑0)=>`(by decide)
local macro_rules|`(⇑1)=>`(by rfl)
noncomputable section
abbrev aF:=@List.getElem?_eq_getElem
abbrev aT:=@List.getD_eq_getElem?_getD
abbrev aA:=@List.length_map
abbrev aY:=@List.mem_of_getElem?
abbrev cj:=@List.getElem?_eq_some_iff
abbrev bw:=@List.length_append
abbrev aI:=@Nat.le_refl
abbrev bH:=@List.getElem?_map
abbrev bR:=@decide_eq_true
abbrev cf:=@List.mem_append
abbrev cF:=@List.mem_singleton
abbrev cZ:=@List.getElem?_eq_none
abbrev d_:=@List.getElem?_append_right
abbrev dC:=@PySem.Heap.get?_push_of_some
abbrev eE:=@List.getElem?_append_left
abbrev bX:=@PySem.Heap.lt_size
abbrev d0:=@List.length_replicate
abbrev dh:=@List.size_toArray
abbrev fv:=@List.mem_or_eq_of_mem_set
abbrev d9:=@List.mem_iff_getElem
abbrev bN:=@PySem.wpAny_bind
abbrev cW:=@PySem.PassesOwn.never
abbrev cx:=@Nat.le_trans
abbrev cw:=@List.mem_map
abbrev dB:=@of_decide_eq_true
abbrev dZ:=@Nat.lt_of_lt_of_le
abbrev eo:=@Bool.false_ne_true
abbrev d5:=@Int.toNat_natCast
abbrev dm:=@decide_eq_false
abbrev f_:=@PySem.F.plainAttrs_list
abbrev ef:=@List.length_range
abbrev gC:=@PySem.F.slot_list_append
abbrev gB:=@PySem.F.type_list_append
abbrev dE:=@List.length_set
abbrev dD:=@List.map_append
abbrev fZ:=@List.mem_append_right
abbrev eP:=@List.lookup_cons
abbrev eO:=@List.getElem_mem
abbrev gA:=@PySem.Heap.get?_push_size
abbrev gz:=@Int.toNat_of_nonneg
abbrev fY:=@Int.emod_lt_of_pos
abbrev eC:=@List.mem_range
abbrev jF:=@Classical.byContradiction
abbrev gw:=@List.mem_replicate
abbrev e_:=@Nat.mul_le_mul
abbrev fJ:=@Option.some.inj
abbrev d8:=@Nat.ne_of_lt
abbrev df:=@PySem.wpAny_pure
abbrev fu:=@PySem.boot_len
abbrev iX:=@PySem.mem_of_lookup
abbrev iW:=@Nat.lt_of_le_of_lt
abbrev gv:=@Int.emod_nonneg
abbrev eB:=@Nat.zero_le
abbrev iV:=@PySem.wpAny_truthy_bool
abbrev ij:=@List.length_take
abbrev fH:=@List.mem_cons
abbrev dY:=@beq_iff_eq
abbrev j7:=@List.mem_cons_of_mem
abbrev iU:=@List.length_cons
abbrev iT:=@List.all_eq_true
abbrev iS:=@Int.gcd_dvd_left
abbrev nX:=@List.mem_of_mem_eraseIdx
abbrev iz:=@PyProof.Rows.boot_isinstance
abbrev iw:=@Int.natCast_add
abbrev qN:=@Int.fdiv_eq_ediv_of_nonneg
abbrev j9:=@List.getElem?_range
abbrev jG:=@Int.gcd_dvd_right
abbrev gX:=@Nat.lt_irrefl
abbrev mN:=@Int.ediv_mul_cancel
abbrev jh:=@List.range_succ
abbrev qM:=@List.getElem?_replicate
abbrev j8:=@Nat.le_of_succ_le
abbrev qJ:=@PySem.F.plain_min_loop
abbrev jE:=@PySem.W.kia_one
abbrev nW:=@List.replicate_succ
abbrev mL:=@Int.emod_eq_of_lt
abbrev jD:=@Int.natAbs_mul
abbrev nV:=@List.mem_cons_self
abbrev vc:=@PyProof.Rows.callWith_type1
abbrev j4:=@Int.natCast_mul
abbrev qI:=@List.mem_append_left
abbrev nU:=@Nat.lt_succ_of_lt
abbrev xG:=@List.eraseIdx_eq_take_drop_succ
abbrev jg:=@Nat.le_of_lt
abbrev nT:=@List.append_nil
abbrev mK:=@Nat.two_pow_pos
abbrev jf:=@Int.zero_add
abbrev su:=@List.mem_iff_getElem?
abbrev nR:=@Bool.and_eq_true
abbrev iR:=@Nat.add_mul
abbrev nQ:=@Bool.eq_iff_iff
abbrev iQ:=@PySem.wpAny_mono
abbrev qH:=@Nat.le_add_right
abbrev qG:=@decide_eq_decide
abbrev jZ:=@Nat.succ_mul
abbrev u_:=@Nat.pow_le_pow_right
abbrev uZ:=@List.mem_of_mem_take
abbrev uY:=@Nat.pow_lt_pow_right
abbrev vf:=@List.length_eraseIdx
abbrev qL:=@PySem.wpAny_passesOwn
abbrev eZ:=@if_true
abbrev sC:=@List.flatten_cons
abbrev sy:=@List.append_assoc
abbrev qK:=@List.length_nil
abbrev Br:=@Int.mul_le_mul_of_nonneg_right
abbrev mM:=@Int.le_trans
abbrev j6:=@Int.mul_pos
abbrev ve:=@List.length_zipWith
abbrev sq:=@List.length_drop
abbrev iP:=@PyProof.Rows.boot_list
abbrev qF:=@PySem.Heap.size_push
abbrev qE:=@Int.mul_nonneg
abbrev qD:=@PySem.wpAny_tryCatch
abbrev fq:=@Ne.symm
abbrev xD:=@PySem.W.cellsFrom_some
abbrev uX:=@PySem.wpAny_Call_Name_kw
abbrev Bi:=@Int.gcd_pos_of_ne_zero_right
abbrev sj:=@List.mem_filter
abbrev xC:=@List.length_singleton
abbrev si:=@Bool.or_eq_true
abbrev sf:=@Nat.not_lt_zero
abbrev mJ:=@Nat.one_mul
abbrev Bh:=@PySem.F.slot_int_bit_length
abbrev Bg:=@PySem.F.type_int_bit_length
abbrev ig:=@congrArg
abbrev qC:=@PySem.wpAny_holding
abbrev xB:=@List.getElem?_set_ne
abbrev xA:=@Int.natAbs_of_nonneg
abbrev xx:=@PySem.intBits_le_iff
abbrev uW:=@Nat.lt_succ_self
abbrev uV:=@Nat.mod_eq_of_lt
abbrev uU:=@List.take_length
abbrev xw:=@beq_eq_false_iff_ne
abbrev Bf:=@Option.isSome_iff_exists
abbrev Bq:=@List.getElem?_take_of_lt
abbrev Bp:=@Int.eq_ofNat_of_zero_le
abbrev Bo:=@PySem.wpAny_pyNext_list_item
abbrev Bm:=@PySem.F.entry_min_loop
abbrev Bl:=@List.take_of_length_le
abbrev Bk:=@Int.fmod_nonneg_of_pos
abbrev Bj:=@PySem.F.plainAttrs_int
abbrev xF:=@PySem.wpAny_pyIter_list
abbrev xE:=@List.ext_getElem?
abbrev Fi:=@Lean.Grind.Field.of_mul_eq_zero
abbrev A7:=@PySem.wpAny_isTrue_Compare1
abbrev r_:=@Nat.ne_of_gt
abbrev A6:=@PySem.wpAny_pyNext_list_end
abbrev r9:=@Nat.mul_comm
abbrev A5:=@Int.emod_add_mul_ediv
abbrev r8:=@Int.mul_comm
abbrev A4:=@Classical.choose_spec
abbrev rZ:=@Nat.sub_self
abbrev xp:=@List.mem_flatMap
abbrev A3:=@PySem.Around.under_plainId
abbrev uS:=@List.all_cons
abbrev uR:=@Bool.true_and
abbrev uQ:=@List.sum_cons
abbrev A0:=@List.filterMap_cons
abbrev xo:=@PySem.wpAny_execs_nil
abbrev AZ:=@PySem.W.plainGet_of
abbrev xn:=@List.nodup_cons
abbrev rY:=@Nat.pow_add
abbrev xm:=@Int.ediv_nonneg
abbrev AY:=@PySem.Heap.SameBut.update
abbrev rX:=@Int.le_refl
abbrev AX:=@List.flatMap_append
abbrev AW:=@Int.natCast_nonneg
abbrev AV:=@PySem.W.callWith_K
abbrev AU:=@PySem.SeqAt.EqAt.of_refs
abbrev uP:=@Int.gcd_comm
abbrev Be:=@Int.natAbs_natCast
abbrev uT:=@Nat.zero_mul
abbrev Bc:=@decide_eq_true_iff
abbrev Bb:=@Int.fmod_lt_of_pos
abbrev xv:=@Bool.false_and
abbrev xt:=@List.take_succ
abbrev Ba:=@Int.lt_trichotomy
abbrev A_:=@Int.natAbs_add_le
abbrev A9:=@List.getElem?_set
abbrev A8:=@Nat.lt_trichotomy
abbrev xk:=@PySem.wpAny_standAt
abbrev xj:=@Bool.and_true
abbrev xi:=@PySem.plainId_quiet
abbrev nO:=@PyProof.Rows.boot_abs
abbrev uO:=@PySem.call_meets
set_option compiler.postponeCompile true
set_option bootstrap.genMatcherCode false
set_option genSizeOf false
set_option Elab.async false
set_option linter.all false
namespace L2
theorem yq {p f1 f2 f3 f4 f5 f6 f7 f8 f9:Prop}{G:Prop}(h:p/\f1/\f2/\f3/\f4/\f5/\f6/\f7/\f8/\f9)(f:p->f1->f2->f3->f4->f5->f6->f7->f8->f9->G):G:= f h.1 h.2.1 h.2.2.1 h.2.2.2.1 h.2.2.2.2.1 h.2.2.2.2.2.1 h.2.2.2.2.2.2.1 h.2.2.2.2.2.2.2.1 h.2.2.2.2.2.2.2.2.1 h.2.2.2.2.2.2.2.2.2
theorem oA {p f1 f2 f3 f4 f5 f6 f7 f8 f9 g0:Prop}{G:Prop}(h:p/\f1/\f2/\f3/\f4/\f5/\f6/\f7/\f8/\f9/\g0)(f:p->f1->f2->f3->f4->f5->f6->f7->f8->f9->g0->G):G:= f h.1 h.2.1 h.2.2.1 h.2.2.2.1 h.2.2.2.2.1 h.2.2.2.2.2.1 h.2.2.2.2.2.2.1 h.2.2.2.2.2.2.2.1 h.2.2.2.2.2.2.2.2.1 h.2.2.2.2.2.2.2.2.2.1 h.2.2.2.2.2.2.2.2.2.2
theorem oz {p f1 f2 f3 f4 f5 f6 f7 f8 f9 g0 g1 g2 g3:Prop}{G:Prop}(h:p/\f1/\f2/\f3/\f4/\f5/\f6/\f7/\f8/\f9/\g0/\g1/\g2/\g3)(f:p->f1->f2->f3->f4->f5->f6->f7->f8->f9->g0->g1->g2->g3->G):G:= f h.1 h.2.1 h.2.2.1 h.2.2.2.1 h.2.2.2.2.1 h.2.2.2.2.2.1 h.2.2.2.2.2.2.1 h.2.2.2.2.2.2.2.1 h.2.2.2.2.2.2.2.2.1 h.2.2.2.2.2.2.2.2.2.1 h.2.2.2.2.2.2.2.2.2.2.1 h.2.2.2.2.2.2.2.2.2.2.2.1 h.2.2.2.2.2.2.2.2.2.2.2.2.1 h.2.2.2.2.2.2.2.2.2.2.2.2.2
theorem bQ {p f1 f2:Prop}{G:Prop}(h:p/\f1/\f2)(f:p->f1->f2->G):G:= f h.1 h.2.1 h.2.2
theorem cG {p f1 f2 f3:Prop}{G:Prop}(h:p/\f1/\f2/\f3)(f:p->f1->f2->f3->G):G:= f h.1 h.2.1 h.2.2.1 h.2.2.2
theorem cY {p f1 f2 f3 f4:Prop}{G:Prop}(h:p/\f1/\f2/\f3/\f4)(f:p->f1->f2->f3->f4->G):G:= f h.1 h.2.1 h.2.2.1 h.2.2.2.1 h.2.2.2.2
theorem gk {p f1 f2 f3 f4 f5:Prop}{G:Prop}(h:p/\f1/\f2/\f3/\f4/\f5)(f:p->f1->f2->f3->f4->f5->G):G:= f h.1 h.2.1 h.2.2.1 h.2.2.2.1 h.2.2.2.2.1 h.2.2.2.2.2
theorem qU {p f1 f2 f3 f4 f5 f6:Prop}{G:Prop}(h:p/\f1/\f2/\f3/\f4/\f5/\f6)(f:p->f1->f2->f3->f4->f5->f6->G):G:= f h.1 h.2.1 h.2.2.1 h.2.2.2.1 h.2.2.2.2.1 h.2.2.2.2.2.1 h.2.2.2.2.2.2
theorem sI {p f1 f2 f3 f4 f5 f6 f7:Prop}{G:Prop}(h:p/\f1/\f2/\f3/\f4/\f5/\f6/\f7)(f:p->f1->f2->f3->f4->f5->f6->f7->G):G:= f h.1 h.2.1 h.2.2.1 h.2.2.2.1 h.2.2.2.2.1 h.2.2.2.2.2.1 h.2.2.2.2.2.2.1 h.2.2.2.2.2.2.2
theorem sG {p f1 f2 f3 f4 f5 f6 f7 f8:Prop}{G:Prop}(h:p/\f1/\f2/\f3/\f4/\f5/\f6/\f7/\f8)(f:p->f1->f2->f3->f4->f5->f6->f7->f8->G):G:= f h.1 h.2.1 h.2.2.1 h.2.2.2.1 h.2.2.2.2.1 h.2.2.2.2.2.1 h.2.2.2.2.2.2.1 h.2.2.2.2.2.2.2.1 h.2.2.2.2.2.2.2.2
theorem oy {A B C D E F I J K L:Type}{p f1:A->B->C->D->E->F->I->J->K->L->Prop}{G:Prop}(h:∃ a b c d e i j k l m,p a b c d e i j k l m/\f1 a b c d e i j k l m)(f:∀ a b c d e i j k l m,p a b c d e i j k l m->f1 a b c d e i j k l m->G):G:=h.elim λa h=>h.elim λb h=>h.elim λc h=>h.elim λd h=>h.elim λe h=>h.elim λi h=>h.elim λj h=>h.elim λk h=>h.elim λl h=>h.elim λm h=>f a b c d e i j k l m h.1 h.2
theorem yr {A B C D E F I J K L:Type}{p f1 f2 f3:A->B->C->D->E->F->I->J->K->L->Prop}{G:Prop}(h:∃ a b c d e i j k l m,p a b c d e i j k l m/\f1 a b c d e i j k l m/\f2 a b c d e i j k l m/\f3 a b c d e i j k l m)(f:∀ a b c d e i j k l m,p a b c d e i j k l m->f1 a b c d e i j k l m->f2 a b c d e i j k l m->f3 a b c d e i j k l m->G):G:=h.elim λa h=>h.elim λb h=>h.elim λc h=>h.elim λd h=>h.elim λe h=>h.elim λi h=>h.elim λj h=>h.elim λk h=>h.elim λl h=>h.elim λm h=>f a b c d e i j k l m h.1 h.2.1 h.2.2.1 h.2.2.2
theorem ow {A B C D E F I J K L M:Type}{p f1:A->B->C->D->E->F->I->J->K->L->M->Prop}{G:Prop}(h:∃ a b c d e i j k l m n,p a b c d e i j k l m n/\f1 a b c d e i j k l m n)(f:∀ a b c d e i j k l m n,p a b c d e i j k l m n->f1 a b c d e i j k l m n->G):G:=h.elim λa h=>h.elim λb h=>h.elim λc h=>h.elim λd h=>h.elim λe h=>h.elim λi h=>h.elim λj h=>h.elim λk h=>h.elim λl h=>h.elim λm h=>h.elim λn h=>f a b c d e i j k l m n h.1 h.2
theorem ou {A B C D E F I J K L M:Type}{p f1 f2 f3:A->B->C->D->E->F->I->J->K->L->M->Prop}{G:Prop}(h:∃ a b c d e i j k l m n,p a b c d e i j k l m n/\f1 a b c d e i j k l m n/\f2 a b c d e i j k l m n/\f3 a b c d e i j k l m n)(f:∀ a b c d e i j k l m n,p a b c d e i j k l m n->f1 a b c d e i j k l m n->f2 a b c d e i j k l m n->f3 a b c d e i j k l m n->G):G:=h.elim λa h=>h.elim λb h=>h.elim λc h=>h.elim λd h=>h.elim λe h=>h.elim λi h=>h.elim λj h=>h.elim λk h=>h.elim λl h=>h.elim λm h=>h.elim λn h=>f a b c d e i j k l m n h.1 h.2.1 h.2.2.1 h.2.2.2
theorem ot {A B C D E F I J K L M N:Type}{p f1:A->B->C->D->E->F->I->J->K->L->M->N->Prop}{G:Prop}(h:∃ a b c d e i j k l m n o,p a b c d e i j k l m n o/\f1 a b c d e i j k l m n o)(f:∀ a b c d e i j k l m n o,p a b c d e i j k l m n o->f1 a b c d e i j k l m n o->G):G:=h.elim λa h=>h.elim λb h=>h.elim λc h=>h.elim λd h=>h.elim λe h=>h.elim λi h=>h.elim λj h=>h.elim λk h=>h.elim λl h=>h.elim λm h=>h.elim λn h=>h.elim λo h=>f a b c d e i j k l m n o h.1 h.2
theorem oq {A B C D E F I J K L M N:Type}{p f1 f2 f3:A->B->C->D->E->F->I->J->K->L->M->N->Prop}{G:Prop}(h:∃ a b c d e i j k l m n o,p a b c d e i j k l m n o/\f1 a b c d e i j k l m n o/\f2 a b c d e i j k l m n o/\f3 a b c d e i j k l m n o)(f:∀ a b c d e i j k l m n o,p a b c d e i j k l m n o->f1 a b c d e i j k l m n o->f2 a b c d e i j k l m n o->f3 a b c d e i j k l m n o->G):G:=h.elim λa h=>h.elim λb h=>h.elim λc h=>h.elim λd h=>h.elim λe h=>h.elim λi h=>h.elim λj h=>h.elim λk h=>h.elim λl h=>h.elim λm h=>h.elim λn h=>h.elim λo h=>f a b c d e i j k l m n o h.1 h.2.1 h.2.2.1 h.2.2.2
theorem oo {A B C D E F I J K L M N O:Type}{p f1:A->B->C->D->E->F->I->J->K->L->M->N->O->Prop}{G:Prop}(h:∃ a b c d e i j k l m n o q,p a b c d e i j k l m n o q/\f1 a b c d e i j k l m n o q)(f:∀ a b c d e i j k l m n o q,p a b c d e i j k l m n o q->f1 a b c d e i j k l m n o q->G):G:=h.elim λa h=>h.elim λb h=>h.elim λc h=>h.elim λd h=>h.elim λe h=>h.elim λi h=>h.elim λj h=>h.elim λk h=>h.elim λl h=>h.elim λm h=>h.elim λn h=>h.elim λo h=>h.elim λq h=>f a b c d e i j k l m n o q h.1 h.2
theorem om {A B C D E F I J K L M N O:Type}{p f1 f2 f3:A->B->C->D->E->F->I->J->K->L->M->N->O->Prop}{G:Prop}(h:∃ a b c d e i j k l m n o q,p a b c d e i j k l m n o q/\f1 a b c d e i j k l m n o q/\f2 a b c d e i j k l m n o q/\f3 a b c d e i j k l m n o q)(f:∀ a b c d e i j k l m n o q,p a b c d e i j k l m n o q->f1 a b c d e i j k l m n o q->f2 a b c d e i j k l m n o q->f3 a b c d e i j k l m n o q->G):G:=h.elim λa h=>h.elim λb h=>h.elim λc h=>h.elim λd h=>h.elim λe h=>h.elim λi h=>h.elim λj h=>h.elim λk h=>h.elim λl h=>h.elim λm h=>h.elim λn h=>h.elim λo h=>h.elim λq h=>f a b c d e i j k l m n o q h.1 h.2.1 h.2.2.1 h.2.2.2
theorem yt {A B C D E F I J K L M N O P:Type}{p f1:A->B->C->D->E->F->I->J->K->L->M->N->O->P->Prop}{G:Prop}(h:∃ a b c d e i j k l m n o q r,p a b c d e i j k l m n o q r/\f1 a b c d e i j k l m n o q r)(f:∀ a b c d e i j k l m n o q r,p a b c d e i j k l m n o q r->f1 a b c d e i j k l m n o q r->G):G:=h.elim λa h=>h.elim λb h=>h.elim λc h=>h.elim λd h=>h.elim λe h=>h.elim λi h=>h.elim λj h=>h.elim λk h=>h.elim λl h=>h.elim λm h=>h.elim λn h=>h.elim λo h=>h.elim λq h=>h.elim λr h=>f a b c d e i j k l m n o q r h.1 h.2
theorem yu {A B C D E F I J K L M N O P:Type}{p f1 f2 f3:A->B->C->D->E->F->I->J->K->L->M->N->O->P->Prop}{G:Prop}(h:∃ a b c d e i j k l m n o q r,p a b c d e i j k l m n o q r/\f1 a b c d e i j k l m n o q r/\f2 a b c d e i j k l m n o q r/\f3 a b c d e i j k l m n o q r)(f:∀ a b c d e i j k l m n o q r,p a b c d e i j k l m n o q r->f1 a b c d e i j k l m n o q r->f2 a b c d e i j k l m n o q r->f3 a b c d e i j k l m n o q r->G):G:=h.elim λa h=>h.elim λb h=>h.elim λc h=>h.elim λd h=>h.elim λe h=>h.elim λi h=>h.elim λj h=>h.elim λk h=>h.elim λl h=>h.elim λm h=>h.elim λn h=>h.elim λo h=>h.elim λq h=>h.elim λr h=>f a b c d e i j k l m n o q r h.1 h.2.1 h.2.2.1 h.2.2.2
theorem oj {A B C D E F I J K L M N O P Q R S T:Type}{p f1:A->B->C->D->E->F->I->J->K->L->M->N->O->P->Q->R->S->T->Prop}{G:Prop}(h:∃ a b c d e i j k l m n o q r s t u v,p a b c d e i j k l m n o q r s t u v/\f1 a b c d e i j k l m n o q r s t u v)(f:∀ a b c d e i j k l m n o q r s t u v,p a b c d e i j k l m n o q r s t u v->f1 a b c d e i j k l m n o q r s t u v->G):G:=h.elim λa h=>h.elim λb h=>h.elim λc h=>h.elim λd h=>h.elim λe h=>h.elim λi h=>h.elim λj h=>h.elim λk h=>h.elim λl h=>h.elim λm h=>h.elim λn h=>h.elim λo h=>h.elim λq h=>h.elim λr h=>h.elim λs h=>h.elim λt h=>h.elim λu h=>h.elim λv h=>f a b c d e i j k l m n o q r s t u v h.1 h.2
theorem oi {A B C D E F I J K L M N O P Q R S T:Type}{p f1 f2 f3:A->B->C->D->E->F->I->J->K->L->M->N->O->P->Q->R->S->T->Prop}{G:Prop}(h:∃ a b c d e i j k l m n o q r s t u v,p a b c d e i j k l m n o q r s t u v/\f1 a b c d e i j k l m n o q r s t u v/\f2 a b c d e i j k l m n o q r s t u v/\f3 a b c d e i j k l m n o q r s t u v)(f:∀ a b c d e i j k l m n o q r s t u v,p a b c d e i j k l m n o q r s t u v->f1 a b c d e i j k l m n o q r s t u v->f2 a b c d e i j k l m n o q r s t u v->f3 a b c d e i j k l m n o q r s t u v->G):G:=h.elim λa h=>h.elim λb h=>h.elim λc h=>h.elim λd h=>h.elim λe h=>h.elim λi h=>h.elim λj h=>h.elim λk h=>h.elim λl h=>h.elim λm h=>h.elim λn h=>h.elim λo h=>h.elim λq h=>h.elim λr h=>h.elim λs h=>h.elim λt h=>h.elim λu h=>h.elim λv h=>f a b c d e i j k l m n o q r s t u v h.1 h.2.1 h.2.2.1 h.2.2.2
theorem ar {A:Type}{p f1:A->Prop}{G:Prop}(h:∃ a,p a/\f1 a)(f:∀ a,p a->f1 a->G):G:=h.elim λa h=>f a h.1 h.2
theorem aQ {A:Type}{p f1 f2:A->Prop}{G:Prop}(h:∃ a,p a/\f1 a/\f2 a)(f:∀ a,p a->f1 a->f2 a->G):G:=h.elim λa h=>f a h.1 h.2.1 h.2.2
theorem tU {A:Type}{p f1 f2 f3:A->Prop}{G:Prop}(h:∃ a,p a/\f1 a/\f2 a/\f3 a)(f:∀ a,p a->f1 a->f2 a->f3 a->G):G:=h.elim λa h=>f a h.1 h.2.1 h.2.2.1 h.2.2.2
theorem tN {A:Type}{p f1 f2 f3 f4:A->Prop}{G:Prop}(h:∃ a,p a/\f1 a/\f2 a/\f3 a/\f4 a)(f:∀ a,p a->f1 a->f2 a->f3 a->f4 a->G):G:=h.elim λa h=>f a h.1 h.2.1 h.2.2.1 h.2.2.2.1 h.2.2.2.2
theorem vG {A:Type}{p f1 f2 f3 f4 f5:A->Prop}{G:Prop}(h:∃ a,p a/\f1 a/\f2 a/\f3 a/\f4 a/\f5 a)(f:∀ a,p a->f1 a->f2 a->f3 a->f4 a->f5 a->G):G:=h.elim λa h=>f a h.1 h.2.1 h.2.2.1 h.2.2.2.1 h.2.2.2.2.1 h.2.2.2.2.2
theorem i9 {A B:Type}{p:A->B->Prop}{G:Prop}(h:∃ a b,p a b)(f:∀ a b,p a b->G):G:=h.elim λa h=>h.elim λb h=>f a b h
theorem cE {A B:Type}{p f1:A->B->Prop}{G:Prop}(h:∃ a b,p a b/\f1 a b)(f:∀ a b,p a b->f1 a b->G):G:=h.elim λa h=>h.elim λb h=>f a b h.1 h.2
theorem cy {A B:Type}{p f1 f2:A->B->Prop}{G:Prop}(h:∃ a b,p a b/\f1 a b/\f2 a b)(f:∀ a b,p a b->f1 a b->f2 a b->G):G:=h.elim λa h=>h.elim λb h=>f a b h.1 h.2.1 h.2.2
theorem gh {A B:Type}{p f1 f2 f3:A->B->Prop}{G:Prop}(h:∃ a b,p a b/\f1 a b/\f2 a b/\f3 a b)(f:∀ a b,p a b->f1 a b->f2 a b->f3 a b->G):G:=h.elim λa h=>h.elim λb h=>f a b h.1 h.2.1 h.2.2.1 h.2.2.2
theorem nB {A B:Type}{p f1 f2 f3 f4:A->B->Prop}{G:Prop}(h:∃ a b,p a b/\f1 a b/\f2 a b/\f3 a b/\f4 a b)(f:∀ a b,p a b->f1 a b->f2 a b->f3 a b->f4 a b->G):G:=h.elim λa h=>h.elim λb h=>f a b h.1 h.2.1 h.2.2.1 h.2.2.2.1 h.2.2.2.2
theorem iE {A B:Type}{p f1 f2 f3 f4 f5:A->B->Prop}{G:Prop}(h:∃ a b,p a b/\f1 a b/\f2 a b/\f3 a b/\f4 a b/\f5 a b)(f:∀ a b,p a b->f1 a b->f2 a b->f3 a b->f4 a b->f5 a b->G):G:=h.elim λa h=>h.elim λb h=>f a b h.1 h.2.1 h.2.2.1 h.2.2.2.1 h.2.2.2.2.1 h.2.2.2.2.2
theorem mV {A B C:Type}{p:A->B->C->Prop}{G:Prop}(h:∃ a b c,p a b c)(f:∀ a b c,p a b c->G):G:=h.elim λa h=>h.elim λb h=>h.elim λc h=>f a b c h
theorem gK {A B C:Type}{p f1:A->B->C->Prop}{G:Prop}(h:∃ a b c,p a b c/\f1 a b c)(f:∀ a b c,p a b c->f1 a b c->G):G:=h.elim λa h=>h.elim λb h=>h.elim λc h=>f a b c h.1 h.2
theorem g8 {A B C:Type}{p f1 f2:A->B->C->Prop}{G:Prop}(h:∃ a b c,p a b c/\f1 a b c/\f2 a b c)(f:∀ a b c,p a b c->f1 a b c->f2 a b c->G):G:=h.elim λa h=>h.elim λb h=>h.elim λc h=>f a b c h.1 h.2.1 h.2.2
theorem cD {A B C:Type}{p f1 f2 f3:A->B->C->Prop}{G:Prop}(h:∃ a b c,p a b c/\f1 a b c/\f2 a b c/\f3 a b c)(f:∀ a b c,p a b c->f1 a b c->f2 a b c->f3 a b c->G):G:=h.elim λa h=>h.elim λb h=>h.elim λc h=>f a b c h.1 h.2.1 h.2.2.1 h.2.2.2
theorem qf {A B C D:Type}{p f1:A->B->C->D->Prop}{G:Prop}(h:∃ a b c d,p a b c d/\f1 a b c d)(f:∀ a b c d,p a b c d->f1 a b c d->G):G:=h.elim λa h=>h.elim λb h=>h.elim λc h=>h.elim λd h=>f a b c d h.1 h.2
theorem jw {A B C D:Type}{p f1 f2:A->B->C->D->Prop}{G:Prop}(h:∃ a b c d,p a b c d/\f1 a b c d/\f2 a b c d)(f:∀ a b c d,p a b c d->f1 a b c d->f2 a b c d->G):G:=h.elim λa h=>h.elim λb h=>h.elim λc h=>h.elim λd h=>f a b c d h.1 h.2.1 h.2.2
theorem d6 {A B C D:Type}{p f1 f2 f3:A->B->C->D->Prop}{G:Prop}(h:∃ a b c d,p a b c d/\f1 a b c d/\f2 a b c d/\f3 a b c d)(f:∀ a b c d,p a b c d->f1 a b c d->f2 a b c d->f3 a b c d->G):G:=h.elim λa h=>h.elim λb h=>h.elim λc h=>h.elim λd h=>f a b c d h.1 h.2.1 h.2.2.1 h.2.2.2
theorem vH {A B C D E:Type}{p f1:A->B->C->D->E->Prop}{G:Prop}(h:∃ a b c d e,p a b c d e/\f1 a b c d e)(f:∀ a b c d e,p a b c d e->f1 a b c d e->G):G:=h.elim λa h=>h.elim λb h=>h.elim λc h=>h.elim λd h=>h.elim λe h=>f a b c d e h.1 h.2
theorem g9 {A B C D E:Type}{p f1 f2 f3:A->B->C->D->E->Prop}{G:Prop}(h:∃ a b c d e,p a b c d e/\f1 a b c d e/\f2 a b c d e/\f3 a b c d e)(f:∀ a b c d e,p a b c d e->f1 a b c d e->f2 a b c d e->f3 a b c d e->G):G:=h.elim λa h=>h.elim λb h=>h.elim λc h=>h.elim λd h=>h.elim λe h=>f a b c d e h.1 h.2.1 h.2.2.1 h.2.2.2
theorem jk {A B C D E F:Type}{p f1:A->B->C->D->E->F->Prop}{G:Prop}(h:∃ a b c d e i,p a b c d e i/\f1 a b c d e i)(f:∀ a b c d e i,p a b c d e i->f1 a b c d e i->G):G:=h.elim λa h=>h.elim λb h=>h.elim λc h=>h.elim λd h=>h.elim λe h=>h.elim λi h=>f a b c d e i h.1 h.2
theorem vI {A B C D E F:Type}{p f1 f2:A->B->C->D->E->F->Prop}{G:Prop}(h:∃ a b c d e i,p a b c d e i/\f1 a b c d e i/\f2 a b c d e i)(f:∀ a b c d e i,p a b c d e i->f1 a b c d e i->f2 a b c d e i->G):G:=h.elim λa h=>h.elim λb h=>h.elim λc h=>h.elim λd h=>h.elim λe h=>h.elim λi h=>f a b c d e i h.1 h.2.1 h.2.2
theorem tO {A B C D E F:Type}{p f1 f2 f3:A->B->C->D->E->F->Prop}{G:Prop}(h:∃ a b c d e i,p a b c d e i/\f1 a b c d e i/\f2 a b c d e i/\f3 a b c d e i)(f:∀ a b c d e i,p a b c d e i->f1 a b c d e i->f2 a b c d e i->f3 a b c d e i->G):G:=h.elim λa h=>h.elim λb h=>h.elim λc h=>h.elim λd h=>h.elim λe h=>h.elim λi h=>f a b c d e i h.1 h.2.1 h.2.2.1 h.2.2.2
theorem tP {A B C D E F I:Type}{p:A->B->C->D->E->F->I->Prop}{G:Prop}(h:∃ a b c d e i j,p a b c d e i j)(f:∀ a b c d e i j,p a b c d e i j->G):G:=h.elim λa h=>h.elim λb h=>h.elim λc h=>h.elim λd h=>h.elim λe h=>h.elim λi h=>h.elim λj h=>f a b c d e i j h
theorem tQ {A B C D E F I:Type}{p f1:A->B->C->D->E->F->I->Prop}{G:Prop}(h:∃ a b c d e i j,p a b c d e i j/\f1 a b c d e i j)(f:∀ a b c d e i j,p a b c d e i j->f1 a b c d e i j->G):G:=h.elim λa h=>h.elim λb h=>h.elim λc h=>h.elim λd h=>h.elim λe h=>h.elim λi h=>h.elim λj h=>f a b c d e i j h.1 h.2
theorem qV {A B C D E F I:Type}{p f1 f2 f3:A->B->C->D->E->F->I->Prop}{G:Prop}(h:∃ a b c d e i j,p a b c d e i j/\f1 a b c d e i j/\f2 a b c d e i j/\f3 a b c d e i j)(f:∀ a b c d e i j,p a b c d e i j->f1 a b c d e i j->f2 a b c d e i j->f3 a b c d e i j->G):G:=h.elim λa h=>h.elim λb h=>h.elim λc h=>h.elim λd h=>h.elim λe h=>h.elim λi h=>h.elim λj h=>f a b c d e i j h.1 h.2.1 h.2.2.1 h.2.2.2
theorem mU {A B C D E F I J:Type}{p f1:A->B->C->D->E->F->I->J->Prop}{G:Prop}(h:∃ a b c d e i j k,p a b c d e i j k/\f1 a b c d e i j k)(f:∀ a b c d e i j k,p a b c d e i j k->f1 a b c d e i j k->G):G:=h.elim λa h=>h.elim λb h=>h.elim λc h=>h.elim λd h=>h.elim λe h=>h.elim λi h=>h.elim λj h=>h.elim λk h=>f a b c d e i j k h.1 h.2
theorem mT {A B C D E F I J:Type}{p f1 f2:A->B->C->D->E->F->I->J->Prop}{G:Prop}(h:∃ a b c d e i j k,p a b c d e i j k/\f1 a b c d e i j k/\f2 a b c d e i j k)(f:∀ a b c d e i j k,p a b c d e i j k->f1 a b c d e i j k->f2 a b c d e i j k->G):G:=h.elim λa h=>h.elim λb h=>h.elim λc h=>h.elim λd h=>h.elim λe h=>h.elim λi h=>h.elim λj h=>h.elim λk h=>f a b c d e i j k h.1 h.2.1 h.2.2
theorem vJ {A B C D E F I J:Type}{p f1 f2 f3:A->B->C->D->E->F->I->J->Prop}{G:Prop}(h:∃ a b c d e i j k,p a b c d e i j k/\f1 a b c d e i j k/\f2 a b c d e i j k/\f3 a b c d e i j k)(f:∀ a b c d e i j k,p a b c d e i j k->f1 a b c d e i j k->f2 a b c d e i j k->f3 a b c d e i j k->G):G:=h.elim λa h=>h.elim λb h=>h.elim λc h=>h.elim λd h=>h.elim λe h=>h.elim λi h=>h.elim λj h=>h.elim λk h=>f a b c d e i j k h.1 h.2.1 h.2.2.1 h.2.2.2
theorem qg {A B C D E F I J K:Type}{p f1:A->B->C->D->E->F->I->J->K->Prop}{G:Prop}(h:∃ a b c d e i j k l,p a b c d e i j k l/\f1 a b c d e i j k l)(f:∀ a b c d e i j k l,p a b c d e i j k l->f1 a b c d e i j k l->G):G:=h.elim λa h=>h.elim λb h=>h.elim λc h=>h.elim λd h=>h.elim λe h=>h.elim λi h=>h.elim λj h=>h.elim λk h=>h.elim λl h=>f a b c d e i j k l h.1 h.2
theorem tR {A B C D E F I J K:Type}{p f1 f2:A->B->C->D->E->F->I->J->K->Prop}{G:Prop}(h:∃ a b c d e i j k l,p a b c d e i j k l/\f1 a b c d e i j k l/\f2 a b c d e i j k l)(f:∀ a b c d e i j k l,p a b c d e i j k l->f1 a b c d e i j k l->f2 a b c d e i j k l->G):G:=h.elim λa h=>h.elim λb h=>h.elim λc h=>h.elim λd h=>h.elim λe h=>h.elim λi h=>h.elim λj h=>h.elim λk h=>h.elim λl h=>f a b c d e i j k l h.1 h.2.1 h.2.2
theorem vK {A B C D E F I J K:Type}{p f1 f2 f3:A->B->C->D->E->F->I->J->K->Prop}{G:Prop}(h:∃ a b c d e i j k l,p a b c d e i j k l/\f1 a b c d e i j k l/\f2 a b c d e i j k l/\f3 a b c d e i j k l)(f:∀ a b c d e i j k l,p a b c d e i j k l->f1 a b c d e i j k l->f2 a b c d e i j k l->f3 a b c d e i j k l->G):G:=h.elim λa h=>h.elim λb h=>h.elim λc h=>h.elim λd h=>h.elim λe h=>h.elim λi h=>h.elim λj h=>h.elim λk h=>h.elim λl h=>f a b c d e i j k l h.1 h.2.1 h.2.2.1 h.2.2.2
theorem oh {A B C D E F I J K L:Type}{p:A->B->C->D->E->F->I->J->K->L->Prop}(a:A)(b:B)(c:C)(d:D)(e:E)(i:F)(j:I)(k:J)(l:K)(m:L)(h0:p a b c d e i j k l m):∃ a b c d e i j k l m,p a b c d e i j k l m:=⟨a,b,c,d,e,i,j,k,l,m,h0⟩
theorem og {A B C D E F I J K L M:Type}{p:A->B->C->D->E->F->I->J->K->L->M->Prop}(a:A)(b:B)(c:C)(d:D)(e:E)(i:F)(j:I)(k:J)(l:K)(m:L)(n:M)(h0:p a b c d e i j k l m n):∃ a b c d e i j k l m n,p a b c d e i j k l m n:=⟨a,b,c,d,e,i,j,k,l,m,n,h0⟩
theorem oe {A B C D E F I J K L M N:Type}{p:A->B->C->D->E->F->I->J->K->L->M->N->Prop}(a:A)(b:B)(c:C)(d:D)(e:E)(i:F)(j:I)(k:J)(l:K)(m:L)(n:M)(o:N)(h0:p a b c d e i j k l m n o):∃ a b c d e i j k l m n o,p a b c d e i j k l m n o:=⟨a,b,c,d,e,i,j,k,l,m,n,o,h0⟩
theorem rm {A B C D E F I J K L M N O P:Type}{p:A->B->C->D->E->F->I->J->K->L->M->N->O->P->Prop}(a:A)(b:B)(c:C)(d:D)(e:E)(i:F)(j:I)(k:J)(l:K)(m:L)(n:M)(o:N)(q:O)(r:P)(h0:p a b c d e i j k l m n o q r):∃ a b c d e i j k l m n o q r,p a b c d e i j k l m n o q r:=⟨a,b,c,d,e,i,j,k,l,m,n,o,q,r,h0⟩
theorem aM {A B:Type}{p:A->B->Prop}(a:A)(b:B)(h0:p a b):∃ a b,p a b:=⟨a,b,h0⟩
theorem c5 {A B C:Type}{p:A->B->C->Prop}(a:A)(b:B)(c:C)(h0:p a b c):∃ a b c,p a b c:=⟨a,b,c,h0⟩
theorem i_ {A B C D:Type}{p:A->B->C->D->Prop}(a:A)(b:B)(c:C)(d:D)(h0:p a b c d):∃ a b c d,p a b c d:=⟨a,b,c,d,h0⟩
theorem mq {A B C D E:Type}{p:A->B->C->D->E->Prop}(a:A)(b:B)(c:C)(d:D)(e:E)(h0:p a b c d e):∃ a b c d e,p a b c d e:=⟨a,b,c,d,e,h0⟩
theorem vL {A B C D E F:Type}{p:A->B->C->D->E->F->Prop}(a:A)(b:B)(c:C)(d:D)(e:E)(i:F)(h0:p a b c d e i):∃ a b c d e i,p a b c d e i:=⟨a,b,c,d,e,i,h0⟩
theorem nq {A B C D E F I:Type}{p:A->B->C->D->E->F->I->Prop}(a:A)(b:B)(c:C)(d:D)(e:E)(i:F)(j:I)(h0:p a b c d e i j):∃ a b c d e i j,p a b c d e i j:=⟨a,b,c,d,e,i,j,h0⟩
theorem mR {A B C D E F I J:Type}{p:A->B->C->D->E->F->I->J->Prop}(a:A)(b:B)(c:C)(d:D)(e:E)(i:F)(j:I)(k:J)(h0:p a b c d e i j k):∃ a b c d e i j k,p a b c d e i j k:=⟨a,b,c,d,e,i,j,k,h0⟩
theorem tS {A B C D E F I J K:Type}{p:A->B->C->D->E->F->I->J->K->Prop}(a:A)(b:B)(c:C)(d:D)(e:E)(i:F)(j:I)(k:J)(l:K)(h0:p a b c d e i j k l):∃ a b c d e i j k l,p a b c d e i j k l:=⟨a,b,c,d,e,i,j,k,l,h0⟩
end L2
theorem oz1 {z y:Int}(h0:(0:Int)<=z)(h1:z<y):z.natAbs<=y.natAbs:=∅
theorem oz2 {a b c:Nat}(h0:a<b):min a (b+1)-min a c=a-c:=∅
theorem oz3 {a b c:Nat}(h0:a=b)(h1:¬c<a)(h2:c-a=0):c=b:=∅
theorem oz4 {a b c:Nat}(h0:a<b):min b (a+1)-min b c=a+1-c:=∅
theorem oz5 {z:Int}:(z+z).toNat=z.toNat+z.toNat:=∅
theorem oz6 {z y:Int}(h0:(0:Int)<=z)(h1:(0:Int)<=y):(z+y).toNat=z.toNat+y.toNat:=∅
theorem oz7 {z:Int}(h0:(0:Int)<=z/\z<=(2:Int)):z.toNat<=2:=∅
theorem oz8 {a b c:Nat}(h0:a<b):min (a+1) (b+1)-min (a+1) c=a+1-c:=∅
theorem oz9 {a b:Nat}(h0:a<b+1)(h1:¬a<b):a=b:=∅
theorem oz10 {a b c:Nat}(h0:a=b)(h1:¬c<a)(h2:c<a+1):c=b:=∅
theorem oz11 {a b:Nat}(h0:¬a-b=0):1<=a-b:=∅
theorem b_ {a b c:Nat}(h0:a=b)(h1:c<a):c<b:=∅
theorem oz13 {z y x Z Y X:Int}(h0:(0:Int)<=z)(h1:(0:Int)<=y)(h2:(x*y+Z*z).natAbs+(Y*y+X*z).natAbs<(y+z).natAbs):(↑(x*y+Z*z).natAbs:Int)+(↑(Y*y+X*z).natAbs:Int)<y+z:=∅
theorem c3 {a b c:Nat}(h0:a<b)(h1:c=b):a<c:=∅
theorem oz15 {z y x Z:Int}:(0:Int)<=(↑(z*y+x*Z).natAbs:Int):=∅
theorem oz16 {z y x:Int}(h0:z<=(97:Int))(h1:y<=z)(h2:(0:Int)<=y / x)(h3:y / x<=y):(y / x).natAbs<=97:=∅
theorem oz17 {a b:Nat}(h0:¬a=b):((↑a:Int)+(1:Int)).toNat<=b ↔ (↑a:Int).toNat<=b:=∅
theorem oz18 {a b c d:Nat}(h0:a=b)(h1:c=b)(h2:d<a):d<c:=∅
theorem oz19 {a b:Nat}{z:Int}(h0:(↑a:Int)=z)(h1:b=a):(↑b:Int)=z:=∅
theorem oz20 {a b c:Nat}(h0:a=b)(h1:c=b):a=c:=∅
theorem oz21 {a b:Nat}(h0:¬a=b):(↑a:Int).toNat<=b ↔ ((↑a:Int)+(1:Int)).toNat<=b:=∅
theorem cM {a b c:Nat}(h0:a=b)(h1:c<b):c<a:=∅
theorem c8 {a b:Nat}(h0:¬a<b):b<=a:=∅
theorem oz24 {a b c:Nat}{z y:Int}(h0:z+z-(↑a:Int)*z-z=y)(h1:b=z.toNat)(h2:y=(↑((1-a)*z.toNat):Int))(h3:(↑a:Int)*z=(↑(a*z.toNat):Int))(h4:a*z.toNat<=2*2)(h5:(1-a)*z.toNat<=2*2)(h6:c=a*z.toNat):c+b<=100:=∅
theorem oz25 {a b:Nat}(h0:a<b+1)(h1:¬a=b):a<b:=∅
theorem oz26 {a:Nat}:((0:Int)+(↑a:Int)).toNat=a:=∅
theorem oz27 {a:Nat}:((↑a:Int)+(1:Int)).toNat=a+1:=∅
theorem oz28 {a b c d:Nat}{z y:Int}(h0:(0:Int)<=z/\z<=(2:Int))(h1:z+z-(↑a:Int)*z-z=y)(h2:b=z.toNat)(h3:y=(↑((1-a)*z.toNat):Int))(h4:(↑a:Int)*z=(↑(a*z.toNat):Int))(h5:c=a*z.toNat)(h6:d=(1-a)*z.toNat):c+b+d<=100:=∅
theorem oz29 {z y x:Int}(h0:z<y)(h1:y<=x):z<=x:=∅
theorem oz30 {a:Nat}{z y:Int}(h0:(0:Int)<=z)(h1:z<y)(h2:(↑a:Int)=y):z.toNat<a:=∅
theorem oz31 {a b c:Nat}(h0:a=b)(h1:b=c):a=c:=∅
theorem oz33 {a:Nat}:((↑a:Int)-(126:Int)).toNat=a-126:=∅
theorem oz34 {a b:Nat}(h0:a=b):b=a:=∅
theorem oz35 {a b c d:Nat}(h0:a=b)(h1:c=b)(h2:d<c):d<a:=∅
theorem oz36 {a b c:Nat}(h0:a<=b)(h1:b<c):b-a<c-a:=∅
theorem oz37 {a b c:Nat}:min (a-b) (c-b)<=c:=∅
theorem oz38 {a:Nat}{z y:Int}(h0:(↑a:Int)=z)(h1:(0:Int)<=y)(h2:y<z):y.toNat<a:=∅
theorem oz39 {a b c:Nat}(h0:a=b)(h1:c=a):c=b:=∅
theorem oz40 {a b c:Nat}(h0:a<b)(h1:b=c):a<c:=∅
theorem oz41 {z:Int}:(0:Int)<=(↑z.natAbs:Int):=∅
theorem oz42 {a:Nat}(h0:126<=a):64+(a-126)=a-62:=∅
theorem oz43 {a:Nat}(h0:a<2):a<=2:=∅
theorem oz44 {a b:Nat}(h0:a=b):a<=b:=∅
theorem oz45 {a b c d e f:Nat}(h0:a<b)(h1:c<=36*a)(h2:d+e<=36)(h3:f<e)(h4:b<=9):c+d+f<=900:=∅
theorem oz46 {z y x:Int}(h0:z<=(97:Int))(h1:y<x)(h2:x<=z)(h3:(1:Int)<y):y.natAbs<=97:=∅
theorem oz47 {a:Nat}{z:Int}(h0:(0:Int)<=z)(h1:a=z.toNat):(↑a:Int)=z:=∅
theorem oz48 {a b c:Nat}(h0:a+1=b)(h1:0+1=c):min b c=1:=∅
theorem oz49 {a b:Nat}(h0:a<=6)(h1:b<a):(↑b:Int)<(2:Int) ^ 64:=∅
theorem oz50 {a b c:Nat}(h0:a<b)(h1:c<a):c<b:=∅
theorem oz51 {a:Nat}{z:Int}(h0:z.toNat<a):z.toNat<a+1:=∅
theorem oz52 {a b:Nat}(h0:a+1=b+1):a=b:=∅
theorem oz53 {a b c d:Nat}(h0:a<=9)(h1:b=a)(h2:c<b)(h3:d=c):d<=1000:=∅
theorem oz54 {a b:Nat}{z:Int}(h0:z<=(24:Int))(h1:a<z.toNat)(h2:b=a):b<=1000:=∅
theorem oz55 {a:Nat}{z:Int}(h0:(0:Int)<=z)(h1:z<(↑a:Int)):z.toNat<a:=∅
theorem oz56 {a b c d:Nat}(h0:a=b)(h1:c=b)(h2:d-a=0):d-c=0:=∅
theorem oz57 {a b:Nat}{z y x:Int}(h0:(0:Int)<z)(h1:z<=y*x)(h2:(y*x).natAbs<=a*b):z.natAbs<=a*b:=∅
theorem oz58 {a b:Nat}(h0:a<=b):a+(b-a)=b:=∅
theorem oz59 {a:Nat}{z:Int}(h0:(↑a:Int)=z):a=z.toNat:=∅
theorem oz60 {a:Nat}:1-a<=2:=∅
theorem oz61 {a b c:Nat}(h0:a<b-c):c+a<b:=∅
theorem oz62 {z:Int}:z+z-(0:Int)*z-z=z:=∅
theorem oz63 {z y x:Int}(h0:z<=(97:Int))(h1:y<x)(h2:x<=z):y<(1073741824:Int):=∅
theorem oz64 {a b:Nat}(h0:a<b):0<b:=∅
theorem oz65 {a:Nat}{z:Int}(h0:z<=(24:Int))(h1:(↑a:Int)=z):a<=1000:=∅
theorem oz66 {a b:Nat}:((↑a:Int)-(↑b:Int)).toNat=a-b:=∅
theorem oz67 {a b c:Nat}{z:Int}(h0:a<b)(h1:c=b)(h2:z<(↑c:Int)):z.toNat<c:=∅
theorem oz68 {z:Int}(h0:(0:Int)<=z)(h1:z<(2:Int)):z=(0:Int)\/z=(1:Int):=∅
theorem oz69 {a b:Nat}(h0:a<b):a<b:=∅
theorem oz70 {a:Nat}:((-1:Int)+(↑a:Int)).toNat=a-1:=∅
theorem oz71 {a b c:Nat}(h0:a+1=b)(h1:0+1=c):b=c ↔ a=0:=∅
theorem oz72 {a:Nat}{z y:Int}(h0:a=z.toNat)(h1:y<z):y<(↑a:Int):=∅
theorem oz73 {a b c:Nat}(h0:a=b)(h1:c=a):min a b=c:=∅
theorem oz74 {a b:Nat}:((↑a:Int)+(↑b:Int)).toNat=a+b:=∅
theorem oz75 {z:Int}:z+z-(1:Int)*z-z=(↑0:Int):=∅
theorem oz76 {a b c:Nat}(h0:a<=8)(h1:b<a):min b c<=1000:=∅
theorem oz77 {a b:Nat}(h0:4*a+2<=b):2*a<=b:=∅
theorem iD {z:Int}(h0:(1:Int)<z):(0:Int)<z:=∅
theorem oz79 {a b:Nat}(h0:a<=8)(h1:b<((↑a:Int)-(1:Int)).toNat):b<8:=∅
theorem oz80 {a b:Nat}:a+b+1-b=a+1:=∅
theorem oz82 {a:Nat}:a-62<=a-1:=∅
theorem oz83 {z:Int}(h0:(0:Int)<z):(0:Int)<=z:=∅
theorem oz84 {a b:Nat}(h0:a<=8)(h1:b<a):b+1<=1000:=∅
theorem oz85 {a b c:Nat}(h0:a<b+1)(h1:c≠a)(h2:¬a<b):c≠b:=∅
theorem oz86 {a b c:Nat}(h0:a<=b)(h1:c<a):c<b:=∅
theorem oz87 {z y x Z:Int}(h0:z<(85070591730234615865843651857942052864:Int))(h1:y<=z)(h2:x<=z+y)(h3:(0:Int)<=x / Z)(h4:x / Z<=x):(x / Z).natAbs<170141183460469231731687303715884105728:=∅
theorem oz88 {a:Nat}(h0:a<=900):a<=1000:=∅
theorem i4 {a:Nat}:(0:Int)<=(↑a:Int):=∅
theorem oz90 {a:Nat}{z y:Int}(h0:(↑a:Int)=z)(h1:y<z):y<(↑a:Int):=∅
theorem oz91 {a b:Nat}(h0:a<=900)(h1:b=a):b<=900:=∅
theorem oz92 {a b:Nat}:a+b-b=a:=∅
theorem oz93 {a b c:Nat}(h0:a<=9)(h1:b<=c)(h2:c<a):b<=1000:=∅
theorem oz94 {a b:Nat}:(a+1)*b-1<=(a+1)*b*4-1:=∅
theorem oz95 {a b:Nat}(h0:a<=b):a<=b+1:=∅
theorem oz96 {a b c:Nat}(h0:a<b)(h1:b<c+1):a<c:=∅
theorem oz97 {a b:Nat}{z:Int}(h0:(↑a:Int)=z)(h1:(↑b:Int)=z):b=a:=∅
theorem oz98 {a:Nat}{z:Int}(h0:a<=6*z.toNat)(h1:z<=(8:Int)):a<=48:=∅
theorem oz99 {z y x Z:Int}(h0:(0:Int)<=z)(h1:(0:Int)<=y)(h2:z+y<x+Z):(z+y).toNat<(x+Z).toNat:=∅
theorem tJ {a b c:Nat}(h0:a<=1000)(h1:b<a)(h2:c=b):c<=1000:=∅
theorem oz101 {z y:Int}(h0:z<y)(h1:(1:Int)<z):(0:Int)<=y:=∅
theorem oz102 {a b c d:Nat}(h0:a<=8)(h1:b=c)(h2:c<d)(h3:d+1=a):b<=1000:=∅
theorem oz103 {z y:Int}(h0:(0:Int)<=z)(h1:(0:Int)<=y):(0:Int)<=y+z:=∅
theorem oz104 {a:Nat}{z:Int}(h0:z=(↑a:Int)):(0:Int)<=z:=∅
theorem oz105 {a b c d:Nat}(h0:a=b)(h1:b<c)(h2:d<a):d<c:=∅
theorem oz106 {a b c d:Nat}(h0:a=b)(h1:c=d)(h2:c<=b)(h3:a<=d):a=c:=∅
theorem oz107 {a b c d e f g i j k:Nat}{z y x Z Y X W V U:Int}(h0:(0:Int)<=z)(h1:z<y)(h2:(0:Int)<=x)(h3:a<=b+(c+d))(h4:e<=f+(g+i))(h5:(↑j:Int)=Z+Y)(h6:(↑k:Int)=y)(h7:c<=4611686018427387903*k)(h8:d<=4611686018427387903*k)(h9:g<=4611686018427387903*k)(h10:i<=4611686018427387903*k)(h11:(↑b:Int)=X)(h12:(↑f:Int)=W)(h13:Z=V+z)(h14:Y=U+x)(h15:X+W+y*(18446744073709551616:Int)<=V+U):a+e<j:=∅
theorem oz108 {a b:Nat}(h0:a<=b+1)(h1:¬a=b+1):a<=b:=∅
theorem mj {z:Int}(h0:(1:Int)<z):z≠(0:Int):=∅
theorem qX {a b:Nat}(h0:a<b):a<b+1:=∅
theorem oz111 {a b c:Nat}(h0:a=b)(h1:c=b):c=a:=∅
theorem oz112 {a b c d e f:Nat}(h0:(↑a:Int)<(↑b:Int)-(↑c:Int))(h1:(↑c:Int)+(↑a:Int)=(↑d:Int))(h2:e<d)(h3:f+1=b):e<f:=∅
theorem oz113 {a b:Nat}(h0:a=b)(h1:b<8):a<=1000:=∅
theorem oz114 {a:Nat}:-(2:Int) ^ 63<=(↑a:Int):=∅
theorem oz115 {a b c:Nat}(h0:a<=b)(h1:b<c):a<c:=∅
theorem oz116 {z y:Int}(h0:z % y<y)(h1:(1:Int)<=z % y):(z % y).toNat<y.toNat:=∅
theorem oz117 {a b c d e f g:Nat}(h0:a=b)(h1:b<=900)(h2:c=a)(h3:d=c)(h4:e+f=d)(h5:g<f):(↑g:Int)<(2:Int) ^ 63:=∅
theorem oz118 {a b:Nat}(h0:a<b)(h1:b<=a+1):(↑b:Int)-(↑a:Int)=(1:Int):=∅
theorem oz119 {a b c d:Nat}(h0:a=b)(h1:c<a)(h2:d=b):c<d:=∅
theorem oz120 {a:Nat}{z y:Int}(h0:z=(↑a:Int))(h1:a<=24/\(↑a:Int)=y):z<=(24:Int):=∅
theorem tK {z:Int}(h0:(0:Int)<=z)(h1:¬(0:Int)<z):z=(0:Int):=∅
theorem oz122 {a b c:Nat}(h0:a<=9)(h1:b=c)(h2:c<a):b<=1000:=∅
theorem oz123 {a:Nat}:a+1-1=a:=∅
theorem tL {a b:Nat}(h0:a+1<=b):a<=b:=∅
theorem oz125 {a:Nat}(h0:1<=a):((↑a:Int)-(1:Int)).toNat+1=a:=∅
theorem vw {a:Nat}(h0:a=1):0<a:=∅
theorem oz127 {a b c d e f:Nat}(h0:a=b)(h1:b<=900)(h2:c=a)(h3:d=c)(h4:e+f=d):f<=900:=∅
theorem oz128 {z y:Int}(h0:(0:Int)<z)(h1:y % z<z):(y % z).toNat<z.toNat:=∅
theorem oz129 {a b c d:Nat}(h0:a=b)(h1:b<=9)(h2:c<a)(h3:d=c):d<=1000:=∅
theorem oz130 {a b c d e f:Nat}(h0:a+b*c+d=a+e*c+f):b*c+d=e*c+f:=∅
theorem oz131 {a b:Nat}{z:Int}(h0:z<(5:Int))(h1:a<z.toNat)(h2:b<=a):b<=1000:=∅
theorem oz132 {a:Nat}{z:Int}(h0:(↑a:Int)=z)(h1:(2:Int)<z):a-1<a:=∅
theorem vx {a:Nat}:-(2:Int) ^ 64<(↑a:Int):=∅
theorem oz134 {z y x:Int}(h0:(0:Int)<=z)(h1:z<=y+x):z.natAbs<=(y+x).natAbs:=∅
theorem oz135 {z:Int}(h0:(0:Int)<=z/\z<=(24:Int)):z.toNat<=24/\(↑z.toNat:Int)=z:=∅
theorem oz136 {a b:Nat}(h0:a<=b):a+1<=b+1:=∅
theorem oz137 {a b c:Nat}(h0:a+1<b+1-c):a+c<b:=∅
theorem oz138 {a b:Nat}(h0:a=b):min a b=a:=∅
theorem oz139 {a:Nat}(h0:a<=48):1*a<=48:=∅
theorem oz140 {a:Nat}(h0:7<=a):7<=a+1+2*a:=∅
theorem oz141 {a:Nat}(h0:126<=a):126+(a-126)=a:=∅
theorem oz142 {a b c d:Nat}(h0:a=b)(h1:c=a)(h2:d=c):d=b:=∅
theorem oz144 {a b:Nat}(h0:a<b):b-(a+1)<b-a:=∅
theorem oz145 {a:Nat}{z:Int}(h0:(1:Int)<=z)(h1:a=z.toNat):(↑a:Int)=z:=∅
theorem oz146 {a:Nat}:(0:Int)+(↑a:Int)=(↑a:Int):=∅
theorem oz147 {a b:Nat}(h0:a<b):b=b-1+1:=∅
theorem oz148 {a b:Nat}{z:Int}(h0:(0:Int)<=z)(h1:¬z.natAbs<a)(h2:b<=a):(↑b:Int)<=z:=∅
theorem oz149 {a b c d:Nat}(h0:a=b)(h1:c=a)(h2:d<c):d<b:=∅
theorem oz150 {a:Nat}{z:Int}(h0:z.natAbs<a):z<(↑a:Int):=∅
theorem oz151 {a:Nat}(h0:4*a+2<=134000000):a+(a+1+2*a)<=134000000:=∅
theorem oz152 {a b:Nat}(h0:(↑a:Int)=(↑b:Int)):a=b:=∅
theorem oz153 {z:Int}(h0:(0:Int)<=z)(h1:z≠(0:Int)):(0:Int)<z:=∅
theorem oz154 {a b c d:Nat}(h0:a=b)(h1:c=b)(h2:¬d<a):c<=d:=∅
theorem oz155 {a b c d e f g i j:Nat}{z y:Int}(h0:a+b*z.toNat+c=d+e*y.toNat+f)(h1:d+e*y.toNat+f<g)(h2:g<=a):i=j:=∅
theorem vA {z:Int}(h0:z.natAbs<4611686018427387904):z.natAbs<=4611686018427387903:=∅
-- CHANGE: your row's module here,as the last of these rows
set_option Elab.async false
set_option linter.all false
set_option maxRecDepth 100000
namespace L2
open PySem PySem.Spec PyProof.Rows
abbrev fG:=Sum Int Str
def keyIs:fG->Value->Bool
 | .inl k,v=>Value.isInt k v
 | .inr x,v=>Value.isStrOf x v
def keyH (w:World):fG->Int
 | .inl k=>hashInt k
 | .inr x=>hashStr w x
theorem mB:∀ {k:fG} {v:Value},keyIs k v=true->(∃ i t,k=Sum.inl i/\v=Value.int i t)\/(∃ x t,k=Sum.inr x/\v=Value.str x t)
 | .inl i,v,h=>by
  obtain⟨t,e⟩:=Value.isInt_shape (k:=i) (v:=v) h;exact .inl ⟨i,t,rfl,e⟩
 | .inr x,v,h=>by
  obtain⟨t,e⟩:=Value.isStrOf_shape (x:=x) (v:=v) h;exact .inr ⟨x,t,rfl,e⟩
theorem pR (a b:Int):decide ((Sum.inl a:fG)=Sum.inl b)=(a == b):=by
 by_cases e:a=b
 .subst e;simp
 .have h:¬ (Sum.inl a:fG)=Sum.inl b:=λq=>e (Sum.inl.inj q);rw[dm h];exact (xw.mpr e).symm
theorem pO (a b:Str):decide ((Sum.inr a:fG)=Sum.inr b)=decide (a=b):=by
 by_cases e:a=b
 .subst e;simp
 .have h:¬ (Sum.inr a:fG)=Sum.inr b:=λq=>e (Sum.inr.inj q);rw[dm h,dm e]
theorem pQ (a:Int)(b:Str):decide ((Sum.inl a:fG)=Sum.inr b)=false:=dm (λq=>nomatch q)
theorem pP (a:Str)(b:Int):decide ((Sum.inr a:fG)=Sum.inl b)=false:=dm (λq=>nomatch q)
def yU (prog:Program)(w:World):PySem.KeyKind prog w fG where
 is:=keyIs
 hash:=keyH w
 inj:=λv a b ha hb=>by
  rcases mB ha with ⟨i,t,rfl,rfl⟩|⟨x,t,rfl,rfl⟩
  .rcases mB hb with ⟨j,u,rfl,e⟩|⟨y,u,rfl,e⟩
   .injection e with e1 _;rw[e1]
   .exact nomatch e
  .rcases mB hb with ⟨j,u,rfl,e⟩|⟨y,u,rfl,e⟩
   .exact nomatch e
   .injection e with e1 _;rw[e1]
 byValue:=λk v h=>by
  rcases mB h with ⟨i,t,rfl,rfl⟩|⟨x,t,rfl,rfl⟩ <;> rfl
 pyHash:=λhv h=>by
  rcases mB hv with ⟨i,t,rfl,rfl⟩|⟨x,t,rfl,rfl⟩
  .exact wpAny_pyHash_int h
  .exact wpAny_pyHash_str h
 eqBool:=λhu hv h=>by
  rcases mB hu with ⟨i,t,rfl,rfl⟩|⟨x,t,rfl,rfl⟩
  .rcases mB hv with ⟨j,u,rfl,rfl⟩|⟨y,u,rfl,rfl⟩
   .rw [pR] at h;exact wpAny_eqBool_int h
   .rw [pQ] at h;exact SeqAt.EqAt.int_str i t y u _ _ _ _ h
  .rcases mB hv with ⟨j,u,rfl,rfl⟩|⟨y,u,rfl,rfl⟩
   .rw [pP] at h;exact SeqAt.EqAt.str_int x t j u _ _ _ _ h
   .rw [pO] at h;exact wpAny_eqBool_str h
 «strs»:=λk x t v h=>by
  rcases mB h with ⟨i,u,rfl,e⟩|⟨y,u,rfl,e⟩
  .exact nomatch e
  .injection e with e1 _
   subst e1;cases v <;> rfl
inductive V where
 | non|bl (b:Bool)|int (i:Int)|str (x:Str)|byt (b:Array UInt8)|flt (b:UInt64)|ref (a:Addr)|ty (n:String)
 deriving DecidableEq
def aG:V->Value->Prop
 | .non,u=>u=Value.none
 | .bl b,u=>u=Value.bool b
 | .int i,u=>∃ t,u=Value.int i t
 | .str x,u=>∃ t,u=Value.str x t
 | .byt b,u=>∃ t,u=Value.bytes b t
 | .flt b,u=>∃ t,u=Value.float b t
 | .ref a,u=>u=Value.ref a
 | .ty n,u=>u=Value.type n
abbrev av:List V->List Value->Prop:=Paired aG
theorem av.length {xs:List V}{us:List Value}(r:av xs us):xs.length=us.length:=Paired.length r
theorem av.get:∀ {xs:List V} {us:List Value} {i:Nat} {x:V},av xs us->xs[i]?=some x->∃ u,us[i]?=some u/\aG x u
 | _,_,_,_,.nil,e=>by simp at e
 | _,_,0,_,.cons r _,e=>by simp at e;subst e;exact⟨_,rfl,r⟩
 | _,_,i+1,x,.cons _ t,e=>by
  refine ar (av.get (i:=i) (x:=x) t (by simpa using e)) λu h1 h2=>?_;exact⟨u,by simpa using h1,h2⟩
theorem av.set {x:V}{u:Value}(r:aG x u):∀ {xs:List V} {us:List Value} (i:Nat),av xs us->av (xs.set i x) (us.set i u)
 | _,_,_,.nil=>.nil
 | _,_,0,.cons _ t=>.cons r t
 | _,_,i+1,.cons q t=>.cons q (av.set r i t)
theorem av.append:∀ {xs ys:List V} {us ws:List Value},av xs us->av ys ws->av (xs++ys) (us++ws)
 | _,_,_,_,.nil,s=>s
 | _,_,_,_,.cons r t,s=>.cons r (av.append t s)
theorem av.take:∀ {xs:List V} {us:List Value} (n:Nat),av xs us->av (xs.take n) (us.take n)
 | _,_,0,_=>.nil
 | _,_,_+1,.nil=>.nil
 | _,_,n+1,.cons r t=>.cons r (av.take n t)
theorem av.drop:∀ {xs:List V} {us:List Value} (n:Nat),av xs us->av (xs.drop n) (us.drop n)
 | _,_,0,r=>r
 | _,_,_+1,.nil=>.nil
 | _,_,n+1,.cons _ t=>av.drop n t
def eW:Option V->Option Value->Prop
 | some v,some u=>aG v u
 | none,none=>True
 | _,_=>False
def KV {κ:Type}:List (κ×V)->List (κ×Value)->Prop:=Paired λ(p:κ×V) (q:κ×Value)=>p.1=q.1/\aG p.2 q.2
def kV:fG->V
 | .inl i=>.int i
 | .inr x=>.str x
inductive HO where
  | lst (xs:List V)
  | tup (xs:List V)
  | dK (kvs:List (fG×V))|dT (kvs:List (List fG×V))
  | set (S:Int->Bool) (n:Nat)
  | ins (C dx:Addr) (fs:List (Str×V))
  | own (x:Addr)
  | xd (fs:List (Str×V))
  | met (f x:Addr)
  | rng (lo hi:Int)
  | frz (o:Obj) (u:HO)
  | tbl (ps:Array Value)
  | ext (φ:Heap->Prop)
  | tab (l c:Int) (q:Str)
abbrev Hp:=Addr->Option HO
def ao (H:Hp)(a:Addr)(o:HO):Hp:=λb=>if b=a then some o else H b
theorem aw {H:Hp}{a:Addr}{o:HO}:ao H a o a=some o:=by unfold ao;rw[if_pos rfl]
theorem aJ {H:Hp}{a b:Addr}{o:HO}(h:b≠a):ao H a o b=H b:=by unfold ao;rw[if_neg h]
theorem eQ {H:Hp}{a b:Addr}{o u:HO}(h:H a=some o)(h':H b=some u)(d:o≠u):a≠b:=by
 intro e;subst e;rw[h] at h';exact d (fJ h')
theorem cc {H:Hp}{a b:Addr}{o:HO}(h:H a=some o)(h':H b=none):a≠b:=by
 intro e;subst e;rw[h] at h';cases h'
section
variable (P:Program)(w:World)
def bG (H:Hp)(h:Heap)(a:Addr):HO->Prop
 | .lst xs=>xs.length<=sizeLine/\∃ (its:List Value) (n:Nat),av xs its/\h.get? a=some { cls:=.type "list",data:=.seq its.toArray n }
 | .tup xs=>xs.length<=sizeLine/\∃ its:List Value,av xs its/\IsTup h a its.toArray
 | .dK kvs=>kvs.length<=sizeLine/\(a == sysModules)=false/\∃ vs,KV kvs vs/\h.DictOf (yU P w) a vs
 | .dT kvs=>kvs.length<=sizeLine/\(a == sysModules)=false/\∃ xs:List (List fG×Addr×Value),
   Paired (λ(p:List fG×V) (q:List fG×Addr×Value)=>p.1=q.1/\H q.2.1=some (.tup (p.1.map kV))/\aG p.2 q.2.2) kvs xs /\
   ∃ o es ep,h.get? a=some o/\o.ExactDict/\o.data=.dict es ep/\es.toList=xs.map (entryOfKey (tupleKind (yU P w)))/\(xs.map (·.1)).Nodup
 | .set S n=>h.SetOf (intKind P w) a S n
 | .ins C dx fs=>H dx=some (.own a)/\fs.length<=1000/\dx≠a/\h.get? a=some (PySem.W.instObj C dx) /\
   ∃ mA,h.Ns1 dx mA/\(∀ f,eW (fs.lookup f) (mA f))/\PySem.Within mA (fs.map (·.1))
 | .own _=>∃ o,h.get? a=some o
 | .xd fs=>∃ mA,h.Ns1 a mA/\∀ f,eW (fs.lookup f) (mA f)
 | .rng lo hi=>∃ t u v,h.get? a=some { cls:=.type "range",data:=.fields #[.int lo t,.int hi u,.int 1 v] }
 | .frz o u=>h.get? a=some o/\bG H h a u
 | .tbl ps=>h.get? a=some { cls:=.none,data:=.fields ps }
 | .met f x=>h.get? a=some (PySem.W.methodObj (.ref f) (.ref x))
 | .ext φ=>φ h/\(∃ o,h.get? a=some o)/\∀ h1 h2:Heap,φ h1->(∀ o,h1.get? a=some o->h2.get? a=some o)->φ h2
 | .tab l c q=>h.get? a=some { cls:=.none,data:=.fields #[] }\/∃ c' oc vs t,h.get? a=some { cls:=.none,data:=.fields #[rawInt l,rawInt c,.ref c'] }/\c'≠a/\H c'=some (.frz oc (.own a))/\oc.data=.fields vs/\vs[1]?=some (.str q t)
def dQ (H:Hp)(h:Heap):Prop:=∀ a o,H a=some o->bG P w H h a o
end
section
variable {P:Program}{w:World}{H H':Hp}{h h':Heap}{a:Addr}{o:HO}
theorem bG.lt (x:bG P w H h a o):a<h.objs.size:=by
 cases o with
 | lst xs=>obtain⟨_,_,_,_,e⟩:=x;exact bX e
 | tup xs=>obtain⟨_,_,_,p⟩:=x;exact p.lt
 | dK kvs=>obtain⟨_,_,_,_,o,_,_,e,_⟩:=x;exact bX e
 | dT kvs=>obtain⟨_,_,_,_,o,_,_,e,_⟩:=x;exact bX e
 | set S n=>obtain⟨o,_,_,_,e,_⟩:=x;exact bX e
 | ins C dx fs=>obtain⟨_,_,_,e,_⟩:=x;exact bX e
 | own y=>obtain⟨_,e⟩:=x;exact bX e
 | xd fs=>obtain⟨_,⟨_,_,_,e,_⟩,_⟩:=x;exact bX e
 | rng lo hi=>obtain⟨_,_,_,e⟩:=x;exact bX e
 | frz ob u=>obtain⟨e,_⟩:=x;exact bX e
 | tbl ps=>exact bX (show h.get? a=some _ from x)
 | met f y=>exact bX (show h.get? a=some _ from x)
 | ext φ=>obtain⟨_,⟨_,e⟩,_⟩:=x;exact bX e
 | tab l c q=>
  rcases x with e|⟨_,_,_,_,e,_⟩
  .exact bX e
  .exact bX e
theorem Paired.mapP {α β:Type}{F G:α->β->Prop}:∀ {l₁:List α} {l₂:List β},Paired F l₁ l₂->(∀ a b,F a b->G a b)->Paired G l₁ l₂
 | _,_,.nil,_=>.nil
 | _,_,.cons r t,f=>.cons (f _ _ r) (Paired.mapP t f)
theorem bG.stay (x:bG P w H h a o)(k:∀ b u,(b=a\/H b=some (.own a))->h.get? b=some u->h'.get? b=some u)(ho:∀ b,H b=some (.own a)->H' b=some (.own a))(ht:∀ b xs,H b=some (.tup xs)->H' b=some (.tup xs))(hz:∀ b o' u,H b=some (.frz o' u)->H' b=some (.frz o' u)):bG P w H' h' a o:=by
 induction o with
 | lst xs=>obtain⟨z,its,n,r,e⟩:=x;exact⟨z,its,n,r,k _ _ (.inl rfl) e⟩
 | tup xs=>obtain⟨z,its,r,ob,e,c⟩:=x;exact⟨z,its,r,ob,k _ _ (.inl rfl) e,c⟩
 | dK kvs=>obtain⟨z,y,vs,r,ob,es,ep,e,c⟩:=x;exact⟨z,y,vs,r,ob,es,ep,k _ _ (.inl rfl) e,c⟩
 | dT kvs=>
  refine bQ x λz y e916=>?_;clear x;obtain⟨xs,r,ob,es,ep,e,c⟩:=e916;exact⟨z,y,xs,Paired.mapP r λp q z=>⟨z.1,ht _ _ z.2.1,z.2.2⟩,ob,es,ep,k _ _ (.inl rfl) e,c⟩
 | set S n=>obtain⟨ob,es,ep,t,e,c⟩:=x;exact⟨ob,es,ep,t,k _ _ (.inl rfl) e,c⟩
 | ins C dx fs=>
  refine cY x λd z ne e e917=>?_;clear x;obtain⟨mA,⟨od,es,ep,e2,c⟩,r⟩:=e917;exact⟨ho _ d,z,ne,k _ _ (.inl rfl) e,mA,⟨od,es,ep,k _ _ (.inr d) e2,c⟩,r⟩
 | own y=>obtain⟨ob,e⟩:=x;exact⟨ob,k _ _ (.inl rfl) e⟩
 | xd fs=>obtain⟨mA,⟨od,es,ep,e,c⟩,r⟩:=x;exact⟨mA,⟨od,es,ep,k _ _ (.inl rfl) e,c⟩,r⟩
 | rng lo hi=>obtain⟨t,u,v,e⟩:=x;exact⟨t,u,v,k _ _ (.inl rfl) e⟩
 | frz ob u ih=>obtain⟨e,q⟩:=x;exact⟨k _ _ (.inl rfl) e,ih q⟩
 | tbl ps=>
  have e:h.get? a=some { cls:=.none,data:=.fields ps }:=x;show h'.get? a=some { cls:=.none,data:=.fields ps };exact k a _ (.inl rfl) e
 | met f y=>
  have e:h.get? a=some (PySem.W.methodObj (.ref f) (.ref y)):=x;show h'.get? a=some (PySem.W.methodObj (.ref f) (.ref y));exact k a _ (.inl rfl) e
 | ext φ=>obtain⟨p,⟨o,e⟩,st⟩:=x;exact⟨st _ _ p λo q=>k _ _ (.inl rfl) q,⟨o,k _ _ (.inl rfl) e⟩,st⟩
 | tab l c q=>
  rcases x with e|⟨c',oc,vs,t,e,ne,e2,r⟩
  .exact .inl (k _ _ (.inl rfl) e)
  .exact .inr ⟨c',oc,vs,t,k _ _ (.inl rfl) e,ne,hz _ _ _ e2,r⟩
theorem dQ.lt (x:dQ P w H h)(e:H a=some o):a<h.objs.size:=(x a o e).lt
theorem dQ.fresh (x:dQ P w H h)(e:h.objs.size<=a):H a=none:=by
 cases q:H a with
 | none=>rfl
 | some u=>exact absurd (dZ (x.lt q) e) (gX _)
theorem dQ.kept (x:dQ P w H h)(k:∀ b u,h.get? b=some u->h'.get? b=some u):dQ P w H h':=λa o e=>
 (x a o e).stay (λb u _ q=>k b u q) (λ_ q=>q) (λ_ _ q=>q) λ_ _ _ q=>q
theorem dQ.laid (x:dQ P w H h)(k:∀ b u,h.get? b=some u->h'.get? b=some u)(hp:h.objs.size<=a)(new:bG P w (ao H a o) h' a o):dQ P w (ao H a o) h':=λb u e=>by
 have hn:=x.fresh hp;by_cases hb:b=a
 .subst hb;rw[aw] at e;cases e;exact new
 .rw [aJ hb] at e;exact (x b u e).stay (λc v _ q=>k c v q) (λc q=>by rw[aJ (cc q hn)];exact q) (λc xs q=>by rw[aJ (cc q hn)];exact q) λc _ _ q=>by rw[aJ (cc q hn)];exact q
end
def Rd (H:Hp)(a:Addr)(u:HO):Prop:=H a=some u\/∃ o,H a=some (.frz o u)
theorem Rd.ok {P:Program}{w:World}{H:Hp}{h:Heap}{a:Addr}{u:HO}(r:Rd H a u)(x:dQ P w H h):bG P w H h a u:=by
 rcases r with r|⟨o,r⟩
 .exact x a u r
 .obtain ⟨_,q⟩:=x a _ r;exact q
def w_:Option HO->Prop
 | some (.lst _)=>True
 | some (.dK _)=>True
 | some (.dT _)=>True
 | some (.set _ _)=>True
 | some (.ins _ _ _)=>True
 | some (.ext _)=>True
 | some (.tab _ _ _)=>True
 | _=>False
section
variable {P:Program}{w:World}{H:Hp}{h h':Heap}{x e:Addr}{o':HO}
theorem dQ.write (ok:dQ P w H h)(mu:w_ (H x))(he:e=x\/H e=some (.own x))(k:∀ b u,b≠e->h.get? b=some u->h'.get? b=some u)(heo:∃ u,h'.get? e=some u)(new:bG P w (ao H x o') h' x o'):dQ P w (ao H x o') h':=λb u q=>by
 have nown:∀ c y,H c=some (.own y)->c≠x:=λc y r z=>by subst z;rw[r] at mu;exact mu
 have ntup:∀ c xs,H c=some (.tup xs)->c≠x:=λc xs r z=>by subst z;rw[r] at mu;exact mu
 have nfrz:∀ c o' u',H c=some (.frz o' u')->c≠x:=λc o' u' r z=>by subst z;rw[r] at mu;exact mu
 by_cases hb:b=x
 .subst hb;rw[aw] at q;cases q;exact new
 .rw [aJ hb] at q;by_cases hbe:b=e
  .have q':H b=some (.own x):=by
    rcases he with z|z
    .exact absurd (hbe.trans z) hb
    .rw [hbe];exact z
   rw[q] at q';cases q';obtain⟨v,hv⟩:=heo;exact⟨v,by rw[hbe];exact hv⟩
  .refine (ok b u q).stay (λc v hc r=>k c v ?_ r) (λc r=>by rw[aJ (nown c b r)];exact r) (λc xs r=>by rw[aJ (ntup c xs r)];exact r) λc o' u' r=>by rw[aJ (nfrz c o' u' r)];exact r
   rcases hc with rfl|hc
   .exact hbe
   .rintro rfl;rcases he with z|z
    .exact nown c b hc z
    .rw [hc] at z;cases z;exact hb rfl
end
structure Un (fs ex:List Addr)(H H':Hp)(h h':Heap):Prop where
 keep:∀ b o,h.get? b=some o->H b=none->b∉fs->b∉ex->h'.get? b=some o
 slot:∀ b o,h.get? b=some o->H b=none->b∈fs->b∉ex->∃ sl,h'.get? b=some { o with slots:=sl }
 free:∀ b o,h.get? b=some o->H b=none->b∉ex->H' b=none
 there:∀ b o,h.get? b=some o->b∉ex->∃ o',h'.get? b=some o'
 tups:∀ b xs,H b=some (.tup xs)->H' b=some (.tup xs)
 frzs:∀ b o u,H b=some (.frz o u)->H' b=some (.frz o u)
 tbls:∀ b ps,H b=some (.tbl ps)->∃ more,H' b=some (.tbl (ps++more))
section
variable {fs fs' ex ex':List Addr}{H H1 H2:Hp}{h h1 h2 h':Heap}{a x e:Addr}{o:HO}
theorem Un.any (u:Un fs ex H H1 h h1){b:Addr}{ob:Obj}(q:h.get? b=some ob)(n:H b=none)(hx:b∉ex):∃ sl,h1.get? b=some { ob with slots:=sl }:=by
 by_cases hb:b∈fs
 .exact u.slot b ob q n hb hx
 .exact ⟨ob.slots,u.keep b ob q n hb hx⟩
theorem Un.kept (k:∀ b u,h.get? b=some u->h'.get? b=some u):Un fs ex H H h h':=
 ⟨λb ob q _ _ _=>k b ob q,λb ob q _ _ _=>⟨ob.slots,k b ob q⟩,λ_ _ _ n _=>n,λb ob q _=>⟨ob,k b ob q⟩,λ_ _ q=>q,λ_ _ _ q=>q,λ_ ps q=>⟨#[],by rw[q];simp⟩⟩
theorem Un.refl:Un fs ex H H h h:=Un.kept λ_ _ q=>q
theorem Un.laid (k:∀ b u,h.get? b=some u->h'.get? b=some u)(hp:h.objs.size<=a)(hn:H a=none):Un fs ex H (ao H a o) h h' where
 keep:=λb u q _ _ _=>k b u q
 slot:=λb u q _ _ _=>⟨u.slots,k b u q⟩
 free:=λb u q n _=>by rw[aJ (d8 (dZ (bX q) hp))];exact n
 there:=λb u q _=>⟨u,k b u q⟩
 tups:=λb xs q=>by rw[aJ (cc q hn)];exact q
 frzs:=λb u xs q=>by rw[aJ (cc q hn)];exact q
 tbls:=λb ps q=>⟨#[],by rw[aJ (cc q hn),q];simp⟩
theorem Un.write (mu:w_ (H x))(he:e=x\/H e=some (.own x))(k:∀ b u,b≠e->h.get? b=some u->h'.get? b=some u)(heo:∃ u,h'.get? e=some u):Un fs ex H (ao H x o) h h':=by
 have hx:∀ b,H b=none->b≠x:=λb n z=>by subst z;rw[n] at mu;exact mu
 have hb:∀ b,H b=none->b≠e:=λb n z=>by
  subst z;rcases he with r|r
  .exact hx b n r
  .rw [n] at r;cases r
 have hm:∀ b u,H b=some u->¬ w_ (some u)->b≠x:=λb u q nm z=>by subst z;rw[q] at mu;exact nm mu
 refine⟨λb u q n _ _=>k b u (hb b n) q,λb u q n _ _=>⟨u.slots,k b u (hb b n) q⟩,λb u q n _=>by rw[aJ (hx b n)];exact n,λb u q _=>?_,
  λb xs q=>by rw[aJ (hm b _ q λz=>z)];exact q,λb u xs q=>by rw[aJ (hm b _ q λz=>z)];exact q,λb ps q=>⟨#[],by rw[aJ (hm b _ q λz=>z),q];simp⟩⟩
 by_cases hbe:b=e
 .subst hbe;exact heo
 .exact ⟨u,k b u hbe q⟩
end
def trk (h:Heap)(H:Hp):List Addr:=(List.range h.objs.size).filter λa=>(H a).isSome
def jK (h:Heap)(H:Hp):Heap:=PySem.W.hideAll h (trk h H)
theorem GT (h:Heap)(H:Hp):(jK h H).objs.size=h.objs.size:=PySem.W.hideAll_size _ _
theorem Fx {h:Heap}{H:Hp}{b:Addr}{o:Obj}(e:h.get? b=some o)(n:H b=none):(jK h H).get? b=some o:=
 PySem.W.hideAll_get _ e λhm=>by
  have q:(H b).isSome=true:=(sj.mp hm).2;rw[n] at q;simp at q
theorem lE {h:Heap}{H:Hp}{b:Addr}{o:Obj}(e:(jK h H).get? b=some o):h.get? b=some o/\H b=none:=by
 have e':h.get? b=some o:=PySem.W.of_hideAll (trk h H) e;refine⟨e',?_⟩;cases q:H b with
 | none=>rfl
 | some x=>
  have hm:b∈trk h H:=sj.mpr ⟨eC.mpr (bX e'),by simp[q]⟩;have z:(jK h H).get? b=none:=PySem.W.hideAll_none (trk h H) hm;rw[z] at e;cases e
def allNews (g h:Heap)(L:Addr):List (Addr×Obj):=(List.range h.objs.size).filterMap λa=>if a=L\/(g.get? a).isSome=true then none else (h.get? a).map λo=>(a,o)
def rest (g h:Heap)(L d:Addr):List (Addr×Obj):=(allNews g h L).filter λp=>decide (p.1≠d)
structure xg (K:Frag)(mg:Str->Option Value)(base:Heap):Prop where
 kin:K.In base
 glob:base.Ns mainGlobals mg
 blt:∃ mb,base.Ns builtinsNs mb/\∀ x:Str,x ≠ "__name__" -> mb x=bootBuiltins x
 nolimit:base.NoLimit
 seer:base.NoSeer
 bmain:∃ bm ob,mg "__builtins__" = some (.ref bm)/\bm≠builtinsNs/\base.get? bm=some ob/\ob.cls=.type "module" /\ ob.dict=some builtinsNs/\ob.data=.plain
def AQ (l:List Env):Prop:=∃ e r,l=e::r/\e.scope.isGenerator=false/\e.scope.isCoroutine=false/\e.builtins=builtinsNs/\e.globals=mainGlobals
structure Cx where
 prog:Program
 w:World
 K:Frag
 mg:Str->Option Value
 base:Heap
 A:Around
 N:List Str
 s₀:Shared
 H₀:Hp
 env:Env
 outer:List Env
 stack:List Env
 ex:List Addr
 fn:Str->Bool
 calm:Bool
 pn:List (Addr×Obj)
 xe:Value->Shared->Prop
def frs (l:List Env):List Addr:=l.filterMap (·.frame)
abbrev Cx.fs (X:Cx):List Addr:=frs X.outer
def wZ (sc:Scope)(x:Str):Prop:=sc.names.lookup x=some .local\/sc.names.lookup x=some .cell\/sc.names.lookup x=some .free
def xh (sc:Scope)(x:Str):Prop:=sc.names.lookup x=some .local\/sc.names.lookup x=some .cell
def AR (env:Env)(h:Heap)(m:Str->Option Value)(x:Str)(u:Value):Prop:=
 (env.kindOf x=some .local/\m x=some u)\/((env.kindOf x=some .cell\/env.kindOf x=some .free)/\∃ c,env.cells.lookup x=some c/\h.IsCell c (some u))
structure Cx.Ok (X:Cx):Prop where
 mod:xg X.K X.mg X.base
 kind:X.env.scope.kind=.function
 glob:X.env.globals=mainGlobals
 blt:X.env.builtins=builtinsNs
 above:X.s₀.heap.objs.size<=X.env.locals
 inj:∀ x y c,X.env.cells.lookup x=some c->X.env.cells.lookup y=some c->x=y
 has:∀ x,(X.env.kindOf x=some .cell\/X.env.kindOf x=some .free)->∃ c,X.env.cells.lookup x=some c
 cab:∀ x c,X.fn x=true->X.env.cells.lookup x=some c->X.s₀.heap.objs.size<=c
 hd:X.calm=true->X.A.handled=none
 frames:X.A.frames=some X.stack
 stk:X.stack=X.outer\/(X.stack=X.env::X.outer/\X.env.frame=some X.env.locals)
 exf:∀ b∈X.ex,b≠X.env.locals/\∀ x c,X.env.cells.lookup x=some c->c≠b
 bs:∀ b o,X.base.get? b=some o->X.s₀.heap.get? b=some o/\X.H₀ b=none
 bsz:X.base.objs.size<=X.s₀.heap.objs.size
 noex:∀ b o,X.base.get? b=some o->b∉X.ex
 exfs:∀ b∈X.ex,b∉X.fs
 funs:X.s₀.heap.FunFrames X.base X.outer
 frf:∀ b∈X.fs,X.H₀ b=none
 top:AQ X.stack
structure au (X:Cx)(pins:List (Addr×Obj))(σ:List (Option V))(H:Hp)(s:Shared):Prop where
 ok:X.Ok
 os:s.os=X.s₀.os
 bare:AllBare s.gens
 base:Un X.fs X.ex X.H₀ H X.s₀.heap s.heap
 loc:∃ m,s.heap.Ns X.env.locals m/\∀ (i:Nat) (x:Str) (v:V),X.N[i]?=some x->σ[i]?=some (some v)->wZ X.env.scope x->∃ u,aG v u/\AR X.env s.heap m x u
 cell:∀ x c,X.env.cells.lookup x=some c->∃ v,s.heap.IsCell c v
 free:H X.env.locals=none
 freeC:∀ x c,X.env.cells.lookup x=some c->H c=none
 pin:∀ p∈X.pn++pins,s.heap.get? p.1=some p.2/\H p.1=none/\p.1≠X.env.locals/\p.1∉X.fs/\∀ v,p.2.data≠.cell v
 hok:dQ X.prog X.w H s.heap
 len:σ.length=X.N.length
section
variable {X:Cx}{pins:List (Addr×Obj)}{σ:List (Option V)}{H H':Hp}{s:Shared}{h':Heap}
theorem Cx.Ok.nofr (ok:X.Ok){b:Addr}{o:Obj}(e:X.base.get? b=some o):b∉X.fs:=λhb=>by
 have:=(ok.funs.mem hb).1;rw[e] at this;cases this
theorem au.bs (I:au X pins σ H s):∀ b o,X.base.get? b=some o->s.heap.get? b=some o/\H b=none:=λb o e=>
 ⟨I.base.keep b o (I.ok.bs b o e).1 (I.ok.bs b o e).2 (I.ok.nofr e) (I.ok.noex b o e),I.base.free b o (I.ok.bs b o e).1 (I.ok.bs b o e).2 (I.ok.noex b o e)⟩
theorem au.bk (I:au X pins σ H s):∀ b o,X.base.get? b=some o->s.heap.get? b=some o:=λb o e=>(I.bs b o e).1
theorem au.mod (I:au X pins σ H s):xg X.K X.mg X.base:=I.ok.mod
theorem au.kIn (I:au X pins σ H s):X.K.In s.heap:=I.ok.mod.kin.keeps I.bk
theorem au.nolimit (I:au X pins σ H s):s.heap.NoLimit:=I.ok.mod.nolimit.keeps I.bk
theorem au.long (I:au X pins σ H s)(ht:X.prog.given.tree=none)(hd:X.A.depth+Builtin.pylongFrames<recursionLimit):PySem.PylongRoom (model X.prog X.w) X.A s:=by
 refine nB I.ok.top λe r hs h1 h2 h3 h4=>?_;exact PySem.PylongRoom.of I.nolimit hd (PySem.SeerAt.of (I.ok.mod.seer.keeps I.bk) ht (by rw[I.ok.frames,hs]) h1 h2 h3 h4)
theorem au.lt (I:au X pins σ H s):X.env.locals<s.heap.objs.size:=let ⟨_,hn,_⟩:=I.loc;hn.lt
theorem au.sz (I:au X pins σ H s):X.s₀.heap.objs.size<=s.heap.objs.size:=cx I.ok.above (jg I.lt)
theorem au.nofs (I:au X pins σ H s){a:Addr}(h:s.heap.objs.size<=a):a∉X.fs:=λhb=>by
 obtain⟨_,o,ho,_⟩:=I.ok.funs.mem hb;exact absurd (dZ (bX ho) (cx I.sz h)) (gX _)
theorem au.cne (I:au X pins σ H s):∀ x c,X.env.cells.lookup x=some c->c≠X.env.locals:=λx c e z=>by
 obtain⟨v,o,ho,hd⟩:=I.cell x c e;refine ar I.loc λm e918 _=>?_;obtain⟨o',es,ep,ho',hd',_⟩:=e918;rw[z,ho'] at ho;cases ho;rw[hd'] at hd;cases hd
theorem au.funs (I:au X pins σ H s):s.heap.FunFrames X.base X.outer:=by
 have all:∀ (l:List Env),(∀ b∈frs l,b∈X.fs)->X.s₀.heap.FunFrames X.base l->s.heap.FunFrames X.base l:=by
  intro l
  induction l with
  | nil=>intro _ _;trivial
  | cons env r ih=>
   intro hs hl;refine bQ hl λhk e919 hr=>?_;clear hl;obtain⟨L,o,hf,hn,ho,hd⟩:=e919;have hL:L∈X.fs:=hs L (by unfold frs;rw[A0,hf];exact nV);obtain⟨sl,e⟩:=I.base.slot L o ho (I.ok.frf L hL) hL λz=>I.ok.exfs L z hL;exact⟨hk,⟨L,_,hf,hn,e,hd⟩,ih (λb hb=>hs b (by unfold frs;rw[A0,hf];exact j7 _ hb)) hr⟩
 exact all X.outer (λ_ hb=>hb) I.ok.funs
theorem au.stack (I:au X pins σ H s):s.heap.FunFrames X.base X.stack:=by
 rcases I.ok.stk with e|⟨e,hf⟩
 .rw [e];exact I.funs
 .rw [e];refine ar I.loc λm hn _=>?_;refine .cons (by rw[I.ok.kind];decide) hf hn ?_ I.funs;exact Heap.get?_none_of_le (cx I.ok.bsz I.ok.above)
theorem au.stkSub (I:au X pins σ H s):∀ b∈frs X.stack,b∈X.env.locals::X.fs:=λb hb=>by
 rcases I.ok.stk with e|⟨e,hf⟩
 .rw [e] at hb;exact j7 _ hb
 .rw [e] at hb;unfold frs at hb;rw[A0,hf] at hb;exact hb
theorem au.stkFree (I:au X pins σ H s):∀ b∈frs X.stack,H b=none:=λb hb=>by
 rcases fH.mp (I.stkSub b hb) with e|hb
 .rw [e];exact I.free
 .obtain ⟨_,o,ho,_⟩:=I.ok.funs.mem hb;exact I.base.free b o ho (I.ok.frf b hb) λz=>I.ok.exfs b z hb
theorem au.step {g':Array GenState}{t':Nat}{d':Drawn}{ch:List Addr}(I:au X pins σ H s)(hch:∀ b∈ch,(b∈X.ex\/X.s₀.heap.objs.size<=b)/\b≠X.env.locals/\(∀ x c,X.env.cells.lookup x=some c->c≠b)/\∀ p∈X.pn++pins,p.1≠b)(keep:∀ b o,b≠X.env.locals->b∉X.fs->b∉ch->s.heap.get? b=some o->H b=none->h'.get? b=some o)(slot:∀ b o,b≠X.env.locals->b∈X.fs->b∉ch->s.heap.get? b=some o->H b=none->∃ sl,h'.get? b=some { o with slots:=sl })(free:∀ b o,b∉ch->s.heap.get? b=some o->H b=none->H' b=none)(there:∀ b o,b∉ch->s.heap.get? b=some o->∃ o',h'.get? b=some o')(tups:∀ b xs,H b=some (.tup xs)->H' b=some (.tup xs))(frzs:∀ b o u,H b=some (.frz o u)->H' b=some (.frz o u))(tbls:∀ b ps,H b=some (.tbl ps)->∃ more,H' b=some (.tbl (ps++more)))(ns:∀ m,s.heap.Ns X.env.locals m->h'.Ns X.env.locals m)(hok:dQ X.prog X.w H' h')(hg:AllBare g'):
  au X pins σ H' { s with heap:=h',gens:=g',drawn:=d',toks:=t' }:=by
 have neL:∀ b o,X.s₀.heap.get? b=some o->b≠X.env.locals:=λb o e=>d8 (dZ (bX e) I.ok.above);have neC:∀ b o,X.s₀.heap.get? b=some o->b∉X.ex->b∉ch:=λb o e hx hb=>by
  rcases (hch b hb).1 with z|z
  .exact hx z
  .exact absurd (dZ (bX e) z) (gX _)
 have cellK:∀ x c,X.env.cells.lookup x=some c->∀ v,s.heap.IsCell c v->h'.IsCell c v:=λx c e v ⟨o,ho,hd⟩=>by
  have nch:c∉ch:=λz=>(hch c z).2.2.1 x c e rfl;by_cases hc:c∈X.fs
  .obtain ⟨sl,q⟩:=slot c o (I.cne x c e) hc nch ho (I.freeC x c e);exact⟨_,q,hd⟩
  .exact ⟨o,keep c o (I.cne x c e) hc nch ho (I.freeC x c e),hd⟩
 refine⟨I.ok,I.os,hg,⟨λb o e n hb hx=>?_,λb o e n hb hx=>?_,λb o e n hx=>?_,λb o e hx=>?_,λb xs e=>tups b xs (I.base.tups b xs e),λb o xs e=>frzs b o xs (I.base.frzs b o xs e),λb ps e=>?_⟩,?_,λx c e=>?_,?_,λx c e=>?_,λp hp=>?_,hok,I.len⟩
 .exact keep b o (neL b o e) hb (neC b o e hx) (I.base.keep b o e n hb hx) (I.base.free b o e n hx)
 .obtain ⟨sl,e1⟩:=I.base.slot b o e n hb hx;obtain⟨sl',e2⟩:=slot b _ (neL b o e) hb (neC b o e hx) e1 (I.base.free b o e n hx);exact⟨sl',e2⟩
 .obtain ⟨o',e1⟩:=I.base.there b o e hx;exact free b o' (neC b o e hx) e1 (I.base.free b o e n hx)
 .obtain ⟨o',e1⟩:=I.base.there b o e hx;exact there b o' (neC b o e hx) e1
 .obtain ⟨m1,e1⟩:=I.base.tbls b ps e;obtain⟨m2,e2⟩:=tbls b _ e1;exact⟨m1++m2,by rw[e2,Array.append_assoc]⟩
 .refine ar I.loc λm hn hl=>?_;refine⟨m,ns m hn,λi x v e1 e2 e3=>?_⟩;refine ar (hl i x v e1 e2 e3) λu r l=>?_;refine⟨u,r,?_⟩;rcases l with l|⟨k,c,e,z⟩
  .exact .inl l
  .exact .inr ⟨k,c,e,cellK x c e _ z⟩
 .obtain ⟨v,z⟩:=I.cell x c e;exact⟨v,cellK x c e v z⟩
 .refine ar I.loc λm e920 _=>?_;obtain⟨o,_,_,ho,_⟩:=e920;exact free _ o (λz=>(hch _ z).2.1 rfl) ho I.free
 .obtain ⟨v,o,ho,hd⟩:=I.cell x c e;exact free c o (λz=>(hch c z).2.2.1 x c e rfl) ho (I.freeC x c e)
 .refine cY (I.pin p hp) λe n ne nf d=>?_;have nch:p.1∉ch:=λz=>(hch p.1 z).2.2.2 p hp rfl;exact⟨keep p.1 p.2 ne nf nch e n,free p.1 p.2 nch e n,ne,nf,d⟩
theorem au.un {t':Nat}(I:au X pins σ H s)(u:Un X.fs [] H H' s.heap h')(hok:dQ X.prog X.w H' h'):au X pins σ H' { s with heap:=h',toks:=t' }:=by
 refine ar (id I.loc) λm e921 _=>?_;obtain⟨o,es,ep,ho,r⟩:=e921;obtain⟨sl,hL⟩:=u.any ho I.free (by simp);exact I.step (g':=s.gens) (d':=s.drawn) (ch:=[]) (λ_ z=>nomatch z) (λb o _ hb _ e n=>u.keep b o e n hb (by simp)) (λb o _ hb _ e n=>u.slot b o e n hb (by simp)) (λb o _ e n=>u.free b o e n (by simp)) (λb o _ e=>u.there b o e (by simp)) u.tups u.frzs u.tbls (λm' hm=>by
  refine gK hm λo' es' ep' ho' r'=>?_;clear hm;rw[ho] at ho';cases ho';exact⟨_,es',ep',hL,r'⟩) hok I.bare
theorem au.call {g':Array GenState}{t':Nat}{d':Drawn}{ch:List Addr}(I:au X pins σ H s)(u:Un (frs X.stack) ch H H' s.heap h')(hok:dQ X.prog X.w H' h')(hg:AllBare g')(hch:∀ b∈ch,(b∈X.ex\/X.s₀.heap.objs.size<=b)/\b≠X.env.locals/\(∀ x c,X.env.cells.lookup x=some c->c≠b)/\∀ p∈X.pn++pins,p.1≠b):
  au X pins σ H' { s with heap:=h',gens:=g',drawn:=d',toks:=t' }:=by
 refine ar (id I.loc) λm e922 _=>?_;obtain⟨o,es,ep,ho,r⟩:=e922;obtain⟨sl,hL⟩:=u.any ho I.free λz=>(hch _ z).2.1 rfl;exact I.step (ch:=ch) hch (λb o hL hb hc e n=>u.keep b o e n (λz=>(fH.mp (I.stkSub b z)).elim hL hb) hc) (λb o _ _ hc e n=>u.any e n hc) (λb o hc e n=>u.free b o e n hc) (λb o hc e=>u.there b o e hc) u.tups u.frzs u.tbls (λm' hm=>by
  refine gK hm λo' es' ep' ho' r'=>?_;clear hm;rw[ho] at ho';cases ho';exact⟨_,es',ep',hL,r'⟩) hok hg
theorem au.turned {t':Nat}{it:Addr}(I:au X pins σ H s)(k:∀ b o,b≠it->s.heap.get? b=some o->h'.get? b=some o)(hn:H it=none)(hL:it≠X.env.locals)(h1:it∈X.ex\/X.s₀.heap.objs.size<=it)(h2:∀ x c,X.env.cells.lookup x=some c->c≠it)(h3:∀ p∈X.pn++pins,p.1≠it):au X pins σ H { s with heap:=h',toks:=t' }:=by
 have nit:∀ b u,H b=some u->b≠it:=λb u e z=>by rw[z,hn] at e;cases e
 refine I.step (g':=s.gens) (d':=s.drawn) (ch:=[it]) (λb hb=>?_) (λb o _ _ hc e _=>k b o (λz=>hc (by simp[z])) e) (λb o _ _ hc e _=>⟨o.slots,k b o (λz=>hc (by simp[z])) e⟩) (λ_ _ _ _ n=>n)
  (λb o hc e=>⟨o,k b o (λz=>hc (by simp[z])) e⟩) (λ_ _ e=>e) (λ_ _ _ e=>e) (λb ps e=>⟨#[],by rw[e];simp⟩) (λm hm=>?_) (λb u e=>?_) I.bare
 .have e:b=it:=by simpa using hb
  subst e;exact⟨h1,hL,h2,h3⟩
 .refine gK hm λo es ep ho r=>?_;clear hm;exact c5 o es ep ⟨k _ o (fq hL) ho,r⟩
 .refine (I.hok b u e).stay (λc v hc q=>k c v ?_ q) (λ_ q=>q) (λ_ _ q=>q) λ_ _ _ q=>q;rcases hc with z|z
  .rw [z];exact nit b u e
  .exact nit c _ z
theorem au.tok (I:au X pins σ H s)(t:Nat):au X pins σ H { s with toks:=t }:=I.un (h':=s.heap) (t':=t) Un.refl I.hok
theorem au.kept {t':Nat}(I:au X pins σ H s)(k:∀ b u,s.heap.get? b=some u->h'.get? b=some u):au X pins σ H { s with heap:=h',toks:=t' }:=I.un (Un.kept k) (I.hok.kept k)
theorem au.laid {a:Addr}{o:HO}{t':Nat}(I:au X pins σ H s)(k:∀ b u,s.heap.get? b=some u->h'.get? b=some u)(hp:s.heap.objs.size<=a)(new:bG X.prog X.w (ao H a o) h' a o):
  au X pins σ (ao H a o) { s with heap:=h',toks:=t' }:=I.un (Un.laid k hp (I.hok.fresh hp)) (I.hok.laid k hp new)
theorem au.write {x e:Addr}{o:HO}{t':Nat}(I:au X pins σ H s)(mu:w_ (H x))(he:e=x\/H e=some (.own x))(k:∀ b u,b≠e->s.heap.get? b=some u->h'.get? b=some u)(heo:∃ u,h'.get? e=some u)(new:bG X.prog X.w (ao H x o) h' x o):au X pins σ (ao H x o) { s with heap:=h',toks:=t' }:=I.un (Un.write mu he k heo) (I.hok.write mu he k heo new)
theorem au.pins_of {pins':List (Addr×Obj)}(I:au X pins σ H s)(h:∀ p∈pins',s.heap.get? p.1=some p.2/\H p.1=none/\p.1≠X.env.locals/\p.1∉X.fs/\∀ v,p.2.data≠.cell v):au X pins' σ H s:=
 ⟨I.ok,I.os,I.bare,I.base,I.loc,I.cell,I.free,I.freeC,λp hp=>(cf.mp hp).elim (λz=>I.pin p (qI _ z)) (h p),I.hok,I.len⟩
theorem Ds {N:List Str}(hN:N.Nodup){i j:Nat}{x:Str}(a:N[i]?=some x)(b:N[j]?=some x):i=j:=by
 obtain⟨h1,e1⟩:=cj.mp a;obtain⟨h2,e2⟩:=cj.mp b;exact (List.getElem_inj hN).mp (e1.trans e2.symm)
theorem DV {M:Model}{A:Around}{E:Value->Shared->Prop}{i:Nat}{x:Str}{v:V}{u:Value}{Q:Unit->Shared->Prop}(I:au X pins σ H s)(hN:X.N.Nodup)(hi:X.N[i]?=some x)(hx:xh X.env.scope x)(r:aG v u)(h:∀ s',au X pins (σ.set i (some v)) H s'->(∃ a,Heap.SameBut a s.heap s'.heap/\(a=X.env.locals\/X.env.cells.lookup x=some a))->Q () s')(hf:X.fn x=true\/X.env.scope.names.lookup x=some .local:=by first|exact .inl rfl|exact .inr rfl|assumption):wpAny M A (storeName X.env x u) Q E s:=by
 refine ar (id I.loc) λm hn hl=>?_;have hcls:(X.env.scope.kind == .class || (X.env.scope.kind == .module && X.env.locals != X.env.globals))=false:=by rw[I.ok.kind];rfl
 have hiσ:i<σ.length:=by rw[I.len];exact (cj.mp hi).1
 have cne:=I.cne;have tracked:∀ {a:Addr} {h':Heap},(∃ o,s.heap.get? a=some o/\H a=none)->Heap.SameBut a s.heap h'->dQ X.prog X.w H h':=λ{a h'} ha hs b ob e=>by
  refine ar ha λ_ _ hfree=>?_;clear ha;refine (I.hok b ob e).stay (λc w' hc q=>(hs.2 c ?_).trans q) (λ_ q=>q) (λ_ _ q=>q) λ_ _ _ q=>q;rintro rfl;rcases hc with rfl|hc
  .rw [hfree] at e;cases e
  .rw [hfree] at hc;cases hc
 rcases hx with hk|hk
 .refine wpAny_storeName_local hk hn (λh' hn' hs=>?_) hcls;refine gK (id hn) λoL _ _ hoL _=>?_;refine h _ ⟨I.ok,I.os,I.bare,⟨λb o e n hb hx=>?_,λb o e n hb hx=>?_,I.base.free,λb o e hx=>?_,I.base.tups,I.base.frzs,I.base.tbls⟩,⟨_,hn',λj y v' e1 e2 e3=>?_⟩,λy c e=>?_,I.free,I.freeC,λp hp=>?_,tracked ⟨oL,hoL,I.free⟩ hs,by simpa using I.len⟩ ⟨_,hs,.inl rfl⟩
  .exact (hs.2 b (d8 (dZ (bX e) I.ok.above))).trans (I.base.keep b o e n hb hx)
  .obtain ⟨sl,e1⟩:=I.base.slot b o e n hb hx;exact⟨sl,(hs.2 b (d8 (dZ (bX e) I.ok.above))).trans e1⟩
  .obtain ⟨o',e1⟩:=I.base.there b o e hx;exact⟨o',(hs.2 b (d8 (dZ (bX e) I.ok.above))).trans e1⟩
  .by_cases hj:j=i
   .subst hj;rw[hi] at e1;cases e1;rw[List.getElem?_set_self hiσ] at e2;cases e2;exact⟨u,r,.inl ⟨hk,by simp⟩⟩
   .rw [xB (fq hj)] at e2;refine ar (hl j y v' e1 e2 e3) λu' r' q=>?_;refine⟨u',r',?_⟩;rcases q with ⟨k,e⟩|⟨k,c,e,z⟩
    .refine .inl ⟨k,?_⟩;have:y≠x:=λe=>hj (Ds hN e1 (e ▸ hi));simp[this,e]
    .exact .inr ⟨k,c,e,z.sameBut hs (cne y c e)⟩
  .obtain ⟨w',z⟩:=I.cell y c e;exact⟨w',z.sameBut hs (cne y c e)⟩
  .refine cY (I.pin p hp) λe n ne nf d=>?_;exact⟨(hs.2 p.1 ne).trans e,n,ne,nf,d⟩
 .have hfn:X.fn x=true:=by
   rcases hf with z|z
   .exact z
   .rw [z] at hk;cases hk
  obtain⟨c,hc⟩:=I.ok.has x (.inl hk);obtain⟨w',z⟩:=I.cell x c hc;refine wpAny_storeName_cell I.ok.kind hk hc z (λh' hc' hs=>?_);refine ar (id z) λoc hoc hocd=>?_;refine h { s with heap:=h' } ⟨I.ok,I.os,I.bare,⟨λb o e n hb hx=>?_,λb o e n hb hx=>?_,I.base.free,λb o e hx=>?_,I.base.tups,I.base.frzs,I.base.tbls⟩,⟨m,hn.sameBut hs (fq (cne x c hc)),λj y v' e1 e2 e3=>?_⟩,λy c' e=>?_,I.free,I.freeC,λp hp=>?_,tracked ⟨oc,hoc,I.freeC x c hc⟩ hs,by simpa using I.len⟩ ⟨c,hs,.inr hc⟩
  .exact (hs.2 b (d8 (dZ (bX e) (I.ok.cab x c hfn hc)))).trans (I.base.keep b o e n hb hx)
  .obtain ⟨sl,e1⟩:=I.base.slot b o e n hb hx;exact⟨sl,(hs.2 b (d8 (dZ (bX e) (I.ok.cab x c hfn hc)))).trans e1⟩
  .obtain ⟨o',e1⟩:=I.base.there b o e hx;exact⟨o',(hs.2 b (d8 (dZ (bX e) (I.ok.cab x c hfn hc)))).trans e1⟩
  .by_cases hj:j=i
   .subst hj;rw[hi] at e1;cases e1;rw[List.getElem?_set_self hiσ] at e2;cases e2;exact⟨u,r,.inr ⟨.inl hk,c,hc,hc'⟩⟩
   .rw [xB (fq hj)] at e2;refine ar (hl j y v' e1 e2 e3) λu' r' q=>?_;refine⟨u',r',?_⟩;rcases q with q|⟨k,c',e,z'⟩
    .exact .inl q
    .refine .inr ⟨k,c',e,z'.sameBut hs ?_⟩;rintro rfl;exact hj (Ds hN e1 (I.ok.inj _ _ _ e hc ▸ hi))
  .by_cases hcc:c'=c
   .subst hcc;exact⟨_,hc'⟩
   .obtain ⟨w2,z2⟩:=I.cell y c' e;exact⟨w2,z2.sameBut hs hcc⟩
  .refine cY (I.pin p hp) λe n ne nf d=>?_;refine⟨(hs.2 p.1 ?_).trans e,n,ne,nf,d⟩;intro q;rw[q,hoc] at e;have q':oc=p.2:=fJ e;exact d w' (by rw[<- q'];exact hocd)
theorem wH {M:Model}{A:Around}{E:Value->Shared->Prop}{i:Nat}{x:Str}{v:V}{u:Value}{Q:Unit->Shared->Prop}(I:au X pins σ H s)(hN:X.N.Nodup)(hi:X.N[i]?=some x)(hx:xh X.env.scope x)(r:aG v u)(h:∀ s',au X pins (σ.set i (some v)) H s'->Q () s')(hf:X.fn x=true\/X.env.scope.names.lookup x=some .local:=by first|exact .inl rfl|exact .inr rfl|assumption):wpAny M A (storeName X.env x u) Q E s:=
 DV I hN hi hx r (λs' I' _=>h s' I') hf
theorem au.call' {s':Shared}{ch:List Addr}(I:au X pins σ H s)(ho:s'.os=s.os)(u:Un (frs X.stack) ch H H' s.heap s'.heap)(hok:dQ X.prog X.w H' s'.heap)(hg:AllBare s'.gens)(hch:∀ b∈ch,(b∈X.ex\/X.s₀.heap.objs.size<=b)/\b≠X.env.locals/\(∀ x c,X.env.cells.lookup x=some c->c≠b)/\∀ p∈X.pn++pins,p.1≠b):au X pins σ H' s':=by
 obtain⟨h',g',d',t',o'⟩:=s';have e:o'=s.os:=ho;subst e;exact I.call (g':=g') (t':=t') (d':=d') u hok hg hch
end
abbrev XK:=Value->Option Addr->Hp->Prop
abbrev St:=List (Option V)
abbrev VK:=V->Hp->Prop
abbrev TE:=St->Hp->VK->Prop
abbrev TT:=St->Hp->(Bool->Hp->Prop)->Prop
abbrev TA:=St->Hp->(List V->Hp->Prop)->Prop
structure cJ where
 nx:St->Hp->Prop
 rt:VK
 bk:St->Hp->Prop:=λ_ _=>False
 ct:St->Hp->Prop:=λ_ _=>False
abbrev TS:=cJ->St->Hp->Prop
def EP (X:Cx)(pins:List (Addr×Obj))(σ:St)(Q:VK)(u:Value)(s':Shared):Prop:=∃ v H',au X pins σ H' s'/\aG v u/\Q v H'
def TP (X:Cx)(pins:List (Addr×Obj))(σ:St)(Q:Bool->Hp->Prop)(b:Bool)(s':Shared):Prop:=∃ H',au X pins σ H' s'/\Q b H'
def AP (X:Cx)(pins:List (Addr×Obj))(σ:St)(Q:List V->Hp->Prop)(us:List Value)(s':Shared):Prop:=∃ vs H',au X pins σ H' s'/\av vs us/\Q vs H'
def SP (X:Cx)(pins:List (Addr×Obj))(D:cJ)(f:Flow)(s':Shared):Prop:=
 match f with
 | .next=>∃ σ' H',au X pins σ' H' s'/\D.nx σ' H'
 | .brk=>∃ σ' H',au X pins σ' H' s'/\D.bk σ' H'
 | .cont=>∃ σ' H',au X pins σ' H' s'/\D.ct σ' H'
 | .ret u=>∃ v σ' H',au X pins σ' H' s'/\aG v u/\D.rt v H'
def PE (X:Cx)(e:Expr)(t:TE):Prop:=
 ∀ (pins:List (Addr×Obj)) (s:Shared) (σ:St) (H:Hp) (Q:VK),au X pins σ H s->t σ H Q->wpAny (model X.prog X.w) X.A (eval e X.env) (EP X pins σ Q) X.xe s
def PT (X:Cx)(e:Expr)(t:TT):Prop:=
 ∀ (pins:List (Addr×Obj)) (s:Shared) (σ:St) (H:Hp) (Q:Bool->Hp->Prop),au X pins σ H s->t σ H Q->wpAny (model X.prog X.w) X.A (isTrue e X.env (eval e X.env)) (TP X pins σ Q) X.xe s
def PW (X:Cx)(e:Expr)(t:TT):Prop:=
 ∀ (whole:Sem Value) (pins:List (Addr×Obj)) (s:Shared) (σ:St) (H:Hp) (Q:Bool->Hp->Prop),au X pins σ H s->t σ H Q->wpAny (model X.prog X.w) X.A (isTrue e X.env whole) (TP X pins σ Q) X.xe s
theorem PW.pt {X:Cx}{e:Expr}{t:TT}(h:PW X e t):PT X e t:=h _
def PA (X:Cx)(es:List Expr)(t:TA):Prop:=
 ∀ (pos:Pos) (pins:List (Addr×Obj)) (s:Shared) (σ:St) (H:Hp) (Q:List V->Hp->Prop),au X pins σ H s->t σ H Q->wpAny (model X.prog X.w) X.A (spliced (backTo pos (starEach es X.env))) (AP X pins σ Q) X.xe s
def PS (X:Cx)(st:Stmt)(t:TS):Prop:=
 ∀ (pins:List (Addr×Obj)) (s:Shared) (σ:St) (H:Hp) (D:cJ),au X pins σ H s->t D σ H->wpAny (model X.prog X.w) X.A (exec st X.env) (SP X pins D) X.xe s
def gT (X:Cx)(st:List Stmt)(t:TS):Prop:=
 ∀ (pins:List (Addr×Obj)) (s:Shared) (σ:St) (H:Hp) (D:cJ),au X pins σ H s->t D σ H->wpAny (model X.prog X.w) X.A (execs st X.env) (SP X pins D) X.xe s
theorem aN {α:Type}{t:Sem α}{Q Q':α->Shared->Prop}{M:Model}{A:Around}{E:Value->Shared->Prop}{s:Shared}(h:wpAny M A t Q E s)(hQ:∀ a s,Q a s->Q' a s):wpAny M A t Q' E s:=iQ h hQ λ_ _ x=>x
section
variable {X:Cx}
theorem bin {a b:Expr}{ta tb:TE}(ha:PE X a ta)(hb:PE X b tb){pins:List (Addr×Obj)}{s:Shared}{σ:St}{H:Hp}{R:V->V->Hp->Prop}(I:au X pins σ H s)(h:ta σ H λx H1=>tb σ H1 λy H2=>R x y H2){α:Type}{Q:α->Shared->Prop}{f:Value->Value->Sem α}(hf:∀ v u s2 x y H2,au X pins σ H2 s2->aG x v->aG y u->R x y H2->wpAny (model X.prog X.w) X.A (f v u) Q X.xe s2):
  wpAny (model X.prog X.w) X.A (eval a X.env) (λv s₁=>wpAny (model X.prog X.w) X.A (eval b X.env) (λu s₂=>wpAny (model X.prog X.w) X.A (f v u) Q X.xe s₂) X.xe s₁) X.xe s:=by
 refine aN (ha pins s σ H _ I h) λv s1 ⟨x,H1,I1,r1,q1⟩=>?_;refine aN (hb pins s1 σ H1 _ I1 q1) λu s2 ⟨y,H2,I2,r2,q2⟩=>?_;exact hf v u s2 x y H2 I2 r1 r2 q2
def dS (i:Nat):TE:=λσ H Q=>∃ v,σ[i]?=some (some v)/\Q v H
def tC (v:V):TE:=λ_ H Q=>Q v H
theorem oK {i:Nat}{x:Str}{pos:Pos}(hN:X.N[i]?=some x)(hv:wZ X.env.scope x)(hd:(x == ("__debug__" : Str))=false:=by decide)(hcd:(x == ("__classdict__" : Str))=false:=by decide):PE X (.Name x pos) (dS i):=by
 intro pins s σ H Q I h;obtain⟨v,e,h⟩:=h;obtain⟨m,hn,hl⟩:=I.loc;obtain⟨u,r,l⟩:=hl i x v hN e hv;have fin:EP X pins σ Q u s:=⟨v,H,I,r,h⟩
 rcases l with ⟨hk,hm⟩|⟨hk,c,hc,hcell⟩
 .exact wpAny_Name (wpAny_loadName_local I.ok.kind hk hn hm fin) hd
 .rcases hk with hk|hk
  .exact wpAny_Name (wpAny_loadName_cell I.ok.kind hk hc hcell fin) hd
  .exact wpAny_Name (wpAny_loadName_free I.ok.kind hk hc hcell fin hcd) hd
theorem aq {i j pos}:PE X (.Constant (.int i) j pos) (tC (.int i)):=λ_ _ _ H _ I h=>wpAny_Constant_int ⟨.int i,H,I.tok _,⟨_,rfl⟩,h⟩
theorem eJ {b j pos}:PE X (.Constant (.bool b) j pos) (tC (.bl b)):=λ_ _ _ H _ I h=>Constant_bool ⟨.bl b,H,I,rfl,h⟩
theorem oM {j pos}:PE X (.Constant .none j pos) (tC .non):=λ_ _ _ H _ I h=>Constant_none ⟨.non,H,I,rfl,h⟩
theorem nG {x j pos}:PE X (.Constant (.str x) j pos) (tC (.str x)):=λ_ _ _ H _ I h=>Calls.Constant_str ⟨.str x,H,I.tok _,⟨_,rfl⟩,h⟩
def Gl (X:Cx)(x:Str):Prop:=X.env.kindOf x=some .globalImplicit
theorem yR {E:Value->Shared->Prop}{pins:List (Addr×Obj)}{s:Shared}{σ:St}{H:Hp}{x:Str}{u:Value}{pos:Pos}{Q:Value->Shared->Prop}(I:au X pins σ H s)(hg:Gl X x)(hm:X.mg x=some u)(h:Q u s)(hd:(x == ("__debug__" : Str))=false:=by decide):wpAny (model X.prog X.w) X.A (eval (.Name x pos) X.env) Q E s:=
 Calls.Name_function_global I.ok.kind hg (Calls.loadGlobal_global (by rw[I.ok.glob];exact I.mod.glob.keeps I.bk) hm h) hd
theorem nE {E:Value->Shared->Prop}{pins:List (Addr×Obj)}{s:Shared}{σ:St}{H:Hp}{x:Str}{u:Value}{pos:Pos}{Q:Value->Shared->Prop}(I:au X pins σ H s)(hg:Gl X x)(hm:X.mg x=none)(hv:bootBuiltins x=some u)(h:Q u s)(hn:x ≠ "__name__" := by decide)(hd:(x == ("__debug__" : Str))=false:=by decide):wpAny (model X.prog X.w) X.A (eval (.Name x pos) X.env) Q E s:=by
 refine ar I.mod.blt λmb h1 h2=>?_;exact Calls.Name_function_global I.ok.kind hg (Calls.loadGlobal_builtin (by rw[I.ok.glob];exact I.mod.glob.keeps I.bk) hm (by rw[I.ok.blt];exact h1.keeps I.bk) ((h2 x hn).trans hv) h) hd
theorem kM {x:Str}{v:V}{u:Value}{pos:Pos}(hg:Gl X x)(hm:X.mg x=some u)(r:aG v u)(hd:(x == ("__debug__" : Str))=false:=by decide):PE X (.Name x pos) (tC v):=
 λ_ _ _ H _ I h=>yR I hg hm ⟨v,H,I,r,h⟩ hd
theorem kP {x:Str}{v:V}{u:Value}{pos:Pos}(hg:Gl X x)(hm:X.mg x=none)(hv:bootBuiltins x=some u)(r:aG v u)(hn:x ≠ "__name__" := by decide)(hd:(x == ("__debug__" : Str))=false:=by decide):PE X (.Name x pos) (tC v):=
 λ_ _ _ H _ I h=>nE I hg hm hv ⟨v,H,I,r,h⟩ hn hd
variable {a b:Expr}{ta tb:TE}{pos:Pos}
def PC (X:Cx)(op:CmpOp)(a b:Expr)(t:TE):Prop:=
 ∀ (pins:List (Addr×Obj)) (s:Shared) (σ:St) (H:Hp) (Q:VK),au X pins σ H s->t σ H Q->
  wpAny (model X.prog X.w) X.A (eval a X.env) (λv s₁=>wpAny (model X.prog X.w) X.A (eval b X.env) (λu s₂=>wpAny (model X.prog X.w) X.A (compareOp op v u) (EP X pins σ Q) X.xe s₂) X.xe s₁) X.xe s
theorem FF (b:Expr){op:CmpOp}(h:op≠.In)(h2:op≠.NotIn):behindInMarks op b=false:=by
 have e1:(op == CmpOp.In)=false:=by cases op <;> first|rfl|exact absurd rfl h
 have e2:(op == CmpOp.NotIn)=false:=by cases op <;> first|rfl|exact absurd rfl h2
 cases b <;> simp[behindInMarks,e1,e2]
def tB (t:TE):TT:=λσ H Q=>t σ H λx H1=>∃ c,x=.bl c/\Q c H1
theorem xK {op:CmpOp}{t:TE}(h:PC X op a b t)(h1:behindInMarks op b=false:=by first|exact FF _ ⇑0 ⇑0|rfl):PT X (.Compare a [op] [b] pos) (tB t):=by
 intro pins s σ H Q I hw;refine A7 (aN (h pins s σ H _ I hw) λv s1 h1=>aN h1 λu s2 h2=>aN h2 λc s3 ⟨x,H1,I1,r1,q1⟩=>?_) h1;refine ar q1 λd e923 q=>?_;clear q1;obtain rfl:=e923;cases r1;exact iV ⟨H1,I1,q⟩
theorem eN {e:Expr}{t:TE}(h:PE X e t)(he:∀ whole,isTrue e X.env whole=(do let v <- whole;standAt e.pos;holding [v] (truthy v)):=by intro _;rfl):PT X e (tB t):=by
 intro pins s σ H Q I hw;refine isTrue_plain (aN (h pins s σ H _ I hw) λv s1 ⟨x,H1,I1,r1,q1⟩=>?_) (he _);refine ar q1 λd e924 q=>?_;clear q1;obtain rfl:=e924;cases r1;exact iV ⟨H1,I1,q⟩
variable {tA tB':TT}{rest:List Expr}
def tAnd (t u:TT):TT:=λσ H Q=>t σ H λc H1=>if c=true then u σ H1 Q else Q false H1
def tOr (t u:TT):TT:=λσ H Q=>t σ H λc H1=>if c=true then Q true H1 else u σ H1 Q
def tNot (t:TT):TT:=λσ H Q=>t σ H λc H1=>Q (!c) H1
theorem qp (ha:PT X a tA):PW X (.BoolOp .And [a] pos) tA:=by
 intro wh pins s σ H Q I h;refine isTrue_and (aN (ha pins s σ H Q I h) λc s1 e=>?_);cases c with
 | true=>exact isTrue_and_nil e
 | false=>exact e
theorem gm (ha:PT X a tA):PW X (.BoolOp .Or [a] pos) tA:=by
 intro wh pins s σ H Q I h;refine isTrue_or (aN (ha pins s σ H Q I h) λc s1 e=>?_);cases c with
 | false=>exact isTrue_or_nil e
 | true=>exact e
theorem qk (ha:PT X a tA)(hb:PW X (.BoolOp .And (b::rest) pos) tB'):PW X (.BoolOp .And (a::b::rest) pos) (tAnd tA tB'):=by
 intro wh pins s σ H Q I h;refine isTrue_and (aN (ha pins s σ H _ I h) λc s1 ⟨H1,I1,q1⟩=>?_);cases c with
 | true=>exact hb wh pins s1 σ H1 Q I1 q1
 | false=>exact⟨H1,I1,q1⟩
theorem fm (ha:PT X a tA)(hb:PW X (.BoolOp .Or (b::rest) pos) tB'):PW X (.BoolOp .Or (a::b::rest) pos) (tOr tA tB'):=by
 intro wh pins s σ H Q I h;refine isTrue_or (aN (ha pins s σ H _ I h) λc s1 ⟨H1,I1,q1⟩=>?_);cases c with
 | true=>exact⟨H1,I1,q1⟩
 | false=>exact hb wh pins s1 σ H1 Q I1 q1
theorem dU (ha:PT X a tA):PT X (.UnaryOp .Not a pos) (tNot tA):=by
 intro pins s σ H Q I h;exact isTrue_not (ha pins s σ H (λc H1=>Q (!c) H1) I h)
def tAndV (ta tb:TE):TE:=λσ H Q=>ta σ H λx H1=>∃ c,x=.bl c/\if c=true then tb σ H1 Q else Q (.bl false) H1
def tOrV (ta tb:TE):TE:=λσ H Q=>ta σ H λx H1=>∃ c,x=.bl c/\if c=true then Q (.bl true) H1 else tb σ H1 Q
def tNotV (ta:TE):TE:=λσ H Q=>ta σ H λx H1=>∃ c,x=.bl c/\Q (.bl (!c)) H1
theorem jQ {op}{t:TE}(h:PE X a t):PE X (.BoolOp op [a] pos) t:=λpins s σ H Q I hw=>BoolOp_one (h pins s σ H Q I hw)
theorem jP (ha:PE X a ta)(hb:PE X (.BoolOp .And (b::rest) pos) tb):PE X (.BoolOp .And (a::b::rest) pos) (tAndV ta tb):=by
 intro pins s σ H Q I h;refine BoolOp_and (aN (ha pins s σ H _ I h) λv s1 ⟨x,H1,I1,r1,q1⟩=>?_);obtain⟨c,rfl,q1⟩:=q1;cases r1;refine iV ?_;cases c with
 | true=>exact hb pins s1 σ H1 Q I1 q1
 | false=>exact⟨.bl false,H1,I1,rfl,q1⟩
theorem sN (ha:PE X a ta)(hb:PE X (.BoolOp .Or (b::rest) pos) tb):PE X (.BoolOp .Or (a::b::rest) pos) (tOrV ta tb):=by
 intro pins s σ H Q I h;refine BoolOp_or (aN (ha pins s σ H _ I h) λv s1 ⟨x,H1,I1,r1,q1⟩=>?_);obtain⟨c,rfl,q1⟩:=q1;cases r1;refine iV ?_;cases c with
 | false=>exact hb pins s1 σ H1 Q I1 q1
 | true=>exact⟨.bl true,H1,I1,rfl,q1⟩
theorem BG (ha:PE X a ta):PE X (.UnaryOp .Not a pos) (tNotV ta):=by
 intro pins s σ H Q I h;refine UnaryOp_ (aN (ha pins s σ H _ I h) λv s1 ⟨x,H1,I1,r1,q1⟩=>?_);obtain⟨c,rfl,q1⟩:=q1;cases r1;exact not_of (iV ⟨.bl (!c),H1,I1,rfl,q1⟩)
def tIf (t:TT)(ta tb:TE):TE:=λσ H Q=>t σ H λc H1=>if c=true then ta σ H1 Q else tb σ H1 Q
end
def aj (K:Frag)(H:Hp)(a:Addr)(xs:List V):Prop:=
 Rd H a (.lst xs) \/
  ∃ (o:Obj) (its:Array Value) (n:Nat),K.lookup a=some o/\o.cls=.type "list" /\ o.dict=none/\o.data=.seq its n/\its.size<=sizeLine/\av xs its.toList
def aB (K:Frag)(H:Hp)(a:Addr)(xs:List V):Prop:=
 Rd H a (.tup xs) \/
  ∃ (o:Obj) (its:Array Value) (n:Nat),K.lookup a=some o/\o.cls=.type "tuple" /\ o.data=.seq its n/\its.size<=sizeLine/\av xs its.toList
def absV:Value->Option V
 | .none=>some .non
 | .bool b=>some (.bl b)
 | .int i _=>some (.int i)
 | .str x _=>some (.str x)
 | .bytes b _=>some (.byt b)
 | .float b _=>some (.flt b)
 | .ref a=>some (.ref a)
 | .type n=>some (.ty n)
 | _=>none
theorem aG.abs {x:V}{u:Value}(r:aG x u):absV u=some x:=by
 cases x with
 | non=>cases r;rfl
 | bl _=>cases r;rfl
 | int _=>obtain⟨t,rfl⟩:=r;rfl
 | str _=>obtain⟨t,rfl⟩:=r;rfl
 | byt _=>obtain⟨t,rfl⟩:=r;rfl
 | flt _=>obtain⟨t,rfl⟩:=r;rfl
 | ref _=>cases r;rfl
 | ty _=>cases r;rfl
theorem aG.inj {x y:V}{u:Value}(r:aG x u)(q:aG y u):x=y:=fJ (r.abs.symm.trans q.abs)
theorem av.inj:∀ {xs ys:List V} {us:List Value},av xs us->av ys us->xs=ys
 | _,_,_,.nil,.nil=>rfl
 | _,_,_,.cons r t,.cons r' t'=>by rw[r.inj r',av.inj t t']
section
variable {X:Cx}{pins:List (Addr×Obj)}{σ:St}{H:Hp}{s:Shared}{a:Addr}{xs ys:List V}
theorem aj.of {K:Frag}(h:H a=some (.lst xs)):aj K H a xs:=.inl (.inl h)
theorem aB.of {K:Frag}(h:H a=some (.tup xs)):aB K H a xs:=.inl (.inl h)
theorem au.list (I:au X pins σ H s)(h:aj X.K H a xs):∃ its:List Value,av xs its/\PlainL s.heap a its.toArray/\xs.length<=sizeLine:=by
 rcases h with h|⟨o,its,n,hk,hc,hd,hs,hz,r⟩
 .obtain ⟨z,its,n,r,e⟩:=h.ok I.hok;exact⟨its,r,⟨_,n,e,rfl,rfl,rfl⟩,z⟩
 .refine ⟨its.toList,r,⟨o,n,I.kIn a o hk,hc,hd,by simpa using hs⟩,?_⟩;have e:=r.length;simp only[Array.length_toList] at e;omega
theorem au.tuple (I:au X pins σ H s)(h:aB X.K H a xs):∃ its:List Value,av xs its/\IsTup s.heap a its.toArray/\xs.length<=sizeLine:=by
 rcases h with h|⟨o,its,n,hk,hc,hs,hz,r⟩
 .obtain ⟨z,its,r,p⟩:=h.ok I.hok;exact⟨its,r,p,z⟩
 .refine ⟨its.toList,r,⟨o,I.kIn a o hk,hc,n,by simpa using hs⟩,?_⟩;have e:=r.length;simp only[Array.length_toList] at e;omega
theorem au.list_inj (I:au X pins σ H s)(h:aj X.K H a xs)(h':aj X.K H a ys):xs=ys:=by
 refine aQ (I.list h) λits r e925 _=>?_;obtain⟨o,n,e,_,_,d⟩:=e925;refine aQ (I.list h') λits' r' e926 _=>?_;obtain⟨o',n',e',_,_,d'⟩:=e926;rw[e] at e';cases e';rw[d] at d'
 injection d' with d1 _
 have:its=its':=by simpa using ig Array.toList d1
 subst this;exact r.inj r'
theorem au.tuple_inj (I:au X pins σ H s)(h:aB X.K H a xs)(h':aB X.K H a ys):xs=ys:=by
 refine aQ (I.tuple h) λits r e927 _=>?_;obtain⟨o,e,_,n,d⟩:=e927;refine aQ (I.tuple h') λits' r' e928 _=>?_;obtain⟨o',e',_,n',d'⟩:=e928;rw[e] at e';cases e';rw[d] at d'
 injection d' with d1 _
 have:its=its':=by simpa using ig Array.toList d1
 subst this;exact r.inj r'
end
abbrev Cx.wish (X:Cx)(E:Value->Shared->Prop):Cx:={ X with xe:=E }
abbrev Cx.nox (X:Cx):Cx:=X.wish λ_ _=>False
theorem Cx.Ok.wish {X:Cx}(ok:X.Ok)(E:Value->Shared->Prop):(X.wish E).Ok:=
 ⟨ok.mod,ok.kind,ok.glob,ok.blt,ok.above,ok.inj,ok.has,ok.cab,ok.hd,ok.frames,ok.stk,ok.exf,ok.bs,ok.bsz,ok.noex,ok.exfs,ok.funs,ok.frf,ok.top⟩
theorem Cx.Ok.unwish {X:Cx}{E:Value->Shared->Prop}(ok:(X.wish E).Ok):X.Ok:=
 ⟨ok.mod,ok.kind,ok.glob,ok.blt,ok.above,ok.inj,ok.has,ok.cab,ok.hd,ok.frames,ok.stk,ok.exf,ok.bs,ok.bsz,ok.noex,ok.exfs,ok.funs,ok.frf,ok.top⟩
section
variable {X:Cx}{pins:List (Addr×Obj)}{σ:St}{H:Hp}{s:Shared}{E:Value->Shared->Prop}
theorem au.wish (I:au X pins σ H s)(E:Value->Shared->Prop):au (X.wish E) pins σ H s:=⟨I.ok.wish E,I.os,I.bare,I.base,I.loc,I.cell,I.free,I.freeC,I.pin,I.hok,I.len⟩
theorem au.unwish (I:au (X.wish E) pins σ H s):au X pins σ H s:=⟨I.ok.unwish,I.os,I.bare,I.base,I.loc,I.cell,I.free,I.freeC,I.pin,I.hok,I.len⟩
theorem SP.unwish {D:cJ}{f:Flow}{s':Shared}(h:SP (X.wish E) pins D f s'):SP X pins D f s':=by
 cases f with
 | next=>obtain⟨σ',H',I,q⟩:=h;exact⟨σ',H',I.unwish,q⟩
 | brk=>obtain⟨σ',H',I,q⟩:=h;exact⟨σ',H',I.unwish,q⟩
 | cont=>obtain⟨σ',H',I,q⟩:=h;exact⟨σ',H',I.unwish,q⟩
 | ret u=>obtain⟨v,σ',H',I,r,q⟩:=h;exact⟨v,σ',H',I.unwish,r,q⟩
theorem gT.nox {st:List Stmt}{t:TS}(h:gT X.nox st t):gT X st t:=λpins s σ H D I hw=>
 iQ (h pins s σ H D (I.wish _) hw) (λ_ _ q=>q.unwish) λ_ _ z=>False.elim z
end
section
variable {X:Cx}{st:Stmt}{rest:List Stmt}{t u:TS}{e:Expr}{te:TE}{pos:Pos}
def tNext:TS:=λD σ H=>D.nx σ H
def p_ (t u:TS):TS:=λD σ H=>t { D with nx:=u D } σ H
theorem bJ:gT X [] tNext:=λ_ _ σ H _ I h=>xo ⟨σ,H,I,h⟩
theorem FZ (h1:PS X st t)(h2:gT X rest u):gT X (st::rest) (p_ t u):=by
 intro pins s σ H D I h;refine wpAny_execs_cons (aN (h1 pins s σ H { D with nx:=u D } I h) λf s1 q=>?_);cases f with
 | next=>
  obtain⟨σ',H',I',q⟩:=q;exact h2 pins s1 σ' H' D I' q
 | ret v=>exact q
 | brk=>exact q
 | cont=>exact q
theorem bE (h1:PS X st t):gT X [st] t:=by
 intro pins s σ H D I h;refine wpAny_execs_cons (aN (h1 pins s σ H D I h) λf s1 q=>?_);cases f with
 | next=>exact xo q
 | ret v=>exact q
 | brk=>exact q
 | cont=>exact q
def tCont:TS:=λD σ H=>D.ct σ H
theorem HP:PS X (.Continue pos) tCont:=λ_ _ σ H _ I h=>wpAny_Continue ⟨σ,H,I,h⟩
theorem au.quiet {pins:List (Addr×Obj)}{σ:St}{H:Hp}{s:Shared}(I:au X pins σ H s):interactive X.env=false:=by simp[interactive,I.ok.kind]
def tDrop (te:TE):TS:=λD σ H=>te σ H λ_ H1=>D.nx σ H1
theorem gp (he:PE X e te)(hs:swapsWith e none pos.line X.env=pure false:=by rfl):PS X (.Expr e pos) (tDrop te):=by
 intro pins s σ H D I h;exact wpAny_Expr_any (aN (he pins s σ H _ I h) λv s1 ⟨x,H1,I1,r1,q1⟩=>⟨σ,H1,I1,q1⟩) I.quiet hs
def tRet (te:TE):TS:=λD σ H=>te σ H D.rt
theorem oH (he:PE X e te):PS X (.Return (some e) pos) (tRet te):=by
 intro pins s σ H D I h;exact wpAny_Return_some (aN (he pins s σ H _ I h) λv s1 ⟨x,H1,I1,r1,q1⟩=>⟨x,σ,H1,I1,r1,q1⟩)
def tRetN:TS:=λD _ H=>D.rt .non H
def tIfS (c:TT)(t u:TS):TS:=λD σ H=>c σ H λb H1=>if b=true then t D σ H1 else u D σ H1
theorem bI {c:Expr}{a b:List Stmt}{tc:TT}(hc:PT X c tc)(ha:gT X a t)(hb:gT X b u):PS X (.If c a b pos) (tIfS tc t u):=by
 intro pins s σ H D I h;refine wpAny_If (aN (hc pins s σ H _ I h) λd s1 ⟨H1,I1,q1⟩=>?_);cases d with
 | true=>exact ha pins s1 σ H1 D I1 q1
 | false=>exact hb pins s1 σ H1 D I1 q1
def tNever:TS:=λ_ _ _=>False
theorem jW:PS X st tNever:=λ_ _ _ _ _ _ h=>h.elim
end
abbrev TG:=V->St->Hp->(St->Hp->Prop)->Prop
abbrev mH:=List V->St->Hp->(St->Hp->Prop)->Prop
def PG (X:Cx)(target:Expr)(t:TG):Prop:=
 ∀ (pins:List (Addr×Obj)) (s:Shared) (σ:St) (H:Hp) (v:V) (u:Value) (Q:St->Hp->Prop),au X pins σ H s->aG v u->t v σ H Q->
  wpAny (model X.prog X.w) X.A (assign target X.env u) (λ_ s'=>∃ σ' H',au X pins σ' H' s'/\Q σ' H') X.xe s
def uM (X:Cx)(ts:List Expr)(t:mH):Prop:=
 ∀ (pins:List (Addr×Obj)) (s:Shared) (σ:St) (H:Hp) (vs:List V) (us:List Value) (Q:St->Hp->Prop),au X pins σ H s->av vs us->t vs σ H Q->
  wpAny (model X.prog X.w) X.A (assignInOrder ((assignEach ts X.env).map (·.2)) us) (λ_ s'=>∃ σ' H',au X pins σ' H' s'/\Q σ' H') X.xe s
abbrev mG:=V->V->V->Hp->(Hp->Prop)->Prop
def uL (X:Cx)(t:mG):Prop:=
 ∀ (pins:List (Addr×Obj)) (s:Shared) (σ:St) (H:Hp) (o i v:V) (ov iv u:Value) (Q:Hp->Prop),au X pins σ H s->aG o ov->aG i iv->aG v u->t o i v H Q->
  wpAny (model X.prog X.w) X.A (setItem ov iv u) (λ_ s'=>∃ H',au X pins σ H' s'/\Q H') X.xe s
abbrev AN:=V->V->Hp->VK->Prop
section
variable {X:Cx}{pos:Pos}
def cg (i:Nat):TG:=λv σ H Q=>Q (σ.set i (some v)) H
theorem qA {i:Nat}{x:Str}(hN:X.N.Nodup)(hi:X.N[i]?=some x)(hx:xh X.env.scope x)(hf:X.fn x=true\/X.env.scope.names.lookup x=some .local:=by first|exact .inl rfl|exact .inr rfl|assumption):PG X (.Name x pos) (cg i):=by
 intro pins s σ H v u Q I r h;exact wpAny_assign_Name (wH I hN hi hx r (λs' I'=>⟨_,H,I',h⟩) hf)
def mi:mH:=λvs σ H Q=>vs=[]/\Q σ H
def iG (t:TG)(u:mH):mH:=λvs σ H Q=>∃ v r,vs=v::r/\t v σ H λσ' H'=>u r σ' H' Q
theorem cT:uM X [] mi:=by
 intro pins s σ H vs us Q I r h;obtain⟨e,h⟩:=h;subst e;cases r;exact assignInOrder_nil ⟨σ,H,I,h⟩
theorem H_ {e:Expr}{es:List Expr}{t:TG}{u:mH}(h1:PG X e t)(h2:uM X es u)(hs:(assignEach (e::es) X.env).map (·.2)=assign e X.env::(assignEach es X.env).map (·.2):=by rfl):uM X (e::es) (iG t u):=by
 intro pins s σ H vs us Q I r h;obtain⟨v,vr,e1,h⟩:=h;subst e1;cases r with
 | cons r rr=>
  rw[hs];refine assignInOrder_cons (aN (h1 pins s σ H _ _ _ I r h) λ_ s1 ⟨σ1,H1,I1,q1⟩=>?_);exact h2 pins s1 σ1 H1 _ _ Q I1 rr q1
def ju (K:Frag)(n:Nat)(t:mH):TG:=λv σ H Q=>∃ a xs,v=.ref a/\aB K H a xs/\xs.length=n/\t xs σ H Q
theorem dJ {es:List Expr}{k:Nat}{t:mH}{n:Nat}(hc:X.calm=true)(h:uM X es t)(hn:(assignEach es X.env).length=n:=by rfl)(hst:(assignEach es X.env).findIdx? (·.1)=none:=by rfl):PG X (.Tuple es k pos) (ju X.K n t):=by
 intro pins s σ H v u Q I r hw;obtain⟨a,xs,e1,hq,hl,hw⟩:=hw;subst e1;cases r;obtain⟨its,rv,ht,hz⟩:=I.tuple hq;refine assign_Tuple_tuple (I.ok.hd hc) ht (by simp[hn,<- hl,rv.length]) hst λh' hx=>?_;have I1:au X pins σ H { s with heap:=h' }:=I.kept (t':=s.toks) λb o e=>hx b o (d8 (bX e)) e;exact h pins _ σ H xs _ Q I1 (by simpa using rv) hw
def gSub (to ti:TE)(t:mG):TG:=λv σ H Q=>to σ H λo H1=>ti σ H1 λi H2=>t o i v H2 λH3=>Q σ H3
theorem iJ {o i:Expr}{to ti:TE}{t:mG}(ho:PE X o to)(hi:PE X i ti)(hs:uL X t)(ha:∀ v,assign (.Subscript o i pos) X.env v=(do
   let ov <- holding [v] (eval o X.env)
   let iv <- holding [v,ov] (eval i X.env)
   standAt pos
   holding [v,ov,iv] (setItem ov iv v)
   release [v,ov,iv] []):=by intro _;rfl):PG X (.Subscript o i pos) (gSub to ti t):=by
 intro pins s σ H v u Q I r h;rw[ha];refine bN (qC (aN (ho pins s σ H _ I h) λov s1 ⟨x,H1,I1,r1,q1⟩=>?_));refine bN (qC (aN (hi pins s1 σ H1 _ I1 q1) λiv s2 ⟨y,H2,I2,r2,q2⟩=>?_));refine bN (xk (bN (qC (aN (hs pins s2 σ H2 x y v ov iv u _ I2 r1 r2 r q2) λ_ s3 ⟨H3,I3,q3⟩=>?_))));exact wpAny_release ⟨σ,H3,I3,q3⟩
def tAsg (te:TE)(g:TG):TS:=λD σ H=>te σ H λx H1=>g x σ H1 D.nx
theorem dX {tg e:Expr}{te:TE}{g:TG}(he:PE X e te)(hg:PG X tg g)(hs:swapsWithSole [tg] e pos.line X.env=pure false:=by rfl)(hw:swappedStores [tg] e X.env=pure none:=by rfl)(h1:(assignEach [tg] X.env).map (·.2)=[assign tg X.env]:=by rfl):PS X (.Assign [tg] e pos) (tAsg te g):=by
 intro pins s σ H D I h;refine wpAny_Assign_stores (aN (he pins s σ H _ I h) λv s1 ⟨x,H1,I1,r1,q1⟩=>?_) hs hw;rw[h1];exact aN (hg pins s1 σ H1 x v _ I1 r1 q1) λ_ s2 q=>q
theorem hV {i:Nat}{x:Str}{e:Expr}{te:TE}{pos':Pos}(hN:X.N.Nodup)(hi:X.N[i]?=some x)(hx:xh X.env.scope x)(he:PE X e te)(hs:swapsWith e (some (.Name x pos')) pos.line X.env=pure false:=by rfl)(hf:X.fn x=true\/X.env.scope.names.lookup x=some .local:=by first|exact .inl rfl|exact .inr rfl|assumption):
  PS X (.Assign [.Name x pos'] e pos) (tAsg te (cg i)):=by
 intro pins s σ H D I h;refine wpAny_Assign_Name (aN (he pins s σ H _ I h) λv s1 ⟨y,H1,I1,r1,q1⟩=>?_) hs;exact wH I1 hN hi hx r1 (λs2 I2=>⟨_,H1,I2,q1⟩) hf
def tPar (i j:Nat)(ta:TA):TS:=λD σ H=>ta σ H λvs H1=>∃ v w,vs=[v,w]/\D.nx ((σ.set i (some v)).set j (some w)) H1
theorem rh {i j:Nat}{x y:Str}{a b:Expr}{ta:TA}{px py pt:Pos}{kt k2 pt2}(hc:X.calm=true)(hN:X.N.Nodup)(hi:X.N[i]?=some x)(hj:X.N[j]?=some y)(hij:i≠j)(hx:X.env.scope.names.lookup x=some .local)(hy:X.env.scope.names.lookup y=some .local)(ha:PA X [a,b] ta)(hw:swappedStores [.Tuple [.Name x px,.Name y py] kt pt] (.Tuple [a,b] k2 pt2) X.env=pure (some [x,y]))(hs:swapsWithSole [.Tuple [.Name x px,.Name y py] kt pt] (.Tuple [a,b] k2 pt2) pos.line X.env=pure false:=by rfl):
  PS X (.Assign [.Tuple [.Name x px,.Name y py] kt pt] (.Tuple [a,b] k2 pt2) pos) (tPar i j ta):=by
 intro pins s σ H D I h;rw[exec_Assign_arm];refine bN (xk ?_);rw[hs];refine bN (df ?_);rw[if_neg ⇑0];refine bN (Tuple_ (aN (ha _ pins s σ H _ I h) λus s1 ⟨vs,H1,I1,r1,q1⟩=>?_));obtain⟨v,w,e1,q1⟩:=q1;subst e1;obtain⟨u1,u2,rfl,rv,rw'⟩:∃ u1 u2,us=[u1,u2]/\aG v u1/\aG w u2:=by
  cases r1 with
  | cons p q=>
   cases q with
   | cons p' q'=>
    cases q';exact⟨_,_,rfl,p,p'⟩
 refine wpAny_newObj_type ?_ (by show 2<=sizeLine;decide);have I2:au X pins σ H1 { s1 with heap:=s1.heap.push { cls:=.type "tuple",data:=.seq [u1,u2].toArray } }:=I1.kept (t':=s1.toks) λb o e=>dC _ e;rw[hw];refine bN (df ?_);show wpAny (model X.prog X.w) X.A (do rule "assign.swapped-stores";let items <- unpackItems (.ref s1.heap.objs.size) 2 none;assignInOrder [λv=>bindName X.env y v,λv=>bindName X.env x v] items.reverse;pure Flow.next) _ _ _;refine bN (wpAny_rule (bN (unpackItems_tuple (items:=#[u1,u2]) (I.ok.hd hc) (IsTup.new s1.heap _) λh' hx'=>?_)));have I3:=I2.kept (h':=h') (t':=s1.toks) λb o e=>hx' b o (d8 (bX e)) e;show wpAny _ _ (assignInOrder [λv=>bindName X.env y v,λv=>bindName X.env x v] [u2,u1] >>= λ_=>pure Flow.next) _ _ _;refine bN (assignInOrder_cons (wpAny_bindName (wH I3 hN hj (.inl hy) rw' (λs2 I4=>?_) (.inr hy))));refine assignInOrder_cons (wpAny_bindName (wH I4 hN hi (.inl hx) rv (λs3 I5=>assignInOrder_nil (df ?_)) (.inr hx)));rw[List.set_comm _ _ (fq hij)] at I5;exact⟨_,H1,I5,q1⟩
def tAug (i:Nat)(te:TE)(ti:AN):TS:=λD σ H=>∃ x,σ[i]?=some (some x)/\te σ H λy H1=>ti x y H1 λz H2=>D.nx (σ.set i (some z)) H2
def tAugS (to ti te:TE)(tget:V->V->Hp->VK->Prop)(tip:AN)(tset:mG):TS:=λD σ H=>to σ H λo H1=>ti σ H1 λi H2=>tget o i H2 λx H3=>te σ H3 λy H4=>tip x y H4 λz H5=>tset o i z H5 λH6=>D.nx σ H6
def ipI (f:Int->Int->Int):AN:=λx y H Q=>∃ i j,x=.int i/\y=.int j/\Q (.int (f i j)) H
end
section
variable {X:Cx}{pos:Pos}
def tWhile (c:TT)(tb:TS):TS:=λD σ H=>∃ W:Nat->St->Hp->Prop,(∃ m,W m σ H)/\∀ m σ H,W m σ H->
 c σ H λb H1=>if b=true then ∃ N:St->Hp->Prop,(∀ σ' H',N σ' H'->∃ m',m'<m/\W m' σ' H')/\tb { D with nx:=N,ct:=N,bk:=D.nx } σ H1 else D.nx σ H1
theorem uy {c:Expr}{body:List Stmt}{tc:TT}{tb:TS}(hp:PassesOwn (model X.prog X.w) X.A X.env X.xe)(hc:PT X c tc)(hb:gT X body tb):PS X (.While c body [] pos) (tWhile tc tb):=by
 intro pins s σ H D I h;refine ar h λW e929 turn=>?_;clear h;obtain⟨m0,w0⟩:=e929;refine wpAny_While (codeAny_whileLoop (λn s'=>∃ σ' H',au X pins σ' H' s'/\W n σ' H') ?_ m0 ⟨σ,H,I,w0⟩);intro n s1 e91;refine cE e91 λσ1 H1 I1 w1=>?_;clear e91;refine qL hp (aN (hc pins s1 σ1 H1 _ I1 (turn n σ1 H1 w1)) λb s2 ⟨H2,I2,q2⟩=>?_);cases b with
 | true=>
  obtain⟨N,hN,q2⟩:=q2;rw[if_pos rfl];refine qL hp (aN (hb pins s2 σ1 H2 _ I2 q2) λf s3 q3=>?_);cases f with
  | next=>
   refine cE q3 λσ3 H3 I3 n3=>?_;clear q3;refine ar (hN σ3 H3 n3) λm' hm w3=>?_;exact⟨m',hm,σ3,H3,I3,w3⟩
  | cont=>
   refine cE q3 λσ3 H3 I3 n3=>?_;clear q3;refine ar (hN σ3 H3 n3) λm' hm w3=>?_;exact⟨m',hm,σ3,H3,I3,w3⟩
  | brk=>exact q3
  | ret v=>exact q3
 | false=>
  rw[if_neg eo];exact xo ⟨σ1,H2,I2,q2⟩
end
structure It where
 go:Nat->Hp->Prop
 yld:Nat->Hp->V->Hp->Prop
 stop:Nat->Hp->Prop
def cm (X:Cx)(pins:List (Addr×Obj))(H:Hp)(b:Addr):Prop:=
 H b=none/\b≠X.env.locals/\b∉X.fs/\(b∈X.ex\/X.s₀.heap.objs.size<=b)/\(∀ x c,X.env.cells.lookup x=some c->c≠b)/\∀ p∈X.pn++pins,p.1≠b
theorem au.fpOk {X:Cx}{pins:List (Addr×Obj)}{σ:St}{H H':Hp}{s:Shared}{b:Addr}(I:au X pins σ H s)(hb:s.heap.objs.size<=b)(hn:H' b=none):cm X pins H' b:=by
 refine⟨hn,r_ (dZ I.lt hb),I.nofs hb,.inr (cx I.sz hb),λx c e z=>?_,λp hp z=>?_⟩
 .obtain ⟨v,q⟩:=I.cell x c e;exact absurd (dZ q.lt (by rw[z];exact hb)) (gX _)
 .exact absurd (dZ (bX (I.pin p hp).1) (by rw[z];exact hb)) (gX _)
structure gR (P:Program)(w:World)(K:Frag)(tg:Expr)(J:It)(fp:List Addr)(it:Addr)(tn:Nat->Heap->Prop):Prop where
 mem:it∈fp
 obj:∀ i h,tn i h->∀ b∈fp,∃ o,h.get? b=some o/\∀ v,o.data≠.cell v
 keep:∀ i h h',tn i h->(∀ b∈fp,∀ o,h.get? b=some o->h'.get? b=some o)->tn i h'
 item:∀ (X:Cx),X.prog=P->X.w=w->X.K=K->X.calm=true->∀ (i:Nat) (pins:List (Addr×Obj)) (s:Shared) (σ:St) (H:Hp) (E:Value->Shared->Prop),au X pins σ H s->(∀ b∈fp,cm X pins H b)->tn i s.heap->J.go i H->
  wpAny (model P w) X.A (pyNext (.ref it)) (λr s1=>∃ u,r=some u /\
   wpAny (model P w) X.A (letOwnedTupleGo tg (.ref it) u) (λ_ s2=>∃ x H',au X pins σ H' s2/\aG x u/\J.yld i H x H'/\tn (i+1) s2.heap/\∀ b∈fp,H' b=none) E s1) E s
 done:∀ (X:Cx),X.prog=P->X.w=w->X.K=K->X.calm=true->∀ (i:Nat) (pins:List (Addr×Obj)) (s:Shared) (σ:St) (H:Hp) (E:Value->Shared->Prop),au X pins σ H s->(∀ b∈fp,cm X pins H b)->tn i s.heap->J.stop i H->
  wpAny (model P w) X.A (pyNext (.ref it)) (λr s1=>r=none/\au X pins σ H s1) E s
 self:∀ (A:Around) (i:Nat) (s:Shared) (Q:Value->Shared->Prop) (E:Value->Shared->Prop),tn i s.heap->Q (.ref it) s->wpAny (model P w) A (pyIter (.ref it)) Q E s
abbrev TI:=St->Hp->(It->Hp->Prop)->Prop
def Fg (X:Cx)(pins:List (Addr×Obj))(σ:St)(tg:Expr)(R:It->Hp->Prop)(itv:Value)(s2:Shared):Prop:=
 ∃ (it:Addr) (fp:List Addr) (tn:Nat->Heap->Prop) (J:It) (H':Hp),itv=.ref it/\au X pins σ H' s2/\gR X.prog X.w X.K tg J fp it tn/\tn 0 s2.heap/\(∀ b∈fp,cm X pins H' b)/\R J H'
def PI (X:Cx)(tg iter:Expr)(wi:TI):Prop:=
 ∀ (pins:List (Addr×Obj)) (s:Shared) (σ:St) (H:Hp) (R:It->Hp->Prop),au X pins σ H s->wi σ H R->
  wpAny (model X.prog X.w) X.A (eval iter X.env) (λv s1=>wpAny (model X.prog X.w) X.A (pyIter v) (Fg X pins σ tg R) X.xe s1) X.xe s
theorem jo {M:Model}{A:Around}{E:Value->Shared->Prop}{s:Shared}{tg:Expr}{it:Addr}{u:Value}{o:Obj}{n:String}{vs:Array Value}{Q:Unit->Shared->Prop}(ho:s.heap.get? it=some o)(hc:o.cls=.type n)(hd:o.data=.fields vs)(hn:["enumerate","zip","dict_itemiterator","dict_reverseitemiterator","odict_iterator","itertools.zip_longest","itertools.pairwise"].contains n=false)(hQ:Q () s):wpAny M A (letOwnedTupleGo tg (.ref it) u) Q E s:=by
 unfold letOwnedTupleGo;cases tg <;> first
  | exact df hQ
  | (cases u <;> first
    | exact df hQ
    | (refine bN (wpAny_load ho ?_);rw[hc,hd];show wpAny M A (if (["enumerate","zip","dict_itemiterator","dict_reverseitemiterator","odict_iterator","itertools.zip_longest","itertools.pairwise"].contains n && vs[0]? == some (rawInt _))=true then _ else _) Q E s;rw[if_neg (by intro h;rw[hn,xv] at h;cases h)];exact df hQ))
def jj (K:Frag)(a:Addr):It:=
 ⟨λi H=>∃ xs x,aj K H a xs/\xs[i]?=some x,λi H x H'=>H'=H/\∀ xs,aj K H a xs->xs[i]?=some x,λi H=>∃ xs,aj K H a xs/\xs.length<=i⟩
def xH (K:Frag)(a:Addr):It:=
 ⟨λi H=>∃ xs x,aB K H a xs/\xs[i]?=some x,λi H x H'=>H'=H/\∀ xs,aB K H a xs->xs[i]?=some x,λi H=>∃ xs,aB K H a xs/\xs.length<=i⟩
def iY (lo:Int)(n:Nat):It:=⟨λi _=>i<n,λi H x H'=>H'=H/\x=.int (lo+i),λi _=>n<=i⟩
theorem Hz {P:Program}{w:World}{K:Frag}{tg:Expr}(a it:Addr):gR P w K tg (jj K a) [it] it (λi h=>h.IsListIter it a i) where
 mem:=by simp
 obj:=λi h st b hb=>by
  have e:b=it:=by simpa using hb
  subst e;refine aQ st λo e c d=>?_;clear st;exact⟨o,e,λv z=>by rw[d] at z;cases z⟩
 keep:=λi h h' st k=>st.at λo e=>k it (by simp) o e
 item:=by
  intro X hP hw hK hc i pins s σ H E I hf st hg;subst hP hw hK;refine cE hg λxs x hq hx=>?_;clear hg;refine aQ (I.list hq) λits rv p hz=>?_;refine ar (rv.get hx) λu hu ru=>?_;refine gk (hf it (by simp)) λf0 f1 f2 f3 f4 f5=>?_;refine Bo st p.isList (x:=u) (by simpa using hu) λh' st' sb=>?_;have I1:au X pins σ H { s with heap:=h' }:=I.turned (t':=s.toks) (λb o hb e=>(sb.2 b hb).trans e) f0 f1 f3 f4 f5;refine aQ (id st') λo e c d=>?_;exact⟨u,rfl,jo (s:={ s with heap:=h' }) e c d ⇑0 ⟨x,H,I1,ru,⟨rfl,λys hy=>by rw[I.list_inj hy hq];exact hx⟩,st',λb hb=>(hf b hb).1⟩⟩
 done:=by
  intro X hP hw hK hc i pins s σ H E I hf st hg;subst hP hw hK;refine ar hg λxs hq hx=>?_;clear hg;refine aQ (I.list hq) λits rv p hz=>?_;refine gk (hf it (by simp)) λf0 f1 f2 f3 f4 f5=>?_;have hl:=rv.length;exact A6 (I.ok.hd hc) st p.isList (by simp;omega) λh' eb=>⟨rfl,I.turned (t':=s.toks) (λb o hb e=>eb b o hb e) f0 f1 f3 f4 f5⟩
 self:=λ_ _ _ _ _ st h=>wpAny_pyIter_listiter st h
theorem HD {P:Program}{w:World}{K:Frag}{tg:Expr}(a it:Addr):gR P w K tg (xH K a) [it] it (λi h=>h.IsTupleIter it a i) where
 mem:=by simp
 obj:=λi h st b hb=>by
  have e:b=it:=by simpa using hb
  subst e;refine aQ st λo e c d=>?_;clear st;exact⟨o,e,λv z=>by rw[d] at z;cases z⟩
 keep:=λi h h' st k=>st.at λo e=>k it (by simp) o e
 item:=by
  intro X hP hw hK hc i pins s σ H E I hf st hg;subst hP hw hK;refine cE hg λxs x hq hx=>?_;clear hg;refine aQ (I.tuple hq) λits rv p hz=>?_;refine ar (rv.get hx) λu hu ru=>?_;refine gk (hf it (by simp)) λf0 f1 f2 f3 f4 f5=>?_;refine wpAny_pyNext_tuple_item st (show s.heap.IsTuple a its.toArray from p) (x:=u) (by simpa using hu) λh' st' sb=>?_;have I1:au X pins σ H { s with heap:=h' }:=I.turned (t':=s.toks) (λb o hb e=>(sb.2 b hb).trans e) f0 f1 f3 f4 f5;refine aQ (id st') λo e c d=>?_;exact⟨u,rfl,jo (s:={ s with heap:=h' }) e c d ⇑0 ⟨x,H,I1,ru,⟨rfl,λys hy=>by rw[I.tuple_inj hy hq];exact hx⟩,st',λb hb=>(hf b hb).1⟩⟩
 done:=by
  intro X hP hw hK hc i pins s σ H E I hf st hg;subst hP hw hK;refine ar hg λxs hq hx=>?_;clear hg;refine aQ (I.tuple hq) λits rv p hz=>?_;refine gk (hf it (by simp)) λf0 f1 f2 f3 f4 f5=>?_;have hl:=rv.length;exact wpAny_pyNext_tuple_end (I.ok.hd hc) st (show s.heap.IsTuple a its.toArray from p) (by simp;omega) λh' eb=>⟨rfl,I.turned (t':=s.toks) (λb o hb e=>eb b o hb e) f0 f1 f3 f4 f5⟩
 self:=λ_ _ _ _ _ st h=>wpAny_pyIter_tupleiter st h
theorem HC {P:Program}{w:World}{K:Frag}{tg:Expr}(it:Addr)(lo:Int)(n:Nat):gR P w K tg (iY lo n) [it] it (λi h=>IsRangeIter h it (lo+(i:Nat)*1) ((n:Int)-(i:Nat)) 1) where
 mem:=by simp
 obj:=λi h st b hb=>by
  have e:b=it:=by simpa using hb
  subst e;exact⟨_,st,λv z=>by
   have z':Data.fields _=Data.cell v:=z;cases z'⟩
 keep:=λi h h' st k=>k it (by simp) _ st
 item:=by
  intro X hP hw hK hc i pins s σ H E I hf st hg;subst hP hw hK;refine gk (hf it (by simp)) λf0 f1 f2 f3 f4 f5=>?_;have W:=Walks.range (prog:=X.prog) (w:=X.w) (I.ok.hd hc) it lo 1 n;refine W.item i s _ _ hg st λv h' tk hv st' kk=>?_;obtain⟨t,rfl⟩:=hv;have I1:au X pins σ H { s with heap:=h',toks:=tk }:=I.turned (λb o hb e=>kk b o (by simpa using hb) e) f0 f1 f3 f4 f5;refine⟨_,rfl,jo (s:={ s with heap:=h',toks:=tk }) (n:="range_iterator") st' rfl rfl ⇑0 ⟨.int (lo+i),H,I1,⟨t,?_⟩,⟨rfl,rfl⟩,st',λb hb=>(hf b hb).1⟩⟩;rw[Int.mul_one]
 done:=by
  intro X hP hw hK hc i pins s σ H E I hf st hg;subst hP hw hK;refine gk (hf it (by simp)) λf0 f1 f2 f3 f4 f5=>?_;exact wpAny_pyNext_range_end (I.ok.hd hc) st (by have:n<=i:=hg;omega) λh' eb=>⟨rfl,I.turned (t':=s.toks) (λb o hb e=>eb b o hb e) f0 f1 f3 f4 f5⟩
 self:=λ_ _ _ _ _ st h=>wpAny_pyIter_rangeiter st h
section
variable {X:Cx}{tg:Expr}
def xS (K:Frag)(tl:TE):TI:=λσ H R=>tl σ H λx H1=>∃ a,x=.ref a/\(∃ xs,aj K H1 a xs)/\R (jj K a) H1
def iTup (K:Frag)(tl:TE):TI:=λσ H R=>tl σ H λx H1=>∃ a,x=.ref a/\(∃ xs,aB K H1 a xs)/\R (xH K a) H1
theorem eM {l:Expr}{tl:TE}(hl:PE X l tl):PI X tg l (xS X.K tl):=by
 intro pins s σ H R I h;refine aN (hl pins s σ H _ I h) λv s1 ⟨x,H1,I1,r1,q1⟩=>?_;refine aQ q1 λa e e930 q=>?_;clear q1;obtain⟨xs,hq⟩:=e930;subst e;cases r1;refine aQ (I1.list hq) λits rv p hz=>?_;refine xF p.isList ?_;refine mq s1.heap.objs.size [s1.heap.objs.size] _ _ H1 ⟨rfl,I1.kept (t':=s1.toks) λb o e=>dC _ e,Hz a _,⟨_,gA _ rfl,rfl,rfl⟩,λb hb=>?_,q⟩;have e:b=s1.heap.objs.size:=by simpa using hb
 subst e;exact I1.fpOk (aI _) (I1.hok.fresh (aI _))
theorem oJ {l:Expr}{tl:TE}(hl:PE X l tl):PI X tg l (iTup X.K tl):=by
 intro pins s σ H R I h;refine aN (hl pins s σ H _ I h) λv s1 ⟨x,H1,I1,r1,q1⟩=>?_;refine aQ q1 λa e e931 q=>?_;clear q1;obtain⟨xs,hq⟩:=e931;subst e;cases r1;refine aQ (I1.tuple hq) λits rv p hz=>?_;refine wpAny_pyIter_tuple (show s1.heap.IsTuple a its.toArray from p) ?_;refine mq s1.heap.objs.size [s1.heap.objs.size] _ _ H1 ⟨rfl,I1.kept (t':=s1.toks) λb o e=>dC _ e,HD a _,⟨_,gA _ rfl,rfl,rfl⟩,λb hb=>?_,q⟩;have e:b=s1.heap.objs.size:=by simpa using hb
 subst e;exact I1.fpOk (aI _) (I1.hok.fresh (aI _))
theorem Dg {pins:List (Addr×Obj)}{σ:St}{H:Hp}{s:Shared}{R:It->Hp->Prop}{E:Value->Shared->Prop}{lo hi:Int}{t u v:Tok}{tk:Nat}(I:au X pins σ H s)(h1:-(2 ^ 62)<=lo)(h2:lo<2 ^ 62)(h3:-(2 ^ 62)<=hi)(h4:hi<2 ^ 62)(q:R (iY lo (hi-lo).toNat) H):wpAny (model X.prog X.w) X.A (pyIter (.ref s.heap.objs.size)) (Fg X pins σ tg R) E { s with heap:=s.heap.push { cls:=.type "range",data:=.fields #[.int lo t,.int hi u,.int 1 v] },toks:=tk }:=by
 refine wpAny_pyIter_range (IsRange.new ..) (small_one h1 h2 h3 h4) ?_;have I1:au X pins σ H { s with heap:=s.heap.push { cls:=.type "range",data:=.fields #[.int lo t,.int hi u,.int 1 v] },toks:=tk }:=I.kept λb o e=>dC _ e;refine mq ((s.heap.push { cls:=.type "range",data:=.fields #[.int lo t,.int hi u,.int 1 v] }).objs.size) [(s.heap.push { cls:=.type "range",data:=.fields #[.int lo t,.int hi u,.int 1 v] }).objs.size] _ _ H ⟨rfl,I1.kept (t':=tk) λb o e=>dC _ e,HC _ lo (hi-lo).toNat,?_,λb hb=>?_,q⟩
 .have e1:lo+((0:Nat):Int)*1=lo:=by simp
  have e2:(((hi-lo).toNat:Nat):Int)-((0:Nat):Int)=Builtin.Range.rangeSize lo hi 1:=by rw[rangeSize_one];split <;> omega
  show IsRangeIter _ _ (lo+((0:Nat):Int)*1) ((((hi-lo).toNat:Nat):Int)-((0:Nat):Int)) 1;rw[e1,e2];exact gA _ rfl
 .have e:b=(s.heap.push { cls:=.type "range",data:=.fields #[.int lo t,.int hi u,.int 1 v] }).objs.size:=by simpa using hb
  subst e;exact I1.fpOk (aI _) (I1.hok.fresh (aI _))
def xT (ta:TA):TI:=λσ H R=>ta σ H λvs H1=>∃ j:Int,vs=[.int j]/\-(2 ^ 62)<=j/\j<2 ^ 62/\R (iY 0 j.toNat) H1
def BY (ta:TA):TI:=λσ H R=>ta σ H λvs H1=>∃ i j:Int,vs=[.int i,.int j]/\(-(2 ^ 62)<=i/\i<2 ^ 62/\-(2 ^ 62)<=j/\j<2 ^ 62)/\R (iY i (j-i).toNat) H1
theorem G1 {a:Expr}{ta:TA}{p pos:Pos}(hg:Gl X "range")(hm:X.mg "range" = none)(ha:PA X [a] ta)(hs:starEach [a] X.env=[(false,eval a X.env)]:=by rfl):PI X tg (.Call (.Name "range" p) [a] [] pos) (xT ta):=by
 intro pins s σ H R I h;refine Call_ (nE I hg hm boot_range (vc (aN (ha pos pins s σ H _ I h) λus s1 ⟨vs,H1,I1,r1,q1⟩=>?_) hs rfl));obtain⟨j,e,q1,q2,q⟩:=q1;subst e;cases r1 with
 | cons r rr=>
  cases rr;obtain⟨t,rfl⟩:=r;exact call_range_1 (Dg I1 ∅ ∅ q1 q2 (by simpa using q))
theorem G2 {a b:Expr}{ta:TA}{p pos:Pos}(hg:Gl X "range")(hm:X.mg "range" = none)(ha:PA X [a,b] ta)(hs:starEach [a,b] X.env=[(false,eval a X.env),(false,eval b X.env)]:=by rfl)(hs2:starEach [b] X.env=[(false,eval b X.env)]:=by rfl):
  PI X tg (.Call (.Name "range" p) [a,b] [] pos) (BY ta):=by
 intro pins s σ H R I h;refine Call_ (nE I hg hm boot_range (vc (aN (ha pos pins s σ H _ I h) λus s1 ⟨vs,H1,I1,r1,q1⟩=>?_) (by rw[hs,hs2]) (by rw[hs2];rfl)));refine cy q1 λi j e e932 q=>?_;clear q1;obtain⟨q1,q2,q3,q4⟩:=e932;subst e;cases r1 with
 | cons r rr=>
  cases rr with
  | cons r' rr=>
   cases rr;obtain⟨t,rfl⟩:=r;obtain⟨t',rfl⟩:=r';exact call_range_2 (Dg I1 q1 q2 q3 q4 q)
def tFor (wi:TI)(g:TG)(tb:TS):TS:=λD σ H=>wi σ H λJ H1=>∃ W:Nat->Nat->St->Hp->Prop,(∃ m,W 0 m σ H1)/\∀ i m σ H,W i m σ H->
 (J.stop i H/\D.nx σ H)\/(J.go i H/\∃ N:St->Hp->Prop,(∀ σ' H',N σ' H'->∃ m',m'<m/\W (i+1) m' σ' H')/\∀ x H',J.yld i H x H'->g x σ H' λσ2 H2=>tb { D with nx:=N,ct:=N,bk:=D.nx } σ2 H2)
def uc (fp:List Addr)(h:Heap):List (Addr×Obj):=fp.filterMap λb=>(h.get? b).map λo=>(b,o)
theorem uE {fp:List Addr}{h:Heap}{b:Addr}{o:Obj}(hb:b∈fp)(e:h.get? b=some o):(b,o)∈uc fp h:=List.mem_filterMap.mpr ⟨b,hb,by rw[e];rfl⟩
theorem Ha {fp:List Addr}{h:Heap}{p:Addr×Obj}(hp:p∈uc fp h):p.1∈fp/\h.get? p.1=some p.2:=by
 refine ar (List.mem_filterMap.mp hp) λb hb e=>?_;cases q:h.get? b with
 | none=>rw[q] at e;cases e
 | some o=>
  rw[q] at e;have e':(b,o)=p:=fJ e;subst e';exact⟨hb,q⟩
theorem au.pinned {pins:List (Addr×Obj)}{σ:St}{H:Hp}{s:Shared}{fp:List Addr}(I:au X pins σ H s)(hf:∀ b∈fp,cm X pins H b)(ho:∀ b∈fp,∃ o,s.heap.get? b=some o/\∀ v,o.data≠.cell v):au X (pins++uc fp s.heap) σ H s:=
 I.pins_of λp hp=>(cf.mp hp).elim (λz=>I.pin p (fZ _ z)) λz=>by
  obtain⟨hb,e⟩:=Ha z;refine cG (hf p.1 hb) λf0 f1 f2 _=>?_;refine ar (ho p.1 hb) λo e' d=>?_;rw[e] at e';cases e';exact⟨e,f0,f1,f2,d⟩
theorem au.unpinned {pins pl:List (Addr×Obj)}{σ:St}{H:Hp}{s:Shared}(I:au X (pins++pl) σ H s):au X pins σ H s:=I.pins_of λp hp=>I.pin p (fZ _ (qI _ hp))
theorem dw {iter:Expr}{body:List Stmt}{wi:TI}{g:TG}{tb:TS}{pos:Pos}(hp:PassesOwn (model X.prog X.w) X.A X.env X.xe)(hc:X.calm=true)(hi:PI X tg iter wi)(hg:PG X tg g)(hb:gT X body tb)(hs:∀ x,foldedSetIterable iter X.env x=pure x:=by intro _;rfl):PS X (.For tg iter body [] pos) (tFor wi g tb):=by
 intro pins s σ H D I h;refine wpAny_For (aN (hi pins s σ H _ I h) λv s1 h1=>aN h1 λitv s2 h2=>?_) hs;refine g9 h2 λit fp tn J H2 e I2 T e933=>?_;clear h2;refine bQ e933 λst2 f2 e934=>?_;clear e933;obtain⟨W,⟨m0,w0⟩,turn⟩:=e934;subst e
 -- what stays true of the iterator's objects yO the loop
 have stat:∀ {H':Hp},(∀ b∈fp,H' b=none)->∀ b∈fp,cm X pins H' b:=λhn b hb=>⟨hn b hb,(f2 b hb).2⟩
 refine codeAny_forLoop_any (λn s'=>∃ i σ' H',au X pins σ' H' s'/\tn i s'.heap/\(∀ b∈fp,H' b=none)/\W i n σ' H') ?_ m0 ⟨0,σ,H2,I2,st2,λb hb=>(f2 b hb).1,w0⟩;intro n s3 e92;refine cD e92 λi σ3 H3 I3 st3 fr3 w3=>?_;clear e92;rcases turn i n σ3 H3 w3 with ⟨stop,qn⟩|⟨go,N,hN,step⟩
 .refine qL hp (aN (T.done X rfl rfl rfl hc i pins s3 σ3 H3 X.xe I3 (stat fr3) st3 stop) λr s4 ⟨hr,I4⟩=>?_);subst hr;exact xo ⟨σ3,H3,I4,qn⟩
 .refine qL hp (aN (T.item X rfl rfl rfl hc i pins s3 σ3 H3 X.xe I3 (stat fr3) st3 go) λr s4 ⟨u,hr,h4⟩=>?_);subst hr;refine qL hp (aN h4 λ_ s5 ⟨x,H5,I5,r5,y5,st5,fr5⟩=>?_);have I5':=I5.pinned (stat fr5) (T.obj _ _ st5);refine qL hp (aN (hg _ s5 σ3 H5 x u _ I5' r5 (step x H5 y5)) λ_ s6 ⟨σ6,H6,I6,q6⟩=>?_);refine qL hp (aN (hb _ s6 σ6 H6 _ I6 q6) λf s7 q7=>?_);have again:∀ {σ7:St} {H7:Hp},au X (pins++uc fp s5.heap) σ7 H7 s7->N σ7 H7->∃ m,m<n/\∃ i σ' H',au X pins σ' H' s7/\tn i s7.heap/\(∀ b∈fp,H' b=none)/\W i m σ' H':=λ{σ7 H7} I7 n7=>by
   refine ar (hN σ7 H7 n7) λm' hm w7=>?_;refine⟨m',hm,i+1,σ7,H7,I7.unpinned,T.keep _ _ _ st5 λb hb o e=>(I7.pin (b,o) (fZ _ (fZ _ (uE hb e)))).1,λb hb=>?_,w7⟩;refine ar (T.obj _ _ st5 b hb) λo e d=>?_;exact (I7.pin (b,o) (fZ _ (fZ _ (uE hb e)))).2.1
  cases f with
  | next=>obtain⟨σ7,H7,I7,n7⟩:=q7;exact again I7 n7
  | cont=>obtain⟨σ7,H7,I7,n7⟩:=q7;exact again I7 n7
  | brk=>obtain⟨σ7,H7,I7,q7⟩:=q7;exact⟨σ7,H7,I7.unpinned,q7⟩
  | ret v=>obtain⟨x7,σ7,H7,I7,r7,q7⟩:=q7;exact⟨x7,σ7,H7,I7.unpinned,r7,q7⟩
end
theorem qt {K:Frag}{a:Addr}{xs:List V}{g:TG}{tb:TS}{D:cJ}{σ:St}{H:Hp}(Pv:Nat->St->Hp->Prop)(h0:Pv 0 σ H)(hl:∀ i σ H,i<=xs.length->Pv i σ H->aj K H a xs)(hs:∀ i x σ H,xs[i]?=some x->Pv i σ H->g x σ H λσ2 H2=>tb { D with nx:=Pv (i+1),ct:=Pv (i+1),bk:=D.nx } σ2 H2)(hd:∀ σ H,Pv xs.length σ H->D.nx σ H):
  ∃ W:Nat->Nat->St->Hp->Prop,(∃ m,W 0 m σ H)/\∀ i m σ H,W i m σ H->
   ((jj K a).stop i H/\D.nx σ H)\/((jj K a).go i H/\∃ N:St->Hp->Prop,(∀ σ' H',N σ' H'->∃ m',m'<m/\W (i+1) m' σ' H')/\∀ x H',(jj K a).yld i H x H'->g x σ H' λσ2 H2=>tb { D with nx:=N,ct:=N,bk:=D.nx } σ2 H2):=by
 refine⟨λi m σ H=>m=xs.length-i/\i<=xs.length/\Pv i σ H,⟨xs.length,by simp,eB _,h0⟩,?_⟩;intro i m σ H e93;refine bQ e93 λe935 hi p=>?_;clear e93;obtain rfl:=e935;have q:=hl i σ H hi p;by_cases hlt:i<xs.length
 .refine .inr ⟨⟨xs,xs[i],q,by simp[hlt]⟩,Pv (i+1),λσ' H' p'=>⟨xs.length-(i+1),∅,rfl,hlt,p'⟩,λx H' y=>?_⟩;obtain⟨e,y⟩:=y;subst e;exact hs i x σ _ (y xs q) p
 .have e:i=xs.length:=∅
  subst e;exact .inl ⟨⟨xs,q,aI _⟩,hd σ H p⟩
theorem hU {lo:Int}{n:Nat}{g:TG}{tb:TS}{D:cJ}{σ:St}{H:Hp}(Pv:Nat->St->Hp->Prop)(h0:Pv 0 σ H)(hs:∀ i σ H,i<n->Pv i σ H->g (.int (lo+i)) σ H λσ2 H2=>tb { D with nx:=Pv (i+1),ct:=Pv (i+1),bk:=D.nx } σ2 H2)(hd:∀ σ H,Pv n σ H->D.nx σ H):
  ∃ W:Nat->Nat->St->Hp->Prop,(∃ m,W 0 m σ H)/\∀ i m σ H,W i m σ H->
   ((iY lo n).stop i H/\D.nx σ H)\/((iY lo n).go i H/\∃ N:St->Hp->Prop,(∀ σ' H',N σ' H'->∃ m',m'<m/\W (i+1) m' σ' H')/\∀ x H',(iY lo n).yld i H x H'->g x σ H' λσ2 H2=>tb { D with nx:=N,ct:=N,bk:=D.nx } σ2 H2):=by
 refine⟨λi m σ H=>m=n-i/\i<=n/\Pv i σ H,⟨n,by simp,eB _,h0⟩,?_⟩;intro i m σ H e95;refine bQ e95 λe937 hi p=>?_;clear e95;obtain rfl:=e937;by_cases hlt:i<n
 .refine .inr ⟨hlt,Pv (i+1),λσ' H' p'=>⟨n-(i+1),∅,rfl,hlt,p'⟩,λx H' y=>?_⟩;obtain⟨e,y⟩:=y;subst e y;exact hs i σ _ hlt p
 .have e:i=n:=∅
  subst e;exact .inl ⟨aI _,hd σ H p⟩
abbrev R2:=V->V->Hp->VK->Prop
def bY (X:Cx)(f:Value->Value->Sem Value)(r:R2):Prop:=
 ∀ (pins:List (Addr×Obj)) (s:Shared) (σ:St) (H:Hp) (x y:V) (v u:Value) (Q:VK),au X pins σ H s->aG x v->aG y u->r x y H Q->
  wpAny (model X.prog X.w) X.A (f v u) (EP X pins σ Q) X.xe s
def AK (X:Cx)(f:Value->Sem Value)(r:V->Hp->VK->Prop):Prop:=
 ∀ (pins:List (Addr×Obj)) (s:Shared) (σ:St) (H:Hp) (x:V) (v:Value) (Q:VK),au X pins σ H s->aG x v->r x H Q->
  wpAny (model X.prog X.w) X.A (f v) (EP X pins σ Q) X.xe s
def gJ (X:Cx)(f:Value)(r:List V->Hp->VK->Prop):Prop:=
 ∀ (pins:List (Addr×Obj)) (s:Shared) (σ:St) (H:Hp) (xs:List V) (us:List Value) (Q:VK),au X pins σ H s->av xs us->r xs H Q->
  wpAny (model X.prog X.w) X.A (call f us) (EP X pins σ Q) X.xe s
def AM (X:Cx)(r:V->Hp->(Bool->Hp->Prop)->Prop):Prop:=
 ∀ (pins:List (Addr×Obj)) (s:Shared) (σ:St) (H:Hp) (x:V) (v:Value) (Q:Bool->Hp->Prop),au X pins σ H s->aG x v->r x H Q->
  wpAny (model X.prog X.w) X.A (truthy v) (TP X pins σ Q) X.xe s
def tOp (r:R2)(ta tb:TE):TE:=λσ H Q=>ta σ H λx H1=>tb σ H1 λy H2=>r x y H2 Q
def tUn (r:V->Hp->VK->Prop)(ta:TE):TE:=λσ H Q=>ta σ H λx H1=>r x H1 Q
def rI (C:Int->Int->Prop)(g:Int->Int->V):R2:=λx y H Q=>∃ i j,x=.int i/\y=.int j/\C i j/\Q (g i j) H
def rI0 (g:Int->Int->V):R2:=λx y H Q=>∃ i j,x=.int i/\y=.int j/\Q (g i j) H
def rU (g:Int->V):V->Hp->VK->Prop:=λx H Q=>∃ i,x=.int i/\Q (g i) H
section
variable {X:Cx}{a b c:Expr}{ta tb tc:TE}{pos:Pos}
theorem binT (ha:PE X a ta)(hb:PE X b tb){pins:List (Addr×Obj)}{s:Shared}{σ:St}{H:Hp}{R:V->V->Hp->Prop}(I:au X pins σ H s)(h:ta σ H λx H1=>tb σ H1 λy H2=>R x y H2){Q:Value->Shared->Prop}{f:Value->Value->Sem Value}(hf:∀ v u s2 x y H2,au X pins σ H2 s2->aG x v->aG y u->R x y H2->wpAny (model X.prog X.w) X.A (f v u) Q X.xe s2):
  wpAny (model X.prog X.w) X.A (eval a X.env) (λv s₁=>wpAny (model X.prog X.w) X.A (eval b X.env) (λu s₂=>wpAny (model X.prog X.w) X.A (f v u) Q X.xe s₂) X.xe s₁) X.xe s:=by
 refine aN (ha pins s σ H _ I h) λv s1 ⟨x,H1,I1,r1,q1⟩=>?_;refine aN (hb pins s1 σ H1 _ I1 q1) λu s2 ⟨y,H2,I2,r2,q2⟩=>?_;exact hf v u s2 x y H2 I2 r1 r2 q2
theorem sO {op:Operator}{r:R2}(ho:bY X (binaryOp op) r)(ha:PE X a ta)(hb:PE X b tb):PE X (.BinOp a op b pos) (tOp r ta tb):=by
 intro pins s σ H Q I h;exact wpAny_BinOp (binT ha hb I h λv u s2 x y H2 I2 rx ry q=>ho pins s2 σ H2 x y v u Q I2 rx ry q)
theorem fO {op:UnaryOp}{r:V->Hp->VK->Prop}(ho:AK X (unaryOp op) r)(ha:PE X a ta):PE X (.UnaryOp op a pos) (tUn r ta):=by
 intro pins s σ H Q I h;exact UnaryOp_ (aN (ha pins s σ H _ I h) λv s1 ⟨x,H1,I1,r1,q1⟩=>ho pins s1 σ H1 x v Q I1 r1 q1)
theorem opI {f:Value->Value->Sem Value}{C:Int->Int->Prop}{g:Int->Int->Int}(rule:∀ (i j:Int) (t u:Tok) (s:Shared) (Q:Value->Shared->Prop) (E:Value->Shared->Prop),C i j->Q (.int (g i j) s.toks) { s with toks:=s.toks+1 }->wpAny (model X.prog X.w) X.A (f (.int i t) (.int j u)) Q E s):
  bY X f (rI C λi j=>.int (g i j)):=by
 intro pins s σ H x y v u Q I rx ry h;refine gh h λi j e938 e939 hc q=>?_;clear h;obtain rfl:=e938;obtain rfl:=e939;obtain⟨t,rfl⟩:=rx;obtain⟨t',rfl⟩:=ry;exact rule i j t t' s _ _ hc ⟨.int (g i j),H,I.tok _,⟨_,rfl⟩,q⟩
theorem opI0 {f:Value->Value->Sem Value}{g:Int->Int->Int}(rule:∀ (i j:Int) (t u:Tok) (s:Shared) (Q:Value->Shared->Prop) (E:Value->Shared->Prop),Q (.int (g i j) s.toks) { s with toks:=s.toks+1 }->wpAny (model X.prog X.w) X.A (f (.int i t) (.int j u)) Q E s):
  bY X f (rI0 λi j=>.int (g i j)):=by
 intro pins s σ H x y v u Q I rx ry h;refine cy h λi j e940 e941 q=>?_;clear h;obtain rfl:=e940;obtain rfl:=e941;obtain⟨t,rfl⟩:=rx;obtain⟨t',rfl⟩:=ry;exact rule i j t t' s _ _ ⟨.int (g i j),H,I.tok _,⟨_,rfl⟩,q⟩
theorem opB0 {f:Value->Value->Sem Value}{g:Int->Int->Bool}(rule:∀ (i j:Int) (t u:Tok) (s:Shared) (Q:Value->Shared->Prop) (E:Value->Shared->Prop),Q (.bool (g i j)) s->wpAny (model X.prog X.w) X.A (f (.int i t) (.int j u)) Q E s):
  bY X f (rI0 λi j=>.bl (g i j)):=by
 intro pins s σ H x y v u Q I rx ry h;refine cy h λi j e942 e943 q=>?_;clear h;obtain rfl:=e942;obtain rfl:=e943;obtain⟨t,rfl⟩:=rx;obtain⟨t',rfl⟩:=ry;exact rule i j t t' s _ _ ⟨.bl (g i j),H,I,rfl,q⟩
def Bv (i j:Int):Prop:=0<j/\j<1073741824
def vn (i j:Int):Prop:=0<=j/\j<=1000000/\i.natAbs<2 ^ 64
def qP (i j:Int):Prop:=(-(2 ^ 64)<i/\i<2 ^ 64)\/(-(2 ^ 64)<j/\j<2 ^ 64)
theorem qP.ok {i j:Int}(h:qP i j):IntMulOk i j:=by
 rcases h with ⟨h1,h2⟩|⟨h1,h2⟩
 .exact .of_left (intBits_le_64 h1 h2)
 .exact .of_right (intBits_le_64 h1 h2)
theorem gF (k:Nat):(0:Int)<=2 ^ k:=by
 rw[two_pow_cast];exact AW _
theorem dI:bY X (binaryOp .Add) (rI0 λi j=>.int (i+j)):=opI0 λ_ _ _ _ _ _ _ q=>add_int q
theorem fQ:bY X (binaryOp .Sub) (rI0 λi j=>.int (i-j)):=opI0 λ_ _ _ _ _ _ _ q=>sub_int q
theorem mw:bY X (binaryOp .Mult) (rI qP λi j=>.int (i*j)):=opI λ_ _ _ _ _ _ _ hc q=>mul_int q hc.ok
theorem wg:bY X (binaryOp .FloorDiv) (rI Bv λi j=>.int (i / j)):=opI λi j _ _ _ _ _ hc q=>by
 have h1:(0:Int)<j:=hc.1;have h2:j<1073741824:=hc.2;exact floordiv_int ∅ (by rw[qN i ∅];exact q) (.inl (PyProof.noPylong_small ∅))
theorem fE:bY X (binaryOp .Mod) (rI (λ_ j=>0<j) λi j=>.int (i % j)):=opI λi j _ _ _ _ _ hc q=>by
 have h1:(0:Int)<j:=hc;exact mod_int' ∅ (by rw[Int.fmod_eq_emod_of_nonneg i ∅];exact q)
theorem Ck:bY X (binaryOp .Mod) (rI (λ_ j=>j≠0) λi j=>.int (i.fmod j)):=opI λ_ _ _ _ _ _ _ hc q=>mod_int' hc q
theorem BD:bY X (binaryOp .Pow) (rI vn λi j=>.int (i ^ j.toNat)):=opI λ_ _ _ _ _ _ _ hc q=>pow_int_small hc.1 hc.2.1 hc.2.2 q
theorem BE:bY X (binaryOp .RShift) (rI (λ_ j=>0<=j) λi j=>.int (i / 2 ^ j.toNat)):=opI λi j _ _ _ _ _ hc q=>
 rshift_int hc (by rw[qN i (gF _)];exact q)
theorem unI {f:Value->Sem Value}{g:Int->Int}(rule:∀ (i:Int) (t:Tok) (s:Shared) (Q:Value->Shared->Prop) (E:Value->Shared->Prop),Q (.int (g i) s.toks) { s with toks:=s.toks+1 }->wpAny (model X.prog X.w) X.A (f (.int i t)) Q E s):
  AK X f (rU λi=>.int (g i)):=by
 intro pins s σ H x v Q I rx h;refine ar h λi e944 q=>?_;clear h;obtain rfl:=e944;obtain⟨t,rfl⟩:=rx;exact rule i t s _ _ ⟨.int (g i),H,I.tok _,⟨_,rfl⟩,q⟩
theorem fU:AK X (unaryOp .USub) (rU λi=>.int (-i)):=unI λ_ _ _ _ _ q=>neg_int q
end
def scal:V->V->Bool
 | .non,.non=>true | .non,.int _=>true | .int _,.non=>true | .non,.bl _=>true | .bl _,.non=>true | .non,.str _=>true | .str _,.non=>true
 | .int _,.int _=>true | .bl _,.bl _=>true | .str _,.str _=>true | .byt _,.byt _=>true
 | .int _,.str _=>true | .str _,.int _=>true | .bl _,.str _=>true | .str _,.bl _=>true
 | _,_=>false
def rEq:R2:=λx y H Q=>scal x y=true/\Q (.bl (decide (x=y))) H
def rNe:R2:=λx y H Q=>scal x y=true/\Q (.bl (!decide (x=y))) H
theorem Cf {i j:Int}:decide (V.int i=V.int j)=(i == j):=by
 rw[nQ];simp
theorem BW {i j:Bool}:decide (V.bl i=V.bl j)=(i == j):=by
 rw[nQ];simp
theorem Ci {i j:Str}:decide (V.str i=V.str j)=(i == j):=by
 rw[nQ];simp
theorem Ce {i j:Array UInt8}:decide (V.byt i=V.byt j)=(i.toList == j.toList):=by
 rw[nQ];cases i;cases j;simp
section
variable {X:Cx}{a b c:Expr}{ta tb tc:TE}{pos:Pos}
theorem c6 {pins:List (Addr×Obj)}{σ:St}{H:Hp}{s:Shared}{Q:VK}{k k':Bool}(I:au X pins σ H s)(q:Q (.bl k) H)(e:k=k'):EP X pins σ Q (.bool k') s:=by
 subst e;exact aM (.bl k) H ⟨I,rfl,q⟩
theorem c9:bY X (compareOp .Eq) rEq:=by
 intro pins s σ H x y v u Q I rx ry h;obtain⟨hs,q⟩:=h;cases x with
 | non=>
  cases rx;cases y with
  | non=>cases ry;exact PySem.EqNone.eq_none_none (c6 I q (by simp))
  | bl j=>cases ry;exact PySem.EqNone.eq_none_bool (c6 I q (by simp))
  | int j=>obtain⟨t',rfl⟩:=ry;exact PySem.EqNone.eq_none_int (c6 I q (by simp))
  | str j=>obtain⟨t',rfl⟩:=ry;exact PySem.EqNone.eq_none_str (c6 I q (by simp))
  | _=>exact absurd (show false=true from hs) eo
 | bl i=>
  cases rx;cases y with
  | non=>cases ry;exact PySem.EqNone.eq_bool_none (c6 I q (by simp))
  | bl j=>cases ry;exact eq_bool (c6 I q BW)
  | str j=>obtain⟨t',rfl⟩:=ry;exact PySem.EqMixed.eq_bool_str (c6 I q (by simp))
  | _=>exact absurd (show false=true from hs) eo
 | int i=>
  obtain⟨t,rfl⟩:=rx;cases y with
  | non=>cases ry;exact PySem.EqNone.eq_int_none (c6 I q (by simp))
  | int j=>obtain⟨t',rfl⟩:=ry;exact eq_int (c6 I q Cf)
  | str j=>obtain⟨t',rfl⟩:=ry;exact PySem.EqMixed.eq_int_str (c6 I q (by simp))
  | _=>exact absurd (show false=true from hs) eo
 | str i=>
  obtain⟨t,rfl⟩:=rx;cases y with
  | non=>cases ry;exact PySem.EqNone.eq_str_none (c6 I q (by simp))
  | bl j=>cases ry;exact PySem.EqMixed.eq_str_bool (c6 I q (by simp))
  | int j=>obtain⟨t',rfl⟩:=ry;exact PySem.EqMixed.eq_str_int (c6 I q (by simp))
  | str j=>obtain⟨t',rfl⟩:=ry;exact eq_str (c6 I q Ci)
  | _=>exact absurd (show false=true from hs) eo
 | byt i=>
  obtain⟨t,rfl⟩:=rx;cases y with
  | byt j=>obtain⟨t',rfl⟩:=ry;exact PySem.W.eq_bytes (c6 I q Ce)
  | _=>exact absurd (show false=true from hs) eo
 | _=>cases y <;> exact absurd (show false=true from hs) eo
theorem gj:bY X (compareOp .NotEq) rNe:=by
 intro pins s σ H x y v u Q I rx ry h;obtain⟨hs,q⟩:=h;cases x with
 | non=>
  cases rx;cases y with
  | non=>cases ry;exact PySem.EqNone.ne_none_none (c6 I q (by simp))
  | bl j=>cases ry;exact PySem.EqNone.ne_none_bool (c6 I q (by simp))
  | int j=>obtain⟨t',rfl⟩:=ry;exact PySem.EqNone.ne_none_int (c6 I q (by simp))
  | str j=>obtain⟨t',rfl⟩:=ry;exact PySem.EqNone.ne_none_str (c6 I q (by simp))
  | _=>exact absurd (show false=true from hs) eo
 | bl i=>
  cases rx;cases y with
  | non=>cases ry;exact PySem.EqNone.ne_bool_none (c6 I q (by simp))
  | bl j=>cases ry;exact ne_bool (c6 I q (ig not BW))
  | str j=>obtain⟨t',rfl⟩:=ry;exact PySem.EqMixed.ne_bool_str (c6 I q (by simp))
  | _=>exact absurd (show false=true from hs) eo
 | int i=>
  obtain⟨t,rfl⟩:=rx;cases y with
  | non=>cases ry;exact PySem.EqNone.ne_int_none (c6 I q (by simp))
  | int j=>obtain⟨t',rfl⟩:=ry;exact ne_int (c6 I q (ig not Cf))
  | str j=>obtain⟨t',rfl⟩:=ry;exact PySem.EqMixed.ne_int_str (c6 I q (by simp))
  | _=>exact absurd (show false=true from hs) eo
 | str i=>
  obtain⟨t,rfl⟩:=rx;cases y with
  | non=>cases ry;exact PySem.EqNone.ne_str_none (c6 I q (by simp))
  | bl j=>cases ry;exact PySem.EqMixed.ne_str_bool (c6 I q (by simp))
  | int j=>obtain⟨t',rfl⟩:=ry;exact PySem.EqMixed.ne_str_int (c6 I q (by simp))
  | str j=>obtain⟨t',rfl⟩:=ry;exact ne_str (c6 I q (ig not Ci))
  | _=>exact absurd (show false=true from hs) eo
 | byt i=>
  obtain⟨t,rfl⟩:=rx;cases y with
  | byt j=>obtain⟨t',rfl⟩:=ry;exact PySem.W.ne_bytes (c6 I q (ig not Ce))
  | _=>exact absurd (show false=true from hs) eo
 | _=>cases y <;> exact absurd (show false=true from hs) eo
theorem iF:bY X (compareOp .Lt) (rI0 λi j=>.bl (decide (i<j))):=opB0 λ_ _ _ _ _ _ _ q=>lt_int q
theorem nj:bY X (compareOp .LtE) (rI0 λi j=>.bl (decide (i<=j))):=opB0 λ_ _ _ _ _ _ _ q=>le_int q
theorem fM:bY X (compareOp .Gt) (rI0 λi j=>.bl (decide (j<i))):=opB0 λ_ _ _ _ _ _ _ q=>gt_int q
theorem jm:bY X (compareOp .GtE) (rI0 λi j=>.bl (decide (j<=i))):=opB0 λ_ _ _ _ _ _ _ q=>ge_int q
theorem kR:bY X (compareOp .IsNot) (λx y H Q=>y=.non/\Q (.bl (!decide (x=.non))) H):=by
 intro pins s σ H x y v u Q I rx ry h;obtain⟨rfl,q⟩:=h;cases ry;refine isnot_none_gen (c6 I q ?_);cases x <;> first
  | (cases rx;rfl)
  | (obtain⟨t,rfl⟩:=rx;rfl)
theorem bY.or {f:Value->Value->Sem Value}{r r':R2}(h:bY X f r)(h':bY X f r'):bY X f (λx y H Q=>r x y H Q\/r' x y H Q):=by
 intro pins s σ H x y v u Q I rx ry q;rcases q with q|q
 .exact h pins s σ H x y v u Q I rx ry q
 .exact h' pins s σ H x y v u Q I rx ry q
theorem aU (b:Expr){op:CmpOp}(h:op≠.In:=by decide)(h2:op≠.NotIn:=by decide):behindInMarks op b=false:=by
 have e1:(op == CmpOp.In)=false:=by cases op <;> first|rfl|exact absurd rfl h
 have e2:(op == CmpOp.NotIn)=false:=by cases op <;> first|rfl|exact absurd rfl h2
 cases b <;> simp[behindInMarks,e1,e2]
theorem gO {op:CmpOp}{r:R2}(ho:bY X (compareOp op) r)(ha:PE X a ta)(hb:PE X b tb)(hm:behindInMarks op b=false):PE X (.Compare a [op] [b] pos) (tOp r ta tb):=by
 intro pins s σ H Q I h;exact wpAny_Compare1 (binT ha hb I h λv u s2 x y H2 I2 rx ry q=>ho pins s2 σ H2 x y v u Q I2 rx ry q) hm
def BZ (t:TE):TT:=λσ H Q=>t σ H λx H'=>∃ k,x=.bl k/\Q k H'
theorem fV {op:CmpOp}{r:R2}(ho:bY X (compareOp op) r)(ha:PE X a ta)(hb:PE X b tb)(hm:behindInMarks op b=false):PT X (.Compare a [op] [b] pos) (BZ (tOp r ta tb)):=by
 intro pins s σ H Q I h;refine A7 (aN (ha pins s σ H _ I h) λv s1 ⟨x,H1,I1,r1,q1⟩=>aN (hb pins s1 σ H1 _ I1 q1) λu s2 ⟨y,H2,I2,r2,q2⟩=>
  aN (ho pins s2 σ H2 x y v u _ I2 r1 r2 q2) λc s3 ⟨z,H3,I3,r3,k,e,q3⟩=>?_) hm
 subst e;cases r3;exact iV ⟨H3,I3,q3⟩
def Do (r r':R2)(ta tb tc:TE):TE:=λσ H Q=>ta σ H λx H1=>tb σ H1 λy H2=>r x y H2 λz H3=>∃ k,z=.bl k /\
 (if k=true then tc σ H3 λw' H4=>r' y w' H4 Q else Q (.bl false) H3)
theorem y8 {op op':CmpOp}{r r':R2}(ho:bY X (compareOp op) r)(ho':bY X (compareOp op') r')(ha:PE X a ta)(hb:PE X b tb)(hc:PE X c tc)(hm:lastMarks [op,op'] [b,c]=false:=by with_unfolding_all rfl):PE X (.Compare a [op,op'] [b,c] pos) (Do r r' ta tb tc):=by
 intro pins s σ H Q I h;refine Compare_chain (aN (ha pins s σ H _ I h) λv s1 ⟨x,H1,I1,r1,q1⟩=>chain_link (aN (hb pins s1 σ H1 _ I1 q1) λu s2 ⟨y,H2,I2,r2,q2⟩=>
  aN (ho pins s2 σ H2 x y v u _ I2 r1 r2 q2) λd s3 ⟨z,H3,I3,r3,k,e,q3⟩=>?_)) hm
 subst e;cases r3;refine iV ?_;cases k with
 | false=>exact ite_ff ⟨.bl false,H3,I3,rfl,q3⟩
 | true=>exact ite_tt (chain_last (aN (hc pins s3 σ H3 _ I3 q3) λw' s4 ⟨z',H4,I4,r4,q4⟩=>ho' pins s4 σ H4 y z' u w' Q I4 r2 r4 q4))
theorem y_ {op op':CmpOp}{r r':R2}(ho:bY X (compareOp op) r)(ho':bY X (compareOp op') r')(ha:PE X a ta)(hb:PE X b tb)(hc:PE X c tc)(hm:lastMarks [op,op'] [b,c]=false:=by with_unfolding_all rfl):PT X (.Compare a [op,op'] [b,c] pos) (BZ (Do r r' ta tb tc)):=by
 intro pins s σ H Q I h;refine isTrue_chain (aN (ha pins s σ H _ I h) λv s1 ⟨x,H1,I1,r1,q1⟩=>test_link (aN (hb pins s1 σ H1 _ I1 q1) λu s2 ⟨y,H2,I2,r2,q2⟩=>
  aN (ho pins s2 σ H2 x y v u _ I2 r1 r2 q2) λd s3 ⟨z,H3,I3,r3,k,e,q3⟩=>?_)) hm
 subst e;cases r3;refine iV ?_;cases k with
 | false=>
  refine ar q3 λk' e' q'=>?_;clear q3;cases e';exact ite_ff ⟨H3,I3,q'⟩
 | true=>
  refine ite_tt (test_last (aN (hc pins s3 σ H3 _ I3 q3) λw' s4 ⟨z',H4,I4,r4,q4⟩=>aN (ho' pins s4 σ H4 y z' u w' _ I4 r2 r4 q4) λd' s5 ⟨z2,H5,I5,r5,k2,e2,q5⟩=>?_));subst e2;cases r5;exact iV ⟨H5,I5,q5⟩
def uG (K:Frag)(x:V)(H:Hp)(k:Bool):Prop:=
 match x with
 | .non=>k=false
 | .bl b=>k=b
 | .int i=>k=(i != 0)
 | .str y=>y.length<=sizeLine/\k=((y.length:Int) != 0)
 | .byt y=>y.size<=sizeLine/\k=((y.size:Int) != 0)
 | .ref p=>(∃ xs,aj K H p xs/\k=!xs.isEmpty)\/(∃ xs,aB K H p xs/\k=!xs.isEmpty)\/∃ kvs,H p=some (.dK kvs)/\k=!kvs.isEmpty
 | _=>False
theorem Hs {κ:Type}{kvs:List (κ×V)}{vs:List (κ×Value)}(r:KV kvs vs):(!vs.isEmpty)=!kvs.isEmpty:=by
 cases r <;> rfl
theorem D6 {xs:List V}{its:List Value}(r:av xs its):(!its.toArray.isEmpty)=!xs.isEmpty:=by
 cases r <;> simp
theorem tZ:(sizeLine:Nat)<2 ^ 63:=by rw[sizeLine_eq];decide
theorem oC:AM X (λx H Q=>∃ k,uG X.K x H k/\Q k H):=by
 intro pins s σ H x v Q I rx h;refine ar h λk e q=>?_;clear h;have hl:=tZ;have hs:sizeLine=16777216:=sizeLine_eq;cases x with
 | non=>
  cases rx;have e':k=false:=e;subst e';exact truthy_none ⟨H,I,q⟩
 | bl b=>
  cases rx;have e':k=b:=e;subst e';exact iV ⟨H,I,q⟩
 | int i=>
  obtain⟨t,rfl⟩:=rx;have e':k=(i != 0):=e;subst e';exact PySem.P.truthy_int ⟨H,I,q⟩
 | str y=>
  obtain⟨t,rfl⟩:=rx;obtain⟨hy,e'⟩:y.length<=sizeLine/\k=((y.length:Int) != 0):=e;subst e';exact PySem.P.truthy_str ∅ ⟨H,I.tok _,q⟩
 | byt y=>
  obtain⟨t,rfl⟩:=rx;obtain⟨hy,e'⟩:y.size<=sizeLine/\k=((y.size:Int) != 0):=e;subst e';exact PySem.W.truthy_bytes ∅ ⟨H,I.tok _,q⟩
 | ref p=>
  cases rx;have e':(∃ xs,aj X.K H p xs/\k=!xs.isEmpty)\/(∃ xs,aB X.K H p xs/\k=!xs.isEmpty)\/∃ kvs,H p=some (.dK kvs)/\k=!kvs.isEmpty:=e;rcases e' with ⟨xs,hx,e'⟩|⟨xs,hx,e'⟩|⟨kvs,hx,e'⟩
  .subst e';refine aQ (I.list hx) λits r pl hz=>?_;have hlen:=r.length;exact wpAny_truthy_list pl.isList (by simp only[dh];omega) ⟨H,I.tok _,by rw[D6 r];exact q⟩
  .subst e';refine aQ (I.tuple hx) λits r pl hz=>?_;have hlen:=r.length;exact truthy_tuple pl (by simp only[dh];omega) ⟨H,I.tok _,by rw[D6 r];exact q⟩
  .subst e';obtain⟨hz,hS,vs,r,m⟩:kvs.length<=sizeLine/\(p == sysModules)=false/\∃ vs,KV kvs vs/\s.heap.DictOf (yU X.prog X.w) p vs:=I.hok p _ hx;have hlen:kvs.length=vs.length:=Paired.length r;exact wpAny_truthy_dict hS m ∅ ⟨H,I.tok _,by rw[Hs r];exact q⟩
 | _=>exact (show False from e).elim
theorem F_ (ha:PE X a ta)(he:∀ whole,isTrue a X.env whole=(do let v <- whole;standAt a.pos;holding [v] (truthy v))):
  PT X a (λσ H Q=>ta σ H λx H'=>∃ k,uG X.K x H' k/\Q k H'):=by
 intro pins s σ H Q I h;exact isTrue_plain (aN (ha pins s σ H _ I h) λv s1 ⟨x,H1,I1,r1,q1⟩=>oC pins s1 σ H1 x v Q I1 r1 q1) (he _)
theorem qe {x:V}{us:List Value}(r:av [x] us):∃ u,us=[u]/\aG x u:=by
 cases r with
 | cons r1 r2=>cases r2;exact⟨_,rfl,r1⟩
theorem vals2 {x y:V}{us:List Value}(r:av [x,y] us):∃ u w',us=[u,w']/\aG x u/\aG y w':=by
 cases r with
 | cons r1 r2=>
  cases r2 with
  | cons r3 r4=>cases r4;exact⟨_,_,rfl,r1,r3⟩
theorem nJ:gJ X (.builtin "abs") (λxs H Q=>∃ i,xs=[.int i]/\Q (.int (if i<0 then -i else i)) H):=by
 intro pins s σ H xs us Q I r h;refine ar h λi e968 q=>?_;clear h;obtain rfl:=e968;refine ar (qe r) λu e969 e970=>?_;obtain rfl:=e969;obtain⟨t,rfl⟩:=e970;exact call_abs_int λu tk=>⟨.int (if i<0 then -i else i),H,I.tok _,⟨_,rfl⟩,q⟩
theorem DR (hc:X.calm=true):gJ X (.builtin "min") (λxs H Q=>∃ i j,xs=[.int i,.int j]/\Q (.int (if j<i then j else i)) H):=by
 intro pins s σ H xs us Q I r h;refine cE h λi j e975 q=>?_;clear h;obtain rfl:=e975;refine cy (vals2 r) λu w' e976 e977 e978=>?_;obtain rfl:=e976;obtain⟨t,rfl⟩:=e977;obtain⟨t',rfl⟩:=e978;refine min_two_ints (I.ok.hd hc) λh' tk k=>⟨_,H,I.kept k,?_,q⟩
 by_cases hj:j<i
 .rw [if_pos hj,if_pos hj];exact⟨_,rfl⟩
 .rw [if_neg hj,if_neg hj];exact⟨_,rfl⟩
theorem zD:gJ X (.type "int") (λxs H Q=>(∃ i,xs=[.int i]/\Q (.int i) H)\/∃ k,xs=[.bl k]/\Q (.int (if k then 1 else 0)) H):=by
 intro pins s σ H xs us Q I r h;rcases h with ⟨i,rfl,q⟩|⟨k,rfl,q⟩
 .refine ar (qe r) λu e979 e980=>?_;obtain rfl:=e979;obtain⟨t,rfl⟩:=e980;exact call_int_int ⟨.int i,H,I,⟨_,rfl⟩,q⟩
 .refine ar (qe r) λu e981 r1=>?_;obtain rfl:=e981;cases r1;exact call_int_bool ⟨.int (if k then 1 else 0),H,I.tok _,⟨_,rfl⟩,q⟩
end
structure gU (h:Heap)(x dx C:Addr)(mA:Str->Option Value):Prop where
 obj:h.get? x=some (PySem.W.instObj C dx)
 ns:h.Ns1 dx mA
 ne:dx≠x
theorem G9 {h:Heap}{dx:Addr}{mA:Str->Option Value}(n:h.Ns1 dx mA):∃ od,h.get? dx=some od/\∀ name,PySem.W.lookIn name od=some (mA name):=by
 refine cD n λo es ep ho hd hk e9101=>?_;clear n;obtain⟨_,hm⟩:=e9101;refine⟨o,ho,λname=>?_⟩;have e:=hm name;unfold nsFind findBy at e;rw[<- Array.find?_toList] at e;unfold PySem.W.lookIn;rw[hd];dsimp only;split
 .rename_i y q
  rw[q] at e;exact ig some e
 .rename_i q
  rw[q] at e;have a:es.toList.any (·.refKey)=false:=by
   rw[List.any_eq_false];intro y hy;refine i9 (hk y (Array.mem_toList_iff.mp hy)) λz t hkey=>?_;simp[DictEntry.refKey,hkey]
  have a':¬ es.toList.any (·.refKey)=true:=by rw[a];exact eo
  rw[if_neg a'];exact ig some e
theorem gU.look {h:Heap}{x dx C:Addr}{mA:Str->Option Value}(I:gU h x dx C mA):∃ od,PySem.W.InstAt h x (PySem.W.instObj C dx) C (some od)/\∀ name,PySem.W.lookIn name od=some (mA name):=
 let ⟨od,ho,hl⟩:=G9 I.ns
 ⟨od,⟨I.obj,rfl,rfl,ho⟩,hl⟩
section
variable {prog:Program}{w:World}{A:Around}{E:Value->Shared->Prop}{s:Shared}{K:Frag}{x dx C f:Addr}{mA:Str->Option Value}{name:Str}{v:Value}
theorem lR {expr:Bool}{Q:Value->Shared->Prop}(X:K.In s.heap)(I:gU s.heap x dx C mA)(hg:PySem.W.plainGet K C name=true)(hh:PySem.W.hasDictIn K C=true)(ha:PySem.W.findIn K (.ref C) name=some none)(hv:mA name=some v)(hv':PySem.W.handedIn v=true)(h:Q v { s with toks:=s.toks+1 }):
  wpAny (model prog w) A (getAttr (.ref x) name expr) Q E s:=by
 refine ar I.look λod J hl=>?_;exact PySem.W.get_value X J (AZ hg).1 (PySem.W.findObj_own hh ha rfl (by rw[hl,hv])) hv' h
theorem Fv {pl:Sem Bool}{Q:Value×List Value->Shared->Prop}(X:K.In s.heap)(I:gU s.heap x dx C mA)(hg:PySem.W.plainGet K C name=true)(hf:PySem.W.findIn K (.ref C) name=some (some (.ref f)))(ht:PySem.W.isFn K (.ref f)=true)(hv:mA name=none)(h:Q (.ref f,[.ref x]) s):
  wpAny (model prog w) A (getMethod (.ref x) name pl) Q E s:=by
 refine ar I.look λod J hl=>?_;exact PySem.W.method_fn X J (AZ hg).1 (AZ hg).2 hf (dY.mp ht) (by show (PySem.W.lookIn name od).map (·.isSome)=some false;rw[hl,hv];rfl) h
theorem ko {ns:List Str}{Q:Unit->Shared->Prop}(X:K.In s.heap)(I:gU s.heap x dx C mA)(hs:PySem.W.findIn K (.ref C) "__setattr__" = some (some (.builtin "object.__setattr__")))(hp:PySem.W.plainOver K C=true)(ht:PySem.W.takerIn K C name=some none)(hh:PySem.W.hasDictIn K C=true)(hw:PySem.Within mA ns)(hsz:ns.length<=sizeLine)(h:∀ h',gU h' x dx C (λy=>if y=name then some v else mA y)->Heap.SameBut dx s.heap h'->Q () { s with heap:=h',toks:=s.toks+2 }):
  wpAny (model prog w) A (setAttr (.ref x) name v) Q E s:=by
 refine ar I.look λod J hl=>?_;refine PySem.W.set_plain X J hs (PySem.W.osa_open (s:={ s with toks:=s.toks+1 }) (r:=none) X J hp ht λb=>?_);refine ar (PySem.W.any_some hh) λcd hc hd'=>?_;have hx:s.heap.get? x=some ⟨.ref C,some dx,.plain,#[]⟩:=I.obj;refine bN (df (bN (bN (wpAny_loadPart hx (bN (PySem.W.Looks.here (s:={ s with toks:=s.toks+1 }) (PySem.W.looks_clsIn X hc) ?_))))));rw[hd'];refine df (a:=some dx) (bN (df (bN ?_)));refine wpAny_nsSet1 (s:={ s with toks:=s.toks+1 }) I.ns λh' hn2 hs2=>?_;refine g8 (hn2.count (PySem.Within.cons name v hw)) λoD esD epD hoD hdD hcD=>?_;refine bN (wpAny_lookBehind hoD (by rw[hdD];exact pastItsLine_dict (cx hcD (by rw[iU];omega))) ?_);exact df (h _ ⟨(hs2.2 _ (fq I.ne)).trans I.obj,hn2,I.ne⟩ hs2)
theorem FA {R:Result->Shared->Prop}{vs:List Value}{kw:List (Str×Value)}(X:K.In s.heap)(hm:PySem.W.makesIn K C=true)(hi:PySem.W.findIn K (.ref C) "__init__" = some (some (.ref f)))(hf:PySem.W.typeIn K (.ref f)=some (.type "function"))(h:codeAny (model prog w) (A.under (.builtin "type.__call__" ⟨.ref C::vs,kw⟩)) (.call (.ref f) ⟨.ref (s.heap.objs.size+1)::vs,kw⟩) (PySem.W.InitBack (s.heap.objs.size+1) R)
   { s with heap:=(s.heap.push PySem.W.emptyDict).push (PySem.W.instObj C s.heap.objs.size) }):
  codeAny (model prog w) A (.call (.ref C) ⟨vs,kw⟩) R s:=by
 obtain⟨hh,g,d,t,os⟩:=s;exact PySem.W.make_core (PySem.W.makes_of X hm) (PySem.W.looks_findIn X hi) (λself=>PySem.W.bind_fn X self hf) (.inl rfl) h
end
def bP (f:Str)(v:V):List (Str×V)->List (Str×V)
 | []=>[(f,v)]
 | (g,x)::r=>if g=f then (g,v)::r else (g,x)::bP f v r
theorem fX (f g:Str)(v:V):∀ fs:List (Str×V),(bP f v fs).lookup g=if g=f then some v else fs.lookup g
 | []=>by
  show List.lookup g [(f,v)]=_;by_cases h:g=f
  .have hb:(g == f)=true:=dY.mpr h;simp only[List.lookup,hb,if_pos h]
  .have hb:(g == f)=false:=xw.mpr h;simp only[List.lookup,hb,if_neg h]
 | (k,x)::r=>by
  have ih:=fX f g v r;rw[show bP f v ((k,x)::r)=(if k=f then (k,v)::r else (k,x)::bP f v r) from rfl];by_cases hk:k=f
  .rw [if_pos hk];by_cases h:g=k
   .have hb:(g == k)=true:=dY.mpr h;simp only[List.lookup,hb,if_pos (h.trans hk)]
   .have hb:(g == k)=false:=xw.mpr h;simp only[List.lookup,hb,if_neg (λe:g=f=>h (e.trans hk.symm))]
  .rw [if_neg hk];by_cases h:g=k
   .have hb:(g == k)=true:=dY.mpr h;simp only[List.lookup,hb,if_neg (λe:g=f=>hk (h.symm.trans e))]
   .have hb:(g == k)=false:=xw.mpr h;simp only[List.lookup,hb];exact ih
theorem zj (f:Str)(v:V):∀ fs:List (Str×V),f∈(bP f v fs).map (·.1)/\∀ g,g∈fs.map (·.1)->g∈(bP f v fs).map (·.1)
 | []=>⟨by simp[bP],λg h=>by simp at h⟩
 | (k,x)::r=>by
  obtain⟨i1,i2⟩:=zj f v r;rw[show bP f v ((k,x)::r)=(if k=f then (k,v)::r else (k,x)::bP f v r) from rfl];by_cases hk:k=f
  .rw [if_pos hk];subst hk;exact⟨by simp,λg h=>by simpa using h⟩
  .rw [if_neg hk];refine⟨?_,λg h=>?_⟩
   .rw [List.map_cons];exact j7 _ i1
   .rw [List.map_cons] at h ⊢;rcases fH.mp h with e|e
    .exact fH.mpr (.inl e)
    .exact j7 _ (i2 g e)
theorem qx (f:Str)(v:V):∀ fs:List (Str×V),(bP f v fs).length<=fs.length+1
 | []=>by simp[bP]
 | (k,x)::r=>by
  have ih:=qx f v r;rw[show bP f v ((k,x)::r)=(if k=f then (k,v)::r else (k,x)::bP f v r) from rfl];by_cases hk:k=f
  .rw [if_pos hk,iU,iU];omega
  .rw [if_neg hk,iU,iU];omega
theorem eW.some_of {v:V}{o:Option Value}(r:eW (some v) o):∃ u,o=some u/\aG v u:=by
 cases o with
 | none=>exact (show False from r).elim
 | some u=>exact⟨u,rfl,r⟩
theorem eW.none_of {o:Option Value}(r:eW none o):o=none:=by
 cases o with
 | none=>rfl
 | some u=>exact (show False from r).elim
theorem GS {v:V}{u:Value}(r:aG v u):PySem.W.handedIn u=true:=by
 cases v with
 | non=>cases (show u=Value.none from r);rfl
 | bl b=>cases (show u=Value.bool b from r);rfl
 | int i=>obtain⟨t,e⟩:=(show ∃ t,u=Value.int i t from r);cases e;rfl
 | str x=>obtain⟨t,e⟩:=(show ∃ t,u=Value.str x t from r);cases e;rfl
 | byt b=>obtain⟨t,e⟩:=(show ∃ t,u=Value.bytes b t from r);cases e;rfl
 | flt b=>obtain⟨t,e⟩:=(show ∃ t,u=Value.float b t from r);cases e;rfl
 | ref a=>cases (show u=Value.ref a from r);rfl
 | ty n=>cases (show u=Value.type n from r);rfl
section
variable {P:Program}{w:World}{H H':Hp}{h h':Heap}{a C dx:Addr}{fs fs':List (Str×V)}
theorem wc (hok:dQ P w H h)(e:H a=some (.ins C dx fs)):∃ mA,gU h a dx C mA/\(∀ f,eW (fs.lookup f) (mA f))/\PySem.Within mA (fs.map (·.1))/\fs.length<=1000/\H dx=some (.own a):=by
 refine cY (show bG P w H h a (.ins C dx fs) from hok a _ e) λd z ne ob e9102=>?_;obtain⟨mA,n,r,q⟩:=e9102;exact⟨mA,⟨ob,n,ne⟩,r,q,z,d⟩
end
structure gE (K:Frag)(C:Addr):Prop where
 pg:PySem.W.plainGet K C Str.empty=true
 hd:PySem.W.hasDictIn K C=true
 po:PySem.W.plainOver K C=true
 sa:PySem.W.findIn K (.ref C) "__setattr__" = some (some (.builtin "object.__setattr__"))
theorem gE.get {K:Frag}{C:Addr}(c:gE K C)(f:Str):PySem.W.plainGet K C f=true:=c.pg
def bK (K:Frag)(C:Addr)(f:Str):Prop:=PySem.W.findIn K (.ref C) f=some none
theorem bK.taker {K:Frag}{C:Addr}{f:Str}(n:bK K C f):PySem.W.takerIn K C f=some none:=by
 unfold PySem.W.takerIn;rw[show PySem.W.findIn K (.ref C) f=some none from n];rfl
structure IK (K:Frag)(C:Addr)(f:Str)(v:V)(u:Value):Prop where
 at_:PySem.W.findIn K (.ref C) f=some (some u)
 rel:aG v u
 get:PySem.W.specialIn K u "__get__" = some none
 cp:PySem.W.copiedNames.contains f=false
structure gW (K:Frag)(C:Addr)(m:Str)(f:Addr):Prop where
 at_:PySem.W.findIn K (.ref C) m=some (some (.ref f))
 fn:PySem.W.isFn K (.ref f)=true
 kp:PySem.W.keepIn K (.ref f)=true
section
variable {X:Cx}{pins:List (Addr×Obj)}{σ:St}{H:Hp}{s:Shared}{a C dx:Addr}{fs:List (Str×V)}{f:Str}{v:V}{A:Around}{E:Value->Shared->Prop}
theorem Hr {b:Bool}{Q:Value->Shared->Prop}(I:au X pins σ H s)(e:H a=some (.ins C dx fs))(c:gE X.K C)(n:bK X.K C f)(l:fs.lookup f=some v)(h:∀ u s',au X pins σ H s'->aG v u->Q u s'):wpAny (model X.prog X.w) A (getAttr (.ref a) f b) Q E s:=by
 refine tN (wc I.hok e) λmA O r _ _ _=>?_;obtain⟨u,hu,ru⟩:=eW.some_of (v:=v) (o:=mA f) (by rw[<- l];exact r f);exact lR I.kIn O (c.get f) c.hd n hu (GS ru) (h u _ (I.tok _) ru)
theorem D5 {m:Str}{g:Addr}{pl:Sem Bool}{Q:Value×List Value->Shared->Prop}(I:au X pins σ H s)(e:H a=some (.ins C dx fs))(c:gE X.K C)(k:gW X.K C m g)(l:fs.lookup m=none)(h:Q (.ref g,[.ref a]) s):wpAny (model X.prog X.w) A (getMethod (.ref a) m pl) Q E s:=by
 refine tN (wc I.hok e) λmA O r _ _ _=>?_;have hn:mA m=none:=eW.none_of (by rw[<- l];exact r m);exact Fv I.kIn O (c.get m) k.at_ k.fn hn h
theorem HH {y:V}{u:Value}{Q:Unit->Shared->Prop}(I:au X pins σ H s)(e:H a=some (.ins C dx fs))(c:gE X.K C)(n:bK X.K C f)(hl:fs.length<1000)(ry:aG y u)(h:∀ s',au X pins σ (ao H a (.ins C dx (bP f y fs))) s'->Q () s'):wpAny (model X.prog X.w) A (setAttr (.ref a) f u) Q E s:=by
 refine tN (wc I.hok e) λmA O r wi _ ho=>?_;have hz:(fs.map (·.1)).length<=sizeLine:=by rw[aA,sizeLine_eq];omega
 refine ko I.kIn O c.sa c.po n.taker c.hd wi hz λh' O' sb=>h _ ?_;have hd:∃ o,h'.get? dx=some o:=let ⟨o,_,_,e',_⟩:=O'.ns;⟨o,e'⟩;refine I.write (x:=a) (e:=dx) (by rw[e];exact True.intro) (.inr ho) (λb q hb z=>(sb.2 b hb).trans z) hd ?_;refine⟨by rw[aJ O.ne];exact ho,?_,O.ne,O'.obj,_,O'.ns,λg=>?_,λg hg=>?_⟩
 .have:=qx f y fs;omega
 .show eW ((bP f y fs).lookup g) (if g=f then some u else mA g);rw[fX];by_cases q:g=f
  .rw [if_pos q,if_pos q];exact ry
  .rw [if_neg q,if_neg q];exact r g
 .by_cases q:g=f
  .rw [q];exact (zj f y fs).1
  .refine (zj f y fs).2 g (wi g λz=>hg ?_);show (if g=f then some u else mA g)=none;rw[if_neg q];exact z
theorem au.made (I:au X pins σ H s):au X pins σ (ao (ao H s.heap.objs.size (.own (s.heap.objs.size+1))) (s.heap.objs.size+1) (.ins C s.heap.objs.size []))
  { s with heap:=(s.heap.push PySem.W.emptyDict).push (PySem.W.instObj C s.heap.objs.size) }:=by
 have e1:(s.heap.push PySem.W.emptyDict).get? s.heap.objs.size=some PySem.W.emptyDict:=gA s.heap rfl;have e2:((s.heap.push PySem.W.emptyDict).push (PySem.W.instObj C s.heap.objs.size)).get? (s.heap.objs.size+1)=some (PySem.W.instObj C s.heap.objs.size):=by
  have:=gA (s.heap.push PySem.W.emptyDict) (o:=PySem.W.instObj C s.heap.objs.size) rfl;rwa [qF] at this
 have e3:(s.heap.push PySem.W.emptyDict).Ns s.heap.objs.size (λ_=>none):=⟨PySem.W.emptyDict,#[],_,e1,rfl,(λe he=>absurd he (by simp)),λ_=>rfl⟩
 have I1:=I.laid (a:=s.heap.objs.size) (o:=.own (s.heap.objs.size+1)) (h':=s.heap.push PySem.W.emptyDict) (t':=s.toks) (λb u q=>dC _ q) (aI _) ⟨_,e1⟩;refine I1.laid (a:=s.heap.objs.size+1) (o:=.ins C s.heap.objs.size []) (t':=s.toks) (λb u q=>dC _ q) (Nat.le_of_eq (qF _ _)) ?_;have ne:s.heap.objs.size≠s.heap.objs.size+1:=d8 (uW _);refine⟨by rw[aJ ne,aw],eB _,ne,e2,λ_=>none,(Heap.Ns1.of_empty e3).at λo q=>dC _ q,λ_=>True.intro,λy hy=>absurd rfl hy⟩
theorem lY {prog:Program}{w:World}{env:Env}{e:Expr}{f:Str}{pos:Pos}{s:Shared}{Q:Value->Shared->Prop}(hb:attributeBase e f env (eval e env)=eval e env)(h:wpAny (model prog w) A (eval e env) (λo s₁=>wpAny (model prog w) A (getAttr o f true) Q E s₁) E s):wpAny (model prog w) A (eval (.Attribute e f pos) env) Q E s:=
 Attribute_any_ h (by rw[arm_eval_Attribute,hb])
end
def tFld (K:Frag)(ta:TE)(f:Str):TE:=λσ H Q=>ta σ H λx H1=>∃ a C dx fs v,x=.ref a/\H1 a=some (.ins C dx fs)/\gE K C/\bK K C f/\fs.lookup f=some v/\Q v H1
def sFld (K:Frag)(ta tv:TE)(f:Str):TS:=λD σ H=>tv σ H λy H1=>ta σ H1 λx H2=>∃ a C dx fs,x=.ref a/\H2 a=some (.ins C dx fs)/\gE K C/\bK K C f/\fs.length<1000 /\
 D.nx σ (ao H2 a (.ins C dx (bP f y fs)))
section
variable {X:Cx}{o e value:Expr}{f:Str}{pos pos' tpos:Pos}{ta tv:TE}
theorem gM (he:PE X e ta)(hb:attributeBase e f X.env (eval e X.env)=eval e X.env):PE X (.Attribute e f pos) (tFld X.K ta f):=by
 intro pins s σ H Q I h;refine lY hb (aN (he pins s σ H _ I h) λu s1 ⟨x,H1,I1,rx,a,C,dx,fs,v,ex,ea,c,n,l,q⟩=>?_);subst ex;obtain rfl:u=Value.ref a:=rx;exact Hr I1 ea c n l λu' s2 I2 ru=>⟨v,H1,I2,ru,q⟩
theorem qj (ha:PE X o ta)(hv:PE X value tv)(hs:swapsWith value (some (.Attribute o f pos')) pos.line X.env=pure false):PS X (.Assign [.Attribute o f pos'] value pos) (sFld X.K ta tv f):=by
 intro pins s σ H D I h;refine plainObj_wpAny_Assign_Attribute (aN (hv pins s σ H _ I h) λu s1 ⟨y,H1,I1,ry,q⟩=>aN (ha pins s1 σ H1 _ I1 q) λov s2 ⟨x,H2,I2,rx,a,C,dx,fs,ex,ea,c,n,l,q2⟩=>?_) hs;subst ex;obtain rfl:ov=Value.ref a:=rx;exact HH I2 ea c n l ry λs3 I3=>⟨σ,_,I3,q2⟩
theorem mX {pl:Sem Bool}{m:Str}{apos:Pos}{args:List Expr}{pins:List (Addr×Obj)}{s:Shared}{σ:St}{H:Hp}{Q:Value->Shared->Prop}{te:TE}(he:PE X e te)(I:au X pins σ H s)(h:te σ H λx H1=>∃ a C dx fs g,x=.ref a/\H1 a=some (.ins C dx fs)/\gE X.K C/\gW X.K C m g/\fs.lookup m=none /\
   ∀ s1,au X pins σ H1 s1->wpAny (model X.prog X.w) X.A (callWith pos (.ref g) [.ref a] (backTo pos (starEach args X.env)) (backToKw pos (keywordEach [] X.env))) Q X.xe s1)(ht:eval (.Call (.Attribute e m apos) args [] pos) X.env=(do
   let ov <- eval e X.env
   standAt apos.atName
   let (f,first) <- holding [ov] (getMethod ov m pl)
   callWith pos f first (backTo pos (starEach args X.env)) (backToKw pos (keywordEach [] X.env)))):
  wpAny (model X.prog X.w) X.A (eval (.Call (.Attribute e m apos) args [] pos) X.env) Q X.xe s:=by
 refine PySem.W.methodCall_KW (pl:=pl) (aN (he pins s σ H _ I h) λu s1 ⟨x,H1,I1,rx,a,C,dx,fs,g,ex,ea,c,k,l,q⟩=>?_) ht;subst ex;obtain rfl:u=Value.ref a:=rx;exact D5 I1 ea c k l (q s1 I1)
end
section
variable {X:Cx}{pins:List (Addr×Obj)}{σ:St}{H:Hp}{s:Shared}{A:Around}{E:Value->Shared->Prop}{Q:Value->Shared->Prop}{c:Value}{b:Bool}
inductive cO (K:Frag) (H:Hp):V->Value->Prop where
 | non:cO K H .non (.type "NoneType")
 | bl (x:Bool):cO K H (.bl x) (.type "bool")
 | int (i:Int):cO K H (.int i) (.type "int")
 | str (x:Str):cO K H (.str x) (.type "str")
 | flt (x:UInt64):cO K H (.flt x) (.type "float")
 | lst {a:Addr} {xs:List V} (e:H a=some (.lst xs)):cO K H (.ref a) (.type "list")
 | frz {a:Addr} {o:Obj} {xs:List V} (e:H a=some (.frz o (.lst xs))):cO K H (.ref a) (.type "list")
 | tup {a:Addr} {xs:List V} (e:H a=some (.tup xs)):cO K H (.ref a) (.type "tuple")
 | dK {a:Addr} {kvs:List (fG×V)} (e:H a=some (.dK kvs)):cO K H (.ref a) (.type "dict")
 | dT {a:Addr} {kvs:List (List fG×V)} (e:H a=some (.dT kvs)):cO K H (.ref a) (.type "dict")
 | ins {a C dx:Addr} {fs:List (Str×V)} (e:H a=some (.ins C dx fs)) (cl:gE K C) (ha:PySem.W.findIn K (.ref C) "__class__" = some (some (.builtin "object.__class__")))
   (hn:PySem.W.specialIn K (.builtin "object.__class__") "__get__" = some (some (.builtin "getset_descriptor.__get__"))) (htk:PySem.W.takesIn K (.builtin "object.__class__")=some true)
   (hm:PySem.W.mroIn K C (.type "object")=some true):cO K H (.ref a) (.ref C)
theorem GY {x:V}{u t:Value}(I:au X pins σ H s)(rx:aG x u)(ty:cO X.K H x t)(e:PySem.W.kitOne X.K t c=some b)(h:∀ tk,Q (.bool b) { s with toks:=tk }):
  wpAny (model X.prog X.w) A (call (.builtin "isinstance") [u,c]) Q E s:=by
 cases ty with
 | non=>cases (show u=Value.none from rx);exact jE PySem.W.kitx_none I.kIn True.intro e (λz=>nomatch z) h
 | bl y=>cases (show u=Value.bool y from rx);exact jE PySem.W.kitx_bool I.kIn True.intro e (λz=>nomatch z) h
 | int i=>obtain⟨t,q⟩:=(show ∃ t,u=Value.int i t from rx);cases q;exact jE PySem.W.kitx_int I.kIn True.intro e (λz=>nomatch z) h
 | str y=>obtain⟨t,q⟩:=(show ∃ t,u=Value.str y t from rx);cases q;exact jE PySem.W.kitx_str I.kIn True.intro e (λz=>nomatch z) h
 | flt y=>obtain⟨t,q⟩:=(show ∃ t,u=Value.float y t from rx);cases q;exact jE PySem.W.kitx_float I.kIn True.intro e (λz=>nomatch z) h
 | @lst a xs ea=>
  cases (show u=Value.ref a from rx);obtain⟨_,_,n,_,h1⟩:=(show bG X.prog X.w H s.heap a (.lst xs) from I.hok a _ ea)
  exact jE PySem.W.kitx_list I.kIn ⟨_,h1,rfl⟩ e (λz=>nomatch z) h
 | @frz a ob xs ea=>
  cases (show u=Value.ref a from rx);obtain⟨_,_,_,n,_,h1⟩:=(show bG X.prog X.w H s.heap a (.frz ob (.lst xs)) from I.hok a _ ea)
  exact jE PySem.W.kitx_list I.kIn ⟨_,h1,rfl⟩ e (λz=>nomatch z) h
 | @tup a xs ea=>
  cases (show u=Value.ref a from rx);obtain⟨_,_,_,p⟩:=(show bG X.prog X.w H s.heap a (.tup xs) from I.hok a _ ea)
  refine aQ p λo h1 h2 _=>?_;clear p;exact jE PySem.W.kitx_tuple I.kIn ⟨o,h1,h2⟩ e (λz=>nomatch z) h
 | @dK a kvs ea=>
  cases (show u=Value.ref a from rx);refine bQ (show bG X.prog X.w H s.heap a (.dK kvs) from I.hok a _ ea) λ_ _ e9107=>?_;obtain⟨vs,_,p⟩:=e9107;refine g8 p λo es ep h1 h2 _=>?_;clear p;exact jE PySem.W.kitx_dict I.kIn ⟨o,h1,h2.1⟩ e (λz=>nomatch z) h
 | @dT a kvs ea=>
  cases (show u=Value.ref a from rx);refine bQ (show bG X.prog X.w H s.heap a (.dT kvs) from I.hok a _ ea) λ_ _ e9108=>?_;obtain⟨xs,_,o,es,ep,h1,h2,_⟩:=e9108;exact jE PySem.W.kitx_dict I.kIn ⟨o,h1,h2.1⟩ e (λz=>nomatch z) h
 | @ins a C dx fs ea cl ha hn htk hm=>
  cases (show u=Value.ref a from rx);refine ar (wc I.hok ea) λmA O _=>?_;refine ar O.look λod J _=>?_;exact jE (PySem.W.kitx_own (cl.get _) cl.hd ha hn htk hm) I.kIn J e (λz=>nomatch z) h
end
structure aX (k:Nat)(A:Around):Prop where
 hd:A.handled=none
 dp:A.depth+3*k+205<recursionLimit
 un:A.units+16*k+200<cLine
theorem aX.mono {j k:Nat}{A:Around}(r:aX k A)(h:j<=k):aX j A:=⟨r.hd,by have:=r.dp;omega,by have:=r.un;omega⟩
theorem aX.m {j k:Nat}{A:Around}(r:aX k A)(h:j<=k:=by decide):aX j A:=r.mono h
theorem aX.deeper {k:Nat}{A:Around}(r:aX (k+1) A)(env:Env):aX k (A.deeper env):=
 ⟨r.hd,by have:=r.dp;show A.depth+1+3*k+205<_;omega,by have:=r.un;show A.units+3+16*k+200<_;omega⟩
theorem Hw {A:Around}{C:Addr}{us:List Value}{kw:List (Str×Value)}:(A.under (.builtin "type.__call__" ⟨.ref C::us,kw⟩)).depth=A.depth+1:=by
 first|rfl|simp[Around.under,Code.weight,Code.isCreation,Code.isGuard,Code.isCaller,Code.frames,Code.isFrame,guardIds]
theorem Hx {A:Around}{C:Addr}{us:List Value}{kw:List (Str×Value)}:(A.under (.builtin "type.__call__" ⟨.ref C::us,kw⟩)).units=A.units+1:=by
 first|rfl|simp[Around.under,Code.cUnits,Code.frames,Code.isFrame]
theorem aX.make {k:Nat}{A:Around}(r:aX (k+1) A)(C:Addr)(us:List Value)(kw:List (Str×Value)):aX k (A.under (.builtin "type.__call__" ⟨.ref C::us,kw⟩)):=
 ⟨r.hd,by have:=r.dp;rw[Hw];omega,by have:=r.un;rw[Hx];omega⟩
theorem aX.depth {k:Nat}{A:Around}(r:aX k A):A.depth<recursionLimit:=by have:=r.dp;omega
theorem aX.units {k:Nat}{A:Around}(r:aX k A):A.units+64<cLine:=by have:=r.un;omega
def ng:TA:=λ_ H Q=>Q [] H
def iH (ta:TE)(tr:TA):TA:=λσ H Q=>ta σ H λx H1=>tr σ H1 λxs H2=>Q (x::xs) H2
section
variable {X:Cx}{e:Expr}{es:List Expr}{te:TE}{t:TA}{pos:Pos}
theorem ah:PA X [] ng:=λ_ _ _ _ H Q I h=>Calls.spliced_nil ⟨[],H,I,.nil,h⟩
theorem kQ (ha:PE X e te)(hr:PA X es t)(hs:starEach (e::es) X.env=(false,eval e X.env)::starEach es X.env:=by rfl):PA X (e::es) (iH te t):=by
 intro pos pins s σ H Q I h;rw[hs];show wpAny _ _ (spliced ((false,eval e X.env)::backTo pos (starEach es X.env))) _ _ s;refine Calls.spliced_cons (aN (ha pins s σ H _ I h) λu s1 ⟨x,H1,I1,r1,q1⟩=>?_);exact aN (hr pos pins s1 σ H1 _ I1 q1) λus s2 ⟨xs,H2,I2,r2,q2⟩=>⟨x::xs,H2,I2,.cons r1 r2,q2⟩
def tTup (t:TA):TE:=λσ H Q=>t σ H λxs H1=>xs.length<=sizeLine/\∀ p,H1 p=none->Q (.ref p) (ao H1 p (.tup xs))
def tLst (t:TA):TE:=λσ H Q=>t σ H λxs H1=>xs.length<=sizeLine/\∀ p,H1 p=none->Q (.ref p) (ao H1 p (.lst xs))
theorem cb {x1}(h:PA X es t):PE X (.Tuple es x1 pos) (tTup t):=by
 intro pins s σ H Q I hq;refine wpAny_Tuple_spliced (aN (h pos pins s σ H _ I hq) λus s1 ⟨xs,H1,I1,r,z,q⟩=>⟨by rw[<- r.length];exact z,?_⟩);have hf:H1 s1.heap.objs.size=none:=I1.hok.fresh (aI _);refine aM (.ref s1.heap.objs.size) (ao H1 s1.heap.objs.size (.tup xs)) ⟨I1.laid (t':=s1.toks) (λb u e=>dC _ e) (aI _) ?_,rfl,q _ hf⟩;exact⟨z,us,r,⟨_,gA _ rfl,rfl,_,rfl⟩⟩
theorem cU (h:PA X es t):PE X (.List es pos) (tLst t):=by
 intro pins s σ H Q I hq;refine wpAny_List_spliced (aN (h pos pins s σ H _ I hq) λus s1 ⟨xs,H1,I1,r,z,q⟩=>⟨by rw[<- r.length];exact z,?_⟩);have hf:H1 s1.heap.objs.size=none:=I1.hok.fresh (aI _);refine aM (.ref s1.heap.objs.size) (ao H1 s1.heap.objs.size (.lst xs)) ⟨I1.laid (t':=s1.toks) (λb u e=>dC _ e) (aI _) ?_,rfl,q _ hf⟩;exact⟨z,us,0,r,gA _ rfl⟩
end
abbrev Sp:=List V->Hp->VK->XK->Prop
abbrev gY:=List Env->Hp->Shared->XK->Value->Shared->Prop
structure gb (P:Program)(w:World)(K:Frag)(mg:Str->Option Value)(base:Heap)(A:Around)(outer:List Env)(s:Shared)(H:Hp):Prop where
 frames:A.frames=some outer
 mod:xg K mg base
 bs:∀ b o,base.get? b=some o->s.heap.get? b=some o/\H b=none
 bsz:base.objs.size<=s.heap.objs.size
 funs:s.heap.FunFrames base outer
 frf:∀ b∈frs outer,H b=none
 hok:dQ P w H s.heap
 bare:AllBare s.gens
def CE (outer:List Env)(P:Program)(w:World)(H:Hp)(s:Shared)(Q:VK)(u:Value)(s':Shared):Prop:=
 ∃ v H',s'.os=s.os/\AllBare s'.gens/\Un (frs outer) [] H H' s.heap s'.heap/\dQ P w H' s'.heap/\aG v u/\Q v H'
def CR (CX:gY)(outer:List Env)(P:Program)(w:World)(H:Hp)(s:Shared)(Q:VK)(E:XK)(r:Result)(s':Shared):Prop:=
 match r with
 | .ok (.ret u)=>CE outer P w H s Q u s'
 | .ok _=>False
 | .error e=>CX outer H s E e s'
structure ax (P:Program)(w:World)(K:Frag)(mg:Str->Option Value)(base:Heap)(CX:gY)(k:Nat)(f:Addr)(fd:FuncData)(ps:List Str)(sp:Sp):Prop where
 len:∀ vs H Q E,sp vs H Q E->vs.length=ps.length
 run:∀ (A:Around) (outer:List Env) (s:Shared) (H:Hp) (args:Args) (us:List Value) (vs:List V) (Q:VK) (E:XK),aX k A->gb P w K mg base A outer s H->BindsTo s fd args (ps.zip us)->av vs us->sp vs H Q E->
  codeAny (model P w) A (.call (.ref f) args) (CR CX outer P w H s Q E) s
theorem gb.make {P:Program}{w:World}{K:Frag}{mg:Str->Option Value}{base:Heap}{A:Around}{outer:List Env}{s:Shared}{H:Hp}(e:gb P w K mg base A outer s H)(C:Addr)(us:List Value)(kw:List (Str×Value)):
  gb P w K mg base (A.under (.builtin "type.__call__" ⟨.ref C::us,kw⟩)) outer s H:=⟨by first|exact e.frames|(simpa [Around.under,Code.envs,Code.isFrame,pushEnvs] using e.frames),e.mod,e.bs,e.bsz,e.funs,e.frf,e.hok,e.bare⟩
section
variable {X:Cx}{pins:List (Addr×Obj)}{σ:St}{H:Hp}{s s':Shared}
theorem au.env0 (I:au X pins σ H s):gb X.prog X.w X.K X.mg X.base X.A X.stack s H:=
 ⟨I.ok.frames,I.ok.mod,I.bs,cx I.ok.bsz I.sz,I.stack,I.stkFree,I.hok,I.bare⟩
theorem au.after {Q:VK}{u:Value}(I:au X pins σ H s)(h:CE X.stack X.prog X.w H s Q u s'):EP X pins σ Q u s':=by
 refine iE h λv H' os bare un hok r q=>?_;clear h;obtain⟨hh,g,d,t,os'⟩:=s';obtain rfl:os'=s.os:=os;exact aM v H' ⟨I.call (h':=hh) (g':=g) (d':=d) (t':=t) (ch:=[]) un hok bare (λb z=>absurd z (by simp)),r,q⟩
end
def vM (sp:Sp)(dvs:List V)(E:XK)(t:TA):TE:=λσ H Q=>t σ H λvs H1=>sp (vs++dvs) H1 Q E
def yo (C:Addr)(m:Str)(sp:Sp)(dvs:List V)(E:XK)(ta:TE)(t:TA):TE:=λσ H Q=>ta σ H λx H1=>∃ a dx fs,x=.ref a/\H1 a=some (.ins C dx fs)/\fs.lookup m=none /\
 t σ H1 λvs H2=>sp (x::(vs++dvs)) H2 Q E
def ym (C:Addr)(sp:Sp)(dvs:List V)(E:XK)(t:TA):TE:=λσ H Q=>t σ H λvs H1=>∀ x dx,H1 x=none->H1 dx=none->dx≠x->
 sp (.ref x::(vs++dvs)) (ao (ao H1 dx (.own x)) x (.ins C dx [])) (λv H2=>v=.non/\Q (.ref x) H2) E
def bL (K:Frag)(fd:FuncData)(ps:List Str)(ds:List Value):Prop:=
 ∀ (s:Shared) (us:List Value),K.In s.heap->(us++ds).length=ps.length->BindsTo s fd ⟨us,[]⟩ (ps.zip (us++ds))
theorem bL.all {K:Frag}{fd:FuncData}{ps:List Str}(h:∀ us:List Value,us.length=ps.length->bindArgs fd ⟨us,[]⟩=pure (ps.zip us)):bL K fd ps []:=λs us _ hl=>by
 rw[nT] at hl ⊢;exact .of_eq (h us hl)
def qY (CX:gY)(X:Cx)(E:XK):Prop:=∀ (pins:List (Addr×Obj)) (σ:St) (H:Hp) (s:Shared) (e:Value) (s':Shared),au X pins σ H s->CX X.stack H s E e s'->X.xe e s'
section
variable {X:Cx}{CX:gY}{k:Nat}{f C:Addr}{fd:FuncData}{ps:List Str}{sp:Sp}{dvs:List V}{ds:List Value}{E:XK}{x m:Str}{p pos apos:Pos}{e o:Expr}{es:List Expr}{ta:TE}{t:TA}
theorem BH {pins:List (Addr×Obj)}{σ:St}{H:Hp}{s:Shared}{Q:VK}{us:List Value}{vs:List V}(F:ax X.prog X.w X.K X.mg X.base CX k f fd ps sp)(hr:aX k X.A)(hb:bL X.K fd ps ds)(hd:av dvs ds)(hx:qY CX X E)(I:au X pins σ H s)(r:av vs us)(h:sp (vs++dvs) H Q E):wpAny (model X.prog X.w) X.A (call (.ref f) us) (EP X pins σ Q) X.xe s:=by
 have r2:av (vs++dvs) (us++ds):=r.append hd;have hl:(us++ds).length=ps.length:=by rw[<- r2.length];exact F.len _ _ _ _ h
 refine wpAny_call (codeAny_mono (F.run X.A X.stack s H ⟨us,[]⟩ (us++ds) (vs++dvs) Q E hr I.env0 (hb s us I.kIn hl) r2 h) λr s' hq=>?_);cases r with
 | error e=>exact hx pins σ H s e s' I hq
 | ok fl=>
  cases fl with
  | ret u=>exact I.after hq
  | next=>exact False.elim hq
  | brk=>exact False.elim hq
  | cont=>exact False.elim hq
theorem kO (F:ax X.prog X.w X.K X.mg X.base CX k f fd ps sp)(hr:aX k X.A)(hg:Gl X x)(hm:X.mg x=some (.ref f))(hk:PySem.W.keepIn X.K (.ref f)=true)(hb:bL X.K fd ps ds)(hd:av dvs ds)(hx:qY CX X E)(ha:PA X (e::es) t)(hdb:(x == ("__debug__" : Str))=false:=by decide)(he:starEach (e::es) X.env=(false,eval e X.env)::starEach es X.env:=by rfl)(hpl:(backTo pos (starEach es X.env)).any (·.1)=false:=by rfl):
  PE X (.Call (.Name x p) (e::es) [] pos) (vM sp dvs E t):=by
 intro pins s σ H Q I h;refine uX (yR I hg hm ?_ hdb);refine AV (h₀:=X.base) I.ok.mod.kin hk (aN (ha pos pins s σ H _ I h) λus s1 ⟨vs,H1,I1,r,q⟩=>⟨I1.kIn,?_⟩) he hpl;exact BH F hr hb hd hx I1 r q
theorem Co {pl:Sem Bool}(he:PE X o ta)(c:gE X.K C)(hm:gW X.K C m f)(F:ax X.prog X.w X.K X.mg X.base CX k f fd ps sp)(hr:aX k X.A)(hb:bL X.K fd ps ds)(hd:av dvs ds)(hx:qY CX X E)(ha:PA X (e::es) t)(hst:starEach (e::es) X.env=(false,eval e X.env)::starEach es X.env:=by rfl)(hpl:(backTo pos (starEach es X.env)).any (·.1)=false:=by rfl)(ht:eval (.Call (.Attribute o m apos) (e::es) [] pos) X.env=(do
   let ov <- eval o X.env
   standAt apos.atName
   let (f,first) <- holding [ov] (getMethod ov m pl)
   callWith pos f first (backTo pos (starEach (e::es) X.env)) (backToKw pos (keywordEach [] X.env))):=by rfl):
  PE X (.Call (.Attribute o m apos) (e::es) [] pos) (yo C m sp dvs E ta t):=by
 intro pins s σ H Q I h;refine PySem.W.methodCall_KW (pl:=pl) (aN (he pins s σ H _ I h) λu s1 ⟨x,H1,I1,rx,a,dx,fs,ex,ea,l,q⟩=>?_) ht;subst ex;obtain rfl:u=Value.ref a:=rx;refine D5 I1 ea c hm l ?_;refine AV (first:=[.ref a]) (h₀:=X.base) I.ok.mod.kin hm.kp (aN (ha pos pins s1 σ H1 _ I1 q) λus s2 ⟨vs,H2,I2,r,q2⟩=>⟨I2.kIn,?_⟩) hst hpl;exact BH (us:=.ref a::us) (vs:=.ref a::vs) F hr hb hd hx I2 (.cons rfl r) q2
structure Mk (K:Frag)(C f:Addr):Prop where
 makes:PySem.W.makesIn K C=true
 init:PySem.W.findIn K (.ref C) "__init__" = some (some (.ref f))
 fn:PySem.W.isFn K (.ref f)=true
 kp:PySem.W.keepIn K (.ref C)=true
theorem Gd {pins:List (Addr×Obj)}{σ:St}{H:Hp}{s:Shared}{Q:VK}{us:List Value}{vs:List V}(M:Mk X.K C f)(F:ax X.prog X.w X.K X.mg X.base CX k f fd ps sp)(hr:aX (k+1) X.A)(hb:bL X.K fd ps ds)(hd:av dvs ds)(hx:qY CX X E)(I:au X pins σ H s)(r:av vs us)(h:∀ x dx,H x=none->H dx=none->dx≠x->sp (.ref x::(vs++dvs)) (ao (ao H dx (.own x)) x (.ins C dx [])) (λv H2=>v=.non/\Q (.ref x) H2) E):
  wpAny (model X.prog X.w) X.A (call (.ref C) us) (EP X pins σ Q) X.xe s:=by
 have hq:=h (s.heap.objs.size+1) s.heap.objs.size (I.hok.fresh (Nat.le_succ _)) (I.hok.fresh (aI _)) (d8 (uW _));have I2:=au.made (C:=C) I;have r2:av (V.ref (s.heap.objs.size+1)::(vs++dvs)) (Value.ref (s.heap.objs.size+1)::(us++ds)):=.cons rfl (r.append hd);have hl:(Value.ref (s.heap.objs.size+1)::us++ds).length=ps.length:=by
  have e:=r2.length;rw[F.len _ _ _ _ hq] at e;exact e.symm
 refine wpAny_call (FA (f:=f) I.kIn M.makes M.init (dY.mp M.fn) (codeAny_mono (F.run _ X.stack _ _ ⟨Value.ref (s.heap.objs.size+1)::us,[]⟩ (Value.ref (s.heap.objs.size+1)::(us++ds)) _ _ E (hr.make C us [])
  (I2.env0.make C us []) (hb _ (Value.ref (s.heap.objs.size+1)::us) I2.kIn hl) r2 hq) λr s' hq'=>?_))
 cases r with
 | error e=>exact hx pins σ _ _ e s' I2 hq'
 | ok fl=>
  cases fl with
  | ret u=>
   refine gh (I2.after hq') λv H' I3 rv ev q3=>?_;subst ev;exact⟨rv,⟨V.ref (s.heap.objs.size+1),H',I3,rfl,q3⟩⟩
  | next=>exact False.elim hq'
  | brk=>exact False.elim hq'
  | cont=>exact False.elim hq'
theorem kL (M:Mk X.K C f)(F:ax X.prog X.w X.K X.mg X.base CX k f fd ps sp)(hr:aX (k+1) X.A)(hg:Gl X x)(hm:X.mg x=some (.ref C))(hb:bL X.K fd ps ds)(hd:av dvs ds)(hx:qY CX X E)(ha:PA X (e::es) t)(hdb:(x == ("__debug__" : Str))=false:=by decide)(he:starEach (e::es) X.env=(false,eval e X.env)::starEach es X.env:=by rfl)(hpl:(backTo pos (starEach es X.env)).any (·.1)=false:=by rfl):
  PE X (.Call (.Name x p) (e::es) [] pos) (ym C sp dvs E t):=by
 intro pins s σ H Q I h;refine uX (yR I hg hm ?_ hdb);refine AV (h₀:=X.base) I.ok.mod.kin M.kp (aN (ha pos pins s σ H _ I h) λus s1 ⟨vs,H1,I1,r,q⟩=>⟨I1.kIn,?_⟩) he hpl;exact Gd M F hr hb hd hx I1 r q
end
section
variable {X:Cx}{CX:gY}{k:Nat}{f C:Addr}{fd:FuncData}{ps ks:List Str}{sp:Sp}{E:XK}{x m:Str}{p pos apos kpos:Pos}{e o:Expr}{es:List Expr}{kws:List Keyword}{te ta:TE}{t tk:TA}{nm:Option Str}
structure AS (K:Frag)(fd:FuncData)(ps ks:List Str)(g:List Value->List Value->List Value)(gV:List V->List V->List V):Prop where
 to:∀ (s:Shared) (us ws:List Value),K.In s.heap->(g us ws).length=ps.length->BindsTo s fd ⟨us,ks.zip ws⟩ (ps.zip (g us ws))
 rel:∀ {vs:List V} {us:List Value} {zs:List V} {ws:List Value},av vs us->av zs ws->av (gV vs zs) (g us ws)
variable {g:List Value->List Value->List Value}{gV:List V->List V->List V}
end
structure ag (N P:List Str)(sc:Scope):Prop where
 kind:sc.kind=.function
 co:sc.isCoroutine=false
 gen:sc.isGenerator=false
 nd:N.Nodup
 pre:N.take P.length=P
 par:∀ x∈P,sc.names.lookup x=some .local\/sc.names.lookup x=some .cell
 nofree:∀ y∈sc.names,y.2≠.free
theorem DP {kindOf:Str->Option NameKind}{x:Str}:∀ {binds:List (Str×Value)} {m:Str->Option Value},(∀ v,(x,v)∉binds)->bindL kindOf binds m x=m x
 | [],_,_=>rfl
 | (n,v)::r,m,h=>by
  unfold bindL;rw[DP λw hw=>h w (j7 _ hw)];split
  .have:x≠n:=by rintro rfl;exact h v nV
   simp[this]
  .rfl
theorem DN {kindOf:Str->Option NameKind}{x:Str}:∀ {binds:List (Str×Value)} {m:Str->Option Value},(∀ v,(x,v)∉binds)->bindC kindOf binds m x=m x
 | [],_,_=>rfl
 | (n,v)::r,m,h=>by
  unfold bindC;rw[DN λw hw=>h w (j7 _ hw)];split
  .rfl
  .have:x≠n:=by rintro rfl;exact h v nV
   simp[this]
theorem DO {kindOf:Str->Option NameKind}{x:Str}{v:Value}:∀ {P:List Str} {vs:List Value} {i:Nat} {m:Str->Option Value},P.Nodup->P[i]?=some x->vs[i]?=some v->kindOf x=some .local->
  bindL kindOf (P.zip vs) m x=some v
 | [],_,_,_,_,h,_,_=>by simp at h
 | _::_,[],_,_,_,_,h,_=>by simp at h
 | p::P,w::vs,0,m,nd,h1,h2,hk=>by
  simp at h1 h2;subst h1;subst h2;show bindL kindOf ((p,w)::P.zip vs) m p=_;unfold bindL;rw[DP λv hv=>(xn.mp nd).1 (List.of_mem_zip hv).1,if_pos hk];simp
 | p::P,w::vs,i+1,m,nd,h1,h2,hk=>by
  show bindL kindOf ((p,w)::P.zip vs) m x=_;unfold bindL;exact DO (i:=i) (xn.mp nd).2 (by simpa using h1) (by simpa using h2) hk
theorem DM {kindOf:Str->Option NameKind}{x:Str}{v:Value}:∀ {P:List Str} {vs:List Value} {i:Nat} {m:Str->Option Value},P.Nodup->P[i]?=some x->vs[i]?=some v->kindOf x≠some .local->
  bindC kindOf (P.zip vs) m x=some v
 | [],_,_,_,_,h,_,_=>by simp at h
 | _::_,[],_,_,_,_,h,_=>by simp at h
 | p::P,w::vs,0,m,nd,h1,h2,hk=>by
  simp at h1 h2;subst h1;subst h2;show bindC kindOf ((p,w)::P.zip vs) m p=_;unfold bindC;rw[DN λv hv=>(xn.mp nd).1 (List.of_mem_zip hv).1,if_neg hk];simp
 | p::P,w::vs,i+1,m,nd,h1,h2,hk=>by
  show bindC kindOf ((p,w)::P.zip vs) m x=_;unfold bindC;exact DM (i:=i) (xn.mp nd).2 (by simpa using h1) (by simpa using h2) hk
def start (N:List Str)(vs:List V):St:=vs.map some++List.replicate (N.length-vs.length) none
def mh (CX:gY)(P:Program)(w:World)(K:Frag)(mg:Str->Option Value)(base:Heap)(N:List Str)(qual:Str)(scope:Scope)(f:Addr)(cd:Value)(A:Around)(outer:List Env)(s:Shared)(H:Hp)(E:XK):Cx where
 prog:=P
 w:=w
 K:=K
 mg:=mg
 base:=base
 A:=A.deeper (envOfC qual scope s.heap.objs.size f cd)
 N:=N
 s₀:=s
 H₀:=H
 env:=envOfC qual scope s.heap.objs.size f cd
 outer:=outer
 stack:=envOfC qual scope s.heap.objs.size f cd::outer
 ex:=[]
 calm:=true
 fn:=λ_=>true
 pn:=[]
 xe:=λe s'=>wpAny (model P w) (A.deeper (envOfC qual scope s.heap.objs.size f cd)) (leaving (envOfC qual scope s.heap.objs.size f cd) e) (λ_ s''=>CX outer H s E e s'') (λe' s''=>CX outer H s E e' s'') s'
theorem CQ {sc:Scope}{n:Nat}{x:Str}(h:sc.names.lookup x=some .cell):∃ c,(cellsFrom n sc.names []).lookup x=some c:=by
 have q:=xD sc.names n [] (.inl h);exact Bf.mp q
theorem GV {CX:gY}{P:Program}{w:World}{K:Frag}{mg:Str->Option Value}{base:Heap}{N ps:List Str}{qual:Str}{scope:Scope}{f:Addr}{cd:Value}{A:Around}{outer:List Env}{s s1:Shared}{H:Hp}{E:XK}{us:List Value}{vs:List V}(S:ag N ps scope)(hd:A.handled=none)(e0:gb P w K mg base A outer s H)(hl:vs.length=ps.length)(r:av vs us)(x:InCallC s s.heap.objs.size (bindL (envOfC qual scope s.heap.objs.size f cd).kindOf (ps.zip us) λ_=>none) (cellsFrom (s.heap.objs.size+1) scope.names []) (bindC (envOfC qual scope s.heap.objs.size f cd).kindOf (ps.zip us) λ_=>none) s1):
  au (mh CX P w K mg base N qual scope f cd A outer s H E) [] (start N vs) H s1:=by
 have hpl:ps.length<=N.length:=by have:=ig List.length S.pre;rw[ij] at this;omega
 refine cE x.done λh1 tk e9109 hk=>?_;obtain rfl:=e9109;have noA:∀ b:Addr,b∉(mh CX P w K mg base N qual scope f cd A outer s H E).ex:=λb z=>absurd (show b∈([]:List Addr) from z) (by simp);refine⟨⟨e0.mod,S.kind,rfl,rfl,aI _,λy z c h1 h2=>?_,λy hy=>?_,λy c _ h=>?_,λ_=>hd,Around.frames_deeper e0.frames,.inr ⟨rfl,rfl⟩,λb z=>absurd z (noA b),e0.bs,e0.bsz,λb _ _=>noA b,λb z=>absurd z (noA b),e0.funs,e0.frf,⟨_,_,rfl,S.gen,S.co,rfl,rfl⟩⟩,
  rfl,e0.bare,Un.kept hk,⟨_,x.toInCall.ns,λi y v h1 h2 h3=>?_⟩,λy c h=>⟨_,x.cell y c h⟩,e0.hok.fresh (aI _),λy c h=>?_,λp hp=>absurd (show p∈([]:List (Addr×Obj)) from hp) (by simp),e0.hok.kept hk,?_⟩
 .exact name_of_addr x.apart (iX h1) (iX h2)
 .have hy:scope.names.lookup y=some .cell\/scope.names.lookup y=some .free:=hy;rcases hy with hy|hy
  .exact CQ hy
  .exact absurd rfl (S.nofree _ (iX hy))
 .exact jg (x.above y c (iX h))
 .have hi:i<vs.length:=by
   unfold start at h2;by_cases hi:i<vs.length
   .exact hi
   .rw [d_ (by simpa using hi)] at h2;rw[qM] at h2;split at h2 <;> cases h2
  have ha:vs[i]?=some v:=by
   unfold start at h2;rw[eE (by simpa using hi),bH] at h2;cases e:vs[i]? with
   | none=>rw[e] at h2;cases h2
   | some a=>rw[e] at h2;cases h2;rfl
  refine ar (r.get ha) λu hu rv=>?_;have hp:ps[i]?=some y:=by
   rw[<- S.pre,Bq ∅];exact h1
  have ndP:ps.Nodup:=by rw[<- S.pre];exact S.nd.sublist (List.take_sublist _ _)
  refine⟨u,rv,?_⟩;rcases S.par y (aY hp) with k|k
  .exact .inl ⟨k,DO ndP hp hu k⟩
  .obtain ⟨c,e⟩:=CQ (n:=s.heap.objs.size+1) k;refine .inr ⟨.inl k,c,e,?_⟩;have q:=x.cell y c e;rw[DM ndP hp hu (by show scope.names.lookup y≠_;rw[k];decide)] at q;exact q
 .exact e0.hok.fresh (jg (x.above y c (iX h)))
 .unfold start;show _=N.length;rw[bw,aA,d0];omega
theorem jq {CX:gY}{P:Program}{w:World}{K:Frag}{mg:Str->Option Value}{base:Heap}{k:Nat}{f:Addr}{name qual:Str}{params:Arguments}{body:List Stmt}{scope:Scope}{dV kV doc pm cdv ct oc:Value}{an od:Option Addr}{osl:Array (Option Value)}{N ps:List Str}{sp:Sp}(lk:K.lookup f=some ⟨oc,od,.func (PySem.W.fnOf name qual params body scope dV kV doc pm an cdv ct),osl⟩)(hcd:PySem.W.codeIn K cdv qual=true)(S:ag N ps scope)(len:∀ vs H Q E,sp vs H Q E->vs.length=ps.length)(hbody:∀ (A:Around) (outer:List Env) (s:Shared) (H:Hp) (vs:List V) (Q:VK) (E:XK),aX k (A.deeper (envOfC qual scope s.heap.objs.size f cdv))->sp vs H Q E->
   ∃ t,gT (mh CX P w K mg base N qual scope f cdv A outer s H E) body t/\t { nx:=λ_ H'=>Q .non H',rt:=Q } (start N vs) H):
  ax P w K mg base CX (k+1) f (PySem.W.fnOf name qual params body scope dV kV doc pm an cdv ct) ps sp:=by
 refine⟨len,λA outer s H args us vs Q E hr e0 hb r hsp=>?_⟩;have hl:=len _ _ _ _ hsp;have KX:K.In s.heap:=e0.mod.kin.keeps λb o e=>(e0.bs b o e).1;have lim:s.heap.NoLimit:=e0.mod.nolimit.keeps λb o e=>(e0.bs b o e).1;have hkind:∀ y∈ps.zip us,scope.names.lookup y.1=some .local\/(scope.names.lookup y.1=some .cell/\((cellsFrom (s.heap.objs.size+1) scope.names []).lookup y.1).isSome=true):=λ⟨n,v⟩ hy=>by
  rcases S.par n (List.of_mem_zip hy).1 with q|q
  .exact .inl q
  .exact .inr ⟨q,xD _ _ _ (.inl q)⟩
 refine codeAny_call_function hr.depth (KX _ _ lk) rfl S.co S.gen rfl (PySem.W.codeRec_of KX hcd) (hb _ _ _ _ ?_);refine wpAny_newFunctionEnv_cells S.kind hkind λenv he s1 x=>?_;subst he;refine⟨lim.keeps x.toInCall.keep,codeAny_func ?_⟩;refine ar (hbody A outer s H vs Q E (hr.deeper _) hsp) λt ht hq=>?_;have I:au (mh CX P w K mg base N qual scope f cdv A outer s H E) [] (start N vs) H s1:=GV S hr.hd e0 hl r x;refine iQ (ht [] s1 (start N vs) H _ I hq) (λfl s' hs=>?_) λe s' hs=>hs;have fin:∀ {σ':St} {H':Hp} {v:V} {u:Value},au (mh CX P w K mg base N qual scope f cdv A outer s H E) [] σ' H' s'->aG v u->Q v H'->CE outer P w H s Q u s':=
  λ{σ' H' v u} J rv q=>⟨v,H',J.os,J.bare,J.base,J.hok,rv,q⟩
 cases fl with
 | ret u=>
  refine g8 hs λv σ' H' J rv q=>?_;clear hs;exact fin J rv q
 | next=>
  refine cE hs λσ' H' J q=>?_;clear hs;exact fin (v:=V.non) (u:=Value.none) J rfl q
 | brk=>
  refine cE hs λ_ _ _ q=>?_;clear hs;exact False.elim q
 | cont=>
  refine cE hs λ_ _ _ q=>?_;clear hs;exact False.elim q
section
variable {X:Cx}{x:Str}{p pos:Pos}{e:Expr}{es:List Expr}{t:TA}{id T:String}{r:List V->Hp->VK->Prop}
def tCB (r:List V->Hp->VK->Prop)(t:TA):TE:=λσ H Q=>t σ H λvs H1=>r vs H1 Q
theorem FW (hc:gJ X (.builtin id) r)(hg:Gl X x)(hm:X.mg x=none)(hv:bootBuiltins x=some (.builtin id))(ha:PA X (e::es) t)(hn:x ≠ "__name__" := by decide)(hdb:(x == ("__debug__" : Str))=false:=by decide)(he:starEach (e::es) X.env=(false,eval e X.env)::starEach es X.env:=by rfl)(hpl:(backTo pos (starEach es X.env)).any (·.1)=false:=by rfl):PE X (.Call (.Name x p) (e::es) [] pos) (tCB r t):=by
 intro pins s σ H Q I h;refine uX (nE I hg hm hv ?_ hn hdb);exact PyProof.Rows.callWith_builtin1 (aN (ha pos pins s σ H _ I h) λus s1 ⟨vs,H1,I1,r1,q1⟩=>hc pins s1 σ H1 vs us Q I1 r1 q1) he hpl
theorem G0 (hc:gJ X (.type T) r)(hg:Gl X x)(hm:X.mg x=none)(hv:bootBuiltins x=some (.type T))(ha:PA X (e::es) t)(hn:x ≠ "__name__" := by decide)(hdb:(x == ("__debug__" : Str))=false:=by decide)(he:starEach (e::es) X.env=(false,eval e X.env)::starEach es X.env:=by rfl)(hpl:(backTo pos (starEach es X.env)).any (·.1)=false:=by rfl):PE X (.Call (.Name x p) (e::es) [] pos) (tCB r t):=by
 intro pins s σ H Q I h;refine uX (nE I hg hm hv ?_ hn hdb);exact vc (aN (ha pos pins s σ H _ I h) λus s1 ⟨vs,H1,I1,r1,q1⟩=>hc pins s1 σ H1 vs us Q I1 r1 q1) he hpl
end
end L2
namespace HT
open PySem PyProof.Rows
section
open PySem.SeqAt
open PySem.AutoSeq1 (wpAny_loadPart')
open PySem.MeetsSeq PySem.MeetsSeq2 PySem.MeetsSeq3
end
section
variable {prog:Program}{w:World}{A:Around}{E:Value->Shared->Prop}{s:Shared}
def sIx (n d:Nat):Option Int->Nat
 | none=>d
 | some v=>if v<0 then (v+(n:Int)).toNat else min v.toNat n
end
end HT
namespace L2
open PySem PySem.Spec PyProof.Rows
abbrev TO:=St->Hp->(Option Int->Hp->Prop)->Prop
def PO (X:Cx)(e:Option Expr)(t:TO):Prop:=
 ∀ (pins:List (Addr×Obj)) (s:Shared) (σ:St) (H:Hp) (Q:Option Int->Hp->Prop),au X pins σ H s->t σ H Q->
  wpAny (model X.prog X.w) X.A (evalPart e X.env) (λu s'=>∃ o H',au X pins σ H' s'/\IsPart u o/\Q o H') X.xe s
def IE:TO:=λ_ H Q=>Q none H
def tPart (t:TE):TO:=λσ H Q=>t σ H λx H1=>∃ i,x=.int i/\Q (some i) H1
section
variable {X:Cx}{e:Expr}{te:TE}{lo hi:Option Expr}{tl th:TO}{pos p2:Pos}
theorem Cp (h:PE X e te):PO X (some e) (tPart te):=by
 intro pins s σ H Q I hw;rw[evalPart_some];refine aN (h pins s σ H _ I hw) λu s1 ⟨x,H1,I1,r1,q1⟩=>?_;refine ar q1 λi e9110 q=>?_;clear q1;obtain rfl:=e9110;obtain⟨t,rfl⟩:=r1;exact aM (some i) H1 ⟨I1,.int i t,q⟩
def Ff (X:Cx)(r:V->Option Int->Option Int->Hp->VK->Prop):Prop:=
 ∀ (pins:List (Addr×Obj)) (s:Shared) (σ:St) (H:Hp) (x:V) (v vl vu:Value) (lo hi:Option Int) (sl:Addr) (Q:VK),au X pins σ H s->aG x v->s.heap.IsSliceOf sl vl vu .none->IsPart vl lo->IsPart vu hi->r x lo hi H Q->
  ∃ T id,typeLookup (.type T) "__getitem__" = pure (some (.builtin id))/\s.TypeIs v T/\wpAny (model X.prog X.w) X.A (getItem v (.ref sl)) (EP X pins σ Q) X.xe s
def tSl (r:V->Option Int->Option Int->Hp->VK->Prop)(te:TE)(tl th:TO):TE:=λσ H Q=>te σ H λx H1=>tl σ H1 λl H2=>th σ H2 λu H3=>r x l u H3 Q
theorem FX {r:V->Option Int->Option Int->Hp->VK->Prop}(hr:Ff X r)(he:PE X e te)(hl:PO X lo tl)(hu:PO X hi th):PE X (.Subscript e (.Slice lo hi none p2) pos) (tSl r te tl th):=by
 intro pins s σ H Q I h;refine Subscript_ (aN (he pins s σ H _ I h) λv s1 ⟨x,H1,I1,r1,q1⟩=>?_);refine wpAny_Slice (aN (hl pins s1 σ H1 _ I1 q1) λvl s2 ⟨l,H2,I2,pl,q2⟩=>aN (hu pins s2 σ H2 _ I2 q2) λvu s3 ⟨u,H3,I3,pu,q3⟩=>?_);rw[evalPart_none];refine df ?_;have I4:au X pins σ H3 { s3 with heap:=s3.heap.push { cls:=.type "slice",data:=.fields #[vl,vu,.none] } }:=I3.kept (t':=s3.toks) λb ob q=>dC _ q;refine cy (hr pins { s3 with heap:=s3.heap.push { cls:=.type "slice",data:=.fields #[vl,vu,.none] } } σ H3 x v vl vu l u s3.heap.objs.size Q I4 r1 (Heap.IsSliceOf.new ..) pl pu q3) λT id hT ht hg=>?_;show wpAny (model X.prog X.w) X.A (subscriptTail e (.Slice lo hi none p2) v (.ref s3.heap.objs.size)) (EP X pins σ Q) X.xe { s3 with heap:=s3.heap.push { cls:=.type "slice",data:=.fields #[vl,vu,.none] } };exact tail_any (ops:=[.ref s3.heap.objs.size,v]) ht hT hg (by with_unfolding_all rfl)
def cutV (xs:List V)(lo hi:Option Int):List V:=(xs.drop (HT.sIx xs.length 0 lo)).take (HT.sIx xs.length xs.length hi-HT.sIx xs.length 0 lo)
theorem HM (xs:List V)(lo hi:Option Int):(cutV xs lo hi).length<=xs.length:=by
 unfold cutV;rw[ij,sq];omega
end
def ixN (n:Nat)(i:Int):Option Nat:=if 0<=i then (if i<n then some i.toNat else none) else if -(n:Int)<=i then some (i+n).toNat else none
def atI {α:Type}(xs:List α)(i:Int):Option α:=(ixN xs.length i).bind λj=>xs[j]?
theorem B_ {n:Nat}{i:Int}{j:Nat}(h:ixN n i=some j):seqIndex? i n=some j/\j<n/\-(n:Int)<=i/\i<n:=by
 unfold ixN at h;by_cases h0:0<=i
 .rw [if_pos h0] at h;by_cases h1:i<n
  .rw [if_pos h1] at h;have e:i.toNat=j:=fJ h;exact⟨by rw[seqIndex_of h0 h1,e],∅,∅,h1⟩
  .rw [if_neg h1] at h;cases h
 .rw [if_neg h0] at h;by_cases h1:-(n:Int)<=i
  .rw [if_pos h1] at h;have e:(i+n).toNat=j:=fJ h;exact⟨by rw[seqIndex_neg ∅ h1,e],∅,h1,∅⟩
  .rw [if_neg h1] at h;cases h
theorem B1 {α:Type}{xs:List α}{i:Int}{v:α}(h:atI xs i=some v):∃ j,seqIndex? i xs.length=some j/\xs[j]?=some v/\j<xs.length/\-(xs.length:Int)<=i/\i<xs.length:=by
 unfold atI at h;cases e:ixN xs.length i with
 | none=>rw[e] at h;cases h
 | some j=>
  rw[e] at h;refine cG (B_ e) λh1 h2 h3 h4=>?_;exact⟨j,h1,h,h2,h3,h4⟩
theorem l6 {α:Type}{xs:List α}{j:Nat}{v:α}(h:xs[j]?=some v):atI xs (j:Int)=some v:=by
 have hj:j<xs.length:=(cj.mp h).1;have e:ixN xs.length (j:Int)=some j:=by
  unfold ixN;rw[if_pos ∅,if_pos ∅];simp
 unfold atI;rw[e];exact h
theorem Fp {α:Type}(xs:List α)(v:α):atI (xs++[v]) (-1)=some v:=by
 have hl:(xs++[v]).length=xs.length+1:=by simp
 have e:ixN (xs++[v]).length (-1)=some xs.length:=by
  unfold ixN;rw[hl,if_neg ⇑0,if_pos ∅];congr 1;omega
 unfold atI;rw[e];show (xs++[v])[xs.length]?=some v;simp
def mI (b:Expr):Prop:=∀ o i,subscripted b false o i=operate [o,i] (getItem o i)
def mO (X:Cx)(r:R2):Prop:=
 ∀ (value slice:Expr) (pins:List (Addr×Obj)) (s:Shared) (σ:St) (H:Hp) (x y:V) (v u:Value) (Q:VK),au X pins σ H s->aG x v->aG y u->r x y H Q->
  subscripted slice false v u=operate [v,u] (getItem v u)->wpAny (model X.prog X.w) X.A (subscriptTail value slice v u) (EP X pins σ Q) X.xe s
def xc (X:Cx)(id:String)(r:V->List V->Hp->VK->Prop):Prop:=
 ∀ (pins:List (Addr×Obj)) (s:Shared) (σ:St) (H:Hp) (x:V) (xs:List V) (v:Value) (us:List Value) (Q:VK),au X pins σ H s->aG x v->av xs us->r x xs H Q->
  wpAny (model X.prog X.w) X.A (call (.builtin id) (v::us)) (EP X pins σ Q) X.xe s
section
variable {X:Cx}{a b:Expr}{ta tb:TE}{pos:Pos}
theorem sP {r:R2}(hr:mO X r)(ha:PE X a ta)(hb:PE X b tb)(hs:mI b):PE X (.Subscript a b pos) (tOp r ta tb):=by
 intro pins s σ H Q I h;exact Subscript_ (binT ha hb I h λv u s2 x y H2 I2 rx ry q=>hr a b pins s2 σ H2 x y v u Q I2 rx ry q (hs _ _))
def rIxL (K:Frag):R2:=λx y H Q=>∃ p xs i v,x=.ref p/\y=.int i/\aj K H p xs/\atI xs i=some v/\Q v H
def rIxT (K:Frag):R2:=λx y H Q=>∃ p xs i v,x=.ref p/\y=.int i/\aB K H p xs/\atI xs i=some v/\Q v H
theorem aV:mO X (rIxL X.K):=by
 intro value slice pins s σ H x y v u Q I rx ry h hs;refine d6 h λp xs i z e9120 e9121 hq e9122=>?_;clear h;obtain rfl:=e9120;obtain rfl:=e9121;obtain⟨he,q⟩:=e9122;cases rx;obtain⟨t,rfl⟩:=ry;refine aQ (I.list hq) λits r pl hz=>?_;refine tN (B1 he) λj h1 h2 h3 h4 h5=>?_;refine ar (r.get h2) λw ew rw'=>?_;have hl:=r.length;have hn:=tZ;have fin:EP X pins σ Q w s:=⟨z,H,I,rw',q⟩
 by_cases h0:0<=i
 .have hj:i.toNat=j:=by
   rw[seqIndex_of h0 h5] at h1;exact fJ h1
  exact item_listR pl.isList h0 ∅ (by rw[hj];simpa using ew) fin hs
 .have hj:(i+(its.toArray.size:Int)).toNat=j:=by
   rw[seqIndex_neg ∅ h4] at h1;rw[dh,<- hl];exact fJ h1
  exact subscriptTail_builtinR (x:=w) pl.isList.typeIs slot_list_getitem.lookup
   (wpAny_getItem_list_neg (Q:=λr s'=>r=w/\EP X pins σ Q r s') pl.isList ∅ (by rw[dh] <;> omega) ∅ (by rw[hj];simpa using ew) ⟨rfl,fin⟩) hs
theorem bC:mO X (rIxT X.K):=by
 intro value slice pins s σ H x y v u Q I rx ry h hs;refine d6 h λp xs i z e9123 e9124 hq e9125=>?_;clear h;obtain rfl:=e9123;obtain rfl:=e9124;obtain⟨he,q⟩:=e9125;cases rx;obtain⟨t,rfl⟩:=ry;refine aQ (I.tuple hq) λits r pl hz=>?_;refine tN (B1 he) λj h1 h2 h3 h4 h5=>?_;refine ar (r.get h2) λw ew rw'=>?_;have hl:=r.length;have hn:=tZ;have fin:EP X pins σ Q w s:=⟨z,H,I,rw',q⟩
 exact subscriptTail_builtinR (x:=w) pl.typeIs slot_tuple_getitem.lookup
  (getItem_tuple (j:=j) (Q:=λr s'=>r=w/\EP X pins σ Q r s') pl ∅ ∅ (by rw[dh,<- hl];exact h1) (by simpa using ew) ⟨rfl,fin⟩) hs
theorem HE (its:List Value)(n j:Nat)(u:Value):Obj.mapSeq (·.setIfInBounds j u) { cls:=.type "list",data:=.seq its.toArray n }={ cls:=.type "list",data:=.seq (its.set j u).toArray n }:=by
 simp[Obj.mapSeq]
theorem au.lst {pins:List (Addr×Obj)}{σ:St}{H:Hp}{s:Shared}{p:Addr}{xs:List V}(I:au X pins σ H s)(h:H p=some (.lst xs)):
  ∃ (its:List Value) (n:Nat),av xs its/\s.heap.get? p=some { cls:=.type "list",data:=.seq its.toArray n }/\xs.length<=sizeLine:=by
 obtain⟨z,its,n,r,e⟩:=I.hok p _ h;exact aM its n ⟨r,e,z⟩
theorem au.lstUpd {pins:List (Addr×Obj)}{σ:St}{H:Hp}{s:Shared}{p:Addr}{xs ys:List V}{its its':List Value}{n n':Nat}{f:Obj->Obj}(I:au X pins σ H s)(h:H p=some (.lst xs))(ho:s.heap.get? p=some { cls:=.type "list",data:=.seq its.toArray n })(hf:f { cls:=.type "list",data:=.seq its.toArray n }={ cls:=.type "list",data:=.seq its'.toArray n' })(r:av ys its')(hz:ys.length<=sizeLine)(t:Nat):
  au X pins σ (ao H p (.lst ys)) { s with heap:=s.heap.update p f,toks:=t }:=by
 have e:(s.heap.update p f).get? p=some { cls:=.type "list",data:=.seq its'.toArray n' }:=by
  rw[Heap.get?_update_self f ho (by rw[hf] <;> rfl),hf]
 refine I.write (x:=p) (e:=p) (by rw[h];trivial) (.inl rfl) (λb u hb q=>(Heap.get?_update_other _ _ (fq hb)).trans q) ⟨_,e⟩ ?_;exact⟨hz,its',n',r,e⟩
def rSetL:V->V->V->Hp->(Hp->Prop)->Prop:=λo i v H Q=>∃ p xs k j,o=.ref p/\i=.int k/\H p=some (.lst xs)/\ixN xs.length k=some j/\Q (ao H p (.lst (xs.set j v)))
theorem iM:uL X rSetL:=by
 intro pins s σ H o i v ov iv u Q I ro ri rv h;refine d6 h λp xs k j e9129 e9130 hp e9131=>?_;clear h;obtain rfl:=e9129;obtain rfl:=e9130;obtain⟨hj,q⟩:=e9131;cases ro;obtain⟨t,rfl⟩:=ri;refine cy (I.lst hp) λits n r ho hz=>?_;refine cG (B_ hj) λh1 h2 h3 h4=>?_;have hl:=r.length;have hn:=tZ;have I':au X pins σ (ao H p (.lst (xs.set j v))) { s with heap:=s.heap.update p (Obj.mapSeq (·.setIfInBounds j u)) }:=
  I.lstUpd hp ho (HE its n j u) (r.set rv j) (by rw[dE];exact hz) s.toks
 by_cases h0:0<=k
 .have hk:k.toNat=j:=by
   rw[seqIndex_of h0 h4] at h1;exact fJ h1
  exact PySem.W.ki_setAt ho h0 ∅ (by rw[dh,<- hl];exact h4) (by rw[hk];exact⟨_,I',q⟩)
 .have hk:(k+(its.toArray.size:Int)).toNat=j:=by
   rw[seqIndex_neg ∅ h3] at h1;rw[dh,<- hl];exact fJ h1
  exact PySem.W.ki_setBack ho ∅ (by rw[dh,<- hl];exact h3) ∅ (by rw[hk];exact⟨_,I',q⟩)
theorem HU (lo hi:Option Int)(n:Nat):(sliceBounds lo hi none n).1=((HT.sIx n 0 lo:Nat):Int)/\(sliceBounds lo hi none n).2.1=((HT.sIx n n hi:Nat):Int)/\(sliceBounds lo hi none n).2.2=1:=by
 refine⟨?_,?_,rfl⟩
 .cases lo with
  | none=>simp[sliceBounds,HT.sIx]
  | some i=>
   simp only[sliceBounds,HT.sIx,Option.getD_none,show (1:Int) > 0 by decide,eZ];by_cases h:i<0
   .simp only [h,eZ] <;> omega
   .simp only [h,if_false] <;> omega
 .cases hi with
  | none=>simp[sliceBounds,HT.sIx]
  | some i=>
   simp only[sliceBounds,HT.sIx,Option.getD_none,show (1:Int) > 0 by decide,eZ];by_cases h:i<0
   .simp only [h,eZ] <;> omega
   .simp only [h,if_false] <;> omega
theorem HY (its:List Value)(lo hi:Option Int):slicePick its.toArray lo hi none=((its.drop (HT.sIx its.length 0 lo)).take (HT.sIx its.length its.length hi-HT.sIx its.length 0 lo)).toArray:=by
 refine bQ (HU lo hi its.toArray.size) λh1 h2 h3=>?_;unfold slicePick;rw[h1,h2,h3];simp only[sliceRange_one,pick_run,dh] <;> rfl
def rSlL (K:Frag):V->Option Int->Option Int->Hp->VK->Prop:=λx lo hi H Q=>∃ a xs,x=.ref a/\aj K H a xs/\∀ p,H p=none->Q (.ref p) (ao H p (.lst (cutV xs lo hi)))
theorem km:Ff X (rSlL X.K):=by
 intro pins s σ H x v vl vu lo hi sl Q I rx hs pl pu h;refine cy h λa xs e9132 hx q=>?_;clear h;obtain rfl:=e9132;cases rx;refine aQ (I.list hx) λits r ht hz=>?_;have hlen:=r.length;refine aM ("list") _ ⟨slot_list_getitem.lookup,ht.isList.typeIs,?_⟩;refine wpAny_getItem_list_slice ht.isList hs pl pu .none (by simp) ?_ (by rw[dh] <;> omega);rw[HY,<- hlen];refine aM (.ref s.heap.objs.size) _ ⟨I.laid (t':=s.toks) (o:=.lst (cutV xs lo hi)) (λb ob q=>dC _ q) (aI _) ?_,rfl,q _ (I.hok.fresh (aI _))⟩;exact⟨cx (HM xs lo hi) hz,_,0,(r.drop (HT.sIx xs.length 0 lo)).take (HT.sIx xs.length xs.length hi-HT.sIx xs.length 0 lo),gA _ rfl⟩
def qT:V->Bool
 | .non=>true
 | .bl _=>true
 | .int _=>true
 | .str _=>true
 | _=>false
def eqV:V->V->Bool
 | .non,.non=>true
 | .bl a,.bl b=>a == b
 | .bl a,.int b=>(if a then 1 else 0) == b
 | .int a,.bl b=>a == (if b then 1 else 0)
 | .int a,.int b=>a == b
 | .str a,.str b=>a == b
 | _,_=>false
theorem pY {A:Around}{s:Shared}{y x:V}{u v:Value}(ry:aG y u)(rx:aG x v)(fy:qT y=true)(fx:qT x=true):SeqAt.EqAt A s u v (eqV y x):=by
 cases y with
 | non=>
  cases ry;cases x with
  | non=>cases rx;exact SeqAt.EqAt.same _
  | bl b=>cases rx;exact SeqAt.EqAt.none_bool b
  | int b=>obtain⟨t,rfl⟩:=rx;exact SeqAt.EqAt.none_int b t
  | str b=>obtain⟨t,rfl⟩:=rx;exact SeqAt.EqAt.none_str b t
  | _=>exact absurd (show false=true from fx) eo
 | bl a=>
  cases ry;cases x with
  | non=>cases rx;exact SeqAt.EqAt.bool_none a
  | bl b=>cases rx;exact SeqAt.EqAt.bool_bool a b
  | int b=>obtain⟨t,rfl⟩:=rx;exact SeqAt.EqAt.bool_int a b t
  | str b=>obtain⟨t,rfl⟩:=rx;exact SeqAt.EqAt.bool_str a b t
  | _=>exact absurd (show false=true from fx) eo
 | int a=>
  obtain⟨t',rfl⟩:=ry;cases x with
  | non=>cases rx;exact SeqAt.EqAt.int_none a t'
  | bl b=>cases rx;exact SeqAt.EqAt.int_bool a t' b
  | int b=>obtain⟨t,rfl⟩:=rx;exact SeqAt.EqAt.int_int a t' b t
  | str b=>obtain⟨t,rfl⟩:=rx;exact SeqAt.EqAt.int_str a t' b t
  | _=>exact absurd (show false=true from fx) eo
 | str a=>
  obtain⟨t',rfl⟩:=ry;cases x with
  | non=>cases rx;exact SeqAt.EqAt.str_none a t'
  | bl b=>cases rx;exact SeqAt.EqAt.str_bool a t' b
  | int b=>obtain⟨t,rfl⟩:=rx;exact SeqAt.EqAt.str_int a t' b t
  | str b=>obtain⟨t,rfl⟩:=rx;exact SeqAt.EqAt.str_str a t' b t
  | _=>exact absurd (show false=true from fx) eo
 | _=>exact absurd (show false=true from fy) eo
def inV (x:V)(xs:List V):Bool:=xs.any λy=>eqV y x
def rIn (K:Frag)(neg:Bool):R2:=λx y H Q=>∃ p xs,y=.ref p/\(aj K H p xs\/aB K H p xs)/\qT x=true/\xs.all qT=true/\Q (.bl (if neg then !inV x xs else inV x xs)) H
theorem fo:gJ X (.builtin "len") (λxs H Q=>∃ p ys,xs=[.ref p]/\(aj X.K H p ys\/aB X.K H p ys)/\Q (.int ys.length) H):=by
 intro pins s σ H xs us Q I r h;refine cy h λp ys e9137 hq q=>?_;clear h;obtain rfl:=e9137;refine ar (qe r) λu e9138 rx=>?_;obtain rfl:=e9138;cases rx;have hn:=tZ;rcases hq with hq|hq
 .refine aQ (I.list hq) λits r' pl hz=>?_;have hlen:=r'.length;exact Calls.call_len_list pl.isList (by simp only[dh] <;> omega) ⟨.int ys.length,H,I.tok _,⟨s.toks+1,by rw[dh,hlen]⟩,q⟩
 .refine aQ (I.tuple hq) λits r' pl hz=>?_;have hlen:=r'.length;exact len_tuple pl (by simp only[dh] <;> omega) ⟨.int ys.length,H,I.tok _,⟨s.toks+1,by rw[dh,hlen]⟩,q⟩
theorem rP:gJ X (.type "list") (λxs H Q=>∃ p ys,xs=[.ref p]/\(aj X.K H p ys\/aB X.K H p ys)/\∀ l,H l=none->Q (.ref l) (ao H l (.lst ys))):=by
 intro pins s σ H xs us Q I r h;refine cy h λp ys e9142 hq q=>?_;clear h;obtain rfl:=e9142;refine ar (qe r) λu e9143 rx=>?_;obtain rfl:=e9143;cases rx;have fin:∀ (its:List Value),av ys its->ys.length<=sizeLine->∀ (h':Heap) (c':Nat),(∀ b o',s.heap.get? b=some o'->h'.get? b=some o')->
   h'.get? s.heap.objs.size=some { cls:=.type "list",dict:=none,data:=.seq its.toArray c',slots:=#[] }->EP X pins σ Q (.ref s.heap.objs.size) { s with heap:=h' }:=λits r' hz h' c' kp e=>
  ⟨.ref s.heap.objs.size,_,I.laid (t':=s.toks) kp (aI _) (show bG X.prog X.w _ h' _ (.lst ys) from ⟨hz,its,c',r',e⟩),rfl,q _ (I.hok.fresh (aI _))⟩
 rcases hq with hq|hq
 .refine aQ (I.list hq) λits r' pl hz=>?_;have hlen:=r'.length;obtain⟨o,ho,hc,n,hd⟩:=pl.isList;exact call_list_seq p (.inl rfl) ho hc hd (λh' c' kp e=>fin its r' hz h' c' kp e) (by simp only[dh] <;> omega)
 .obtain ⟨its,r',pl,hz⟩:=I.tuple hq;have hlen:=r'.length;obtain⟨o,ho,hc,n,hd⟩:=pl;exact call_list_seq p (.inr rfl) ho hc hd (λh' c' kp e=>fin its r' hz h' c' kp e) (by simp only[dh] <;> omega)
def tyV (K:Frag)(T:String)(x:V)(H:Hp):Prop:=match x with
 | .str _=>T="str"
 | .int _=>T="int"
 | .ref p=>(T="list" /\ ∃ xs,aj K H p xs)\/(T="tuple" /\ ∃ o,K.lookup p=some o/\o.cls=.type "tuple" /\ o.dict=none) \/
   (T="dict" /\ ((∃ kvs,H p=some (.dK kvs))\/∃ kvs,H p=some (.dT kvs)))\/(T="set" /\ ∃ S n,H p=some (.set S n))
 | _=>False
theorem BO {pins:List (Addr×Obj)}{σ:St}{H:Hp}{s:Shared}{T:String}{x:V}{v:Value}(I:au X pins σ H s)(r:aG x v)(ty:tyV X.K T x H):
  s.TypeIs v T/\∀ a,v=.ref a->∃ ob,s.heap.get? a=some ob/\ob.dict=none:=by
 cases x with
 | str z=>
  obtain⟨t,rfl⟩:=r;cases (show T="str" from ty);exact⟨typeIs_str s z t,λ_ e=>nomatch e⟩
 | int i=>
  obtain⟨t,rfl⟩:=r;cases (show T="int" from ty);exact⟨typeIs_int s i t,λ_ e=>nomatch e⟩
 | ref p=>
  cases r;rcases ty with ⟨rfl,xs,hq⟩|⟨rfl,o,hk,hc,hd⟩|⟨rfl,hk⟩|⟨rfl,S,n,hk⟩
  .refine aQ (I.list hq) λits _ pl _=>?_;refine⟨pl.isList.typeIs,λa e=>?_⟩;cases e;refine gh pl λo n e c hd _=>?_;clear pl;exact⟨o,e,hd⟩
  .refine ⟨⟨o,I.kIn p o hk,hc⟩,λa e=>?_⟩;cases e;exact⟨o,I.kIn _ o hk,hd⟩
  .have z:∃ o,s.heap.get? p=some o/\o.ExactDict:=by
    rcases hk with ⟨kvs,hk⟩|⟨kvs,hk⟩
    .refine bQ (I.hok p _ hk) λ_ _ e9144=>?_;obtain⟨_,_,o,_,_,e,ex,_⟩:=e9144;exact⟨o,e,ex⟩
    .refine bQ (I.hok p _ hk) λ_ _ e9145=>?_;obtain⟨_,_,o,_,_,e,ex,_⟩:=e9145;exact⟨o,e,ex⟩
   refine ar z λo e ex=>?_;clear z;refine⟨⟨o,e,ex.1⟩,λa e2=>?_⟩;cases e2;exact⟨o,e,ex.2.1⟩
  .refine jw (I.hok p _ hk) λo _ _ _ e ex _=>?_;refine⟨⟨o,e,ex.1⟩,λa e2=>?_⟩;cases e2;exact⟨o,e,ex.2.1⟩
 | _=>exact False.elim ty
def tBM0 (K:Frag)(T:String)(r:V->List V->Hp->VK->Prop)(to:TE):TE:=λσ H Q=>to σ H λx H1=>tyV K T x H1/\r x [] H1 Q
def tBM (K:Frag)(T:String)(r:V->List V->Hp->VK->Prop)(to:TE)(t:TA):TE:=λσ H Q=>to σ H λx H1=>tyV K T x H1/\t σ H1 λxs H2=>r x xs H2 Q
variable {o e:Expr}{es:List Expr}{to:TE}{t:TA}{name:Str}{apos cpos:Pos}{T id:String}{r:V->List V->Hp->VK->Prop}
theorem xW (pa:PlainAttrs T)(slot:Slot T name id)(hty:typeOf (.builtin id)=pure (.type "method_descriptor"))(hm:xc X id r)(ho:PE X o to)(hbase:attributeBase o name X.env (eval o X.env)=eval o X.env:=by rfl)(hline:(apos.endLine == cpos.line)=true:=by rfl):PE X (.Call (.Attribute o name apos) [] [] cpos) (tBM0 X.K T r to):=by
 intro pins s σ H Q I h;refine wpAny_Call_method0_late hbase hline (aN (ho pins s σ H _ I h) λv s1 ⟨x,H1,I1,r1,ty,q1⟩=>?_);obtain⟨h1,h2⟩:=BO I1 r1 ty;exact aM T id ⟨pa,slot,hty,h1,h2,Calls.callWith_builtin rfl (PySem.evalArgs_none (hm pins s1 σ H1 x [] v [] Q I1 r1 .nil q1))⟩
theorem fN (pa:PlainAttrs T)(slot:Slot T name id)(hty:typeOf (.builtin id)=pure (.type "method_descriptor"))(hm:xc X id r)(ho:PE X o to)(ha:PA X (e::es) t)(hbase:attributeBase o name X.env (eval o X.env)=eval o X.env:=by rfl)(hfew:((backTo cpos (starEach (e::es) X.env)).all (λx=>!x.1) && (backToKw cpos (keywordEach [] X.env)).all (λx=>x.1.isSome)
   && decide ((e::es).length+([]:List Keyword).length+(if ([]:List Keyword).isEmpty then 0 else 1)<30))=true:=by rfl)(hline:(apos.endLine == cpos.line)=true:=by rfl)(hs:starEach (e::es) X.env=(false,eval e X.env)::starEach es X.env:=by rfl)(hplain:(backTo cpos (starEach es X.env)).any (·.1)=false:=by rfl):
  PE X (.Call (.Attribute o name apos) (e::es) [] cpos) (tBM X.K T r to t):=by
 intro pins s σ H Q I h;refine wpAny_Call_method_late hbase hfew hline rfl (aN (ho pins s σ H _ I h) λv s1 ⟨x,H1,I1,r1,ty,q1⟩=>?_);obtain⟨h1,h2⟩:=BO I1 r1 ty;refine aM T id ⟨pa,slot,hty,h1,h2,?_⟩;have hA:=ha cpos pins s1 σ H1 _ I1 q1;rw[hs] at hA ⊢;refine Calls.callWith_builtin (by show (false || (backTo cpos (starEach es X.env)).any (·.1))=false;rw[hplain] <;> rfl) (Calls.evalArgs_plain ?_);exact aN hA λus s2 ⟨vs,H2,I2,r2,q2⟩=>hm pins s2 σ H2 x vs v us Q I2 r1 r2 q2
end
def xf (X:Cx)(id:String)(r:V->List V->Hp->VK->Prop):Prop:=
 ∀ (pins:List (Addr×Obj)) (s:Shared) (σ:St) (H:Hp) (x:V) (xs:List V) (v:Value) (us:List Value) (Q:VK),au X pins σ H s->aG x v->av xs us->r x xs H Q->
  wpAny (model X.prog X.w) X.A (call (.builtin id) (v::us)) (EP X pins σ Q) X.xe s
theorem av.one:∀ {x:V} {us:List Value},av [x] us->∃ u,us=[u]/\aG x u
 | _,_,.cons r .nil=>⟨_,rfl,r⟩
theorem av.zero:∀ {us:List Value},av [] us->us=[]
 | _,.nil=>rfl
theorem av.eraseIdx:∀ {xs:List V} {us:List Value} (i:Nat),av xs us->av (xs.eraseIdx i) (us.eraseIdx i)
 | _,_,_,.nil=>.nil
 | _,_,0,.cons _ t=>t
 | _,_,i+1,.cons r t=>.cons r (av.eraseIdx i t)
theorem av.rep {xs:List V}{us:List Value}(h:av xs us):∀ k:Nat,av (List.replicate k xs).flatten (List.replicate k us).flatten
 | 0=>.nil
 | k+1=>by
  rw[nW,nW,sC,sC];exact av.append h (av.rep h k)
theorem DE {α:Type}:∀ (l:List α) (i:Nat),(l.eraseIdx i).length<=l.length
 | [],_=>aI _
 | _::_,0=>Nat.le_succ _
 | _::r,i+1=>Nat.succ_le_succ (DE r i)
theorem Dy (its:List Value):∀ (k:Nat) (acc:List Value),
  List.foldl (λx1 x2=>x1++x2) acc.toArray (List.replicate k its.toArray)=(acc++(List.replicate k its).flatten).toArray
 | 0,acc=>by simp
 | k+1,acc=>by
  have e:acc.toArray++its.toArray=(acc++its).toArray:=by simp
  have e2:(acc++its)++(List.replicate k its).flatten=acc++(List.replicate (k+1) its).flatten:=by
   rw[nW,sC,sy]
  rw[<- e2,<- Dy its k (acc++its),<- e,nW,List.foldl_cons]
section
variable {X:Cx}{pins:List (Addr×Obj)}{σ:St}{H:Hp}{s:Shared}{l b:Addr}{xs ys zs:List V}
theorem au.lset {its its':List Value}{n:Nat}{f:Array Value->Array Value}{t':Nat}(I:au X pins σ H s)(hH:H l=some (.lst xs))(e:s.heap.get? l=some { cls:=.type "list",data:=.seq its.toArray n })(hf:f its.toArray=its'.toArray)(hv:av ys its')(hz:ys.length<=sizeLine):
  au X pins σ (ao H l (.lst ys)) { s with heap:=s.heap.update l (Obj.mapSeq f),toks:=t' }:=by
 have q:=PySem.IsL.update e f;rw[hf] at q;refine I.write (x:=l) (e:=l) (by rw[hH];exact trivial) (.inl rfl) (λb' u hb hu=>(Heap.get?_update_other s.heap (Obj.mapSeq f) (fq hb)).trans hu) ⟨_,q⟩ ?_;exact⟨hz,its',_,hv,q⟩
theorem au.lnew {its:List Value}{t':Nat}(I:au X pins σ H s)(hv:av ys its)(hz:ys.length<=sizeLine):
  au X pins σ (ao H s.heap.objs.size (.lst ys)) { s with heap:=s.heap.push { cls:=.type "list",data:=.seq its.toArray },toks:=t' }:=
 I.laid (λ_ _ q=>dC _ q) (aI _) ⟨hz,its,0,hv,gA _ rfl⟩
theorem au.fresh (I:au X pins σ H s):H s.heap.objs.size=none:=I.hok.fresh (aI _)
theorem au.lstM (I:au X pins σ H s)(hH:H l=some (.lst xs)):xs.length<=sizeLine/\∃ (its:List Value) (n:Nat),av xs its/\xs.length=its.length/\s.heap.get? l=some { cls:=.type "list",data:=.seq its.toArray n }:=by
 obtain⟨z,its,n,r,e⟩:=I.hok l _ hH;exact⟨z,its,n,r,r.length,e⟩
theorem Dt {n:Nat}(h:n<=sizeLine):Builtin.List.listTooLong n=false:=by
 unfold Builtin.List.listTooLong;exact dm ∅
end
section
variable {X:Cx}
def zk:V->List V->Hp->VK->Prop:=λx vs H Q=>∃ l xs y,x=.ref l/\vs=[y]/\H l=some (.lst xs)/\xs.length<sizeLine/\Q .non (ao H l (.lst (xs++[y])))
theorem fW:xf X "list.append" zk:=by
 intro pins s σ H x vs v us Q I rx rv h;refine cD h λl xs y e9146 e9147 hH e9148=>?_;clear h;obtain rfl:=e9146;obtain rfl:=e9147;obtain⟨hz,q⟩:=e9148;cases rx;refine ar rv.one λu e9149 ru=>?_;obtain rfl:=e9149;obtain⟨z,its,n,r,hl,e⟩:=I.lstM hH;refine uO F.slot_list_append ⟨_,e,rfl⟩ F.entry_list_append (F.args_list_append_2 _ _) (PySem.list_append l its.toArray n u (by rw[dh];omega)) ⟨e,?_⟩;refine aM .non _ ⟨I.lset (its':=its++[u]) hH e (by simp) (r.append (.cons ru .nil)) ?_,rfl,q⟩;rw[bw,xC];omega
def rExtend:V->List V->Hp->VK->Prop:=λx vs H Q=>∃ l b xs zs,x=.ref l/\vs=[.ref b]/\H l=some (.lst xs)/\H b=some (.lst zs)/\xs.length+zs.length<=sizeLine/\Q .non (ao H l (.lst (xs++zs)))
theorem qQ:xf X "list.extend" rExtend:=by
 intro pins s σ H x vs v us Q I rx rv h;refine d6 h λl b xs zs e9150 e9151 hH e9152=>?_;clear h;obtain rfl:=e9150;obtain rfl:=e9151;refine bQ e9152 λhB hz q=>?_;clear e9152;cases rx;refine ar rv.one λu e9153 ru=>?_;obtain rfl:=e9153;cases ru;obtain⟨z,its,n,r,hl,e⟩:=I.lstM hH;obtain⟨z2,its2,n2,r2,hl2,e2⟩:=I.lstM hB;have hsz:its.toArray.size+its2.toArray.size<=sizeLine:=by rw[dh,dh];omega
 have hlong:¬ (!its.toArray.isEmpty && Builtin.List.listTooLong (its.toArray.size+its2.toArray.size))=true:=by
  rw[Dt hsz,Bool.and_false];exact eo
 refine uO F.slot_list_extend ⟨_,e,rfl⟩ F.entry_list_extend (F.args_list_extend_2 _ _)
  (AutoSeq1.list_extend_list_list_0 l its.toArray n b its2.toArray n2 hlong (by rw[dh];omega) ∅) ⟨e,e2,?_⟩
 refine aM .non _ ⟨I.lset (its':=its++its2) hH e (by simp) (r.append r2) ?_,rfl,q⟩;rw[bw];omega
def G8:V->List V->Hp->VK->Prop:=λx vs H Q=>∃ l xs i k y,x=.ref l/\vs=[.int i]/\H l=some (.lst xs)/\-(2 ^ 63)<=i/\i<2 ^ 63/\seqIndex? i xs.length=some k/\xs[k]?=some y/\Q y (ao H l (.lst (xs.eraseIdx k)))
theorem FE:xf X "list.pop" G8:=by
 intro pins s σ H x vs v us Q I rx rv h;refine g9 h λl xs i k y e9157 e9158 hH e9159=>?_;clear h;obtain rfl:=e9157;obtain rfl:=e9158;refine cY e9159 λh1 h2 hk hy q=>?_;clear e9159;cases rx;refine ar rv.one λu e9160 ru=>?_;obtain rfl:=e9160;obtain⟨t,rfl⟩:=ru;obtain⟨z,its,n,r,hl,e⟩:=I.lstM hH;refine ar (r.get hy) λw hw rw'=>?_;refine uO F.slot_list_pop ⟨_,e,rfl⟩ F.entry_list_pop (F.args_list_pop_2 _ _)
  (MeetsSeq.list_pop_at l its.toArray n i t k w (fitsIndex_both h1 h2) (by rw[dh,<- hl];exact hk) (by rw[<- Array.getElem?_toList];exact hw) (by rw[dh];omega)) ⟨e,?_⟩
 refine aM y _ ⟨I.lset (its':=its.eraseIdx k) hH e ?_ (r.eraseIdx k) ?_,rw',q⟩
 .show its.toArray.eraseIdxIfInBounds k=(its.eraseIdx k).toArray;rw[List.eraseIdxIfInBounds_toArray]
 .have:=DE xs k;omega
def rCat:R2:=λx y H Q=>∃ l b xs zs,x=.ref l/\y=.ref b/\H l=some (.lst xs)/\H b=some (.lst zs)/\xs.length+zs.length<=sizeLine/\∀ p,H p=none->Q (.ref p) (ao H p (.lst (xs++zs)))
theorem vZ:bY X (binaryOp .Add) rCat:=by
 intro pins s σ H x y v u Q I rx ry h;refine d6 h λl b xs zs e9165 e9166 hH e9167=>?_;clear h;obtain rfl:=e9165;obtain rfl:=e9166;refine bQ e9167 λhB hz q=>?_;clear e9167;cases rx;cases ry;obtain⟨z,its,n,r,hl,e⟩:=I.lstM hH;obtain⟨z2,its2,n2,r2,hl2,e2⟩:=I.lstM hB;refine PySem.P.add_list e e2 ?_ (by rw[dh,dh];omega);have ea:its.toArray++its2.toArray=(its++its2).toArray:=by simp
 rw[ea];exact aM (.ref _) _ ⟨I.lnew (t':=s.toks) (r.append r2) (by rw[bw];omega),rfl,q _ I.fresh⟩
def rRep:R2:=λx y H Q=>∃ l k xs,x=.ref l/\y=.int k/\H l=some (.lst xs)/\-(2 ^ 63)<=k/\k<2 ^ 63/\xs.length*k.toNat<=sizeLine /\
 ∀ p,H p=none->Q (.ref p) (ao H p (.lst (List.replicate k.toNat xs).flatten))
theorem lI {α:Type}(xs:List α)(k:Nat):(List.replicate k xs).flatten.length=k*xs.length:=by
 induction k with
 | zero=>simp
 | succ k ih=>rw[nW,sC,bw,ih,jZ,Nat.add_comm]
theorem t_:bY X (binaryOp .Mult) rRep:=by
 intro pins s σ H x y v u Q I rx ry h;refine cD h λl k xs e9168 e9169 hH e9170=>?_;clear h;obtain rfl:=e9168;obtain rfl:=e9169;refine cG e9170 λh1 h2 hz q=>?_;clear e9170;cases rx;obtain⟨t,rfl⟩:=ry;obtain⟨z,its,n,r,hl,e⟩:=I.lstM hH;have hlen:its.toArray.size*k.toNat<=sizeLine:=by rw[dh,<- hl];exact hz
 have hcap:¬ its.toArray.size*k.toNat > (2 ^ 63-1) / 8:=by
  have:(sizeLine:Nat)<=(2 ^ 63-1) / 8:=⇑0
  omega
 have hfit:¬ (!Builtin.List.listFitsIndex k)=true:=by
  rw[fitsIndex_both h1 h2];exact eo
 have hlong:¬ Builtin.List.listTooLong (its.toArray.size*k.toNat)=true:=by
  rw[Dt hlen];exact eo
 have hnew:List.foldl (λx1 x2=>x1++x2) #[] (List.replicate (if its.toArray.isEmpty=true then 0 else k.toNat) its.toArray)=(List.replicate k.toNat its).flatten.toArray:=by
  have f0:∀ m:Nat,List.foldl (λx1 x2=>x1++x2) #[] (List.replicate m its.toArray)=(List.replicate m its).flatten.toArray:=λm=>by
   have:=Dy its m [];rw[List.nil_append] at this;exact this
  rw[f0];cases its with
  | nil=>simp
  | cons a r'=>rw[if_neg (by simp)]
 refine wpAny_binaryOp_repeat_ref (T:="list") (U:="int") ⇑0 ⟨_,e,rfl⟩ (λs'=>typeIs_int s' k t) noFill_list_mul F.fills_int_mul F.slot_int_rmul repeat_list F.slot_int_index.lookup
  (uO F.slot_int_rmul (typeIs_int s k t) F.entry_int_rmul (F.args_int_rmul_2 _ _) (int___rmul___int_list k t l its.toArray n)
   ⟨e,rfl,⟨_,e,rfl⟩,uO F.slot_list_mul ⟨_,e,rfl⟩ F.entry_list_mul (F.args_list_mul_2 _ _) (AutoListH.list___mul___list_int_3 l its.toArray n k t hfit hcap hlong) ⟨e,?_⟩⟩)
 rw[hnew];exact aM (.ref _) _ ⟨I.lnew (t':=s.toks) (r.rep k.toNat) (by rw[lI,r9];exact hz),rfl,q _ I.fresh⟩
end
section
variable {prog:Program}{w:World}{A:Around}{E:Value->Shared->Prop}{s:Shared}
end
section
variable {X:Cx}
end
end L2
namespace Att
open PySem PySem.W PySem.Calls PyProof.Rows
theorem HZ {P:Params}{h:Heap}:∀ (ns:List Int) (vs:List Value),WellAll P h vs (ns.map WData.int)->IntsAre vs ns:=by
 intro ns
 induction ns with
 | nil=>
  intro vs w;rw[List.map_nil] at w;cases w;exact .nil
 | cons n ns ih=>
  intro vs w;rw[List.map_cons] at w;cases w with
  | cons a b=>
   cases a;exact .cons _ _ (ih _ b)
theorem Hk {l:OpenLaw}{n:Nat}(hn:l.most=some n){P:Params}{h:Heap}{args:List WData}{vals:List Value}(hpre:l.row.toRowW.claim.pre args=true)(hwl:WellAll P h vals args):
  ∃ a vs ns,vals=[Value.ref a]/\args=[WData.list (ns.map WData.int)]/\h.get? a=some { cls:=.type "list",data:=.seq vs.toArray }/\IntsAre vs ns/\ns.length<=n:=by
 have hsh:WShape.hasAll [] args [.list .int]=true:=(pre_splitW hpre).1;have hc:l.pre.holds [] { args:=args }=true:=(pre_splitW hpre).2;obtain⟨d,r,rfl,h1,h2⟩:=hasAllW_cons hsh;obtain rfl:=hasAllW_nil h2;obtain⟨xs,rfl,h3⟩:=hasW_list h1;obtain⟨ns,rfl⟩:=items_int h3;have hlen:ns.length<=n:=by
  unfold OpenLaw.pre at hc;have h4:(WTm.not (.lt (.lit (.int (n:Int))) (.len (.arg 0)))).holds [] { args:=[.list (ns.map .int)] }=true:=by
   have h4:=(holds_andW hc).1;rw[hn] at h4;exact h4
  have h5:=condW_of h4 (w_not (w_lt w_lit (w_len_list (w_arg rfl))));rw[aA] at h5;refine Nat.le_of_not_lt λq=>?_;have q':(n:Int)<((ns.length:Nat):Int):=∅
  first
   | (rw[bR q'] at h5;exact absurd h5 ⇑0)
   | (simp at h5;omega)
 cases hwl with
 | cons w1 w2=>
  cases w2;cases w1 with
  | list ho hall=>exact⟨_,_,ns,rfl,rfl,ho,HZ ns _ hall,hlen⟩
theorem G5 (l:OpenLaw)(args:List WData):l.row.toRowW.claim.post args (.bool true) args=true:=
 postW_of (r:=l.row.toRowW) (X:=(true == true))
  (show WShape.has [] (.bool true) .bool=true by first|rfl|decide|simp[WShape.has,WShape.arms,WShape.armsAll])
  (show (WTm.eq .res (.lit (.bool true))).value [] { args:=args,res:=some (.bool true),after:=args }=some (.bool (true == true)) from w_eq_bool (w_res rfl) w_lit) rfl
theorem m5 {l:OpenLaw}{n:Nat}{q:Program}{loose:List Str}{XP:(Str->Option Value)->Heap->Prop}{YP:World->Heap->Prop}{d:DefRec}(hn:l.most=some n)(hdf:d.params.defaults=[])(call:∀ (w:World) (s₀ s₁:Shared) (mg mb:Str->Option Value) (fa:Addr) (o:Obj) (pm cd doc:Value) (a:Addr) (vs:List Value) (ns:List Int),
   Ground q loose [] XP w s₀ mg mb s₁.heap->YP w s₁.heap->
   s₁.heap.get? fa=some o->o.data=.func (docDef d.name d.params d.body d.scope pm cd doc)->s₁.heap.CodeRec cd d.name->mg d.name=some (.ref fa)->
   s₁.heap.get? a=some { cls:=.type "list",data:=.seq vs.toArray }->IntsAre vs ns->ns.length<=n->s₁.gens=#[]->
   codeAny (model l.prog w) callerA (.call (.ref fa) ⟨[.ref a],[]⟩) (λr s'=>r=.ok (.ret (.bool true))/\OldK s₁.heap s'.heap/\s'.os=s₁.os/\AllBare s'.gens) s₁):
  WalkO q loose XP YP l.row.toRowW d [] (λf vs=>PySem.call f vs):=by
 intro w s₀ s₁ mg mb G Y fa o pm cd doc dV kV ho hd hcd hD hmg hg args vals as hpre hlay hrd hwl hlo;obtain rfl:dV=.none:=Dflts.none hD hdf;obtain rfl:kV=.none:=Dflts.noKw hD;obtain⟨a,vs,ns,rfl,rfl,hobj,hints,hlen⟩:=Hk hn hpre hwl;refine enter_call (codeAny_mono (call w s₀ s₁ mg mb fa o pm cd doc a vs ns G Y ho (fd_plain hd) hcd hmg hobj hints hlen hg) λr s' hq=>?_);obtain⟨rfl,h2,h3,h4⟩:=hq;exact⟨.inl ⟨.bool true,.bool true,[],rfl,λ_=>rfl,.bool true,G5 l _,λ_=>⟨List.Pairwise.nil,λ_ hm=>(nomatch hm)⟩⟩,h2,h3,h4⟩
section
variable {prog:Program}{w:World}{A:Around}{E:Value->Shared->Prop}{s:Shared}{K:Frag}
end
end Att
namespace L2
open PySem PySem.Spec PyProof.Rows
theorem DY:∀ {vs:List Value} {ns:List Int},IntsAre vs ns->av (ns.map V.int) vs
 | _,_,.nil=>.nil
 | _,_,.cons n t h=>.cons ⟨t,rfl⟩ (DY h)
end L2
namespace L2
open PySem PySem.Spec PyProof.Rows
def rB (s:Stmt)(j:Nat):Stmt:=match s with
 | .ClassDef _ _ _ body _ _ _ _ _ _ _=>body.getD j (.Pass ⟨0,0,0,0⟩)
 | _=>.Pass ⟨0,0,0,0⟩
def iL (s:Stmt):Arguments:=match s with
 | .FunctionDef _ a _ _ _ _ _ _ _ _=>a
 | _=>{ posonlyargs:=[],args:=[],vararg:=none,kwonlyargs:=[],kw_defaults:=[],kwarg:=none,defaults:=[] }
def gn (s:Stmt):List Stmt:=match s with
 | .FunctionDef _ _ b _ _ _ _ _ _ _=>b
 | _=>[]
def aR (s:Stmt):Scope:=match s with
 | .FunctionDef _ _ _ _ _ _ sc _ _ _=>sc
 | _=>{ kind:=.function,names:=[],isGenerator:=false,isCoroutine:=false }
abbrev aW:gY:=λ_ _ _ _ _ _=>False
abbrev E0:XK:=λ_ _ _=>False
theorem vB {X:Cx}:qY aW X E0:=λ_ _ _ _ _ _ _ h=>h.elim
structure bc (K:Frag)(x qual:Str)(st:Stmt)(f:Addr)(fd:FuncData):Prop where
 ex:∃ (oc:Value) (od:Option Addr) (kV doc pm:Value) (an:Option Addr) (cdv ct:Value) (osl:Array (Option Value)),
  fd=PySem.W.fnOf x qual (iL st) (gn st) (aR st) .none kV doc pm an cdv ct/\K.lookup f=some ⟨oc,od,.func fd,osl⟩/\PySem.W.codeIn K cdv qual=true
 kp:PySem.W.keepIn K (.ref f)=true
section
theorem bc.ok {x qual:Str}{st:Stmt}{f:Addr}{fd:FuncData}{N ps:List Str}{k:Nat}{sp:Sp}(F:bc K x qual st f fd)(S:ag N ps (aR st))(len:∀ vs H Q E,sp vs H Q E->vs.length=ps.length)(hbody:∀ (cdv:Value) (A:Around) (outer:List Env) (s:Shared) (H:Hp) (vs:List V) (Q:VK) (E:XK),aX k (A.deeper (envOfC qual (aR st) s.heap.objs.size f cdv))->sp vs H Q E->
   ∃ t,gT (mh aW P w K mg base N qual (aR st) f cdv A outer s H E).nox (gn st) t/\t { nx:=λ_ H'=>Q .non H',rt:=Q } (start N vs) H):ax P w K mg base aW (k+1) f fd ps sp:=by
 refine tR F.ex λoc od kV doc pm an cdv ct osl e9171 lk hcd=>?_;obtain rfl:=e9171;refine jq lk hcd S len λA outer s H vs Q E hr hsp=>?_;refine ar (hbody cdv A outer s H vs Q E hr hsp) λt h q=>?_;exact⟨t,h.nox,q⟩
theorem bc.binds {x qual:Str}{st:Stmt}{f:Addr}{fd:FuncData}{ps:List Str}(F:bc K x qual st f fd)(h:∀ (kV doc pm:Value) (an:Option Addr) (cdv ct:Value) (us:List Value),us.length=ps.length->bindArgs (PySem.W.fnOf x qual (iL st) (gn st) (aR st) .none kV doc pm an cdv ct) ⟨us,[]⟩=pure (ps.zip us)):bL K fd ps []:=by
 refine tR F.ex λoc od kV doc pm an cdv ct osl e9172 lk hcd=>?_;obtain rfl:=e9172;exact .all (h kV doc pm an cdv ct)
theorem pX {x qual:Str}{st:Stmt}{f:Addr}{oc:Value}{od an:Option Addr}{osl:Array (Option Value)}{kV doc pm cdv ct:Value}(l:K.lookup f=some ⟨oc,od,.func (PySem.W.fnOf x qual (iL st) (gn st) (aR st) .none kV doc pm an cdv ct),osl⟩)(c:PySem.W.codeIn K cdv qual=true)(k:PySem.W.keepIn K (.ref f)=true):bc K x qual st f (PySem.W.fnOf x qual (iL st) (gn st) (aR st) .none kV doc pm an cdv ct):=⟨⟨oc,od,kV,doc,pm,an,cdv,ct,osl,rfl,l,c⟩,k⟩
end
theorem cS {n:Nat}(h:n<=1000):n<sizeLine:=iW h ⇑0
section
variable {X:Cx}
theorem pv (i:Nat){x:Str}{pos:Pos}(hN:X.N[i]?=some x:=by rfl)(hv:wZ X.env.scope x:=by first|exact Or.inl rfl|exact Or.inr (Or.inl rfl)|exact Or.inr (Or.inr rfl))(hd:(x == ("__debug__" : Str))=false:=by decide)(hcd:(x == ("__classdict__" : Str))=false:=by decide):PE X (.Name x pos) (dS i):=oK hN hv hd hcd
end
theorem iteF {A B:Prop}(h:B):if false=true then A else B:=by
 rw[if_neg eo];exact h
theorem iteT {A B:Prop}(h:A):if true=true then A else B:=by
 rw[if_pos rfl];exact h
theorem bA {c A B:Prop}[Decidable c](h1:c->A)(h2:¬ c->B):if c then A else B:=by
 by_cases h:c
 .rw [if_pos h];exact h1 h
 .rw [if_neg h];exact h2 h
def aa (H H':Hp):Prop:=∀ b o,H b=some o->H' b=some o
theorem aa.refl (H:Hp):aa H H:=λ_ _ h=>h
theorem aa.trans {H H1 H2:Hp}(a:aa H H1)(b:aa H1 H2):aa H H2:=λc o h=>b c o (a c o h)
theorem aa.free {H H':Hp}(e:aa H H'){l:Addr}(h:H' l=Option.none):H l=Option.none:=by
 cases q:H l with
 | none=>rfl
 | some o=>
  rw[e l o q] at h;cases h
theorem aa.seq {K:Frag}{H H':Hp}{a:Addr}{xs:List V}(e:aa H H')(h:aj K H a xs):aj K H' a xs:=by
 rcases h with (h|⟨o,h⟩)|h
 .exact .inl (.inl (e _ _ h))
 .exact .inl (.inr ⟨o,e _ _ h⟩)
 .exact .inr h
theorem vp {x:Str}{c:Addr}:∀ (names:List (Str×NameKind)) (n:Nat) (acc:List (Str×Addr)),(cellsFrom n names acc).lookup x=some c->n<=c\/acc.lookup x=some c
 | [],_,_,h=>.inr h
 | (y,k)::r,n,acc,h=>by
  unfold cellsFrom at h;split at h
  .rcases vp r (n+1) _ h with z|z
   .exact .inl (j8 z)
   .rw [eP] at z;cases e:x == y with
    | true=>rw[e] at z;cases z;exact .inl (aI _)
    | false=>rw[e] at z;exact .inr z
  .exact vp r n acc h
theorem xQ {x:Str}{c:Addr}:∀ (names:List (Str×NameKind)) (n:Nat) (acc:List (Str×Addr)),(x,NameKind.cell)∈names->(cellsFrom n names acc).lookup x=some c->n<=c
 | [],_,_,m,_=>nomatch m
 | (y,k)::r,n,acc,m,h=>by
  unfold cellsFrom at h;split at h
  .by_cases m':(x,NameKind.cell)∈r
   .exact j8 (xQ r (n+1) _ m' h)
   .have e:(x,NameKind.cell)=(y,k):=(fH.mp m).resolve_right m';cases e;rcases vp r (n+1) _ h with z|z
    .exact j8 z
    .rw [eP,beq_self_eq_true] at z;cases z;exact aI _
  .rename_i hk
   have m':(x,NameKind.cell)∈r:=by
    rcases fH.mp m with e|m'
    .cases e;exact absurd rfl hk
    .exact m'
   exact xQ r n acc m' h
theorem xP {x:Str}:∀ {names:List (Str×NameKind)} {n:Nat} {acc:List (Str×Addr)},(x,NameKind.cell)∉names->(cellsFrom n names acc).lookup x=acc.lookup x
 | [],_,_,_=>rfl
 | (y,k)::r,n,acc,h=>by
  unfold cellsFrom;have hr:(x,NameKind.cell)∉r:=λm=>h (j7 _ m);split
  .rename_i hk
   have hy:(x == y)=false:=by
    cases e:x == y with
    | false=>rfl
    | true=>
     exfalso;refine h ?_;rw[dY.mp e,dY.mp hk];exact nV
   rw[xP hr,eP,hy]
  .exact xP hr
theorem xO:∀ (names:List (Str×NameKind)) (n:Nat) (acc:List (Str×Addr)),(∀ x c,acc.lookup x=some c->c<n)->(∀ x y c,acc.lookup x=some c->acc.lookup y=some c->x=y)->
  ∀ x y c,(cellsFrom n names acc).lookup x=some c->(cellsFrom n names acc).lookup y=some c->x=y
 | [],_,_,_,hi=>hi
 | (z,k)::r,n,acc,hl,hi=>by
  unfold cellsFrom;split
  .refine xO r (n+1) _ (λx c h=>?_) (λx y c h1 h2=>?_)
   .rw [eP] at h;cases e:x == z with
    | true=>rw[e] at h;cases h;exact uW _
    | false=>rw[e] at h;exact nU (hl x c h)
   .rw [eP] at h1 h2;cases e1:x == z with
    | true=>
     rw[e1] at h1;cases h1;cases e2:y == z with
     | true=>rw[dY.mp e1,dY.mp e2]
     | false=>rw[e2] at h2;exact absurd (hl y _ h2) (gX _)
    | false=>
     rw[e1] at h1;cases e2:y == z with
     | true=>rw[e2] at h2;cases h2;exact absurd (hl x _ h1) (gX _)
     | false=>rw[e2] at h2;exact hi x y c h1 h2
  .exact xO r n acc hl hi
theorem yz {x:Str}{c:Addr}:∀ (names:List (Str×NameKind)) (h:Heap) (acc:List (Str×Addr)),(cellsFrom h.objs.size names acc).lookup x=some c->(pushCells h names).IsCell c none\/acc.lookup x=some c
 | [],_,_,z=>.inr z
 | (y,k)::r,h,acc,z=>by
  unfold cellsFrom at z;unfold pushCells;split at z
  .rename_i hk
   rw[if_pos hk];have z':(cellsFrom (h.push { cls:=.type "cell",data:=.cell none }).objs.size r ((y,h.objs.size)::acc)).lookup x=some c:=by rw[qF];exact z
   rcases yz r _ _ z' with q|q
   .exact .inl q
   .rw [eP] at q;cases e:x == y with
    | true=>
     rw[e] at q;cases q;exact .inl ⟨_,pushCells_keeps _ _ _ _ (gA _ rfl),rfl⟩
    | false=>rw[e] at q;exact .inr q
  .rename_i hk
   rw[if_neg hk];exact yz r h acc z
theorem yA {env:Env}(f:Str×NameKind->List (Str×Addr)->Sem (ForInStep (List (Str×Addr))))(hf:∀ name kind cs,f (name,kind) cs=if kind == .free then (do let a <- cellOf env name;pure (.yield ((name,a)::cs))) else pure (.yield cs)):
  ∀ (names:List (Str×NameKind)) (acc:List (Str×Addr)),(∀ y∈names,y.2=.free->∃ c,env.cells.lookup y.1=some c)->(∀ x c,acc.lookup x=some c->env.cells.lookup x=some c)->
  ∃ cl,forIn names acc f=pure cl/\(∀ x c,cl.lookup x=some c->env.cells.lookup x=some c)/\(∀ y∈names,y.2=.free->∃ c,cl.lookup y.1=some c)/\∀ x c,acc.lookup x=some c->∃ c',cl.lookup x=some c'
 | [],acc,_,ha=>⟨acc,rfl,ha,(λ_ m=>nomatch m),λx c e=>⟨c,e⟩⟩
 | (y,k)::r,acc,h,ha=>by
  rw[List.forIn_cons,hf];have hr:∀ y∈r,y.2=NameKind.free->∃ c,env.cells.lookup y.1=some c:=λz m=>h z (j7 _ m);by_cases hk:(k == NameKind.free)=true
  .obtain ⟨c,hc⟩:=h (y,k) nV (dY.mp hk);have e:cellOf env y=pure c:=by unfold cellOf;rw[hc]
   rw[if_pos hk,e,pure_bind,pure_bind];have ha':∀ x d,((y,c)::acc).lookup x=some d->env.cells.lookup x=some d:=λx d e=>by
    rw[eP] at e;cases e1:x == y with
    | true=>rw[e1] at e;cases e;rw[dY.mp e1];exact hc
    | false=>rw[e1] at e;exact ha x d e
   refine tU (yA f hf r ((y,c)::acc) hr ha') λcl q1 q2 q3 q4=>?_;refine⟨cl,q1,q2,λz m hz=>?_,λx d e=>?_⟩
   .rcases fH.mp m with e|m
    .subst e;exact q4 y c (by rw[eP,beq_self_eq_true])
    .exact q3 z m hz
   .by_cases e1:(x == y)=true
    .exact q4 x c (by rw[eP,e1])
    .exact q4 x d (by rw[eP];simp only[e1];exact e)
  .rw [if_neg hk,pure_bind];refine tU (yA f hf r acc hr ha) λcl q1 q2 q3 q4=>?_;refine⟨cl,q1,q2,λz m hz=>?_,q4⟩;rcases fH.mp m with e|m
   .subst e;exact absurd (dY.mpr hz) hk
   .exact q3 z m hz
theorem yB {scope:Scope}{env:Env}(h:∀ y∈scope.names,y.2=.free->∃ c,env.cells.lookup y.1=some c):
  ∃ cl,closureFor scope env=pure cl/\(∀ x c,cl.lookup x=some c->env.cells.lookup x=some c)/\∀ y∈scope.names,y.2=.free->∃ c,cl.lookup y.1=some c:=by
 obtain⟨cl,q1,q2,q3,_⟩:=yA (env:=env) (λx cs=>if x.2 == .free then (do let a <- cellOf env x.1;pure (.yield ((x.1,a)::cs))) else pure (.yield cs)) (λ_ _ _=>rfl) scope.names [] h (λ_ _ e=>nomatch e);refine⟨cl,?_,q2,q3⟩;unfold closureFor;have e:(λ(x:Str×NameKind) (r:List (Str×Addr))=>(match x with
   | (name,kind)=>if (kind == NameKind.free)=true then (do let __do_lift <- cellOf env name;pure (ForInStep.yield ((name,__do_lift)::r))) else pure (ForInStep.yield r):Sem (ForInStep (List (Str×Addr))))) =
   λx cs=>if x.2 == .free then (do let a <- cellOf env x.1;pure (.yield ((x.1,a)::cs))) else pure (.yield cs):=by
  funext x cs
  rfl
 have q:(forIn scope.names ([]:List (Str×Addr)) λ(x:Str×NameKind) (r:List (Str×Addr))=>(match x with
   | (name,kind)=>if (kind == NameKind.free)=true then (do let __do_lift <- cellOf env name;pure (ForInStep.yield ((name,__do_lift)::r))) else pure (ForInStep.yield r):Sem (ForInStep (List (Str×Addr)))))=pure cl:=by
  rw[e];exact q1
 simpa using q
theorem HS {M:Model}{A:Around}{E:Value->Shared->Prop}{s:Shared}{scope:Scope}{globals:Addr}{cl:List (Str×Addr)}{qual:Str}{env:Env}{Q:Env->Shared->Prop}(hQ:∀ h',h'.Ns s.heap.objs.size (λ_=>none)->(∀ b o,s.heap.get? b=some o->h'.get? b=some o)->
   (∀ x c,(cellsFrom (s.heap.objs.size+1) scope.names cl).lookup x=some c->h'.IsCell c none\/cl.lookup x=some c)->
   Q { scope,locals:=s.heap.objs.size,globals,cells:=cellsFrom (s.heap.objs.size+1) scope.names cl,qual,func:=none,code:=env.code,frame:=env.frame,builtins:=env.builtins } { s with heap:=h' }):
  wpAny M A (newFunctionEnv scope globals cl [] qual none .none (some env)) Q E s:=by
 simp only[newFunctionEnv,Option.isSome_some,eZ];refine bN (wpAny_alloc ?_);refine bN (wpAny_layCells _ (λname kind cells=>by cases hkc:kind == NameKind.cell <;> simp[hkc]) _ _ _ _ ?_);have hsz:(s.heap.push { cls:=.type "dict",data:=.dict #[] }).objs.size=s.heap.objs.size+1:=qF ..;have q:=hQ (pushCells (s.heap.push { cls:=.type "dict",data:=.dict #[] }) scope.names) ((Heap.Ns.new s.heap (.type "dict")).keeps (pushCells_keeps _ _)) (λb o e=>pushCells_keeps _ _ b o (dC _ e))
  (λx c e=>yz scope.names (s.heap.push { cls:=.type "dict",data:=.dict #[] }) cl (by rw[hsz];exact e))
 show wpAny _ _ _ _ _ _;rw[show ({ s with heap:=s.heap.push { cls:=.type "dict",data:=.dict #[] } }:Shared).heap.objs.size=s.heap.objs.size+1 from hsz];exact bN (df (df q))
theorem El {env:Env}{x:Str}:∀ {names:List (Str×NameKind)},names.lookup x=some .free->
  (names.map λ(n,k)=>if (k == NameKind.free && env.scope.kind == .function && env.kindOf n == some .cell) then (n,NameKind.cell) else (n,k)).lookup x=some .cell \/
  (names.map λ(n,k)=>if (k == NameKind.free && env.scope.kind == .function && env.kindOf n == some .cell) then (n,NameKind.cell) else (n,k)).lookup x=some .free
 | [],h=>by simp at h
 | (n,k)::r,h=>by
  have ih:=@El env x r;show List.lookup x ((if (k == NameKind.free && env.scope.kind == .function && env.kindOf n == some .cell)=true then (n,NameKind.cell) else (n,k))::_)=_\/List.lookup x ((if (k == NameKind.free && env.scope.kind == .function && env.kindOf n == some .cell)=true then (n,NameKind.cell) else (n,k))::_)=_;cases hx:x == n with
  | true=>
   simp only[eP,hx] at h;cases h;split <;> simp[eP,hx]
  | false=>
   simp only[eP,hx] at h;split <;> (simp only[eP,hx];exact ih h)
theorem Ag {env:Env}{x:Str}{kd:NameKind}:∀ {names:List (Str×NameKind)},
  (names.map λ(n,k)=>if (k == NameKind.free && env.scope.kind == .function && env.kindOf n == some .cell) then (n,NameKind.cell) else (n,k)).lookup x=some kd->
  names.lookup x=some kd\/names.lookup x=some .free
 | [],h=>by simp at h
 | (n,k)::r,h=>by
  have ih:=@Ag env x kd r;have h':List.lookup x ((if (k == NameKind.free && env.scope.kind == .function && env.kindOf n == some .cell)=true then (n,NameKind.cell) else (n,k))::(r.map λ(n,k)=>if (k == NameKind.free && env.scope.kind == .function && env.kindOf n == some .cell) then (n,NameKind.cell) else (n,k)))=some kd:=h;cases hx:x == n with
  | true=>
   by_cases hc:(k == NameKind.free && env.scope.kind == .function && env.kindOf n == some .cell)=true
   .have hk:k=.free:=by
     have:=(nR _ _ ▸ (nR _ _ ▸ hc).1).1;exact dY.mp this
    subst hk;exact .inr (by simp[eP,hx])
   .rw [if_neg hc] at h';simp only[eP,hx] at h';cases h';exact .inl (by simp[eP,hx])
  | false=>
   have h2:List.lookup x (r.map λ(n,k)=>if (k == NameKind.free && env.scope.kind == .function && env.kindOf n == some .cell) then (n,NameKind.cell) else (n,k))=some kd:=by
    split at h' <;> simpa only [eP,hx] using h'
   rcases ih h2 with z|z
   .exact .inl (by simp only[eP,hx];exact z)
   .exact .inr (by simp only[eP,hx];exact z)
def fc (X:Cx)(N:List Str)(scope:Scope)(cl:List (Str×Addr))(s:Shared)(H:Hp)(fp:List Addr):Cx where
 prog:=X.prog
 w:=X.w
 K:=X.K
 mg:=X.mg
 base:=X.base
 A:=X.A
 N:=N
 s₀:=s
 H₀:=H
 env:={ scope:=relabel scope X.env,locals:=s.heap.objs.size,globals:=X.env.globals,cells:=cellsFrom (s.heap.objs.size+1) scope.names cl,qual:=X.env.qual,func:=none,code:=X.env.code,frame:=X.env.frame,builtins:=X.env.builtins }
 outer:=X.stack
 stack:=X.stack
 ex:=fp
 fn:=λx=>scope.names.lookup x == some .cell
 calm:=X.calm
 pn:=[]
 xe:=λ_ _=>False
structure dq (X:Cx)(scope:Scope)(own:List Str)(fr:List (Str×Nat)):Prop where
 kind:scope.kind=.function
 free:∀ y∈scope.names,y.2=.free->X.env.scope.names.lookup y.1=some .cell\/X.env.scope.names.lookup y.1=some .free
 loc:∀ y∈scope.names,y.2=.local->scope.names.lookup y.1=some .local
 look:∀ y∈scope.names,scope.names.lookup y.1=some y.2
 cap:∀ y∈fr,scope.names.lookup y.1=some .free/\X.N[y.2]?=some y.1
def dG (k:Nat)(fr:List (Str×Nat))(σ:St):St:=List.replicate k none++fr.map λy=>(σ[y.2]?).getD none
def eH (own:List Str)(fr:List (Str×Nat)):List Str:=own++fr.map (·.1)
section
variable {X:Cx}{pins:List (Addr×Obj)}{σ:St}{H:Hp}{s:Shared}
theorem GU {scope:Scope}{own:List Str}{fr:List (Str×Nat)}{cl:List (Str×Addr)}{fp:List Addr}{h':Heap}(I:au X pins σ H s)(B:dq X scope own fr)(hcl:∀ x c,cl.lookup x=some c->X.env.cells.lookup x=some c)(hcl2:∀ y∈scope.names,y.2=.free->∃ c,cl.lookup y.1=some c)(hfp:∀ b∈fp,cm X pins H b)(hfo:∀ b∈fp,∃ o,s.heap.get? b=some o)(hn:h'.Ns s.heap.objs.size (λ_=>none))(hk:∀ b o,s.heap.get? b=some o->h'.get? b=some o)(hc:∀ x c,(cellsFrom (s.heap.objs.size+1) scope.names cl).lookup x=some c->h'.IsCell c none\/cl.lookup x=some c):
  au (fc X (eH own fr) scope cl s H fp) [] (dG own.length fr σ) H { s with heap:=h' }:=by
 have clt:∀ x c,cl.lookup x=some c->c<s.heap.objs.size:=λx c e=>by
  obtain⟨v,z⟩:=I.cell x c (hcl x c e);exact z.lt
 have ownC:∀ x c,(cellsFrom (s.heap.objs.size+1) scope.names cl).lookup x=some c->s.heap.objs.size+1<=c\/cl.lookup x=some c:=λx c e=>vp _ _ _ e;have bsz:X.base.objs.size<=s.heap.objs.size:=cx I.ok.bsz I.sz;refine⟨⟨I.ok.mod,B.kind,I.ok.glob,I.ok.blt,aI _,?_,?_,?_,I.ok.hd,I.ok.frames,.inl rfl,?_,I.bs,bsz,?_,?_,I.stack,I.stkFree,I.ok.top⟩,rfl,I.bare,Un.kept hk,⟨_,hn,?_⟩,?_,I.hok.fresh (aI _),?_,?_,I.hok.kept hk,?_⟩
 .exact xO _ _ _ (λx c e=>nU (clt x c e)) λx y c e1 e2=>I.ok.inj x y c (hcl x c e1) (hcl y c e2)
 .intro x hx;have hx:(relabel scope X.env).names.lookup x=some .cell\/(relabel scope X.env).names.lookup x=some .free:=hx;have q:scope.names.lookup x=some .cell\/scope.names.lookup x=some .free:=by
   rcases hx with z|z
   .exact Ag z
   .exact (Ag z).elim .inr .inr
  refine Bf.mp (xD scope.names _ _ ?_);rcases q with z|z
  .exact .inl z
  .obtain ⟨c,e⟩:=hcl2 _ (iX z) rfl;exact .inr (by rw[e];rfl)
 .intro x c hf e;have hf:(scope.names.lookup x == some .cell)=true:=hf;exact j8 (xQ _ _ _ (iX (dY.mp hf)) e)
 .intro b hb;obtain⟨o,ho⟩:=hfo b hb;refine⟨d8 (bX ho),λx c e=>?_⟩;rcases ownC x c e with z|z
  .intro q;subst q;exact absurd (dZ (bX ho) (j8 z)) (gX _)
  .exact (hfp b hb).2.2.2.2.1 x c (hcl x c z)
 .intro b o e hb;rcases (hfp b hb).2.2.2.1 with z|z
  .exact I.ok.noex b o e z
  .exact absurd (dZ (bX e) (cx I.ok.bsz z)) (gX _)
 .intro b hb z;rcases fH.mp (I.stkSub b z) with q|q
  .exact (hfp b hb).2.1 q
  .exact (hfp b hb).2.2.1 q
 .intro i x v h1 h2 h3;have h1:(eH own fr)[i]?=some x:=h1;unfold eH at h1;unfold dG at h2;by_cases hi:i<own.length
  .rw [eE (by rw[d0];exact hi),qM,if_pos hi] at h2;cases h2
  .have hi':own.length<=i:=Nat.le_of_not_lt hi;rw[d_ hi',bH] at h1;rw[d_ (by rw[d0];exact hi'),d0,bH] at h2;cases e:fr[i-own.length]? with
   | none=>rw[e] at h1;cases h1
   | some y=>
    rw[e] at h1 h2;have hy1:y.1=x:=fJ h1;have hy2:(σ[y.2]?).getD none=some v:=fJ h2;obtain⟨c1,c2⟩:=B.cap y (aY e);rw[hy1] at c1 c2;have hs:σ[y.2]?=some (some v):=by
     cases e2:σ[y.2]? with
     | none=>rw[e2] at hy2;cases hy2
     | some o=>rw[e2] at hy2;cases o with
      | none=>cases hy2
      | some w=>cases hy2;rfl
    refine ar I.loc λm hm hl=>?_;have hfree:=B.free _ (iX c1) rfl;refine ar (hl y.2 x v c2 hs (hfree.elim (λz=>.inr (.inl z)) λz=>.inr (.inr z))) λu r l=>?_;refine⟨u,r,?_⟩;obtain⟨k,c,e3,z⟩:(X.env.kindOf x=some .cell\/X.env.kindOf x=some .free)/\∃ c,X.env.cells.lookup x=some c/\s.heap.IsCell c (some u):=by
     rcases l with ⟨k,_⟩|q
     .have k:X.env.scope.names.lookup x=some .local:=k;rcases hfree with z|z <;> (rw[z] at k;cases k)
     .exact q
    obtain⟨d,hd⟩:=hcl2 _ (iX c1) rfl;have hd':=hcl x d hd;rw[e3] at hd';cases hd';obtain⟨c',hc'⟩:∃ c',(cellsFrom (s.heap.objs.size+1) scope.names cl).lookup x=some c':=Bf.mp (xD scope.names _ _ (.inr (by rw[hd];rfl)));have hcc:c'=c:=by
     rcases ownC x c' hc' with q|q
     .-- an own cell of that name: it is free,so no
      exfalso;have:(x,NameKind.cell)∉scope.names:=λm=>by
       have:=B.look _ m;rw[c1] at this;cases this
      exact absurd hc' (by
       rw[xP this];intro z;rw[hd] at z;cases z;exact absurd (clt x _ hd) (Nat.not_lt.mpr (j8 q)))
     .rw [hd] at q;cases q;rfl
    subst hcc;refine .inr ⟨?_,c',hc',z.keeps hk⟩;exact El c1
 .intro x c e;rcases hc x c e with z|z
  .exact ⟨_,z⟩
  .obtain ⟨v,q⟩:=I.cell x c (hcl x c z);exact⟨v,q.keeps hk⟩
 .intro x c e;rcases ownC x c e with z|z
  .exact I.hok.fresh (j8 z)
  .exact I.freeC x c (hcl x c z)
 .intro p hp;exact absurd (show p∈([]:List (Addr×Obj)) from hp) (by simp)
 .show (dG _ _ _).length=(eH _ _).length;unfold dG eH;simp
end
def uK (X:Cx)(ifs:List Expr)(t:TT):Prop:=
 ∀ (pins:List (Addr×Obj)) (s:Shared) (σ:St) (H:Hp) (Q:Bool->Hp->Prop),au X pins σ H s->t σ H Q->
  wpAny (model X.prog X.w) X.A (forIn ifs true λc r=>if r=true then do let ok <- isTrue c X.env (eval c X.env);pure (ForInStep.yield ok) else pure (ForInStep.yield r)) (TP X pins σ Q) X.xe s
def dr:TT:=λ_ H Q=>Q true H
theorem dz {X:Cx}:uK X [] dr:=λpins s σ H Q I h=>wpAny_tests_nil ⟨H,I,h⟩
theorem wj {X:Cx}{c:Expr}{t:TT}(hc:PT X c t):uK X [c] t:=λpins s σ H Q I h=>wpAny_tests_one (hc pins s σ H Q I h)
section
variable {prog:Program}{w:World}{A:Around}{R:Result->Shared->Prop}{s:Shared}
theorem HV {elt target iter:Expr}{ifs:List Expr}{scope:Scope}{pos:Pos}{it acc:Value}{env:Env}(I:Nat->Shared->Prop)(turn:∀ n s,I n s->wpAny (model prog w) A (pyNext it) (λr s₁=>match r with
   | none=>R (.ok .next) s₁
   | some v=>wpAny (model prog w) A (letOwnedTupleGo target it v) (λ_ s₁=>wpAny (model prog w) A (assign target env v) (λ_ s₂=>
     wpAny (model prog w) A (forIn ifs true λc r=>if r=true then do let ok <- isTrue c env (eval c env);pure (ForInStep.yield ok) else pure (ForInStep.yield r)) (λok s₃=>
      if ok=true then wpAny (model prog w) A (eval elt env) (λx s₄=>
       wpAny (model prog w) A (call (.builtin "list.append") [acc,x]) (λ_ s₅=>∃ m,m<n/\I m s₅) (λ_ _=>False) s₄) (λ_ _=>False) s₃
      else ∃ m,m<n/\I m s₃) (λ_ _=>False) s₂) (λ_ _=>False) s₁) (λ_ _=>False) s₁) (λ_ _=>False) s)(n:Nat)(h:I n s):
  codeAny (model prog w) A (.compLoop (.ListComp elt [⟨target,iter,ifs,0⟩] scope pos) 0 it acc env) R s:=by
 refine codeAny_loop rfl I (λn s hI=>?_) n h;show wpAny _ A ((compTurn (.ListComp elt [⟨target,iter,ifs,0⟩] scope pos) 0 it acc env).onRaise (λx=>do noteFrame x env;theTreesLotGoes x)) _ _ s;refine wpAny_noted ?_;rw[compTurn_list];refine bN (xk (bN (iQ (turn n s hI) (λr s₁ h₁=>?_) λ_ _ h'=>h'.elim)));cases r with
 | none=>exact df h₁
 | some v=>
  refine bN (iQ h₁ (λ_ s₁' h₁'=>?_) λ_ _ h'=>h'.elim);refine bN (iQ h₁' (λ_ s₂ h₂=>bN (iQ h₂ (λok s₃ h₃=>?_) λ_ _ h'=>h'.elim)) λ_ _ h'=>h'.elim);cases ok with
  | false=>exact df ⟨rfl,h₃⟩
  | true=>
   exact bN (bN (iQ h₃ (λx s₄ h₄=>bN (iQ h₄ (λ_ s₅ h₅=>df (df ⟨rfl,h₅⟩)) λ_ _ h'=>h'.elim)) λ_ _ h'=>h'.elim))
end
def eT (g:TG)(tt:TT)(te:TE)(J:It)(D:Addr)(σ0:St)(H1:Hp)(Q:VK):Prop:=
 ∃ W:Nat->Nat->St->Hp->Prop,(∃ m,W 0 m σ0 (ao H1 D (.lst [])))/\∀ i m σ' H2,W i m σ' H2->
  (J.stop i H2/\Q (.ref D) H2)\/(J.go i H2/\∀ x H3,J.yld i H2 x H3->g x σ' H3 λσ4 H4=>tt σ4 H4 λb H5=>
   if b=true then te σ4 H5 λy H6=>∃ vs,H6 D=some (.lst vs)/\vs.length<sizeLine/\∃ m',m'<m/\W (i+1) m' σ4 (ao H6 D (.lst (vs++[y])))
   else ∃ m',m'<m/\W (i+1) m' σ4 H5)
def tComp (k:Nat)(fr:List (Str×Nat))(wi:TI)(g:TG)(tt:TT)(te:TE):TE:=λσ H Q=>wi σ H λJ H1=>∀ D,H1 D=none->eT g tt te J D (dG k fr σ) H1 Q
section
variable {X:Cx}{tg iter elt:Expr}{ifs:List Expr}{scope:Scope}{pos:Pos}{own:List Str}{fr:List (Str×Nat)}{wi:TI}{g:TG}{tt:TT}{te:TE}
theorem CU {pins:List (Addr×Obj)}{s2:Shared}{σ:St}{H2:Hp}{it:Addr}{fp:List Addr}{tn:Nat->Heap->Prop}{J:It}{Q:VK}{cl:List (Str×Addr)}{RR:Value->Addr->Result->Shared->Prop}{E:Value->Shared->Prop}(hc:X.calm=true)(B:dq X scope own fr)(hb:∀ cl s H fp,PG (fc X (eH own fr) scope cl s H fp) tg g/\uK (fc X (eH own fr) scope cl s H fp) ifs tt/\PE (fc X (eH own fr) scope cl s H fp) elt te)(hcl:∀ x c,cl.lookup x=some c->X.env.cells.lookup x=some c)(hcl2:∀ y∈scope.names,y.2=.free->∃ c,cl.lookup y.1=some c)(I2:au X pins σ H2 s2)(T:gR X.prog X.w X.K tg J fp it tn)(st2:tn 0 s2.heap)(f2:∀ b∈fp,cm X pins H2 b)(q:∀ D,H2 D=none->eT g tt te J D (dG own.length fr σ) H2 Q)(hRR:∀ D C s' H',au X pins σ H' s'->Q (.ref D) H'->(∃ m,s'.heap.Ns C m)->C≠X.env.locals->(∀ x c,X.env.cells.lookup x=some c->c≠C)->(∀ p∈X.pn++pins,p.1≠C)->X.s₀.heap.objs.size<=C->H' C=none->RR (.ref D) C (.ok .next) s'):
  wpAny (model X.prog X.w) X.A (newList []) (λacc s₃=>wpAny (model X.prog X.w) X.A (newFunctionEnv scope X.env.globals cl [] X.env.qual none .none (some X.env)) (λcenv s₄=>
   codeAny (model X.prog X.w) X.A (.compStart (.ListComp elt [⟨tg,iter,ifs,0⟩] scope pos) 0 (.ref it) acc { cenv with scope:=relabel scope X.env }) (RR acc cenv.locals) s₄) E s₃) E s2:=by
 refine wpAny_newObj_type ?_;have fr0:H2 s2.heap.objs.size=none:=I2.hok.fresh (aI _);have I3:=I2.lnew (its:=[]) (ys:=[]) (t':=s2.toks) .nil (eB _);generalize hs3:({ s2 with heap:=s2.heap.push { cls:=.type "list",data:=.seq ([]:List Value).toArray } }:Shared)=s3 at *;have k23:∀ b o,s2.heap.get? b=some o->s3.heap.get? b=some o:=λb o e=>by rw[<- hs3];exact dC _ e
 have sz3:s3.heap.objs.size=s2.heap.objs.size+1:=by rw[<- hs3];exact qF ..
 have I3':au X pins σ (ao H2 s2.heap.objs.size (.lst [])) s3:=I3;have fne:∀ b∈fp,b≠s2.heap.objs.size:=λb hb z=>by
  refine ar (T.obj 0 _ st2 b hb) λo ho _=>?_;exact absurd (bX ho) (by rw[z];exact gX _)
 have f3:∀ b∈fp,cm X pins (ao H2 s2.heap.objs.size (.lst [])) b:=λb hb=>⟨by rw[aJ (fne b hb)];exact (f2 b hb).1,(f2 b hb).2⟩
 have st3:tn 0 s3.heap:=T.keep 0 _ _ st2 λb _ o e=>k23 b o e;have hfo:∀ b∈fp,∃ o,s3.heap.get? b=some o:=λb hb=>let ⟨o,ho,_⟩:=T.obj 0 _ st3 b hb;⟨o,ho⟩;refine HS λh' hn hk hce=>?_;have I4:=GU (own:=own) I3' B hcl hcl2 f3 hfo hn hk hce;refine bQ (hb cl s3 (ao H2 s2.heap.objs.size (.lst [])) fp) λhg ht he=>?_;have st4:tn 0 h':=T.keep 0 _ _ st3 λb _ o e=>hk b o e;have stat:∀ {H':Hp},(∀ b∈fp,H' b=none)->∀ b∈fp,cm (fc X (eH own fr) scope cl s3 (ao H2 s2.heap.objs.size (.lst [])) fp) [] H' b:=λ{H'} hnn b hb=>
  ⟨hnn b hb,(I4.ok.exf b hb).1,I4.ok.exfs b hb,.inl hb,(I4.ok.exf b hb).2,λp hp=>absurd (show p∈([]:List (Addr×Obj)) from hp) (by simp)⟩
 refine ar (q s2.heap.objs.size fr0) λW e92 turn=>?_;obtain⟨m0,w0⟩:=e92;have loop:codeAny (model X.prog X.w) X.A (.compLoop (.ListComp elt [⟨tg,iter,ifs,0⟩] scope pos) 0 (.ref it) (.ref s2.heap.objs.size) (fc X (eH own fr) scope cl s3 (ao H2 s2.heap.objs.size (.lst [])) fp).env)
   (RR (.ref s2.heap.objs.size) s3.heap.objs.size) { s3 with heap:=h' }:=by
  refine HV (λn s'=>∃ i σ' H',au (fc X (eH own fr) scope cl s3 (ao H2 s2.heap.objs.size (.lst [])) fp) [] σ' H' s'/\tn i s'.heap/\(∀ b∈fp,H' b=none)/\W i n σ' H') ?_ m0
   ⟨0,_,_,I4,st4,λb hb=>(f3 b hb).1,w0⟩
  intro n s5 e91;refine cD e91 λi σ5 H5 I5 st5 fr5 w5=>?_;clear e91;rcases turn i n σ5 H5 w5 with ⟨stop,qn⟩|⟨go,step⟩
  .refine aN (T.done (fc X (eH own fr) scope cl s3 (ao H2 s2.heap.objs.size (.lst [])) fp) rfl rfl rfl hc i [] s5 σ5 H5 _ I5 (stat fr5) st5 stop) λr s6 ⟨hr,I6⟩=>?_;subst hr;have I7:au X pins σ H5 s6:=I3'.call' (ch:=fp) I6.os I6.base I6.hok I6.bare λb hb=>⟨(f3 b hb).2.2.2.1,(f3 b hb).2.1,(f3 b hb).2.2.2.2.1,(f3 b hb).2.2.2.2.2⟩
   refine ar I6.loc λm6 hn6 _=>?_;refine hRR _ _ s6 H5 I7 qn ⟨m6,hn6⟩ (r_ I3'.lt) (λx c e=>?_) (λp hp=>?_) I3'.sz I6.free
   .obtain ⟨v,z⟩:=I3'.cell x c e;exact d8 z.lt
   .exact d8 (bX (I3'.pin p hp).1)
  .refine aN (T.item (fc X (eH own fr) scope cl s3 (ao H2 s2.heap.objs.size (.lst [])) fp) rfl rfl rfl hc i [] s5 σ5 H5 _ I5 (stat fr5) st5 go) λr s6 ⟨u,hr,h6⟩=>?_;subst hr;refine aN h6 λ_ s7 ⟨x,H7,I7,r7,y7,st7,fr7⟩=>?_;have I7':=I7.pinned (stat fr7) (T.obj _ _ st7);refine aN (hg _ s7 σ5 H7 x u _ I7' r7 (step x H7 y7)) λ_ s8 ⟨σ8,H8,I8,q8⟩=>?_;refine aN (ht _ s8 σ8 H8 _ I8 q8) λb s9 ⟨H9,I9,q9⟩=>?_;have again:∀ {sA:Shared} {σA:St} {HA:Hp} {m':Nat},au (fc X (eH own fr) scope cl s3 (ao H2 s2.heap.objs.size (.lst [])) fp) ([]++uc fp s7.heap) σA HA sA->m'<n->W (i+1) m' σA HA->
     ∃ m,m<n/\∃ i σ' H',au (fc X (eH own fr) scope cl s3 (ao H2 s2.heap.objs.size (.lst [])) fp) [] σ' H' sA/\tn i sA.heap/\(∀ b∈fp,H' b=none)/\W i m σ' H':=λ{sA σA HA m'} IA hm wA=>by
    refine⟨m',hm,i+1,σA,HA,IA.unpinned,T.keep _ _ _ st7 λb hb o e=>(IA.pin (b,o) (fZ _ (fZ _ (uE hb e)))).1,λb hb=>?_,wA⟩;refine ar (T.obj _ _ st7 b hb) λo e d=>?_;exact (IA.pin (b,o) (fZ _ (fZ _ (uE hb e)))).2.1
   cases b with
   | false=>
    refine ar q9 λm' hm w9=>?_;clear q9;exact again I9 hm w9
   | true=>
    have q9:te σ8 H9 _:=q9;show wpAny _ _ _ _ _ _;refine aN (he _ s9 σ8 H9 _ I9 q9) λy sA ⟨vy,HA,IA,rA,vs,hvs,hlen,m',hm,wA⟩=>?_;refine aN (fW (X:=fc X (eH own fr) scope cl s3 (ao H2 s2.heap.objs.size (.lst [])) fp) _ sA σ8 HA (.ref s2.heap.objs.size) [vy] (.ref s2.heap.objs.size) [y] (λ_ HB=>W (i+1) m' σ8 HB) IA rfl (.cons rA .nil) ⟨_,vs,vy,rfl,rfl,hvs,hlen,wA⟩) λ_ sB ⟨_,HB,IB,_,wB⟩=>?_;exact again IB hm wB
 exact codeAny_compStart_list loop (T.self _ 0 _ _ _ st4 loop)
theorem SameBut.get {a:Addr}{h h':Heap}(x:Heap.SameBut a h h'):∀ b o,b≠a->h.get? b=some o->h'.get? b=some o:=λb o n e=>(x.2 b n).trans e
theorem eL (hc:X.calm=true)(B:dq X scope own fr)(hi:PI X tg iter wi)(hb:∀ cl s H fp,PG (fc X (eH own fr) scope cl s H fp) tg g/\uK (fc X (eH own fr) scope cl s H fp) ifs tt/\PE (fc X (eH own fr) scope cl s H fp) elt te)(hs:∀ x,foldedSetIterable iter X.env x=pure x:=by intro _;rfl):
  PE X (.ListComp elt [⟨tg,iter,ifs,0⟩] scope pos) (tComp own.length fr wi g tt te):=by
 intro pins s σ H Q I h;refine aQ (yB (scope:=scope) (env:=X.env) λy hy hf=>I.ok.has y.1 (B.free y hy hf)) λcl hclos hcl hcl2=>?_;rw[eval_ListComp];refine wpAny_comprehension_free (use:=none) rfl hs hclos B.kind B.loc (aN (hi pins s σ H _ I h) λv s1 h1=>aN h1 λitv s2 h2=>?_);refine g9 h2 λit fp tn J H2 e I2 T e93=>?_;clear h2;refine bQ e93 λst2 f2 q=>?_;clear e93;subst e;refine CU (RR:=λacc C=>compPost (model X.prog X.w) X.A X.xe none (EP X pins σ Q) acc C) (Q:=Q) hc B hb hcl hcl2 I2 T st2 f2 q ?_;intro D C s' H' I' hq hn n1 n2 n3 n4 n5;obtain⟨m,hn⟩:=hn;refine⟨m,hn,λh' hs'=>⟨.ref D,H',I'.turned (it:=C) (t':=s'.toks) (λb o hb e=>SameBut.get hs' b o hb e) n5 (fq (fq n1)) (.inr n4) n2 n3,rfl,hq⟩⟩
theorem my {i:Nat}{x:Str}{pos' spos:Pos}(hc:X.calm=true)(B:dq X scope own fr)(hi:PI X tg iter wi)(hb:∀ cl s H fp,PG (fc X (eH own fr) scope cl s H fp) tg g/\uK (fc X (eH own fr) scope cl s H fp) ifs tt/\PE (fc X (eH own fr) scope cl s H fp) elt te)(hN:X.N.Nodup)(hix:X.N[i]?=some x)(hx:X.env.scope.names.lookup x=some .local)(hsw:swapsWith (.ListComp elt [⟨tg,iter,ifs,0⟩] scope pos) (some (.Name x pos')) spos.line X.env=pure true)(hs:∀ x,foldedSetIterable iter X.env x=pure x:=by intro _;rfl):
  PS X (.Assign [.Name x pos'] (.ListComp elt [⟨tg,iter,ifs,0⟩] scope pos) spos) (tAsg (tComp own.length fr wi g tt te) (cg i)):=by
 intro pins s σ H D I h;refine aQ (yB (scope:=scope) (env:=X.env) λy hy hf=>I.ok.has y.1 (B.free y hy hf)) λcl hclos hcl hcl2=>?_;rw[exec_Assign_Name_used _ _ _ _ hsw];refine bN (xk (bN ?_));show wpAny _ _ (do let _ <- comprehension (.ListComp elt [⟨tg,iter,ifs,0⟩] scope pos) scope X.env _ (newList []) false (eval iter X.env) (some (assign (.Name x pos') X.env))) _ _ s;refine bN (iQ (wpAny_comprehension_free (use:=some (assign (.Name x pos') X.env)) (Q:=λ_ s'=>SP X pins D .next s') rfl hs hclos B.kind B.loc (aN (hi pins s σ H _ I h) λv s1 h1=>aN h1 λitv s2 h2=>?_))
  (λ_ s' hq=>df (df hq)) λ_ _ e=>e)
 refine g9 h2 λit fp tn J H2 e I2 T e94=>?_;clear h2;refine bQ e94 λst2 f2 q=>?_;clear e94;subst e;refine CU (RR:=λacc C=>compPost (model X.prog X.w) X.A X.xe (some (assign (.Name x pos') X.env)) (λ_ s'=>SP X pins D .next s') acc C) (Q:=λv H'=>cg i v σ H' D.nx) hc B hb hcl hcl2 I2 T st2 f2 q ?_;intro DD C s' H' I' hq hn n1 n2 n3 n4 n5;obtain⟨m,hn⟩:=hn;show wpAny _ _ (assign (.Name x pos') X.env (.ref DD)) _ _ s';refine wpAny_assign_Name (DV I' hN hix (.inl hx) (v:=.ref DD) rfl (λs3 I3 ⟨a,hsa,ha⟩=>?_) (.inr hx));have hCa:C≠a:=by
  rcases ha with z|z
  .rw [z];exact n1
  .exact (n2 x a z).symm
 refine⟨m,hn.sameBut hsa hCa,λh' hs'=>⟨σ.set i (some (.ref DD)),H',I3.turned (it:=C) (t':=s3.toks) (λb o hb e=>SameBut.get hs' b o hb e) n5 n1 (.inr n4) n2 n3,hq⟩⟩
end
section
variable {X:Cx}
theorem dW:bY X (binaryOp .Mult) (rI IntMulOk λi j=>.int (i*j)):=
 opI λi j t u s Q E c h=>PyProof.Rows.mul_int h c
def cV:V->Option Value
 | .ty n=>some (.type n)
 | .ref a=>some (.ref a)
 | _=>none
theorem h_:gJ X (.builtin "isinstance") (λxs H Q=>∃ x y c t b,xs=[x,y]/\cV y=some c/\cO X.K H x t/\PySem.W.kitOne X.K t c=some b/\Q (.bl b) H):=by
 intro pins s σ H xs us Q I r h;refine g9 h λx y c t b e93 hc ty e94=>?_;clear h;obtain rfl:=e93;obtain⟨e,q⟩:=e94;refine cy (vals2 r) λu v e95 rx ry=>?_;obtain rfl:=e95;have hv:v=c:=by
  cases y <;> first|(cases hc;done)|(cases hc;cases ry;rfl)
 subst hv;exact GY I rx ty e λtk=>⟨.bl b,H,I.tok _,rfl,q⟩
theorem qw (bs:List Bool):(List.range bs.length).all (λi=>(bs[i]?).getD true)=bs.all id:=by
 rw[nQ,iT,iT];constructor
 .intro h b hb;obtain⟨i,hi,rfl⟩:=d9.mp hb;have:=h i (eC.mpr hi);rw[aF hi] at this;exact this
 .intro h i hi;have hi:=eC.mp hi;rw[aF hi];exact h _ (eO hi)
theorem HL {A:Around}{prog:Program}{w:World}{bs:List Bool}{its:List Value}(r:av (bs.map V.bl) its):TruthOf prog w A (λi v=>its.toArray[i]?=some v) (λi=>(bs[i]?).getD true):=by
 intro i v s Q E hP hQ;have hP:its[i]?=some v:=by simpa using hP
 have hl:=r.length;rw[aA] at hl;have hi:i<bs.length:=by rw[hl];exact (cj.mp hP).1
 obtain⟨u,hu,rv⟩:=r.get (i:=i) (x:=.bl bs[i]) (by rw[bH,aF hi];rfl);rw[hP] at hu;cases hu;cases rv;have hQ:Q ((bs[i]?).getD true) s:=hQ;rw[aF hi] at hQ;exact iV hQ
theorem qr (hc:X.calm=true):gJ X (.builtin "all") (λxs H Q=>∃ (p:Addr) (bs:List Bool),xs=[.ref p]/\aj X.K H p (bs.map V.bl)/\Q (.bl (bs.all id)) H):=by
 intro pins s σ H xs us Q I r h;refine cy h λp bs e96 hq q=>?_;clear h;obtain rfl:=e96;refine ar (qe r) λu e97 rx=>?_;obtain rfl:=e97;cases rx;refine aQ (I.list hq) λits rv pl hz=>?_;have hl:=rv.length;rw[aA] at hl;refine call_all_walk (xF pl.isList ?_);have hne:p≠s.heap.objs.size:=λe=>by
  refine cE pl λo n ho _=>?_;clear pl;exact absurd (bX ho) (by rw[e];exact gX _)
 refine nq s.heap.objs.size _ _ _ _ _ (λi=>(bs[i]?).getD true) ⟨rfl,Walks.list (A:=X.A.in1) (I.ok.hd hc) _ p hne its.toArray,⟨⟨_,gA _ rfl,rfl,rfl⟩,pl.isList.at λo e=>dC _ e⟩,HL rv,λh' tk kp=>?_⟩;have e:(List.range its.toArray.size).all (λi=>(bs[i]?).getD true)=bs.all id:=by
  rw[dh,<- hl];exact qw bs
 rw[e];have f:=I.fpOk (H':=H) (aI s.heap.objs.size) (I.hok.fresh (aI _));exact aM (.bl _) H ⟨(I.kept (h':=s.heap.push { cls:=.type "list_iterator",data:=.fields #[.ref p,.int 0 0] }) (t':=s.toks) λb o e=>dC _ e).turned (it:=s.heap.objs.size) (t':=tk) (λb o hb e=>kp b o (by simpa using hb) e) f.1 f.2.1 f.2.2.2.1 f.2.2.2.2.1 f.2.2.2.2.2,rfl,q⟩
end
inductive gD (K:Frag) (H:Hp):Nat->V->V->Bool->Prop where
 | flat {n:Nat} {x y:V} (hx:qT x=true) (hy:qT y=true):gD K H n x y (eqV x y)
 | same {n:Nat} {a:Addr}:gD K H n (.ref a) (.ref a) true
 | list {n:Nat} {a c:Addr} {xs ys:List V} {bs:List Bool} (ne:a≠c) (ha:aj K H a xs) (hc:aj K H c ys) (hl:xs.length=ys.length) (hb:bs.length=xs.length)
   (he:∀ (j:Nat) x y b,xs[j]?=some x->ys[j]?=some y->bs[j]?=some b->gD K H n x y b):gD K H (n+1) (.ref a) (.ref c) (bs.all id)
 | listL {n:Nat} {a c:Addr} {xs ys:List V} (ne:a≠c) (ha:aj K H a xs) (hc:aj K H c ys) (hl:xs.length≠ys.length):gD K H (n+1) (.ref a) (.ref c) false
 | tuple {n:Nat} {a c:Addr} {xs ys:List V} {bs:List Bool} (ne:a≠c) (ha:aB K H a xs) (hc:aB K H c ys) (hl:xs.length=ys.length) (hb:bs.length=xs.length)
   (he:∀ (j:Nat) x y b,xs[j]?=some x->ys[j]?=some y->bs[j]?=some b->gD K H n x y b):gD K H (n+1) (.ref a) (.ref c) (bs.all id)
def uk (K:Frag)(H:Hp)(n:Nat)(xs ys:List V)(bs:List Bool):Prop:=
 xs.length=ys.length/\bs.length=xs.length/\∀ (j:Nat) x y b,xs[j]?=some x->ys[j]?=some y->bs[j]?=some b->gD K H n x y b
section
variable {X:Cx}{pins:List (Addr×Obj)}{σ:St}{H:Hp}{s:Shared}
theorem rH {A:Around}{xs ys:List V}{us vs:List Value}{bs:List Bool}(rx:av xs us)(ry:av ys vs)(hl:xs.length=ys.length)(hb:bs.length=xs.length)(ih:∀ (j:Nat) x y b,xs[j]?=some x->ys[j]?=some y->bs[j]?=some b->∀ u v,aG x u->aG y v->SeqAt.EqAt A s u v b):
  ∀ j (h1:j<us.toArray.size) (h2:j<vs.toArray.size),SeqAt.EqAt A s us.toArray[j] vs.toArray[j] ((bs[j]?).getD true):=by
 intro j h1 h2;have e1:=rx.length;have e2:=ry.length;have h1':j<us.length:=by simpa using h1
 have h2':j<vs.length:=by simpa using h2
 have g1:xs[j]?=some (xs[j]'(by omega)):=aF _;have g2:ys[j]?=some (ys[j]'(by omega)):=aF _;have g3:bs[j]?=some (bs[j]'(by omega)):=aF _;refine ar (rx.get g1) λu hu ru=>?_;refine ar (ry.get g2) λv hv rv=>?_;have eu:us.toArray[j]=u:=by
  rw[aF h1'] at hu;simpa using hu
 have ev:vs.toArray[j]=v:=by
  rw[aF h2'] at hv;simpa using hv
 rw[eu,ev,g3];exact ih j _ _ _ g1 g2 g3 u v ru rv
theorem gD.at {n:Nat}{x y:V}{b:Bool}(I:au X pins σ H s)(e:gD X.K H n x y b):∀ {A:Around} {u v:Value},A.units+n<cLine->aG x u->aG y v->SeqAt.EqAt A s u v b:=by
 induction e with
 | flat hx hy=>intro A u v _ ru rv;exact pY ru rv hx hy
 | same=>intro A u v _ ru rv;cases ru;cases rv;exact SeqAt.EqAt.same _
 | @list n a c xs ys bs ne ha hc hl hb he ih=>
  intro A u v hA ru rv;cases ru;cases rv;refine aQ (I.list ha) λits r1 p1 _=>?_;refine aQ (I.list hc) λits' r2 p2 _=>?_;have e1:=r1.length;have e2:=r2.length;have q:=SeqAt.RcAt.lists (e:=λj=>(bs[j]?).getD true) p1.isList p2.isList (by simp;omega) ∅ (rH (A:=A.in1) r1 r2 hl hb λj x y b h1 h2 h3 u v ru rv=>ih j x y b h1 h2 h3 (show A.units+1+n<cLine by omega) ru rv);rw[show its.toArray.size=bs.length by simp;omega,qw] at q;exact AU ne q
 | @listL n a c xs ys ne ha hc hl=>
  intro A u v hA ru rv;cases ru;cases rv;refine aQ (I.list ha) λits r1 p1 _=>?_;refine aQ (I.list hc) λits' r2 p2 _=>?_;have e1:=r1.length;have e2:=r2.length;exact AU ne (SeqAt.RcAt.lists_lengths p1.isList p2.isList (by simp;omega) ∅)
 | @tuple n a c xs ys bs ne ha hc hl hb he ih=>
  intro A u v hA ru rv;cases ru;cases rv;refine aQ (I.tuple ha) λits r1 p1 _=>?_;refine aQ (I.tuple hc) λits' r2 p2 _=>?_;have e1:=r1.length;have e2:=r2.length;have q:=SeqAt.RcAt.tuples (e:=λj=>(bs[j]?).getD true) p1 p2 ∅ (rH (A:=A.in1) r1 r2 hl hb λj x y b h1 h2 h3 u v ru rv=>ih j x y b h1 h2 h3 (show A.units+1+n<cLine by omega) ru rv);rw[show min its.toArray.size its'.toArray.size=bs.length by simp;omega,qw,show (its.toArray.size == its'.toArray.size)=true by simp;omega,xj] at q;exact AU ne q
def rEqL (K:Frag)(neg:Bool):R2:=λx y H Q=>∃ a c xs ys,x=.ref a/\y=.ref c/\aj K H a xs/\aj K H c ys /\
 ((xs.length≠ys.length/\Q (.bl neg) H)\/∃ bs,uk K H 6 xs ys bs/\Q (.bl (if neg then !bs.all id else bs.all id)) H)
def qR (K:Frag)(neg:Bool):R2:=λx y H Q=>∃ a c xs ys bs,x=.ref a/\y=.ref c/\aB K H a xs/\aB K H c ys/\uk K H 6 xs ys bs/\Q (.bl (if neg then !bs.all id else bs.all id)) H
theorem BC (hu:X.A.units+8<cLine):bY X (compareOp .Eq) (rEqL X.K false):=by
 intro pins s σ H x y v u Q I rx ry h;refine d6 h λa c xs ys e921 e922 ha e923=>?_;clear h;obtain rfl:=e921;obtain rfl:=e922;obtain⟨hc,h⟩:=e923;cases rx;cases ry;refine aQ (I.list ha) λits r1 p1 _=>?_;refine aQ (I.list hc) λits' r2 p2 _=>?_;have e1:=r1.length;have e2:=r2.length;rcases h with ⟨hne,q⟩|⟨bs,⟨hl,hb,he⟩,q⟩
 .exact SeqAt.eq_list_lengthsAt p1.isList p2.isList (by simp;omega) ∅ ⟨.bl false,H,I,rfl,q⟩
 .refine SeqAt.eq_listAt (e:=λj=>(bs[j]?).getD true) p1.isList p2.isList (by simp;omega) ∅ (rH (A:=X.A.in1) r1 r2 hl hb λj x y b h1 h2 h3 u v ru rv=>(he j x y b h1 h2 h3).at I (show X.A.units+1+6<cLine by omega) ru rv) ?_;rw[show its.toArray.size=bs.length by simp;omega,qw];exact aM (.bl (bs.all id)) H ⟨I,rfl,q⟩
theorem oR (hu:X.A.units+8<cLine):bY X (compareOp .NotEq) (rEqL X.K true):=by
 intro pins s σ H x y v u Q I rx ry h;refine d6 h λa c xs ys e924 e925 ha e926=>?_;clear h;obtain rfl:=e924;obtain rfl:=e925;obtain⟨hc,h⟩:=e926;cases rx;cases ry;refine aQ (I.list ha) λits r1 p1 _=>?_;refine aQ (I.list hc) λits' r2 p2 _=>?_;have e1:=r1.length;have e2:=r2.length;rcases h with ⟨hne,q⟩|⟨bs,⟨hl,hb,he⟩,q⟩
 .exact SeqAt.RcNeAt.lists_lengths p1.isList p2.isList (by simp;omega) ∅ _ _ _ _ ⟨.bl true,H,I,rfl,q⟩
 .refine SeqAt.RcNeAt.lists (e:=λj=>(bs[j]?).getD true) p1.isList p2.isList (by simp;omega) ∅ (rH (A:=X.A.in1) r1 r2 hl hb λj x y b h1 h2 h3 u v ru rv=>(he j x y b h1 h2 h3).at I (show X.A.units+1+6<cLine by omega) ru rv) _ _ _ _ ?_;rw[show its.toArray.size=bs.length by simp;omega,qw];exact aM (.bl (!bs.all id)) H ⟨I,rfl,q⟩
theorem oU (hu:X.A.units+8<cLine):bY X (compareOp .Eq) (qR X.K false):=by
 intro pins s σ H x y v u Q I rx ry h;refine g9 h λa c xs ys bs e927 e928 ha e929=>?_;clear h;obtain rfl:=e927;obtain rfl:=e928;refine bQ e929 λhc e930 q=>?_;clear e929;obtain⟨hl,hb,he⟩:=e930;cases rx;cases ry;refine aQ (I.tuple ha) λits r1 p1 _=>?_;refine aQ (I.tuple hc) λits' r2 p2 _=>?_;have e1:=r1.length;have e2:=r2.length;refine SeqAt.eq_tupleAt (e:=λj=>(bs[j]?).getD true) p1 p2 ∅ (rH (A:=X.A.in1) r1 r2 hl hb λj x y b h1 h2 h3 u v ru rv=>(he j x y b h1 h2 h3).at I (show X.A.units+1+6<cLine by omega) ru rv) ?_;rw[show min its.toArray.size its'.toArray.size=bs.length by simp;omega,qw,show (its.toArray.size == its'.toArray.size)=true by simp;omega,xj];exact aM (.bl (bs.all id)) H ⟨I,rfl,q⟩
theorem oP (hu:X.A.units+8<cLine):bY X (compareOp .NotEq) (qR X.K true):=by
 intro pins s σ H x y v u Q I rx ry h;refine g9 h λa c xs ys bs e931 e932 ha e933=>?_;clear h;obtain rfl:=e931;obtain rfl:=e932;refine bQ e933 λhc e934 q=>?_;clear e933;obtain⟨hl,hb,he⟩:=e934;cases rx;cases ry;refine aQ (I.tuple ha) λits r1 p1 _=>?_;refine aQ (I.tuple hc) λits' r2 p2 _=>?_;have e1:=r1.length;have e2:=r2.length;refine SeqAt.RcNeAt.tuples (e:=λj=>(bs[j]?).getD true) p1 p2 ∅ (rH (A:=X.A.in1) r1 r2 hl hb λj x y b h1 h2 h3 u v ru rv=>(he j x y b h1 h2 h3).at I (show X.A.units+1+6<cLine by omega) ru rv) _ _ _ _ ?_;rw[show min its.toArray.size its'.toArray.size=bs.length by simp;omega,qw,show (its.toArray.size == its'.toArray.size)=true by simp;omega,xj];exact aM (.bl (!bs.all id)) H ⟨I,rfl,q⟩
end
theorem DC (K:Frag):PySem.W.kitOne K (.type "int") (.type "int")=some true:=by rfl
theorem D7 (K:Frag):PySem.W.kitOne K (.type "int") (.type "bool")=some false:=by kernel_rfl
theorem Ek (K:Frag):PySem.W.kitOne K (.type "bool") (.type "bool")=some true:=by rfl
theorem Hu (K:Frag):PySem.W.kitOne K (.type "bool") (.type "int")=some true:=by kernel_rfl
theorem zi (K:Frag):PySem.W.kitOne K (.type "tuple") (.type "tuple")=some true:=by rfl
theorem wU (K:Frag):PySem.W.kitOne K (.type "list") (.type "list")=some true:=by rfl
structure az (P:Program)(w:World)(K:Frag)(mg:Str->Option Value)(base:Heap)(x:Str)(k:Nat)(sp:Sp):Prop where
 ex:∃ (f:Addr) (fd:FuncData) (ps:List Str),ax P w K mg base aW k f fd ps sp/\mg x=some (.ref f)/\PySem.W.keepIn K (.ref f)=true/\bL K fd ps []
theorem oO {X:Cx}{x:Str}{k:Nat}{sp:Sp}{e:Expr}{es:List Expr}{t:TA}{p pos:Pos}(C:az X.prog X.w X.K X.mg X.base x k sp)(hr:aX k X.A)(hg:Gl X x)(ha:PA X (e::es) t)(hdb:(x == ("__debug__" : Str))=false:=by decide)(he:starEach (e::es) X.env=(false,eval e X.env)::starEach es X.env:=by rfl)(hpl:(backTo pos (starEach es X.env)).any (·.1)=false:=by rfl):
  PE X (.Call (.Name x p) (e::es) [] pos) (vM sp [] E0 t):=by
 refine cD C.ex λf fd ps F hm hk hb=>?_;exact kO F hr hg hm hk hb .nil vB ha hdb he hpl
structure jI (P:Program)(w:World)(K:Frag)(mg:Str->Option Value)(base:Heap)(C:Addr)(m:Str)(k:Nat)(sp:Sp):Prop where
 ex:∃ (f:Addr) (fd:FuncData) (ps:List Str),ax P w K mg base aW k f fd ps sp/\gW K C m f/\bL K fd ps []
structure fw (P:Program)(w:World)(K:Frag)(mg:Str->Option Value)(base:Heap)(x:Str)(C:Addr)(k:Nat)(sp:Sp):Prop where
 ex:∃ (f:Addr) (fd:FuncData) (ps:List Str),ax P w K mg base aW k f fd ps sp/\Mk K C f/\mg x=some (.ref C)/\bL K fd ps []
theorem oN {X:Cx}{x:Str}{C:Addr}{k:Nat}{sp:Sp}{e:Expr}{es:List Expr}{t:TA}{p pos:Pos}(M:fw X.prog X.w X.K X.mg X.base x C k sp)(hr:aX (k+1) X.A)(hg:Gl X x)(ha:PA X (e::es) t)(hdb:(x == ("__debug__" : Str))=false:=by decide)(he:starEach (e::es) X.env=(false,eval e X.env)::starEach es X.env:=by rfl)(hpl:(backTo pos (starEach es X.env)).any (·.1)=false:=by rfl):
  PE X (.Call (.Name x p) (e::es) [] pos) (ym C sp [] E0 t):=by
 refine cD M.ex λf fd ps F hm hk hb=>?_;exact kL hm F hr hg hk hb .nil vB ha hdb he hpl
theorem BF {X:Cx}{m:Str}{C:Addr}{k:Nat}{sp:Sp}{o e:Expr}{es:List Expr}{ta:TE}{t:TA}{apos pos:Pos}{pl:Sem Bool}(c:gE X.K C)(M:jI X.prog X.w X.K X.mg X.base C m k sp)(hr:aX k X.A)(ho:PE X o ta)(ha:PA X (e::es) t)(hst:starEach (e::es) X.env=(false,eval e X.env)::starEach es X.env:=by rfl)(hpl:(backTo pos (starEach es X.env)).any (·.1)=false:=by rfl)(ht:eval (.Call (.Attribute o m apos) (e::es) [] pos) X.env=(do
   let ov <- eval o X.env
   standAt apos.atName
   let (f,first) <- holding [ov] (getMethod ov m pl)
   callWith pos f first (backTo pos (starEach (e::es) X.env)) (backToKw pos (keywordEach [] X.env))):=by rfl):
  PE X (.Call (.Attribute o m apos) (e::es) [] pos) (yo C m sp [] E0 ta t):=by
 refine g8 M.ex λf fd ps F hm hb=>?_;exact Co ho c hm F hr hb .nil vB ha hst hpl ht
def blOk (outer:List (Str×NameKind))(N:List Str)(scope:Scope)(fr:List (Str×Nat)):Bool:=
 scope.kind == .function && scope.names.all (λy=>y.2 != .free || outer.lookup y.1 == some .cell || outer.lookup y.1 == some .free) && scope.names.all (λy=>scope.names.lookup y.1 == some y.2) &&
 fr.all λy=>scope.names.lookup y.1 == some .free && N[y.2]? == some y.1
theorem c4 {X:Cx}{scope:Scope}{own:List Str}{fr:List (Str×Nat)}(h:blOk X.env.scope.names X.N scope fr=true):dq X scope own fr:=by
 unfold blOk at h;simp only[nR,iT] at h;obtain⟨⟨⟨h1,h2⟩,h3⟩,h4⟩:=h;refine⟨?_,λy hy hf=>?_,λy hy hl=>?_,λy hy=>?_,λy hy=>?_⟩
 .cases e:scope.kind <;> rw[e] at h1 <;> first|rfl|(exact absurd h1 ⇑0)
 .have:=h2 y hy;rw[hf] at this;simp only[si,dY] at this;rcases this with (q|q)|q
  .exact absurd q ⇑0
  .exact .inl q
  .exact .inr q
 .have:=h3 y hy;rw[hl] at this;exact dY.mp this
 .exact dY.mp (h3 y hy)
 .have:=h4 y hy;exact⟨dY.mp this.1,dY.mp this.2⟩
def Sh (k:Nat)(cap σ:St):Prop:=∃ o,o.length=k/\σ=o++cap
theorem Sh.mk1 {cap:St}{a:Option V}:Sh 1 cap (a::cap):=⟨[a],rfl,rfl⟩
theorem Sh.mk2 {cap:St}{a b:Option V}:Sh 2 cap (a::b::cap):=⟨[a,b],rfl,rfl⟩
theorem Sh.one {cap σ:St}(h:Sh 1 cap σ):∃ a,σ=a::cap:=by
 refine ar h λo h1 e92=>?_;clear h;obtain rfl:=e92
 match o,h1 with
 | [a],_=>exact⟨a,rfl⟩
theorem Sh.two {cap σ:St}(h:Sh 2 cap σ):∃ a b,σ=a::b::cap:=by
 refine ar h λo h1 e93=>?_;clear h;obtain rfl:=e93
 match o,h1 with
 | [a,b],_=>exact⟨a,b,rfl⟩
def cH (fr:List (Str×Nat))(σ:St):St:=fr.map λy=>(σ[y.2]?).getD none
def Wv (n k:Nat)(cap:St)(Pv:Nat->List V->Hp->Prop):Nat->Nat->St->Hp->Prop:=λi m σ H=>m=n-i/\i<=n/\Sh k cap σ/\∃ vs,Pv i vs H
def Lf (D:Addr)(n k:Nat)(cap:St)(Pv:Nat->List V->Hp->Prop)(i:Nat)(σ4:St)(y:V)(H6:Hp):Prop:=
 ∃ vs,H6 D=some (.lst vs)/\vs.length<sizeLine/\∃ m',m'<n-i/\Wv n k cap Pv (i+1) m' σ4 (ao H6 D (.lst (vs++[y])))
def Fh (n k:Nat)(cap:St)(Pv:Nat->List V->Hp->Prop)(i:Nat)(σ4:St)(H5:Hp):Prop:=∃ m',m'<n-i/\Wv n k cap Pv (i+1) m' σ4 H5
theorem fL {D:Addr}{n k:Nat}{cap:St}{Pv:Nat->List V->Hp->Prop}{i:Nat}{σ4:St}{y:V}{H6:Hp}{vs ws:List V}(hi:i<n)(sh:Sh k cap σ4)(hD:H6 D=some (.lst vs))(hl:vs.length<sizeLine)(p:Pv (i+1) ws (ao H6 D (.lst (vs++[y])))):Lf D n k cap Pv i σ4 y H6:=⟨vs,hD,hl,n-(i+1),∅,rfl,hi,sh,ws,p⟩
theorem vt {n k:Nat}{cap:St}{Pv:Nat->List V->Hp->Prop}{i:Nat}{σ4:St}{H5:Hp}{ws:List V}(hi:i<n)(sh:Sh k cap σ4)(p:Pv (i+1) ws H5):Fh n k cap Pv i σ4 H5:=⟨n-(i+1),∅,rfl,hi,sh,ws,p⟩
def fP (g:TG)(tt:TT)(te:TE)(D:Addr)(n k:Nat)(cap:St)(Pv:Nat->List V->Hp->Prop)(i:Nat)(x:V)(σ':St)(H:Hp):Prop:=
 g x σ' H λσ4 H4=>tt σ4 H4 λb H5=>if b=true then te σ4 H5 λy H6=>Lf D n k cap Pv i σ4 y H6 else Fh n k cap Pv i σ4 H5
section
variable {K:Frag}{a D:Addr}{xs:List V}{g:TG}{tt:TT}{te:TE}{k:Nat}{fr:List (Str×Nat)}{σ:St}{H1:Hp}{Q:VK}
theorem sh0:Sh k (cH fr σ) (dG k fr σ):=⟨List.replicate k none,d0,rfl⟩
theorem y3 {J:It}{n:Nat}(it:Nat->V->Prop)(Pv:Nat->List V->Hp->Prop)(h0:Pv 0 [] (ao H1 D (.lst [])))(go:∀ i vs H,i<n->Pv i vs H->J.go i H/\∀ x H',J.yld i H x H'->H'=H/\it i x)(stop:∀ vs H,Pv n vs H->J.stop n H)(hs:∀ i x vs σ' H,i<n->it i x->Sh k (cH fr σ) σ'->Pv i vs H->fP g tt te D n k (cH fr σ) Pv i x σ' H)(hd:∀ vs H,Pv n vs H->Q (.ref D) H):eT g tt te J D (dG k fr σ) H1 Q:=by
 refine⟨Wv n k (cH fr σ) Pv,⟨n,by simp,eB _,sh0,[],h0⟩,?_⟩;intro i m σ' H2 e91;refine cG e91 λe94 hi sh e95=>?_;clear e91;obtain rfl:=e94;obtain⟨vs,p⟩:=e95;by_cases hlt:i<n
 .obtain ⟨g1,g2⟩:=go i vs H2 hlt p;refine .inr ⟨g1,λx H3 y=>?_⟩;obtain⟨rfl,hx⟩:=g2 x H3 y;exact hs i x vs σ' _ hlt hx sh p
 .have e:i=n:=∅
  subst e;exact .inl ⟨stop vs H2 p,hd vs H2 p⟩
theorem rE (Pv:Nat->List V->Hp->Prop)(h0:Pv 0 [] (ao H1 D (.lst [])))(hl:∀ i vs H,i<=xs.length->Pv i vs H->aj K H a xs)(hs:∀ i x vs σ' H,i<xs.length->xs[i]?=some x->Sh k (cH fr σ) σ'->Pv i vs H->fP g tt te D xs.length k (cH fr σ) Pv i x σ' H)(hd:∀ vs H,Pv xs.length vs H->Q (.ref D) H):eT g tt te (jj K a) D (dG k fr σ) H1 Q:=
 y3 (λi x=>xs[i]?=some x) Pv h0 (λi vs H hi p=>⟨⟨xs,xs[i],hl i vs H (jg hi) p,by simp[hi]⟩,λx H' y=>⟨y.1,y.2 xs (hl i vs H (jg hi) p)⟩⟩)
  (λvs H p=>⟨xs,hl _ vs H (aI _) p,aI _⟩) hs hd
theorem FN (Pv:Nat->List V->Hp->Prop)(h0:Pv 0 [] (ao H1 D (.lst [])))(hl:∀ i vs H,i<=xs.length->Pv i vs H->aB K H a xs)(hs:∀ i x vs σ' H,i<xs.length->xs[i]?=some x->Sh k (cH fr σ) σ'->Pv i vs H->fP g tt te D xs.length k (cH fr σ) Pv i x σ' H)(hd:∀ vs H,Pv xs.length vs H->Q (.ref D) H):eT g tt te (xH K a) D (dG k fr σ) H1 Q:=
 y3 (λi x=>xs[i]?=some x) Pv h0 (λi vs H hi p=>⟨⟨xs,xs[i],hl i vs H (jg hi) p,by simp[hi]⟩,λx H' y=>⟨y.1,y.2 xs (hl i vs H (jg hi) p)⟩⟩)
  (λvs H p=>⟨xs,hl _ vs H (aI _) p,aI _⟩) hs hd
theorem ur {lo:Int}{n:Nat}(Pv:Nat->List V->Hp->Prop)(h0:Pv 0 [] (ao H1 D (.lst [])))(hs:∀ i x vs σ' H,i<n->x=.int (lo+i)->Sh k (cH fr σ) σ'->Pv i vs H->fP g tt te D n k (cH fr σ) Pv i x σ' H)(hd:∀ vs H,Pv n vs H->Q (.ref D) H):eT g tt te (iY lo n) D (dG k fr σ) H1 Q:=
 y3 (λi x=>x=.int (lo+i)) Pv h0 (λi vs H hi p=>⟨hi,λx H' y=>y⟩) (λvs H p=>aI _) hs hd
end
def aP (l:Addr)(H H':Hp):Prop:=∀ b o,b≠l->H b=some o->H' b=some o
theorem aP.refl (l:Addr)(H:Hp):aP l H H:=λ_ _ _ e=>e
theorem aP.trans {l:Addr}{H H1 H2:Hp}(a:aP l H H1)(b:aP l H1 H2):aP l H H2:=λc o n e=>b c o n (a c o n e)
theorem aP.new {l p:Addr}{H:Hp}{o:HO}(h:H p=none):aP l H (ao H p o):=λc u _ e=>by rw[aJ (cc e h)];exact e
theorem aP.set {l:Addr}{H:Hp}{o:HO}:aP l H (ao H l o):=λc u n e=>by rw[aJ n];exact e
theorem aa.ext {l:Addr}{H H':Hp}(s:aa H H'):aP l H H':=λc o _ e=>s c o e
theorem aa.new {p:Addr}{H:Hp}{o:HO}(h:H p=none):aa H (ao H p o):=λc u e=>by rw[aJ (cc e h)];exact e
theorem aa.upd {p:Addr}{H H':Hp}{o:HO}(s:aa H H')(h:H p=none):aa H (ao H' p o):=λc u e=>by rw[aJ (cc e h)];exact s c u e
theorem aP.upd {l p:Addr}{H H':Hp}{o:HO}(s:aP l H H')(h:H p=none):aP l H (ao H' p o):=λc u n e=>by rw[aJ (cc e h)];exact s c u n e
theorem aP.free {l p:Addr}{H H':Hp}(s:aP l H H')(n:p≠l)(h:H' p=none):H p=none:=by
 cases e:H p with
 | none=>rfl
 | some o=>rw[s p o n e] at h;cases h
theorem Fo {CX:gY}{P:Program}{w:World}{K:Frag}{mg:Str->Option Value}{base:Heap}{N:List Str}{qual:Str}{scope:Scope}{f:Addr}{cd:Value}{A:Around}{outer:List Env}{s:Shared}{H:Hp}{E:XK}:(mh CX P w K mg base N qual scope f cd A outer s H E).K=K:=rfl
theorem Fn {X:Cx}{N:List Str}{scope:Scope}{cl:List (Str×Addr)}{s:Shared}{H:Hp}{fp:List Addr}:(fc X N scope cl s H fp).K=X.K:=rfl
theorem Iy {X:Cx}{E:Value->Shared->Prop}:(X.wish E).K=X.K:=rfl
theorem rK {X:Cx}{x:Str}{i:Int}{pos:Pos}(hg:Gl X x)(hm:∃ t,X.mg x=some (.int i t))(hd:(x == ("__debug__" : Str))=false:=by decide):PE X (.Name x pos) (tC (.int i)):=by
 obtain⟨t,e⟩:=hm;exact kM hg e ⟨t,rfl⟩ hd
theorem dH {α:Type}{xs:List α}{i:Int}{v:α}(h0:0<=i)(h:xs[i.toNat]?=some v):atI xs i=some v:=by
 have e:((i.toNat:Nat):Int)=i:=gz h0;rw[<- e];exact l6 h
def eS:Expr->Bool
 | .Starred _ _=>true
 | _=>false
theorem gq {e:Expr}{es:List Expr}{env:Env}(h:eS e=false):starEach (e::es) env=(false,eval e env)::starEach es env:=by
 cases e <;> first|rfl|cases h
theorem rN {pos:Pos}{env:Env}:∀ {es:List Expr},es.all (λx=>!eS x)=true->(backTo pos (starEach es env)).any (·.1)=false
 | [],_=>rfl
 | e::es,h=>by
  rw[uS,nR] at h;have h1:eS e=false:=by simpa using h.1
  rw[gq h1];show ((false,_).1 || (backTo pos (starEach es env)).any (·.1))=false;rw[rN h.2];rfl
section
variable {X:Cx}{x:Str}{p pos:Pos}{e:Expr}{es:List Expr}{te:TE}{t:TA}{id T:String}{r:List V->Hp->VK->Prop}
theorem xM (ha:PE X e te)(hr:PA X es t)(h:eS e=false:=by rfl):PA X (e::es) (iH te t):=kQ ha hr (gq h)
theorem bS (hc:gJ X (.builtin id) r)(hg:Gl X x)(hm:X.mg x=none)(hv:bootBuiltins x=some (.builtin id))(ha:PA X (e::es) t)(h:eS e=false:=by rfl)(h2:es.all (λx=>!eS x)=true:=by rfl)(hn:x ≠ "__name__" := by decide)(hdb:(x == ("__debug__" : Str))=false:=by decide):PE X (.Call (.Name x p) (e::es) [] pos) (tCB r t):=FW hc hg hm hv ha hn hdb (gq h) (rN h2)
theorem jv (hc:gJ X (.type T) r)(hg:Gl X x)(hm:X.mg x=none)(hv:bootBuiltins x=some (.type T))(ha:PA X (e::es) t)(h:eS e=false:=by rfl)(h2:es.all (λx=>!eS x)=true:=by rfl)(hn:x ≠ "__name__" := by decide)(hdb:(x == ("__debug__" : Str))=false:=by decide):PE X (.Call (.Name x p) (e::es) [] pos) (tCB r t):=G0 hc hg hm hv ha hn hdb (gq h) (rN h2)
theorem Ia {k:Nat}{sp:Sp}(C:az X.prog X.w X.K X.mg X.base x k sp)(hr:aX k X.A)(hg:Gl X x)(ha:PA X (e::es) t)(h:eS e=false:=by rfl)(h2:es.all (λx=>!eS x)=true:=by rfl)(hdb:(x == ("__debug__" : Str))=false:=by decide):PE X (.Call (.Name x p) (e::es) [] pos) (vM sp [] E0 t):=oO C hr hg ha hdb (gq h) (rN h2)
theorem kI {C:Addr}{k:Nat}{sp:Sp}(M:fw X.prog X.w X.K X.mg X.base x C k sp)(hr:aX (k+1) X.A)(hg:Gl X x)(ha:PA X (e::es) t)(h:eS e=false:=by rfl)(h2:es.all (λx=>!eS x)=true:=by rfl)(hdb:(x == ("__debug__" : Str))=false:=by decide):PE X (.Call (.Name x p) (e::es) [] pos) (ym C sp [] E0 t):=oN M hr hg ha hdb (gq h) (rN h2)
theorem fj {tg a:Expr}{ta:TA}(hg:Gl X "range")(hm:X.mg "range" = none)(ha:PA X [a] ta)(h:eS a=false:=by rfl):PI X tg (.Call (.Name "range" p) [a] [] pos) (xT ta):=G1 hg hm ha (gq h)
theorem jl {tg a b:Expr}{ta:TA}(hg:Gl X "range")(hm:X.mg "range" = none)(ha:PA X [a,b] ta)(h:eS a=false:=by rfl)(h2:eS b=false:=by rfl):PI X tg (.Call (.Name "range" p) [a,b] [] pos) (BY ta):=
 G2 hg hm ha (by rw[gq h,gq h2];rfl) (gq h2)
end
theorem IG {i j:Int}:scal (.int i) (.int j)=true:=rfl
theorem IF {i j:Bool}:scal (.bl i) (.bl j)=true:=rfl
theorem IH {i j:Str}:scal (.str i) (.str j)=true:=rfl
theorem g7 {X:Cx}{x:Str}{n:String}{pos:Pos}(hg:Gl X x)(hm:X.mg x=none)(hv:bootBuiltins x=some (.type n))(hn:x ≠ "__name__" := by decide)(hd:(x == ("__debug__" : Str))=false:=by decide):PE X (.Name x pos) (tC (.ty n)):=kP (v:=.ty n) hg hm hv rfl hn hd
section
variable {X:Cx}(K:Frag)(hK:X.K=K)
include hK
theorem mx {pos:Pos}{es:List Expr}{k:Nat}{t:mH}{n:Nat}(hc:X.calm=true)(h:uM X es t)(hn:(assignEach es X.env).length=n)(hst:(assignEach es X.env).findIdx? (·.1)=none):PG X (.Tuple es k pos) (ju K n t):=by subst hK;exact dJ hc h hn hst
theorem HW:gJ X (.builtin "len") (λxs H Q=>∃ p ys,xs=[.ref p]/\(aj K H p ys\/aB K H p ys)/\Q (.int ys.length) H):=by subst hK;exact fo
theorem Ak:gJ X (.type "list") (λxs H Q=>∃ p ys,xs=[.ref p]/\(aj K H p ys\/aB K H p ys)/\∀ l,H l=none->Q (.ref l) (ao H l (.lst ys))):=by subst hK;exact rP
theorem ja:mO X (rIxL K):=by subst hK;exact aV
theorem nH:mO X (rIxT K):=by subst hK;exact bC
theorem kN {e:Expr}{f:Str}{pos:Pos}{ta:TE}(he:PE X e ta)(hb:attributeBase e f X.env (eval e X.env)=eval e X.env):PE X (.Attribute e f pos) (tFld K ta f):=by subst hK;exact gM he hb
theorem Dv {tg l:Expr}{tl:TE}(hl:PE X l tl):PI X tg l (xS K tl):=by subst hK;exact eM hl
end
theorem gG {g:TG}{tb:TS}{D:cJ}{x:V}{σ:St}{H:Hp}(h:∀ D':cJ,D'=D->g x σ H λσ2 H2=>tb D' σ2 H2):g x σ H λσ2 H2=>tb D σ2 H2:=h D rfl
theorem cutI {c:TT}{A B:TS}{D:cJ}{σ:St}{H:Hp}(h:∀ A',A'=A->tIfS c A' B D σ H):tIfS c A B D σ H:=h A rfl
theorem fB {xs:List V}{k:Nat}{v:V}(h:xs[k]?=some v):atI xs ((k:Nat):Int)=some v:=dH (AW _) (by rw[d5];exact h)
theorem nh {as:List Addr}{k:Nat}{a:Addr}(h:as[k]?=some a):atI (as.map V.ref) ((k:Nat):Int)=some (.ref a):=fB (by rw[bH,h];rfl)
theorem jM (n:Nat):-2 ^ 62<=((n:Nat):Int):=∅
theorem jJ {n:Nat}(h:n<=1000):((n:Nat):Int)<2 ^ 62:=∅
theorem eY {α:Type}{xs:List α}{k n:Nat}(h:k<n)(hl:xs.length=n):k<xs.length:=hl ▸ h
theorem Bz {α:Type}{xs:List α}{m n:Nat}(hl:xs.length=n)(h:n<=m):xs.length<=m:=hl ▸ h
theorem CD {n k:Nat}:((n:Int)-(k:Int)).toNat=n-k:=by exact oz66
theorem pK {n k i:Nat}(h:i<n-k):k+i<n:=by exact oz61 h
theorem tH {n k:Nat}(h:k<n):ixN n ((k:Nat):Int)=some k:=by
 unfold ixN;rw[if_pos (AW _),if_pos ∅,d5]
theorem vq {as:List Addr}{k n:Nat}(h:k<n)(hl:as.length=n):ixN (as.map V.ref).length ((k:Nat):Int)=some k:=tH (by rw[aA,hl];exact h)
end L2
set_option maxHeartbeats 1000000
namespace HT
open PySem PySem.Spec PyProof.Rows
section
variable {prog:Program}{w:World}{A:Around}{E:Value->Shared->Prop}{s:Shared}
end
end HT
namespace L2
open PySem PySem.Spec PyProof.Rows
section
variable {X:Cx}{e es:Expr}{te ts:TE}{pos p2:Pos}
end
end L2
namespace L2
open PySem PySem.Spec PyProof.Rows
section
variable {X:Cx}
def rGetL (K:Frag):V->V->Hp->VK->Prop:=λx y H Q=>∃ p xs i v,x=.ref p/\y=.int i/\0<=i/\aj K H p xs/\xs[i.toNat]?=some v/\Q v H
end
def sF (x:Int):Prop:=-(100000000000000000000000000000000)<x/\x<100000000000000000000000000000000
theorem sF.mul {x y:Int}(hx:sF x)(hy:sF y):IntMulOk x y:=by
 have e:(2:Nat) ^ 200 > 100000000000000000000000000000000:=⋯
 have b:∀ {z:Int},sF z->Builtin.Int.intBits z<=2 ^ 20:=λ{z} h=>by
  have hz:z.natAbs<2 ^ 200:=by have:=h.1;have:=h.2;omega
  unfold Builtin.Int.intBits;split
  .exact eB _
  .rename_i h0
   have:z.natAbs.log2<200:=(Nat.log2_lt (by intro c;apply h0;simpa using c)).mpr hz;have e2:(2:Nat) ^ 20=1048576:=⇑0
   rw[e2];omega
 exact .of_bits (b hx) (b hy)
def atZ (ns:List Int)(i:Int):Int:=ns.getD i.toNat 0
theorem l4 {ns:List Int}{i:Int}(h:i.toNat<ns.length):(ns.map V.int)[i.toNat]?=some (.int (atZ ns i)):=by
 rw[bH,aF h];simp[atZ,h]
theorem lZ {ns:List Int}{i:Int}(h:i.toNat<ns.length):atZ ns i∈ns:=by
 unfold atZ;rw[aT,aF h];exact eO h
end L2
namespace L2
open PySem PySem.Spec PyProof.Rows
section
variable {X:Cx}{pins:List (Addr×Obj)}{σ:St}{H:Hp}{s:Shared}{h':Heap}
theorem au.turnedL {t':Nat}{fp:List Addr}(I:au X pins σ H s)(hf:∀ b∈fp,cm X pins H b)(k:∀ b o,b∉fp->s.heap.get? b=some o->h'.get? b=some o):au X pins σ H { s with heap:=h',toks:=t' }:=by
 have nit:∀ b u,H b=some u->b∉fp:=λb u e z=>by rw[(hf b z).1] at e;cases e
 refine I.step (g':=s.gens) (d':=s.drawn) (ch:=fp) (λb hb=>?_) (λb o _ _ hc e _=>k b o hc e) (λb o _ _ hc e _=>⟨o.slots,k b o hc e⟩) (λ_ _ _ _ n=>n)
  (λb o hc e=>⟨o,k b o hc e⟩) (λ_ _ e=>e) (λ_ _ _ e=>e) (λb ps e=>⟨#[],by rw[e];simp⟩) (λm hm=>?_) (λb u e=>?_) I.bare
 .refine gk (hf b hb) λf0 f1 f2 f3 f4 f5=>?_;exact⟨f3,f1,f4,f5⟩
 .refine gK hm λo es ep ho r=>?_;clear hm;exact c5 o es ep ⟨k _ o (λz=>(hf _ z).2.1 rfl) ho,r⟩
 .refine (I.hok b u e).stay (λc v hc q=>k c v ?_ q) (λ_ q=>q) (λ_ _ q=>q) λ_ _ _ q=>q;rcases hc with z|z
  .rw [z];exact nit b u e
  .exact nit c _ z
theorem au.turnedT {t':Nat}{fp:List Addr}{p:Addr}{o:HO}(I:au X pins σ H s)(hf:∀ b∈fp,cm X pins H b)(k:∀ b o,b∉fp->s.heap.get? b=some o->h'.get? b=some o)(hp:s.heap.objs.size<=p)(new:bG X.prog X.w (ao H p o) h' p o):au X pins σ (ao H p o) { s with heap:=h',toks:=t' }:=by
 have hn:H p=none:=I.hok.fresh hp;have nit:∀ b u,H b=some u->b∉fp:=λb u e z=>by rw[(hf b z).1] at e;cases e
 have npp:∀ b u,s.heap.get? b=some u->b≠p:=λb u e=>d8 (dZ (bX e) hp);refine I.step (g':=s.gens) (d':=s.drawn) (ch:=fp) (λb hb=>?_) (λb o _ _ hc e _=>k b o hc e) (λb o _ _ hc e _=>⟨o.slots,k b o hc e⟩) (λb o _ e n=>by rw[aJ (npp b o e)];exact n)
  (λb o hc e=>⟨o,k b o hc e⟩) (λb xs e=>by rw[aJ (cc e hn)];exact e) (λb u xs e=>by rw[aJ (cc e hn)];exact e) (λb ps e=>⟨#[],by rw[aJ (cc e hn),e];simp⟩) (λm hm=>?_) (λb u e=>?_) I.bare
 .refine gk (hf b hb) λf0 f1 f2 f3 f4 f5=>?_;exact⟨f3,f1,f4,f5⟩
 .refine gK hm λo es ep ho r=>?_;clear hm;exact c5 o es ep ⟨k _ o (λz=>(hf _ z).2.1 rfl) ho,r⟩
 .by_cases hb:b=p
  .subst hb;rw[aw] at e;cases e;exact new
  .rw [aJ hb] at e;refine (I.hok b u e).stay (λc v hc q=>k c v ?_ q) (λc q=>by rw[aJ (cc q hn)];exact q) (λc xs q=>by rw[aJ (cc q hn)];exact q) λc _ _ q=>by rw[aJ (cc q hn)];exact q
   rcases hc with z|z
   .rw [z];exact nit b u e
   .exact nit c _ z
end
def nY (K:Frag)(a b:Addr):It:=
 ⟨λi H=>∃ xs ys x y,aj K H a xs/\aj K H b ys/\xs[i]?=some x/\ys[i]?=some y,λi H v H'=>∃ x y p,v=.ref p/\H p=none/\H'=ao H p (.tup [x,y])/\(∀ xs,aj K H a xs->xs[i]?=some x)/\∀ ys,aj K H b ys->ys[i]?=some y,λi H=>∃ xs ys,aj K H a xs/\aj K H b ys/\(xs.length<=i\/ys.length<=i)⟩
theorem GM {P:Program}{w:World}{K:Frag}{elts:List Expr}{x1:Nat}{pos:Pos}{z TI TO i1 i2 a b:Addr}(D:ZipApart z TI TO i1 i2 a b):
  gR P w K (.Tuple elts x1 pos) (nY K a b) [z,TI,TO,i1,i2] z (λi h=>IsZip h z TI TO .none/\IsPair h TI (.ref i1) (.ref i2)/\(∃ u v,IsPair h TO u v)/\h.IsListIter i1 a i/\h.IsListIter i2 b i) where
 mem:=by simp
 obj:=λi h st c hc=>by
  refine cY st λhz hTI e92 e93 e94=>?_;clear st;obtain⟨u,v,hTO⟩:=e92;obtain⟨o1,e1,c1,d1⟩:=e93;obtain⟨o2,e2,c2,d2⟩:=e94;simp at hc;rcases hc with rfl|rfl|rfl|rfl|rfl
  .exact ⟨_,hz,λv z=>by have z':Data.fields _=Data.cell v:=z;cases z'⟩
  .exact ⟨_,hTI,λv z=>by have z':Data.seq _ _=Data.cell v:=z;cases z'⟩
  .exact ⟨_,hTO,λv z=>by have z':Data.seq _ _=Data.cell v:=z;cases z'⟩
  .exact ⟨o1,e1,λv z=>by rw[d1] at z;cases z⟩
  .exact ⟨o2,e2,λv z=>by rw[d2] at z;cases z⟩
 keep:=λi h h' st k=>by
  refine cY st λhz hTI e95 h1 h2=>?_;clear st;obtain⟨u,v,hTO⟩:=e95;exact⟨k z (by simp) _ hz,k TI (by simp) _ hTI,⟨u,v,k TO (by simp) _ hTO⟩,h1.at λo e=>k i1 (by simp) o e,h2.at λo e=>k i2 (by simp) o e⟩
 item:=by
  intro X hP hw hK hc i pins s σ H E I hf st hg;subst hP hw hK;refine d6 hg λxs ys x y hqa hqb hx hy=>?_;clear hg;refine aQ (I.list hqa) λits rv p hz1=>?_;refine aQ (I.list hqb) λits2 rv2 p2 hz2=>?_;refine ar (rv.get hx) λu hu ru=>?_;refine ar (rv2.get hy) λu2 hu2 ru2=>?_;refine cY st λhz hTI e96 h1 h2=>?_;clear st;obtain⟨c,d,hTO⟩:=e96;refine wpAny_pyNext_zip_item D hz hTI hTO h1 h2 p.isList p2.isList (by simpa using hu) (by simpa using hu2) λh' a1 a2 a3 a4 a5 a6 a7=>?_;refine⟨_,rfl,wpAny_letOwnedTupleGo_zip a1 λh'' b1 b2=>?_⟩;have nz:s.heap.objs.size≠z:=r_ (bX hz);have k2:∀ c o,c∉[z,TI,TO,i1,i2]->s.heap.get? c=some o->h''.get? c=some o:=λc o hc e=>by
   simp at hc;exact b2.extBut _ _ hc.1 (a7 c o hc.1 hc.2.2.1 hc.2.2.2.1 hc.2.2.2.2 e)
  have I2:au X pins σ (ao H s.heap.objs.size (.tup [x,y])) { s with heap:=h'' }:=I.turnedT (t':=s.toks) hf k2 (aI _)
   ⟨by show 2<=sizeLine;decide,[u,u2],.cons ru (.cons ru2 .nil),_,b2.extBut _ _ nz a5,rfl,_,rfl⟩
  refine aM (.ref s.heap.objs.size) _ ⟨I2,rfl,⟨x,y,_,rfl,I.hok.fresh (aI _),rfl,λxs' hq=>by rw[I.list_inj hq hqa];exact hx,λys' hq=>by rw[I.list_inj hq hqb];exact hy⟩,⟨b1,b2.extBut _ _ D.TIz (a7 _ _ D.TIz D.TITO D.TIi1 D.TIi2 hTI),⟨_,_,b2.extBut _ _ D.TOz a2⟩,a3.extBut b2.extBut D.i1z,a4.extBut b2.extBut D.i2z⟩,λc hc=>?_⟩;have hlt:∀ c∈[z,TI,TO,i1,i2],c<s.heap.objs.size:=λc hc=>by
   simp at hc;refine ar h1 λo1 e1 _=>?_;clear h1;refine ar h2 λo2 e2 _=>?_;clear h2;rcases hc with rfl|rfl|rfl|rfl|rfl
   .exact bX hz
   .exact bX hTI
   .exact bX hTO
   .exact bX e1
   .exact bX e2
  rw[aJ (d8 (hlt c hc))];exact (hf c hc).1
 done:=by
  intro X hP hw hK hc i pins s σ H E I hf st hg;subst hP hw hK;refine cy hg λxs ys hqa hqb hx=>?_;clear hg;refine aQ (I.list hqa) λits rv p hz1=>?_;refine aQ (I.list hqb) λits2 rv2 p2 hz2=>?_;refine cY st λhz hTI e97 h1 h2=>?_;clear st;obtain⟨c,d,hTO⟩:=e97;have l1:=rv.length;have l2:=rv2.length;refine wpAny_pyNext_zip_end (I.ok.hd hc) D hz hTI hTO h1 h2 p.isList p2.isList ?_ λh' kk=>⟨rfl,I.turnedL (t':=s.toks) hf λc o hc e=>?_⟩
  .rcases hx with hx|hx
   .exact .inl (by simp;omega)
   .exact .inr (by simp;omega)
  .simp at hc;exact kk c o hc.1 hc.2.2.1 hc.2.2.2.1 hc.2.2.2.2 e
 self:=λ_ _ _ _ _ st h=>wpAny_pyIter_zip st.1 h
section
variable {X:Cx}
def iZip (K:Frag)(ta:TA):TI:=λσ H R=>ta σ H λvs H1=>∃ a b,vs=[.ref a,.ref b]/\(∃ xs,aj K H1 a xs)/\(∃ ys,aj K H1 b ys)/\R (nY K a b) H1
theorem qi {elts:List Expr}{x1:Nat}{pt p pos:Pos}{a b:Expr}{ta:TA}(hg:Gl X "zip")(hm:X.mg "zip" = none)(ha:PA X [a,b] ta)(h:eS a=false:=by rfl)(h2:eS b=false:=by rfl):
  PI X (.Tuple elts x1 pt) (.Call (.Name "zip" p) [a,b] [] pos) (iZip X.K ta):=by
 intro pins s σ H R I hh;refine Call_ (nE I hg hm boot_zip (vc (aN (ha pos pins s σ H _ I hh) λus s1 ⟨vs,H1,I1,r1,q1⟩=>?_) (by rw[gq h,gq h2]) (by rw[gq h2];rfl)));refine gh q1 λc d e e98 e99 q=>?_;clear q1;obtain⟨xs,hq1⟩:=e98;obtain⟨ys,hq2⟩:=e99;subst e;cases r1 with
 | cons r rr=>
  cases rr with
  | cons r' rr=>
   cases rr;cases r;cases r';refine aQ (I1.list hq1) λits rv p1 hz1=>?_;refine aQ (I1.list hq2) λits2 rv2 p2 hz2=>?_;have lt1:c<s1.heap.objs.size:=by obtain⟨o,ho,_⟩:=p1.isList;exact bX ho
   have lt2:d<s1.heap.objs.size:=by obtain⟨o,ho,_⟩:=p2.isList;exact bX ho
   refine call_zip_2 p1.isList p2.isList λh' a1 a2 a3 a4 a5 a6 a7=>wpAny_pyIter_zip (s:={ s1 with heap:=h' }) a1 ?_;refine mq _ _ _ _ H1 ⟨rfl,I1.kept (t':=s1.toks) a7,GM (zipApart_new lt1 lt2),⟨a1,a2,⟨_,_,a3⟩,a4,a5⟩,λb hb=>?_,q⟩;have hb':s1.heap.objs.size<=b:=by
    simp at hb;rcases hb with rfl|rfl|rfl|rfl|rfl
    .exact qH _ _
    .exact qH _ _
    .exact qH _ _
    .exact aI _
    .exact qH _ _
   have:=(I1.fpOk (H':=H1) hb' (I1.hok.fresh hb'))
   exact this
theorem y2 (hc:X.calm=true):gJ X (.builtin "sum") (λxs H Q=>∃ (p:Addr) (ns:List Int),xs=[.ref p]/\aj X.K H p (ns.map V.int)/\Q (.int (preSum (λi=>ns.getD i 0) ns.length)) H):=by
 intro pins s σ H xs us Q I r h;refine cy h λp ns e910 hq q=>?_;clear h;obtain rfl:=e910;refine ar (qe r) λu e911 rx=>?_;obtain rfl:=e911;cases rx;refine aQ (I.list hq) λits rv pl hz=>?_;have hl:=rv.length;rw[aA] at hl;refine call_sum_walkG (xF pl.isList ?_);have hne:p≠s.heap.objs.size:=λe=>by
  refine cE pl λo n ho _=>?_;clear pl;exact absurd (bX ho) (by rw[e];exact gX _)
 refine nq s.heap.objs.size _ _ _ _ _ (λi=>ns.getD i 0) ⟨rfl,Walks.list (A:=X.A.in1) (I.ok.hd hc) _ p hne its.toArray,⟨⟨_,gA _ rfl,rfl,rfl⟩,pl.isList.at λo e=>dC _ e⟩,?_,?_,λh' tk t' kp=>?_⟩
 .intro b hb;simp at hb;rcases hb with rfl|rfl
  .rw [qF];exact uW _
  .rw [qF];refine ar pl.isList λo ho _=>?_;exact nU (bX ho)
 .intro i v hv;have hv:its[i]?=some v:=by simpa using hv
  have hi:i<ns.length:=by rw[hl];exact (cj.mp hv).1
  obtain⟨u,hu,ru⟩:=rv.get (i:=i) (x:=.int ns[i]) (by rw[bH,aF hi];rfl);rw[hv] at hu;cases hu;obtain⟨t,rfl⟩:=ru;exact⟨t,by simp[hi]⟩
 .rw [dh,<- hl];have f:=I.fpOk (H':=H) (aI s.heap.objs.size) (I.hok.fresh (aI _));exact aM (.int _) H ⟨(I.kept (h':=s.heap.push { cls:=.type "list_iterator",data:=.fields #[.ref p,.int 0 0] }) (t':=s.toks) λb o e=>dC _ e).turned (it:=s.heap.objs.size) (t':=tk) (λb o hb e=>kp b o (by simpa using hb) e) f.1 f.2.1 f.2.2.2.1 f.2.2.2.2.1 f.2.2.2.2.2,⟨t',rfl⟩,q⟩
end
section
variable {K:Frag}{a b D:Addr}{xs ys:List V}{g:TG}{tt:TT}{te:TE}{k:Nat}{fr:List (Str×Nat)}{σ:St}{H1:Hp}{Q:VK}
theorem wC (Pv:Nat->List V->Hp->Prop)(hlen:ys.length=xs.length)(h0:Pv 0 [] (ao H1 D (.lst [])))(hl:∀ i vs H,i<=xs.length->Pv i vs H->aj K H a xs/\aj K H b ys)(hs:∀ i x y p vs σ' H,i<xs.length->xs[i]?=some x->ys[i]?=some y->H p=none->Sh k (cH fr σ) σ'->Pv i vs H->fP g tt te D xs.length k (cH fr σ) Pv i (.ref p) σ' (ao H p (.tup [x,y])))(hd:∀ vs H,Pv xs.length vs H->Q (.ref D) H):
  eT g tt te (nY K a b) D (dG k fr σ) H1 Q:=by
 refine⟨Wv xs.length k (cH fr σ) Pv,⟨xs.length,by simp,eB _,sh0,[],h0⟩,?_⟩;intro i m σ' H2 e91;refine cG e91 λe912 hi sh e913=>?_;clear e91;obtain rfl:=e912;obtain⟨vs,p⟩:=e913;obtain⟨q1,q2⟩:=hl i vs H2 hi p;by_cases hlt:i<xs.length
 .refine .inr ⟨⟨xs,ys,xs[i],ys[i]'(by omega),q1,q2,by simp[hlt],by simp[hlen,hlt]⟩,λx H3 y=>?_⟩;refine cD y λu v pp e914 hp e915 e916=>?_;clear y;obtain rfl:=e914;obtain rfl:=e915;obtain⟨e1,e2⟩:=e916;exact hs i u v pp vs σ' _ hlt (e1 _ q1) (e2 _ q2) hp sh p
 .have e:i=xs.length:=∅
  subst e;exact .inl ⟨⟨xs,ys,q1,q2,.inl (aI _)⟩,hd vs H2 p⟩
end
end L2
namespace L2
open PySem PySem.Spec PyProof.Rows
def nrm (a b:Int):Int×Int:=(a / (Int.gcd a b:Int),b / (Int.gcd a b:Int))
def rV (x:Int×Int):Prop:=0<x.2/\Int.gcd x.1 x.2=1
theorem emulR (a b p:Int):a*(b % p) % p=a*b % p:=by rw[Int.mul_emod,Int.emod_emod,<- Int.mul_emod]
theorem qv {a b:Int}(hb:0<b):0<(Int.gcd a b:Int):=by
 have:0<Int.gcd a b:=Bi a ∅;omega
theorem Cv {a b:Int}:(nrm a b).1*(Int.gcd a b:Int)=a:=mN (iS ..)
theorem yW {a b:Int}:(nrm a b).2*(Int.gcd a b:Int)=b:=mN (jG ..)
theorem lG {a b:Int}(hb:0<b):0<(nrm a b).2:=by
 have h2:=@yW a b;have g0:=qv (a:=a) hb;rcases Ba 0 (nrm a b).2 with h|h|h
 .exact h
 .rw [<- h,Int.zero_mul] at h2;omega
 .have:=Int.mul_neg_of_neg_of_pos h g0;omega
theorem Cw {a b:Int}(hb:0<b):rV (nrm a b):=by
 refine⟨lG hb,?_⟩;have h:=Int.gcd_mul_right (nrm a b).1 (Int.gcd a b:Int) (nrm a b).2;rw[Cv,yW] at h;have g0:=qv (a:=a) hb;have:Int.gcd a b=Int.gcd (nrm a b).1 (nrm a b).2*Int.gcd a b:=by simpa using h
 have g1:0<Int.gcd a b:=∅
 exact (Nat.eq_of_mul_eq_mul_right g1 ∅).symm
theorem Hv {x y:Int×Int}(hx:rV x)(hy:rV y)(h:x.1*y.2=y.1*x.2):x=y:=by
 obtain⟨x0,gx⟩:=hx;obtain⟨y0,gy⟩:=hy;have d1:x.2.natAbs ∣ y.2.natAbs:=by
  have c:Nat.Coprime x.2.natAbs x.1.natAbs:=by rw[Nat.coprime_comm];exact gx
  refine c.dvd_of_dvd_mul_left ?_;rw[<- jD,h,jD];exact Nat.dvd_mul_left ..
 have d2:y.2.natAbs ∣ x.2.natAbs:=by
  have c:Nat.Coprime y.2.natAbs y.1.natAbs:=by rw[Nat.coprime_comm];exact gy
  refine c.dvd_of_dvd_mul_left ?_;rw[<- jD,<- h,jD];exact Nat.dvd_mul_left ..
 have e:=Nat.dvd_antisymm d1 d2;have e2:x.2=y.2:=∅
 have e1:x.1=y.1:=by
  rw[e2] at h;exact Int.eq_of_mul_eq_mul_right ∅ h
 exact Prod.ext e1 e2
theorem EH (a:Int){g:Int}(hg:0<g)(hd:g ∣ a):(a / g).natAbs<=a.natAbs:=by
 obtain⟨k,rfl⟩:=hd;rw[Int.mul_ediv_cancel_left _ ∅,jD];exact Nat.le_mul_of_pos_left _ ∅
def Bd (B:Nat)(x:Int×Int):Prop:=x.1.natAbs<=B/\x.2.natAbs<=B
def aZ (p:Int)(x:Int×Int):Prop:=(p=0/\rV x)\/(0<p/\0<=x.1/\x.1<p/\x.2=1)
def fk (p:Int)(x y:Int×Int):Int×Int:=if p=0 then nrm (x.1*y.2+y.1*x.2) (x.2*y.2) else ((x.1+y.1) % p,1)
def iI (p:Int)(x y:Int×Int):Int×Int:=if p=0 then nrm (x.1*y.2-y.1*x.2) (x.2*y.2) else ((x.1-y.1) % p,1)
def dN (p:Int)(x y:Int×Int):Int×Int:=if p=0 then nrm (x.1*y.1) (x.2*y.2) else (x.1*y.1 % p,1)
def dj (p k:Int):Int×Int:=if p=0 then (k,1) else (k % p,1)
theorem aZ.pos {p:Int}{x:Int×Int}(h:aZ p x):0<x.2:=by
 rcases h with ⟨_,h⟩|⟨_,_,_,h⟩
 .exact h.1
 .omega
theorem yQ {p a b:Int}(hp:p=0)(hb:0<b):aZ p (nrm a b):=.inl ⟨hp,Cw hb⟩
theorem we {p a:Int}(hp:0<p):aZ p (a % p,1):=.inr ⟨hp,gv _ ∅,fY _ hp,rfl⟩
theorem uw {p:Int}{x y:Int×Int}(h0:0<=p)(hx:aZ p x)(hy:aZ p y):aZ p (fk p x y):=by
 unfold fk;split
 .rename_i h;exact yQ h (j6 hx.pos hy.pos)
 .exact we ∅
theorem DB {p:Int}{x y:Int×Int}(h0:0<=p)(hx:aZ p x)(hy:aZ p y):aZ p (iI p x y):=by
 unfold iI;split
 .rename_i h;exact yQ h (j6 hx.pos hy.pos)
 .exact we ∅
theorem jd {p:Int}{x y:Int×Int}(h0:0<=p)(hx:aZ p x)(hy:aZ p y):aZ p (dN p x y):=by
 unfold dN;split
 .rename_i h;exact yQ h (j6 hx.pos hy.pos)
 .exact we ∅
theorem gN {p k:Int}(h0:0<=p):aZ p (dj p k):=by
 unfold dj;split
 .rename_i h;exact .inl ⟨h,⟨by show (0:Int)<1;decide,by simp⟩⟩
 .exact we ∅
theorem C_ (a b:Int):Int.gcd b (a % b)=Int.gcd a b:=by
 rw[Int.emod_def,Int.sub_eq_add_neg,<- Int.mul_neg,Int.gcd_add_mul_left_right,uP]
structure mQ (K:Frag)(x qual:Str)(st:Stmt)(f:Addr)(fd:FuncData)(T:Addr):Prop where
 ex:∃ (oc:Value) (od:Option Addr) (kV doc pm:Value) (an:Option Addr) (cdv ct:Value) (osl:Array (Option Value)),
  fd=PySem.W.fnOf x qual (iL st) (gn st) (aR st) (.ref T) kV doc pm an cdv ct/\K.lookup f=some ⟨oc,od,.func fd,osl⟩/\PySem.W.codeIn K cdv qual=true
section
theorem mQ.ok {x qual:Str}{st:Stmt}{f T:Addr}{fd:FuncData}{N ps:List Str}{k:Nat}{sp:Sp}(F:mQ K x qual st f fd T)(S:ag N ps (aR st))(len:∀ vs H Q E,sp vs H Q E->vs.length=ps.length)(hbody:∀ (cdv:Value) (A:Around) (outer:List Env) (s:Shared) (H:Hp) (vs:List V) (Q:VK) (E:XK),aX k (A.deeper (envOfC qual (aR st) s.heap.objs.size f cdv))->sp vs H Q E->
   ∃ t,gT (mh aW P w K mg base N qual (aR st) f cdv A outer s H E).nox (gn st) t/\t { nx:=λ_ H'=>Q .non H',rt:=Q } (start N vs) H):ax P w K mg base aW (k+1) f fd ps sp:=by
 refine tR F.ex λoc od kV doc pm an cdv ct osl e91 lk hcd=>?_;obtain rfl:=e91;refine jq lk hcd S len λA outer s H vs Q E hr hsp=>?_;refine ar (hbody cdv A outer s H vs Q E hr hsp) λt h q=>?_;exact⟨t,h.nox,q⟩
end
structure qO (P:Program)(w:World)(K:Frag)(mg:Str->Option Value)(base:Heap)(C:Addr)(m:Str)(k:Nat)(sp:Sp)(dvs:List V):Prop where
 ex:∃ (f:Addr) (fd:FuncData) (ps:List Str) (ds:List Value),ax P w K mg base aW k f fd ps sp/\gW K C m f/\bL K fd ps ds/\av dvs ds
theorem kJ {X:Cx}{m:Str}{C:Addr}{k:Nat}{sp:Sp}{dvs:List V}{o e:Expr}{es:List Expr}{ta:TE}{t:TA}{apos pos:Pos}{pl:Sem Bool}(c:gE X.K C)(M:qO X.prog X.w X.K X.mg X.base C m k sp dvs)(hr:aX k X.A)(ho:PE X o ta)(ha:PA X (e::es) t)(h:eS e=false:=by rfl)(h2:es.all (λx=>!eS x)=true:=by rfl)(ht:eval (.Call (.Attribute o m apos) (e::es) [] pos) X.env=(do
   let ov <- eval o X.env
   standAt apos.atName
   let (f,first) <- holding [ov] (getMethod ov m pl)
   callWith pos f first (backTo pos (starEach (e::es) X.env)) (backToKw pos (keywordEach [] X.env))):=by rfl):
  PE X (.Call (.Attribute o m apos) (e::es) [] pos) (yo C m sp dvs E0 ta t):=by
 refine d6 M.ex λf fd ps ds F hm hb hd=>?_;exact Co ho c hm F hr hb hd vB ha (gq h) (rN h2) ht
theorem EC {K:Frag}{fd:FuncData}{ps:List Str}{T:Addr}{oc:Value}{od:Option Addr}{osl:Array (Option Value)}{items:Array Value}{n:Nat}{ds:List Value}(lk:K.lookup T=some ⟨oc,od,.seq items n,osl⟩)(hd:fd.defaults=.ref T)(h:∀ us:List Value,(us++ds).length=ps.length->∃ k,bindArgs fd ⟨us,[]⟩=seqItems? fd.defaults >>= k/\k (some items)=pure (ps.zip (us++ds))):bL K fd ps ds:=λs us KX hl=>by
 refine ar (h us hl) λk h1 h2=>?_;exact .of_defaults hd (KX T _ lk) rfl h1 h2
def rEqN (K:Frag):R2:=λx y H Q=>rEq x y H Q\/qR K false x y H Q
def rNeN (K:Frag):R2:=λx y H Q=>rNe x y H Q\/qR K true x y H Q
theorem oV {X:Cx}(hu:X.A.units+8<cLine):bY X (compareOp .Eq) (rEqN X.K):=c9.or (oU hu)
theorem oQ {X:Cx}(hu:X.A.units+8<cLine):bY X (compareOp .NotEq) (rNeN X.K):=gj.or (oP hu)
theorem oS {X:Cx}:bY X (compareOp .Is) (λx y H Q=>∃ a b,x=.bl a/\y=.bl b/\Q (.bl (a == b)) H):=by
 intro pins s σ H x y v u Q I rx ry h;refine cy h λa b e92 e93 q=>?_;clear h;obtain rfl:=e92;obtain rfl:=e93;cases rx;cases ry;refine df (a:=Value.bool (Value.bool a == Value.bool b)) ⟨.bl (a == b),H,I,?_,q⟩;cases a <;> cases b <;> rfl
theorem Cn {X:Cx}:bY X (compareOp .IsNot) (λx y H Q=>∃ a b,x=.bl a/\y=.bl b/\Q (.bl (!(a == b))) H):=by
 intro pins s σ H x y v u Q I rx ry h;refine cy h λa b e94 e95 q=>?_;clear h;obtain rfl:=e94;obtain rfl:=e95;cases rx;cases ry;refine df (a:=Value.bool (!(Value.bool a == Value.bool b))) ⟨.bl (!(a == b)),H,I,?_,q⟩;cases a <;> cases b <;> rfl
def rBits:V->List V->Hp->VK->Prop:=λx vs H Q=>∃ i:Int,x=.int i/\vs=[]/\Q (.int ((Builtin.Int.intBits i:Nat):Int)) H
theorem yV {X:Cx}:xf X "int.bit_length" rBits:=by
 intro pins s σ H x vs v us Q I rx rv h;refine aQ h λi e91 e92 q=>?_;clear h;obtain rfl:=e91;obtain rfl:=e92;obtain⟨t,rfl⟩:=rx;have hus:=rv.zero;subst hus;exact call_gives F.slot_int_bit_length (typeIs_int s i t) F.entry_int_bit_length (F.args_int_bit_length_1 _) (AutoIntG2.int_bit_length_int_0 i t) ⟨.int ((Builtin.Int.intBits i:Nat):Int),H,I.tok _,⟨_,rfl⟩,q⟩
theorem lW {i:Int}{n:Nat}(h:i.natAbs<2 ^ n):Builtin.Int.intBits i<=n:=by
 unfold Builtin.Int.intBits;split
 .exact eB _
 .rename_i h0
  have h1:i.natAbs≠0:=by
   intro e;exact h0 (by simp[Int.natAbs_eq_zero.mp e])
  exact (Nat.log2_lt h1).mpr h
end L2
namespace L2
open PySem PySem.Spec PyProof.Rows
def sE (K:Frag)(a:Addr):It:=
 ⟨λi H=>∃ xs x,aj K H a xs/\xs[i]?=some x,λi H v H'=>∃ x p,v=.ref p/\H p=none/\H'=ao H p (.tup [.int i,x])/\(∀ xs,aj K H a xs->xs[i]?=some x),λi H=>∃ xs,aj K H a xs/\xs.length<=i⟩
theorem GK {P:Program}{w:World}{K:Frag}{elts:List Expr}{x1:Nat}{pos:Pos}{e i1 a:Addr}(hne:e≠i1):
  gR P w K (.Tuple elts x1 pos) (sE K a) [e,i1] e (λi h=>(∃ old,IsEnum h e i1 (i:Int) old)/\h.IsListIter i1 a i) where
 mem:=by simp
 obj:=λi h st c hc=>by
  obtain⟨⟨old,hz⟩,⟨o1,e1,c1,d1⟩⟩:=st;simp at hc;rcases hc with rfl|rfl
  .exact ⟨_,hz,λv z=>by have z':Data.fields _=Data.cell v:=z;cases z'⟩
  .exact ⟨o1,e1,λv z=>by rw[d1] at z;cases z⟩
 keep:=λi h h' st k=>by
  obtain⟨⟨old,hz⟩,h1⟩:=st;exact⟨⟨old,k e (by simp) _ hz⟩,h1.at λo e=>k i1 (by simp) o e⟩
 item:=by
  intro X hP hw hK hc i pins s σ H E I hf st hg;subst hP hw hK;refine cE hg λxs x hqa hx=>?_;clear hg;refine aQ (I.list hqa) λits rv p hz1=>?_;refine ar (rv.get hx) λu hu ru=>?_;obtain⟨⟨old,hz⟩,h1⟩:=st;refine wpAny_pyNext_enum_item hz h1 p.isList (by simpa using hu) hne λh' a1 a2 a3 a4 a5=>?_;refine⟨_,rfl,wpAny_letOwnedTupleGo_enum a1 λh'' b1 b2=>?_⟩;have nz:s.heap.objs.size≠e:=r_ (bX hz);have k2:∀ c o,c∉[e,i1]->s.heap.get? c=some o->h''.get? c=some o:=λc o hc q=>by
   simp at hc;exact b2.extBut _ _ hc.1 (a5 c o hc.1 hc.2 q)
  have I2:au X pins σ (ao H s.heap.objs.size (.tup [.int i,x])) { s with heap:=h'',toks:=s.toks+1 }:=I.turnedT (t':=s.toks+1) hf k2 (aI _)
   ⟨by show 2<=sizeLine;decide,[.int i s.toks,u],.cons ⟨_,rfl⟩ (.cons ru .nil),_,b2.extBut _ _ nz a3,rfl,_,rfl⟩
  refine aM (.ref s.heap.objs.size) _ ⟨I2,rfl,⟨x,_,rfl,I.hok.fresh (aI _),rfl,λxs' hq=>by rw[I.list_inj hq hqa];exact hx⟩,⟨⟨x |> λ_=>u,by simpa using b1⟩,a2.extBut b2.extBut hne.symm⟩,λc hc=>?_⟩;have hlt:∀ c∈[e,i1],c<s.heap.objs.size:=λc hc=>by
   simp at hc;refine ar h1 λo1 e1 _=>?_;clear h1;rcases hc with rfl|rfl
   .exact bX hz
   .exact bX e1
  rw[aJ (d8 (hlt c hc))];exact (hf c hc).1
 done:=by
  intro X hP hw hK hc i pins s σ H E I hf st hg;subst hP hw hK;refine ar hg λxs hqa hx=>?_;clear hg;refine aQ (I.list hqa) λits rv p hz1=>?_;obtain⟨⟨old,hz⟩,h1⟩:=st;have l1:=rv.length;refine wpAny_pyNext_enum_end (I.ok.hd hc) hz h1 p.isList (by simp;omega) λh' kk=>⟨rfl,I.turnedL (t':=s.toks) hf λc o hc q=>?_⟩
  simp at hc;exact kk c o hc.2 q
 self:=λ_ _ _ _ _ st h=>by
  obtain⟨⟨old,hz⟩,h1⟩:=st;exact wpAny_pyIter_enum hz h
section
variable {X:Cx}
def iEnm (K:Frag)(ta:TA):TI:=λσ H R=>ta σ H λvs H1=>∃ a,vs=[.ref a]/\(∃ xs,aj K H1 a xs)/\R (sE K a) H1
theorem rf {elts:List Expr}{x1:Nat}{pt p pos:Pos}{a:Expr}{ta:TA}(hg:Gl X "enumerate")(hm:X.mg "enumerate" = none)(ha:PA X [a] ta)(h:eS a=false:=by rfl):
  PI X (.Tuple elts x1 pt) (.Call (.Name "enumerate" p) [a] [] pos) (iEnm X.K ta):=by
 intro pins s σ H R I hh;refine Call_ (nE I hg hm boot_enumerate (vc (aN (ha pos pins s σ H _ I hh) λus s1 ⟨vs,H1,I1,r1,q1⟩=>?_) (by rw[gq h]) ⇑1));refine aQ q1 λc e e93 q=>?_;clear q1;obtain⟨xs,hq1⟩:=e93;subst e;cases r1 with
 | cons r rr=>
   cases rr;cases r;refine aQ (I1.list hq1) λits rv p1 hz1=>?_;refine call_enumerate_list p1.isList λh' a1 a2 a3 a4=>wpAny_pyIter_enum (s:={ s1 with heap:=h' }) a1 ?_;refine mq _ _ _ _ H1 ⟨rfl,I1.kept (t':=s1.toks) a4,GK (Nat.succ_ne_self _),⟨⟨_,a1⟩,a2⟩,λb hb=>?_,q⟩;have hb':s1.heap.objs.size<=b:=by
    simp at hb;rcases hb with rfl|rfl
    .exact qH _ _
    .exact aI _
   have:=(I1.fpOk (H':=H1) hb' (I1.hok.fresh hb'))
   exact this
end
section
variable {K:Frag}{a b D:Addr}{xs ys:List V}{g:TG}{tt:TT}{te:TE}{k:Nat}{fr:List (Str×Nat)}{σ:St}{H1:Hp}{Q:VK}
theorem uh {tb:TS}{Dn:cJ}{σ:St}{H:Hp}(Pv:Nat->St->Hp->Prop)(h0:Pv 0 σ H)(hl:∀ i σ H,i<=xs.length->Pv i σ H->aj K H a xs)(hs:∀ (i:Nat) x p σ H,xs[i]?=some x->H p=none->Pv i σ H->g (.ref p) σ (ao H p (.tup [.int i,x])) λσ2 H2=>tb { Dn with nx:=Pv (i+1),ct:=Pv (i+1),bk:=Dn.nx } σ2 H2)(hd:∀ σ H,Pv xs.length σ H->Dn.nx σ H):
  ∃ W:Nat->Nat->St->Hp->Prop,(∃ m,W 0 m σ H)/\∀ i m σ H,W i m σ H->
   ((sE K a).stop i H/\Dn.nx σ H)\/((sE K a).go i H/\∃ N:St->Hp->Prop,(∀ σ' H',N σ' H'->∃ m',m'<m/\W (i+1) m' σ' H')/\∀ x H',(sE K a).yld i H x H'->g x σ H' λσ2 H2=>tb { Dn with nx:=N,ct:=N,bk:=Dn.nx } σ2 H2):=by
 refine⟨λi m σ H=>m=xs.length-i/\i<=xs.length/\Pv i σ H,⟨xs.length,by simp,eB _,h0⟩,?_⟩;intro i m σ H e91;refine bQ e91 λe94 hi p=>?_;clear e91;obtain rfl:=e94;have q:=hl i σ H hi p;by_cases hlt:i<xs.length
 .refine .inr ⟨⟨xs,xs[i],q,by simp[hlt]⟩,Pv (i+1),λσ' H' p'=>⟨xs.length-(i+1),∅,rfl,hlt,p'⟩,λx H' y=>?_⟩;refine gh y λu pp e95 hp e96 e1=>?_;clear y;obtain rfl:=e95;obtain rfl:=e96;exact hs i u pp σ _ (e1 xs q) hp p
 .have e:i=xs.length:=∅
  subst e;exact .inl ⟨⟨xs,q,aI _⟩,hd σ H p⟩
theorem FM (Pv:Nat->List V->Hp->Prop)(h0:Pv 0 [] (ao H1 D (.lst [])))(hl:∀ i vs H,i<=xs.length->Pv i vs H->aj K H a xs)(hs:∀ (i:Nat) x p vs σ' H,i<xs.length->xs[i]?=some x->H p=none->Sh k (cH fr σ) σ'->Pv i vs H->fP g tt te D xs.length k (cH fr σ) Pv i (.ref p) σ' (ao H p (.tup [.int i,x])))(hd:∀ vs H,Pv xs.length vs H->Q (.ref D) H):
  eT g tt te (sE K a) D (dG k fr σ) H1 Q:=by
 refine⟨Wv xs.length k (cH fr σ) Pv,⟨xs.length,by simp,eB _,sh0,[],h0⟩,?_⟩;intro i m σ' H2 e92;refine cG e92 λe97 hi sh e98=>?_;clear e92;obtain rfl:=e97;obtain⟨vs,p⟩:=e98;have q1:=hl i vs H2 hi p;by_cases hlt:i<xs.length
 .refine .inr ⟨⟨xs,xs[i],q1,by simp[hlt]⟩,λx H3 y=>?_⟩;refine gh y λu pp e99 hp e910 e1=>?_;clear y;obtain rfl:=e99;obtain rfl:=e910;exact hs i u pp vs σ' _ hlt (e1 _ q1) hp sh p
 .have e:i=xs.length:=∅
  subst e;exact .inl ⟨⟨xs,q1,aI _⟩,hd vs H2 p⟩
end
end L2
namespace L2
open PySem PySem.Spec PyProof.Rows PySem.W
structure Ib (B:Heap)(fr:List Env)(e:Addr)(cls c0 fl:Value)(h:Heap):Prop where
 st:B.StaysIn h
 nw:B.get? e=none
 ff:h.FunFrames B fr
 ob:∃ (o:Obj) (vs:Array Value) (T:Addr) (oT:Obj) (us:Array Value),h.get? e=some o/\o.cls=cls/\o.data=.fields vs/\vs[2]?=some c0/\vs[1]?=some (.ref T)/\B.get? T=none/\T≠e/\h.get? T=some oT/\oT.data=.fields us/\us[3]?=some fl
section
variable {M:Model}{A:Around}{E:Value->Shared->Prop}{s:Shared}{B:Heap}{fr:List Env}{e L:Addr}{cls c0:Value}{Q:Unit->Shared->Prop}
end
end L2
namespace L2
open PySem PySem.Spec PyProof.Rows PySem.W
structure Io (P:Program)(w:World)(outer:List Env)(H:Hp)(s:Shared)(a:Addr)(cls c0:Value)(H':Hp)(s':Shared):Prop where
 os:s'.os=s.os
 bare:AllBare s'.gens
 hok:dQ P w H' s'.heap
 un:Un (frs outer) [] H H' s.heap s'.heap
 fly:∃ B,Ib B outer a cls c0 .none s'.heap/\(∀ b o,s.heap.get? b=some o->b∉frs outer->∃ o',B.get? b=some o')/\∀ b u,H' b=some u->∃ o',B.get? b=some o'
 new:∀ o,s.heap.get? a≠some o
 free:H' a=none
def xI (P:Program)(w:World):gY:=λouter H s E e s'=>∃ (a:Addr) (cls c0:Value) (H':Hp),e=.ref a/\Io P w outer H s a cls c0 H' s'/\E cls none H'/\(c0=.none\/E cls (some 0) H')
section
variable {N:List Str}{qual:Str}{scope:Scope}{f:Addr}{cd:Value}{A:Around}{outer:List Env}{s:Shared}{H:Hp}{E:XK}{pins:List (Addr×Obj)}{σ:St}{H1:Hp}{s1 s2:Shared}{e:Addr}{cls:Value}
end
end L2
namespace L2
open PySem PySem.Spec PyProof.Rows PySem.W
def Iw (t:TA)(R:Hp->Prop):TS:=λ_ σ H=>t σ H λvs H1=>vs.length<=1000/\R H1
section
variable {X:Cx}{x:Str}{C:Addr}{bm bmN:List Value}{B Bn newId nid initId inN:String}{np cpos pos:Pos}{e₀:Expr}{rest:List Expr}{t:TA}{R:Hp->Prop}
end
end L2
namespace L2
open PySem PySem.Spec PyProof.Rows PySem.W
section
end
section
variable {X:Cx}{pins:List (Addr×Obj)}{σ:St}{H H':Hp}{s s':Shared}{a:Addr}{cls:Value}
end
end L2
namespace L2
open PySem PySem.Spec PyProof.Rows PySem.W
section
variable {M:Model}{A:Around}{E:Value->Shared->Prop}
variable {nm q:Str}{C N:Addr}{bs bm:List Value}{hdct:Bool}{sn:List Str}{sub:List Value}{ab:Bool}{col:Option Bool}{dd:Option Addr}{k0 k1 k2 k3 k5:Option Value}{newId:String}
variable {nm' q':Str}{C' N':Addr}{bs' bm':List Value}{hdct':Bool}{sn':List Str}{sub':List Value}{ab':Bool}{col':Option Bool}{dd':Option Addr}{j0 j1 j2 j3 j5:Option Value}{newId':String}
end
end L2
namespace L2
open PySem PySem.Spec PyProof.Rows PySem.W
abbrev Cx.pnx (X:Cx)(pins:List (Addr×Obj)):Cx:={ X with pn:=X.pn++pins }
abbrev Cx.hnd (X:Cx)(pins:List (Addr×Obj))(a:Addr):Cx:={ X with pn:=X.pn++pins,A:=X.A.mark (some (.ref a)),calm:=false,xe:=λ_ _=>False }
section
variable {X:Cx}{pins pins':List (Addr×Obj)}{σ:St}{H:Hp}{s:Shared}{a:Addr}
theorem au.pnx (I:au X pins σ H s):au (X.pnx pins) [] σ H s:=
 ⟨⟨I.ok.mod,I.ok.kind,I.ok.glob,I.ok.blt,I.ok.above,I.ok.inj,I.ok.has,I.ok.cab,I.ok.hd,I.ok.frames,I.ok.stk,I.ok.exf,I.ok.bs,I.ok.bsz,I.ok.noex,I.ok.exfs,I.ok.funs,I.ok.frf,I.ok.top⟩,I.os,I.bare,I.base,I.loc,I.cell,I.free,I.freeC,λp hp=>I.pin p (by simpa using hp),I.hok,I.len⟩
theorem au.hnd (I:au X pins σ H s)(a:Addr):au (X.hnd pins a) [] σ H s:=
 ⟨⟨I.ok.mod,I.ok.kind,I.ok.glob,I.ok.blt,I.ok.above,I.ok.inj,I.ok.has,I.ok.cab,(λz=>nomatch z),I.ok.frames,I.ok.stk,I.ok.exf,I.ok.bs,I.ok.bsz,I.ok.noex,I.ok.exfs,I.ok.funs,I.ok.frf,I.ok.top⟩,I.os,I.bare,I.base,I.loc,I.cell,I.free,I.freeC,λp hp=>I.pin p (by simpa using hp),I.hok,I.len⟩
end
def isExc (a:Addr)(cls:Value):HO:=.ext λh=>∃ ob,h.get? a=some ob/\ob.cls=cls
def hEnds (X:Cx)(D:cJ):cJ:={ nx:=λ_ H=>D.nx (List.replicate X.N.length none) H,rt:=D.rt,bk:=λ_ H=>D.bk (List.replicate X.N.length none) H,ct:=λ_ H=>D.ct (List.replicate X.N.length none) H }
def tTry (X:Cx)(E':XK)(tb:TS)(i:Nat)(th:TS):TS:=λD σ H=>tb D σ H/\∀ (cls:Value) (H':Hp) (a:Addr) (σ':St),E' cls none H'->H' a=none->σ'.length=X.N.length->th (hEnds X D) (σ'.set i (some (.ref a))) (ao H' a (isExc a cls))
section
variable {X:Cx}{x n:Str}{np hpos pos:Pos}{body suite:List Stmt}{b₀:Stmt}{E':XK}{tb th:TS}{i:Nat}{D:Addr}{bmD:List Value}{newD:String}
end
end L2
namespace L2
open PySem PySem.Spec PySem.Calls PyProof.Rows PySem.W Builtin Builtin.ObjectAttr Builtin.Getset_descriptor
structure Bu (K:Frag)(C:Addr):Prop where
 ga:findIn K (.ref C) "__getattribute__" = some (some (.builtin "BaseException.__getattribute__"))
 gt:findIn K (.ref C) "__getattr__" = some none
 cl:findIn K (.ref C) "__class__" = some (some (.builtin "object.__class__"))
 so:mroIn K C (.type "object")=some true
 sb:mroIn K C (.type "BaseException")=some true
section
variable {prog:Program}{w:World}{A:Around}{E:Value->Shared->Prop}{h:Heap}{g:Array GenState}{d:Drawn}{t:Nat}{os:OsState}{a C:Addr}{ox:Obj}{K:Frag}
end
end L2
namespace L2
open PySem PySem.Spec PyProof.Rows PySem.W
section
variable {X:Cx}
end
end L2
namespace L2
open PySem PySem.Spec PyProof.Rows PySem.W
structure Iu (P:Program)(w:World)(K:Frag)(mg:Str->Option Value)(base:Heap)(x:Str)(k:Nat)(sp:Sp):Prop where
 ex:∃ (f:Addr) (fd:FuncData) (ps:List Str),ax P w K mg base (xI P w) k f fd ps sp/\mg x=some (.ref f)/\PySem.W.keepIn K (.ref f)=true/\bL K fd ps []
structure Fj (P:Program)(w:World)(K:Frag)(mg:Str->Option Value)(base:Heap)(C:Addr)(m:Str)(k:Nat)(sp:Sp):Prop where
 ex:∃ (f:Addr) (fd:FuncData) (ps:List Str),ax P w K mg base (xI P w) k f fd ps sp/\gW K C m f/\bL K fd ps []
structure Fk (P:Program)(w:World)(K:Frag)(mg:Str->Option Value)(base:Heap)(x:Str)(C:Addr)(k:Nat)(sp:Sp):Prop where
 ex:∃ (f:Addr) (fd:FuncData) (ps:List Str),ax P w K mg base (xI P w) k f fd ps sp/\Mk K C f/\mg x=some (.ref C)/\bL K fd ps []
section
variable {X:Cx}{x m:Str}{k:Nat}{sp:Sp}{e o:Expr}{es:List Expr}{ta:TE}{t:TA}{p pos apos:Pos}{E:XK}{C:Addr}
end
theorem Bx {X:Cx}{pins:List (Addr×Obj)}{a:Addr}:(X.hnd pins a).K=X.K:=rfl
theorem Bw {X:Cx}{pins:List (Addr×Obj)}:(X.pnx pins).K=X.K:=rfl
structure Fm (P:Program)(w:World)(K:Frag)(mg:Str->Option Value)(base:Heap)(C:Addr)(m:Str)(k:Nat)(sp:Sp)(dvs:List V):Prop where
 ex:∃ (f:Addr) (fd:FuncData) (ps:List Str) (ds:List Value),ax P w K mg base (xI P w) k f fd ps sp/\gW K C m f/\bL K fd ps ds/\av dvs ds
section
variable {N:List Str}{qual:Str}{scope:Scope}{f:Addr}{cd:Value}{A:Around}{outer:List Env}{s:Shared}{H:Hp}{E:XK}
end
end L2
namespace L2
open PySem PySem.Spec PyProof.Rows
structure nL (k:Nat)(A:Around):Prop where
 dp:A.depth+3*k+205<recursionLimit
 un:A.units+16*k+200<cLine
theorem aX.mark {k:Nat}{A:Around}(r:aX k A)(v:Option Value):nL k (A.mark v):=⟨r.dp,r.un⟩
structure vh (P:Program)(w:World)(K:Frag)(mg:Str->Option Value)(base:Heap)(CX:gY)(k:Nat)(f:Addr)(fd:FuncData)(ps:List Str)(sp:Sp):Prop where
 len:∀ vs H Q E,sp vs H Q E->vs.length=ps.length
 run:∀ (A:Around) (outer:List Env) (s:Shared) (H:Hp) (args:Args) (us:List Value) (vs:List V) (Q:VK) (E:XK),nL k A->gb P w K mg base A outer s H->BindsTo s fd args (ps.zip us)->av vs us->sp vs H Q E->
  codeAny (model P w) A (.call (.ref f) args) (CR CX outer P w H s Q E) s
section
structure Ir (P:Program)(w:World)(K:Frag)(mg:Str->Option Value)(base:Heap)(x:Str)(k:Nat)(sp:Sp):Prop where
 ex:∃ (f:Addr) (fd:FuncData) (ps:List Str),vh P w K mg base aW k f fd ps sp/\mg x=some (.ref f)/\PySem.W.keepIn K (.ref f)=true/\bL K fd ps []
end
section
variable {X:Cx}{CX:gY}{k:Nat}{f C:Addr}{fd:FuncData}{ps:List Str}{sp:Sp}{dvs:List V}{ds:List Value}{E:XK}{x m:Str}{p pos apos:Pos}{e o:Expr}{es:List Expr}{ta:TE}{t:TA}
end
section
variable {X:Cx}
end
end L2
namespace L2
open PySem PySem.Spec PyProof.Rows
end L2
namespace L2
open PySem PySem.Spec PyProof.Rows
section
variable {prog:Program}{w:World}{A:Around}{s:Shared}{E:Value->Shared->Prop}
end
section
variable {X:Cx}
end
def Im (K:Frag)(a:Addr)(n:Nat):It:=
 ⟨λi H=>∃ xs,aj K H a xs/\xs.length=n/\i<n,λi H v H'=>H'=H/\∀ xs,aj K H a xs->xs[n-1-i]?=some v,λi H=>∃ xs,aj K H a xs/\xs.length=n/\i=n⟩
section
variable {X:Cx}
def iRvl (K:Frag)(ta:TA):TI:=λσ H R=>ta σ H λvs H1=>∃ a xs,vs=[.ref a]/\aj K H1 a xs/\R (Im K a xs.length) H1
end
section
variable {K:Frag}{a:Addr}{xs:List V}{g:TG}
end
end L2
namespace L2
open PySem PySem.Spec PyProof.Rows
section
variable {prog:Program}{w:World}{A:Around}{E:Value->Shared->Prop}{s:Shared}
end
end L2
namespace L2
open PySem PySem.Spec PyProof.Rows
section
variable {prog:Program}{w:World}{A:Around}{s:Shared}{E:Value->Shared->Prop}
structure IJ (items:Array Value)(lo:Addr)(h:Heap)(as:List Addr):Prop where
 rise:as.Pairwise (· < ·)
 above:∀ a∈as,lo<a
 pairs:∀ (j:Nat) (a:Addr),as[j]?=some a->∃ t x,items[j]?=some x/\h.get? a=some { cls:=.type "tuple",data:=.seq #[.int j t,x] }
end
section
variable {prog:Program}{w:World}{A:Around}{s:Shared}{R:Result->Shared->Prop}{items:Array Value}
end
section
variable {prog:Program}{w:World}{A:Around}{s:Shared}{E:Value->Shared->Prop}
end
section
variable {X:Cx}{pins:List (Addr×Obj)}{σ:St}
def tLE (K:Frag)(ta:TA):TE:=λσ H Q=>ta σ H λvs H1=>∃ a xs,vs=[.ref a]/\aj K H1 a xs/\∀ (l:Addr) (ps:List Addr) (H':Hp),aa H1 H'->H1 l=none->(∀ q∈ps,q≠l)->H' l=some (.lst (ps.map V.ref))->ps.length=xs.length->
 (∀ (i:Nat) q x,ps[i]?=some q->xs[i]?=some x->H' q=some (.tup [.int i,x]))->Q (.ref l) H'
end
section
variable {X:Cx}
def gSl0 (to:TE)(th:TO):TG:=λv σ H Q=>to σ H λx H1=>th σ H1 λu H2=>∃ l b xs ys,∃ c:Int,x=.ref l/\v=.ref b/\u=some c/\H2 l=some (.lst xs)/\H2 b=some (.lst ys)/\l≠b/\0<=c/\c<=xs.length/\xs.length+ys.length<=sizeLine/\Q σ (ao H2 l (.lst (ys++xs.drop c.toNat)))
end
section
variable {K:Frag}{a b D:Addr}{xs ys:List V}{g:TG}{tt:TT}{te:TE}{k:Nat}{fr:List (Str×Nat)}{σ:St}{H1:Hp}{Q:VK}
end
theorem Cm {X:Cx}(K:Frag)(hK:X.K=K)(hu:X.A.units+8<cLine):bY X (compareOp .NotEq) (rNeN K):=hK ▸ oQ hu
end L2
namespace L2
open PySem PySem.Spec PyProof.Rows
def Bt (n:Nat)(z:Int):Prop:=z.natAbs<2 ^ n
theorem Bt.le {n m:Nat}{z:Int}(h:Bt n z)(hm:n<=m):Bt m z:=dZ h (u_ ⇑0 hm)
theorem Bt.mul {n m:Nat}{x y:Int}(h:Bt n x)(h':Bt m y):Bt (n+m) (x*y):=by
 unfold Bt at *;rw[jD,rY];exact Nat.mul_lt_mul'' h h'
theorem Bt.add {n:Nat}{x y:Int}(h:Bt n x)(h':Bt n y):Bt (n+1) (x+y):=by
 unfold Bt at *;rw[Nat.pow_succ];omega
theorem Bt.sub {n:Nat}{x y:Int}(h:Bt n x)(h':Bt n y):Bt (n+1) (x-y):=by
 unfold Bt at *;rw[Nat.pow_succ];omega
theorem Bt.neg {n:Nat}{x:Int}(h:Bt n x):Bt n (-x):=by unfold Bt at *;rw[Int.natAbs_neg];exact h
theorem Bt.abs_le {n:Nat}{x y:Int}(h:Bt n x)(hy:y.natAbs<=x.natAbs):Bt n y:=iW hy h
theorem Bt.quo {n:Nat}{x y:Int}(h:Bt n x)(hd:y ∣ x):Bt n (x / y):=h.abs_le (by
 rw[Int.natAbs_ediv,if_pos (.inr (.inr hd))];exact Nat.div_le_self _ _)
theorem B2 (n:Nat):Bt n 0:=mK n
theorem dc {n:Nat}{z:Int}(hn:7<=n)(h:z.natAbs<128):Bt n z:=dZ h (u_ (show 0<2 by decide) hn)
theorem Bt.bits {n:Nat}{z:Int}(h:Bt n z):Builtin.Int.intBits z<=n:=lW h
theorem Bt.ok {n m:Nat}{x y:Int}(h:Bt n x)(h':Bt m y)(hs:n+m<=134217728):IntMulOk x y:=mulOk_of_bits h.bits h'.bits hs
theorem jb {X:Cx}(ht:X.prog.given.tree=none)(hd:X.A.depth+Builtin.pylongFrames<recursionLimit):bY X (binaryOp .FloorDiv) (rI (λ_ j=>j≠0) λi j=>.int (i.fdiv j)):=by
 intro pins s σ H x y v u Q I rx ry h;refine gh h λi j e91 e92 hc q=>?_;clear h;obtain rfl:=e91;obtain rfl:=e92;obtain⟨t,rfl⟩:=rx;obtain⟨t',rfl⟩:=ry;exact floordiv_int hc ⟨.int (i.fdiv j),H,I.tok _,⟨_,rfl⟩,q⟩ (.inr (I.long ht hd))
theorem jc {k:Nat}{A:Around}(hr:aX k A):A.depth+Builtin.pylongFrames<recursionLimit:=by
 have:=hr.dp;have e:Builtin.pylongFrames<=200:=⇑0
 omega
theorem jV {i j:Int}(h:0<j):i.fdiv j=i / j:=qN i ∅
theorem Ft {a b c d x y:Int}(h:a*d-b*c=1\/a*d-b*c=-1):Int.gcd (a*x+b*y) (c*x+d*y)=Int.gcd x y:=by
 apply Nat.dvd_antisymm
 .have h1:((Int.gcd (a*x+b*y) (c*x+d*y):Nat):Int) ∣ a*x+b*y:=iS ..;have h2:((Int.gcd (a*x+b*y) (c*x+d*y):Nat):Int) ∣ c*x+d*y:=jG ..;generalize Int.gcd (a*x+b*y) (c*x+d*y)=g at *;obtain⟨u,hu⟩:=h1;obtain⟨v,hv⟩:=h2;have dx:(g:Int) ∣ x:=by
   rcases h with h|h
   .exact ⟨d*u-b*v,by grind⟩
   .exact ⟨b*v-d*u,by grind⟩
  have dy:(g:Int) ∣ y:=by
   rcases h with h|h
   .exact ⟨a*v-c*u,by grind⟩
   .exact ⟨c*u-a*v,by grind⟩
  exact Int.ofNat_dvd.mp (Int.dvd_coe_gcd dx dy)
 .have h1:((Int.gcd x y:Nat):Int) ∣ x:=iS ..;have h2:((Int.gcd x y:Nat):Int) ∣ y:=jG ..;generalize Int.gcd x y=g at *;obtain⟨u,hu⟩:=h1;obtain⟨v,hv⟩:=h2;exact Int.ofNat_dvd.mp (Int.dvd_coe_gcd ⟨a*u+b*v,by grind⟩ ⟨c*u+d*v,by grind⟩)
structure dP (x0 y0 a b c d x y:Int):Prop where
 hx:a*x0+b*y0=x
 hy:c*x0+d*y0=y
 sg:∃ e:Int,(e=1\/e=-1)/\a*d-b*c=e/\0<=e*a/\0<=-(e*b)/\0<=-(e*c)/\0<=e*d
 x64:18446744073709551616<=x
 yn:0<=y
 yx:y<=x
 ab:a.natAbs<4611686018427387904/\b.natAbs<4611686018427387904
 pr:(a=1/\b=0/\c=0/\d=1)\/(b≠0/\x+y+18446744073709551616<=x0+y0)
theorem DF {u x m:Int}(hu:0<=u)(hx:18446744073709551616<=x)(h:u*x<=m)(hm:m<85070591730234615865843651857942052864):u<4611686018427387904:=by
 apply jF;intro z;have h1:(4611686018427387904:Int)*18446744073709551616<=u*x:=Int.mul_le_mul ∅ hx ∅ hu;omega
theorem dP.cd {x0 y0 a b c d x y:Int}(h:dP x0 y0 a b c d x y)(h0:x0<85070591730234615865843651857942052864)(h1:y0<=x0):c.natAbs<4611686018427387904/\d.natAbs<4611686018427387904:=by
 refine vG h.sg λe he det sa sb sc sd=>?_;have ee:e*e=1:=by rcases he with rfl|rfl <;> rfl
 have ex:(e*d)*x+(-(e*b))*y=x0:=by
  rw[<- h.hx,<- h.hy];have:(e*d)*(a*x0+b*y0)+(-(e*b))*(c*x0+d*y0)=e*(a*d-b*c)*x0:=by grind
  rw[this,det,ee,Int.one_mul]
 have ey:(-(e*c))*x+(e*a)*y=y0:=by
  rw[<- h.hx,<- h.hy];have:(-(e*c))*(a*x0+b*y0)+(e*a)*(c*x0+d*y0)=e*(a*d-b*c)*y0:=by grind
  rw[this,det,ee,Int.one_mul]
 have p1:0<=(-(e*b))*y:=qE sb h.yn;have p2:0<=(e*a)*y:=qE sa h.yn;have q1:=DF sd h.x64 (show (e*d)*x<=x0 by omega) h0;have q2:=DF sc h.x64 (show (-(e*c))*x<=x0 by omega) h0;constructor
 .rcases he with rfl|rfl <;> omega
 .rcases he with rfl|rfl <;> omega
theorem dP.next {x0 y0 a b c d x y:Int}(h:dP x0 y0 a b c d x y)(h0:x0<85070591730234615865843651857942052864)(h1:y0<=x0)(hy:18446744073709551616<=y):dP x0 y0 c d (a-x / y*c) (b-x / y*d) y (x-x / y*y):=by
 have cd:=h.cd h0 h1;refine vG h.sg λe he det sa sb sc sd=>?_;have m0:0<=x / y:=xm (by have:=h.x64;omega) ∅;have m1:1<=x / y:=by
  have:=h.yx;exact (Int.le_ediv_iff_mul_le ∅).mpr ∅
 have hr:x-x / y*y=x % y:=by
  have:=A5 x y;rw[r8 y] at this;omega
 have r0:=gv x (show y≠0 by omega);have r1:=fY x (show 0<y by omega);have e1:=h.hx;have e2:=h.hy;generalize hq:x / y=q at *;have qy:y<=q*y:=by
  have:=Br m1 (show 0<=y by omega);omega
 refine⟨h.hy,by rw[<- e1,<- e2];grind,⟨-e,?_,by grind,by grind,by grind,?_,?_⟩,hy,∅,∅,cd,.inr ⟨?_,?_⟩⟩
 .rcases he with rfl|rfl <;> simp
 .have p:=qE m0 sc;have:-(-e*(a-q*c))=e*a+q * -(e*c):=by grind
  omega
 .have p:=qE m0 sd;have:-e*(b-q*d)=-(e*b)+q*(e*d):=by grind
  omega
 .rcases h.pr with ⟨_,_,_,rfl⟩|⟨hb,_⟩
  .decide
  .intro z;subst z;have hbc:-(b*c)=e:=by rw[<- det];grind
   -- b*c=-e,d=0: then y=c*x0 and x=a*x0+b*y0
   have hc1:c.natAbs=1:=by
    have:b.natAbs*c.natAbs=1:=by rw[<- jD];rcases he with rfl|rfl <;> omega
    exact Nat.eq_one_of_mul_eq_one_left this
   have e2':c*x0=y:=by rw[<- e2];grind
   have hc:c=1:=by
    rcases (show c=1\/c=-1 by omega) with z|z
    .exact z
    .subst z;have:=h.x64;have:=h.yx;omega
   subst hc;rcases h.pr with ⟨_,hb0,_⟩|⟨_,hs⟩
   .exact hb hb0
   .have:=h.x64;have:=h.yx;have:=h.yn;omega
 .rcases h.pr with ⟨rfl,rfl,rfl,rfl⟩|⟨_,hs⟩
  .have g1:x0=x:=by rw[<- e1];grind
   have g2:y0=y:=by rw[<- e2];grind
   omega
  .omega
end L2
namespace L2
open PySem PySem.Spec PyProof.Rows PySem.W
def nk (X:Cx)(N:List Str)(qual:Str)(scope:Scope)(cl:List (Str×Addr))(f:Addr)(cd:Value)(A:Around)(s:Shared)(H:Hp):Cx where
 prog:=X.prog
 w:=X.w
 K:=X.K
 mg:=X.mg
 base:=X.base
 A:=A.deeper (envX qual scope s.heap.objs.size f cd cl)
 N:=N
 s₀:=s
 H₀:=H
 env:=envX qual scope s.heap.objs.size f cd cl
 outer:=X.stack
 stack:=envX qual scope s.heap.objs.size f cd cl::X.stack
 ex:=[]
 fn:=λ_=>false
 calm:=true
 pn:=[]
 xe:=λ_ _=>False
structure bV (X:Cx)(sc:Scope)(x:Str)(fr:List (Str×Nat)):Prop where
 kind:sc.kind=.function
 co:sc.isCoroutine=false
 gen:sc.isGenerator=false
 nocell:∀ y∈sc.names,y.2≠.cell
 par:sc.names.lookup x=some .local
 free:∀ y∈sc.names,y.2=.free->X.env.scope.names.lookup y.1=some .cell\/X.env.scope.names.lookup y.1=some .free
 cap:∀ y∈fr,sc.names.lookup y.1=some .free/\X.N[y.2]?=some y.1
abbrev jL (x:Str)(fr:List (Str×Nat)):List Str:=x::fr.map (·.1)
abbrev m7 (v:V)(fr:List (Str×Nat))(σ:St):St:=some v::fr.map λy=>(σ[y.2]?).getD none
section
variable {X:Cx}{pins:List (Addr×Obj)}{σ:St}{H:Hp}{s:Shared}{A:Around}{sc:Scope}{x:Str}{fr:List (Str×Nat)}{cl:List (Str×Addr)}{f:Addr}{cd:Value}{qual:Str}
theorem lM {h':Heap}{v:V}{u:Value}(I:au X pins σ H s)(B:bV X sc x fr)(hfr:A.frames=some X.stack)(hd:A.handled=none)(hcl:∀ x c,cl.lookup x=some c->X.env.cells.lookup x=some c)(hcl2:∀ y∈sc.names,y.2=.free->∃ c,cl.lookup y.1=some c)(rv:aG v u)(hn:h'.Ns s.heap.objs.size (λy=>[(x,u)].reverse.lookup y))(hk:∀ b o,s.heap.get? b=some o->h'.get? b=some o):
  au (nk X (jL x fr) qual sc cl f cd A s H) [] (m7 v fr σ) H { s with heap:=h',toks:=s.toks+1 }:=by
 have bsz:X.base.objs.size<=s.heap.objs.size:=cx I.ok.bsz I.sz;have noA:∀ b:Addr,b∉(nk X (jL x fr) qual sc cl f cd A s H).ex:=λb z=>absurd (show b∈([]:List Addr) from z) (by simp);refine⟨⟨I.ok.mod,B.kind,rfl,rfl,aI _,λy z c h1 h2=>I.ok.inj y z c (hcl y c h1) (hcl z c h2),λy hy=>?_,λy c hf _=>absurd (show false=true from hf) eo,λ_=>hd,Around.frames_deeper hfr,.inr ⟨rfl,rfl⟩,λb z=>absurd z (noA b),I.bs,bsz,λb _ _=>noA b,λb z=>absurd z (noA b),I.stack,I.stkFree,⟨_,_,rfl,B.gen,B.co,rfl,rfl⟩⟩,
  rfl,I.bare,Un.kept hk,⟨_,hn,λi y w h1 h2 h3=>?_⟩,λy c e=>?_,I.hok.fresh (aI _),λy c e=>I.freeC y c (hcl y c e),λp hp=>absurd (show p∈([]:List (Addr×Obj)) from hp) (by simp),I.hok.kept hk,by show (m7 v fr σ).length=(jL x fr).length;simp⟩
 .have hy:sc.names.lookup y=some .cell\/sc.names.lookup y=some .free:=hy;rcases hy with z|z
  .exact absurd rfl (B.nocell _ (iX z))
  .exact hcl2 _ (iX z) rfl
 .have h1:(jL x fr)[i]?=some y:=h1;cases i with
  | zero=>
   have e1:x=y:=fJ h1;have e2:some v=some w:=fJ h2;cases e2;subst e1;exact⟨u,rv,.inl ⟨B.par,by simp⟩⟩
  | succ i=>
   rw[List.getElem?_cons_succ,bH] at h1 h2;cases e:fr[i]? with
   | none=>rw[e] at h1;cases h1
   | some z=>
    rw[e] at h1 h2;have hy1:z.1=y:=fJ h1;have hy2:(σ[z.2]?).getD none=some w:=fJ h2;obtain⟨c1,c2⟩:=B.cap z (aY e);rw[hy1] at c1 c2;have hs:σ[z.2]?=some (some w):=by
     cases e2:σ[z.2]? with
     | none=>rw[e2] at hy2;cases hy2
     | some o=>rw[e2] at hy2;cases o with
      | none=>cases hy2
      | some w=>cases hy2;rfl
    refine ar I.loc λm hm hl=>?_;have hfree:=B.free _ (iX c1) rfl;refine ar (hl z.2 y w c2 hs (hfree.elim (λz=>.inr (.inl z)) λz=>.inr (.inr z))) λu' r l=>?_;refine⟨u',r,?_⟩;obtain⟨k,c,e3,ce⟩:(X.env.kindOf y=some .cell\/X.env.kindOf y=some .free)/\∃ c,X.env.cells.lookup y=some c/\s.heap.IsCell c (some u'):=by
     rcases l with ⟨k,_⟩|q
     .have k:X.env.scope.names.lookup y=some .local:=k;rcases hfree with z|z <;> (rw[z] at k;cases k)
     .exact q
    obtain⟨d,hd'⟩:=hcl2 _ (iX c1) rfl;have hd2:=hcl y d hd';rw[e3] at hd2;cases hd2;exact .inr ⟨.inr c1,c,hd',ce.keeps hk⟩
 .obtain ⟨w,q⟩:=I.cell y c (hcl y c e);exact⟨w,q.keeps hk⟩
theorem kq {c':Addr}{params:Arguments}{body:Expr}{name:Str}{pm ctv:Value}{v:V}{u:Value}{te:TE}{Q:VK}(I:au X pins σ H s)(B:bV X sc x fr)(hfr:A.frames=some X.stack)(hd:A.handled=none)(hroom:A.depth<recursionLimit)(hcl:∀ x c,cl.lookup x=some c->X.env.cells.lookup x=some c)(hcl2:∀ y∈sc.names,y.2=.free->∃ c,cl.lookup y.1=some c)(rv:aG v u)(hf:s.heap.get? f=some (kla_obj name qual params body sc cl pm c' ctv))(hcd:s.heap.CodeRec (.ref c') qual)(hb:bindArgs (kla_fn name qual params body sc cl pm (.ref c') ctv) ⟨[u],[]⟩=pure [(x,u)])(he:PE (nk X (jL x fr) qual sc cl f (.ref c') A.in1 s H) body te)(q:te (m7 v fr σ) H Q):
  wpAny (model X.prog X.w) A.in1 (call (.ref f) [u]) (EP X pins σ Q) (λ_ _=>False) s:=by
 refine wpAny_call (kla_callFunE (A:=A.in1) hroom hf rfl B.co B.gen rfl hcd ?_);rw[hb];refine df (wpAny_newFunctionEnv B.nocell (λy hy=>?_) (λh₁ hns hsb=>⟨I.nolimit.fresh _ hsb,?_⟩) B.kind)
 .rw [cF.mp hy];exact B.par
 .show codeAny _ _ (.expr body (envX qual sc s.heap.objs.size f (.ref c') cl)) _ _;have hk₁:∀ b o,s.heap.get? b=some o->h₁.get? b=some o:=λb o e=>hsb.extBut b o (d8 (bX e)) (dC _ e);have I1:au (nk X (jL x fr) qual sc cl f (.ref c') A.in1 s H) [] (m7 v fr σ) H { s with heap:=h₁,toks:=s.toks+1 }:=lM (A:=A.in1) I B hfr hd hcl hcl2 rv hns hk₁;refine kla_codeExpr (iQ (he [] _ _ _ _ I1 q) (λy s' h=>?_) λ_ _ h=>h.elim);refine cy h λv' H' J r' q'=>?_;clear h;exact I.after ⟨v',H',J.os,J.bare,J.base,J.hok,r',q'⟩
end
structure cI (X:Cx)(pins:List (Addr×Obj))(sc:Scope)(params:Arguments)(body:Expr)(qual:Str)(P:Addr)(H:Hp)(s:Shared)(f c':Addr)(cl:List (Str×Addr))(ctv pm:Value):Prop where
 fn:s.heap.get? f=some (kla_obj "<lambda>" qual params body sc cl pm c' ctv)
 fp:cm X pins H f
 cod:∃ oc vs t,H c'=some (.frz oc (.own P))/\oc.data=.fields vs/\vs[1]?=some (.str qual t)
 hcl:∀ x c,cl.lookup x=some c->X.env.cells.lookup x=some c
 hcl2:∀ y∈sc.names,y.2=.free->∃ c,cl.lookup y.1=some c
section
variable {X:Cx}{pins:List (Addr×Obj)}{σ:St}{H:Hp}{s:Shared}{sc:Scope}{x:Str}{fr:List (Str×Nat)}{P c:Addr}{params:Arguments}{body:Expr}{pos:Pos}
theorem cI.code {H:Hp}{s:Shared}{f c':Addr}{cl:List (Str×Addr)}{ctv pm:Value}{qual:Str}(L:cI X pins sc params body qual P H s f c' cl ctv pm)(I:au X pins σ H s):s.heap.CodeRec (.ref c') qual:=by
 refine g8 L.cod λoc vs t e d v=>?_;obtain⟨e1,_⟩:=I.hok c' _ e;exact i_ c' oc vs t ⟨rfl,e1,d,v⟩
theorem pH {Q:Value->Shared->Prop}(I:au X pins σ H s)(B:bV X sc x fr)(hcode:X.env.code=.ref c)(C:CodeHd X.base c P)(hP:H P=some (.tab (pos.line:Int) (pos.col:Int) (X.env.qual ++ "<lambda>")))(hdef:defaultsOf params X.env=([],[]))(h:∀ s' H' f c' cl ctv pm,au X pins σ H' s'->aa H H'->cI X pins sc params body (X.env.qual ++ "<lambda>") P H' s' f c' cl ctv pm->Q (.ref f) s'):
  wpAny (model X.prog X.w) X.A (eval (.Lambda params body sc pos) X.env) Q X.xe s:=by
 refine aQ (yB (scope:=sc) (env:=X.env) λy hy hf=>I.ok.has y.1 ((B.free y hy hf).elim .inl .inr)) λcl hcl q1 q2=>?_;have hg:s.heap.Ns mainGlobals X.mg:=I.mod.glob.keeps I.bk;have CH:CodeHd s.heap c P:=by
  refine qg C λo vs file tf flags tg inF text tt e1 r=>?_;clear C;exact tS o vs file tf flags tg inF text tt ⟨I.bk _ _ e1,r⟩
 refine iE I.mod.bmain λbm ob b1 b2 b3 b4 b5 b6=>?_;have b3':=I.bs _ _ b3;have hgP:mainGlobals≠P:=λq=>by
  refine g8 I.mod.glob λo es ep e hd _=>?_;have:=(I.bs _ _ e).2;rw[q,hP] at this;cases this
 have hbP:bm≠P:=λq=>by
  have:=b3'.2;rw[q,hP] at this;cases this
 have hbG:bm≠mainGlobals:=λq=>by
  refine g8 I.mod.glob λo es ep e hd _=>?_;rw[q,e] at b3;cases b3;rw[hd] at b6;cases b6
 have BA:s.heap.BuiltinsAt X.mg P:=⟨bm,ob,b1,b2,hbG,hbP,b3'.1,b4,b5,b6⟩
 have ok:=I.hok P _ hP;refine kla_eval hdef ?_;rcases ok with e0|⟨c',oc,vs,t,e0,ne,e2,d2,v2⟩
 .-- the first one
  refine kla_makeFunction (mg:=X.mg) hcl I.ok.glob hg hcode CH e0 (by exact True.intro) rfl hgP BA λc' ctv h' tk hx hge hlt hrec htb=>?_;refine d6 hrec λc2 oc vs t ec hoc hd hv=>?_;clear hrec;cases ec;have hcn:H c'=none:=I.hok.fresh hge;have hcP:c'≠P:=λz=>by rw[z,hP] at hcn;cases hcn
  have hxk:∀ b o,b≠P->s.heap.get? b=some o->(h'.push (kla_obj "<lambda>" (X.env.qual ++ "<lambda>") params body sc cl ((X.mg "__name__").getD .none) c' ctv)).get? b=some o:=λb o hb e=>dC _ (hx b o hb e);have gP:(h'.push (kla_obj "<lambda>" (X.env.qual ++ "<lambda>") params body sc cl ((X.mg "__name__").getD .none) c' ctv)).get? P=some (tabObj (#[] ++ #[rawInt pos.line,rawInt pos.col,.ref c'])):=dC _ htb;have gc:(h'.push (kla_obj "<lambda>" (X.env.qual ++ "<lambda>") params body sc cl ((X.mg "__name__").getD .none) c' ctv)).get? c'=some oc:=dC _ hoc;have sm:aa H (ao H c' (.frz oc (.own P))):=λb u e=>by rw[aJ (cc e hcn)];exact e
  have nP:∀ {b:Addr},H b=none->b≠P:=λe z=>by rw[z,hP] at e;cases e
  have U:Un X.fs [] H (ao H c' (.frz oc (.own P))) s.heap (h'.push (kla_obj "<lambda>" (X.env.qual ++ "<lambda>") params body sc cl ((X.mg "__name__").getD .none) c' ctv)):=by
   refine⟨λb o e n _ _=>hxk b o (nP n) e,λb o e n _ _=>⟨o.slots,hxk b o (nP n) e⟩,λb o e n _=>?_,λb o e _=>?_,λb xs e=>sm _ _ e,λb o u e=>sm _ _ e,λb ps e=>⟨#[],by rw[sm _ _ e];simp⟩⟩
   .rw [aJ (d8 (dZ (bX e) hge))];exact n
   .by_cases z:b=P
    .exact ⟨_,by rw[z];exact gP⟩
    .exact ⟨o,hxk b o z e⟩
  have O:dQ X.prog X.w (ao H c' (.frz oc (.own P))) (h'.push (kla_obj "<lambda>" (X.env.qual ++ "<lambda>") params body sc cl ((X.mg "__name__").getD .none) c' ctv)):=λb u e=>by
   by_cases hb:b=c'
   .subst hb;rw[aw] at e;cases e;exact⟨gc,⟨oc,gc⟩⟩
   .rw [aJ hb] at e;by_cases hbP':b=P
    .subst hbP';rw[hP] at e;cases e;exact .inr ⟨c',oc,vs,t,gP,hcP,aw,hd,hv⟩
    .refine (I.hok b u e).stay (λa v ha q=>hxk a v ?_ q) (λa z=>sm _ _ z) (λa xs z=>sm _ _ z) λa o' u' z=>sm _ _ z;rcases ha with rfl|ha
     .exact hbP'
     .intro z;rw[z,hP] at ha;cases ha
  have I':au X pins σ (ao H c' (.frz oc (.own P))) { s with heap:=h'.push (kla_obj "<lambda>" (X.env.qual ++ "<lambda>") params body sc cl ((X.mg "__name__").getD .none) c' ctv),toks:=tk }:=I.un U O;have hsz:s.heap.objs.size<=h'.objs.size:=jg (iW hge hlt);refine h _ _ h'.objs.size c' cl ctv _ I' sm ⟨gA _ rfl,I.fpOk hsz ?_,⟨oc,vs,t,aw,hd,hv⟩,q1,q2⟩;rw[aJ (r_ hlt)];exact I.hok.fresh hsz
 .-- the code is there
  refine kla_makeFunctionHit (cv:=.ref c') (mg:=X.mg) hcl I.ok.glob hg hcode CH e0 (by simp[TriplesOk,rawInt]) (by simp[codeAmong,rawInt]) BA λctv h' tk hk hsz=>?_;have I':au X pins σ H { s with heap:=h'.push (kla_obj "<lambda>" (X.env.qual ++ "<lambda>") params body sc cl ((X.mg "__name__").getD .none) c' ctv),toks:=tk }:=I.kept λb o e=>dC _ (hk b o e);exact h _ _ h'.objs.size c' cl ctv _ I' (aa.refl _) ⟨gA _ rfl,I.fpOk hsz (I.hok.fresh hsz),⟨oc,vs,t,e2,d2,v2⟩,q1,q2⟩
end
theorem aa.sqL {K:Frag}{H H':Hp}{a:Addr}{xs:List V}(s:aa H H')(h:aj K H a xs):aj K H' a xs:=s.seq h
def jH (kf:Nat->Int)(n i:Nat):Prop:=i<n/\∀ j,j<n->kf i<=kf j/\(j<i->kf i<kf j)
section
variable {X:Cx}{pins:List (Addr×Obj)}{σ:St}{sc:Scope}{x:Str}{fr:List (Str×Nat)}{P:Addr}{params:Arguments}{body:Expr}{qual:Str}{f c' l It S:Addr}{cl:List (Str×Addr)}{ctv pm:Value}{xs:List V}{te:TE}{H0:Hp}{kf:Nat->Int}
abbrev Ik:List (Str×Value):=[("default",Value.none)]
theorem cm.same {pins:List (Addr×Obj)}{H H':Hp}{b:Addr}(h:cm X pins H b)(e:H' b=none):cm X pins H' b:=⟨e,h.2⟩
theorem Ca {H:Hp}{s:Shared}{i:Nat}{v:V}{u:Value}{b₁:Addr}{o₁:Obj}{b₂:Addr}{o₂:Obj}(hc:X.calm=true)(hroom:X.A.depth<recursionLimit)(B:bV X sc x fr)(hbd:∀ u pm c' ctv cl,bindArgs (kla_fn "<lambda>" qual params body sc cl pm (.ref c') ctv) ⟨[u],[]⟩=pure [(x,u)])(he:∀ cl f c' s H,PE (nk X (jL x fr) qual sc cl f (.ref c') X.A.in1 s H) body te)(I:au X pins σ H s)(L:cI X pins sc params body qual P H s f c' cl ctv pm)(ht:te (m7 v fr σ) H λy H'=>y=.int (kf i)/\aa H H')(rv:aG v u)(f1:cm X pins H b₁)(g1:s.heap.get? b₁=some o₁)(d1:∀ v,o₁.data≠.cell v)(f2:cm X pins H b₂)(g2:s.heap.get? b₂=some o₂)(d2:∀ v,o₂.data≠.cell v):
  wpAny (model X.prog X.w) X.A.in1 (call (.ref f) [u]) (λy s'=>∃ t H',y=.int (kf i) t/\aa H H'/\au X pins σ H' s'/\cI X pins sc params body qual P H' s' f c' cl ctv pm/\s'.heap.get? b₁=some o₁/\H' b₁=none/\s'.heap.get? b₂=some o₂/\H' b₂=none) (λ_ _=>False) s:=by
 have Ip:=I.pinned (fp:=[b₁,b₂,f]) (λb hb=>by
  rcases fH.mp hb with rfl|hb
  .exact f1
  .rcases fH.mp hb with rfl|hb
   .exact f2
   .rw [cF.mp hb];exact L.fp) (λb hb=>by
  rcases fH.mp hb with rfl|hb
  .exact ⟨_,g1,d1⟩
  .rcases fH.mp hb with rfl|hb
   .exact ⟨_,g2,d2⟩
   .rw [cF.mp hb];exact⟨_,L.fn,λv z=>by cases z⟩)
 refine aN (kq Ip B I.ok.frames (I.ok.hd hc) hroom L.hcl L.hcl2 rv L.fn (L.code I) (hbd _ _ _ _ _) (he _ _ _ _ _) ht) λy s' h=>?_;refine gh h λw H' I' r e91 sm=>?_;clear h;obtain rfl:=e91;obtain⟨t,rfl⟩:=r;have pn:∀ b∈[b₁,b₂,f],∀ o,s.heap.get? b=some o->s'.heap.get? b=some o/\H' b=none:=λb hb o e=>by
  have:=I'.pin (b,o) (fZ _ (fZ _ (uE hb e)));exact⟨this.1,this.2.1⟩
 refine gK L.cod λoc vs tk e r=>?_;obtain⟨p1,p1'⟩:=pn b₁ (by simp) _ g1;obtain⟨p2,p2'⟩:=pn b₂ (by simp) _ g2;obtain⟨p3,p3'⟩:=pn f (by simp) _ L.fn;exact aM t H' ⟨rfl,sm,I'.unpinned,⟨p3,L.fp.same p3',⟨oc,vs,tk,sm _ _ e,r⟩,L.hcl,L.hcl2⟩,p1,p1',p2,p2'⟩
theorem FD (hc:X.calm=true)(hroom:X.A.depth<recursionLimit)(B:bV X sc x fr)(hbd:∀ u pm c' ctv cl,bindArgs (kla_fn "<lambda>" qual params body sc cl pm (.ref c') ctv) ⟨[u],[]⟩=pure [(x,u)])(he:∀ cl f c' s H,PE (nk X (jL x fr) qual sc cl f (.ref c') X.A.in1 s H) body te)(hlI:l≠It)(hSI:S≠It)(hfI:f≠It)(hfS:f≠S)(ht:∀ i v H,xs[i]?=some v->aa H0 H->te (m7 v fr σ) H λy H'=>y=.int (kf i)/\aa H H')(hl0:aj X.K H0 l xs){R:Result->Shared->Prop}(hR:∀ i v u s' H',jH kf xs.length i->xs[i]?=some v->aG v u->aa H0 H'->au X pins σ H' s'->R (.ok (.ret u)) s'):
  ∀ (r j i:Nat) (s:Shared) (H:Hp) (vb:V) (ub:Value) (tb:Tok) (n:Nat),xs.length-(j+1)=r->j+1<=xs.length->aa H0 H->au X pins σ H s->cI X pins sc params body qual P H s f c' cl ctv pm->cm X pins H S->cm X pins H It->
   s.heap.get? S=some (seqObj "list" #[ub,.int (kf i) tb] n)->s.heap.IsListIter It l (j+1)->xs[i]?=some vb->aG vb ub->i<=j->(∀ j',j'<=j->kf i<=kf j'/\(j'<i->kf i<kf j'))->
   codeAny (model X.prog X.w) X.A (.builtin "min.loop" ⟨[.ref It,.ref f,.ref S],Ik⟩) R s:=by
 have hname:(toString "min" ++ toString ".loop" : String)="min.loop" := by decide
 intro r
 induction r with
 | zero=>
  intro j i s H vb ub tb n hr hj sm I L fS fI gS hit hvb rvb hij hbest;have hin:j+1=xs.length:=∅
  refine aQ (I.list (sm.sqL hl0)) λits rv p hz=>?_;have hlen:=rv.length;refine codeAny_builtin Bm ?_;rw[A3 qJ _];show wpAny _ X.A.in1 (seqItems? (.ref S) >>= _) _ _ _;refine bN (wpAny_seqItems gS rfl ?_);show wpAny _ X.A.in1 (tryCatch (pyNext (.ref It)) _ >>= _) _ _ _;refine bN (qD (A6 (A:=X.A.in1) (I.ok.hd hc) hit p.isList (by simp;omega) λh' eb=>?_));have I1:au X pins σ H { s with heap:=h' }:=I.turned (t':=s.toks) (λb o hb e=>eb b o hb e) fI.1 fI.2.1 fI.2.2.2.1 fI.2.2.2.2.1 fI.2.2.2.2.2;have gS':h'.get? S=some (seqObj "list" #[ub,.int (kf i) tb] n):=eb S _ hSI gS;show wpAny _ X.A.in1 (updateSeq S (λ_=>#[]) >>= _) _ _ _;refine bN ?_;refine wpAny_updateSeq gS' rfl (bN (wpAny_letGo (df ?_)));have s1:=AY h' S (Obj.mapSeq λ_=>(#[]:Array Value));have I2:=I1.turned (t':=s.toks) (h':=h'.update S (Obj.mapSeq λ_=>(#[]:Array Value))) (λb o hb e=>(s1.2 b hb).trans e) fS.1 fS.2.1 fS.2.2.2.1 fS.2.2.2.2.1 fS.2.2.2.2.2;exact hR i vb ub _ H ⟨∅,λj' hj'=>hbest j' ∅⟩ hvb rvb sm I2
 | succ r ih=>
  intro j i s H vb ub tb n hr hj sm I L fS fI gS hit hvb rvb hij hbest;have hlt:j+1<xs.length:=∅
  refine aQ (I.list (sm.sqL hl0)) λits rv p hz=>?_;have hlen:=rv.length;have hx:xs[j+1]?=some (xs[j+1]'hlt):=aF hlt;refine ar (rv.get hx) λu hu ru=>?_;refine codeAny_builtin Bm ?_;rw[A3 qJ _];show wpAny _ X.A.in1 (seqItems? (.ref S) >>= _) _ _ _;refine bN (wpAny_seqItems gS rfl ?_);show wpAny _ X.A.in1 (tryCatch (pyNext (.ref It)) _ >>= _) _ _ _;refine bN (qD (Bo (A:=X.A.in1) hit p.isList (x:=u) (by simpa using hu) λh' hit' sb=>?_));have I1:au X pins σ H { s with heap:=h' }:=I.turned (t':=s.toks) (λb o hb e=>(sb.2 b hb).trans e) fI.1 fI.2.1 fI.2.2.2.1 fI.2.2.2.2.1 fI.2.2.2.2.2;have gS':h'.get? S=some (seqObj "list" #[ub,.int (kf i) tb] n):=(sb.2 S hSI).trans gS;refine aQ (id hit') λoI goI hoc hod=>?_;have L1:cI X pins sc params body qual P H { s with heap:=h' } f c' cl ctv pm:=⟨(sb.2 f hfI).trans L.fn,L.fp,L.cod,L.hcl,L.hcl2⟩
  show wpAny _ X.A.in1 (tryCatch (holding [u] (call (.ref f) [u])) _ >>= _) _ _ _;refine bN (qD (qC (iQ (Ca (i:=j+1) hc hroom B hbd he I1 L1 (ht (j+1) _ H hx sm) ru fS gS' (λv z=>by cases z) fI goI (λv z=>by rw[hod] at z;cases z)) (λy s2 hy=>?_) λ_ _ hF=>hF.elim)));refine iE hy λt2 H2 e92 sm2 I2 L2' gS2 e93=>?_;clear hy;obtain rfl:=e92;refine bQ e93 λnS2 gI2 nI2=>?_;clear e93;have hit2:s2.heap.IsListIter It l (j+1+1):=⟨oI,gI2,hoc,hod⟩
  show wpAny _ X.A.in1 (tryCatch (holding [u,.int (kf (j+1)) t2] (richCompare .Lt (.int (kf (j+1)) t2) (.int (kf i) tb) >>= _)) _ >>= _) _ _ _;refine bN (qD (qC (bN (CmpOf.ints_lt (prog:=X.prog) (w:=X.w) (A:=X.A.in1) (P:=λi v=>∃ t,v=.int (kf i) t) kf (λi v h=>h) (j+1) i _ _ _ _ _ ⟨t2,rfl⟩ ⟨tb,rfl⟩ ?_))));refine bN (qC (iV ?_));refine bN (wpAny_letGo (df ?_));by_cases hb':kf (j+1)<kf i
  .have s1:=AY s2.heap S (Obj.mapSeq λ_=>#[u,.int (kf (j+1)) t2]);obtain⟨c2,hc2⟩:∃ c2,(s2.heap.update S (Obj.mapSeq λ_=>#[u,.int (kf (j+1)) t2])).get? S=some (seqObj "list" #[u,.int (kf (j+1)) t2] c2):=⟨_,get?_update_seq gS2 λ_=>#[u,.int (kf (j+1)) t2]⟩
   simp only[hb',decide_true,eZ];refine bN ?_;refine wpAny_updateSeq gS2 rfl (bN (wpAny_letGo ?_));rw[hname];have I3:=I2.turned (t':=s2.toks) (h':=s2.heap.update S (Obj.mapSeq λ_=>#[u,.int (kf (j+1)) t2])) (λb o hb e=>(s1.2 b hb).trans e) nS2 fS.2.1 fS.2.2.2.1 fS.2.2.2.2.1 fS.2.2.2.2.2;have L3:cI X pins sc params body qual P H2 { s2 with heap:=s2.heap.update S (Obj.mapSeq λ_=>#[u,.int (kf (j+1)) t2]) } f c' cl ctv pm:=⟨(s1.2 f hfS).trans L2'.fn,L2'.fp,L2'.cod,L2'.hcl,L2'.hcl2⟩
   refine df ⟨xi qJ _,ih (j+1) (j+1) _ H2 _ u t2 c2 ∅ hlt (sm.trans sm2) I3 L3 (fS.same nS2) (fI.same nI2) hc2 ⟨oI,(s1.2 It hSI.symm).trans gI2,hoc,hod⟩ hx ru (aI _) λj' hj'=>?_⟩;by_cases e:j'=j+1
   .subst e;exact⟨∅,λ_=>∅⟩
   .have hb1:=hbest j' ∅;have hb2:=hb1.1;exact⟨∅,λ_=>∅⟩
  .simp only [hb',decide_false,Bool.false_eq_true,if_false];refine bN (wpAny_letGo ?_);rw[hname];refine df ⟨xi qJ _,ih (j+1) i s2 H2 vb ub tb n ∅ hlt (sm.trans sm2) I2 L2' (fS.same nS2) (fI.same nI2) gS2 hit2 hvb rvb ∅ λj' hj'=>?_⟩;by_cases e:j'=j+1
   .subst e;exact⟨∅,λ_=>∅⟩
   .exact hbest j' ∅
theorem FB (a v d:Value):argsOk "min" ⟨[a],[(Str.ofString "key",v),(Str.ofString "default",d)]⟩:=by unfold argsOk;kernel_rfl
theorem FC {s:Shared}{Q:Value->Shared->Prop}(hc:X.calm=true)(hroom:X.A.depth<recursionLimit)(B:bV X sc x fr)(hbd:∀ u pm c' ctv cl,bindArgs (kla_fn "<lambda>" qual params body sc cl pm (.ref c') ctv) ⟨[u],[]⟩=pure [(x,u)])(he:∀ cl f c' s H,PE (nk X (jL x fr) qual sc cl f (.ref c') X.A.in1 s H) body te)(I:au X pins σ H0 s)(L:cI X pins sc params body qual P H0 s f c' cl ctv pm)(ht:∀ i v H,xs[i]?=some v->aa H0 H->te (m7 v fr σ) H λy H'=>y=.int (kf i)/\aa H H')(hl0:aj X.K H0 l xs)(q0:xs=[]->∀ s' H',aa H0 H'->au X pins σ H' s'->Q .none s')(q1:∀ i v u s' H',jH kf xs.length i->xs[i]?=some v->aG v u->aa H0 H'->au X pins σ H' s'->Q u s'):
  wpAny (model X.prog X.w) X.A (call (.builtin "min") [.ref l] [(Str.ofString "key",.ref f),(Str.ofString "default",.none)]) Q X.xe s:=by
 have hname:(toString "min" ++ toString ".loop" : String)="min.loop" := by decide
 refine aQ (I.list hl0) λits rv p hz=>?_;have hlen:=rv.length;refine ar (id p.isList) λol hol _=>?_;have hll:l<s.heap.objs.size:=bX hol;have hfl:f<s.heap.objs.size:=bX L.fn;refine kmk_tree PySem.F.kind_min PySem.F.plain_min PySem.F.entry_min (FB _ _ _) ?_;show wpAny _ X.A.in1 (Builtin.Builtins.bindParams "min" ["key","default"] 0 ⟨[],[(Str.ofString "key",.ref f),(Str.ofString "default",.none)]⟩ >>= _) _ _ s;refine bN (wpAny_of_eq (show Builtin.Builtins.bindParams "min" ["key","default"] 0 ⟨[],[(Str.ofString "key",.ref f),(Str.ofString "default",.none)]⟩=pure [some (.ref f),some .none] from rfl) ?_);refine bN (df ?_);refine bN (xF p.isList ?_);refine bN (wpAny_newList ?_ (eB _));rw[hname];have hS:(s.heap.push { cls:=.type "list_iterator",data:=.fields #[.ref l,.int 0 0] }).objs.size=s.heap.objs.size+1:=size_push' ..;have gI:((s.heap.push { cls:=.type "list_iterator",data:=.fields #[.ref l,.int 0 0] }).push (seqObj "list" #[] 0)).get? s.heap.objs.size=some { cls:=.type "list_iterator",data:=.fields #[.ref l,.int 0 0] }:=
  dC _ (gA _ rfl)
 have gS:((s.heap.push { cls:=.type "list_iterator",data:=.fields #[.ref l,.int 0 0] }).push (seqObj "list" #[] 0)).get? (s.heap.push { cls:=.type "list_iterator",data:=.fields #[.ref l,.int 0 0] }).objs.size=some (seqObj "list" #[] 0):=gA _ rfl;rw[hS] at gS;have hk:∀ b o,s.heap.get? b=some o->((s.heap.push { cls:=.type "list_iterator",data:=.fields #[.ref l,.int 0 0] }).push (seqObj "list" #[] 0)).get? b=some o:=λb o e=>dC _ (dC _ e);have I0:au X pins σ H0 { s with heap:=(s.heap.push { cls:=.type "list_iterator",data:=.fields #[.ref l,.int 0 0] }).push (seqObj "list" #[] 0) }:=I.kept (t':=s.toks) hk;have fI:cm X pins H0 s.heap.objs.size:=I.fpOk (aI _) (I.hok.fresh (aI _));have fS:cm X pins H0 (s.heap.objs.size+1):=I.fpOk (Nat.le_succ _) (I.hok.fresh (Nat.le_succ _));have L0:cI X pins sc params body qual P H0 { s with heap:=(s.heap.push { cls:=.type "list_iterator",data:=.fields #[.ref l,.int 0 0] }).push (seqObj "list" #[] 0) } f c' cl ctv pm:=⟨hk _ _ L.fn,L.fp,L.cod,L.hcl,L.hcl2⟩
 have hSI:s.heap.objs.size+1≠s.heap.objs.size:=∅
 have p0:PlainL ((s.heap.push { cls:=.type "list_iterator",data:=.fields #[.ref l,.int 0 0] }).push (seqObj "list" #[] 0)) l its.toArray:=by
  refine cE p λo n e r=>?_;clear p;exact aM o n ⟨hk _ _ e,r⟩
 have hit:Heap.IsListIter ((s.heap.push { cls:=.type "list_iterator",data:=.fields #[.ref l,.int 0 0] }).push (seqObj "list" #[] 0)) s.heap.objs.size l 0:=⟨_,gI,rfl,rfl⟩
 refine df ⟨xi qJ _,?_⟩;rw[hS];refine codeAny_builtin Bm ?_;rw[A3 qJ _];show wpAny _ X.A.in1 (seqItems? (.ref _) >>= _) _ _ _;refine bN (wpAny_seqItems gS rfl ?_);show wpAny _ X.A.in1 (tryCatch (pyNext (.ref s.heap.objs.size)) _ >>= _) _ _ _;cases hxs:xs with
 | nil=>
  subst hxs;have e0:its=[]:=List.length_eq_zero_iff.mp (by simpa using hlen.symm);refine bN (qD (A6 (A:=X.A.in1) (I.ok.hd hc) hit p0.isList (by rw[e0];rfl) λh' eb=>?_));have I1:au X pins σ H0 { s with heap:=h' }:=I0.turned (t':=s.toks) (λb o hb e=>eb b o hb e) fI.1 fI.2.1 fI.2.2.2.1 fI.2.2.2.2.1 (λp hp=>fI.2.2.2.2.2 p hp);show wpAny _ X.A.in1 (rule _ >>= _) _ _ _;exact bN (wpAny_rule (df (q0 rfl _ H0 (aa.refl _) I1)))
 | cons v0 r0=>
  have hne:0<xs.length:=by rw[hxs];exact Nat.zero_lt_succ _
  have hx:xs[0]?=some v0:=by rw[hxs];rfl
  rw[<- hxs] at *;refine ar (rv.get hx) λu hu ru=>?_;refine bN (qD (Bo (A:=X.A.in1) hit p0.isList (x:=u) (by simpa using hu) λh' hit' sb=>?_));have I1:au X pins σ H0 { s with heap:=h' }:=I0.turned (t':=s.toks) (λb o hb e=>(sb.2 b hb).trans e) fI.1 fI.2.1 fI.2.2.2.1 fI.2.2.2.2.1 fI.2.2.2.2.2;have gS':h'.get? (s.heap.objs.size+1)=some (seqObj "list" #[] 0):=(sb.2 _ hSI).trans gS;refine aQ (id hit') λoI goI hoc hod=>?_;have L1:cI X pins sc params body qual P H0 { s with heap:=h' } f c' cl ctv pm:=⟨(sb.2 f (d8 hfl)).trans L0.fn,L.fp,L.cod,L.hcl,L.hcl2⟩
  show wpAny _ X.A.in1 (tryCatch (holding [u] (call (.ref f) [u])) _ >>= _) _ _ _;refine bN (qD (qC (iQ (Ca (i:=0) hc hroom B hbd he I1 L1 (ht 0 _ H0 hx (aa.refl _)) ru fS gS' (λv z=>by cases z) fI goI (λv z=>by rw[hod] at z;cases z)) (λy s2 hy=>?_) λ_ _ hF=>hF.elim)));refine iE hy λt2 H2 e94 sm2 I2 L2' gS2 e95=>?_;clear hy;obtain rfl:=e94;refine bQ e95 λnS2 gI2 nI2=>?_;clear e95;have s1:=AY s2.heap (s.heap.objs.size+1) (Obj.mapSeq λ_=>#[u,.int (kf 0) t2]);obtain⟨c2,hc2⟩:∃ c2,(s2.heap.update (s.heap.objs.size+1) (Obj.mapSeq λ_=>#[u,.int (kf 0) t2])).get? (s.heap.objs.size+1)=some (seqObj "list" #[u,.int (kf 0) t2] c2):=⟨_,get?_update_seq gS2 λ_=>#[u,.int (kf 0) t2]⟩
  show wpAny _ X.A.in1 (updateSeq (s.heap.objs.size+1) (λ_=>#[u,.int (kf 0) t2]) >>= _) _ _ _;refine bN ?_;refine wpAny_updateSeq gS2 rfl ?_;rw[hname];have I3:=I2.turned (t':=s2.toks) (h':=s2.heap.update (s.heap.objs.size+1) (Obj.mapSeq λ_=>#[u,.int (kf 0) t2])) (λb o hb e=>(s1.2 b hb).trans e) nS2 fS.2.1 fS.2.2.2.1 fS.2.2.2.2.1 fS.2.2.2.2.2;have hfS:f≠s.heap.objs.size+1:=d8 (nU hfl);have L3:cI X pins sc params body qual P H2 { s2 with heap:=s2.heap.update (s.heap.objs.size+1) (Obj.mapSeq λ_=>#[u,.int (kf 0) t2]) } f c' cl ctv pm:=⟨(s1.2 f hfS).trans L2'.fn,L2'.fp,L2'.cod,L2'.hcl,L2'.hcl2⟩
  refine df ⟨xi qJ _,FD (H0:=H0) hc hroom B hbd he (d8 hll) hSI (d8 hfl) hfS ht hl0 (λi v u s' H' a b c d e=>q1 i v u s' H' a b c d e) _ 0 0 _ H2 v0 u t2 c2 rfl hne sm2 I3 L3 (fS.same nS2) (fI.same nI2) hc2 ⟨oI,(s1.2 _ hSI.symm).trans gI2,hoc,hod⟩ hx ru (aI _) λj' hj'=>?_⟩;have e:j'=0:=∅
  subst e;exact⟨∅,λh=>absurd h (gX _)⟩
end
def tMinL (K:Frag)(P:Addr)(ln co:Int)(q:Str)(fr:List (Str×Nat))(ta te:TE):TE:=λσ H Q=>ta σ H λv H1=>∃ l xs,∃ kf:Nat->Int,v=.ref l/\aj K H1 l xs/\H1 P=some (.tab ln co q) /\
 (∀ i v H,xs[i]?=some v->aa H1 H->te (m7 v fr σ) H λy H'=>y=.int (kf i)/\aa H H')/\(xs=[]->∀ H',aa H1 H'->Q .non H')/\∀ i v H',jH kf xs.length i->xs[i]?=some v->aa H1 H'->Q v H'
section
variable {X:Cx}{sc:Scope}{x:Str}{fr:List (Str×Nat)}{P c:Addr}{params:Arguments}{body e:Expr}{lpos p pos k1 k2 kp:Pos}{ta te:TE}
theorem kK {i0:Nat}(hc:X.calm=true)(hroom:X.A.depth<recursionLimit)(hg:Gl X "min")(hm:X.mg "min" = none)(B:bV X sc x fr)(hcode:X.env.code=.ref c)(C:CodeHd X.base c P)(hdef:defaultsOf params X.env=([],[]))(hbd:∀ u pm c' ctv cl,bindArgs (kla_fn "<lambda>" (X.env.qual ++ "<lambda>") params body sc cl pm (.ref c') ctv) ⟨[u],[]⟩=pure [(x,u)])(ha:PE X e ta)(he:∀ cl f c' s H,PE (nk X (jL x fr) (X.env.qual ++ "<lambda>") sc cl f (.ref c') X.A.in1 s H) body te)(hs:eS e=false:=by rfl):
  PE X (.Call (.Name "min" p) [e] [⟨some "key",.Lambda params body sc lpos,k1⟩,⟨some "default",.Constant .none i0 kp,k2⟩] pos) (tMinL X.K P (lpos.line:Int) (lpos.col:Int) (X.env.qual ++ "<lambda>") fr ta te):=by
 intro pins s σ H Q I h;refine uX (nE I hg hm boot_min ?_ ⇑0 ⇑0);have hst:backTo pos (starEach [e] X.env)=(false,eval e X.env)::backTo pos (starEach [] X.env):=by rw[gq hs];rfl
 refine callWith_kw (id:="min") (e:=e) (rest:=[]) ?_ hst (by rw[hst];rfl) ⇑1 (by rfl);rw[hst];refine Calls.spliced_cons (aN (ha pins s σ H _ I h) λu s1 ⟨v,H1,I1,r1,h1⟩=>?_);refine cD h1 λl xs kf e96 hl hP e97=>?_;clear h1;obtain rfl:=e96;refine bQ e97 λht q0 q1=>?_;clear e97;cases r1;refine Calls.spliced_nil ?_;refine kws_cons (pH I1 B hcode C hP hdef λs2 H2 f c' cl ctv pm I2 sm L=>?_);refine kws_cons (Constant_none (kws_nil ?_));show wpAny _ _ (call (.builtin "min") [.ref l] [(Str.ofString "key",.ref f),(Str.ofString "default",.none)]) _ _ s2;refine FC (kf:=kf) hc hroom B hbd he I2 L (λi v H hi sm2=>ht i v H hi (sm.trans sm2)) (sm.sqL hl) (λe0 s' H' sm2 I'=>?_) λi v u s' H' hmn hi ru sm2 I'=>?_
 .exact aM .non H' ⟨I',rfl,q0 e0 H' (sm.trans sm2)⟩
 .exact aM v H' ⟨I',ru,q1 i v H' hmn hi (sm.trans sm2)⟩
end
abbrev gr:=List (Addr×Int×Int×Str)
def tW (tb:gr)(H:Hp):Prop:=∀ b t,tb.lookup b=some t->H b=some (.tab t.1 t.2.1 t.2.2)
def hp0 (K:Frag)(tb:gr)(a:Addr)(oa:Obj)(xs:List V):Hp:=λb=>if b=a then (if (K.lookup a).isSome=true then none else some (.frz oa (.lst xs))) else (tb.lookup b).map λt=>.tab t.1 t.2.1 t.2.2
theorem GZ {P:Program}{w:World}{K:Frag}{mg mb:Str->Option Value}{CX:gY}{k:Nat}{fa a:Addr}{fd:FuncData}{x:Str}{sp:Sp}{s₁:Shared}{vs:List Value}{ns:List Int}{tb:gr}(KX:K.In s₁.heap)(hns:s₁.heap.Ns mainGlobals mg)(hb:s₁.heap.Ns builtinsNs mb)(hbb:∀ x:Str,x ≠ "__name__" -> mb x=bootBuiltins x)(hlim:s₁.heap.NoLimit)(hseer:s₁.heap.NoSeer)(hbm:∃ bm ob,mg "__builtins__" = some (.ref bm)/\bm≠builtinsNs/\s₁.heap.get? bm=some ob/\ob.cls=.type "module" /\ ob.dict=some builtinsNs/\ob.data=.plain)(hg:s₁.gens=#[])(htb:∀ b t,tb.lookup b=some t->s₁.heap.get? b=some (tabObj #[])/\K.lookup b=none/\isCodeTable s₁.heap b)(ha:s₁.heap.get? a=some { cls:=.type "list",data:=.seq vs.toArray })(hi:IntsAre vs ns)(hl:ns.length<=sizeLine)(hr:aX k callerA)(F:∀ base:Heap,K.In base->base.Ns mainGlobals mg->ax P w K mg base CX k fa fd [x] sp)(hbind:∀ (s:Shared) (u:Value),BindsTo s fd ⟨[u],[]⟩ [(x,u)])(hsp:∀ H:Hp,aj K H a (ns.map V.int)->tW tb H->sp [.ref a] H (λv H'=>v=.bl true/\tW tb H') λ_ _ _=>False)(hCX:∀ H e s',CX [] H s₁ (λ_ _ _=>False) e s'->False):
  codeAny (model P w) callerA (.call (.ref fa) ⟨[.ref a],[]⟩) (λr s'=>r=.ok (.ret (.bool true))/\OldK s₁.heap s'.heap/\s'.os=s₁.os/\AllBare s'.gens) s₁:=by
 have rv:=DY hi;have lenV:=hi.length;generalize hH:hp0 K tb a { cls:=.type "list",data:=.seq vs.toArray } (ns.map V.int)=H;have tne:∀ b t,tb.lookup b=some t->b≠a:=λb t e z=>by
  have:=(htb b t e).1;rw[z,ha] at this;cases this
 have hT:tW tb H:=λb t e=>by
  rw[<- hH];unfold hp0;rw[if_neg (tne b t e),e];rfl
 have cases3:∀ b,H b=none\/(b=a/\K.lookup a=none/\H b=some (.frz { cls:=.type "list",data:=.seq vs.toArray } (.lst (ns.map V.int))))\/∃ t,tb.lookup b=some t/\H b=some (.tab t.1 t.2.1 t.2.2):=λb=>by
  rw[<- hH];unfold hp0;by_cases hba:b=a
  .rw [if_pos hba];cases hk:K.lookup a with
   | none=>exact .inr (.inl ⟨hba,rfl,rfl⟩)
   | some o=>exact .inl rfl
  .rw [if_neg hba];cases ht:tb.lookup b with
   | none=>exact .inl rfl
   | some t=>exact .inr (.inr ⟨t,rfl,rfl⟩)
 have free:∀ {b:Addr} {o:Obj},s₁.heap.get? b=some o->(∀ xs n,o.data≠.seq xs n)->(∀ xs,o.data≠.fields xs)->H b=none:=λ{b o} e d1 d2=>by
  rcases cases3 b with h|⟨rfl,_,_⟩|⟨t,h,_⟩
  .exact h
  .rw [ha] at e;cases e;exact absurd rfl (d1 _ _)
  .rw [(htb b t h).1] at e;cases e;exact absurd rfl (d2 _)
 have base_of:∀ {b:Addr} {o:Obj},s₁.heap.get? b=some o->H b=none->(jK s₁.heap H).get? b=some o:=λe n=>Fx e n;have nsK:∀ {b:Addr} {m:Str->Option Value},s₁.heap.Ns b m->(jK s₁.heap H).Ns b m:=λ{b m} ⟨o,es,ep,e,d,r⟩=>⟨o,es,ep,base_of e (free e (λxs n z=>by rw[d] at z;cases z) λxs z=>by rw[d] at z;cases z),d,r⟩
 have hKb:K.In (jK s₁.heap H):=λb o e=>base_of (KX b o e) (by
  rcases cases3 b with h|⟨rfl,h,_⟩|⟨t,h,_⟩
  .exact h
  .rw [h] at e;cases e
  .rw [(htb b t h).2.1] at e;cases e)
 have seerB:(jK s₁.heap H).NoSeer:=⟨let ⟨mc,x,y⟩:=hseer.statics;⟨mc,nsK x,y⟩,let ⟨mc,x,y⟩:=hseer.mods;⟨mc,nsK x,y⟩,let ⟨mc,x,y⟩:=hseer.imp;⟨mc,nsK x,y⟩,let ⟨mg',bm,ob,x,y,z,u,v⟩:=hseer.main;⟨mg',bm,ob,nsK x,y,base_of z (by
   rcases cases3 bm with h|⟨rfl,_,_⟩|⟨t,h,_⟩
   .exact h
   .rw [ha] at z;cases z;have u':Value.type "list" = Value.type "module" := u
    injection u' with u'
    exact absurd u' ⇑0
   .rw [(htb bm t h).1] at z;cases z;cases u),u,v⟩⟩
 have hM:xg K mg (jK s₁.heap H):=⟨hKb,nsK hns,⟨mb,nsK hb,hbb⟩,let ⟨mc,h1,h2⟩:=hlim;⟨mc,nsK h1,h2⟩,seerB,let ⟨bm,ob,x1,x2,x3,x4,x5,x6⟩:=hbm;⟨bm,ob,x1,x2,base_of x3 (free x3 (λxs n z=>by rw[x6] at z;cases z) λxs z=>by rw[x6] at z;cases z),x4,x5,x6⟩⟩
 have hS:aj K H a (ns.map V.int):=by
  rcases hk:K.lookup a with _|o
  .refine .inl (.inr ⟨{ cls:=.type "list",data:=.seq vs.toArray },?_⟩);rw[<- hH];unfold hp0;rw[if_pos rfl,hk];rfl
  .have e:=KX a o hk;rw[ha] at e;cases e;exact .inr ⟨_,vs.toArray,_,hk,rfl,rfl,rfl,by rw[dh,lenV];exact hl,by simpa using rv⟩
 have hok:dQ P w H s₁.heap:=λb u e=>by
  rcases cases3 b with h|⟨rfl,_,h⟩|⟨t,h0,h⟩
  .rw [h] at e;cases e
  .rw [h] at e;cases e;exact⟨ha,by rw[aA];exact hl,vs,_,rv,ha⟩
  .rw [h] at e;cases e;exact .inl (htb b t h0).1
 have e0:gb P w K mg (jK s₁.heap H) callerA [] s₁ H:=⟨rfl,hM,λb o e=>lE e,Nat.le_of_eq (GT _ _),trivial,λb hb=>absurd (show b∈([]:List Addr) from hb) (by simp),hok,.of_eq hg⟩
 refine codeAny_mono ((F _ hKb (nsK hns)).run callerA [] s₁ H ⟨[.ref a],[]⟩ [.ref a] [.ref a] _ _ hr e0 (hbind s₁ (.ref a)) (.cons rfl .nil) (hsp H hS hT)) λr s' h=>?_;cases r with
 | error e=>exact (hCX H e s' h).elim
 | ok fl=>
  cases fl with
  | next=>exact False.elim h
  | brk=>exact False.elim h
  | cont=>exact False.elim h
  | ret u=>
   refine iE h λv H' os bare un hok' r' q=>?_;clear h;obtain⟨q',hT'⟩:=q;subst q';obtain rfl:u=Value.bool true:=r';have noF:∀ b:Addr,b∉frs ([]:List Env):=λb z=>absurd (show b∈([]:List Addr) from z) (by simp);refine⟨rfl,⟨λb o e=>?_,λb o e=>un.there b o e (by simp)⟩,os,bare⟩;rcases cases3 b with h|⟨rfl,_,h⟩|⟨t,h0,h⟩
   .exact .inl (un.keep b o e h (noF b) (by simp))
   .have z2:=un.frzs _ _ _ h;obtain⟨e1,_⟩:=hok _ _ h;obtain⟨e2,_⟩:=hok' _ _ z2;rw[e] at e1;cases e1;exact .inl e2
   .rw [(htb b t h0).1] at e;cases e;rcases hok' b _ (hT' b t h0) with e2|⟨c',oc,ws,tk,e2,_⟩
    .exact .inl e2
    .exact .inr (.inl ⟨(htb b t h0).2.2,rfl,#[],_,rfl,by rw[e2,Array.empty_append]⟩)
theorem GO {l:PySem.W.OpenLaw}{n k:Nat}{q:Program}{loose:List Str}{XP:(Str->Option Value)->Heap->Prop}{YP:World->Heap->Prop}{d:DefRec}{K:Params->Frag}{CX:World->gY}{sp:World->Sp}{x:Str}{tb:gr}(hq:importsNone q=true)(hn:l.most=some n)(hn2:n<=sizeLine)(hdf:d.params.defaults=[])(hr:aX k callerA)(hY:∀ (w:World) (h:Heap),YP w h->(K w.params).In h)(htb:∀ (w:World) (h:Heap),YP w h->∀ b t,tb.lookup b=some t->h.get? b=some (tabObj #[])/\(K w.params).lookup b=none/\isCodeTable h b)(F:∀ (w:World) (mg:Str->Option Value) (fa:Addr) (h:Heap),(K w.params).In h->h.Ns mainGlobals mg->mg d.name=some (.ref fa)->
   ∃ fd:FuncData,(∀ (s:Shared) (u:Value),BindsTo s fd ⟨[u],[]⟩ [(x,u)]) /\
    ∀ base:Heap,(K w.params).In base->base.Ns mainGlobals mg->ax l.prog w (K w.params) mg base (CX w) k fa fd [x] (sp w))(hsp:∀ (w:World) (H:Hp) (a:Addr) (ns:List Int),ns.length<=n->aj (K w.params) H a (ns.map V.int)->tW tb H->sp w [.ref a] H (λv H'=>v=.bl true/\tW tb H') λ_ _ _=>False)(hCX:∀ (w:World) (H:Hp) (s:Shared) (e:Value) (s':Shared),CX w [] H s (λ_ _ _=>False) e s'->False):
  PySem.W.WalkO q loose XP YP l.row.toRowW d [] (λf vs=>PySem.call f vs):=by
 refine Att.m5 hn hdf λw s₀ s₁ mg mb fa o pm cd doc a vs ns G Y ho hd hcd hmg hobj hints hlen hg=>?_;have KX:=hY w _ Y;refine ar (F w mg fa _ KX G.T.g hmg) λfd hb hF=>?_;exact GZ KX G.T.g G.T.b G.T.builtins G.T.nolimit (G.T.seer hq) G.T.bmain hg (htb w _ Y) hobj hints (cx hlen hn2) hr hF hb (λH hS hT=>hsp w H a ns hlen hS hT) λH e s'=>hCX w H s₁ e s'
def lamOk (outer:List (Str×NameKind))(N:List Str)(sc:Scope)(x:Str)(fr:List (Str×Nat)):Bool:=
 sc.kind == .function && !sc.isCoroutine && !sc.isGenerator && sc.names.all (λy=>y.2 != .cell) && sc.names.lookup x == some .local &&
 sc.names.all (λy=>y.2 != .free || outer.lookup y.1 == some .cell || outer.lookup y.1 == some .free) &&
 fr.all λy=>sc.names.lookup y.1 == some .free && N[y.2]? == some y.1
theorem pM {X:Cx}{sc:Scope}{x:Str}{fr:List (Str×Nat)}(h:lamOk X.env.scope.names X.N sc x fr=true):bV X sc x fr:=by
 unfold lamOk at h;simp only[nR,iT] at h;obtain⟨⟨⟨⟨⟨⟨h1,h2⟩,h3⟩,h4⟩,h5⟩,h6⟩,h7⟩:=h;refine⟨?_,?_,?_,λy hy z=>?_,dY.mp h5,λy hy hf=>?_,λy hy=>?_⟩
 .cases e:sc.kind <;> rw[e] at h1 <;> first|rfl|(exact absurd h1 ⇑0)
 .simpa using h2
 .simpa using h3
 .have:=h4 y hy;rw[z] at this;exact absurd this ⇑0
 .have:=h6 y hy;rw[hf] at this;simp only[si,dY] at this;rcases this with (q|q)|q
  .exact absurd q ⇑0
  .exact .inl q
  .exact .inr q
 .have:=h7 y hy;exact⟨dY.mp this.1,dY.mp this.2⟩
structure iZ (K:Frag)(x qual:Str)(st:Stmt)(f:Addr)(fd:FuncData)(c:Addr):Prop where
 ex:∃ (oc:Value) (od:Option Addr) (kV doc pm:Value) (an:Option Addr) (ct:Value) (osl:Array (Option Value)),
  fd=PySem.W.fnOf x qual (iL st) (gn st) (aR st) .none kV doc pm an (.ref c) ct/\K.lookup f=some ⟨oc,od,.func fd,osl⟩/\PySem.W.codeIn K (.ref c) qual=true
section
theorem iZ.ok {x qual:Str}{st:Stmt}{f c:Addr}{fd:FuncData}{N ps:List Str}{k:Nat}{sp:L2.Sp}(F:iZ K x qual st f fd c)(S:ag N ps (aR st))(len:∀ vs H Q E,sp vs H Q E->vs.length=ps.length)(hbody:∀ (A:Around) (outer:List Env) (s:Shared) (H:Hp) (vs:List V) (Q:VK) (E:XK),aX k (A.deeper (envOfC qual (aR st) s.heap.objs.size f (.ref c)))->sp vs H Q E->
   ∃ t,gT (mh aW P w K mg base N qual (aR st) f (.ref c) A outer s H E).nox (gn st) t/\t { nx:=λ_ H'=>Q .non H',rt:=Q } (start N vs) H):ax P w K mg base aW (k+1) f fd ps sp:=by
 refine mT F.ex λoc od kV doc pm an ct osl e98 lk hcd=>?_;obtain rfl:=e98;refine jq lk hcd S len λA outer s H vs Q E hr hsp=>?_;refine ar (hbody A outer s H vs Q E hr hsp) λt h q=>?_;exact⟨t,h.nox,q⟩
theorem iZ.binds {x qual:Str}{st:Stmt}{f c:Addr}{fd:FuncData}{ps:List Str}(F:iZ K x qual st f fd c)(h:∀ (kV doc pm:Value) (an:Option Addr) (cdv ct:Value) (us:List Value),us.length=ps.length->bindArgs (PySem.W.fnOf x qual (iL st) (gn st) (aR st) .none kV doc pm an cdv ct) ⟨us,[]⟩=pure (ps.zip us)):bL K fd ps []:=by
 refine mT F.ex λoc od kV doc pm an ct osl e99 lk hcd=>?_;obtain rfl:=e99;exact .all (h kV doc pm an (.ref c) ct)
end
end L2
namespace L2
open PySem PySem.Spec PyProof.Rows PySem.W
def hdIn (K:Frag)(c P:Addr):Bool:=
 match List.lookup c K with
 | some ⟨.type t,_,.fields (vs:Array Value),_⟩=>t == "code" && (match (vs[11]?:Option Value) with|some (Value.ref q)=>q == P|_=>false) && (match vs.getD 11 .none with | .ref q=>q == P|_=>false) && (match vs.getD 18 .none with | .str _ _=>true|_=>false) && (match vs.getD 7 .none with | .int _ _=>true|_=>false) && (match vs.getD 9 .none with | .bool _=>true|_=>false) && (match vs.getD 10 .none with | .int _ _=>true|_=>false) && c != P
 | _=>false
theorem mZ {K:Frag}{h:Heap}{c P:Addr}(X:K.In h)(e:hdIn K c P=true):PySem.W.CodeHd h c P:=by
 unfold hdIn at e;split at e
 .rename_i t d vs sl hl
  simp only[nR] at e;obtain⟨⟨⟨⟨⟨⟨⟨e1,e2⟩,e3⟩,e4⟩,e5⟩,e6⟩,e7⟩,e8⟩:=e;have e1:=eq_of_beq e1;subst e1;have h2:vs[11]?=some (.ref P):=by
   split at e2
   .rename_i q hq
    rw[hq,eq_of_beq e2]
   .cases e2
  have h3:vs.getD 11 .none=.ref P:=by
   split at e3
   .rename_i q hq
    rw[hq,eq_of_beq e3]
   .cases e3
  have h4:∃ f t,vs.getD 18 .none=.str f t:=by
   split at e4
   .rename_i f t hq
    exact⟨f,t,hq⟩
   .cases e4
  have h5:∃ f t,vs.getD 7 .none=.int f t:=by
   split at e5
   .rename_i f t hq
    exact⟨f,t,hq⟩
   .cases e5
  have h6:∃ f,vs.getD 9 .none=.bool f:=by
   split at e6
   .rename_i f hq
    exact⟨f,hq⟩
   .cases e6
  have h7:∃ f t,vs.getD 10 .none=.int f t:=by
   split at e7
   .rename_i f t hq
    exact⟨f,t,hq⟩
   .cases e7
  obtain⟨f1,t1,h4⟩:=h4;obtain⟨f2,t2,h5⟩:=h5;obtain⟨f3,h6⟩:=h6;obtain⟨f4,t4,h7⟩:=h7;exact⟨_,vs,f1,t1,f2,t2,f3,f4,t4,X c _ hl,rfl,rfl,h2,h3,h4,h5,h6,h7,by simpa using e8⟩
 .cases e
theorem GN {l:PySem.W.OpenLaw}{n k:Nat}{q:Program}{loose:List Str}{XP:(Str->Option Value)->Heap->Prop}{YP:World->Heap->Prop}{d:DefRec}{K:Params->Frag}{sp:World->Sp}{x:Str}(cL PL:Addr)(ln co:Int)(qu:Str)(hq:importsNone q=true)(hn:l.most=some n)(hn2:n<=sizeLine)(hdf:d.params.defaults=[])(hr:aX k callerA)(hY:∀ (w:World) (h:Heap),YP w h->(K w.params).In h)(hP:∀ (w:World) (h:Heap),YP w h->h.get? PL=some (PySem.W.tabObj #[]))(hN:∀ p,(K p).lookup PL=none)(hC:∀ p,hdIn (K p) cL PL=true)(F:∀ (w:World) (mg:Str->Option Value) (fa:Addr) (h:Heap),(K w.params).In h->h.Ns mainGlobals mg->mg d.name=some (.ref fa)->
   ∃ fd:FuncData,(∀ (s:Shared) (u:Value),BindsTo s fd ⟨[u],[]⟩ [(x,u)]) /\
    ∀ base:Heap,(K w.params).In base->base.Ns mainGlobals mg->ax l.prog w (K w.params) mg base aW k fa fd [x] (sp w))(hsp:∀ (w:World) (H:Hp) (a:Addr) (ns:List Int) (Q:VK) (E:XK),ns.length<=n->aj (K w.params) H a (ns.map V.int)->H PL=some (.tab ln co qu)->(∀ H',H' PL=some (.tab ln co qu)->Q (.bl true) H')->sp w [.ref a] H Q E):
  PySem.W.WalkO q loose XP YP l.row.toRowW d [] (λf vs=>PySem.call f vs):=by
 have one:∀ b t,([(PL,ln,co,qu)]:gr).lookup b=some t->b=PL/\t=(ln,co,qu):=λb t e=>by
  rw[eP] at e;split at e
  .rename_i hb
   cases e;exact⟨eq_of_beq hb,rfl⟩
  .cases e
 have two:([(PL,ln,co,qu)]:gr).lookup PL=some (ln,co,qu):=by rw[eP];simp
 refine GO (l:=l) (n:=n) (k:=k) (K:=K) (CX:=λ_=>aW) (sp:=sp) (x:=x) (tb:=[(PL,ln,co,qu)]) hq hn hn2 hdf hr hY (λw h Y b t e=>?_) F (λw H a ns hl hS hT=>?_) (λ_ _ _ _ _ h=>h)
 .obtain ⟨rfl,_⟩:=one b t e;have g:=hP w h Y;exact⟨g,hN _,((mZ (hY w h Y) (hC _)).tab g).isCodeTable⟩
 .refine hsp w H a ns _ _ hl hS (hT PL _ two) λH' h'=>⟨rfl,λb t e=>?_⟩
  obtain⟨rfl,rfl⟩:=one b t e;exact h'
end L2
namespace L2
open PySem PySem.Spec PyProof.Rows
abbrev two (elt t1 i1 t2 i2:Expr)(scope:Scope)(pos:Pos):Expr:=.ListComp elt [⟨t1,i1,[],0⟩,⟨t2,i2,[],0⟩] scope pos
section
variable {prog:Program}{w:World}{A:Around}{R:Result->Shared->Prop}{s:Shared}{elt t1 i1 t2 i2:Expr}{scope:Scope}{pos:Pos}{it acc:Value}{env:Env}
end
section
variable {X:Cx}{tg iter t2 i2 elt:Expr}{scope:Scope}{pos:Pos}{own:List Str}{fr:List (Str×Nat)}{wi wi2:TI}{g g2:TG}{te:TE}
end
end L2
namespace L3
open L2
open Lean.Grind
def Zp (n:Nat):Type:=Fin n
instance {n:Nat}[NeZero n]:CommRing (Zp n):=inferInstanceAs (CommRing (Fin n))
class PrimeN (n:Nat):Prop where
 gt:1<n
 inv:∀ r:Nat,0<r->r<n->∃ k,k<n/\k*r % n=1
instance {n:Nat}[h:PrimeN n]:NeZero n:=⟨by have:=h.gt;omega⟩
section
variable {n:Nat}[hn:PrimeN n]
theorem BP (a:Zp n)(h:a≠0):∃ b:Zp n,a*b=1:=by
 have h0:0<(show Fin n from a).val:=by
  rcases Nat.eq_zero_or_pos (show Fin n from a).val with z|z
  .exact absurd (show a=0 from Fin.ext (by rw[z];rfl)) h
  .exact z
 refine ar (hn.inv _ h0 (show Fin n from a).isLt) λk hk e=>?_;refine⟨(⟨k,hk⟩:Fin n),?_⟩;apply Fin.ext;show ((show Fin n from a).val*k) % n=1 % n;rw[r9,e,uV hn.gt]
open Classical in
noncomputable def zinv (a:Zp n):Zp n:=if h:a≠0 then Classical.choose (BP a h) else 0
theorem wK {a:Zp n}(h:a≠0):a*zinv a=1:=by
 unfold zinv;rw[dif_pos h];exact A4 (BP a h)
theorem zH:zinv (0:Zp n)=0:=by
 unfold zinv;rw[dif_neg (by simp)]
theorem zI:(0:Zp n)≠1:=λz=>by
 have:=ig (λx:Fin n=>x.val) z;have h1:(0:Nat) % n=1 % n:=this;rw[Nat.zero_mod,uV hn.gt] at h1;omega
theorem CM {a b c:Zp n}(h1:a*b=1)(h2:a*c=1):b=c:=by
 have:b=b*(a*c):=by rw[h2];grind
 rw[this]
 grind
theorem Hl (a:Zp n):zinv (zinv a)=a:=by
 by_cases h:a=0
 .rw [h,zH,zH]
 .have h1:=wK h;have h2:zinv a≠0:=λz=>by
   rw[z] at h1;exact zI (by rw[<- h1];grind)
  exact CM (wK h2) (by rw[<- h1];grind)
theorem Gx:zinv (1:Zp n)=1:=CM (wK (λz=>zI z.symm)) (by grind)
noncomputable instance:Inv (Zp n):=⟨zinv⟩
noncomputable instance:Div (Zp n):=⟨λa b=>a*zinv b⟩
noncomputable def zpw (a:Zp n):Int->Zp n
 | .ofNat k=>a ^ k
 | .negSucc k=>zinv (a ^ (k+1))
noncomputable instance:HPow (Zp n) Int (Zp n):=⟨zpw⟩
noncomputable instance:Field (Zp n) where
 div_eq_mul_inv:=λa b=>rfl
 zero_ne_one:=zI
 inv_zero:=zH
 mul_inv_cancel:=λh=>wK h
 zpow_zero:=λa=>Semiring.pow_zero a
 zpow_succ:=λa k=>Semiring.pow_succ a k
 zpow_neg:=λa k=>by
  match k with
  | .ofNat 0=>exact (show a ^ (0:Nat)=zinv (a ^ (0:Nat)) by rw[Semiring.pow_zero,Gx])
  | .ofNat (m+1)=>rfl
  | .negSucc m=>exact (Hl (a ^ (m+1))).symm
end
section
variable {F:Type}[Field F]
def ic (z:Int):F:=(Ring.intCast:IntCast F).intCast z
theorem vS (x y:Int):(ic (x+y):F)=ic x+ic y:=Ring.intCast_add x y
theorem tY (x y:Int):(ic (x-y):F)=ic x-ic y:=Ring.intCast_sub x y
theorem d7 (x y:Int):(ic (x*y):F)=ic x*ic y:=Ring.intCast_mul x y
theorem vT (x:Int):(ic (-x):F)=-ic x:=Ring.intCast_neg x
theorem rq:(ic 0:F)=0:=Ring.intCast_zero
theorem gL:(ic 1:F)=1:=Ring.intCast_one
end
def Rz (p z:Int):Prop:=p=0\/(0<=z/\z<p)
structure aO (p:Int)(F:Type)[Field F]:Prop where
 z0:∀ z:Int,Rz p z->(ic z:F)=0->z=0
 md:p≠0->(ic p:F)=0
theorem wb:aO 0 Rat:=⟨λz _ h=>by
 have h2:(z:Rat)=((0:Int):Rat):=h;exact Rat.intCast_inj.mp h2,λh=>absurd rfl h⟩
theorem BQ {n:Nat}[PrimeN n](k:Nat):(show Fin n from (ic ((k:Nat):Int):Zp n)).val=k % n:=by
 have:(ic ((k:Nat):Int):Zp n)=(Semiring.natCast:NatCast (Zp n)).natCast k:=Ring.intCast_natCast k;rw[this];rfl
theorem FS {n:Nat}[hn:PrimeN n]:aO n (Zp n):=by
 refine⟨λz hz h=>?_,λ_=>?_⟩
 .have hz:0<=z/\z<n:=hz.resolve_left (by have:=hn.gt;omega);obtain⟨k,rfl⟩:=Bp hz.1;have h2:=BQ (n:=n) k;rw[h,uV ∅] at h2;have h3:0 % n=k:=h2;rw[Nat.zero_mod] at h3;rw[<- h3];rfl
 .apply Fin.ext;have h2:=BQ (n:=n) n;rw[Nat.mod_self] at h2;refine h2.trans ?_;show 0=0 % n;rw[Nat.zero_mod]
def nm {F:Type}[Field F](x:Int×Int):F:=ic x.1 / ic x.2
section
variable {p:Int}{F:Type}[Field F]
theorem DT {a b c:F}(h:b≠0)(e:c*b=a):a / b=c:=by grind
theorem aO.modF (hF:aO p F)(hp:p≠0)(z:Int):(ic (z % p):F)=ic z:=by
 have e:z=z % p+p*(z / p):=(A5 z p).symm;have e2:(ic z:F)=ic (z % p)+ic p*ic (z / p):=by
  rw[<- d7,<- vS,<- e]
 rw[e2,hF.md hp]
 grind
theorem aO.ne0 (hF:aO p F){z:Int}(hz:Rz p z)(h:z≠0):(ic z:F)≠0:=λe=>h (hF.z0 z hz e)
theorem aO.bot (hF:aO p F){x:Int×Int}(h:aZ p x):(ic x.2:F)≠0:=by
 rcases h with ⟨hp,h1,_⟩|⟨_,_,_,h1⟩
 .exact hF.ne0 (.inl hp) ∅
 .rw [h1,gL];exact λz=>Field.zero_ne_one (α:=F) z.symm
theorem aO.nrmF (hF:aO p F)(hp:p=0){a b:Int}(hb:0<b):(nm (nrm a b):F)=ic a / ic b:=by
 have g0:(ic ((Int.gcd a b:Nat):Int):F)≠0:=hF.ne0 (.inl hp) (by have:=qv (a:=a) hb;omega);have b0:(ic b:F)≠0:=hF.ne0 (.inl hp) ∅;have e1:(ic (nrm a b).1:F)*ic ((Int.gcd a b:Nat):Int)=ic a:=by rw[<- d7,Cv]
 have e2:(ic (nrm a b).2:F)*ic ((Int.gcd a b:Nat):Int)=ic b:=by rw[<- d7,yW]
 have c0:(ic (nrm a b).2:F)≠0:=λz=>b0 (by rw[<- e2,z];grind);unfold nm;rw[<- e1,<- e2];generalize (ic (nrm a b).1:F)=x at *;generalize (ic (nrm a b).2:F)=y at *;generalize (ic ((Int.gcd a b:Nat):Int):F)=g at *;exact DT c0 (by grind)
theorem aO.one (hF:aO p F)(z:Int):(nm (z,1):F)=ic z:=by
 unfold nm;rw[gL];exact DT (λz=>Field.zero_ne_one (α:=F) z.symm) (by grind)
theorem aO.plus (hF:aO p F){x y:Int×Int}(hx:aZ p x)(hy:aZ p y):(nm (fk p x y):F)=nm x+nm y:=by
 have bx:=hF.bot hx;have by':=hF.bot hy
 unfold fk;split
 .rename_i hp
  rw[hF.nrmF hp (j6 hx.pos hy.pos),vS,d7,d7,d7];unfold nm
  grind
 .rename_i hp
  rw[hF.one,hF.modF hp,vS];rcases hx with ⟨z,_⟩|⟨_,_,_,h1⟩
  .exact absurd z hp
  .rcases hy with ⟨z,_⟩|⟨_,_,_,h2⟩
   .exact absurd z hp
   .unfold nm;rw[h1,h2,gL]
    grind
theorem aO.minus (hF:aO p F){x y:Int×Int}(hx:aZ p x)(hy:aZ p y):(nm (iI p x y):F)=nm x-nm y:=by
 have bx:=hF.bot hx;have by':=hF.bot hy
 unfold iI;split
 .rename_i hp
  rw[hF.nrmF hp (j6 hx.pos hy.pos),tY,d7,d7,d7];unfold nm
  grind
 .rename_i hp
  rw[hF.one,hF.modF hp,tY];rcases hx with ⟨z,_⟩|⟨_,_,_,h1⟩
  .exact absurd z hp
  .rcases hy with ⟨z,_⟩|⟨_,_,_,h2⟩
   .exact absurd z hp
   .unfold nm;rw[h1,h2,gL]
    grind
theorem aO.times (hF:aO p F){x y:Int×Int}(hx:aZ p x)(hy:aZ p y):(nm (dN p x y):F)=nm x*nm y:=by
 have bx:=hF.bot hx;have by':=hF.bot hy
 unfold dN;split
 .rename_i hp
  rw[hF.nrmF hp (j6 hx.pos hy.pos),d7,d7];unfold nm
  grind
 .rename_i hp
  rw[hF.one,hF.modF hp,d7];rcases hx with ⟨z,_⟩|⟨_,_,_,h1⟩
  .exact absurd z hp
  .rcases hy with ⟨z,_⟩|⟨_,_,_,h2⟩
   .exact absurd z hp
   .unfold nm;rw[h1,h2,gL]
    grind
theorem aO.intF (hF:aO p F)(k:Int):(nm (dj p k):F)=ic k:=by
 unfold dj;split
 .exact hF.one k
 .rename_i hp
  rw[hF.one,hF.modF hp]
theorem aO.inj (hF:aO p F){x y:Int×Int}(hx:aZ p x)(hy:aZ p y)(e:(nm x:F)=nm y):x=y:=by
 have bx:=hF.bot hx;have by':=hF.bot hy
 have e2:(ic x.1:F)*ic y.2=ic y.1*ic x.2:=by unfold nm at e;grind
 rw[<- d7,<- d7] at e2;have e3:(ic (x.1*y.2-y.1*x.2):F)=0:=by rw[tY,e2];grind
 by_cases hp:p=0
 .have h:=hF.z0 _ (.inl hp) e3;rcases hx with ⟨_,lx⟩|⟨z,_⟩
  .rcases hy with ⟨_,ly⟩|⟨z,_⟩
   .exact Hv lx ly ∅
   .omega
  .omega
 .rcases hx with ⟨z,_⟩|⟨pp,x0,x1,h1⟩
  .exact absurd z hp
  .rcases hy with ⟨z,_⟩|⟨_,y0,y1,h2⟩
   .exact absurd z hp
   .rw [h1,h2,Int.mul_one,Int.mul_one] at e3;rw[<- hF.modF hp] at e3;have h:=hF.z0 _ (.inr ⟨gv _ hp,fY _ pp⟩) e3;have h3:x.1=y.1:=by
     have:=Int.emod_emod_of_dvd (x.1-y.1) (Int.dvd_refl p);by_cases q:y.1<=x.1
     .rw [mL ∅ ∅] at h;omega
     .have h4:(x.1-y.1+p) % p=0:=by rw[Int.add_emod_right];exact h
      rw[mL ∅ ∅] at h4;omega
    exact Prod.ext h3 (by rw[h1,h2])
end
end L3
namespace L3
open Lean.Grind
section
variable {F:Type}[Field F]
def sm:Nat->(Nat->F)->F
 | 0,_=>0
 | n+1,f=>sm n f+f n
theorem bF:∀ {n:Nat} {f g:Nat->F},(∀ i,i<n->f i=g i)->sm n f=sm n g
 | 0,_,_,_=>rfl
 | n+1,f,g,h=>by
  show sm n f+f n=sm n g+g n;rw[bF (n:=n) λi hi=>h i (qX hi),h n ∅]
theorem hO:∀ n:Nat,sm n (λ_=>(0:F))=0
 | 0=>rfl
 | n+1=>by
  show sm n (λ_=>(0:F))+0=0;rw[hO n]
  grind
theorem jR:∀ (n:Nat) (f g:Nat->F),sm n (λi=>f i+g i)=sm n f+sm n g
 | 0,_,_=>by show (0:F)=0+0;grind
 | n+1,f,g=>by
  show sm n (λi=>f i+g i)+(f n+g n)=(sm n f+f n)+(sm n g+g n);rw[jR n]
  grind
theorem fT (a:F):∀ (n:Nat) (f:Nat->F),sm n (λi=>a*f i)=a*sm n f
 | 0,_=>by show (0:F)=a*0;grind
 | n+1,f=>by
  show sm n (λi=>a*f i)+a*f n=a*(sm n f+f n);rw[fT a n]
  grind
theorem gQ (a:F)(n:Nat)(f:Nat->F):sm n (λi=>f i*a)=sm n f*a:=by
 rw[show (λi=>f i*a)=λi=>a*f i from funext λi=>by grind,fT]
 grind
theorem jT:∀ (n m:Nat) (f:Nat->Nat->F),sm n (λi=>sm m (λj=>f i j))=sm m (λj=>sm n (λi=>f i j))
 | 0,m,f=>(hO m).symm
 | n+1,m,f=>by
  show sm n (λi=>sm m (λj=>f i j))+sm m (λj=>f n j)=sm m (λj=>sm n (λi=>f i j)+f n j);rw[jT n m,jR]
theorem rj:∀ {n k:Nat} (f:Nat->F),k<n->sm n (λi=>if i=k then f i else 0)=f k
 | 0,_,_,h=>absurd h (sf _)
 | n+1,k,f,h=>by
  show sm n (λi=>if i=k then f i else 0)+(if n=k then f n else 0)=f k;by_cases e:n=k
  .subst e;rw[if_pos rfl,bF (g:=λ_=>0) (λi hi=>by rw[if_neg ∅]),hO]
   grind
  .rw [if_neg e,rj f ∅]
   grind
theorem oE {n k:Nat}(f:Nat->F)(h:k<n):sm n (λi=>(if i=k then 1 else 0)*f i)=f k:=by
 rw[<- rj f h];exact bF λi _=>by split <;> grind
theorem CK {n k:Nat}(f:Nat->F)(h:k<n):sm n (λi=>f i*(if i=k then 1 else 0))=f k:=by
 rw[<- rj f h];exact bF λi _=>by split <;> grind
theorem uA {n k:Nat}(f:Nat->F)(h:k<n):sm n (λi=>f i*(if k=i then 1 else 0))=f k:=by
 rw[<- rj f h];exact bF λi _=>by
  by_cases e:i=k
  .rw [if_pos e,if_pos e.symm];grind
  .rw [if_neg e,if_neg (λz=>e z.symm)];grind
def sk (k j:Nat):Nat:=if j<k then j else j+1
theorem ze:∀ {n k:Nat} (f:Nat->F),k<=n->sm (n+1) f=f k+sm n (λj=>f (sk k j))
 | n,k,f,h=>by
  by_cases e:k=n
  .subst e;show sm k f+f k=_;rw[bF (n:=k) (f:=f) (g:=λj=>f (sk k j)) λi hi=>by unfold sk;rw[if_pos hi]]
   grind
  .cases n with
   | zero=>omega
   | succ n=>
    show sm (n+1) f+f (n+1)=f k+(sm n (λj=>f (sk k j))+f (sk k n));rw[ze (n:=n) (k:=k) f (oz108 h e)];have:sk k n=n+1:=by unfold sk;rw[if_neg ∅]
    rw[this]
    grind
theorem q_:∀ (r s:Nat) (Y:Nat->Nat->F),r<s->∃ v:Nat->F,(∃ j,j<s/\v j≠0)/\∀ i,i<r->sm s (λj=>Y i j*v j)=0
 | 0,s,Y,h=>⟨λ_=>1,⟨0,h,λz=>Field.zero_ne_one (α:=F) z.symm⟩,λi hi=>absurd hi (sf _)⟩
 | r+1,s,Y,h=>by
  by_cases hz:∀ j,j<s->Y r j=0
  .obtain ⟨v,hv,he⟩:=q_ r s Y ∅;refine⟨v,hv,λi hi=>?_⟩;by_cases e:i=r
   .subst e;rw[bF (g:=λ_=>0) λj hj=>by rw[hz j hj];grind,hO]
   .exact he i (oz25 hi e)
  .obtain ⟨k,hk⟩:∃ k,k<s/\Y r k≠0:=by
    apply jF;intro z;exact hz λj hj=>jF λq=>z ⟨j,hj,q⟩
   obtain⟨hk,hy⟩:=hk;obtain⟨s',rfl⟩:∃ s',s=s'+1:=⟨s-1,oz147 hk⟩
   obtain⟨v',⟨j0,hj0,hv0⟩,he⟩:=q_ r s' (λi j=>Y i (sk k j)-Y i k / Y r k*Y r (sk k j)) ∅;obtain⟨v,hvk,hv'⟩:∃ v:Nat->F,v k=-(sm s' (λj=>Y r (sk k j)*v' j)) / Y r k/\∀ j,v (sk k j)=v' j:=by
    refine⟨λi=>if i=k then -(sm s' (λj=>Y r (sk k j)*v' j)) / Y r k else v' (if i<k then i else i-1),if_pos rfl,λj=>?_⟩;have h1:sk k j≠k:=by unfold sk;split <;> omega
    show (if sk k j=k then _ else v' (if sk k j<k then sk k j else sk k j-1))=v' j;rw[if_neg h1];congr 1;unfold sk;by_cases q:j<k
    .rw [if_pos q,if_pos q]
    .rw [if_neg q,if_neg ∅];exact oz123
   refine⟨v,⟨sk k j0,by unfold sk;split <;> omega,by rw[hv'];exact hv0⟩,λi hi=>?_⟩;rw[ze (k:=k) _ ∅,hvk];rw[bF (n:=s') (f:=λj=>Y i (sk k j)*v (sk k j)) (g:=λj=>Y i (sk k j)*v' j) λj hj=>by rw[hv']];by_cases e:i=r
   .subst e;generalize sm s' (λj=>Y i (sk k j)*v' j)=S
    grind
   .have h2:=he i (oz25 hi e);have h3:sm s' (λj=>(Y i (sk k j)-Y i k / Y r k*Y r (sk k j))*v' j)=sm s' (λj=>Y i (sk k j)*v' j)-Y i k / Y r k*sm s' (λj=>Y r (sk k j)*v' j):=by
     rw[<- fT];have:∀ (f g:Nat->F),sm s' (λj=>f j-g j)=sm s' f-sm s' g:=λf g=>by
      have e1:=jR s' (λj=>f j-g j) g;rw[show (λj=>f j-g j+g j)=f from funext λj=>by grind] at e1;rw[e1]
      grind
     rw[<- this];exact bF λj _=>by grind
    rw[h3] at h2;generalize sm s' (λj=>Y i (sk k j)*v' j)=S1 at *;generalize sm s' (λj=>Y r (sk k j)*v' j)=S2 at *
    grind
abbrev del (i k:Nat):F:=if i=k then 1 else 0
theorem xR {r s:Nat}{X Y:Nat->Nat->F}(h:∀ i k,i<s->k<s->sm r (λt=>X i t*Y t k)=del i k):s<=r:=by
 apply jF;intro z;obtain⟨v,⟨j,hj,hv⟩,he⟩:=q_ r s Y ∅;apply hv;have h1:sm s (λk=>sm r (λt=>X j t*Y t k)*v k)=v j:=by
  rw[bF (g:=λk=>del j k*v k) λk hk=>by rw[h j k hj hk]];rw[show (λk=>del j k*v k)=λk=>v k*(if j=k then 1 else 0) from funext λk=>by grind];exact uA v hj
 rw[<- h1];rw[bF (g:=λk=>sm r (λt=>X j t*Y t k*v k)) λk _=>by rw[gQ],jT];rw[bF (g:=λ_=>0) λt ht=>?_,hO];rw[show (λk=>X j t*Y t k*v k)=λk=>X j t*(Y t k*v k) from funext λk=>by grind,fT,he t ht]
 grind
structure Rk (A:Nat->Nat->F)(m n r:Nat):Prop where
 fac:∃ B C:Nat->Nat->F,∀ i j,i<m->j<n->A i j=sm r λk=>B i k*C k j
 piv:∃ P Q:Nat->Nat->F,∀ i k,i<r->k<r->sm m (λa=>P i a*sm n λb=>A a b*Q b k)=del i k
theorem yO {m n r s:Nat}{A B C P Q:Nat->Nat->F}(hf:∀ i j,i<m->j<n->A i j=sm r λk=>B i k*C k j)(hp:∀ i k,i<s->k<s->sm m (λa=>P i a*sm n λb=>A a b*Q b k)=del i k):s<=r:=by
 refine xR (X:=λi t=>sm m λa=>P i a*B a t) (Y:=λt k=>sm n λb=>C t b*Q b k) λi k hi hk=>?_;rw[<- hp i k hi hk];have e1:∀ a,a<m->(sm n λb=>A a b*Q b k)=sm r λt=>B a t*sm n λb=>C t b*Q b k:=λa ha=>by
  rw[bF (g:=λb=>sm r λt=>B a t*(C t b*Q b k)) λb hb=>?_,jT]
  .exact bF λt _=>fT _ _ _
  .rw [hf a b ha hb,<- gQ];exact bF λt _=>by grind
 rw[bF (n:=m) (g:=λa=>sm r λt=>P i a*B a t*sm n λb=>C t b*Q b k) λa ha=>?_,jT]
 .exact bF λt _=>by rw[gQ]
 .rw [e1 a ha,<- fT];exact bF λt _=>by grind
theorem Rk.uniq {A:Nat->Nat->F}{m n r s:Nat}(h:Rk A m n r)(h':Rk A m n s):r=s:=by
 obtain⟨B,C,hf⟩:=h.fac;obtain⟨P,Q,hp⟩:=h.piv;obtain⟨B',C',hf'⟩:=h'.fac;obtain⟨P',Q',hp'⟩:=h'.piv;have:=yO hf hp';have:=yO hf' hp;omega
theorem Rk.congr {A B:Nat->Nat->F}{m n r:Nat}(h:Rk A m n r)(e:∀ i j,i<m->j<n->A i j=B i j):Rk B m n r:=by
 obtain⟨X,Y,hf⟩:=h.fac;obtain⟨P,Q,hp⟩:=h.piv;refine⟨⟨X,Y,λi j hi hj=>by rw[<- e i j hi hj];exact hf i j hi hj⟩,⟨P,Q,λi k hi hk=>?_⟩⟩;rw[<- hp i k hi hk];exact bF λa ha=>by rw[bF (n:=n) λb hb=>by rw[<- e a b ha hb]]
abbrev zv:Nat->F:=λ_=>0
inductive Sp (S:(Nat->F)->Prop):(Nat->F)->Prop
 | mem {v:Nat->F}:S v->Sp S v
 | zero:Sp S zv
 | comb {u v:Nat->F} (a b:F):Sp S u->Sp S v->Sp S λj=>a*u j+b*v j
theorem Sp.trans {S T:(Nat->F)->Prop}{v:Nat->F}(h:Sp S v)(k:∀ u,S u->Sp T u):Sp T v:=by
 induction h with
 | mem h=>exact k _ h
 | zero=>exact .zero
 | comb a b _ _ h1 h2=>exact .comb a b h1 h2
theorem Sp.smul {S:(Nat->F)->Prop}{v:Nat->F}(a:F)(h:Sp S v):Sp S λj=>a*v j:=by
 have:=Sp.comb a 0 h Sp.zero;rwa [show (λj=>a*v j+0*(zv j:F))=λj=>a*v j from funext λj=>by grind] at this
abbrev gs (L:List (Nat->F))(v:Nat->F):Prop:=Sp (· ∈ L) v
structure bo (L L':List (Nat->F)):Prop where
 le:∀ v∈L,gs L' v
 ge:∀ v∈L',gs L v
theorem bo.refl (L:List (Nat->F)):bo L L:=⟨λ_ h=>.mem h,λ_ h=>.mem h⟩
theorem bo.symm {L L':List (Nat->F)}(h:bo L L'):bo L' L:=⟨h.ge,h.le⟩
theorem bo.trans {L L' L'':List (Nat->F)}(h:bo L L')(h':bo L' L''):bo L L'':=⟨λv hv=>(h.le v hv).trans λu hu=>h'.le u hu,λv hv=>(h'.ge v hv).trans λu hu=>h.ge u hu⟩
theorem bo.mems {L L':List (Nat->F)}(h:∀ v,v∈L ↔ v∈L'):bo L L':=⟨λv hv=>.mem ((h v).mp hv),λv hv=>.mem ((h v).mpr hv)⟩
abbrev at' (L:List (Nat->F))(i:Nat):Nat->F:=L.getD i zv
theorem eK {L:List (Nat->F)}{i:Nat}(h:i<L.length):at' L i∈L:=by
 unfold at';rw[aT,aF h];exact eO h
theorem Sp.coef {L:List (Nat->F)}{v:Nat->F}(h:gs L v):∃ c:Nat->F,∀ j,v j=sm L.length λi=>c i*at' L i j:=by
 induction h with
 | mem h=>
  obtain⟨i,hi,rfl⟩:=d9.mp h;refine⟨λk=>del k i,λj=>?_⟩;rw[oE (λk=>at' L k j) hi];unfold at';rw[aT,aF hi];rfl
 | zero=>exact⟨λ_=>0,λj=>by rw[bF (g:=λ_=>0) λi _=>by grind,hO]⟩
 | comb a b _ _ h1 h2=>
  obtain⟨c,hc⟩:=h1;obtain⟨d,hd⟩:=h2;refine⟨λi=>a*c i+b*d i,λj=>?_⟩;show a*_+b*_=_;rw[hc j,hd j,<- fT,<- fT,<- jR];exact bF λi _=>by grind
structure RR (L:List (Nat->F))(n r:Nat)(c:Nat->Nat):Prop where
 rl:r<=L.length
 cn:∀ i,i<r->c i<n
 mono:∀ i k,i<k->k<r->c i<c k
 piv:∀ i k,i<r->k<r->at' L i (c k)=del i k
 low:∀ i j,i<r->j<c i->at' L i j=0
 zer:∀ i j,r<=i->i<L.length->j<n->at' L i j=0
theorem RR.expand {L:List (Nat->F)}{n r:Nat}{c:Nat->Nat}(R:RR L n r c){v:Nat->F}(h:gs L v):∀ j,j<n->v j=sm r λi=>v (c i)*at' L i j:=by
 induction h with
 | mem h=>
  obtain⟨i,hi,rfl⟩:=d9.mp h;have e:L[i]=at' L i:=by unfold at';rw[aT,aF hi];rfl
  rw[e];intro j hj;by_cases hr:i<r
  .rw [bF (g:=λk=>at' L k j*(if i=k then 1 else 0)) λk hk=>by rw[R.piv i k hr hk];grind,uA _ hr]
  .rw [R.zer i j (c8 hr) hi hj,bF (g:=λ_=>0) λk hk=>by rw[R.zer i (c k) (c8 hr) hi (R.cn k hk)];grind,hO]
 | zero=>exact λj _=>by rw[bF (g:=λ_=>0) λi _=>by grind,hO]
 | comb a b _ _ h1 h2=>
  intro j hj;show a*_+b*_=_;rw[h1 j hj,h2 j hj,<- fT,<- fT,<- jR];exact bF λi _=>by grind
theorem RR.rk {L L':List (Nat->F)}{n r:Nat}{c:Nat->Nat}(R:RR L n r c)(h:bo L' L):Rk (λi j=>at' L' i j) L'.length n r:=by
 refine⟨⟨λi k=>at' L' i (c k),λk j=>at' L k j,λi j hi hj=>R.expand (h.le _ (eK hi)) j hj⟩,?_⟩;have hc:∀ k,k<r->∃ d:Nat->F,∀ j,at' L k j=sm L'.length λi=>d i*at' L' i j:=λk hk=>(h.ge _ (eK (dZ hk R.rl))).coef;refine⟨λk=>if hk:k<r then Classical.choose (hc k hk) else zv,λb k=>del b (c k),λi k hi hk=>?_⟩;rw[bF (g:=λa=>Classical.choose (hc i hi) a*at' L' a (c k)) λa _=>by
  show (if hk:i<r then Classical.choose (hc i hk) else zv) a*sm n (λb=>at' L' a b*(if b=c k then 1 else 0))=_;rw[dif_pos hi,CK _ (R.cn k hk)]]
 rw[<- A4 (hc i hi) (c k)];exact R.piv i k hi hk
end
end L3
namespace L3
open L2 Lean.Grind
def gcdL (zs:List Int):Nat:=zs.foldl (λd z=>Int.gcd z d) 0
theorem y4:∀ (zs:List Int) (d:Nat),(zs.foldl (λd z=>Int.gcd z d) d) ∣ d/\∀ z∈zs,((zs.foldl (λd z=>Int.gcd z d) d:Nat):Int) ∣ z
 | [],d=>⟨Nat.dvd_refl _,λz h=>by simp at h⟩
 | y::zs,d=>by
  obtain⟨h1,h2⟩:=y4 zs (Int.gcd y d);have h3:Int.gcd y d ∣ d:=by have:=Int.gcd_dvd_natAbs_right y d;simpa using this
  refine⟨Nat.dvd_trans h1 h3,λz hz=>?_⟩;rcases fH.mp hz with rfl|hz
  .exact Int.dvd_trans (Int.ofNat_dvd.mpr h1) (iS z d)
  .exact h2 z hz
theorem uu {zs:List Int}{z:Int}(h:z∈zs):(gcdL zs:Int) ∣ z:=(y4 zs 0).2 z h
theorem GR (zs:List Int)(i:Nat):gcdL zs ∣ gcdL (zs.take i):=by
 have e:gcdL zs=(zs.drop i).foldl (λd z=>Int.gcd z d) (gcdL (zs.take i)):=by
  unfold gcdL;rw[<- List.foldl_append,List.take_append_drop]
 rw[e];exact (y4 _ _).1
theorem GQ {zs:List Int}{i:Nat}{z:Int}(h:zs[i]?=some z):gcdL (zs.take (i+1))=Int.gcd z (gcdL (zs.take i)):=by
 rw[List.take_add_one,h];unfold gcdL;rw[List.foldl_append];rfl
theorem Dz {zs:List Int}(h:gcdL zs=0){z:Int}(hz:z∈zs):z=0:=by
 have:=uu hz;rw[h] at this;exact Int.zero_dvd.mp this
def dt (p:Int)(zs:List Int):List Int:=if p=0 then zs.map (· / (gcdL zs:Int)) else zs.map (· % p)
theorem GI {zs:List Int}(h:gcdL zs=1):dt 0 zs=zs:=by
 unfold dt;rw[if_pos rfl,h];have:(λz:Int=>z / ((1:Nat):Int))=id:=by funext z;simp
 rw[this,List.map_id]
theorem Af {zs:List Int}(h:gcdL zs=0):dt 0 zs=zs:=by
 unfold dt;rw[if_pos rfl];have:∀ z∈zs,z / (gcdL zs:Int)=id z:=λz hz=>by rw[Dz h hz];simp
 rw[List.map_congr_left this,List.map_id]
theorem Dq {p:Int}{zs:List Int}:(dt p zs).length=zs.length:=by unfold dt;split <;> simp
theorem Da {f:Int->Int}(h:f 0=0)(zs:List Int)(j:Nat):(zs.map f).getD j 0=f (zs.getD j 0):=by
 rw[aT,aT,bH];cases zs[j]? with
 | none=>exact h.symm
 | some z=>rfl
theorem Fu {f:Int->Int->Int}(h:f 0 0=0){xs ys:List Int}(hl:xs.length=ys.length)(j:Nat):(List.zipWith f xs ys).getD j 0=f (xs.getD j 0) (ys.getD j 0):=by
 rw[aT,aT,aT,List.getElem?_zipWith];by_cases hj:j<xs.length
 .rw [aF hj,aF (show j<ys.length by omega)];rfl
 .rw [cZ ∅,cZ ∅];exact h.symm
theorem zh {zs:List Int}(j:Nat):zs.getD j 0∈zs\/zs.getD j 0=0:=by
 rw[aT];cases e:zs[j]? with
 | none=>exact .inr rfl
 | some z=>exact .inl (aY e)
theorem wx {p:Int}(zs:List Int)(j:Nat):(dt p zs).getD j 0=if p=0 then zs.getD j 0 / (gcdL zs:Int) else zs.getD j 0 % p:=by
 unfold dt;split
 .exact Da (f:=(· / (gcdL zs:Int))) (by simp) zs j
 .exact Da (f:=(· % p)) (by simp) zs j
theorem DX {p:Int}{zs:List Int}{j:Nat}(h:zs.getD j 0=0):(dt p zs).getD j 0=0:=by
 rw[wx,h];split <;> simp
def Rw (p:Int)(W:Nat)(zs:List Int):Prop:=zs.length=W/\∀ z∈zs,Rz p z
theorem Rw.at {p:Int}{W:Nat}{zs:List Int}(h:Rw p W zs)(h0:0<=p)(j:Nat):Rz p (zs.getD j 0):=by
 rcases zh (zs:=zs) j with m|e
 .exact h.2 _ m
 .rw [e];rcases Ba p 0 with h|h|h
  .omega
  .exact .inl h
  .exact .inr ⟨∅,h⟩
theorem yC {p:Int}{W:Nat}{zs:List Int}(h0:0<=p)(h:zs.length=W):Rw p W (dt p zs):=by
 refine⟨by rw[Dq];exact h,λz hz=>?_⟩;unfold dt at hz;split at hz
 .exact .inl (by assumption)
 .refine ar (cw.mp hz) λy _ e93=>?_;obtain rfl:=e93;exact .inr ⟨gv _ (by assumption),fY _ ∅⟩
def eX (row lead:List Int)(k:Nat):List Int:=List.zipWith (λx y=>lead.getD k 0 / (Int.gcd (row.getD k 0) (lead.getD k 0):Int)*x-row.getD k 0 / (Int.gcd (row.getD k 0) (lead.getD k 0):Int)*y) row lead
def c_ (p:Int)(row lead:List Int)(k:Nat):List Int:=if row.getD k 0=0 then row else dt p (eX row lead k)
theorem Di {p:Int}{W:Nat}{row lead:List Int}{k:Nat}(h0:0<=p)(h:Rw p W row)(h':Rw p W lead):Rw p W (c_ p row lead k):=by
 unfold c_;split
 .exact h
 .exact yC h0 (by unfold eX;rw[ve,h.1,h'.1];omega)
theorem vU {row lead:List Int}(hl:row.length=lead.length)(k j:Nat):(eX row lead k).getD j 0=lead.getD k 0 / (Int.gcd (row.getD k 0) (lead.getD k 0):Int)*row.getD j 0-row.getD k 0 / (Int.gcd (row.getD k 0) (lead.getD k 0):Int)*lead.getD j 0:=by
 unfold eX;exact Fu (by simp) hl j
theorem Hm {p:Int}{row lead:List Int}{k j:Nat}(hl:row.length=lead.length)(h:row.getD j 0=0)(h':lead.getD j 0=0):(c_ p row lead k).getD j 0=0:=by
 unfold c_;split
 .exact h
 .exact DX (by rw[vU hl,h,h'];simp)
theorem CS {p:Int}{row lead:List Int}{k:Nat}(hl:row.length=lead.length):(c_ p row lead k).getD k 0=0:=by
 unfold c_;split
 .assumption
 .refine DX ?_;rw[vU hl];have d1:(Int.gcd (row.getD k 0) (lead.getD k 0):Int) ∣ row.getD k 0:=iS ..;have d2:(Int.gcd (row.getD k 0) (lead.getD k 0):Int) ∣ lead.getD k 0:=jG ..;generalize (Int.gcd (row.getD k 0) (lead.getD k 0):Int)=g at *;have e1:=mN d1;have e2:=mN d2;generalize row.getD k 0 / g=u at *;generalize lead.getD k 0 / g=v at *;rw[<- e1,<- e2]
  grind
section
variable {p:Int}{F:Type}[Field F]
def vz (zs:List Int):Nat->F:=λj=>ic (zs.getD j 0)
theorem iC:(1:F)≠0:=λz=>Field.zero_ne_one (α:=F) z.symm
theorem CO (hF:aO p F)(zs:List Int):∃ c:F,c≠0/\∀ j,c*vz (dt p zs) j=vz zs j:=by
 by_cases hp:p=0
 .by_cases hg:gcdL zs=0
  .subst hp;rw[Af hg];exact⟨1,iC,λj=>by grind⟩
  .refine ⟨ic (gcdL zs:Int),hF.ne0 (.inl hp) ∅,λj=>?_⟩;unfold vz;rw[wx,if_pos hp,<- d7,r8,mN];rcases zh (zs:=zs) j with m|e
   .exact uu m
   .rw [e];exact Int.dvd_zero _
 .refine ⟨1,iC,λj=>?_⟩;unfold vz;rw[wx,if_neg hp,hF.modF hp]
  grind
theorem rD {W:Nat}{row lead:List Int}{k:Nat}(h0:0<=p)(hF:aO p F)(h:Rw p W row)(h':Rw p W lead)(hk:lead.getD k 0≠0):∃ a b:F,a≠0/\∀ j,vz (c_ p row lead k) j=a*vz row j+b*vz lead j:=by
 unfold c_;split
 .exact aM 1 0 ⟨iC,λj=>by grind⟩
 .have hl:row.length=lead.length:=h.1.trans h'.1.symm;refine ar (CO hF (eX row lead k)) λc hc e=>?_;have d2:(Int.gcd (row.getD k 0) (lead.getD k 0):Int) ∣ lead.getD k 0:=jG ..;have e2:=mN d2;have l0:(ic (lead.getD k 0):F)≠0:=hF.ne0 (h'.at h0 k) hk;have ek:∀ j,(vz (eX row lead k) j:F)=ic (lead.getD k 0 / (Int.gcd (row.getD k 0) (lead.getD k 0):Int))*vz row j-ic (row.getD k 0 / (Int.gcd (row.getD k 0) (lead.getD k 0):Int))*vz lead j:=λj=>by
   unfold vz;rw[vU hl,tY,d7,d7]
  generalize (Int.gcd (row.getD k 0) (lead.getD k 0):Int)=g at *;have k0:(ic (lead.getD k 0 / g):F)≠0:=λz=>l0 (by rw[<- e2,d7,z];grind);generalize (ic (lead.getD k 0 / g):F)=u at *;generalize (ic (row.getD k 0 / g):F)=v at *;refine aM (u / c) (-(v / c)) ⟨by grind,λj=>?_⟩;have e3:=e j;rw[ek j] at e3;generalize (vz (dt p (eX row lead k)) j:F)=y at *
  grind
theorem yS {Z:List (List Int)}{v:Nat->F}(h:v∈Z.map vz):∃ row∈Z,v=vz row:=by
 refine ar (cw.mp h) λrow h1 h2=>?_;exact⟨row,h1,h2.symm⟩
theorem Ei {W k:Nat}{A B:List (List Int)}{lead:List Int}(h0:0<=p)(hF:aO p F)(hA:∀ row∈A,Rw p W row)(hB:lead∈B)(hL:Rw p W lead)(hk:lead.getD k 0≠0):
  bo (F:=F) ((A.map (λrow=>c_ p row lead k)++B).map vz) ((A++B).map vz):=by
 refine⟨λv hv=>?_,λv hv=>?_⟩
 .refine ar (yS hv) λrow hr e94=>?_;obtain rfl:=e94;rcases cf.mp hr with hr|hr
  .refine ar (cw.mp hr) λrow' hr' e95=>?_;obtain rfl:=e95;refine cE (rD (k:=k) h0 hF (hA _ hr') hL hk) λa b _ e=>?_;rw[show vz (c_ p row' lead k)=λj=>a*vz row' j+b*vz lead j from funext e];exact .comb a b (.mem (cw.mpr ⟨row',cf.mpr (.inl hr'),rfl⟩)) (.mem (cw.mpr ⟨lead,cf.mpr (.inr hB),rfl⟩))
  .exact .mem (cw.mpr ⟨row,cf.mpr (.inr hr),rfl⟩)
 .refine ar (yS hv) λrow hr e96=>?_;obtain rfl:=e96;rcases cf.mp hr with hr|hr
  .refine cE (rD (k:=k) h0 hF (hA _ hr) hL hk) λa b ha e=>?_;rw[show (vz row:Nat->F)=λj=>(1 / a)*vz (c_ p row lead k) j+(-(b / a))*vz lead j from funext λj=>by rw[e j];grind];exact .comb _ _ (.mem (cw.mpr ⟨_,cf.mpr (.inl (cw.mpr ⟨row,hr,rfl⟩)),rfl⟩)) (.mem (cw.mpr ⟨lead,cf.mpr (.inr hB),rfl⟩))
  .exact .mem (cw.mpr ⟨row,cf.mpr (.inr hr),rfl⟩)
end
inductive Sw (p:Int) (Z:List (List Int)):Nat->List (List Int)->List (List Int)->List Nat->Prop
 | start:Sw p Z 0 [] Z []
 | skip {k:Nat} {done left:List (List Int)} {pl:List Nat}:Sw p Z k done left pl->(∀ row∈left,row.getD k 0=0)->Sw p Z (k+1) done left pl
 | take {k:Nat} {done left:List (List Int)} {pl:List Nat} (i:Nat) (lead:List Int):Sw p Z k done left pl->left[i]?=some lead->lead.getD k 0≠0->Sw p Z (k+1) (done++[lead]) ((left.eraseIdx i).map λrow=>c_ p row lead k) (pl++[k])
structure w4 (p:Int)(W:Nat)(Z:List (List Int))(k:Nat)(done left:List (List Int))(pl:List Nat):Prop where
 len:done.length=pl.length
 all:done.length+left.length=Z.length
 rw:∀ row∈done++left,Rw p W row
 asc:∀ i j,i<j->j<pl.length->pl.getD i 0<pl.getD j 0
 lt:∀ i,i<pl.length->pl.getD i 0<k
 piv:∀ i,i<pl.length->(done.getD i []).getD (pl.getD i 0) 0≠0
 low:∀ i j,i<pl.length->j<pl.getD i 0->(done.getD i []).getD j 0=0
 zer:∀ row∈left,∀ j,j<k->row.getD j 0=0
 sp:∀ (F:Type) [Field F],aO p F->bo (F:=F) ((done++left).map vz) (Z.map vz)
theorem G_ {α:Type}{xs:List α}{i:Nat}{x y:α}(h:xs[i]?=some x)(hy:y∈xs):y=x\/y∈xs.eraseIdx i:=by
 obtain⟨j,hj,rfl⟩:=d9.mp hy;by_cases e:j=i
 .subst e;rw[aF hj] at h;cases h;exact .inl rfl
 .refine .inr ?_;rw[List.mem_eraseIdx_iff_getElem?];exact⟨j,e,aF hj⟩
theorem jU {α:Type}{xs:List α}{x d:α}{i:Nat}:(xs++[x]).getD i d=if i<xs.length then xs.getD i d else if i=xs.length then x else d:=by
 rw[aT,aT];by_cases h:i<xs.length
 .rw [if_pos h,eE h]
 .rw [if_neg h,d_ ∅];by_cases e:i=xs.length
  .rw [if_pos e,e,rZ];rfl
  .rw [if_neg e,cZ (by simp;omega)];rfl
theorem Sw.inv {p:Int}{W:Nat}{Z:List (List Int)}{k:Nat}{done left:List (List Int)}{pl:List Nat}(h0:0<=p)(hZ:∀ row∈Z,Rw p W row)(h:Sw p Z k done left pl):w4 p W Z k done left pl:=by
 induction h with
 | start=>exact⟨rfl,by simp,by simpa using hZ,λi j _ h=>by simp at h,λi h=>by simp at h,λi h=>by simp at h,λi j h=>by simp at h,λ_ _ j h=>∅,λF _ _=>bo.refl _⟩
 | @skip k done left pl h hz ih=>
  refine⟨ih.len,ih.all,ih.rw,ih.asc,λi hi=>nU (ih.lt i hi),ih.piv,ih.low,λrow hr j hj=>?_,ih.sp⟩;by_cases e:j=k
  .subst e;exact hz row hr
  .exact ih.zer row hr j ∅
 | @take k done left pl i lead h hi hk ih=>
  have hlm:lead∈left:=aY hi;have hil:i<left.length:=(cj.mp hi).1;have rl:Rw p W lead:=ih.rw _ (cf.mpr (.inr hlm));have re:∀ row∈left.eraseIdx i,Rw p W row:=λrow hr=>ih.rw _ (cf.mpr (.inr (nX hr)));have hlen:=ih.len;refine⟨by rw[bw,bw,hlen];rfl,?_,λrow hr=>?_,λa b hab hb=>?_,λa ha=>?_,λa ha=>?_,λa b ha hb=>?_,λrow hr j hj=>?_,λF _ hF=>?_⟩
  .rw [bw,aA,List.length_eraseIdx_of_lt hil];have:=ih.all;simp only[iU,qK];omega
  .rcases cf.mp hr with hr|hr
   .rcases cf.mp hr with hr|hr
    .exact ih.rw _ (cf.mpr (.inl hr))
    .rw [cF.mp hr];exact rl
   .refine ar (cw.mp hr) λrow' hr' e97=>?_;obtain rfl:=e97;exact Di h0 (re _ hr') rl
  .rw [bw] at hb;simp only[iU,qK] at hb;rw[jU,jU,if_pos ∅];by_cases e:b<pl.length
   .rw [if_pos e];exact ih.asc a b hab e
   .rw [if_neg e,if_pos ∅];exact ih.lt a ∅
  .rw [bw] at ha;simp only[iU,qK] at ha;rw[jU];by_cases e:a<pl.length
   .rw [if_pos e];exact nU (ih.lt a e)
   .rw [if_neg e,if_pos ∅];omega
  .rw [bw] at ha;simp only[iU,qK] at ha;rw[jU,jU];by_cases e:a<pl.length
   .rw [if_pos e,if_pos ∅];exact ih.piv a e
   .rw [if_neg e,if_neg ∅,if_pos ∅,if_pos ∅];exact hk
  .rw [bw] at ha;simp only[iU,qK] at ha;rw[jU] at hb ⊢;by_cases e:a<pl.length
   .rw [if_pos e] at hb;rw[if_pos ∅];exact ih.low a b e hb
   .rw [if_neg e,if_pos ∅] at hb;rw[if_neg ∅,if_pos ∅];exact ih.zer _ hlm b hb
  .refine ar (cw.mp hr) λrow' hr' e98=>?_;obtain rfl:=e98;have hl:row'.length=lead.length:=(re _ hr').1.trans rl.1.symm;by_cases e:j=k
   .subst e;exact CS hl
   .exact Hm hl (ih.zer _ (nX hr') j ∅) (ih.zer _ hlm j ∅)
  .refine bo.trans ?_ (ih.sp F hF);refine bo.trans (bo.mems (L':=((left.eraseIdx i).map (λrow=>c_ p row lead k)++(done++[lead])).map vz) λv=>?_) (bo.trans (Ei (k:=k) h0 hF re (by simp) rl hk) (bo.mems λv=>?_))
   .simp only [cw,cf];exact⟨λ⟨a,b,c⟩=>⟨a,b.symm,c⟩,λ⟨a,b,c⟩=>⟨a,b.symm,c⟩⟩
   .simp only [cw,cf,cF];constructor
    .intro e91;refine ar e91 λa b c=>?_;clear e91;refine⟨a,?_,c⟩;rcases b with b|b|b
     .exact .inr (nX b)
     .exact .inl b
     .rw [b];exact .inr hlm
    .intro e92;refine ar e92 λa b c=>?_;clear e92;refine⟨a,?_,c⟩;rcases b with b|b
     .exact .inr (.inl b)
     .rcases G_ hi b with b|b
      .exact .inr (.inr b)
      .exact .inl b
def eI (p:Int)(pl:List Nat)(R0:List (List Int)):Nat->List (List Int)
 | 0=>R0
 | t+1=>((eI p pl R0 t).take (pl.length-1-t)).map (λrow=>c_ p row ((eI p pl R0 t).getD (pl.length-1-t) []) (pl.getD (pl.length-1-t) 0))++(eI p pl R0 t).drop (pl.length-1-t)
theorem dk {α:Type}{xs:List α}{i:Nat}{d:α}(h:i<xs.length):xs.getD i d=xs[i]:=by rw[aT,aF h];rfl
theorem lX {p:Int}{pl:List Nat}{R0:List (List Int)}{t i:Nat}:(eI p pl R0 (t+1)).getD i [] =
  if i<pl.length-1-t/\i<(eI p pl R0 t).length then c_ p ((eI p pl R0 t).getD i []) ((eI p pl R0 t).getD (pl.length-1-t) []) (pl.getD (pl.length-1-t) 0) else (eI p pl R0 t).getD i []:=by
 show (((eI p pl R0 t).take (pl.length-1-t)).map (λrow=>c_ p row ((eI p pl R0 t).getD (pl.length-1-t) []) (pl.getD (pl.length-1-t) 0))++(eI p pl R0 t).drop (pl.length-1-t)).getD i []=_;generalize eI p pl R0 t=R;generalize pl.length-1-t=a;rw[aT];by_cases h:i<a/\i<R.length
 .rw [if_pos h,eE (by rw[aA,ij];omega),bH,Bq h.1,aF h.2,dk h.2];rfl
 .rw [if_neg h,d_ (by rw[aA,ij];omega),aA,ij,List.getElem?_drop,aT];by_cases h2:i<R.length
  .congr 2;omega
  .rw [cZ ∅,cZ ∅]
structure vo (p:Int)(W wide:Nat)(Z:List (List Int))(pl:List Nat)(F:Type)[Field F](t:Nat)(R:List (List Int)):Prop where
 len:R.length=Z.length
 rw:∀ row∈R,Rw p W row
 piv:∀ i,i<pl.length->(vz (R.getD i []) (pl.getD i 0):F)≠0
 low:∀ i j,i<pl.length->j<pl.getD i 0->(vz (R.getD i []) j:F)=0
 zer:∀ i j,pl.length<=i->i<R.length->j<wide->(vz (R.getD i []) j:F)=0
 up:∀ i l,i<pl.length->l<pl.length->pl.length-t<=l->l≠i->(vz (R.getD i []) (pl.getD l 0):F)=0
 sp:bo (F:=F) (R.map vz) (Z.map vz)
theorem rp {F:Type}[Field F]{zs:List Int}{j:Nat}(h:zs.getD j 0=0):(vz zs j:F)=0:=by unfold vz;rw[h,rq]
theorem jz {α:Type}{xs:List α}{x:α}(h:x∈xs)(d:α):∃ i,i<xs.length/\xs.getD i d=x:=by
 obtain⟨i,hi,rfl⟩:=d9.mp h;exact⟨i,hi,dk hi⟩
theorem cq {α:Type}{xs:List α}{i:Nat}{d:α}(h:i<xs.length):xs.getD i d∈xs:=by rw[dk h];exact eO h
theorem Sw.back {p:Int}{W wide:Nat}{Z:List (List Int)}{done left:List (List Int)}{pl:List Nat}(h0:0<=p)(I:w4 p W Z wide done left pl){F:Type}[Field F](hF:aO p F):
  ∀ t,t<=pl.length->vo p W wide Z pl F t (eI p pl (done++left) t)
 | 0,_=>by
  have hlen:=I.len;have e:∀ i,i<pl.length->(done++left).getD i []=done.getD i []:=λi hi=>by
   rw[aT,eE ∅,aT]
  refine⟨by show (done++left).length=_;rw[bw];exact I.all,I.rw,λi hi=>?_,λi j hi hj=>?_,λi j hi hi2 hj=>?_,λi l hi hl h=>∅,I.sp F hF⟩
  .show (ic (((done++left).getD i []).getD (pl.getD i 0) 0):F)≠0;have hr:(done++left).getD i []∈done++left:=cq (by rw[bw];omega);exact hF.ne0 ((I.rw _ hr).at h0 _) (by rw[e i hi];exact I.piv i hi)
  .exact rp (by show ((done++left).getD i []).getD j 0=0;rw[e i hi];exact I.low i j hi hj)
  .have hi2':i<done.length+left.length:=by rw[<- bw];exact hi2
   refine rp (I.zer _ ?_ j hj);show (done++left).getD i []∈left;rw[aT,d_ ∅,<- aT];exact cq ∅
 | t+1,ht=>by
  have B:=Sw.back h0 I hF t ∅;have hlen:=I.len;have hall:=I.all;have bat:∀ i,(eI p pl (done++left) (t+1)).getD i []=_:=λi=>lX (p:=p) (pl:=pl) (R0:=done++left) (t:=t) (i:=i);have bdef:eI p pl (done++left) (t+1)=((eI p pl (done++left) t).take (pl.length-1-t)).map (λrow=>c_ p row ((eI p pl (done++left) t).getD (pl.length-1-t) []) (pl.getD (pl.length-1-t) 0))++(eI p pl (done++left) t).drop (pl.length-1-t):=rfl;generalize eI p pl (done++left) (t+1)=R' at *;generalize eI p pl (done++left) t=R at *;have bl:=B.len;have ha:pl.length-1-t<R.length:=∅
  have hap:pl.length-1-t<pl.length:=∅
  have hla:R.getD (pl.length-1-t) []∈R:=cq ha;have rl:=B.rw _ hla;have pa:=B.piv _ hap;have ka:(R.getD (pl.length-1-t) []).getD (pl.getD (pl.length-1-t) 0) 0≠0:=λz=>pa (rp z)
  -- the place of each
  have lowA:=B.low (pl.length-1-t);have upA:=B.up (pl.length-1-t);generalize hla':R.getD (pl.length-1-t) []=lead at *;have ascA:∀ i,i<pl.length-1-t->pl.getD i 0<pl.getD (pl.length-1-t) 0:=λi hi=>I.asc i _ hi hap;have ri:∀ i,i<R.length->Rw p W (R.getD i []):=λi hi=>B.rw _ (cq hi);refine⟨?_,λrow hr=>?_,λi hi=>?_,λi j hi hj=>?_,λi j hi hi2 hj=>?_,λi l hi hl h hne=>?_,?_⟩
  .rw [bdef,bw,aA,ij,sq];omega
  .rw [bdef] at hr;rcases cf.mp hr with hr|hr
   .refine ar (cw.mp hr) λrow' hr' e99=>?_;obtain rfl:=e99;exact Di h0 (B.rw _ (uZ hr')) rl
   .exact B.rw _ (List.mem_of_mem_drop hr)
  .rw [bat];split
   .rename_i hc
    refine cE (rD (k:=pl.getD (pl.length-1-t) 0) h0 hF (ri i hc.2) rl ka) λa b ha0 e=>?_;rw[e,lowA _ hap (ascA i hc.1)];have:=B.piv i hi
    grind
   .exact B.piv i hi
  .rw [bat];split
   .rename_i hc
    refine cE (rD (k:=pl.getD (pl.length-1-t) 0) h0 hF (ri i hc.2) rl ka) λa b ha0 e=>?_;have:=ascA i hc.1;rw[e,lowA j hap ∅,B.low i j hi hj]
    grind
   .exact B.low i j hi hj
  .rw [bat,if_neg ∅];refine B.zer i j hi ?_ hj;have:R'.length=R.length:=by
    rw[bdef,bw,aA,ij,sq];omega
   omega
  .rw [bat];by_cases hla2:l=pl.length-1-t
   .subst hla2;by_cases hc:i<pl.length-1-t
    .rw [if_pos ⟨hc,∅⟩];exact rp (CS ((ri i ∅).1.trans rl.1.symm))
    .rw [if_neg ∅];exact B.low i _ hi (I.asc _ _ ∅ hi)
   .have hu:=B.up i l hi hl ∅ hne;split
    .rename_i hc
     refine cE (rD (k:=pl.getD (pl.length-1-t) 0) h0 hF (ri i hc.2) rl ka) λa b ha0 e=>?_;rw[e,hu,upA l hap hl ∅ ∅]
     grind
    .exact hu
  .refine bo.trans ?_ B.sp;rw[bdef];have hm:lead∈R.drop (pl.length-1-t):=by
    rw[<- hla',dk ha,List.drop_eq_getElem_cons ha];exact nV
   have:=Ei (A:=R.take (pl.length-1-t)) (B:=R.drop (pl.length-1-t)) (k:=pl.getD (pl.length-1-t) 0) h0 hF (λrow hr=>B.rw _ (uZ hr)) hm rl ka;rwa [List.take_append_drop] at this
def hJ (pl:List Nat)(R:List (List Int))(i:Nat):Int:=if i<pl.length then (R.getD i []).getD (pl.getD i 0) 0 else 1
theorem vo.lead {p:Int}{W wide:Nat}{Z:List (List Int)}{pl:List Nat}{F:Type}[Field F]{R:List (List Int)}(B:vo p W wide Z pl F pl.length R)(i:Nat):(ic (hJ pl R i):F)≠0:=by
 unfold hJ;split
 .exact B.piv i (by assumption)
 .rw [gL];exact iC
theorem vo.rr {p:Int}{W wide:Nat}{Z:List (List Int)}{pl:List Nat}{F:Type}[Field F]{R:List (List Int)}(B:vo p W wide Z pl F pl.length R)(asc:∀ i j,i<j->j<pl.length->pl.getD i 0<pl.getD j 0)(lt:∀ i,i<pl.length->pl.getD i 0<wide)(hr:pl.length<=Z.length){L:List (Nat->F)}(hl:L.length=Z.length)(he:∀ i,i<Z.length->at' L i=λj=>vz (R.getD i []) j / ic (hJ pl R i)):RR L wide pl.length (λi=>pl.getD i 0)/\bo L (Z.map vz):=by
 have bl:=B.len;refine⟨⟨∅,lt,λi k h1 h2=>asc i k h1 h2,λi k hi hk=>?_,λi j hi hj=>?_,λi j hi hi2 hj=>?_⟩,?_⟩
 .rw [he i ∅];show (vz (R.getD i []) (pl.getD k 0):F) / ic (hJ pl R i)=if i=k then 1 else 0
  by_cases e:i=k
  .subst e;rw[if_pos rfl];have:=B.piv i hi;have e2:(ic (hJ pl R i):F)=vz (R.getD i []) (pl.getD i 0):=by unfold hJ vz;rw[if_pos hi]
   rw[e2]
   grind
  .rw [if_neg e,B.up i k hi hk ∅ (λz=>e z.symm)];have:=B.lead i
   grind
 .rw [he i ∅];show (vz (R.getD i []) j:F) / ic (hJ pl R i)=0;rw[B.low i j hi hj];have:=B.lead i
  grind
 .rw [he i ∅];show (vz (R.getD i []) j:F) / ic (hJ pl R i)=0;rw[B.zer i j hi ∅ hj];have:=B.lead i
  grind
 .refine bo.trans ⟨λv hv=>?_,λv hv=>?_⟩ B.sp
  .refine ar (jz hv zv) λi hi e=>?_;have e':v=at' L i:=e.symm;rw[e',he i ∅];have hm:gs (R.map vz) (vz (R.getD i []):Nat->F):=.mem (cw.mpr ⟨_,cq ∅,rfl⟩);have:=hm.smul (1 / ic (hJ pl R i));rwa [show (λj=>1 / ic (hJ pl R i)*vz (R.getD i []) j:Nat->F)=λj=>vz (R.getD i []) j / ic (hJ pl R i) from funext λj=>by have:=B.lead i;grind] at this
  .refine ar (yS hv) λrow hr e910=>?_;obtain rfl:=e910;refine ar (jz hr []) λi hi e911=>?_;obtain rfl:=e911;have hm:gs L (at' L i):=.mem (eK ∅);have:=hm.smul (ic (hJ pl R i));rwa [show (λj=>ic (hJ pl R i)*at' L i j:Nat->F)=vz (R.getD i []) from funext λj=>by rw[he i ∅];have:=B.lead i;grind] at this
def aK (n:Nat)(row:List Int):Prop:=∀ z∈row,Bt n z
theorem aK.le {n m:Nat}{row:List Int}(h:aK n row)(hm:n<=m):aK m row:=λz hz=>(h z hz).le hm
theorem aK.at {n:Nat}{row:List Int}(h:aK n row)(j:Nat):Bt n (row.getD j 0):=by
 rcases zh (zs:=row) j with m|e
 .exact h _ m
 .rw [e];exact B2 n
theorem HI {p:Int}{n:Nat}{row:List Int}(hp:0<=p)(p97:p<=97)(h7:7<=n)(h:p=0->aK n row):aK n (dt p row):=λz hz=>by
 unfold dt at hz;split at hz
 .rename_i h0
  refine ar (cw.mp hz) λy hy e912=>?_;obtain rfl:=e912;exact (h h0 y hy).quo (uu hy)
 .rename_i h0
  refine ar (cw.mp hz) λy hy e913=>?_;obtain rfl:=e913;have h1:=gv y h0;have h2:=fY y (show 0<p by omega);exact dc h7 ∅
theorem Hf {n:Nat}{row lead:List Int}{k:Nat}(h:aK n row)(h':aK n lead):aK (2*n+1) (eX row lead k):=λz hz=>by
 obtain⟨j,hj0,rfl⟩:=d9.mp hz;have hj:j<min row.length lead.length:=by have:=hj0;unfold eX at this;rwa [ve] at this
 have e:(eX row lead k)[j]'(by unfold eX;rw[ve];exact hj)=lead.getD k 0 / (Int.gcd (row.getD k 0) (lead.getD k 0):Int)*row[j]'(by omega)-row.getD k 0 / (Int.gcd (row.getD k 0) (lead.getD k 0):Int)*lead[j]'(by omega):=by
  unfold eX;rw[List.getElem_zipWith]
 rw[e];have b1:=((h'.at k).quo (jG (row.getD k 0) (lead.getD k 0))).mul (h _ (eO (show j<row.length by omega)));have b2:=((h.at k).quo (iS (row.getD k 0) (lead.getD k 0))).mul (h' _ (eO (show j<lead.length by omega)));have:=Bt.sub b1 b2;rwa [show n+n+1=2*n+1 by omega] at this
end L3
namespace L2
open PySem PySem.Spec PyProof.Rows
section
variable {H:Hp}{Q:VK}{σ:St}{x:V}{z0 z1 z2 z3 z4 z5 z6 z7 z8 z9 z10 z11 z12:Option V}
theorem g_ {i:Nat}(h:σ[i]?=some (some x)):dS i σ H Q=Q x H:=by
 unfold dS;rw[h];exact propext ⟨λ⟨v,e,q⟩=>by cases e;exact q,λq=>⟨x,rfl,q⟩⟩
theorem tv0:dS 0 (some x::σ) H Q=Q x H:=g_ rfl
theorem tv1:dS 1 (z0::some x::σ) H Q=Q x H:=g_ rfl
theorem tv2:dS 2 (z0::z1::some x::σ) H Q=Q x H:=g_ rfl
theorem tv3:dS 3 (z0::z1::z2::some x::σ) H Q=Q x H:=g_ rfl
theorem tv4:dS 4 (z0::z1::z2::z3::some x::σ) H Q=Q x H:=g_ rfl
theorem tv5:dS 5 (z0::z1::z2::z3::z4::some x::σ) H Q=Q x H:=g_ rfl
theorem tv6:dS 6 (z0::z1::z2::z3::z4::z5::some x::σ) H Q=Q x H:=g_ rfl
theorem tv7:dS 7 (z0::z1::z2::z3::z4::z5::z6::some x::σ) H Q=Q x H:=g_ rfl
theorem tv8:dS 8 (z0::z1::z2::z3::z4::z5::z6::z7::some x::σ) H Q=Q x H:=g_ rfl
theorem tv9:dS 9 (z0::z1::z2::z3::z4::z5::z6::z7::z8::some x::σ) H Q=Q x H:=g_ rfl
theorem tv10:dS 10 (z0::z1::z2::z3::z4::z5::z6::z7::z8::z9::some x::σ) H Q=Q x H:=g_ rfl
theorem tv11:dS 11 (z0::z1::z2::z3::z4::z5::z6::z7::z8::z9::z10::some x::σ) H Q=Q x H:=g_ rfl
theorem tv12:dS 12 (z0::z1::z2::z3::z4::z5::z6::z7::z8::z9::z10::z11::some x::σ) H Q=Q x H:=g_ rfl
theorem tv13:dS 13 (z0::z1::z2::z3::z4::z5::z6::z7::z8::z9::z10::z11::z12::some x::σ) H Q=Q x H:=g_ rfl
theorem pI0 {g:Int->Int->V}{i j:Int}:rI0 g (.int i) (.int j) H Q=Q (g i j) H:=propext ⟨λ⟨_,_,e,e',q⟩=>by cases e;cases e';exact q,λq=>⟨i,j,rfl,rfl,q⟩⟩
theorem pI {D:Int->Int->Prop}{g:Int->Int->V}{i j:Int}:rI D g (.int i) (.int j) H Q=(D i j/\Q (g i j) H):=propext ⟨λ⟨_,_,e,e',q⟩=>by cases e;cases e';exact q,λq=>⟨i,j,rfl,rfl,q⟩⟩
theorem pU {g:Int->V}{i:Int}:rU g (.int i) H Q=Q (g i) H:=propext ⟨λ⟨_,e,q⟩=>by cases e;exact q,λq=>⟨i,rfl,q⟩⟩
theorem pIxL {K:Frag}{a:Addr}{k:Int}:rIxL K (.ref a) (.int k) H Q=∃ xs,aj K H a xs/\∃ v,atI xs k=some v/\Q v H:=propext ⟨λ⟨_,xs,_,v,e,e',h,h',q⟩=>by cases e;cases e';exact⟨xs,h,v,h',q⟩,λ⟨xs,h,v,h',q⟩=>⟨a,xs,k,v,rfl,rfl,h,h',q⟩⟩
theorem pIxT {K:Frag}{a:Addr}{k:Int}:rIxT K (.ref a) (.int k) H Q=∃ xs,aB K H a xs/\∃ v,atI xs k=some v/\Q v H:=propext ⟨λ⟨_,xs,_,v,e,e',h,h',q⟩=>by cases e;cases e';exact⟨xs,h,v,h',q⟩,λ⟨xs,h,v,h',q⟩=>⟨a,xs,k,v,rfl,rfl,h,h',q⟩⟩
theorem pEb {b:Bool}{p:Bool->Prop}:(∃ k,V.bl b=V.bl k/\p k)=p b:=propext ⟨λ⟨_,e,q⟩=>by cases e;exact q,λq=>⟨b,rfl,q⟩⟩
theorem pEi {b:Int}{p:Int->Prop}:(∃ k,V.int b=V.int k/\p k)=p b:=propext ⟨λ⟨_,e,q⟩=>by cases e;exact q,λq=>⟨b,rfl,q⟩⟩
theorem pEr {b:Addr}{p:Addr->Prop}:(∃ k,V.ref b=V.ref k/\p k)=p b:=propext ⟨λ⟨_,e,q⟩=>by cases e;exact q,λq=>⟨b,rfl,q⟩⟩
theorem pEqT {K:Frag}{b:Bool}{a c:Addr}:qR K b (.ref a) (.ref c) H Q=∃ xs,aB K H a xs/\∃ ys,aB K H c ys/\∃ bs,uk K H 6 xs ys bs/\Q (V.bl (if b=true then !bs.all id else bs.all id)) H:=propext ⟨λ⟨_,_,xs,ys,bs,e,e',h,h',h'',q⟩=>by cases e;cases e';exact⟨xs,h,ys,h',bs,h'',q⟩,λ⟨xs,h,ys,h',bs,h'',q⟩=>⟨a,c,xs,ys,bs,rfl,rfl,h,h',h'',q⟩⟩
theorem pEqL {K:Frag}{b:Bool}{a c:Addr}:rEqL K b (.ref a) (.ref c) H Q=∃ xs,aj K H a xs/\∃ ys,aj K H c ys/\(xs.length≠ys.length/\Q (V.bl b) H\/∃ bs,uk K H 6 xs ys bs/\Q (V.bl (if b=true then !bs.all id else bs.all id)) H):=propext ⟨λ⟨_,_,xs,ys,e,e',h,h',q⟩=>by cases e;cases e';exact⟨xs,h,ys,h',q⟩,λ⟨xs,h,ys,h',q⟩=>⟨a,c,xs,ys,rfl,rfl,h,h',q⟩⟩
theorem pSlL {K:Frag}{a:Addr}{lo hi:Option Int}:rSlL K (.ref a) lo hi H Q=∃ xs,aj K H a xs/\∀ p,H p=none->Q (.ref p) (ao H p (.lst (cutV xs lo hi))):=propext ⟨λ⟨_,xs,e,h,q⟩=>by cases e;exact⟨xs,h,q⟩,λ⟨xs,h,q⟩=>⟨a,xs,rfl,h,q⟩⟩
theorem pCat {a c:Addr}:rCat (.ref a) (.ref c) H Q=∃ xs,H a=some (.lst xs)/\∃ ys,H c=some (.lst ys)/\xs.length+ys.length<=sizeLine/\∀ p,H p=none->Q (.ref p) (ao H p (.lst (xs++ys))):=propext ⟨λ⟨_,_,xs,ys,e,e',h,h',q⟩=>by cases e;cases e';exact⟨xs,h,ys,h',q⟩,λ⟨xs,h,ys,h',q⟩=>⟨a,c,xs,ys,rfl,rfl,h,h',q⟩⟩
theorem pApp {a:Addr}{v:V}:zk (.ref a) [v] H Q=∃ xs,H a=some (.lst xs)/\xs.length<sizeLine/\Q .non (ao H a (.lst (xs++[v]))):=propext ⟨λ⟨_,xs,_,e,e',q⟩=>by cases e;cases e';exact⟨xs,q⟩,λ⟨xs,q⟩=>⟨a,xs,v,rfl,rfl,q⟩⟩
theorem pTup {K:Frag}{n:Nat}{t:mH}{a:Addr}{R:St->Hp->Prop}:ju K n t (.ref a) σ H R=∃ xs,aB K H a xs/\xs.length=n/\t xs σ H R:=propext ⟨λ⟨_,xs,e,q⟩=>by cases e;exact⟨xs,q⟩,λ⟨xs,q⟩=>⟨a,xs,rfl,q⟩⟩
theorem pL1 {α:Type}{a:Addr}{p:Addr->α->Prop}:(∃ b y,[V.ref a]=[V.ref b]/\p b y)=∃ y,p a y:=propext ⟨λ⟨_,y,e,q⟩=>by cases e;exact⟨y,q⟩,λ⟨y,q⟩=>⟨a,y,rfl,q⟩⟩
theorem pL0 {a:Addr}{p:Addr->Prop}:(∃ b,[V.ref a]=[V.ref b]/\p b)=p a:=propext ⟨λ⟨_,e,q⟩=>by cases e;exact q,λq=>⟨a,rfl,q⟩⟩
theorem pLi {a:Int}{p:Int->Prop}:(∃ b,[V.int a]=[V.int b]/\p b)=p a:=propext ⟨λ⟨_,e,q⟩=>by cases e;exact q,λq=>⟨a,rfl,q⟩⟩
theorem pE5 {α β γ δ:Type}{a:Addr}{p:Addr->α->β->γ->δ->Prop}:(∃ b x y z u,V.ref a=V.ref b/\p b x y z u)=∃ x y z u,p a x y z u:=propext ⟨λ⟨_,x,y,z,u,e,q⟩=>by cases e;exact⟨x,y,z,u,q⟩,λ⟨x,y,z,u,q⟩=>⟨a,x,y,z,u,rfl,q⟩⟩
end
def onV:Option (Option V)->(V->Prop)->Prop
 | some (some v),k=>k v
 | _,_=>False
theorem II (v:V)(k:V->Prop):onV (some (some v)) k=k v:=rfl
def tVr (i:Nat):TE:=λσ H Q=>onV σ[i]? λv=>Q v H
theorem ki {i:Nat}{σ:St}{H:Hp}{Q:VK}(h:tVr i σ H Q):dS i σ H Q:=by
 unfold tVr at h;cases e:σ[i]? with
 | none=>rw[e] at h;exact h.elim
 | some o=>
  rw[e] at h;cases o with
  | none=>exact h.elim
  | some v=>exact⟨v,e,h⟩
theorem ae {X:Cx}(i:Nat){x:Str}{pos:Pos}(hN:X.N[i]?=some x:=by rfl)(hv:wZ X.env.scope x:=by first|exact Or.inl rfl|exact Or.inr (Or.inl rfl)|exact Or.inr (Or.inr rfl))(hd:(x == ("__debug__" : Str))=false:=by decide)(hcd:(x == ("__classdict__" : Str))=false:=by decide):PE X (.Name x pos) (tVr i):=λpins s σ H Q I h=>pv i hN hv hd hcd pins s σ H Q I (ki h)
def onI:V->(Int->Prop)->Prop
 | .int i,k=>k i
 | _,_=>False
def onR:V->(Addr->Prop)->Prop
 | .ref a,k=>k a
 | _,_=>False
def onB:V->(Bool->Prop)->Prop
 | .bl b,k=>k b
 | _,_=>False
def on1:List V->(V->Prop)->Prop
 | [y],k=>k y
 | _,_=>False
theorem IC (i:Int)(k:Int->Prop):onI (.int i) k=k i:=rfl
theorem ID (a:Addr)(k:Addr->Prop):onR (.ref a) k=k a:=rfl
theorem Iv (b:Bool)(k:Bool->Prop):onB (.bl b) k=k b:=rfl
theorem Iz (y:V)(k:V->Prop):on1 [y] k=k y:=rfl
theorem nF {x:V}{k:Int->Prop}(h:onI x k):∃ i,x=.int i/\k i:=by
 cases x <;> first|exact⟨_,rfl,h⟩|exact False.elim h
theorem vY {x:V}{k:Addr->Prop}(h:onR x k):∃ a,x=.ref a/\k a:=by
 cases x <;> first|exact⟨_,rfl,h⟩|exact False.elim h
theorem oX {x:V}{k:Bool->Prop}(h:onB x k):∃ b,x=.bl b/\k b:=by
 cases x <;> first|exact⟨_,rfl,h⟩|exact False.elim h
theorem oY {vs:List V}{k:V->Prop}(h:on1 vs k):∃ y,vs=[y]/\k y:=by
 match vs,h with
 | [y],h=>exact⟨y,rfl,h⟩
def rJ0 (g:Int->Int->V):R2:=λx y H Q=>onI x λi=>onI y λj=>Q (g i j) H
def rJ (C:Int->Int->Prop)(g:Int->Int->V):R2:=λx y H Q=>onI x λi=>onI y λj=>C i j/\Q (g i j) H
def rEqJ:R2:=λx y H Q=>onI x λi=>onI y λj=>Q (.bl (decide (i=j))) H
def rNeJ:R2:=λx y H Q=>onI x λi=>onI y λj=>Q (.bl (!decide (i=j))) H
section
variable {X:Cx}{f:Value->Value->Sem Value}
theorem gH {g:Int->Int->V}(h:bY X f (rI0 g)):bY X f (rJ0 g):=λpins s σ H x y v u Q I rx ry q=>h pins s σ H x y v u Q I rx ry (let ⟨i,ei,q⟩:=nF q;let ⟨j,ej,q⟩:=nF q;⟨i,j,ei,ej,q⟩)
theorem opJ {C:Int->Int->Prop}{g:Int->Int->V}(h:bY X f (rI C g)):bY X f (rJ C g):=λpins s σ H x y v u Q I rx ry q=>h pins s σ H x y v u Q I rx ry (let ⟨i,ei,q⟩:=nF q;let ⟨j,ej,q⟩:=nF q;⟨i,j,ei,ej,q⟩)
theorem pZ {i j:Int}:decide (V.int i=V.int j)=decide (i=j):=by
 by_cases c:i=j
 .rw [bR c,bR (by rw[c])]
 .rw [dm c,dm λz=>c (V.int.inj z)]
theorem qW (h:bY X f rEq):bY X f rEqJ:=λpins s σ H x y v u Q I rx ry q=>h pins s σ H x y v u Q I rx ry (by
 refine ar (nF q) λi e91 q1=>?_;obtain rfl:=e91;refine ar (nF q1) λj e92 q2=>?_;obtain rfl:=e92;exact⟨rfl,by rw[pZ];exact q2⟩)
def tTst (t:TE):TT:=λσ H Q=>t σ H λx H'=>onB x λk=>Q k H'
theorem bW {op:CmpOp}{r:R2}{a b:Expr}{ta tb:TE}{pos:Pos}(ho:bY X (compareOp op) r)(ha:PE X a ta)(hb:PE X b tb)(hm:behindInMarks op b=false):PT X (.Compare a [op] [b] pos) (tTst (tOp r ta tb)):=by
 intro pins s σ H Q I h;refine A7 (aN (ha pins s σ H _ I h) λv s1 ⟨x,H1,I1,r1,q1⟩=>aN (hb pins s1 σ H1 _ I1 q1) λu s2 ⟨y,H2,I2,r2,q2⟩=>
  aN (ho pins s2 σ H2 x y v u _ I2 r1 r2 q2) λc s3 ⟨z,H3,I3,r3,q3⟩=>?_) hm
 refine ar (oX q3) λk e q3=>?_;subst e;cases r3;exact iV ⟨H3,I3,q3⟩
def rIxJ (K:Frag):R2:=λx y H Q=>onR x λp=>onI y λi=>∃ xs,aj K H p xs/\∃ v,atI xs i=some v/\Q v H
def rIxTJ (K:Frag):R2:=λx y H Q=>onR x λp=>onI y λi=>∃ xs,aB K H p xs/\∃ v,atI xs i=some v/\Q v H
theorem ixJ {K:Frag}(h:mO X (rIxL K)):mO X (rIxJ K):=λa b pins s σ H x y v u Q I rx ry q=>h a b pins s σ H x y v u Q I rx ry (by
 refine ar (vY q) λp e95 q1=>?_;obtain rfl:=e95;refine ar (nF q1) λi e96 e97=>?_;obtain rfl:=e96;obtain⟨xs,h1,v,h2,q2⟩:=e97;exact⟨p,xs,i,v,rfl,rfl,h1,h2,q2⟩)
theorem cX {K:Frag}(h:mO X (rIxT K)):mO X (rIxTJ K):=λa b pins s σ H x y v u Q I rx ry q=>h a b pins s σ H x y v u Q I rx ry (by
 refine ar (vY q) λp e98 q1=>?_;obtain rfl:=e98;refine ar (nF q1) λi e99 e910=>?_;obtain rfl:=e99;obtain⟨xs,h1,v,h2,q2⟩:=e910;exact⟨p,xs,i,v,rfl,rfl,h1,h2,q2⟩)
def rAppJ:V->List V->Hp->VK->Prop:=λx vs H Q=>onR x λl=>on1 vs λy=>∃ xs,H l=some (.lst xs)/\xs.length<sizeLine/\Q .non (ao H l (.lst (xs++[y])))
theorem mtJ {id:String}(h:xc X id zk):xc X id rAppJ:=λpins s σ H x xs v us Q I rx rv q=>h pins s σ H x xs v us Q I rx rv (by
 refine ar (vY q) λl e911 q1=>?_;obtain rfl:=e911;refine ar (oY q1) λy e912 e913=>?_;obtain rfl:=e912;obtain⟨ys,h1,h2,q2⟩:=e913;exact⟨l,ys,y,rfl,rfl,h1,h2,q2⟩)
def tFldJ (K:Frag)(ta:TE)(f:Str):TE:=λσ H Q=>ta σ H λx H1=>onR x λa=>∃ C dx fs,H1 a=some (.ins C dx fs)/\gE K C/\bK K C f/\∃ v,fs.lookup f=some v/\Q v H1
theorem GF {i:Nat}{σ:St}{H:Hp}{Q Q':VK}(h:tVr i σ H Q)(m:∀ x H1,Q x H1->Q' x H1):tVr i σ H Q':=by
 unfold tVr at *;cases e:σ[i]? with
 | none=>rw[e] at h;exact h.elim
 | some o=>
  rw[e] at h;cases o with
  | none=>exact h.elim
  | some v=>exact m _ _ h
theorem eA {e:Expr}{i:Nat}{f:Str}{pos:Pos}(he:PE X e (tVr i))(hb:attributeBase e f X.env (eval e X.env)=eval e X.env):PE X (.Attribute e f pos) (tFldJ X.K (tVr i) f):=λpins s σ H Q I h=>gM he hb pins s σ H Q I (GF h λx H1 q=>by
 refine ar (vY q) λa e914 e915=>?_;obtain rfl:=e914;obtain⟨C,dx,fs,h1,h2,h3,v,h4,q⟩:=e915;exact⟨a,C,dx,fs,v,rfl,h1,h2,h3,h4,q⟩)
end
end L2
namespace L2
open PySem PySem.Spec PyProof.Rows
section
variable {prog:Program}{w:World}{A:Around}{E:Value->Shared->Prop}{s:Shared}
abbrev Fe (h:Heap)(T:Addr)(a b c:Value):Prop:=h.get? T=some { cls:=.type "tuple",data:=.seq #[a,b,c] }
structure Z3 (h:Heap)(n:Nat)(l1 l2 l3:Nat)(k:Nat)(f:Value):Prop where
 z:IsZip h (n+5) (n+3) (n+4) f
 ti:Fe h (n+3) (.ref n) (.ref (n+1)) (.ref (n+2))
 to:∃ a b c,Fe h (n+4) a b c
 i1:h.IsListIter n l1 k
 i2:h.IsListIter (n+1) l2 k
 i3:h.IsListIter (n+2) l3 k
theorem dA {a b:Nat}(h:a≠b):(a:Addr)≠b:=h
end
end L2
namespace L2
open PySem PySem.Spec PyProof.Rows
def Il (K:Frag)(a b c:Addr):It:=
 ⟨λi H=>∃ xs ys ws x y u,aj K H a xs/\aj K H b ys/\aj K H c ws/\xs[i]?=some x/\ys[i]?=some y/\ws[i]?=some u,λi H v H'=>∃ x y u p,v=.ref p/\H p=none/\H'=ao H p (.tup [x,y,u])/\(∀ xs,aj K H a xs->xs[i]?=some x)/\(∀ ys,aj K H b ys->ys[i]?=some y)/\∀ ws,aj K H c ws->ws[i]?=some u,λi H=>∃ xs,aj K H a xs/\xs.length<=i⟩
section
variable {X:Cx}
def iZ3 (K:Frag)(ta:TA):TI:=λσ H R=>ta σ H λvs H1=>∃ a b c,vs=[.ref a,.ref b,.ref c]/\(∃ xs,aj K H1 a xs)/\(∃ ys,aj K H1 b ys)/\(∃ ws,aj K H1 c ws)/\R (Il K a b c) H1
end
section
variable {K:Frag}{a b c D:Addr}{xs ys ws:List V}{g:TG}{tt:TT}{te:TE}{k:Nat}{fr:List (Str×Nat)}{σ:St}{H1:Hp}{Q:VK}
end
end L2
namespace L3
open Lean.Grind
section
variable {F:Type}[Field F]
structure Ec (L:List (Nat->F))(n r:Nat)(c:Nat->Nat):Prop where
 rl:r<=L.length
 cn:∀ i,i<r->c i<n
 mono:∀ i k,i<k->k<r->c i<c k
 piv:∀ i,i<r->at' L i (c i)≠0
 low:∀ i j,i<r->j<c i->at' L i j=0
 zer:∀ i j,r<=i->i<L.length->j<n->at' L i j=0
theorem Rk.lt {A:Nat->Nat->F}{m n r:Nat}(h:Rk A m n r){v:Nat->F}{j:Nat}(hj:j<n)(hv:v j≠0)(h0:∀ i,i<m->sm n (λb=>A i b*v b)=0):r<n:=by
 obtain⟨P,Q,hp⟩:=h.piv;have le:r<=n:=xR (X:=λi b=>sm m λa=>P i a*A a b) (Y:=Q) λi k hi hk=>by
  rw[<- hp i k hi hk,bF (n:=n) (g:=λb=>sm m λa=>P i a*(A a b*Q b k)) λb _=>by rw[<- gQ];exact bF λa _=>by grind,jT];exact bF λa _=>by rw[fT]
 by_cases e:r=n
 .exfalso;subst e;cases r with
  | zero=>omega
  | succ r=>
   have key:r+1<=r:=xR (X:=λi t=>sm m λa=>P i a*A a (sk j t)) (Y:=λt k=>Q (sk j t) k-v (sk j t) / v j*Q j k) λi k hi hk=>by
    rw[<- hp i k hi hk];have e1:∀ a,a<m->(sm (r+1) λb=>A a b*Q b k)=sm r λt=>A a (sk j t)*(Q (sk j t) k-v (sk j t) / v j*Q j k):=λa ha=>by
     have z:=h0 a ha;rw[ze _ (show j<=r by omega)] at z ⊢;have z':A a j=sm r λt=>(0-1) / v j*(A a (sk j t)*v (sk j t)):=by
      rw[fT]
      grind
     rw[z',<- gQ,<- jR];exact bF λt _=>by grind
    rw[bF (n:=m) (g:=λa=>sm r λt=>P i a*A a (sk j t)*(Q (sk j t) k-v (sk j t) / v j*Q j k)) λa ha=>by
     rw[e1 a ha,<- fT];exact bF λt _=>by grind,jT]
    exact bF λt _=>by rw[gQ]
   omega
 .omega
end
end L3
namespace L2
open PySem PySem.Spec PyProof.Rows
section
variable {X:Cx}
end
end L2
namespace L3
open L2
open Lean.Grind
theorem xX:∀ (N M:Nat) (f:Nat->Nat),N<M->(∀ a,a<M->f a<N)->∃ a b,a<b/\b<M/\f a=f b
 | 0,M,f,h,hf=>absurd (hf 0 h) (sf _)
 | N+1,M,f,h,hf=>by
  by_cases hz:∃ c,c<M/\f c=N
  .obtain ⟨c,hc,e⟩:=hz;by_cases h2:∃ d,d<M/\d≠c/\f d=N
   .obtain ⟨d,hd,ne,e2⟩:=h2;rcases Nat.lt_or_gt_of_ne ne with q|q
    .exact ⟨d,c,q,hc,by rw[e,e2]⟩
    .exact ⟨c,d,q,hd,by rw[e,e2]⟩
   .obtain ⟨a,b,h3,h4,h5⟩:=xX N (M-1) (λa=>f (if a<c then a else a+1)) ∅ λa ha=>by
     have h6:=hf (if a<c then a else a+1) (by split <;> omega);have h7:f (if a<c then a else a+1)≠N:=λz=>h2 ⟨_,by split <;> omega,by split <;> omega,z⟩;omega
    exact⟨if a<c then a else a+1,if b<c then b else b+1,by split <;> split <;> omega,by split <;> omega,h5⟩
  .exact xX N M f ∅ λa ha=>by
    have h6:=hf a ha;have h7:f a≠N:=λz=>hz ⟨a,ha,z⟩;omega
def enc (N:Nat):Nat->(Nat->Nat)->Nat
 | 0,_=>0
 | l+1,y=>enc N l y+y l*2 ^ (N*l)
theorem vQ {N:Nat}{y:Nat->Nat}:∀ {l:Nat},(∀ i,i<l->y i<2 ^ N)->enc N l y<2 ^ (N*l)
 | 0,_=>by show 0<2 ^ (N*0);exact mK _
 | l+1,h=>by
  have h1:=vQ (l:=l) λi hi=>h i ∅;have h2:=h l ∅;show enc N l y+y l*2 ^ (N*l)<_;rw[Nat.mul_add,Nat.mul_one,rY,r9 (2 ^ (N*l))];have h3:(y l+1)*2 ^ (N*l)<=2 ^ N*2 ^ (N*l):=e_ h2 (aI _);rw[iR,mJ] at h3;omega
theorem B3 {N:Nat}{y z:Nat->Nat}:∀ {l:Nat},(∀ i,i<l->y i<2 ^ N)->(∀ i,i<l->z i<2 ^ N)->enc N l y=enc N l z->∀ i,i<l->y i=z i
 | 0,_,_,_,i,hi=>absurd hi (sf _)
 | l+1,hy,hz,e,i,hi=>by
  have h1:=vQ (l:=l) λi hi=>hy i ∅;have h2:=vQ (l:=l) λi hi=>hz i ∅;have e':enc N l y+y l*2 ^ (N*l)=enc N l z+z l*2 ^ (N*l):=e;have ey:y l=z l:=by
   have a1:(enc N l y+y l*2 ^ (N*l)) / 2 ^ (N*l)=y l:=by rw[Nat.add_mul_div_right _ _ (mK _),Nat.div_eq_of_lt h1,Nat.zero_add]
   have a2:(enc N l z+z l*2 ^ (N*l)) / 2 ^ (N*l)=z l:=by rw[Nat.add_mul_div_right _ _ (mK _),Nat.div_eq_of_lt h2,Nat.zero_add]
   rw[<- a1,e',a2]
  by_cases q:i=l
  .rw [q];exact ey
  .refine B3 (l:=l) (λi hi=>hy i ∅) (λi hi=>hz i ∅) ?_ i ∅;rw[ey] at e';omega
def dig (m a i:Nat):Nat:=a / 2 ^ (m*i) % 2 ^ m
theorem xV (m a i:Nat):dig m a i<2 ^ m:=Nat.mod_lt _ (mK _)
theorem Cj {m a b:Nat}:∀ {s:Nat},(∀ i,i<s->dig m a i=dig m b i)->a % 2 ^ (m*s)=b % 2 ^ (m*s)
 | 0,_=>by rw[Nat.mul_zero,Nat.pow_zero,Nat.mod_one,Nat.mod_one]
 | s+1,h=>by
  have h1:=Cj (s:=s) λi hi=>h i ∅;have h2:=h s ∅;unfold dig at h2;rw[Nat.mul_add,Nat.mul_one,rY,Nat.mod_mul,Nat.mod_mul,h1,h2]
def smz:Nat->(Nat->Int)->Int
 | 0,_=>0
 | n+1,f=>smz n f+f n
theorem DU:∀ {n:Nat} {f g:Nat->Int},(∀ i,i<n->f i=g i)->smz n f=smz n g
 | 0,_,_,_=>rfl
 | n+1,f,g,h=>by
  show smz n f+f n=smz n g+g n;rw[DU (λi hi=>h i ∅),h n ∅]
theorem CB:∀ (n:Nat) (f g:Nat->Int),smz n (λi=>f i-g i)=smz n f-smz n g
 | 0,_,_=>rfl
 | n+1,f,g=>by
  show smz n (λi=>f i-g i)+(f n-g n)=smz n f+f n-(smz n g+g n);rw[CB n f g];omega
theorem BM {B:Nat}:∀ {n:Nat} {f:Nat->Int},(∀ i,i<n->(f i).natAbs<=B)->(smz n f).natAbs<=n*B
 | 0,_,_=>by show (0:Int).natAbs<=_;simp
 | n+1,f,h=>by
  have h1:=BM (B:=B) (n:=n) (f:=f) λi hi=>h i ∅;have h2:=h n ∅;have h3:=A_ (smz n f) (f n);show (smz n f+f n).natAbs<=_;rw[iR,mJ];omega
theorem BL {B L n:Nat}{f:Nat->Int}(h:∀ i,i<n->Bt B (f i))(hn:n<=2 ^ L):Bt (B+L) (smz n f):=by
 have h1:=BM (B:=2 ^ B-1) (n:=n) (f:=f) λi hi=>by have:=h i hi;unfold Bt at this;omega
 show (smz n f).natAbs<2 ^ (B+L);rw[rY];have p1:=mK B;have p2:=mK L;have h2:n*(2 ^ B-1)<=2 ^ L*(2 ^ B-1):=e_ hn (aI _);have h3:2 ^ L*(2 ^ B-1)<2 ^ L*2 ^ B:=Nat.mul_lt_mul_of_pos_left ∅ p2;rw[r9 (2 ^ B)];omega
theorem x8 {F:Type}[Field F]:∀ (n:Nat) (f:Nat->Int),(ic (smz n f):F)=sm n λi=>ic (f i)
 | 0,_=>rq
 | n+1,f=>by
  show (ic (smz n f+f n):F)=sm n (λi=>ic (f i))+ic (f n);rw[vS,x8 n f]
theorem siegel {s b L:Nat}{A:Nat->Nat->Int}(hA:∀ i l,i<s+1->l<s->Bt b (A i l))(hs:s+1<=2 ^ L):
  ∃ α:Nat->Int,(∃ i,i<s+1/\α i≠0)/\(∀ i,Bt ((b+L+1)*s+1) (α i))/\∀ l,l<s->smz (s+1) (λi=>α i*A i l)=0:=by
 generalize hm:(b+L+1)*s+1=m;have hd:∀ a i,Bt m ((dig m a i:Nat):Int):=λa i=>by show ((dig m a i:Nat):Int).natAbs<_;rw[Be];exact xV ..
 have hy:∀ a l,l<s->Bt (m+b+L) (smz (s+1) λi=>(dig m a i:Int)*A i l):=λa l hl=>BL (λi hi=>(hd a i).mul (hA i l hi hl)) hs
 let y:Nat->Nat->Nat:=λa l=>((smz (s+1) λi=>(dig m a i:Int)*A i l)+2 ^ (m+b+L)).toNat
 have y1:∀ a l,l<s->y a l<2 ^ (m+b+L+1)/\((y a l:Nat):Int)=(smz (s+1) λi=>(dig m a i:Int)*A i l)+2 ^ (m+b+L):=λa l hl=>by
  have:=hy a l hl;unfold Bt at this;have e:((2 ^ (m+b+L):Nat):Int)=(2:Int) ^ (m+b+L):=Int.natCast_pow 2 _;show ((smz (s+1) λi=>(dig m a i:Int)*A i l)+2 ^ (m+b+L)).toNat<_/\(((smz (s+1) λi=>(dig m a i:Int)*A i l)+2 ^ (m+b+L)).toNat:Int)=_;rw[Nat.pow_succ,<- e];generalize (smz (s+1) λi=>(dig m a i:Int)*A i l)=z at *;generalize (2 ^ (m+b+L):Nat)=q at *;omega
 obtain⟨a,c,hac,hc,e⟩:=xX (2 ^ ((m+b+L+1)*s)) (2 ^ (m*(s+1))) (λa=>enc (m+b+L+1) s (y a)) (uY ⇑0 (by
  rw[show m+b+L+1=m+(b+L+1) by omega,iR,Nat.mul_add,Nat.mul_one];omega)) λa _=>vQ λi hi=>(y1 a i hi).1
 have ey:=B3 (λi hi=>(y1 a i hi).1) (λi hi=>(y1 c i hi).1) e;refine⟨λi=>(dig m a i:Int)-(dig m c i:Int),?_,λi=>?_,λl hl=>?_⟩
 .apply jF;intro z;have h1:a % 2 ^ (m*(s+1))=c % 2 ^ (m*(s+1)):=Cj λi hi=>by
   apply jF;intro q;exact z ⟨i,hi,λw=>q (by have:(dig m a i:Int)-(dig m c i:Int)=0:=w;omega)⟩
  rw[uV ∅,uV hc] at h1;omega
 .have h1:=xV m a i;have h2:=xV m c i;show ((dig m a i:Int)-(dig m c i:Int)).natAbs<2 ^ m;omega
 .have h1:=(y1 a l hl).2;have h2:=(y1 c l hl).2;rw[ey l hl] at h1;have h3:smz (s+1) (λi=>(dig m a i:Int)*A i l)=smz (s+1) λi=>(dig m c i:Int)*A i l:=∅
  rw[DU (g:=λi=>(dig m a i:Int)*A i l-(dig m c i:Int)*A i l) λi _=>by rw[Int.sub_mul],CB,h3];omega
theorem CW {n:Nat}:∀ {zs:List Int} {d:Nat},n ∣ d->(∀ z∈zs,(n:Int) ∣ z)->n ∣ zs.foldl (λd z=>Int.gcd z d) d
 | [],d,hd,_=>hd
 | z::zs,d,hd,h=>CW (zs:=zs) (d:=Int.gcd z d) (Nat.dvd_gcd (Int.ofNat_dvd_left.mp (h z (by simp))) (by simpa using hd)) λy hy=>h y (by simp[hy])
theorem CY {n:Nat}{zs:List Int}(h:∀ z∈zs,(n:Int) ∣ z):n ∣ gcdL zs:=CW (Nat.dvd_zero n) h
def l9 (zs:List Int):Prop:=gcdL zs=1\/∀ z∈zs,z=0
theorem kC {v:List Int}{w:Nat->Int}{γ:Rat}(hv:gcdL v=1)(h:∀ j,((v.getD j 0:Int):Rat)=γ*(w j:Rat))(j:Nat):(v.getD j 0).natAbs<=(w j).natAbs:=by
 have e:∀ j,v.getD j 0*(γ.den:Int)=γ.num*w j:=λj=>by
  have h1:=h j;have h2:(γ.den:Rat)≠0:=by
   have:=γ.den_nz;exact λz=>this (by exact_mod_cast z)
  have h3:γ*(γ.den:Rat)=(γ.num:Rat):=by
   have h4:γ=(γ.num:Rat) / (γ.den:Rat):=by
    rw[<- Rat.intCast_natCast,<- Rat.divInt_eq_div];exact (Rat.num_divInt_den γ).symm
   generalize (γ.num:Rat)=n at *;generalize (γ.den:Rat)=d at *;rw[h4]
   grind
  apply Rat.intCast_inj.mp;rw[Rat.intCast_mul,Rat.intCast_mul,h1,<- h3];have:(((γ.den:Nat):Int):Rat)=(γ.den:Rat):=Rat.intCast_natCast _;rw[this]
  grind
 have d1:γ.num.natAbs ∣ gcdL v:=CY λz hz=>by
  obtain⟨i,hi,rfl⟩:=d9.mp hz;have h1:=e i;rw[dk hi] at h1;have h2:γ.num.natAbs ∣ v[i].natAbs*γ.den:=by
   have:γ.num ∣ v[i]*(γ.den:Int):=⟨w i,h1⟩
   have:=Int.natAbs_dvd_natAbs.mpr this;rwa [jD,Be] at this
  have h3:=Nat.Coprime.dvd_of_dvd_mul_right γ.reduced h2;exact Int.ofNat_dvd_left.mpr h3
 rw[hv] at d1;have n1:=Nat.eq_one_of_dvd_one d1;have h1:=ig Int.natAbs (e j);rw[jD,jD,n1,Be,mJ] at h1;have:=γ.den_pos;rw[<- h1];exact Nat.le_mul_of_pos_right _ this
theorem Gi {s b L:Nat}{G:Nat->List Int}{c:Nat->Nat}{D:Nat->Nat->Rat}{X:Nat->Nat->Rat}{x:Nat->Rat}{v:List Int}(hs:s+1<=2 ^ L)(hG:∀ i,i<s+1->aK b (G i))(hD:∀ i,i<s->∀ j,D i j=sm (s+1) λt=>X i t*vz (G t) j)(tri:∀ i j,j<i->i<s->D i (c j)=0)(piv:∀ i,i<s->D i (c i)≠0)(hv:∀ j,(vz v j:Rat)=sm (s+1) λt=>x t*vz (G t) j)(v0:∀ l,l<s->v.getD (c l) 0=0)(pr:l9 v):aK ((s+1)*(b+L+1)) v:=by
 rcases pr with g1|z0
 .obtain ⟨α,⟨i0,hi0,hα0⟩,hαb,hαe⟩:=siegel (s:=s) (b:=b) (L:=L) (A:=λi l=>(G i).getD (c l) 0) (λi l hi hl=>(hG i hi).at _) hs;obtain⟨u,⟨k0,hk0,hu0⟩,hu⟩:=q_ (F:=Rat) (s+1) (s+2) (λt k=>if k<s then X k t else if k=s then x t else ic (α t)) ∅
  -- in what the rows come of
  have hu':∀ t,t<s+1->(sm s λk=>X k t*u k)+x t*u s+ic (α t)*u (s+1)=0:=λt ht=>by
   have h1:=hu t ht;have h2:sm (s+2) (λk=>(if k<s then X k t else if k=s then x t else ic (α t))*u k)=(sm s λk=>X k t*u k)+x t*u s+ic (α t)*u (s+1):=by
    show sm s _+(if s<s then X s t else if s=s then x t else ic (α t))*u s+(if s+1<s then X (s+1) t else if s+1=s then x t else ic (α t))*u (s+1)=_;rw[if_neg (gX s),if_pos rfl,if_neg ∅,if_neg ∅];congr 2;exact bF λk hk=>by rw[if_pos hk]
   rw[<- h2];exact h1
  -- as rows
  have hr:∀ j,(sm s λk=>D k j*u k)+vz v j*u s+(sm (s+1) λt=>ic (α t)*vz (G t) j)*u (s+1)=0:=λj=>by
   have h1:(sm s λk=>D k j*u k)=sm (s+1) λt=>(sm s λk=>X k t*u k)*vz (G t) j:=by
    rw[bF (g:=λk=>sm (s+1) λt=>X k t*vz (G t) j*u k) λk hk=>by rw[hD k hk j,<- gQ],jT];exact bF λt _=>by
     rw[<- gQ];exact bF λk _=>by grind
   rw[h1,hv j,<- gQ,<- gQ,<- jR,<- jR];rw[bF (g:=λ_=>0) λt ht=>by
    have:=hu' t ht;have e:(sm s λk=>X k t*u k)*vz (G t) j+x t*vz (G t) j*u s+ic (α t)*vz (G t) j*u (s+1)=((sm s λk=>X k t*u k)+x t*u s+ic (α t)*u (s+1))*vz (G t) j:=by grind
    rw[e,this];grind,hO]
  have hw0:∀ l,l<s->(sm (s+1) λt=>ic (α t)*vz (G t) (c l):Rat)=0:=λl hl=>by
   have:=hαe l hl;have h1:=x8 (F:=Rat) (s+1) (λi=>α i*(G i).getD (c l) 0);rw[this,rq] at h1;rw[h1];exact bF λt _=>by rw[d7];rfl
  have uz:∀ k,k<s->u k=0:=by
   intro k
   induction k using Nat.strongRecOn with
   | _ k ih=>
    intro hk;have h1:=hr (c k);rw[hw0 k hk,show (vz v (c k):Rat)=0 from rp (v0 k hk)] at h1;have h2:(sm s λi=>D i (c k)*u i)=D k (c k)*u k:=by
     rw[bF (g:=λi=>if i=k then D i (c k)*u i else 0) λi hi=>by
      by_cases q:i=k
      .rw [if_pos q]
      .rw [if_neg q];rcases Nat.lt_or_gt_of_ne q with q|q
       .rw [ih i q hi];grind
       .rw [tri i k q hi];grind,rj (λi=>D i (c k)*u i) hk]
    rw[h2] at h1;have h3:=piv k hk
    grind
  have hc:∀ t,t<s+1->x t*u s+ic (α t)*u (s+1)=0:=λt ht=>by
   have h1:=hu' t ht;rw[bF (g:=λ_=>0) λk hk=>by rw[uz k hk];grind,hO] at h1
   grind
  have us:u s≠0:=λz=>by
   have h1:u (s+1)≠0:=λz1=>hu0 (by
    by_cases q:k0<s
    .exact uz k0 q
    .by_cases q2:k0=s
     .rw [q2];exact z
     .rw [show k0=s+1 by omega];exact z1)
   have h2:=hc i0 hi0;rw[z] at h2;have h3:(ic (α i0):Rat)≠0:=λq=>hα0 (wb.z0 _ (.inl rfl) q)
   grind
  have key:∀ j,((v.getD j 0:Int):Rat)=-(u (s+1) / u s)*((smz (s+1) λt=>α t*(G t).getD j 0:Int):Rat):=λj=>by
   have h1:(vz v j:Rat)=-(u (s+1) / u s)*sm (s+1) λt=>ic (α t)*vz (G t) j:=by
    rw[hv j,<- fT];exact bF λt ht=>by have:=hc t ht;grind
   have h2:((smz (s+1) λt=>α t*(G t).getD j 0:Int):Rat)=sm (s+1) λt=>ic (α t)*vz (G t) j:=by
    have:=x8 (F:=Rat) (s+1) λt=>α t*(G t).getD j 0;refine Eq.trans this (bF λt _=>by rw[d7];rfl)
   rw[h2];exact h1
  intro z hz;obtain⟨j,hj,rfl⟩:=jz hz 0;have h1:=kC g1 key j;have h2:Bt ((b+L+1)*s+1+b+L) (smz (s+1) λt=>α t*(G t).getD j 0):=BL (λt ht=>(hαb t).mul ((hG t ht).at j)) hs;refine (h2.abs_le h1).le ?_;rw[show (s+1)*(b+L+1)=(b+L+1)*s+(b+L+1) by rw[iR,mJ,r9 s]];omega
 .intro z hz;rw[z0 z hz];exact mK _
theorem DH (zs:List Int):l9 (dt 0 zs):=by
 by_cases hg:gcdL zs=0
 .rw [Af hg];exact .inr λz hz=>Dz hg hz
 .left;have d:gcdL (dt 0 zs)*gcdL zs ∣ gcdL zs:=CY λz hz=>by
   obtain⟨j,hj,rfl⟩:=jz hz 0;have h1:(gcdL (dt 0 zs):Int) ∣ (dt 0 zs).getD j 0:=uu (cq (by rw[Dq];exact hj));rw[wx,if_pos rfl] at h1;have h2:=mN (uu hz);obtain⟨q,hq⟩:=h1;refine⟨q,?_⟩;rw[<- h2,hq,j4]
   grind
  have h1:gcdL (dt 0 zs)*gcdL zs<=1*gcdL zs:=by rw[mJ];exact Nat.le_of_dvd ∅ d
  have h2:=Nat.le_of_mul_le_mul_right h1 ∅;have h3:gcdL (dt 0 zs)≠0:=λz=>by
   rw[z,uT] at d;exact hg (Nat.eq_zero_of_zero_dvd d)
  omega
theorem HF {row lead:List Int}{k:Nat}(h:l9 row):l9 (c_ 0 row lead k):=by
 unfold c_;split
 .exact h
 .exact DH _
theorem gs.mono {F:Type}[Field F]{L L':List (Nat->F)}{v:Nat->F}(h:gs L v)(k:∀ u∈L,u∈L'):gs L' v:=h.trans λu hu=>.mem (k u hu)
theorem D4 {α:Type}{xs:List α}{i j:Nat}{d:α}:(xs.eraseIdx i).getD j d=xs.getD (sk i j) d:=by
 rw[aT,aT,List.getElem?_eraseIdx];unfold sk;split <;> rfl
structure Ij (Z done left od ol:List (List Int)):Prop where
 ld:od.length=done.length
 ll:ol.length=left.length
 zd:∀ z∈od,z∈Z
 zl:∀ z∈ol,z∈Z
 sd:∀ i,i<done.length->gs (F:=Rat) ((od.take (i+1)).map vz) (vz (done.getD i []))
 sl:∀ j,j<left.length->gs (F:=Rat) ((od++[ol.getD j []]).map vz) (vz (left.getD j []))
 pr:∀ row∈done++left,l9 row
theorem Sw.org {W:Nat}{Z:List (List Int)}(hZ:∀ row∈Z,row.length=W/\l9 row){k:Nat}{done left:List (List Int)}{pl:List Nat}(h:Sw 0 Z k done left pl):∃ od ol,Ij Z done left od ol:=by
 have hR:∀ row∈Z,Rw 0 W row:=λrow hr=>⟨(hZ row hr).1,λ_ _=>.inl rfl⟩
 induction h with
 | start=>exact⟨[],Z,rfl,rfl,by simp,λz h=>h,λi hi=>absurd hi (sf _),λj hj=>.mem (by simp),λrow hr=>(hZ row (by simpa using hr)).2⟩
 | skip _ _ ih=>exact ih
 | @take k done left pl i lead sw hi hk ih=>
  obtain⟨od,ol,O⟩:=ih;have I:=sw.inv (rX 0) hR;have hil:i<left.length:=(cj.mp hi).1;have el:left.getD i []=lead:=by rw[aT,hi];rfl
  have lm:lead∈left:=aY hi;have ll:=O.ll;have ld:=O.ld;have sl:=O.sl i hil;rw[el] at sl;refine⟨od++[ol.getD i []],ol.eraseIdx i,by rw[bw,bw,ld];rfl,by rw[aA,vf,vf,ll],λz hz=>?_,λz hz=>O.zl z (nX hz),λa ha=>?_,λj hj=>?_,λrow hr=>?_⟩
  .rcases cf.mp hz with h|h
   .exact O.zd z h
   .rw [cF.mp h];exact O.zl _ (cq ∅)
  .rw [bw] at ha;have ha:a<done.length+1:=ha;by_cases q:a<done.length
   .rw [jU,if_pos q,List.take_append_of_le_length ∅];exact O.sd a q
   .rw [jU,if_neg q,if_pos ∅,Bl (by rw[bw];show od.length+1<=_;omega)];exact sl
  .rw [aA,vf,if_pos hil] at hj;have hs:sk i j<left.length:=by unfold sk;split <;> omega
   have e1:((left.eraseIdx i).map λrow=>c_ 0 row lead k).getD j []=c_ 0 (left.getD (sk i j) []) lead k:=by
    rw[aT,bH,aF (by rw[vf,if_pos hil];exact hj)];show c_ 0 _ lead k=_;rw[<- D4,dk (by rw[vf,if_pos hil];exact hj)]
   rw[e1,D4];obtain⟨a,b,_,e⟩:=rD (p:=0) (F:=Rat) (W:=W) (row:=left.getD (sk i j) []) (lead:=lead) (k:=k) (rX 0) wb (I.rw _ (fZ _ (cq hs))) (I.rw _ (fZ _ lm)) hk;rw[show (vz (c_ 0 (left.getD (sk i j) []) lead k):Nat->Rat)=λx=>a*vz (left.getD (sk i j) []) x+b*vz lead x from funext e];refine .comb a b ((O.sl _ hs).mono λu hu=>?_) (sl.mono λu hu=>?_)
   .rw [dD] at hu;rw[dD,dD];rcases cf.mp hu with h|h
    .exact qI _ (qI _ h)
    .exact fZ _ h
   .rw [dD];exact qI _ hu
  .rcases cf.mp hr with h|h
   .rcases cf.mp h with h|h
    .exact O.pr row (qI _ h)
    .rw [cF.mp h];exact O.pr lead (fZ _ lm)
   .obtain ⟨y,hy,rfl⟩:=cw.mp h;exact HF (O.pr y (fZ _ (nX hy)))
theorem DL {s b L:Nat}{G:List (List Int)}{c:Nat->Nat}{D:Nat->List Int}{v:List Int}(hg:G.length=s+1)(hs:s+1<=2 ^ L)(hG:∀ g∈G,aK b g)(hD:∀ i,i<s->gs (F:=Rat) (G.map vz) (vz (D i)))(tri:∀ i j,j<i->i<s->(D i).getD (c j) 0=0)(piv:∀ i,i<s->(D i).getD (c i) 0≠0)(hv:gs (F:=Rat) (G.map vz) (vz v))(v0:∀ l,l<s->v.getD (c l) 0=0)(pr:l9 v):aK ((s+1)*(b+L+1)) v:=by
 have at1:∀ t,t<s+1->(at' (G.map vz) t:Nat->Rat)=vz (G.getD t []):=λt ht=>by
  unfold at';rw[aT,bH,aF ∅,dk ∅];rfl
 have ln:(G.map (vz (F:=Rat))).length=s+1:=by rw[aA];exact hg
 have co:∀ {u:List Int},gs (F:=Rat) (G.map vz) (vz u)->∃ x:Nat->Rat,∀ j,vz u j=sm (s+1) λt=>x t*vz (G.getD t []) j:=λ{u} h=>by
  obtain⟨x,hx⟩:=h.coef;refine⟨x,λj=>?_⟩;rw[hx j,ln];exact bF λt ht=>by rw[at1 t ht]
 obtain⟨x,hx⟩:=co hv;have hX:∃ X:Nat->Nat->Rat,∀ i,i<s->∀ j,vz (D i) j=sm (s+1) λt=>X i t*vz (G.getD t []) j:=by
  refine⟨λi=>if h:i<s then Classical.choose (co (hD i h)) else λ_=>0,λi hi j=>?_⟩;show _=sm (s+1) λt=>(if h:i<s then Classical.choose (co (hD i h)) else λ_=>0) t*vz (G.getD t []) j;rw[dif_pos hi];exact A4 (co (hD i hi)) j
 obtain⟨X,hX⟩:=hX;exact Gi (G:=λt=>G.getD t []) (D:=λi=>vz (D i)) hs (λi hi=>hG _ (cq ∅)) hX (λi j h1 h2=>rp (tri i j h1 h2)) (λi hi z=>piv i hi (wb.z0 _ (.inl rfl) z)) hx v0 pr
theorem w4.pl_le {p:Int}{W:Nat}{Z:List (List Int)}{k:Nat}{done left:List (List Int)}{pl:List Nat}(I:w4 p W Z k done left pl):pl.length<=k:=by
 have key:∀ i,i<pl.length->i<=pl.getD i 0:=by
  intro i
  induction i with
  | zero=>intro _;omega
  | succ i ih=>
   intro h;have a:=ih ∅;have b:=I.asc i (i+1) ∅ h;omega
 by_cases h:pl.length=0
 .omega
 .have a:=key (pl.length-1) ∅;have b:=I.lt (pl.length-1) ∅;omega
section
variable {W wide b L R:Nat}{Z:List (List Int)}(hZ:∀ row∈Z,row.length=W/\l9 row)(hb:∀ row∈Z,aK b row)(hR:Z.length<=R\/wide+1<=R)(hL:R<=2 ^ L)
include hZ hb hR hL
theorem sL {k:Nat}{done left:List (List Int)}{pl:List Nat}(hk:k<=wide)(sw:Sw 0 Z k done left pl):∀ row∈done++left,aK (R*(b+L+1)) row:=by
 have I:=sw.inv (W:=W) (rX 0) λrow hr=>⟨(hZ row hr).1,λ_ _=>.inl rfl⟩
 obtain⟨od,ol,O⟩:=sw.org hZ;have e1:=I.len;have e2:=I.all;have e3:=I.pl_le;have ld:=O.ld;have ll:=O.ll;intro row hr;rcases cf.mp hr with h|h
 .obtain ⟨i,hi,rfl⟩:=jz h [];have hi':i+1<=R:=by rcases hR with q|q <;> omega
  refine (DL (s:=i) (b:=b) (L:=L) (G:=od.take (i+1)) (c:=λl=>pl.getD l 0) (D:=λl=>done.getD l []) (by rw[ij];omega) (cx hi' hL) (λg hg=>hb g (O.zd g (uZ hg))) (λl hl=>(O.sd l ∅).mono λu hu=>?_) (λl j h1 h2=>I.low l _ ∅ (I.asc j l h1 ∅)) (λl hl=>I.piv l ∅) (O.sd i hi) (λl hl=>I.low i _ ∅ (I.asc l i hl ∅)) (O.pr _ hr)).le (e_ hi' (aI _));obtain⟨y,hy,rfl⟩:=cw.mp hu;exact cw.mpr ⟨y,(List.take_subset_take_left od (show l+1<=i+1 by omega)) hy,rfl⟩
 .obtain ⟨j,hj,rfl⟩:=jz h [];have hi':pl.length+1<=R:=by rcases hR with q|q <;> omega
  refine (DL (s:=pl.length) (b:=b) (L:=L) (G:=od++[ol.getD j []]) (c:=λl=>pl.getD l 0) (D:=λl=>done.getD l []) (by rw[bw];show od.length+1=_;omega) (cx hi' hL) (λg hg=>?_) (λl hl=>(O.sd l ∅).mono λu hu=>?_) (λl j h1 h2=>I.low l _ ∅ (I.asc j l h1 ∅)) (λl hl=>I.piv l ∅) (O.sl j hj) (λl hl=>I.zer _ h _ (I.lt l hl)) (O.pr _ hr)).le (e_ hi' (aI _))
  .rcases cf.mp hg with h|h
   .exact hb g (O.zd g h)
   .rw [cF.mp h];exact hb _ (O.zl _ (cq ∅))
  .obtain ⟨y,hy,rfl⟩:=cw.mp hu;exact cw.mpr ⟨y,qI _ (uZ hy),rfl⟩
omit hb hR hL in
end
end L3
namespace L2
open PySem PySem.Spec PyProof.Rows
def vj (K:Frag)(H:Hp)(n:Nat)(x y:V)(b:Bool):Prop:=∀ (X:Cx) (pins:List (Addr×Obj)) (σ:St) (s:Shared),X.K=K->au X pins σ H s->∀ (A:Around) (u v:Value),A.units+n<cLine->aG x u->aG y v->SeqAt.EqAt A s u v b
def rS (K:Frag)(H:Hp)(n:Nat)(x y:V)(b:Bool):Prop:=∀ (X:Cx) (pins:List (Addr×Obj)) (σ:St) (s:Shared),X.K=K->au X pins σ H s->∀ (A:Around) (u v:Value),A.units+n<cLine->aG x u->aG y v->SeqAt.RcAt A s u v b
def rEqG (K:Frag):R2:=λx y H Q=>∃ b,rS K H 8 x y b/\Q (.bl b) H
theorem oW {X:Cx}(hu:X.A.units+8<cLine):bY X (compareOp .Eq) (rEqG X.K):=by
 intro pins s σ H x y v u Q I rx ry h;obtain⟨b,hb,q⟩:=h;exact hb X pins σ s rfl I X.A _ _ hu rx ry _ _ _ _ ⟨.bl b,H,I,rfl,q⟩
inductive Kd (K:Frag) (H:Hp):V->Nat->Prop where
 | non:Kd K H .non 0
 | bl (b:Bool):Kd K H (.bl b) 1
 | int (i:Int):Kd K H (.int i) 2
 | str (z:Str):Kd K H (.str z) 3
 | lst {a:Addr} {xs:List V} (h:aj K H a xs):Kd K H (.ref a) 4
 | tup {a:Addr} {xs:List V} (h:aB K H a xs):Kd K H (.ref a) 5
theorem wo {i:Str}{u:Value}(h:aG (.str i) u):∃ t,u=.str i t:=by simpa [aG] using h
section
variable {K:Frag}{H:Hp}
inductive rW (s:Shared):Value->Nat->Prop where
 | non:rW s .none 0
 | bl (b:Bool):rW s (.bool b) 1
 | int (i:Int) (t:Tok):rW s (.int i t) 2
 | str (z:Str) (t:Tok):rW s (.str z t) 3
 | lst {l:Addr} {items:Array Value} (h:s.heap.IsList l items):rW s (.ref l) 4
 | tup {l:Addr} {items:Array Value} (h:s.heap.IsTuple l items):rW s (.ref l) 5
theorem rS.str {n:Nat}(a b:Str):rS K H n (.str a) (.str b) (a == b):=λX pins σ s hK I A u v hu ru rv=>by
 obtain⟨t,rfl⟩:=wo ru;obtain⟨t',rfl⟩:=wo rv;exact SeqAt.RcAt.str_str _ _ _ _
theorem vj.str {n:Nat}(a b:Str):vj K H n (.str a) (.str b) (a == b):=λX pins σ s hK I A u v hu ru rv=>by
 obtain⟨t,rfl⟩:=wo ru;obtain⟨t',rfl⟩:=wo rv;exact SeqAt.EqAt.str_str _ _ _ _
theorem pS {X:Cx}{pins:List (Addr×Obj)}{σ:St}{s:Shared}(I:au X pins σ H s){A:Around}{n:Nat}(hu:A.units+n<cLine){e:Nat->Bool}:∀ {xs ys:List V} {us vs:List Value},av xs us->av ys vs->(∀ (j:Nat) x y,xs[j]?=some x->ys[j]?=some y->vj X.K H n x y (e j))->∀ j (h1:j<us.toArray.size) (h2:j<vs.toArray.size),SeqAt.EqAt A s us.toArray[j] vs.toArray[j] (e j):=λ{xs ys us vs} r1 r2 he j h1 h2=>by
 have l1:=r1.length;have l2:=r2.length;simp only[dh] at h1 h2;have e1:xs[j]?=some (xs[j]'(cM l1 h1)):=aF _;have e2:ys[j]?=some (ys[j]'(cM l2 h2)):=aF _;obtain⟨w1,f1,q1⟩:=r1.get e1;obtain⟨w2,f2,q2⟩:=r2.get e2;refine he j _ _ e1 e2 X pins σ s rfl I A _ _ hu ?_ ?_
 .rw [aF (oz69 h1)] at f1;cases f1;exact q1
 .rw [aF (oz69 h2)] at f2;cases f2;exact q2
theorem rS.tup1 {n:Nat}{a c:Addr}{x y:V}{xs:List V}{b:Bool}(ha:aB K H a (x::xs))(hc:aB K H c [y])(he:vj K H n x y b):rS K H (n+1) (.ref a) (.ref c) (b && decide (xs.length=0)):=λX pins σ s hK I A u v hu ru rv=>by
 subst hK;cases ru;cases rv;obtain⟨its,r1,p1,_⟩:=I.tuple ha;obtain⟨its',r2,p2,_⟩:=I.tuple hc;have e1:=r1.length;have e2:=r2.length;simp only[iU,qK] at e1 e2;have q:=SeqAt.RcAt.tuples (A:=A) (e:=λ_=>b) p1 p2 ∅ (pS (A:=A.in1) I (show A.units+1+n<cLine by omega) r1 r2 λj x' y' f1 f2=>by
  match j,f1,f2 with
  | 0,f1,f2=>cases f1;cases f2;exact he
  | j+1,_,f2=>cases f2)
 rw[show min its.toArray.size its'.toArray.size=1 by simp;exact oz48 e1 e2,show (its.toArray.size == its'.toArray.size)=decide (xs.length=0) by rw[nQ,dY,Bc];simp only[dh];exact oz71 e1 e2] at q;rwa [show (List.range 1).all (λ_=>b)=b by cases b <;> rfl] at q
end
end L2
set_option maxHeartbeats 4000000
open PySem L2 PyProof.Rows
local macro_rules|`($i>>>$n)=>`(@qA _ _ $i _ $n rfl (Or.inl rfl) (Or.inl rfl))
local macro_rules|`($i<<<$l)=>`(@qA _ _ $i _ (show (($l) : List Str).Nodup by decide +kernel) rfl (Or.inl rfl) (Or.inr rfl))
local macro_rules|`($i|||$n|||$x)=>`(hV (i:=$i) $n rfl (Or.inl rfl) $x)
local macro_rules|`($a^^^$b)=>`(@H_ _ _ _ _ _ $a $b (by rfl))
local macro_rules|`($c<$>$h<$>$x)=>`(Ia $c ($h).m rfl $x)
local macro_rules | `($a<&>$b)=>`(@xM _ _ _ _ _ $a $b ⇑1)
local macro_rules | `($a<*>$b)=>`(@FZ _ _ _ _ _ $a $b)
local macro_rules | `($o<|>$a<&&>$b)=>`(@sO _ _ _ _ _ _ _ _ $o $a $b)
local macro_rules | `($o<|>$a<||>$b)=>`(@sP _ _ _ _ _ _ _ $o $a $b (λ_ _=>rfl))
local macro_rules | `(~~~$x)=>`(@bE _ _ _ (@oH _ _ _ _ $x))
local macro_rules | `(tactic| walk_at "wp")=>do
 let f (s:String):=(s.splitOn " ").toArray.map λx=>Lean.mkIdent x.toName
 let a:=f "tv0 tv1 tv2 tv3 tv4 tv5 tv6 tv7 tv8 tv9 tv10 tv11 tv12 tv13 pI0 pI pU pIxL pIxT pEb pEi pEr pEqT pEqL pSlL pCat pApp pTup pL1 pL0 pLi pE5 p_ tIfS BZ tOp tUn tVr II IC ID Iv Iz rJ0 rJ rEqJ rNeJ tTst rIxJ rIxTJ rAppJ tFldJ tC tCB iH ng tRet tRetN tNext tDrop tAsg tAug ipI cg ju iG mi gSub tTup tLst tSl IE tPart Do vM tBM tBM0 tPar tB tAnd tOr tNot tAndV tOrV tNotV tIf dr ym yo tFld sFld tAugS rGetL rI0 rI rU rIxL rIxT rSetL rSlL zk rEqG iZ3 G8 iEnm iRvl tLE gSl0 tMinL rBits tTry hEnds Iw Bx Bw rCat rEq rNe rEqL qR rIn IG IF IH xS iTup xT BY cV Fo Fn Iy E0 L2.start"
 let b:=f "dS List.map List.length List.replicate List.cons_append List.nil_append List.getElem?_cons_zero List.getElem?_cons_succ List.set_cons_zero List.set_cons_succ"
 let c:=f "nT Option.some.injEq exists_eq_left' exists_eq_left exists_and_left V.int.injEq V.bl.injEq V.ref.injEq V.ty.injEq List.cons.injEq reduceCtorEq false_and and_false exists_false or_false false_or and_true true_and Nat.reduceSub Nat.reduceAdd Nat.reduceLT eZ if_false Bool.false_eq_true"
 `(tactic| ((try dsimp only [$[↓$a:term],*,$[$b:term],*]);(try simp only[$[↓$a:term],*,$[$b:term],*,$[$c:term],*])))
namespace Pf
open PySem L2 PyProof.Rows
def top (i:Nat):Stmt:=PySem.Challenge.pw_limbtables_k66_papers_of_the_fixed.main.body.getD i (.Pass ⟨0,0,0,0⟩)
abbrev wR:Stmt:=top 11
abbrev Aw:Stmt:=top 20
abbrev zJ:Stmt:=top 21
abbrev AA:Stmt:=rB (top 22) 0
abbrev Ay:Stmt:=top 12
abbrev Ax:Stmt:=top 13
abbrev Ac:Stmt:=top 14
abbrev Av:Stmt:=top 15
abbrev AH:Stmt:=top 16
abbrev zL:Stmt:=top 27
abbrev zb:Stmt:=top 28
abbrev Ae:Stmt:=top 32
abbrev zc:Stmt:=top 36
abbrev zo:Stmt:=top 37
abbrev qz:Stmt:=top 38
abbrev yD:Stmt:=top 39
abbrev yp:Stmt:=top 40
abbrev zW:Stmt:=top 42
abbrev Ao:Stmt:=top 43
abbrev Ah:Stmt:=top 44
abbrev As:Stmt:=rB (top 45) 0
abbrev Ad:Stmt:=top 46
abbrev AD:Stmt:=top 49
abbrev Az:Stmt:=top 50
abbrev Am:Stmt:=top 51
abbrev Ai:Stmt:=top 52
abbrev zA:Stmt:=top 61
abbrev zK:Stmt:=top 64
abbrev AE:Stmt:=top 65
abbrev zV:Stmt:=top 66
abbrev zp:Stmt:=top 67
abbrev zB:Stmt:=top 68
abbrev An:Stmt:=top 69
abbrev Al:Stmt:=rB (top 70) 0
abbrev je:Stmt:=rB (top 70) 1
abbrev AB:Stmt:=rB (top 70) 3
abbrev AG:Stmt:=rB (top 70) 6
abbrev zO:Stmt:=top 72
abbrev zr:Stmt:=top 73
abbrev zQ:Stmt:=top 74
abbrev zu:Stmt:=top 75
abbrev wW:Stmt:=top 76
abbrev AF:Stmt:=top 77
abbrev Aj:Stmt:=top 78
abbrev zq:Stmt:=top 79
abbrev zz:Stmt:=top 80
abbrev zw:Stmt:=top 81
abbrev zN:Stmt:=top 82
abbrev zT:Stmt:=top 83
abbrev Ab:Stmt:=top 84
abbrev zP:Stmt:=top 85
abbrev Ar:Stmt:=top 86
abbrev Aq:Stmt:=top 87
abbrev AC:Stmt:=top 88
abbrev Ap:Stmt:=top 89
abbrev zZ:Stmt:=top 90
abbrev zt:Stmt:=top 91
abbrev AI:Stmt:=top 92
abbrev Aa:Stmt:=top 93
abbrev zS:Stmt:=top 94
abbrev z_:Stmt:=top 95
abbrev Au:Stmt:=top 96
abbrev mm:Stmt:=top 97
theorem wV:ag ["thing"] ["thing"] (aR wR):=⟨rfl,rfl,rfl,⋯,rfl,⋯,⋯⟩
theorem EX:ag ["many","arrows"] ["many","arrows"] (aR Aw):=⟨rfl,rfl,rfl,⋯,rfl,⋯,⋯⟩
theorem Es:ag ["many","thing"] ["many","thing"] (aR zJ):=⟨rfl,rfl,rfl,⋯,rfl,⋯,⋯⟩
theorem EN:ag ["self","many","arrows"] ["self","many","arrows"] (aR AA):=⟨rfl,rfl,rfl,⋯,rfl,⋯,⋯⟩
theorem EZ:ag ["one","other"] ["one","other"] (aR Ay):=⟨rfl,rfl,rfl,⋯,rfl,⋯,⋯⟩
theorem EY:ag ["one","other"] ["one","other"] (aR Ax):=⟨rfl,rfl,rfl,⋯,rfl,⋯,⋯⟩
theorem EE:ag ["one","other","shift","a","b","c","d"] ["one","other"] (aR Ac):=⟨rfl,rfl,rfl,⋯,rfl,⋯,⋯⟩
theorem E8:ag ["one","other","a","b","c","d","many"] ["one","other"] (aR Av):=⟨rfl,rfl,rfl,⋯,rfl,⋯,⋯⟩
theorem E9:ag ["one","other"] ["one","other"] (aR AH):=⟨rfl,rfl,rfl,⋯,rfl,⋯,⋯⟩
theorem Eu:ag ["ground","thing","high","wide","rows"] ["ground","thing"] (aR zL):=⟨rfl,rfl,rfl,⋯,rfl,⋯,⋯⟩
theorem DI:ag ["ground","wide","thing"] ["ground","wide","thing"] (aR zb):=⟨rfl,rfl,rfl,⋯,rfl,⋯,⋯⟩
theorem EG:ag ["ground","row","bottom","number"] ["ground","row"] (aR Ae):=⟨rfl,rfl,rfl,⋯,rfl,⋯,⋯⟩
theorem DJ:ag ["ground","row","divisor","number"] ["ground","row"] (aR zc):=⟨rfl,rfl,rfl,⋯,rfl,⋯,⋯⟩
theorem D8:ag ["ground","row","lead","place","divisor","keep","take"] ["ground","row","lead","place"] (aR zo):=⟨rfl,rfl,rfl,⋯,rfl,⋯,⋯⟩
theorem EW:ag ["rows","place","found"] ["rows","place"] (aR qz):=⟨rfl,rfl,rfl,⋯,rfl,⋯,⋯⟩
theorem Dj:ag ["ground","rows","wide","done","left","places","place","at","lead"] ["ground","rows","wide"] (aR yD):=⟨rfl,rfl,rfl,⋯,rfl,⋯,⋯⟩
theorem CI:ag ["ground","table"] ["ground","table"] (aR yp):=⟨rfl,rfl,rfl,⋯,rfl,⋯,⋯⟩
theorem Em:ag ["drawing","thing"] ["drawing","thing"] (aR zW):=⟨rfl,rfl,rfl,⋯,rfl,⋯,⋯⟩
theorem ES:ag ["ground","high","wide","thing"] ["ground","high","wide","thing"] (aR Ao):=⟨rfl,rfl,rfl,⋯,rfl,⋯,⋯⟩
theorem EK:ag ["ground","drawing","sizes","thing"] ["ground","drawing","sizes","thing"] (aR Ah):=⟨rfl,rfl,rfl,⋯,rfl,⋯,⋯⟩
theorem E6:ag ["self","ground","drawing","sizes","tables"] ["self","ground","drawing","sizes","tables"] (aR As):=⟨rfl,rfl,rfl,⋯,rfl,⋯,⋯⟩
theorem EF:ag ["standing","ground","drawing"] ["standing","ground","drawing"] (aR Ad):=⟨rfl,rfl,rfl,⋯,rfl,⋯,⋯⟩
theorem E3:ag ["one","other","starts","wide","high"] ["one","other"] (aR AD):=⟨rfl,rfl,rfl,⋯,rfl,⋯,⋯⟩
theorem E1:ag ["one","other","at","row_place","column_place","ground","starts","tail","head","found","k","number","row","place"] ["one","other","at","row_place","column_place"] (aR Az):=⟨rfl,rfl,rfl,⋯,rfl,⋯,⋯⟩
theorem EJ:ag ["one","other","rows","at","tail","head","row_place","column_place"] ["one","other"] (aR Am):=⟨rfl,rfl,rfl,⋯,rfl,⋯,⋯⟩
theorem EL:ag ["one","other","table"] ["one","other"] (aR Ai):=⟨rfl,rfl,rfl,⋯,rfl,⋯,⋯⟩
theorem Eg:ag ["standing","paper"] ["standing","paper"] (aR zA):=⟨rfl,rfl,rfl,⋯,rfl,⋯,⋯⟩
theorem Et:ag ["number"] ["number"] (aR zK):=⟨rfl,rfl,rfl,⋯,rfl,⋯,⋯⟩
theorem E4:ag ["thing"] ["thing"] (aR AE):=⟨rfl,rfl,rfl,⋯,rfl,⋯,⋯⟩
theorem Er:ag ["top","bottom","divisor"] ["top","bottom"] (aR zV):=⟨rfl,rfl,rfl,⋯,rfl,⋯,⋯⟩
theorem D9:ag ["rest","prime","low","high","low_times","high_times","many"] ["rest","prime"] (aR zp):=⟨rfl,rfl,rfl,⋯,rfl,⋯,⋯⟩
theorem Eh:ag ["top","bottom","prime","below"] ["top","bottom","prime"] (aR zB):=⟨rfl,rfl,rfl,⋯,rfl,⋯,⋯⟩
theorem ER:ag ["thing","top","bottom"] ["thing"] (aR An):=⟨rfl,rfl,rfl,⋯,rfl,⋯,⋯⟩
theorem EI:ag ["self","prime"] ["self","prime"] (aR Al):=⟨rfl,rfl,rfl,⋯,rfl,⋯,⋯⟩
theorem E5:ag ["self","top","bottom"] ["self","top","bottom"] (aR je):=⟨rfl,rfl,rfl,⋯,rfl,⋯,⋯⟩
theorem EO:ag ["self","a","b"] ["self","a","b"] (aR AB):=⟨rfl,rfl,rfl,⋯,rfl,⋯,⋯⟩
theorem Fc:ag ["self","thing"] ["self","thing"] (aR AG):=⟨rfl,rfl,rfl,⋯,rfl,⋯,⋯⟩
theorem Ex:ag ["_law_script","_law_k"] ["_law_script","_law_k"] (aR zO):=⟨rfl,rfl,rfl,⋯,rfl,⋯,⋯⟩
theorem Ea:ag ["_law_cell_here"] ["_law_cell_here"] (aR zr):=⟨rfl,rfl,rfl,⋯,rfl,⋯,⋯⟩
theorem Ez:ag ["_law_bag_here","_law_many","_law_found"] ["_law_bag_here","_law_many"] (aR zQ):=⟨rfl,rfl,rfl,⋯,rfl,⋯,⋯⟩
theorem Ed:ag ["_law_one","_law_two","_law_rest"] ["_law_one","_law_two"] (aR zu):=⟨rfl,rfl,rfl,⋯,rfl,⋯,⋯⟩
theorem wX:ag ["_law_top","_law_bottom","_law_both"] ["_law_top","_law_bottom"] (aR wW):=⟨rfl,rfl,rfl,⋯,rfl,⋯,⋯⟩
theorem Fb:ag ["_law_bag_here"] ["_law_bag_here"] (aR AF):=⟨rfl,rfl,rfl,⋯,rfl,⋯,⋯⟩
theorem EM:ag ["_law_bag_here","_law_p"] ["_law_bag_here","_law_p"] (aR Aj):=⟨rfl,rfl,rfl,⋯,rfl,⋯,⋯⟩
theorem D_:ag ["_law_p","_law_a","_law_b"] ["_law_p","_law_a","_law_b"] (aR zq):=⟨rfl,rfl,rfl,⋯,rfl,⋯,⋯⟩
theorem Ef:ag ["_law_p","_law_a","_law_b"] ["_law_p","_law_a","_law_b"] (aR zz):=⟨rfl,rfl,rfl,⋯,rfl,⋯,⋯⟩
theorem Ee:ag ["_law_p","_law_k"] ["_law_p","_law_k"] (aR zw):=⟨rfl,rfl,rfl,⋯,rfl,⋯,⋯⟩
theorem Ew:ag ["_law_p","_law_a"] ["_law_p","_law_a"] (aR zN):=⟨rfl,rfl,rfl,⋯,rfl,⋯,⋯⟩
theorem EB:ag ["_law_bag_here","_law_p","_law_high","_law_wide","_law_thin","_law_rows_here","_law_i","_law_row","_law_j","_law_number_here"] ["_law_bag_here","_law_p","_law_high","_law_wide"] (aR zT):=⟨rfl,rfl,rfl,⋯,rfl,⋯,⋯⟩
theorem ED:ag ["_law_bag_here","_law_p","_law_high","_law_wide","_law_rows_here","_law_a"] ["_law_bag_here","_law_p","_law_high","_law_wide"] (aR Ab):=⟨rfl,rfl,rfl,⋯,rfl,⋯,⋯⟩
theorem Ey:ag ["_law_table_here"] ["_law_table_here"] (aR zP):=⟨rfl,rfl,rfl,⋯,rfl,⋯,⋯⟩
theorem EV:ag ["_law_p","_law_table_here","_law_high","_law_wide","_law_rows_here","_law_done","_law_column","_law_some","_law_back_here","_law_k","_law_less"] ["_law_p","_law_table_here"] (aR Ar):=⟨rfl,rfl,rfl,⋯,rfl,⋯,⋯⟩
theorem EU:ag ["_law_bag_here","_law_many","_law_way","_law_pairs","_law_k","_law_one","_law_arrows","_law_other","_law_turn"] ["_law_bag_here"] (aR Aq):=⟨rfl,rfl,rfl,⋯,rfl,⋯,⋯⟩
theorem E2:ag ["_law_bag_here","_law_p","_law_many","_law_arrows","_law_sizes","_law_left","_law_k","_law_tables"] ["_law_bag_here","_law_p","_law_many","_law_arrows"] (aR AC):=⟨rfl,rfl,rfl,⋯,rfl,⋯,⋯⟩
theorem ET:ag ["_law_p","_law_arrow","_law_k","_law_one","_law_other","_law_spot","_law_starts","_law_here","_law_there","_law_row","_law_tail","_law_head","_law_j","_law_at","_law_less"] ["_law_p","_law_arrow","_law_k","_law_one","_law_other","_law_spot"] (aR Ap):=⟨rfl,rfl,rfl,⋯,rfl,⋯,⋯⟩
theorem En:ag ["_law_p","_law_arrows","_law_one","_law_other","_law_rows_here","_law_k","_law_arrow","_law_i","_law_j","_law_many"] ["_law_p","_law_arrows","_law_one","_law_other"] (aR zZ):=⟨rfl,rfl,rfl,⋯,rfl,⋯,⋯⟩
theorem Eb:ag ["_law_p","_law_many","_law_arrows","_law_first","_law_last","_law_sizes","_law_tables","_law_tail","_law_head","_law_row"] ["_law_p","_law_many","_law_arrows","_law_first","_law_last"] (aR zt):=⟨rfl,rfl,rfl,⋯,rfl,⋯,⋯⟩
theorem E_:ag ["_law_bag_here","_law_many","_law_arrows","_law_k"] ["_law_bag_here"] (aR AI):=⟨rfl,rfl,rfl,⋯,rfl,⋯,⋯⟩
theorem Ep:ag ["_law_p","_law_arrows","_law_many","_law_standings","_law_sizes","_law_tables","_law_k","_law_tail","_law_head","_law_rows_here","_law_ahead","_law_one","_law_behind","_law_row"] ["_law_p","_law_arrows","_law_many","_law_standings"] (aR Aa):=⟨rfl,rfl,rfl,⋯,rfl,⋯,⋯⟩
theorem EA:ag ["_law_ground","_law_drawing_here","_law_standing_here"] ["_law_ground","_law_drawing_here","_law_standing_here"] (aR zS):=⟨rfl,rfl,rfl,⋯,rfl,⋯,⋯⟩
theorem Eo:ag ["_law_ground","_law_drawing_here","_law_p","_law_arrows","_law_standing_here","_law_due","_law_found"] ["_law_ground","_law_drawing_here","_law_p","_law_arrows","_law_standing_here"] (aR z_):=⟨rfl,rfl,rfl,⋯,rfl,⋯,⋯⟩
theorem E7:ag ["_law_bag_here","_law_ground","_law_p","_law_many","_law_arrows","_law_drawing_here","_law_first","_law_last","_law_bar_here","_law_some"] ["_law_bag_here","_law_ground","_law_p"] (aR Au):=⟨rfl,rfl,rfl,⋯,rfl,⋯,⋯⟩
theorem BI:ag ["_law_script","_law_cell_here","_law_bag_here","_law_p","_law_many","_law_arrows","_law_standing_here","_law_ground","_law_drawing_here","_law_twice"] ["_law_script"] (aR mm):=⟨rfl,rfl,rfl,⋯,rfl,⋯,⋯⟩
structure bp (K:Frag)(mg:Str->Option Value)(C G S:Addr):Prop where
 cl_Drawing:gE K C
 nM:bK K C "many"
 nA:bK K C "arrows"
 cl_Ground:gE K G
 nP:bK K G "prime"
 cl_Standing:gE K S
 nSg:bK K S "ground"
 nSd:bK K S "drawing"
 nSs:bK K S "sizes"
 nSt:bK K S "tables"
 n_len:mg "len" = none
 n_range:mg "range" = none
 n_list:mg "list" = none
 n_min:mg "min" = none
 n_int:mg "int" = none
 n_bool:mg "bool" = none
 n_tuple:mg "tuple" = none
 n_all:mg "all" = none
 n_isinstance:mg "isinstance" = none
 n_abs:mg "abs" = none
 n_zip:mg "zip" = none
 n_enumerate:mg "enumerate" = none
 n_reversed:mg "reversed" = none
 n_sum:mg "sum" = none
 n_any:mg "any" = none
 g_MOST_POINTS:∃ t,mg "MOST_POINTS" = some (.int 8 t)
 g_MOST_ARROWS:∃ t,mg "MOST_ARROWS" = some (.int 9 t)
 g_LARGEST_PRIME:∃ t,mg "LARGEST_PRIME" = some (.int 97 t)
 g_LONG:∃ t,mg "LONG" = some (.int 4000 t)
 g_LEADING:∃ t,mg "LEADING" = some (.int 126 t)
 g_Standing:mg "Standing" = some (.ref S)
 ic1:PySem.W.findIn K (.ref S) "__class__" = some (some (.builtin "object.__class__"))
 ic2:PySem.W.specialIn K (.builtin "object.__class__") "__get__" = some (some (.builtin "getset_descriptor.__get__"))
 ic3:PySem.W.takesIn K (.builtin "object.__class__")=some true
 ic4:PySem.W.mroIn K S (.type "object")=some true
def m9 (a b:Int):HO:=.lst [.int a,.int b]
def a_ (H:Hp)(l:Addr):Prop:=∃ a b:Int,H l=some (m9 a b)/\0<=b/\b<2147483647
def ya (K:Frag):Sp:=λvs H Q _=>∃ (a:Addr) (ns:List Int) (k:Int),vs=[.ref a,.int k]/\aj K H a (ns.map V.int)/\ns.length<=63/\0<=k/\∀ c,Q (.int c) H
def spBag:Sp:=λvs H Q _=>∃ c:Int,vs=[.int c]/\∀ (l:Addr) (a b:Int),H l=none->0<=b->b<2147483647->Q (.ref l) (ao H l (m9 a b))
def iK:Sp:=λvs H Q _=>∃ (l:Addr) (a b n:Int),vs=[.ref l,.int n]/\H l=some (m9 a b)/\0<=b/\b<2147483647/\0<n/\n<1000000000 /\
 ∀ (r a' b':Int),0<=r->r<n->0<=b'->b'<2147483647->Q (.int r) (ao H l (m9 a' b'))
section
variable {C G S:Addr}
theorem lu (F:bc K "_law_cell" "_law_cell" zO f fd)(T:bp K mg C G S):ax P w K mg base aW 1 f fd ["_law_script","_law_k"] (ya K):=by
 have nd:=Ex.nd;refine F.ok Ex (λvs H Q E h=>?_) (λcdv A outer s H vs Q E hr h=>?_)
 .refine gK h λa ns k e91 _=>?_;clear h;obtain rfl:=e91;rfl
 .refine cD h λa ns k e92 hS hl e93=>?_;clear h;obtain rfl:=e92;obtain⟨h0,q⟩:=e93;refine⟨_,((@bI _ _ _ _ _ _ _ _ (bW iF (ae 1) (bS fo rfl T.n_len fu ((ae 0)<&>ah)) (aU _)) (~~~((ixJ aV)<|>(ae 0)<||>(ae 1))) bJ)<*>(~~~aq)),?_⟩;walk_at "wp";refine⟨_,.inl hS,bA (λhc=>?_) (λ_=>q 0)⟩;have hc:=dB hc;rw[aA] at hc;refine⟨_,hS,V.int (ns[k.toNat]'(oz55 h0 hc)),dH h0 ?_,q _⟩;rw[bH,aF (oz55 h0 hc)];rfl
theorem cpow (k:Int)(h0:0<=k)(h1:k<=1000):vn 10 k:=⟨h0,∅,⇑0⟩
theorem t7 (c n:Int)(h:0<n):0<=c % n:=gv _ ∅
theorem t6 (c n:Int)(h:0<n):c % n<n:=fY _ h
end
end Pf
namespace Pf
open PySem L2 PyProof.Rows
section
variable {C G S:Addr}
theorem a_.ne {H:Hp}{l p:Addr}(h:a_ H l)(hp:H p=none):p≠l:=by
 refine cE h λa b e _=>?_;clear h;exact (cc e hp).symm
theorem a_.new {H:Hp}{l p:Addr}{o:HO}(h:a_ H l)(hp:p≠l):a_ (ao H p o) l:=by
 refine cy h λa b e h1 h2=>?_;clear h;exact aM a b ⟨by rw[aJ hp.symm];exact e,h1,h2⟩
theorem a_.set {H:Hp}{l:Addr}{a b:Int}(h1:0<=b)(h2:b<2147483647):a_ (ao H l (m9 a b)) l:=⟨a,b,aw,h1,h2⟩
def dF (H:Hp)(m:Int)(x:V):Prop:=∃ (t:Addr) (i j:Int),x=.ref t/\H t=some (.tup [.int i,.int j])/\0<=i/\i<m/\0<=j/\j<m
def aH (H:Hp)(m:Int)(xs:List V):Prop:=∀ x∈xs,dF H m x
theorem dF.same {H H':Hp}{m:Int}{x:V}(e:dF H m x)(s:aa H H'):dF H' m x:=by
 refine g8 e λt i j h1 h2 h3=>?_;clear e;exact c5 t i j ⟨h1,s _ _ h2,h3⟩
theorem aH.same {H H':Hp}{m:Int}{xs:List V}(e:aH H m xs)(s:aa H H'):aH H' m xs:=λx hx=>(e x hx).same s
theorem dF.ext {H H':Hp}{m:Int}{l:Addr}{x:V}{ys:List V}(e:dF H m x)(s:aP l H H')(hl:H l=some (.lst ys)):dF H' m x:=by
 refine g8 e λt i j h1 h2 h3=>?_;clear e;exact c5 t i j ⟨h1,s _ _ (eQ h2 hl (by intro z;cases z)) h2,h3⟩
theorem aH.ext {H H':Hp}{m:Int}{l:Addr}{xs ys:List V}(e:aH H m xs)(s:aP l H H')(hl:H l=some (.lst ys)):aH H' m xs:=λx hx=>(e x hx).ext s hl
theorem aH.nil {H:Hp}{m:Int}:aH H m []:=λ_ h=>nomatch h
theorem aH.snoc {H:Hp}{m:Int}{xs:List V}{x:V}(e:aH H m xs)(h:dF H m x):aH H m (xs++[x]):=λy hy=>by
 rcases cf.mp hy with z|z
 .exact e y z
 .rw [cF.mp z];exact h
theorem aH.put {H:Hp}{m:Int}{xs ys:List V}{p:Addr}{o:HO}(e:aH H m xs)(hp:H p=some (.lst ys)):aH (ao H p o) m xs:=e.ext (l:=p) aP.set hp
structure w8 (l:Addr)(H:Hp)(p e:Addr)(m:Int)(xs:List V)(H':Hp):Prop where
 ext:aP l H H'
 bag:a_ H' l
 tup:H' p=some (.tup [.int m,.ref e])
 lst:H' e=some (.lst xs)
 new:H e=none
 lo:1<=m
 hi:m<=8
 len:xs.length<=9
 ed:aH H' m xs
def spOut (K0:List V->Prop):Sp:=λvs H Q _=>∃ (l:Addr) (r:List V),vs=.ref l::r/\K0 r/\a_ H l/\∀ p e m xs H',w8 l H p e m xs H'->Q (.ref p) H'
def way0 (r:List V):Prop:=r=[]
theorem dF.mk {H:Hp}{p:Addr}{i j m:Int}(h1:0<=i)(h2:i<m)(h3:0<=j)(h4:j<m):dF (ao H p (.tup [.int i,.int j])) m (.ref p):=⟨p,i,j,rfl,aw,h1,h2,h3,h4⟩
theorem aH.add {H:Hp}{p:Addr}{i j m:Int}{xs:List V}(e:aH H m xs)(hp:H p=none)(h1:0<=i)(h2:i<m)(h3:0<=j)(h4:j<m):aH (ao H p (.tup [.int i,.int j])) m (xs++[.ref p]):=
 (e.same (aa.new hp)).snoc (dF.mk h1 h2 h3 h4)
theorem Hn {fr:List (Str×Nat)}{σ:L2.St}{t1 t2:TE}{lo m:Int}{n:Nat}{D:Addr}{H1:Hp}{Q:VK}(a b:Nat->Int)(hD:H1 D=none)(hn:n<=9)(h1:∀ i H Q,i<n->Q (.int (a i)) H->t1 (some (.int (lo+(i:Nat)))::cH fr σ) H Q)(h2:∀ i H Q,i<n->Q (.int (b i)) H->t2 (some (.int (lo+(i:Nat)))::cH fr σ) H Q)(hr:∀ i,i<n->0<=a i/\a i<m/\0<=b i/\b i<m)(hQ:∀ xs H',aa H1 H'->H' D=some (.lst xs)->xs.length=n->aH H' m xs->Q (.ref D) H'):
  eT (cg 0) dr (tTup (iH t1 (iH t2 ng))) (iY lo n) D (dG 1 fr σ) H1 Q:=by
 refine ur (λi vs H=>aa H1 H/\H D=some (.lst vs)/\vs.length=i/\aH H m vs) ⟨aa.new hD,aw,rfl,aH.nil⟩ ?_ (λvs H ⟨s,e,l,d⟩=>hQ vs H s e l d);intro i x vs σ' H hi e91;obtain rfl:=e91;intro sh e92;refine cG e92 λs e hl d=>?_;clear e92;obtain⟨z,rfl⟩:=sh.one;simp only[fP,cg,dr,List.set_cons_zero,eZ,tTup,iH,ng];refine h1 i H _ hi (h2 i H _ hi ⟨by show 2<=sizeLine;decide,λp hp=>?_⟩);refine cG (hr i hi) λr1 r2 r3 r4=>?_;have nD:D≠p:=cc e hp;have e':(ao H p (.tup [.int (a i),.int (b i)])) D=some (.lst vs):=by rw[aJ nD];exact e
 exact fL (ws:=vs++[.ref p]) hi Sh.mk1 e' (cS ∅) ⟨(s.trans (aa.new hp)).upd hD,aw,by rw[bw,hl];rfl,(d.add hp r1 r2 r3 r4).put e'⟩
theorem w8.fin {l p t:Addr}{m:Int}{xs:List V}{H H2:Hp}(ex:aP l H H2)(b:a_ H2 l)(hp:H2 p=some (.lst xs))(new:H p=none)(lo:1<=m)(hi:m<=8)(len:xs.length<=9)(d:aH H2 m xs)(ht:H2 t=none):
  w8 l H t p m xs (ao H2 t (.tup [.int m,.ref p])):=
 ⟨ex.trans (aP.new ht),b.new (b.ne ht),aw,by rw[aJ (cc hp ht)];exact hp,new,lo,hi,len,d.same (aa.new ht)⟩
theorem a_.draw {H:Hp}{l:Addr}{n:Int}{Q:VK}{E:XK}(b:a_ H l)(h0:0<n)(h1:n<1000000000)(q:∀ (r:Int) (H':Hp),0<=r->r<n->aP l H H'->a_ H' l->Q (.int r) H'):iK [.ref l,.int n] H Q E:=by
 refine cy b λx y e y0 y1=>?_;clear b;exact i_ l x y n ⟨rfl,e,y0,y1,h0,h1,λr a' b' r0 r1 c0 c1=>q r _ r0 r1 aP.set (a_.set c0 c1)⟩
theorem a_.lst {H:Hp}{l:Addr}(b:a_ H l):∃ ys,H l=some (.lst ys):=by
 refine cE b λx y e _=>?_;clear b;exact⟨_,e⟩
theorem aH.bag {H H':Hp}{m:Int}{l:Addr}{xs:List V}(e:aH H m xs)(s:aP l H H')(b:a_ H l):aH H' m xs:=by
 obtain⟨ys,h⟩:=b.lst;exact e.ext s h
theorem Ga {R:It->Hp->Prop}{l:Addr}{σ:L2.St}{H:Hp}{k:Int}(b:a_ H l)(h0:0<k)(h1:k<1000000000)(q:∀ (n:Int) (H3:Hp),0<=n->n<k->aP l H H3->a_ H3 l->R (iY 0 n.toNat) H3):
  xT (iH (vM iK [] E0 (iH (dS 0) (iH (tC (.int k)) ng))) ng) (some (.ref l)::σ) H R:=by
 refine⟨_,rfl,?_⟩;simp only[iH,tC,ng,nT];exact b.draw h0 h1 λn H3 n0 n1 e3 b3=>⟨n,rfl,∅,∅,q n H3 n0 n1 e3 b3⟩
theorem a_.same {H H':Hp}{l:Addr}(b:a_ H l)(s:aa H H'):a_ H' l:=by
 refine cy b λx y e h1 h2=>?_;clear b;exact aM x y ⟨s _ _ e,h1,h2⟩
end
end Pf
set_option maxHeartbeats 1000000
namespace Pf
open PySem L2 PyProof.Rows
section
variable {C G S:Addr}
theorem m_ {c A B:Prop}[Decidable c](hc:c)(h:A):if c then A else B:=by rw[if_pos hc];exact h
theorem dR {c A B:Prop}[Decidable c](hc:¬ c)(h:B):if c then A else B:=by rw[if_neg hc];exact h
theorem wM {a D:Addr}{xs:List V}{fr:List (Str×Nat)}{σ:L2.St}{te:TE}{H1:Hp}{Q:VK}(fb:Nat->Bool)(ha:H1 a=some (.lst xs))(hD:H1 D=none)(hn:xs.length<=1000)(h:∀ (i:Nat) x H (Q:VK),xs[i]?=some x->aa H1 H->(∀ H',aa H H'->Q (.bl (fb i)) H')->te (some x::cH fr σ) H Q)(hQ:∀ H',aa H1 H'->H' D=some (.lst (((List.range xs.length).map fb).map V.bl))->Q (.ref D) H'):eT (cg 0) dr te (jj K a) D (dG 1 fr σ) H1 Q:=by
 refine rE (xs:=xs) (λi vs H=>aa H1 H/\H D=some (.lst vs)/\vs=((List.range i).map fb).map V.bl) ⟨aa.new hD,aw,rfl⟩ (λi vs H _ p=>aj.of (p.1 _ _ ha)) ?_ (λvs H ⟨s,e,hv⟩=>hQ H s (by rw[e,hv]));intro i x vs σ' H hi hx sh e91;refine bQ e91 λs e e93=>?_;clear e91;obtain rfl:=e93;obtain⟨z,rfl⟩:=sh.one;simp only[fP,cg,dr,List.set_cons_zero,eZ];refine h i x H _ hx s λH' s'=>?_;exact fL (ws:=((List.range (i+1)).map fb).map V.bl) hi Sh.mk1 (s' _ _ e) (cS (by rw[aA,aA,ef];omega)) ⟨(s.trans s').upd hD,by rw[aw,jh,dD,dD];rfl,rfl⟩
theorem GC {a D:Addr}{xs:List V}{fr:List (Str×Nat)}{σ:L2.St}{te:TE}{H1:Hp}{Q:VK}(fb:Nat->Bool)(ha:H1 a=some (.tup xs))(hD:H1 D=none)(hn:xs.length<=1000)(h:∀ (i:Nat) x H (Q:VK),xs[i]?=some x->aa H1 H->(∀ H',aa H H'->Q (.bl (fb i)) H')->te (some x::cH fr σ) H Q)(hQ:∀ H',aa H1 H'->H' D=some (.lst (((List.range xs.length).map fb).map V.bl))->Q (.ref D) H'):eT (cg 0) dr te (xH K a) D (dG 1 fr σ) H1 Q:=by
 refine FN (xs:=xs) (λi vs H=>aa H1 H/\H D=some (.lst vs)/\vs=((List.range i).map fb).map V.bl) ⟨aa.new hD,aw,rfl⟩ (λi vs H _ p=>aB.of (p.1 _ _ ha)) ?_ (λvs H ⟨s,e,hv⟩=>hQ H s (by rw[e,hv]));intro i x vs σ' H hi hx sh e92;refine bQ e92 λs e e94=>?_;clear e92;obtain rfl:=e94;obtain⟨z,rfl⟩:=sh.one;simp only[fP,cg,dr,List.set_cons_zero,eZ];refine h i x H _ hx s λH' s'=>?_;exact fL (ws:=((List.range (i+1)).map fb).map V.bl) hi Sh.mk1 (s' _ _ e) (cS (by rw[aA,aA,ef];omega)) ⟨(s.trans s').upd hD,by rw[aw,jh,dD,dD];rfl,rfl⟩
theorem uq (n:Nat):((List.range n).map λ_=>true).all id=true:=by
 rw[iT];intro b hb;refine ar (cw.mp hb) λ_ _ e95=>?_;obtain rfl:=e95;rfl
def rn:Sp:=λvs H Q _=>∃ i:Int,vs=[.int i]/\Q (.bl true) H
theorem Gw (F:bc K "is_whole" "is_whole" wR f fd)(T:bp K mg C G S):ax P w K mg base aW 1 f fd ["thing"] rn:=by
 have nd:=wV.nd;refine F.ok wV (λvs H Q E h=>?_) (λcdv A outer s H vs Q E hr h=>?_)
 .refine ar h λi e96 _=>?_;clear h;obtain rfl:=e96;rfl
 .refine ar h λi e97 q=>?_;clear h;obtain rfl:=e97;refine⟨_,(~~~(jP (bS h_ rfl T.n_isinstance iz ((ae 0)<&>((g7 rfl T.n_int boot_int)<&>ah))) (jQ (BG (bS h_ rfl T.n_isinstance iz ((ae 0)<&>((g7 rfl T.n_bool boot_bool)<&>ah))))))),?_⟩;walk_at "wp";exact aM _ _ ⟨⟨rfl,rfl⟩,_,rfl,_,.int i,_,DC K,iteT ⟨_,_,⟨rfl,rfl⟩,_,rfl,_,.int i,_,D7 K,q⟩⟩
def yE:Sp:=λvs H Q _=>∃ (m:Int) (x:V),vs=[.int m,x]/\dF H m x/\∀ H',aa H H'->Q (.bl true) H'
theorem FH (F:bc K "is_arrow" "is_arrow" zJ f fd)(T:bp K mg C G S)(Yab:az P w K mg base "is_whole" 1 rn):ax P w K mg base aW 2 f fd ["many","thing"] yE:=by
 have nd:=Es.nd;refine F.ok Es (λvs H Q E h=>?_) (λcdv A outer s H vs Q E hr h=>?_)
 .refine cE h λm x e98 _=>?_;clear h;obtain rfl:=e98;rfl
 .refine cy h λm x e99 e910 q=>?_;clear h;obtain rfl:=e99;obtain⟨t,i,j,rfl,ht,i0,i1,j0,j1⟩:=e910;refine⟨_,((@bI _ _ _ _ _ _ _ _ (PW.pt (fm (dU (eN (bS h_ rfl T.n_isinstance iz ((ae 1)<&>((g7 rfl T.n_tuple boot_tuple)<&>ah))))) (gm (bW gj (bS fo rfl T.n_len fu ((ae 1)<&>ah)) aq (aU _))))) (~~~eJ) bJ)<*>(~~~(bS (qr rfl) rfl T.n_all boot_all ((eL (own:=["end"]) (fr:=[("many",0)]) rfl (c4 (by kernel_rfl)) (oJ (pv 1)) (λ_ _ _ _=>⟨(0<<<["end","many"]),dz,(jP (Yab<$>hr<$>((pv 0)<&>ah)) (jQ (y8 nj iF aq (pv 0) (pv 1))))⟩))<&>ah)))),?_⟩;walk_at "wp";refine aM _ _ ⟨⟨rfl,rfl⟩,_,rfl,_,.tup ht,_,zi K,iteF ⟨_,.inr (aB.of ht),iteF ?_⟩⟩;refine⟨_,rfl,t,rfl,⟨_,aB.of ht⟩,λD hD=>GC (λ_=>true) ht hD (by show 2<=1000;decide) (λk x H' Q' hx s' q'=>?_) λH' s' e'=>⟨D,rfl,_,aj.of e',?_⟩⟩
  .have hx':∃ z:Int,x=.int z/\0<=z/\z<m:=by
    match k,hx with
    | 0,hx=>exact⟨i,(fJ hx).symm,i0,i1⟩
    | 1,hx=>exact⟨j,(fJ hx).symm,j0,j1⟩
    | k+2,hx=>cases hx
   refine aQ hx' λz e911 z0 z1=>?_;clear hx';obtain rfl:=e911;refine⟨_,rfl,⟨z,rfl,true,rfl,iteT ⟨_,rfl,_,_,rfl,rfl,_,rfl,?_⟩⟩⟩;refine m_ (bR z0) ⟨_,rfl,_,_,rfl,rfl,?_⟩;show Q' (V.bl (decide (z<m))) H';rw[bR z1];exact q' H' (aa.refl _)
  .rw [uq];exact q H' s'
def yH:Sp:=λvs H Q _=>∃ (m:Int) (a:Addr) (xs:List V),vs=[.int m,.ref a]/\1<=m/\m<=8/\H a=some (.lst xs)/\xs.length<=9/\aH H m xs/\∀ H',aa H H'->Q (.bl true) H'
theorem Gn (F:bc K "makes_drawing" "makes_drawing" Aw f fd)(T:bp K mg C G S)(Yab:az P w K mg base "is_whole" 1 rn)(Yau:az P w K mg base "is_arrow" 2 yE):ax P w K mg base aW 3 f fd ["many","arrows"] yH:=by
 have nd:=EX.nd;refine F.ok EX (λvs H Q E h=>?_) (λcdv A outer s H vs Q E hr h=>?_)
 .refine gK h λm a xs e912 _=>?_;clear h;obtain rfl:=e912;rfl
 .refine cD h λm a xs e913 m0 m8 e914=>?_;clear h;obtain rfl:=e913;refine cG e914 λha hl d q=>?_;clear e914;refine⟨_,((@bI _ _ _ _ _ _ _ _ (PW.pt (fm (dU (eN (Yab<$>hr<$>((ae 0)<&>ah)))) (gm (dU (y_ nj nj aq (ae 0) (rK rfl T.g_MOST_POINTS)))))) (~~~eJ) bJ)<*>((@bI _ _ _ _ _ _ _ _ (PW.pt (fm (dU (eN (bS h_ rfl T.n_isinstance iz ((ae 1)<&>((g7 rfl T.n_list iP)<&>ah))))) (gm (bW fM (bS fo rfl T.n_len fu ((ae 1)<&>ah)) (rK rfl T.g_MOST_ARROWS) (aU _))))) (~~~eJ) bJ)<*>(~~~(bS (qr rfl) rfl T.n_all boot_all ((eL (own:=["arrow"]) (fr:=[("many",0)]) rfl (c4 (by kernel_rfl)) (eM (pv 1)) (λ_ _ _ _=>⟨(0<<<["arrow","many"]),dz,(Yau<$>hr<$>((pv 1)<&>((pv 0)<&>ah)))⟩))<&>ah))))),?_⟩;walk_at "wp";refine⟨m,rfl,true,rfl,iteF (m_ (bR m0) (dR (by rw[bR m8];decide) ⟨_,_,⟨rfl,rfl⟩,_,rfl,_,.lst ha,_,wU K,iteF ⟨_,.inl (aj.of ha),dR (by rw[dm ∅];decide) ?_⟩⟩))⟩;refine⟨_,rfl,a,rfl,⟨_,aj.of ha⟩,λD hD=>wM (λ_=>true) ha hD ∅ (λk x H' Q' hx s' q'=>?_) λH' s' e'=>⟨D,rfl,_,aj.of e',?_⟩⟩
  .exact ⟨_,rfl,_,rfl,m,x,rfl,(d x (aY hx)).same s',q'⟩
  .rw [uq];exact q H' s'
def flds (m:Int)(lp:Addr):List (Str×V):=bP "arrows" (.ref lp) (bP "many" (.int m) [])
theorem rQ (m:Int)(lp:Addr):(flds m lp).lookup ("arrows" : Str)=some (.ref lp):=by
 unfold flds;rw[fX,if_pos rfl]
theorem zg (m:Int)(lp:Addr):(flds m lp).lookup ("many" : Str)=some (.int m):=by
 unfold flds;rw[fX,if_neg ⋯,fX,if_pos rfl]
theorem FT (m:Int):(bP "many" (.int m) ([]:List (Str×V))).length<1000:=by
 have:=qx "many" (.int m) [];simp at this;omega
def ud (C:Addr):Sp:=λvs H Q _=>∃ (p dx:Addr) (m:Int) (a:Addr) (xs:List V),vs=[.ref p,.int m,.ref a]/\H p=some (.ins C dx [])/\1<=m/\m<=8/\H a=some (.lst xs)/\xs.length<=9/\aH H m xs /\
 ∀ (lp:Addr) (H':Hp),aP p H H'->H' p=some (.ins C dx (flds m lp))->H lp=none->H' lp=some (.lst xs)->Q .non H'
theorem lh (F:bc K "__init__" "Drawing.__init__" AA f fd)(T:bp K mg C G S)(Yat:az P w K mg base "makes_drawing" 3 yH):ax P w K mg base aW 4 f fd ["self","many","arrows"] (ud C):=by
 have nd:=EN.nd;refine F.ok EN (λvs H Q E h=>?_) (λcdv A outer s H vs Q E hr h=>?_)
 .refine vH h λp dx m a xs e92 _=>?_;clear h;obtain rfl:=e92;rfl
 .refine g9 h λp dx m a xs e93 hp m0 e94=>?_;clear h;obtain rfl:=e93;refine cY e94 λm8 ha hl d q=>?_;clear e94;refine⟨_,((@bI _ _ _ _ _ _ _ _ (dU (eN (Yat<$>hr<$>((ae 1)<&>((ae 2)<&>ah))))) (@bE _ _ _ jW) bJ)<*>((qj (ae 0) (ae 1) rfl)<*>(@bE _ _ _ (qj (ae 0) (jv rP rfl T.n_list iP ((ae 2)<&>ah)) rfl)))),?_⟩;walk_at "wp";refine c5 m a xs ⟨rfl,m0,m8,ha,hl,d,λH1 s1=>⟨true,rfl,iteF ?_⟩⟩;have nap:a≠p:=eQ ha hp (by intro z;cases z);refine c5 C dx [] ⟨s1 _ _ hp,T.cl_Drawing,T.nM,by show 0<1000;decide,xs,.inl (aj.of (by rw[aJ nap];exact s1 _ _ ha)),λl hl0=>?_⟩;have npl:p≠l:=cc aw hl0;refine c5 C dx _ ⟨by rw[aJ npl];exact aw,T.cl_Drawing,T.nA,FT m,?_⟩;have fl:H l=none:=by
   rw[aJ npl.symm] at hl0;exact s1.free hl0
  refine q l _ (λb o nb e=>?_) aw fl (by rw[aJ npl.symm];exact aw);rw[aJ nb,aJ (cc e fl),aJ nb];exact s1 _ _ e
def cK (H:Hp)(xs:List V)(ps:List (Int×Int)):Prop:=xs.length=ps.length/\∀ (i:Nat) (x:V) (q:Int×Int),xs[i]?=some x->ps[i]?=some q->∃ t,x=.ref t/\H t=some (.tup [.int q.1,.int q.2])
theorem cK.same {H H':Hp}{xs:List V}{ps:List (Int×Int)}(h:cK H xs ps)(s:aa H H'):cK H' xs ps:=⟨h.1,λi x q h1 h2=>let ⟨t,e1,e2⟩:=h.2 i x q h1 h2;⟨t,e1,s _ _ e2⟩⟩
def hE (C:Addr)(H:Hp)(p:Addr)(m:Int)(lp:Addr)(xs:List V):Prop:=∃ dx,H p=some (.ins C dx (flds m lp))/\H lp=some (.lst xs)
def iA (m:Int)(ps:List (Int×Int)):Prop:=∀ q∈ps,0<=q.1/\q.1<m/\0<=q.2/\q.2<m
theorem cK.nil {H:Hp}:cK H [] []:=⟨rfl,λi x q h=>by simp at h⟩
theorem cK.put {H:Hp}{D:Addr}{l:List V}{o:HO}{xs:List V}{ps:List (Int×Int)}(h:cK H xs ps)(hD:H D=some (.lst l)):cK (ao H D o) xs ps:=
 ⟨h.1,λi x q h1 h2=>let ⟨t,e1,e2⟩:=h.2 i x q h1 h2;⟨t,e1,by rw[aJ (eQ e2 hD (by intro z;cases z))];exact e2⟩⟩
theorem cK.add {H:Hp}{xs:List V}{ps:List (Int×Int)}{t:Addr}{q:Int×Int}(h:cK H xs ps)(ht:H t=some (.tup [.int q.1,.int q.2])):cK H (xs++[.ref t]) (ps++[q]):=by
 refine⟨by simp[h.1],λi x r h1 h2=>?_⟩;by_cases hi:i<xs.length
 .rw [eE hi] at h1;rw[eE (by rw[<- h.1];exact hi)] at h2;exact h.2 i x r h1 h2
 .rw [d_ (c8 hi)] at h1;rw[d_ (by rw[<- h.1];exact c8 hi)] at h2;have hl:=h.1;by_cases h0:i-xs.length=0
  .rw [h0] at h1;rw[<- hl,h0] at h2;simp at h1 h2;exact⟨t,h1.symm,by rw[<- h2];exact ht⟩
  .rw [cZ (by simp;exact oz11 h0)] at h1;cases h1
theorem Cr {H:Hp}{m:Int}:∀ {xs:List V},aH H m xs->∃ ps,cK H xs ps/\iA m ps
 | [],_=>⟨[],cK.nil,λq h=>by simp at h⟩
 | x::xs,d=>by
  refine ar (Cr (xs:=xs) λy hy=>d y (j7 _ hy)) λps e92 h3=>?_;obtain⟨h1,h2⟩:=e92;refine g8 (d x nV) λt i j e93 ht hb=>?_;obtain rfl:=e93;refine⟨(i,j)::ps,⟨by simp[h1],λk y q e1 e2=>?_⟩,λq hq=>?_⟩
  .cases k with
   | zero=>
    simp at e1 e2;subst e1 e2;exact⟨t,rfl,ht⟩
   | succ k=>exact h2 k y q (by simpa using e1) (by simpa using e2)
  .rcases fH.mp hq with rfl|hq
   .exact hb
   .exact h3 q hq
theorem FR {H:Hp}{m:Int}{xs:List V}{ps:List (Int×Int)}(h:cK H xs ps)(r:iA m ps):aH H m xs:=by
 intro x hx;obtain⟨i,hi,rfl⟩:=d9.mp hx;have hl:=h.1;have hq:ps[i]?=some (ps[i]'(oz40 hi hl)):=aF _;refine ar (h.2 i _ _ (aF hi) hq) λt e1 e2=>?_;exact c5 t _ _ ⟨e1,e2,r _ (aY hq)⟩
theorem qb {k:Nat}{A:Around}(hr:aX k A):A.units+8<cLine:=by have:=hr.units;omega
theorem aa.thru {l:Addr}{H H1 H2:Hp}(s:aa H H1)(h:H l=none)(e:aP l H1 H2):aa H H2:=λb o eb=>e b o (cc eb h) (s b o eb)
theorem GB {lo:Int}{n:Nat}{D:Addr}{fr:List (Str×Nat)}{σ:L2.St}{te:TE}{H1:Hp}{Q:VK}(fb:Nat->Bool)(hD:H1 D=none)(hn:n<=1000)(h:∀ (i:Nat) H (Q:VK),i<n->aa H1 H->(∀ H',aa H H'->Q (.bl (fb i)) H')->te (some (.int (lo+(i:Nat)))::cH fr σ) H Q)(hQ:∀ H',aa H1 H'->H' D=some (.lst (((List.range n).map fb).map V.bl))->Q (.ref D) H'):eT (cg 0) dr te (iY lo n) D (dG 1 fr σ) H1 Q:=by
 refine ur (λi vs H=>aa H1 H/\H D=some (.lst vs)/\vs=((List.range i).map fb).map V.bl) ⟨aa.new hD,aw,rfl⟩ ?_ (λvs H ⟨s,e,hv⟩=>hQ H s (by rw[e,hv]));intro i x vs σ' H hi e91;obtain rfl:=e91;intro sh e92;refine bQ e92 λs e e93=>?_;clear e92;obtain rfl:=e93;obtain⟨z,rfl⟩:=sh.one;simp only[fP,cg,dr,List.set_cons_zero,eZ];refine h i H _ hi s λH' s'=>?_;exact fL (ws:=((List.range (i+1)).map fb).map V.bl) hi Sh.mk1 (s' _ _ e) (cS (by rw[aA,aA,ef];omega)) ⟨(s.trans s').upd hD,by rw[aw,jh,dD,dD];rfl,rfl⟩
abbrev uN:Nat:=67000002
abbrev NB:Nat:=67000001
def Ic (a:Int):Prop:=Bt NB a
def jx (p:Int):Prop:=1<p/\p<=97/\∀ d:Int,2<=d->d<p->p % d≠0
def yI:Sp:=λvs H Q _=>∃ p:Int,vs=[.int p]/\jx p/\∀ H',aa H H'->Q (.bl true) H'
theorem Gp (F:bc K "is_prime" "is_prime" zK f fd)(T:bp K mg C G S):ax P w K mg base aW 1 f fd ["number"] yI:=by
 have nd:=Et.nd;refine F.ok Et (λvs H Q E h=>?_) (λcdv A outer s H vs Q E hr h=>?_)
 .refine ar h λp e94 _=>?_;clear h;obtain rfl:=e94;rfl
 .refine aQ h λp e95 e96 q=>?_;clear h;obtain rfl:=e95;obtain⟨p1,p2,p3⟩:=e96;refine⟨_,(~~~(jP (gO (gH fM) (ae 0) aq (aU _)) (jQ (bS (qr rfl) rfl T.n_all boot_all ((eL (own:=["divisor"]) (fr:=[("number",0)]) rfl (c4 (by kernel_rfl)) (jl rfl T.n_range (aq<&>((pv 0)<&>ah))) (λ_ _ _ _=>⟨(0<<<["divisor","number"]),dz,(gO gj (fE<|>(pv 1)<&&>(pv 0)) aq (aU _))⟩))<&>ah))))),?_⟩;walk_at "wp";refine m_ (bR p1) ⟨_,rfl,2,p,rfl,⟨⇑0,⇑0,∅,∅⟩,λD hD=>GB (λ_=>true) hD ∅ (λi H' Q' hi s' q'=>?_) λH' s' e'=>⟨D,rfl,_,aj.of e',?_⟩⟩
  .have h0:(0:Int)<2+(i:Int):=∅
   have hne:=p3 (2+(i:Int)) ∅ ∅;refine⟨_,rfl,_,rfl,_,_,rfl,rfl,h0,rfl,?_⟩;have:(!decide (V.int (p % (2+(i:Int)))=V.int 0))=true:=by simp only[V.int.injEq,dm hne];rfl
   rw[this];exact q' H' (aa.refl _)
  .rw [uq];exact q H' s'
def af (p:Int):Prop:=p=0\/jx p
def yM:Sp:=λvs H Q _=>∃ p:Int,vs=[.int p]/\af p/\∀ H',aa H H'->Q (.bl true) H'
theorem Gv (F:bc K "tells_ground" "tells_ground" AE f fd)(T:bp K mg C G S)(Yab:az P w K mg base "is_whole" 1 rn)(Ybj:az P w K mg base "is_prime" 1 yI):ax P w K mg base aW 2 f fd ["thing"] yM:=by
 have nd:=E4.nd;refine F.ok E4 (λvs H Q E h=>?_) (λcdv A outer s H vs Q E hr h=>?_)
 .refine ar h λp e97 _=>?_;clear h;obtain rfl:=e97;rfl
 .refine aQ h λp e98 hp q=>?_;clear h;obtain rfl:=e98;have p0:0<=p:=by rcases hp with rfl|⟨h,_⟩ <;> omega
  have p97:p<=97:=by rcases hp with rfl|⟨_,h,_⟩ <;> omega
  refine⟨_,((@bI _ _ _ _ _ _ _ _ (PW.pt (fm (dU (eN (Yab<$>hr<$>((ae 0)<&>ah)))) (gm (dU (y_ nj nj aq (ae 0) (rK rfl T.g_LARGEST_PRIME)))))) (~~~eJ) bJ)<*>(~~~(sN (gO (qW c9) (ae 0) aq (aU _)) (jQ (Ybj<$>hr<$>((ae 0)<&>ah)))))),?_⟩;walk_at "wp";refine⟨p,rfl,true,rfl,iteF (m_ (bR p0) (dR (by rw[bR p97];decide) (bA (λ_=>q H (aa.refl _)) (λhc=>?_))))⟩;rcases hp with rfl|hp
  .exact absurd (bR rfl) hc
  .exact ⟨p,rfl,hp,q⟩
def ni (p:Int):List (Str×V):=bP "prime" (.int p) []
theorem jA (p:Int):(ni p).lookup ("prime" : Str)=some (.int p):=by
 unfold ni;rw[fX,if_pos rfl]
theorem y6 (p:Int){x:Str}(h1:¬ x="prime"):(ni p).lookup x=none:=by
 unfold ni;rw[fX,if_neg h1];rfl
def wt (G:Addr):Sp:=λvs H Q _=>∃ (g dx:Addr) (p:Int),vs=[.ref g,.int p]/\H g=some (.ins G dx [])/\af p/\∀ (H':Hp),aP g H H'->H' g=some (.ins G dx (ni p))->Q .non H'
theorem FK (F:bc K "__init__" "Ground.__init__" Al f fd)(T:bp K mg C G S)(Yax:az P w K mg base "tells_ground" 2 yM):ax P w K mg base aW 3 f fd ["self","prime"] (wt G):=by
 have nd:=EI.nd;refine F.ok EI (λvs H Q E h=>?_) (λcdv A outer s H vs Q E hr h=>?_)
 .refine gK h λg dx p e99 _=>?_;clear h;obtain rfl:=e99;rfl
 .refine cD h λg dx p e910 hg hp q=>?_;clear h;obtain rfl:=e910;refine⟨_,((@bI _ _ _ _ _ _ _ _ (dU (eN (Yax<$>hr<$>((ae 1)<&>ah)))) (@bE _ _ _ jW) bJ)<*>(@bE _ _ _ (qj (ae 0) (ae 1) rfl))),?_⟩;walk_at "wp";refine⟨p,rfl,hp,λH1 s1=>⟨true,rfl,iteF ⟨G,dx,[],s1 _ _ hg,T.cl_Ground,T.nP,by show 0<1000;decide,?_⟩⟩⟩;exact q _ (λb o nb e=>by rw[aJ nb];exact s1 _ _ e) aw
def goodB (p:Int):Bool:=p == 0 || (decide (1<p) && decide (p<=97) && (List.range 98).all λd=>decide ((d:Int)<2) || decide (p<=(d:Int)) || decide (p % (d:Int)≠0))
theorem Fw {p:Int}(h:goodB p=true):af p:=by
 unfold goodB at h;simp only[si,nR,dY,decide_eq_true_eq,iT,eC] at h;rcases h with h|⟨⟨h1,h2⟩,h3⟩
 .exact .inl h
 .refine .inr ⟨h1,h2,λd d2 dp=>?_⟩;have:=h3 d.toNat ∅;rw[show ((d.toNat:Nat):Int)=d by omega] at this;rcases this with (h|h)|h
  .omega
  .omega
  .exact h
theorem G3 {L:List Int}(h:L.all goodB=true){i:Int}(i0:0<=i)(i1:i<L.length):∃ p,atI (L.map V.int) i=some (.int p)/\af p:=by
 have hi:i.toNat<L.length:=by exact oz55 i0 i1
 exact⟨_,dH i0 (l4 hi),Fw (iT.mp h _ (lZ hi))⟩
def aE (H:Hp)(p:Int)(v:V)(x:Int×Int):Prop:=if p=0 then ∃ t,v=.ref t/\H t=some (.tup [.int x.1,.int x.2]) else v=.int x.1
theorem aE.same {H H':Hp}{p:Int}{v:V}{x:Int×Int}(h:aE H p v x)(s:aa H H'):aE H' p v x:=by
 unfold aE at *;split
 .rename_i hp
  rw[if_pos hp] at h;refine ar h λt e ht=>?_;clear h;exact⟨t,e,s _ _ ht⟩
 .rename_i hp
  rw[if_neg hp] at h;exact h
theorem aE.tup {H:Hp}{p:Int}{t:Addr}{x:Int×Int}(hp:p=0)(h:H t=some (.tup [.int x.1,.int x.2])):aE H p (.ref t) x:=by
 unfold aE;rw[if_pos hp];exact⟨t,rfl,h⟩
theorem aE.of {H:Hp}{p:Int}{x:Int×Int}(hp:¬ p=0):aE H p (.int x.1) x:=by
 unfold aE;rw[if_neg hp]
theorem aE.ref {H:Hp}{p:Int}{v:V}{x:Int×Int}(h:aE H p v x)(hp:p=0):∃ t,v=.ref t/\H t=some (.tup [.int x.1,.int x.2]):=by
 unfold aE at h;rw[if_pos hp] at h;exact h
theorem aE.int {H:Hp}{p:Int}{v:V}{x:Int×Int}(h:aE H p v x)(hp:¬ p=0):v=.int x.1:=by
 unfold aE at h;rw[if_neg hp] at h;exact h
theorem af.lo {p:Int}(h:af p):0<=p:=by rcases h with rfl|⟨h,_⟩ <;> omega
theorem af.hi {p:Int}(h:af p):p<=97:=by rcases h with rfl|⟨_,h,_⟩ <;> omega
def di (G:Addr)(H:Hp)(g:Addr)(p:Int):Prop:=∃ dx,H g=some (.ins G dx (ni p))
theorem di.same {H H':Hp}{g:Addr}{p:Int}(h:di G H g p)(s:aa H H'):di G H' g p:=let ⟨dx,e⟩:=h;⟨dx,s _ _ e⟩
end
end Pf
namespace Pf
open PySem L2 PyProof.Rows
theorem rR {a b:Int}{A B:Nat}(ha:a.natAbs<=A)(hb:b.natAbs<=B):(a*b).natAbs<=A*B:=by rw[jD];exact e_ ha hb
theorem de {α:Type}{xs:List α}{i:Nat}{x d:α}(h:xs[i]?=some x):xs.getD i d=x:=by rw[aT,h];rfl
end Pf
namespace Pf
open PySem L2 PyProof.Rows
section
variable {C G S:Addr}
theorem bD {A X:TS}{D:cJ}{σ:L2.St}{H:Hp}(h:∀ X',X'=X->p_ A X' D σ H):p_ A X D σ H:=h X rfl
theorem qa {z:Int}(h:z.natAbs<170141183460469231731687303715884105728):Bt 127 z:=dZ h ⋯
def ye:Sp:=λvs H Q _=>∃ x0 y0:Int,vs=[.int x0,.int y0]/\18446744073709551616<=x0/\x0<85070591730234615865843651857942052864/\0<=y0/\y0<=x0 /\
 ∀ (a b c d x y:Int) (t:Addr) (H':Hp),aa H H'->H' t=some (.tup [.int a,.int b,.int c,.int d])->dP x0 y0 a b c d x y->Q (.ref t) H'
theorem k_ (F:bc K "leading_steps" "leading_steps" Av f fd)(T:bp K mg C G S)(hpt:P.given.tree=none):ax P w K mg base aW 1 f fd ["one","other"] ye:=by
 have nd:=E8.nd;refine F.ok E8 (λvs H Q E h=>?_) (λcdv A outer s H vs Q E hr h=>?_)
 .refine cE h λx0 y0 e94 _=>?_;clear h;obtain rfl:=e94;rfl
 .refine iE h λx0 y0 e95 hx64 hx hy0 hyx q=>?_;clear h;obtain rfl:=e95;refine⟨_,((dX (@cb _ _ _ _ _ (aq<&>(aq<&>(aq<&>(aq<&>ah))))) (@dJ _ _ _ _ _ 4 rfl ((2>>>nd)^^^((3>>>nd)^^^((4>>>nd)^^^((5>>>nd)^^^(@cT _))))) ⇑1 ⇑1))<*>((uy cW (fV jm (pv 1) (BD<|>aq<&&>aq) (aU _)) ((6|||nd|||((jb hpt (jc hr))<|>(ae 0)<&&>(ae 1)))<*>((rh (i:=0) (j:=1) rfl nd rfl rfl ⇑0 rfl rfl ((ae 1)<&>((fQ<|>(ae 0)<&&>(dW<|>(ae 6)<&&>(ae 1)))<&>ah)) rfl)<*>(@bE _ _ _ (dX (@cb _ _ _ _ _ ((ae 4)<&>((ae 5)<&>((fQ<|>(ae 2)<&&>(dW<|>(ae 6)<&&>(ae 4)))<&>((fQ<|>(ae 3)<&&>(dW<|>(ae 6)<&&>(ae 5)))<&>ah))))) (@dJ _ _ _ _ _ 4 rfl ((2>>>nd)^^^((3>>>nd)^^^((4>>>nd)^^^((5>>>nd)^^^(@cT _))))) ⇑1 ⇑1))))))<*>(~~~(@cb _ _ _ _ _ ((ae 2)<&>((ae 3)<&>((ae 4)<&>((ae 5)<&>ah)))))))),?_⟩;walk_at "wp";refine⟨⇑0,λp hp=>⟨_,aB.of aw,rfl,_,_,rfl,_,_,rfl,_,_,rfl,_,_,rfl,rfl,?_⟩⟩;refine⟨λn σ H2=>∃ (a b c d x y:Int) (o:Option V),σ=[some (.int x),some (.int y),some (.int a),some (.int b),some (.int c),some (.int d),o]/\aa H H2/\n=y.natAbs/\dP x0 y0 a b c d x y,
   ⟨_,1,0,0,1,x0,y0,none,rfl,aa.new hp,rfl,⟨∅,∅,⟨1,⇑0,⇑0,⇑0,⇑0,⇑0,⇑0⟩,hx64,hy0,hyx,⇑0,.inl ⟨rfl,rfl,rfl,rfl⟩⟩⟩,?_⟩
  intro n σ H2 e91;refine qV e91 λa b c d x y o e96 s2 e97 st=>?_;clear e91;obtain rfl:=e96;obtain rfl:=e97;walk_at "wp";have e64:(2:Int) ^ Int.toNat 64=18446744073709551616:=⋯
  rw[e64];refine⟨⟨⇑0,⇑0,⇑0⟩,bA (λhc=>?_) (λhc=>?_)⟩
  .have hc:=dB hc;have nx:=st.next hx hyx hc;obtain⟨c1,c2⟩:=st.cd hx hyx;have hxs:x<=x0+y0:=by
    rcases st.pr with ⟨rfl,rfl,rfl,rfl⟩|⟨_,h⟩
    .have:=st.hx;omega
    .have:=st.yn;omega
   have hyx':=st.yx;have hx0:=st.x64;have q0:0<=x / y:=xm ∅ ∅;have q1:x / y<=x:=Int.ediv_le_self _ ∅;have hr0:=nx.yn;have hr1:x-x / y*y<y:=by
    have h1:=fY x (show 0<y by omega);have h2:=A5 x y;rw[r8 y] at h2;omega
   refine⟨_,λ_ _ h=>h,∅,?_⟩;rw[jV ∅];refine⟨(qa (oz87 hx hyx hxs q0 q1)).ok (qa ∅) ⇑0,_,_,⟨rfl,rfl⟩,(qa (oz87 hx hyx hxs q0 q1)).ok (qa ∅) ⇑0,(qa (oz87 hx hyx hxs q0 q1)).ok (qa ∅) ⇑0,⇑0,λp2 hp2=>⟨_,aB.of aw,rfl,_,_,rfl,_,_,rfl,_,_,rfl,_,_,rfl,rfl,?_⟩⟩;exact⟨_,∅,_,_,_,_,_,_,_,rfl,s2.trans (aa.new hp2),rfl,nx⟩
  .exact ⟨⇑0,λt ht=>q a b c d x y t _ (s2.trans (aa.new ht)) aw st⟩
theorem Fs (x:Int){y:Int}(h:y≠0):(x.fmod y).natAbs<y.natAbs:=by
 rcases Int.lt_or_gt_of_ne h with h|h
 .have e:x.fmod y=-((-x).fmod (-y)):=by rw[Int.neg_fmod_neg,Int.neg_neg]
  have h1:=Bk (-x) (show 0 < -y by omega);have h2:=Bb (-x) (show 0 < -y by omega);omega
 .have h1:=Bk x (show 0<y by omega);have h2:=Bb x (show 0<y by omega);omega
theorem DA (a b:Int):Int.gcd b (a.fmod b)=Int.gcd a b:=by
 rw[Int.fmod_def,Int.sub_eq_add_neg,<- Int.mul_neg,Int.gcd_add_mul_left_right,uP]
theorem Gh {x y S a b c d X Y:Int}(hS:0<S)(st:dP (x / S) (y / S) a b c d X Y)(hx:x / S<85070591730234615865843651857942052864)(hyx:y / S<=x / S)(hb:b≠0)(y0:0<=y)(x0:0<=x):(a*x+b*y).natAbs+(c*x+d*y).natAbs<(x+y).natAbs:=by
 obtain⟨c1,d1⟩:=st.cd hx hyx;obtain⟨a1,b1⟩:=st.ab;obtain⟨_,hs⟩:=st.pr.resolve_left λz=>hb z.2.1;have ex:x=S*(x / S)+x % S:=(Int.mul_ediv_add_emod x S).symm;have ey:y=S*(y / S)+y % S:=(Int.mul_ediv_add_emod y S).symm;have rx0:=gv x (show S≠0 by omega);have rx1:=fY x hS;have ry0:=gv y (show S≠0 by omega);have ry1:=fY y hS;have hX:=st.x64;have hY:=st.yn;have e1:a*x+b*y=S*X+(a*(x % S)+b*(y % S)):=by
  rw[<- st.hx]
  grind
 have e2:c*x+d*y=S*Y+(c*(x % S)+d*(y % S)):=by
  rw[<- st.hy]
  grind
 rw[e1,e2];generalize x / S=x' at *;generalize y / S=y' at *;generalize x % S=rx at *;generalize y % S=ry at *;have p1:=rR (show a.natAbs<=4611686018427387903 by exact vA a1) (show rx.natAbs<=S.natAbs by exact oz1 rx0 rx1);have p2:=rR (show b.natAbs<=4611686018427387903 by exact vA b1) (show ry.natAbs<=S.natAbs by exact oz1 ry0 ry1);have p3:=rR (show c.natAbs<=4611686018427387903 by exact vA c1) (show rx.natAbs<=S.natAbs by exact oz1 rx0 rx1);have p4:=rR (show d.natAbs<=4611686018427387903 by exact vA d1) (show ry.natAbs<=S.natAbs by exact oz1 ry0 ry1);have m1:S*(X+Y+18446744073709551616)<=S*(x'+y'):=Int.mul_le_mul_of_nonneg_left hs (oz83 hS);rw[Int.mul_add,Int.mul_add,Int.mul_add] at m1;have m2:0<=S*X:=qE (oz83 hS) ∅;have m3:0<=S*Y:=qE (oz83 hS) hY;have tri:∀ u v z:Int,(u+(v+z)).natAbs<=u.natAbs+(v.natAbs+z.natAbs):=λu v z=>cx (A_ _ _) (Nat.add_le_add_left (A_ _ _) _);have t1:=tri (S*X) (a*rx) (b*ry);have t2:=tri (S*Y) (c*rx) (d*ry);have q1:=xA m2;have q2:=xA m3;have q3:=xA (show 0<=S by exact oz83 hS);have q4:=xA (show 0<=x+y by exact oz103 y0 x0);clear e1 e2 hs st a1 b1 c1 d1 hx hyx hX hY;generalize (S*X+(a*rx+b*ry)).natAbs=N1 at *;generalize (S*Y+(c*rx+d*ry)).natAbs=N2 at *;generalize (a*rx).natAbs=n1 at *;generalize (b*ry).natAbs=n2 at *;generalize (c*rx).natAbs=n3 at *;generalize (d*ry).natAbs=n4 at *;generalize (S*X).natAbs=n5 at *;generalize (S*Y).natAbs=n6 at *;generalize (x+y).natAbs=n7 at *;generalize S.natAbs=n8 at *;generalize S*X=zX at *;generalize S*Y=zY at *;generalize S*x'=zx at *;generalize S*y'=zy at *;exact oz107 rx0 rx1 ry0 t1 t2 q4 q3 p1 p2 p3 p4 q1 q2 ex ey m1
theorem Fq {x:Int}{n:Nat}(h0:0<=x)(h:Builtin.Int.intBits x=n)(hn:126<=n):18446744073709551616<=x / 2 ^ (n-126)/\x / 2 ^ (n-126)<85070591730234615865843651857942052864:=by
 have hp:(0:Int)<2 ^ (n-126):=Int.pow_pos ⇑0;have hu:x.natAbs<2 ^ n:=xx.mp (oz44 h);have hl:¬ x.natAbs<2 ^ (n-1):=λz=>by have:=xx.mpr z;omega
 constructor
 .refine (Int.le_ediv_iff_mul_le hp).mpr ?_;have e:(18446744073709551616:Int)*2 ^ (n-126)=2 ^ (n-62):=by
   rw[show (18446744073709551616:Int)=2 ^ 64 by decide +kernel,<- Int.pow_add];congr 1;exact oz42 hn
  have e2:(2:Int) ^ (n-62)=((2 ^ (n-62):Nat):Int):=by rw[Int.natCast_pow];rfl
  have e3:(2:Nat) ^ (n-62)<=2 ^ (n-1):=u_ ⇑0 oz82;rw[e,e2];exact oz148 h0 hl e3
 .refine Int.ediv_lt_of_lt_mul hp ?_;have e:(85070591730234615865843651857942052864:Int)*2 ^ (n-126)=2 ^ n:=by
   rw[show (85070591730234615865843651857942052864:Int)=2 ^ 126 by decide +kernel,<- Int.pow_add];congr 1;exact oz141 hn
  have e2:(2:Int) ^ n=((2 ^ n:Nat):Int):=by rw[Int.natCast_pow];rfl
  rw[e,e2];exact oz150 hu
def yK:Sp:=λvs H Q _=>∃ x y:Int,vs=[.int x,.int y]/\0<=x/\0<=y/\4000<Builtin.Int.intBits x/\4000<Builtin.Int.intBits y/\Bt uN x/\Bt uN y /\
 ∀ (u v:Int) (t:Addr) (H':Hp),aa H H'->H' t=some (.tup [.int u,.int v])->0<=u->0<=v->u+v<x+y->Int.gcd u v=Int.gcd x y->Q (.ref t) H'
theorem Gr (F:bc K "shortened" "shortened" Ac f fd)(T:bp K mg C G S)(Ybm:az P w K mg base "leading_steps" 1 ye):ax P w K mg base aW 2 f fd ["one","other"] yK:=by
 have nd:=EE.nd;refine F.ok EE (λvs H Q E h=>?_) (λcdv A outer s H vs Q E hr h=>?_)
 .refine cE h λx0 y0 e98 _=>?_;clear h;obtain rfl:=e98;rfl
 .refine iE h λx y e99 x0 y0 xb yb e910=>?_;clear h;obtain rfl:=e99;refine bQ e910 λbx by' q=>?_
  clear e910;refine⟨_,((@bI _ _ _ _ _ _ _ _ (bW iF (ae 0) (ae 1) (aU _)) (@bE _ _ _ (rh (i:=0) (j:=1) rfl nd rfl rfl ⇑0 rfl rfl ((ae 1)<&>((ae 0)<&>ah)) rfl)) bJ)<*>((2|||nd|||(fQ<|>(xW Bj Bh Bg yV (ae 0))<&&>(rK rfl T.g_LEADING)))<*>((dX (Ybm<$>hr<$>((BE<|>(ae 0)<&&>(ae 2))<&>((BE<|>(ae 1)<&&>(ae 2))<&>ah))) (@dJ _ _ _ _ _ 4 rfl ((3>>>nd)^^^((4>>>nd)^^^((5>>>nd)^^^((6>>>nd)^^^(@cT _))))) ⇑1 ⇑1))<*>((@bI _ _ _ _ _ _ _ _ (bW c9 (ae 4) aq (aU _)) (~~~(@cb _ _ _ _ _ ((ae 1)<&>((Ck<|>(ae 0)<&&>(ae 1))<&>ah)))) bJ)<*>(~~~(@cb _ _ _ _ _ ((bS nJ rfl T.n_abs nO ((dI<|>(dW<|>(ae 3)<&&>(ae 0))<&&>(dW<|>(ae 4)<&&>(ae 1)))<&>ah))<&>((bS nJ rfl T.n_abs nO ((dI<|>(dW<|>(ae 5)<&&>(ae 0))<&&>(dW<|>(ae 6)<&&>(ae 1)))<&>ah))<&>ah)))))))),?_⟩;refine bD λX hX=>?_;walk_at "wp";have aft:∀ x y:Int,0<=y->y<=x->4000<Builtin.Int.intBits x->4000<Builtin.Int.intBits y->Bt uN x->Bt uN y->(∀ (u v:Int) (t:Addr) (H':Hp),aa H H'->H' t=some (.tup [.int u,.int v])->0<=u->0<=v->u+v<x+y->Int.gcd u v=Int.gcd x y->Q (.ref t) H')->
    X { nx:=λx H'=>Q V.non H',rt:=Q } [some (.int x),some (.int y),none,none,none,none,none] H:=by
   intro x y y0 yx xb yb bx by' q
   subst hX;walk_at "wp";have x0:0<=x:=∅
   obtain⟨b1,b2⟩:=Fq x0 rfl (show 126<=Builtin.Int.intBits x by omega);have en:((Builtin.Int.intBits x:Int)-126).toNat=Builtin.Int.intBits x-126:=by exact oz33
   rw[en];have hS:(0:Int)<2 ^ (Builtin.Int.intBits x-126):=Int.pow_pos ⇑0;generalize (2:Int) ^ (Builtin.Int.intBits x-126)=S at *;have yn:y≠0:=λz=>by
    subst z;have:Builtin.Int.intBits 0=0:=rfl;omega
   have hyx:y / S<=x / S:=Int.ediv_le_ediv hS yx;refine⟨rfl,∅,∅,_,_,rfl,b1,b2,xm y0 (oz83 hS),hyx,λa b c d X' Y' t H1 s1 ht st=>?_⟩;refine⟨t,rfl,_,aB.of ht,rfl,_,_,rfl,_,_,rfl,_,_,rfl,_,_,rfl,rfl,rfl,bA (λhb=>?_) (λhb=>?_)⟩
   .refine ⟨yn,⇑0,λp hp=>?_⟩;have f0:=Bk x (show 0<y by exact oz153 y0 yn);have f1:=Bb x (show 0<y by exact oz153 y0 yn);exact q _ _ p _ (s1.trans (aa.new hp)) aw y0 f0 ∅ (DA x y)
   .have hb:b≠0:=λz=>hb (bR (by rw[z]));obtain⟨a1,a2⟩:=st.ab;obtain⟨c1,c2⟩:=st.cd b2 hyx;have sm:∀ z:Int,z.natAbs<4611686018427387904->Bt 127 z:=λz hz=>qa ∅;have lt:=Gh hS st b2 hyx hb y0 x0;refine⟨_,rfl,(sm a a1).ok bx ⇑0,_,rfl,(sm b a2).ok by' ⇑0,_,rfl,(sm c c1).ok bx ⇑0,_,rfl,(sm d c2).ok by' ⇑0,⇑0,λp hp=>?_⟩;have ab:∀ z:Int,(if z<0 then -z else z)=(z.natAbs:Int):=λz=>by split <;> omega
    rw[ab,ab];refine q _ _ p _ (s1.trans (aa.new hp)) aw oz15 oz15 (oz13 y0 x0 lt) ?_;refine aQ st.sg λe he det _=>?_;have eg:∀ u v:Int,Int.gcd (u.natAbs:Int) (v.natAbs:Int)=Int.gcd u v:=λu v=>by simp[Int.gcd]
    rw[eg,Ft (by rcases he with rfl|rfl <;> omega)]
  refine bA (λhc=>?_) (λhc=>?_)
  .have hc:=dB hc;exact aM _ _ ⟨⟨rfl,rfl⟩,aft y x x0 ∅ yb xb by' bx λu v t H' s' ht u0 v0 huv hg=>q u v t H' s' ht u0 v0 ∅ (by rw[hg,uP])⟩
  .have hc:¬ x<y:=λz=>hc (bR z);exact aft x y y0 ∅ xb yb bx by' q
theorem DQ {x y:Int}(h:x.natAbs<=y.natAbs):Builtin.Int.intBits x<=Builtin.Int.intBits y:=xx.mpr (iW h (xx.mp (aI _)))
def spNbl:Sp:=λvs H Q _=>∃ x y:Int,vs=[.int x,.int y]/\0<=x/\0<=y/\Bt NB x/\Bt NB y /\
 ∀ (u v:Int) (t:Addr) (H':Hp),aa H H'->H' t=some (.tup [.int u,.int v])->Int.gcd u v=Int.gcd x y->Q (.ref t) H'
theorem o7 (F:bc K "not_both_long" "not_both_long" Ax f fd)(T:bp K mg C G S)(Ybp:az P w K mg base "shortened" 2 yK):ax P w K mg base aW 3 f fd ["one","other"] spNbl:=by
 have nd:=EY.nd;refine F.ok EY (λvs H Q E h=>?_) (λcdv A outer s H vs Q E hr h=>?_)
 .refine cE h λx0 y0 e911 _=>?_;clear h;obtain rfl:=e911;rfl
 .refine iE h λx y e912 x0 y0 bx by' q=>?_
  clear h;obtain rfl:=e912;refine⟨_,((uy cW (fV fM (xW Bj Bh Bg yV (bS (DR rfl) rfl T.n_min boot_min ((pv 0)<&>((pv 1)<&>ah)))) (rK rfl T.g_LONG) (aU _)) (@bE _ _ _ (dX (Ybp<$>hr<$>((ae 0)<&>((ae 1)<&>ah))) (@dJ _ _ _ _ _ 2 rfl ((0>>>nd)^^^((1>>>nd)^^^(@cT _))) ⇑1 ⇑1))))<*>(~~~(@cb _ _ _ _ _ ((ae 0)<&>((ae 1)<&>ah))))),?_⟩;walk_at "wp";refine⟨λn σ H2=>∃ u v:Int,σ=[some (.int u),some (.int v)]/\aa H H2/\n=(u+v).toNat/\0<=u/\0<=v/\u+v<=x+y/\Int.gcd u v=Int.gcd x y,⟨_,x,y,rfl,aa.refl _,rfl,x0,y0,rX _,rfl⟩,?_⟩;intro n σ H2 e92;refine iE e92 λu v e913 s2 e914 u0 v0 e915=>?_;clear e92;obtain rfl:=e913;obtain rfl:=e914;obtain⟨huv,hg⟩:=e915;walk_at "wp";have hb:∀ z:Int,0<=z->z<=x+y->Bt uN z:=λz z0 z1=>(Bt.add bx by').abs_le (oz134 z0 z1);refine aM _ _ ⟨⟨rfl,rfl⟩,rfl,bA (λhc=>?_) (λhc=>?_)⟩
  .have hc:=dB hc;have bu:4000<Builtin.Int.intBits u:=by
    by_cases h:v<u
    .rw [if_pos h] at hc;exact dZ ∅ (DQ (show v.natAbs<=u.natAbs by exact oz1 v0 h))
    .rw [if_neg h] at hc;omega
   have bv:4000<Builtin.Int.intBits v:=by
    by_cases h:v<u
    .rw [if_pos h] at hc;omega
    .rw [if_neg h] at hc;exact dZ ∅ (DQ (show u.natAbs<=v.natAbs by omega))
   refine⟨_,λ_ _ h=>h,u,v,rfl,u0,v0,bu,bv,hb u u0 ∅,hb v v0 ∅,λu' v' t H3 s3 ht u0' v0' lt hg'=>⟨t,rfl,_,aB.of ht,rfl,_,_,rfl,_,_,rfl,rfl,(u'+v').toNat,oz99 u0' v0' lt,u',v',rfl,s2.trans s3,rfl,u0',v0',∅,hg'.trans hg⟩⟩
  .exact ⟨⇑0,λt ht=>q u v t _ (s2.trans (aa.new ht)) aw hg⟩
def qd:Sp:=λvs H Q _=>∃ a b:Int,vs=[.int a,.int b]/\Bt NB a/\Bt NB b/\∀ H',aa H H'->Q (.int (Int.gcd a b:Int)) H'
theorem pC (F:bc K "common_divisor" "common_divisor" Ay f fd)(T:bp K mg C G S)(Ybl:az P w K mg base "not_both_long" 3 spNbl):ax P w K mg base aW 4 f fd ["one","other"] qd:=by
 have nd:=EZ.nd;refine F.ok EZ (λvs H Q E h=>?_) (λcdv A outer s H vs Q E hr h=>?_)
 .refine cE h λa b e916 _=>?_;clear h;obtain rfl:=e916;rfl
 .refine gh h λa b e917 ha hb q=>?_;clear h;obtain rfl:=e917;refine⟨_,((@bI _ _ _ _ _ _ _ _ (bW fM (xW Bj Bh Bg yV (ae 0)) (rK rfl T.g_LONG) (aU _)) (@bE _ _ _ (dX (Ybl<$>hr<$>((bS nJ rfl T.n_abs nO ((ae 0)<&>ah))<&>((bS nJ rfl T.n_abs nO ((ae 1)<&>ah))<&>ah))) (@dJ _ _ _ _ _ 2 rfl ((0>>>nd)^^^((1>>>nd)^^^(@cT _))) ⇑1 ⇑1))) bJ)<*>((uy cW (fV gj (pv 1) aq (aU _)) (@bE _ _ _ (rh (i:=0) (j:=1) rfl nd rfl rfl ⇑0 rfl rfl ((ae 1)<&>((Ck<|>(ae 0)<&&>(ae 1))<&>ah)) rfl)))<*>(~~~(bS nJ rfl T.n_abs nO ((ae 0)<&>ah))))),?_⟩;refine bD λX hX=>?_;walk_at "wp";have aft:∀ (x y:Int) (H1:Hp),aa H H1->Int.gcd x y=Int.gcd a b->X { nx:=λx H'=>Q V.non H',rt:=Q } [some (.int x),some (.int y)] H1:=by
   intro x y H1 s1 hg;subst hX;walk_at "wp";refine⟨λn σ H2=>∃ x y:Int,σ=[some (.int x),some (.int y)]/\H2=H1/\n=y.natAbs/\Int.gcd x y=Int.gcd a b,⟨_,x,y,rfl,rfl,rfl,hg⟩,?_⟩;intro n σ H2 e93;refine gh e93 λx y e918 e919 e920 hg=>?_;clear e93;obtain rfl:=e918;obtain rfl:=e919;obtain rfl:=e920;walk_at "wp";refine bA (λhc=>?_) (λhc=>?_)
   .have hy0:¬ y=0:=by simpa using hc
    exact⟨_,λ_ _ h=>h,hy0,_,_,⟨rfl,rfl⟩,(x.fmod y).natAbs,Fs x hy0,y,x.fmod y,rfl,rfl,rfl,by rw[DA];exact hg⟩
   .have hy0:y=0:=by simpa using hc
    subst hy0;have e:(if x<0 then -x else x)=(Int.gcd a b:Int):=by
     rw[<- hg,Int.gcd_zero];split <;> omega
    rw[e];exact q _ s1
  have ab:∀ z:Int,(if z<0 then -z else z)=(z.natAbs:Int):=λz=>by split <;> omega
  refine⟨rfl,bA (λhc=>?_) (λhc=>aft a b H (aa.refl _) rfl)⟩;rw[ab,ab];exact aM _ _ ⟨rfl,oz41,oz41,ha.abs_le (by simp),hb.abs_le (by simp),λu v t H1 s1 ht hg=>⟨t,rfl,_,aB.of ht,rfl,_,_,rfl,_,_,rfl,rfl,aft u v H1 s1 (by rw[hg];simp[Int.gcd])⟩⟩
def Kn (H:Hp)(v:V):Prop:=v=.non\/(∃ b,v=.bl b)\/(∃ i,v=.int i)\/(∃ s,v=.str s)\/(∃ a xs,v=.ref a/\H a=some (.lst xs)/\xs.length<=1000)\/∃ a xs,v=.ref a/\H a=some (.tup xs)/\xs.length<=1000
theorem Kn.same {H H':Hp}{v:V}(h:Kn H v)(s:aa H H'):Kn H' v:=by
 rcases h with h|h|h|h|⟨a,xs,h1,h2,h3⟩|⟨a,xs,h1,h2,h3⟩
 .exact .inl h
 .exact .inr (.inl h)
 .exact .inr (.inr (.inl h))
 .exact .inr (.inr (.inr (.inl h)))
 .exact .inr (.inr (.inr (.inr (.inl ⟨a,xs,h1,s _ _ h2,h3⟩))))
 .exact .inr (.inr (.inr (.inr (.inr ⟨a,xs,h1,s _ _ h2,h3⟩))))
theorem Kn.int {H:Hp}{i:Int}:Kn H (.int i):=.inr (.inr (.inl ⟨i,rfl⟩))
theorem Kn.bl {H:Hp}{i:Bool}:Kn H (.bl i):=.inr (.inl ⟨i,rfl⟩)
theorem Kn.str {H:Hp}{i:Str}:Kn H (.str i):=.inr (.inr (.inr (.inl ⟨i,rfl⟩)))
theorem Kn.lst {H:Hp}{a:Addr}{xs:List V}(h:H a=some (.lst xs))(hl:xs.length<=1000):Kn H (.ref a):=.inr (.inr (.inr (.inr (.inl ⟨a,xs,rfl,h,hl⟩))))
theorem Kn.tup {H:Hp}{a:Addr}{xs:List V}(h:H a=some (.tup xs))(hl:xs.length<=1000):Kn H (.ref a):=.inr (.inr (.inr (.inr (.inr ⟨a,xs,rfl,h,hl⟩))))
def isI:V->Bool
 | .int _=>true
 | .bl _=>true
 | _=>false
def isBl:V->Bool
 | .bl _=>true
 | _=>false
def js (H:Hp):V->Bool
 | .ref a=>match H a with
  | some (.tup _)=>true
  | _=>false
 | _=>false
def l_ (H:Hp):V->Bool
 | .ref a=>match H a with
  | some (.lst _)=>true
  | _=>false
 | _=>false
def whB:V->Bool
 | .int _=>true
 | _=>false
theorem pN {H:Hp}{v:V}(h:Kn H v):∃ t,cO K H v t/\PySem.W.kitOne K t (.type "int")=some (isI v):=by
 rcases h with rfl|⟨b,rfl⟩|⟨i,rfl⟩|⟨z,rfl⟩|⟨a,xs,rfl,h2,_⟩|⟨a,xs,rfl,h2,_⟩
 .exact ⟨_,.non,by kernel_rfl⟩
 .exact ⟨_,.bl b,Hu K⟩
 .exact ⟨_,.int i,DC K⟩
 .exact ⟨_,.str z,by kernel_rfl⟩
 .exact ⟨_,.lst h2,by kernel_rfl⟩
 .exact ⟨_,.tup h2,by kernel_rfl⟩
theorem lK {H:Hp}{v:V}(h:Kn H v):∃ t,cO K H v t/\PySem.W.kitOne K t (.type "bool")=some (isBl v):=by
 rcases h with rfl|⟨b,rfl⟩|⟨i,rfl⟩|⟨z,rfl⟩|⟨a,xs,rfl,h2,_⟩|⟨a,xs,rfl,h2,_⟩
 .exact ⟨_,.non,by kernel_rfl⟩
 .exact ⟨_,.bl b,Ek K⟩
 .exact ⟨_,.int i,D7 K⟩
 .exact ⟨_,.str z,by kernel_rfl⟩
 .exact ⟨_,.lst h2,by kernel_rfl⟩
 .exact ⟨_,.tup h2,by kernel_rfl⟩
theorem By {H:Hp}{v:V}(h:Kn H v):∃ t,cO K H v t/\PySem.W.kitOne K t (.type "tuple")=some (js H v):=by
 rcases h with rfl|⟨b,rfl⟩|⟨i,rfl⟩|⟨z,rfl⟩|⟨a,xs,rfl,h2,_⟩|⟨a,xs,rfl,h2,_⟩
 .exact ⟨_,.non,by kernel_rfl⟩
 .exact ⟨_,.bl b,by kernel_rfl⟩
 .exact ⟨_,.int i,by kernel_rfl⟩
 .exact ⟨_,.str z,by kernel_rfl⟩
 .refine ⟨_,.lst h2,?_⟩;simp only[js,h2]
  kernel_rfl
 .refine ⟨_,.tup h2,?_⟩;simp only[js,h2];exact zi K
theorem Cb {H:Hp}{v:V}(h:Kn H v):∃ t,cO K H v t/\PySem.W.kitOne K t (.type "list")=some (l_ H v):=by
 rcases h with rfl|⟨b,rfl⟩|⟨i,rfl⟩|⟨z,rfl⟩|⟨a,xs,rfl,h2,_⟩|⟨a,xs,rfl,h2,_⟩
 .exact ⟨_,.non,by kernel_rfl⟩
 .exact ⟨_,.bl b,by kernel_rfl⟩
 .exact ⟨_,.int i,by kernel_rfl⟩
 .exact ⟨_,.str z,by kernel_rfl⟩
 .refine ⟨_,.lst h2,?_⟩;simp only[l_,h2];exact wU K
 .refine ⟨_,.tup h2,?_⟩;simp only[l_,h2]
  kernel_rfl
def uB:Sp:=λvs H Q _=>∃ v:V,vs=[v]/\Kn H v/\Q (.bl (whB v)) H
theorem Hb (F:bc K "is_whole" "is_whole" wR f fd)(T:bp K mg C G S):ax P w K mg base aW 1 f fd ["thing"] uB:=by
 have nd:=wV.nd;refine F.ok wV (λvs H Q E h=>?_) (λcdv A outer s H vs Q E hr h=>?_)
 .refine ar h λi e91 _=>?_;clear h;obtain rfl:=e91;rfl
 .refine aQ h λv e92 hk q=>?_;clear h;obtain rfl:=e92;refine⟨_,(~~~(jP (bS h_ rfl T.n_isinstance iz ((ae 0)<&>((g7 rfl T.n_int boot_int)<&>ah))) (jQ (BG (bS h_ rfl T.n_isinstance iz ((ae 0)<&>((g7 rfl T.n_bool boot_bool)<&>ah))))))),?_⟩;walk_at "wp";refine ar (pN (K:=K) hk) λt1 h1 h2=>?_;refine ar (lK (K:=K) hk) λt2 h3 h4=>?_;refine aM _ _ ⟨⟨rfl,rfl⟩,_,rfl,_,h1,_,h2,bA (λhc=>⟨_,_,⟨rfl,rfl⟩,_,rfl,_,h3,_,h4,?_⟩) (λhc=>?_)⟩
  .cases v <;> first|exact q|cases hc
  .cases v <;> first|exact q|exact absurd rfl hc
def frB (H:Hp):V->Bool
 | .ref a=>match H a with
  | some (.tup [.int x,.int y])=>decide (1<=y) && decide (Int.gcd x y=1)
  | _=>false
 | _=>false
def g6 (p:Int)(H:Hp)(v:V):Bool:=if p=0 then frB H v else match v with
 | .int i=>decide (0<=i) && decide (i<p)
 | _=>false
def i5 (p wd:Int)(H:Hp):V->Bool
 | .ref a=>match H a with
  | some (.lst xs)=>decide ((xs.length:Int)=wd) && xs.all (g6 p H)
  | _=>false
 | _=>false
def i6 (p:Int)(H:Hp):V->Bool
 | .ref a=>match H a with
  | some (.tup [.int h,.int wd,.ref r])=>match H r with
   | some (.lst rows)=>decide (0<=h) && decide (0<=wd) && decide ((rows.length:Int)=h) && rows.all (i5 p wd H)
   | _=>false
  | _=>false
 | _=>false
def uH (y:V):Prop:=∀ i,y=.int i->Ic i
def jX (H:Hp)(v:V):Prop:=Kn H v/\∀ a xs,v=.ref a->H a=some (.tup xs)->∀ y∈xs,Kn H y/\uH y
def mE (H:Hp)(v:V):Prop:=Kn H v/\∀ a xs,v=.ref a->H a=some (.lst xs)->∀ y∈xs,jX H y
def AJ (H:Hp)(v:V):Prop:=Kn H v/\∀ a xs,v=.ref a->H a=some (.tup xs)->∀ y∈xs,Kn H y/\∀ r rows,y=.ref r->H r=some (.lst rows)->∀ z∈rows,mE H z
theorem Kn.back {H H':Hp}{a:Addr}{o:HO}(h:Kn H (.ref a))(s:aa H H')(e:H' a=some o):H a=some o:=by
 rcases h with h|⟨_,h⟩|⟨_,h⟩|⟨_,h⟩|⟨b,xs,h1,h2,_⟩|⟨b,xs,h1,h2,_⟩
 .cases h
 .cases h
 .cases h
 .cases h
 .cases h1;rw[s _ _ h2] at e;rw[h2,e]
 .cases h1;rw[s _ _ h2] at e;rw[h2,e]
theorem Kn.at {H H':Hp}{a:Addr}(h:Kn H (.ref a))(s:aa H H'):H' a=H a:=by
 rcases h with h|⟨_,h⟩|⟨_,h⟩|⟨_,h⟩|⟨b,xs,h1,h2,_⟩|⟨b,xs,h1,h2,_⟩
 .cases h
 .cases h
 .cases h
 .cases h
 .cases h1;rw[s _ _ h2,h2]
 .cases h1;rw[s _ _ h2,h2]
theorem jX.same {H H':Hp}{v:V}(h:jX H v)(s:aa H H'):jX H' v:=
 ⟨h.1.same s,λa xs e1 e2 y hy=>by subst e1;exact⟨(h.2 a xs rfl (h.1.back s e2) y hy).1.same s,(h.2 a xs rfl (h.1.back s e2) y hy).2⟩⟩
theorem mE.same {H H':Hp}{v:V}(h:mE H v)(s:aa H H'):mE H' v:=
 ⟨h.1.same s,λa xs e1 e2 y hy=>by subst e1;exact (h.2 a xs rfl (h.1.back s e2) y hy).same s⟩
theorem DG {H H':Hp}{p:Int}{v:V}(h:jX H v)(s:aa H H'):g6 p H' v=g6 p H v:=by
 unfold g6;split
 .cases v <;> try rfl
  simp only[frB,h.1.at s]
 .rfl
theorem DZ {α:Type}{f g:α->Bool}:∀ {xs:List α},(∀ x∈xs,f x=g x)->xs.all f=xs.all g
 | [],_=>rfl
 | x::xs,h=>by
  rw[uS,uS,h x nV,DZ λy hy=>h y (j7 _ hy)]
theorem Hj {H H':Hp}{p wd:Int}{v:V}(h:mE H v)(s:aa H H'):i5 p wd H' v=i5 p wd H v:=by
 cases v <;> try rfl
 rename_i a
 simp only[i5,h.1.at s];split
 .rename_i xs e
  rw[DZ λy hy=>DG (h.2 a xs rfl e y hy) s]
 .rfl
theorem mW {H:Hp}{v:V}(h:Kn H v)(ht:js H v=true):∃ a xs,v=.ref a/\H a=some (.tup xs)/\xs.length<=1000:=by
 rcases h with rfl|⟨b,rfl⟩|⟨i,rfl⟩|⟨z,rfl⟩|⟨a,xs,rfl,h2,_⟩|h
 .cases ht
 .cases ht
 .cases ht
 .cases ht
 .simp only [js,h2] at ht;cases ht
 .exact h
theorem mY {H:Hp}{v:V}(h:Kn H v)(ht:l_ H v=true):∃ a xs,v=.ref a/\H a=some (.lst xs)/\xs.length<=1000:=by
 rcases h with rfl|⟨b,rfl⟩|⟨i,rfl⟩|⟨z,rfl⟩|h|⟨a,xs,rfl,h2,_⟩
 .cases ht
 .cases ht
 .cases ht
 .cases ht
 .exact h
 .simp only [l_,h2] at ht;cases ht
theorem tT {v:V}(h:whB v=true):∃ i,v=.int i:=by
 cases v <;> first|exact⟨_,rfl⟩|cases h
theorem lS {H:Hp}{v:V}(h:js H v=false):frB H v=false:=by
 cases v <;> try rfl
 simp only[js] at h;simp only[frB];split
 .rename_i e;rw[e] at h;cases h
 .rfl
theorem lT {H:Hp}{a:Addr}{xs:List V}(h:H a=some (.tup xs))(hl:xs.length≠2):frB H (.ref a)=false:=by
 simp only[frB,h];split
 .rename_i e;cases e;exact absurd rfl hl
 .rfl
theorem B5 {H:Hp}{a:Addr}{x y:V}(h:H a=some (.tup [x,y]))(hw:whB x=false\/whB y=false):frB H (.ref a)=false:=by
 simp only[frB,h];split
 .rename_i e
  cases e;rcases hw with hw|hw <;> cases hw
 .rfl
theorem CZ {H:Hp}{a:Addr}{x y:Int}(h:H a=some (.tup [.int x,.int y])):frB H (.ref a)=(decide (1<=y) && decide (Int.gcd x y=1)):=by
 simp only[frB,h]
def spFr:Sp:=λvs H Q _=>∃ v:V,vs=[v]/\jX H v/\∀ H',aa H H'->Q (.bl (frB H v)) H'
theorem sY (F:bc K "is_fraction" "is_fraction" An f fd)(T:bp K mg C G S)(Yab:az P w K mg base "is_whole" 1 uB)(Yad:az P w K mg base "common_divisor" 4 qd):ax P w K mg base aW 5 f fd ["thing"] spFr:=by
 have nd:=ER.nd;refine F.ok ER (λvs H Q E h=>?_) (λcdv A outer s H vs Q E hr h=>?_)
 .refine ar h λv e91 _=>?_;clear h;obtain rfl:=e91;rfl
 .refine aQ h λv e92 e93 q=>?_;clear h;obtain rfl:=e92;obtain⟨hk,hx⟩:=e93;refine⟨_,((@bI _ _ _ _ _ _ _ _ (PW.pt (fm (dU (eN (bS h_ rfl T.n_isinstance iz ((ae 0)<&>((g7 rfl T.n_tuple boot_tuple)<&>ah))))) (gm (bW gj (bS fo rfl T.n_len fu ((ae 0)<&>ah)) aq (aU _))))) (~~~eJ) bJ)<*>((dX (ae 0) (@dJ _ _ _ _ _ 2 rfl ((1>>>nd)^^^((2>>>nd)^^^(@cT _))) ⇑1 ⇑1))<*>((@bI _ _ _ _ _ _ _ _ (PW.pt (fm (dU (eN (Yab<$>hr<$>((ae 1)<&>ah)))) (fm (dU (eN (Yab<$>hr<$>((ae 2)<&>ah)))) (gm (bW iF (ae 2) aq (aU _)))))) (~~~eJ) bJ)<*>(~~~(gO c9 (Yad<$>hr<$>((ae 1)<&>((ae 2)<&>ah))) aq (aU _)))))),?_⟩;walk_at "wp";refine ar (By (K:=K) hk) λt1 h1 h2=>?_;refine aM _ _ ⟨⟨rfl,rfl⟩,_,rfl,_,h1,_,h2,?_⟩;refine bA (λhc=>?_) (λhc=>?_)
  .have hc:js H v=false:=by simpa using hc
   rw[lS hc] at q;exact q _ (aa.refl _)
  .have hc:js H v=true:=by simpa using hc
   refine cy (mW hk hc) λa xs e94 ha hl=>?_;obtain rfl:=e94;refine⟨a,rfl,xs,.inr (aB.of ha),bA (λhn=>?_) (λhn=>?_)⟩
   .have hn:¬ xs.length=2:=by intro z;rw[z] at hn;exact absurd hn ⇑0
    rw[lT ha hn] at q;exact q _ (aa.refl _)
   .have hn:xs.length=2:=by
     have:((xs.length:Nat):Int)=2:=by simpa using hn
     omega
    obtain⟨x,y,rfl⟩:∃ x y,xs=[x,y]:=by
     match xs,hn with
     | [x,y],_=>exact⟨x,y,rfl⟩
    refine⟨a,rfl,_,aB.of ha,rfl,_,_,rfl,_,_,rfl,rfl,x,rfl,(hx a _ rfl ha x (by simp)).1,_,rfl,bA (λh1=>?_) (λh1=>?_)⟩
    .rw [B5 ha (.inl (by simpa using h1))] at q;exact q _ (aa.refl _)
    .obtain ⟨i,rfl⟩:=tT (v:=x) (by simpa using h1);refine⟨y,rfl,(hx a _ rfl ha y (by simp)).1,_,rfl,bA (λh2=>?_) (λh2=>?_)⟩
     .rw [B5 ha (.inr (by simpa using h2))] at q;exact q _ (aa.refl _)
     .obtain ⟨j,rfl⟩:=tT (v:=y) (by simpa using h2);rw[CZ ha] at q;refine⟨j,rfl,bA (λh3=>?_) (λh3=>?_)⟩
      .have h3:=dB h3;rw[dm (show ¬ 1<=j by omega)] at q;exact q _ (aa.refl _)
      .have h3:¬ j<1:=λz=>h3 (bR z);refine aM i j ⟨rfl,(hx a _ rfl ha _ (by simp)).2 i rfl,(hx a _ rfl ha _ (by simp)).2 j rfl,λH' s'=>⟨rfl,?_⟩⟩;rw[bR (show 1<=j by omega)] at q;have:decide (V.int (Int.gcd i j:Int)=V.int 1)=decide (Int.gcd i j=1):=by
        simp only[V.int.injEq];by_cases e:Int.gcd i j=1
        .rw [bR e,bR ∅]
        .rw [dm e,dm ∅]
       rw[this];exact q _ s'
def spIsN (G:Addr):Sp:=λvs H Q _=>∃ (g:Addr) (p:Int) (v:V),vs=[.ref g,v]/\di G H g p/\af p/\jX H v/\∀ H',aa H H'->Q (.bl (g6 p H v)) H'
theorem lF {p:Int}{H:Hp}{v:V}(hp:¬ p=0)(h:whB v=false):g6 p H v=false:=by
 unfold g6;rw[if_neg hp];cases v <;> first|rfl|cases h
theorem Du {p i:Int}{H:Hp}(hp:¬ p=0):g6 p H (.int i)=(decide (0<=i) && decide (i<p)):=by
 unfold g6;rw[if_neg hp]
theorem Cy {p:Int}{H:Hp}{v:V}(hp:p=0):g6 p H v=frB H v:=by
 unfold g6;rw[if_pos hp]
theorem pd (F:bc K "is_number" "Ground.is_number" AG f fd)(T:bp K mg C G S)(Yab:az P w K mg base "is_whole" 1 uB)(Ybo:az P w K mg base "is_fraction" 5 spFr):ax P w K mg base aW 6 f fd ["self","thing"] (spIsN G):=by
 have nd:=Fc.nd;refine F.ok Fc (λvs H Q E h=>?_) (λcdv A outer s H vs Q E hr h=>?_)
 .refine gK h λg p v e95 _=>?_;clear h;obtain rfl:=e95;rfl
 .refine cD h λg p v e96 e97 hp e98=>?_;clear h;obtain rfl:=e96;obtain⟨dx,hg⟩:=e97;obtain⟨hw,q⟩:=e98;refine⟨_,((@bI _ _ _ _ _ _ _ _ (bW c9 (eA (ae 0) rfl) aq (aU _)) (~~~(Ybo<$>hr<$>((ae 1)<&>ah))) bJ)<*>(~~~(jP (Yab<$>hr<$>((ae 1)<&>ah)) (jQ (y8 nj iF aq (ae 1) (eA (ae 0) rfl)))))),?_⟩;walk_at "wp";refine c5 G dx _ ⟨hg,T.cl_Ground,T.nP,_,jA p,rfl,bA (λhc=>?_) (λhc=>?_)⟩
  .have hp0:p=0:=by simpa using hc
   rw[Cy hp0] at q;exact⟨v,rfl,hw,q⟩
  .have hp0:¬ p=0:=by simpa using hc
   refine⟨v,rfl,hw.1,_,rfl,bA (λh1=>?_) (λh1=>?_)⟩
   .obtain ⟨i,rfl⟩:=tT h1;rw[Du hp0] at q;refine⟨i,rfl,bA (λh2=>⟨G,dx,_,hg,T.cl_Ground,T.nP,_,jA p,i,rfl,p,rfl,?_⟩) (λh2=>?_)⟩
    .rw [h2,uR] at q;exact q _ (aa.refl _)
    .rw [show decide (0<=i)=false by simpa using h2,xv] at q;exact q _ (aa.refl _)
   .rw [lF hp0 (by simpa using h1)] at q;exact q _ (aa.refl _)
theorem BR {f:V->Bool}(xs:List V):((List.range xs.length).map λi=>f (xs.getD i .non)).all id=xs.all f:=by
 rw[nQ,iT,iT];constructor
 .intro h x hx;obtain⟨i,hi,rfl⟩:=d9.mp hx;have:=h (f (xs.getD i .non)) (cw.mpr ⟨i,eC.mpr hi,rfl⟩);simpa [hi] using this
 .intro h b hb;refine ar (cw.mp hb) λi hi e99=>?_;obtain rfl:=e99;have hi:=eC.mp hi;simpa [hi] using h _ (eO hi)
theorem B6 {xs:List V}{i:Nat}{x:V}(h:xs[i]?=some x):xs.getD i .non=x:=by rw[aT,h];rfl
def yi (G:Addr):Sp:=λvs H Q _=>∃ (g:Addr) (p wd:Int) (v:V),vs=[.ref g,.int wd,v]/\di G H g p/\af p/\mE H v/\∀ H',aa H H'->Q (.bl (i5 p wd H v)) H'
theorem Gb {p wd:Int}{H:Hp}{v:V}(h:l_ H v=false):i5 p wd H v=false:=by
 cases v <;> try rfl
 simp only[l_] at h;simp only[i5];split
 .rename_i e;rw[e] at h;cases h
 .rfl
theorem Cu {p wd:Int}{H:Hp}{a:Addr}{xs:List V}(h:H a=some (.lst xs)):i5 p wd H (.ref a)=(decide ((xs.length:Int)=wd) && xs.all (g6 p H)):=by
 simp only[i5,h]
theorem FL (F:bc K "is_row" "is_row" zb f fd)(T:bp K mg C G S)(Ybi:jI P w K mg base G "is_number" 6 (spIsN G)):ax P w K mg base aW 7 f fd ["ground","wide","thing"] (yi G):=by
 have nd:=DI.nd;refine F.ok DI (λvs H Q E h=>?_) (λcdv A outer s H vs Q E hr h=>?_)
 .refine qf h λg p wd v e910 _=>?_;clear h;obtain rfl:=e910;rfl
 .refine d6 h λg p wd v e911 e912 hp e913=>?_;clear h;obtain rfl:=e911;obtain⟨dx,hg⟩:=e912;obtain⟨⟨hk,hx⟩,q⟩:=e913;refine⟨_,((@bI _ _ _ _ _ _ _ _ (PW.pt (fm (dU (eN (bS h_ rfl T.n_isinstance iz ((ae 2)<&>((g7 rfl T.n_list iP)<&>ah))))) (gm (bW gj (bS fo rfl T.n_len fu ((ae 2)<&>ah)) (ae 1) (aU _))))) (~~~eJ) bJ)<*>(~~~(bS (qr rfl) rfl T.n_all boot_all ((eL (own:=["number"]) (fr:=[("ground",0)]) rfl (c4 (by kernel_rfl)) (eM (pv 2)) (λ_ _ _ _=>⟨(0<<<["number","ground"]),dz,(BF T.cl_Ground Ybi hr.m (pv 1) ((pv 0)<&>ah))⟩))<&>ah)))),?_⟩;walk_at "wp";refine ar (Cb (K:=K) hk) λt1 h1 h2=>?_;refine aM _ _ ⟨⟨rfl,rfl⟩,_,rfl,_,h1,_,h2,bA (λhc=>?_) (λhc=>?_)⟩
  .rw [Gb (by simpa using hc)] at q;exact q H (aa.refl _)
  .refine cy (mY hk (by simpa using hc)) λa xs e914 ha hl=>?_;obtain rfl:=e914;rw[Cu ha] at q;refine⟨a,rfl,xs,.inl (aj.of ha),bA (λhn=>?_) (λhn=>?_)⟩
   .rw [show decide ((xs.length:Int)=wd)=false by simpa using hn,xv] at q;exact q H (aa.refl _)
   .rw [show decide ((xs.length:Int)=wd)=true by simpa using hn,uR] at q;refine⟨_,rfl,a,rfl,⟨_,aj.of ha⟩,λD hD=>wM (λi=>g6 p H (xs.getD i .non)) ha hD ∅ (λi y H' Q' hy s' q'=>?_) λH' s' e'=>⟨D,rfl,_,aj.of e',?_⟩⟩
    .have wy:=hx a xs rfl ha y (aY hy);refine⟨_,rfl,g,dx,_,rfl,s' _ _ hg,y6 _ ⋯,_,rfl,g,p,y,rfl,⟨dx,s' _ _ hg⟩,hp,wy.same s',?_⟩;rw[DG wy s',<- B6 hy];exact λH2 s2=>q' H2 s2
    .rw [BR];exact q H' s'
def yk (G:Addr):Sp:=λvs H Q _=>∃ (g:Addr) (p:Int) (v:V),vs=[.ref g,v]/\di G H g p/\af p/\AJ H v/\∀ H',aa H H'->Q (.bl (i6 p H v)) H'
theorem GH {p:Int}{H:Hp}{v:V}(h:js H v=false):i6 p H v=false:=by
 cases v <;> try rfl
 simp only[js] at h;simp only[i6];split
 .rename_i e;rw[e] at h;cases h
 .rfl
theorem GG {p:Int}{H:Hp}{a:Addr}{xs:List V}(h:H a=some (.tup xs))(hl:xs.length≠3):i6 p H (.ref a)=false:=by
 simp only[i6,h];split
 .rename_i e;cases e;exact absurd rfl hl
 .rfl
theorem Ej {p:Int}{H:Hp}{a:Addr}{x y z:V}(h:H a=some (.tup [x,y,z]))(hw:whB x=false\/whB y=false):i6 p H (.ref a)=false:=by
 simp only[i6,h];split
 .rename_i e
  cases e;rcases hw with hw|hw <;> cases hw
 .rfl
theorem zG {p:Int}{H:Hp}{a:Addr}{i j:Int}{z:V}(h:H a=some (.tup [.int i,.int j,z]))(hw:(i<0\/j<0)\/l_ H z=false):i6 p H (.ref a)=false:=by
 simp only[i6,h];split
 .rename_i e
  cases e;split
  .rename_i rows e2
   rcases hw with (hw|hw)|hw
   .rw [dm (show ¬ 0<=i by omega)];simp
   .rw [dm (show ¬ 0<=j by omega)];simp
   .simp only [l_,e2] at hw;cases hw
  .rfl
 .rfl
theorem DW {p:Int}{H:Hp}{a r:Addr}{i j:Int}{rows:List V}(h:H a=some (.tup [.int i,.int j,.ref r]))(hr:H r=some (.lst rows))(h0:¬ i<0)(h1:¬ j<0):i6 p H (.ref a)=(decide ((rows.length:Int)=i) && rows.all (i5 p j H)):=by
 simp only[i6,h,hr];rw[bR (show 0<=i by omega),bR (show 0<=j by omega)];rfl
theorem Gk (F:bc K "is_table" "is_table" zL f fd)(T:bp K mg C G S)(Yab:az P w K mg base "is_whole" 1 uB)(Ya2:az P w K mg base "is_row" 7 (yi G)):ax P w K mg base aW 8 f fd ["ground","thing"] (yk G):=by
 have nd:=Eu.nd;refine F.ok Eu (λvs H Q E h=>?_) (λcdv A outer s H vs Q E hr h=>?_)
 .refine gK h λg p v e915 _=>?_;clear h;obtain rfl:=e915;rfl
 .refine cD h λg p v e916 e917 hp e918=>?_;clear h;obtain rfl:=e916;obtain⟨dx,hg⟩:=e917;obtain⟨⟨hk,hx⟩,q⟩:=e918;refine⟨_,((@bI _ _ _ _ _ _ _ _ (PW.pt (fm (dU (eN (bS h_ rfl T.n_isinstance iz ((ae 1)<&>((g7 rfl T.n_tuple boot_tuple)<&>ah))))) (gm (bW gj (bS fo rfl T.n_len fu ((ae 1)<&>ah)) aq (aU _))))) (~~~eJ) bJ)<*>((dX (ae 1) (@dJ _ _ _ _ _ 3 rfl ((2>>>nd)^^^((@qA _ _ 3 _ nd rfl (Or.inr rfl) (Or.inl rfl))^^^((4>>>nd)^^^(@cT _)))) ⇑1 ⇑1))<*>((@bI _ _ _ _ _ _ _ _ (PW.pt (fm (dU (eN (Yab<$>hr<$>((ae 2)<&>ah)))) (fm (dU (eN (Yab<$>hr<$>((ae 3)<&>ah)))) (fm (bW iF (ae 2) aq (aU _)) (gm (bW iF (ae 3) aq (aU _))))))) (~~~eJ) bJ)<*>((@bI _ _ _ _ _ _ _ _ (PW.pt (fm (dU (eN (bS h_ rfl T.n_isinstance iz ((ae 4)<&>((g7 rfl T.n_list iP)<&>ah))))) (gm (bW gj (bS fo rfl T.n_len fu ((ae 4)<&>ah)) (ae 2) (aU _))))) (~~~eJ) bJ)<*>(~~~(bS (qr rfl) rfl T.n_all boot_all ((eL (own:=["row"]) (fr:=[("ground",0),("wide",3)]) rfl (c4 (by kernel_rfl)) (eM (pv 4)) (λ_ _ _ _=>⟨(0<<<["row","ground","wide"]),dz,(Ya2<$>hr<$>((pv 1)<&>((pv 2)<&>((pv 0)<&>ah))))⟩))<&>ah))))))),?_⟩;walk_at "wp";refine ar (By (K:=K) hk) λt1 h1 h2=>?_;refine aM _ _ ⟨⟨rfl,rfl⟩,_,rfl,_,h1,_,h2,bA (λhc=>?_) (λhc=>?_)⟩
  .rw [GH (by simpa using hc)] at q;exact q H (aa.refl _)
  .refine cy (mW hk (by simpa using hc)) λa xs e919 ha hl=>?_;obtain rfl:=e919;refine⟨a,rfl,xs,.inr (aB.of ha),bA (λhn=>?_) (λhn=>?_)⟩
   .have hn:¬ xs.length=3:=by intro z;rw[z] at hn;exact absurd hn ⇑0
    rw[GG ha hn] at q;exact q H (aa.refl _)
   .have hn:xs.length=3:=by
     have:((xs.length:Nat):Int)=3:=by simpa using hn
     omega
    obtain⟨x,y,z,rfl⟩:∃ x y z,xs=[x,y,z]:=by
     match xs,hn with
     | [x,y,z],_=>exact⟨x,y,z,rfl⟩
    have kx:=(hx a _ rfl ha x (by simp)).1;have ky:=(hx a _ rfl ha y (by simp)).1;obtain⟨kz,hz⟩:=hx a _ rfl ha z (by simp);refine⟨a,rfl,_,aB.of ha,rfl,_,_,rfl,_,_,rfl,_,_,rfl,rfl,x,rfl,kx,_,rfl,bA (λh1=>?_) (λh1=>?_)⟩
    .rw [Ej ha (.inl (by simpa using h1))] at q;exact q H (aa.refl _)
    .obtain ⟨i,rfl⟩:=tT (v:=x) (by simpa using h1);refine⟨y,rfl,ky,_,rfl,bA (λh2=>?_) (λh2=>?_)⟩
     .rw [Ej ha (.inr (by simpa using h2))] at q;exact q H (aa.refl _)
     .obtain ⟨j,rfl⟩:=tT (v:=y) (by simpa using h2);refine⟨i,rfl,bA (λh3=>?_) (λh3=>⟨j,rfl,bA (λh4=>?_) (λh4=>?_)⟩)⟩
      .rw [zG ha (.inl (.inl (dB h3)))] at q;exact q H (aa.refl _)
      .rw [zG ha (.inl (.inr (dB h4)))] at q;exact q H (aa.refl _)
      .have h3:¬ i<0:=λz=>h3 (bR z);have h4:¬ j<0:=λz=>h4 (bR z);refine ar (Cb (K:=K) kz) λt3 h5 h6=>?_;refine aM _ _ ⟨⟨rfl,rfl⟩,_,rfl,_,h5,_,h6,bA (λhc2=>?_) (λhc2=>?_)⟩
       .rw [zG ha (.inr (by simpa using hc2))] at q;exact q H (aa.refl _)
       .refine cy (mY kz (by simpa using hc2)) λr rows e920 hr1 hrl=>?_;obtain rfl:=e920;rw[DW ha hr1 h3 h4] at q;have ed:decide (V.int ((rows.length:Nat):Int)=V.int i)=decide ((rows.length:Int)=i):=by simp only[V.int.injEq]
        refine⟨r,rfl,rows,.inl (aj.of hr1),rfl,bA (λhn2=>?_) (λhn2=>?_)⟩
        .rw [ed] at hn2;rw[show decide ((rows.length:Int)=i)=false by simpa using hn2,xv] at q;exact q H (aa.refl _)
        .rw [ed] at hn2;rw[show decide ((rows.length:Int)=i)=true by simpa using hn2,uR] at q;refine⟨_,rfl,r,rfl,⟨_,aj.of hr1⟩,λD hD=>wM (λk=>i5 p j H (rows.getD k .non)) hr1 hD ∅ (λk y H' Q' hy s' q'=>?_) λH' s' e'=>⟨D,rfl,_,aj.of e',?_⟩⟩
         .have wy:=hz r rows rfl hr1 y (aY hy);refine⟨_,rfl,_,rfl,_,rfl,g,p,j,y,rfl,⟨dx,s' _ _ hg⟩,hp,wy.same s',λH2 s2=>?_⟩;rw[Hj wy s',<- B6 hy];exact q' H2 s2
         .rw [BR];exact q H' s'
def cC (H:Hp)(p:Int)(B:Nat)(v:V):Prop:=∃ x,aE H p v x/\aZ p x/\Bd B x
theorem cC.same {H H':Hp}{p:Int}{B:Nat}{v:V}(h:cC H p B v)(s:aa H H'):cC H' p B v:=let ⟨x,a,b,c⟩:=h;⟨x,a.same s,b,c⟩
theorem cC.put {H:Hp}{D:Addr}{l:List V}{o:HO}{p:Int}{B:Nat}{v:V}(h:cC H p B v)(hD:H D=some (.lst l)):cC (ao H D o) p B v:=by
 refine aQ h λx a b c=>?_;clear h;refine⟨x,?_,b,c⟩;by_cases hp:p=0
 .refine ar (a.ref hp) λt e93 ht=>?_;obtain rfl:=e93;exact aE.tup hp (by rw[aJ (eQ ht hD (by intro z;cases z))];exact ht)
 .obtain rfl:=a.int hp;exact aE.of hp
theorem aE.ext {l:Addr}{H H':Hp}{p:Int}{v:V}{x:Int×Int}(h:aE H p v x)(b:a_ H l)(e:aP l H H'):aE H' p v x:=by
 by_cases hp:p=0
 .refine ar (h.ref hp) λt e94 ht=>?_;obtain rfl:=e94;refine cE b λa c hb _=>?_;clear b;exact aE.tup hp (e _ _ (eQ ht hb (by intro z;cases z)) ht)
 .obtain rfl:=h.int hp;exact aE.of hp
theorem cC.ext {l:Addr}{H H':Hp}{p:Int}{B:Nat}{v:V}(h:cC H p B v)(b:a_ H l)(e:aP l H H'):cC H' p B v:=let ⟨x,a,c,d⟩:=h;⟨x,a.ext b e,c,d⟩
def cA (H:Hp)(p:Int)(B:Nat)(wd:Int)(a:Addr):Prop:=∃ xs,H a=some (.lst xs)/\(xs.length:Int)=wd/\∀ x∈xs,cC H p B x
theorem cA.same {H H':Hp}{p wd:Int}{B:Nat}{a:Addr}(h:cA H p B wd a)(s:aa H H'):cA H' p B wd a:=let ⟨xs,h1,h2,h3⟩:=h;⟨xs,s _ _ h1,h2,λx hx=>(h3 x hx).same s⟩
theorem cA.ext {l:Addr}{H H':Hp}{p wd:Int}{B:Nat}{a:Addr}(h:cA H p B wd a)(b:a_ H l)(e:aP l H H')(n:a≠l):cA H' p B wd a:=let ⟨xs,h1,h2,h3⟩:=h;⟨xs,e _ _ n h1,h2,λx hx=>(h3 x hx).ext b e⟩
theorem cA.put {H:Hp}{D:Addr}{l:List V}{o:HO}{p wd:Int}{B:Nat}{a:Addr}(h:cA H p B wd a)(hD:H D=some (.lst l))(n:a≠D):cA (ao H D o) p B wd a:=let ⟨xs,h1,h2,h3⟩:=h;⟨xs,by rw[aJ n];exact h1,h2,λx hx=>(h3 x hx).put hD⟩
theorem mC (rs:List Addr)(a:Addr):rs.map V.ref++[.ref a]=(rs++[a]).map V.ref:=by rw[dD];rfl
theorem FO {a D:Addr}{xs:List V}{fr:List (Str×Nat)}{σ:L2.St}{te:TE}{H1:Hp}{Q:VK}(R:Hp->V->Prop)(hS:∀ {H H' y},R H y->aa H H'->R H' y)(hP:∀ {H y l o},R H y->H D=some (.lst l)->R (ao H D o) y)(ha:H1 a=some (.lst xs))(hD:H1 D=none)(hn:xs.length<=1000)(h:∀ (i:Nat) x H (Q:VK),xs[i]?=some x->aa H1 H->(∀ y H',aa H H'->R H' y->Q y H')->te (some x::cH fr σ) H Q)(hQ:∀ ys H',aa H1 H'->H' D=some (.lst ys)->ys.length=xs.length->(∀ y∈ys,R H' y)->Q (.ref D) H'):eT (cg 0) dr te (jj K a) D (dG 1 fr σ) H1 Q:=by
 refine rE (xs:=xs) (λi vs H=>aa H1 H/\H D=some (.lst vs)/\vs.length=i/\∀ y∈vs,R H y) ⟨aa.new hD,aw,rfl,by simp⟩ (λi vs H _ p=>aj.of (p.1 _ _ ha)) ?_ (λvs H ⟨s,e,hl,hr⟩=>hQ vs H s e hl hr);intro i x vs σ' H hi hx sh e91;refine cG e91 λs e hl hr=>?_;clear e91;obtain⟨z,rfl⟩:=sh.one;simp only[fP,cg,dr,List.set_cons_zero,eZ];refine h i x H _ hx s λy H' s' ry=>?_;refine fL (ws:=vs++[y]) hi Sh.mk1 (s' _ _ e) (cS (tJ hn hi hl)) ⟨(s.trans s').upd hD,aw,by rw[bw,hl];rfl,λu hu=>?_⟩;rcases cf.mp hu with hu|hu
 .exact hP (hS (hr u hu) s') (s' _ _ e)
 .rw [cF.mp hu];exact hP ry (s' _ _ e)
theorem Ho {a b D:Addr}{xs ys:List V}{fr:List (Str×Nat)}{σ:L2.St}{te:TE}{H1:Hp}{Q:VK}(R:Hp->V->Prop)(hS:∀ {H H' y},R H y->aa H H'->R H' y)(hP:∀ {H y l o},R H y->H D=some (.lst l)->R (ao H D o) y)(ha:H1 a=some (.lst xs))(hb:H1 b=some (.lst ys))(hlen:ys.length=xs.length)(hD:H1 D=none)(hn:xs.length<=1000)(h:∀ (i:Nat) x y H (Q:VK),xs[i]?=some x->ys[i]?=some y->aa H1 H->(∀ u H',aa H H'->R H' u->Q u H')->te (some x::some y::cH fr σ) H Q)(hQ:∀ zs H',aa H1 H'->H' D=some (.lst zs)->zs.length=xs.length->(∀ y∈zs,R H' y)->Q (.ref D) H'):eT (ju K 2 (iG (cg 0) (iG (cg 1) mi))) dr te (nY K a b) D (dG 2 fr σ) H1 Q:=by
 refine wC (xs:=xs) (ys:=ys) (λi vs H=>aa H1 H/\H D=some (.lst vs)/\vs.length=i/\∀ y∈vs,R H y) hlen ⟨aa.new hD,aw,rfl,by simp⟩ (λi vs H _ p=>⟨aj.of (p.1 _ _ ha),aj.of (p.1 _ _ hb)⟩) ?_ (λvs H ⟨s,e,hl,hr⟩=>hQ vs H s e hl hr);intro i x y p vs σ' H hi hx hy hp sh e92;refine cG e92 λs e hl hr=>?_;clear e92;refine i9 sh.two λz1 z2 e95=>?_;obtain rfl:=e95;have s0:=aa.new (o:=.tup [x,y]) hp;refine aM p _ ⟨rfl,aB.of aw,rfl,_,_,rfl,_,_,rfl,rfl,?_⟩;simp only[dr,List.set_cons_zero,List.set_cons_succ,eZ];refine h i x y _ _ hx hy (s.trans s0) λu H' s' ru=>?_;have s1:=s0.trans s';refine fL (ws:=vs++[u]) hi Sh.mk2 (s1 _ _ e) (cS (tJ hn hi hl)) ⟨(s.trans s1).upd hD,aw,by rw[bw,hl];rfl,λv hv=>?_⟩;rcases cf.mp hv with hv|hv
 .exact hP (hS (hr v hv) s1) (s1 _ _ e)
 .rw [cF.mp hv];exact hP ru (s1 _ _ e)
def BB:Nat:=2 ^ 1000000
theorem kE {a b:Nat}(h:a<b):2 ^ a<2 ^ b:=uY ⇑0 h
theorem kF {a b:Nat}(h:a<=b):2 ^ a<=2 ^ b:=u_ ⇑0 h
theorem n_:BB<2 ^ NB:=by
 unfold BB;exact kE ⇑0
theorem yv {n m:Nat}(h:n<2 ^ m)(hm:m<=1000000):n<=BB:=by
 unfold BB;exact jg (dZ h (kF hm))
theorem nZ {n:Nat}(h:n<=100000000000000000000000000000000):n<=BB:=yv (m:=120) (iW h ⋯) ⇑0
theorem ux {n:Nat}(h:0<n):ixN n (-1)=some (n-1):=by
 unfold ixN;rw[if_neg ∅,if_pos ∅];congr 1;exact oz70
theorem rL (rs:List Addr)(j:Nat)(a:Addr):(rs.map V.ref).set j (.ref a)=(rs.set j a).map V.ref:=(List.map_set).symm
theorem uv {rs:List Addr}{j:Nat}(h:j<rs.length):(rs.map V.ref)[j]?=some (.ref rs[j]):=by rw[bH,aF h];rfl
theorem Gy {rs:List Addr}(h:0<rs.length):atI (rs.map V.ref) (-1)=some (.ref (rs[rs.length-1]'(by omega))):=by
 unfold atI;rw[aA,ux h];exact uv ∅
structure eU (H:Hp)(p:Int)(hh wd:Int)(t r:Addr)(rs:List Addr):Prop where
 tup:H t=some (.tup [.int hh,.int wd,.ref r])
 lst:H r=some (.lst (rs.map V.ref))
 len:(rs.length:Int)=hh
 row:∀ a∈rs,cA H p BB wd a
 nin:r∉rs
theorem eU.same {H H':Hp}{p hh wd:Int}{t r:Addr}{rs:List Addr}(h:eU H p hh wd t r rs)(s:aa H H'):eU H' p hh wd t r rs:=⟨s _ _ h.tup,s _ _ h.lst,h.len,λa ha=>(h.row a ha).same s,h.nin⟩
def Fl (v:V):Prop:=v=.non\/(∃ b,v=.bl b)\/(∃ i,v=.int i)\/∃ s,v=.str s
theorem Fl.kn {H:Hp}{v:V}(h:Fl v):Kn H v:=by
 rcases h with h|h|h|h
 .exact .inl h
 .exact .inr (.inl h)
 .exact .inr (.inr (.inl h))
 .exact .inr (.inr (.inr (.inl h)))
theorem GP {H:Hp}{v:V}(h:Kn H v)(hn:∀ a,v≠.ref a):jX H v:=⟨h,λa xs e=>absurd e (hn a)⟩
theorem kg {H:Hp}{a:Addr}{xs:List V}(h:H a=some (.tup xs))(hl:xs.length<=1000)(hk:∀ y∈xs,Kn H y/\uH y):jX H (.ref a):=⟨.tup h hl,λb ys e1 e2 y hy=>by cases e1;rw[h] at e2;cases e2;exact hk y hy⟩
def nC (H:Hp)(v:V):Prop:=Kn H v/\∀ r rows,v=.ref r->H r=some (.lst rows)->∀ z∈rows,mE H z
theorem cC.wf {H:Hp}{p:Int}{B:Nat}{v:V}(h:cC H p B v)(hB:B<=BB:=by first|exact aI _|exact nZ ⇑0):jX H v:=by
 refine aQ h λx nv _ bd=>?_;clear h;by_cases hp:p=0
 .refine ar (nv.ref hp) λt e96 ht=>?_;obtain rfl:=e96;refine kg ht (by show 2<=1000;decide) λu hu=>?_;simp only[fH,List.not_mem_nil,or_false] at hu;rcases hu with rfl|rfl
  .exact ⟨Kn.int,λj e=>by cases e;exact iW (cx bd.1 hB) n_⟩
  .exact ⟨Kn.int,λj e=>by cases e;exact iW (cx bd.2 hB) n_⟩
 .obtain rfl:=nv.int hp;exact GP Kn.int (by intro a z;cases z)
theorem cA.wf {H:Hp}{p wd:Int}{B:Nat}{a:Addr}(h:cA H p B wd a)(w24:wd<=24)(hB:B<=BB:=by first|exact aI _|exact nZ ⇑0):mE H (.ref a):=by
 refine aQ h λxs h1 h2 h3=>?_;clear h;exact⟨.lst h1 (oz65 w24 h2),λb ys e1 e2 y hy=>by cases e1;rw[h1] at e2;cases e2;exact (h3 y hy).wf hB⟩
theorem ke {H:Hp}{a:Addr}{xs:List V}(h:H a=some (.lst xs))(hl:xs.length<=1000)(hk:∀ y∈xs,mE H y):nC H (.ref a):=⟨.lst h hl,λb ys e1 e2 y hy=>by cases e1;rw[h] at e2;cases e2;exact hk y hy⟩
theorem j_ {H:Hp}{a:Addr}{xs:List V}(h:H a=some (.tup xs))(hl:xs.length<=1000)(hk:∀ y∈xs,nC H y):AJ H (.ref a):=⟨.tup h hl,λb ys e1 e2 y hy=>by cases e1;rw[h] at e2;cases e2;exact hk y hy⟩
theorem Dr {H:Hp}{v:V}(h:Fl v):nC H v:=⟨h.kn,λa xs e=>by subst e;rcases h with h|⟨_,h⟩|⟨_,h⟩|⟨_,h⟩ <;> cases h⟩
theorem fi {i:Int}:Fl (.int i):=.inr (.inr (.inl ⟨_,rfl⟩))
theorem fb {i:Bool}:Fl (.bl i):=.inr (.inl ⟨_,rfl⟩)
theorem eU.wfs {H:Hp}{p hh wd:Int}{t r:Addr}{rs:List Addr}(h:eU H p hh wd t r rs)(h24:hh<=24)(w24:wd<=24):nC H (.ref r):=by
 have:=h.len;exact ke h.lst (by rw[aA];exact oz65 h24 this) λy hy=>by obtain⟨a,ha,rfl⟩:=cw.mp hy;exact (h.row a ha).wf w24
theorem three {H:Hp}{x y z:V}(hx:nC H x)(hy:nC H y)(hz:nC H z):∀ u∈[x,y,z],nC H u:=λu hu=>by
 simp only[fH,List.not_mem_nil,or_false] at hu;rcases hu with rfl|rfl|rfl
 .exact hx
 .exact hy
 .exact hz
theorem eU.ext {l:Addr}{H H':Hp}{p hh wd:Int}{t r:Addr}{rs:List Addr}(h:eU H p hh wd t r rs)(b:a_ H l)(e:aP l H H')(nt:t≠l)(nr:r≠l)(ns:l∉rs):eU H' p hh wd t r rs:=
 ⟨e _ _ nt h.tup,e _ _ nr h.lst,h.len,λa ha=>(h.row a ha).ext b e (λz=>ns (z ▸ ha)),h.nin⟩
theorem eU.wft {H:Hp}{p hh wd:Int}{t r:Addr}{rs:List Addr}(h:eU H p hh wd t r rs)(h24:hh<=24)(w24:wd<=24):AJ H (.ref t):=
 j_ h.tup (by show 3<=1000;decide) (three (Dr fi) (Dr fi) (h.wfs h24 w24))
theorem cC.is {H:Hp}{p:Int}{B:Nat}{v:V}(h:cC H p B v):g6 p H v=true:=by
 refine aQ h λx nv ix _=>?_;clear h;by_cases hp:p=0
 .refine ar (nv.ref hp) λt e97 ht=>?_;obtain rfl:=e97;rw[Cy hp,CZ ht];rcases ix with ⟨_,lo⟩|⟨h,_⟩
  .have:=lo.1;rw[bR (show 1<=x.2 by omega),bR lo.2];rfl
  .omega
 .obtain rfl:=nv.int hp;rw[Du hp];rcases ix with ⟨h,_⟩|⟨_,h1,h2,_⟩
  .exact absurd h hp
  .rw [bR h1,bR h2];rfl
theorem cA.is {H:Hp}{p wd:Int}{B:Nat}{a:Addr}(h:cA H p B wd a):i5 p wd H (.ref a)=true:=by
 refine aQ h λxs h1 h2 h3=>?_;clear h;rw[Cu h1,bR h2,uR];exact iT.mpr λx hx=>(h3 x hx).is
theorem eU.is {H:Hp}{p hh wd:Int}{t r:Addr}{rs:List Addr}(h:eU H p hh wd t r rs)(h0:0<=hh)(w0:0<=wd):i6 p H (.ref t)=true:=by
 rw[DW h.tup h.lst ∅ ∅,aA,bR h.len,uR];exact iT.mpr λy hy=>by obtain⟨a,ha,rfl⟩:=cw.mp hy;exact (h.row a ha).is
structure cu (H:Hp)(p hh wd:Int)(t r:Addr)(rs:List Addr)(M:List (List V)):Prop where
 tab:eU H p hh wd t r rs
 con:∀ (i:Nat) (a:Addr),rs[i]?=some a->H a=some (.lst (M.getD i []))
theorem cu.same {H H':Hp}{p hh wd:Int}{t r:Addr}{rs:List Addr}{M:List (List V)}(h:cu H p hh wd t r rs M)(s:aa H H'):cu H' p hh wd t r rs M:=⟨h.tab.same s,λi a e=>s _ _ (h.con i a e)⟩
def bU (H:Hp)(z:Addr)(ns:List Int):Prop:=H z=some (.lst (ns.map V.int))/\ns.length<=8/\∀ n∈ns,0<=n/\n<=24
theorem bU.same {H H':Hp}{z:Addr}{ns:List Int}(h:bU H z ns)(s:aa H H'):bU H' z ns:=⟨s _ _ h.1,h.2⟩
def spSz (C:Addr):Sp:=λvs H Q _=>∃ (d z lp:Addr) (m:Int) (xs:List V) (ns:List Int),vs=[.ref d,.ref z]/\hE C H d m lp xs/\bU H z ns/\(ns.length:Int)=m/\∀ H',aa H H'->Q (.bl true) H'
theorem sT (F:bc K "are_sizes" "are_sizes" zW f fd)(T:bp K mg C G S)(Yab:az P w K mg base "is_whole" 1 rn):ax P w K mg base aW 2 f fd ["drawing","thing"] (spSz C):=by
 have nd:=Em.nd;refine F.ok Em (λvs H Q E h=>?_) (λcdv A outer s H vs Q E hr h=>?_)
 .refine jk h λd z lp m xs ns e94 _=>?_;clear h;obtain rfl:=e94;rfl
 .refine tO h λd z lp m xs ns e95 e96 e97 e98=>?_;clear h;obtain rfl:=e95;obtain⟨dx,hd,hlp⟩:=e96;obtain⟨hz,h8,hn⟩:=e97;obtain⟨hm,q⟩:=e98;refine⟨_,((@bI _ _ _ _ _ _ _ _ (PW.pt (fm (dU (eN (bS h_ rfl T.n_isinstance iz ((ae 1)<&>((g7 rfl T.n_list iP)<&>ah))))) (gm (bW gj (bS fo rfl T.n_len fu ((ae 1)<&>ah)) (eA (ae 0) rfl) (aU _))))) (~~~eJ) bJ)<*>(~~~(bS (qr rfl) rfl T.n_all boot_all ((eL (own:=["size"]) (fr:=[]) rfl (c4 (by kernel_rfl)) (eM (pv 1)) (λ_ _ _ _=>⟨(0<<<["size"]),dz,(jP (Yab<$>hr<$>((pv 0)<&>ah)) (jQ (gO jm (pv 0) aq (aU _))))⟩))<&>ah)))),?_⟩;walk_at "wp";refine aM _ _ ⟨⟨rfl,rfl⟩,_,rfl,_,.lst hz,true,wU K,dR ⇑0 ⟨_,.inl (aj.of hz),C,dx,_,hd,T.cl_Drawing,T.nM,_,zg m lp,rfl,dR ?_ ⟨_,rfl,z,rfl,⟨_,aj.of hz⟩,λD hD=>wM (λ_=>true) hz hD (by rw[aA];omega) (λk x H' Q' hx s' q'=>?_) λH' s' e'=>⟨D,rfl,_,aj.of e',?_⟩⟩⟩⟩
  .rw [bR (by rw[aA,hm])];decide
  .rw [bH] at hx;cases e:ns[k]? with
   | none=>rw[e] at hx;cases hx
   | some n=>
    rw[e] at hx;cases hx;have n0:=(hn n (aY e)).1;refine⟨_,rfl,n,rfl,true,rfl,iteT ⟨_,rfl,_,_,rfl,rfl,?_⟩⟩;show Q' (V.bl (decide (0<=n))) H';rw[bR n0];exact q' H' (aa.refl _)
  .rw [uq];exact q H' s'
def spTo (G:Addr):Sp:=λvs H Q _=>∃ (g t r:Addr) (p hh wd:Int) (rs:List Addr),vs=[.ref g,.int hh,.int wd,.ref t]/\di G H g p/\af p/\eU H p hh wd t r rs/\0<=hh/\hh<=24/\0<=wd/\wd<=24/\∀ H',aa H H'->Q (.bl true) H'
theorem sR (F:bc K "is_table_of" "is_table_of" Ao f fd)(T:bp K mg C G S)(Yar:az P w K mg base "is_table" 8 (yk G)):ax P w K mg base aW 9 f fd ["ground","high","wide","thing"] (spTo G):=by
 have nd:=ES.nd;refine F.ok ES (λvs H Q E h=>?_) (λcdv A outer s H vs Q E hr h=>?_)
 .refine tQ h λg t r p hh wd rs e99 _=>?_;clear h;obtain rfl:=e99;rfl
 .refine qV h λg t r p hh wd rs e910 hg hp e911=>?_;clear h;obtain rfl:=e910;refine gk e911 λtb h0 h24 w0 w24 q=>?_;clear e911;refine⟨_,(~~~(jP (Yar<$>hr<$>((ae 0)<&>((ae 3)<&>ah))) (jP (gO c9 ((cX bC)<|>(ae 3)<||>aq) (ae 1) (aU _)) (jQ (gO c9 ((cX bC)<|>(ae 3)<||>aq) (ae 2) (aU _)))))),?_⟩;walk_at "wp";exact c5 g p (.ref t) ⟨rfl,hg,hp,tb.wft h24 w24,λH1 s1=>⟨_,rfl,m_ (tb.is h0 w0) ⟨_,aB.of (s1 _ _ tb.tup),_,rfl,rfl,m_ (bR rfl) ⟨_,aB.of (s1 _ _ tb.tup),_,rfl,rfl,by rw[bR rfl];exact q H1 s1⟩⟩⟩⟩
theorem BJ {cap:L2.St}{a b c:Option V}:Sh 3 cap (a::b::c::cap):=⟨[a,b,c],rfl,rfl⟩
theorem Dk {cap σ:L2.St}(h:Sh 3 cap σ):∃ a b c,σ=a::b::c::cap:=by
 refine ar h λo h1 e912=>?_;clear h;obtain rfl:=e912
 match o,h1 with
 | [a,b,c],_=>exact⟨a,b,c,rfl⟩
theorem jy {ns:List Int}{i:Int}(h0:0<=i)(h1:i<ns.length):atI (ns.map V.int) i=some (.int (ns.getD i.toNat 0)):=by
 refine dH h0 ?_;rw[bH,aT,aF (show i.toNat<ns.length by exact oz55 h0 h1)];rfl
def spTs (C G:Addr):Sp:=λvs H Q _=>∃ (g d z l lp:Addr) (p m:Int) (xs:List V) (ps:List (Int×Int)) (ns:List Int) (ts:List Addr),vs=[.ref g,.ref d,.ref z,.ref l]/\di G H g p/\af p/\hE C H d m lp xs/\cK H xs ps/\iA m ps/\ps.length<=9/\bU H z ns/\(ns.length:Int)=m /\
 H l=some (.lst (ts.map V.ref))/\ts.length=ps.length/\(∀ (i:Nat) t q,ts[i]?=some t->ps[i]?=some q->∃ r rs,eU H p (ns.getD q.2.toNat 0) (ns.getD q.1.toNat 0) t r rs)/\∀ H',aa H H'->Q (.bl true) H'
theorem sQ (F:bc K "are_tables" "are_tables" Ah f fd)(T:bp K mg C G S)(Yay:az P w K mg base "is_table_of" 9 (spTo G)):ax P w K mg base aW 10 f fd ["ground","drawing","sizes","thing"] (spTs C G):=by
 have nd:=EK.nd;refine F.ok EK (λvs H Q E h=>?_) (λcdv A outer s H vs Q E hr h=>?_)
 .refine ow h λg d z l lp p m xs ps ns ts e913 _=>?_;clear h;obtain rfl:=e913;rfl
 .refine ou h λg d z l lp p m xs ps ns ts e914 hg hp e915=>?_;clear h;obtain rfl:=e914;refine yq e915 λe916 pr ip p9 hz hm hl hlen tb q=>?_;clear e915;obtain⟨dx,hd,hlp⟩:=e916;refine⟨_,((@bI _ _ _ _ _ _ _ _ (PW.pt (fm (dU (eN (bS h_ rfl T.n_isinstance iz ((ae 3)<&>((g7 rfl T.n_list iP)<&>ah))))) (gm (bW gj (bS fo rfl T.n_len fu ((ae 3)<&>ah)) (bS fo rfl T.n_len fu ((eA (ae 1) rfl)<&>ah)) (aU _))))) (~~~eJ) bJ)<*>(~~~(bS (qr rfl) rfl T.n_all boot_all ((eL (own:=["tail","head","table"]) (fr:=[("ground",0),("sizes",2)]) rfl (c4 (by kernel_rfl)) (qi rfl T.n_zip ((gM (pv 1) rfl)<&>((pv 3)<&>ah))) (λ_ _ _ _=>⟨(@mx _ K rfl _ _ _ _ 2 rfl ((@mx _ K rfl _ _ _ _ 2 rfl ((0<<<["tail","head","table","ground","sizes"])^^^((1<<<["tail","head","table","ground","sizes"])^^^(@cT _))) ⇑1 ⇑1)^^^((2<<<["tail","head","table","ground","sizes"])^^^(@cT _))) ⇑1 ⇑1),dz,(Yay<$>hr<$>((pv 3)<&>(((ja K rfl)<|>(pv 4)<||>(pv 1))<&>(((ja K rfl)<|>(pv 4)<||>(pv 0))<&>((pv 2)<&>ah)))))⟩))<&>ah)))),?_⟩;walk_at "wp";have hxl:=pr.1;refine aM _ _ ⟨⟨rfl,rfl⟩,_,rfl,_,.lst hl,true,wU K,dR ⇑0 ⟨_,.inl (aj.of hl),C,dx,_,hd,T.cl_Drawing,T.nA,_,rQ m lp,lp,rfl,_,.inl (aj.of hlp),dR ?_ ?_⟩⟩
  .rw [bR (by rw[aA];omega)];decide
  .refine ⟨_,rfl,d,C,dx,_,_,rfl,hd,T.cl_Drawing,T.nA,rQ m lp,_,rfl,lp,l,rfl,⟨_,aj.of hlp⟩,⟨_,aj.of hl⟩,λD hD=>?_⟩;refine wC (k:=3) (xs:=xs) (ys:=ts.map V.ref) (λi vs H'=>aa H H'/\H' D=some (.lst vs)/\vs=((List.range i).map λ_=>true).map V.bl) (by rw[aA];exact oz20 hlen hxl) ⟨aa.new hD,aw,rfl⟩ (λi vs H' _ pv=>⟨aj.of (pv.1 _ _ hlp),aj.of (pv.1 _ _ hl)⟩) ?_ ?_
   .intro i x y pz vs σ' H' hi hx hy hpz sh e91;refine bQ e91 λs' e' e917=>?_;clear e91;obtain rfl:=e917;refine mV (Dk sh) λz1 z2 z3 e918=>?_;obtain rfl:=e918;have hi':i<ps.length:=by exact b_ hxl hi
    have hq:ps[i]?=some ps[i]:=aF hi';refine ar (pr.2 i x _ hx hq) λta e919 hta=>?_;obtain rfl:=e919;have hti:ts[i]?=some (ts[i]'(oz35 hlen hxl hi)):=aF (oz35 hlen hxl hi);rw[bH,hti] at hy;cases hy;refine i9 (tb i _ _ hti hq) λr rs tb1=>?_;refine cG (ip _ (aY hq)) λi0 i1 j0 j1=>?_;have s0:=s'.trans (aa.new (o:=.tup [V.ref ta,V.ref (ts[i]'(cM hlen hi'))]) hpz);have hz0:=hz.same s0;have a1:=jy (ns:=ns) i0 (oz90 hm i1);have a2:=jy (ns:=ns) j0 (oz90 hm j1);have b1:=hz.2.2 (ns.getD ps[i].1.toNat 0) (by rw[aT,aF (show ps[i].1.toNat<ns.length by exact oz38 hm i0 i1)];exact eO _);have b2:=hz.2.2 (ns.getD ps[i].2.toNat 0) (by rw[aT,aF (show ps[i].2.toNat<ns.length by exact oz38 hm j0 j1)];exact eO _);refine aM pz _ ⟨rfl,aB.of aw,rfl,_,_,rfl,ta,_,rfl,aB.of (s0 _ _ hta),rfl,_,_,rfl,_,_,rfl,rfl,_,_,rfl,rfl,?_⟩;simp only[dr,List.set_cons_zero,List.set_cons_succ,eZ];refine⟨_,rfl,_,rfl,_,rfl,z,_,_,_,rfl,rfl,aj.of hz0.1,a2,_,rfl,_,rfl,z,_,_,_,rfl,rfl,aj.of hz0.1,a1,_,rfl,g,_,r,p,_,_,rs,rfl,hg.same s0,hp,tb1.same s0,b2.1,b2.2,b1.1,b1.2,λH'' s''=>?_⟩;have s1:=(aa.new (o:=.tup [V.ref ta,V.ref (ts[i]'(cM hlen hi'))]) hpz).trans s'';exact fL (ws:=((List.range (i+1)).map λ_=>true).map V.bl) hi BJ (s1 _ _ e') (cS (by rw[aA,aA,ef];omega)) ⟨(s'.trans s1).upd hD,by rw[aw,jh,dD,dD];rfl,rfl⟩
   .intro vs H' e92;refine bQ e92 λs' e' e920=>?_;clear e92;obtain rfl:=e920;exact⟨D,rfl,_,aj.of e',by rw[uq];exact q H' s'⟩
def uI (H0 H:Hp)(p hh wd:Int)(t:Addr)(M:List (List V)):Prop:=∃ r rs,cu H p hh wd t r rs M/\H0 t=none/\H0 r=none/\∀ a∈rs,H0 a=none
def gr (H:Hp)(p:Int)(l:Addr)(ts:List Addr)(cs:List (Int×Int×List (List V))):Prop:=H l=some (.lst (ts.map V.ref))/\ts.length=cs.length/\cs.length<=9/\∀ (i:Nat) t c,ts[i]?=some t->cs[i]?=some c->(∃ r rs,cu H p c.1 c.2.1 t r rs c.2.2)/\0<=c.1/\c.1<=24/\0<=c.2.1/\c.2.1<=24
theorem cu.put {H:Hp}{p hh wd:Int}{t r D:Addr}{rs:List Addr}{M:List (List V)}{l:List V}{o:HO}(h:cu H p hh wd t r rs M)(hD:H D=some (.lst l))(nr:r≠D)(ns:D∉rs):cu (ao H D o) p hh wd t r rs M:=by
 have nt:t≠D:=eQ h.tab.tup hD (by intro z;cases z);have na:∀ a∈rs,a≠D:=λa ha z=>ns (z ▸ ha);exact⟨⟨by rw[aJ nt];exact h.tab.tup,by rw[aJ nr];exact h.tab.lst,h.tab.len,λa ha=>(h.tab.row a ha).put hD (na a ha),h.tab.nin⟩,λi a e=>by rw[aJ (na a (aY e))];exact h.con i a e⟩
abbrev teRow (K:Frag):TE:=tCB (λxs H Q=>∃ p,xs=[V.ref p]/\∃ x,(aj K H p x\/aB K H p x)/\∀ (l:Addr),H l=none->Q (V.ref l) (ao H l (HO.lst x))) (iH (dS 0) ng)
abbrev teTab (K:Frag):TE:=tTup (iH (dS 0) (iH (dS 1) (iH (tComp 1 [] (xS K (dS 2)) (cg 0) dr (teRow K)) ng)))
theorem GD {r D:Addr}{rs:List Addr}{M:List (List V)}{fr:List (Str×Nat)}{σ:L2.St}{H1:Hp}{Q:VK}(hr:H1 r=some (.lst (rs.map V.ref)))(hc:∀ (i:Nat) (a:Addr),rs[i]?=some a->H1 a=some (.lst (M.getD i [])))(hn:rs.length<=100)(hD:H1 D=none)(hQ:∀ (rs':List Addr) H',aa H1 H'->H' D=some (.lst (rs'.map V.ref))->rs'.length=rs.length->(∀ (i:Nat) (a:Addr),rs'[i]?=some a->H' a=some (.lst (M.getD i [])))->(∀ a∈rs',H1 a=none/\a≠D)->rs'.Nodup->Q (.ref D) H'):
  eT (cg 0) dr (teRow K) (jj K r) D (dG 1 fr σ) H1 Q:=by
 refine rE (xs:=rs.map V.ref) (λi vs H=>∃ rs':List Addr,vs=rs'.map V.ref/\aa H1 H/\H D=some (.lst vs)/\rs'.length=i/\(∀ (j:Nat) (a:Addr),rs'[j]?=some a->H a=some (.lst (M.getD j [])))/\(∀ a∈rs',H1 a=none/\a≠D)/\rs'.Nodup)
  ⟨[],rfl,aa.new hD,aw,rfl,λj a e=>by simp at e,(λa ha=>by simp at ha),List.nodup_nil⟩ (λi vs H _ ⟨_,_,s,_⟩=>aj.of (s _ _ hr)) ?_ (λvs H ⟨rs',hv,s,e,hl,hc',fr',nd'⟩=>hQ rs' H s (hv ▸ e) (by rw[hl,aA]) hc' fr' nd')
 intro i x vs σ' H hi hx sh e91;refine vG e91 λrs' e93 s e hl hc' e94=>?_;clear e91;obtain rfl:=e93;obtain⟨fr',nd'⟩:=e94;obtain⟨z,rfl⟩:=sh.one;rw[aA] at hi;rw[uv hi] at hx;cases hx;have ha:=s _ _ (hc i _ (aF hi));simp only[fP,cg,dr,List.set_cons_zero,eZ];refine⟨_,rfl,_,rfl,_,.inl (aj.of ha),λc hc0=>?_⟩;have nDc:D≠c:=cc e hc0;have hDc:(ao H c (.lst (M.getD i []))) D=some (.lst (rs'.map V.ref)):=by rw[aJ nDc];exact e
 have sc:=s.trans (aa.new (o:=.lst (M.getD i [])) hc0);refine fL (ws:=rs'.map V.ref++[.ref c]) (by rw[aA];exact hi) Sh.mk1 hDc (cS (by rw[aA];omega)) ⟨rs'++[c],mC _ _,sc.upd hD,by rw[aw,mC],by rw[bw,hl];rfl,λj a ej=>?_,λa ha=>?_,?_⟩
 .by_cases hj:j<rs'.length
  .rw [eE hj] at ej;have:=hc' j a ej;have naD:=(fr' a (aY ej)).2;rw[aJ naD,aJ (cc this hc0)];exact this
  .rw [d_ (c8 hj)] at ej;have hj0:j-rs'.length=0:=by
    by_cases z:j-rs'.length=0
    .exact z
    .rw [cZ (by simp;exact oz11 z)] at ej;cases ej
   rw[hj0] at ej;cases ej;rw[aJ nDc.symm,aw,show j=i by exact oz3 hl hj hj0]
 .rcases cf.mp ha with ha|ha
  .exact fr' a ha
  .rw [cF.mp ha];exact⟨s.free hc0,nDc.symm⟩
 .refine List.nodup_append.mpr ⟨nd',by simp,λa ha b hb z=>?_⟩;rw[cF.mp hb] at z;subst z;obtain⟨j,hj,rfl⟩:=d9.mp ha;have:=hc' j _ (aF hj);rw[hc0] at this;cases this
def Ii (H:Hp)(D:Addr)(ts:List Addr):Prop:=∃ rr:List (Addr×List Addr),rr.length=ts.length/\(∀ (i:Nat) t x,ts[i]?=some t->rr[i]?=some x->(∃ h w:V,H t=some (.tup [h,w,.ref x.1]))/\H x.1=some (.lst (x.2.map V.ref)))/\(∀ x∈rr,x.1≠D/\D∉x.2)/\(∀ x∈rr,∀ y∈rr,x.1∉y.2)/\(rr.map (·.2)).flatten.Nodup
theorem GE {l D:Addr}{p:Int}{ts:List Addr}{cs:List (Int×Int×List (List V))}{fr:List (Str×Nat)}{σ:L2.St}{H1:Hp}{Q:VK}(hT:gr H1 p l ts cs)(hD:H1 D=none)(hQ:∀ (ts':List Addr) H',aa H1 H'->H' D=some (.lst (ts'.map V.ref))->ts'.length=cs.length->(∀ (i:Nat) t c,ts'[i]?=some t->cs[i]?=some c->uI H1 H' p c.1 c.2.1 t c.2.2)->Ii H' D ts'->Q (.ref D) H'):
  eT (ju K 3 (iG (cg 0) (iG (cg 1) (iG (cg 2) mi)))) dr (teTab K) (jj K l) D (dG 3 fr σ) H1 Q:=by
 refine cG hT λhl hlen h9 hc=>?_;clear hT;refine rE (k:=3) (xs:=ts.map V.ref) (λi vs H=>∃ (ts':List Addr) (rr:List (Addr×List Addr)),vs=ts'.map V.ref/\aa H1 H/\H D=some (.lst vs)/\ts'.length=i/\rr.length=i/\((∀ x∈rr,∀ y∈rr,x.1∉y.2)/\(rr.map (·.2)).flatten.Nodup)/\(∀ x∈rr,x.1≠D/\D∉x.2/\(∃ o,H x.1=some o)/\∀ a∈x.2,∃ o,H a=some o)/\∀ (j:Nat) t c x,ts'[j]?=some t->cs[j]?=some c->rr[j]?=some x->cu H p c.1 c.2.1 t x.1 x.2 c.2.2/\H1 t=none/\H1 x.1=none/\∀ a∈x.2,H1 a=none)
  ⟨[],[],rfl,aa.new hD,aw,rfl,rfl,⟨by simp,by simp⟩,by simp,λj t c x e=>by simp at e⟩ (λi vs H _ ⟨_,_,_,s,_⟩=>aj.of (s _ _ hl)) ?_ (λvs H ⟨ts',rr,hv,s,e,hl',hrr,sp,sD,hc'⟩=>?_)
 rotate_left
 .have hrl:rr.length=ts'.length:=by exact oz111 hl' hrr
  have htl:ts'.length=cs.length:=by rw[hl',aA,hlen]
  refine hQ ts' H s (hv ▸ e) htl (λi t c e1 e2=>?_) ⟨rr,hrl,λi t x e1 e2=>?_,λx hx=>⟨(sD x hx).1,(sD x hx).2.1⟩,sp⟩
  .have hi:i<rr.length:=by have:=(cj.mp e1).1;exact oz18 hl' hrr this
   refine cG (hc' i t c _ e1 e2 (aF hi)) λa1 a2 a3 a4=>?_;exact aM _ _ ⟨a1,a2,a3,a4⟩
  .have hi:i<cs.length:=by have:=(cj.mp e1).1;exact b_ htl this
   obtain⟨a1,_⟩:=hc' i t _ x e1 (aF hi) e2;exact⟨⟨_,_,a1.tab.tup⟩,a1.tab.lst⟩
 intro i x vs σ' H hi hx sh e92;refine iE e92 λts' rr e95 s e hl' hrr e96=>?_;clear e92;obtain rfl:=e95;refine bQ e96 λsp sD hc'=>?_;clear e96;refine mV (Dk sh) λz1 z2 z3 e97=>?_;obtain rfl:=e97;rw[aA] at hi;rw[uv hi] at hx;cases hx;have hci:cs[i]?=some (cs[i]'(b_ hlen hi)):=aF (b_ hlen hi);refine cY (hc i _ _ (aF hi) hci) λe98 c0 c24 w0 w24=>?_;obtain⟨r,rs,tc⟩:=e98;have tcH:=tc.same s;have hrl:=tc.tab.len;refine aM _ _ ⟨rfl,aB.of tcH.tab.tup,rfl,_,_,rfl,_,_,rfl,_,_,rfl,rfl,?_⟩;simp only[dr,List.set_cons_zero,List.set_cons_succ,eZ];refine⟨_,rfl,_,rfl,_,rfl,r,rfl,⟨_,aj.of tcH.tab.lst⟩,λD2 hD2=>GD (M:=(cs[i]'(b_ hlen hi)).2.2) tcH.tab.lst tcH.con ∅ hD2 λrs' H' s' hD2' hl2 hc2 fr2 nd2=>?_⟩;refine⟨by show 3<=sizeLine;decide,λpt hpt=>?_⟩;have s0:=aa.new (o:=.tup [V.int (cs[i]'(b_ hlen hi)).1,V.int (cs[i]'(b_ hlen hi)).2.1,V.ref D2]) hpt;have s1:=s'.trans s0;have sA:=s.trans s1;have hDpt:=s1 _ _ e;have nDp:D≠pt:=cc (s' _ _ e) hpt;have nD2:D2≠D:=λz=>by rw[z,e] at hD2;cases hD2
 have nDr:D∉rs':=λz=>by have:=(fr2 D z).1;rw[e] at this;cases this
 have tcN:cu (ao H' pt (.tup [V.int (cs[i]'(b_ hlen hi)).1,V.int (cs[i]'(b_ hlen hi)).2.1,V.ref D2])) p (cs[i]'(b_ hlen hi)).1 (cs[i]'(b_ hlen hi)).2.1 pt D2 rs' (cs[i]'(b_ hlen hi)).2.2:=by
  refine⟨⟨aw,s0 _ _ hD2',∅,λa ha=>?_,λz=>(fr2 D2 z).2 rfl⟩,λj a ej=>s0 _ _ (hc2 j a ej)⟩;obtain⟨j,hj,rfl⟩:=d9.mp ha;have hj':j<rs.length:=by exact b_ hl2 hj
  refine aQ (tcH.tab.row rs[j] (eO hj')) λys hy hyl hyn=>?_;rw[tcH.con j _ (aF hj')] at hy;cases hy;exact⟨_,s0 _ _ (hc2 j _ (aF hj)),hyl,λy hy=>(hyn y hy).same s1⟩
 have sep':∀ x∈rr++[(D2,rs')],∀ y∈rr++[(D2,rs')],x.1∉y.2:=λx hx y hy z=>by
  rcases cf.mp hx with hx|hx <;> rcases cf.mp hy with hy|hy
  .exact sp.1 x hx y hy z
  .rw [cF.mp hy] at z;obtain⟨o,ho⟩:=(sD x hx).2.2.1;have:=(fr2 x.1 z).1;rw[ho] at this;cases this
  .rw [cF.mp hx] at z;obtain⟨o,ho⟩:=(sD y hy).2.2.2 _ z;rw[hD2] at ho;cases ho
  .rw [cF.mp hx,cF.mp hy] at z;exact (fr2 D2 z).2 rfl
 have nodup':((rr++[(D2,rs')]).map (·.2)).flatten.Nodup:=by
  rw[dD,List.flatten_append];refine List.nodup_append.mpr ⟨sp.2,by simpa using nd2,λa ha b hb z=>?_⟩;subst z;refine ar (List.mem_flatten.mp ha) λu hu hau=>?_;refine ar (cw.mp hu) λy hy e99=>?_;obtain rfl:=e99;obtain⟨o,ho⟩:=(sD y hy).2.2.2 a hau;have:=(fr2 a (by simpa using hb)).1;rw[ho] at this;cases this
 refine fL (ws:=ts'.map V.ref++[.ref pt]) (by rw[aA];exact hi) BJ hDpt (cS (by rw[aA];exact oz129 hlen h9 hi hl')) ⟨ts'++[pt],rr++[(D2,rs')],mC _ _,sA.upd hD,by rw[aw,mC],by rw[bw,hl'];rfl,by rw[bw,hrr];rfl,⟨sep',nodup'⟩,λx hx=>?_,λj t c x e1 e2 e3=>?_⟩
 .have keep:∀ b o,b≠D->(ao H' pt (.tup [V.int (cs[i]'(b_ hlen hi)).1,V.int (cs[i]'(b_ hlen hi)).2.1,V.ref D2])) b=some o->∀ o',(ao (ao H' pt (.tup [V.int (cs[i]'(b_ hlen hi)).1,V.int (cs[i]'(b_ hlen hi)).2.1,V.ref D2])) D o') b=some o:=λb o nb h o'=>by rw[aJ nb];exact h
  rcases cf.mp hx with hx|hx
  .refine cG (sD x hx) λx1 x2 e910 x4=>?_;obtain⟨o,ho⟩:=e910;refine⟨x1,x2,⟨o,keep _ _ x1 (s1 _ _ ho) _⟩,λa ha=>?_⟩;obtain⟨o,ho⟩:=x4 a ha;exact⟨o,keep _ _ (λz=>x2 (z ▸ ha)) (s1 _ _ ho) _⟩
  .rw [cF.mp hx];refine⟨nD2,nDr,⟨_,keep _ _ nD2 tcN.tab.lst _⟩,λa ha=>?_⟩;refine ar (tcN.tab.row a ha) λys hy _=>?_;exact⟨_,keep _ _ (λz=>nDr (z ▸ ha)) hy _⟩
 by_cases hj:j<ts'.length
 .rw [eE hj] at e1;rw[eE (oz18 hl' hrr hj)] at e3;refine cG (hc' j t c x e1 e2 e3) λa1 a2 a3 a4=>?_;refine bQ (sD x (aY e3)) λa5 a6 _=>?_;exact⟨(a1.same s1).put hDpt a5 a6,a2,a3,a4⟩
 .rw [d_ (c8 hj)] at e1;rw[d_ (oz154 hl' hrr hj)] at e3;have hj0:j-ts'.length=0:=by
   by_cases z:j-ts'.length=0
   .exact z
   .rw [cZ (by simp;exact oz11 z)] at e1;cases e1
  rw[show j-rr.length=0 by exact oz56 hl' hrr hj0] at e3;rw[hj0] at e1;cases e1;cases e3;have hji:j=i:=by exact oz3 hl' hj hj0
  subst hji;rw[hci] at e2;cases e2;exact⟨tcN.put hDpt nD2 nDr,(s.trans s').free hpt,s.free hD2,λa ha=>s.free (fr2 a ha).1⟩
theorem cC.extI {x C0 dx:Addr}{fs:List (Str×V)}{H H':Hp}{p:Int}{B:Nat}{v:V}(h:cC H p B v)(hx:H x=some (.ins C0 dx fs))(e:aP x H H'):cC H' p B v:=by
 refine aQ h λy nv b c=>?_;clear h;refine⟨y,?_,b,c⟩;by_cases hp:p=0
 .refine ar (nv.ref hp) λt e911 ht=>?_;obtain rfl:=e911;exact aE.tup hp (e _ _ (eQ ht hx (by intro z;cases z)) ht)
 .obtain rfl:=nv.int hp;exact aE.of hp
theorem cu.extI {x C0 dx:Addr}{fs:List (Str×V)}{H H':Hp}{p hh wd:Int}{t r:Addr}{rs:List Addr}{M:List (List V)}(h:cu H p hh wd t r rs M)(hx:H x=some (.ins C0 dx fs))(e:aP x H H'):cu H' p hh wd t r rs M:=by
 refine⟨⟨e _ _ (eQ h.tab.tup hx (by intro z;cases z)) h.tab.tup,e _ _ (eQ h.tab.lst hx (by intro z;cases z)) h.tab.lst,h.tab.len,λa ha=>?_,h.tab.nin⟩,λi a ei=>e _ _ (eQ (h.con i a ei) hx (by intro z;cases z)) (h.con i a ei)⟩;refine aQ (h.tab.row a ha) λys h1 h2 h3=>?_;exact⟨ys,e _ _ (eQ h1 hx (by intro z;cases z)) h1,h2,λy hy=>(h3 y hy).extI hx e⟩
theorem gr.extI {x C0 dx:Addr}{fs:List (Str×V)}{H H':Hp}{p:Int}{l:Addr}{ts:List Addr}{cs:List (Int×Int×List (List V))}(h:gr H p l ts cs)(hx:H x=some (.ins C0 dx fs))(e:aP x H H'):gr H' p l ts cs:=
 ⟨e _ _ (eQ h.1 hx (by intro z;cases z)) h.1,h.2.1,h.2.2.1,λi t c e1 e2=>let ⟨⟨r,rs,a⟩,b⟩:=h.2.2.2 i t c e1 e2;⟨⟨r,rs,a.extI hx e⟩,b⟩⟩
theorem gr.same {H H':Hp}{p:Int}{l:Addr}{ts:List Addr}{cs:List (Int×Int×List (List V))}(h:gr H p l ts cs)(s:aa H H'):gr H' p l ts cs:=
 ⟨s _ _ h.1,h.2.1,h.2.2.1,λi t c e1 e2=>let ⟨⟨r,rs,a⟩,b⟩:=h.2.2.2 i t c e1 e2;⟨⟨r,rs,a.same s⟩,b⟩⟩
def i7 (g d z l:Addr):List (Str×V):=bP "tables" (.ref l) (bP "sizes" (.ref z) (bP "drawing" (.ref d) (bP "ground" (.ref g) [])))
theorem DK (g d z l:Addr):(i7 g d z l).lookup ("tables" : Str)=some (.ref l):=by unfold i7;rw[fX,if_pos rfl]
theorem rM (g d z l:Addr):(i7 g d z l).lookup ("sizes" : Str)=some (.ref z):=by unfold i7;rw[fX,if_neg ⋯,fX,if_pos rfl]
theorem uF (g d z l:Addr):(i7 g d z l).lookup ("drawing" : Str)=some (.ref d):=by unfold i7;rw[fX,if_neg ⋯,fX,if_neg ⋯,fX,if_pos rfl]
theorem wO (g d z l:Addr):(i7 g d z l).lookup ("ground" : Str)=some (.ref g):=by unfold i7;rw[fX,if_neg ⋯,fX,if_neg ⋯,fX,if_neg ⋯,fX,if_pos rfl]
def vi (ns:List Int)(cs:List (Int×Int×List (List V)))(ps:List (Int×Int)):Prop:=cs.length=ps.length/\∀ (i:Nat) c q,cs[i]?=some c->ps[i]?=some q->c.1=ns.getD q.2.toNat 0/\c.2.1=ns.getD q.1.toNat 0
def spSI (S C G:Addr):Sp:=λvs H Q _=>∃ (x dx g d z l lp:Addr) (p m:Int) (xs:List V) (ps:List (Int×Int)) (ns:List Int) (ts:List Addr) (cs:List (Int×Int×List (List V))),vs=[.ref x,.ref g,.ref d,.ref z,.ref l]/\H x=some (.ins S dx [])/\di G H g p/\af p /\
 hE C H d m lp xs/\cK H xs ps/\iA m ps/\ps.length<=9/\bU H z ns/\(ns.length:Int)=m/\gr H p l ts cs/\vi ns cs ps /\
 ∀ (z' l':Addr) (ts':List Addr) (H':Hp),aP x H H'->H' x=some (.ins S dx (i7 g d z' l'))->H z'=none->H l'=none->bU H' z' ns->H' l'=some (.lst (ts'.map V.ref))->ts'.length=cs.length->(∀ (i:Nat) t c,ts'[i]?=some t->cs[i]?=some c->uI H H' p c.1 c.2.1 t c.2.2)->Q .non H'
theorem Gs (F:bc K "__init__" "Standing.__init__" As f fd)(T:bp K mg C G S)(Ybz:az P w K mg base "are_sizes" 2 (spSz C))(Ybk:az P w K mg base "are_tables" 10 (spTs C G)):ax P w K mg base aW 11 f fd ["self","ground","drawing","sizes","tables"] (spSI S C G):=by
 have nd:=E6.nd;refine F.ok E6 (λvs H Q E h=>?_) (λcdv A outer s H vs Q E hr h=>?_)
 .refine yt h λx dx g d z l lp p m xs ps ns ts cs e912 _=>?_;clear h;obtain rfl:=e912;rfl
 .refine yu h λx dx g d z l lp p m xs ps ns ts cs e913 hx hg e914=>?_;clear h;obtain rfl:=e913;refine yq e914 λhp hd pr ip p9 hz hm hT ft q=>?_;clear e914;refine⟨_,((@bI _ _ _ _ _ _ _ _ (PW.pt (fm (dU (eN (Ybz<$>hr<$>((ae 2)<&>((ae 3)<&>ah))))) (gm (dU (eN (Ybk<$>hr<$>((ae 1)<&>((ae 2)<&>((ae 3)<&>((ae 4)<&>ah)))))))))) (@bE _ _ _ jW) bJ)<*>((qj (ae 0) (ae 1) rfl)<*>((qj (ae 0) (ae 2) rfl)<*>((qj (ae 0) (jv rP rfl T.n_list iP ((ae 3)<&>ah)) rfl)<*>(@bE _ _ _ (qj (ae 0) (eL (own:=["high","wide","rows"]) (fr:=[]) rfl (c4 (by kernel_rfl)) (eM (pv 4)) (λ_ _ _ _=>⟨(@mx _ K rfl _ _ _ _ 3 rfl ((0<<<["high","wide","rows"])^^^((1<<<["high","wide","rows"])^^^((2<<<["high","wide","rows"])^^^(@cT _)))) ⇑1 ⇑1),dz,(@cb _ _ _ _ _ ((pv 0)<&>((pv 1)<&>((eL (own:=["row"]) (fr:=[]) rfl (c4 (by kernel_rfl)) (Dv K rfl (pv 2)) (λ_ _ _ _=>⟨(0<<<["row"]),dz,(jv (Ak K rfl) rfl T.n_list iP ((pv 0)<&>ah))⟩))<&>ah))))⟩)) rfl)))))),?_⟩;walk_at "wp";refine vL d z lp m xs ns ⟨rfl,hd,hz,hm,λH1 s1=>⟨true,rfl,dR ⇑0 ?_⟩⟩;have hT1:=hT;refine cG hT λhl hlen h9 hc=>?_;clear hT;refine ar hd λdxd hd1 hd2=>?_;clear hd;refine og g d z l lp p m xs ps ns ts ⟨rfl,hg.same s1,hp,⟨dxd,s1 _ _ hd1,s1 _ _ hd2⟩,pr.same s1,ip,p9,hz.same s1,hm,s1 _ _ hl,by rw[hlen,ft.1],λi t q' e1 e2=>?_,λH2 s2=>⟨true,rfl,dR ⇑0 ?_⟩⟩
  .have hi:i<ps.length:=(cj.mp e2).1;have hci:cs[i]?=some (cs[i]'(by have:=ft.1;exact c3 hi this)):=aF _;obtain⟨⟨r,rs,tc⟩,_⟩:=hc i t _ e1 hci;obtain⟨f1,f2⟩:=ft.2 i _ _ hci e2;rw[<- f1,<- f2];exact⟨r,rs,tc.tab.same s1⟩
  .have s12:=s1.trans s2;have hx2:=s12 _ _ hx;have nzx:z≠x:=eQ hz.1 hx (by intro w;cases w);refine c5 S dx [] ⟨hx2,T.cl_Standing,T.nSg,by show 0<1000;decide,S,dx,_,aw,T.cl_Standing,T.nSd,by have l1:=qx "ground" (.ref g) [];simp at l1;omega,_,.inl (aj.of (by rw[aJ nzx,aJ nzx];exact s12 _ _ hz.1)),λl1 hl1=>?_⟩;have nxl:x≠l1:=cc aw hl1;have f1:H l1=none:=by
    rw[aJ nxl.symm,aJ nxl.symm] at hl1;exact s12.free hl1
   have g1:=qx "ground" (.ref g) [];have g2:=qx "drawing" (.ref d) (bP "ground" (.ref g) []);have g3:=qx "sizes" (.ref l1) (bP "drawing" (.ref d) (bP "ground" (.ref g) []));simp only[qK] at g1;refine c5 S dx _ ⟨by rw[aJ nxl];exact aw,T.cl_Standing,T.nSs,∅,?_⟩;have e6:aP x H (ao (ao (ao (ao H2 x (.ins S dx (bP "ground" (.ref g) []))) x (.ins S dx (bP "drawing" (.ref d) (bP "ground" (.ref g) [])))) l1 (.lst (ns.map V.int))) x (.ins S dx (bP "sizes" (.ref l1) (bP "drawing" (.ref d) (bP "ground" (.ref g) []))))):=λb o nb eb=>by
    rw[aJ nb,aJ (cc eb f1),aJ nb,aJ nb];exact s12 _ _ eb
   have hx6:(ao (ao (ao (ao H2 x (.ins S dx (bP "ground" (.ref g) []))) x (.ins S dx (bP "drawing" (.ref d) (bP "ground" (.ref g) [])))) l1 (.lst (ns.map V.int))) x (.ins S dx (bP "sizes" (.ref l1) (bP "drawing" (.ref d) (bP "ground" (.ref g) []))))) x=some (.ins S dx (bP "sizes" (.ref l1) (bP "drawing" (.ref d) (bP "ground" (.ref g) [])))):=aw;have hl6:(ao (ao (ao (ao H2 x (.ins S dx (bP "ground" (.ref g) []))) x (.ins S dx (bP "drawing" (.ref d) (bP "ground" (.ref g) [])))) l1 (.lst (ns.map V.int))) x (.ins S dx (bP "sizes" (.ref l1) (bP "drawing" (.ref d) (bP "ground" (.ref g) []))))) l1=some (.lst (ns.map V.int)):=by rw[aJ nxl.symm];exact aw
   generalize ao (ao (ao (ao H2 x (.ins S dx (bP "ground" (.ref g) []))) x (.ins S dx (bP "drawing" (.ref d) (bP "ground" (.ref g) [])))) l1 (.lst (ns.map V.int))) x (.ins S dx (bP "sizes" (.ref l1) (bP "drawing" (.ref d) (bP "ground" (.ref g) []))))=H6 at *;have fr6:∀ b,H6 b=none->H b=none:=λb hb=>by
    cases eb:H b with
    | none=>rfl
    | some o=>
     by_cases nb:b=x
     .rw [nb,hx6] at hb;cases hb
     .rw [e6 b o nb eb] at hb;cases hb
   have hT6:=hT1.extI hx e6;refine⟨_,rfl,l,rfl,⟨_,aj.of hT6.1⟩,λD hD=>GE hT6 hD λts' H7 s7 hD7 hl7 ht7 _=>?_⟩;have hx7:=s7 _ _ hx6;have nDx:D≠x:=λw=>by rw[w,hx6] at hD;cases hD
   refine c5 S dx _ ⟨hx7,T.cl_Standing,T.nSt,∅,?_⟩;refine q l1 D ts' _ (λb o nb eb=>by rw[aJ nb];exact s7 _ _ (e6 b o nb eb)) aw f1 (fr6 D hD) ⟨by rw[aJ nxl.symm];exact s7 _ _ hl6,hz.2⟩ (by rw[aJ nDx];exact hD7) hl7 λi t c e1 e2=>?_;refine gh (ht7 i t c e1 e2) λr rs a1 a2 a3 a4=>?_;exact aM r rs ⟨a1.extI hx7 (λb o nb eb=>by rw[aJ nb];exact eb),fr6 t a2,fr6 r a3,λa ha=>fr6 a (a4 a ha)⟩
end
end Pf
set_option maxRecDepth 50000
set_option maxHeartbeats 500000
namespace Pf
open PySem L2 PyProof.Rows
section
variable {C G S:Addr}
theorem eU.ext2 {l:Addr}{H H':Hp}{p hh wd:Int}{t r:Addr}{rs:List Addr}(h:eU H p hh wd t r rs)(b:a_ H l)(e:aP l H H')(nr:r≠l)(ns:l∉rs):eU H' p hh wd t r rs:=
 ⟨by obtain⟨ys,hy⟩:=b.lst;exact e _ _ (eQ h.tup hy (by intro z;cases z)) h.tup,e _ _ nr h.lst,h.len,λa ha=>(h.row a ha).ext b e (λz=>ns (z ▸ ha)),h.nin⟩
theorem cu.ext {l:Addr}{H H':Hp}{p hh wd:Int}{t r:Addr}{rs:List Addr}{M:List (List V)}(h:cu H p hh wd t r rs M)(b:a_ H l)(e:aP l H H')(nr:r≠l)(ns:l∉rs):cu H' p hh wd t r rs M:=
 ⟨h.tab.ext2 b e nr ns,λi a ei=>e _ _ (λz=>ns (z ▸ aY ei)) (h.con i a ei)⟩
def rowOf (H:Hp)(a:Addr):List V:=match H a with
 | some (.lst xs)=>xs
 | _=>[]
theorem eU.toC {H:Hp}{p hh wd:Int}{t r:Addr}{rs:List Addr}(h:eU H p hh wd t r rs):∃ M,cu H p hh wd t r rs M:=by
 refine⟨rs.map (rowOf H),h,λi a e=>?_⟩;rw[aT,bH,e];refine ar (h.row a (aY e)) λxs hx _=>?_;show H a=some (.lst (rowOf H a));unfold rowOf;rw[hx]
theorem cK.bag {l:Addr}{H H':Hp}{xs:List V}{ps:List (Int×Int)}(h:cK H xs ps)(b:a_ H l)(e:aP l H H'):cK H' xs ps:=
 ⟨h.1,λi x q h1 h2=>by
  refine ar (h.2 i x q h1 h2) λt e1 e2=>?_;obtain⟨ys,hy⟩:=b.lst;exact⟨t,e1,e _ _ (eQ e2 hy (by intro z;cases z)) e2⟩⟩
abbrev Nv:=Int×Int
abbrev Mv:=List (List Nv)
def ay {α β:Type}(P:α->β->Prop)(xs:List α)(ys:List β):Prop:=xs.length=ys.length/\∀ (i:Nat) x y,xs[i]?=some x->ys[i]?=some y->P x y
theorem ay.nil {α β:Type}{P:α->β->Prop}:ay P [] []:=⟨rfl,λi x y e=>by simp at e⟩
theorem ay.take {α β:Type}{P:α->β->Prop}{xs:List α}{ys:List β}(h:ay P xs ys)(n:Nat):ay P (xs.take n) (ys.take n):=⟨by rw[ij,ij,h.1],λi x y e1 e2=>by
 by_cases hi:i<n
 .rw [Bq hi] at e1 e2;exact h.2 i x y e1 e2
 .rw [cZ (by rw[ij];omega)] at e1;cases e1⟩
theorem ay.drop {α β:Type}{P:α->β->Prop}{xs:List α}{ys:List β}(h:ay P xs ys)(n:Nat):ay P (xs.drop n) (ys.drop n):=⟨by rw[sq,sq,h.1],λi x y e1 e2=>by
 rw[List.getElem?_drop] at e1 e2;exact h.2 _ x y e1 e2⟩
theorem ay.app {α β:Type}{P:α->β->Prop}{xs xs':List α}{ys ys':List β}(h:ay P xs ys)(h':ay P xs' ys'):ay P (xs++xs') (ys++ys'):=⟨by rw[bw,bw,h.1,h'.1],λi x y e1 e2=>by
 have hl:=h.1;by_cases hi:i<xs.length
 .rw [eE hi] at e1;rw[eE (b_ hl hi)] at e2;exact h.2 i x y e1 e2
 .rw [d_ ∅] at e1 e2;rw[<- hl] at e2;exact h'.2 _ x y e1 e2⟩
theorem ay.one {α β:Type}{P:α->β->Prop}{x:α}{y:β}(h:P x y):ay P [x] [y]:=⟨rfl,λi a b e1 e2=>by
 cases i with
 | zero=>cases e1;cases e2;exact h
 | succ i=>simp at e1⟩
theorem ay.mono {α β:Type}{P P':α->β->Prop}{xs:List α}{ys:List β}(h:ay P xs ys)(k:∀ x y,P x y->P' x y):ay P' xs ys:=⟨h.1,λi x y e1 e2=>k x y (h.2 i x y e1 e2)⟩
theorem ay.monoM {α β:Type}{P P':α->β->Prop}{xs:List α}{ys:List β}(h:ay P xs ys)(k:∀ x y,x∈xs->P x y->P' x y):ay P' xs ys:=⟨h.1,λi x y e1 e2=>k x y (aY e1) (h.2 i x y e1 e2)⟩
theorem ay.set {α β:Type}{P:α->β->Prop}{xs:List α}{ys:List β}(h:ay P xs ys)(n:Nat){x:α}{y:β}(hp:P x y):ay P (xs.set n x) (ys.set n y):=⟨by rw[dE,dE,h.1],λi a b e1 e2=>by
 rw[A9] at e1 e2;by_cases hi:n=i
 .rw [if_pos hi] at e1 e2;split at e1
  .split at e2
   .cases e1;cases e2;exact hp
   .cases e2
  .cases e1
 .rw [if_neg hi] at e1 e2;exact h.2 i a b e1 e2⟩
theorem ay.rep {α β:Type}{P:α->β->Prop}{x:α}{y:β}(h:P x y)(n:Nat):ay P (List.replicate n x) (List.replicate n y):=⟨by simp,λi a b e1 e2=>by
 rw[qM] at e1 e2;split at e1
 .rename_i hi
  rw[if_pos hi] at e2;cases e1;cases e2;exact h
 .cases e1⟩
theorem ay.at {α β:Type}{P:α->β->Prop}{xs:List α}{ys:List β}(h:ay P xs ys){i:Nat}{y:β}(e:ys[i]?=some y):∃ x,xs[i]?=some x/\P x y:=by
 have hi:i<ys.length:=(cj.mp e).1;have hx:xs[i]?=some (xs[i]'(by have:=h.1;exact c3 hi this)):=aF _;exact⟨_,hx,h.2 i _ y hx e⟩
theorem ay.at' {α β:Type}{P:α->β->Prop}{xs:List α}{ys:List β}(h:ay P xs ys){i:Nat}{x:α}(e:xs[i]?=some x):∃ y,ys[i]?=some y/\P x y:=by
 have hi:i<xs.length:=(cj.mp e).1;have hy:ys[i]?=some (ys[i]'(by have:=h.1;exact oz40 hi this)):=aF _;exact⟨_,hy,h.2 i x _ e hy⟩
theorem ay.pick {α β:Type}{P:α->β->Prop}:∀ {xs:List α},(∀ x∈xs,∃ y,P x y)->∃ ys,ay P xs ys
 | [],_=>⟨[],ay.nil⟩
 | x::xs,h=>by
  obtain⟨y,hy⟩:=h x (by simp);obtain⟨ys,hys⟩:=ay.pick (xs:=xs) λz hz=>h z (by simp[hz]);exact⟨y::ys,(ay.one hy).app hys⟩
def bf (H:Hp)(p:Int)(a:Addr)(xs:List Nv):Prop:=∃ vs,H a=some (.lst vs)/\ay (aE H p) vs xs
theorem bf.same {H H':Hp}{p:Int}{a:Addr}{xs:List Nv}(h:bf H p a xs)(s:aa H H'):bf H' p a xs:=let ⟨vs,h1,h2⟩:=h;⟨vs,s _ _ h1,h2.mono λ_ _ k=>k.same s⟩
theorem aE.put {H:Hp}{D:Addr}{l:List V}{o:HO}{p:Int}{v:V}{x:Nv}(h:aE H p v x)(hD:H D=some (.lst l)):aE (ao H D o) p v x:=by
 by_cases hp:p=0
 .refine ar (h.ref hp) λt e94 ht=>?_;obtain rfl:=e94;exact aE.tup hp (by rw[aJ (eQ ht hD (by intro z;cases z))];exact ht)
 .obtain rfl:=h.int hp;exact aE.of hp
theorem bf.put {H:Hp}{D:Addr}{l:List V}{o:HO}{p:Int}{a:Addr}{xs:List Nv}(h:bf H p a xs)(hD:H D=some (.lst l))(n:a≠D):bf (ao H D o) p a xs:=let ⟨vs,h1,h2⟩:=h;⟨vs,by rw[aJ n];exact h1,h2.mono λ_ _ k=>k.put hD⟩
theorem bf.ext {l:Addr}{H H':Hp}{p:Int}{a:Addr}{xs:List Nv}(h:bf H p a xs)(b:a_ H l)(e:aP l H H')(n:a≠l):bf H' p a xs:=let ⟨vs,h1,h2⟩:=h;⟨vs,e _ _ n h1,h2.mono λ_ _ k=>k.ext b e⟩
structure cP (H:Hp)(p hh wd:Int)(t r:Addr)(rs:List Addr)(M:Mv):Prop where
 tup:H t=some (.tup [.int hh,.int wd,.ref r])
 lst:H r=some (.lst (rs.map V.ref))
 row:ay (bf H p) rs M
 nin:r∉rs
theorem cP.same {H H':Hp}{p hh wd:Int}{t r:Addr}{rs:List Addr}{M:Mv}(h:cP H p hh wd t r rs M)(s:aa H H'):cP H' p hh wd t r rs M:=⟨s _ _ h.tup,s _ _ h.lst,h.row.mono λ_ _ k=>k.same s,h.nin⟩
theorem cP.put {H:Hp}{D:Addr}{l:List V}{o:HO}{p hh wd:Int}{t r:Addr}{rs:List Addr}{M:Mv}(h:cP H p hh wd t r rs M)(hD:H D=some (.lst l))(nr:r≠D)(ns:D∉rs):cP (ao H D o) p hh wd t r rs M:=
 ⟨by rw[aJ (eQ h.tup hD (by intro z;cases z))];exact h.tup,by rw[aJ nr];exact h.lst,h.row.monoM λa _ ha k=>k.put hD (λz=>ns (z ▸ ha)),h.nin⟩
theorem cP.ext {l:Addr}{H H':Hp}{p hh wd:Int}{t r:Addr}{rs:List Addr}{M:Mv}(h:cP H p hh wd t r rs M)(b:a_ H l)(e:aP l H H')(nr:r≠l)(ns:l∉rs):cP H' p hh wd t r rs M:=
 ⟨e _ _ (λz=>by obtain⟨x,y,hb,_⟩:=b;rw[<- z,h.tup] at hb;cases hb) h.tup,e _ _ nr h.lst,h.row.monoM λa _ ha k=>k.ext b e (λz=>ns (z ▸ ha)),h.nin⟩
def Ih (hh wd:Int)(M:Mv):Prop:=(M.length:Int)=hh/\∀ row∈M,(row.length:Int)=wd
theorem zC {α:Type}{R:Addr->α->Prop}{rs:List Addr}{xs:List α}(h:ay R rs xs):ay (λv x=>∃ a,v=.ref a/\R a x) (rs.map V.ref) xs:=⟨by rw[aA];exact h.1,λi v x e1 e2=>by
 rw[bH] at e1;cases e:rs[i]? with
 | none=>rw[e] at e1;cases e1
 | some a=>rw[e] at e1;cases e1;exact⟨a,rfl,h.2 i a x e e2⟩⟩
theorem rG {a D:Addr}{xs:List V}{fr:List (Str×Nat)}{σ:L2.St}{te:TE}{H1:Hp}{Q:VK}(R:Nat->Hp->V->Prop)(hS:∀ {i H H' y},R i H y->aa H H'->R i H' y)(hP:∀ {i H y l o},R i H y->H D=some (.lst l)->R i (ao H D o) y)(ha:H1 a=some (.lst xs))(hD:H1 D=none)(hn:xs.length<=1000)(h:∀ (i:Nat) x H (Q:VK),xs[i]?=some x->aa H1 H->(∃ l,H D=some (.lst l))->(∀ y H',aa H H'->R i H' y->Q y H')->te (some x::cH fr σ) H Q)(hQ:∀ ys H',aa H1 H'->H' D=some (.lst ys)->ys.length=xs.length->(∀ (i:Nat) y,ys[i]?=some y->R i H' y)->Q (.ref D) H'):eT (cg 0) dr te (jj K a) D (dG 1 fr σ) H1 Q:=by
 refine rE (xs:=xs) (λi vs H=>aa H1 H/\H D=some (.lst vs)/\vs.length=i/\∀ (j:Nat) y,vs[j]?=some y->R j H y) ⟨aa.new hD,aw,rfl,λj y e=>by simp at e⟩ (λi vs H _ p=>aj.of (p.1 _ _ ha)) ?_ (λvs H ⟨s,e,hl,hr⟩=>hQ vs H s e hl hr);intro i x vs σ' H hi hx sh e91;refine cG e91 λs e hl hr=>?_;clear e91;obtain⟨z,rfl⟩:=sh.one;simp only[fP,cg,dr,List.set_cons_zero,eZ];refine h i x H _ hx s ⟨_,e⟩ λy H' s' ry=>?_;refine fL (ws:=vs++[y]) hi Sh.mk1 (s' _ _ e) (cS (tJ hn hi hl)) ⟨(s.trans s').upd hD,aw,by rw[bw,hl];rfl,λj u hu=>?_⟩;by_cases hj:j<vs.length
 .rw [eE hj] at hu;exact hP (hS (hr j u hu) s') (s' _ _ e)
 .rw [d_ (c8 hj)] at hu;have hj0:j-vs.length=0:=by
   by_cases z:j-vs.length=0
   .exact z
   .rw [cZ (by simp;exact oz11 z)] at hu;cases hu
  rw[hj0] at hu;cases hu;rw[show j=i by exact oz3 hl hj hj0];exact hP ry (s' _ _ e)
theorem zF {lo:Int}{n:Nat}{D:Addr}{fr:List (Str×Nat)}{σ:L2.St}{te:TE}{H1:Hp}{Q:VK}(R:Nat->Hp->V->Prop)(hS:∀ {i H H' y},R i H y->aa H H'->R i H' y)(hP:∀ {i H y l o},R i H y->H D=some (.lst l)->R i (ao H D o) y)(hD:H1 D=none)(hn:n<=1000)(h:∀ (i:Nat) H (Q:VK),i<n->aa H1 H->(∃ l,H D=some (.lst l))->(∀ y H',aa H H'->R i H' y->Q y H')->te (some (.int (lo+(i:Nat)))::cH fr σ) H Q)(hQ:∀ ys H',aa H1 H'->H' D=some (.lst ys)->ys.length=n->(∀ (i:Nat) y,ys[i]?=some y->R i H' y)->Q (.ref D) H'):eT (cg 0) dr te (iY lo n) D (dG 1 fr σ) H1 Q:=by
 refine ur (n:=n) (λi vs H=>aa H1 H/\H D=some (.lst vs)/\vs.length=i/\∀ (j:Nat) y,vs[j]?=some y->R j H y) ⟨aa.new hD,aw,rfl,λj y e=>by simp at e⟩ ?_ (λvs H ⟨s,e,hl,hr⟩=>hQ vs H s e hl hr);intro i x vs σ' H hi e92;obtain rfl:=e92;intro sh e93;refine cG e93 λs e hl hr=>?_;clear e93;obtain⟨z,rfl⟩:=sh.one;simp only[fP,cg,dr,List.set_cons_zero,eZ];refine h i H _ hi s ⟨_,e⟩ λy H' s' ry=>?_;refine fL (ws:=vs++[y]) hi Sh.mk1 (s' _ _ e) (cS (tJ hn hi hl)) ⟨(s.trans s').upd hD,aw,by rw[bw,hl];rfl,λj u hu=>?_⟩;by_cases hj:j<vs.length
 .rw [eE hj] at hu;exact hP (hS (hr j u hu) s') (s' _ _ e)
 .rw [d_ (c8 hj)] at hu;have hj0:j-vs.length=0:=by
   by_cases z:j-vs.length=0
   .exact z
   .rw [cZ (by simp;exact oz11 z)] at hu;cases hu
  rw[hj0] at hu;cases hu;rw[show j=i by exact oz3 hl hj hj0];exact hP ry (s' _ _ e)
theorem ui {ys:List V}{g:Nat->Int}{n:Nat}(hl:ys.length=n)(h:∀ (i:Nat) y,ys[i]?=some y->y=.int (g i)):ys=((List.range n).map g).map V.int:=by
 apply xE;intro i;by_cases hi:i<n
 .rw [aF (cM hl hi),h i _ (aF (cM hl hi)),bH,bH,j9 hi];rfl
 .rw [cZ ∅,cZ (by simp;exact c8 hi)]
theorem wm {P:Nat->Addr->Prop}:∀ {ys:List V},(∀ (i:Nat) y,ys[i]?=some y->∃ b,y=.ref b/\P i b)->∃ bs:List Addr,ys=bs.map V.ref/\∀ (i:Nat) b,bs[i]?=some b->P i b:=by
 intro ys
 induction ys generalizing P with
 | nil=>exact λ_=>⟨[],rfl,λi b e=>by simp at e⟩
 | cons y ys ih=>
  intro h;refine ar (h 0 y rfl) λb e97 hb=>?_;obtain rfl:=e97;refine ar (ih (P:=λi b=>P (i+1) b) λi u e=>h (i+1) u (by simpa using e)) λbs e98 hbs=>?_;obtain rfl:=e98;exact⟨b::bs,rfl,λi u e=>by
   cases i with
   | zero=>cases e;exact hb
   | succ i=>exact hbs i u (by simpa using e)⟩
theorem ku {D:Addr}{H1 H':Hp}{p:Int}{M:Mv}{ys:List V}(hl:ys.length=M.length)(h:∀ (i:Nat) y,ys[i]?=some y->∃ a,y=.ref a/\bf H' p a (M.getD i [])/\a≠D/\H1 a=none):∃ rs:List Addr,ys=rs.map V.ref/\ay (bf H' p) rs M/\D∉rs/\∀ a∈rs,H1 a=none:=by
 refine ar (wm (P:=λi a=>bf H' p a (M.getD i [])/\a≠D/\H1 a=none) h) λrs e99 hr=>?_;obtain rfl:=e99;rw[aA] at hl;refine⟨rs,rfl,⟨hl,λi a xs e1 e2=>?_⟩,λz=>?_,λa ha=>?_⟩
 .have:=(hr i a e1).1;rwa [aT,e2] at this
 .obtain ⟨j,hj,e⟩:=d9.mp z;exact (hr j D (by rw[aF hj,e])).2.1 rfl
 .obtain ⟨j,hj,rfl⟩:=d9.mp ha;exact (hr j _ (aF hj)).2.2
structure jY (H:Hp)(t r:Addr)(rs:List Addr):Prop where
 t:H t=none
 r:H r=none
 rs:∀ a∈rs,H a=none
def yc:Sp:=λvs H Q _=>∃ (p hh wd:Int) (t r:Addr) (rs:List Addr) (M:Mv),vs=[.ref t]/\cP H p hh wd t r rs M/\M.length<=200/\∀ (t' r':Addr) (rs':List Addr) (H':Hp),aa H H'->jY H t' r' rs'->cP H' p hh wd t' r' rs' M->Q (.ref t') H'
theorem lq (F:bc K "_law_copy" "_law_copy" zP f fd)(T:bp K mg C G S):ax P w K mg base aW 1 f fd ["_law_table_here"] yc:=by
 have nd:=Ey.nd;refine F.ok Ey (λvs H Q E h=>?_) (λcdv A outer s H vs Q E hr h=>?_)
 .refine tQ h λp hh wd t r rs M e91 _=>?_;clear h;obtain rfl:=e91;rfl
 .refine qV h λp hh wd t r rs M e92 tb ml q=>?_;clear h;obtain rfl:=e92;have hln:=tb.row.1;refine⟨_,(~~~(@cb _ _ _ _ _ (((cX bC)<|>(ae 0)<||>aq)<&>(((cX bC)<|>(ae 0)<||>aq)<&>((eL (own:=["_law_row"]) (fr:=[]) rfl (c4 (by kernel_rfl)) (eM (bC<|>(pv 0)<||>aq)) (λ_ _ _ _=>⟨(0<<<["_law_row"]),dz,(jv (Ak K rfl) rfl T.n_list iP ((pv 0)<&>ah))⟩))<&>ah))))),?_⟩;walk_at "wp";refine⟨_,aB.of tb.tup,_,rfl,_,aB.of tb.tup,_,rfl,?_⟩;refine⟨_,rfl,t,_,2,_,rfl,rfl,aB.of tb.tup,rfl,r,rfl,⟨_,aj.of tb.lst⟩,λD hD=>?_⟩;refine rG (λi Hc y=>∃ a,y=.ref a/\bf Hc p a (M.getD i [])/\a≠D/\H a=none) (λ⟨a,e,b,c⟩ s=>⟨a,e,b.same s,c⟩) (λ⟨a,e,b,c,d⟩ hD=>⟨a,e,b.put hD c,c,d⟩) tb.lst hD (by rw[aA];omega) (λi x H' Q' hx s' ⟨lD,hlD⟩ q'=>?_) (λys H' s' h' hyl hys=>?_)
  .refine ar ((zC tb.row).at' hx) λrow er e93=>?_;obtain⟨a,rfl,vs,h1,h2⟩:=e93;refine⟨_,rfl,_,rfl,vs,.inl (aj.of (s' _ _ h1)),λc hc=>?_⟩;have sc:=s'.trans (aa.new (o:=.lst vs) hc);exact q' _ _ (aa.new hc) ⟨c,rfl,⟨vs,aw,by rw[de er];exact h2.mono λ_ _ k=>k.same sc⟩,(cc hlD hc).symm,s'.free hc⟩
  .rw [aA] at hyl;refine tU (ku (D:=D) (H1:=H) (p:=p) (M:=M) (oz39 hln hyl) hys) λrs' e94 a2 nD fr=>?_;obtain rfl:=e94;refine⟨by show 3<=sizeLine;decide,λt' ht'=>?_⟩;have s2:=aa.new (o:=.tup [.int hh,.int wd,.ref D]) ht';exact q t' D rs' _ (s'.trans s2) ⟨s'.free ht',hD,fr⟩ ⟨aw,s2 _ _ h',a2.mono λ_ _ k=>k.same s2,nD⟩
abbrev Tv:=Int×Int×Mv
abbrev t0:Tv:=(0,0,[])
abbrev hF (cs:List Tv)(i:Nat):Int:=(cs.getD i t0).1
abbrev wF (cs:List Tv)(i:Nat):Int:=(cs.getD i t0).2.1
abbrev mF (cs:List Tv)(i:Nat):Mv:=(cs.getD i t0).2.2
theorem zE {a D:Addr}{xs:List V}{fr:List (Str×Nat)}{σ:L2.St}{te:TE}{H1:Hp}{Q:VK}(g:Nat->Int)(ha:H1 a=some (.lst xs))(hD:H1 D=none)(hn:xs.length<=1000)(h:∀ (i:Nat) x H (Q:VK),xs[i]?=some x->aa H1 H->(∀ H',aa H H'->Q (.int (g i)) H')->te (some x::cH fr σ) H Q)(hQ:∀ H',aa H1 H'->H' D=some (.lst (((List.range xs.length).map g).map V.int))->Q (.ref D) H'):eT (cg 0) dr te (jj K a) D (dG 1 fr σ) H1 Q:=
 rG (λi _ y=>y=.int (g i)) (λr _=>r) (λr _=>r) ha hD hn (λi x H Q hx s _ k=>h i x H Q hx s λH' s'=>k _ H' s' rfl) (λys H' s e hl hr=>hQ H' s (by rw[e,ui hl hr]))
structure Iq (cs:List Tv):Prop where
 few:cs.length<=9
 bd:∀ i,i<cs.length->0<=hF cs i/\hF cs i<=24/\0<=wF cs i/\wF cs i<=24/\Ih (hF cs i) (wF cs i) (mF cs i)
structure Ie (H:Hp)(p:Int)(a:Addr)(ts:List Addr)(cs:List Tv):Prop where
 lst:H a=some (.lst (ts.map V.ref))
 tab:ay (λt c=>∃ r rs,cP H p c.1 c.2.1 t r rs c.2.2) ts cs
end
end Pf
namespace Pf
open PySem L2 L3 PyProof.Rows
section
variable {C G S:Addr}
def nrS (a b:Int):Int×Int:=if b<0 then nrm (-a) (-b) else nrm a b
theorem pF {a b:Int}(h:b≠0):((a.fdiv (if b<0 then -(Int.gcd a b:Int) else (Int.gcd a b:Int)),b.fdiv (if b<0 then -(Int.gcd a b:Int) else (Int.gcd a b:Int))):Int×Int)=nrS a b:=by
 unfold nrS nrm;by_cases hb:b<0
 .simp only [if_pos hb];have e1:∀ z g:Int,z.fdiv (-g)=(-z).fdiv g:=λz g=>by rw[<- Int.neg_fdiv_neg (-z) g,Int.neg_neg]
  have e2:Int.gcd (-a) (-b)=Int.gcd a b:=by rw[Int.gcd_neg,Int.neg_gcd]
  rw[e1,e1,e2,qN _ i4,qN _ i4]
 .simp only [if_neg hb];rw[qN _ i4,qN _ i4]
def wq:Sp:=λvs H Q _=>∃ a b:Int,vs=[.int a,.int b]/\Bt NB a/\Bt NB b/\b≠0/\∀ t H',aa H H'->H' t=some (.tup [.int (nrS a b).1,.int (nrS a b).2])->Q (.ref t) H'
theorem FJ (F:bc K "fraction" "fraction" zV f fd)(T:bp K mg C G S)(hpt:P.given.tree=none)(Yad:az P w K mg base "common_divisor" 4 qd):ax P w K mg base aW 5 f fd ["top","bottom"] wq:=by
 have nd:=Er.nd;refine F.ok Er (λvs H Q E h=>?_) (λcdv A outer s H vs Q E hr h=>?_)
 .refine cE h λa b e92 _=>?_;clear h;obtain rfl:=e92;rfl
 .refine nB h λa b e93 ha hb b0 q=>?_;clear h;obtain rfl:=e93;refine⟨_,((@bI _ _ _ _ _ _ _ _ (bW (qW c9) (ae 1) aq (aU _)) (@bE _ _ _ jW) bJ)<*>((2|||nd|||(Yad<$>hr<$>((ae 0)<&>((ae 1)<&>ah))))<*>((@bI _ _ _ _ _ _ _ _ (bW (gH iF) (ae 1) aq (aU _)) (@bE _ _ _ (2|||nd|||(fO fU (ae 2)))) bJ)<*>(~~~(@cb _ _ _ _ _ (((jb hpt (jc hr))<|>(ae 0)<&&>(ae 2))<&>(((jb hpt (jc hr))<|>(ae 1)<&&>(ae 2))<&>ah))))))),?_⟩;walk_at "wp";have dR:∀ {c A B:Prop} [Decidable c],¬ c->B->if c then A else B:=λhc h=>by rw[if_neg hc];exact h
  refine dR (by rw[dm b0];decide) ⟨a,b,rfl,ha,hb,λH1 s1=>?_⟩;have g0:0<Int.gcd a b:=Bi _ b0;have e:=pF (a:=a) b0;refine bA (λhc=>?_) (λhc=>?_)
  .have hc:=dB hc;rw[if_pos hc] at e;refine⟨_,rfl,∅,∅,⇑0,λt ht=>q t _ (s1.trans (aa.new ht)) ?_⟩;rw[aw,<- e]
  .have hc:¬ b<0:=λz=>hc (bR z);rw[if_neg hc] at e;refine⟨_,rfl,∅,_,rfl,∅,⇑0,λt ht=>q t _ (s1.trans (aa.new ht)) ?_⟩;rw[aw,<- e]
theorem G7 {b p:Int}(hp:jx p)(h0:0<b)(h1:b<p):Int.gcd b p=1:=by
 have hd1:((Int.gcd b p:Nat):Int) ∣ b:=iS b p;have hd2:((Int.gcd b p:Nat):Int) ∣ p:=jG b p;have hle:=Int.le_of_dvd h0 hd1;have hpos:0<Int.gcd b p:=Int.gcd_pos_of_ne_zero_left _ ∅;by_cases h:Int.gcd b p=1
 .exact h
 .exact absurd (Int.emod_eq_zero_of_dvd hd2) (hp.2.2 _ ∅ ∅)
theorem lN {p z b c:Int}(h:p ∣ z*b-c):(z % p*b) % p=c % p:=by
 obtain⟨k,hk⟩:=h;have e:z % p*b=c+p*(k-z / p*b):=by rw[Int.emod_def];grind
 rw[e,Int.add_mul_emod_self_left]
theorem De {a b:Int}(ha:1<=a)(hb:0<=b):b<=a*b:=by
 have:=Br ha hb;omega
theorem tG {x:Int}(h:x.natAbs<=97):Bt 7 x:=iW h ⇑0
def spInv:Sp:=λvs H Q _=>∃ b p:Int,vs=[.int b,.int p]/\jx p/\0<b/\b<p/\∀ r H',aa H H'->0<=r->r<p->(r*b) % p=1->Q (.int r) H'
theorem pe (F:bc K "inverse" "inverse" zp f fd)(T:bp K mg C G S):ax P w K mg base aW 1 f fd ["rest","prime"] spInv:=by
 have nd:=D9.nd;refine F.ok D9 (λvs H Q E h=>?_) (λcdv A outer s H vs Q E hr h=>?_)
 .refine cE h λb p e94 _=>?_;clear h;obtain rfl:=e94;rfl
 .refine nB h λb p e95 hp b0 b1 q=>?_;clear h;obtain rfl:=e95;have p1:=hp.1;have p97:=hp.2.1;refine⟨_,((rh (i:=2) (j:=3) rfl nd rfl rfl ⇑0 rfl rfl ((ae 0)<&>((ae 1)<&>ah)) rfl)<*>((dX (@cb _ _ _ _ _ (aq<&>(aq<&>ah))) (@dJ _ _ _ _ _ 2 rfl ((4>>>nd)^^^((5>>>nd)^^^(@cT _))) ⇑1 ⇑1))<*>((uy cW (fV fM (pv 2) aq (aU _)) ((6|||nd|||((opJ wg)<|>(ae 3)<&&>(ae 2)))<*>((rh (i:=2) (j:=3) rfl nd rfl rfl ⇑0 rfl rfl (((gH fQ)<|>(ae 3)<&&>((opJ dW)<|>(ae 6)<&&>(ae 2)))<&>((ae 2)<&>ah)) rfl)<*>(@bE _ _ _ (rh (i:=4) (j:=5) rfl nd rfl rfl ⇑0 rfl rfl (((gH fQ)<|>(ae 5)<&&>((opJ dW)<|>(ae 6)<&&>(ae 4)))<&>((ae 4)<&>ah)) rfl)))))<*>(~~~((opJ fE)<|>(ae 4)<&&>(ae 1)))))),?_⟩;walk_at "wp";refine aM _ _ ⟨⟨rfl,rfl⟩,⇑0,λt ht=>⟨_,aB.of aw,rfl,_,_,rfl,_,_,rfl,rfl,?_⟩⟩;refine⟨λn σ H2=>∃ (lo hi lt ht':Int) (o:Option V),σ=[some (V.int b),some (V.int p),some (V.int lo),some (V.int hi),some (V.int lt),some (V.int ht'),o]/\H2=ao H t (.tup [V.int 1,V.int 0])/\n=lo.toNat/\1<=lo/\lo<hi/\hi<=p/\Int.gcd lo hi=1/\p ∣ lt*b-lo/\p ∣ ht'*b-hi /\
    ∃ u v:Int,0<=u/\0<=v/\lo*v+hi*u=p/\((lt=u/\ht'=-v)\/(lt=-u/\ht'=v)),
   ⟨_,b,p,1,0,none,rfl,rfl,rfl,∅,b1,rX _,G7 hp b0 b1,⟨0,∅⟩,⟨-1,∅⟩,1,0,⇑0,⇑0,∅,.inl ⟨rfl,rfl⟩⟩,?_⟩
  intro n σ H2 e91;refine g9 e91 λlo hi lt ht' o e96 e97 e98 e99=>?_;clear e91;obtain rfl:=e96;obtain rfl:=e97;obtain rfl:=e98;refine qU e99 λl1 l2 l3 hg d1 d2 e910=>?_;clear e99;obtain⟨u,v,u0,v0,huv,hs⟩:=e910;walk_at "wp";refine bA (λhc=>?_) (λhc=>?_)
  .have hc:=dB hc;have hm:hi-hi / lo*lo=hi % lo:=by rw[Int.emod_def,r8 lo]
   have m0:0<=hi / lo:=xm (oz101 l2 hc) ∅;have m1:hi / lo<=hi:=Int.ediv_le_self _ (oz101 l2 hc);have r0:=gv hi (show lo≠0 by exact mj hc);have r1:=fY hi (show 0<lo by exact iD hc);have hg':Int.gcd (hi % lo) lo=1:=by rw[uP,C_,uP];exact hg
   have r2:1<=hi % lo:=by
    by_cases z:hi % lo=0
    .rw [z,Int.zero_gcd] at hg';omega
    .omega
   have u1:=De (a:=hi) ∅ u0;have v1:=De (a:=lo) ∅ v0;have um:u<=97:=∅
   have vm:v<=97:=∅
   have e3:(hi-hi / lo*lo)*u+lo*(v+hi / lo*u)=p:=by rw[<- huv];grind
   have mu:0<=hi / lo*u:=qE m0 u0;refine⟨_,λ_ _ h=>h,⟨iD hc,oz63 p97 l2 l3⟩,(tG (oz16 p97 l3 m0 m1)).ok (tG (oz46 p97 l2 l3 hc)) ⇑0,_,_,⟨rfl,rfl⟩,(tG (oz16 p97 l3 m0 m1)).ok (tG (by rcases hs with ⟨h,_⟩|⟨h,_⟩ <;> omega)) ⇑0,_,_,⟨rfl,rfl⟩,(hi % lo).toNat,oz116 r1 r2,
    hi-hi / lo*lo,lo,ht'-hi / lo*lt,lt,_,rfl,rfl,by rw[hm],by rw[hm];exact r2,by rw[hm];exact r1,oz29 l2 l3,by rw[hm];exact hg',?_,d1,v+hi / lo*u,∅,u,u0,e3,?_⟩
   .have e:(ht'-hi / lo*lt)*b-(hi-hi / lo*lo)=(ht'*b-hi)-hi / lo*(lt*b-lo):=by grind
    rw[e];exact Int.dvd_sub d2 (Int.dvd_mul_of_dvd_right d1)
   .rcases hs with ⟨h1,h2⟩|⟨h1,h2⟩
    .subst h1 h2;exact .inr ⟨by grind,rfl⟩
    .subst h1 h2;exact .inl ⟨by grind,rfl⟩
  .have hc:¬ 1<lo:=λz=>hc (bR z);have hl:lo=1:=∅
   subst hl;refine⟨iD p1,q _ _ (aa.new ht) (gv _ (mj p1)) (fY _ (iD p1)) ?_⟩;rw[lN d1,mL ⇑0 p1]
def yJ:Sp:=λvs H Q E=>∃ a b p:Int,vs=[.int a,.int b,.int p]/\jx p/\Bt NB a/\b % p≠0/\∀ r H',aa H H'->0<=r->r<p->(r*b-a) % p=0->Q (.int r) H'
theorem Gq (F:bc K "rest_of" "rest_of" zB f fd)(T:bp K mg C G S)(Yaw:az P w K mg base "inverse" 1 spInv):ax P w K mg base aW 2 f fd ["top","bottom","prime"] yJ:=by
 have nd:=Eh.nd;refine F.ok Eh (λvs H Q E h=>?_) (λcdv A outer s H vs Q E hr h=>?_)
 .refine gK h λa b p e911 _=>?_;clear h;obtain rfl:=e911;rfl
 .refine cD h λa b p e912 hp ha e913=>?_;clear h;obtain rfl:=e912;obtain⟨hb,q⟩:=e913;have p1:=hp.1;have p97:=hp.2.1;have b0:=gv b (show p≠0 by exact mj p1);have b1:=fY b (show 0<p by exact iD p1);refine⟨_,((3|||nd|||((opJ fE)<|>(ae 1)<&&>(ae 2)))<*>((@bI _ _ _ _ _ _ _ _ (bW (qW c9) (ae 3) aq (aU _)) (@bE _ _ _ jW) bJ)<*>(~~~(fE<|>(dW<|>(ae 0)<&&>(Yaw<$>hr<$>((ae 3)<&>((ae 2)<&>ah))))<&&>(ae 2))))),?_⟩;walk_at "wp";have dR:∀ {c A B:Prop} [Decidable c],¬ c->B->if c then A else B:=λhc h=>by rw[if_neg hc];exact h
  refine⟨iD p1,dR (by rw[dm hb];decide) ?_⟩;refine aM _ p ⟨rfl,hp,∅,b1,λr H' s' r0 r1 hr1=>⟨r,rfl,ha.ok (tG ∅) ⇑0,iD p1,q _ H' s' (gv _ (mj p1)) (fY _ (iD p1)) ?_⟩⟩;have k1:p ∣ r*(b % p)-1:=Int.dvd_of_emod_eq_zero (by rw[Int.sub_emod,hr1,mL ⇑0 p1];rfl);obtain⟨k,hk⟩:=k1;have e:(a*r % p)*b-a=p*(a*k+a*r*(b / p)-a*r / p*b):=by
   rw[Int.emod_def] at hk ⊢
   grind
  rw[e,Int.mul_emod_right]
structure vg (p a b:Int)(x:Int×Int):Prop where
 is:aZ p x
 fd:∀ (F:Type) [Lean.Grind.Field F],aO p F->(nm x:F)=ic a / ic b
 bt:∀ n:Nat,7<=n->Bt n a->Bt n b->Bt n x.1/\Bt n x.2
theorem Dd {a b:Int}(b0:b≠0):vg 0 a b (nrS a b):=by
 have key:∀ a b:Int,0<b->vg 0 a b (nrm a b):=λa b h=>by
  refine⟨.inl ⟨rfl,?_⟩,λF _ hF=>hF.nrmF rfl h,λn _ ha hb=>?_⟩
  .exact Cw h
  .have g0:=qv (a:=a) h;exact⟨ha.quo (iS ..),hb.quo (jG ..)⟩
 unfold nrS;by_cases h:b<0
 .rw [if_pos h];obtain⟨h1,h2,h3⟩:=key (-a) (-b) ∅;refine⟨h1,λF _ hF=>?_,λn h7 ha hb=>h3 n h7 ha.neg hb.neg⟩;rw[h2 F hF,vT,vT];have:(ic b:F)≠0:=hF.ne0 (.inl rfl) b0
  grind
 .rw [if_neg h];exact key a b ∅
theorem GX {p a b r:Int}(hp:jx p)(hb:b % p≠0)(r0:0<=r)(r1:r<p)(h:(r*b-a) % p=0):vg p a b (r,1):=by
 have p1:=hp.1;have p97:=hp.2.1;refine⟨.inr ⟨iD p1,r0,r1,rfl⟩,λF _ hF=>?_,λn h7 _ _=>⟨dc h7 (by show r.natAbs<128;omega),dc h7 (by show (1:Int).natAbs<128;decide)⟩⟩;have e1:(ic b:F)≠0:=by
  rw[<- hF.modF (mj p1)];exact hF.ne0 (.inr ⟨gv _ (mj p1),fY _ (iD p1)⟩) hb
 have e2:(ic (r*b-a):F)=0:=by rw[<- hF.modF (mj p1),h,rq]
 rw[tY,d7] at e2;rw[hF.one]
 grind
def yg (G:Addr):Sp:=λvs H Q _=>∃ (g:Addr) (p a b:Int),vs=[.ref g,.int a,.int b]/\di G H g p/\af p/\Bt NB a/\Bt NB b/\(p=0->b≠0)/\(p≠0->b % p≠0)/\∀ v x H',aa H H'->aE H' p v x->vg p a b x->Q v H'
theorem kY {f D:Addr}{fd:FuncData}(F:mQ K "number" "Ground.number" je f fd D)(T:bp K mg C G S)(Yap:az P w K mg base "fraction" 5 wq)(Yas:az P w K mg base "rest_of" 2 yJ):ax P w K mg base aW 6 f fd ["self","top","bottom"] (yg G):=by
 have nd:=E5.nd;refine F.ok E5 (λvs H Q E h=>?_) (λcdv A outer s H vs Q E hr h=>?_)
 .refine qf h λg p a b e914 _=>?_;clear h;obtain rfl:=e914;rfl
 .refine d6 h λg p a b e915 e916 hp e917=>?_;clear h;obtain rfl:=e915;obtain⟨dx,hg⟩:=e916;refine cY e917 λha hb h0 h1 q=>?_;clear e917;refine⟨_,((@bI _ _ _ _ _ _ _ _ (bW c9 (eA (ae 0) rfl) aq (aU _)) (~~~(Yap<$>hr<$>((ae 1)<&>((ae 2)<&>ah)))) bJ)<*>(~~~(Yas<$>hr<$>((ae 1)<&>((ae 2)<&>((eA (ae 0) rfl)<&>ah)))))),?_⟩;walk_at "wp";refine c5 G dx _ ⟨hg,T.cl_Ground,T.nP,_,jA p,rfl,bA (λhc=>?_) (λhc=>?_)⟩
  .have hp0:p=0:=by simpa using hc
   subst hp0;exact aM a b ⟨rfl,ha,hb,h0 rfl,λt H' s' ht=>q _ _ _ s' (aE.tup rfl ht) (Dd (h0 rfl))⟩
  .have hp0:¬ p=0:=by simpa using hc
   have hp1:jx p:=hp.resolve_left hp0;exact c5 G dx _ ⟨hg,T.cl_Ground,T.nP,_,jA p,a,b,p,rfl,hp1,ha,h1 hp0,λr H' s' r0 r1 hr=>q _ (r,1) H' s' (aE.of (x:=(r,1)) hp0) (GX hp1 (h1 hp0) r0 r1 hr)⟩
def spCmB:Sp:=λvs H Q _=>∃ a b:Int,vs=[.int a,.int b]/\0<a/\0<b/\Bt NB a/\Bt NB b/\∀ m H',aa H H'->0<m->a ∣ m->b ∣ m->m<=a*b->Q (.int m) H'
theorem pB (F:bc K "common_multiple" "common_multiple" AH f fd)(T:bp K mg C G S)(hpt:P.given.tree=none)(Yad:az P w K mg base "common_divisor" 4 qd):ax P w K mg base aW 5 f fd ["one","other"] spCmB:=by
 have nd:=E9.nd;refine F.ok E9 (λvs H Q E h=>?_) (λcdv A outer s H vs Q E hr h=>?_)
 .refine cE h λa b e918 _=>?_;clear h;obtain rfl:=e918;rfl
 .refine iE h λa b e919 ha hb ta tb q=>?_;clear h;obtain rfl:=e919;refine⟨_,(~~~(dW<|>((jb hpt (jc hr))<|>(ae 0)<&&>(Yad<$>hr<$>((ae 0)<&>((ae 1)<&>ah))))<&&>(ae 1))),?_⟩;walk_at "wp";have g0:=qv (a:=a) hb;have e1:a / (Int.gcd a b:Int)*(Int.gcd a b:Int)=a:=mN (iS ..);obtain⟨k,hk⟩:(Int.gcd a b:Int) ∣ b:=jG ..;have dpos:0<a / (Int.gcd a b:Int):=by
   rcases Ba 0 (a / (Int.gcd a b:Int)) with h|h|h
   .exact h
   .rw [<- h,Int.zero_mul] at e1;omega
   .have:=Int.mul_neg_of_neg_of_pos h g0;omega
  have bd:Bt NB (a / (Int.gcd a b:Int)):=ta.quo (iS ..);have dle:(a / (Int.gcd a b:Int)).natAbs<=a.natAbs:=EH a g0 (iS ..);refine aM a b ⟨rfl,ta,tb,λH' s'=>⟨_,rfl,∅,?_⟩⟩;rw[jV g0];refine⟨bd.ok tb ⇑0,q _ _ s' (j6 dpos hb) ⟨k,?_⟩ ⟨_,r8 ..⟩ (Br ∅ (oz83 hb))⟩;generalize (Int.gcd a b:Int)=g at *;generalize a / g=d at *;rw[hk,<- e1,Int.mul_assoc]
abbrev HB:Nat:=33500000
def bO (H:Hp)(a:Addr)(zs:List Int):Prop:=H a=some (.lst (zs.map V.int))
theorem bO.same {H H':Hp}{a:Addr}{zs:List Int}(h:bO H a zs)(s:aa H H'):bO H' a zs:=s _ _ h
theorem bO.put {H:Hp}{D:Addr}{o:HO}{a:Addr}{zs:List Int}(h:bO H a zs)(n:a≠D):bO (ao H D o) a zs:=by unfold bO;rw[aJ n];exact h
theorem DS {a b D:Addr}{xs ys:List V}{fr:List (Str×Nat)}{σ:L2.St}{te:TE}{H1:Hp}{Q:VK}(R:Nat->Hp->V->Prop)(hS:∀ {i H H' y},R i H y->aa H H'->R i H' y)(hP:∀ {i H y l o},R i H y->H D=some (.lst l)->R i (ao H D o) y)(ha:H1 a=some (.lst xs))(hb:H1 b=some (.lst ys))(hlen:ys.length=xs.length)(hD:H1 D=none)(hn:xs.length<=1000)(h:∀ (i:Nat) x y H (Q:VK),xs[i]?=some x->ys[i]?=some y->aa H1 H->(∃ l,H D=some (.lst l))->(∀ u H',aa H H'->R i H' u->Q u H')->te (some x::some y::cH fr σ) H Q)(hQ:∀ zs H',aa H1 H'->H' D=some (.lst zs)->zs.length=xs.length->(∀ (i:Nat) y,zs[i]?=some y->R i H' y)->Q (.ref D) H'):eT (ju K 2 (iG (cg 0) (iG (cg 1) mi))) dr te (nY K a b) D (dG 2 fr σ) H1 Q:=by
 refine wC (xs:=xs) (ys:=ys) (λi vs H=>aa H1 H/\H D=some (.lst vs)/\vs.length=i/\∀ (j:Nat) y,vs[j]?=some y->R j H y) hlen ⟨aa.new hD,aw,rfl,λj y e=>by simp at e⟩ (λi vs H _ p=>⟨aj.of (p.1 _ _ ha),aj.of (p.1 _ _ hb)⟩) ?_ (λvs H ⟨s,e,hl,hr⟩=>hQ vs H s e hl hr);intro i x y p vs σ' H hi hx hy hp sh e91;refine cG e91 λs e hl hr=>?_;clear e91;refine i9 sh.two λz1 z2 e96=>?_;obtain rfl:=e96;have s0:=aa.new (o:=.tup [x,y]) hp;refine aM p _ ⟨rfl,aB.of aw,rfl,_,_,rfl,_,_,rfl,rfl,?_⟩;simp only[dr,List.set_cons_zero,List.set_cons_succ,eZ];refine h i x y _ _ hx hy (s.trans s0) ⟨_,s0 _ _ e⟩ λu H' s' ru=>?_;have s1:=s0.trans s';refine fL (ws:=vs++[u]) hi Sh.mk2 (s1 _ _ e) (cS (tJ hn hi hl)) ⟨(s.trans s1).upd hD,aw,by rw[bw,hl];rfl,λj v hv=>?_⟩;by_cases hj:j<vs.length
 .rw [eE hj] at hv;exact hP (hS (hr j v hv) s1) (s1 _ _ e)
 .rw [d_ (c8 hj)] at hv;have hj0:j-vs.length=0:=by
   by_cases z:j-vs.length=0
   .exact z
   .rw [cZ (by simp;exact oz11 z)] at hv;cases hv
  rw[hj0] at hv;cases hv;rw[show j=i by exact oz3 hl hj hj0];exact hP ru (s1 _ _ e)
theorem Gc {H:Hp}{p:Int}{vs:List V}{xs:List Nv}(hp:p≠0)(h:ay (aE H p) vs xs):vs=(xs.map λx=>x.1).map V.int:=by
 apply xE;intro i;have hl:=h.1;by_cases hi:i<vs.length
 .have e2:xs[i]?=some (xs[i]'(by omega)):=aF _;have:=(h.2 i _ _ (aF hi) e2).int hp;rw[aF hi,this,bH,bH,e2];rfl
 .rw [cZ (c8 hi),cZ (by simp;omega)]
structure wY (p:Int)(xs:List Nv)(zs:List Int)(b:Int):Prop where
 len:zs.length=xs.length
 pos:0<b
 one:p≠0->b=1
 eq:∀ i,zs.getD i 0*(xs.getD i (0,1)).2=(xs.getD i (0,1)).1*b
def cN (p:Int)(k:Nat)(xs:List Nv):Prop:=∀ x∈xs,aZ p x/\Bt k x.1/\Bt k x.2
def spWrZ (G:Addr):Sp:=λvs H Q _=>∃ (g a:Addr) (p:Int) (xs:List Nv) (k:Nat),vs=[.ref g,.ref a]/\di G H g p/\af p/\bf H p a xs/\xs.length<=900/\cN p k xs/\1<=k/\(xs.length+1)*k<=NB /\
 ∀ (t l:Addr) (zs:List Int) (b:Int) H',aa H H'->H l=none->H' t=some (.tup [.ref l,.int b])->bO H' l zs->wY p xs zs b->aK ((xs.length+1)*k) zs->Bt ((xs.length+1)*k) b->Q (.ref t) H'
theorem oZ (F:bc K "whole_row" "whole_row" Ae f fd)(T:bp K mg C G S)(hpt:P.given.tree=none)(Yaz:az P w K mg base "common_multiple" 5 spCmB):ax P w K mg base aW 6 f fd ["ground","row"] (spWrZ G):=by
 have nd:=EG.nd;refine F.ok EG (λvs H Q E h=>?_) (λcdv A outer s H vs Q E hr h=>?_)
 .refine vH h λg a p xs k e97 _=>?_;clear h;obtain rfl:=e97;rfl
 .refine g9 h λg a p xs k e98 e99 hp e910=>?_;clear h;obtain rfl:=e98;obtain⟨dx,hg⟩:=e99;refine gk e910 λe911 xl gd k1 kb q=>?_;clear e910;obtain⟨vs,hv,al⟩:=e911;have vl:=al.1;refine⟨_,((@bI _ _ _ _ _ _ _ _ (bW gj (eA (ae 0) rfl) aq (aU _)) (~~~(@cb _ _ _ _ _ ((jv rP rfl T.n_list iP ((ae 1)<&>ah))<&>(aq<&>ah)))) bJ)<*>((hV (i:=2) nd rfl (Or.inr rfl) aq)<*>((dw cW rfl (eM (pv 1)) (3>>>nd) (@bE _ _ _ (hV (i:=2) nd rfl (Or.inr rfl) (Yaz<$>hr<$>((ae 2)<&>(((cX bC)<|>(ae 3)<||>aq)<&>ah))))))<*>(~~~(@cb _ _ _ _ _ ((eL (own:=["number"]) (fr:=[("bottom",2)]) rfl (c4 (by kernel_rfl)) (eM (pv 1)) (λ_ _ _ _=>⟨(0<<<["number","bottom"]),dz,(dW<|>((nH K rfl)<|>(pv 0)<||>aq)<&&>((jb hpt (jc hr))<|>(pv 1)<&&>((nH K rfl)<|>(pv 0)<||>aq)))⟩))<&>((ae 2)<&>ah))))))),?_⟩;walk_at "wp";refine c5 G dx _ ⟨hg,T.cl_Ground,T.nP,_,jA p,rfl,bA (λhc=>?_) (λhc=>?_)⟩
  .have hp0:¬ p=0:=by simpa using hc
   refine⟨_,.inl (aj.of hv),λl hl=>⟨⇑0,λt ht=>?_⟩⟩;have s1:=aa.new (o:=.lst vs) hl;have s2:=aa.new (o:=.tup [V.ref l,V.int 1]) ht;have ev:=Gc hp0 al;refine q t l (xs.map λx=>x.1) 1 _ (s1.trans s2) hl aw (by show ao (ao H l (.lst vs)) t _ l=_;rw[s2 _ _ aw,ev]) ⟨by rw[aA],⇑0,λ_=>rfl,λi=>?_⟩ (λz hz=>?_) (by
    show (1:Int).natAbs<2 ^ _;exact Nat.one_lt_two_pow (by rw[iR];omega))
   .rw [aT,aT,bH];cases e:xs[i]? with
    | none=>rfl
    | some x=>
     rcases (gd _ (aY e)).1 with ⟨h,_⟩|⟨_,_,_,h⟩
     .exact absurd h hp0
     .show x.1*x.2=x.1*1;rw[h]
   .refine ar (cw.mp hz) λx hx e912=>?_;obtain rfl:=e912;refine (gd x hx).2.1.le ?_;rw[iR];omega
  .have hp0:p=0:=by simpa using hc
   refine⟨_,rfl,a,rfl,⟨_,aj.of hv⟩,qt (xs:=vs) (λi σ H2=>∃ (v3:Option V) (b:Int),σ=[some (.ref g),some (.ref a),some (.int b),v3]/\aa H H2/\0<b/\b.natAbs<=2 ^ (i*k)/\∀ j,j<i->(xs.getD j (0,1)).2 ∣ b)
    ⟨none,1,rfl,aa.refl _,⇑0,by simp,λj hj=>∅⟩ (λi σ H2 _ ⟨_,_,_,e,_⟩=>aj.of (e _ _ hv)) ?_ ?_⟩
   .intro i x σ H2 hi e92;refine nB e92 λv3 b e913 s2 b0 bB dv=>?_;clear e92;obtain rfl:=e913;refine ar (al.at' hi) λy ey hy=>?_;refine ar (hy.ref hp0) λty e914 hty=>?_;obtain rfl:=e914;refine bQ (gd y (aY ey)) λiy by1 by2=>?_;have hil:i<vs.length:=(cj.mp hi).1;have kik:i*k+k<=(xs.length+1)*k:=by
     rw[show i*k+k=(i+1)*k by rw[iR,mJ]];exact e_ ∅ (aI _)
    have bT:Bt NB b:=iW bB (uY ⇑0 ∅);have yT:Bt NB y.2:=by2.le ∅;walk_at "wp";refine⟨_,aB.of (s2 _ _ hty),_,rfl,b,y.2,rfl,b0,iy.pos,bT,yT,λm H3 s3 m0 d1 d2 ml=>⟨_,m,⟨rfl,rfl⟩,s2.trans s3,m0,?_,λj hj=>?_⟩⟩
    .have h1:(b*y.2).natAbs<=2 ^ (i*k)*2 ^ k:=rR bB (jg by2);rw[iR,mJ,rY];exact oz57 m0 ml h1
    .by_cases h:j=i
     .subst h;rw[de ey];exact d2
     .exact Int.dvd_trans (dv j (oz25 hj h)) d1
   .intro σ H2 e93;refine nB e93 λv3 b e915 s2 b0 bB dv=>?_;clear e93;obtain rfl:=e915;rw[vl] at bB dv;walk_at "wp";refine⟨_,rfl,a,rfl,⟨_,aj.of (s2 _ _ hv)⟩,λD hD=>zE (λi=>(xs.getD i (0,1)).1*(b / (xs.getD i (0,1)).2)) (s2 _ _ hv) hD ∅ (λi x H' Q' hx s' q'=>?_) λH1 s1 e1=>?_⟩
    .refine ar (al.at' hx) λy ey hy=>?_;refine ar (hy.ref hp0) λty e916 hty=>?_;obtain rfl:=e916;refine bQ (gd y (aY ey)) λiy by1 by2=>?_;have hil:i<vs.length:=(cj.mp hx).1;have d2:=dv i (b_ vl hil);have q2:=q' H' (aa.refl _);rw[de ey] at d2 q2;have hty':=(s2.trans s') _ _ hty;have bT:Bt NB b:=iW bB (uY ⇑0 (by rw[iR] at kb;omega));have fe:=jV (i:=b) iy.pos;refine⟨_,rfl,ty,_,_,_,rfl,rfl,aB.of hty',rfl,_,rfl,_,rfl,ty,_,_,_,rfl,rfl,aB.of hty',rfl,_,_,rfl,rfl,(by have:=iy.pos;omega),_,_,rfl,rfl,?_,?_⟩
     .rw [fe];exact (by1.le (m:=NB) (by rw[iR] at kb;omega)).ok (bT.quo d2) ⇑0
     .rw [fe];exact q2
    .rw [vl] at e1;refine⟨⇑0,λt ht=>?_⟩;have s3:=aa.new (o:=.tup [V.ref D,V.int b]) ht;refine q t D ((List.range xs.length).map λi=>(xs.getD i (0,1)).1*(b / (xs.getD i (0,1)).2)) b _ ((s2.trans s1).trans s3) (s2.free hD) aw (s3 _ _ e1) ⟨by rw[aA,ef],b0,λh=>absurd hp0 h,λi=>?_⟩ (λz hz=>?_) (iW bB (uY ⇑0 (by rw[iR];omega)))
     .rw [aT,bH];by_cases hi:i<xs.length
      .have e:xs[i]?=some xs[i]:=aF hi;have d2:=dv i hi;rw[j9 hi];show (xs.getD i (0,1)).1*(b / (xs.getD i (0,1)).2)*(xs.getD i (0,1)).2=_;rw[Int.mul_assoc,mN d2]
      .rw [cZ (by simp;exact c8 hi),aT,cZ (c8 hi)];simp
     .refine ar (cw.mp hz) λi hi e917=>?_;obtain rfl:=e917;have hi:=eC.mp hi;have e:xs[i]?=some xs[i]:=aF hi;have d2:=dv i hi;rw[de e] at d2 ⊢;refine bQ (gd _ (eO hi)) λiy by1 by2=>?_;have h1:(b / xs[i].2).natAbs<=b.natAbs:=EH b iy.pos d2;have h2:=rR (aI xs[i].1.natAbs) (cx h1 bB);show (xs[i].1*(b / xs[i].2)).natAbs<2 ^ ((xs.length+1)*k);rw[iR,mJ,rY,r9];exact iW h2 (Nat.mul_lt_mul_of_pos_right by1 (mK _))
theorem jS {zs:List Int}{i:Nat}{x:V}(h:(zs.map V.int)[i]?=some x):∃ z,zs[i]?=some z/\x=.int z:=by
 rw[bH] at h;cases e:zs[i]? with
 | none=>rw[e] at h;cases h
 | some z=>rw[e] at h;cases h;exact⟨z,rfl,rfl⟩
theorem zm {zs:List Int}(f:Int->Int):(List.range zs.length).map (λi=>f (zs.getD i 0))=zs.map f:=by
 apply xE;intro i;rw[bH,bH];by_cases hi:i<zs.length
 .rw [j9 hi,aF hi];show some (f (zs.getD i 0))=some (f zs[i]);rw[de (aF hi)]
 .rw [cZ (by simp;exact c8 hi),cZ (c8 hi)];rfl
def vW (G:Addr):Sp:=λvs H Q _=>∃ (g a:Addr) (p:Int) (zs:List Int),vs=[.ref g,.ref a]/\di G H g p/\af p/\bO H a zs/\zs.length<=900/\(p=0->aK NB zs) /\
 ∀ (a':Addr) H',aa H H'->bO H' a' (dt p zs)->(a'=a\/H a'=none)->Q (.ref a') H'
theorem kT (F:bc K "tidied" "tidied" zc f fd)(T:bp K mg C G S)(hpt:P.given.tree=none)(Yad:az P w K mg base "common_divisor" 4 qd):ax P w K mg base aW 5 f fd ["ground","row"] (vW G):=by
 have nd:=DJ.nd;refine F.ok DJ (λvs H Q E h=>?_) (λcdv A outer s H vs Q E hr h=>?_)
 .refine qf h λg a p zs e918 _=>?_;clear h;obtain rfl:=e918;rfl
 .refine d6 h λg a p zs e919 e920 hp e921=>?_;clear h;obtain rfl:=e919;obtain⟨dx,hg⟩:=e920;refine cG e921 λrz zl sm q=>?_;clear e921;refine⟨_,((@bI _ _ _ _ _ _ _ _ (bW gj (eA (ae 0) rfl) aq (aU _)) (~~~(eL (own:=["number"]) (fr:=[("ground",0)]) rfl (c4 (by kernel_rfl)) (eM (pv 1)) (λ_ _ _ _=>⟨(0<<<["number","ground"]),dz,(fE<|>(pv 0)<&&>(kN K rfl (pv 1) rfl))⟩))) bJ)<*>((hV (i:=2) nd rfl (Or.inr rfl) aq)<*>((dw cW rfl (eM (pv 1)) (3>>>nd) ((hV (i:=2) nd rfl (Or.inr rfl) (Yad<$>hr<$>((ae 3)<&>((ae 2)<&>ah))))<*>(@bE _ _ _ (@bI _ _ _ _ _ _ _ _ (bW c9 (ae 2) aq (aU _)) (~~~(ae 1)) bJ))))<*>((@bI _ _ _ _ _ _ _ _ (bW c9 (ae 2) aq (aU _)) (~~~(ae 1)) bJ)<*>(~~~(eL (own:=["number"]) (fr:=[("divisor",2)]) rfl (c4 (by kernel_rfl)) (eM (pv 1)) (λ_ _ _ _=>⟨(0<<<["number","divisor"]),dz,((jb hpt (jc hr))<|>(pv 0)<&&>(pv 1))⟩))))))),?_⟩;walk_at "wp";refine c5 G dx _ ⟨hg,T.cl_Ground,T.nP,_,jA p,rfl,bA (λhc=>?_) (λhc=>?_)⟩
  .have hp0:¬ p=0:=by simpa using hc
   have p0:=hp.lo;refine⟨_,rfl,a,rfl,⟨_,aj.of rz⟩,λD hD=>zE (λi=>zs.getD i 0 % p) rz hD (by rw[aA];exact oz88 zl) (λi x H' Q' hx s' q'=>?_) λH1 s1 e1=>?_⟩
   .refine ar (jS hx) λz ez e922=>?_;obtain rfl:=e922;have q2:=q' H' (aa.refl _);rw[de ez] at q2;simp only[cH];walk_at "wp";exact⟨_,rfl,_,rfl,G,dx,_,s' _ _ hg,T.cl_Ground,T.nP,_,jA p,_,rfl,∅,q2⟩
   .rw [aA,zm (· % p)] at e1;refine q D H1 s1 ?_ (.inr hD);unfold dt;rw[if_neg hp0];exact e1
  .have hp0:p=0:=by simpa using hc
   have sm:=sm hp0;refine⟨_,rfl,a,rfl,⟨_,aj.of rz⟩,qt (xs:=zs.map V.int) (λi σ H2=>∃ (v3:Option V),σ=[some (.ref g),some (.ref a),some (.int (gcdL (zs.take i):Nat)),v3]/\aa H H2/\Bt NB (gcdL (zs.take i):Nat))
    ⟨none,rfl,aa.refl _,B2 _⟩ (λi σ H2 _ ⟨_,_,e,_⟩=>aj.of (e _ _ rz)) ?_ ?_⟩
   .intro i x σ H2 hi e94;refine aQ e94 λv3 e923 s2 bg=>?_;clear e94;obtain rfl:=e923;refine ar (jS hi) λz ez e924=>?_;obtain rfl:=e924;walk_at "wp";have eg:=GQ ez;have bz:=sm z (aY ez);refine aM z _ ⟨rfl,bz,bg,λH3 s3=>?_⟩;rw[<- eg];refine⟨rfl,bA (λhc=>?_) (λhc=>?_)⟩
    .have hc:(gcdL (zs.take (i+1)):Int)=1:=by simpa using hc
     have h1:gcdL zs=1:=Nat.dvd_one.mp (by have:=GR zs (i+1);rwa [show gcdL (zs.take (i+1))=1 by omega] at this);refine q a H3 (s2.trans s3) ?_ (.inl rfl);subst hp0;rw[GI h1];exact rz.same (s2.trans s3)
    .refine ⟨_,⟨rfl,rfl⟩,s2.trans s3,?_⟩;rw[eg];by_cases z0:z=0
     .subst z0;refine bg.abs_le ?_;simp[Int.gcd]
     .refine bz.abs_le ?_;have:=Int.gcd_le_natAbs_left (gcdL (zs.take i):Int) z0;omega
   .intro σ H2 e95;refine aQ e95 λv3 e925 s2 bg=>?_;clear e95;obtain rfl:=e925;rw[aA,uU] at *;walk_at "wp";refine bA (λhc=>?_) (λhc=>?_)
    .have hc:(gcdL zs:Int)=0:=by simpa using hc
     refine q a H2 s2 ?_ (.inl rfl);subst hp0;rw[Af ∅];exact rz.same s2
    .have hc:¬ (gcdL zs:Int)=0:=by simpa using hc
     refine⟨_,rfl,a,rfl,⟨_,aj.of (s2 _ _ rz)⟩,λD hD=>zE (λi=>zs.getD i 0 / (gcdL zs:Int)) (s2 _ _ rz) hD (by rw[aA];exact oz88 zl) (λi x H' Q' hx s' q'=>?_) λH1 s1 e1=>?_⟩
     .refine ar (jS hx) λz ez e926=>?_;obtain rfl:=e926;have q2:=q' H' (aa.refl _);rw[de ez,<- jV ∅] at q2;exact⟨_,rfl,_,rfl,z,_,rfl,rfl,hc,q2⟩
     .rw [aA,zm (· / (gcdL zs:Int))] at e1;refine q D H1 (s2.trans s1) ?_ (.inr (s2.free hD));unfold dt;rw[if_pos hp0];exact e1
def yG (G:Addr):Sp:=λvs H Q _=>∃ (g a l:Addr) (p:Int) (row lead:List Int) (k:Nat),vs=[.ref g,.ref a,.ref l,.int k]/\di G H g p/\af p/\bO H a row/\bO H l lead/\row.length=lead.length/\row.length<=900/\k<row.length/\lead.getD k 0≠0/\aK HB row/\aK HB lead /\
 ∀ (a':Addr) H',aa H H'->bO H' a' (c_ p row lead k)->(a'=a\/H a'=none)->Q (.ref a') H'
theorem FI (F:bc K "cleared" "cleared" zo f fd)(T:bp K mg C G S)(hpt:P.given.tree=none)(Yad:az P w K mg base "common_divisor" 4 qd)(Yao:az P w K mg base "tidied" 5 (vW G)):ax P w K mg base aW 6 f fd ["ground","row","lead","place"] (yG G):=by
 have nd:=D8.nd;refine F.ok D8 (λvs H Q E h=>?_) (λcdv A outer s H vs Q E hr h=>?_)
 .refine tQ h λg a l p row lead k e927 _=>?_;clear h;obtain rfl:=e927;rfl
 .refine qV h λg a l p row lead k e928 hg hp e929=>?_;clear h;obtain rfl:=e928;refine sG e929 λra rl hl wl kl k0 s1 s2 q=>?_;clear e929;refine⟨_,((@bI _ _ _ _ _ _ _ _ (bW c9 ((ixJ aV)<|>(ae 1)<||>(ae 3)) aq (aU _)) (~~~(ae 1)) bJ)<*>((4|||nd|||(Yad<$>hr<$>(((ixJ aV)<|>(ae 1)<||>(ae 3))<&>(((ixJ aV)<|>(ae 2)<||>(ae 3))<&>ah))))<*>((hV (i:=5) nd rfl (Or.inr rfl) ((jb hpt (jc hr))<|>((ixJ aV)<|>(ae 2)<||>(ae 3))<&&>(ae 4)))<*>((hV (i:=6) nd rfl (Or.inr rfl) ((jb hpt (jc hr))<|>((ixJ aV)<|>(ae 1)<||>(ae 3))<&&>(ae 4)))<*>(~~~(Yao<$>hr<$>((ae 0)<&>((eL (own:=["number","other"]) (fr:=[("keep",5),("take",6)]) rfl (c4 (by kernel_rfl)) (qi rfl T.n_zip ((pv 1)<&>((pv 2)<&>ah))) (λ_ _ _ _=>⟨(@mx _ K rfl _ _ _ _ 2 rfl ((0<<<["number","other","keep","take"])^^^((1<<<["number","other","keep","take"])^^^(@cT _))) ⇑1 ⇑1),dz,(fQ<|>(dW<|>(pv 2)<&&>(pv 0))<&&>(dW<|>(pv 3)<&&>(pv 1)))⟩))<&>ah)))))))),?_⟩;walk_at "wp";have at_:∀ {zs:List Int},k<zs.length->atI (zs.map V.int) (k:Int)=some (.int (zs.getD k 0)):=λ{zs} h=>by
   refine dH i4 ?_;rw[d5,bH,aF h,dk h];rfl
  refine⟨_,aj.of ra,_,at_ kl,rfl,bA (λhc=>?_) (λhc=>?_)⟩
  .have hc:row.getD k 0=0:=by simpa using hc
   refine q a H (aa.refl _) ?_ (.inl rfl);unfold c_;rw[if_pos hc];exact ra
  .have hc:¬ row.getD k 0=0:=by simpa using hc
   have cz:c_ p row lead k=dt p (eX row lead k):=by unfold c_;rw[if_neg hc]
   refine⟨_,aj.of ra,_,at_ kl,_,aj.of rl,_,at_ (b_ hl kl),_,_,rfl,(s1.at k).le ⇑0,(s2.at k).le ⇑0,λH1 t1=>?_⟩;have g0:(0:Int)<(Int.gcd (row.getD k 0) (lead.getD k 0):Int):=by have:=Bi (row.getD k 0) k0;omega
   refine⟨_,aj.of (t1 _ _ rl),_,at_ (b_ hl kl),_,rfl,_,rfl,∅,_,aj.of (t1 _ _ ra),_,at_ kl,_,rfl,_,rfl,∅,?_⟩;rw[jV g0,jV g0];have bl:=(s2.at k).quo (jG (row.getD k 0) (lead.getD k 0));have br:=(s1.at k).quo (iS (row.getD k 0) (lead.getD k 0));have rlen:(eX row lead k).length=row.length:=by unfold eX;rw[ve];exact oz138 hl
   refine⟨_,rfl,_,rfl,a,l,rfl,⟨_,aj.of (t1 _ _ ra)⟩,⟨_,aj.of (t1 _ _ rl)⟩,λD hD=>DS (λi _ y=>y=.int ((eX row lead k).getD i 0)) (λr _=>r) (λr _=>r) (t1 _ _ ra) (t1 _ _ rl) (by rw[aA,aA];exact oz34 hl) hD (by rw[aA];exact oz88 wl) (λi x y H' Q' hx hy s' _ q'=>?_) λys H2 t2 e2 hyl hys=>?_⟩
   .refine ar (jS hx) λz ez e930=>?_;obtain rfl:=e930;refine ar (jS hy) λu eu e931=>?_;obtain rfl:=e931;simp only[cH];walk_at "wp";refine⟨_,rfl,_,rfl,bl.ok (s1 z (aY ez)) ⇑0,_,rfl,_,rfl,br.ok (s2 u (aY eu)) ⇑0,q' _ H' (aa.refl _) ?_⟩;rw[vU hl,de ez,de eu]
   .rw [aA] at hyl;have e3:ys=(eX row lead k).map V.int:=by
     have e4:=zm (zs:=eX row lead k) id;rw[List.map_id] at e4;rw[ui hyl hys,<- rlen];exact ig (List.map V.int) e4
    rw[e3] at e2;have sr:aK NB (eX row lead k):=(Hf s1 s2).le ⇑0;have t12:=t1.trans t2;refine i_ g D p (eX row lead k) ⟨rfl,hg.same t12,hp,e2,oz91 wl rlen,λ_=>sr,λa' H3 t3 r3 fr=>q a' H3 (t12.trans t3) (by rw[cz];exact r3) ?_⟩;rcases fr with rfl|fr
    .exact .inr (t1.free hD)
    .exact .inr (t12.free fr)
end
end Pf
namespace Pf
open PySem L2 L3 PyProof.Rows
section
variable {G PL cL:Addr}
abbrev ma:HO:=(HO.tab 161 26 ("leading_row.<locals>." ++ "<lambda>"))
def nzs (Z:List (List Int))(k n:Nat):List Nat:=(List.range n).filter λj=>decide ((Z.getD j []).getD k 0≠0)
theorem yX {Z:List (List Int)}{k n j:Nat}:j∈nzs Z k n ↔ j<n/\(Z.getD j []).getD k 0≠0:=by
 unfold nzs;rw[sj,eC,Bc]
theorem FG {Z:List (List Int)}{k n:Nat}:nzs Z k (n+1)=nzs Z k n++(if (Z.getD n []).getD k 0≠0 then [n] else []):=by
 unfold nzs;rw[jh,List.filter_append];congr 1;by_cases h:(Z.getD n []).getD k 0≠0
 .rw [if_pos h,List.filter_cons,if_pos (by simpa using h)];rfl
 .rw [if_neg h,List.filter_cons,if_neg (by simpa using h)];rfl
def spLr (PL:Addr):L2.Sp:=λvs H Q _=>∃ (L:Addr) (as:List Addr) (Z:List (List Int)) (k:Nat),vs=[.ref L,.int k]/\H L=some (.lst (as.map V.ref))/\ay (bO H) as Z/\(∀ row∈Z,k<row.length)/\Z.length<=900/\H PL=some ma /\
 (∀ H',aa H H'->(∀ row∈Z,row.getD k 0=0)->Q .non H')/\(∀ (i:Nat) row H',aa H H'->Z[i]?=some row->row.getD k 0≠0->Q (.int i) H')
theorem sX (F:iZ K "leading_row" "leading_row" qz f fd cL)(T:bp K mg C G S)(hcb:PySem.W.CodeHd base cL PL):ax P w K mg base aW 1 f fd ["rows","place"] (spLr PL):=by
 have nd:=EW.nd;refine F.ok EW (λvs H Q E h=>?_) (λA outer s H vs Q E hr h=>?_)
 .refine qf h λL as Z k e92 _=>?_;clear h;obtain rfl:=e92;rfl
 .refine d6 h λL as Z k e93 hL al e94=>?_;clear h;obtain rfl:=e93;refine cY e94 λwd zl hP q0 q1=>?_;clear e94;have hdep:(A.deeper (envOfC "leading_row" (aR qz) s.heap.objs.size f (.ref cL))).depth<recursionLimit:=by have:=hr.dp;omega
  refine⟨_,((my (i:=2) (own:=["at","row"]) (fr:=[("place",1)]) rfl (c4 (by kernel_rfl)) (rf rfl T.n_enumerate ((pv 0)<&>ah)) (λ_ _ _ _=>⟨(@mx _ K rfl _ _ _ _ 2 rfl ((0<<<["at","row","place"])^^^((1<<<["at","row","place"])^^^(@cT _))) ⇑1 ⇑1),(wj (fV gj ((ja K rfl)<|>(pv 1)<||>(pv 2)) aq (aU _))),(pv 0)⟩) nd rfl rfl rfl)<*>(~~~(kK (x:="at") (fr:=[("rows",0),("place",1)]) rfl hdep rfl T.n_min (pM (by kernel_rfl)) rfl hcb rfl (λ_ _ _ _ _=>rfl) (ae 2) (λ_ _ _ _ _=>(bS nJ rfl T.n_abs nO (((ja K rfl)<|>((ja K rfl)<|>(pv 1)<||>(pv 0))<||>(pv 2))<&>ah)))))),?_⟩;refine bD λX hX=>?_;walk_at "wp";have zal:=al.1;have aft:∀ (D:Addr) (H1:Hp),aa H H1->H1 D=some (.lst ((nzs Z k as.length).map λ(j:Nat)=>V.int j))->X { nx:=λx H'=>Q V.non H',rt:=Q } [some (.ref L),some (.int k),some (.ref D)] H1:=by
   intro D H1 t1 hD;subst hX;walk_at "wp";refine⟨_,aj.of hD,t1 _ _ hP,λi=>((((Z.getD ((nzs Z k as.length).getD i 0) []).getD k 0).natAbs:Nat):Int),λi v H2 hi t2=>?_,λe H2 t2=>?_,λi v H2 _ hi t2=>?_⟩
   .rw [bH] at hi;cases e:(nzs Z k as.length)[i]? with
    | none=>rw[e] at hi;cases hi
    | some j=>
     rw[e] at hi;cases hi;obtain⟨h1,h2⟩:=yX.mp (aY e);have ea:as[j]?=some as[j]:=aF h1;refine ar (al.at' ea) λrow er ha=>?_;have kr:=wd row (aY er);have t12:=t1.trans t2;have ew:(nzs Z k as.length).getD i 0=j:=by rw[aT,e];rfl
     have ez:Z.getD j []=row:=by rw[aT,er];rfl
     refine⟨_,rfl,L,rfl,_,_,rfl,aj.of (t12 _ _ hL),_,dH i4 (by rw[d5,bH,ea];rfl),_,rfl,as[j],rfl,_,_,rfl,aj.of (t12 _ _ ha),_,dH i4 (by rw[d5,bH,aF kr];rfl),row[k],rfl,?_,aa.refl _⟩;show _=((((Z.getD ((nzs Z k as.length).getD i 0) []).getD k 0).natAbs:Nat):Int);rw[ew,ez,dk kr];split <;> omega
   .have e0:nzs Z k as.length=[]:=List.map_eq_nil_iff.mp e;refine q0 H2 (t1.trans t2) λrow hr=>?_;refine ar (jz hr []) λj hj e95=>?_;obtain rfl:=e95;apply jF;intro z;have:j∈nzs Z k as.length:=yX.mpr ⟨cM zal hj,z⟩;rw[e0] at this;simp at this
   .rw [bH] at hi;cases e:(nzs Z k as.length)[i]? with
    | none=>rw[e] at hi;cases hi
    | some j=>
     rw[e] at hi;cases hi;obtain⟨h1,h2⟩:=yX.mp (aY e);exact q1 j (Z.getD j []) H2 (t1.trans t2) (by rw[dk (b_ zal h1)];exact aF _) h2
  refine⟨_,rfl,L,rfl,⟨_,aj.of hL⟩,λD hD=>FM (xs:=as.map V.ref) (λi vs H2=>aa H H2/\H2 D=some (.lst vs)/\vs=(nzs Z k i).map λ(j:Nat)=>V.int j) ⟨aa.new hD,aw,rfl⟩ (λi vs H2 _ p=>aj.of (p.1 _ _ hL)) ?_ λvs H2 ⟨t2,e2,e3⟩=>?_⟩
  .intro i x q' vs σ' H2 hi hx hq sh e91;refine bQ e91 λt2 e2 e3=>?_;clear e91;refine i9 sh.two λz1 z2 e96=>?_;obtain rfl:=e96;have s0:=aa.new (o:=.tup [.int i,x]) hq;rw[bH] at hx;cases ea:as[i]? with
   | none=>rw[ea] at hx;cases hx
   | some a=>
    rw[ea] at hx;cases hx;refine ar (al.at' ea) λrow er ha=>?_;have kr:=wd row (aY er);have ez:Z.getD i []=row:=by rw[aT,er];rfl
    have hln:vs.length<=900:=by
     rw[e3,aA];refine cx (List.length_filter_le _ _) ?_;rw[ef];rw[aA] at hi;omega
    simp only[fP];refine aM q' _ ⟨rfl,aB.of aw,rfl,_,_,rfl,_,_,rfl,rfl,?_⟩;simp only[List.set_cons_zero,List.set_cons_succ,cH];walk_at "wp";refine⟨_,rfl,_,_,rfl,aj.of ((t2.trans s0) _ _ ha),_,dH i4 (by rw[d5,bH,aF kr];rfl),rfl,?_⟩;have nx:=FG (Z:=Z) (k:=k) (n:=i);rw[ez,dk kr] at nx;refine bA (λhc=>?_) (λhc=>?_)
    .have hc:row[k]≠0:=by simpa using hc
     rw[if_pos hc] at nx;refine fL (ws:=vs++[V.int i]) hi Sh.mk2 (s0 _ _ e2) (cS (oz88 hln)) ⟨(t2.trans s0).upd hD,aw,?_⟩;rw[e3,nx,dD];rfl
    .have hc:¬ row[k]≠0:=by simpa using hc
     rw[if_neg hc,nT] at nx;exact vt (ws:=vs) hi Sh.mk2 ⟨t2.trans s0,s0 _ _ e2,by rw[e3,nx]⟩
  .rw [aA] at e3;rw[e3] at e2;exact aft D H2 t2 e2
def tV (p:Int)(k:Nat)(zs:List Int)(xs:List Nv):Prop:=∃ ws b,wY p xs ws b/\aK ((xs.length+1)*k) ws/\zs=dt p ws
def qo (p:Int)(k:Nat)(Z:List (List Int))(M:Mv):Prop:=ay (tV p k) Z M
def yw (p:Int)(k wide:Nat)(M:Mv):Prop:=∀ Z,qo p k Z M->∀ j done left pl,j<=wide->Sw p Z j done left pl->∀ row∈done++left,aK HB row
structure nK (H:Hp)(p:Int)(k W:Nat)(L:Addr)(as:List Addr)(M:Mv):Prop where
 lst:H L=some (.lst (as.map V.ref))
 row:ay (bf H p) as M
 wd:∀ xs∈M,xs.length=W
 gd:∀ xs∈M,cN p k xs
 h900:M.length<=900
 w900:W<=900
 k1:1<=k
 kb:(W+1)*k<=NB
structure uJ (H H2:Hp)(dA lA pA:Addr)(ds ls:List Addr)(done left:List (List Int))(pl:List Nat):Prop where
 sm:aa H H2
 fd:H dA=none
 fl:H lA=none
 fp:H pA=none
 ne1:dA≠lA
 ne2:dA≠pA
 ne3:lA≠pA
 hd:H2 dA=some (.lst (ds.map V.ref))
 hl:H2 lA=some (.lst (ls.map V.ref))
 hp:H2 pA=some (.lst (pl.map λ(j:Nat)=>V.int j))
 rd:ay (bO H2) ds done
 rl:ay (bO H2) ls left
 nd:∀ a∈ds,H a=none/\a≠dA/\a≠lA/\a≠pA
 nl:∀ a∈ls,H a=none/\a≠dA/\a≠lA/\a≠pA
theorem uJ.same {H H2 H3:Hp}{dA lA pA:Addr}{ds ls:List Addr}{done left:List (List Int)}{pl:List Nat}(h:uJ H H2 dA lA pA ds ls done left pl)(s:aa H2 H3):uJ H H3 dA lA pA ds ls done left pl:=
 ⟨h.sm.trans s,h.fd,h.fl,h.fp,h.ne1,h.ne2,h.ne3,s _ _ h.hd,s _ _ h.hl,s _ _ h.hp,h.rd.mono λ_ _ k=>k.same s,h.rl.mono λ_ _ k=>k.same s,h.nd,h.nl⟩
theorem ay.eraseIdx {α β:Type}{P:α->β->Prop}{xs:List α}{ys:List β}(h:ay P xs ys)(n:Nat):ay P (xs.eraseIdx n) (ys.eraseIdx n):=by
 rw[xG,xG];exact (h.take n).app (h.drop (n+1))
theorem ay.of_get {α β:Type}{P:α->β->Prop}{xs:List α}{ys:List β}{d:β}(hl:xs.length=ys.length)(h:∀ (i:Nat) x,xs[i]?=some x->P x (ys.getD i d)):ay P xs ys:=⟨hl,λi x y e1 e2=>by
 have:=h i x e1;rwa [aT,e2] at this⟩
theorem zU {p:Int}{k W:Nat}{Z:List (List Int)}{M:Mv}(h0:0<=p)(h:qo p k Z M)(wd:∀ xs∈M,xs.length=W):∀ row∈Z,Rw p W row:=λrow hr=>by
 obtain⟨i,hi,e⟩:=d9.mp hr;refine ar (h.at' (i:=i) (x:=row) (by rw[aF hi,e])) λxs ex e93=>?_;obtain⟨ws,b,w1,_,rfl⟩:=e93;exact yC h0 (w1.len.trans (wd xs (aY ex)))
theorem tyL {H:Hp}{p:Addr}{xs:List V}(h:H p=some (.lst xs)):tyV K "list" (.ref p) H:=.inl ⟨rfl,_,aj.of h⟩
theorem seqIx {j n:Nat}(h:j<n):PySem.seqIndex? (j:Int) n=some j:=by
 unfold PySem.seqIndex?;simp only[show ¬ ((j:Int)<0) by omega,if_false];rw[if_pos (by simp;exact oz69 h)];rfl
theorem HR {α β:Type}(f:α->β)(xs:List α)(n:Nat):(xs.map f).eraseIdx n=(xs.eraseIdx n).map f:=by
 rw[xG,xG,dD,List.map_take,List.map_drop]
def yL (G PL:Addr):L2.Sp:=λvs H Q _=>∃ (g L:Addr) (p:Int) (as:List Addr) (M:Mv) (k W wide:Nat),vs=[.ref g,.ref L,.int wide]/\di G H g p/\af p/\nK H p k W L as M/\wide<=W/\H PL=some ma/\yw p k wide M /\
 ∀ (t F pA:Addr) (rs:List Addr) (Z done left:List (List Int)) (pl:List Nat) H',aa H H'->H' t=some (.tup [.ref F,.ref pA])->H F=none->H pA=none->F≠pA->H' pA=some (.lst (pl.map λ(j:Nat)=>V.int j))->H' F=some (.lst (rs.map V.ref))->ay (bO H') rs (done++left)->(∀ a∈rs,H a=none/\a≠F/\a≠pA)->
  qo p k Z M->Sw p Z wide done left pl->Q (.ref t) H'
theorem Gu (F:bc K "swept" "swept" yD f fd)(T:bp K mg C G S)(Yav:az P w K mg base "whole_row" 6 (spWrZ G))(Yao:az P w K mg base "tidied" 5 (vW G))(Ya4:az P w K mg base "cleared" 6 (yG G))(Ybc:az P w K mg base "leading_row" 1 (spLr PL)):ax P w K mg base aW 7 f fd ["ground","rows","wide"] (yL G PL):=by
 have nd:=Dj.nd;refine F.ok Dj (λvs H Q E h=>?_) (λcdv A outer s H vs Q E hr h=>?_)
 .refine mU h λg L p as M k W wide e94 _=>?_;clear h;obtain rfl:=e94;rfl
 .refine vJ h λg L p as M k W wide e95 hg hp e96=>?_;clear h;obtain rfl:=e95;refine cY e96 λR hw hPL sw q=>?_;clear e96;refine⟨_,((3|||nd|||(@cU _ _ _ _ ah))<*>((my (i:=4) (own:=["row"]) (fr:=[("ground",0)]) rfl (c4 (by kernel_rfl)) (eM (pv 1)) (λ_ _ _ _=>⟨(0<<<["row","ground"]),dz,(Yao<$>hr<$>((pv 1)<&>(((nH K rfl)<|>(Yav<$>hr<$>((pv 1)<&>((pv 0)<&>ah)))<||>aq)<&>ah)))⟩) nd rfl rfl rfl)<*>((5|||nd|||(@cU _ _ _ _ ah))<*>((dw cW rfl (fj rfl T.n_range ((pv 2)<&>ah)) (@qA _ _ 6 _ nd rfl (Or.inr rfl) (Or.inl rfl)) ((7|||nd|||(Ybc<$>hr<$>((ae 4)<&>((ae 6)<&>ah))))<*>(@bE _ _ _ (@bI _ _ _ _ _ _ _ _ (bW kR (ae 7) oM (aU _)) ((hV (i:=8) nd rfl (Or.inr rfl) (fN f_ PySem.F.slot_list_pop PySem.F.type_list_pop FE (ae 4) ((ae 7)<&>ah)))<*>((my (i:=4) (own:=["row"]) (fr:=[("ground",0),("lead",8),("place",6)]) rfl (c4 (by kernel_rfl)) (eM (pv 4)) (λ_ _ _ _=>⟨(0<<<["row","ground","lead","place"]),dz,(Ya4<$>hr<$>((pv 1)<&>((pv 0)<&>((pv 2)<&>((pv 3)<&>ah)))))⟩) nd rfl rfl rfl)<*>((gp (fN f_ gC gB (mtJ fW) (ae 3) ((ae 8)<&>ah)))<*>(@bE _ _ _ (gp (fN f_ gC gB (mtJ fW) (ae 5) ((ae 6)<&>ah))))))) bJ))))<*>(~~~(@cb _ _ _ _ _ ((vZ<|>(ae 3)<&&>(ae 4))<&>((ae 5)<&>ah)))))))),?_⟩;walk_at "wp";have p0:=hp.lo;have ml:=R.row.1;have h9:=R.h900;have w9:=R.w900;have k1:=R.k1;have kb:=R.kb;refine⟨⇑0,λdA hdA=>?_⟩;have s1:=aa.new (o:=.lst []) hdA;refine⟨_,rfl,L,rfl,⟨_,aj.of (s1 _ _ R.lst)⟩,λlA hlA=>rG (λi Hc y=>∃ (a:Addr) (zs:List Int),y=.ref a/\bO Hc a zs/\tV p k zs (M.getD i [])/\H a=none/\a≠dA/\a≠lA) (λ⟨a,zs,e,b,c⟩ s=>⟨a,zs,e,b.same s,c⟩) (λ⟨a,zs,e,b,c,d,e',f⟩ hD=>⟨a,zs,e,b.put f,c,d,e',f⟩) (s1 _ _ R.lst) hlA (by rw[aA];omega) (λi x H' Q' hx s' ⟨lD,hlD⟩ q'=>?_) (λys H1 s2 e2 hyl hys=>?_)⟩
  .refine ar ((zC R.row).at' hx) λrow er e97=>?_;obtain⟨a,rfl,rv⟩:=e97;have hrow:=aY er;have wr:=R.wd row hrow;have t1:=s1.trans s';refine⟨_,rfl,_,rfl,_,rfl,g,a,p,row,k,rfl,hg.same t1,hp,rv.same t1,oz91 w9 wr,R.gd row hrow,k1,by rw[wr];exact kb,λt l zs b H2 s3 fl ht rz wz sz _=>?_⟩;refine i_ t _ 0 _ ⟨rfl,rfl,aB.of ht,rfl,g,l,p,zs,rfl,hg.same (t1.trans s3),hp,rz,by rw[wz.len];exact oz91 w9 wr,λ_=>sz.le (by rw[wr];exact kb),λa' H3 s4 rz' fr=>?_⟩;have hn:H' a'=none:=by
    rcases fr with rfl|fr
    .exact fl
    .exact s3.free fr
   refine q' _ H3 (s3.trans s4) ⟨a',_,rfl,rz',⟨zs,b,?_,?_,rfl⟩,t1.free hn,λz=>?_,λz=>?_⟩
   .rw [de er];exact wz
   .rw [de er];exact sz
   .rw [z,s' _ _ aw] at hn;cases hn
   .rw [z,hlD] at hn;cases hn
  rw[aA] at hyl;obtain⟨ls,rfl,hls⟩:=wm (P:=λi a=>∃ zs,bO H1 a zs/\tV p k zs (M.getD i [])/\H a=none/\a≠dA/\a≠lA) λi y e=>let ⟨a,zs,h1,h2⟩:=hys i y e;⟨a,h1,zs,h2⟩;rw[aA] at hyl;obtain⟨Z,hZ⟩:=ay.pick (P:=λ(ai:Addr×Nat) zs=>bO H1 ai.1 zs/\tV p k zs (M.getD ai.2 [])/\H ai.1=none/\ai.1≠dA/\ai.1≠lA) (xs:=ls.zipIdx) λai hai=>by
   obtain⟨a,i⟩:=ai;have hi:=List.mk_mem_zipIdx_iff_getElem?.mp hai;exact hls i a hi
  have zlen:Z.length=ls.length:=by have:=hZ.1;rw[List.length_zipIdx] at this;exact oz34 this
  have zat:∀ (i:Nat) (a:Addr) (zs:List Int),ls[i]?=some a->Z[i]?=some zs->bO H1 a zs/\tV p k zs (M.getD i [])/\H a=none/\a≠dA/\a≠lA:=λi a zs e1 e2=>by
   have:=hZ.2 i (a,i) zs (by rw[List.getElem?_zipIdx,e1];simp) e2;exact this
  have IR:qo p k Z M:=⟨oz142 ml hyl zlen,λi zs xs e1 e2=>by
   have hi:i<ls.length:=by have:=(cj.mp e1).1;exact b_ zlen this
   have:=(zat i _ zs (aF hi) e1).2.1;rwa [de e2] at this⟩
  have rlZ:ay (bO H1) ls Z:=⟨oz34 zlen,λi a zs e1 e2=>(zat i a zs e1 e2).1⟩
  have nlZ:∀ a∈ls,H a=none/\a≠dA/\a≠lA:=λa ha=>by
   obtain⟨i,hi,rfl⟩:=d9.mp ha;exact (zat i _ _ (aF hi) (aF (show i<Z.length by exact cM zlen hi))).2.2
  have rwZ:=zU p0 IR R.wd;refine⟨⇑0,λpA hpA=>?_⟩;have s3:=aa.new (o:=.lst []) hpA;have t1:=s1.trans s2;have t13:=t1.trans s3;have nel:dA≠lA:=λz=>by rw[<- z,aw] at hlA;cases hlA
  have H1d:H1 dA=some (.lst []):=s2 _ _ aw;have nep:∀ {b:Addr} {o:HO},H1 b=some o->b≠pA:=λ{b o} e z=>by rw[z,hpA] at e;cases e
  have S0:uJ H (ao H1 pA (.lst [])) dA lA pA [] ls [] Z []:=⟨t13,hdA,s1.free hlA,t1.free hpA,nel,nep H1d,nep e2,by rw[aJ (nep H1d)];exact H1d,by rw[aJ (nep e2)];exact e2,aw,ay.nil,rlZ.mono λ_ _ r=>r.same s3,λa ha=>by simp at ha,λa ha=>⟨(nlZ a ha).1,(nlZ a ha).2.1,(nlZ a ha).2.2,by
   obtain⟨i,hi,rfl⟩:=d9.mp ha;refine ar (rlZ.at' (aF hi)) λzs _ hz=>?_;exact nep hz⟩⟩
  refine⟨_,rfl,_,rfl,∅,∅,hU (n:=wide) (λi σ H2=>∃ (lA:Addr) (ds ls:List Addr) (done left:List (List Int)) (pl:List Nat) (v6 v7 v8:Option V),σ=[some (.ref g),some (.ref L),some (.int wide),some (.ref dA),some (.ref lA),some (.ref pA),v6,v7,v8]/\uJ H H2 dA lA pA ds ls done left pl/\Sw p Z i done left pl)
   ⟨lA,[],ls,[],Z,[],none,none,none,rfl,S0,Sw.start⟩ ?_ ?_⟩
  .intro i σ H2 hi e91;refine tR e91 λlA ds ls done left pl v6 v7 v8 e98 S sw1=>?_;clear e91;obtain rfl:=e98;have I:=sw1.inv p0 rwZ;have rwl:∀ row∈left,Rw p W row:=λrow hr=>I.rw row (cf.mpr (.inr hr));have zl:=zlen;have ill:=I.all;have idl:=I.len;have smA:=sw Z IR i done left pl ∅ sw1;refine gG λD1 hD1=>?_;simp only[cg,List.set_cons_zero,List.set_cons_succ];refine bD λX hX=>?_;walk_at "wp";have ei:(0:Int)+(i:Int)=(i:Int):=by exact oz146
   rw[ei];refine i_ lA ls left i ⟨rfl,S.hl,S.rl,λrow hr=>by rw[(rwl row hr).1];exact oz86 hw hi,oz127 ml h9 hyl zlen ill,S.sm _ _ hPL,λH3 s3 hz=>?_,λj lead H3 s3 hj hk=>?_⟩
   .subst hX;refine cutI λY hY=>?_;walk_at "wp";rw[if_neg ⇑0];subst hD1;exact tS _ _ _ _ _ _ _ _ _ ⟨rfl,S.same s3,Sw.skip sw1 hz⟩
   .have S3:=S.same s3;subst hX;dsimp only;refine cutI λY hY=>?_;walk_at "wp";rw[if_pos ⇑0];subst hY;refine bD λX hX=>?_;walk_at "wp";have hjl:j<left.length:=(cj.mp hj).1;have hjs:j<ls.length:=by have:=S3.rl.1;exact c3 hjl this
    have ej:ls[j]?=some ls[j]:=aF hjs;have rlead:=S3.rl.2 j _ _ ej hj;have nlead:=S3.nl _ (aY ej);generalize ls[j]=aL at *;have hlm:lead∈left:=aY hj;refine⟨tyL S3.hl,_,S3.hl,oz114,oz117 ml h9 hyl zlen ill hjl,j,by rw[aA];exact seqIx hjs,.ref aL,by rw[bH,ej];rfl,?_⟩;rw[HR];have hlp:ao H3 lA (.lst ((ls.eraseIdx j).map V.ref)) lA=some (.lst ((ls.eraseIdx j).map V.ref)):=aw;have keep:∀ {b:Addr} {o:HO},b≠lA->H3 b=some o->ao H3 lA (.lst ((ls.eraseIdx j).map V.ref)) b=some o:=λn e=>by rw[aJ n];exact e
    have sm4:aa H (ao H3 lA (.lst ((ls.eraseIdx j).map V.ref))):=S3.sm.upd S3.fl;have re:ay (bO (ao H3 lA (.lst ((ls.eraseIdx j).map V.ref)))) (ls.eraseIdx j) (left.eraseIdx j):=(S3.rl.eraseIdx j).monoM λa _ ha r=>keep (S3.nl a (nX ha)).2.2.1 r;have hd4:=keep S3.ne1 S3.hd;have hp4:=keep (fq S3.ne3) S3.hp;have rl4:bO (ao H3 lA (.lst ((ls.eraseIdx j).map V.ref))) aL lead:=keep nlead.2.2.1 rlead;have rd4:ay (bO (ao H3 lA (.lst ((ls.eraseIdx j).map V.ref)))) ds done:=S3.rd.monoM λa _ ha r=>keep (S3.nd a ha).2.2.1 r;generalize ao H3 lA (.lst ((ls.eraseIdx j).map V.ref))=H4 at *;have elen:(ls.eraseIdx j).length=(left.eraseIdx j).length:=re.1;subst hX;refine bD λX hX=>?_;refine⟨_,rfl,lA,rfl,⟨_,aj.of hlp⟩,λD hD=>rG (λi' Hc y=>∃ a:Addr,y=.ref a/\bO Hc a (c_ p ((left.eraseIdx j).getD i' []) lead i)/\H a=none/\a≠dA/\a≠D/\a≠pA) (λ⟨a,e,b,c⟩ s=>⟨a,e,b.same s,c⟩) (λ⟨a,e,b,c,d,e',f⟩ hD=>⟨a,e,b.put e',c,d,e',f⟩) hlp hD (by rw[aA];have:=List.length_eraseIdx_le ls j;have:=S3.rl.1;omega) (λi' x H' Q' hx s' ⟨lD,hlD⟩ q'=>?_) (λys H5 s5 e5 hyl hys=>?_)⟩
    .refine ar ((zC re).at' hx) λrow er e99=>?_;obtain⟨a,rfl,rz⟩:=e99;have hm:row∈left:=nX (aY er);have ha:a∈ls.eraseIdx j:=by
      have:=aY hx;refine ar (cw.mp this) λb hb e=>?_;cases e;exact hb
     have nla:=S3.nl a (nX ha);have rw1:=rwl row hm;have rw2:=rwl lead hlm;refine⟨_,rfl,_,rfl,_,rfl,_,rfl,g,a,aL,p,row,lead,i,rfl,hg.same (sm4.trans s'),hp,rz.same s',rl4.same s',rw1.1.trans rw2.1.symm,by rw[rw1.1];omega,by rw[rw1.1];exact oz86 hw hi,hk,smA row (cf.mpr (.inr hm)),smA lead (cf.mpr (.inr hlm)),λa' H6 s6 rz' fr=>q' _ H6 s6 ⟨a',rfl,?_,?_⟩⟩
     .rw [de er];exact rz'
     .rcases fr with rfl|fr
      .exact ⟨nla.1,nla.2.1,λz=>(by have e1:H4 a'=some _:=rz;rw[z,hD] at e1;cases e1),nla.2.2.2⟩
      .exact ⟨(sm4.trans s').free fr,λz=>(by rw[z,s' _ _ hd4] at fr;cases fr),λz=>(by rw[z,hlD] at fr;cases fr),λz=>(by rw[z,s' _ _ hp4] at fr;cases fr)⟩
    .rw [aA] at hyl;refine ar (wm (P:=λi' a=>bO H5 a (c_ p ((left.eraseIdx j).getD i' []) lead i)/\H a=none/\a≠dA/\a≠D/\a≠pA) hys) λbs e910 hbs=>?_;obtain rfl:=e910;rw[aA] at hyl;have neD:∀ {b:Addr} {o:HO},H4 b=some o->b≠D:=λ{b o} e z=>by rw[z,hD] at e;cases e
     have hd5:=s5 _ _ hd4;have hp5:=s5 _ _ hp4;have dlen:=S3.rd.1;have hp6:ao H5 dA (.lst (ds.map V.ref++[V.ref aL])) pA=some (.lst (pl.map λ(j:Nat)=>V.int j)):=by rw[aJ (fq S3.ne2)];exact hp5
     subst hX;walk_at "wp";refine⟨tyL hd5,_,hd5,by rw[aA];exact cS ∅,tyL hp6,_,hp6,by rw[aA];exact cS ∅,?_⟩;subst hD1;refine tS D (ds++[aL]) bs (done++[lead]) ((left.eraseIdx j).map (λrow=>c_ p row lead i)) (pl++[i]) _ _ _ ⟨rfl,⟨?_,hdA,sm4.free hD,S3.fp,neD hd4,S3.ne2,fq (neD hp4),?_,?_,?_,?_,?_,?_,?_⟩,Sw.take j lead sw1 hj hk⟩
     .exact ((sm4.trans s5).upd hdA).upd S3.fp
     .rw [aJ S3.ne2,aw,dD];rfl
     .rw [aJ (fq (neD hp4)),aJ (fq (neD hd4))];exact e5
     .rw [aw,dD];rfl
     .refine ay.app (rd4.monoM λa _ ha r=>?_) (ay.one ?_)
      .exact ((r.same s5).put (S3.nd a ha).2.1).put (S3.nd a ha).2.2.2
      .exact ((rl4.same s5).put nlead.2.1).put nlead.2.2.2
     .refine ay.of_get (d:=[]) (by rw[aA];exact oz39 elen hyl) λi' b e=>?_;have hi':i'<(left.eraseIdx j).length:=by have:=(cj.mp e).1;exact oz149 elen hyl this
      refine cY (hbs i' b e) λh1 h2 h3 h4 h5=>?_;rw[de (show _=some _ by rw[bH,aF hi'];rfl)];rw[dk hi'] at h1;exact (h1.put h3).put h5
     .intro a ha;rcases cf.mp ha with ha|ha
      .have hn:=S3.nd a ha;refine⟨hn.1,hn.2.1,?_,hn.2.2.2⟩;obtain⟨i',hi',rfl⟩:=d9.mp ha;refine ar (rd4.at' (aF hi')) λzs _ hz=>?_;exact neD hz
      .rw [cF.mp ha];exact⟨nlead.1,nlead.2.1,neD rl4,nlead.2.2.2⟩
     .intro a ha;obtain⟨i',hi',rfl⟩:=d9.mp ha;refine cY (hbs i' _ (aF hi')) λh1 h2 h3 h4 h5=>?_;exact⟨h2,h3,h4,h5⟩
  .intro σ H2 e92;refine tR e92 λlA ds ls done left pl v6 v7 v8 e911 S sw1=>?_;clear e92;obtain rfl:=e911;have I:=sw1.inv p0 rwZ;have d1:=S.rd.1;have d2:=S.rl.1;have ill:=I.all;have zl:=zlen;walk_at "wp";refine⟨_,S.hd,_,S.hl,by rw[aA,aA];exact jg (cS ∅),λF hF=>⟨⇑0,λt ht=>?_⟩⟩;have s4:=aa.new (o:=.lst (ds.map V.ref++ls.map V.ref)) hF;have s5:=aa.new (o:=.tup [V.ref F,V.ref pA]) ht;have s45:=s4.trans s5;have neF:∀ {b:Addr} {o:HO},H2 b=some o->b≠F:=λ{b o} e z=>by rw[z,hF] at e;cases e
   refine q t F pA (ds++ls) Z done left pl _ (S.sm.trans s45) aw (S.sm.free hF) S.fp (fq (neF S.hp)) (s45 _ _ S.hp) (s5 _ _ (by rw[aw,dD])) ((S.rd.app S.rl).mono λ_ _ r=>r.same s45) (λa ha=>?_) IR sw1;have hn:H a=none/\a≠dA/\a≠lA/\a≠pA:=by
    rcases cf.mp ha with ha|ha
    .exact S.nd a ha
    .exact S.nl a ha
   obtain⟨i',hi',e'⟩:=d9.mp ha;refine ar ((S.rd.app S.rl).at' (aF hi')) λzs _ hz=>?_;rw[e'] at hz;exact⟨hn.1,neF hz,hn.2.2.2⟩
theorem lL:((List.range 98).all λp=>decide (p<2) || (List.range p).any (λd=>decide (2<=d) && p % d == 0) || (List.range p).all λr=>r == 0 || (List.range p).any λk=>k*r % p == 1)=true:=⋯
theorem BX {p b:Int}(hp:jx p)(hb:b % p≠0):∃ k:Nat,1<=k/\(k:Int)<p/\(k:Int)*b % p=1:=by
 refine bQ hp λp1 p97 hd=>?_;clear hp;have h:=iT.mp lL p.toNat (eC.mpr ∅);have ep:((p.toNat:Nat):Int)=p:=gz ∅;rw[si,si] at h;rcases h with (h|h)|h
 .have:=dB h;omega
 .refine ar (List.any_eq_true.mp h) λd d1 d2=>?_;have d1:=eC.mp d1;rw[nR] at d2;have d3:=dB d2.1;have d4:p.toNat % d=0:=by simpa using d2.2
  refine absurd ?_ (hd d ∅ ∅);rw[<- ep,<- Int.natCast_emod,d4];rfl
 .have b0:0<=b % p:=gv _ (mj p1);have b1:b % p<p:=fY _ (iD p1);have h:=iT.mp h (b % p).toNat (eC.mpr ∅);rw[si] at h;rcases h with h|h
  .have:(b % p).toNat=0:=by simpa using h
   omega
  .refine ar (List.any_eq_true.mp h) λk k1 k2=>?_;have k1:=eC.mp k1;have k2:k*(b % p).toNat % p.toNat=1:=by simpa using k2
   have k3:(k:Int)*(b % p) % p=1:=by
    have e:(((b % p).toNat:Nat):Int)=b % p:=gz b0;have:((k*(b % p).toNat % p.toNat:Nat):Int)=1:=by rw[k2];rfl
    rw[Int.natCast_emod,j4,e,ep] at this;exact this
   refine⟨k,?_,∅,by rw[emulR] at k3;exact k3⟩;rcases Nat.eq_zero_or_pos k with rfl|h
   .simp at k2
   .exact h
theorem G6 {p:Int}(hp:jx p):PrimeN p.toNat:=by
 have p1:=hp.1;have ep:((p.toNat:Nat):Int)=p:=gz ∅;refine⟨∅,λr r0 r1=>?_⟩;obtain⟨k,k1,kp,kr⟩:=BX (b:=(r:Int)) hp (by rw[mL i4 ∅];omega);refine⟨k,∅,?_⟩;rw[<- ep,<- j4,<- Int.natCast_emod] at kr;omega
theorem qh {p:Int}(hp:af p):∃ (F:Type) (_:Lean.Grind.Field F),aO p F:=by
 rcases hp with rfl|hp
 .exact ⟨Rat,inferInstance,wb⟩
 .have:PrimeN p.toNat:=G6 hp;have h:=FS (n:=p.toNat);rw[gz (by have:=hp.1;omega)] at h;exact⟨Zp p.toNat,inferInstance,h⟩
theorem kS {p:Int}(hp:af p)(h:p≠0):(1:Int) % p≠0:=by
 rcases hp with h'|h'
 .exact absurd h' h
 .rw [mL ⇑0 h'.1];decide
theorem Fy {p:Int}(hp:af p):dj p 1=(1,1):=by
 unfold dj;split
 .rfl
 .rw [mL ⇑0];rcases hp with h|⟨h,_⟩ <;> omega
theorem wN (p:Int):dj p 0=(0,1):=by
 unfold dj;split
 .rfl
 .rw [Int.zero_emod]
theorem rep1 (n:Nat)(v:V):(List.replicate n [v]).flatten=List.replicate n v:=by
 induction n with
 | zero=>rfl
 | succ n ih=>rw[nW,sC,ih,nW];rfl
abbrev zR (n:Nat):List Nv:=List.replicate n (0,1)
abbrev zM (h n:Nat):Mv:=(List.range h).map λ_=>zR n
abbrev eR (n i:Nat):List Nv:=(zR n).set i (1,1)
end
end Pf
namespace Pf
open PySem L2 L3 PyProof.Rows
section
variable {p:Int}{F:Type}[Lean.Grind.Field F]
def vN (xs:List Nv):Nat->F:=λj=>nm (xs.getD j (0,1))
theorem nI:(nm ((0,1):Nv):F)=0:=by
 unfold nm;rw[rq,gL];have:=iC (F:=F)
 grind
theorem ug {xs:List Nv}{j:Nat}(h:xs.length<=j):(vN xs j:F)=0:=by
 unfold vN;rw[aT,cZ h];exact nI
theorem vO {α:Type}{f:α->Nat->F}{Z:List α}{i:Nat}{d:α}(h:i<Z.length):at' (Z.map f) i=f (Z.getD i d):=by
 show (Z.map f).getD i zv=_;rw[aT,bH,aF h,aT,aF h];rfl
theorem HJ {L L':List (Nat->F)}(hl:L.length=L'.length)(h:∀ i,i<L.length->∃ c:F,c≠0/\∀ j,at' L i j=c*at' L' i j):bo L L':=by
 refine⟨λv hv=>?_,λv hv=>?_⟩
 .refine ar (jz hv zv) λi hi e=>?_;refine ar (h i hi) λc _ hc=>?_;have e1:v=λj=>c*at' L' i j:=by rw[<- e];exact funext hc
  rw[e1];exact Sp.smul c (.mem (eK (b_ hl hi)))
 .refine ar (jz hv zv) λi hi e=>?_;refine ar (h i (cM hl hi)) λc c0 hc=>?_;have e1:v=λj=>(1 / c)*at' L i j:=by
   rw[<- e];refine funext λj=>?_;rw[hc j];show at' L' i j=_
   grind
  rw[e1];exact Sp.smul _ (.mem (eK (cM hl hi)))
theorem sJ (hF:aO p F){xs:List Nv}{zs:List Int}{b:Int}(h:wY p xs zs b)(hx:∀ x∈xs,aZ p x)(j:Nat):(vz zs j:F)=ic b*vN xs j:=by
 have e:=h.eq j;have e2:(ic (zs.getD j 0):F)*ic (xs.getD j (0,1)).2=ic (xs.getD j (0,1)).1*ic b:=by rw[<- d7,<- d7,e]
 have b2:(ic (xs.getD j (0,1)).2:F)≠0:=by
  by_cases hj:j<xs.length
  .rw [dk hj];exact hF.bot (hx _ (eO hj))
  .rw [aT,cZ (c8 hj)];show (ic 1:F)≠0;rw[gL];exact iC
 unfold vz vN nm;generalize (ic (zs.getD j 0):F)=u at *;generalize (ic (xs.getD j (0,1)).1:F)=v at *;generalize (ic (xs.getD j (0,1)).2:F)=t at *
 grind
theorem xJ (hF:aO p F){xs:List Nv}{zs:List Int}{b:Int}(h:wY p xs zs b):(ic b:F)≠0:=by
 by_cases hp:p=0
 .exact hF.ne0 (.inl hp) (by have:=h.pos;omega)
 .rw [h.one hp,gL];exact iC
theorem pW (hF:aO p F){k:Nat}{Z:List (List Int)}{M:Mv}(h:qo p k Z M)(hM:∀ xs∈M,∀ x∈xs,aZ p x):bo (F:=F) (Z.map vz) (M.map vN):=by
 have hl:=h.1;refine HJ (by rw[aA,aA];exact hl) λi hi=>?_;rw[aA] at hi;refine cy (h.2 i _ _ (aF hi) (aF (show i<M.length by exact b_ hl hi))) λws b w1 _ e=>?_;rw[vO (d:=[]) hi,vO (d:=[]) (show i<M.length by exact b_ hl hi),dk hi,dk (show i<M.length by exact b_ hl hi),e];refine ar (CO hF ws) λc c0 hc=>?_;refine⟨ic b / c,?_,λj=>?_⟩
 .have:=xJ hF w1
  grind
 .have e1:=hc j;rw[sJ hF w1 (hM _ (eO _)) j] at e1;generalize (vz (dt p ws) j:F)=y at *
  grind
end
theorem Gj {p:Int}{W:Nat}{row:List Int}(h0:p≠0)(p97:p<=97)(h:Rw p W row):aK 7 row:=λz hz=>by
 rcases h.2 z hz with e|⟨e1,e2⟩
 .exact absurd e h0
 .exact dc (aI _) ∅
theorem HX {p:Int}{k W:Nat}{Z:List (List Int)}{M:Mv}(hp:af p)(h7:7<=k)(h:qo p k Z M)(wd:∀ xs∈M,xs.length=W):∀ row∈Z,aK ((W+1)*k) row:=λrow hr=>by
 obtain⟨i,hi,e⟩:=d9.mp hr;refine ar (h.at' (i:=i) (x:=row) (by rw[aF hi,e])) λxs ex e91=>?_;obtain⟨ws,b,w1,sm,rfl⟩:=e91;rw[wd xs (aY ex)] at sm;exact HI hp.lo hp.hi (by rw[iR];omega) λ_=>sm
end Pf
set_option maxHeartbeats 1000000
namespace Pf
open PySem L2 L3 PyProof.Rows
section
variable {F:Type}[Lean.Grind.Field F]
theorem pG:(nm ((1,1):Nv):F)=1:=by
 unfold nm;rw[gL];have:=iC (F:=F)
 grind
end
theorem pV {p:Int}(hp:af p):aZ p (0,1)/\aZ p (1,1):=by
 have h0:=gN (p:=p) (k:=0) hp.lo;have h1:=gN (p:=p) (k:=1) hp.lo;rw[wN] at h0;rw[Fy hp] at h1;exact⟨h0,h1⟩
section
variable {p:Int}{F:Type}[Lean.Grind.Field F]
end
end Pf
namespace Pf
open PySem L2 L3 PyProof.Rows
section
variable {G PL cL:Addr}
structure bM (H:Hp)(p:Int)(k n wd:Nat)(t r:Addr)(rs:List Addr)(M:Mv):Prop where
 tv:cP H p n wd t r rs M
 hl:M.length=n
 hw:∀ xs∈M,xs.length=wd
 gd:∀ xs∈M,cN p k xs
theorem bM.same {H H':Hp}{p:Int}{k n wd:Nat}{t r:Addr}{rs:List Addr}{M:Mv}(h:bM H p k n wd t r rs M)(s:aa H H'):bM H' p k n wd t r rs M:=⟨h.tv.same s,h.hl,h.hw,h.gd⟩
end
end Pf
namespace Pf
open PySem L2 PyProof.Rows
section
variable {C G S:Addr}
theorem pE (F:bc K "_law_bag" "_law_bag" zr f fd)(T:bp K mg C G S):ax P w K mg base aW 1 f fd ["_law_cell_here"] spBag:=by
 have nd:=Ea.nd;refine F.ok Ea (λvs H Q E h=>?_) (λcdv A outer s H vs Q E hr h=>?_)
 .refine ar h λc e92 _=>?_;clear h;obtain rfl:=e92;rfl
 .refine ar h λc e93 q=>?_;clear h;obtain rfl:=e93;refine⟨_,((@bI _ _ _ _ _ _ _ _ (bW jm (ae 0) ((opJ BD)<|>aq<&&>aq) (aU _)) (~~~(@cU _ _ _ _ ((ae 0)<&>(((opJ fE)<|>(ae 0)<&&>aq)<&>ah)))) bJ)<*>(~~~(@cU _ _ _ _ (aq<&>(((opJ fE)<|>((gH dI)<|>((opJ mw)<|>((opJ fE)<|>(ae 0)<&&>aq)<&&>aq)<&&>aq)<&&>aq)<&>ah))))),?_⟩;walk_at "wp";refine⟨cpow _ ⇑0 ⇑0,bA (λ_=>?_) (λ_=>?_)⟩
  .exact ⟨⇑0,⇑0,λp hp=>q p _ _ hp (t7 _ _ ⇑0) (t6 _ _ ⇑0)⟩
  .exact ⟨⇑0,.inr ⟨⇑0,⇑0⟩,⇑0,⇑0,λp hp=>q p _ _ hp (t7 _ _ ⇑0) (t6 _ _ ⇑0)⟩
theorem lj (F:bc K "_law_draw" "_law_draw" zQ f fd)(T:bp K mg C G S):ax P w K mg base aW 1 f fd ["_law_bag_here","_law_many"] iK:=by
 have nd:=Ez.nd;refine F.ok Ez (λvs H Q E h=>?_) (λcdv A outer s H vs Q E hr h=>?_)
 .refine qf h λl a b n e94 _=>?_;clear h;obtain rfl:=e94;rfl
 .refine d6 h λl a b n e95 hl b0 e96=>?_;clear h;obtain rfl:=e95;refine cG e96 λb1 n0 n1 q=>?_;clear e96;refine⟨_,((@bI _ _ _ _ _ _ _ _ (bW fM ((ixJ aV)<|>(ae 0)<||>aq) aq (aU _)) ((2|||nd|||(fE<|>((ixJ aV)<|>(ae 0)<||>aq)<&&>(ae 1)))<*>((dX (wg<|>((ixJ aV)<|>(ae 0)<||>aq)<&&>(ae 1)) (iJ (ae 0) aq iM))<*>(~~~(ae 2)))) bJ)<*>((dX (fE<|>(dI<|>(mw<|>((ixJ aV)<|>(ae 0)<||>aq)<&&>aq)<&&>aq)<&&>aq) (iJ (ae 0) aq iM))<*>(~~~(fE<|>(wg<|>(fE<|>(mw<|>((ixJ aV)<|>(ae 0)<||>aq)<&&>(dI<|>(wg<|>((ixJ aV)<|>(ae 0)<||>aq)<&&>aq)<&&>aq))<&&>aq)<&&>aq)<&&>(ae 1))))),?_⟩;walk_at "wp";refine⟨_,aj.of hl,_,rfl,_,rfl,bA (λhc=>?_) (λhc=>?_)⟩
  .refine ⟨_,aj.of hl,_,rfl,_,rfl,n0,_,aj.of hl,_,rfl,_,rfl,⟨n0,∅⟩,_,hl,_,rfl,?_⟩;exact q _ _ _ (t7 _ _ n0) (t6 _ _ n0) b0 b1
  .refine ⟨_,aj.of hl,_,rfl,_,rfl,.inr ⟨⇑0,⇑0⟩,⇑0,_,hl,_,rfl,_,aj.of aw,_,rfl,_,aj.of aw,_,rfl,_,rfl,⟨⇑0,⇑0⟩,_,rfl,?_⟩;have h1:=t7 (b*48271+4099) 2147483647 ⇑0;have h2:=t6 (b*48271+4099) 2147483647 ⇑0;refine⟨.inl ⟨∅,∅⟩,⇑0,⟨⇑0,⇑0⟩,n0,?_⟩;exact q _ _ _ (t7 _ _ n0) (t6 _ _ n0) h1 h2
def vD:Sp:=λvs H Q _=>∃ a b:Int,vs=[.int a,.int b]/\Q (.int (Int.gcd a b:Int)) H
theorem ph (F:bc K "_law_gcd" "_law_gcd" zu f fd)(T:bp K mg C G S):ax P w K mg base aW 1 f fd ["_law_one","_law_two"] vD:=by
 have nd:=Ed.nd;refine F.ok Ed (λvs H Q E h=>?_) (λcdv A outer s H vs Q E hr h=>?_)
 .refine cE h λa b e97 _=>?_;clear h;obtain rfl:=e97;rfl
 .refine cE h λa b e98 q=>?_;clear h;obtain rfl:=e98;refine⟨_,((0|||nd|||(bS nJ rfl T.n_abs nO ((ae 0)<&>ah)))<*>((1|||nd|||(bS nJ rfl T.n_abs nO ((ae 1)<&>ah)))<*>((uy cW (fV fM (pv 1) aq (aU _)) ((2|||nd|||((opJ fE)<|>(ae 0)<&&>(ae 1)))<*>((0|||nd|||(ae 1))<*>(@bE _ _ _ (1|||nd|||(ae 2))))))<*>(~~~(ae 0))))),?_⟩;walk_at "wp";have ea:(if a<0 then -a else a)=(a.natAbs:Int):=by split <;> omega
  have eb:(if b<0 then -b else b)=(b.natAbs:Int):=by split <;> omega
  rw[ea,eb];refine⟨λn σ H2=>∃ (x y:Int) (v:Option V),σ=[some (.int x),some (.int y),v]/\H2=H/\0<=x/\0<=y/\n=y.toNat/\Int.gcd x y=Int.gcd a b,⟨_,_,_,none,rfl,rfl,oz41,oz41,rfl,by unfold Int.gcd;rfl⟩,?_⟩;intro n σ H2 e91;refine cD e91 λx y v e99 e910 hx e911=>?_;clear e91;obtain rfl:=e99;obtain rfl:=e910;refine bQ e911 λhy e912 hg=>?_;clear e911;obtain rfl:=e912;walk_at "wp";refine bA (λhc=>?_) (λhc=>?_)
  .have y1:0<y:=dB hc;have l1:=gv x (show y≠0 by omega);have l2:=fY x y1;refine⟨_,λ_ _ h=>h,?_⟩;walk_at "wp";exact⟨y1,_,oz128 y1 l2,y,x % y,_,⟨rfl,rfl,rfl⟩,oz83 y1,l1,rfl,by rw[C_];exact hg⟩
  .have hy0:¬ 0<y:=λz=>hc (bR z);have hy0:y=0:=by exact tK hy hy0
   subst hy0;have e:x=(Int.gcd a b:Int):=by
    rw[<- hg,Int.gcd_zero];omega
   rw[<- e] at q;exact q
def mn:Sp:=λvs H Q _=>∃ p k:Int,vs=[.int p,.int k]/\af p/\∀ v H',aa H H'->aE H' p v (dj p k)->Q v H'
theorem pf (F:bc K "_law_int" "_law_int" zw f fd)(T:bp K mg C G S):ax P w K mg base aW 1 f fd ["_law_p","_law_k"] mn:=by
 have nd:=Ee.nd;refine F.ok Ee (λvs H Q E h=>?_) (λcdv A outer s H vs Q E hr h=>?_)
 .refine cE h λp k e913 _=>?_;clear h;obtain rfl:=e913;rfl
 .refine cy h λp k e914 hp q=>?_;clear h;obtain rfl:=e914;have p0:=hp.lo;refine⟨_,((@bI _ _ _ _ _ _ _ _ (bW (gH fM) (ae 0) aq (aU _)) (~~~((opJ fE)<|>(ae 1)<&&>(ae 0))) bJ)<*>(~~~(@cb _ _ _ _ _ ((ae 1)<&>(aq<&>ah))))),?_⟩;walk_at "wp";refine bA (λhc=>?_) (λhc=>?_)
  .have hc:=dB hc;refine⟨hc,q _ H (aa.refl _) ?_⟩;have:=aE.of (H:=H) (x:=dj p k) (show ¬ p=0 by omega);rw[dj,if_neg ∅] at this ⊢;exact this
  .have hc:¬ 0<p:=λz=>hc (bR z);have hp0:p=0:=by exact tK p0 hc
   refine⟨⇑0,λt ht=>q _ _ (aa.new ht) ?_⟩;rw[dj,if_pos hp0];exact aE.tup hp0 aw
end
end Pf
namespace Pf
open PySem L2 L3 PyProof.Rows
section
variable {p:Int}{F:Type}[Lean.Grind.Field F]
theorem fR {α:Type}{L:List α}{k i:Nat}{v d:α}(hk:k<L.length):(L.set k v).getD i d=if i=k then v else L.getD i d:=by
 rw[aT,A9,aT];by_cases h:i=k
 .subst h;rw[if_pos rfl,if_pos rfl,if_pos hk];rfl
 .rw [if_neg (λz=>h z.symm),if_neg h]
theorem yN {L L':List (Nat->F)}(h1:∀ i,i<L.length->gs L' (at' L i))(h2:∀ i,i<L'.length->gs L (at' L' i)):bo L L':=by
 refine⟨λv hv=>?_,λv hv=>?_⟩
 .refine ar (jz hv zv) λi hi e=>?_;have:=h1 i hi;rwa [show at' L i=v from e] at this
 .refine ar (jz hv zv) λi hi e=>?_;have:=h2 i hi;rwa [show at' L' i=v from e] at this
theorem HK {L L':List (Nat->F)}{k:Nat}(hl:L'.length=L.length)(hk:k<L.length)(a:F)(ha:a≠0)(h:∀ i,i<L.length->i≠k->at' L' i=at' L i)(e:∀ j,at' L' k j=a*at' L k j):bo L' L:=by
 refine yN (λi hi=>?_) (λi hi=>?_)
 .by_cases hik:i=k
  .subst hik;rw[show at' L' i=λj=>a*at' L i j from funext e];exact Sp.smul a (.mem (eK hk))
  .rw [h i (b_ hl hi) hik];exact .mem (eK (b_ hl hi))
 .by_cases hik:i=k
  .subst hik;rw[show at' L i=λj=>(1 / a)*at' L' i j from funext λj=>by rw[e j];show at' L i j=_;grind];exact Sp.smul _ (.mem (eK (cM hl hi)))
  .rw [<- h i hi hik];exact .mem (eK (cM hl hi))
theorem Hg {L L':List (Nat->F)}{k d:Nat}(hl:L'.length=L.length)(hk:k<L.length)(hd:d<L.length)(hne:d≠k)(b:F)(h:∀ i,i<L.length->i≠k->at' L' i=at' L i)(e:∀ j,at' L' k j=at' L k j+b*at' L d j):bo L' L:=by
 refine yN (λi hi=>?_) (λi hi=>?_)
 .by_cases hik:i=k
  .subst hik;rw[show at' L' i=λj=>1*at' L i j+b*at' L d j from funext λj=>by rw[e j];show at' L i j+_=_;grind];exact .comb 1 b (.mem (eK hk)) (.mem (eK hd))
  .rw [h i (b_ hl hi) hik];exact .mem (eK (b_ hl hi))
 .by_cases hik:i=k
  .subst hik;rw[show at' L i=λj=>1*at' L' i j+(-b)*at' L' d j from funext λj=>by rw[h d hd hne,e j];show at' L i j=_;grind];exact .comb 1 (-b) (.mem (eK (cM hl hi))) (.mem (eK (cM hl hd)))
  .rw [<- h i hi hik];exact .mem (eK (cM hl hi))
theorem Hh {L L':List (Nat->F)}{s d:Nat}(hl:L'.length=L.length)(hs:s<L.length)(hd:d<L.length)(h:∀ i,i<L.length->at' L' i=if i=d then at' L s else if i=s then at' L d else at' L i):bo L' L:=by
 refine yN (λi hi=>?_) (λi hi=>?_)
 .rw [h i (b_ hl hi)];split
  .exact .mem (eK hs)
  .split
   .exact .mem (eK hd)
   .exact .mem (eK (b_ hl hi))
 .by_cases h1:i=d
  .subst h1;have e:=h s hs;by_cases h2:s=i
   .rw [if_pos h2,h2] at e;rw[<- e];exact .mem (eK ∅)
   .rw [if_neg h2,if_pos rfl] at e;rw[<- e];exact .mem (eK (cM hl hs))
  .by_cases h2:i=s
   .subst h2;have e:=h d hd;rw[if_pos rfl] at e;rw[<- e];exact .mem (eK (cM hl hd))
   .have e:=h i hi;rw[if_neg h1,if_neg h2] at e;rw[<- e];exact .mem (eK (cM hl hi))
structure ie (F:Type)[Lean.Grind.Field F](n c:Nat)(M0 M:Mv)(pl:List Nat):Prop where
 ml:M.length=n
 dl:pl.length<=n
 asc:∀ i j,i<j->j<pl.length->pl.getD i 0<pl.getD j 0
 lt:∀ i,i<pl.length->pl.getD i 0<c
 one:∀ i,i<pl.length->(vN (M.getD i []) (pl.getD i 0):F)=1
 col:∀ i k,i<n->k<pl.length->i≠k->(vN (M.getD i []) (pl.getD k 0):F)=0
 low:∀ i j,i<pl.length->j<pl.getD i 0->(vN (M.getD i []) j:F)=0
 zer:∀ i j,pl.length<=i->i<n->j<c->(vN (M.getD i []) j:F)=0
 sp:bo (F:=F) (M.map vN) (M0.map vN)
theorem ie.start {n:Nat}{M:Mv}(h:M.length=n):ie F n 0 M M []:=
 ⟨h,eB _,λi j _ h=>by simp at h,λi h=>by simp at h,λi h=>by simp at h,λi k _ h=>by simp at h,λi j h=>by simp at h,λi j _ _ h=>∅,bo.refl _⟩
theorem ie.skip {n c:Nat}{M0 M:Mv}{pl:List Nat}(h:ie F n c M0 M pl)(hz:∀ i,pl.length<=i->i<n->(vN (M.getD i []) c:F)=0):ie F n (c+1) M0 M pl:=
 ⟨h.ml,h.dl,h.asc,λi hi=>nU (h.lt i hi),h.one,h.col,h.low,λi j h1 h2 h3=>by
  by_cases e:j=c
  .subst e;exact hz i h1 h2
  .exact h.zer i j h1 h2 (oz25 h3 e),h.sp⟩
structure jC (F:Type)[Lean.Grind.Field F](n c k:Nat)(M0 M:Mv)(pl:List Nat):Prop where
 ml:M.length=n
 dl:pl.length<n
 asc:∀ i j,i<j->j<pl.length->pl.getD i 0<pl.getD j 0
 lt:∀ i,i<pl.length->pl.getD i 0<c
 one:∀ i,i<pl.length->(vN (M.getD i []) (pl.getD i 0):F)=1
 col:∀ i k,i<n->k<pl.length->i≠k->(vN (M.getD i []) (pl.getD k 0):F)=0
 low:∀ i j,i<pl.length->j<pl.getD i 0->(vN (M.getD i []) j:F)=0
 zer:∀ i j,pl.length<=i->i<n->j<c->(vN (M.getD i []) j:F)=0
 pv:(vN (M.getD pl.length []) c:F)=1
 cl:∀ i,i<k->i<n->i≠pl.length->(vN (M.getD i []) c:F)=0
 sp:bo (F:=F) (M.map vN) (M0.map vN)
theorem fC {M:Mv}{i:Nat}(h:i<M.length):at' (M.map (vN (F:=F))) i=vN (M.getD i []):=vO h
theorem ie.lead {n c s:Nat}{M0 M M':Mv}{pl:List Nat}{a:F}(h:ie F n c M0 M pl)(hs:pl.length<=s)(hsn:s<n)(ha:(vN (M.getD s []) c:F)*a=1)(hl:M'.length=n)(e1:∀ j,(vN (M'.getD pl.length []) j:F)=a*vN (M.getD s []) j)(e2:∀ i,i<n->i≠pl.length->(vN (M'.getD i []):Nat->F)=if i=s then vN (M.getD pl.length []) else vN (M.getD i [])):jC F n c 0 M0 M' pl:=by
 have dn:pl.length<n:=by exact oz115 hs hsn
 have ml:=h.ml;have a0:a≠0:=λz=>by
  rw[z] at ha;exact iC (F:=F) (by rw[<- ha];grind)
 have eq:∀ i,i<pl.length->(vN (M'.getD i []):Nat->F)=vN (M.getD i []):=λi hi=>by rw[e2 i (oz50 dn hi) ∅,if_neg ∅]
 refine⟨hl,dn,h.asc,h.lt,λi hi=>by rw[eq i hi];exact h.one i hi,λi k hi hk hne=>?_,λi j hi hj=>by rw[eq i hi];exact h.low i j hi hj,λi j h1 h2 h3=>?_,?_,λi hi=>∅,?_⟩
 .by_cases hd:i=pl.length
  .rw [hd,e1,h.col s k hsn hk ∅]
   grind
  .rw [e2 i hi hd];split
   .exact h.col _ k dn hk ∅
   .exact h.col i k hi hk hne
 .by_cases hd:i=pl.length
  .rw [hd,e1,h.zer s j hs hsn h3]
   grind
  .rw [e2 i h2 hd];split
   .exact h.zer _ j (aI _) dn h3
   .exact h.zer i j h1 h2 h3
 .rw [e1]
  grind
 .-- swap,then divide
  refine bo.trans ?_ h.sp;have hM:(M.map (vN (F:=F))).length=n:=by rw[aA];exact ml
  have step1:=HK (L:=(((M.set s (M.getD pl.length [])).set pl.length (M.getD s [])).map (vN (F:=F)))) (L':=M'.map vN) (k:=pl.length) (by rw[aA,aA,dE,dE];exact oz20 hl ml) (by rw[aA,dE,dE];exact c3 dn ml) a a0
   (λi hi hne=>by
    rw[aA,dE,dE] at hi;rw[fC (oz35 hl ml hi),fC (by rw[dE,dE];exact oz69 hi),e2 i (b_ ml hi) hne,fR (by rw[dE];exact c3 dn ml),if_neg hne,fR (c3 hsn ml)];split <;> rfl)
   (λj=>by
    rw[fC (cM hl dn),fC (by rw[dE,dE];exact c3 dn ml),e1,fR (by rw[dE];exact c3 dn ml),if_pos rfl])
  refine step1.trans (Hh (s:=s) (d:=pl.length) (by simp) (c3 hsn hM) (c3 dn hM) λi hi=>?_);rw[hM] at hi;rw[fC (by rw[dE,dE];exact cM ml hi),fR (by rw[dE];exact c3 dn ml),fR (c3 hsn ml),fC (c3 hsn ml),fC (c3 dn ml),fC (cM ml hi)];split
  .rfl
  .split <;> rfl
theorem jC.skip {n c k:Nat}{M0 M:Mv}{pl:List Nat}(h:jC F n c k M0 M pl)(hz:k≠pl.length->k<n->(vN (M.getD k []) c:F)=0):jC F n c (k+1) M0 M pl:=
 ⟨h.ml,h.dl,h.asc,h.lt,h.one,h.col,h.low,h.zer,h.pv,λi h1 h2 h3=>by
  by_cases e:i=k
  .subst e;exact hz h3 h2
  .exact h.cl i (oz25 h1 e) h2 h3,h.sp⟩
theorem jC.take {n c k:Nat}{M0 M M':Mv}{pl:List Nat}(h:jC F n c k M0 M pl)(hk:k<n)(hkd:k≠pl.length)(hl:M'.length=n)(e1:∀ j,(vN (M'.getD k []) j:F)=vN (M.getD k []) j+(-vN (M.getD k []) c)*vN (M.getD pl.length []) j)(e2:∀ i,i<n->i≠k->M'.getD i []=M.getD i []):jC F n c (k+1) M0 M' pl:=by
 have ml:=h.ml;have dn:=h.dl;have zd:∀ j,j<c->(vN (M.getD pl.length []) j:F)=0:=λj hj=>h.zer _ j (aI _) dn hj;refine⟨hl,dn,h.asc,h.lt,λi hi=>?_,λi l hi hl' hne=>?_,λi j hi hj=>?_,λi j h1 h2 h3=>?_,?_,λi h1 h2 h3=>?_,?_⟩
 .by_cases hik:i=k
  .subst hik;rw[e1,zd _ (h.lt i hi),h.one i hi]
   grind
  .rw [e2 i (oz50 dn hi) hik];exact h.one i hi
 .by_cases hik:i=k
  .subst hik;rw[e1,zd _ (h.lt l hl'),h.col i l hi hl' hne]
   grind
  .rw [e2 i hi hik];exact h.col i l hi hl' hne
 .by_cases hik:i=k
  .subst hik;rw[e1,zd j (by have:=h.lt i hi;omega),h.low i j hi hj]
   grind
  .rw [e2 i (oz50 dn hi) hik];exact h.low i j hi hj
 .by_cases hik:i=k
  .subst hik;rw[e1,zd j h3,h.zer i j h1 h2 h3]
   grind
  .rw [e2 i h2 hik];exact h.zer i j h1 h2 h3
 .rw [e2 _ dn (fq hkd)];exact h.pv
 .by_cases hik:i=k
  .subst hik;rw[e1,h.pv]
   grind
  .rw [e2 i h2 hik];exact h.cl i (oz25 h1 hik) h2 h3
 .refine bo.trans (Hg (k:=k) (d:=pl.length) (by rw[aA,aA];exact oz20 hl ml) (by rw[aA];exact c3 hk ml) (by rw[aA];exact cM ml dn) (fq hkd) (-vN (M.getD k []) c) (λi hi hne=>?_) λj=>?_) h.sp
  .rw [aA] at hi;rw[fC (oz35 hl ml hi),fC hi,e2 i (b_ ml hi) hne]
  .rw [fC (c3 hk hl),fC (c3 hk ml),fC (cM ml dn)];exact e1 j
theorem jC.next {n c:Nat}{M0 M:Mv}{pl:List Nat}(h:jC F n c n M0 M pl):ie F n (c+1) M0 M (pl++[c]):=by
 have dn:=h.dl;have gl:∀ {i:Nat},i<pl.length->(pl++[c]).getD i 0=pl.getD i 0:=λ{i} hi=>by rw[jU,if_pos hi]
 have gd:(pl++[c]).getD pl.length 0=c:=by rw[jU,if_neg ∅,if_pos rfl]
 have ll:(pl++[c]).length=pl.length+1:=by rw[bw];rfl
 refine⟨h.ml,∅,λi j hij hj=>?_,λi hi=>?_,λi hi=>?_,λi k hi hk hne=>?_,λi j hi hj=>?_,λi j h1 h2 h3=>?_,h.sp⟩
 .rw [ll] at hj;rw[gl (oz96 hij hj)];by_cases e:j<pl.length
  .rw [gl e];exact h.asc i j hij e
  .rw [show j=pl.length by exact oz9 hj e,gd];exact h.lt i (oz96 hij hj)
 .rw [ll] at hi;by_cases e:i<pl.length
  .rw [gl e];exact nU (h.lt i e)
  .rw [show i=pl.length by exact oz9 hi e,gd];omega
 .rw [ll] at hi;by_cases e:i<pl.length
  .rw [gl e];exact h.one i e
  .rw [show i=pl.length by exact oz9 hi e,gd];exact h.pv
 .rw [ll] at hk;by_cases e:k<pl.length
  .rw [gl e];exact h.col i k hi e hne
  .have ek:k=pl.length:=by exact oz9 hk e
   rw[ek,gd];exact h.cl i hi hi (oz85 hk hne e)
 .rw [ll] at hi;by_cases e:i<pl.length
  .rw [gl e] at hj;exact h.low i j e hj
  .have ei:i=pl.length:=by exact oz9 hi e
   rw[ei,gd] at hj;rw[ei];exact h.zer _ j (aI _) dn hj
 .rw [ll] at h1;by_cases e:j=c
  .subst e;exact h.cl i h2 h2 ∅
  .exact h.zer i j (tL h1) h2 (oz25 h3 e)
theorem ie.rr {n wd:Nat}{M0 M:Mv}{pl:List Nat}(h:ie F n wd M0 M pl):RR (M.map (vN (F:=F))) wd pl.length (λi=>pl.getD i 0):=by
 have ml:=h.ml;have dl:=h.dl;refine⟨by rw[aA];omega,h.lt,λi k h1 h2=>h.asc i k h1 h2,λi k hi hk=>?_,λi j hi hj=>?_,λi j hi hi2 hj=>?_⟩
 .rw [fC ∅];show _=if i=k then (1:F) else 0
  by_cases e:i=k
  .subst e;rw[if_pos rfl];exact h.one i hi
  .rw [if_neg e];exact h.col i k (oz86 dl hi) hk e
 .rw [fC ∅];exact h.low i j hi hj
 .rw [aA] at hi2;rw[fC hi2];exact h.zer i j hi (b_ ml hi2) hj
end
end Pf
namespace Pf
open PySem L2 L3 PyProof.Rows
def eG (p:Int)(n wd:Nat)(M:Mv)(r:Nat):Prop:=∀ (F:Type) [Lean.Grind.Field F],aO p F->Rk (λi j=>(vN (M.getD i []) j:F)) n wd r
theorem sM {p:Int}{k n wd:Nat}{Z done left:List (List Int)}{M:Mv}{pl:List Nat}(hp:af p)(IR:qo p k Z M)(sw:Sw p Z wd done left pl)(hl:M.length=n)(hw:∀ xs∈M,xs.length=wd)(hM:∀ xs∈M,∀ x∈xs,aZ p x):eG p n wd M pl.length:=λF _ hF=>by
 have p0:=hp.lo;have I:=sw.inv p0 (zU p0 IR hw);have B:=Sw.back p0 I hF pl.length (aI _);have bl:=B.len;have zM:=IR.1;have h1:=I.all;have h2:=I.len;obtain⟨r1,r2⟩:=B.rr I.asc I.lt ∅ (L:=(List.range Z.length).map λi=>λj=>vz ((eI p pl (done++left) pl.length).getD i []) j / ic (hJ pl (eI p pl (done++left) pl.length) i)) (by rw[aA,ef]) λi hi=>by
  have e:(List.range Z.length).getD i 0=i:=by rw[aT,j9 hi];rfl
  rw[vO (d:=0) (by rw[ef];exact hi),e]
 have rk:=r1.rk ((pW hF IR hM).symm.trans r2.symm);rw[aA,hl] at rk;exact rk.congr λi j hi hj=>by rw[fC (cM hl hi)]
theorem eG.uniq {p:Int}{n wd r s:Nat}{M:Mv}(hp:af p)(h:eG p n wd M r)(h':eG p n wd M s):r=s:=by
 obtain⟨F,_,hF⟩:=qh hp;exact (h F hF).uniq (h' F hF)
section
variable {G PL cL:Addr}
def yh (G PL:Addr):L2.Sp:=λvs H Q _=>∃ (g t r:Addr) (rs:List Addr) (p hh:Int) (k wd:Nat) (M:Mv),vs=[.ref g,.ref t]/\di G H g p/\af p/\H t=some (.tup [.int hh,.int wd,.ref r])/\nK H p k wd r rs M/\yw p k wd M/\H PL=some ma /\
 ∀ (rk:Nat) H',aa H H'->eG p M.length wd M rk->Q (.int (rk:Nat)) H'
theorem kW (F:bc K "rank" "rank" yp f fd)(T:bp K mg C G S)(Ybx:az P w K mg base "swept" 7 (yL G PL)):ax P w K mg base aW 8 f fd ["ground","table"] (yh G PL):=by
 have nd:=CI.nd;refine F.ok CI (λvs H Q E h=>?_) (λcdv A outer s H vs Q E hr h=>?_)
 .refine qg h λg t r rs p hh k wd M e91 _=>?_;clear h;obtain rfl:=e91;rfl
 .refine vK h λg t r rs p hh k wd M e92 hg hp e93=>?_;clear h;obtain rfl:=e92;refine cY e93 λht rb sm hPL q=>?_;clear e93;refine⟨_,(~~~(bS fo rfl T.n_len fu ((bC<|>(Ybx<$>hr<$>((ae 0)<&>(((cX bC)<|>(ae 1)<||>aq)<&>(((cX bC)<|>(ae 1)<||>aq)<&>ah))))<||>aq)<&>ah))),?_⟩;walk_at "wp";refine⟨_,aB.of ht,_,rfl,_,aB.of ht,_,rfl,g,r,p,rs,M,k,wd,wd,rfl,hg,hp,rb,aI _,hPL,sm,λt' F' pA rs' Z done left pl H1 s1 ht hF hpA nFp ep eF rz nrs IR sw=>?_⟩;refine⟨t',rfl,_,aB.of ht,_,rfl,pA,rfl,_,.inl (aj.of ep),?_⟩;rw[aA];exact q pl.length H1 s1 (sM hp IR sw rfl rb.wd λxs hx x hxx=>(rb.gd xs hx x hxx).1)
def ue:L2.Sp:=λvs H Q _=>∃ a b:Int,vs=[.int a,.int b]/\0<b/\∀ t,H t=none->Q (.ref t) (ao H t (.tup [.int (nrm a b).1,.int (nrm a b).2]))
theorem k9 (F:bc K "_law_lowest" "_law_lowest" wW f fd)(T:bp K mg C G S)(hpt:P.given.tree=none)(Yan:az P w K mg base "_law_gcd" 1 vD):ax P w K mg base aW 2 f fd ["_law_top","_law_bottom"] ue:=by
 have nd:=wX.nd;refine F.ok wX (λvs H Q E h=>?_) (λcdv A outer s H vs Q E hr h=>?_)
 .refine cE h λa b e91 _=>?_;clear h;obtain rfl:=e91;rfl
 .refine cy h λa b e92 hb q=>?_;clear h;obtain rfl:=e92;have dR:∀ {c A B:Prop} [Decidable c],¬ c->B->if c then A else B:=λhc h=>by rw[if_neg hc];exact h
  refine⟨_,((@bI _ _ _ _ _ _ _ _ (fV iF (ae 1) aq (aU _)) (@bE _ _ _ jW) bJ)<*>((2|||nd|||(Yan<$>hr<$>((ae 0)<&>((ae 1)<&>ah))))<*>(~~~(@cb _ _ _ _ _ (((jb hpt (jc hr))<|>(ae 0)<&&>(ae 2))<&>(((jb hpt (jc hr))<|>(ae 1)<&&>(ae 2))<&>ah)))))),?_⟩;walk_at "wp";have g0:=qv (a:=a) hb;refine dR (by rw[dm ∅];decide) ⟨a,b,rfl,_,rfl,∅,_,rfl,∅,⇑0,λt ht=>?_⟩;rw[jV g0,jV g0];exact q t ht
def yf:L2.Sp:=λvs H Q _=>∃ a b:Int,vs=[.int a,.int b]/\b≠0/\∀ t,H t=none->Q (.ref t) (ao H t (.tup [.int (nrS a b).1,.int (nrS a b).2]))
theorem k8 (F:bc K "_law_lowest" "_law_lowest" wW f fd)(T:bp K mg C G S)(hpt:P.given.tree=none)(Yan:az P w K mg base "_law_gcd" 1 vD)(Yag:az P w K mg base "_law_lowest" 2 ue):ax P w K mg base aW 3 f fd ["_law_top","_law_bottom"] yf:=by
 have nd:=wX.nd;refine F.ok wX (λvs H Q E h=>?_) (λcdv A outer s H vs Q E hr h=>?_)
 .refine cE h λa b e93 _=>?_;clear h;obtain rfl:=e93;rfl
 .refine cy h λa b e94 hb q=>?_;clear h;obtain rfl:=e94;refine⟨_,((@bI _ _ _ _ _ _ _ _ (fV iF (ae 1) aq (aU _)) (~~~(Yag<$>hr<$>((fO fU (ae 0))<&>((fO fU (ae 1))<&>ah)))) bJ)<*>((2|||nd|||(Yan<$>hr<$>((ae 0)<&>((ae 1)<&>ah))))<*>(~~~(@cb _ _ _ _ _ (((jb hpt (jc hr))<|>(ae 0)<&&>(ae 2))<&>(((jb hpt (jc hr))<|>(ae 1)<&&>(ae 2))<&>ah)))))),?_⟩;walk_at "wp";refine bA (λhc=>?_) (λhc=>?_)
  .have hc:=dB hc;refine aM (-a) (-b) ⟨rfl,∅,λt ht=>?_⟩;have:=q t ht;unfold nrS at this;rw[if_pos hc] at this;exact this
  .have hc:¬ b<0:=λz=>hc (bR z);have g0:=qv (a:=a) (show 0<b by omega);refine aM a b ⟨rfl,_,rfl,∅,_,rfl,∅,⇑0,λt ht=>?_⟩;rw[jV g0,jV g0];have:=q t ht;unfold nrS at this;rw[if_neg hc] at this;exact this
structure AL (H:Hp)(p:Int)(va vb:V)(x y:Nv):Prop where
 a:aE H p va x
 b:aE H p vb y
 hx:aZ p x
 hy:aZ p y
 bt:∃ n m:Nat,Bt n x.1/\Bt n x.2/\Bt m y.1/\Bt m y.2/\n+m<=134000000
def jN (op:Int->Nv->Nv->Nv):L2.Sp:=λvs H Q _=>∃ (p:Int) (va vb:V) (x y:Nv),vs=[.int p,va,vb]/\af p/\AL H p va vb x y/\∀ v H',aa H H'->aE H' p v (op p x y)->Q v H'
theorem lC (F:bc K "_law_add" "_law_add" zq f fd)(T:bp K mg C G S)(Yag:az P w K mg base "_law_lowest" 2 ue):ax P w K mg base aW 3 f fd ["_law_p","_law_a","_law_b"] (jN fk):=by
 have nd:=D_.nd;refine F.ok D_ (λvs H Q E h=>?_) (λcdv A outer s H vs Q E hr h=>?_)
 .refine vH h λp va vb x y e95 _=>?_;clear h;obtain rfl:=e95;rfl
 .refine g9 h λp va vb x y e96 hp h2 q=>?_;clear h;obtain rfl:=e96;have p0:=hp.lo;refine nB h2.bt λn m b1 b2 b3 b4 nm'=>?_;refine⟨_,((@bI _ _ _ _ _ _ _ _ (fV fM (ae 0) aq (aU _)) (~~~(fE<|>(dI<|>(ae 1)<&&>(ae 2))<&&>(ae 0))) bJ)<*>(~~~(Yag<$>hr<$>((dI<|>(dW<|>(bC<|>(ae 1)<||>aq)<&&>(bC<|>(ae 2)<||>aq))<&&>(dW<|>(bC<|>(ae 2)<||>aq)<&&>(bC<|>(ae 1)<||>aq)))<&>((dW<|>(bC<|>(ae 1)<||>aq)<&&>(bC<|>(ae 2)<||>aq))<&>ah))))),?_⟩;walk_at "wp";refine bA (λhc=>?_) (λhc=>?_)
  .have hc:=dB hc;obtain rfl:=h2.a.int ∅;obtain rfl:=h2.b.int ∅;refine⟨_,rfl,_,rfl,hc,q _ H (aa.refl _) ?_⟩;have:=aE.of (H:=H) (x:=fk p x y) (show ¬ p=0 by omega);rw[fk,if_neg ∅] at this ⊢;exact this
  .have hc:¬ 0<p:=λz=>hc (bR z);have hp0:p=0:=by exact tK p0 hc
   refine ar (h2.a.ref hp0) λta e97 hta=>?_;obtain rfl:=e97;refine ar (h2.b.ref hp0) λtb e98 htb=>?_;obtain rfl:=e98;walk_at "wp";refine⟨_,aB.of hta,_,rfl,_,aB.of htb,_,rfl,_,rfl,_,rfl,b1.ok b4 ∅,_,aB.of htb,_,rfl,_,aB.of hta,_,rfl,_,rfl,_,rfl,b3.ok b2 ∅,_,aB.of hta,_,rfl,_,aB.of htb,_,rfl,_,rfl,_,rfl,b2.ok b4 ∅,?_⟩;refine aM _ _ ⟨rfl,j6 h2.hx.pos h2.hy.pos,λt ht=>q _ _ (aa.new ht) ?_⟩;rw[fk,if_pos hp0];exact aE.tup hp0 aw
theorem kZ (F:bc K "_law_mul" "_law_mul" zz f fd)(T:bp K mg C G S)(Yag:az P w K mg base "_law_lowest" 2 ue):ax P w K mg base aW 3 f fd ["_law_p","_law_a","_law_b"] (jN dN):=by
 have nd:=Ef.nd;refine F.ok Ef (λvs H Q E h=>?_) (λcdv A outer s H vs Q E hr h=>?_)
 .refine vH h λp va vb x y e99 _=>?_;clear h;obtain rfl:=e99;rfl
 .refine g9 h λp va vb x y e910 hp h2 q=>?_;clear h;obtain rfl:=e910;have p0:=hp.lo;refine nB h2.bt λn m b1 b2 b3 b4 nm'=>?_;refine⟨_,((@bI _ _ _ _ _ _ _ _ (fV fM (ae 0) aq (aU _)) (~~~(fE<|>(mw<|>(ae 1)<&&>(ae 2))<&&>(ae 0))) bJ)<*>(~~~(Yag<$>hr<$>((dW<|>(bC<|>(ae 1)<||>aq)<&&>(bC<|>(ae 2)<||>aq))<&>((dW<|>(bC<|>(ae 1)<||>aq)<&&>(bC<|>(ae 2)<||>aq))<&>ah))))),?_⟩;walk_at "wp";refine bA (λhc=>?_) (λhc=>?_)
  .have hc:=dB hc;obtain rfl:=h2.a.int ∅;obtain rfl:=h2.b.int ∅;have p97:=hp.hi;have hx:0<=x.1/\x.1<p:=by rcases h2.hx with ⟨h,_⟩|⟨_,h,h',_⟩ <;> omega
   refine⟨_,rfl,_,rfl,.inl ⟨∅,∅⟩,hc,q _ H (aa.refl _) ?_⟩;have:=aE.of (H:=H) (x:=dN p x y) (show ¬ p=0 by omega);rw[dN,if_neg ∅] at this ⊢;exact this
  .have hc:¬ 0<p:=λz=>hc (bR z);have hp0:p=0:=by exact tK p0 hc
   refine ar (h2.a.ref hp0) λta e911 hta=>?_;obtain rfl:=e911;refine ar (h2.b.ref hp0) λtb e912 htb=>?_;obtain rfl:=e912;walk_at "wp";refine⟨_,aB.of hta,_,rfl,_,aB.of htb,_,rfl,_,rfl,_,rfl,b1.ok b3 ∅,_,aB.of hta,_,rfl,_,aB.of htb,_,rfl,_,rfl,_,rfl,b2.ok b4 ∅,?_⟩;refine aM _ _ ⟨rfl,j6 h2.hx.pos h2.hy.pos,λt ht=>q _ _ (aa.new ht) ?_⟩;rw[dN,if_pos hp0];exact aE.tup hp0 aw
abbrev ck (n:Nat)(x:Nv):Prop:=Bt n x.1/\Bt n x.2
theorem ck.le {n m:Nat}{x:Nv}(h:ck n x)(hm:n<=m):ck m x:=⟨h.1.le hm,h.2.le hm⟩
theorem v_ {p:Int}{x:Nv}(h0:p≠0)(p97:p<=97)(h:aZ p x):ck 7 x:=by
 rcases h with ⟨e,_⟩|⟨_,e1,e2,e3⟩
 .exact absurd e h0
 .exact ⟨dc (aI _) ∅,by rw[e3];exact dc (aI _) ⇑0⟩
theorem yy {a b:Int}{n:Nat}(ha:Bt n a)(hb:Bt n b):ck n (nrm a b):=⟨ha.quo (iS ..),hb.quo (jG ..)⟩
theorem yZ {p:Int}{x y:Nv}{n m:Nat}(hp:af p)(hx:aZ p x)(hy:aZ p y)(h1:ck n x)(h2:ck m y)(h7:7<=n):ck (n+m+1) (fk p x y):=by
 by_cases h0:p=0
 .unfold fk;rw[if_pos h0];refine yy ?_ ((h1.2.mul h2.2).le ∅);have a:=h1.1.mul h2.2;have b:=h2.1.mul h1.2;rw[Nat.add_comm m n] at b;exact Bt.add a b
 .exact (v_ h0 hp.hi (uw hp.lo hx hy)).le ∅
theorem wL {p:Int}{x y:Nv}{n m:Nat}(hp:af p)(hx:aZ p x)(hy:aZ p y)(h1:ck n x)(h2:ck m y)(h7:7<=n+m):ck (n+m) (dN p x y):=by
 by_cases h0:p=0
 .unfold dN;rw[if_pos h0];exact yy (h1.1.mul h2.1) (h1.2.mul h2.2)
 .exact (v_ h0 hp.hi (jd hp.lo hx hy)).le h7
theorem yY {p:Int}{x:Nv}{n:Nat}(hp:af p)(hx:aZ p x)(h:ck n x)(h7:7<=n):ck (n+1) (dN p (dj p (-1)) x):=by
 by_cases h0:p=0
 .unfold dN dj;rw[if_pos h0,if_pos h0];refine yy ?_ ?_
  .exact (show Bt n (-1*x.1) by rw[show -1*x.1=-x.1 by omega];exact h.1.neg).le ∅
  .exact (show Bt n (1*x.2) by rw[Int.one_mul];exact h.2).le ∅
 .exact (v_ h0 hp.hi (jd hp.lo (gN hp.lo) hx)).le ∅
theorem CT {lo:Int}{n:Nat}{D:Addr}{fr:List (Str×Nat)}{σ:L2.St}{tt:TT}{H1:Hp}{Q:VK}(fb:Nat->Bool)(hD:H1 D=none)(hn:n<=1000)(h:∀ (i:Nat) H (Q:Bool->Hp->Prop),i<n->aa H1 H->(∀ H',aa H H'->Q (fb i) H')->tt (some (.int (lo+(i:Nat)))::cH fr σ) H Q)(hQ:∀ H',aa H1 H'->H' D=some (.lst (((List.range n).filter fb).map λi=>V.int (lo+(i:Nat))))->Q (.ref D) H'):eT (cg 0) tt (dS 0) (iY lo n) D (dG 1 fr σ) H1 Q:=by
 refine ur (n:=n) (λi vs H=>aa H1 H/\H D=some (.lst vs)/\vs=(((List.range i).filter fb).map λi=>V.int (lo+(i:Nat)))) ⟨aa.new hD,aw,rfl⟩ ?_ (λvs H ⟨s,e,hv⟩=>hQ H s (by rw[e,hv]));intro i x vs σ' H hi e91;obtain rfl:=e91;intro sh e92;refine bQ e92 λs e e93=>?_;clear e92;obtain rfl:=e93;obtain⟨z,rfl⟩:=sh.one;simp only[fP,cg,List.set_cons_zero];refine h i H _ hi s λH' s'=>?_;have e2:(List.range (i+1)).filter fb=(List.range i).filter fb++(if fb i=true then [i] else []):=by
  rw[jh,List.filter_append];congr 1;cases hb:fb i <;> simp[hb]
 have e':=s' _ _ e;cases hb:fb i with
 | false=>
  rw[hb] at e2;exact vt (ws:=((List.range (i+1)).filter fb).map λi=>V.int (lo+(i:Nat))) hi Sh.mk1 ⟨s.trans s',by rw[e',e2];simp,rfl⟩
 | true=>
  rw[hb,if_pos rfl] at e2;refine⟨_,rfl,fL (ws:=((List.range (i+1)).filter fb).map λi=>V.int (lo+(i:Nat))) hi Sh.mk1 e' (cS ?_) ⟨(s.trans s').upd hD,by rw[aw,e2,dD];rfl,rfl⟩⟩;have:=List.length_filter_le fb (List.range i);rw[aA];rw[ef] at this;omega
structure Bs (p:Int)(x y:Nv):Prop where
 is:aZ p y
 fd:∀ (F:Type) [Lean.Grind.Field F],aO p F->(nm x:F)*nm y=1
 bt:∀ n:Nat,7<=n->ck n x->ck n y
theorem Fz {x:Nv}(hx:aZ 0 x)(h:x.1≠0):Bs 0 x (nrS x.2 x.1):=by
 have iq:=Dd (a:=x.2) h;refine⟨iq.is,λF _ hF=>?_,λn h7 b=>iq.bt n h7 b.2 b.1⟩;rw[iq.fd F hF];have b1:=hF.bot hx;have b2:(ic x.1:F)≠0:=hF.ne0 (.inl rfl) h;unfold nm
 grind
theorem GW {p:Int}{x:Nv}{k:Int}(hp:jx p)(hx:aZ p x)(k0:0<=k)(k1:k<p)(h:k*x.1 % p=1):Bs p x (k,1):=by
 have p1:=hp.1;have p97:=hp.2.1;refine⟨.inr ⟨iD p1,k0,k1,rfl⟩,λF _ hF=>?_,λn h7 _=>⟨dc h7 (by show k.natAbs<128;omega),dc h7 (by show (1:Int).natAbs<128;decide)⟩⟩;have hx2:x.2=1:=by
  rcases hx with ⟨z,_⟩|⟨_,_,_,h⟩
  .omega
  .exact h
 have e:(ic (k*x.1):F)=1:=by rw[<- hF.modF (mj p1),h,gL]
 rw[hF.one];unfold nm;rw[hx2,gL];rw[d7] at e;have:=iC (F:=F)
 grind
def yF:L2.Sp:=λvs H Q _=>∃ (p:Int) (va:V) (x:Nv),vs=[.int p,va]/\af p/\aE H p va x/\aZ p x/\x.1≠0/\∀ v y H',aa H H'->aE H' p v y->Bs p x y->Q v H'
theorem lz (F:bc K "_law_back" "_law_back" zN f fd)(T:bp K mg C G S)(Yag:az P w K mg base "_law_lowest" 3 yf):ax P w K mg base aW 4 f fd ["_law_p","_law_a"] yF:=by
 have nd:=Ew.nd;refine F.ok Ew (λvs H Q E h=>?_) (λcdv A outer s H vs Q E hr h=>?_)
 .refine gK h λp va x e94 _=>?_;clear h;obtain rfl:=e94;rfl
 .refine cD h λp va x e95 hp nx e96=>?_;clear h;obtain rfl:=e95;refine bQ e96 λix x0 q=>?_;clear e96;refine⟨_,((@bI _ _ _ _ _ _ _ _ (bW (qW c9) (ae 0) aq (aU _)) (~~~(Yag<$>hr<$>(((cX bC)<|>(ae 1)<||>aq)<&>(((cX bC)<|>(ae 1)<||>aq)<&>ah)))) bJ)<*>(~~~(aV<|>(eL (own:=["_law_k"]) (fr:=[("_law_a",1),("_law_p",0)]) rfl (c4 (by kernel_rfl)) (jl rfl T.n_range (aq<&>((pv 0)<&>ah))) (λ_ _ _ _=>⟨(0<<<["_law_k","_law_a","_law_p"]),(wj (fV c9 (fE<|>(mw<|>(pv 0)<&&>(pv 1))<&&>(pv 2)) aq (aU _))),(pv 0)⟩))<||>aq))),?_⟩;walk_at "wp";refine bA (λhc=>?_) (λhc=>?_)
  .have hp0:p=0:=by simpa using hc
   subst hp0;refine ar (nx.ref rfl) λta e97 hta=>?_;obtain rfl:=e97;walk_at "wp";exact⟨_,aB.of hta,_,rfl,_,aB.of hta,_,rfl,_,_,rfl,x0,λt ht=>q _ _ _ (aa.new ht) (aE.tup rfl aw) (Fz ix x0)⟩
  .have hp0:¬ p=0:=by simpa using hc
   obtain rfl:=nx.int hp0;have hp1:jx p:=hp.resolve_left hp0;have p1:=hp1.1;have p97:=hp1.2.1;have xr:0<=x.1/\x.1<p:=by rcases ix with ⟨h,_⟩|⟨_,h,h',_⟩ <;> omega
   obtain⟨k,k1,kp,kb⟩:=BX (b:=x.1) hp1 (by rw[mL xr.1 xr.2];exact x0);refine⟨_,rfl,1,p,rfl,⟨⇑0,⇑0,∅,∅⟩,λD hD=>CT (λi=>decide ((1+(i:Nat):Int)*x.1 % p=1)) hD ∅ (λi H4 Q4 hi s4 q4=>?_) λH4 s4 e4=>?_⟩
   .simp only [cH];walk_at "wp";refine⟨_,rfl,_,rfl,.inl ⟨∅,∅⟩,_,rfl,_,rfl,iD p1,?_⟩;exact q4 H4 (aa.refl _)
   .have hmem:k-1∈(List.range (p-1).toNat).filter (λi=>decide ((1+(i:Nat):Int)*x.1 % p=1)):=by
     rw[sj,eC];refine⟨∅,bR ?_⟩;rw[show (1+((k-1:Nat):Int))=k by omega];exact kb
    generalize hL:(List.range (p-1).toNat).filter (λi=>decide ((1+(i:Nat):Int)*x.1 % p=1))=L at *;cases L with
    | nil=>simp at hmem
    | cons i L=>
     have hi:i∈(List.range (p-1).toNat).filter (λi=>decide ((1+(i:Nat):Int)*x.1 % p=1)):=by rw[hL];simp
     rw[sj,eC] at hi;have hib:=dB hi.2;exact⟨D,rfl,_,aj.of e4,_,dH ⇑0 rfl,q _ (1+(i:Int),1) H4 s4 (aE.of (x:=(1+(i:Int),1)) hp0) (GW hp1 ix ∅ ∅ hib)⟩
theorem FU {H:Hp}{t u:Addr}{a b c d:Int}{Q:VK}(neg:Bool)(ht:H t=some (.tup [.int a,.int b]))(hu:H u=some (.tup [.int c,.int d]))(q:Q (.bl (if neg then !(decide (a=c) && decide (b=d)) else (decide (a=c) && decide (b=d)))) H):qR K neg (.ref t) (.ref u) H Q:=by
 have e:∀ i j:Int,eqV (.int i) (.int j)=decide (i=j):=λi j=>by simp[eqV,Bool.beq_eq_decide_eq]
 refine mq t u _ _ [decide (a=c),decide (b=d)] ⟨rfl,rfl,aB.of ht,aB.of hu,⟨rfl,rfl,λj x y z e1 e2 e3=>?_⟩,?_⟩
 .match j,e1,e2,e3 with
  | 0,e1,e2,e3=>
   cases e1;cases e2;cases e3;have:=gD.flat (K:=K) (H:=H) (n:=6) (x:=.int a) (y:=.int c) rfl rfl;rw[e] at this;exact this
  | 1,e1,e2,e3=>
   cases e1;cases e2;cases e3;have:=gD.flat (K:=K) (H:=H) (n:=6) (x:=.int b) (y:=.int d) rfl rfl;rw[e] at this;exact this
  | j+2,e1,e2,e3=>cases e1
 .simpa using q
theorem Cz {H:Hp}{p:Int}{v u:V}{x y:Nv}{Q:VK}(h:aE H p v x)(h':aE H p u y)(hx:aZ p x)(hy:aZ p y)(q:Q (.bl (decide (x≠y))) H):rNeN K v u H Q:=by
 by_cases hp:p=0
 .refine ar (h.ref hp) λt e95 ht=>?_;obtain rfl:=e95;refine ar (h'.ref hp) λt' e96 ht'=>?_;obtain rfl:=e96;refine .inr (FU true ht ht' ?_);have:(if true=true then !(decide (x.1=y.1) && decide (x.2=y.2)) else (decide (x.1=y.1) && decide (x.2=y.2)))=decide (x≠y):=by
   rw[if_pos rfl,<- Bool.decide_and,<- decide_not];exact qG.mpr (not_congr Prod.ext_iff.symm)
  rw[this];exact q
 .obtain rfl:=h.int hp;obtain rfl:=h'.int hp;refine .inl ⟨rfl,?_⟩;have:(!decide (V.int x.1=V.int y.1))=decide (x≠y):=by
   rw[<- decide_not];have h2:x.2=y.2:=by
    rcases hx with ⟨z,_⟩|⟨_,_,_,h1⟩
    .exact absurd z hp
    .rcases hy with ⟨z,_⟩|⟨_,_,_,h2⟩
     .exact absurd z hp
     .rw [h1,h2]
   refine qG.mpr (not_congr ?_);rw[Prod.ext_iff,V.int.injEq];exact⟨λh=>⟨h,h2⟩,λh=>h.1⟩
  rw[this];exact q
def lb (p:Int)(k c:Nat):Nat:=if p=0 then (k+1)*4 ^ c-1 else 7
structure cQ (H:Hp)(p:Int)(b n wd:Nat)(r:Addr)(rs:List Addr)(M:Mv):Prop where
 lst:H r=some (.lst (rs.map V.ref))
 row:ay (bf H p) rs M
 nin:r∉rs
 hl:M.length=n
 hw:∀ xs∈M,xs.length=wd
 gd:∀ xs∈M,cN p b xs
theorem cQ.same {H H':Hp}{p:Int}{b n wd:Nat}{r:Addr}{rs:List Addr}{M:Mv}(h:cQ H p b n wd r rs M)(s:aa H H'):cQ H' p b n wd r rs M:=⟨s _ _ h.lst,h.row.mono λ_ _ k=>k.same s,h.nin,h.hl,h.hw,h.gd⟩
theorem cQ.at {H:Hp}{p:Int}{b n wd:Nat}{r:Addr}{rs:List Addr}{M:Mv}(h:cQ H p b n wd r rs M){i c:Nat}(hi:i<n)(hc:c<wd):∃ (a:Addr) (vs:List V) (v:V),rs[i]?=some a/\a≠r/\H a=some (.lst vs)/\vs.length=wd/\ay (aE H p) vs (M.getD i [])/\vs[c]?=some v/\aE H p v ((M.getD i []).getD c (0,1))/\aZ p ((M.getD i []).getD c (0,1))/\ck b ((M.getD i []).getD c (0,1)):=by
 have hl:=h.hl;have e:M[i]?=some (M.getD i []):=by rw[dk (c3 hi hl)];exact aF _
 refine ar (h.row.at e) λa ea e97=>?_;obtain⟨vs,hv,al⟩:=e97;have hm:M.getD i []∈M:=aY e;have wl:=h.hw _ hm;have vl:=al.1;have ec:(M.getD i [])[c]?=some ((M.getD i []).getD c (0,1)):=by rw[dk (show c<(M.getD i []).length by exact c3 hc wl)];exact aF _
 refine ar (al.at ec) λv ev nv=>?_;have g:=h.gd _ hm _ (aY ec);exact c5 a vs v ⟨ea,λz=>h.nin (z ▸ aY ea),hv,∅,al,ev,nv,g.1,g.2⟩
theorem cQ.set {H:Hp}{p:Int}{b n wd:Nat}{r:Addr}{rs:List Addr}{M:Mv}(h:cQ H p b n wd r rs M){k:Nat}{a:Addr}{xs:List Nv}(hk:k<n)(ha:bf H p a xs)(hr:a≠r)(hx:xs.length=wd){b':Nat}(hb:∀ ys∈M.set k xs,cN p b' ys):cQ (ao H r (.lst ((rs.set k a).map V.ref))) p b' n wd r (rs.set k a) (M.set k xs):=by
 refine⟨aw,(h.row.set k ha).monoM λc ys hc q=>q.put h.lst (λz=>?_),λz=>?_,by rw[dE];exact h.hl,λys hy=>?_,hb⟩
 .rcases fv hc with h1|h1
  .exact h.nin (z ▸ h1)
  .exact hr (h1 ▸ z)
 .rcases fv z with h1|h1
  .exact h.nin h1
  .exact hr h1.symm
 .rcases fv hy with h1|h1
  .exact h.hw ys h1
  .rw [h1];exact hx
theorem mf {A B X:TS}{D:cJ}{σ:L2.St}{H:Hp}(h:∀ X',X'=X->p_ A (p_ B X') D σ H):p_ A (p_ B X) D σ H:=h X rfl
theorem rC {p:Int}{k c:Nat}(h7:7<=k):(p=0->4*lb p k c+2<=lb p k (c+1))/\7<=lb p k c/\lb p k c<=lb p k (c+1):=by
 unfold lb;by_cases h:p=0
 .rw [if_pos h,if_pos h,Nat.pow_succ,<- Nat.mul_assoc];have:(k+1)*1<=(k+1)*4 ^ c:=e_ (aI _) (Nat.pos_of_ne_zero (by simp));exact⟨λ_=>∅,∅,oz94⟩
 .rw [if_neg h,if_neg h];exact⟨λz=>absurd z h,aI _,aI _⟩
theorem lJ {p:Int}{k c d:Nat}(h7:7<=k)(h:c<=d):lb p k c<=lb p k d:=by
 induction d with
 | zero=>rw[show c=0 by omega];exact aI _
 | succ d ih=>
  by_cases e:c=d+1
  .rw [e];exact aI _
  .exact cx (ih (oz108 h e)) (rC h7).2.2
theorem Dc {p:Int}{b:Nat}{xs:List Nv}(h0:p≠0)(p97:p<=97)(h7:7<=b)(h:∀ x∈xs,aZ p x):cN p b xs:=λx hx=>⟨h x hx,(v_ h0 p97 (h x hx)).le h7⟩
theorem pT {p:Int}{x:Nv}(hx:aZ p x)(h:x≠(0,1)):x.1≠0:=λz=>by
 refine h (Prod.ext z ?_);rcases hx with ⟨_,h1,h2⟩|⟨_,_,_,h1⟩
 .rw [z] at h2;simp[Int.gcd] at h2;show x.2=1;omega
 .exact h1
theorem pJ {f:Nv->Nv}{xs:List Nv}{j:Nat}(h:j<xs.length):(xs.map f).getD j (0,1)=f (xs.getD j (0,1)):=by
 rw[aT,bH,aF h,dk h];rfl
abbrev qm (p:Int)(y:Nv)(row:List Nv):List Nv:=row.map λx=>dN p y x
abbrev vC (p:Int)(l:Nv)(row lead:List Nv):List Nv:=(List.range row.length).map λj=>fk p (row.getD j (0,1)) (dN p l (lead.getD j (0,1)))
theorem Ge {p:Int}{F:Type}[Lean.Grind.Field F](hF:aO p F){y:Nv}{row:List Nv}(hy:aZ p y)(hr:∀ x∈row,aZ p x)(j:Nat):(vN (qm p y row) j:F)=nm y*vN row j:=by
 by_cases h:j<row.length
 .unfold vN;rw[pJ h,hF.times hy (hr _ (cq h))]
 .rw [ug (by rw[aA];omega),ug (c8 h)]
  grind
theorem kH {p:Int}{F:Type}[Lean.Grind.Field F](hp:af p)(hF:aO p F){l:Nv}{row lead:List Nv}(hl:aZ p l)(he:row.length=lead.length)(hr:∀ x∈row,aZ p x)(hd:∀ x∈lead,aZ p x)(j:Nat):(vN (vC p l row lead) j:F)=vN row j+nm l*vN lead j:=by
 by_cases h:j<row.length
 .unfold vN;rw[aT,bH,j9 h];have h1:=hr _ (cq (d:=(0,1)) h);have h2:=hd _ (cq (d:=(0,1)) (show j<lead.length by exact b_ he h));show (nm (fk p (row.getD j (0,1)) (dN p l (lead.getD j (0,1)))):F)=_;rw[hF.plus h1 (jd hp.lo hl h2),hF.times hl h2]
 .rw [ug (by rw[aA,ef];exact c8 h),ug (c8 h),ug ∅]
  grind
theorem Gg {p:Int}{b:Nat}(hp:af p)(h7:7<=b){y:Nv}{row:List Nv}(hy:aZ p y)(by':ck b y)(hr:cN p b row):cN p (2*b) (qm p y row):=λx hx=>by
 refine ar (cw.mp hx) λu hu e98=>?_;obtain rfl:=e98;obtain⟨i1,b1⟩:=hr u hu;have:=wL hp hy i1 by' b1 ∅
 rw[<- Nat.two_mul] at this;exact⟨jd hp.lo hy i1,this⟩
theorem kG {p:Int}{b:Nat}(hp:af p)(h7:7<=b){l:Nv}{row lead:List Nv}(hl:aZ p l)(bl:ck (b+1) l)(he:row.length=lead.length)(hr:cN p b row)(hd:cN p (2*b) lead):cN p (4*b+2) (vC p l row lead):=λx hx=>by
 refine ar (cw.mp hx) λj hj e99=>?_;obtain rfl:=e99;have hj:=eC.mp hj;obtain⟨i1,b1⟩:=hr _ (cq (d:=(0,1)) hj);obtain⟨i2,b2⟩:=hd _ (cq (d:=(0,1)) (show j<lead.length by exact b_ he hj));have t1:=wL hp hl i2 bl b2 (oz140 h7);have t2:=yZ hp i1 (jd hp.lo hl i2) b1 t1 h7;exact⟨uw hp.lo i1 (jd hp.lo hl i2),ck.le t2 ∅⟩
theorem B7 {p:Int}(hp:af p):Bt 7 (dj p (-1)).1:=by
 unfold dj;split
 .exact dc (aI _) ⇑0
 .have h1:=gv (-1) (show p≠0 by assumption);have h2:=fY (-1) (show 0<p by have:=hp.lo;omega);have h3:=hp.hi;exact dc (aI _) (by show (-1 % p).natAbs<128;omega)
theorem B8 {p:Int}(hp:af p):Bt 7 (dj p (-1)).2:=by
 unfold dj;split
 .exact dc (aI _) ⇑0
 .exact dc (aI _) (show (1:Int).natAbs<128 by decide)
def nN (H:Hp)(p:Int)(t r1:Addr)(k n wd:Nat)(M:Mv)(c:Nat)(σ:L2.St)(H3:Hp):Prop:=∃ (v6 v7 v8 v9 v10:Option V) (rs2:List Addr) (M2:Mv) (pl:List Nat),σ=[some (.int p),some (.ref t),some (.int n),some (.int wd),some (.ref r1),some (.int (pl.length:Nat)),v6,v7,v8,v9,v10]/\aa H H3/\cQ H3 p (lb p k c) n wd r1 rs2 M2/\(∀ a∈rs2,H a=none)/\∀ (F:Type) [Lean.Grind.Field F],aO p F->ie F n c M M2 pl
def yd:L2.Sp:=λvs H Q _=>∃ (p:Int) (t r:Addr) (rs:List Addr) (k n wd:Nat) (M:Mv),vs=[.int p,.ref t]/\af p/\bM H p k n wd t r rs M/\7<=k/\n<=48/\wd<=24/\(p=0->(k+1)*4 ^ wd<=134000000) /\
 ∀ (t' tm r':Addr) (rs':List Addr) (M':Mv) (pl:List Nat) H',aa H H'->H' t'=some (.tup [.int (pl.length:Nat),.ref tm])->jY H tm r' rs'->bM H' p (lb p k wd) n wd tm r' rs' M'->(∀ (F:Type) [Lean.Grind.Field F],aO p F->ie F n wd M M' pl)->Q (.ref t') H'
theorem pL {p:Int}{k c wd:Nat}(h7:7<=k)(hc:c+1<=wd)(kb:p=0->(k+1)*4 ^ wd<=134000000):4*lb p k c+2<=134000000:=by
 have h1:=(rC (p:=p) (c:=c) h7).1;have h2:=lJ (p:=p) h7 hc;by_cases h0:p=0
 .have h3:lb p k wd<=134000000:=by
   unfold lb;rw[if_pos h0];have:=kb h0;omega
  have:=h1 h0;omega
 .unfold lb;rw[if_neg h0];decide
theorem k6 (F:bc K "_law_reduced" "_law_reduced" Ar f fd)(T:bp K mg C G S)(Ybh:az P w K mg base "_law_copy" 1 yc)(Yac:az P w K mg base "_law_int" 1 mn)(Yai:az P w K mg base "_law_add" 3 (jN fk))(Yae:az P w K mg base "_law_mul" 3 (jN dN))(Yby:az P w K mg base "_law_back" 4 yF):ax P w K mg base aW 5 f fd ["_law_p","_law_table_here"] yd:=by
 have nd:=EV.nd;refine F.ok EV (λvs H Q E h=>?_) (λcdv A outer s H vs Q E hr h=>?_)
 .refine mU h λp t r rs k n wd M e910 _=>?_;clear h;obtain rfl:=e910;rfl
 .refine vJ h λp t r rs k n wd M e911 hp tb e912=>?_;clear h;obtain rfl:=e911;refine cY e912 λk7 n24 w24 kb q=>?_;clear e912;refine⟨_,((dX (Ybh<$>hr<$>((ae 1)<&>ah)) (@dJ _ _ _ _ _ 3 rfl ((2>>>nd)^^^((3>>>nd)^^^((@qA _ _ 4 _ nd rfl (Or.inr rfl) (Or.inl rfl))^^^(@cT _)))) ⇑1 ⇑1))<*>((5|||nd|||aq)<*>((dw cW rfl (fj rfl T.n_range ((pv 3)<&>ah)) (@qA _ _ 6 _ nd rfl (Or.inr rfl) (Or.inl rfl)) ((my (i:=7) (own:=["_law_k"]) (fr:=[("_law_rows_here",4),("_law_column",6),("_law_p",0)]) rfl (c4 (by kernel_rfl)) (jl rfl T.n_range ((pv 5)<&>((pv 2)<&>ah))) (λ_ _ _ _=>⟨(0<<<["_law_k","_law_rows_here","_law_column","_law_p"]),(wj (fV (Cm K rfl (qb hr)) ((ja K rfl)<|>((ja K rfl)<|>(pv 1)<||>(pv 0))<||>(pv 2)) (Yac<$>hr<$>((pv 3)<&>(aq<&>ah))) (aU _))),(pv 0)⟩) nd rfl rfl rfl)<*>((@bI _ _ _ _ _ _ _ _ (fV (BC (qb hr)) (ae 7) (@cU _ _ _ _ ah) (aU _)) (@bE _ _ _ HP) bJ)<*>((dX (@cb _ _ _ _ _ ((aV<|>(ae 4)<||>(ae 5))<&>((aV<|>(ae 4)<||>(aV<|>(ae 7)<||>(fO fU aq)))<&>ah))) (@dJ _ _ _ _ _ 2 rfl ((iJ (ae 4) (aV<|>(ae 7)<||>(fO fU aq)) iM)^^^((iJ (ae 4) (ae 5) iM)^^^(@cT _))) ⇑1 ⇑1))<*>((hV (i:=8) nd rfl (Or.inr rfl) (Yby<$>hr<$>((ae 0)<&>((aV<|>(aV<|>(ae 4)<||>(ae 5))<||>(ae 6))<&>ah))))<*>((dX (eL (own:=["_law_number_here"]) (fr:=[("_law_p",0),("_law_back_here",8)]) rfl (c4 (by kernel_rfl)) (eM (aV<|>(pv 4)<||>(pv 5))) (λ_ _ _ _=>⟨(0<<<["_law_number_here","_law_p","_law_back_here"]),dz,(Yae<$>hr<$>((pv 1)<&>((pv 2)<&>((pv 0)<&>ah))))⟩)) (iJ (ae 4) (ae 5) iM))<*>((dw cW rfl (fj rfl T.n_range ((pv 2)<&>ah)) (9>>>nd) (@bE _ _ _ (@bI _ _ _ _ _ _ _ _ (PW.pt (qk (fV gj (ae 9) (ae 5) (aU _)) (qp (fV (Cm K rfl (qb hr)) (aV<|>(aV<|>(ae 4)<||>(ae 9))<||>(ae 6)) (Yac<$>hr<$>((ae 0)<&>(aq<&>ah))) (aU _))))) ((hV (i:=10) nd rfl (Or.inr rfl) (Yae<$>hr<$>((ae 0)<&>((Yac<$>hr<$>((ae 0)<&>((fO fU aq)<&>ah)))<&>((aV<|>(aV<|>(ae 4)<||>(ae 9))<||>(ae 6))<&>ah)))))<*>(@bE _ _ _ (dX (eL (own:=["_law_a","_law_b"]) (fr:=[("_law_p",0),("_law_less",10)]) rfl (c4 (by kernel_rfl)) (qi rfl T.n_zip ((aV<|>(pv 4)<||>(pv 9))<&>((aV<|>(pv 4)<||>(pv 5))<&>ah))) (λ_ _ _ _=>⟨(@mx _ K rfl _ _ _ _ 2 rfl ((0<<<["_law_a","_law_b","_law_p","_law_less"])^^^((1<<<["_law_a","_law_b","_law_p","_law_less"])^^^(@cT _))) ⇑1 ⇑1),dz,(Yai<$>hr<$>((pv 2)<&>((pv 0)<&>((Yae<$>hr<$>((pv 2)<&>((pv 3)<&>((pv 1)<&>ah))))<&>ah))))⟩)) (iJ (ae 4) (ae 9) iM)))) bJ)))<*>(@bE _ _ _ (5|||nd|||(dI<|>(ae 5)<&&>aq))))))))))<*>(~~~(@cb _ _ _ _ _ ((ae 5)<&>((@cb _ _ _ _ _ ((ae 2)<&>((ae 3)<&>((ae 4)<&>ah))))<&>ah))))))),?_⟩;walk_at "wp";refine nq p n wd t r rs M ⟨rfl,tb.tv,by rw[tb.hl];omega,λt1 r1 rs1 H1 s1 nw1 tb1=>?_⟩;refine⟨t1,rfl,_,aB.of tb1.tup,rfl,_,_,rfl,_,_,rfl,_,_,rfl,rfl,?_⟩;refine⟨_,rfl,(wd:Int),rfl,jM _,jJ (cx w24 ⇑0),hU (n:=wd) (λc σ H3=>nN H p t r1 k n wd M c σ H3)
   ⟨none,none,none,none,none,rs1,M,[],rfl,s1,⟨tb1.lst,tb1.row,tb1.nin,tb.hl,tb.hw,?_⟩,nw1.rs,λF _ hF=>ie.start tb.hl⟩ ?_ ?_⟩
  .intro xs hx;by_cases h0:p=0
   .have:lb p k 0=k:=by unfold lb;rw[if_pos h0];simp
    rw[this];exact tb.gd xs hx
   .exact Dc h0 hp.hi (rC k7).2.1 λx hxx=>(tb.gd xs hx x hxx).1
  .intro c σ H3 hc e91;refine vJ e91 λv6 v7 v8 v9 v10 rs2 M2 pl e913 s3 R3 e914=>?_;clear e91;obtain rfl:=e913;obtain⟨f3,lr⟩:=e914;refine gG λD1 hD1=>?_;simp only[cg,List.set_cons_zero,List.set_cons_succ];obtain⟨F0,_,hF0⟩:=qh hp;have dl:=(lr F0 hF0).dl;have m2:=R3.hl;have rl2:=R3.row.1;refine mf λX hX=>?_;walk_at "wp";have ec:(0:Int)+(c:Int)=(c:Int):=jf _;rw[ec];have aft:∀ (Dn:cJ) (D:Addr) (s:Nat) (L:List Nat) (H4:Hp),(∀ σ H5,nN H p t r1 k n wd M (c+1) σ H5->Dn.nx σ H5)->aa H3 H4->H4 D=some (.lst ((L++[s]).map λ(i:Nat)=>V.int i))->pl.length<=s->s<n->(M2.getD s []).getD c (0,1)≠(0,1)->
     X Dn [some (.int p),some (.ref t),some (.int n),some (.int wd),some (.ref r1),some (.int (pl.length:Nat)),some (.int c),some (.ref D),v8,v9,v10] H4:=by
    intro Dn D s L H4 hDn s4 e4 hs1 hs2 hs3;subst hX;refine bD λX2 hX2=>?_;have R4:=R3.same s4;have rl4:rs2.length=n:=R4.row.1.trans m2;have hpn:pl.length<n:=iW hs1 hs2;have hpM:pl.length<M2.length:=eY hpn m2;have hsM:s<M2.length:=eY hs2 m2;have es:rs2[s]?=some (rs2[s]'(eY hs2 rl4)):=aF _;have ed:rs2[pl.length]?=some (rs2[pl.length]'(eY hpn rl4)):=aF _;generalize hea:rs2[s]'(eY hs2 rl4)=aS at es;generalize hed:rs2[pl.length]'(eY hpn rl4)=aD at ed;have lastL:atI ((L++[s]).map λ(i:Nat)=>V.int i) (-1)=some (.int s):=by
     unfold atI;rw[ux (by simp)];simp
    have rvD:bf H4 p aD (M2.getD pl.length []):=R4.row.2 pl.length _ _ ed (by rw[dk hpM];exact aF _);have rvS:bf H4 p aS (M2.getD s []):=R4.row.2 s _ _ es (by rw[dk hsM];exact aF _);have nD:aD≠r1:=λz=>R4.nin (z ▸ aY ed);have nS:aS≠r1:=λz=>R4.nin (z ▸ aY es);have mD:M2.getD pl.length []∈M2:=cq hpM;have mS:M2.getD s []∈M2:=cq hsM;refine bQ (rC (p:=p) (c:=c) k7) λlb1 lb7 lb2=>?_;have sm4:=pL k7 hc kb;have sm2:lb p k c+lb p k c<=134000000:=∅
    have sm1:7+lb p k c<=134000000:=∅
    -- behind the swap
    have aft2:∀ (rs6:List Addr) (H6:Hp),aa H H6->cQ H6 p (lb p k c) n wd r1 rs6 ((M2.set s (M2.getD pl.length [])).set pl.length (M2.getD s []))->(∀ a∈rs6,H a=none)->
      X2 Dn [some (.int p),some (.ref t),some (.int n),some (.int wd),some (.ref r1),some (.int (pl.length:Nat)),some (.int c),some (.ref D),v8,v9,v10] H6:=by
     intro rs6 H6 s06 R6 f6;subst hX2;refine mf λX3 hX3=>?_;have l0:(M2.set s (M2.getD pl.length [])).length=n:=by rw[dE];exact m2
     have eDrow:((M2.set s (M2.getD pl.length [])).set pl.length (M2.getD s [])).getD pl.length []=M2.getD s []:=by rw[fR (eY hpn l0),if_pos rfl]
     have eOther:∀ i,i≠pl.length->((M2.set s (M2.getD pl.length [])).set pl.length (M2.getD s [])).getD i []=if i=s then M2.getD pl.length [] else M2.getD i []:=λi hi=>by rw[fR (eY hpn l0),if_neg hi,fR hsM]
     generalize (M2.set s (M2.getD pl.length [])).set pl.length (M2.getD s [])=M6 at *;have hl6:=R6.hl;have rl6:rs6.length=n:=R6.row.1.trans hl6;refine cD (R6.at (i:=pl.length) (c:=c) hpn hc) λa6 vs6 v6' ea6 na6 hv6 e915=>?_;refine gk e915 λvl6 al6 ev6 nv6 is6 bt6=>?_;clear e915;rw[eDrow] at al6 nv6 is6 bt6;have gS:=R3.gd _ mS;have wS:=R3.hw _ mS;have x1:=pT is6 hs3;walk_at "wp";refine⟨_,aj.of R6.lst,.ref a6,nh ea6,_,rfl,_,aj.of hv6,v6',fB ev6,p,v6',_,rfl,hp,nv6,is6,x1,λbv y H7 s7 ny iB=>?_⟩;have R7:=R6.same s7;have hv7:=s7 _ _ hv6;have al7:ay (aE H7 p) vs6 (M2.getD s []):=al6.mono λ_ _ q=>q.same s7;have by':=iB.bt _ lb7 bt6
     refine⟨_,rfl,_,rfl,r1,_,_,_,rfl,rfl,aj.of R7.lst,nh ea6,a6,rfl,⟨_,aj.of hv7⟩,λD2 hD2=>rG (λj Hc v=>aE Hc p v (dN p y ((M2.getD s []).getD j (0,1)))) (λq s=>q.same s) (λq hD=>q.put hD) hv7 hD2 (Bz vl6 (cx w24 ⇑0)) (λj v Hc Qc hj sc _ qc=>?_) λws H8 s8 e8 wl hws=>?_⟩
     .refine ar (al7.at' hj) λx ex nx=>?_;obtain⟨ix,bx⟩:=gS x (aY ex);refine⟨_,rfl,_,rfl,_,rfl,p,bv,v,y,x,rfl,hp,⟨ny.same sc,nx.same sc,iB.is,ix,_,_,by'.1,by'.2,bx.1,bx.2,sm2⟩,λu Hd sd nu=>qc u Hd sd ?_⟩;rw[de ex];exact nu
     have R8:=R7.same s8;have wsl:ws.length=(M2.getD s []).length:=(wl.trans vl6).trans wS.symm;have rv8:bf H8 p D2 (qm p y (M2.getD s [])):=⟨ws,e8,by rw[aA];exact wsl,λj v x e1 e2=>by
      have hj:j<(M2.getD s []).length:=wsl ▸ (cj.mp e1).1;have h1:=hws j v e1;rw[bH,aF hj] at e2;cases e2;rwa [dk hj] at h1⟩
     have nD2:D2≠r1:=(cc R7.lst hD2).symm;refine⟨_,R8.lst,pl.length,vq hpn rl6,?_⟩;rw[rL];have sgd:=Gg hp lb7 iB.is by' gS
     have two:2*lb p k c<=lb p k (c+1)\/p≠0:=by
      by_cases h0:p=0
      .have:=lb1 h0;exact .inl (oz77 this)
      .exact .inr h0
     have up:∀ {b:Nat} {xs:List Nv},(p=0->b<=lb p k (c+1))->cN p b xs->cN p (lb p k (c+1)) xs:=λ{b xs} h g=>by
      by_cases h0:p=0
      .exact λx hx=>⟨(g x hx).1,ck.le (g x hx).2 (h h0)⟩
      .exact Dc h0 hp.hi (rC k7).2.1 λx hx=>(g x hx).1
     have R9:=R8.set (k:=pl.length) hpn rv8 nD2 (by rw[aA];exact wS) (b':=lb p k (c+1)) λys hy=>by
      rcases fv hy with h1|h1
      .exact up (λ_=>lb2) (R8.gd ys h1)
      .rw [h1];exact up (λh0=>by have:=lb1 h0;exact oz77 this) sgd
     have s09:aa H (ao H8 r1 (.lst ((rs6.set pl.length D2).map V.ref))):=((s06.trans s7).trans s8).upd nw1.r;have f9:∀ a∈rs6.set pl.length D2,H a=none:=λa ha=>by
      rcases fv ha with h1|h1
      .exact f6 a h1
      .rw [h1];exact (s06.trans s7).free hD2
     have lg:∀ (F:Type) [Lean.Grind.Field F],aO p F->jC F n c 0 M (M6.set pl.length (qm p y (M2.getD s []))) pl:=λF _ hF=>by
      refine (lr F hF).lead hs1 hs2 (a:=nm y) ?_ (by rw[dE];exact hl6) (λj=>?_) (λi hi hne=>?_)
      .exact iB.fd F hF
      .rw [fR (eY hpn hl6),if_pos rfl];exact Ge hF iB.is (λx hx=>(gS x hx).1) j
      .rw [fR (eY hpn hl6),if_neg hne,eOther i hne];split <;> rfl
     have gd9:cN p (2*lb p k c) ((M6.set pl.length (qm p y (M2.getD s []))).getD pl.length []):=by
      rw[fR (eY hpn hl6),if_pos rfl];exact sgd
     have go9:∀ i,0<=i->i<n->i≠pl.length->cN p (lb p k c) ((M6.set pl.length (qm p y (M2.getD s []))).getD i []):=λi _ hi hne=>by
      rw[fR (eY hpn hl6),if_neg hne];exact R6.gd _ (cq (eY hi hl6))
     generalize M6.set pl.length (qm p y (M2.getD s []))=M9 at *;generalize ao H8 r1 (.lst ((rs6.set pl.length D2).map V.ref))=H9 at *;generalize rs6.set pl.length D2=rs9 at *;subst hX3;walk_at "wp";refine⟨_,rfl,(n:Int),rfl,jM _,jJ (cx n24 ⇑0),hU (n:=n) (λkk σ H3=>∃ (v9 v10:Option V) (rs2:List Addr) (M3:Mv),σ=[some (.int p),some (.ref t),some (.int n),some (.int wd),some (.ref r1),some (.int (pl.length:Nat)),some (.int c),some (.ref D),some bv,v9,v10]/\aa H H3/\cQ H3 p (lb p k (c+1)) n wd r1 rs2 M3/\(∀ a∈rs2,H a=none)/\(∀ (F:Type) [Lean.Grind.Field F],aO p F->jC F n c kk M M3 pl)/\cN p (2*lb p k c) (M3.getD pl.length [])/\∀ i,kk<=i->i<n->i≠pl.length->cN p (lb p k c) (M3.getD i []))
      ⟨v9,v10,rs9,M9,rfl,s09,R9,f9,lg,gd9,go9⟩ ?_ ?_⟩
     .intro kk σ H10 hkk e92;refine d6 e92 λu9 u10 rs10 M10 e916 s10 R10 e917=>?_;clear e92;obtain rfl:=e916;refine cG e917 λf10 lg10 gd10 go10=>?_;clear e917;refine gG λD2' hD2'=>?_;simp only[cg,List.set_cons_zero,List.set_cons_succ];refine cutI λY hY=>?_;walk_at "wp";have ek:(0:Int)+(kk:Int)=(kk:Int):=jf _;rw[ek];have hl10:=R10.hl;have rl10:rs10.length=n:=R10.row.1.trans hl10;refine bA (λhne=>?_) (λhne=>?_)
      .have hne:kk≠pl.length:=λz=>by rw[z] at hne;simp at hne
       refine cD (R10.at (i:=kk) (c:=c) hkk hc) λak vsk vk eak nak hvk e918=>?_;refine gk e918 λvlk alk evk nvk isk btk0=>?_;clear e918;have rowk:cN p (lb p k c) (M10.getD kk []):=go10 kk (aI _) hkk hne;have wk:(M10.getD kk []).length=wd:=R10.hw _ (cq (eY hkk hl10));have wdd:(M10.getD pl.length []).length=wd:=R10.hw _ (cq (eY hpn hl10));have btk:ck (lb p k c) ((M10.getD kk []).getD c (0,1)):=(rowk _ (cq (eY hc wk))).2;refine⟨_,aj.of R10.lst,.ref ak,nh eak,_,rfl,_,aj.of hvk,vk,fB evk,p,0,rfl,hp,λu H11 s11 nu=>?_⟩;refine Cz (nvk.same s11) nu isk (gN hp.lo) ⟨_,rfl,?_⟩;rw[wN];refine bA (λhz=>?_) (λhz=>?_)
       .have hz:(M10.getD kk []).getD c (0,1)≠(0,1):=dB hz;subst hY;refine bD λY hY=>?_;walk_at "wp";refine aM p (-1) ⟨rfl,hp,λmv H12 s12 nm1=>?_⟩;have s1112:=s11.trans s12;have R12:=R10.same s1112;refine⟨_,aj.of R12.lst,.ref ak,nh eak,_,rfl,_,aj.of (s1112 _ _ hvk),vk,fB evk,p,mv,vk,dj p (-1),(M10.getD kk []).getD c (0,1),rfl,hp,⟨nm1,nvk.same s1112,gN hp.lo,isk,7,lb p k c,B7 hp,B8 hp,btk.1,btk.2,sm1⟩,λlv H13 s13 nl=>?_⟩;have isl:=jd hp.lo (gN (k:=-1) hp.lo) isk;have btl:=yY hp isk btk lb7;have fdl:∀ (F:Type) [Lean.Grind.Field F],aO p F->(nm (dN p (dj p (-1)) ((M10.getD kk []).getD c (0,1))):F)=-nm ((M10.getD kk []).getD c (0,1)):=λF _ hF=>by
         rw[hF.times (gN hp.lo) isk,hF.intF,vT,gL]
         grind
        generalize dN p (dj p (-1)) ((M10.getD kk []).getD c (0,1))=less at *;have s13':=s1112.trans s13;have R13:=R10.same s13';refine cD (R13.at (i:=pl.length) (c:=c) hpn hc) λad vsd vd ead nad hvd e919=>?_;refine gk e919 λvld ald evd nvd isd btd=>?_;clear e919;have hvk13:=s13' _ _ hvk;have alk13:ay (aE H13 p) vsk (M10.getD kk []):=alk.mono λ_ _ q=>q.same s13';subst hY;walk_at "wp";refine⟨_,rfl,_,rfl,r1,_,_,_,rfl,rfl,aj.of R13.lst,nh eak,_,rfl,_,rfl,r1,_,_,_,rfl,rfl,aj.of R13.lst,nh ead,ak,ad,rfl,⟨_,aj.of hvk13⟩,⟨_,aj.of hvd⟩,λD3 hD3=>DS (λj Hc v=>aE Hc p v (fk p ((M10.getD kk []).getD j (0,1)) (dN p less ((M10.getD pl.length []).getD j (0,1))))) (λq s=>q.same s) (λq hD=>q.put hD) hvk13 hvd (vld.trans vlk.symm) hD3 (Bz vlk (cx w24 ⇑0)) (λj va vb Hc Qc hva hvb sc _ qc=>?_) λws H14 s14 e14 wl hws=>?_⟩
        .refine ar (alk13.at' hva) λxa exa nxa=>?_;refine ar (ald.at' hvb) λxb exb nxb=>?_;obtain⟨ia,ba⟩:=rowk xa (aY exa);obtain⟨ib,bb⟩:=gd10 xb (aY exb);have tb1:=wL hp isl ib btl bb (oz140 lb7);refine⟨_,rfl,_,rfl,_,rfl,_,rfl,_,rfl,p,lv,vb,less,xb,rfl,hp,⟨nl.same sc,nxb.same sc,isl,ib,_,_,btl.1,btl.2,bb.1,bb.2,∅⟩,λm Hd sd hm=>?_⟩;refine mq p va m xa _ ⟨rfl,hp,⟨(nxa.same sc).same sd,hm,ia,jd hp.lo isl ib,_,_,ba.1,ba.2,tb1.1,tb1.2,oz151 sm4⟩,λv He se hv=>qc v He (sd.trans se) ?_⟩;rw[de exa,de exb];exact hv
        have R14:=R13.same s14;have wsk:ws.length=(M10.getD kk []).length:=(wl.trans vlk).trans wk.symm;have rv14:bf H14 p D3 (vC p less (M10.getD kk []) (M10.getD pl.length [])):=⟨ws,e14,by rw[aA,ef];exact wsk,λj v x e1 e2=>by
         have hj:j<(M10.getD kk []).length:=wsk ▸ (cj.mp e1).1;have h1:=hws j v e1;rw[bH,j9 hj] at e2;cases e2;exact h1⟩
        have nD3:D3≠r1:=(cc R13.lst hD3).symm;refine⟨_,R14.lst,kk,vq hkk rl10,?_⟩;rw[rL];have pgd:=kG hp lb7 isl btl (wk.trans wdd.symm) rowk gd10;have R15:=R14.set (k:=kk) hkk rv14 nD3 (by rw[aA,ef];exact wk) (b':=lb p k (c+1)) λys hy=>by
         rcases fv hy with h1|h1
         .exact R14.gd ys h1
         .rw [h1];exact up lb1 pgd
        subst hD2';refine i_ _ _ (rs10.set kk D3) (M10.set kk (vC p less (M10.getD kk []) (M10.getD pl.length []))) ⟨rfl,((s10.trans s13').trans s14).upd nw1.r,R15,λa ha=>?_,λF _ hF=>?_,?_,λi hi1 hi2 hi3=>?_⟩
        .rcases fv ha with h1|h1
         .exact f10 a h1
         .rw [h1];exact (s10.trans s13').free hD3
        .refine (lg10 F hF).take hkk hne (by rw[dE];exact hl10) (λj=>?_) (λi hi hne'=>?_)
         .rw [fR (eY hkk hl10),if_pos rfl,kH hp hF isl (wk.trans wdd.symm) (λx hx=>(rowk x hx).1) (λx hx=>(gd10 x hx).1) j,fdl F hF];rfl
         .rw [fR (eY hkk hl10),if_neg hne']
        .rw [fR (eY hkk hl10),if_neg (fq hne)];exact gd10
        .rw [fR (eY hkk hl10),if_neg (r_ hi1)];exact go10 i (j8 hi1) hi2 hi3
       .have hz:(M10.getD kk []).getD c (0,1)=(0,1):=by
         apply jF;intro z;exact hz (bR z)
        subst hD2';refine i_ _ _ rs10 M10 ⟨rfl,s10.trans s11,R10.same s11,f10,λF _ hF=>(lg10 F hF).skip λ_ _=>?_,gd10,λi hi1 hi2 hi3=>go10 i (j8 hi1) hi2 hi3⟩;unfold vN;rw[hz];exact nI
      .have hne:kk=pl.length:=by
        have:(kk:Int)=(pl.length:Int):=by simpa using hne
        exact oz152 this
       subst hD2';exact i_ _ _ rs10 M10 ⟨rfl,s10,R10,f10,λF _ hF=>(lg10 F hF).skip λh=>absurd hne h,gd10,λi hi1 hi2 hi3=>go10 i (j8 hi1) hi2 hi3⟩
     .intro σ H10 e93;refine d6 e93 λu9 u10 rs10 M10 e920 s10 R10 e921=>?_;clear e93;obtain rfl:=e920;refine cG e921 λf10 lg10 gd10 go10=>?_;clear e921;walk_at "wp";exact hDn _ _ ⟨some (.int c),some (.ref D),some bv,u9,u10,rs10,M10,pl++[c],by simp,s10,R10,f10,λF _ hF=>(lg10 F hF).next⟩
    walk_at "wp";refine⟨_,aj.of R4.lst,.ref aD,nh ed,_,aj.of e4,_,lastL,_,_,rfl,aj.of R4.lst,.ref aS,nh es,⇑0,λtp htp=>?_⟩;have s5:=aa.new (o:=.tup [V.ref aD,V.ref aS]) htp;have R5:=R4.same s5;refine⟨_,aB.of aw,rfl,_,_,rfl,_,aj.of (s5 _ _ e4),_,lastL,_,_,rfl,R5.lst,s,vq hs2 rl4,?_⟩;have R6:=R5.set (k:=s) hs2 (rvD.same s5) nD (R5.hw _ mD) (b':=lb p k c) λys hy=>by
     rcases fv hy with h1|h1
     .exact R5.gd ys h1
     .rw [h1];exact R5.gd _ mD
    rw[rL];have e6:ao (ao H4 tp (.tup [V.ref aD,V.ref aS])) r1 (.lst ((rs2.set s aD).map V.ref)) r1=some (.lst ((rs2.set s aD).map V.ref)):=aw;refine aM _ _ ⟨rfl,_,e6,pl.length,vq hpn ((dE ..).trans rl4),rfl,?_⟩;rw[rL];have rvS6:bf (ao (ao H4 tp (.tup [V.ref aD,V.ref aS])) r1 (.lst ((rs2.set s aD).map V.ref))) p aS (M2.getD s []):=(rvS.same s5).put R5.lst nS;have R7:=R6.set (k:=pl.length) hpn rvS6 nS (R5.hw _ mS) (b':=lb p k c) λys hy=>by
     rcases fv hy with h1|h1
     .exact R6.gd ys h1
     .rw [h1];exact R5.gd _ mS
    refine aft2 _ _ ((((s3.trans s4).trans s5).upd nw1.r).upd nw1.r) R7 λa ha=>?_;rcases fv ha with h1|h1
    .rcases fv h1 with h2|h2
     .exact f3 a h2
     .rw [h2];exact f3 aD (aY ed)
    .rw [h1];exact f3 aS (aY es)
   refine⟨_,rfl,_,rfl,_,_,rfl,⟨jM _,jJ (cx dl (cx n24 ⇑0)),jM _,jJ (cx n24 ⇑0)⟩,λD hD=>CT (λi=>decide ((M2.getD (pl.length+i) []).getD c (0,1)≠(0,1))) hD ∅ (λi H4 Q4 hi s4 q4=>?_) λH4 s4 e4=>?_⟩
   .have hin:pl.length+i<n:=pK (CD ▸ hi);refine cD ((R3.same s4).at hin hc) λa vs v ea nar hv e922=>?_;refine gk e922 λvl al ev nv is bt=>?_;clear e922;have R4:=R3.same s4;simp only[cH];walk_at "wp";refine⟨_,rfl,r1,rfl,_,aj.of R4.lst,.ref a,dH ∅ (by rw[show ((pl.length:Int)+(i:Int)).toNat=pl.length+i by exact oz74,bH,ea];rfl),_,rfl,a,rfl,_,_,rfl,aj.of hv,v,dH i4 (by rw[d5];exact ev),_,rfl,p,0,rfl,hp,λu H5 s5 nu=>?_⟩;refine Cz (nv.same s5) nu is (gN hp.lo) ⟨_,rfl,?_⟩;rw[wN];exact q4 H5 s5
   .generalize hL:(List.range ((n:Int)-(pl.length:Int)).toNat).filter (λi=>decide ((M2.getD (pl.length+i) []).getD c (0,1)≠(0,1)))=L at e4;have memL:∀ i,i∈L ↔ i<n-pl.length/\(M2.getD (pl.length+i) []).getD c (0,1)≠(0,1):=λi=>by
     rw[<- hL,sj,eC,Bc,CD]
    refine⟨⇑0,λE0' hE0=>?_⟩;have s5:=aa.new (o:=.lst []) hE0;refine⟨D,rfl,_,aj.of (s5 _ _ e4),_,aj.of aw,?_⟩;rcases List.eq_nil_or_concat L with e|⟨L0,i,e⟩
    .subst e;refine .inr ⟨[],⟨rfl,rfl,λj x y b e1=>by simp at e1⟩,?_⟩;rw[if_pos (by rfl)];subst hD1;refine mR _ _ _ _ _ rs2 M2 pl ⟨rfl,(s3.trans s4).trans s5,?_,f3,λF _ hF=>(lr F hF).skip λi h1 h2=>?_⟩
     .have R5:=(R3.same s4).same s5;exact⟨R5.lst,R5.row,R5.nin,R5.hl,R5.hw,λxs hx x hxx=>⟨(R5.gd xs hx x hxx).1,ck.le (R5.gd xs hx x hxx).2 (rC k7).2.2⟩⟩
     .have:(M2.getD i []).getD c (0,1)=(0,1):=by
       apply jF;intro z;have:=(memL (i-pl.length)).mpr ⟨oz36 h1 h2,by rw[show pl.length+(i-pl.length)=i by exact oz58 h1];exact z⟩;simp at this
      unfold vN;rw[this];exact nI
    .rw [List.concat_eq_append] at e;subst e;refine .inl ⟨by simp,?_⟩;obtain⟨h1,h2⟩:=(memL i).mp (by simp);refine aft _ D (pl.length+i) (L0.map λj=>pl.length+j) _ (λσ H5 h=>by rw[hD1];exact h) (s4.trans s5) ?_ ∅ (oz61 h1) h2;rw[s5 _ _ e4];simp
  .intro σ H3 e94;refine vJ e94 λv6 v7 v8 v9 v10 rs2 M2 pl e923 s3 R3 e924=>?_;clear e94;obtain rfl:=e923;obtain⟨f3,lr⟩:=e924;walk_at "wp";refine⟨⇑0,λtm htm=>⟨⇑0,λt' ht'=>?_⟩⟩;have s4:=aa.new (o:=.tup [V.int n,V.int wd,V.ref r1]) htm;have s5:=aa.new (o:=.tup [V.int (pl.length:Nat),V.ref tm]) ht';have s45:=s4.trans s5;exact q t' tm r1 rs2 M2 pl _ (s3.trans s45) aw ⟨s3.free htm,nw1.r,f3⟩ ⟨⟨s5 _ _ aw,s45 _ _ R3.lst,R3.row.mono λ_ _ k=>k.same s45,R3.nin⟩,R3.hl,R3.hw,R3.gd⟩ lr
end
end Pf
namespace Pf
open PySem L2 L3 PyProof.Rows
section
variable {C PL:Addr}
theorem bM.tab {H:Hp}{p:Int}{k n wd:Nat}{t r:Addr}{rs:List Addr}{M:Mv}(h:bM H p k n wd t r rs M)(hk:k<=1000000):eU H p n wd t r rs:=by
 have hl:=h.tv.row.1;have h2:=h.hl;refine⟨h.tv.tup,h.tv.lst,∅,λa ha=>?_,h.tv.nin⟩;obtain⟨i,hi,rfl⟩:=d9.mp ha;refine ar (h.tv.row.at' (aF hi)) λxs ex e91=>?_;obtain⟨vs,hv,al⟩:=e91;have hx:=aY ex;refine⟨vs,hv,by rw[al.1,h.hw xs hx],λv hvm=>?_⟩;obtain⟨j,hj,rfl⟩:=d9.mp hvm;refine ar (al.at' (aF hj)) λx e2 nv=>?_;refine bQ (h.gd xs hx x (aY e2)) λi1 b1 b2=>?_;exact⟨x,nv,i1,yv b1 hk,yv b2 hk⟩
structure Ig (S C G:Addr)(H:Hp)(x:Addr)(p m:Int)(ns:List Int)(dx g d z l lp:Addr)(xs:List V):Prop where
 ins:H x=some (.ins S dx (i7 g d z l))
 grd:di G H g p
 drw:hE C H d m lp xs
 szs:bU H z ns
 hm:(ns.length:Int)=m
end
end Pf
namespace Pf
open PySem L2 PyProof.Rows
section
variable {C G S:Addr}
theorem B4 {a b:Addr}{xs ys:List V}{g:TG}{tb:TS}{Dn:cJ}{σ:L2.St}{H:Hp}(Pv:Nat->L2.St->Hp->Prop)(hlen:ys.length=xs.length)(h0:Pv 0 σ H)(hl:∀ i σ H,i<=xs.length->Pv i σ H->aj K H a xs/\aj K H b ys)(hs:∀ (i:Nat) x y p σ H,xs[i]?=some x->ys[i]?=some y->H p=none->Pv i σ H->g (.ref p) σ (ao H p (.tup [x,y])) λσ2 H2=>tb { Dn with nx:=Pv (i+1),ct:=Pv (i+1),bk:=Dn.nx } σ2 H2)(hd:∀ σ H,Pv xs.length σ H->Dn.nx σ H):
  ∃ W:Nat->Nat->L2.St->Hp->Prop,(∃ m,W 0 m σ H)/\∀ i m σ H,W i m σ H->
   ((nY K a b).stop i H/\Dn.nx σ H)\/((nY K a b).go i H/\∃ N:L2.St->Hp->Prop,(∀ σ' H',N σ' H'->∃ m',m'<m/\W (i+1) m' σ' H')/\∀ x H',(nY K a b).yld i H x H'->g x σ H' λσ2 H2=>tb { Dn with nx:=N,ct:=N,bk:=Dn.nx } σ2 H2):=by
 refine⟨λi m σ H=>m=xs.length-i/\i<=xs.length/\Pv i σ H,⟨xs.length,by simp,eB _,h0⟩,?_⟩;intro i m σ H e91;refine bQ e91 λe92 hi p=>?_;clear e91;obtain rfl:=e92;obtain⟨q1,q2⟩:=hl i σ H hi p;by_cases hlt:i<xs.length
 .refine .inr ⟨⟨xs,ys,xs[i],ys[i]'(cM hlen hlt),q1,q2,by simp[hlt],by simp[hlen,hlt]⟩,Pv (i+1),λσ' H' p'=>⟨xs.length-(i+1),oz144 hlt,rfl,hlt,p'⟩,λx H' y=>?_⟩;refine cD y λu v pp e93 hp e94 e95=>?_;clear y;obtain rfl:=e93;obtain rfl:=e94;obtain⟨e1,e2⟩:=e95;exact hs i u v pp σ _ (e1 xs q1) (e2 ys q2) hp p
 .have e:i=xs.length:=∅
  subst e;exact .inl ⟨⟨xs,ys,q1,q2,.inl (aI _)⟩,hd σ H p⟩
end
end Pf
namespace Pf
open PySem L2 L3 PyProof.Rows
section
variable {C PL:Addr}
abbrev Tc:=Int×Int×List (List V)
def nz (ns:List Int)(i:Int):Nat:=(ns.getD i.toNat 0).toNat
theorem vv {H:Hp}{z:Addr}{ns:List Int}(h:bU H z ns)(i:Int):nz ns i<=24/\((nz ns i:Nat):Int)=ns.getD i.toNat 0:=by
 unfold nz;by_cases q:i.toNat<ns.length
 .have:=h.2.2 _ (cq (d:=0) q);exact oz135 this
 .rw [aT,cZ ∅];exact⟨⇑0,rfl⟩
def iN (H:Hp)(p:Int)(k:Nat)(l:Addr)(ts:List Addr)(ps:List (Int×Int))(ns:List Int)(Ms:List Mv):Prop:=H l=some (.lst (ts.map V.ref))/\ts.length=ps.length/\∀ (i:Nat) t q,ts[i]?=some t->ps[i]?=some q->∃ r rs,bM H p k (nz ns q.2) (nz ns q.1) t r rs (Ms.getD i [])
theorem iN.same {H H':Hp}{p:Int}{k:Nat}{l:Addr}{ts:List Addr}{ps:List (Int×Int)}{ns:List Int}{Ms:List Mv}(h:iN H p k l ts ps ns Ms)(s:aa H H'):iN H' p k l ts ps ns Ms:=⟨s _ _ h.1,h.2.1,λi t n e1 e2=>let ⟨r,rs,tb⟩:=h.2.2 i t n e1 e2;⟨r,rs,tb.same s⟩⟩
structure AO (H0:Hp)(S C G:Addr)(H:Hp)(x:Addr)(p m:Int)(ps:List (Int×Int))(ns:List Int)(k:Nat)(Ms:List Mv)(dx g d z l lp:Addr)(xs:List V)(ts:List Addr):Prop where
 sa:Ig S C G H x p m ns dx g d z l lp xs
 prs:cK H xs ps
 lst:H l=some (.lst (ts.map V.ref))
 len:ts.length=ps.length
 tbs:∀ (i:Nat) t q,ts[i]?=some t->ps[i]?=some q->∃ r rs,bM H p k (nz ns q.2) (nz ns q.1) t r rs (Ms.getD i [])/\jY H0 t r rs
 nz:H0 z=none
 nl:H0 l=none
theorem kh {H H':Hp}{p:Int}{k n wd:Nat}{t r t' r':Addr}{rs rs':List Addr}{M:Mv}{MV:List (List V)}(tb:bM H p k n wd t r rs M)(tc:cu H p n wd t r rs MV)(s:aa H H')(tc':cu H' p n wd t' r' rs' MV):bM H' p k n wd t' r' rs' M:=by
 have l1:=tc.tab.len;have l2:=tc'.tab.len;have l3:=tb.tv.row.1;refine⟨⟨tc'.tab.tup,tc'.tab.lst,⟨∅,λi a xs e1 e2=>?_⟩,tc'.tab.nin⟩,tb.hl,tb.hw,tb.gd⟩;have hi:=(cj.mp e2).1;refine ar (tb.tv.row.at (i:=i) e2) λb eb e91=>?_;obtain⟨vs,hv,al⟩:=e91;have h1:=tc.con i b eb;rw[hv] at h1;have e3:vs=MV.getD i []:=by cases h1;rfl
 refine⟨MV.getD i [],tc'.con i a e1,?_⟩;rw[<- e3];exact al.mono λ_ _ q=>q.same s
theorem kj {S G:Addr}{H:Hp}{x dx g d z l lp:Addr}{p m:Int}{k:Nat}{xs:List V}{ps:List (Int×Int)}{ns:List Int}{ts:List Addr}{Ms:List Mv}{Q:VK}{E:XK}(hx:H x=none)(hdx:H dx=none)(ndx:dx≠x)(hg:di G H g p)(hp:af p)(hd:hE C H d m lp xs)(pr:cK H xs ps)(ip:iA m ps)(p9:ps.length<=9)(hz:bU H z ns)(hm:(ns.length:Int)=m)(hT:iN H p k l ts ps ns Ms)(hk:k<=1000000)(q:∀ (dx z' l':Addr) (ts':List Addr) (H':Hp),aa H H'->AO H S C G H' x p m ps ns k Ms dx g d z' l' lp xs ts'->Q .non H'):spSI S C G [.ref x,.ref g,.ref d,.ref z,.ref l] (ao (ao H dx (.own x)) x (.ins S dx [])) Q E:=by
 have fx:(ao H dx (.own x)) x=none:=by rw[aJ ndx.symm];exact hx
 have sx:aa H (ao (ao H dx (.own x)) x (.ins S dx [])):=(aa.new hdx).trans (aa.new fx);refine ar hd λdd hd1 hd2=>?_;clear hd;have hl:=hT.2.1;obtain⟨cs,hcs⟩:=ay.pick (xs:=List.range ps.length) (P:=λi (c:Tc)=>∃ (t r:Addr) (rs:List Addr) (qq:Int×Int),ts[i]?=some t/\ps[i]?=some qq/\bM H p k (nz ns qq.2) (nz ns qq.1) t r rs (Ms.getD i [])/\c.1=(nz ns qq.2:Nat)/\c.2.1=(nz ns qq.1:Nat)/\cu H p c.1 c.2.1 t r rs c.2.2) λi hi=>by
  have hi:=eC.mp hi;have e1:ts[i]?=some (ts[i]'(cM hl hi)):=aF _;have e2:ps[i]?=some ps[i]:=aF hi;refine i9 (hT.2.2 i _ _ e1 e2) λr rs tb=>?_;obtain⟨MV,tc⟩:=(tb.tab hk).toC;exact mq (_,_,MV) _ r rs _ ⟨e1,e2,tb,rfl,rfl,tc⟩
 have cl:cs.length=ps.length:=by have:=hcs.1;rw[ef] at this;exact oz34 this
 have at1:∀ (i:Nat) c,cs[i]?=some c->∃ (t r:Addr) (rs:List Addr) (qq:Int×Int),ts[i]?=some t/\ps[i]?=some qq/\bM H p k (nz ns qq.2) (nz ns qq.1) t r rs (Ms.getD i [])/\c.1=(nz ns qq.2:Nat)/\c.2.1=(nz ns qq.1:Nat)/\cu H p c.1 c.2.1 t r rs c.2.2:=λi c e=>by
  refine ar (hcs.at (i:=i) e) λj ej h=>?_;have hi:=(cj.mp e).1;rw[j9 (b_ cl hi)] at ej;cases ej;exact h
 have tbs:gr H p l ts cs:=by
  refine⟨hT.1,∅,∅,λi t c e1 e2=>?_⟩;refine d6 (at1 i c e2) λt' r rs qq f1 f2 tb e92=>?_;refine bQ e92 λc1 c2 tc=>?_;clear e92;rw[e1] at f1;cases f1;have n1:=vv hz qq.1;have n2:=vv hz qq.2;exact⟨⟨r,rs,tc⟩,oz104 c1,oz120 c1 n2,oz104 c2,oz120 c2 n1⟩
 have ft:vi ns cs ps:=⟨cl,λi c qq e1 e2=>by
  refine d6 (at1 i c e1) λt' r rs q' f1 f2 tb e93=>?_;refine bQ e93 λc1 c2 tc=>?_;clear e93;rw[e2] at f2;cases f2;rw[c1,c2,(vv hz qq.1).2,(vv hz qq.2).2];exact⟨rfl,rfl⟩⟩
 refine rm x dx g d z l lp p m xs ps ns ts cs ⟨rfl,aw,hg.same sx,hp,⟨dd,sx _ _ hd1,sx _ _ hd2⟩,pr.same sx,ip,p9,hz.same sx,hm,tbs.same sx,ft,λz' l' ts' H' ex hx' fz fl' hz' hl' hn' ht'=>?_⟩;have sH:aa H H':=aa.thru sx hx ex;refine q dx z' l' ts' H' sH ⟨⟨hx',hg.same sH,⟨dd,sH _ _ hd1,sH _ _ hd2⟩,hz',hm⟩,pr.same sH,hl',∅,λi t qq e1 e2=>?_,sx.free fz,sx.free fl'⟩;have hi:=(cj.mp e1).1;have ec:cs[i]?=some (cs[i]'(by omega)):=aF _;refine d6 (at1 i _ ec) λt' r rs q' f1 f2 tb e94=>?_;refine bQ e94 λc1 c2 tc=>?_;clear e94;rw[e2] at f2;cases f2;refine gh (ht' i t _ e1 ec) λr' rs' tc' ft' fr' fs'=>?_;rw[c1,c2] at tc tc';exact aM r' rs' ⟨kh tb tc sH tc',sx.free ft',sx.free fr',λa ha=>sx.free (fs' a ha)⟩
theorem bM.put {H:Hp}{D:Addr}{l:List V}{o:HO}{p:Int}{k n wd:Nat}{t r:Addr}{rs:List Addr}{M:Mv}(h:bM H p k n wd t r rs M)(hD:H D=some (.lst l))(nr:r≠D)(ns:D∉rs):bM (ao H D o) p k n wd t r rs M:=⟨h.tv.put hD nr ns,h.hl,h.hw,h.gd⟩
theorem cutF {wi:TI}{g:TG}{tb:TS}{D:cJ}{σ:L2.St}{H:Hp}(h:∀ tb',tb'=tb->tFor wi g tb' D σ H):tFor wi g tb D σ H:=h tb rfl
end
end Pf
namespace Pf
open PySem L2 PyProof.Rows
section
variable {C G S:Addr}
theorem B9 {H:Hp}{n:Nat}(i j:Int):gD K H n (.int i) (.int j) (decide (i=j)):=by
 have:=gD.flat (K:=K) (H:=H) (n:=n) (x:=.int i) (y:=.int j) rfl rfl;rwa [show eqV (.int i) (.int j)=decide (i=j) by simp only[eqV];rw[nQ];simp] at this
theorem FV {H:Hp}{n:Nat}{t u:Addr}{q r:Int×Int}(ht:H t=some (.tup [.int q.1,.int q.2]))(hu:H u=some (.tup [.int r.1,.int r.2])):gD K H (n+1) (.ref t) (.ref u) (decide (q=r)):=by
 by_cases h:t=u
 .subst h;rw[ht] at hu;have:q=r:=by
   injection hu with hu
   injection hu with hu
   injection hu with a b
   injection b with b c
   injection a with a
   injection b with b
   exact Prod.ext a b
  rw[bR this];exact .same
 .have:=gD.tuple (n:=n) (bs:=[decide (q.1=r.1),decide (q.2=r.2)]) h (aB.of (K:=K) ht) (aB.of hu) rfl rfl λj x y b e1 e2 e3=>by
   match j,e1,e2,e3 with
   | 0,e1,e2,e3=>cases e1;cases e2;cases e3;exact B9 _ _
   | 1,e1,e2,e3=>cases e1;cases e2;cases e3;exact B9 _ _
   | j+2,e1,_,_=>cases e1
  have e:[decide (q.1=r.1),decide (q.2=r.2)].all id=decide (q=r):=by
   simp only[uS,List.all_nil,id,xj];rw[<- Bool.decide_and];exact qG.mpr ⟨λ⟨a,b⟩=>Prod.ext a b,λh=>h ▸ ⟨rfl,rfl⟩⟩
  rwa [e] at this
theorem B0 {α:Type}[DecidableEq α]:∀ {xs ys:List α},xs.length=ys.length->(List.zipWith (λa b=>decide (a=b)) xs ys).all id=decide (xs=ys)
 | [],[],_=>rfl
 | x::xs,y::ys,h=>by
  have ih:=B0 (xs:=xs) (ys:=ys) (by simpa using h);rw[List.zipWith_cons_cons,uS,ih];simp only[id];rw[<- Bool.decide_and];exact qG.mpr ⟨λ⟨a,b⟩=>by rw[a,b],λh=>by injection h with a b;exact⟨a,b⟩⟩
 | [],_::_,h=>by simp at h
 | _::_,[],h=>by simp at h
theorem kB {H:Hp}{xs ys:List V}{ps qs:List (Int×Int)}(h:cK H xs ps)(h':cK H ys qs)(hl:ps.length=qs.length):uk K H 6 xs ys (List.zipWith (λa b=>decide (a=b)) ps qs):=by
 have l1:=h.1;have l2:=h'.1;refine⟨∅,by rw[ve];exact oz73 hl l1,λj x y b e1 e2 e3=>?_⟩;have j1:j<ps.length:=by have:=(cj.mp e1).1;exact b_ l1 this
 refine ar (h.2 j x _ e1 (aF j1)) λt e91 ht=>?_;obtain rfl:=e91;refine ar (h'.2 j y _ e2 (aF (b_ hl j1))) λu e92 hu=>?_;obtain rfl:=e92;rw[List.getElem?_zipWith,aF j1,aF (show j<qs.length by exact b_ hl j1)] at e3;cases e3;exact FV ht hu
def spOn (S C G:Addr):Sp:=λvs H Q _=>∃ (x dx g d z l g' d' lp lp':Addr) (p p' m m':Int) (xs ys:List V) (ps qs:List (Int×Int)),vs=[.ref x,.ref g',.ref d']/\H x=some (.ins S dx (i7 g d z l))/\di G H g p/\di G H g' p'/\hE C H d m lp xs/\hE C H d' m' lp' ys/\cK H xs ps/\cK H ys qs/\Q (.bl (decide (p=p'/\m=m'/\ps=qs))) H
theorem sV (F:bc K "stands_on" "stands_on" Ad f fd)(T:bp K mg C G S):ax P w K mg base aW 1 f fd ["standing","ground","drawing"] (spOn S C G):=by
 have nd:=EF.nd;refine F.ok EF (λvs H Q E h=>?_) (λcdv A outer s H vs Q E hr h=>?_)
 .refine oj h λx dx g d z l g' d' lp lp' p p' m m' xs ys ps qs e93 _=>?_;clear h;obtain rfl:=e93;rfl
 .refine oi h λx dx g d z l g' d' lp lp' p p' m m' xs ys ps qs e94 hx e95 e96=>?_;clear h;obtain rfl:=e94;obtain⟨dg,hg⟩:=e95;refine gk e96 λe97 e98 e99 pr pr' q=>?_;clear e96;obtain⟨dg',hg'⟩:=e97;obtain⟨dd,hd,hlp⟩:=e98;obtain⟨dd',hd',hlp'⟩:=e99;refine⟨_,((@bI _ _ _ _ _ _ _ _ (PW.pt (fm (bW gj (gM (eA (ae 0) rfl) rfl) (eA (ae 1) rfl) (aU _)) (gm (bW gj (gM (eA (ae 0) rfl) rfl) (eA (ae 2) rfl) (aU _))))) (~~~eJ) bJ)<*>(~~~(gO (BC (qb hr)) (gM (eA (ae 0) rfl) rfl) (eA (ae 2) rfl) (aU _)))),?_⟩;walk_at "wp";refine c5 S dx _ ⟨hx,T.cl_Standing,T.nSg,_,wO ..,g,rfl,G,dg,_,hg,T.cl_Ground,T.nP,_,jA p,G,dg',_,hg',T.cl_Ground,T.nP,_,jA p',rfl,bA (λhc=>?_) (λhc=>?_)⟩
  .have:¬ p=p':=by simpa using hc
   rw[dm (λh=>this h.1)] at q;exact q
  .have e1:p=p':=by simpa using hc
   refine c5 S dx _ ⟨hx,T.cl_Standing,T.nSd,_,uF ..,d,rfl,C,dd,_,hd,T.cl_Drawing,T.nM,_,zg m lp,C,dd',_,hd',T.cl_Drawing,T.nM,_,zg m' lp',rfl,bA (λhc=>?_) (λhc=>?_)⟩
   .have:¬ m=m':=by simpa using hc
    rw[dm (λh=>this h.2.1)] at q;exact q
   .have e2:m=m':=by simpa using hc
    refine c5 S dx _ ⟨hx,T.cl_Standing,T.nSd,_,uF ..,d,rfl,C,dd,_,hd,T.cl_Drawing,T.nA,_,rQ m lp,C,dd',_,hd',T.cl_Drawing,T.nA,_,rQ m' lp',?_⟩;by_cases hl:ps.length=qs.length
    .refine ⟨lp,rfl,lp',rfl,_,aj.of hlp,_,aj.of hlp',.inr ⟨_,kB pr pr' hl,?_⟩⟩;rw[B0 hl];have:decide (p=p'/\m=m'/\ps=qs)=decide (ps=qs):=qG.mpr ⟨λh=>h.2.2,λh=>⟨e1,e2,h⟩⟩;rw[this] at q;exact q
    .refine ⟨lp,rfl,lp',rfl,_,aj.of hlp,_,aj.of hlp',.inl ⟨by rw[pr.1,pr'.1];exact hl,?_⟩⟩;rw[dm (λh=>hl (by rw[h.2.2]))] at q;exact q
theorem Gm (F:bc K "_law_drawing" "_law_drawing" Aq f fd)(T:bp K mg C G S)(Yaa:az P w K mg base "_law_draw" 1 iK):ax P w K mg base aW 2 f fd ["_law_bag_here"] (spOut way0):=by
 have nd:=EU.nd;refine F.ok EU (λvs H Q E h=>?_) (λcdv A outer s H vs Q E hr h=>?_)
 .refine cy h λl r e95 e96 _=>?_;clear h;obtain rfl:=e95;obtain rfl:=e96;rfl
 .refine gh h λl r e97 e98 hb q=>?_;clear h;obtain rfl:=e97;obtain rfl:=e98;refine⟨_,((1|||nd|||(dI<|>aq<&&>(Yaa<$>hr<$>((ae 0)<&>(aq<&>ah)))))<*>((@bI _ _ _ _ _ _ _ _ (bW c9 (Yaa<$>hr<$>((ae 0)<&>(aq<&>ah))) aq (aU _)) (@bE _ _ _ (1|||nd|||aq)) bJ)<*>((2|||nd|||(Yaa<$>hr<$>((ae 0)<&>(aq<&>ah))))<*>((my (i:=3) (own:=["_law_k"]) (fr:=[]) rfl (c4 (by kernel_rfl)) (fj rfl T.n_range ((fQ<|>(pv 1)<&&>aq)<&>ah)) (λ_ _ _ _=>⟨(0<<<["_law_k"]),dz,(@cb _ _ _ _ _ ((pv 0)<&>((dI<|>(pv 0)<&&>aq)<&>ah)))⟩) nd rfl rfl rfl)<*>((@bI _ _ _ _ _ _ _ _ (bW (qW c9) (ae 2) aq (aU _)) ((1|||nd|||aq)<*>(@bE _ _ _ (3|||nd|||(@cU _ _ _ _ ((@cb _ _ _ _ _ (aq<&>(aq<&>ah)))<&>((@cb _ _ _ _ _ (aq<&>(aq<&>ah)))<&>((@cb _ _ _ _ _ (aq<&>(aq<&>ah)))<&>ah))))))) bJ)<*>((@bI _ _ _ _ _ _ _ _ (bW (qW c9) (ae 2) aq (aU _)) ((3|||nd|||(@cU _ _ _ _ ah))<*>(@bE _ _ _ (dw cW rfl (fj rfl T.n_range ((Yaa<$>hr<$>((pv 0)<&>(aq<&>ah)))<&>ah)) (4>>>nd) ((5|||nd|||(Yaa<$>hr<$>((ae 0)<&>((ae 1)<&>ah))))<*>(@bE _ _ _ (gp (fN f_ gC gB (mtJ fW) (ae 3) ((@cb _ _ _ _ _ ((ae 5)<&>((Yaa<$>hr<$>((ae 0)<&>((ae 1)<&>ah)))<&>ah)))<&>ah)))))))) bJ)<*>((6|||nd|||(@cU _ _ _ _ ah))<*>((dw cW rfl (eM (pv 3)) (@dJ _ _ _ _ _ 2 rfl ((5>>>nd)^^^((7>>>nd)^^^(@cT _))) ⇑1 ⇑1) ((8|||nd|||(Yaa<$>hr<$>((ae 0)<&>(aq<&>ah))))<*>(@bE _ _ _ (gp (fN f_ gC gB (mtJ fW) (ae 6) ((aV<|>(@cU _ _ _ _ ((@cb _ _ _ _ _ ((ae 5)<&>((ae 7)<&>ah)))<&>((@cb _ _ _ _ _ ((ae 7)<&>((ae 5)<&>ah)))<&>ah)))<||>(ae 8))<&>ah))))))<*>(~~~(@cb _ _ _ _ _ ((ae 1)<&>((ae 6)<&>ah)))))))))))),?_⟩;refine bD λX hX=>?_;walk_at "wp";refine hb.draw ⇑0 ⇑0 λr H1 r0 r1 e1 b1=>⟨r,rfl,?_⟩
  subst hX;refine bD λX2 hX2=>?_;have aft:∀ (m:Int) H2,1<=m->m<=8->aP l H H2->a_ H2 l->X2 { nx:=λx H'=>Q V.non H',rt:=Q } [some (.ref l),some (.int m),none,none,none,none,none,none,none] H2:=by
   intro m H2 m1 m8 e2 b2;subst hX2;refine mf λX3 hX3=>?_;walk_at "wp";refine b2.draw ⇑0 ⇑0 λw0 H3 w1 w2 e3 b3=>⟨_,rfl,_,_,rfl,rfl,_,rfl,∅,∅,λD hD=>Hn (m:=m) (λi=>0+(i:Int)) (λi=>0+(i:Int)+1) hD ∅ (λi H Q _ h=>⟨_,rfl,h⟩) (λi H Q _ h=>⟨_,rfl,_,_,rfl,rfl,h⟩) (λi hi=>⟨∅,∅,∅,∅⟩) λxs H4 s4 hD4 hl4 d4=>?_⟩
   subst hX3;refine mf λX5 hX5=>?_;have aft5:∀ (m:Int) (p:Addr) (xs:List V) (v4 v5:Option V) H5,1<=m->m<=8->aP l H H5->a_ H5 l->H p=none->H5 p=some (.lst xs)->xs.length<=9->aH H5 m xs->X5 { nx:=λx H'=>Q V.non H',rt:=Q } [some (.ref l),some (.int m),some (.int w0),some (.ref p),v4,v5,none,none,none] H5:=by
    intro m p xs v4 v5 H5 m1 m8 e5 b5 fp hp hl d;subst hX5;walk_at "wp";refine⟨eB _,λpa hpa=>?_⟩;have npl:p≠l:=hb.ne fp;have nal:pa≠l:=b5.ne hpa;have npa:p≠pa:=cc hp hpa;have fpa:H pa=none:=e5.free nal hpa;refine⟨_,rfl,p,rfl,⟨_,aj.of (aa.new hpa _ _ hp)⟩,qt (xs:=xs) (λi σ H6=>∃ (as:List V) (v5 v7 v8:Option V),σ=[some (.ref l),some (.int m),some (.int w0),some (.ref p),v4,v5,some (.ref pa),v7,v8]/\aP l H H6/\a_ H6 l/\H6 p=some (.lst xs)/\H6 pa=some (.lst as)/\as.length=i/\aH H6 m xs/\aH H6 m as) ⟨[],v5,none,none,rfl,e5.trans (aP.new hpa),b5.new nal,aa.new hpa _ _ hp,aw,rfl,d.same (aa.new hpa),aH.nil⟩ (λi σ H6 _ ⟨_,_,_,_,_,_,_,hp6,_⟩=>aj.of hp6) ?_ ?_⟩
    .intro i x σ H6 hx e91;refine d6 e91 λas u5 u7 u8 e99 e6 b6 e910=>?_;clear e91;obtain rfl:=e99;refine cY e910 λhp6 ha6 hal dx da=>?_;clear e910;have hi:i<xs.length:=(cj.mp hx).1;refine cD (dx x (aY hx)) λtx i1 j1 e911 htx i10 e912=>?_;obtain rfl:=e911;refine bQ e912 λi11 j10 j11=>?_;clear e912;walk_at "wp";refine⟨_,aB.of htx,rfl,_,_,rfl,_,_,rfl,rfl,?_⟩;refine b6.draw ⇑0 ⇑0 λr1 H7 r10 r11 e7 b7=>⟨.inl ⟨rfl,_,aj.of (e7 _ _ nal ha6)⟩,⇑0,λp1 h1=>⟨⇑0,λp2 h2=>⟨⇑0,λp3 h3=>?_⟩⟩⟩
     have S2:=(aa.new (o:=.tup [V.int i1,V.int j1]) h1).trans (aa.new (o:=.tup [V.int j1,V.int i1]) h2);have S3:=S2.trans (aa.new (o:=.lst [V.ref p1,V.ref p2]) h3);have D1:=(aH.nil (H:=H7) (m:=m)).add (i:=i1) (j:=j1) h1 i10 i11 j10 j11;have D2:=(D1.add (i:=j1) (j:=i1) h2 j10 j11 i10 i11).same (aa.new (o:=.lst [V.ref p1,V.ref p2]) h3);have q3:(ao (ao (ao H7 p1 (.tup [V.int i1,V.int j1])) p2 (.tup [V.int j1,V.int i1])) p3 (.lst [V.ref p1,V.ref p2])) p3=some (.lst [V.ref p1,V.ref p2]):=aw;generalize ao (ao (ao H7 p1 (.tup [V.int i1,V.int j1])) p2 (.tup [V.int j1,V.int i1])) p3 (.lst [V.ref p1,V.ref p2])=H8 at *;have ha8:=S3 _ _ (e7 _ _ nal ha6);have pick:∃ u,atI [V.ref p1,V.ref p2] r1=some u/\dF H8 m u:=by
      have:r1=0\/r1=1:=by exact oz68 r10 r11
      rcases this with rfl|rfl
      .exact ⟨_,dH ⇑0 rfl,D2 _ (by simp)⟩
      .exact ⟨_,dH ⇑0 rfl,D2 _ (by simp)⟩
     refine ar pick λu hu du=>?_;clear pick;refine aM _ r1 ⟨rfl,aj.of q3,u,hu,as,ha8,cS (oz122 hl hal hi),as++[u],_,_,_,⟨rfl,rfl,rfl⟩,((e6.trans e7).trans S3.ext).upd fpa,(b7.same S3).new nal,by rw[aJ npa];exact S3 _ _ (e7 _ _ npl hp6),aw,by rw[bw,hal];rfl,((dx.bag e7 b6).same S3).put ha8,(((da.bag e7 b6).same S3).snoc du).put ha8⟩
    .intro σ H6 e92;refine d6 e92 λas u5 u7 u8 e913 e6 b6 e914=>?_;clear e92;obtain rfl:=e913;refine cY e914 λhp6 ha6 hal dx da=>?_;clear e914;walk_at "wp";exact⟨⇑0,λt ht=>q _ _ _ _ _ (w8.fin e6 b6 ha6 fpa m1 m8 ∅ da ht)⟩
   refine bD λX4 hX4=>?_;have e4:aP l H H4:=(e2.trans e3).trans s4.ext;have b4:=b3.same s4;have fD:H D=none:=(e2.trans e3).free (b3.ne hD) hD;have aft4:∀ (m:Int) (p:Addr) (xs:List V) H5,1<=m->m<=8->aP l H H5->a_ H5 l->H p=none->H5 p=some (.lst xs)->xs.length<=9->aH H5 m xs->X4 { nx:=λx H'=>Q V.non H',rt:=Q } [some (.ref l),some (.int m),some (.int w0),some (.ref p),none,none,none,none,none] H5:=by
    intro m p xs H5 m1 m8 e5 b5 fp hp hl d;subst hX4;walk_at "wp";refine bA (λ_=>⟨eB _,λpa hpa=>?_⟩) (λ_=>aft5 m p xs none none H5 m1 m8 e5 b5 fp hp hl d);have nal:pa≠l:=b5.ne hpa;have fpa:H pa=none:=e5.free nal hpa;refine Ga (b5.new nal) ⇑0 ⇑0 λn H6 n0 n1 e6 b6=>?_;refine hU (λi σ H7=>∃ (as:List V) (v4 v5:Option V),σ=[some (.ref l),some (.int m),some (.int w0),some (.ref pa),v4,v5,none,none,none]/\aP l H H7/\a_ H7 l/\H7 pa=some (.lst as)/\as.length<=i/\aH H7 m as) ⟨[],none,none,rfl,(e5.trans (aP.new hpa)).trans e6,b6,e6 _ _ nal aw,aI _,aH.nil⟩ ?_ ?_
    .intro i σ H7 hi e93;refine cD e93 λas u4 u5 e915 e7 b7 e916=>?_;clear e93;obtain rfl:=e915;refine bQ e916 λha7 hal da=>?_;clear e916;walk_at "wp";refine b7.draw ∅ ∅ λr1 H8 r10 r11 e8 b8=>?_;refine⟨.inl ⟨rfl,_,aj.of (e8 _ _ nal ha7)⟩,b8.draw ∅ ∅ λr2 H9 r20 r21 e9 b9=>⟨⇑0,λt ht=>?_⟩⟩;have hx4:H9 pa=some (.lst as):=e9 _ _ nal (e8 _ _ nal ha7);have nt:pa≠t:=cc hx4 ht;have hx5:(ao H9 t (.tup [.int r1,.int r2])) pa=some (.lst as):=by rw[aJ nt];exact hx4
     refine⟨_,hx5,cS (oz131 n1 hi hal),as++[.ref t],_,_,⟨rfl,rfl⟩,(((e7.trans e8).trans e9).trans (aP.new ht)).upd fpa,(b9.new (b9.ne ht)).new nal,aw,by rw[bw];show _+1<=_;exact oz136 hal,(((da.bag e8 b7).bag e9 b8).add ht r10 r11 r20 r21).put hx5⟩
    .intro σ H7 e94;refine cD e94 λas u4 u5 e917 e7 b7 e918=>?_;clear e94;obtain rfl:=e917;refine bQ e918 λha7 hal da=>?_;clear e918;exact aft5 m pa as u4 u5 H7 m1 m8 e7 b7 fpa ha7 ∅ da
   walk_at "wp";refine bA (λ_=>⟨⇑0,λp1 h1=>⟨⇑0,λp2 h2=>⟨⇑0,λp3 h3=>⟨⇑0,λp4 h4=>?_⟩⟩⟩⟩) (λ_=>aft4 m D xs H4 m1 m8 e4 b4 fD hD4 ∅ d4);have D1:=(aH.nil (H:=H4) (m:=4)).add (i:=0) (j:=1) h1 ∅ ∅ ∅ ∅;have D2:=D1.add (i:=1) (j:=2) h2 ∅ ∅ ∅ ∅;have D3:=D2.add (i:=3) (j:=1) h3 ∅ ∅ ∅ ∅;have S3:=((aa.new (o:=.tup [V.int 0,V.int 1]) h1).trans (aa.new (o:=.tup [V.int 1,V.int 2]) h2)).trans (aa.new (o:=.tup [V.int 3,V.int 1]) h3);have S4:=S3.trans (aa.new (o:=.lst [.ref p1,.ref p2,.ref p3]) h4);exact aft4 4 p4 [.ref p1,.ref p2,.ref p3] _ ⇑0 ⇑0 (e4.trans S4.ext) (b4.same S4) ((e4.trans S3.ext).free ((b4.same S3).ne h4) h4) aw (by show 3<=9;decide) (D3.same (aa.new h4))
  walk_at "wp";refine b1.draw ⇑0 ⇑0 λt H2 t0 t1 e2 b2=>⟨rfl,bA (λ_=>aft 8 H2 ⇑0 ⇑0 (e1.trans e2) b2) (λ_=>aft (1+r) H2 ∅ ∅ (e1.trans e2) b2)⟩
end
end Pf
namespace Pf
open PySem L2 L3 PyProof.Rows
section
variable {C PL:Addr}
def spSmp:L2.Sp:=λvs H Q _=>∃ l:Addr,vs=[.ref l]/\a_ H l/\∀ p H',aP l H H'->a_ H' l->af p->Q (.int p) H'
theorem o4 (F:bc K "_law_small_prime" "_law_small_prime" AF f fd)(T:bp K mg C G S)(Yaa:az P w K mg base "_law_draw" 1 iK):ax P w K mg base aW 2 f fd ["_law_bag_here"] spSmp:=by
 have nd:=Fb.nd;refine F.ok Fb (λvs H Q E h=>?_) (λcdv A outer s H vs Q E hr h=>?_)
 .refine ar h λl e91 _=>?_;clear h;obtain rfl:=e91;rfl
 .refine aQ h λl e92 hb q=>?_;clear h;obtain rfl:=e92;refine⟨_,(~~~(aV<|>(@cU _ _ _ _ (aq<&>(aq<&>(aq<&>(aq<&>(aq<&>(aq<&>ah)))))))<||>(Yaa<$>hr<$>((ae 0)<&>(aq<&>ah))))),?_⟩;walk_at "wp";refine⟨⇑0,λa ha=>?_⟩;have na:=hb.ne ha;refine (hb.new na).draw ⇑0 ⇑0 λz H2 z0 z1 e2 b2=>?_;refine ar (G3 (L:=[0,2,3,5,97,2]) ⇑0 z0 z1) λp h1 h2=>?_;exact aM _ z ⟨rfl,aj.of (e2 _ _ na aw),_,h1,q p H2 ((aP.new ha).trans e2) b2 h2⟩
def vV (b:Nat):L2.Sp:=λvs H Q _=>∃ (l:Addr) (p:Int),vs=[.ref l,.int p]/\a_ H l/\af p/\∀ v x H',aP l H H'->a_ H' l->aE H' p v x->aZ p x->ck b x->Q v H'
theorem tu {p z:Int}(hp:af p)(h0:0<p)(z0:0<=z)(z1:z<p):aZ p (z,1)/\ck 7 (z,1):=by
 have p97:=hp.hi;refine⟨.inr ⟨h0,z0,z1,rfl⟩,?_,?_⟩
 .show z.natAbs<2 ^ 7;omega
 .show (1:Int).natAbs<2 ^ 7;decide
theorem tw {x:Nv}(h:rV x)(h1:x.1.natAbs<128)(h2:x.2.natAbs<128):aZ 0 x/\ck 7 x:=⟨.inl ⟨rfl,h⟩,h1,h2⟩
theorem FY {H:Hp}{l pl:Addr}{as:List Addr}{xs:List Nv}{n:Int}{Q:VK}(b:a_ H l)(hl:H pl=some (.lst (as.map V.ref)))(npl:pl≠l)(hn:n=as.length)(n1:1<=n)(n9:n<=9)(hx:xs.length=as.length)(ht:∀ (i:Nat) a x,as[i]?=some a->xs[i]?=some x->a≠l/\H a=some (.tup [.int x.1,.int x.2]))(q:∀ v x H',aP l H H'->a_ H' l->aE H' 0 v x->x∈xs->Q v H'):iK [.ref l,.int n] H (λy H2=>∃ ys i,y=.int i/\aj K H2 pl ys/\∃ v,atI ys i=some v/\Q v H2) E0:=by
 refine b.draw ∅ ∅ λz H2 z0 z1 e2 b2=>?_;have hz:z.toNat<as.length:=∅
 have ea:as[z.toNat]?=some (as[z.toNat]'hz):=aF _;have ex:xs[z.toNat]?=some (xs[z.toNat]'(by omega)):=aF _;obtain⟨na,ta⟩:=ht _ _ _ ea ex;exact aM _ z ⟨rfl,aj.of (e2 _ _ npl hl),_,dH z0 (by rw[bH,ea];rfl),q _ _ H2 e2 b2 (aE.tup rfl (e2 _ _ na ta)) (aY ex)⟩
theorem kX (F:bc K "_law_number" "_law_number" Aj f fd)(T:bp K mg C G S)(Yaa:az P w K mg base "_law_draw" 1 iK):ax P w K mg base aW 2 f fd ["_law_bag_here","_law_p"] (vV 7):=by
 have nd:=EM.nd;refine F.ok EM (λvs H Q E h=>?_) (λcdv A outer s H vs Q E hr h=>?_)
 .refine cE h λl p e93 _=>?_;clear h;obtain rfl:=e93;rfl
 .refine gh h λl p e94 hb hp q=>?_;clear h;obtain rfl:=e94;have p0:=hp.lo;have p97:=hp.hi;refine⟨_,((@bI _ _ _ _ _ _ _ _ (bW (gH fM) (ae 1) aq (aU _)) (~~~(Yaa<$>hr<$>((ae 0)<&>((ae 1)<&>ah)))) bJ)<*>(~~~(aV<|>(@cU _ _ _ _ ((@cb _ _ _ _ _ (aq<&>(aq<&>ah)))<&>((@cb _ _ _ _ _ (aq<&>(aq<&>ah)))<&>((@cb _ _ _ _ _ ((fO fU aq)<&>(aq<&>ah)))<&>((@cb _ _ _ _ _ (aq<&>(aq<&>ah)))<&>((@cb _ _ _ _ _ (aq<&>(aq<&>ah)))<&>ah))))))<||>(Yaa<$>hr<$>((ae 0)<&>(aq<&>ah)))))),?_⟩;walk_at "wp";refine bA (λhc=>?_) (λhc=>?_)
  .have hc:=dB hc;refine hb.draw hc ∅ λz H2 z0 z1 e2 b2=>?_;have w:=tu hp hc z0 z1;exact q (.int z) (z,1) H2 e2 b2 (aE.of (x:=(z,1)) ∅) w.1 w.2
  .have hc:¬ 0<p:=λz=>hc (bR z);have hp0:p=0:=by exact tK p0 hc
   subst hp0;refine⟨⇑0,λp1 h1=>⟨⇑0,λp2 h2=>⟨⇑0,λp3 h3=>⟨⇑0,λp4 h4=>⟨⇑0,λp5 h5=>⟨⇑0,λpl hl=>?_⟩⟩⟩⟩⟩⟩;have n1:=hb.ne h1;have b1:=hb.new n1 (o:=.tup [.int 0,.int 1]);have n2:=b1.ne h2;have b2:=b1.new n2 (o:=.tup [.int 1,.int 1]);have n3:=b2.ne h3;have b3:=b2.new n3 (o:=.tup [.int (-1),.int 1]);have n4:=b3.ne h4;have b4:=b3.new n4 (o:=.tup [.int 2,.int 1]);have n5:=b4.ne h5;have b5:=b4.new n5 (o:=.tup [.int 1,.int 2]);have n6:=b5.ne hl;have s6:=aa.new (o:=.lst [.ref p1,.ref p2,.ref p3,.ref p4,.ref p5]) hl;have s5:=(aa.new (o:=.tup [.int 1,.int 2]) h5).trans s6;have s4:=(aa.new (o:=.tup [.int 2,.int 1]) h4).trans s5;have s3:=(aa.new (o:=.tup [.int (-1),.int 1]) h3).trans s4;have s2:=(aa.new (o:=.tup [.int 1,.int 1]) h2).trans s3;have s1:=(aa.new (o:=.tup [.int 0,.int 1]) h1).trans s2;refine FY (as:=[p1,p2,p3,p4,p5]) (xs:=[(0,1),(1,1),(-1,1),(2,1),(1,2)]) (b5.new n6) aw n6 rfl ⇑0 ⇑0 rfl (λi a x ea ex=>?_) λv x H' e b n m=>?_
   .match i with
    | 0=>cases ea;cases ex;exact⟨n1,s2 _ _ aw⟩
    | 1=>cases ea;cases ex;exact⟨n2,s3 _ _ aw⟩
    | 2=>cases ea;cases ex;exact⟨n3,s4 _ _ aw⟩
    | 3=>cases ea;cases ex;exact⟨n4,s5 _ _ aw⟩
    | 4=>cases ea;cases ex;exact⟨n5,s6 _ _ aw⟩
    | i+5=>cases ea
   .have w:rV x/\x.1.natAbs<128/\x.2.natAbs<128:=by
     simp only[fH,List.not_mem_nil,or_false] at m;rcases m with rfl|rfl|rfl|rfl|rfl <;> exact⟨⟨⇑0,⇑0⟩,⇑0,⇑0⟩
    have w2:=tw w.1 w.2.1 w.2.2;exact q v x H' (s1.ext.trans e) b n w2.1 w2.2
theorem tE {x:Nv}(h:ck 7 x):Bd 127 x:=⟨Nat.le_of_lt_succ h.1,Nat.le_of_lt_succ h.2⟩
theorem tj {x:Nv}(h:Bd 127 x):ck 7 x:=⟨Nat.lt_succ_of_le h.1,Nat.lt_succ_of_le h.2⟩
theorem tF (p:Int):Bd 127 (dj p 0):=by
 rw[wN];exact⟨⇑0,⇑0⟩
def yj:Sp:=λvs H Q _=>∃ (l:Addr) (p hh wd:Int),vs=[.ref l,.int p,.int hh,.int wd]/\a_ H l/\af p/\0<=hh/\hh<=24/\0<=wd/\wd<=24 /\
 ∀ (r:Addr) (rs:List Addr) (H':Hp),aP l H H'->a_ H' l->H r=none->(∀ a∈rs,H a=none)->r∉rs->H' r=some (.lst (rs.map V.ref))->(rs.length:Int)=hh->(∀ a∈rs,cA H' p 127 wd a)->Q (.ref r) H'
theorem kU (F:bc K "_law_rows" "_law_rows" zT f fd)(T:bp K mg C G S)(Yaa:az P w K mg base "_law_draw" 1 iK)(Yal:az P w K mg base "_law_number" 2 (vV 7))(Yac:az P w K mg base "_law_int" 1 mn):ax P w K mg base aW 4 f fd ["_law_bag_here","_law_p","_law_high","_law_wide"] yj:=by
 have nd:=EB.nd;refine F.ok EB (λvs H Q E h=>?_) (λcdv A outer s H vs Q E hr h=>?_)
 .refine qf h λl p hh wd e95 _=>?_;clear h;obtain rfl:=e95;rfl
 .refine d6 h λl p hh wd e96 hb hp e97=>?_;clear h;obtain rfl:=e96;refine cY e97 λh0 h24 w0 w24 q=>?_;clear e97;refine⟨_,((4|||nd|||(dI<|>aq<&&>(Yaa<$>hr<$>((ae 0)<&>(aq<&>ah)))))<*>((5|||nd|||(@cU _ _ _ _ ah))<*>((dw cW rfl (fj rfl T.n_range ((pv 2)<&>ah)) (6>>>nd) ((7|||nd|||(@cU _ _ _ _ ah))<*>((dw cW rfl (fj rfl T.n_range ((pv 3)<&>ah)) (8>>>nd) ((9|||nd|||(Yal<$>hr<$>((ae 0)<&>((ae 1)<&>ah))))<*>(@bE _ _ _ (@bI _ _ _ _ _ _ _ _ (bW iF (Yaa<$>hr<$>((ae 0)<&>(aq<&>ah))) (ae 4) (aU _)) (@bE _ _ _ (gp (fN f_ gC gB (mtJ fW) (ae 7) ((ae 9)<&>ah)))) (@bE _ _ _ (gp (fN f_ gC gB (mtJ fW) (ae 7) ((Yac<$>hr<$>((ae 1)<&>(aq<&>ah)))<&>ah))))))))<*>(@bE _ _ _ (gp (fN f_ gC gB (mtJ fW) (ae 5) ((ae 7)<&>ah)))))))<*>(~~~(ae 5))))),?_⟩;walk_at "wp";refine hb.draw ⇑0 ⇑0 λz H2 z0 z1 e2 b2=>⟨z,rfl,⇑0,λr hr0=>?_⟩
  have nr:r≠l:=b2.ne hr0;have fr:H r=none:=e2.free nr hr0;refine⟨_,rfl,hh,rfl,∅,∅,hU (λi σ H3=>∃ (v6 v7 v8 v9:Option V) (rs:List Addr),σ=[some (.ref l),some (.int p),some (.int hh),some (.int wd),some (.int (1+z)),some (.ref r),v6,v7,v8,v9]/\aP l H H3/\a_ H3 l/\(∀ a∈rs,H a=none)/\r∉rs/\H3 r=some (.lst (rs.map V.ref))/\rs.length=i/\∀ a∈rs,cA H3 p 127 wd a)
   ⟨none,none,none,none,[],rfl,e2.trans (aP.new hr0),b2.new nr,by simp,by simp,aw,rfl,by simp⟩ ?_ ?_⟩
  .intro i σ H3 hi e91;refine g9 e91 λv6 v7 v8 v9 rs e98 e3 b3 e99=>?_;clear e91;obtain rfl:=e98;refine cY e99 λhf nm hr3 hln hro=>?_;clear e99;walk_at "wp";refine⟨⇑0,λa ha=>?_⟩;have na:a≠l:=b3.ne ha;have fa:H a=none:=e3.free na ha;have nar:r≠a:=cc hr3 ha;have nas:a∉rs:=λz=>by obtain⟨xs,h1,_⟩:=hro a z;rw[ha] at h1;cases h1
   refine⟨_,rfl,wd,rfl,∅,∅,hU (λj σ H4=>∃ (v8 v9:Option V) (xs:List V),σ=[some (.ref l),some (.int p),some (.int hh),some (.int wd),some (.int (1+z)),some (.ref r),some (.int (0+(i:Int))),some (.ref a),v8,v9]/\aP l H H4/\a_ H4 l/\H4 r=some (.lst (rs.map V.ref))/\(∀ a∈rs,cA H4 p 127 wd a)/\H4 a=some (.lst xs)/\xs.length=j/\∀ x∈xs,cC H4 p 127 x)
    ⟨v8,v9,[],rfl,e3.trans (aP.new ha),b3.new na,by rw[aJ nar];exact hr3,λb hb=>(hro b hb).same (aa.new ha),aw,rfl,by simp⟩ ?_ ?_⟩
   .intro j σ H4 hj e92;refine cD e92 λu8 u9 xs e910 e4 b4 e911=>?_;clear e92;obtain rfl:=e910;refine cY e911 λhr4 hro4 ha4 hlx hnx=>?_;clear e911;walk_at "wp";have step:∀ (v:V) (H5:Hp),aP l H4 H5->a_ H5 l->cC H5 p 127 v->(aP l H (ao H5 a (.lst (xs++[v])))/\a_ (ao H5 a (.lst (xs++[v]))) l/\ao H5 a (.lst (xs++[v])) r=some (.lst (rs.map V.ref))/\(∀ b∈rs,cA (ao H5 a (.lst (xs++[v]))) p 127 wd b) /\
      ∃ ys,ao H5 a (.lst (xs++[v])) a=some (.lst ys)/\ys.length=j+1/\∀ x∈ys,cC (ao H5 a (.lst (xs++[v]))) p 127 x):=by
     intro v H5 e5 b5 nv;have ha5:=e5 _ _ na ha4;refine⟨(e4.trans e5).upd fa,b5.new na,by rw[aJ nar];exact e5 _ _ nr hr4,λb hbm=>?_,_,aw,by rw[bw,hlx];rfl,λx hx=>?_⟩
     .have nb:b≠l:=hb.ne (hf b hbm);exact ((hro4 b hbm).ext b4 e5 nb).put ha5 (λz=>nas (z ▸ hbm))
     .rcases cf.mp hx with hx|hx
      .exact ((hnx x hx).ext b4 e5).put ha5
      .rw [cF.mp hx];exact nv.put ha5
    have hsz:xs.length<sizeLine:=cS (oz54 w24 hj hlx);refine aM l p ⟨rfl,b4,hp,λv x H5 e5 b5 nv iv bv=>?_⟩;refine b5.draw ⇑0 ⇑0 λy H6 y0 y1 e6 b6=>⟨y,rfl,bA (λ_=>?_) (λ_=>?_)⟩
    .have ha6:=(e5.trans e6) _ _ na ha4;exact⟨.inl ⟨rfl,_,aj.of ha6⟩,xs,ha6,hsz,_,_,⟨rfl,rfl⟩,step v H6 (e5.trans e6) b6 ⟨x,nv.ext b5 e6,iv,tE bv⟩⟩
    .have ha6:=(e5.trans e6) _ _ na ha4;refine⟨.inl ⟨rfl,_,aj.of ha6⟩,p,0,rfl,hp,λv0 H7 s7 n0=>?_⟩;have ha7:=s7 _ _ ha6;exact⟨xs,ha7,hsz,_,_,⟨rfl,rfl⟩,step v0 H7 ((e5.trans e6).trans s7.ext) (b6.same s7) ⟨_,n0,gN hp.lo,tF p⟩⟩
   .intro σ H4 e93;refine cD e93 λu8 u9 xs e912 e4 b4 e913=>?_;clear e93;obtain rfl:=e912;refine cY e913 λhr4 hro4 ha4 hlx hnx=>?_;clear e913;walk_at "wp";refine⟨.inl ⟨rfl,_,aj.of hr4⟩,_,hr4,cS (by rw[aA];exact oz54 h24 hi hln),_,_,_,_,⟨rfl,rfl,rfl,rfl⟩,e4.upd fr,b4.new nr,rs++[a],?_,?_,?_,by rw[bw,hln];rfl,?_⟩
    .intro b hbm;rcases cf.mp hbm with h|h
     .exact hf b h
     .rw [cF.mp h];exact fa
    .intro z;rcases cf.mp z with h|h
     .exact nm h
     .exact nar (cF.mp h)
    .rw [aw,mC]
    .intro b hbm;rcases cf.mp hbm with h|h
     .exact (hro4 b h).put hr4 (λz=>nm (z ▸ h))
     .rw [cF.mp h];exact cA.put ⟨xs,ha4,oz47 w0 hlx,hnx⟩ hr4 nar.symm
  .intro σ H3 e94;refine g9 e94 λv6 v7 v8 v9 rs e914 e3 b3 e915=>?_;clear e94;obtain rfl:=e914;refine cY e915 λhf nm hr3 hln hro=>?_;clear e915;exact q r rs H3 e3 b3 fr hf nm hr3 (oz47 h0 hln) hro
end
end Pf
namespace Pf
open PySem L2 L3 PyProof.Rows
section
variable {G PL cL:Addr}
theorem GJ {p:Int}{x y:Nv}{n m:Nat}(hp:af p)(hx:aZ p x)(hy:aZ p y)(h1:ck n x)(h2:ck m y):ck (n+m+7) (dN p x y):=by
 have:=wL hp hx hy h1 (h2.le (show m<=m+7 by omega)) ∅;rwa [<- Nat.add_assoc] at this
end
end Pf
namespace Pf
open PySem L2 L3 PyProof.Rows
section
variable {C PL:Addr}
def c7 (H:Hp)(p:Int)(B:Nat)(v:V):Prop:=∃ x,aE H p v x/\aZ p x/\ck B x
theorem c7.same {H H':Hp}{p:Int}{B:Nat}{v:V}(h:c7 H p B v)(s:aa H H'):c7 H' p B v:=let ⟨x,a,b,c⟩:=h;⟨x,a.same s,b,c⟩
theorem c7.weak {H:Hp}{p:Int}{B B':Nat}{v:V}(h:c7 H p B v)(hB:B<=B'):c7 H p B' v:=let ⟨x,a,b,c⟩:=h;⟨x,a,b,c.le hB⟩
theorem c7.ext {l:Addr}{H H':Hp}{p:Int}{B:Nat}{v:V}(h:c7 H p B v)(b:a_ H l)(e:aP l H H'):c7 H' p B v:=let ⟨x,a,c,d⟩:=h;⟨x,a.ext b e,c,d⟩
theorem c7.put {H:Hp}{D:Addr}{l:List V}{o:HO}{p:Int}{B:Nat}{v:V}(h:c7 H p B v)(hD:H D=some (.lst l)):c7 (ao H D o) p B v:=let ⟨x,a,b,c⟩:=h;⟨x,a.put hD,b,c⟩
def cB (H:Hp)(p:Int)(B:Nat)(wd:Int)(a:Addr):Prop:=∃ xs,H a=some (.lst xs)/\(xs.length:Int)=wd/\∀ x∈xs,c7 H p B x
theorem cB.same {H H':Hp}{p wd:Int}{B:Nat}{a:Addr}(h:cB H p B wd a)(s:aa H H'):cB H' p B wd a:=let ⟨xs,h1,h2,h3⟩:=h;⟨xs,s _ _ h1,h2,λx hx=>(h3 x hx).same s⟩
theorem cB.weak {H:Hp}{p wd:Int}{B B':Nat}{a:Addr}(h:cB H p B wd a)(hB:B<=B'):cB H p B' wd a:=let ⟨xs,h1,h2,h3⟩:=h;⟨xs,h1,h2,λx hx=>(h3 x hx).weak hB⟩
theorem cB.ext {l:Addr}{H H':Hp}{p wd:Int}{B:Nat}{a:Addr}(h:cB H p B wd a)(b:a_ H l)(e:aP l H H')(n:a≠l):cB H' p B wd a:=let ⟨xs,h1,h2,h3⟩:=h;⟨xs,e _ _ n h1,h2,λx hx=>(h3 x hx).ext b e⟩
theorem cB.put {H:Hp}{D:Addr}{l:List V}{o:HO}{p wd:Int}{B:Nat}{a:Addr}(h:cB H p B wd a)(hD:H D=some (.lst l))(n:a≠D):cB (ao H D o) p B wd a:=let ⟨xs,h1,h2,h3⟩:=h;⟨xs,by rw[aJ n];exact h1,h2,λx hx=>(h3 x hx).put hD⟩
theorem kv {H:Hp}{p wd:Int}{a:Addr}(h:cA H p 127 wd a):cB H p 7 wd a:=let ⟨xs,h1,h2,h3⟩:=h;⟨xs,h1,h2,λx hx=>let ⟨y,a,b,c⟩:=h3 x hx;⟨y,a,b,tj c⟩⟩
theorem Hi {H:Hp}{p hh wd:Int}{k:Nat}{t r:Addr}{rs:List Addr}(hl:(rs.length:Int)=hh)(w0:0<=wd)(ht:H t=some (.tup [.int hh,.int wd,.ref r]))(hr:H r=some (.lst (rs.map V.ref)))(ro:∀ a∈rs,cB H p k wd a)(nin:r∉rs):∃ M,bM H p k hh.toNat wd.toNat t r rs M:=by
 obtain⟨M,hM⟩:=ay.pick (xs:=rs) (P:=λa ys=>bf H p a ys/\(ys.length:Int)=wd/\cN p k ys) λa ha=>by
  refine aQ (ro a ha) λxs h1 h2 h3=>?_;obtain⟨ys,hy⟩:=ay.pick (xs:=xs) (P:=λv y=>aE H p v y/\aZ p y/\ck k y) λv hv=>h3 v hv;refine⟨ys,⟨xs,h1,hy.mono λ_ _ z=>z.1⟩,by rw[<- hy.1];exact h2,λy m=>?_⟩;obtain⟨i,e⟩:=su.mp m;refine ar (hy.at (i:=i) e) λv _ z=>?_;exact⟨z.2.1,z.2.2⟩
 have row:∀ ys∈M,(ys.length:Int)=wd/\cN p k ys:=λys m=>by
  obtain⟨i,e⟩:=su.mp m;refine ar (hM.at (i:=i) e) λa _ z=>?_;exact z.2
 have h1:((hh.toNat:Nat):Int)=hh:=∅
 have h2:((wd.toNat:Nat):Int)=wd:=∅
 exact⟨M,⟨by rw[h1,h2];exact ht,hr,hM.mono λ_ _ z=>z.1,nin⟩,by rw[<- hM.1];exact oz59 hl,λys m=>by have:=(row ys m).1;exact oz59 this,λys m=>(row ys m).2⟩
def spTbG:L2.Sp:=λvs H Q _=>∃ (l:Addr) (p hh wd:Int),vs=[.ref l,.int p,.int hh,.int wd]/\a_ H l/\af p/\0<=hh/\hh<=24/\0<=wd/\wd<=24 /\
 ∀ (t r:Addr) (rs:List Addr) (M:Mv) (H':Hp),aP l H H'->a_ H' l->jY H t r rs->bM H' p 60 hh.toNat wd.toNat t r rs M->Q (.ref t) H'
theorem sS (F:bc K "_law_table" "_law_table" Ab f fd)(T:bp K mg C G S)(Ya3:az P w K mg base "_law_rows" 4 yj)(Yaa:az P w K mg base "_law_draw" 1 iK)(Yal:az P w K mg base "_law_number" 2 (vV 7))(Yae:az P w K mg base "_law_mul" 3 (jN dN))(Yai:az P w K mg base "_law_add" 3 (jN fk)):ax P w K mg base aW 5 f fd ["_law_bag_here","_law_p","_law_high","_law_wide"] spTbG:=by
 have nd:=ED.nd;refine F.ok ED (λvs H Q E h=>?_) (λcdv A outer s H vs Q E hr h=>?_)
 .refine qf h λl p hh wd e91 _=>?_;clear h;obtain rfl:=e91;rfl
 .refine d6 h λl p hh wd e92 hb hp e93=>?_;clear h;obtain rfl:=e92;refine cY e93 λh0 h24 w0 w24 q=>?_;clear e93;refine⟨_,((4|||nd|||(Ya3<$>hr<$>((ae 0)<&>((ae 1)<&>((ae 2)<&>((ae 3)<&>ah))))))<*>((@bI _ _ _ _ _ _ _ _ (PW.pt (qk (bW (gH fM) (ae 2) aq (aU _)) (qp (bW c9 (Yaa<$>hr<$>((ae 0)<&>(aq<&>ah))) aq (aU _))))) ((hV (i:=5) nd rfl (Or.inr rfl) (Yal<$>hr<$>((ae 0)<&>((ae 1)<&>ah))))<*>((dX (eL (own:=["_law_number_here"]) (fr:=[("_law_p",1),("_law_a",5)]) rfl (c4 (by kernel_rfl)) (eM (aV<|>(pv 4)<||>aq)) (λ_ _ _ _=>⟨(0<<<["_law_number_here","_law_p","_law_a"]),dz,(Yae<$>hr<$>((pv 1)<&>((pv 2)<&>((pv 0)<&>ah))))⟩)) (iJ (ae 4) (fO fU aq) iM))<*>(@bE _ _ _ (@bI _ _ _ _ _ _ _ _ (PW.pt (qk (bW (gH fM) (ae 2) aq (aU _)) (qp (bW c9 (Yaa<$>hr<$>((ae 0)<&>(aq<&>ah))) aq (aU _))))) (@bE _ _ _ (dX (eL (own:=["_law_b","_law_c"]) (fr:=[("_law_p",1)]) rfl (c4 (by kernel_rfl)) (qi rfl T.n_zip ((aV<|>(pv 4)<||>(fO fU aq))<&>((aV<|>(pv 4)<||>aq)<&>ah))) (λ_ _ _ _=>⟨(@mx _ K rfl _ _ _ _ 2 rfl ((0<<<["_law_b","_law_c","_law_p"])^^^((1<<<["_law_b","_law_c","_law_p"])^^^(@cT _))) ⇑1 ⇑1),dz,(Yai<$>hr<$>((pv 2)<&>((pv 0)<&>((pv 1)<&>ah))))⟩)) (iJ (ae 4) (fO fU aq) iM))) bJ)))) bJ)<*>(~~~(@cb _ _ _ _ _ ((ae 2)<&>((ae 3)<&>((ae 4)<&>ah))))))),?_⟩;walk_at "wp";refine i_ l p hh wd ⟨rfl,hb,hp,h0,h24,w0,w24,λr rs H1 e1 b1 fr hf nin hr1 hln hro=>?_⟩;have nr:r≠l:=hb.ne fr;have fin:∀ (H2:Hp) (rs2:List Addr),aP l H H2->a_ H2 l->H2 r=some (.lst (rs2.map V.ref))->(rs2.length:Int)=hh->(∀ a∈rs2,cB H2 p 60 wd a)->r∉rs2->(∀ a∈rs2,H a=none)->
    (3<=sizeLine/\∀ t,H2 t=none->Q (.ref t) (ao H2 t (.tup [.int hh,.int wd,.ref r]))):=by
   intro H2 rs2 e2 b2 hr2 hl2 hro2 nin2 hf2;refine⟨⇑0,λt ht=>?_⟩;have nt:=b2.ne ht;have hr2':(ao H2 t (.tup [.int hh,.int wd,.ref r])) r=some (.lst (rs2.map V.ref)):=by rw[aJ (cc hr2 ht)];exact hr2
   obtain⟨M,tb⟩:=Hi (t:=t) hl2 w0 aw hr2' (λa ha=>(hro2 a ha).same (aa.new ht)) nin2;exact q t r rs2 M _ (e2.trans (aP.new ht)) (b2.new nt) ⟨e2.free nt ht,fr,hf2⟩ tb
  have hroB:∀ H2,aP l H1 H2->∀ B:Nat,7<=B->∀ a∈rs,cB H2 p B wd a:=λH2 e2 B hB a ha=>((kv (hro a ha)).ext b1 e2 (hb.ne (hf a ha))).weak hB;refine bA (λhc1=>?_) (λ_=>fin H1 rs e1 b1 hr1 hln (hroB H1 (aP.refl _ _) 60 ⇑0) nin hf);have hc1:=dB hc1;refine b1.draw ⇑0 ⇑0 λz H2 z0 z1 e2 b2=>⟨rfl,bA (λ_=>?_) (λ_=>fin H2 rs (e1.trans e2) b2 (e2 _ _ nr hr1) hln (hroB H2 e2 60 ⇑0) nin hf)⟩
  refine aM l p ⟨rfl,b2,hp,λva x H3 e3 b3 na ia ba=>?_⟩;have hr3:=(e2.trans e3) _ _ nr hr1;have hro3:=hroB H3 (e2.trans e3) 7 ⇑0;have hn0:0<rs.length:=∅
  refine aQ (hro3 (rs[0]) (eO hn0)) λxs0 hx0 lx0 nx0=>?_;refine⟨_,rfl,r,_,0,_,rfl,rfl,aj.of hr3,dH ⇑0 (uv hn0),_,rfl,⟨_,aj.of hx0⟩,λD hD=>FO (λH y=>c7 H p 21 y) (λh s=>h.same s) (λh e=>h.put e) hx0 hD (oz65 w24 lx0) (λi y H' Q' hy s' q'=>?_) λys H4 s4 hD4 ly hys=>?_⟩
  .refine aQ (nx0 y (aY hy)) λxy ny iy byy=>?_;exact⟨_,rfl,_,rfl,_,rfl,p,va,y,x,xy,rfl,hp,⟨na.same s',ny.same s',ia,iy,7,7,ba.1,ba.2,byy.1,byy.2,⇑0⟩,λv H5 s5 n5=>q' v H5 s5 ⟨_,n5,jd hp.lo ia iy,GJ hp ia iy ba byy⟩⟩
  have hr4:=s4 _ _ hr3;have nDl:D≠l:=b3.ne hD;have fD:H D=none:=((e1.trans e2).trans e3).free nDl hD;have nDr:r≠D:=cc hr3 hD;refine⟨r,rfl,_,hr4,_,ux (by rw[aA];exact hn0),?_⟩;rw[aA,rL];have b4:=b3.same s4;have e4:aP l H H4:=((e1.trans e2).trans e3).trans s4.ext;have e5:aP l H (ao H4 r (.lst ((rs.set (rs.length-1) D).map V.ref))):=e4.upd fr;have b5:a_ (ao H4 r (.lst ((rs.set (rs.length-1) D).map V.ref))) l:=b4.new nr;have ro5:∀ a∈rs.set (rs.length-1) D,cB (ao H4 r (.lst ((rs.set (rs.length-1) D).map V.ref))) p 21 wd a:=λa ha=>by
   rcases fv ha with ha|rfl
   .exact (((hro3 a ha).same s4).weak ⇑0).put hr4 (λz=>nin (z ▸ ha))
   .exact cB.put ⟨ys,hD4,oz19 lx0 ly,hys⟩ hr4 nDr.symm
  have nin5:r∉rs.set (rs.length-1) D:=λz=>by
   rcases fv z with z|z
   .exact nin z
   .exact nDr z
  have hf5:∀ a∈rs.set (rs.length-1) D,H a=none:=λa ha=>by
   rcases fv ha with ha|rfl
   .exact hf a ha
   .exact fD
  have ln5:((rs.set (rs.length-1) D).length:Int)=hh:=by rw[dE];exact hln
  have r5:(ao H4 r (.lst ((rs.set (rs.length-1) D).map V.ref))) r=some (.lst ((rs.set (rs.length-1) D).map V.ref)):=aw;generalize ao H4 r (.lst ((rs.set (rs.length-1) D).map V.ref))=H5 at *;generalize rs.set (rs.length-1) D=rs5 at *;refine bA (λhc2=>?_) (λ_=>fin H5 rs5 e5 b5 r5 ln5 (λa ha=>(ro5 a ha).weak ⇑0) nin5 hf5);have hc2:=dB hc2;refine b5.draw ⇑0 ⇑0 λz2 H6 _ _ e6 b6=>⟨rfl,bA (λ_=>?_) (λ_=>fin H6 rs5 (e5.trans e6) b6 (e6 _ _ nr r5) ln5 (λa ha=>((ro5 a ha).ext b5 e6 (hb.ne (hf5 a ha))).weak ⇑0) nin5 hf5)⟩
  have r6:=e6 _ _ nr r5;have ro6:∀ a∈rs5,cB H6 p 21 wd a:=λa ha=>(ro5 a ha).ext b5 e6 (hb.ne (hf5 a ha));have hn5:0<rs5.length:=∅
  have hn1:1<rs5.length:=∅
  refine aQ (ro6 (rs5[rs5.length-1]'(oz132 ln5 hc2)) (eO _)) λxa hxa lxa nxa=>?_;refine aQ (ro6 (rs5[1]) (eO hn1)) λxb hxb lxb nxb=>?_;refine⟨_,rfl,_,rfl,r,_,-1,_,rfl,rfl,aj.of r6,Gy hn5,_,rfl,r,_,1,_,rfl,rfl,aj.of r6,dH ⇑0 (uv hn1),_,_,rfl,⟨_,aj.of hxa⟩,⟨_,aj.of hxb⟩,λD2 hD2=>Ho (λH y=>c7 H p 60 y) (λh s=>h.same s) (λh e=>h.put e) hxa hxb (oz97 lxa lxb) hD2 (oz65 w24 lxa) (λi y u H' Q' hy hu s' q'=>?_) λys2 H7 s7 hD7 ly2 hys2=>?_⟩
  .refine aQ (nxa y (aY hy)) λxy ny iy byy=>?_;refine aQ (nxb u (aY hu)) λxu nu iu bu=>?_;exact⟨_,rfl,_,rfl,_,rfl,p,y,u,xy,xu,rfl,hp,⟨ny.same s',nu.same s',iy,iu,21,21,byy.1,byy.2,bu.1,bu.2,⇑0⟩,λv H8 s8 n8=>q' v H8 s8 ⟨_,n8,uw hp.lo iy iu,(yZ hp iy iu byy bu ⇑0).le ⇑0⟩⟩
  have r7:=s7 _ _ r6;have nDl2:D2≠l:=b6.ne hD2;have fD2:H D2=none:=(e5.trans e6).free nDl2 hD2;have nDr2:r≠D2:=cc r6 hD2;refine⟨r,rfl,_,r7,_,ux (by rw[aA];exact hn5),?_⟩;rw[aA,rL];refine fin _ (rs5.set (rs5.length-1) D2) (((e5.trans e6).trans s7.ext).upd fr) ((b6.same s7).new nr) aw (by rw[dE];exact ln5) (λa ha=>?_) (λz=>?_) (λa ha=>?_)
  .rcases fv ha with ha|rfl
   .exact (((ro6 a ha).same s7).weak ⇑0).put r7 (λz=>nin5 (z ▸ ha))
   .exact cB.put ⟨ys2,hD7,oz19 lxa ly2,hys2⟩ r7 nDr2.symm
  .rcases fv z with z|z
   .exact nin5 z
   .exact nDr2 z
  .rcases fv ha with ha|rfl
   .exact hf5 a ha
   .exact fD2
theorem bM.ext {l:Addr}{H0 H H':Hp}{p:Int}{k n wd:Nat}{t r:Addr}{rs:List Addr}{M:Mv}(h:bM H p k n wd t r rs M)(b0:a_ H0 l)(nw:jY H0 t r rs)(b:a_ H l)(e:aP l H H'):bM H' p k n wd t r rs M:=
 ⟨⟨e _ _ (b0.ne nw.t) h.tv.tup,e _ _ (b0.ne nw.r) h.tv.lst,h.tv.row.monoM λa xs ha q=>q.ext b e (b0.ne (nw.rs a ha)),h.tv.nin⟩,h.hl,h.hw,h.gd⟩
structure GL (H0 H:Hp)(p:Int)(k:Nat)(l:Addr)(ts:List Addr)(ds:List (Nat×Nat))(Ms:List Mv):Prop where
 lst:H l=some (.lst (ts.map V.ref))
 len:ts.length=ds.length
 nl:H0 l=none
 tab:∀ (i:Nat) t d,ts[i]?=some t->ds[i]?=some d->∃ r rs,bM H p k d.1 d.2 t r rs (Ms.getD i [])/\jY H0 t r rs
theorem GL.same {H0 H H':Hp}{p:Int}{k:Nat}{l:Addr}{ts:List Addr}{ds:List (Nat×Nat)}{Ms:List Mv}(h:GL H0 H p k l ts ds Ms)(s:aa H H'):GL H0 H' p k l ts ds Ms:=⟨s _ _ h.lst,h.len,h.nl,λi t d e1 e2=>let ⟨r,rs,a,b⟩:=h.tab i t d e1 e2;⟨r,rs,a.same s,b⟩⟩
theorem GL.ext {b:Addr}{H0 H H':Hp}{p:Int}{k:Nat}{l:Addr}{ts:List Addr}{ds:List (Nat×Nat)}{Ms:List Mv}(h:GL H0 H p k l ts ds Ms)(b0:a_ H0 b)(b1:a_ H b)(e:aP b H H'):GL H0 H' p k l ts ds Ms:=⟨e _ _ (b0.ne h.nl) h.lst,h.len,h.nl,λi t d e1 e2=>let ⟨r,rs,a,nw⟩:=h.tab i t d e1 e2;⟨r,rs,a.ext b0 nw b1 e,nw⟩⟩
abbrev tds (ns:List Int)(ps:List (Int×Int)):List (Nat×Nat):=ps.map λq=>(nz ns q.2,nz ns q.1)
theorem GL.tbl {H0 H:Hp}{p:Int}{k:Nat}{l:Addr}{ts:List Addr}{ps:List (Int×Int)}{ns:List Int}{Ms:List Mv}(h:GL H0 H p k l ts (tds ns ps) Ms):iN H p k l ts ps ns Ms:=⟨h.lst,by rw[h.len,aA],λi t q e1 e2=>let ⟨r,rs,a,_⟩:=h.tab i t (nz ns q.2,nz ns q.1) e1 (by rw[bH,e2];rfl);⟨r,rs,a⟩⟩
def spLs7:L2.Sp:=λvs H Q _=>∃ (l a:Addr) (p m:Int) (xs:List V) (ps:List (Int×Int)),vs=[.ref l,.int p,.int m,.ref a]/\a_ H l/\af p/\H a=some (.lst xs)/\cK H xs ps/\iA m ps/\ps.length<=9/\1<=m/\m<=8/\a≠l /\
 ∀ (t z tl:Addr) (ns:List Int) (ts:List Addr) (Ms:List Mv) (H':Hp),aP l H H'->a_ H' l->H t=none->H' t=some (.tup [.ref z,.ref tl])->H z=none->H' z=some (.lst (ns.map V.int))->(ns.length:Int)=m->(∀ n∈ns,0<=n/\n<=2)->ns.sum<=7->(p=0->ns.sum<=4)->GL H H' p 60 tl ts (tds ns ps) Ms->Q (.ref t) H'
theorem o9 (F:bc K "_law_standing" "_law_standing" AC f fd)(T:bp K mg C G S)(Yaa:az P w K mg base "_law_draw" 1 iK)(Ya9:az P w K mg base "_law_table" 5 spTbG):ax P w K mg base aW 6 f fd ["_law_bag_here","_law_p","_law_many","_law_arrows"] spLs7:=by
 have nd:=E2.nd;refine F.ok E2 (λvs H Q E h=>?_) (λcdv A outer s H vs Q E hr h=>?_)
 .refine jk h λl a p m xs ps e95 _=>?_;clear h;obtain rfl:=e95;rfl
 .refine tO h λl a p m xs ps e96 hb hp e97=>?_;clear h;obtain rfl:=e96;refine sI e97 λha pr ip p9 m1 m8 na q=>?_;clear e97;refine⟨_,((hV (i:=4) nd rfl (Or.inr rfl) (@cU _ _ _ _ ah))<*>((5|||nd|||(aV<|>(@cU _ _ _ _ (aq<&>(aq<&>ah)))<||>(jv zD rfl T.n_int boot_int ((gO (gH fM) (ae 1) aq (aU _))<&>ah))))<*>((dw cW rfl (fj rfl T.n_range ((pv 2)<&>ah)) (6>>>nd) ((gp (fN f_ gC gB (mtJ fW) (ae 4) ((bS (DR rfl) rfl T.n_min boot_min ((ae 5)<&>((Yaa<$>hr<$>((ae 0)<&>(aq<&>ah)))<&>ah)))<&>ah)))<*>(@bE _ _ _ (5|||nd|||(fQ<|>(ae 5)<&&>(aV<|>(ae 4)<||>(fO fU aq)))))))<*>((my (i:=7) (own:=["_law_tail","_law_head"]) (fr:=[("_law_bag_here",0),("_law_p",1),("_law_sizes",4)]) rfl (c4 (by kernel_rfl)) (eM (pv 3)) (λ_ _ _ _=>⟨(@mx _ K rfl _ _ _ _ 2 rfl ((0<<<["_law_tail","_law_head","_law_bag_here","_law_p","_law_sizes"])^^^((1<<<["_law_tail","_law_head","_law_bag_here","_law_p","_law_sizes"])^^^(@cT _))) ⇑1 ⇑1),dz,(Ya9<$>hr<$>((pv 2)<&>((pv 3)<&>(((ja K rfl)<|>(pv 4)<||>(pv 1))<&>(((ja K rfl)<|>(pv 4)<||>(pv 0))<&>ah)))))⟩) nd rfl rfl rfl)<*>(~~~(@cb _ _ _ _ _ ((ae 4)<&>((ae 7)<&>ah)))))))),?_⟩;refine mf λX hX=>?_;walk_at "wp";have p0:=hp.lo;refine⟨eB _,λz hz=>?_⟩;have nz:z≠l:=hb.ne hz;have naz:a≠z:=cc ha hz;have ez:(ao H z (.lst [])) z=some (.lst []):=aw;have s1:=aa.new (o:=.lst []) hz;have b1:=hb.new (o:=.lst []) nz;generalize ao H z (.lst [])=H1 at *;refine⟨(show 2<=sizeLine by decide),λp1 hp1=>?_⟩;obtain⟨le0,hle,l0,l7,lp⟩:∃ le0:Int,atI [V.int 4,V.int 7] (if decide (0<p)=true then 1 else 0)=some (.int le0)/\0<=le0/\le0<=7/\(p=0->le0<=4):=by
   by_cases h:0<p
   .exact ⟨7,by rw[bR h];rfl,⇑0,⇑0,λz=>∅⟩
   .exact ⟨4,by rw[dm h];rfl,⇑0,⇑0,λ_=>⇑0⟩
  have s2:=aa.new (o:=.lst [V.int 4,V.int 7]) hp1;refine⟨_,aj.of aw,_,hle,?_⟩;have ez2:=s2 _ _ ez;have b2:=b1.same s2;have s02:=s1.trans s2;generalize ao H1 p1 (.lst [V.int 4,V.int 7])=H2 at *;subst hX;refine bD λX hX=>?_;refine cutF λY hY=>?_;refine⟨_,rfl,m,rfl,∅,∅,hU (λi σ H3=>∃ (v6:Option V) (le:Int) (ns:List Int),σ=[some (.ref l),some (.int p),some (.int m),some (.ref a),some (.ref z),some (.int le),v6,none]/\0<=le/\le+ns.sum<=le0/\aP l H H3/\a_ H3 l/\H3 z=some (.lst (ns.map V.int))/\ns.length=i/\∀ n∈ns,0<=n/\n<=2)
   ⟨none,le0,[],rfl,l0,by simp,s02.ext,b2,ez2,rfl,by simp⟩ ?_ ?_⟩
  .intro i σ H3 hi e91;refine cD e91 λv6 le ns e98 l1 l2 e99=>?_;clear e91;obtain rfl:=e98;refine cY e99 λe3 b3 hz3 hln hn=>?_;clear e99;refine gG λD2 hD2=>?_;simp only[cg,List.set_cons_zero,List.set_cons_succ];subst hY;walk_at "wp";refine⟨.inl ⟨rfl,_,aj.of hz3⟩,b3.draw ⇑0 ⇑0 λy H4 y0 y1 e4 b4=>⟨le,y,⟨rfl,rfl⟩,_,e4 _ _ nz hz3,cS (by rw[aA];omega),_,aj.of aw,_,Fp _ _,_,rfl,?_⟩⟩;subst hD2;refine c5 _ _ (ns++[if y<le then y else le]) ⟨rfl,?_,?_,(e3.trans e4).upd hz,b4.new nz,by rw[aw,dD];rfl,by rw[bw,hln];rfl,λn hnn=>?_⟩
   .split <;> omega
   .rw [List.sum_append,List.sum_singleton];split <;> omega
   .rcases cf.mp hnn with h|h
    .exact hn n h
    .rw [cF.mp h];split <;> omega
  .intro σ H3 e92;refine cD e92 λv6 le ns e910 l1 l2 e911=>?_;clear e92;obtain rfl:=e910;refine cY e911 λe3 b3 hz3 hln hn=>?_;clear e911;subst hX;walk_at "wp";have hxl:=pr.1;have ha3:=e3 _ _ na ha;refine⟨_,rfl,a,rfl,⟨_,aj.of ha3⟩,λD hD=>?_⟩;have nDl:D≠l:=b3.ne hD;have fD:H D=none:=e3.free nDl hD;have nzD:z≠D:=cc hz3 hD;refine rE (k:=2) (xs:=xs) (λi vs H'=>∃ (ts:List Addr) (Ms:List Mv),vs=ts.map V.ref/\aP l H3 H'/\a_ H' l/\H' D=some (.lst vs)/\ts.length=i/\Ms.length=i/\∀ (j:Nat) t q,ts[j]?=some t->ps[j]?=some q->∃ r rs,bM H' p 60 (Pf.nz ns q.2) (Pf.nz ns q.1) t r rs (Ms.getD j [])/\jY H t r rs/\r≠D/\D∉rs)
    ⟨[],[],rfl,aP.new hD,b3.new nDl,aw,rfl,rfl,λj t q e=>by simp at e⟩ (λi vs H' _ ⟨_,_,_,e',_⟩=>aj.of (e' _ _ na ha3)) ?_ ?_
   .intro i x vs σ' H' hi hx sh e93;refine iE e93 λts Ms e912 e' b' hD' htl e913=>?_;clear e93;obtain rfl:=e912;obtain⟨hml,ht⟩:=e913;refine i9 sh.two λz1 z2 e914=>?_;obtain rfl:=e914;have hq:ps[i]?=some (ps[i]'(b_ hxl hi)):=aF (b_ hxl hi);refine ar ((pr.bag hb (e3.trans e')).2 i x _ hx hq) λta e915 hta=>?_;obtain rfl:=e915;have hz':=e' _ _ nz hz3;refine cG (ip _ (aY hq)) λi0 i1 j0 j1=>?_;have a1:=jy (ns:=ns) i0 (oz72 hln i1);have a2:=jy (ns:=ns) j0 (oz72 hln j1);have c1:=hn (ns.getD ps[i].1.toNat 0) (by rw[aT,aF (show ps[i].1.toNat<ns.length by omega)];exact eO _);have c2:=hn (ns.getD ps[i].2.toNat 0) (by rw[aT,aF (show ps[i].2.toNat<ns.length by omega)];exact eO _);refine aM ta _ ⟨rfl,aB.of hta,rfl,_,_,rfl,_,_,rfl,rfl,?_⟩;simp only[dr,List.set_cons_zero,List.set_cons_succ,eZ,cH];walk_at "wp";refine⟨_,rfl,_,rfl,_,rfl,z,rfl,_,aj.of hz',_,a2,_,rfl,z,rfl,_,aj.of hz',_,a1,l,p,_,_,rfl,b',hp,c2.1,∅,c1.1,∅,λt r rs M H4 e4 b4 nw tb=>?_⟩;have hD4:=e4 _ _ nDl hD';have n3:r≠D:=λz=>by have:=nw.r;rw[z,hD'] at this;cases this
    have n4:D∉rs:=λz=>by have:=nw.rs D z;rw[hD'] at this;cases this
    have e0':=e3.trans e';refine fL (ws:=ts.map V.ref++[.ref t]) hi Sh.mk2 hD4 (cS (by rw[aA];exact oz53 p9 hxl hi htl)) ⟨ts++[t],mC _ _,(e'.trans e4).upd hD,b4.new nDl,by rw[aw],by rw[bw,htl];rfl,Ms++[M],by rw[bw,hml];rfl,λj t' q' f1 f2=>?_⟩;by_cases hj:j<ts.length
    .rw [eE hj] at f1;refine gh (ht j t' q' f1 f2) λr' rs' tb' nw' n1 n2=>?_;refine aM r' rs' ⟨?_,nw',n1,n2⟩;rw[aT,eE (oz18 htl hml hj),<- aT];exact (tb'.ext hb nw' b' e4).put hD4 n1 n2
    .rw [d_ (c8 hj)] at f1;have hj0:j-ts.length=0:=by
      by_cases z:j-ts.length=0
      .exact z
      .rw [cZ (by simp;exact oz11 z)] at f1;cases f1
     rw[hj0] at f1;cases f1;have ji:j=i:=by exact oz3 htl hj hj0
     subst ji;rw[hq] at f2;cases f2;refine aM r rs ⟨?_,⟨e0'.free (b'.ne nw.t) nw.t,e0'.free (b'.ne nw.r) nw.r,λx hx=>e0'.free (b'.ne (nw.rs x hx)) (nw.rs x hx)⟩,n3,n4⟩;rw[aT,d_ (oz44 hml),hml,rZ];exact tb.put hD4 n3 n4
   .intro vs H4 e94;refine iE e94 λts Ms e916 e4 b4 hD4 htl e917=>?_;clear e94;obtain rfl:=e916;obtain⟨hml,ht⟩:=e917;refine⟨⇑0,λt ht'=>?_⟩;have s5:=aa.new (o:=.tup [V.ref z,V.ref D]) ht';have e05:=(e3.trans e4).trans s5.ext;refine q t z D ns ts Ms _ e05 (b4.same s5) ((e3.trans e4).free (b4.ne ht') ht') aw hz (s5 _ _ (e4 _ _ nz hz3)) (oz145 m1 hln) hn ∅ (λz=>by have:=lp z;omega) ⟨s5 _ _ hD4,by rw[aA];exact oz39 hxl htl,fD,λi t d f1 f2=>?_⟩;rw[bH] at f2;cases eq':ps[i]? with
    | none=>rw[eq'] at f2;cases f2
    | some q'=>
     rw[eq'] at f2;cases f2;refine gh (ht i t q' f1 eq') λr rs tb nw _ _=>?_;exact aM r rs ⟨tb.same s5,nw⟩
end
end Pf
namespace Pf
open PySem L2 L3 PyProof.Rows
section
variable {G PL cL:Addr}
theorem lH {a b:Int}(h:0<b):nrS a b=nrm a b:=by unfold nrS;rw[if_neg ∅]
theorem wQ {p:Int}:dj p 0=(0,1):=by
 unfold dj;split
 .rfl
 .rw [Int.zero_emod]
theorem jB {p:Int}(hp:af p):aZ p (0,1):=by
 rw[<- wQ (p:=p)];exact gN hp.lo
end
end Pf
namespace Pf
open PySem L2 L3 PyProof.Rows
theorem Df {p:Int}{x y:Nv}(hp:af p)(hx:aZ p x)(hy:aZ p y):fk p x (dN p (dj p (-1)) y)=iI p x y:=by
 obtain⟨F,_,hF⟩:=qh hp;have i1:=jd hp.lo (gN (k:=-1) hp.lo) hy;refine hF.inj (uw hp.lo hx i1) (DB hp.lo hx hy) ?_;rw[hF.plus hx i1,hF.times (gN hp.lo) hy,hF.intF,vT,gL,hF.minus hx hy]
 grind
theorem HN {p:Int}{x:Nv}(hp:af p)(hx:aZ p x):fk p (0,1) x=x:=by
 obtain⟨F,_,hF⟩:=qh hp;refine hF.inj (uw hp.lo (jB hp) hx) hx ?_;rw[hF.plus (jB hp) hx,nI]
 grind
theorem Gz {p:Int}{x y:Nv}{n:Nat}(hp:af p)(hx:aZ p x)(hy:aZ p y)(h1:ck n x)(h2:ck n y)(h7:7<=n):ck (2*n+2) (iI p x y):=by
 rw[<- Df hp hx hy];exact ck.le (yZ hp hx (jd hp.lo (gN hp.lo) hy) h1 (yY hp hy h2 h7) h7) ∅
def nt (ns:List Int)(i:Int):Nat:=(ns.getD i.toNat 0).toNat
def stN (ns1 ns2:List Int):Nat->Nat
 | 0=>0
 | i+1=>stN ns1 ns2 i+(ns2.getD i 0).toNat*(ns1.getD i 0).toNat
theorem wG (ns1 ns2:List Int){i j:Nat}(h:i<=j):stN ns1 ns2 i<=stN ns1 ns2 j:=by
 induction j with
 | zero=>rw[show i=0 by omega];exact aI _
 | succ j ih=>
  by_cases e:i=j+1
  .rw [e];exact aI _
  .exact cx (ih (oz108 h e)) (qH _ _)
def gg (xs:List Nv)(s w c:Nat):Nat->List Nv->List Nv
 | 0,r=>r
 | k+1,r=>(gg xs s w c k r).set (s+k*w+c) (xs.getD k (0,1))
def gZ (p:Int)(f:Nat->Nv)(s:Nat):Nat->List Nv->List Nv
 | 0,r=>r
 | k+1,r=>(gZ p f s k r).set (s+k) (iI p ((gZ p f s k r).getD (s+k) (0,1)) (f k))
theorem mz (xs:List Nv)(s w c:Nat)(r:List Nv):∀ k,(gg xs s w c k r).length=r.length
 | 0=>rfl
 | k+1=>by show (List.set _ _ _).length=_;rw[dE,mz xs s w c r k]
theorem uD (p:Int)(f:Nat->Nv)(s:Nat)(r:List Nv):∀ k,(gZ p f s k r).length=r.length
 | 0=>rfl
 | k+1=>by show (List.set _ _ _).length=_;rw[dE,uD p f s r k]
theorem Dx {xs:List Nv}{s w c:Nat}{r:List Nv}{q:Nat}:∀ {k:Nat},(∀ i,i<k->q≠s+i*w+c)->(gg xs s w c k r).getD q (0,1)=r.getD q (0,1)
 | 0,_=>rfl
 | k+1,h=>by
  show (List.set _ _ _).getD q (0,1)=_;rw[aT,xB (λz=>h k ∅ z.symm),<- aT,Dx λi hi=>h i (qX hi)]
theorem Dp {p:Int}{f:Nat->Nv}{s:Nat}{r:List Nv}{q:Nat}:∀ {k:Nat},(∀ i,i<k->q≠s+i)->(gZ p f s k r).getD q (0,1)=r.getD q (0,1)
 | 0,_=>rfl
 | k+1,h=>by
  show (List.set _ _ _).getD q (0,1)=_;rw[aT,xB (λz=>h k ∅ z.symm),<- aT,Dp λi hi=>h i (qX hi)]
theorem Dw {xs:List Nv}{s w c k:Nat}{n:Nat}(hw:0<w):(gg xs s w c k (List.replicate n (0,1))).getD (s+k*w+c) (0,1)=(0,1):=by
 rw[Dx λi hi z=>?_]
 .rw [aT,qM];split <;> rfl
 .have:i*w<k*w:=(Nat.mul_lt_mul_right hw).mpr hi;omega
theorem wI {p:Int}{f:Nat->Nv}{s k:Nat}{r:List Nv}:(gZ p f s k r).getD (s+k) (0,1)=r.getD (s+k) (0,1):=Dp λi hi z=>∅
theorem uj {p:Int}{n:Nat}{xs:List Nv}{s w c:Nat}{r:List Nv}(h0:cN p n [(0,1)])(hx:cN p n xs)(hr:cN p n r):∀ k,cN p n (gg xs s w c k r)
 | 0=>hr
 | k+1=>λx h=>by
  rcases fv h with h|h
  .exact uj h0 hx hr k x h
  .rw [h,aT];cases e:xs[k]? with
   | none=>exact h0 _ (by simp)
   | some y=>exact hx y (aY e)
theorem CN {p:Int}{n:Nat}{f:Nat->Nv}{s:Nat}{r:List Nv}(hp:af p)(h7:7<=n)(h0:cN p n [(0,1)])(hf:∀ k,aZ p (f k)/\ck n (f k))(hr:cN p n r):∀ k,cN p (2*n+2) (gZ p f s k r)
 | 0=>λx hx=>⟨(hr x hx).1,ck.le (hr x hx).2 ∅⟩
 | k+1=>λx h=>by
  rcases fv h with h|h
  .exact CN hp h7 h0 hf hr k x h
  .rw [h,wI];have:aZ p (r.getD (s+k) (0,1))/\ck n (r.getD (s+k) (0,1)):=by
    rw[aT];cases e:r[s+k]? with
    | none=>exact h0 _ (by simp)
    | some y=>exact hr y (aY e)
   exact⟨DB hp.lo this.1 (hf k).1,Gz hp this.1 (hf k).1 this.2 (hf k).2 h7⟩
def gf (p:Int)(ns1 ns2:List Int)(q:Int×Int)(A1 A2:Mv)(i j:Nat):List Nv:=
 gZ p (λk=>(A1.getD k []).getD j (0,1)) (stN ns1 ns2 q.2.toNat+i*nt ns1 q.2) (nt ns1 q.2) (gg (A2.getD i []) (stN ns1 ns2 q.1.toNat) (nt ns1 q.1) j (nt ns2 q.1) (List.replicate (stN ns1 ns2 ns1.length) (0,1)))
theorem CV (p:Int)(ns1 ns2:List Int)(q:Int×Int)(A1 A2:Mv)(i j:Nat):(gf p ns1 ns2 q A1 A2 i j).length=stN ns1 ns2 ns1.length:=by
 unfold gf;rw[uD,mz,d0]
def fh (p:Int)(ns1 ns2:List Int)(q:Int×Int)(A1 A2:Mv)(n:Nat):Mv:=(List.range n).flatMap λi=>(List.range (nt ns1 q.1)).map λj=>gf p ns1 ns2 q A1 A2 i j
def dM (p:Int)(ns1 ns2:List Int)(ps:List (Int×Int))(Ms1 Ms2:List Mv)(n:Nat):Mv:=(List.range n).flatMap λt=>fh p ns1 ns2 (ps.getD t (0,0)) (Ms1.getD t []) (Ms2.getD t []) (nt ns2 (ps.getD t (0,0)).2)
theorem zf (p:Int)(ns1 ns2:List Int)(q:Int×Int)(A1 A2:Mv)(n:Nat):fh p ns1 ns2 q A1 A2 (n+1)=fh p ns1 ns2 q A1 A2 n++(List.range (nt ns1 q.1)).map λj=>gf p ns1 ns2 q A1 A2 n j:=by
 unfold fh;rw[jh,AX];simp
theorem wa (p:Int)(ns1 ns2:List Int)(ps:List (Int×Int))(Ms1 Ms2:List Mv)(n:Nat):dM p ns1 ns2 ps Ms1 Ms2 (n+1)=dM p ns1 ns2 ps Ms1 Ms2 n++fh p ns1 ns2 (ps.getD n (0,0)) (Ms1.getD n []) (Ms2.getD n []) (nt ns2 (ps.getD n (0,0)).2):=by
 unfold dM;rw[jh,AX];simp
theorem FQ {p:Int}{ns1 ns2:List Int}{q:Int×Int}{A1 A2:Mv}{n:Nat}{xs:List Nv}(h:xs∈fh p ns1 ns2 q A1 A2 n):∃ i j,i<n/\j<nt ns1 q.1/\xs=gf p ns1 ns2 q A1 A2 i j:=by
 unfold fh at h;rw[xp] at h;obtain⟨i,hi,h⟩:=h;obtain⟨j,hj,rfl⟩:=cw.mp h;exact aM i j ⟨eC.mp hi,eC.mp hj,rfl⟩
theorem vP {p:Int}{ns1 ns2:List Int}{ps:List (Int×Int)}{Ms1 Ms2:List Mv}{n:Nat}{xs:List Nv}(h:xs∈dM p ns1 ns2 ps Ms1 Ms2 n):∃ t i j,t<n/\i<nt ns2 (ps.getD t (0,0)).2/\j<nt ns1 (ps.getD t (0,0)).1/\xs=gf p ns1 ns2 (ps.getD t (0,0)) (Ms1.getD t []) (Ms2.getD t []) i j:=by
 unfold dM at h;rw[xp] at h;obtain⟨t,ht,h⟩:=h;obtain⟨i,j,a,b,e⟩:=FQ h;exact c5 t i j ⟨eC.mp ht,a,b,e⟩
theorem uo {p:Int}{ns1 ns2:List Int}{q:Int×Int}{A1 A2:Mv}:∀ n,(fh p ns1 ns2 q A1 A2 n).length=n*nt ns1 q.1
 | 0=>by rw[uT];rfl
 | n+1=>by rw[zf,bw,uo n,aA,ef,jZ]
theorem xZ:∀ {ns:List Int} {i:Nat},(∀ n∈ns,0<=n)->0<=ns.getD i 0/\ns.getD i 0<=ns.sum/\0<=ns.sum
 | [],i,_=>by simp
 | n::ns,i,h=>by
  have h0:=h n (by simp);refine bQ (xZ (ns:=ns) (i:=i-1) λx hx=>h x (by simp[hx])) λa b c=>?_;rw[uQ];cases i with
  | zero=>show 0<=n/\n<=n+ns.sum/\_;exact⟨h0,∅,∅⟩
  | succ i=>
   rw[Nat.add_sub_cancel] at a b;show 0<=ns.getD i 0/\ns.getD i 0<=n+ns.sum/\_;exact⟨a,∅,∅⟩
theorem xY {a b c d:Nat}(h1:a<=c)(h2:b<=d):a*b<=c*d:=e_ h1 h2
theorem vX:∀ (k:Nat) {ns1 ns2:List Int} {B:Nat},(∀ n∈ns1,0<=n)->(∀ n∈ns2,0<=n/\n<=B)->k<=ns1.length->stN ns1 ns2 k<=B*(ns1.take k).sum.toNat
 | 0,ns1,ns2,B,_,_,_=>by simp[stN]
 | k+1,ns1,ns2,B,h1,h2,hk=>by
  have ih:=vX k h1 h2 (tL hk);have e:(ns1.take (k+1)).sum=(ns1.take k).sum+ns1.getD k 0:=by
   rw[xt,List.sum_append,aF ∅,dk ∅];simp
  have s0:0<=(ns1.take k).sum:=(xZ (i:=0) λn hn=>h1 n (uZ hn)).2.2;have a:=(xZ (i:=k) h1).1;have b:(ns2.getD k 0).toNat<=B:=by
   by_cases z:k<ns2.length
   .have:=(h2 _ (cq (d:=0) z)).2;omega
   .rw [aT,cZ (c8 z)];exact eB _
  show stN ns1 ns2 k+_<=_;rw[e,show ((ns1.take k).sum+ns1.getD k 0).toNat=(ns1.take k).sum.toNat+(ns1.getD k 0).toNat by exact oz6 s0 a,Nat.mul_add];exact Nat.add_le_add ih (xY b (aI _))
end Pf
namespace Pf
open PySem L2 L3 PyProof.Rows
section
variable {C G S:Addr}
def dO (H:Hp)(p:Int)(l:Addr)(ps:List (Int×Int))(ns:List Int)(Ms:List Mv):Prop:=∃ ts:List Addr,H l=some (.lst (ts.map V.ref))/\ts.length=ps.length/\∀ (i:Nat) t q,ts[i]?=some t->ps[i]?=some q->∃ r rs,cP H p (nt ns q.2:Nat) (nt ns q.1:Nat) t r rs (Ms.getD i [])
theorem dO.same {H H':Hp}{p:Int}{l:Addr}{ps:List (Int×Int)}{ns:List Int}{Ms:List Mv}(h:dO H p l ps ns Ms)(s:aa H H'):dO H' p l ps ns Ms:=
 let ⟨ts,a,b,c⟩:=h;⟨ts,s _ _ a,b,λi t q e1 e2=>let ⟨r,rs,tv⟩:=c i t q e1 e2;⟨r,rs,tv.same s⟩⟩
structure w6 (S C G:Addr)(H:Hp)(x:Addr)(p m:Int)(ps:List (Int×Int))(ns:List Int)(Ms:List Mv)(dx g d z l lp:Addr)(xs:List V):Prop where
 ins:H x=some (.ins S dx (i7 g d z l))
 grd:di G H g p
 drw:hE C H d m lp xs
 prs:cK H xs ps
 szs:bU H z ns
 tbs:dO H p l ps ns Ms
theorem w6.same {S G:Addr}{H H':Hp}{x:Addr}{p m:Int}{ps:List (Int×Int)}{ns:List Int}{Ms:List Mv}{dx g d z l lp:Addr}{xs:List V}(h:w6 S C G H x p m ps ns Ms dx g d z l lp xs)(s:aa H H'):w6 S C G H' x p m ps ns Ms dx g d z l lp xs:=
 ⟨s _ _ h.ins,h.grd.same s,(let ⟨a,b,c⟩:=h.drw;⟨a,s _ _ b,s _ _ c⟩),h.prs.same s,h.szs.same s,h.tbs.same s⟩
def iO (S C G:Addr)(H:Hp)(x:Addr)(p m:Int)(ps:List (Int×Int))(ns:List Int)(Ms:List Mv):Prop:=∃ dx g d z l lp xs,w6 S C G H x p m ps ns Ms dx g d z l lp xs
theorem iO.same {S G:Addr}{H H':Hp}{x:Addr}{p m:Int}{ps:List (Int×Int)}{ns:List Int}{Ms:List Mv}(h:iO S C G H x p m ps ns Ms)(s:aa H H'):iO S C G H' x p m ps ns Ms:=let ⟨dx,g,d,z,l,lp,xs,k⟩:=h;⟨dx,g,d,z,l,lp,xs,k.same s⟩
structure av (p m:Int)(ps:List (Int×Int))(ns:List Int)(Ms:List Mv):Prop where
 ip:iA m ps
 p9:ps.length<=9
 hm:(ns.length:Int)=m
 sz:∀ n∈ns,0<=n/\n<=6
 sum:ns.sum<=8
 sh:∀ (i:Nat) q,ps[i]?=some q->(Ms.getD i []).length=nt ns q.2/\∀ xs∈Ms.getD i [],xs.length=nt ns q.1/\cN p 60 xs
theorem gi {ns:List Int}{i:Int}{B:Nat}(h:∀ n∈ns,0<=n/\n<=B):nt ns i<=B/\0<=ns.getD i.toNat 0:=by
 unfold nt;by_cases z:i.toNat<ns.length
 .have:=h _ (cq (d:=0) z);exact⟨∅,this.1⟩
 .rw [aT,cZ ∅];exact⟨eB _,⇑0⟩
def spMin (G:Addr):L2.Sp:=λvs H Q _=>∃ (g:Addr) (p:Int) (va vb:V) (x y:Nv),vs=[.ref g,va,vb]/\di G H g p/\af p/\aE H p va x/\aE H p vb y/\aZ p x/\aZ p y/\ck 130 x/\ck 130 y/\∀ v H',aa H H'->aE H' p v (iI p x y)->Q v H'
theorem o8 (F:bc K "minus" "Ground.minus" AB f fd)(T:bp K mg C G S)(Yap:az P w K mg base "fraction" 5 wq):ax P w K mg base aW 6 f fd ["self","a","b"] (spMin G):=by
 have nd:=EO.nd;refine F.ok EO (λvs H Q E h=>?_) (λcdv A outer s H vs Q E hr h=>?_)
 .refine jk h λg p va vb x y e97 _=>?_;clear h;obtain rfl:=e97;rfl
 .refine tO h λg p va vb x y e98 e99 hp e910=>?_;clear h;obtain rfl:=e98;obtain⟨dx,hg⟩:=e99;refine qU e910 λna nb ix iy bx by' q=>?_
  clear e910;have p0:=hp.lo;refine⟨_,((@bI _ _ _ _ _ _ _ _ (bW c9 (eA (ae 0) rfl) aq (aU _)) (~~~(Yap<$>hr<$>((fQ<|>(dW<|>((cX bC)<|>(ae 1)<||>aq)<&&>((cX bC)<|>(ae 2)<||>aq))<&&>(dW<|>((cX bC)<|>(ae 2)<||>aq)<&&>((cX bC)<|>(ae 1)<||>aq)))<&>((dW<|>((cX bC)<|>(ae 1)<||>aq)<&&>((cX bC)<|>(ae 2)<||>aq))<&>ah)))) bJ)<*>(~~~(fE<|>((gH fQ)<|>(ae 1)<&&>(ae 2))<&&>(eA (ae 0) rfl)))),?_⟩;walk_at "wp";refine c5 G dx _ ⟨hg,T.cl_Ground,T.nP,_,jA p,rfl,bA (λhc=>?_) (λhc=>?_)⟩
  .have hp0:p=0:=by simpa using hc
   refine ar (na.ref hp0) λta e911 hta=>?_;obtain rfl:=e911;refine ar (nb.ref hp0) λtb e912 htb=>?_;obtain rfl:=e912;have px:=ix.pos;have py:=iy.pos;have pb:0<x.2*y.2:=j6 px py;walk_at "wp";refine⟨_,aB.of hta,_,rfl,_,aB.of htb,_,rfl,_,rfl,_,rfl,bx.1.ok by'.2 ⇑0,_,aB.of htb,_,rfl,_,aB.of hta,_,rfl,_,rfl,_,rfl,by'.1.ok bx.2 ⇑0,_,aB.of hta,_,rfl,_,aB.of htb,_,rfl,_,rfl,_,rfl,bx.2.ok by'.2 ⇑0,?_⟩;refine aM _ _ ⟨rfl,((bx.1.mul by'.2).sub ((by'.1.mul bx.2).le ⇑0)).le ⇑0,(bx.2.mul by'.2).le ⇑0,∅,λt H' s' ht=>q _ _ s' ?_⟩;rw[iI,if_pos hp0];rw[lH pb] at ht;exact aE.tup hp0 ht
  .have hp0:¬ p=0:=by simpa using hc
   obtain rfl:=na.int hp0;obtain rfl:=nb.int hp0;walk_at "wp";refine c5 G dx _ ⟨hg,T.cl_Ground,T.nP,_,jA p,p,rfl,∅,q _ H (aa.refl _) ?_⟩;have:=aE.of (H:=H) (x:=iI p x y) hp0;rw[iI,if_neg hp0] at this ⊢;exact this
theorem Ht {p:Int}{x:Nv}(hp:af p)(h:vg p 0 1 x):x=(0,1):=by
 obtain⟨F,_,hF⟩:=qh hp;refine hF.inj h.is (jB hp) ?_;rw[h.fd F hF,nI,rq,gL]
 grind
abbrev stL (ns1 ns2:List Int)(n:Nat):List V:=(List.range n).map λi=>V.int (stN ns1 ns2 i:Nat)
theorem uf {ns1 ns2:List Int}{n i:Nat}(h:i<n):(stL ns1 ns2 n)[i]?=some (V.int (stN ns1 ns2 i:Nat)):=by rw[bH,j9 h];rfl
theorem uC {ns1 ns2:List Int}{n:Nat}:atI (stL ns1 ns2 (n+1)) (-1)=some (V.int (stN ns1 ns2 n:Nat)):=by
 have e:=uf (ns1:=ns1) (ns2:=ns2) (uW n);unfold atI;rw[ux (by rw[aA,ef];omega)];simpa using e
theorem Dm {ns1 ns2:List Int}{n:Nat}{v:Int}(h:v=(stN ns1 ns2 n:Nat)):stL ns1 ns2 n++[V.int v]=stL ns1 ns2 (n+1):=by rw[stL,stL,jh,dD,h];rfl
theorem CC {ns1 ns2:List Int}{i:Nat}{a b:Int}(ha:ns1[i]?=some a)(hb:ns2[i]?=some b)(a0:0<=a)(b0:0<=b):(stN ns1 ns2 i:Int)+b*a=(stN ns1 ns2 (i+1):Nat):=by
 show _=((stN ns1 ns2 i+(ns2.getD i 0).toNat*(ns1.getD i 0).toNat:Nat):Int);rw[de ha,de hb,iw,j4,gz a0,gz b0]
theorem rO {n:Int}(h0:0<=n)(h1:n<=24):sF n:=by unfold sF;omega
def vF (S C G:Addr):L2.Sp:=λvs H Q _=>∃ (x x':Addr) (p m:Int) (ps:List (Int×Int)) (ns ns':List Int) (Ms Ms':List Mv),vs=[.ref x,.ref x']/\iO S C G H x p m ps ns Ms/\iO S C G H x' p m ps ns' Ms'/\ns'.length=ns.length/\∀ (D:Addr) H',aa H H'->H D=none->H' D=some (.lst (stL ns ns' (ns.length+1)))->Q (.ref D) H'
theorem o3 (F:bc K "place_starts" "place_starts" AD f fd)(T:bp K mg C G S):ax P w K mg base aW 1 f fd ["one","other"] (vF S C G):=by
 have nd:=E3.nd;refine F.ok E3 (λvs H Q E h=>?_) (λcdv A outer s H vs Q E hr h=>?_)
 .refine qg h λx x' p m ps ns ns' Ms Ms' e913 _=>?_;clear h;obtain rfl:=e913;rfl
 .refine vK h λx x' p m ps ns ns' Ms Ms' e914 e915 e916 e917=>?_;clear h;obtain rfl:=e914;obtain⟨dx,g,d,z,l,lp,xs,st⟩:=e915;obtain⟨dx',g',d',z',l',lp',xs',st'⟩:=e916;obtain⟨hl,q⟩:=e917;refine⟨_,((2|||nd|||(@cU _ _ _ _ (aq<&>ah)))<*>((dw cW rfl (qi rfl T.n_zip ((gM (pv 0) rfl)<&>((gM (pv 1) rfl)<&>ah))) (@dJ _ _ _ _ _ 2 rfl ((3>>>nd)^^^((4>>>nd)^^^(@cT _))) ⇑1 ⇑1) (@bE _ _ _ (gp (fN f_ gC gB (mtJ fW) (ae 2) ((dI<|>(aV<|>(ae 2)<||>(fO fU aq))<&&>((opJ dW)<|>(ae 4)<&&>(ae 3)))<&>ah)))))<*>(~~~(ae 2)))),?_⟩;walk_at "wp";refine⟨⇑0,λD0 hD0=>?_⟩;have s1:=aa.new (o:=.lst [V.int 0]) hD0;have q1:(ao H D0 (.lst [V.int 0])) D0=some (.lst (stL ns ns' 1)):=aw;generalize ao H D0 (.lst [V.int 0])=H1 at *;have n8:=st.szs.2.1;refine⟨_,rfl,x,S,dx,_,_,rfl,s1 _ _ st.ins,T.cl_Standing,T.nSs,rM ..,_,rfl,x',S,dx',_,_,rfl,s1 _ _ st'.ins,T.cl_Standing,T.nSs,rM ..,z,z',rfl,⟨_,aj.of (s1 _ _ st.szs.1)⟩,⟨_,aj.of (s1 _ _ st'.szs.1)⟩,
   B4 (xs:=ns.map V.int) (ys:=ns'.map V.int) (λi σ H2=>∃ v3 v4:Option V,σ=[some (.ref x),some (.ref x'),some (.ref D0),v3,v4]/\aa H H2/\H2 D0=some (.lst (stL ns ns' (i+1)))) (by rw[aA,aA,hl]) ⟨none,none,rfl,s1,q1⟩ (λi σ H2 _ ⟨_,_,_,e,_⟩=>⟨aj.of (e _ _ st.szs.1),aj.of (e _ _ st'.szs.1)⟩) ?_ ?_⟩
  .intro i a b pz σ H2 ha hb hpz e91;refine cy e91 λv3 v4 e918 s2 h2=>?_;clear e91;obtain rfl:=e918;refine ar (jS ha) λn fa e919=>?_;obtain rfl:=e919;refine ar (jS hb) λn' fb e920=>?_;obtain rfl:=e920;have hi:i<ns.length:=(cj.mp fa).1;obtain⟨a0,a1⟩:=st.szs.2.2 n (aY fa);obtain⟨b0,b1⟩:=st'.szs.2.2 n' (aY fb);have s3:=aa.new (o:=.tup [V.int n,V.int n']) hpz;have h3:=s3 _ _ h2;walk_at "wp";refine⟨_,aB.of aw,rfl,_,_,rfl,_,_,rfl,rfl,?_⟩;generalize ao H2 pz (.tup [V.int n,V.int n'])=H3 at *;refine⟨.inl ⟨rfl,_,aj.of h3⟩,_,aj.of h3,_,uC,(rO b0 b1).mul (rO a0 a1),_,rfl,_,h3,cS (by rw[aA,ef];exact oz84 n8 hi),_,_,⟨rfl,rfl⟩,(s2.trans s3).upd hD0,?_⟩;rw[aw,Dm (CC fa fb a0 b0)]
  .intro σ H2 e92;refine cy e92 λv3 v4 e921 s2 h2=>?_;clear e92;obtain rfl:=e921;rw[aA] at h2;exact q D0 H2 s2 hD0 h2
theorem HQ (p:Int):(ni p).lookup ("number" : Str)=none:=y6 _ ⋯
theorem Hq (p:Int):(ni p).lookup ("minus" : Str)=none:=y6 _ ⋯
theorem rg {ns ns':List Int}{tl:Int}{k j:Nat}(h:tl.toNat<ns.length)(hk:k<nt ns' tl)(hj:j<nt ns tl):stN ns ns' tl.toNat+k*nt ns tl+j<stN ns ns' ns.length:=by
 have h1:=wG ns ns' (show tl.toNat+1<=ns.length by omega);have h2:stN ns ns' (tl.toNat+1)=stN ns ns' tl.toNat+nt ns' tl*nt ns tl:=rfl;have h3:(k+1)*nt ns tl<=nt ns' tl*nt ns tl:=e_ hk (aI _);rw[jZ] at h3;omega
theorem dO.at {H:Hp}{p:Int}{l:Addr}{ps:List (Int×Int)}{ns:List Int}{Ms:List Mv}(h:dO H p l ps ns Ms){t:Nat}{q:Int×Int}(hq:ps[t]?=some q):∃ ts tt r rs,H l=some (.lst ts)/\ts[t]?=some (.ref tt)/\cP H p (nt ns q.2:Nat) (nt ns q.1:Nat) tt r rs (Ms.getD t []):=by
 refine aQ h λts a b c=>?_;clear h;have ht:t<ts.length:=by have:=(cj.mp hq).1;exact cM b this
 refine i9 (c t _ q (aF ht) hq) λr rs tv=>?_;exact i_ _ _ r rs ⟨a,by rw[bH,aF ht];rfl,tv⟩
theorem cP.rowAt {H:Hp}{p hh wd:Int}{t r:Addr}{rs:List Addr}{M:Mv}(h:cP H p hh wd t r rs M){i:Nat}(hi:i<M.length):∃ a vs,(rs.map V.ref)[i]?=some (.ref a)/\H a=some (.lst vs)/\ay (aE H p) vs (M.getD i []):=by
 have e:M[i]?=some (M.getD i []):=by rw[dk hi];exact aF _
 refine ar (h.row.at e) λa ea e922=>?_;obtain⟨vs,hv,al⟩:=e922;exact aM a vs ⟨by rw[bH,ea];rfl,hv,al⟩
theorem jO {H:Hp}{z:Addr}{ns:List Int}{i:Int}(h:bU H z ns)(h0:0<=i)(h1:i<ns.length):atI (ns.map V.int) i=some (.int (nt ns i:Nat)):=by
 have:=jy (ns:=ns) h0 h1;rw[this];have h2:=h.2.2 (ns.getD i.toNat 0) (cq (oz55 h0 h1));unfold nt;rw[gz h2.1]
def spDr (S C G:Addr):L2.Sp:=λvs H Q _=>∃ (x x':Addr) (p m:Int) (ps:List (Int×Int)) (ns ns':List Int) (Ms Ms':List Mv) (t i j:Nat) (q:Int×Int),vs=[.ref x,.ref x',.int t,.int i,.int j]/\iO S C G H x p m ps ns Ms/\iO S C G H x' p m ps ns' Ms'/\af p/\av p m ps ns Ms/\av p m ps ns' Ms'/\ps[t]?=some q/\i<nt ns' q.2/\j<nt ns q.1 /\
 ∀ (D:Addr) H',aa H H'->H D=none->bf H' p D (gf p ns ns' q (Ms.getD t []) (Ms'.getD t []) i j)->Q (.ref D) H'
theorem sZ (F:bc K "difference_row" "difference_row" Az f fd)(T:bp K mg C G S)(Yaq:az P w K mg base "place_starts" 1 (vF S C G))(Ybw:qO P w K mg base G "number" 6 (yg G) [.int 1])(Ybq:jI P w K mg base G "minus" 6 (spMin G)):ax P w K mg base aW 7 f fd ["one","other","at","row_place","column_place"] (spDr S C G):=by
 have nd:=E1.nd;refine F.ok E1 (λvs H Q E h=>?_) (λcdv A outer s H vs Q E hr h=>?_)
 .refine oo h λx x' p m ps ns ns' Ms Ms' t i j q e923 _=>?_;clear h;obtain rfl:=e923;rfl
 .refine om h λx x' p m ps ns ns' Ms Ms' t i j e924 e925 i1 i2 e926=>?_;clear h;obtain⟨tl,hd⟩:=e924;obtain rfl:=e925;refine qU e926 λhp V1 V2 hq hi hj q=>?_;clear e926;refine tP (id i1) λdx g d z l lp xs st=>?_;refine tP (id i2) λdx' g' d' z' l' lp' xs' st'=>?_;have hi:i<nt ns' hd:=hi;have hj:j<nt ns tl:=hj;refine⟨_,((5|||nd|||(eA (ae 0) rfl))<*>((6|||nd|||(Yaq<$>hr<$>((ae 0)<&>((ae 1)<&>ah))))<*>((dX (aV<|>(gM (eA (ae 0) rfl) rfl)<||>(ae 2)) (@dJ _ _ _ _ _ 2 rfl ((7>>>nd)^^^((8>>>nd)^^^(@cT _))) ⇑1 ⇑1))<*>((9|||nd|||(t_<|>(@cU _ _ _ _ ((kJ T.cl_Ground Ybw hr.m (ae 5) (aq<&>ah))<&>ah))<&&>(aV<|>(ae 6)<||>(fO fU aq))))<*>((dw cW rfl (rf rfl T.n_enumerate ((aV<|>(bC<|>(aV<|>(gM (pv 1) rfl)<||>(pv 2))<||>aq)<||>(pv 3))<&>ah)) (@dJ _ _ _ _ _ 2 rfl ((10>>>nd)^^^((11>>>nd)^^^(@cT _))) ⇑1 ⇑1) (@bE _ _ _ (dX (ae 11) (iJ (ae 9) (dI<|>(dI<|>((ixJ aV)<|>(ae 6)<||>(ae 7))<&&>(mw<|>(ae 10)<&&>(aV<|>(eA (ae 0) rfl)<||>(ae 7))))<&&>(ae 4)) iM))))<*>((dw cW rfl (rf rfl T.n_enumerate ((bC<|>(aV<|>(gM (pv 0) rfl)<||>(pv 2))<||>aq)<&>ah)) (@dJ _ _ _ _ _ 2 rfl ((10>>>nd)^^^((12>>>nd)^^^(@cT _))) ⇑1 ⇑1) ((13|||nd|||(dI<|>(dI<|>((ixJ aV)<|>(ae 6)<||>(ae 8))<&&>(mw<|>(ae 3)<&&>(aV<|>(eA (ae 0) rfl)<||>(ae 8))))<&&>(ae 10)))<*>(@bE _ _ _ (dX (BF T.cl_Ground Ybq hr.m (ae 5) (((ixJ aV)<|>(ae 9)<||>(ae 13))<&>(((ixJ aV)<|>(ae 12)<||>(ae 4))<&>ah))) (iJ (ae 9) (ae 13) iM)))))<*>(~~~(ae 9)))))))),?_⟩;refine mf λX hX=>?_;walk_at "wp";have hll:ns'.length=ns.length:=by have:=V1.hm;have:=V2.hm;omega
  refine c5 S dx _ ⟨st.ins,T.cl_Standing,T.nSg,_,wO ..,x,x',p,m,ps,ns,ns',Ms,Ms',rfl,i1,i2,hll,λD H1 s1 hD eD=>?_⟩;have st1:=st.same s1;have st1':=st'.same s1;clear st st' i1 i2;refine ar st1.drw λdd hd1 hd2=>?_;obtain⟨xq,exq,hxq⟩:∃ xq,xs[t]?=some (V.ref xq)/\H1 xq=some (.tup [.int tl,.int hd]):=by
   have ht:t<xs.length:=by have:=(cj.mp hq).1;have:=st1.prs.1;omega
   refine ar (st1.prs.2 t _ _ (aF ht) hq) λxq e h=>?_;exact⟨xq,by rw[aF ht,e],h⟩
  refine cG (V1.ip _ (aY hq)) λi0 i1 j0 j1=>?_;subst hX;refine bD λX hX=>?_;walk_at "wp";refine c5 S dx _ ⟨st1.ins,T.cl_Standing,T.nSd,_,uF ..,d,rfl,C,dd,_,hd1,T.cl_Drawing,T.nA,_,rQ m lp,lp,rfl,_,aj.of hd2,_,fB exq,_,rfl,_,aB.of hxq,rfl,_,_,rfl,_,_,rfl,rfl,?_⟩;subst hX;refine bD λX hX=>?_;walk_at "wp";obtain⟨dg,hg0⟩:=st1.grd;have tot:stN ns ns' ns.length<=48:=by
   have h1:=vX ns.length (B:=6) (λn h=>(V1.sz n h).1) V2.sz (aI _);rw[uU] at h1;have:=V1.sum;exact oz98 h1 this
  refine aM dg _ ⟨hg0,HQ p,g,p,0,1,rfl,⟨dg,hg0⟩,hp,dc ⇑0 ⇑0,dc ⇑0 ⇑0,λ_=>⇑0,kS hp,λnv nx H2 s2 hnv iq=>⟨⇑0,λo1 ho1=>?_⟩⟩;rw[Ht hp iq] at hnv;have s3:=s2.trans (aa.new (o:=.lst [nv]) ho1);have e3:ao H2 o1 (.lst [nv]) o1=some (.lst [nv]):=aw;have hnv3:=hnv.same (aa.new (o:=.lst [nv]) ho1);generalize ao H2 o1 (.lst [nv])=H3 at *;refine⟨_,aj.of (s3 _ _ eD),_,uC,o1,_,_,rfl,rfl,e3,oz114,∅,by show 1*_<=_;rw[d5];exact cx (show 1*_<=48 by exact oz139 tot) ⇑0,λFd hFd=>?_⟩;rw[rep1,d5];have s4:=s3.trans (aa.new (o:=.lst (List.replicate (stN ns ns' ns.length) nv)) hFd);have rF:bf (ao H3 Fd (.lst (List.replicate (stN ns ns' ns.length) nv))) p Fd (List.replicate (stN ns ns' ns.length) (0,1)):=⟨_,aw,ay.rep (hnv3.same (aa.new hFd)) _⟩
  generalize ao H3 Fd (.lst (List.replicate (stN ns ns' ns.length) nv))=H4 at *;have fF:H1 Fd=none:=s3.free hFd;have n8:=st1.szs.2.1;have hl1:=V1.hm;have ht0:tl.toNat<ns.length:=∅
  have hd0:hd.toNat<ns.length:=∅
  have et:atI (stL ns ns' (ns.length+1)) tl=some (V.int (stN ns ns' tl.toNat:Nat)):=dH i0 (uf (oz51 ht0));have eh:atI (stL ns ns' (ns.length+1)) hd=some (V.int (stN ns ns' hd.toNat:Nat)):=dH j0 (uf (oz51 hd0));refine jw (st1.tbs.at hq) λts1 tt1 r1 rs1 hl1' et1 tv1=>?_;refine jw (st1'.tbs.at hq) λts2 tt2 r2 rs2 hl2' et2 tv2=>?_;obtain⟨sh1,sr1⟩:=V1.sh t _ hq;obtain⟨sh2,sr2⟩:=V2.sh t _ hq;obtain⟨a2,vs2,ea2,ha2,al2⟩:=tv2.rowAt (i:=i) (by rw[sh2];exact hi);have hr2:=sr2 _ (cq (d:=[]) (show i<(Ms'.getD t []).length by rw[sh2];exact hi));have lv2:vs2.length=nt ns' tl:=al2.1.trans hr2.1;have b6:=(gi (i:=tl) (B:=6) V1.sz).1;have b6':=(gi (i:=tl) (B:=6) V2.sz).1;have b6h:=(gi (i:=hd) (B:=6) V1.sz).1;have b6h':=(gi (i:=hd) (B:=6) V2.sz).1;clear s2 s3 hnv hnv3 iq e3 ho1 hFd;subst hX;refine bD λX hX=>?_;walk_at "wp";refine⟨_,rfl,x',S,dx',_,_,rfl,s4 _ _ st1'.ins,T.cl_Standing,T.nSt,DK ..,_,rfl,l',_,_,_,rfl,rfl,aj.of (s4 _ _ hl2'),fB et2,tt2,_,_,_,rfl,rfl,aB.of (s4 _ _ tv2.tup),rfl,_,rfl,r2,_,_,_,rfl,rfl,aj.of (s4 _ _ tv2.lst),fB ea2,a2,rfl,⟨_,aj.of (s4 _ _ ha2)⟩,
   uh (xs:=vs2) (λk σ H5=>∃ (v10 v11:Option V),σ=[some (.ref x),some (.ref x'),some (.int t),some (.int i),some (.int j),some (.ref g),some (.ref D),some (.int tl),some (.int hd),some (.ref Fd),v10,v11,none,none]/\aa H1 H5/\bf H5 p Fd (gg ((Ms'.getD t []).getD i []) (stN ns ns' tl.toNat) (nt ns tl) j k (List.replicate (stN ns ns' ns.length) (0,1))))
   ⟨none,none,rfl,s4,rF⟩ (λk σ H5 _ ⟨_,_,_,s5,_⟩=>aj.of (s5 _ _ ha2)) ?_ ?_⟩
  .intro k u pz σ H5 hu hpz e93;refine cy e93 λv10 v11 e927 s5 r5=>?_;clear e93;obtain rfl:=e927;have hk:k<nt ns' tl:=by have:=(cj.mp hu).1;exact b_ lv2 this
   refine ar (al2.at' hu) λy ey ny=>?_;have s6:=s5.trans (aa.new (o:=.tup [V.int k,u]) hpz);have r6:=r5.same (aa.new (o:=.tup [V.int k,u]) hpz);have e6:ao H5 pz (.tup [V.int k,u]) pz=some (.tup [V.int k,u]):=aw;generalize ao H5 pz (.tup [V.int k,u])=H6 at *;walk_at "wp";refine⟨_,aB.of e6,rfl,_,_,rfl,_,_,rfl,rfl,?_⟩;refine ar r6 λws hws alw=>?_;clear r6;have wl:ws.length=stN ns ns' ns.length:=by rw[alw.1,mz,d0]
   have pl:=rg (j:=j) ht0 hk hj;refine⟨_,aj.of (s6 _ _ eD),_,et,S,dx,_,s6 _ _ st1.ins,T.cl_Standing,T.nSs,_,rM ..,z,rfl,_,aj.of (s6 _ _ st1.szs.1),_,jO st1.szs i0 ∅,_,rfl,_,rfl,.inl ⟨vx,oz49 b6' hk⟩,_,rfl,ws,hws,stN ns ns' tl.toNat+k*nt ns tl+j,?_,_,_,⟨rfl,rfl⟩,s6.upd fF,⟨_,aw,?_⟩⟩
   .rw [show ((stN ns ns' tl.toNat:Nat):Int)+(k:Int)*((nt ns tl:Nat):Int)+(j:Int)=((stN ns ns' tl.toNat+k*nt ns tl+j:Nat):Int) by rw[iw,iw,j4]];exact tH (wl ▸ pl)
   .have:=(alw.mono λ_ _ q=>q.put (o:=.lst (ws.set (stN ns ns' tl.toNat+k*nt ns tl+j) u)) hws).set (stN ns ns' tl.toNat+k*nt ns tl+j) ((ny.same s6).put hws);show ay _ _ (List.set _ _ _);rw[de ey];exact this
  .intro σ H5 e94;refine cy e94 λv10 v11 e928 s5 r5=>?_;clear e94;obtain rfl:=e928;rw[lv2] at r5;have key:X { nx:=λx H'=>Q V.non H',rt:=Q } [some (.ref x),some (.ref x'),some (.int t),some (.int i),some (.int j),some (.ref g),some (.ref D),some (.int tl),some (.int hd),some (.ref Fd),v10,v11,none,none] H5:=by
    subst hX;refine bD λX hX=>?_;walk_at "wp";have rl1:rs1.length=nt ns hd:=tv1.row.1.trans sh1;refine⟨_,rfl,x,S,dx,_,_,rfl,s5 _ _ st1.ins,T.cl_Standing,T.nSt,DK ..,_,rfl,l,_,_,_,rfl,rfl,aj.of (s5 _ _ hl1'),fB et1,tt1,_,_,_,rfl,rfl,aB.of (s5 _ _ tv1.tup),rfl,r1,rfl,⟨_,aj.of (s5 _ _ tv1.lst)⟩,
     uh (xs:=rs1.map V.ref) (λk σ H6=>∃ (v10 v11 v12 v13:Option V),σ=[some (.ref x),some (.ref x'),some (.int t),some (.int i),some (.int j),some (.ref g),some (.ref D),some (.int tl),some (.int hd),some (.ref Fd),v10,v11,v12,v13]/\aa H1 H6/\bf H6 p Fd (gZ p (λk=>((Ms.getD t []).getD k []).getD j (0,1)) (stN ns ns' hd.toNat+i*nt ns hd) k (gg ((Ms'.getD t []).getD i []) (stN ns ns' tl.toNat) (nt ns tl) j (nt ns' tl) (List.replicate (stN ns ns' ns.length) (0,1)))))
     ⟨v10,v11,none,none,rfl,s5,r5⟩ (λk σ H6 _ ⟨_,_,_,_,_,s6,_⟩=>aj.of (s6 _ _ tv1.lst)) ?_ ?_⟩
    .intro k u pz σ H6 hu hpz e95;refine jw e95 λv10 v11 v12 v13 e929 s6 r6=>?_;clear e95;obtain rfl:=e929;have hk:k<nt ns hd:=by have:=(cj.mp hu).1;rw[aA,rl1] at this;exact this
     obtain⟨a1,vs1,ea1,ha1,al1⟩:=tv1.rowAt (i:=k) (by rw[sh1];exact hk);rw[hu] at ea1;cases ea1;have hr1:=sr1 _ (cq (d:=[]) (show k<(Ms.getD t []).length by rw[sh1];exact hk));have lv1:vs1.length=nt ns tl:=al1.1.trans hr1.1;obtain⟨vb,evb⟩:∃ vb,vs1[j]?=some vb:=⟨_,aF (c3 hj lv1)⟩
     refine ar (al1.at' evb) λy ey ny=>?_;have s7:=s6.trans (aa.new (o:=.tup [V.int k,V.ref a1]) hpz);have r7:=r6.same (aa.new (o:=.tup [V.int k,V.ref a1]) hpz);have e7:ao H6 pz (.tup [V.int k,V.ref a1]) pz=some (.tup [V.int k,V.ref a1]):=aw;generalize ao H6 pz (.tup [V.int k,V.ref a1])=H7 at *;simp only[ju,iG,mi,cg,List.set_cons_zero,List.set_cons_succ];refine aM pz _ ⟨rfl,aB.of e7,rfl,_,_,rfl,_,_,rfl,rfl,?_⟩;refine ar r7 λws hws alw=>?_;clear r7;have wl:ws.length=stN ns ns' ns.length:=by rw[alw.1,uD,mz,d0]
     have pl:=rg (j:=k) hd0 hi hk;refine bD λY hY=>?_;walk_at "wp";refine⟨_,aj.of (s7 _ _ eD),_,eh,S,dx,_,s7 _ _ st1.ins,T.cl_Standing,T.nSs,_,rM ..,z,rfl,_,aj.of (s7 _ _ st1.szs.1),_,jO st1.szs j0 ∅,_,rfl,.inl ⟨vx,∅⟩,_,rfl,?_⟩;rw[show ((stN ns ns' hd.toNat:Nat):Int)+(i:Int)*((nt ns hd:Nat):Int)+(k:Int)=((stN ns ns' hd.toNat+i*nt ns hd+k:Nat):Int) by rw[iw,iw,j4]];subst hY;walk_at "wp";have hr1g:=hr1.2 y (aY ey);have hpos:stN ns ns' hd.toNat+i*nt ns hd+k<ws.length:=wl ▸ pl;obtain⟨va,eva⟩:∃ va,ws[stN ns ns' hd.toNat+i*nt ns hd+k]?=some va:=⟨_,aF hpos⟩
     refine ar (alw.at' eva) λu eu nu=>?_;have gu:aZ p u/\ck 60 u:=by
      have h0:cN p 60 [(0,1)]:=λx hx=>by rw[cF.mp hx];exact⟨jB hp,dc ⇑0 ⇑0,dc ⇑0 ⇑0⟩
      have hg:=uj (s:=stN ns ns' tl.toNat) (w:=nt ns tl) (c:=j) h0 hr2.2 (r:=List.replicate (stN ns ns' ns.length) (0,1)) (λx hx=>by rw[(gw.mp hx).2];exact h0 _ (by simp)) (nt ns' tl);have e1:=wI (p:=p) (f:=λk=>((Ms.getD t []).getD k []).getD j (0,1)) (s:=stN ns ns' hd.toNat+i*nt ns hd) (k:=k) (r:=gg ((Ms'.getD t []).getD i []) (stN ns ns' tl.toNat) (nt ns tl) j (nt ns' tl) (List.replicate (stN ns ns' ns.length) (0,1)));rw[de eu] at e1;rw[e1];exact hg _ (cq (by rw[mz,d0];exact pl))
     refine aM dg _ ⟨s7 _ _ hg0,Hq p,_,aj.of hws,va,fB eva,_,aj.of (s7 _ _ ha1),vb,fB evb,g,p,va,vb,u,y,rfl,⟨dg,s7 _ _ hg0⟩,hp,nu,ny.same s7,gu.1,hr1g.1,ck.le gu.2 ⇑0,ck.le hr1g.2 ⇑0,λv8 H8 s8 n8=>?_⟩;have hws8:=s8 _ _ hws;refine⟨ws,hws8,stN ns ns' hd.toNat+i*nt ns hd+k,tH hpos,_,_,_,_,⟨rfl,rfl,rfl,rfl⟩,(s7.trans s8).upd fF,⟨_,aw,?_⟩⟩;have:=(alw.mono λ_ _ q=>(q.same s8).put (o:=.lst (ws.set (stN ns ns' hd.toNat+i*nt ns hd+k) v8)) hws8).set (stN ns ns' hd.toNat+i*nt ns hd+k) (n8.put hws8);show ay _ _ (List.set _ _ _);rw[de eu];show ay _ _ (List.set _ _ (iI p u (((Ms.getD t []).getD k []).getD j (0,1))));rw[de ey];exact this
    .intro σ H6 e96;refine jw e96 λv10 v11 v12 v13 e930 s6 r6=>?_;clear e96;obtain rfl:=e930;subst hX;walk_at "wp";rw[aA,rl1] at r6;exact q Fd H6 (s1.trans s6) (s1.free fF) r6
   exact key
end
end Pf
namespace Pf
open PySem L2 L3 PyProof.Rows
section
variable {C PL:Addr}
def bZ (H H':Hp)(p:Int)(R:Addr)(rs:List Addr)(M:Mv):Prop:=H' R=some (.lst (rs.map V.ref))/\ay (bf H' p) rs M/\R∉rs/\∀ a∈rs,H a=none
theorem bZ.same {H H' H2:Hp}{p:Int}{R:Addr}{rs:List Addr}{M:Mv}(h:bZ H H' p R rs M)(s:aa H' H2):bZ H H2 p R rs M:=⟨s _ _ h.1,h.2.1.mono λ_ _ q=>q.same s,h.2.2⟩
theorem bZ.add {H H':Hp}{p:Int}{R a:Addr}{rs:List Addr}{M:Mv}{xs:List Nv}(h:bZ H H' p R rs M)(ha:bf H' p a xs)(na:a≠R)(fa:H a=none):bZ H (ao H' R (.lst (rs.map V.ref++[.ref a]))) p R (rs++[a]) (M++[xs]):=by
 refine⟨by rw[aw,mC],(h.2.1.app (ay.one ha)).monoM λb ys hb q=>q.put h.1 (λz=>?_),λz=>?_,λb hb=>?_⟩
 .rcases cf.mp hb with h1|h1
  .exact h.2.2.1 (z ▸ h1)
  .exact na (by rw[<- cF.mp h1];exact z)
 .rcases cf.mp z with h1|h1
  .exact h.2.2.1 h1
  .exact na (cF.mp h1).symm
 .rcases cf.mp hb with h1|h1
  .exact h.2.2.2 b h1
  .rw [cF.mp h1];exact fa
theorem jn {ns ns':List Int}{i j:Int}(h:∀ n∈ns,0<=n/\n<=6)(h':∀ n∈ns',0<=n/\n<=6):nt ns' j*nt ns i<=36:=xY (c:=6) (d:=6) (gi h').1 (gi h).1
theorem tI {p:Int}{ns1 ns2:List Int}{ps:List (Int×Int)}{Ms1 Ms2:List Mv}(h1:∀ n∈ns1,0<=n/\n<=6)(h2:∀ n∈ns2,0<=n/\n<=6):∀ n,(dM p ns1 ns2 ps Ms1 Ms2 n).length<=36*n
 | 0=>aI _
 | n+1=>by
  rw[wa,bw,uo];have:=tI (p:=p) (ps:=ps) (Ms1:=Ms1) (Ms2:=Ms2) h1 h2 n;have:=jn (i:=(ps.getD n (0,0)).1) (j:=(ps.getD n (0,0)).2) h1 h2;omega
theorem m4 {p m:Int}{ns1 ns2:List Int}{ps:List (Int×Int)}{Ms1 Ms2:List Mv}(hp:af p)(V1:av p m ps ns1 Ms1)(V2:av p m ps ns2 Ms2):∀ xs∈dM p ns1 ns2 ps Ms1 Ms2 ps.length,cN p 122 xs:=λxs hx=>by
 refine cD (vP hx) λt i j ht hi hj e97=>?_;obtain rfl:=e97;have hq:ps[t]?=some (ps.getD t (0,0)):=by rw[dk ht];exact aF _
 have h0:cN p 60 [(0,1)]:=λx hx=>by rw[cF.mp hx];exact⟨jB hp,dc ⇑0 ⇑0,dc ⇑0 ⇑0⟩
 obtain⟨sh1,sr1⟩:=V1.sh t _ hq;obtain⟨sh2,sr2⟩:=V2.sh t _ hq;unfold gf;refine CN (n:=60) hp ⇑0 h0 (λk=>?_) (uj h0 (sr2 _ (cq (c3 hi sh2))).2 (λx hx=>by rw[(gw.mp hx).2];exact h0 _ (by simp)) _) _;by_cases hk:k<(Ms1.getD t []).length
 .have:=sr1 _ (cq (d:=[]) hk);exact this.2 _ (cq ∅)
 .rw [show (Ms1.getD t []).getD k []=[] by rw[aT,cZ (c8 hk)];rfl];exact h0 _ (by simp)
theorem BN {p m:Int}{ns1 ns2:List Int}{ps:List (Int×Int)}{Ms1 Ms2:List Mv}(V1:av p m ps ns1 Ms1)(V2:av p m ps ns2 Ms2):stN ns1 ns2 ns1.length<=48:=by
 have h1:=vX ns1.length (B:=6) (λn h=>(V1.sz n h).1) V2.sz (aI _);rw[uU] at h1;have:=V1.sum;exact oz98 h1 this
theorem oD {p:Int}{W:Nat}{M:Mv}(hp:af p)(hw:∀ xs∈M,xs.length=W)(hW:W<=48):yw p 122 W M:=by
 have p0:=hp.lo;have p97:=hp.hi;intro Z IR j done left pl hj sw row hr;by_cases h0:p=0
 .subst h0;have hZ:∀ row∈Z,row.length=W/\l9 row:=λrow hr=>by
   obtain⟨i,hi,e⟩:=d9.mp hr;refine ar (IR.at' (i:=i) (x:=row) (by rw[aF hi,e])) λxs ex e98=>?_;obtain⟨ws,b,w1,sm,rfl⟩:=e98;exact⟨(yC (rX 0) (w1.len.trans (hw xs (aY ex)))).1,DH _⟩
  refine (sL (W:=W) (wide:=W) (b:=(W+1)*122) (L:=6) (R:=W+1) hZ (HX hp ⇑0 IR hw) (.inr (aI _)) (by show W+1<=64;omega) hj sw row hr).le ?_;have:(W+1)*((W+1)*122+6+1)<=49*(49*122+6+1):=e_ ∅ ∅;exact cx this ⇑0
 .exact (Gj h0 p97 ((sw.inv p0 (zU p0 IR hw)).rw row hr)).le ⇑0
def spDif (S C G:Addr):L2.Sp:=λvs H Q _=>∃ (x x':Addr) (p m:Int) (ps:List (Int×Int)) (ns ns':List Int) (Ms Ms':List Mv),vs=[.ref x,.ref x']/\iO S C G H x p m ps ns Ms/\iO S C G H x' p m ps ns' Ms'/\af p/\av p m ps ns Ms/\av p m ps ns' Ms' /\
 ∀ (t R:Addr) (rs:List Addr) (n:Int) H',aa H H'->H' t=some (.tup [.int n,.int (stN ns ns' ns.length:Nat),.ref R])->bZ H H' p R rs (dM p ns ns' ps Ms Ms' ps.length)->Q (.ref t) H'
theorem pk (F:bc K "differences" "differences" Am f fd)(T:bp K mg C G S)(Ybd:az P w K mg base "stands_on" 1 (spOn S C G))(Yaq:az P w K mg base "place_starts" 1 (vF S C G))(Ybt:az P w K mg base "difference_row" 7 (spDr S C G)):ax P w K mg base aW 8 f fd ["one","other"] (spDif S C G):=by
 have nd:=EJ.nd;refine F.ok EJ (λvs H Q E h=>?_) (λcdv A outer s H vs Q E hr h=>?_)
 .refine qg h λx x' p m ps ns ns' Ms Ms' e99 _=>?_;clear h;obtain rfl:=e99;rfl
 .refine vK h λx x' p m ps ns ns' Ms Ms' e910 i1 i2 e911=>?_;clear h;obtain rfl:=e910;refine cG e911 λhp V1 V2 q=>?_;clear e911;refine tP (id i1) λdx g d z l lp xs st=>?_;refine tP (id i2) λdx' g' d' z' l' lp' xs' st'=>?_;refine⟨_,((@bI _ _ _ _ _ _ _ _ (dU (eN (Ybd<$>hr<$>((ae 0)<&>((eA (ae 1) rfl)<&>((eA (ae 1) rfl)<&>ah)))))) (@bE _ _ _ jW) bJ)<*>((2|||nd|||(@cU _ _ _ _ ah))<*>((dw cW rfl (rf rfl T.n_enumerate ((gM (gM (pv 0) rfl) rfl)<&>ah)) (@dJ _ _ _ _ _ 2 rfl ((3>>>nd)^^^((@dJ _ _ _ _ _ 2 rfl ((4>>>nd)^^^((5>>>nd)^^^(@cT _))) ⇑1 ⇑1)^^^(@cT _))) ⇑1 ⇑1) (@bE _ _ _ (dw cW rfl (fj rfl T.n_range ((aV<|>(gM (pv 1) rfl)<||>(pv 5))<&>ah)) (6>>>nd) (@bE _ _ _ (dw cW rfl (fj rfl T.n_range ((aV<|>(gM (pv 0) rfl)<||>(pv 4))<&>ah)) (7>>>nd) (@bE _ _ _ (gp (fN f_ gC gB (mtJ fW) (ae 2) ((Ybt<$>hr<$>((ae 0)<&>((ae 1)<&>((ae 3)<&>((ae 6)<&>((ae 7)<&>ah))))))<&>ah)))))))))<*>(~~~(@cb _ _ _ _ _ ((bS fo rfl T.n_len fu ((ae 2)<&>ah))<&>((aV<|>(Yaq<$>hr<$>((ae 0)<&>((ae 1)<&>ah)))<||>(fO fU aq))<&>((ae 2)<&>ah)))))))),?_⟩;refine mf λX hX=>?_;walk_at "wp";refine c5 S dx' _ ⟨st'.ins,T.cl_Standing,T.nSg,_,wO ..,S,dx',_,st'.ins,T.cl_Standing,T.nSd,_,uF ..,x,dx,g,d,z,l,g',d',lp,lp',p,p,m,m,xs,xs',ps,ps,rfl,st.ins,st.grd,st'.grd,st.drw,st'.drw,st.prs,st'.prs,?_⟩;refine⟨true,by rw[bR ⟨rfl,rfl,rfl⟩],dR ⇑0 ⟨⇑0,λR hR=>?_⟩⟩;have s1:=aa.new (o:=.lst []) hR;have q1:(ao H R (.lst [])) R=some (.lst []):=aw;generalize ao H R (.lst [])=H1 at *;subst hX;refine bD λX hX=>?_;walk_at "wp";refine ar st.drw λdd hd1 hd2=>?_;have hxl:=st.prs.1;refine⟨_,rfl,x,S,dx,_,_,rfl,s1 _ _ st.ins,T.cl_Standing,T.nSd,uF ..,d,C,dd,_,_,rfl,s1 _ _ hd1,T.cl_Drawing,T.nA,rQ m lp,lp,rfl,⟨_,aj.of (s1 _ _ hd2)⟩,uh (xs:=xs) (λt σ H2=>∃ (v3 v4 v5 v6 v7:Option V) (rs:List Addr),σ=[some (.ref x),some (.ref x'),some (.ref R),v3,v4,v5,v6,v7]/\aa H H2/\bZ H H2 p R rs (dM p ns ns' ps Ms Ms' t))
   ⟨none,none,none,none,none,[],rfl,s1,q1,ay.nil,by simp,by simp⟩ (λi σ H2 _ ⟨_,_,_,_,_,_,_,e,_⟩=>aj.of (e _ _ hd2)) ?_ ?_⟩
  .intro t u pz σ H2 hu hpz e91;refine vI e91 λv3 v4 v5 v6 v7 rs e912 s2 mr=>?_;clear e91;obtain rfl:=e912;refine gG λD2 hD2=>?_;have ht:t<ps.length:=by have:=(cj.mp hu).1;exact b_ hxl this
   have hq:ps[t]?=some (ps.getD t (0,0)):=by rw[dk ht];exact aF _
   have ds:=wa p ns ns' ps Ms Ms' t;have dl:=tI (p:=p) (ps:=ps) (Ms1:=Ms) (Ms2:=Ms') V1.sz V2.sz t;generalize ps.getD t (0,0)=pq at *;obtain⟨tl,hd⟩:=pq;refine ar (st.prs.2 t u _ hu hq) λta e913 hta=>?_;obtain rfl:=e913;have s3:=s2.trans (aa.new (o:=.tup [V.int t,V.ref ta]) hpz);have mr3:=mr.same (aa.new (o:=.tup [V.int t,V.ref ta]) hpz);have e3:ao H2 pz (.tup [V.int t,V.ref ta]) pz=some (.tup [V.int t,V.ref ta]):=aw;generalize ao H2 pz (.tup [V.int t,V.ref ta])=H3 at *;refine cG (V1.ip _ (aY hq)) λi0 i1' j0 j1=>?_;have hl1:=V1.hm;have hl2:=V2.hm;simp only[ju,iG,mi,cg,List.set_cons_zero,List.set_cons_succ];refine aM pz _ ⟨rfl,aB.of e3,rfl,_,_,rfl,_,_,rfl,⟨ta,_,rfl,aB.of (s3 _ _ hta),rfl,_,_,rfl,_,_,rfl,rfl,?_⟩⟩;refine⟨rfl,_,rfl,x',S,dx',_,_,rfl,s3 _ _ st'.ins,T.cl_Standing,T.nSs,rM ..,_,rfl,z',_,_,_,rfl,rfl,aj.of (s3 _ _ st'.szs.1),jO st'.szs j0 ∅,(nt ns' hd:Nat),rfl,jM _,jJ (cx (gi (i:=hd) (B:=6) V2.sz).1 ⇑0),?_⟩;rw[d5];have b6:=(gi (i:=tl) (B:=6) V1.sz).1;have b36:=jn (i:=tl) (j:=hd) V1.sz V2.sz;refine hU (n:=nt ns' hd) (λi σ H4=>∃ (v6 v7:Option V) (rs:List Addr),σ=[some (.ref x),some (.ref x'),some (.ref R),some (.int t),some (.int tl),some (.int hd),v6,v7]/\aa H H4/\bZ H H4 p R rs (dM p ns ns' ps Ms Ms' t++fh p ns ns' (tl,hd) (Ms.getD t []) (Ms'.getD t []) i)) ⟨v6,v7,rs,rfl,s3,by rw[show fh p ns ns' (tl,hd) (Ms.getD t []) (Ms'.getD t []) 0=[] from rfl,nT];exact mr3⟩ ?_ ?_
   .intro i σ H4 hi e92;refine g8 e92 λv6 v7 rs4 e914 s4 mr4=>?_;clear e92;obtain rfl:=e914;refine gG λD4 hD4=>?_;simp only[cg,List.set_cons_zero,List.set_cons_succ];have bs:=zf p ns ns' (tl,hd) (Ms.getD t []) (Ms'.getD t []) i;have bl:=uo (p:=p) (ns1:=ns) (ns2:=ns') (q:=(tl,hd)) (A1:=Ms.getD t []) (A2:=Ms'.getD t []) i;have i36:(i+1)*nt ns tl<=36:=cx (e_ hi (aI _)) b36;rw[jZ] at i36;have bl:(fh p ns ns' (tl,hd) (Ms.getD t []) (Ms'.getD t []) i).length+nt ns tl<=36:=by rw[bl];exact i36
    rw[jf];refine⟨_,rfl,x,S,dx,_,_,rfl,s4 _ _ st.ins,T.cl_Standing,T.nSs,rM ..,_,rfl,z,_,_,_,rfl,rfl,aj.of (s4 _ _ st.szs.1),jO st.szs i0 ∅,(nt ns tl:Nat),rfl,jM _,jJ (cx b6 ⇑0),?_⟩;rw[d5];refine hU (n:=nt ns tl) (λj σ H5=>∃ (v7:Option V) (rs:List Addr),σ=[some (.ref x),some (.ref x'),some (.ref R),some (.int t),some (.int tl),some (.int hd),some (.int i),v7]/\aa H H5/\bZ H H5 p R rs (dM p ns ns' ps Ms Ms' t++fh p ns ns' (tl,hd) (Ms.getD t []) (Ms'.getD t []) i++(List.range j).map λj=>gf p ns ns' (tl,hd) (Ms.getD t []) (Ms'.getD t []) i j)) ⟨v7,rs4,rfl,s4,by rw[List.range_zero,List.map_nil,nT];exact mr4⟩ ?_ ?_
    .intro j σ H5 hj e93;refine cy e93 λv7 rs5 e915 s5 mr5=>?_;clear e93;obtain rfl:=e915;have l5:rs5.length<=900:=by
      rw[mr5.2.1.1,bw,bw,aA,ef];have:=V1.p9;exact oz45 ht dl bl hj this
     walk_at "wp";rw[jf];refine⟨.inl ⟨rfl,_,aj.of mr5.1⟩,x,x',p,m,ps,ns,ns',Ms,Ms',t,i,j,(tl,hd),rfl,i1.same s5,i2.same s5,hp,V1,V2,hq,hi,hj,λD H6 s6 hD rv=>?_⟩;have mr6:=mr5.same s6;refine⟨_,mr6.1,cS (by rw[aA];exact oz88 l5),(s5.trans s6).upd hR,rs5++[D],?_⟩;have:=mr6.add rv (cc mr5.1 hD).symm (s5.free hD);rw[jh,dD,<- sy];exact this
    .intro σ H5 e94;refine cy e94 λv7 rs5 e916 s5 mr5=>?_;clear e94;obtain rfl:=e916;subst hD4;rw[sy,<- bs] at mr5;exact c5 _ v7 rs5 ⟨rfl,s5,mr5⟩
   .intro σ H4 e95;refine g8 e95 λv6 v7 rs4 e917 s4 mr4=>?_;clear e95;obtain rfl:=e917;subst hD2;rw[show dM p ns ns' ps Ms Ms' t++fh p ns ns' (tl,hd) (Ms.getD t []) (Ms'.getD t []) (nt ns' hd)=dM p ns ns' ps Ms Ms' (t+1) from ds.symm] at mr4;exact vL _ _ _ v6 v7 rs4 ⟨rfl,s4,mr4⟩
  .intro σ H2 e96;refine vI e96 λv3 v4 v5 v6 v7 rs e918 s2 mr=>?_;clear e96;obtain rfl:=e918;subst hX;walk_at "wp";rw[hxl] at mr;refine⟨_,.inl (aj.of mr.1),x,x',p,m,ps,ns,ns',Ms,Ms',rfl,i1.same s2,i2.same s2,by have:=V1.hm;have:=V2.hm;omega,λD H3 s3 _ eD=>⟨D,rfl,_,aj.of eD,_,uC,⇑0,λtt htt=>?_⟩⟩;have s4:=aa.new (o:=.tup [V.int ((rs.map V.ref).length:Nat),V.int (stN ns ns' ns.length:Nat),V.ref R]) htt;exact q tt R rs _ _ (s2.trans (s3.trans s4)) aw (mr.same (s3.trans s4))
def spCm (S C G PL:Addr):L2.Sp:=λvs H Q _=>∃ (x x':Addr) (p m:Int) (ps:List (Int×Int)) (ns ns':List Int) (Ms Ms':List Mv),vs=[.ref x,.ref x']/\iO S C G H x p m ps ns Ms/\iO S C G H x' p m ps ns' Ms'/\af p/\av p m ps ns Ms/\av p m ps ns' Ms'/\H PL=some ma /\
 ∀ (rk:Nat) H',aa H H'->eG p (dM p ns ns' ps Ms Ms' ps.length).length (stN ns ns' ns.length) (dM p ns ns' ps Ms Ms' ps.length) rk->Q (.int ((stN ns ns' ns.length:Nat)-(rk:Nat))) H'
theorem s_ (F:bc K "count_maps" "count_maps" Ai f fd)(T:bp K mg C G S)(Ybu:az P w K mg base "differences" 8 (spDif S C G))(Ya6:az P w K mg base "rank" 8 (yh G PL)):ax P w K mg base aW 9 f fd ["one","other"] (spCm S C G PL):=by
 have nd:=EL.nd;refine F.ok EL (λvs H Q E h=>?_) (λcdv A outer s H vs Q E hr h=>?_)
 .refine qg h λx x' p m ps ns ns' Ms Ms' e919 _=>?_;clear h;obtain rfl:=e919;rfl
 .refine vK h λx x' p m ps ns ns' Ms Ms' e920 i1 i2 e921=>?_;clear h;obtain rfl:=e920;refine cY e921 λhp V1 V2 hPL q=>?_;clear e921;refine tP (id i1) λdx g d z l lp xs st=>?_;refine⟨_,((2|||nd|||(Ybu<$>hr<$>((ae 0)<&>((ae 1)<&>ah))))<*>(~~~(fQ<|>(bC<|>(ae 2)<||>aq)<&&>(Ya6<$>hr<$>((eA (ae 0) rfl)<&>((ae 2)<&>ah)))))),?_⟩;walk_at "wp";refine tS x x' p m ps ns ns' Ms Ms' ⟨rfl,i1,i2,hp,V1,V2,λt R rs n H1 s1 ht mr=>?_⟩;have t36:=BN V1 V2;have dl:=tI (p:=p) (ps:=ps) (Ms1:=Ms) (Ms2:=Ms') V1.sz V2.sz ps.length;have p9:=V1.p9;have hw:∀ xs∈dM p ns ns' ps Ms Ms' ps.length,xs.length=stN ns ns' ns.length:=λxs hx=>by
   refine cD (vP hx) λ_ _ _ _ _ _ e922=>?_;obtain rfl:=e922;exact CV ..
  have gd:=m4 hp V1 V2;generalize dM p ns ns' ps Ms Ms' ps.length=M at *;generalize stN ns ns' ns.length=tt at *;refine⟨t,rfl,_,aB.of ht,_,rfl,S,dx,_,s1 _ _ st.ins,T.cl_Standing,T.nSg,_,wO ..,g,t,R,rs,p,n,122,tt,M,rfl,st.grd.same s1,hp,ht,⟨mr.1,mr.2.1,hw,gd,∅,∅,⇑0,?_⟩,oD hp hw t36,s1 _ _ hPL,λrk H2 s2 ir=>⟨_,rfl,_,rfl,q rk H2 (s1.trans s2) ir⟩⟩;show (tt+1)*122<=67000001;omega
def rT (H:Hp)(a:Addr)(p:Int)(ps:List (Int×Int))(ns:List Int)(Ms:List Mv)(z l:Addr):Prop:=H a=some (.tup [.ref z,.ref l])/\bU H z ns/\dO H p l ps ns Ms
theorem rT.same {H H':Hp}{a:Addr}{p:Int}{ps:List (Int×Int)}{ns:List Int}{Ms:List Mv}{z l:Addr}(h:rT H a p ps ns Ms z l)(s:aa H H'):rT H' a p ps ns Ms z l:=⟨s _ _ h.1,h.2.1.same s,h.2.2.same s⟩
def x_:L2.Sp:=λvs H Q _=>∃ (ta t1 t2 z1 l1 z2 l2 sp:Addr) (p m tl hd:Int) (t i j:Nat) (ps:List (Int×Int)) (ns ns':List Int) (Ms Ms':List Mv),vs=[.int p,.ref ta,.int t,.ref t1,.ref t2,.ref sp]/\H ta=some (.tup [.int tl,.int hd])/\ps[t]?=some (tl,hd)/\H sp=some (.tup [.int i,.int j])/\i<nt ns' hd/\j<nt ns tl/\rT H t1 p ps ns Ms z1 l1/\rT H t2 p ps ns' Ms' z2 l2/\af p/\av p m ps ns Ms/\av p m ps ns' Ms' /\
 ∀ (R:Addr) H',aa H H'->H R=none->bf H' p R (gf p ns ns' (tl,hd) (Ms.getD t []) (Ms'.getD t []) i j)->Q (.ref R) H'
theorem za {m:Nat}{v:V}:(List.replicate m [v]).flatten=List.replicate m v:=by
 induction m with
 | zero=>rfl
 | succ n ih=>rw[nW,sC,ih];rfl
theorem lB (F:bc K "_law_ask_row" "_law_ask_row" Ap f fd)(T:bp K mg C G S)(Yac:az P w K mg base "_law_int" 1 mn)(Yai:az P w K mg base "_law_add" 3 (jN fk))(Yae:az P w K mg base "_law_mul" 3 (jN dN)):ax P w K mg base aW 4 f fd ["_law_p","_law_arrow","_law_k","_law_one","_law_other","_law_spot"] x_:=by
 have nd:=ET.nd;refine F.ok ET (λvs H Q E h=>?_) (λcdv A outer s H vs Q E hr h=>?_)
 .obtain ⟨ta,t1,t2,z1,l1,z2,l2,sp,p,m,tl,hd,t,i,j,ps,ns,ns',Ms,Ms',rfl,_⟩:=h;rfl
 .obtain ⟨ta,t1,t2,z1,l1,z2,l2,sp,p,m,tl,hd,t,i,j,ps,ns,ns',Ms,Ms',rfl,hta,hq,hsp,hi,hj,P1,P2,hp,V1,V2,q⟩:=h;have hll:ns'.length=ns.length:=by have:=V1.hm;have:=V2.hm;omega
  refine cG (V1.ip _ (aY hq)) λi0 i1' j0 j1=>?_;have hl1:=V1.hm;have hl2:=V2.hm;have ht0:tl.toNat<ns.length:=∅
  have hd0:hd.toNat<ns.length:=∅
  have n8:=P1.2.1.2.1;have b6:=(gi (i:=tl) (B:=6) V1.sz).1;have b6':=(gi (i:=tl) (B:=6) V2.sz).1;have b6h:=(gi (i:=hd) (B:=6) V1.sz).1;have b6h':=(gi (i:=hd) (B:=6) V2.sz).1;have t36:=BN V1 V2;refine⟨_,((6|||nd|||(@cU _ _ _ _ (aq<&>ah)))<*>((dw cW rfl (qi rfl T.n_zip ((bC<|>(pv 3)<||>aq)<&>((bC<|>(pv 4)<||>aq)<&>ah))) (@dJ _ _ _ _ _ 2 rfl ((7>>>nd)^^^((8>>>nd)^^^(@cT _))) ⇑1 ⇑1) (@bE _ _ _ (gp (fN f_ gC gB (mtJ fW) (ae 6) ((dI<|>(aV<|>(ae 6)<||>(fO fU aq))<&&>((opJ dW)<|>(ae 7)<&&>(ae 8)))<&>ah)))))<*>((9|||nd|||(t_<|>(@cU _ _ _ _ ((Yac<$>hr<$>((ae 0)<&>(aq<&>ah)))<&>ah))<&&>(aV<|>(ae 6)<||>(fO fU aq))))<*>((dX (ae 1) (@dJ _ _ _ _ _ 2 rfl ((10>>>nd)^^^((11>>>nd)^^^(@cT _))) ⇑1 ⇑1))<*>((dw cW rfl (fj rfl T.n_range ((aV<|>(bC<|>(pv 4)<||>aq)<||>(pv 10))<&>ah)) (12>>>nd) ((13|||nd|||(dI<|>(dI<|>((ixJ aV)<|>(ae 6)<||>(ae 10))<&&>(mw<|>(ae 12)<&&>(aV<|>((cX bC)<|>(ae 3)<||>aq)<||>(ae 10))))<&&>((cX bC)<|>(ae 5)<||>aq)))<*>(@bE _ _ _ (dX (Yai<$>hr<$>((ae 0)<&>(((ixJ aV)<|>(ae 9)<||>(ae 13))<&>((aV<|>(aV<|>(bC<|>(aV<|>((cX bC)<|>(ae 4)<||>aq)<||>(ae 2))<||>aq)<||>((cX bC)<|>(ae 5)<||>aq))<||>(ae 12))<&>ah)))) (iJ (ae 9) (ae 13) iM)))))<*>((dw cW rfl (fj rfl T.n_range ((aV<|>(bC<|>(pv 3)<||>aq)<||>(pv 11))<&>ah)) (12>>>nd) ((13|||nd|||(dI<|>(dI<|>((ixJ aV)<|>(ae 6)<||>(ae 11))<&&>(mw<|>((cX bC)<|>(ae 5)<||>aq)<&&>(aV<|>((cX bC)<|>(ae 3)<||>aq)<||>(ae 11))))<&&>(ae 12)))<*>((14|||nd|||(Yae<$>hr<$>((ae 0)<&>((Yac<$>hr<$>((ae 0)<&>((fO fU aq)<&>ah)))<&>((aV<|>(aV<|>(bC<|>(aV<|>((cX bC)<|>(ae 3)<||>aq)<||>(ae 2))<||>aq)<||>(ae 12))<||>((cX bC)<|>(ae 5)<||>aq))<&>ah)))))<*>(@bE _ _ _ (dX (Yai<$>hr<$>((ae 0)<&>(((ixJ aV)<|>(ae 9)<||>(ae 13))<&>((ae 14)<&>ah)))) (iJ (ae 9) (ae 13) iM))))))<*>(~~~(ae 9)))))))),?_⟩;refine bD λX hX=>?_;walk_at "wp";refine⟨⇑0,λD hD=>?_⟩;have s1:=aa.new (o:=.lst [V.int 0]) hD;have q1:(ao H D (.lst [V.int 0])) D=some (.lst (stL ns ns' 1)):=aw;generalize ao H D (.lst [V.int 0])=H1 at *;subst hX;refine bD λX hX=>?_;walk_at "wp";refine⟨_,rfl,t1,_,_,_,rfl,rfl,aB.of (s1 _ _ P1.1),rfl,_,rfl,t2,_,_,_,rfl,rfl,aB.of (s1 _ _ P2.1),rfl,z1,z2,rfl,⟨_,aj.of (s1 _ _ P1.2.1.1)⟩,⟨_,aj.of (s1 _ _ P2.2.1.1)⟩,
   B4 (xs:=ns.map V.int) (ys:=ns'.map V.int) (λi σ H2=>∃ v5 v6:Option V,σ=[some (.int p),some (.ref ta),some (.int t),some (.ref t1),some (.ref t2),some (.ref sp),some (.ref D),v5,v6,none,none,none,none,none,none]/\aa H H2/\H2 D=some (.lst (stL ns ns' (i+1)))) (by rw[aA,aA,hll]) ⟨none,none,rfl,s1,q1⟩ (λi σ H2 _ ⟨_,_,_,e,_⟩=>⟨aj.of (e _ _ P1.2.1.1),aj.of (e _ _ P2.2.1.1)⟩) ?_ ?_⟩
  .intro i va vb pz σ H2 ha hb hpz e91;refine cy e91 λv5 v6 e97 s2 h2=>?_;clear e91;obtain rfl:=e97;refine ar (jS ha) λn fa e98=>?_;obtain rfl:=e98;refine ar (jS hb) λn' fb e99=>?_;obtain rfl:=e99;have hi:i<ns.length:=(cj.mp fa).1;obtain⟨a0,a1⟩:=P1.2.1.2.2 n (aY fa);obtain⟨b0,b1⟩:=P2.2.1.2.2 n' (aY fb);have s3:=aa.new (o:=.tup [V.int n,V.int n']) hpz;have h3:=s3 _ _ h2;walk_at "wp";refine⟨_,aB.of aw,rfl,_,_,rfl,_,_,rfl,rfl,?_⟩;generalize ao H2 pz (.tup [V.int n,V.int n'])=H3 at *;refine⟨.inl ⟨rfl,_,aj.of h3⟩,_,aj.of h3,_,uC,(rO a0 a1).mul (rO b0 b1),_,rfl,_,h3,cS (by rw[aA,ef];exact oz84 n8 hi),_,_,⟨rfl,rfl⟩,(s2.trans s3).upd hD,?_⟩;rw[aw,Dm (by rw[r8 n n'];exact CC fa fb a0 b0)]
  .intro σ H2 e92;refine cy e92 λv5 v6 e910 s2 eD=>?_;clear e92;obtain rfl:=e910;rw[aA] at eD;subst hX;dsimp only;refine bD λX hX=>?_;walk_at "wp";refine aM p 0 ⟨rfl,hp,λnv H3 s3 nn=>⟨⇑0,λp0 hp0=>?_⟩⟩;rw[wQ] at nn;have s4:=aa.new (o:=.lst [nv]) hp0;have nn4:=nn.same s4;have q4:(ao H3 p0 (.lst [nv])) p0=some (.lst [nv]):=aw;generalize ao H3 p0 (.lst [nv])=H4 at *;have s34:=s3.trans s4;refine⟨_,aj.of (s34 _ _ eD),_,uC,p0,(stN ns ns' ns.length:Nat),_,rfl,rfl,q4,oz114,∅,by show 1*_<=_;rw[d5];exact cx (show 1*_<=48 by exact oz139 t36) ⇑0,λRw hRw=>?_⟩;rw[d5,za];have s5:=aa.new (o:=.lst (List.replicate (stN ns ns' ns.length) nv)) hRw;have rw8:bf (ao H4 Rw (.lst (List.replicate (stN ns ns' ns.length) nv))) p Rw (List.replicate (stN ns ns' ns.length) (0,1)):=⟨_,aw,by rw[d0,d0],λk v x e1 e2=>by
    rw[(gw.mp (aY e2)).2,(gw.mp (aY e1)).2];exact nn4.same s5⟩
   have s08:=(s2.trans s34).trans s5;have eD8:=(s34.trans s5) _ _ eD;have fRw:H Rw=none:=(s2.trans s34).free hRw;have nRD':D≠Rw:=cc (s34 _ _ eD) hRw;generalize ao H4 Rw (.lst (List.replicate (stN ns ns' ns.length) nv))=H8 at *;have et:atI (stL ns ns' (ns.length+1)) tl=some (V.int (stN ns ns' tl.toNat:Nat)):=dH i0 (uf (oz51 ht0));have eh:atI (stL ns ns' (ns.length+1)) hd=some (V.int (stN ns ns' hd.toNat:Nat)):=dH j0 (uf (oz51 hd0));refine jw (P1.2.2.at hq) λts1 tt1 r1 rs1 hl1' et1 tv1=>?_;refine jw (P2.2.2.at hq) λts2 tt2 r2 rs2 hl2' et2 tv2=>?_;obtain⟨sh1,sr1⟩:=V1.sh t _ hq;obtain⟨sh2,sr2⟩:=V2.sh t _ hq;obtain⟨a2,vs2,ea2,ha2,al2⟩:=tv2.rowAt (i:=i) (by rw[sh2];exact hi);have hr2:=sr2 _ (cq (d:=[]) (show i<(Ms'.getD t []).length by rw[sh2];exact hi));have lv2:vs2.length=nt ns' tl:=al2.1.trans hr2.1;have h0:cN p 60 [(0,1)]:=λx hx=>by rw[cF.mp hx];exact⟨jB hp,dc ⇑0 ⇑0,dc ⇑0 ⇑0⟩
   clear s5 s34 s4 s3 nn nn4 q4 eD hRw s2 hp0 s1 q1;subst hX;refine bD λX hX=>?_;walk_at "wp";refine⟨_,aB.of (s08 _ _ hta),rfl,_,_,rfl,_,_,rfl,rfl,?_⟩;subst hX;refine bD λZ hZ=>?_;refine cutF λY hY=>?_;refine⟨_,rfl,t2,_,_,_,rfl,rfl,aB.of (s08 _ _ P2.1),rfl,_,rfl,z2,_,_,_,rfl,rfl,aj.of (s08 _ _ P2.2.1.1),jO P2.2.1 i0 ∅,(nt ns' tl:Nat),rfl,jM _,jJ (cx b6' ⇑0),?_⟩;rw[d5];refine hU (n:=nt ns' tl) (λk σ H5=>∃ (v15 v16 v17:Option V),σ=[some (.int p),some (.ref ta),some (.int t),some (.ref t1),some (.ref t2),some (.ref sp),some (.ref D),v5,v6,some (.ref Rw),some (.int tl),some (.int hd),v15,v16,v17]/\aa H H5/\H5 D=some (.lst (stL ns ns' (ns.length+1)))/\bf H5 p Rw (gg ((Ms'.getD t []).getD i []) (stN ns ns' tl.toNat) (nt ns tl) j k (List.replicate (stN ns ns' ns.length) (0,1)))) ⟨none,none,none,rfl,s08,eD8,rw8⟩ ?_ ?_
   .intro k σ H9 hk e93;refine cD e93 λv15 v16 v17 e911 s9 eD9 rw9=>?_;clear e93;obtain rfl:=e911;refine gG λD6 hD6=>?_;simp only[cg,List.set_cons_zero,List.set_cons_succ];rw[jf];subst hY;refine bD λW hW=>?_;walk_at "wp";refine⟨_,aj.of eD9,_,et,_,aB.of (s9 _ _ P1.1),_,rfl,z1,rfl,_,aj.of (s9 _ _ P1.2.1.1),_,jO P1.2.1 i0 ∅,_,rfl,.inl ⟨vx,oz49 b6' hk⟩,_,rfl,_,aB.of (s9 _ _ hsp),_,rfl,_,rfl,?_⟩;rw[show ((stN ns ns' tl.toNat:Nat):Int)+(k:Int)*((nt ns tl:Nat):Int)+(j:Int)=((stN ns ns' tl.toNat+k*nt ns tl+j:Nat):Int) by rw[iw,iw,j4]];refine ar rw9 λws hws alw=>?_;clear rw9;have wl:ws.length=stN ns ns' ns.length:=by rw[alw.1,mz,d0]
    have pl:=rg (j:=j) ht0 hk hj;have hpos:stN ns ns' tl.toNat+k*nt ns tl+j<ws.length:=wl ▸ pl;obtain⟨vb,evb⟩:∃ vb,vs2[k]?=some vb:=⟨_,aF (cM lv2 hk)⟩
    refine ar (al2.at' evb) λy ey ny=>?_;have gy:=hr2.2 y (aY ey);obtain⟨va,eva⟩:∃ va,ws[stN ns ns' tl.toNat+k*nt ns tl+j]?=some va:=⟨_,aF hpos⟩
    refine ar (alw.at' eva) λu eu nu=>?_;have hu0:u=(0,1):=by rw[<- de (d:=(0,1)) eu];exact Dw (oz64 hj)
    subst hu0;subst hW;walk_at "wp";refine⟨_,aj.of hws,va,fB eva,_,aB.of (s9 _ _ P2.1),_,rfl,l2,rfl,_,aj.of (s9 _ _ hl2'),_,fB et2,tt2,rfl,_,aB.of (s9 _ _ tv2.tup),_,rfl,_,aB.of (s9 _ _ hsp),_,rfl,r2,rfl,_,_,rfl,aj.of (s9 _ _ tv2.lst),_,fB ea2,a2,rfl,_,aj.of (s9 _ _ ha2),vb,fB evb,p,va,vb,(0,1),y,rfl,hp,⟨nu,ny.same s9,jB hp,gy.1,7,60,dc ⇑0 ⇑0,dc ⇑0 ⇑0,gy.2.1,gy.2.2,⇑0⟩,λv10 H10 s10 n10=>?_⟩;rw[HN hp gy.1] at n10;have hws10:=s10 _ _ hws;subst hD6;refine⟨ws,hws10,stN ns ns' tl.toNat+k*nt ns tl+j,tH hpos,_,_,_,rfl,(s9.trans s10).upd fRw,by rw[aJ nRD'];exact s10 _ _ eD9,⟨_,aw,?_⟩⟩;have:=(alw.mono λ_ _ q=>(q.same s10).put (o:=.lst (ws.set (stN ns ns' tl.toNat+k*nt ns tl+j) v10)) hws10).set (stN ns ns' tl.toNat+k*nt ns tl+j) (n10.put hws10);show ay _ _ (List.set _ _ _);rw[de ey];exact this
   .intro σ H9 e94;refine cD e94 λv15 v16 v17 e912 s9 eD9 rw9=>?_;clear e94;obtain rfl:=e912;have gP:=uj (s:=stN ns ns' tl.toNat) (w:=nt ns tl) (c:=j) h0 hr2.2 (r:=List.replicate (stN ns ns' ns.length) (0,1)) (λx hx=>by rw[(gw.mp hx).2];exact h0 _ (by simp)) (nt ns' tl);have lP:(gg ((Ms'.getD t []).getD i []) (stN ns ns' tl.toNat) (nt ns tl) j (nt ns' tl) (List.replicate (stN ns ns' ns.length) (0,1))).length=stN ns ns' ns.length:=by rw[mz,d0]
    have eR:gf p ns ns' (tl,hd) (Ms.getD t []) (Ms'.getD t []) i j=gZ p (λk=>((Ms.getD t []).getD k []).getD j (0,1)) (stN ns ns' hd.toNat+i*nt ns hd) (nt ns hd) (gg ((Ms'.getD t []).getD i []) (stN ns ns' tl.toNat) (nt ns tl) j (nt ns' tl) (List.replicate (stN ns ns' ns.length) (0,1))):=rfl;generalize gg ((Ms'.getD t []).getD i []) (stN ns ns' tl.toNat) (nt ns tl) j (nt ns' tl) (List.replicate (stN ns ns' ns.length) (0,1))=PO at *;subst hZ;dsimp only;refine bD λZ hZ=>?_;refine cutF λY hY=>?_;refine⟨_,rfl,t1,_,_,_,rfl,rfl,aB.of (s9 _ _ P1.1),rfl,_,rfl,z1,_,_,_,rfl,rfl,aj.of (s9 _ _ P1.2.1.1),jO P1.2.1 j0 ∅,(nt ns hd:Nat),rfl,jM _,jJ (cx b6h ⇑0),?_⟩;rw[d5];refine hU (n:=nt ns hd) (λk σ H5=>∃ (v15 v16 v17:Option V),σ=[some (.int p),some (.ref ta),some (.int t),some (.ref t1),some (.ref t2),some (.ref sp),some (.ref D),v5,v6,some (.ref Rw),some (.int tl),some (.int hd),v15,v16,v17]/\aa H H5/\H5 D=some (.lst (stL ns ns' (ns.length+1)))/\bf H5 p Rw (gZ p (λk=>((Ms.getD t []).getD k []).getD j (0,1)) (stN ns ns' hd.toNat+i*nt ns hd) k PO)) ⟨v15,v16,v17,rfl,s9,eD9,rw9⟩ ?_ ?_
    .intro k σ H10 hk e95;refine cD e95 λv15 v16 v17 e913 s10 eD10 rw10=>?_;clear e95;obtain rfl:=e913;refine gG λD6 hD6=>?_;simp only[cg,List.set_cons_zero,List.set_cons_succ];rw[jf];obtain⟨a1,vs1,ea1,ha1,al1⟩:=tv1.rowAt (i:=k) (by rw[sh1];exact hk);have hr1:=sr1 _ (cq (d:=[]) (show k<(Ms.getD t []).length by rw[sh1];exact hk));have lv1:vs1.length=nt ns tl:=al1.1.trans hr1.1;have hj':j<nt ns tl:=hj;obtain⟨vb,evb⟩:∃ vb,vs1[j]?=some vb:=⟨_,aF (c3 hj lv1)⟩
     refine ar (al1.at' evb) λy ey ny=>?_;have gy:=hr1.2 y (aY ey);subst hY;refine bD λW hW=>?_;walk_at "wp";refine⟨_,aj.of eD10,_,eh,_,aB.of (s10 _ _ hsp),_,rfl,_,aB.of (s10 _ _ P1.1),_,rfl,z1,rfl,_,aj.of (s10 _ _ P1.2.1.1),_,jO P1.2.1 j0 ∅,_,rfl,_,rfl,.inl ⟨vx,∅⟩,_,rfl,?_⟩;rw[show ((stN ns ns' hd.toNat:Nat):Int)+(i:Int)*((nt ns hd:Nat):Int)+(k:Int)=((stN ns ns' hd.toNat+i*nt ns hd+k:Nat):Int) by rw[iw,iw,j4]];refine ar rw10 λws hws alw=>?_;clear rw10;have wl:ws.length=stN ns ns' ns.length:=by rw[alw.1,uD,lP]
     have pl:=rg (j:=k) hd0 hi hk;have hpos:stN ns ns' hd.toNat+i*nt ns hd+k<ws.length:=wl ▸ pl;obtain⟨va,eva⟩:∃ va,ws[stN ns ns' hd.toNat+i*nt ns hd+k]?=some va:=⟨_,aF hpos⟩
     refine ar (alw.at' eva) λu eu nu=>?_;have gu:aZ p u/\ck 60 u:=by
      have e1:=wI (p:=p) (f:=λk=>((Ms.getD t []).getD k []).getD j (0,1)) (s:=stN ns ns' hd.toNat+i*nt ns hd) (k:=k) (r:=PO);rw[de eu] at e1;rw[e1];exact gP _ (cq (by rw[lP];exact pl))
     subst hW;refine bD λW hW=>?_;walk_at "wp";refine aM p (-1) ⟨rfl,hp,λmv H11 s11 nm1=>?_⟩;have s011:=s10.trans s11;refine⟨_,aB.of (s011 _ _ P1.1),_,rfl,l1,rfl,_,aj.of (s011 _ _ hl1'),_,fB et1,tt1,rfl,_,aB.of (s011 _ _ tv1.tup),_,rfl,r1,rfl,_,aj.of (s011 _ _ tv1.lst),_,fB ea1,_,aB.of (s011 _ _ hsp),_,rfl,a1,rfl,_,_,rfl,aj.of (s011 _ _ ha1),vb,fB evb,p,mv,vb,dj p (-1),y,rfl,hp,⟨nm1,ny.same s011,gN hp.lo,gy.1,7,60,B7 hp,B8 hp,gy.2.1,gy.2.2,⇑0⟩,λlv H12 s12 nl=>?_⟩;have il:=jd hp.lo (gN (k:=-1) hp.lo) gy.1;have bl':=yY hp gy.1 gy.2 ⇑0;have me:=Df hp gu.1 gy.1;generalize dN p (dj p (-1)) y=less at *;have s1112:=s11.trans s12;have hws12:=s1112 _ _ hws;subst hW;walk_at "wp";refine⟨_,aj.of hws12,va,fB eva,p,va,lv,u,less,rfl,hp,⟨nu.same s1112,nl,gu.1,il,60,61,gu.2.1,gu.2.2,bl'.1,bl'.2,⇑0⟩,λv13 H13 s13 n13=>?_⟩;rw[me] at n13;have s1113:=s1112.trans s13;have hws13:=s13 _ _ hws12;subst hD6;refine⟨ws,hws13,stN ns ns' hd.toNat+i*nt ns hd+k,tH hpos,_,_,_,rfl,(s10.trans s1113).upd fRw,by rw[aJ nRD'];exact s1113 _ _ eD10,⟨_,aw,?_⟩⟩;have:=(alw.mono λ_ _ q=>(q.same s1113).put (o:=.lst (ws.set (stN ns ns' hd.toNat+i*nt ns hd+k) v13)) hws13).set (stN ns ns' hd.toNat+i*nt ns hd+k) (n13.put hws13);show ay _ _ (List.set _ _ _);rw[de eu];show ay _ _ (List.set _ _ (iI p u (((Ms.getD t []).getD k []).getD j (0,1))));rw[de ey];exact this
    .intro σ H10 e96;refine cD e96 λv15 v16 v17 e914 s10 eD10 rw10=>?_;clear e96;obtain rfl:=e914;subst hZ;walk_at "wp";exact q Rw H10 s10 fRw (by rw[eR];exact rw10)
end
end Pf
namespace Pf
open PySem L2 L3 PyProof.Rows
section
variable {F:Type}[Lean.Grind.Field F]
end
theorem tq {p:Int}{n wd:Nat}{M D:Mv}{pl:List Nat}(hl:M.length=n)(lr:∀ (F:Type) [Lean.Grind.Field F],aO p F->ie F n wd M D pl):eG p n wd M pl.length:=λF _ hF=>by
 have lQ:=lr F hF;have rk:=lQ.rr.rk lQ.sp.symm;rw[aA,hl] at rk;exact rk.congr λi j hi hj=>by rw[fC (cM hl hi)]
end Pf
namespace Pf
open PySem L2 L3 PyProof.Rows
section
variable {C PL:Addr}
theorem CG {ns:List Int}(h:∀ n∈ns,0<=n):∀ k,k<=ns.length->preSum (λi=>(ns.map λn=>n*n).getD i 0) k=(stN ns ns k:Nat)
 | 0,_=>rfl
 | k+1,hk=>by
  have e:ns[k]?=some ns[k]:=aF hk;have n0:=h _ (eO hk);show preSum _ k+(ns.map λn=>n*n).getD k 0=((stN ns ns k+(ns.getD k 0).toNat*(ns.getD k 0).toNat:Nat):Int);rw[CG h k (tL hk),de (show (ns.map λn=>n*n)[k]?=some (ns[k]*ns[k]) by rw[bH,e];rfl),de e,iw,j4,gz n0]
theorem BV {p:Int}{ns:List Int}{ps:List (Int×Int)}{Ms:List Mv}(h:∀ n∈ns,0<=n/\n<=2):∀ n,(dM p ns ns ps Ms Ms n).length<=4*n
 | 0=>aI _
 | n+1=>by
  rw[wa,bw,uo];have:=BV (p:=p) (ps:=ps) (Ms:=Ms) h n;have:=xY (c:=2) (d:=2) (gi (i:=(ps.getD n (0,0)).2) h).1 (gi (i:=(ps.getD n (0,0)).1) h).1;omega
def spCnt:L2.Sp:=λvs H Q _=>∃ (a t1 z1 l1:Addr) (p m:Int) (xs:List V) (ps:List (Int×Int)) (ns:List Int) (Ms:List Mv),vs=[.int p,.ref a,.ref t1,.ref t1]/\H a=some (.lst xs)/\cK H xs ps/\rT H t1 p ps ns Ms z1 l1/\af p/\av p m ps ns Ms/\(∀ n∈ns,n<=2)/\ns.sum<=7/\(p=0->ns.sum<=4) /\
 ∀ (rk:Nat) H',aa H H'->eG p (dM p ns ns ps Ms Ms ps.length).length (stN ns ns ns.length) (dM p ns ns ps Ms Ms ps.length) rk->Q (.int ((stN ns ns ns.length:Nat)-(rk:Nat))) H'
theorem pw (F:bc K "_law_count" "_law_count" zZ f fd)(T:bp K mg C G S)(Ya7:az P w K mg base "_law_ask_row" 4 x_)(Ybn:az P w K mg base "_law_reduced" 5 yd):ax P w K mg base aW 6 f fd ["_law_p","_law_arrows","_law_one","_law_other"] spCnt:=by
 have nd:=En.nd;refine F.ok En (λvs H Q E h=>?_) (λcdv A outer s H vs Q E hr h=>?_)
 .refine oy h λa t1 z1 l1 p m xs ps ns Ms e99 _=>?_;clear h;obtain rfl:=e99;rfl
 .refine yr h λa t1 z1 l1 p m xs ps ns Ms e910 ha pr e911=>?_;clear h;obtain rfl:=e910;refine qU e911 λP1 hp V1 h2 hs hs0 q=>?_;clear e911;have hxl:=pr.1;have hl1:=V1.hm;refine⟨_,((4|||nd|||(@cU _ _ _ _ ah))<*>((dw cW rfl (rf rfl T.n_enumerate ((pv 1)<&>ah)) (@dJ _ _ _ _ _ 2 rfl ((5>>>nd)^^^((6>>>nd)^^^(@cT _))) ⇑1 ⇑1) (@bE _ _ _ (dw cW rfl (fj rfl T.n_range ((aV<|>(bC<|>(pv 3)<||>aq)<||>(bC<|>(pv 6)<||>aq))<&>ah)) (7>>>nd) (@bE _ _ _ (dw cW rfl (fj rfl T.n_range ((aV<|>(bC<|>(pv 2)<||>aq)<||>(bC<|>(pv 6)<||>aq))<&>ah)) (8>>>nd) (@bE _ _ _ (gp (fN f_ gC gB (mtJ fW) (ae 4) ((Ya7<$>hr<$>((ae 0)<&>((ae 6)<&>((ae 5)<&>((ae 2)<&>((ae 3)<&>((@cb _ _ _ _ _ ((ae 7)<&>((ae 8)<&>ah)))<&>ah)))))))<&>ah)))))))))<*>((9|||nd|||(bS (y2 rfl) rfl T.n_sum boot_sum ((eL (own:=["_law_here","_law_there"]) (fr:=[]) rfl (c4 (by kernel_rfl)) (qi rfl T.n_zip ((bC<|>(pv 2)<||>aq)<&>((bC<|>(pv 3)<||>aq)<&>ah))) (λ_ _ _ _=>⟨(@mx _ K rfl _ _ _ _ 2 rfl ((0<<<["_law_here","_law_there"])^^^((1<<<["_law_here","_law_there"])^^^(@cT _))) ⇑1 ⇑1),dz,(dW<|>(pv 0)<&&>(pv 1))⟩))<&>ah)))<*>(~~~(fQ<|>(ae 9)<&&>(bC<|>(Ybn<$>hr<$>((ae 0)<&>((@cb _ _ _ _ _ ((bS fo rfl T.n_len fu ((ae 4)<&>ah))<&>((ae 9)<&>((ae 4)<&>ah))))<&>ah)))<||>aq)))))),?_⟩;refine bD λX hX=>?_;walk_at "wp";refine⟨⇑0,λR hR=>?_⟩;have s1:=aa.new (o:=.lst []) hR;have q1:(ao H R (.lst [])) R=some (.lst []):=aw;generalize ao H R (.lst [])=H1 at *;subst hX;refine bD λX hX=>?_;walk_at "wp";refine⟨_,rfl,a,rfl,⟨_,aj.of (s1 _ _ ha)⟩,uh (xs:=xs) (λt σ H2=>∃ (v5 v6 v7 v8 v9:Option V) (rs:List Addr),σ=[some (.int p),some (.ref a),some (.ref t1),some (.ref t1),some (.ref R),v5,v6,v7,v8,v9]/\aa H H2/\bZ H H2 p R rs (dM p ns ns ps Ms Ms t))
   ⟨none,none,none,none,none,[],rfl,s1,q1,ay.nil,by simp,by simp⟩ (λi σ H2 _ ⟨_,_,_,_,_,_,_,e,_⟩=>aj.of (e _ _ ha)) ?_ ?_⟩
  .intro t u pz σ H2 hu hpz e91;refine vI e91 λv5 v6 v7 v8 v9 rs e912 s2 mr=>?_;clear e91;obtain rfl:=e912;refine gG λD2 hD2=>?_;have ht:t<ps.length:=by have:=(cj.mp hu).1;exact b_ hxl this
   have hq:ps[t]?=some (ps.getD t (0,0)):=by rw[dk ht];exact aF _
   have ds:=wa p ns ns ps Ms Ms t;have dl:=tI (p:=p) (ps:=ps) (Ms1:=Ms) (Ms2:=Ms) V1.sz V1.sz t;generalize ps.getD t (0,0)=pq at *;obtain⟨tl,hd⟩:=pq;refine ar (pr.2 t u _ hu hq) λta e913 hta=>?_;obtain rfl:=e913;have s3:=s2.trans (aa.new (o:=.tup [V.int t,V.ref ta]) hpz);have mr3:=mr.same (aa.new (o:=.tup [V.int t,V.ref ta]) hpz);have e3:ao H2 pz (.tup [V.int t,V.ref ta]) pz=some (.tup [V.int t,V.ref ta]):=aw;generalize ao H2 pz (.tup [V.int t,V.ref ta])=H3 at *;refine cG (V1.ip _ (aY hq)) λi0 i1' j0 j1=>?_;simp only[ju,iG,mi,cg,List.set_cons_zero,List.set_cons_succ];refine aM pz _ ⟨rfl,aB.of e3,rfl,_,_,rfl,_,_,rfl,rfl,?_⟩;have b6:=(gi (i:=tl) (B:=6) V1.sz).1;have b6h:=(gi (i:=hd) (B:=6) V1.sz).1;have b36:=jn (i:=tl) (j:=hd) V1.sz V1.sz;refine⟨_,rfl,t1,_,_,_,rfl,rfl,aB.of (s3 _ _ P1.1),rfl,_,rfl,ta,_,_,_,rfl,rfl,aB.of (s3 _ _ hta),rfl,z1,_,_,_,rfl,rfl,aj.of (s3 _ _ P1.2.1.1),jO P1.2.1 j0 (oz90 hl1 j1),(nt ns hd:Nat),rfl,jM _,jJ (cx b6h ⇑0),?_⟩;rw[d5];refine hU (n:=nt ns hd) (λi σ H4=>∃ (v7 v8 v9:Option V) (rs:List Addr),σ=[some (.int p),some (.ref a),some (.ref t1),some (.ref t1),some (.ref R),some (.int t),some (.ref ta),v7,v8,v9]/\aa H H4/\bZ H H4 p R rs (dM p ns ns ps Ms Ms t++fh p ns ns (tl,hd) (Ms.getD t []) (Ms.getD t []) i)) ⟨v7,v8,v9,rs,rfl,s3,by rw[show fh p ns ns (tl,hd) (Ms.getD t []) (Ms.getD t []) 0=[] from rfl,nT];exact mr3⟩ ?_ ?_
   .intro i σ H4 hi e92;refine jw e92 λv7 v8 v9 rs4 e914 s4 mr4=>?_;clear e92;obtain rfl:=e914;refine gG λD4 hD4=>?_;simp only[cg,List.set_cons_zero,List.set_cons_succ];have bs:=zf p ns ns (tl,hd) (Ms.getD t []) (Ms.getD t []) i;have bl:=uo (p:=p) (ns1:=ns) (ns2:=ns) (q:=(tl,hd)) (A1:=Ms.getD t []) (A2:=Ms.getD t []) i;have i36:(i+1)*nt ns tl<=36:=cx (e_ hi (aI _)) b36;rw[jZ] at i36;have bl:(fh p ns ns (tl,hd) (Ms.getD t []) (Ms.getD t []) i).length+nt ns tl<=36:=by rw[bl];exact i36
    rw[jf];refine⟨_,rfl,t1,_,_,_,rfl,rfl,aB.of (s4 _ _ P1.1),rfl,_,rfl,ta,_,_,_,rfl,rfl,aB.of (s4 _ _ hta),rfl,z1,_,_,_,rfl,rfl,aj.of (s4 _ _ P1.2.1.1),jO P1.2.1 i0 (oz90 hl1 i1'),(nt ns tl:Nat),rfl,jM _,jJ (cx b6 ⇑0),?_⟩;rw[d5];refine hU (n:=nt ns tl) (λj σ H5=>∃ (v8 v9:Option V) (rs:List Addr),σ=[some (.int p),some (.ref a),some (.ref t1),some (.ref t1),some (.ref R),some (.int t),some (.ref ta),some (.int i),v8,v9]/\aa H H5/\bZ H H5 p R rs (dM p ns ns ps Ms Ms t++fh p ns ns (tl,hd) (Ms.getD t []) (Ms.getD t []) i++(List.range j).map λj=>gf p ns ns (tl,hd) (Ms.getD t []) (Ms.getD t []) i j)) ⟨v8,v9,rs4,rfl,s4,by rw[List.range_zero,List.map_nil,nT];exact mr4⟩ ?_ ?_
    .intro j σ H5 hj e93;refine g8 e93 λv8 v9 rs5 e915 s5 mr5=>?_;clear e93;obtain rfl:=e915;have l5:rs5.length<=900:=by
      rw[mr5.2.1.1,bw,bw,aA,ef];have:=V1.p9;exact oz45 ht dl bl hj this
     walk_at "wp";rw[jf];refine⟨.inl ⟨rfl,_,aj.of mr5.1⟩,⇑0,λsp hsp=>?_⟩;have s6:=aa.new (o:=.tup [V.int i,V.int j]) hsp;have q6:(ao H5 sp (.tup [V.int i,V.int j])) sp=some (.tup [V.int i,V.int j]):=aw;generalize ao H5 sp (.tup [V.int i,V.int j])=H6 at *;have s56:=s5.trans s6;refine⟨ta,t1,t1,z1,l1,z1,l1,sp,p,m,tl,hd,t,i,j,ps,ns,ns,Ms,Ms,rfl,s56 _ _ hta,hq,q6,hi,hj,P1.same s56,P1.same s56,hp,V1,V1,λRw H7 s7 fRw rv=>?_⟩;have mr7:=mr5.same (s6.trans s7);subst hD4;refine⟨_,mr7.1,cS (by rw[aA];exact oz88 l5),_,_,⟨rfl,rfl⟩,(s56.trans s7).upd hR,rs5++[Rw],?_⟩;have:=mr7.add rv (cc (s6 _ _ mr5.1) fRw).symm (s56.free fRw);rw[jh,dD,<- sy];exact this
    .intro σ H5 e94;refine g8 e94 λv8 v9 rs5 e916 s5 mr5=>?_;clear e94;obtain rfl:=e916;subst hD4;rw[sy,<- bs] at mr5;exact i_ _ v8 v9 rs5 ⟨rfl,s5,mr5⟩
   .intro σ H4 e95;refine jw e95 λv7 v8 v9 rs4 e917 s4 mr4=>?_;clear e95;obtain rfl:=e917;subst hD2;rw[show dM p ns ns ps Ms Ms t++fh p ns ns (tl,hd) (Ms.getD t []) (Ms.getD t []) (nt ns hd)=dM p ns ns ps Ms Ms (t+1) from ds.symm] at mr4;exact vL _ _ v7 v8 v9 rs4 ⟨rfl,s4,mr4⟩
  .intro σ H2 e96;refine vI e96 λv5 v6 v7 v8 v9 rs e918 s2 mr=>?_;clear e96;obtain rfl:=e918;subst hX;dsimp only;refine bD λX hX=>?_;walk_at "wp";rw[hxl] at mr;have n8:=P1.2.1.2.1;have hz2:=s2 _ _ P1.2.1.1;refine⟨_,rfl,t1,_,_,_,rfl,rfl,aB.of (s2 _ _ P1.1),rfl,_,rfl,t1,_,_,_,rfl,rfl,aB.of (s2 _ _ P1.1),rfl,z1,z1,rfl,⟨_,aj.of hz2⟩,⟨_,aj.of hz2⟩,λD hD=>?_⟩;refine wC (k:=2) (xs:=ns.map V.int) (ys:=ns.map V.int) (λi vs H'=>aa H2 H'/\H' D=some (.lst vs)/\vs=((ns.map λn=>n*n).take i).map V.int) rfl ⟨aa.new hD,aw,rfl⟩ (λi vs H' _ pv=>⟨aj.of (pv.1 _ _ hz2),aj.of (pv.1 _ _ hz2)⟩) ?_ ?_
   .intro i x y pz vs σ' H' hi hx hy hpz sh e97;refine bQ e97 λs' e' e919=>?_;clear e97;obtain rfl:=e919;refine i9 sh.two λc1 c2 e920=>?_;obtain rfl:=e920;refine ar (jS hx) λn fa e921=>?_;obtain rfl:=e921;rw[hx] at hy;cases hy;have s0:=s'.trans (aa.new (o:=.tup [V.int n,V.int n]) hpz);refine aM pz _ ⟨rfl,aB.of aw,rfl,_,_,rfl,_,_,rfl,rfl,?_⟩;simp only[dr,List.set_cons_zero,List.set_cons_succ,eZ,cH];walk_at "wp";have nn:=V1.sz n (aY fa);have ei:i<ns.length:=(cj.mp fa).1;refine⟨(rO nn.1 ∅).mul (rO nn.1 ∅),fL (ws:=((ns.map λn=>n*n).take (i+1)).map V.int) hi Sh.mk2 ((aa.new hpz) _ _ e') (cS (by rw[aA,ij];exact oz76 n8 ei)) ⟨s0.upd hD,?_,rfl⟩⟩;rw[aw,xt,bH,fa,dD];rfl
   .intro vs H3 e98;refine bQ e98 λs3 e3 e922=>?_;clear e98;obtain rfl:=e922;rw[aA,Bl (by rw[aA];exact aI _)] at e3;refine⟨D,rfl,_,aj.of e3,?_⟩;rw[aA,CG (λn h=>(V1.sz n h).1) ns.length (aI _)];have mr3:=mr.same s3;have s03:=s2.trans s3;have rl:rs.length=(dM p ns ns ps Ms Ms ps.length).length:=mr3.2.1.1;have dl:=tI (p:=p) (ps:=ps) (Ms1:=Ms) (Ms2:=Ms) V1.sz V1.sz ps.length;subst hX;walk_at "wp";have sz2:∀ n∈ns,0<=n/\n<=2:=λn h=>⟨(V1.sz n h).1,h2 n h⟩
    have d2:=BV (p:=p) (ps:=ps) (Ms:=Ms) sz2 ps.length;have p9:=V1.p9;have st2:=vX ns.length (B:=2) (λn h=>(V1.sz n h).1) sz2 (aI _);rw[uU] at st2;have hw:∀ xs∈dM p ns ns ps Ms Ms ps.length,xs.length=stN ns ns ns.length:=λxs hx=>by
     refine cD (vP hx) λ_ _ _ _ _ _ e923=>?_;obtain rfl:=e923;exact CV ..
    have gd:=m4 hp V1 V1;generalize dM p ns ns ps Ms Ms ps.length=M at *;generalize stN ns ns ns.length=tt at *;refine⟨_,.inl (aj.of mr3.1),⇑0,λt ht=>?_⟩;rw[aA,rl];have s4:=aa.new (o:=.tup [V.int (M.length:Nat),V.int (tt:Nat),V.ref R]) ht;refine mR p t R rs 122 M.length tt M ⟨rfl,hp,⟨⟨aw,s4 _ _ mr3.1,mr3.2.1.mono λ_ _ q=>q.same s4,mr3.2.2.1⟩,rfl,hw,gd⟩,⇑0,∅,∅,λh0=>?_,λt' tm r' rs' M' pl H5 s5 ht' _ _ lr=>⟨_,rfl,_,aB.of ht',_,rfl,_,rfl,q pl.length H5 ((s03.trans s4).trans s5) (tq rfl lr)⟩⟩;have h4:tt<=8:=by have:=hs0 h0;omega
    exact cx (e_ (aI _) (u_ ⇑0 h4)) ⇑0
def spMd (S C G:Addr):L2.Sp:=λvs H Q _=>∃ (g d st z tl lp:Addr) (p m:Int) (k:Nat) (xs:List V) (ps:List (Int×Int)) (ns:List Int) (ts:List Addr) (Ms:List Mv),vs=[.ref g,.ref d,.ref st]/\di G H g p/\af p/\hE C H d m lp xs/\cK H xs ps/\iA m ps/\ps.length<=9/\bU H z ns/\(ns.length:Int)=m/\iN H p k tl ts ps ns Ms/\k<=1000000/\H st=some (.tup [.ref z,.ref tl]) /\
 ∀ (x dx z' l':Addr) (ts':List Addr) (H1 H':Hp),aa H H'->AO H S C G H' x p m ps ns k Ms dx g d z' l' lp xs ts'->Q (.ref x) H'
theorem sW (F:bc K "_law_made" "_law_made" zS f fd)(T:bp K mg C G S)(Ybf:fw P w K mg base "Standing" S 11 (spSI S C G)):ax P w K mg base aW 13 f fd ["_law_ground","_law_drawing_here","_law_standing_here"] (spMd S C G):=by
 have nd:=EA.nd;refine F.ok EA (λvs H Q E h=>?_) (λcdv A outer s H vs Q E hr h=>?_)
 .refine yt h λg d st z tl lp p m k xs ps ns ts Ms e91 _=>?_;clear h;obtain rfl:=e91;rfl
 .refine yu h λg d st z tl lp p m k xs ps ns ts Ms e92 hg hp e93=>?_;clear h;obtain rfl:=e92;refine yq e93 λhd pr ip p9 hz hm ht hk hst q=>?_;clear e93;refine⟨_,(~~~(kI Ybf hr.m rfl ((ae 0)<&>((ae 1)<&>(((cX bC)<|>(ae 2)<||>aq)<&>(((cX bC)<|>(ae 2)<||>aq)<&>ah)))))),?_⟩;walk_at "wp";refine⟨_,aB.of hst,_,rfl,_,aB.of hst,_,rfl,λx dx hx hdx ndx=>kj hx hdx ndx hg hp hd pr ip p9 hz hm ht hk λdx2 z' l' ts' H4 s4 sb=>⟨rfl,q x dx2 z' l' ts' H H4 s4 sb⟩⟩
def tM (S C G PL:Addr):L2.Sp:=λvs H Q _=>∃ (x pa:Addr) (p m:Int) (ps:List (Int×Int)) (ns:List Int) (Ms:List Mv),vs=[.ref x,.ref pa]/\H pa=some (.tup [.str "fixed"])/\iO S C G H x p m ps ns Ms/\af p/\av p m ps ns Ms/\H PL=some ma /\
 ∀ (rk:Nat) H',aa H H'->eG p (dM p ns ns ps Ms Ms ps.length).length (stN ns ns ns.length) (dM p ns ns ps Ms Ms ps.length) rk->Q (.bl (decide (((stN ns ns ns.length:Nat):Int)-(rk:Nat)=1))) H'
theorem pj (F:bc K "lets_by" "lets_by" zA f fd)(T:bp K mg C G S)(Ybr:az P w K mg base "count_maps" 9 (spCm S C G PL)):ax P w K mg base aW 10 f fd ["standing","paper"] (tM S C G PL):=by
 have nd:=Eg.nd;refine F.ok Eg (λvs H Q E h=>?_) (λcdv A outer s H vs Q E hr h=>?_)
 .refine tQ h λx pa p m ps ns Ms e91 _=>?_;clear h;obtain rfl:=e91;rfl
 .refine qV h λx pa p m ps ns Ms e92 hpa sv e93=>?_;clear h;obtain rfl:=e92;refine cG e93 λhp V1 hPL q=>?_;clear e93;refine⟨_,((@bI _ _ _ _ _ _ _ _ (PW.pt (fm (dU (eN (bS h_ rfl T.n_isinstance iz ((ae 1)<&>((g7 rfl T.n_tuple boot_tuple)<&>ah))))) (gm (dU (F_ (ae 1) (λ_=>rfl)))))) (~~~eJ) bJ)<*>((@bI _ _ _ _ _ _ _ _ (PW.pt (qk (bW c9 ((cX bC)<|>(ae 1)<||>aq) nG (aU _)) (qp (bW c9 (bS fo rfl T.n_len fu ((ae 1)<&>ah)) aq (aU _))))) (@bE _ _ _ jW) bJ)<*>((@bI _ _ _ _ _ _ _ _ (PW.pt (qk (bW c9 ((cX bC)<|>(ae 1)<||>aq) nG (aU _)) (qp (bW c9 (bS fo rfl T.n_len fu ((ae 1)<&>ah)) aq (aU _))))) (@bE _ _ _ jW) bJ)<*>((@bI _ _ _ _ _ _ _ _ (PW.pt (qk (bW c9 ((cX bC)<|>(ae 1)<||>aq) nG (aU _)) (qp (bW c9 (bS fo rfl T.n_len fu ((ae 1)<&>ah)) aq (aU _))))) (@bE _ _ _ jW) bJ)<*>(~~~(jP (gO (oW (qb hr)) (ae 1) (@cb _ _ _ _ _ (nG<&>ah)) (aU _)) (jQ (gO c9 (Ybr<$>hr<$>((ae 0)<&>((ae 0)<&>ah))) aq (aU _))))))))),?_⟩;refine bD λX hX=>?_;walk_at "wp";refine aM _ _ ⟨⟨rfl,rfl⟩,_,rfl,_,.tup hpa,true,zi K,dR ⇑0 ⟨true,.inr (.inl ⟨_,aB.of hpa,rfl⟩),dR ⇑0 ?_⟩⟩;subst hX;refine bD λX hX=>?_;walk_at "wp";refine⟨_,aB.of hpa,_,rfl,rfl,dR ⇑0 ?_⟩;subst hX;refine bD λX hX=>?_;walk_at "wp";refine⟨_,aB.of hpa,_,rfl,rfl,dR ⇑0 ?_⟩;subst hX;refine bD λX hX=>?_;walk_at "wp";refine⟨_,aB.of hpa,_,rfl,rfl,dR ⇑0 ?_⟩;subst hX;walk_at "wp";refine⟨⇑0,λpf hpf=>?_⟩;have s1:=aa.new (o:=.tup [V.str "fixed"]) hpf;refine⟨_,rS.tup1 (aB.of (s1 _ _ hpa)) (aB.of aw) (vj.str _ _),m_ ⇑0 ⟨x,x,p,m,ps,ns,ns,Ms,Ms,rfl,sv.same s1,sv.same s1,hp,V1,V1,s1 _ _ hPL,λrk H2 s2 ir=>⟨rfl,?_⟩⟩⟩;rw[show decide (V.int (((stN ns ns ns.length:Nat):Int)-(rk:Nat))=V.int 1)=decide (((stN ns ns ns.length:Nat):Int)-(rk:Nat)=1) by simp];exact q rk H2 (s1.trans s2) ir
theorem wu {H0 H:Hp}{x dx g d z l lp:Addr}{p m:Int}{k:Nat}{xs:List V}{ps:List (Int×Int)}{ns:List Int}{ts:List Addr}{Ms:List Mv}(sb:AO H0 S C G H x p m ps ns k Ms dx g d z l lp xs ts):iO S C G H x p m ps ns Ms:=
 ⟨dx,g,d,z,l,lp,xs,sb.sa.ins,sb.sa.grd,sb.sa.drw,sb.prs,sb.sa.szs,ts,sb.lst,sb.len,λi t q e1 e2=>let ⟨r,rs,tb,_⟩:=sb.tbs i t q e1 e2;⟨r,rs,tb.tv⟩⟩
theorem wJ {H:Hp}{l:Addr}{p m:Int}{ps:List (Int×Int)}{ns:List Int}{ts:List Addr}{Ms:List Mv}(ip:iA m ps)(p9:ps.length<=9)(hm:(ns.length:Int)=m)(sz:∀ n∈ns,0<=n/\n<=6)(sum:ns.sum<=8)(tb:iN H p 60 l ts ps ns Ms):av p m ps ns Ms:=
 ⟨ip,p9,hm,sz,sum,λi q e=>by
  have hi:=(cj.mp e).1;have hl:=tb.2.1;refine i9 (tb.2.2 i _ q (aF (show i<ts.length by exact c3 hi hl)) e) λr rs t=>?_;exact⟨t.hl,λxs hx=>⟨t.hw xs hx,t.gd xs hx⟩⟩⟩
theorem Hy {H:Hp}{l:Addr}{p:Int}{ps:List (Int×Int)}{ns:List Int}{ts:List Addr}{Ms:List Mv}{k:Nat}(tb:iN H p k l ts ps ns Ms):dO H p l ps ns Ms:=
 ⟨ts,tb.1,tb.2.1,λi t q e1 e2=>let ⟨r,rs,t⟩:=tb.2.2 i t q e1 e2;⟨r,rs,t.tv⟩⟩
def spRgt (C G PL:Addr):L2.Sp:=λvs H Q _=>∃ (g d a st z tl lp:Addr) (p m:Int) (xs:List V) (ps:List (Int×Int)) (ns:List Int) (ts:List Addr) (Ms:List Mv),vs=[.ref g,.ref d,.int p,.ref a,.ref st]/\di G H g p/\af p/\hE C H d m lp xs/\H a=some (.lst xs)/\cK H xs ps/\iA m ps/\ps.length<=9/\bU H z ns/\(ns.length:Int)=m/\iN H p 60 tl ts ps ns Ms/\H st=some (.tup [.ref z,.ref tl])/\(∀ n∈ns,0<=n/\n<=2)/\ns.sum<=7/\(p=0->ns.sum<=4)/\H PL=some ma/\∀ H',aa H H'->Q (.bl true) H'
theorem o6 (F:bc K "_law_right" "_law_right" z_ f fd)(T:bp K mg C G S)(Ybb:az P w K mg base "_law_count" 6 spCnt)(Yaj:az P w K mg base "_law_made" 13 (spMd S C G))(Yah:az P w K mg base "lets_by" 10 (tM S C G PL)):ax P w K mg base aW 14 f fd ["_law_ground","_law_drawing_here","_law_p","_law_arrows","_law_standing_here"] (spRgt C G PL):=by
 have nd:=Eo.nd;refine F.ok Eo (λvs H Q E h=>?_) (λcdv A outer s H vs Q E hr h=>?_)
 .refine yt h λg d a st z tl lp p m xs ps ns ts Ms e94 _=>?_;clear h;obtain rfl:=e94;rfl
 .refine yu h λg d a st z tl lp p m xs ps ns ts Ms e95 hg hp e96=>?_;clear h;obtain rfl:=e95;refine oz e96 λhd ha pr ip p9 hz hm tb hst h2 hs hs0 hPL q=>?_;clear e96;have V1:=wJ ip p9 hm (λn h=>⟨(h2 n h).1,mM (h2 n h).2 ⇑0⟩) (mM hs ⇑0) tb;refine⟨_,((5|||nd|||(gO c9 (Ybb<$>hr<$>((ae 2)<&>((ae 3)<&>((ae 4)<&>((ae 4)<&>ah))))) aq (aU _)))<*>((6|||nd|||(Yah<$>hr<$>((Yaj<$>hr<$>((ae 0)<&>((ae 1)<&>((ae 4)<&>ah))))<&>((@cb _ _ _ _ _ (nG<&>ah))<&>ah))))<*>(~~~(jP (bS h_ rfl T.n_isinstance iz ((ae 6)<&>((g7 rfl T.n_bool boot_bool)<&>ah))) (jQ (gO (oV (qb hr)) (ae 6) (ae 5) (aU _))))))),?_⟩;refine bD λX hX=>?_;walk_at "wp";refine oh a st z tl p m xs ps ns Ms ⟨rfl,ha,pr,⟨hst,hz,Hy tb⟩,hp,V1,λn h=>(h2 n h).2,hs,hs0,λr1 H1 s1 k1=>?_⟩;refine⟨rfl,?_⟩;subst hX;refine bD λX hX=>?_;walk_at "wp";refine rm g d st z tl lp p m 60 xs ps ns ts Ms ⟨rfl,hg.same s1,hp,(let ⟨a,b,c⟩:=hd;⟨a,s1 _ _ b,s1 _ _ c⟩),pr.same s1,ip,p9,hz.same s1,hm,tb.same s1,⇑0,s1 _ _ hst,λx dx z' l' ts' _ H2 s2 sb=>⟨⇑0,λpa hpa=>?_⟩⟩;have s3:=aa.new (o:=.tup [V.str "fixed"]) hpa;refine nq x pa p m ps ns Ms ⟨rfl,aw,(wu sb).same s3,hp,V1,(s1.trans (s2.trans s3)) _ _ hPL,λr2 H4 s4 k2=>?_⟩;obtain rfl:=eG.uniq hp k2 k1;subst hX;walk_at "wp";exact aM _ _ ⟨⟨rfl,rfl⟩,_,rfl,_,.bl _,_,Ek K,m_ rfl (.inl ⟨rfl,by rw[bR rfl];exact q H4 (s1.trans ((s2.trans s3).trans s4))⟩)⟩
end
end Pf
namespace Pf
open PySem L2 L3 PyProof.Rows
section
variable {p:Int}{F:Type}[Lean.Grind.Field F]
theorem oB {L:List Nv}{k:Nat}{x:Nv}(hk:k<L.length)(b:Nat):(vN (L.set k x) b:F)=vN L b+(if b=k then nm x-vN L k else 0):=by
 unfold vN;rw[fR hk];by_cases h:b=k
 .subst h;rw[if_pos rfl,if_pos rfl]
  grind
 .rw [if_neg h,if_neg h]
  grind
theorem BK {L:List Nv}{k n:Nat}{x:Nv}(v:Nat->F)(hk:k<L.length)(hn:k<n):sm n (λb=>vN (L.set k x) b*v b)=sm n (λb=>vN L b*v b)+(nm x-vN L k)*v k:=by
 rw[bF (g:=λb=>vN L b*v b+(if b=k then (nm x-vN L k)*v b else 0)) λb _=>by
  rw[oB hk];split <;> grind,jR,rj (λb=>(nm x-vN L k)*v b) hn]
theorem CL {xs:List Nv}{s w c n:Nat}(v:Nat->F)(hw:0<w):∀ {k:Nat},(∀ i,i<k->s+i*w+c<n)->sm n (λb=>vN (gg xs s w c k (List.replicate n (0,1))) b*v b)=sm k (λi=>vN xs i*v (s+i*w+c))
 | 0,_=>by
  show sm n _=0;rw[bF (g:=λ_=>0) λb _=>?_,hO];show (nm ((List.replicate n (0,1)).getD b (0,1)):F)*v b=0;rw[show (List.replicate n ((0,1):Nv)).getD b (0,1)=(0,1) by rw[aT,qM];split <;> rfl,nI]
  grind
 | k+1,h=>by
  have l:s+k*w+c<(gg xs s w c k (List.replicate n (0,1))).length:=by rw[mz,d0];exact h k ∅
  show sm n (λb=>vN (List.set _ _ _) b*v b)=sm k _+_;rw[BK v l (h k ∅),CL v hw λi hi=>h i (qX hi)];have:(vN (gg xs s w c k (List.replicate n (0,1))) (s+k*w+c):F)=0:=by unfold vN;rw[Dw hw,nI]
  rw[this];show _+(vN xs k-0)*_=_
  grind
theorem CA {f:Nat->Nv}{s n:Nat}{r:List Nv}(hp:af p)(hF:aO p F)(v:Nat->F)(hl:r.length=n)(hr:∀ x∈r,aZ p x)(hf:∀ k,aZ p (f k)):∀ {k:Nat},(∀ i,i<k->s+i<n)->sm n (λb=>vN (gZ p f s k r) b*v b)=sm n (λb=>vN r b*v b)-sm k (λi=>nm (f i)*v (s+i))
 | 0,_=>by
  show sm n (λb=>vN r b*v b)=sm n (λb=>vN r b*v b)-0
  grind
 | k+1,h=>by
  have l:s+k<(gZ p f s k r).length:=by rw[uD,hl];exact h k ∅
  show sm n (λb=>vN (List.set _ _ _) b*v b)=_-(sm k _+_);rw[BK v l (h k ∅),CA hp hF v hl hr hf λi hi=>h i (qX hi)];have e:(gZ p f s k r).getD (s+k) (0,1)=r.getD (s+k) (0,1):=wI;have i1:aZ p (r.getD (s+k) (0,1)):=hr _ (cq (by rw[hl];exact h k ∅));have:(vN (gZ p f s k r) (s+k):F)=nm (r.getD (s+k) (0,1)):=by unfold vN;rw[e]
  rw[this,e,hF.minus i1 (hf k)]
  grind
def oneV (ns:List Int)(b:Nat):Prop:=∃ u k:Nat,u<ns.length/\k<(ns.getD u 0).toNat/\b=stN ns ns u+k*(ns.getD u 0).toNat+k
open Classical in
noncomputable def idV (F:Type)[Lean.Grind.Field F](ns:List Int)(b:Nat):F:=if oneV ns b then 1 else 0
end
end Pf
namespace Pf
open PySem L2 L3 PyProof.Rows
section
variable {p:Int}{F:Type}[Lean.Grind.Field F]
theorem oG {A:Nat->Nat->F}{m n r:Nat}(h:Rk A m n r){j0:Nat}(h0:j0<n)(hk:∀ v:Nat->F,(∀ i,i<m->sm n (λb=>A i b*v b)=0)->v j0=0->∀ b,b<n->v b=0):n<=r+1:=by
 refine i9 h.fac λB C hf=>?_;apply jF;intro z;refine ar (q_ (r+1) n (λi b=>if i=r then (if b=j0 then 1 else 0) else C i b) ∅) λv e91 he=>?_;obtain⟨j,hj,hv⟩:=e91;apply hv;refine hk v (λi hi=>?_) ?_ j hj
 .rw [bF (n:=n) (g:=λb=>sm r λk=>B i k*(C k b*v b)) λb hb=>?_,jT,bF (n:=r) (g:=λ_=>0) λk hk=>?_,hO]
  .have:=he k (qX hk);rw[bF (g:=λb=>C k b*v b) λb _=>by rw[if_neg ∅]] at this;rw[fT,this]
   grind
  .rw [hf i b hi hb,<- gQ];exact bF λk _=>by grind
 .have:=he r ∅;rw[bF (g:=λb=>v b*(if j0=b then 1 else 0)) λb _=>by rw[if_pos rfl];by_cases e:b=j0 <;> grind,uA v h0] at this;exact this
theorem oF {A:Nat->Nat->F}{m n r:Nat}(h:Rk A m n r){u v:Nat->F}{a b:Nat}(ha:a<n)(hb:b<n)(hu:∀ i,i<m->sm n (λb=>A i b*u b)=0)(hv:∀ i,i<m->sm n (λb=>A i b*v b)=0)(ua:u a≠0)(ub:u b=0)(vb:v b≠0):r+2<=n:=by
 refine i9 h.piv λP Q hp=>?_;apply jF;intro z;refine ar (q_ n (r+2) (λt k=>if k<r then Q t k else if k=r then u t else v t) ∅) λw e92 he=>?_;obtain⟨j,hj,hw⟩:=e92;have he':∀ t,t<n->sm r (λk=>Q t k*w k)+u t*w r+v t*w (r+1)=0:=λt ht=>by
  have:=he t ht;change sm r _+(if r<r then Q t r else if r=r then u t else v t)*w r+(if r+1<r then Q t (r+1) else if r+1=r then u t else v t)*w (r+1)=0 at this;rw[if_neg ∅,if_pos rfl,if_neg ∅,if_neg ∅,bF (g:=λk=>Q t k*w k) λk hk=>by rw[if_pos hk]] at this;exact this
 have hw0:∀ i,i<r->w i=0:=λi hi=>by
  have e:sm r (λk=>sm m (λa=>P i a*sm n λb=>A a b*Q b k)*w k)=w i:=by
   rw[bF (n:=r) (g:=λk=>w k*(if i=k then 1 else 0)) λk hk=>by rw[hp i k hi hk];grind];exact uA w hi
  rw[<- e,bF (n:=r) (g:=λk=>sm m λa=>P i a*sm n λb=>A a b*(Q b k*w k)) λk _=>?_,jT,bF (n:=m) (g:=λ_=>0) λa ha=>?_,hO]
  .rw [fT,jT,bF (n:=n) (g:=λb=>A a b*u b*(0-w r)+A a b*v b*(0-w (r+1))) λb hb=>?_,jR,gQ,gQ,hu a ha,hv a ha]
   .grind
   .rw [fT];have:=he' b hb
    grind
  .rw [<- gQ];exact bF λa _=>by
    rw[show P i a*(sm n λb=>A a b*Q b k)*w k=P i a*((sm n λb=>A a b*Q b k)*w k) by grind,<- gQ];rw[bF (n:=n) λb _=>by rw[show A a b*Q b k*w k=A a b*(Q b k*w k) by grind]]
 have hq:∀ t,t<n->u t*w r+v t*w (r+1)=0:=λt ht=>by
  have:=he' t ht;rw[bF (n:=r) (g:=λ_=>0) λk hk=>by rw[hw0 k hk];grind,hO] at this
  grind
 have w1:w (r+1)=0:=by
  have:=hq b hb;rw[ub] at this;rcases Fi (show v b*w (r+1)=0 by grind) with h|h
  .exact absurd h vb
  .exact h
 have w0:w r=0:=by
  have:=hq a ha;rw[w1] at this;rcases Fi (show u a*w r=0 by grind) with h|h
  .exact absurd h ua
  .exact h
 apply hw;rcases A8 j r with h|h|h
 .exact hw0 j h
 .rw [h,w0]
 .rw [show j=r+1 by omega,w1]
theorem G4 {ns:List Int}{u k l u' k' l':Nat}(hu:u<ns.length)(hk:k<(ns.getD u 0).toNat)(hl:l<(ns.getD u 0).toNat)(hu':u'<ns.length)(hk':k'<(ns.getD u' 0).toNat)(hl':l'<(ns.getD u' 0).toNat)(e:stN ns ns u+k*(ns.getD u 0).toNat+l=stN ns ns u'+k'*(ns.getD u' 0).toNat+l'):u=u'/\k=k'/\l=l':=by
 have lt:∀ a x y,a<ns.length->x<(ns.getD a 0).toNat->y<(ns.getD a 0).toNat->stN ns ns a+x*(ns.getD a 0).toNat+y<stN ns ns (a+1):=λa x y ha hx hy=>by
  show _<stN ns ns a+_*_;have:(x+1)*(ns.getD a 0).toNat<=(ns.getD a 0).toNat*(ns.getD a 0).toNat:=e_ hx (aI _);rw[jZ] at this;omega
 have l1:=lt u k l hu hk hl;have l2:=lt u' k' l' hu' hk' hl';have eu:u=u':=by
  rcases A8 u u' with h|h|h
  .have:=wG ns ns (show u+1<=u' from h);omega
  .exact h
  .have:=wG ns ns (show u'+1<=u from h);exact oz155 e l2 this
 subst eu;generalize (ns.getD u 0).toNat=w at *;have e2:k*w+l=k'*w+l':=by exact oz130 e
 have ek:k=k':=by
  rcases A8 k k' with h|h|h
  .have:(k+1)*w<=k'*w:=e_ h (aI _);rw[jZ] at this;omega
  .exact h
  .have:(k'+1)*w<=k*w:=e_ h (aI _);rw[jZ] at this;omega
 subst ek;exact⟨rfl,rfl,∅⟩
def qB (ns:List Int)(b u k:Nat):Prop:=u<ns.length/\k<(ns.getD u 0).toNat/\b=stN ns ns u+k*(ns.getD u 0).toNat+k
open Classical in
noncomputable def dgV (ns:List Int)(f:Nat->Nat->F)(b:Nat):F:=if h:∃ u k,qB ns b u k then f h.choose h.choose_spec.choose else 0
theorem qS {ns:List Int}{f:Nat->Nat->F}{u k l:Nat}(hu:u<ns.length)(hk:k<(ns.getD u 0).toNat)(hl:l<(ns.getD u 0).toNat):dgV ns f (stN ns ns u+k*(ns.getD u 0).toNat+l)=f u k*(if k=l then 1 else 0):=by
 unfold dgV;by_cases h:∃ u' k',qB ns (stN ns ns u+k*(ns.getD u 0).toNat+l) u' k'
 .rw [dif_pos h];have key:∀ u' k',qB ns (stN ns ns u+k*(ns.getD u 0).toNat+l) u' k'->f u' k'=f u k*(if k=l then 1 else 0):=λu' k' ⟨a,b,c⟩=>by
   refine bQ (G4 hu hk hl a b b c) λe1 e2 e3=>?_;rw[<- e1,<- e2,if_pos (e2.trans e3.symm)]
   grind
  exact key _ _ h.choose_spec.choose_spec
 .rw [dif_neg h,if_neg λz=>h ⟨u,k,hu,hk,by rw[<- z]⟩]
  grind
theorem Cc {m:Int}{ps:List (Int×Int)}{ns:List Int}{Ms:List Mv}(hp:af p)(hF:aO p F)(V:av p m ps ns Ms)(v:Nat->F){t i j:Nat}{q:Int×Int}(hq:ps[t]?=some q)(hi:i<nt ns q.2)(hj:j<nt ns q.1):sm (stN ns ns ns.length) (λb=>vN (gf p ns ns q (Ms.getD t []) (Ms.getD t []) i j) b*v b)=sm (nt ns q.1) (λk=>vN ((Ms.getD t []).getD i []) k*v (stN ns ns q.1.toNat+k*nt ns q.1+j))-sm (nt ns q.2) (λk=>nm (((Ms.getD t []).getD k []).getD j (0,1))*v (stN ns ns q.2.toNat+i*nt ns q.2+k)):=by
 obtain⟨sh,sr⟩:=V.sh t q hq;refine cG (V.ip _ (aY hq)) λi0 i1 j0 j1=>?_;have hm:=V.hm;have hu:q.1.toNat<ns.length:=by exact oz30 i0 i1 hm
 have hv:q.2.toNat<ns.length:=by exact oz30 j0 j1 hm
 have ri:=sr _ (cq (d:=[]) (show i<(Ms.getD t []).length by exact c3 hi sh));have h0:cN p 60 [(0,1)]:=λx hx=>by rw[cF.mp hx];exact⟨jB hp,dc ⇑0 ⇑0,dc ⇑0 ⇑0⟩
 have gP:=uj (s:=stN ns ns q.1.toNat) (w:=nt ns q.1) (c:=j) h0 ri.2 (r:=List.replicate (stN ns ns ns.length) (0,1)) (λx hx=>by rw[(gw.mp hx).2];exact h0 _ (by simp)) (nt ns q.1);unfold gf;rw[CA hp hF _ (by rw[mz,d0]) (λx hx=>(gP x hx).1) (λk=>?_) (λk hk=>rg hv hi hk),CL _ (oz64 hj) λk hk=>rg hu hk hj];by_cases hk:k<(Ms.getD t []).length
 .have:=sr _ (cq (d:=[]) hk);exact (this.2 _ (cq ∅)).1
 .rw [show (Ms.getD t []).getD k []=[] by rw[aT,cZ (c8 hk)];rfl];exact jB hp
theorem lU {m:Int}{ps:List (Int×Int)}{ns:List Int}{Ms:List Mv}(hp:af p)(hF:aO p F)(V:av p m ps ns Ms)(f:Nat->Nat->F){t i j:Nat}{q:Int×Int}(hq:ps[t]?=some q)(hi:i<nt ns q.2)(hj:j<nt ns q.1)(h:f q.1.toNat j=f q.2.toNat i\/((Ms.getD t []).getD i []).getD j (0,1)=(0,1)):sm (stN ns ns ns.length) (λb=>vN (gf p ns ns q (Ms.getD t []) (Ms.getD t []) i j) b*dgV ns f b)=0:=by
 refine cG (V.ip _ (aY hq)) λi0 i1 j0 j1=>?_;have hm:=V.hm;have hu:q.1.toNat<ns.length:=by exact oz30 i0 i1 hm
 have hv:q.2.toNat<ns.length:=by exact oz30 j0 j1 hm
 rw[Cc hp hF V _ hq hi hj];rw[bF (n:=nt ns q.1) (g:=λk=>vN ((Ms.getD t []).getD i []) k*f q.1.toNat k*(if k=j then 1 else 0)) λk hk=>by rw[show stN ns ns q.1.toNat+k*nt ns q.1+j=stN ns ns q.1.toNat+k*(ns.getD q.1.toNat 0).toNat+j from rfl,qS hu hk hj];grind,CK (λk=>vN ((Ms.getD t []).getD i []) k*f q.1.toNat k) hj];rw[bF (n:=nt ns q.2) (g:=λk=>nm (((Ms.getD t []).getD k []).getD j (0,1))*f q.2.toNat i*(if i=k then 1 else 0)) λk hk=>by rw[show stN ns ns q.2.toNat+i*nt ns q.2+k=stN ns ns q.2.toNat+i*(ns.getD q.2.toNat 0).toNat+k from rfl,qS hv hi hk];grind,uA (λk=>nm (((Ms.getD t []).getD k []).getD j (0,1))*f q.2.toNat i) hi];show nm (((Ms.getD t []).getD i []).getD j (0,1))*f q.1.toNat j-nm (((Ms.getD t []).getD i []).getD j (0,1))*f q.2.toNat i=0;rcases h with h|h
 .rw [h];grind
 .rw [h,nI];grind
end
theorem y9 {ns:List Int}{u k:Nat}(hu:u<ns.length)(hk:k<(ns.getD u 0).toNat):stN ns ns u+k*(ns.getD u 0).toNat+k<stN ns ns ns.length:=by
 have h1:=wG ns ns (show u+1<=ns.length from hu);have h2:stN ns ns (u+1)=stN ns ns u+(ns.getD u 0).toNat*(ns.getD u 0).toNat:=rfl;have:(k+1)*(ns.getD u 0).toNat<=(ns.getD u 0).toNat*(ns.getD u 0).toNat:=e_ hk (aI _);rw[jZ] at this;omega
theorem p6 {p:Int}{ns1 ns2:List Int}{ps:List (Int×Int)}{Ms1 Ms2:List Mv}{n t i j:Nat}(ht:t<n)(hi:i<nt ns2 (ps.getD t (0,0)).2)(hj:j<nt ns1 (ps.getD t (0,0)).1):gf p ns1 ns2 (ps.getD t (0,0)) (Ms1.getD t []) (Ms2.getD t []) i j∈dM p ns1 ns2 ps Ms1 Ms2 n:=by
 unfold dM;rw[xp];refine⟨t,eC.mpr ht,?_⟩;unfold fh;rw[xp];exact⟨i,eC.mpr hi,cw.mpr ⟨j,eC.mpr hj,rfl⟩⟩
section
variable {p m:Int}{ps:List (Int×Int)}{ns:List Int}{Ms:List Mv}{rk:Nat}
abbrev mP (p:Int)(ps:List (Int×Int))(ns:List Int)(Ms:List Mv)(rk:Nat):Prop:=eG p (dM p ns ns ps Ms Ms ps.length).length (stN ns ns ns.length) (dM p ns ns ps Ms Ms ps.length) rk
theorem xU {F:Type}[Lean.Grind.Field F](hp:af p)(hF:aO p F)(V:av p m ps ns Ms)(f:Nat->Nat->F)(h:∀ (t:Nat) q i j,ps[t]?=some q->i<nt ns q.2->j<nt ns q.1->f q.1.toNat j=f q.2.toNat i\/((Ms.getD t []).getD i []).getD j (0,1)=(0,1)):∀ i,i<(dM p ns ns ps Ms Ms ps.length).length->sm (stN ns ns ns.length) (λb=>vN ((dM p ns ns ps Ms Ms ps.length).getD i []) b*dgV ns f b)=0:=λi hi=>by
 refine cD (vP (cq (d:=[]) hi)) λt a b ht ha hb e=>?_;have hq:ps[t]?=some (ps.getD t (0,0)):=by rw[dk ht];exact aF _
 rw[e];exact lU hp hF V f hq ha hb (h t _ a b hq ha hb)
theorem BU (hp:af p)(V:av p m ps ns Ms)(ir:mP p ps ns Ms rk)(T:Nat->Nat->Bool)(h:∀ (t:Nat) q i j,ps[t]?=some q->i<nt ns q.2->j<nt ns q.1->T q.1.toNat j=T q.2.toNat i\/((Ms.getD t []).getD i []).getD j (0,1)=(0,1)){u k u' k':Nat}(hu:u<ns.length)(hk:k<(ns.getD u 0).toNat)(hu':u'<ns.length)(hk':k'<(ns.getD u' 0).toNat)(h1:T u k=true)(h2:T u' k'=false):rk+2<=stN ns ns ns.length:=by
 obtain⟨F,_,hF⟩:=qh hp;refine oF (ir F hF) (u:=dgV ns λa b=>if T a b=true then (1:F) else 0) (v:=dgV ns λ_ _=>(1:F)) (y9 hu hk) (y9 hu' hk') (xU hp hF V _ λt q i j hq hi hj=>?_) (xU hp hF V _ λt q i j hq hi hj=>.inl rfl) ?_ ?_ ?_
 .rcases h t q i j hq hi hj with h|h
  .exact .inl (by rw[h])
  .exact .inr h
 .rw [qS hu hk hk,if_pos rfl,if_pos h1];have:=iC (F:=F)
  grind
 .rw [qS hu' hk' hk',h2,if_neg ⇑0]
  grind
 .rw [qS hu' hk' hk',if_pos rfl];have:=iC (F:=F)
  grind
end
def bj (m fi la:Nat):List Int:=(List.range m).map λk=>if fi<=k/\k<=la then 1 else 0
theorem ql {m fi la k:Nat}(h:k<m):(bj m fi la).getD k 0=if fi<=k/\k<=la then 1 else 0:=by
 unfold bj;rw[aT,bH,j9 h];rfl
theorem BS {m fi la:Nat}(h:fi<=la)(hl:la<m):∀ k,k<=m->stN (bj m fi la) (bj m fi la) k=min k (la+1)-min k fi
 | 0,_=>by simp;rfl
 | k+1,hk=>by
  show stN _ _ k+((bj m fi la).getD k 0).toNat*((bj m fi la).getD k 0).toNat=_;rw[BS h hl k (tL hk),ql ∅];split
  .show _+1=_;omega
  .show _+0=_;omega
def eV (m:Nat)(ps:List (Int×Int)):Prop:=ps.length+1=m/\∀ (t:Nat) q,ps[t]?=some q->q=((t:Int),(t:Int)+1)\/q=((t:Int)+1,(t:Int))
theorem p8 {p:Int}{m fi la:Nat}{ps:List (Int×Int)}{Ms:List Mv}{rk:Nat}(hp:af p)(hr:eV m ps)(h:fi<=la)(hl:la<m)(V:av p m ps (bj m fi la) Ms)(h1:∀ t,fi<=t->t<la->Ms.getD t []=[[(1,1)]])(ir:mP p ps (bj m fi la) Ms rk):((stN (bj m fi la) (bj m fi la) (bj m fi la).length:Nat):Int)-(rk:Nat)=1:=by
 obtain⟨F,_,hF⟩:=qh hp;have R:=ir F hF;have hn:(bj m fi la).length=m:=by unfold bj;rw[aA,ef]
 have st:=BS h hl;have hW:stN (bj m fi la) (bj m fi la) (bj m fi la).length=la+1-fi:=by rw[hn,st m (aI _)];exact oz4 hl
 have nt1:∀ k:Nat,fi<=k->k<=la->nt (bj m fi la) (k:Int)=1:=λk h1 h2=>by
  unfold nt;rw[d5,ql ∅,if_pos ⟨h1,h2⟩];rfl
 have lo:=R.lt (v:=dgV (bj m fi la) λ_ _=>(1:F)) (j:=stN (bj m fi la) (bj m fi la) fi+0*((bj m fi la).getD fi 0).toNat+0) (y9 ∅ (by rw[ql (oz115 h hl),if_pos ⟨aI _,h⟩];decide)) (by
  have k1:0<((bj m fi la).getD fi 0).toNat:=by rw[ql (oz115 h hl),if_pos ⟨aI _,h⟩];decide
  rw[qS ∅ k1 k1,if_pos rfl];have:=iC (F:=F)
  grind) (xU hp hF V _ λt q i j hq hi hj=>.inl rfl)
 have hi:=oG R (j0:=0) (oz64 lo) λv hv v0=>?_
 .exact oz118 lo hi
 .have stp:∀ t,fi<=t->t<la->v (t+1-fi)=v (t-fi):=λt t1 t2=>by
   have htl:t<ps.length:=by have:=hr.1;omega
   have hq:ps[t]?=some (ps.getD t (0,0)):=by rw[dk htl];exact aF _
   have key:∀ q:Int×Int,ps[t]?=some q->nt (bj m fi la) q.1=1->nt (bj m fi la) q.2=1->v (stN (bj m fi la) (bj m fi la) q.1.toNat)=v (stN (bj m fi la) (bj m fi la) q.2.toNat):=λq e e1 e2=>by
    have hq':=hq;rw[e] at hq';cases hq';have hmem:=p6 (p:=p) (ns1:=bj m fi la) (ns2:=bj m fi la) (ps:=ps) (Ms1:=Ms) (Ms2:=Ms) (n:=ps.length) (t:=t) (i:=0) (j:=0) htl (vw e2) (vw e1);obtain⟨x,hx,ex⟩:=d9.mp hmem;have:=hv x hx;rw[show (dM p (bj m fi la) (bj m fi la) ps Ms Ms ps.length).getD x []=_ from (dk hx).trans ex,Cc hp hF V v hq (vw e2) (vw e1),e1,e2,h1 t t1 t2] at this;change 0+nm (1,1)*v (_+0*1+0)-(0+nm (1,1)*v (_+0*1+0))=0 at this;rw[pG] at this;simp only[uT,Nat.add_zero] at this
    grind
   have a1:=nt1 t t1 ∅;have a2:=nt1 (t+1) (oz95 t1) t2;have b1:stN (bj m fi la) (bj m fi la) t=t-fi:=by rw[st t ∅];exact oz2 t2
   have b2:stN (bj m fi la) (bj m fi la) (t+1)=t+1-fi:=by rw[st (t+1) ∅];exact oz8 t2
   rcases hr.2 t _ hq with e|e
   .have:=key _ hq (by rw[e];exact a1) (by rw[e];exact a2);rw[e] at this;change v (stN _ _ (t:Int).toNat)=v (stN _ _ ((t:Int)+1).toNat) at this;rw[show ((t:Int)+1).toNat=t+1 by exact oz27,d5,b1,b2] at this;exact this.symm
   .have:=key _ hq (by rw[e];exact a2) (by rw[e];exact a1);rw[e] at this;change v (stN _ _ ((t:Int)+1).toNat)=v (stN _ _ (t:Int).toNat) at this;rw[show ((t:Int)+1).toNat=t+1 by exact oz27,d5,b1,b2] at this;exact this
  have all:∀ b,b<la+1-fi->v b=0:=λb=>by
   induction b with
   | zero=>exact λ_=>v0
   | succ b ih=>
    intro hb;have:=stp (b+fi) ∅ (oz137 hb);rw[show b+fi+1-fi=b+1 by exact oz80,show b+fi-fi=b by exact oz92] at this;rw[this];exact ih ∅
  rw[hW];exact all
theorem lV {p:Int}{m fi la t0:Nat}{ps:List (Int×Int)}{Ms:List Mv}{rk:Nat}(hp:af p)(hr:eV m ps)(hl:la<m)(V:av p m ps (bj m fi la) Ms)(f0:fi<=t0)(l0:t0<la)(h0:Ms.getD t0 []=[[(0,1)]])(ir:mP p ps (bj m fi la) Ms rk):¬ ((stN (bj m fi la) (bj m fi la) (bj m fi la).length:Nat):Int)-(rk:Nat)=1:=by
 have hn:(bj m fi la).length=m:=by unfold bj;rw[aA,ef]
 have:=BU hp V ir (λu _=>decide (u<=t0)) (λt q i j hq hi hj=>?_) (u:=fi) (k:=0) (u':=la) (k':=0) ∅ (by rw[ql ∅,if_pos ⟨aI _,∅⟩];decide) (c3 hl hn) (by rw[ql (oz69 hl),if_pos ⟨∅,aI _⟩];decide) (bR f0) (dm ∅)
 .omega
 .by_cases e:t=t0
  .subst e;refine .inr ?_;rw[h0];cases i with
   | zero=>cases j <;> rfl
   | succ i=>rfl
  .refine .inl ?_;rcases hr.2 t q hq with rfl|rfl
   .show decide ((t:Int).toNat<=t0)=decide (((t:Int)+1).toNat<=t0);rw[qG];exact oz21 e
   .show decide (((t:Int)+1).toNat<=t0)=decide ((t:Int).toNat<=t0);rw[qG];exact oz17 e
end Pf
namespace Pf
open PySem L2 L3 PyProof.Rows
section
variable {C PL:Addr}
theorem eV.add {n:Nat}{ps:List (Int×Int)}{q:Int×Int}(h:eV n ps)(hq:q=((ps.length:Int),(ps.length:Int)+1)\/q=((ps.length:Int)+1,(ps.length:Int))):eV (n+1) (ps++[q]):=⟨by rw[bw,<- h.1];rfl,λt q' e=>by
 by_cases ht:t<ps.length
 .rw [eE ht] at e;exact h.2 t q' e
 .have hl:=(cj.mp e).1;rw[bw,xC] at hl;obtain rfl:t=ps.length:=∅
  rw[d_ (aI _),rZ] at e;cases e;exact hq⟩
def spRd:L2.Sp:=λvs H Q _=>∃ l:Addr,vs=[.ref l]/\a_ H l/\∀ (t e:Addr) (m:Nat) (xs:List V) (ps:List (Int×Int)) (H':Hp),aP l H H'->a_ H' l->H t=none->H' t=some (.tup [.int m,.ref e])->H e=none->H' e=some (.lst xs)->cK H' xs ps->eV m ps->m<=8->Q (.ref t) H'
theorem sU (F:bc K "_law_row_drawing" "_law_row_drawing" AI f fd)(T:bp K mg C G S)(Yaa:az P w K mg base "_law_draw" 1 iK):ax P w K mg base aW 2 f fd ["_law_bag_here"] spRd:=by
 have nd:=E_.nd;refine F.ok E_ (λvs H Q E h=>?_) (λcdv A outer s H vs Q E hr h=>?_)
 .refine ar h λl e95 _=>?_;clear h;obtain rfl:=e95;rfl
 .refine aQ h λl e96 hb q=>?_;clear h;obtain rfl:=e96;refine⟨_,((1|||nd|||(dI<|>aq<&&>(Yaa<$>hr<$>((ae 0)<&>(aq<&>ah)))))<*>((@bI _ _ _ _ _ _ _ _ (bW c9 (Yaa<$>hr<$>((ae 0)<&>(aq<&>ah))) aq (aU _)) (@bE _ _ _ (1|||nd|||aq)) bJ)<*>((2|||nd|||(@cU _ _ _ _ ah))<*>((dw cW rfl (fj rfl T.n_range ((fQ<|>(pv 1)<&&>aq)<&>ah)) (3>>>nd) (@bE _ _ _ (gp (fN f_ gC gB (mtJ fW) (ae 2) ((aV<|>(@cU _ _ _ _ ((@cb _ _ _ _ _ ((ae 3)<&>(((gH dI)<|>(ae 3)<&&>aq)<&>ah)))<&>((@cb _ _ _ _ _ (((gH dI)<|>(ae 3)<&&>aq)<&>((ae 3)<&>ah)))<&>ah)))<||>(Yaa<$>hr<$>((ae 0)<&>(aq<&>ah))))<&>ah)))))<*>(~~~(@cb _ _ _ _ _ ((ae 1)<&>((ae 2)<&>ah)))))))),?_⟩;refine bD λX hX=>?_;walk_at "wp";refine hb.draw ⇑0 ⇑0 λr H1 r0 r1 e1 b1=>⟨r,rfl,?_⟩
  subst hX;refine bD λX2 hX2=>?_;have aft:∀ (m:Nat) H2,1<=m->m<=8->aP l H H2->a_ H2 l->X2 { nx:=λx H'=>Q V.non H',rt:=Q } [some (.ref l),some (.int m),none,none] H2:=by
   intro m H2 m1 m8 e2 b2;subst hX2;walk_at "wp";refine⟨eB _,λpa hpa=>?_⟩;have nal:pa≠l:=b2.ne hpa;have fpa:H pa=none:=e2.free nal hpa;have e2n:aP l H (ao H2 pa (.lst [])):=e2.trans (aP.new hpa);have b2n:a_ (ao H2 pa (.lst [])) l:=b2.new nal;have q2:(ao H2 pa (.lst [])) pa=some (.lst []):=aw;generalize ao H2 pa (.lst [])=H3 at *;refine⟨_,rfl,_,_,rfl,rfl,_,rfl,∅,∅,hU (λi σ H6=>∃ (xs:List V) (ps:List (Int×Int)) (v:Option V),σ=[some (.ref l),some (.int m),some (.ref pa),v]/\aP l H H6/\a_ H6 l/\H6 pa=some (.lst xs)/\xs.length=i/\cK H6 xs ps/\eV (i+1) ps) ⟨[],[],none,rfl,e2n,b2n,q2,rfl,cK.nil,rfl,λt q e=>by simp at e⟩ ?_ ?_⟩
   .intro i σ H6 hi e91;refine cD e91 λxs ps v e97 e6 b6 e98=>?_;clear e91;obtain rfl:=e97;refine cG e98 λha6 hal px rd=>?_;clear e98;have hpl:=rd.1;have i8:i<8:=by exact oz79 m8 hi
    walk_at "wp";refine⟨.inl ⟨rfl,_,aj.of ha6⟩,⇑0,λp1 h1=>⟨⇑0,λp2 h2=>⟨⇑0,λp3 h3=>?_⟩⟩⟩;have S1:=aa.new (o:=.tup [V.int (0+(i:Int)),V.int (0+(i:Int)+1)]) h1;have S2:=aa.new (o:=.tup [V.int (0+(i:Int)+1),V.int (0+(i:Int))]) h2;have S3:=aa.new (o:=.lst [V.ref p1,V.ref p2]) h3;have q1:=(S2.trans S3) _ _ (aw (H:=H6) (a:=p1) (o:=.tup [V.int (0+(i:Int)),V.int (0+(i:Int)+1)]));have q2:=S3 _ _ (aw (a:=p2) (o:=.tup [V.int (0+(i:Int)+1),V.int (0+(i:Int))]));have q3:(ao (ao (ao H6 p1 (.tup [V.int (0+(i:Int)),V.int (0+(i:Int)+1)])) p2 (.tup [V.int (0+(i:Int)+1),V.int (0+(i:Int))])) p3 (.lst [V.ref p1,V.ref p2])) p3=some (.lst [V.ref p1,V.ref p2]):=aw;have S:=(S1.trans S2).trans S3;have n3:p3≠l:=((b6.same S1).same S2).ne h3;generalize ao (ao (ao H6 p1 (.tup [V.int (0+(i:Int)),V.int (0+(i:Int)+1)])) p2 (.tup [V.int (0+(i:Int)+1),V.int (0+(i:Int))])) p3 (.lst [V.ref p1,V.ref p2])=H7 at *;refine (b6.same S).draw ⇑0 ⇑0 λr1 H8 r10 r11 e8 b8=>?_;have pick:∃ u q,atI [V.ref p1,V.ref p2] r1=some (.ref u)/\H7 u=some (.tup [.int q.1,.int q.2])/\eV (i+1+1) (ps++[q]):=by
     have:r1=0\/r1=1:=by exact oz68 r10 r11
     rcases this with rfl|rfl
     .exact aM p1 (0+(i:Int),0+(i:Int)+1) ⟨dH ⇑0 rfl,q1,rd.add (.inl (by rw[jf,show ps.length=i by exact oz52 hpl]))⟩
     .exact aM p2 (0+(i:Int)+1,0+(i:Int)) ⟨dH ⇑0 rfl,q2,rd.add (.inr (by rw[jf,show ps.length=i by exact oz52 hpl]))⟩
    refine cy pick λu q hu hq rd'=>?_;clear pick;have ha8:=e8 _ _ nal (S _ _ ha6);have pr8:=(px.same S).bag (b6.same S) e8;have nul:u≠l:=λz=>by obtain⟨x,y,hb',_⟩:=b6.same S;rw[z,hb'] at hq;cases hq
    exact aM _ r1 ⟨rfl,aj.of (e8 _ _ n3 q3),_,hu,xs,ha8,cS (oz113 hal i8),((e6.trans S.ext).trans e8).upd fpa,b8.new nal,xs++[.ref u],aw,by rw[bw,hal];rfl,ps++[q],(pr8.add (e8 _ _ nul hq)).put ha8,rd'⟩
   .intro σ H6 e92;refine cD e92 λxs ps v e99 e6 b6 e910=>?_;clear e92;obtain rfl:=e99;refine cG e910 λha6 hal px rd=>?_;clear e910;walk_at "wp";have hm:((m:Int)-1).toNat+1=m:=by exact oz125 m1
    refine⟨⇑0,λt ht=>?_⟩;rw[hm] at rd;have s7:=aa.new (o:=.tup [V.int m,V.ref pa]) ht;exact q t pa m xs ps _ (e6.trans s7.ext) (b6.same s7) (e6.free (b6.ne ht) ht) aw fpa (s7 _ _ ha6) (px.same s7) rd m8
  walk_at "wp";refine b1.draw ⇑0 ⇑0 λt H2 t0 t1 e2 b2=>⟨rfl,bA (λ_=>aft 8 H2 ⇑0 ⇑0 (e1.trans e2) b2) (λ_=>?_)⟩
  have:=aft (1+r).toNat H2 ∅ ∅ (e1.trans e2) b2;rw[gz ∅] at this;exact this
theorem GA {X:Cx}(K:Frag)(hK:X.K=K)(hc:X.calm=true):gJ X (.builtin "sum") (λxs H Q=>∃ (p:Addr) (ns:List Int),xs=[.ref p]/\aj K H p (ns.map V.int)/\Q (.int (preSum (λi=>ns.getD i 0) ns.length)) H):=hK ▸ y2 hc
theorem tX {α:Type}{xs ys:List α}{d:α}{j:Nat}(h:j<xs.length):(xs++ys).getD j d=xs.getD j d:=by rw[aT,eE h,<- aT]
theorem vR {α:Type}{xs:List α}{y d:α}{j:Nat}(h:j=xs.length):(xs++[y]).getD j d=y:=by rw[aT,h,d_ (aI _),rZ];rfl
theorem lO {p:Int}(hp:af p):dj p 1=(1,1):=by
 unfold dj;rcases hp with rfl|⟨h,_⟩
 .rfl
 .rw [if_neg ∅,mL ⇑0 h]
structure fA (H0 H:Hp)(p:Int)(z l:Addr)(ts:List Addr)(ns:List Int)(ps:List (Int×Int))(RS:List (List Addr))(Ms:List Mv):Prop where
 lst:H l=some (.lst (ts.map V.ref))
 len:ts.length=ps.length
 tab:∀ (i:Nat) t q,ts[i]?=some t->ps[i]?=some q->∃ r,bM H p 60 (nz ns q.2) (nz ns q.1) t r (RS.getD i []) (Ms.getD i [])/\jY H0 t r (RS.getD i [])/\Ms.getD i []=List.replicate (nz ns q.2) (List.replicate (nz ns q.1) (1,1))/\∀ (j:Nat) c,c∈RS.getD j []->r≠c
 own:∀ (j:Nat) c,c∈RS.getD j []->c≠z/\c≠l
 sep:∀ (i j:Nat) a,a∈RS.getD i []->a∈RS.getD j []->i=j
theorem fA.same {H0 H H':Hp}{p:Int}{z l:Addr}{ts:List Addr}{ns:List Int}{ps:List (Int×Int)}{RS:List (List Addr)}{Ms:List Mv}(h:fA H0 H p z l ts ns ps RS Ms)(s:aa H H'):fA H0 H' p z l ts ns ps RS Ms:=⟨s _ _ h.lst,h.len,λi t q e1 e2=>let ⟨r,a,b⟩:=h.tab i t q e1 e2;⟨r,a.same s,b⟩,h.own,h.sep⟩
def spBar:L2.Sp:=λvs H Q _=>∃ (a:Addr) (p:Int) (m fi la:Nat) (xs:List V) (ps:List (Int×Int)),vs=[.int p,.int m,.ref a,.int fi,.int la]/\af p/\H a=some (.lst xs)/\cK H xs ps/\eV m ps/\fi<=la/\la<m/\m<=8 /\
 ∀ (t z tl:Addr) (ts:List Addr) (RS:List (List Addr)) (Ms:List Mv) (H':Hp),aa H H'->H' t=some (.tup [.ref z,.ref tl])->H z=none->H' z=some (.lst ((bj m fi la).map V.int))->H tl=none->fA H H' p z tl ts (bj m fi la) ps RS Ms->Q (.ref t) H'
theorem pD (F:bc K "_law_bar" "_law_bar" zt f fd)(T:bp K mg C G S)(Yac:az P w K mg base "_law_int" 1 mn):ax P w K mg base aW 2 f fd ["_law_p","_law_many","_law_arrows","_law_first","_law_last"] spBar:=by
 have nd:=Eb.nd;refine F.ok Eb (λvs H Q E h=>?_) (λcdv A outer s H vs Q E hr h=>?_)
 .refine tQ h λa p m fi la xs ps e911 _=>?_;clear h;obtain rfl:=e911;rfl
 .refine qV h λa p m fi la xs ps e912 hp ha e913=>?_;clear h;obtain rfl:=e912;refine gk e913 λpr rd h1 h2 h8 q=>?_;clear e913;refine⟨_,((my (i:=5) (own:=["_law_k"]) (fr:=[("_law_first",3),("_law_last",4)]) rfl (c4 (by kernel_rfl)) (fj rfl T.n_range ((pv 1)<&>ah)) (λ_ _ _ _=>⟨(0<<<["_law_k","_law_first","_law_last"]),dz,(jv zD rfl T.n_int boot_int ((y8 nj nj (pv 1) (pv 0) (pv 2))<&>ah))⟩) nd rfl rfl rfl)<*>((6|||nd|||(@cU _ _ _ _ ah))<*>((dw cW rfl (eM (pv 2)) (@dJ _ _ _ _ _ 2 rfl ((7>>>nd)^^^((8>>>nd)^^^(@cT _))) ⇑1 ⇑1) ((hV (i:=9) nd rfl (Or.inr rfl) (t_<|>(@cU _ _ _ _ ((Yac<$>hr<$>((ae 0)<&>(aq<&>ah)))<&>ah))<&&>((ixJ aV)<|>(ae 5)<||>(ae 7))))<*>(@bE _ _ _ (gp (fN f_ gC gB (mtJ fW) (ae 6) ((@cb _ _ _ _ _ (((ixJ aV)<|>(ae 5)<||>(ae 8))<&>(((ixJ aV)<|>(ae 5)<||>(ae 7))<&>((eL (own:=["_law_k"]) (fr:=[("_law_row",9)]) rfl (c4 (by kernel_rfl)) (fj rfl T.n_range ((aV<|>(pv 5)<||>(pv 8))<&>ah)) (λ_ _ _ _=>⟨(0<<<["_law_k","_law_row"]),dz,(jv (Ak K rfl) rfl T.n_list iP ((pv 1)<&>ah))⟩))<&>ah))))<&>ah))))))<*>(~~~(@cb _ _ _ _ _ ((ae 5)<&>((ae 6)<&>ah))))))),?_⟩;refine bD λX hX=>?_;walk_at "wp";refine⟨_,rfl,m,rfl,∅,∅,λD hD=>?_⟩;refine zF (n:=m) (λi _ y=>y=.int (if fi<=i/\i<=la then 1 else 0)) (λr _=>r) (λr _=>r) hD ∅ (λi H1 Q1 hi s1 _ q1=>?_) (λys H1 s1 hD1 yl hys=>?_)
  .walk_at "wp";refine⟨_,rfl,_,rfl,?_⟩;rw[jf];refine bA (λc1=>⟨_,rfl,_,rfl,?_⟩) (λc1=>?_)
   .have c1:=dB c1;have:=q1 (V.int (if decide ((i:Int)<=la)=true then 1 else 0)) H1 (aa.refl _);refine this ?_;by_cases c2:i<=la
    .rw [if_pos (bR ∅),if_pos ⟨∅,c2⟩]
    .rw [if_neg (λz=>c2 (by have:=dB z;omega)),if_neg (λz=>c2 z.2)]
   .refine q1 _ H1 (aa.refl _) ?_;rw[if_neg (λz=>c1 (bR ∅))]
  .obtain rfl:=ui yl hys;clear hys yl;change H1 D=some (.lst ((bj m fi la).map V.int)) at hD1;have hbl:(bj m fi la).length=m:=by unfold bj;rw[aA,ef]
   have hb1:∀ n∈bj m fi la,0<=n/\n<=1:=λn hn=>by
    refine ar (cw.mp hn) λk _ e914=>?_;obtain rfl:=e914;split <;> exact⟨⇑0,⇑0⟩
   generalize hns:bj m fi la=ns at *;have h01:=pV hp;subst hX;refine bD λX hX=>?_;walk_at "wp";refine⟨eB _,λtb htb=>?_⟩;have nDt:D≠tb:=cc hD1 htb;have ftb:H tb=none:=s1.free htb;have s2:=s1.trans (aa.new (o:=.lst []) htb);have hD2:=(aa.new (o:=.lst []) htb) _ _ hD1;have q2:(ao H1 tb (.lst [])) tb=some (.lst []):=aw;generalize ao H1 tb (.lst [])=H2 at *;subst hX;refine bD λX hX=>?_;refine⟨_,rfl,a,rfl,⟨_,aj.of (s2 _ _ ha)⟩,qt (xs:=xs) (λi σ H3=>∃ (v7 v8 v9:Option V) (ts:List Addr) (RS:List (List Addr)) (Ms:List Mv),σ=[some (.int p),some (.int m),some (.ref a),some (.int fi),some (.int la),some (.ref D),some (.ref tb),v7,v8,v9]/\aa H H3/\H3 D=some (.lst (ns.map V.int))/\H3 tb=some (.lst (ts.map V.ref))/\ts.length=i/\RS.length=i/\Ms.length=i/\(∀ (j:Nat) t q,ts[j]?=some t->ps[j]?=some q->∃ r,bM H3 p 60 (nz ns q.2) (nz ns q.1) t r (RS.getD j []) (Ms.getD j [])/\jY H t r (RS.getD j [])/\r≠tb/\tb∉RS.getD j []/\Ms.getD j []=List.replicate (nz ns q.2) (List.replicate (nz ns q.1) (1,1))/\∀ (j:Nat) c,c∈RS.getD j []->r≠c)/\(∀ (j:Nat) c,c∈RS.getD j []->c≠D/\c≠tb)/\∀ (i j:Nat) a,a∈RS.getD i []->a∈RS.getD j []->i=j)
    ⟨none,none,none,[],[],[],rfl,s2,hD2,q2,rfl,rfl,rfl,λj t q e=>by simp at e,λj c e=>by simp at e,λi j a e=>by simp at e⟩ (λi σ H3 _ ⟨_,_,_,_,_,_,_,s3,_⟩=>aj.of (s3 _ _ ha)) ?_ ?_⟩
   .intro i x σ H3 hx e93;refine tO e93 λv7 v8 v9 ts RS Ms e915 s3 hD3 e916=>?_;clear e93;obtain rfl:=e915;refine qU e916 λht3 tl rl ml tab own sep=>?_;clear e916;refine gG λD2 hDD=>?_;have hi:i<ps.length:=by have:=pr.1;have:=(cj.mp hx).1;omega
    have hq:ps[i]?=some ps[i]:=aF hi;refine ar ((pr.same s3).2 i x _ hx hq) λta e917 hta=>?_;obtain rfl:=e917;have ip:iA (ns.length:Int) ps:=λq hqm=>by
     obtain⟨t,e⟩:=su.mp hqm;have ht:=(cj.mp e).1;have:=rd.1;rcases rd.2 t q e with rfl|rfl <;> exact⟨∅,∅,∅,∅⟩
    refine cG (ip _ (aY hq)) λi0 i1 j0 j1=>?_;have a1:=jy (ns:=ns) i0 ∅;have a2:=jy (ns:=ns) j0 ∅;have c1:=hb1 (ns.getD ps[i].1.toNat 0) (cq (oz67 h2 hbl i1));have c2:=hb1 (ns.getD ps[i].2.toNat 0) (cq (oz67 h2 hbl j1));simp only[ju,iG,mi,cg,List.set_cons_zero,List.set_cons_succ];refine aM ta _ ⟨rfl,aB.of hta,rfl,_,_,rfl,_,_,rfl,rfl,?_⟩;refine bD λX2 hX2=>?_;walk_at "wp";refine aM p 1 ⟨rfl,hp,λva H4 s4 na=>⟨⇑0,λp0 hp0=>?_⟩⟩;rw[lO hp] at na;have s5:=aa.new (o:=.lst [va]) hp0;have q5:(ao H4 p0 (.lst [va])) p0=some (.lst [va]):=aw;have na5:=na.same s5;generalize ao H4 p0 (.lst [va])=H5 at *;have hD5:=(s4.trans s5) _ _ hD3;refine⟨_,aj.of hD5,_,a1,p0,_,_,rfl,rfl,q5,∅,∅,by show 1*_<=_;exact cx (show 1*_<=1000 by omega) ⇑0,λRw hRw=>?_⟩;rw[za];have s6:=aa.new (o:=.lst (List.replicate (ns.getD ps[i].1.toNat 0).toNat va)) hRw;have na6:=na5.same s6;have q6:(ao H5 Rw (.lst (List.replicate (ns.getD ps[i].1.toNat 0).toNat va))) Rw=some (.lst (List.replicate (ns.getD ps[i].1.toNat 0).toNat va)):=aw;generalize ao H5 Rw (.lst (List.replicate (ns.getD ps[i].1.toNat 0).toNat va))=H6 at *;have s36:=(s4.trans s5).trans s6;have hD6:=s6 _ _ hD5;have ht6:=s36 _ _ ht3;clear q5 hD5 na na5 s4 s5 s6 hRw hp0;subst hX2;walk_at "wp";have nDl:=hD6;refine⟨.inl ⟨rfl,_,aj.of ht6⟩,_,aj.of hD6,_,a2,_,aj.of hD6,_,a1,_,rfl,_,rfl,_,_,_,_,rfl,rfl,aj.of hD6,a2,_,rfl,∅,∅,λD3 hD3'=>?_⟩;refine zF (n:=(ns.getD ps[i].2.toNat 0).toNat) (λ_ Hc y=>∃ c,y=.ref c/\bf Hc p c (List.replicate (ns.getD ps[i].1.toNat 0).toNat (1,1))/\c≠D3/\H6 c=none) (λ⟨c,e,r,n⟩ s=>⟨c,e,r.same s,n⟩) (λ⟨c,e,r,n1,n2⟩ hD=>⟨c,e,r.put hD n1,n1,n2⟩) hD3' ∅ (λk H7 Q7 hk s7 ⟨lD,hlD⟩ q7=>?_) (λys H7 s7 hD7 yl hys=>?_)
    .simp only [cH];walk_at "wp";refine⟨_,rfl,Rw,rfl,_,.inl (aj.of (s7 _ _ q6)),λc hc=>q7 (.ref c) _ (aa.new hc) ⟨c,rfl,⟨_,aw,by rw[d0,d0],λk v x e1 e2=>?_⟩,(cc hlD hc).symm,s7.free hc⟩⟩;rw[(gw.mp (aY e2)).2,(gw.mp (aY e1)).2];exact (na6.same s7).same (aa.new hc)
    .refine ar (wm hys) λrs e918 hrs=>?_;obtain rfl:=e918;rw[aA] at yl;have nb3:D3≠tb:=(cc ht6 hD3').symm;refine⟨⇑0,λt ht=>?_⟩;have s8:=aa.new (o:=.tup [V.int (ns.getD ps[i].2.toNat 0),V.int (ns.getD ps[i].1.toNat 0),V.ref D3]) ht;have q8:(ao H7 t (.tup [V.int (ns.getD ps[i].2.toNat 0),V.int (ns.getD ps[i].1.toNat 0),V.ref D3])) t=some (.tup [V.int (ns.getD ps[i].2.toNat 0),V.int (ns.getD ps[i].1.toNat 0),V.ref D3]):=aw;generalize ao H7 t (.tup [V.int (ns.getD ps[i].2.toNat 0),V.int (ns.getD ps[i].1.toNat 0),V.ref D3])=H8 at *;have s68:=s7.trans s8;have ht8:=s68 _ _ ht6;have s38:=s36.trans s68;have f3:∀ c∈rs,c≠D3/\H6 c=none:=λc hc=>by
      obtain⟨k,e⟩:=su.mp hc;refine bQ (hrs k c e) λ_ b d=>?_;exact⟨b,d⟩
     have nin:D3∉rs:=λz=>(f3 _ z).1 rfl;have ntb:tb∉rs:=λz=>by have:=(f3 _ z).2;rw[ht6] at this;cases this
     have nw:jY H t D3 rs:=⟨((s3.trans s36).trans s7).free ht,(s3.trans s36).free hD3',λc hc=>(s3.trans s36).free (f3 c hc).2⟩
     have tbn:bM H8 p 60 (nz ns ps[i].2) (nz ns ps[i].1) t D3 rs (List.replicate (nz ns ps[i].2) (List.replicate (nz ns ps[i].1) (1,1))):=by
      refine⟨⟨?_,s8 _ _ hD7,⟨by rw[d0];exact yl,λk c x e1 e2=>?_⟩,nin⟩,d0,λxs hx=>?_,λxs hx x hxx=>?_⟩
      .rw [q8];show some (HO.tup [V.int (ns.getD ps[i].2.toNat 0),V.int (ns.getD ps[i].1.toNat 0),V.ref D3])=some (.tup [V.int ((ns.getD ps[i].2.toNat 0).toNat:Nat),V.int ((ns.getD ps[i].1.toNat 0).toNat:Nat),V.ref D3]);rw[gz c1.1,gz c2.1]
      .rw [(gw.mp (aY e2)).2];exact (hrs k c e1).1.same s8
      .rw [(gw.mp hx).2,d0]
      .rw [(gw.mp hx).2] at hxx;rw[(gw.mp hxx).2];exact⟨h01.2,dc ⇑0 ⇑0,dc ⇑0 ⇑0⟩
     have old:∀ (j:Nat) c,c∈RS.getD j []->H6 c≠none:=λj c hc=>by
      have hj:j<RS.length:=by
       by_cases z:j<RS.length
       .exact z
       .rw [aT,cZ (c8 z)] at hc;cases hc
      refine ar (tab j _ _ (aF (show j<ts.length by exact oz35 tl rl hj)) (aF (show j<ps.length by exact oz105 rl hi hj))) λr tbo _=>?_;obtain⟨k,e⟩:=su.mp hc;have hk:=(cj.mp e).1;have hM:=tbo.tv.row.1;refine ar (tbo.tv.row.2 k c _ e (aF (show k<(Ms.getD j []).length by exact oz40 hk hM))) λvs e' _=>?_;rw[s36 _ _ e'];intro z;cases z
     have cs:∀ (c:Addr) j,c∈(RS++[rs]).getD j []->(j<i/\c∈RS.getD j [])\/(j=i/\c∈rs):=λc j h=>by
      by_cases hj:j<RS.length
      .rw [aT,eE hj,<- aT] at h;exact .inl ⟨b_ rl hj,h⟩
      .rw [aT,d_ (c8 hj)] at h;cases hz:j-RS.length with
       | zero=>rw[hz] at h;exact .inr ⟨oz3 rl hj hz,h⟩
       | succ n=>rw[hz] at h;cases h
     subst hDD;refine⟨_,ht8,cS (by have:=rd.1;rw[aA];exact oz102 h8 tl hi this),_,_,_,ts++[t],RS++[rs],Ms++[List.replicate (nz ns ps[i].2) (List.replicate (nz ns ps[i].1) (1,1))],rfl,(s3.trans s38).upd ftb,by rw[aJ nDt];exact s38 _ _ hD3,by rw[aw,mC],by rw[bw,tl];rfl,by rw[bw,rl];rfl,by rw[bw,ml];rfl,λj t' q' f1 f2=>?_,λj c hc=>?_,λi' j' c h1 h2=>?_⟩
     .by_cases hj:j<ts.length
      .rw [eE hj] at f1;refine vG (tab j t' q' f1 f2) λr tb' nw' n1 n2 e nc=>?_;rw[tX (show j<RS.length by exact oz18 tl rl hj),tX (show j<Ms.length by exact oz18 tl ml hj)];exact⟨r,(tb'.same s38).put ht8 n1 n2,nw',n1,n2,e,λj' c hc=>by
        rcases cs c j' hc with ⟨_,a⟩|⟨_,a⟩
        .exact nc j' c a
        .intro z;have h1:=(f3 c a).2;rw[<- z,s36 _ _ tb'.tv.lst] at h1;cases h1⟩
      .have hjl:=(cj.mp f1).1;rw[bw,xC] at hjl;obtain rfl:j=i:=by exact oz10 tl hj hjl
       rw[d_ (c8 hj),tl,rZ] at f1;cases f1;rw[hq] at f2;cases f2;rw[vR rl.symm,vR ml.symm];exact⟨D3,tbn.put ht8 nb3 ntb,nw,nb3,ntb,rfl,λj' c hc=>by
        rcases cs c j' hc with ⟨_,a⟩|⟨_,a⟩
        .exact λz=>old j' c a (z ▸ hD3')
        .exact λz=>(f3 c a).1 z.symm⟩
     .rcases cs c j hc with ⟨_,a⟩|⟨_,a⟩
      .exact own j c a
      .exact ⟨λz=>(by have:=(f3 c a).2;rw[z,hD6] at this;cases this),λz=>ntb (z ▸ a)⟩
     .rcases cs c i' h1 with ⟨_,a⟩|⟨a1,a⟩ <;> rcases cs c j' h2 with ⟨_,b⟩|⟨b1,b⟩
      .exact sep i' j' c a b
      .exact absurd (f3 c b).2 (old i' c a)
      .exact absurd (f3 c a).2 (old j' c b)
      .exact oz20 a1 b1
   .intro σ H3 e94;refine tO e94 λv7 v8 v9 ts RS Ms e919 s3 hD3 e920=>?_;clear e94;obtain rfl:=e919;refine qU e920 λht3 tl rl ml tab own sep=>?_;clear e920;subst hX;walk_at "wp";refine⟨⇑0,λt ht=>?_⟩;have s4:=aa.new (o:=.tup [V.ref D,V.ref tb]) ht;exact q t D tb ts RS Ms _ (s3.trans s4) aw hD (s4 _ _ hD3) ftb ⟨s4 _ _ ht3,by have:=pr.1;exact oz31 tl this,λi t q e1 e2=>let ⟨r,a,b,_,_,c⟩:=tab i t q e1 e2;⟨r,a.same s4,b,c⟩,own,sep⟩
def jt (w:Nat)(M:Mv):Mv:=M.map (λr=>r++List.replicate w (0,1))++M.map (λr=>List.replicate w (0,1)++r)
def cR (ns:List Int):List Int:=ns.map λn=>n+n
theorem l8 {xs:List Int}{n:Nat}(h:xs.length=n):(List.range n).map (λi=>xs.getD i 0)=xs:=by
 apply xE;intro i;rw[bH];by_cases hi:i<n
 .rw [j9 hi,aF (cM h hi)];show some (xs.getD i 0)=_;rw[aT,aF (cM h hi)];rfl
 .rw [cZ (by rw[ef];exact c8 hi),cZ ∅];rfl
theorem qZ (ns:List Int)(i:Nat):(cR ns).getD i 0=ns.getD i 0+ns.getD i 0:=by
 unfold cR;rw[aT,aT,bH];cases ns[i]? <;> rfl
def fK (w k:Nat)(r:List Nv):List Nv:=List.replicate (k*w) (0,1)++r++List.replicate ((1-k)*w) (0,1)
def prt (w:Nat)(M:Mv)(k:Nat):Mv:=(List.range k).flatMap λk=>M.map (fK w k)
theorem wD (w:Nat)(M:Mv)(k:Nat):prt w M (k+1)=prt w M k++M.map (fK w k):=by
 unfold prt;rw[jh,AX];simp
theorem Ct (w:Nat)(M:Mv):∀ k,(prt w M k).length=k*M.length
 | 0=>by rw[uT];rfl
 | k+1=>by rw[wD,bw,Ct w M k,aA,jZ]
theorem kA (w:Nat)(M:Mv):prt w M 2=jt w M:=by
 rw[wD,wD];show []++M.map (fK w 0)++M.map (fK w 1)=_;unfold jt;rw[List.nil_append];congr 1
 .refine ig (λf=>M.map f) (funext λr=>?_);unfold fK;simp
 .refine ig (λf=>M.map f) (funext λr=>?_);unfold fK;simp
theorem tx {w:Nat}{M:Mv}(h:∀ xs∈M,xs.length=w):∀ xs∈jt w M,xs.length=w+w:=λxs hx=>by
 rcases cf.mp hx with hx|hx
 .refine ar (cw.mp hx) λr hr e97=>?_;obtain rfl:=e97;rw[bw,d0,h r hr]
 .refine ar (cw.mp hx) λr hr e98=>?_;obtain rfl:=e98;rw[bw,d0,h r hr]
theorem tD {p:Int}{w:Nat}{M:Mv}(hp:af p)(h:∀ xs∈M,cN p 60 xs):∀ xs∈jt w M,cN p 60 xs:=λxs hx x hxx=>by
 have g0:aZ p (0,1)/\ck 60 ((0,1):Nv):=⟨jB hp,dc ⇑0 ⇑0,dc ⇑0 ⇑0⟩
 rcases cf.mp hx with hx|hx
 .refine ar (cw.mp hx) λr hr e99=>?_;obtain rfl:=e99;rcases cf.mp hxx with hy|hy
  .exact h r hr x hy
  .rw [(gw.mp hy).2];exact g0
 .refine ar (cw.mp hx) λr hr e910=>?_;obtain rfl:=e910;rcases cf.mp hxx with hy|hy
  .rw [(gw.mp hy).2];exact g0
  .exact h r hr x hy
theorem zrow {p kk:Int}{n:Nat}{H:Hp}{Q:VK}(hp:af p)(hk:kk=(n:Int))(hn:n<=100)(q:∀ (R:Addr) (vs:List V) (H':Hp),aa H H'->H R=none->H' R=some (.lst vs)->vs.length=n->(∀ v∈vs,aE H' p v (0,1))->Q (.ref R) H'):mn [.int p,.int 0] H (λx H1=>1<=sizeLine/\∀ p1,H1 p1=none->rRep (.ref p1) (.int kk) (ao H1 p1 (.lst [x])) Q) E0:=
 ⟨p,0,rfl,hp,λv H1 s1 nv=>⟨⇑0,λp1 h1=>⟨p1,kk,_,rfl,rfl,aw,∅,∅,by rw[hk,d5];show 1*n<=_;exact cx (show 1*n<=100 by omega) ⇑0,λR hR=>by
  rw[za,hk,d5];rw[wQ] at nv;have s2:=(aa.new (o:=.lst [v]) h1).trans (aa.new (o:=.lst (List.replicate n v)) hR);refine q R (List.replicate n v) _ (s1.trans s2) ((s1.trans (aa.new h1)).free hR) aw d0 λx hx=>?_;rw[(gw.mp hx).2];exact nv.same s2⟩⟩⟩
theorem CP {α β:Type}{R:α->β->Prop}{xs:List α}{n:Nat}{y:β}(hl:xs.length=n)(h:∀ x∈xs,R x y):ay R xs (List.replicate n y):=⟨by rw[hl,d0],λi x y' e1 e2=>by
 rw[(gw.mp (aY e2)).2];exact h x (aY e1)⟩
def spSid:L2.Sp:=λvs H Q _=>∃ (a sl st z tl:Addr) (p m:Int) (xs:List V) (ps:List (Int×Int)) (ns:List Int) (ts:List Addr) (Ms:List Mv),vs=[.int p,.ref a,.int m,.ref sl]/\af p/\H a=some (.lst xs)/\cK H xs ps/\iA m ps/\ps.length<=9/\(ns.length:Int)=m/\m<=8/\(∀ n∈ns,0<=n/\n<=2)/\H sl=some (.lst [.ref st,.ref st])/\H st=some (.tup [.ref z,.ref tl])/\H z=some (.lst (ns.map V.int))/\iN H p 60 tl ts ps ns Ms /\
 ∀ (t z' tl':Addr) (ts':List Addr) (Ms':List Mv) (H':Hp),aa H H'->H' t=some (.tup [.ref z',.ref tl'])->H' z'=some (.lst ((cR ns).map V.int))->iN H' p 60 tl' ts' ps (cR ns) Ms'->(∀ (i:Nat) q,ps[i]?=some q->Ms'.getD i []=jt (nz ns q.1) (Ms.getD i []))->Q (.ref t) H'
theorem o5 (F:bc K "_law_sided" "_law_sided" Aa f fd)(T:bp K mg C G S)(Yac:az P w K mg base "_law_int" 1 mn):ax P w K mg base aW 2 f fd ["_law_p","_law_arrows","_law_many","_law_standings"] spSid:=by
 have nd:=Ep.nd;refine F.ok Ep (λvs H Q E h=>?_) (λcdv A outer s H vs Q E hr h=>?_)
 .refine ot h λa sl st z tl p m xs ps ns ts Ms e911 _=>?_;clear h;obtain rfl:=e911;rfl
 .refine oq h λa sl st z tl p m xs ps ns ts Ms e912 hp ha e913=>?_;clear h;obtain rfl:=e912;refine oA e913 λpr ip p9 hm m8 hn hsl hst hz tb q=>?_;clear e913;refine⟨_,((my (i:=4) (own:=["_law_k"]) (fr:=[("_law_standings",3)]) rfl (c4 (by kernel_rfl)) (fj rfl T.n_range ((pv 2)<&>ah)) (λ_ _ _ _=>⟨(@qA _ _ 0 _ (show (["_law_k","_law_standings"]:List Str).Nodup by decide +kernel) rfl (Or.inr rfl) (Or.inl rfl)),dz,(bS (GA K rfl rfl) rfl T.n_sum boot_sum ((eL (own:=["_law_one"]) (fr:=[("_law_k",0)]) rfl (c4 (by kernel_rfl)) (Dv K rfl (pv 1)) (λ_ _ _ _=>⟨(0<<<["_law_one","_law_k"]),dz,((ja K rfl)<|>((nH K rfl)<|>(pv 0)<||>aq)<||>(pv 1))⟩))<&>ah))⟩) nd rfl rfl rfl)<*>((5|||nd|||(@cU _ _ _ _ ah))<*>((dw cW rfl (rf rfl T.n_enumerate ((pv 1)<&>ah)) (@dJ _ _ _ _ _ 2 rfl ((6>>>nd)^^^((@dJ _ _ _ _ _ 2 rfl ((7>>>nd)^^^((8>>>nd)^^^(@cT _))) ⇑1 ⇑1)^^^(@cT _))) ⇑1 ⇑1) ((9|||nd|||(@cU _ _ _ _ ah))<*>((10|||nd|||aq)<*>((dw cW rfl (eM (pv 3)) (11>>>nd) ((12|||nd|||(fQ<|>(fQ<|>((ixJ aV)<|>(ae 4)<||>(ae 7))<&&>(ae 10))<&&>(aV<|>((cX bC)<|>(ae 11)<||>aq)<||>(ae 7))))<*>((dw cW rfl (eM (bC<|>(aV<|>(bC<|>(pv 11)<||>aq)<||>(pv 6))<||>aq)) (13>>>nd) (@bE _ _ _ (gp (fN f_ gC gB (mtJ fW) (ae 9) ((vZ<|>(vZ<|>(t_<|>(@cU _ _ _ _ ((Yac<$>hr<$>((ae 0)<&>(aq<&>ah)))<&>ah))<&&>(ae 10))<&&>(ae 13))<&&>(t_<|>(@cU _ _ _ _ ((Yac<$>hr<$>((ae 0)<&>(aq<&>ah)))<&>ah))<&&>(ae 12)))<&>ah)))))<*>(@bE _ _ _ (10|||nd|||(dI<|>(ae 10)<&&>(aV<|>((cX bC)<|>(ae 11)<||>aq)<||>(ae 7))))))))<*>(@bE _ _ _ (gp (fN f_ gC gB (mtJ fW) (ae 5) ((@cb _ _ _ _ _ (((ixJ aV)<|>(ae 4)<||>(ae 8))<&>(((ixJ aV)<|>(ae 4)<||>(ae 7))<&>((ae 9)<&>ah))))<&>ah))))))))<*>(~~~(@cb _ _ _ _ _ ((ae 4)<&>((ae 5)<&>ah))))))),?_⟩;refine bD λX hX=>?_;walk_at "wp";refine⟨_,rfl,m,rfl,∅,∅,λD hD=>?_⟩;refine zF (n:=m.toNat) (λi _ y=>y=.int ((cR ns).getD i 0)) (λr _=>r) (λr _=>r) hD ∅ (λi H1 Q1 hi s1 _ q1=>?_) (λys H1 s1 hD1 yl hys=>?_)
  .walk_at "wp";refine⟨_,rfl,sl,rfl,⟨_,aj.of (s1 _ _ hsl)⟩,λD2 hD2=>?_⟩;refine rG (λ_ _ y=>y=.int (ns.getD i 0)) (λr _=>r) (λr _=>r) (s1 _ _ hsl) hD2 (show 2<=1000 by decide) (λk x H2 Q2 hx s2 _ q2=>?_) (λys H2 s2 hD2' yl hys=>?_)
   .have hx:x=.ref st:=by
     rcases k with _|_|k
     .cases hx;rfl
     .cases hx;rfl
     .cases hx
    subst hx;simp only[cH];walk_at "wp";have hat:=jy (ns:=ns) (i:=0+(i:Int)) ∅ ∅;rw[show (0+(i:Int)).toNat=i by exact oz26] at hat;have s12:=s1.trans s2;exact⟨_,aB.of (s12 _ _ hst),_,rfl,_,rfl,z,rfl,_,_,rfl,aj.of (s12 _ _ hz),_,hat,q2 _ _ (aa.refl _) rfl⟩
   .obtain rfl:=ui (g:=λ_=>ns.getD i 0) yl hys;refine⟨D2,rfl,_,aj.of hD2',q1 _ _ s2 ?_⟩;rw[qZ];show V.int (0+ns.getD i 0+ns.getD i 0)=_;rw[jf]
  .obtain rfl:=ui yl hys;clear hys yl;rw[l8 (show (cR ns).length=m.toNat by unfold cR;rw[aA];exact oz59 hm)] at hD1;subst hX;refine bD λX hX=>?_;walk_at "wp";refine⟨eB _,λtb' htb=>?_⟩;have nDt:D≠tb':=cc hD1 htb;have ftb:H tb'=none:=s1.free htb;have s2:=s1.trans (aa.new (o:=.lst []) htb);have hD2:=(aa.new (o:=.lst []) htb) _ _ hD1;have q2:(ao H1 tb' (.lst [])) tb'=some (.lst []):=aw;generalize ao H1 tb' (.lst [])=H2 at *;clear hD s1 hD1 htb;subst hX;refine bD λX hX=>?_;refine⟨_,rfl,a,rfl,⟨_,aj.of (s2 _ _ ha)⟩,uh (xs:=xs) (λi σ H3=>∃ (v6 v7 v8 v9 v10 v11 v12 v13:Option V) (us:List Addr) (Ns:List Mv),σ=[some (.int p),some (.ref a),some (.int m),some (.ref sl),some (.ref D),some (.ref tb'),v6,v7,v8,v9,v10,v11,v12,v13]/\aa H H3/\H3 D=some (.lst ((cR ns).map V.int))/\H3 tb'=some (.lst (us.map V.ref))/\us.length=i/\Ns.length=i/\(∀ (j:Nat) t q,us[j]?=some t->ps[j]?=some q->∃ r rs,bM H3 p 60 (nz (cR ns) q.2) (nz (cR ns) q.1) t r rs (Ns.getD j [])/\r≠tb'/\tb'∉rs)/\∀ (j:Nat) q,j<i->ps[j]?=some q->Ns.getD j []=jt (nz ns q.1) (Ms.getD j []))
    ⟨none,none,none,none,none,none,none,none,[],[],rfl,s2,hD2,q2,rfl,rfl,λj t q e=>by simp at e,λj q h=>absurd h (sf j)⟩ (λi σ H3 _ ⟨_,_,_,_,_,_,_,_,_,_,_,s3,_⟩=>aj.of (s3 _ _ ha)) ?_ ?_⟩
   .intro i u pz σ H3 hu hpz e91;refine yr e91 λv6 v7 v8 v9 v10 v11 v12 v13 us Ns e914 s3 hD3 e915=>?_;clear e91;obtain rfl:=e914;refine cY e915 λht3 tl3 ml3 tab val=>?_;clear e915;refine gG λD9 hD9=>?_;have hi:i<ps.length:=by have:=pr.1;have:=(cj.mp hu).1;omega
    have hq:ps[i]?=some ps[i]:=aF hi;refine ar ((pr.same s3).2 i u _ hu hq) λta e916 hta=>?_;obtain rfl:=e916;have s4:=s3.trans (aa.new (o:=.tup [V.int i,V.ref ta]) hpz);have s34:=aa.new (o:=.tup [V.int i,V.ref ta]) hpz;have e3:ao H3 pz (.tup [V.int i,V.ref ta]) pz=some (.tup [V.int i,V.ref ta]):=aw;generalize ao H3 pz (.tup [V.int i,V.ref ta])=H4 at *;refine cG (ip _ (aY hq)) λi0 i1 j0 j1=>?_;simp only[ju,iG,mi,cg,List.set_cons_zero,List.set_cons_succ];refine aM pz _ ⟨rfl,aB.of e3,rfl,_,_,rfl,_,_,rfl,ta,_,rfl,aB.of (s34 _ _ hta),rfl,_,_,rfl,_,_,rfl,rfl,rfl,?_⟩;refine bD λX2 hX2=>?_;walk_at "wp";refine⟨eB _,λR9 hR9=>?_⟩;have s5:=aa.new (o:=.lst []) hR9;have n9t:tb'≠R9:=cc (s34 _ _ ht3) hR9;have mr5:bZ H4 (ao H4 R9 (.lst [])) p R9 [] (prt (ns.getD ps[i].1.toNat 0).toNat (Ms.getD i []) 0):=⟨aw,ay.nil,by simp,by simp⟩
    generalize ao H4 R9 (.lst [])=H5 at *;obtain⟨r0,rs0,tbM⟩:=tb.2.2 i _ _ (aF (show i<ts.length by have:=tb.2.1;exact c3 hi this)) hq;have a1:=jy (ns:=ns) i0 (oz90 hm i1);have d1:=jy (ns:=cR ns) i0 (by unfold cR;rw[aA];exact oz90 hm i1);have d2:=jy (ns:=cR ns) j0 (by unfold cR;rw[aA];exact oz90 hm j1);rw[qZ] at d1 d2;have c1:=hn (ns.getD ps[i].1.toNat 0) (cq (oz38 hm i0 i1));have c2:=hn (ns.getD ps[i].2.toNat 0) (cq (oz38 hm j0 j1));have s05:=s4.trans s5;subst hX2;refine mf λX2 hX2=>?_;refine⟨_,rfl,sl,rfl,⟨_,aj.of (s05 _ _ hsl)⟩,qt (xs:=[V.ref st,V.ref st]) (λk σ H6=>∃ (v11 v12 v13:Option V) (rs:List Addr),σ=[some (.int p),some (.ref a),some (.int m),some (.ref sl),some (.ref D),some (.ref tb'),some (.int i),some (.int ps[i].1),some (.int ps[i].2),some (.ref R9),some (.int (k*ns.getD ps[i].1.toNat 0)),v11,v12,v13]/\aa H4 H6/\bZ H4 H6 p R9 rs (prt (ns.getD ps[i].1.toNat 0).toNat (Ms.getD i []) k)) ⟨v11,v12,v13,[],by simp,s5,mr5⟩ (λk σ H6 _ ⟨_,_,_,_,_,s6,_⟩=>aj.of ((s4.trans s6) _ _ hsl)) ?_ ?_⟩
    .intro k x σ H6 hx e92;refine jw e92 λv11 v12 v13 rs e917 s6 mr6=>?_;clear e92;obtain rfl:=e917;refine gG λD8 hD8=>?_;have hk:k<2:=(cj.mp hx).1;have hx:x=.ref st:=by
      rcases k with _|_|k
      .cases hx;rfl
      .cases hx;rfl
      .cases hx
     subst hx;simp only[cg,List.set_cons_zero,List.set_cons_succ];refine mf λX3 hX3=>?_;walk_at "wp";have s46:=s4.trans s6;have hDD:H6 D=some (.lst ((cR ns).map V.int)):=(s34.trans s6) _ _ hD3;have tl6:=s46 _ _ tb.1;have tM6:=tbM.same s46;refine⟨_,aj.of hDD,_,d1,_,rfl,_,aB.of (s46 _ _ hst),_,rfl,z,rfl,_,aj.of (s46 _ _ hz),_,a1,_,rfl,?_⟩;generalize hbh:ns.getD ps[i].1.toNat 0+ns.getD ps[i].1.toNat 0-(k:Int)*ns.getD ps[i].1.toNat 0-ns.getD ps[i].1.toNat 0=bh;have hti:=aF (show i<ts.length by have:=tb.2.1;exact c3 hi this);refine⟨_,rfl,st,_,1,_,rfl,rfl,aB.of (s46 _ _ hst),rfl,_,rfl,tl,_,i,_,rfl,rfl,aj.of tl6,dH i4 (by rw[d5,bH,hti];rfl),_,_,2,_,rfl,rfl,aB.of tM6.tv.tup,rfl,r0,rfl,⟨_,aj.of tM6.tv.lst⟩,qt (xs:=rs0.map V.ref) (λx σ H7=>∃ (v13:Option V) (rs:List Addr),σ=[some (.int p),some (.ref a),some (.int m),some (.ref sl),some (.ref D),some (.ref tb'),some (.int i),some (.int ps[i].1),some (.int ps[i].2),some (.ref R9),some (.int (k*ns.getD ps[i].1.toNat 0)),some (.ref st),some (.int bh),v13]/\aa H4 H7/\bZ H4 H7 p R9 rs (prt (ns.getD ps[i].1.toNat 0).toNat (Ms.getD i []) k++((Ms.getD i []).take x).map (fK (ns.getD ps[i].1.toNat 0).toNat k))) ⟨v13,rs,rfl,s6,by rw[List.take_zero,List.map_nil,nT];exact mr6⟩ (λx σ H7 _ ⟨_,_,_,s7,_⟩=>aj.of ((s4.trans s7) _ _ tbM.tv.lst)) ?_ ?_⟩
     .intro x y σ H7 hy e93;refine cy e93 λv13 rs7 e918 s7 mr7=>?_;clear e93;obtain rfl:=e918;refine gG λD7 hD7=>?_;simp only[cg,List.set_cons_zero,List.set_cons_succ];have hx0:x<rs0.length:=by have:=(cj.mp hy).1;rw[aA] at this;exact this
      have hrl:=tbM.tv.row.1;rw[bH,aF hx0] at hy;cases hy;have hMx:(Ms.getD i [])[x]?=some ((Ms.getD i [])[x]'(oz40 hx0 hrl)):=aF (oz40 hx0 hrl);refine ar (tbM.tv.row.2 x _ _ (aF hx0) hMx) λvs hvs nv=>?_;have hw:=tbM.hw _ (eO (show x<(Ms.getD i []).length by exact oz40 hx0 hrl));have hvl:vs.length=(ns.getD ps[i].1.toNat 0).toNat:=nv.1.trans hw;have hbn:bh=(((1-k)*(ns.getD ps[i].1.toNat 0).toNat:Nat):Int):=by
       rw[<- hbh];rcases k with _|_|k
       .show _=((1*_:Nat):Int);rw[mJ,gz c1.1];show _-(0:Int)*_-_=_;exact oz62
       .show _=((0*_:Nat):Int);rw[uT];show _-(1:Int)*_-_=_;exact oz75
       .omega
      have hkn:(k:Int)*ns.getD ps[i].1.toNat 0=((k*(ns.getD ps[i].1.toNat 0).toNat:Nat):Int):=by rw[j4,gz c1.1]
      have k4:k*(ns.getD ps[i].1.toNat 0).toNat<=2*2:=e_ (oz43 hk) (oz7 c1);have k5:(1-k)*(ns.getD ps[i].1.toNat 0).toNat<=2*2:=e_ oz60 (oz7 c1);walk_at "wp";refine⟨.inl ⟨rfl,_,aj.of mr7.1⟩,zrow hp hkn ∅ λR1 z1 H8 s8 f1 h1 l1 n1=>⟨R1,rfl,z1,h1,vs,((s4.trans s7).trans s8) _ _ hvs,?_,λR2 hR2=>zrow hp hbn ∅ λR3 z3 H9 s9 f3 h3 l3 n3=>⟨R3,rfl,_,s9 _ _ aw,z3,h3,?_,λR4 hR4=>?_⟩⟩⟩
      .exact cx (show z1.length+vs.length<=100 by exact oz24 hbh hvl hbn hkn k4 k5 l1) ⇑0
      .exact cx (show (z1++vs).length+z3.length<=100 by rw[bw];exact oz28 c1 hbh hvl hbn hkn l1 l3) ⇑0
      .have s10:=(s8.trans (aa.new (o:=.lst (z1++vs)) hR2)).trans s9;have s11:=s10.trans (aa.new (o:=.lst (z1++vs++z3)) hR4);have rv:bf (ao H9 R4 (.lst (z1++vs++z3))) p R4 (fK (ns.getD ps[i].1.toNat 0).toNat k (Ms.getD i [])[x]):=⟨_,aw,ay.app (ay.app (CP l1 λv hv=>(n1 v hv).same (((aa.new hR2).trans s9).trans (aa.new hR4))) (nv.mono λ_ _ z=>z.same ((s4.trans s7).trans s11))) (CP l3 λv hv=>(n3 v hv).same (aa.new hR4))⟩
       have mr8:=mr7.same s11;have f4:H4 R4=none:=(s7.trans s10).free hR4;subst hD7;refine⟨_,mr8.1,cS ?_,_,rs7++[R4],rfl,(s7.trans s11).upd hR9,?_⟩
       .rw [aA,mr7.2.1.1,bw,aA,ij,Ct];have:=tbM.hl;have:=c2.2;have:(Ms.getD i []).length<=2:=by rw[tbM.hl];show (ns.getD _ 0).toNat<=2;exact oz7 c2
        have:k*(Ms.getD i []).length<=2*2:=e_ (oz43 hk) this;omega
       .have:=mr8.add rv (cc (s10 _ _ mr7.1) hR4).symm f4;rw[xt,dD,<- sy,hMx];exact this
     .intro σ H7 e94;refine cy e94 λv13 rs7 e919 s7 mr7=>?_;clear e94;obtain rfl:=e919;rw[aA,Bl (by have:=tbM.tv.row.1;omega),<- wD] at mr7;subst hX3;walk_at "wp";have s47:=s4.trans s7;subst hD8;refine⟨_,aB.of (s47 _ _ hst),_,rfl,z,rfl,_,aj.of (s47 _ _ hz),_,a1,_,rfl,some (.ref st),some (.int bh),v13,rs7,?_,s7,mr7⟩;rw[show ((k+1:Nat):Int)*ns.getD ps[i].1.toNat 0=(k:Int)*ns.getD ps[i].1.toNat 0+ns.getD ps[i].1.toNat 0 by rw[iw,Int.add_mul];omega]
    .intro σ H6 e95;refine jw e95 λv11 v12 v13 rs e920 s6 mr6=>?_;clear e95;obtain rfl:=e920;subst hX2;walk_at "wp";have s36:=s34.trans s6;have hDD:H6 D=some (.lst ((cR ns).map V.int)):=s36 _ _ hD3;have ht6:=s36 _ _ ht3;refine⟨.inl ⟨rfl,_,aj.of ht6⟩,_,aj.of hDD,_,d2,_,aj.of hDD,_,d1,⇑0,λt ht=>?_⟩;have s7:=aa.new (o:=.tup [V.int (ns.getD ps[i].2.toNat 0+ns.getD ps[i].2.toNat 0),V.int (ns.getD ps[i].1.toNat 0+ns.getD ps[i].1.toNat 0),V.ref R9]) ht;have q7:(ao H6 t (.tup [V.int (ns.getD ps[i].2.toNat 0+ns.getD ps[i].2.toNat 0),V.int (ns.getD ps[i].1.toNat 0+ns.getD ps[i].1.toNat 0),V.ref R9])) t=some (.tup [V.int (ns.getD ps[i].2.toNat 0+ns.getD ps[i].2.toNat 0),V.int (ns.getD ps[i].1.toNat 0+ns.getD ps[i].1.toNat 0),V.ref R9]):=aw;have mr7:=mr6.same s7;generalize ao H6 t (.tup [V.int (ns.getD ps[i].2.toNat 0+ns.getD ps[i].2.toNat 0),V.int (ns.getD ps[i].1.toNat 0+ns.getD ps[i].1.toNat 0),V.ref R9])=H7 at *;rw[show [V.ref st,V.ref st].length=2 from rfl,kA] at mr7;have ht7:=s7 _ _ ht6;have s37:=s36.trans s7;have e1:nz (cR ns) ps[i].1=(ns.getD ps[i].1.toNat 0).toNat+(ns.getD ps[i].1.toNat 0).toNat:=by unfold nz;rw[qZ];exact oz5
     have e2:nz (cR ns) ps[i].2=(ns.getD ps[i].2.toNat 0).toNat+(ns.getD ps[i].2.toNat 0).toNat:=by unfold nz;rw[qZ];exact oz5
     have tbn:bM H7 p 60 (nz (cR ns) ps[i].2) (nz (cR ns) ps[i].1) t R9 rs (jt (ns.getD ps[i].1.toNat 0).toNat (Ms.getD i [])):=by
      refine⟨⟨?_,mr7.1,mr7.2.1,mr7.2.2.1⟩,?_,?_,?_⟩
      .rw [q7,e1,e2,iw,iw,gz c1.1,gz c2.1]
      .rw [e2];unfold jt;rw[bw,aA,aA,tbM.hl];rfl
      .rw [e1];exact tx tbM.hw
      .exact tD hp tbM.gd
     have ntb:tb'∉rs:=λz=>by have:=mr7.2.2.2 _ z;rw[s34 _ _ ht3] at this;cases this
     subst hD9;refine⟨_,ht7,cS (by rw[aA];exact oz122 p9 tl3 hi),_,_,_,_,_,_,_,_,us++[t],Ns++[jt (ns.getD ps[i].1.toNat 0).toNat (Ms.getD i [])],rfl,(s3.trans s37).upd ftb,by rw[aJ nDt];exact s37 _ _ hD3,by rw[aw,mC],by rw[bw,tl3];rfl,by rw[bw,ml3];rfl,λj t' q' f1 f2=>?_,λj q' hj f2=>?_⟩
     .by_cases hj:j<us.length
      .rw [eE hj] at f1;refine cy (tab j t' q' f1 f2) λr rs' tb' n1 n2=>?_;rw[tX (show j<Ns.length by exact oz18 tl3 ml3 hj)];exact aM r rs' ⟨(tb'.same s37).put ht7 n1 n2,n1,n2⟩
      .have hjl:=(cj.mp f1).1;rw[bw,xC] at hjl;obtain rfl:j=i:=by exact oz10 tl3 hj hjl
       rw[d_ (c8 hj),tl3,rZ] at f1;cases f1;rw[hq] at f2;cases f2;rw[vR ml3.symm];exact aM R9 rs ⟨tbn.put ht7 n9t.symm ntb,n9t.symm,ntb⟩
     .by_cases hji:j<i
      .rw [tX (show j<Ns.length by exact cM ml3 hji)];exact val j q' hji f2
      .obtain rfl:j=i:=by exact oz9 hj hji
       rw[vR ml3.symm];rw[hq] at f2;cases f2;rfl
   .intro σ H3 e96;refine yr e96 λv6 v7 v8 v9 v10 v11 v12 v13 us Ns e921 s3 hD3 e922=>?_;clear e96;obtain rfl:=e921;refine cY e922 λht3 tl3 ml3 tab val=>?_;clear e922;subst hX;walk_at "wp";have hxl:=pr.1;refine⟨⇑0,λt ht=>?_⟩;have s4:=aa.new (o:=.tup [V.ref D,V.ref tb']) ht;exact q t D tb' us Ns _ (s3.trans s4) aw (s4 _ _ hD3) ⟨s4 _ _ ht3,oz31 tl3 hxl,λi t q e1 e2=>let ⟨r,rs,a,_,_⟩:=tab i t q e1 e2;⟨r,rs,a.same s4⟩⟩ λi q e=>val i q (by have:=(cj.mp e).1;exact cM hxl this) e
theorem di.ext {l:Addr}{H H':Hp}{g:Addr}{p:Int}(h:di G H g p)(b:a_ H l)(e:aP l H H'):di G H' g p:=by
 obtain⟨dx,hg⟩:=h;refine cE b λa c hb _=>?_;clear b;exact⟨dx,e _ _ (eQ hg hb (by intro z;cases z)) hg⟩
theorem HG {H:Hp}{p:Int}{R:Addr->Hp->Prop}(hp:af p)(k:∀ g H',aa H H'->di G H' g p->R g H'):∀ x dx,H x=none->H dx=none->dx≠x->wt G [.ref x,.int p] (ao (ao H dx (.own x)) x (.ins G dx [])) (λv H2=>v=.non/\R x H2) E0:=by
 intro g dg hg hdg ndg;have fg:(ao H dg (.own g)) g=none:=by rw[aJ ndg.symm];exact hg
 have sg:aa H (ao (ao H dg (.own g)) g (.ins G dg [])):=(aa.new hdg).trans (aa.new fg);exact c5 g dg p ⟨rfl,aw,hp,λH1 ex1 hg1=>⟨rfl,k g H1 (aa.thru sg hg ex1) ⟨dg,hg1⟩⟩⟩
theorem Dh {H:Hp}{m:Int}{e:Addr}{xs:List V}{ps:List (Int×Int)}{R:Addr->Hp->Prop}(m0:1<=m)(m8:m<=8)(he:H e=some (.lst xs))(pr:cK H xs ps)(ip:iA m ps)(p9:ps.length<=9)(k:∀ d lp H',aa H H'->H lp=none->hE C H' d m lp xs->R d H'):
  ∀ x dx,H x=none->H dx=none->dx≠x->ud C [.ref x,.int m,.ref e] (ao (ao H dx (.own x)) x (.ins C dx [])) (λv H2=>v=.non/\R x H2) E0:=by
 intro d dd hd hdd ndd;have fd0:(ao H dd (.own d)) d=none:=by rw[aJ ndd.symm];exact hd
 have sd:aa H (ao (ao H dd (.own d)) d (.ins C dd [])):=(aa.new hdd).trans (aa.new fd0);have:=pr.1;exact mq d dd m e xs ⟨rfl,aw,m0,m8,sd _ _ he,∅,(FR pr ip).same sd,λlp H3 ex3 hd3 flp hlp=>⟨rfl,k d lp H3 (aa.thru sd hd ex3) (sd.free flp) ⟨dd,hd3,hlp⟩⟩⟩
theorem yP {l d lp:Addr}{m:Int}{xs:List V}{H H':Hp}(h:hE C H d m lp xs)(b:a_ H l)(e:aP l H H')(n:lp≠l):hE C H' d m lp xs:=by
 refine ar h λdx hd hl=>?_;clear h;refine cE b λa c hb _=>?_;clear b;exact⟨dx,e _ _ (eQ hd hb (by intro z;cases z)) hd,e _ _ n hl⟩
theorem CF:∀ {ns:List Int},(∀ n∈ns,n<=1)->ns.sum<=(ns.length:Nat)
 | [],_=>⇑0
 | n::ns,h=>by
  have:=CF (ns:=ns) λx hx=>h x (by simp[hx]);have:=h n (by simp);rw[uQ,iU];omega
theorem jr {m fi la t:Nat}{q:Int×Int}{ps:List (Int×Int)}(rd:eV m ps)(hl:la<m)(e:ps[t]?=some q):(fi<=t->t<la->nz (bj m fi la) q.1=1/\nz (bj m fi la) q.2=1)/\(0<nz (bj m fi la) q.1->0<nz (bj m fi la) q.2->fi<=t/\t<la):=by
 have ht:=(cj.mp e).1;have:=rd.1;have at':∀ k:Nat,k<m->nz (bj m fi la) (k:Int)=if fi<=k/\k<=la then 1 else 0:=λk hk=>by
  unfold nz;rw[d5,ql hk];split <;> rfl
 have a1:=at' t ∅;have a2:=at' (t+1) ∅;have core:(fi<=t->t<la->nz (bj m fi la) (t:Nat)=1/\nz (bj m fi la) ((t+1:Nat):Int)=1)/\(0<nz (bj m fi la) (t:Nat)->0<nz (bj m fi la) ((t+1:Nat):Int)->fi<=t/\t<la):=by
  rw[a1,a2];refine⟨λh1 h2=>⟨if_pos ⟨h1,∅⟩,if_pos ⟨oz95 h1,∅⟩⟩,λh1 h2=>?_⟩;constructor
  .by_cases z:fi<=t/\t<=la
   .exact z.1
   .rw [if_neg z] at h1;omega
  .by_cases z:fi<=t+1/\t+1<=la
   .omega
   .rw [if_neg z] at h2;omega
 rcases rd.2 t q e with rfl|rfl
 .exact core
 .exact ⟨λh1 h2=>(core.1 h1 h2).symm,λh1 h2=>core.2 h2 h1⟩
theorem fA.ext {b:Addr}{H0 H H':Hp}{p:Int}{z l:Addr}{ts:List Addr}{ns:List Int}{ps:List (Int×Int)}{RS:List (List Addr)}{Ms:List Mv}(h:fA H0 H p z l ts ns ps RS Ms)(b0:a_ H0 b)(b1:a_ H b)(e:aP b H H')(nl:l≠b):fA H0 H' p z l ts ns ps RS Ms:=⟨e _ _ nl h.lst,h.len,λi t q e1 e2=>let ⟨r,a,nw,c⟩:=h.tab i t q e1 e2;⟨r,a.ext b0 nw b1 e,nw,c⟩,h.own,h.sep⟩
theorem CJ {Ms:List Mv}{n i:Nat}{x:Mv}(h:n<Ms.length):(Ms.set n x).getD i []=if i=n then x else Ms.getD i []:=by
 rw[aT,A9];by_cases e:i=n
 .rw [if_pos e.symm,if_pos h,if_pos e];rfl
 .rw [if_neg λz=>e z.symm,if_neg e,<- aT]
theorem fA.spoil {H0 H:Hp}{p:Int}{z l a0 t0:Addr}{v0:V}{ts:List Addr}{ns:List Int}{ps:List (Int×Int)}{RS:List (List Addr)}{Ms:List Mv}{n:Nat}{q0:Int×Int}{vs:List V}(hp:af p)(h:fA H0 H p z l ts ns ps RS Ms)(ht:ts[n]?=some t0)(hq:ps[n]?=some q0)(n1:nz ns q0.1=1)(n2:nz ns q0.2=1)(ha:H a0=some (.lst vs))(hR:RS.getD n []=[a0])(nv:aE H p v0 (0,1))(hM:n<Ms.length):iN (ao H a0 (.lst [v0])) p 60 l ts ps ns (Ms.set n [[(0,1)]]):=by
 have h0:a0∈RS.getD n []:=by rw[hR];exact cF.mpr rfl
 refine⟨by rw[aJ (h.own n a0 h0).2.symm];exact h.lst,h.len,λi t q e1 e2=>?_⟩;refine tU (h.tab i t q e1 e2) λr tb nw _ nc=>?_;rw[CJ hM];by_cases e:i=n
 .subst e;rw[ht] at e1;cases e1;rw[hq] at e2;cases e2;rw[if_pos rfl];have g0:aZ p (0,1)/\ck 60 ((0,1):Nv):=⟨jB hp,dc ⇑0 ⇑0,dc ⇑0 ⇑0⟩
  refine⟨r,[a0],⟨⟨?_,?_,⟨rfl,λk a xs f1 f2=>?_⟩,?_⟩,n2.symm,λxs hx=>?_,λxs hx x hxx=>?_⟩⟩
  .rw [aJ (eQ tb.tv.tup ha (by intro z;cases z))];exact tb.tv.tup
  .rw [aJ (nc i a0 h0),<- hR];exact tb.tv.lst
  .cases k with
   | zero=>cases f1;cases f2;exact⟨_,aw,rfl,λk v x g1 g2=>by
     cases k with
     | zero=>cases g1;cases g2;exact nv.put ha
     | succ k=>cases g1⟩
   | succ k=>cases f1
  .exact λz=>nc i a0 h0 (cF.mp z)
  .rw [cF.mp hx];exact n1.symm
  .rw [cF.mp hx] at hxx;rw[cF.mp hxx];exact g0
 .rw [if_neg e];exact⟨r,_,tb.put ha (nc n a0 h0) λz=>e (h.sep i n a0 z h0)⟩
def spBr (G PL:Addr):L2.Sp:=λvs H Q _=>∃ (l g:Addr) (p:Int),vs=[.ref l,.ref g,.int p]/\a_ H l/\di G H g p/\af p/\H PL=some ma/\∀ H',aP l H H'->a_ H' l->Q (.bl true) H'
theorem td (F:bc K "_law_bar_right" "_law_bar_right" Au f fd)(T:bp K mg C G S)(Ybs:az P w K mg base "_law_row_drawing" 2 spRd)(Yak:fw P w K mg base "Drawing" C 4 (ud C))(Yaa:az P w K mg base "_law_draw" 1 iK)(Yam:az P w K mg base "_law_bar" 2 spBar)(Yaj:az P w K mg base "_law_made" 13 (spMd S C G))(Yah:az P w K mg base "lets_by" 10 (tM S C G PL))(Yac:az P w K mg base "_law_int" 1 mn):ax P w K mg base aW 14 f fd ["_law_bag_here","_law_ground","_law_p"] (spBr G PL):=by
 have nd:=E7.nd;refine F.ok E7 (λvs H Q E h=>?_) (λcdv A outer s H vs Q E hr h=>?_)
 .refine gK h λl g p e94 _=>?_;clear h;obtain rfl:=e94;rfl
 .refine cD h λl g p e95 hb hg e96=>?_;clear h;obtain rfl:=e95;refine bQ e96 λhp hPL q=>?_;clear e96;refine⟨_,((dX (Ybs<$>hr<$>((ae 0)<&>ah)) (@dJ _ _ _ _ _ 2 rfl ((3>>>nd)^^^((4>>>nd)^^^(@cT _))) ⇑1 ⇑1))<*>((5|||nd|||(kI Yak hr.m rfl ((ae 3)<&>((jv rP rfl T.n_list iP ((ae 4)<&>ah))<&>ah))))<*>((6|||nd|||(Yaa<$>hr<$>((ae 0)<&>((ae 3)<&>ah))))<*>((7|||nd|||(dI<|>(ae 6)<&&>(Yaa<$>hr<$>((ae 0)<&>(((gH fQ)<|>(ae 3)<&&>(ae 6))<&>ah)))))<*>((hV (i:=8) nd rfl (Or.inr rfl) (Yam<$>hr<$>((ae 2)<&>((ae 3)<&>((ae 4)<&>((ae 6)<&>((ae 7)<&>ah)))))))<*>((@bI _ _ _ _ _ _ _ _ (bW Cn (Yah<$>hr<$>((Yaj<$>hr<$>((ae 1)<&>((ae 5)<&>((ae 8)<&>ah))))<&>((@cb _ _ _ _ _ (nG<&>ah))<&>ah))) eJ (aU _)) (~~~eJ) bJ)<*>((my (i:=9) (own:=["_law_k"]) (fr:=[("_law_bar_here",8)]) rfl (c4 (by kernel_rfl)) (fj rfl T.n_range ((bS fo rfl T.n_len fu ((pv 4)<&>ah))<&>ah)) (λ_ _ _ _=>⟨(0<<<["_law_k","_law_bar_here"]),(wj (PW.pt (qk (fV fM (bS (HW K rfl) rfl T.n_len fu (((nH K rfl)<|>((ja K rfl)<|>((nH K rfl)<|>(pv 1)<||>aq)<||>(pv 0))<||>aq)<&>ah)) aq (aU _)) (qp (fV fM ((nH K rfl)<|>((ja K rfl)<|>((nH K rfl)<|>(pv 1)<||>aq)<||>(pv 0))<||>aq) aq (aU _)))))),(pv 0)⟩) nd rfl rfl rfl)<*>((@bI _ _ _ _ _ _ _ _ (bW (oR (qb hr)) (ae 9) (@cU _ _ _ _ ah) (aU _)) ((dX (Yac<$>hr<$>((ae 2)<&>(aq<&>ah))) (iJ (aV<|>(bC<|>(aV<|>((cX bC)<|>(ae 8)<||>aq)<||>(aV<|>(ae 9)<||>(Yaa<$>hr<$>((ae 0)<&>((bS fo rfl T.n_len fu ((ae 9)<&>ah))<&>ah)))))<||>aq)<||>aq) aq iM))<*>(~~~(gO oS (Yah<$>hr<$>((Yaj<$>hr<$>((ae 1)<&>((ae 5)<&>((ae 8)<&>ah))))<&>((@cb _ _ _ _ _ (nG<&>ah))<&>ah))) eJ (aU _)))) bJ)<*>(~~~eJ))))))))),?_⟩;refine bD λX hX=>?_;walk_at "wp";refine⟨l,rfl,hb,λt e m xs ps H1 e1 b1 ft ht fe he pr rd m8=>⟨t,rfl,_,aB.of ht,rfl,_,_,rfl,_,_,rfl,rfl,?_⟩⟩;have m1:1<=m:=by have:=rd.1;omega
  have nel:e≠l:=hb.ne fe;have nPL:PL≠l:=λz=>by obtain⟨x,y,hb',_⟩:=hb;rw[z,hb'] at hPL;cases hPL
  have ip:iA (m:Int) ps:=λq hqm=>by
   obtain⟨t,e⟩:=su.mp hqm;have ht:=(cj.mp e).1;have:=rd.1;rcases rd.2 t q e with rfl|rfl <;> exact⟨∅,∅,∅,∅⟩
  have p9:ps.length<=9:=by have:=rd.1;omega
  have hg1:di G H1 g p:=di.ext hg hb e1;have hPL1:=e1 _ _ nPL hPL;subst hX;refine bD λX hX=>?_;walk_at "wp";refine⟨_,.inl (aj.of he),λe2 he2=>?_⟩;have s2:=aa.new (o:=.lst xs) he2;have q2:(ao H1 e2 (.lst xs)) e2=some (.lst xs):=aw;generalize ao H1 e2 (.lst xs)=H2 at *;refine Dh ∅ ∅ q2 (pr.same s2) ip p9 λd lp H3 s3 flp hd=>?_;have s13:=s2.trans s3;have b3:=b1.same s13;have nlp:lp≠l:=b1.ne (s2.free flp);subst hX;refine bD λX hX=>?_;walk_at "wp";refine b3.draw ∅ ∅ λfi H4 f0 f1 e4 b4=>?_;obtain⟨fi,rfl⟩:=Bp f0;subst hX;refine bD λX hX=>?_;walk_at "wp";refine b4.draw ∅ ∅ λdy H5 y0 y1 e5 b5=>⟨dy,rfl,?_⟩
  obtain⟨y,rfl⟩:=Bp y0;have hla:(fi:Int)+(y:Int)=((fi+y:Nat):Int):=(iw fi y).symm;rw[hla];have l1:fi<=fi+y:=qH _ _;have l2:fi+y<m:=∅
  generalize fi+y=la at *;have e35:=e4.trans e5;have he5:=e35 _ _ nel (s13 _ _ he);have pr5:=(pr.same s13).bag b3 e35;have hd5:=yP hd b3 e35 nlp;have hg5:=(hg1.same s13).ext b3 e35;have hPL5:=e35 _ _ nPL (s13 _ _ hPL1);have eH5:aP l H H5:=(e1.trans s13.ext).trans e35;subst hX;refine bD λX hX=>?_;walk_at "wp";refine nq e p m fi la xs ps ⟨rfl,hp,he5,pr5,rd,l1,l2,m8,λst z tl ts RS Ms H6 s6 hst fz hz ftl bt=>?_⟩;have hd6:hE C H6 d m lp xs:=(let ⟨a,b,c⟩:=hd5;⟨a,s6 _ _ b,s6 _ _ c⟩)
  have hbl:(bj m fi la).length=m:=by unfold bj;rw[aA,ef]
  have hb1:∀ n∈bj m fi la,0<=n/\n<=1:=λn hn=>by
   refine ar (cw.mp hn) λk _ e97=>?_;obtain rfl:=e97;split <;> exact⟨⇑0,⇑0⟩
  have hsum:(bj m fi la).sum<=8:=by
   have:=CF (λn hn=>(hb1 n hn).2);omega
  have tb:iN H6 p 60 tl ts ps (bj m fi la) Ms:=⟨bt.lst,bt.len,λi t q e1 e2=>let ⟨r,a,_⟩:=bt.tab i t q e1 e2;⟨r,_,a⟩⟩
  have V6:=wJ ip p9 (by rw[hbl]) (λn h=>⟨(hb1 n h).1,mM (hb1 n h).2 ⇑0⟩) hsum tb;have hz6:bU H6 z (bj m fi la):=⟨hz,∅,λn h=>⟨(hb1 n h).1,mM (hb1 n h).2 ⇑0⟩⟩
  subst hX;refine bD λX hX=>?_;walk_at "wp";refine rm g d st z tl lp p m 60 xs ps (bj m fi la) ts Ms ⟨rfl,hg5.same s6,hp,hd6,pr5.same s6,ip,p9,hz6,by rw[hbl],tb,⇑0,hst,λx dx z' l' ts' _ H7 s7 sb=>⟨⇑0,λpa hpa=>?_⟩⟩;have s8:=aa.new (o:=.tup [V.str "fixed"]) hpa;refine nq x pa p m ps (bj m fi la) Ms ⟨rfl,aw,(wu sb).same s8,hp,V6,(s6.trans (s7.trans s8)) _ _ hPL5,λrk H9 s9 ik=>?_⟩;have key:=p8 hp rd l1 l2 V6 (λt t1 t2=>?_) ik
  .rw [key];refine⟨true,by rw[bR rfl],dR ⇑0 ?_⟩;have s69:=(s7.trans s8).trans s9;have b9:=((b5.same s6).same s69)
   have e9:aP l H H9:=eH5.trans (s6.trans s69).ext;have hst9:=s69 _ _ hst;have bt9:=bt.same s69;clear s7 s8 s9 sb hpa ik key rk;subst hX;refine bD λX hX=>?_;walk_at "wp";have he9:=s69 _ _ (s6 _ _ he5);have hxl:=pr.1;refine⟨_,rfl,e,rfl,_,.inl (aj.of he9),(xs.length:Nat),rfl,∅,∅,λD hD=>?_⟩;refine ur (n:=xs.length) (λi vs Hc=>aa H9 Hc/\Hc D=some (.lst vs)/\∃ ks:List Int,vs=ks.map V.int/\ks.length<=i/\∀ k∈ks,∃ n:Nat,k=(n:Int)/\fi<=n/\n<la) ⟨aa.new hD,aw,[],rfl,aI _,by simp⟩ ?_ ?_
   .intro i _ vs σ' H10 hi e91;obtain rfl:=e91;intro sh e92;refine bQ e92 λs10 hD10 e98=>?_;clear e92;obtain⟨ks,rfl,kl,kk⟩:=e98;obtain⟨z0,rfl⟩:=sh.one;simp only[fP,cg,List.set_cons_zero,cH];walk_at "wp";have bt10:=bt9.same s10;have hip:i<ps.length:=by exact b_ hxl hi
    have hq:=aF hip;have hti:=aF (show i<ts.length by have:=bt.len;exact oz119 hxl hi this);refine ar (bt10.tab i _ _ hti hq) λr tbi _=>?_;have bq:=jr (fi:=fi) rd l2 hq;have ati:atI (ts.map V.ref) (0+(i:Int))=some (.ref (ts[i]'(by have:=bt.len;exact oz119 hxl hi this))):=dH ∅ (by rw[show (0+(i:Int)).toNat=i by exact oz26,bH,hti];rfl);refine⟨_,rfl,st,rfl,_,aB.of (s10 _ _ hst9),_,rfl,tl,rfl,_,aj.of bt10.lst,_,ati,_,rfl,_,aB.of tbi.tv.tup,_,rfl,r,rfl,_,.inl (aj.of tbi.tv.lst),?_⟩;have rl:(RS.getD i []).length=nz (bj m fi la) ps[i].2:=by rw[tbi.tv.row.1,tbi.hl]
    rw[aA,rl];refine bA (λc1=>⟨_,rfl,st,rfl,_,aB.of (s10 _ _ hst9),_,rfl,tl,rfl,_,aj.of bt10.lst,_,ati,_,rfl,_,aB.of tbi.tv.tup,_,rfl,_,rfl,bA (λc2=>?_) (λ_=>?_)⟩) (λ_=>?_)
    .obtain ⟨h1,h2⟩:=bq.2 (by have:=dB c2;omega) (by have:=dB c1;omega);exact fL (ws:=ks.map V.int++[.int (0+(i:Int))]) hi Sh.mk1 hD10 (cS (by rw[aA];exact oz93 p9 kl hip)) ⟨s10.upd hD,aw,ks++[0+(i:Int)],by rw[dD];rfl,by rw[bw];show _+1<=_;exact oz136 kl,λk hk=>by
      rcases cf.mp hk with hk|hk
      .exact kk k hk
      .rw [cF.mp hk];exact⟨i,oz146,h1,h2⟩⟩
    .exact vt (ws:=ks.map V.int) hi Sh.mk1 ⟨s10,hD10,ks,rfl,oz95 kl,kk⟩
    .exact vt (ws:=ks.map V.int) hi Sh.mk1 ⟨s10,hD10,ks,rfl,oz95 kl,kk⟩
   .intro vs H10 e93;refine bQ e93 λs10 hD10 e99=>?_;clear e93;obtain⟨ks,rfl,kl,kk⟩:=e99;subst hX;refine bD λX hX=>?_;walk_at "wp";refine⟨eB _,λpz hpz=>?_⟩;have s11:=aa.new (o:=.lst []) hpz;have q11:(ao H10 pz (.lst [])) pz=some (.lst []):=aw;have s911:=s10.trans s11;have hD11:=s11 _ _ hD10;generalize ao H10 pz (.lst [])=H11 at *;have b11:=b9.same s911;have e11:aP l H H11:=e9.trans s911.ext;have nDl:D≠l:=b9.ne hD;have bt11:=bt9.same s911;have hst11:=s911 _ _ hst9;have hPL11:=s911 _ _ (s69 _ _ (s6 _ _ hPL5));refine⟨_,aj.of hD11,_,aj.of q11,?_⟩;rcases ks with _|⟨k0,kr⟩
    .refine .inr ⟨[],⟨rfl,rfl,λj x y b e=>by simp at e⟩,dR ⇑0 ?_⟩;subst hX;walk_at "wp";exact q H11 e11 b11
    .refine .inl ⟨by simp,?_⟩;refine aM p 0 ⟨rfl,hp,λv0 H12 s12 nv=>?_⟩;rw[wQ] at nv;refine⟨_,aB.of (s12 _ _ hst11),_,rfl,_,.inl (aj.of (s12 _ _ hD11)),?_⟩;refine (b11.same s12).draw (by simp) (by rw[aA];omega) λrr H13 r0 r1 e13 b13=>?_;have hr:rr.toNat<(k0::kr).length:=by rw[aA] at r1;exact oz55 r0 r1
     have hat:=dH (xs:=(k0::kr).map V.int) r0 (by rw[bH,aF hr];rfl);refine aQ (kk _ (eO hr)) λn hn f1 f2=>?_;rw[hn] at hat;have e513:aP l H5 H13:=((s6.trans (s69.trans (s911.trans s12))).ext).trans e13;have ntl:tl≠l:=b5.ne ftl;have nstl:st≠l:=λz=>by obtain⟨x,y,hb',_⟩:=b9;rw[z,hb'] at hst9;cases hst9
     have nzl:z≠l:=b5.ne fz;have bt13:=(bt11.same s12).ext b5 (b11.same s12) e13 ntl;have hnp:n<ps.length:=by have:=rd.1;exact oz112 y1 hla f2 this
     have hq:=aF hnp;have hti:=aF (show n<ts.length by have:=bt.len;exact c3 hnp this);refine tU (bt13.tab n _ _ hti hq) λr tbn nw hMn nc=>?_;obtain⟨n1,n2⟩:=(jr rd l2 hq).1 f1 f2;have rl:(RS.getD n []).length=1:=by rw[tbn.tv.row.1,tbn.hl,n2]
     obtain⟨a0,hR⟩:=List.length_eq_one_iff.mp rl;have hM:n<Ms.length:=by
      by_cases z:n<Ms.length
      .exact z
      .have:=tbn.hl;rw[aT,cZ (c8 z),n2] at this;cases this
     have h0:a0∈RS.getD n []:=by rw[hR];exact cF.mpr rfl
     have fa0:H5 a0=none:=nw.rs a0 h0;have nal:a0≠l:=b5.ne fa0;have hrow:=tbn.tv.row;rw[hR,hMn,n1,n2] at hrow;refine ar (hrow.2 0 a0 _ rfl rfl) λvs hvs e910=>?_;obtain⟨vl,_⟩:=e910;obtain⟨v1,rfl⟩:=List.length_eq_one_iff.mp vl;have nv13:aE H13 p v0 (0,1):=nv.ext (b11.same s12) e13;have hst13:=e13 _ _ nstl (s12 _ _ hst11);refine aM _ rr ⟨rfl,aj.of (e13 _ _ nDl (s12 _ _ hD11)),_,hat,tl,rfl,_,_,rfl,aj.of bt13.lst,_,dH i4 (by rw[d5,bH,hti];rfl),_,rfl,_,aB.of tbn.tv.tup,_,rfl,r,rfl,_,aj.of tbn.tv.lst,.ref a0,by rw[hR];rfl,a0,rfl,_,hvs,0,rfl,?_⟩;have tbS:=bt13.spoil hp hti hq n1 n2 hvs hR nv13 hM;have e514:aP l H5 (ao H13 a0 (.lst [v0])):=e513.upd fa0;have b14:a_ (ao H13 a0 (.lst [v0])) l:=b13.new nal;have hst14:(ao H13 a0 (.lst [v0])) st=some (.tup [.ref z,.ref tl]):=by rw[aJ (eQ hst13 hvs (by intro z;cases z))];exact hst13
     have hz14:bU (ao H13 a0 (.lst [v0])) z (bj m fi la):=⟨by rw[aJ (bt.own n a0 h0).1.symm];exact e13 _ _ nzl ((s69.trans (s911.trans s12)) _ _ hz),∅,λn h=>⟨(hb1 n h).1,mM (hb1 n h).2 ⇑0⟩⟩
     have V14:=wJ ip p9 (by rw[hbl]) (λn h=>⟨(hb1 n h).1,mM (hb1 n h).2 ⇑0⟩) hsum tbS;show spMd S C G _ (ao H13 a0 (.lst [v0])) _ E0;generalize ao H13 a0 (.lst [v0])=H14 at *;refine rm g d st z tl lp p m 60 xs ps (bj m fi la) ts _ ⟨rfl,hg5.ext b5 e514,hp,yP hd5 b5 e514 nlp,pr5.bag b5 e514,ip,p9,hz14,by rw[hbl],tbS,⇑0,hst14,λx dx z' l' ts' _ H15 s15 sb=>⟨⇑0,λpa hpa=>?_⟩⟩;have s16:=aa.new (o:=.tup [V.str "fixed"]) hpa;refine nq x pa p m ps (bj m fi la) _ ⟨rfl,aw,(wu sb).same s16,hp,V14,(s15.trans s16) _ _ (e514 _ _ nPL hPL5),λrk H17 s17 ik=>⟨_,rfl,?_⟩⟩;have s1417:=(s15.trans s16).trans s17;rw[dm (lV hp rd l2 V14 f1 f2 (by rw[CJ hM,if_pos rfl]) ik)];exact q H17 ((eH5.trans e514).trans s1417.ext) (b14.same s1417)
  .have htp:t<ps.length:=by have:=rd.1;exact oz112 y1 hla t2 this
   have hq:=aF htp;obtain⟨r,_,_,e,_⟩:=bt.tab t _ _ (aF (show t<ts.length by have:=bt.len;exact c3 htp this)) hq;obtain⟨n1,n2⟩:=(jr rd l2 hq).1 t1 t2;rw[e,n1,n2];rfl
theorem Cq (ns:List Int):∀ k,k<=ns.length->preSum (λi=>ns.getD i 0) k=(ns.take k).sum
 | 0,_=>by simp;rfl
 | k+1,h=>by
  show preSum _ k+ns.getD k 0=_;rw[Cq ns k (tL h),xt,aF (show k<ns.length by omega),List.sum_append,aT,aF (show k<ns.length by omega)];simp
theorem kD (ns:List Int):preSum (λi=>ns.getD i 0) ns.length=ns.sum:=by rw[Cq ns _ (aI _),uU]
theorem Cd:∀ ns:List Int,(cR ns).sum=ns.sum+ns.sum
 | []=>rfl
 | n::ns=>by
  show ((n+n)::cR ns).sum=_;rw[uQ,Cd ns,uQ];omega
theorem Dl:∀ {ns:List Int},0<ns.sum->∃ u,u<ns.length/\0<ns.getD u 0
 | [],h=>by simp at h
 | n::ns,h=>by
  by_cases z:0<n
  .exact ⟨0,by simp,z⟩
  .rw [uQ] at h;refine ar (Dl (ns:=ns) ∅) λu a b=>?_;exact⟨u+1,by rw[iU];omega,b⟩
theorem p7 {p m:Int}{ps:List (Int×Int)}{ns:List Int}{Ms Ms':List Mv}{rk:Nat}(hp:af p)(V:av p m ps (cR ns) Ms')(h0:0<ns.sum)(hn:∀ n∈ns,0<=n)(sh:∀ (i:Nat) q,ps[i]?=some q->(Ms.getD i []).length=nz ns q.2/\∀ xs∈Ms.getD i [],xs.length=nz ns q.1)(hM:∀ (i:Nat) q,ps[i]?=some q->Ms'.getD i []=jt (nz ns q.1) (Ms.getD i []))(ir:mP p ps (cR ns) Ms' rk):¬ ((stN (cR ns) (cR ns) (cR ns).length:Nat):Int)-(rk:Nat)=1:=by
 refine ar (Dl h0) λu hu u0=>?_;have dl:(cR ns).length=ns.length:=by unfold cR;rw[aA]
 have:=BU hp V ir (λu k=>decide (k<(ns.getD u 0).toNat)) (λt q i j hq hi hj=>?_) (u:=u) (k:=0) (u':=u) (k':=(ns.getD u 0).toNat) (c3 hu dl) (by rw[qZ];omega) (c3 hu dl) (by rw[qZ];omega) (bR ∅) (dm (gX _))
 .omega
 .obtain ⟨s1,s2⟩:=sh t q hq;rw[hM t q hq];unfold jt;have hw:nz ns q.1=(ns.getD q.1.toNat 0).toNat:=rfl;have hh:nz ns q.2=(ns.getD q.2.toNat 0).toNat:=rfl;show decide (j<(ns.getD q.1.toNat 0).toNat)=decide (i<(ns.getD q.2.toNat 0).toNat)\/_;rw[<- hw,<- hh];by_cases hih:i<nz ns q.2
  .by_cases hjw:j<nz ns q.1
   .exact .inl (by rw[bR hjw,bR hih])
   .refine .inr ?_;rw[tX (by rw[aA,s1];exact hih)];have hr:=s2 _ (eO (show i<(Ms.getD t []).length by exact cM s1 hih));rw[aT,aT,bH,aF (show i<(Ms.getD t []).length by exact cM s1 hih)];show (((Ms.getD t [])[i]++List.replicate _ _)[j]?).getD (0,1)=_;rw[d_ ∅,qM];split <;> rfl
  .by_cases hjw:j<nz ns q.1
   .refine .inr ?_;rw[aT,aT,d_ (by rw[aA,s1];exact c8 hih),bH];cases (Ms.getD t [])[i-((Ms.getD t []).map λr=>r++List.replicate (nz ns q.1) (0,1)).length]? with
    | none=>rfl
    | some r=>
     show ((List.replicate _ _++r)[j]?).getD (0,1)=_;rw[eE (by rw[d0];exact hjw),qM];split <;> rfl
   .exact .inl (by rw[dm hjw,dm hih])
theorem FP (ns:List Int)(lo hi:Option Int):∃ ms:List Int,cutV (ns.map V.int) lo hi=ms.map V.int/\ms.length<=ns.length:=by
 refine⟨(ns.drop (HT.sIx (ns.map V.int).length 0 lo)).take (HT.sIx (ns.map V.int).length (ns.map V.int).length hi-HT.sIx (ns.map V.int).length 0 lo),?_,?_⟩
 .unfold cutV;rw[List.map_take,List.map_drop]
 .rw [ij,sq];exact oz37
def vE (K:Frag)(PL:Addr):L2.Sp:=λvs H Q _=>∃ (a:Addr) (ns:List Int),vs=[.ref a]/\aj K H a (ns.map V.int)/\ns.length<=63/\H PL=some ma/\∀ H',H' PL=some ma->Q (.bl true) H'
theorem o_ (F:bc K "law" "law" mm f fd)(T:bp K mg C G S)(Ya5:az P w K mg base "_law_cell" 1 (ya K))(Ya0:az P w K mg base "_law_bag" 1 spBag)(Yba:az P w K mg base "_law_small_prime" 2 spSmp)(Ya1:az P w K mg base "_law_drawing" 2 (spOut way0))(Ybg:az P w K mg base "_law_standing" 6 spLs7)(Yaf:fw P w K mg base "Ground" G 3 (wt G))(Yak:fw P w K mg base "Drawing" C 4 (ud C))(Ya8:az P w K mg base "_law_right" 14 (spRgt C G PL))(Ybv:az P w K mg base "_law_bar_right" 14 (spBr G PL))(Ybe:az P w K mg base "_law_sided" 2 spSid)(Yaj:az P w K mg base "_law_made" 13 (spMd S C G))(Yah:az P w K mg base "lets_by" 10 (tM S C G PL)):ax P w K mg base aW 15 f fd ["_law_script"] (vE K PL):=by
 have nd:=BI.nd;refine F.ok BI (λvs H Q E h=>?_) (λcdv A outer s H vs Q E hr h=>?_)
 .refine cE h λa ns e93 _=>?_;clear h;obtain rfl:=e93;rfl
 .refine nB h λa ns e94 hS hl hPL q=>?_;clear h;obtain rfl:=e94;refine⟨_,((dw cW rfl (eM (vZ<|>(@cU _ _ _ _ ((Ya5<$>hr<$>((pv 0)<&>(aq<&>ah)))<&>(aq<&>ah)))<&&>(@FX _ _ _ _ _ _ _ _ _ _ km (pv 0) (@Cp _ _ _ aq) (@Cp _ _ _ aq)))) (1>>>nd) ((2|||nd|||(Ya0<$>hr<$>((ae 1)<&>ah)))<*>((3|||nd|||(Yba<$>hr<$>((ae 2)<&>ah)))<*>((dX (Ya1<$>hr<$>((ae 2)<&>ah)) (@dJ _ _ _ _ _ 2 rfl ((4>>>nd)^^^((5>>>nd)^^^(@cT _))) ⇑1 ⇑1))<*>((6|||nd|||(Ybg<$>hr<$>((ae 2)<&>((ae 3)<&>((ae 4)<&>((ae 5)<&>ah))))))<*>((7|||nd|||(kI Yaf hr.m rfl ((ae 3)<&>ah)))<*>((8|||nd|||(kI Yak hr.m rfl ((ae 4)<&>((jv rP rfl T.n_list iP ((ae 5)<&>ah))<&>ah))))<*>((@bI _ _ _ _ _ _ _ _ (PW.pt (fm (dU (eN (Ya8<$>hr<$>((ae 7)<&>((ae 8)<&>((ae 3)<&>((ae 5)<&>((ae 6)<&>ah)))))))) (gm (dU (eN (Ybv<$>hr<$>((ae 2)<&>((ae 7)<&>((ae 3)<&>ah))))))))) (~~~eJ) bJ)<*>(@bE _ _ _ (@bI _ _ _ _ _ _ _ _ (y_ iF iF aq (bS (y2 rfl) rfl T.n_sum boot_sum (((cX bC)<|>(ae 6)<||>aq)<&>ah)) (aV<|>(@cU _ _ _ _ (aq<&>(aq<&>ah)))<||>(jv zD rfl T.n_int boot_int ((gO (gH fM) (ae 3) aq (aU _))<&>ah)))) ((9|||nd|||(Ybe<$>hr<$>((ae 3)<&>((ae 5)<&>((ae 4)<&>((@cU _ _ _ _ ((ae 6)<&>((ae 6)<&>ah)))<&>ah))))))<*>(@bE _ _ _ (@bI _ _ _ _ _ _ _ _ (bW Cn (Yah<$>hr<$>((Yaj<$>hr<$>((ae 7)<&>((ae 8)<&>((ae 9)<&>ah))))<&>((@cb _ _ _ _ _ (nG<&>ah))<&>ah))) eJ (aU _)) (~~~eJ) bJ))) bJ))))))))))<*>(~~~eJ)),?_⟩;refine bD λXX hXX=>?_;refine cutF λY hY=>?_;refine ar (FP ns (some 1) (some 8)) λms hms hml=>?_;refine⟨_,rfl,a,ns,0,rfl,hS,hl,⇑0,λc0=>⟨by show 2<=sizeLine;decide,λp1 hp1=>⟨_,rfl,_,rfl,_,rfl,a,_,rfl,(aa.new hp1).seq hS,λp2 hp2=>?_⟩⟩⟩;rw[hms] at *;refine i_ p1 p2 _ _ ⟨rfl,rfl,by rw[aJ (cc aw hp2)];exact aw,aw,jg (cS (by rw[aA];show 2+ms.length<=1000;omega)),λp3 hp3=>?_⟩;have hz:[V.int c0,V.int 3]++ms.map V.int=(c0::3::ms).map V.int:=rfl;rw[hz];have e3:ao (ao (ao H p1 (.lst [V.int c0,V.int 3])) p2 (.lst (ms.map V.int))) p3 (.lst ((c0::3::ms).map V.int)) p3=some (.lst ((c0::3::ms).map V.int)):=aw;have s00:aa H (ao (ao (ao H p1 (.lst [V.int c0,V.int 3])) p2 (.lst (ms.map V.int))) p3 (.lst ((c0::3::ms).map V.int))):=((aa.new hp1).trans (aa.new hp2)).trans (aa.new hp3);have hPL0:=s00 _ _ hPL;generalize ao (ao (ao H p1 (.lst [V.int c0,V.int 3])) p2 (.lst (ms.map V.int))) p3 (.lst ((c0::3::ms).map V.int))=H0 at *;refine⟨p3,rfl,⟨_,aj.of e3⟩,qt (xs:=(c0::3::ms).map V.int) (λi σ H2=>∃ v1 v2 v3 v4 v5 v6 v7 v8 v9:Option V,σ=[some (.ref a),v1,v2,v3,v4,v5,v6,v7,v8,v9]/\aa H0 H2)
   ⟨none,none,none,none,none,none,none,none,none,rfl,aa.refl _⟩ (λi σ H2 _ ⟨_,_,_,_,_,_,_,_,_,_,sH⟩=>aj.of (sH _ _ e3)) ?_ ?_⟩
  .intro i x σ H2 hi e91;refine qg e91 λv1 v2 v3 v4 v5 v6 v7 v8 v9 e95 s2=>?_;clear e91;obtain rfl:=e95;obtain⟨c,rfl⟩:∃ c:Int,x=.int c:=by
    rw[bH] at hi;cases e:(c0::3::ms)[i]? with
    | none=>rw[e] at hi;cases hi
    | some c=>rw[e] at hi;cases hi;exact⟨c,rfl⟩
   refine gG λD2 hD2=>?_;simp only[cg,List.set_cons_zero,List.set_cons_succ];subst hY;refine bD λX hX=>?_;walk_at "wp";refine⟨c,rfl,λl xa xb hl0 xb0 xb1=>?_⟩;have b3:a_ (ao H2 l (m9 xa xb)) l:=a_.set xb0 xb1;have fl:=s2.free hl0;have s3:=s2.trans (aa.new (o:=m9 xa xb) hl0);generalize ao H2 l (m9 xa xb)=H3 at *;subst hX;refine bD λX hX=>?_;walk_at "wp";refine⟨l,rfl,b3,λp H4 e4 b4 hp=>?_⟩;have s4:=aa.thru s3 fl e4;subst hX;refine bD λX hX=>?_;walk_at "wp";refine aM l [] ⟨rfl,rfl,b4,λpt e m xs H5 O=>⟨pt,rfl,_,aB.of O.tup,rfl,_,_,rfl,_,_,rfl,rfl,?_⟩⟩;have s5:aa H0 H5:=aa.thru s4 fl O.ext;have b5:=O.bag;have m0:=O.lo;have m8:=O.hi;have x9:=O.len;have nel:e≠l:=b4.ne O.new;have he:=O.lst;refine ar (Cr O.ed) λps pr ip=>?_;have pl:=pr.1;have p9:ps.length<=9:=∅
   clear O s4 e4 b4 b3 s3;subst hX;refine bD λX hX=>?_;walk_at "wp";refine vL l e p m xs ps ⟨rfl,b5,hp,he,pr,ip,p9,m0,m8,nel,λst z tl ns ts Ms H6 e6 b6 fst hst fz hz hm hn h7 h4 gt=>?_⟩;have s6:aa H0 H6:=aa.thru s5 fl e6;have he6:=e6 _ _ nel he;have pr6:=pr.bag b5 e6;have n8:ns.length<=8:=∅
   have nst:st≠l:=b5.ne fst;have nzl:z≠l:=b5.ne fz;subst hX;refine bD λX hX=>?_;walk_at "wp";have gt6:=gt.ext b5 b6 (aP.refl _ _);refine HG hp λg H7 s7 hg=>?_;subst hX;refine bD λX hX=>?_;walk_at "wp";refine⟨_,.inl (aj.of (s7 _ _ he6)),λe1 he1=>?_⟩;have s8:=aa.new (o:=.lst xs) he1;have q8:(ao H7 e1 (.lst xs)) e1=some (.lst xs):=aw;generalize ao H7 e1 (.lst xs)=H8 at *;have t8:=s7.trans s8;refine Dh m0 m8 q8 (pr6.same t8) ip p9 λd lp H9 s9 flp hd=>?_;have t9:=t8.trans s9;have b9:=b6.same t9;have nlp:lp≠l:=b6.ne (t8.free flp);have hst9:=t9 _ _ hst;have hz9:=t9 _ _ hz;have he9:=t9 _ _ he6;have pr9:=pr6.same t9;have hg9:=(hg.same s8).same s9;have gt9:=gt6.same t9;have s09:=s6.trans t9;have hm8:(ns.length:Int)=m:=hm;have hPL9:=s09 _ _ hPL0;have fl9:H0 l=none:=fl;subst hX;refine bD λX hX=>?_;walk_at "wp";refine rm g d e st z tl lp p m xs ps ns ts Ms ⟨rfl,hg9,hp,hd,he9,pr9,ip,p9,⟨hz9,n8,λn h=>⟨(hn n h).1,mM (hn n h).2 ⇑0⟩⟩,hm,gt9.tbl,hst9,hn,h7,h4,hPL9,λH10 s10=>?_⟩;refine⟨true,rfl,dR ⇑0 ⟨l,g,p,rfl,b9.same s10,hg9.same s10,hp,s10 _ _ hPL9,λH11 e11 b11=>⟨true,rfl,dR ⇑0 ?_⟩⟩⟩;have b10:=b9.same s10;have hst11:=e11 _ _ nst (s10 _ _ hst9);have hz11:=e11 _ _ nzl (s10 _ _ hz9);have he11:=e11 _ _ nel (s10 _ _ he9);have pr11:=(pr9.same s10).bag b10 e11;have hg11:=(hg9.same s10).ext b10 e11;have hd11:=yP (let ⟨a,b,c⟩:=hd;⟨a,s10 _ _ b,s10 _ _ c⟩) b10 e11 nlp;have gt11:=(gt9.same s10).ext b5 b10 e11;have s011:aa H0 H11:=aa.thru (s09.trans s10) fl e11;clear gt9 gt6 gt hg9 hd hst9 hz9 he9 pr9 t9 t8 s7 s8 s9 hst hz he6 pr6 e6 b6;subst hX;walk_at "wp";have nx9:∀ (v9:Option V) H',aa H0 H'->D2.nx [some (.ref a),some (.int c),some (.ref l),some (.int p),some (.int m),some (.ref e),some (.ref st),some (.ref g),some (.ref d),v9] H':=λv9 H' s'=>by
    subst hD2;exact tS _ _ _ _ _ _ _ _ _ ⟨rfl,s'⟩
   refine⟨_,aB.of hst11,_,rfl,z,rfl,ns,aj.of hz11,?_⟩;rw[kD];refine bA (λc1=>⟨⇑0,λp4 hp4=>?_⟩) (λ_=>nx9 v9 H11 s011);have c1:=dB c1;obtain⟨le,hle,l5⟩:∃ le:Int,atI [V.int 4,V.int 5] (if decide (0<p)=true then 1 else 0)=some (.int le)/\le<=5:=by
    by_cases h:0<p
    .exact ⟨5,by rw[bR h];rfl,⇑0⟩
    .exact ⟨4,by rw[dm h];rfl,⇑0⟩
   have s12:=aa.new (o:=.lst [V.int 4,V.int 5]) hp4;refine⟨_,aj.of aw,_,hle,le,rfl,?_⟩;generalize ao H11 p4 (.lst [V.int 4,V.int 5])=H12 at *;refine bA (λc2=>⟨⇑0,λsl hsl=>?_⟩) (λ_=>nx9 v9 H12 (s011.trans s12));have c2:=dB c2;have s13:=s12.trans (aa.new (o:=.lst [V.ref st,V.ref st]) hsl);have q13:(ao H12 sl (.lst [V.ref st,V.ref st])) sl=some (.lst [V.ref st,V.ref st]):=aw;generalize ao H12 sl (.lst [V.ref st,V.ref st])=H13 at *;refine oe e sl st z tl p m xs ps ns ts Ms ⟨rfl,hp,s13 _ _ he11,pr11.same s13,ip,p9,hm,m8,hn,q13,s13 _ _ hst11,s13 _ _ hz11,gt11.tbl.same s13,λt z' tl' ts' Ms' H14 s14 ht hz' tb' hM=>?_⟩;have s114:=s13.trans s14;have dl:(cR ns).length=ns.length:=by unfold cR;rw[aA]
   have dn:∀ n∈cR ns,0<=n/\n<=4:=λn hnn=>by
    refine ar (cw.mp hnn) λk hk e96=>?_;obtain rfl:=e96;have:=hn k hk;exact⟨∅,∅⟩
   have VV:=wJ ip p9 (by rw[dl];exact hm) (λn h=>⟨(dn n h).1,mM (dn n h).2 ⇑0⟩) (by rw[Cd];omega) tb';refine rm g d t z' tl' lp p m 60 xs ps (cR ns) ts' Ms' ⟨rfl,hg11.same s114,hp,(let ⟨a,b,c⟩:=hd11;⟨a,s114 _ _ b,s114 _ _ c⟩),pr11.same s114,ip,p9,⟨hz',∅,λn h=>⟨(dn n h).1,mM (dn n h).2 ⇑0⟩⟩,by rw[dl];exact hm,tb',⇑0,ht,λx dx z2 l2 ts2 _ H15 s15 sb=>⟨⇑0,λpa hpa=>?_⟩⟩;have s16:=aa.new (o:=.tup [V.str "fixed"]) hpa;have s1116:=(s114.trans s15).trans s16;refine nq x pa p m ps (cR ns) Ms' ⟨rfl,aw,(wu sb).same s16,hp,VV,(s011.trans s1116) _ _ hPL0,λrk H17 s17 ik=>⟨_,rfl,?_⟩⟩;rw[dm (p7 (Ms:=Ms) hp VV c1 (λn h=>(hn n h).1) (λi q e=>?_) hM ik)]
   .exact nx9 _ _ (s011.trans (s1116.trans s17))
   .have tb:=gt11.tbl;obtain⟨r,rs,tbi⟩:=tb.2.2 i _ q (aF (show i<ts.length by have:=tb.2.1;have:=(cj.mp e).1;omega)) e;exact⟨tbi.hl,tbi.hw⟩
  .intro σ H2 e92;refine qg e92 λv1 v2 v3 v4 v5 v6 v7 v8 v9 e97 s2=>?_;clear e92;obtain rfl:=e97;subst hXX;walk_at "wp";exact q H2 (s2 _ _ hPL0)
end
end Pf
set_option maxHeartbeats 4000000
namespace Pf
open PySem L2 PyProof.Rows
open PySem.W (nsIn codeIn keepIn fnOf findIn isFn mg_of mg_none_of plainGet hasDictIn plainOver makesIn)
theorem ex1 {us:List Value}(hl:us.length=1):∃ a0,us=[a0]:=match us,hl with|[a0],_=>⟨a0,rfl⟩
theorem ex2 {us:List Value}(hl:us.length=2):∃ a0 a1,us=[a0,a1]:=match us,hl with|[a0,a1],_=>⟨a0,a1,rfl⟩
theorem ex3 {us:List Value}(hl:us.length=3):∃ a0 a1 a2,us=[a0,a1,a2]:=match us,hl with|[a0,a1,a2],_=>⟨a0,a1,a2,rfl⟩
theorem ex4 {us:List Value}(hl:us.length=4):∃ a0 a1 a2 a3,us=[a0,a1,a2,a3]:=match us,hl with|[a0,a1,a2,a3],_=>⟨a0,a1,a2,a3,rfl⟩
theorem ex5 {us:List Value}(hl:us.length=5):∃ a0 a1 a2 a3 a4,us=[a0,a1,a2,a3,a4]:=match us,hl with|[a0,a1,a2,a3,a4],_=>⟨a0,a1,a2,a3,a4,rfl⟩
theorem ex6 {us:List Value}(hl:us.length=6):∃ a0 a1 a2 a3 a4 a5,us=[a0,a1,a2,a3,a4,a5]:=match us,hl with|[a0,a1,a2,a3,a4,a5],_=>⟨a0,a1,a2,a3,a4,a5,rfl⟩
def Gf (K:Frag)(x:Str)(st:Stmt)(f:Addr):Prop:=nsIn K mainGlobals x=some (some (.ref f))/\∃ fd,bc K x x st f fd
theorem xN {l:PySem.W.OpenLaw}{w:World}{K:Frag}{h:Heap}{mg:Str->Option Value}{fa C Cg Cs:Addr}{t1 t2 t3 t4 t5:Tok}(hpt:l.prog.given.tree=none){cL PL:Addr}(X:K.In h)(G:h.Ns mainGlobals mg)(hfa:mg "law" = some (.ref fa)){f1 f2 f3 f4 f5 f6 f7 f8 f9 f10 f11 f12 f13 f14 f15 f16 f17 f18 f19 f20 f21 f22 f23 f24 f25 f26 f27 f28 f29 f30 f31 f32 f33 f34 f35 f36 f37 f38 f39 f40 f41 f42 f43 f44 f45 f46 f47 f48 f49 f50 f51 f52 f53 f54 f55 f56 f57 f58 f59 f60 f61 f62 f63:Addr}{od14 an14 od57 an57 od60 an60:Option Addr}{sl14 sl57 sl60:Array (Option Value)}{oc14 kV14 dc14 pm14 ct14 oc57 kV57 dc57 pm57 ct57 cd57 oc60 kV60 dc60 pm60 ct60 cd60:Value}{D60:Addr}{doc60:Value}{dod60:Option Addr}{dosl60:Array (Option Value)}{dn60:Nat}{dt60:Tok}(u1:Gf K "is_whole" wR f1)(u2:Gf K "makes_drawing" Aw f2)(u3:Gf K "is_arrow" zJ f3)(u4:Gf K "common_divisor" Ay f4)(u5:Gf K "not_both_long" Ax f5)(u6:Gf K "shortened" Ac f6)(u7:Gf K "leading_steps" Av f7)(u8:Gf K "common_multiple" AH f8)(u9:Gf K "is_table" zL f9)(u10:Gf K "is_row" zb f10)(u11:Gf K "whole_row" Ae f11)(u12:Gf K "tidied" zc f12)(u13:Gf K "cleared" zo f13)(a14:nsIn K mainGlobals "leading_row" = some (some (.ref f14)))(l14:K.lookup f14=some ⟨oc14,od14,.func (fnOf "leading_row" "leading_row" (iL qz) (gn qz) (aR qz) .none kV14 dc14 pm14 an14 (.ref cL) ct14),sl14⟩)(c14:codeIn K (.ref cL) "leading_row" = true)(k14:keepIn K (.ref f14)=true)(u15:Gf K "swept" yD f15)(u16:Gf K "rank" yp f16)(u17:Gf K "are_sizes" zW f17)(u18:Gf K "is_table_of" Ao f18)(u19:Gf K "are_tables" Ah f19)(u20:Gf K "stands_on" Ad f20)(u21:Gf K "place_starts" AD f21)(u22:Gf K "difference_row" Az f22)(u23:Gf K "differences" Am f23)(u24:Gf K "count_maps" Ai f24)(u25:Gf K "lets_by" zA f25)(u26:Gf K "is_prime" zK f26)(u27:Gf K "tells_ground" AE f27)(u28:Gf K "fraction" zV f28)(u29:Gf K "inverse" zp f29)(u30:Gf K "rest_of" zB f30)(u31:Gf K "is_fraction" An f31)(u32:Gf K "_law_cell" zO f32)(u33:Gf K "_law_bag" zr f33)(u34:Gf K "_law_draw" zQ f34)(u35:Gf K "_law_gcd" zu f35)(u36:Gf K "_law_lowest" wW f36)(u37:Gf K "_law_small_prime" AF f37)(u38:Gf K "_law_number" Aj f38)(u39:Gf K "_law_add" zq f39)(u40:Gf K "_law_mul" zz f40)(u41:Gf K "_law_int" zw f41)(u42:Gf K "_law_back" zN f42)(u43:Gf K "_law_rows" zT f43)(u44:Gf K "_law_table" Ab f44)(u45:Gf K "_law_copy" zP f45)(u46:Gf K "_law_reduced" Ar f46)(u47:Gf K "_law_drawing" Aq f47)(u48:Gf K "_law_standing" AC f48)(u49:Gf K "_law_ask_row" Ap f49)(u50:Gf K "_law_count" zZ f50)(u51:Gf K "_law_bar" zt f51)(u52:Gf K "_law_row_drawing" AI f52)(u53:Gf K "_law_sided" Aa f53)(u54:Gf K "_law_made" zS f54)(u55:Gf K "_law_right" z_ f55)(u56:Gf K "_law_bar_right" Au f56)(a57:nsIn K mainGlobals "law" = some (some (.ref f57)))(l57:K.lookup f57=some ⟨oc57,od57,.func (fnOf "law" "law" (iL mm) (gn mm) (aR mm) .none kV57 dc57 pm57 an57 cd57 ct57),sl57⟩)(c57:codeIn K cd57 "law" = true)(k57:keepIn K (.ref f57)=true)(aC:nsIn K mainGlobals "Drawing" = some (some (.ref C)))(a58:findIn K (.ref C) "__init__" = some (some (.ref f58)))(i58:isFn K (.ref f58)=true)(u58:∃ fd,bc K "__init__" "Drawing.__init__" AA f58 fd)(pg:plainGet K C Str.empty=true)(hd:hasDictIn K C=true)(po:plainOver K C=true)(sa:findIn K (.ref C) "__setattr__" = some (some (.builtin "object.__setattr__")))(mk:makesIn K C=true)(kc:keepIn K (.ref C)=true)(nM:findIn K (.ref C) "many" = some none)(nA:findIn K (.ref C) "arrows" = some none)(aCg:nsIn K mainGlobals "Ground" = some (some (.ref Cg)))(a59:findIn K (.ref Cg) "__init__" = some (some (.ref f59)))(i59:isFn K (.ref f59)=true)(u59:∃ fd,bc K "__init__" "Ground.__init__" Al f59 fd)(a60:findIn K (.ref Cg) "number" = some (some (.ref f60)))(i60:isFn K (.ref f60)=true)(l60:K.lookup f60=some ⟨oc60,od60,.func (fnOf "number" "Ground.number" (iL je) (gn je) (aR je) (.ref D60) kV60 dc60 pm60 an60 cd60 ct60),sl60⟩)(dl60:K.lookup D60=some ⟨doc60,dod60,.seq #[.int 1 dt60] dn60,dosl60⟩)(c60:codeIn K cd60 "Ground.number" = true)(k60:keepIn K (.ref f60)=true)(a61:findIn K (.ref Cg) "minus" = some (some (.ref f61)))(i61:isFn K (.ref f61)=true)(u61:∃ fd,bc K "minus" "Ground.minus" AB f61 fd)(a62:findIn K (.ref Cg) "is_number" = some (some (.ref f62)))(i62:isFn K (.ref f62)=true)(u62:∃ fd,bc K "is_number" "Ground.is_number" AG f62 fd)(pg_Cg:plainGet K Cg Str.empty=true)(hd_Cg:hasDictIn K Cg=true)(po_Cg:plainOver K Cg=true)(sa_Cg:findIn K (.ref Cg) "__setattr__" = some (some (.builtin "object.__setattr__")))(mk_Cg:makesIn K Cg=true)(kc_Cg:keepIn K (.ref Cg)=true)(nP:findIn K (.ref Cg) "prime" = some none)(aCs:nsIn K mainGlobals "Standing" = some (some (.ref Cs)))(a63:findIn K (.ref Cs) "__init__" = some (some (.ref f63)))(i63:isFn K (.ref f63)=true)(u63:∃ fd,bc K "__init__" "Standing.__init__" As f63 fd)(pg_Cs:plainGet K Cs Str.empty=true)(hd_Cs:hasDictIn K Cs=true)(po_Cs:plainOver K Cs=true)(sa_Cs:findIn K (.ref Cs) "__setattr__" = some (some (.builtin "object.__setattr__")))(mk_Cs:makesIn K Cs=true)(kc_Cs:keepIn K (.ref Cs)=true)(nSg:findIn K (.ref Cs) "ground" = some none)(nSd:findIn K (.ref Cs) "drawing" = some none)(nSs:findIn K (.ref Cs) "sizes" = some none)(nSt:findIn K (.ref Cs) "tables" = some none)(g1:nsIn K mainGlobals "MOST_POINTS" = some (some (.int 8 t1)))(g2:nsIn K mainGlobals "MOST_ARROWS" = some (some (.int 9 t2)))(g3:nsIn K mainGlobals "LARGEST_PRIME" = some (some (.int 97 t3)))(g4:nsIn K mainGlobals "LONG" = some (some (.int 4000 t4)))(g5:nsIn K mainGlobals "LEADING" = some (some (.int 126 t5)))(z0:nsIn K mainGlobals "len" = some none)(z1:nsIn K mainGlobals "range" = some none)(z2:nsIn K mainGlobals "list" = some none)(z3:nsIn K mainGlobals "min" = some none)(z4:nsIn K mainGlobals "int" = some none)(z5:nsIn K mainGlobals "bool" = some none)(z6:nsIn K mainGlobals "tuple" = some none)(z7:nsIn K mainGlobals "all" = some none)(z8:nsIn K mainGlobals "isinstance" = some none)(z9:nsIn K mainGlobals "abs" = some none)(z10:nsIn K mainGlobals "zip" = some none)(z11:nsIn K mainGlobals "enumerate" = some none)(z12:nsIn K mainGlobals "reversed" = some none)(z13:nsIn K mainGlobals "sum" = some none)(z14:nsIn K mainGlobals "any" = some none)(hcL:hdIn K cL PL=true)(x_ic1:findIn K (.ref Cs) "__class__" = some (some (.builtin "object.__class__")))(x_ic2:PySem.W.specialIn K (.builtin "object.__class__") "__get__" = some (some (.builtin "getset_descriptor.__get__")))(x_ic3:PySem.W.takesIn K (.builtin "object.__class__")=some true)(x_ic4:PySem.W.mroIn K Cs (.type "object")=some true):
  ∃ fd:FuncData,(∀ (s:Shared) (v:Value),BindsTo s fd ⟨[v],[]⟩ [("_law_script",v)])/\∀ base:Heap,K.In base->base.Ns mainGlobals mg->ax l.prog w K mg base aW 15 fa fd ["_law_script"] (vE K PL):=by
 have e:=hfa.symm.trans (mg_of X G a57);cases e;have T:bp K mg C Cg Cs:=⟨⟨pg,hd,po,sa⟩,nM,nA,⟨pg_Cg,hd_Cg,po_Cg,sa_Cg⟩,nP,⟨pg_Cs,hd_Cs,po_Cs,sa_Cs⟩,nSg,nSd,nSs,nSt,mg_none_of X G z0,mg_none_of X G z1,mg_none_of X G z2,mg_none_of X G z3,mg_none_of X G z4,mg_none_of X G z5,mg_none_of X G z6,mg_none_of X G z7,mg_none_of X G z8,mg_none_of X G z9,mg_none_of X G z10,mg_none_of X G z11,mg_none_of X G z12,mg_none_of X G z13,mg_none_of X G z14,⟨t1,mg_of X G g1⟩,⟨t2,mg_of X G g2⟩,⟨t3,mg_of X G g3⟩,⟨t4,mg_of X G g4⟩,⟨t5,mg_of X G g5⟩,mg_of X G aCs,x_ic1,x_ic2,x_ic3,x_ic4⟩
 obtain⟨a1,_,F1⟩:=u1;have b1:=F1.binds (ps:=["thing"]) λ_ _ _ _ _ _ us hl=>by obtain⟨_,rfl⟩:=ex1 hl;rfl
 obtain⟨a2,_,F2⟩:=u2;have b2:=F2.binds (ps:=["many","arrows"]) λ_ _ _ _ _ _ us hl=>by obtain⟨_,_,rfl⟩:=ex2 hl;rfl
 obtain⟨a3,_,F3⟩:=u3;have b3:=F3.binds (ps:=["many","thing"]) λ_ _ _ _ _ _ us hl=>by obtain⟨_,_,rfl⟩:=ex2 hl;rfl
 obtain⟨a4,_,F4⟩:=u4;have b4:=F4.binds (ps:=["one","other"]) λ_ _ _ _ _ _ us hl=>by obtain⟨_,_,rfl⟩:=ex2 hl;rfl
 obtain⟨a5,_,F5⟩:=u5;have b5:=F5.binds (ps:=["one","other"]) λ_ _ _ _ _ _ us hl=>by obtain⟨_,_,rfl⟩:=ex2 hl;rfl
 obtain⟨a6,_,F6⟩:=u6;have b6:=F6.binds (ps:=["one","other"]) λ_ _ _ _ _ _ us hl=>by obtain⟨_,_,rfl⟩:=ex2 hl;rfl
 obtain⟨a7,_,F7⟩:=u7;have b7:=F7.binds (ps:=["one","other"]) λ_ _ _ _ _ _ us hl=>by obtain⟨_,_,rfl⟩:=ex2 hl;rfl
 obtain⟨a8,_,F8⟩:=u8;have b8:=F8.binds (ps:=["one","other"]) λ_ _ _ _ _ _ us hl=>by obtain⟨_,_,rfl⟩:=ex2 hl;rfl
 obtain⟨a9,_,F9⟩:=u9;have b9:=F9.binds (ps:=["ground","thing"]) λ_ _ _ _ _ _ us hl=>by obtain⟨_,_,rfl⟩:=ex2 hl;rfl
 obtain⟨a10,_,F10⟩:=u10;have b10:=F10.binds (ps:=["ground","wide","thing"]) λ_ _ _ _ _ _ us hl=>by obtain⟨_,_,_,rfl⟩:=ex3 hl;rfl
 obtain⟨a11,_,F11⟩:=u11;have b11:=F11.binds (ps:=["ground","row"]) λ_ _ _ _ _ _ us hl=>by obtain⟨_,_,rfl⟩:=ex2 hl;rfl
 obtain⟨a12,_,F12⟩:=u12;have b12:=F12.binds (ps:=["ground","row"]) λ_ _ _ _ _ _ us hl=>by obtain⟨_,_,rfl⟩:=ex2 hl;rfl
 obtain⟨a13,_,F13⟩:=u13;have b13:=F13.binds (ps:=["ground","row","lead","place"]) λ_ _ _ _ _ _ us hl=>by obtain⟨_,_,_,_,rfl⟩:=ex4 hl;rfl
 have F14:iZ K "leading_row" "leading_row" qz f14 _ cL:=⟨⟨oc14,od14,kV14,dc14,pm14,an14,ct14,sl14,rfl,l14,c14⟩⟩
 have b14:=F14.binds (ps:=["rows","place"]) λ_ _ _ _ _ _ us hl=>by obtain⟨_,_,rfl⟩:=ex2 hl;rfl
 obtain⟨a15,_,F15⟩:=u15;have b15:=F15.binds (ps:=["ground","rows","wide"]) λ_ _ _ _ _ _ us hl=>by obtain⟨_,_,_,rfl⟩:=ex3 hl;rfl
 obtain⟨a16,_,F16⟩:=u16;have b16:=F16.binds (ps:=["ground","table"]) λ_ _ _ _ _ _ us hl=>by obtain⟨_,_,rfl⟩:=ex2 hl;rfl
 obtain⟨a17,_,F17⟩:=u17;have b17:=F17.binds (ps:=["drawing","thing"]) λ_ _ _ _ _ _ us hl=>by obtain⟨_,_,rfl⟩:=ex2 hl;rfl
 obtain⟨a18,_,F18⟩:=u18;have b18:=F18.binds (ps:=["ground","high","wide","thing"]) λ_ _ _ _ _ _ us hl=>by obtain⟨_,_,_,_,rfl⟩:=ex4 hl;rfl
 obtain⟨a19,_,F19⟩:=u19;have b19:=F19.binds (ps:=["ground","drawing","sizes","thing"]) λ_ _ _ _ _ _ us hl=>by obtain⟨_,_,_,_,rfl⟩:=ex4 hl;rfl
 obtain⟨a20,_,F20⟩:=u20;have b20:=F20.binds (ps:=["standing","ground","drawing"]) λ_ _ _ _ _ _ us hl=>by obtain⟨_,_,_,rfl⟩:=ex3 hl;rfl
 obtain⟨a21,_,F21⟩:=u21;have b21:=F21.binds (ps:=["one","other"]) λ_ _ _ _ _ _ us hl=>by obtain⟨_,_,rfl⟩:=ex2 hl;rfl
 obtain⟨a22,_,F22⟩:=u22;have b22:=F22.binds (ps:=["one","other","at","row_place","column_place"]) λ_ _ _ _ _ _ us hl=>by obtain⟨_,_,_,_,_,rfl⟩:=ex5 hl;rfl
 obtain⟨a23,_,F23⟩:=u23;have b23:=F23.binds (ps:=["one","other"]) λ_ _ _ _ _ _ us hl=>by obtain⟨_,_,rfl⟩:=ex2 hl;rfl
 obtain⟨a24,_,F24⟩:=u24;have b24:=F24.binds (ps:=["one","other"]) λ_ _ _ _ _ _ us hl=>by obtain⟨_,_,rfl⟩:=ex2 hl;rfl
 obtain⟨a25,_,F25⟩:=u25;have b25:=F25.binds (ps:=["standing","paper"]) λ_ _ _ _ _ _ us hl=>by obtain⟨_,_,rfl⟩:=ex2 hl;rfl
 obtain⟨a26,_,F26⟩:=u26;have b26:=F26.binds (ps:=["number"]) λ_ _ _ _ _ _ us hl=>by obtain⟨_,rfl⟩:=ex1 hl;rfl
 obtain⟨a27,_,F27⟩:=u27;have b27:=F27.binds (ps:=["thing"]) λ_ _ _ _ _ _ us hl=>by obtain⟨_,rfl⟩:=ex1 hl;rfl
 obtain⟨a28,_,F28⟩:=u28;have b28:=F28.binds (ps:=["top","bottom"]) λ_ _ _ _ _ _ us hl=>by obtain⟨_,_,rfl⟩:=ex2 hl;rfl
 obtain⟨a29,_,F29⟩:=u29;have b29:=F29.binds (ps:=["rest","prime"]) λ_ _ _ _ _ _ us hl=>by obtain⟨_,_,rfl⟩:=ex2 hl;rfl
 obtain⟨a30,_,F30⟩:=u30;have b30:=F30.binds (ps:=["top","bottom","prime"]) λ_ _ _ _ _ _ us hl=>by obtain⟨_,_,_,rfl⟩:=ex3 hl;rfl
 obtain⟨a31,_,F31⟩:=u31;have b31:=F31.binds (ps:=["thing"]) λ_ _ _ _ _ _ us hl=>by obtain⟨_,rfl⟩:=ex1 hl;rfl
 obtain⟨a32,_,F32⟩:=u32;have b32:=F32.binds (ps:=["_law_script","_law_k"]) λ_ _ _ _ _ _ us hl=>by obtain⟨_,_,rfl⟩:=ex2 hl;rfl
 obtain⟨a33,_,F33⟩:=u33;have b33:=F33.binds (ps:=["_law_cell_here"]) λ_ _ _ _ _ _ us hl=>by obtain⟨_,rfl⟩:=ex1 hl;rfl
 obtain⟨a34,_,F34⟩:=u34;have b34:=F34.binds (ps:=["_law_bag_here","_law_many"]) λ_ _ _ _ _ _ us hl=>by obtain⟨_,_,rfl⟩:=ex2 hl;rfl
 obtain⟨a35,_,F35⟩:=u35;have b35:=F35.binds (ps:=["_law_one","_law_two"]) λ_ _ _ _ _ _ us hl=>by obtain⟨_,_,rfl⟩:=ex2 hl;rfl
 obtain⟨a36,_,F36⟩:=u36;have b36:=F36.binds (ps:=["_law_top","_law_bottom"]) λ_ _ _ _ _ _ us hl=>by obtain⟨_,_,rfl⟩:=ex2 hl;rfl
 obtain⟨a37,_,F37⟩:=u37;have b37:=F37.binds (ps:=["_law_bag_here"]) λ_ _ _ _ _ _ us hl=>by obtain⟨_,rfl⟩:=ex1 hl;rfl
 obtain⟨a38,_,F38⟩:=u38;have b38:=F38.binds (ps:=["_law_bag_here","_law_p"]) λ_ _ _ _ _ _ us hl=>by obtain⟨_,_,rfl⟩:=ex2 hl;rfl
 obtain⟨a39,_,F39⟩:=u39;have b39:=F39.binds (ps:=["_law_p","_law_a","_law_b"]) λ_ _ _ _ _ _ us hl=>by obtain⟨_,_,_,rfl⟩:=ex3 hl;rfl
 obtain⟨a40,_,F40⟩:=u40;have b40:=F40.binds (ps:=["_law_p","_law_a","_law_b"]) λ_ _ _ _ _ _ us hl=>by obtain⟨_,_,_,rfl⟩:=ex3 hl;rfl
 obtain⟨a41,_,F41⟩:=u41;have b41:=F41.binds (ps:=["_law_p","_law_k"]) λ_ _ _ _ _ _ us hl=>by obtain⟨_,_,rfl⟩:=ex2 hl;rfl
 obtain⟨a42,_,F42⟩:=u42;have b42:=F42.binds (ps:=["_law_p","_law_a"]) λ_ _ _ _ _ _ us hl=>by obtain⟨_,_,rfl⟩:=ex2 hl;rfl
 obtain⟨a43,_,F43⟩:=u43;have b43:=F43.binds (ps:=["_law_bag_here","_law_p","_law_high","_law_wide"]) λ_ _ _ _ _ _ us hl=>by obtain⟨_,_,_,_,rfl⟩:=ex4 hl;rfl
 obtain⟨a44,_,F44⟩:=u44;have b44:=F44.binds (ps:=["_law_bag_here","_law_p","_law_high","_law_wide"]) λ_ _ _ _ _ _ us hl=>by obtain⟨_,_,_,_,rfl⟩:=ex4 hl;rfl
 obtain⟨a45,_,F45⟩:=u45;have b45:=F45.binds (ps:=["_law_table_here"]) λ_ _ _ _ _ _ us hl=>by obtain⟨_,rfl⟩:=ex1 hl;rfl
 obtain⟨a46,_,F46⟩:=u46;have b46:=F46.binds (ps:=["_law_p","_law_table_here"]) λ_ _ _ _ _ _ us hl=>by obtain⟨_,_,rfl⟩:=ex2 hl;rfl
 obtain⟨a47,_,F47⟩:=u47;have b47:=F47.binds (ps:=["_law_bag_here"]) λ_ _ _ _ _ _ us hl=>by obtain⟨_,rfl⟩:=ex1 hl;rfl
 obtain⟨a48,_,F48⟩:=u48;have b48:=F48.binds (ps:=["_law_bag_here","_law_p","_law_many","_law_arrows"]) λ_ _ _ _ _ _ us hl=>by obtain⟨_,_,_,_,rfl⟩:=ex4 hl;rfl
 obtain⟨a49,_,F49⟩:=u49;have b49:=F49.binds (ps:=["_law_p","_law_arrow","_law_k","_law_one","_law_other","_law_spot"]) λ_ _ _ _ _ _ us hl=>by obtain⟨_,_,_,_,_,_,rfl⟩:=ex6 hl;rfl
 obtain⟨a50,_,F50⟩:=u50;have b50:=F50.binds (ps:=["_law_p","_law_arrows","_law_one","_law_other"]) λ_ _ _ _ _ _ us hl=>by obtain⟨_,_,_,_,rfl⟩:=ex4 hl;rfl
 obtain⟨a51,_,F51⟩:=u51;have b51:=F51.binds (ps:=["_law_p","_law_many","_law_arrows","_law_first","_law_last"]) λ_ _ _ _ _ _ us hl=>by obtain⟨_,_,_,_,_,rfl⟩:=ex5 hl;rfl
 obtain⟨a52,_,F52⟩:=u52;have b52:=F52.binds (ps:=["_law_bag_here"]) λ_ _ _ _ _ _ us hl=>by obtain⟨_,rfl⟩:=ex1 hl;rfl
 obtain⟨a53,_,F53⟩:=u53;have b53:=F53.binds (ps:=["_law_p","_law_arrows","_law_many","_law_standings"]) λ_ _ _ _ _ _ us hl=>by obtain⟨_,_,_,_,rfl⟩:=ex4 hl;rfl
 obtain⟨a54,_,F54⟩:=u54;have b54:=F54.binds (ps:=["_law_ground","_law_drawing_here","_law_standing_here"]) λ_ _ _ _ _ _ us hl=>by obtain⟨_,_,_,rfl⟩:=ex3 hl;rfl
 obtain⟨a55,_,F55⟩:=u55;have b55:=F55.binds (ps:=["_law_ground","_law_drawing_here","_law_p","_law_arrows","_law_standing_here"]) λ_ _ _ _ _ _ us hl=>by obtain⟨_,_,_,_,_,rfl⟩:=ex5 hl;rfl
 obtain⟨a56,_,F56⟩:=u56;have b56:=F56.binds (ps:=["_law_bag_here","_law_ground","_law_p"]) λ_ _ _ _ _ _ us hl=>by obtain⟨_,_,_,rfl⟩:=ex3 hl;rfl
 have F57:=pX (st:=mm) l57 c57 k57;obtain⟨_,F58⟩:=u58;have b58:=F58.binds (ps:=["self","many","arrows"]) λ_ _ _ _ _ _ us hl=>by obtain⟨_,_,_,rfl⟩:=ex3 hl;rfl
 obtain⟨_,F59⟩:=u59;have b59:=F59.binds (ps:=["self","prime"]) λ_ _ _ _ _ _ us hl=>by obtain⟨_,_,rfl⟩:=ex2 hl;rfl
 have F60:mQ K "number" "Ground.number" je f60 _ D60:=⟨⟨oc60,od60,kV60,dc60,pm60,an60,cd60,ct60,sl60,rfl,l60,c60⟩⟩
 have b60:=EC (fd:=fnOf "number" "Ground.number" (iL je) (gn je) (aR je) (.ref D60) kV60 dc60 pm60 an60 cd60 ct60) (ps:=["self","top","bottom"]) (ds:=[.int 1 dt60]) dl60 rfl λus hl=>match us,(show us.length=2 by simpa using hl) with|[_,_],_=>⟨_,rfl,rfl⟩
 have bF60:=EC (fd:=fnOf "number" "Ground.number" (iL je) (gn je) (aR je) (.ref D60) kV60 dc60 pm60 an60 cd60 ct60) (ps:=["self","top","bottom"]) (ds:=[]) dl60 rfl λus hl=>match us,(show us.length=3 by simpa using hl) with|[_,_,_],_=>⟨_,rfl,rfl⟩
 obtain⟨_,F61⟩:=u61;have b61:=F61.binds (ps:=["self","a","b"]) λ_ _ _ _ _ _ us hl=>by obtain⟨_,_,_,rfl⟩:=ex3 hl;rfl
 obtain⟨_,F62⟩:=u62;have b62:=F62.binds (ps:=["self","thing"]) λ_ _ _ _ _ _ us hl=>by obtain⟨_,_,rfl⟩:=ex2 hl;rfl
 obtain⟨_,F63⟩:=u63;have b63:=F63.binds (ps:=["self","ground","drawing","sizes","tables"]) λ_ _ _ _ _ _ us hl=>by obtain⟨_,_,_,_,_,rfl⟩:=ex5 hl;rfl
 refine⟨fnOf "law" "law" (iL mm) (gn mm) (aR mm) .none kV57 dc57 pm57 an57 cd57 ct57,λs v=>.of_eq rfl,λbase KB _=>?_⟩;have hcb:=mZ KB hcL;have C1:az l.prog w K mg base "is_whole" 1 rn:=⟨_,_,_,Gw F1 T ,mg_of X G a1,F1.kp,b1⟩
 have C1A:az l.prog w K mg base "is_whole" 1 uB:=⟨_,_,_,Hb F1 T ,mg_of X G a1,F1.kp,b1⟩
 have C3:az l.prog w K mg base "is_arrow" 2 yE:=⟨_,_,_,FH F3 T C1,mg_of X G a3,F3.kp,b3⟩
 have C2:az l.prog w K mg base "makes_drawing" 3 yH:=⟨_,_,_,Gn F2 T C1 C3,mg_of X G a2,F2.kp,b2⟩
 have C58:fw l.prog w K mg base "Drawing" C 4 (ud C):=⟨_,_,_,lh F58 T C2,⟨mk,a58,i58,kc⟩,mg_of X G aC,b58⟩
 have C7:az l.prog w K mg base "leading_steps" 1 ye:=⟨_,_,_,k_ F7 T hpt,mg_of X G a7,F7.kp,b7⟩
 have C6:az l.prog w K mg base "shortened" 2 yK:=⟨_,_,_,Gr F6 T C7,mg_of X G a6,F6.kp,b6⟩
 have C5:az l.prog w K mg base "not_both_long" 3 spNbl:=⟨_,_,_,o7 F5 T C6,mg_of X G a5,F5.kp,b5⟩
 have C4:az l.prog w K mg base "common_divisor" 4 qd:=⟨_,_,_,pC F4 T C5,mg_of X G a4,F4.kp,b4⟩
 have C26:az l.prog w K mg base "is_prime" 1 yI:=⟨_,_,_,Gp F26 T ,mg_of X G a26,F26.kp,b26⟩
 have C27:az l.prog w K mg base "tells_ground" 2 yM:=⟨_,_,_,Gv F27 T C1 C26,mg_of X G a27,F27.kp,b27⟩
 have C28:az l.prog w K mg base "fraction" 5 wq:=⟨_,_,_,FJ F28 T hpt C4,mg_of X G a28,F28.kp,b28⟩
 have C29:az l.prog w K mg base "inverse" 1 spInv:=⟨_,_,_,pe F29 T ,mg_of X G a29,F29.kp,b29⟩
 have C30:az l.prog w K mg base "rest_of" 2 yJ:=⟨_,_,_,Gq F30 T C29,mg_of X G a30,F30.kp,b30⟩
 have C31:az l.prog w K mg base "is_fraction" 5 spFr:=⟨_,_,_,sY F31 T C1A C4,mg_of X G a31,F31.kp,b31⟩
 have C59:fw l.prog w K mg base "Ground" Cg 3 (wt Cg):=⟨_,_,_,FK F59 T C27,⟨mk_Cg,a59,i59,kc_Cg⟩,mg_of X G aCg,b59⟩
 have C60:qO l.prog w K mg base Cg "number" 6 (yg Cg) [.int 1]:=⟨_,_,_,_,kY F60 T C28 C30,⟨a60,i60,k60⟩,b60,.cons ⟨_,rfl⟩ .nil⟩
 have C61:jI l.prog w K mg base Cg "minus" 6 (spMin Cg):=⟨_,_,_,o8 F61 T C28,⟨a61,i61,F61.kp⟩,b61⟩
 have C62:jI l.prog w K mg base Cg "is_number" 6 (spIsN Cg):=⟨_,_,_,pd F62 T C1A C31,⟨a62,i62,F62.kp⟩,b62⟩
 have C10:az l.prog w K mg base "is_row" 7 (yi Cg):=⟨_,_,_,FL F10 T C62,mg_of X G a10,F10.kp,b10⟩
 have C9:az l.prog w K mg base "is_table" 8 (yk Cg):=⟨_,_,_,Gk F9 T C1A C10,mg_of X G a9,F9.kp,b9⟩
 have C17:az l.prog w K mg base "are_sizes" 2 (spSz C):=⟨_,_,_,sT F17 T C1,mg_of X G a17,F17.kp,b17⟩
 have C18:az l.prog w K mg base "is_table_of" 9 (spTo Cg):=⟨_,_,_,sR F18 T C9,mg_of X G a18,F18.kp,b18⟩
 have C19:az l.prog w K mg base "are_tables" 10 (spTs C Cg):=⟨_,_,_,sQ F19 T C18,mg_of X G a19,F19.kp,b19⟩
 have C63:fw l.prog w K mg base "Standing" Cs 11 (spSI Cs C Cg):=⟨_,_,_,Gs F63 T C17 C19,⟨mk_Cs,a63,i63,kc_Cs⟩,mg_of X G aCs,b63⟩
 have C8:az l.prog w K mg base "common_multiple" 5 spCmB:=⟨_,_,_,pB F8 T hpt C4,mg_of X G a8,F8.kp,b8⟩
 have C11:az l.prog w K mg base "whole_row" 6 (spWrZ Cg):=⟨_,_,_,oZ F11 T hpt C8,mg_of X G a11,F11.kp,b11⟩
 have C12:az l.prog w K mg base "tidied" 5 (vW Cg):=⟨_,_,_,kT F12 T hpt C4,mg_of X G a12,F12.kp,b12⟩
 have C13:az l.prog w K mg base "cleared" 6 (yG Cg):=⟨_,_,_,FI F13 T hpt C4 C12,mg_of X G a13,F13.kp,b13⟩
 have C14:az l.prog w K mg base "leading_row" 1 (spLr PL):=⟨_,_,_,sX F14 T hcb,mg_of X G a14,k14,b14⟩
 have C15:az l.prog w K mg base "swept" 7 (yL Cg PL):=⟨_,_,_,Gu F15 T C11 C12 C13 C14,mg_of X G a15,F15.kp,b15⟩
 have C16:az l.prog w K mg base "rank" 8 (yh Cg PL):=⟨_,_,_,kW F16 T C15,mg_of X G a16,F16.kp,b16⟩
 have C20:az l.prog w K mg base "stands_on" 1 (spOn Cs C Cg):=⟨_,_,_,sV F20 T ,mg_of X G a20,F20.kp,b20⟩
 have C21:az l.prog w K mg base "place_starts" 1 (vF Cs C Cg):=⟨_,_,_,o3 F21 T ,mg_of X G a21,F21.kp,b21⟩
 have C22:az l.prog w K mg base "difference_row" 7 (spDr Cs C Cg):=⟨_,_,_,sZ F22 T C21 C60 C61,mg_of X G a22,F22.kp,b22⟩
 have C23:az l.prog w K mg base "differences" 8 (spDif Cs C Cg):=⟨_,_,_,pk F23 T C20 C21 C22,mg_of X G a23,F23.kp,b23⟩
 have C24:az l.prog w K mg base "count_maps" 9 (spCm Cs C Cg PL):=⟨_,_,_,s_ F24 T C23 C16,mg_of X G a24,F24.kp,b24⟩
 have C25:az l.prog w K mg base "lets_by" 10 (tM Cs C Cg PL):=⟨_,_,_,pj F25 T C24,mg_of X G a25,F25.kp,b25⟩
 have C32:az l.prog w K mg base "_law_cell" 1 (ya K):=⟨_,_,_,lu F32 T ,mg_of X G a32,F32.kp,b32⟩
 have C33:az l.prog w K mg base "_law_bag" 1 spBag:=⟨_,_,_,pE F33 T ,mg_of X G a33,F33.kp,b33⟩
 have C34:az l.prog w K mg base "_law_draw" 1 iK:=⟨_,_,_,lj F34 T ,mg_of X G a34,F34.kp,b34⟩
 have C35:az l.prog w K mg base "_law_gcd" 1 vD:=⟨_,_,_,ph F35 T ,mg_of X G a35,F35.kp,b35⟩
 have C36B:az l.prog w K mg base "_law_lowest" 2 ue:=⟨_,_,_,k9 F36 T hpt C35,mg_of X G a36,F36.kp,b36⟩
 have C36Z:az l.prog w K mg base "_law_lowest" 3 yf:=⟨_,_,_,k8 F36 T hpt C35 C36B,mg_of X G a36,F36.kp,b36⟩
 have C39B:az l.prog w K mg base "_law_add" 3 (jN fk):=⟨_,_,_,lC F39 T C36B,mg_of X G a39,F39.kp,b39⟩
 have C40B:az l.prog w K mg base "_law_mul" 3 (jN dN):=⟨_,_,_,kZ F40 T C36B,mg_of X G a40,F40.kp,b40⟩
 have C41:az l.prog w K mg base "_law_int" 1 mn:=⟨_,_,_,pf F41 T ,mg_of X G a41,F41.kp,b41⟩
 have C42:az l.prog w K mg base "_law_back" 4 yF:=⟨_,_,_,lz F42 T C36Z,mg_of X G a42,F42.kp,b42⟩
 have C45:az l.prog w K mg base "_law_copy" 1 yc:=⟨_,_,_,lq F45 T ,mg_of X G a45,F45.kp,b45⟩
 have C46:az l.prog w K mg base "_law_reduced" 5 yd:=⟨_,_,_,k6 F46 T C45 C41 C39B C40B C42,mg_of X G a46,F46.kp,b46⟩
 have C37:az l.prog w K mg base "_law_small_prime" 2 spSmp:=⟨_,_,_,o4 F37 T C34,mg_of X G a37,F37.kp,b37⟩
 have C38:az l.prog w K mg base "_law_number" 2 (vV 7):=⟨_,_,_,kX F38 T C34,mg_of X G a38,F38.kp,b38⟩
 have C43:az l.prog w K mg base "_law_rows" 4 yj:=⟨_,_,_,kU F43 T C34 C38 C41,mg_of X G a43,F43.kp,b43⟩
 have C44:az l.prog w K mg base "_law_table" 5 spTbG:=⟨_,_,_,sS F44 T C43 C34 C38 C40B C39B,mg_of X G a44,F44.kp,b44⟩
 have C47:az l.prog w K mg base "_law_drawing" 2 (spOut way0):=⟨_,_,_,Gm F47 T C34,mg_of X G a47,F47.kp,b47⟩
 have C48:az l.prog w K mg base "_law_standing" 6 spLs7:=⟨_,_,_,o9 F48 T C34 C44,mg_of X G a48,F48.kp,b48⟩
 have C49:az l.prog w K mg base "_law_ask_row" 4 x_:=⟨_,_,_,lB F49 T C41 C39B C40B,mg_of X G a49,F49.kp,b49⟩
 have C50:az l.prog w K mg base "_law_count" 6 spCnt:=⟨_,_,_,pw F50 T C49 C46,mg_of X G a50,F50.kp,b50⟩
 have C54:az l.prog w K mg base "_law_made" 13 (spMd Cs C Cg):=⟨_,_,_,sW F54 T C63,mg_of X G a54,F54.kp,b54⟩
 have C55:az l.prog w K mg base "_law_right" 14 (spRgt C Cg PL):=⟨_,_,_,o6 F55 T C50 C54 C25,mg_of X G a55,F55.kp,b55⟩
 have C52:az l.prog w K mg base "_law_row_drawing" 2 spRd:=⟨_,_,_,sU F52 T C34,mg_of X G a52,F52.kp,b52⟩
 have C51:az l.prog w K mg base "_law_bar" 2 spBar:=⟨_,_,_,pD F51 T C41,mg_of X G a51,F51.kp,b51⟩
 have C53:az l.prog w K mg base "_law_sided" 2 spSid:=⟨_,_,_,o5 F53 T C41,mg_of X G a53,F53.kp,b53⟩
 have C56:az l.prog w K mg base "_law_bar_right" 14 (spBr Cg PL):=⟨_,_,_,td F56 T C52 C58 C34 C51 C54 C25 C41,mg_of X G a56,F56.kp,b56⟩
 exact o_ F57 T C32 C33 C37 C47 C48 C59 C58 C55 C56 C53 C54 C25
theorem walk {l:PySem.W.OpenLaw}{q:Program}{loose:List Str}{XP:(Str->Option Value)->Heap->Prop}{d:DefRec}{K:Params->Frag}{as:List Addr}{e:∀ (P:Params),as=List.map (λx=>x.fst) (K P)}{PL:Addr}(hq:importsNone q=true)(hn:l.most=some 63)(hdf:d.params.defaults=[])(hN:∀ p,(K p).lookup PL=none)(hC:∀ p,hdIn (K p) (PL+2) PL=true)(F:∀ (w:World) (mg:Str->Option Value) (fa:Addr) (h:Heap),(K w.params).In h->h.Ns mainGlobals mg->mg d.name=some (.ref fa)->
   ∃ fd:FuncData,(∀ (s:Shared) (u:Value),BindsTo s fd ⟨[u],[]⟩ [("_law_script",u)])/\∀ base:Heap,(K w.params).In base->base.Ns mainGlobals mg->ax l.prog w (K w.params) mg base aW 15 fa fd ["_law_script"] (vE (K w.params) PL)):
  PySem.W.WalkO q loose XP (PySem.W.kmHook K as e [PL]).says l.row.toRowW d [] (λf vs=>PySem.call f vs):=
 GN (n:=63) (k:=15) (x:="_law_script") (sp:=λw=>vE (K w.params) PL) (PL+2) PL 161 26 ("leading_row.<locals>." ++ "<lambda>") hq hn ⇑0 hdf ⟨rfl,⇑0,⇑0⟩ (λw h Y=>PySem.W.km_in_of Y) (λw h Y=>PySem.W.km_tabs_of Y PL (cF.mpr rfl)) hN hC F (λ_ H a ns Q E hl hS hT q=>⟨a,ns,rfl,hS,hl,hT,q⟩)
end Pf
namespace PySem.W.Fast
def tw3593416343818202647:=0
def tw18409688369901022704:=0
def tw9735618018252010595:=0
def tw17917435396957390900:=0
def tw4315657380600499019:=0
def tw2699817051804195027:=0
def tw7353137269088004757:=0
def tw5375206529350404688:=0
def tw816147153110555120:=0
def tw3253281153762455684:=0
def tw7143818493322203961:=0
def tw13527606141188530383:=0
def tw12790939734932762942:=0
def tw2841098963276642762:=0
def tw4892496645289837653:=0
def tw6631805662699817473:=0
def tw16053221737011358798:=0
def tw11523155309157906491:=0
def tw215521995847276302:=0
def tw8438665529462871614:=0
def tw2150786394999168086:=0
def tw16997938794863693458:=0
def tw15338781948289197512:=0
def tw5263604206379005395:=0
def tw11935226075503955944:=0
def tw17905442331684130456:=0
def tw8307656796635523163:=0
def tw8710507638415276910:=0
def tw13587963860183975136:=0
def tw12435608461077071589:=0
def tw3172207891194207003:=0
def tw8646434346031482245:=0
def tw16598990709009672466:=0
def tw974335483948779765:=0
def tw3288589756834891894:=0
def tw6360676139076066570:=0
def tw1915158556871089056:=0
def tw17973691363835568498:=0
def tw13762383680693102321:=0
def tw13656550322331602959:=0
def tw5313063124846839175:=0
def tw13160290661343520256:=0
def tw3383055126593986359:=0
def tw10762792845627796757:=0
def tw7862675763259631087:=0
def tw10988103749510002494:=0
def tw11176380866534162167:=0
def tw16825610242545686064:=0
def tw11878113410129529925:=0
def tw5069657837937328904:=0
def tw10032071081080313967:=0
def tw17530750840064749518:=0
def tw7545901343308671220:=0
def tw1620251588389329373:=0
def tw6063257150682652578:=0
def tw2031808500065802544:=0
def tw15998750618392986308:=0
def tw12009071567218511245:=0
def tw8168928307231577866:=0
def tw3933429349618401285:=0
def tw5584055572822502709:=0
def tw2886210828509411418:=0
def tw10760375941140450994:=0
def tw6183700140656567442:=0
def tw8596892711655420477:=0
def tw3312252083881310201:=0
def tw4133591798184259904:=0
def tw5852561469027544582:=0
def tw303818786438971217:=0
def tw1258047939880384086:=0
def tw6565412103927097097:=0
def tw11948167818886403246:=0
def tw6988786199886470401:=0
def tw1902396224098706470:=0
def tw10223739940251390521:=0
def tw10399294112518909377:=0
def tw3309170142704960767:=0
def tw14439121121153819832:=0
def tw1588744360949083594:=0
def tw11672286866320228190:=0
def tw18396663455298949531:=0
def tw6242186112615205392:=0
def tw6195615527952061175:=0
def tw2649252127511146827:=0
def tw11256836788190071841:=0
def tw12540978795844800827:=0
def tw3542876936056599751:=0
def tw7934033202446987355:=0
def tw9260214431825615027:=0
def tw5411399637739992212:=0
def tw17625610675170814489:=0
def tw17639037549848919287:=0
def tw18220469164604856473:=0
def tw9217046918530636909:=0
def tw9879296693094626018:=0
def tw2637607708880738058:=0
def tw6820069617619254216:=0
def tw2920274543538195105:=0
def tw8240011370917336166:=0
def tw10463142983725693942:=0
def tw11790482959563522160:=0
def tw16656200534677374851:=0
def tw3787849501745028950:=0
def tw1188329826444055065:=0
def tw15466774601962831440:=0
def tw8859637569997956270:=0
def tw4720171582418227300:=0
def tw10561222392438212910:=0
def tw6398822871683376365:=0
def tw14617994001483743980:=0
def tw11896296233911309088:=0
def tw9036840013629069380:=0
def tw17217705386699432850:=0
def tw4640949835400979512:=0
def tw16483471882957046099:=0
def tw14791303501340573556:=0
def tw16845330880728982228:=0
def tw12796720081252326619:=0
def tw14121184446863216840:=0
def tw881088697902940953:=0
def tw350279517170383856:=0
def tw8342014574887847078:=0
def tw2070912289243451943:=0
def tw8556198315826669252:=0
def tw10774077260215778719:=0
def tw3039716961764185492:=0
def tw15468768224897904378:=0
def tw10100806666135900159:=0
def tw9393691678777329751:=0
def tw162501912119045727:=0
def tw18005230252167140004:=0
def tw1410900536993502170:=0
def tw8830507010372922106:=0
def tw16894499868886925334:=0
def tw17810244991300812869:=0
def tw11619859789009436163:=0
def tw7463640680556176625:=0
def tw9049167355400616171:=0
def tw16771876020068433467:=0
def tw8611880780739068148:=0
def tw14524851184581330436:=0
def tw5189403107184297057:=0
def tw11963611288228889074:=0
def tw9421188575328949612:=0
def tw17831304730568711127:=0
def tw12911967388865995920:=0
def tw2740445888200641625:=0
def tw18337206643399157531:=0
def tw10468882346027096317:=0
def tw3103512464520482560:=0
def tw9890061711019131013:=0
def tw38266684337133922:=0
def tw17261314882710538502:=0
def tw13709387369078770615:=0
def tw10237550807204065511:=0
def tw14413549718088963209:=0
def tw12488295032394163029:=0
def tw15163194652987923647:=0
def tw13251538203190355841:=0
def tw14308485113387605620:=0
def tw6782455510367961798:=0
def tw18319202921822216165:=0
def tw4261682682124057232:=0
def tw5458816696401693692:=0
def tw2821717443274712414:=0
def tw6725320087211432819:=0
def tw8425931339391855539:=0
def tw6913145536973331521:=0
def tw11502532625688368924:=0
def tw15145770536698633999:=0
def tw12467900396991341900:=0
def tw15670350557235681312:=0
def tw11086255960404931440:=0
def tw4801009061203417056:=0
def tw6135059623322739944:=0
def tw14408365487373849553:=0
def tw15333699702408092422:=0
def tw7684651514891489148:=0
def tw2471248058212494247:=0
def tw13477013506539315890:=0
def tw8452450517164334935:=0
def tw8423279404197218244:=0
def tw5657422657264957582:=0
def tw3525784582351837154:=0
def tw4821182793797339512:=0
def tw9705104872282827279:=0
def tw17966673780954404652:=0
def tw10440157293297569357:=0
def tw1781494013444876195:=0
def tw13442527382778840211:=0
def tw14645986012758835453:=0
def tw10078218694725575230:=0
def tw13402726643837511454:=0
def tw1825265427862317791:=0
def tw17876561810894310477:=0
def tw15902151325489849002:=0
def tw16967569476368482118:=0
def tw1060956140704961986:=0
def tw14426400262294752739:=0
def tw4971323920260451064:=0
def tw5024500336986974361:=0
def tw5492623810639204360:=0
def tw4663977071777801498:=0
def tw3112232439807115682:=0
def tw1450849233466714202:=0
def tw9052597787927686854:=0
def tw13260135434506316748:=0
def tw12070773789247299604:=0
def tw10131096468127181804:=0
def tw7845370031914206847:=0
def tw16812422165516153479:=0
def tw8626675726945272869:=0
def tw12505670606144779630:=0
def tw6901158409438534910:=0
def tw9749698118051849443:=0
def tw15376328932526178009:=0
def tw15395606850483410980:=0
def tw18128001314585413763:=0
def tw281699975111032272:=0
def tw12273914735883865770:=0
def tw10652740870972913367:=0
def tw564953030209627544:=0
def tw2257287385758718944:=0
def tw5958471555938947642:=0
def tw14044298385033078297:=0
def tw4984534171534603748:=0
def tw12635871836495924316:=0
def tw9091127203404436511:=0
def tw284470289768323817:=0
def tw16263117826784670386:=0
def tw14487908346459081058:=0
def tw2806741057299290826:=0
def tw9842734274770121717:=0
def tw2078020638943656573:=0
def tw7303584809989975241:=0
def tw5754671823125394726:=0
def tw13635345139870632539:=0
def tw11674380387172648374:=0
def tw13125800383446144580:=0
def tw15931009288800855614:=0
def tw8504113307576342396:=0
def tw13559199256149244956:=0
def tw16711676228227911988:=0
def tw18424498016678447233:=0
def tw17146004436973872835:=0
def tw9852990230870294188:=0
def tw12091049982088736938:=0
def tw15225564537403981093:=0
def tw6200011612272571273:=0
def tw4131349954616359653:=0
def tw13294502217056859459:=0
def tw14566412608516876320:=0
def tw15214289643653239272:=0
def tw1728533813709680181:=0
end PySem.W.Fast
open PySem PySem.W PyProof.Rows
local macro_rules | `(tactic| walk_at "v")=>`(tactic| exact⟨_,⟨⟨_,_,_,_,_,_,_,_,_,rfl,by k_is,by k_is⟩,by k_is⟩⟩)
local macro_rules | `(tactic| walk_at "u")=>`(tactic| exact⟨by k_is,_,⟨⟨_,_,_,_,_,_,_,_,_,rfl,by k_is,by k_is⟩,by k_is⟩⟩)
set_option maxRecDepth 100000 in
set_option maxHeartbeats 0 in
theorem PySem.Challenge.cw_limbtables_k66_papers_of_the_fixed_holds : PySem.Challenge.rw_limbtables_k66_papers_of_the_fixed.Holds := by
 w_on;o_law;k_head;(case hw=>w_witness2)
 k_fill
 refine Pf.walk (l:=PySem.Challenge.rw_limbtables_k66_papers_of_the_fixed) ⋯ rfl rfl (λp=>by kernel_rfl) (λp=>by kernel_rfl) ?F
 case F=>
  intro w mg fa h KX G hmg;refine' Pf.xN rfl KX G hmg ?u1 ?u2 ?u3 ?u4 ?u5 ?u6 ?u7 ?u8 ?u9 ?u10 ?u11 ?u12 ?u13 ?a14 ?l14 ?c14 ?k14 ?u15 ?u16 ?u17 ?u18 ?u19 ?u20 ?u21 ?u22 ?u23 ?u24 ?u25 ?u26 ?u27 ?u28 ?u29 ?u30 ?u31 ?u32 ?u33 ?u34 ?u35 ?u36 ?u37 ?u38 ?u39 ?u40 ?u41 ?u42 ?u43 ?u44 ?u45 ?u46 ?u47 ?u48 ?u49 ?u50 ?u51 ?u52 ?u53 ?u54 ?u55 ?u56 ?a57 ?l57 ?c57 ?k57 ?aC ?a58 ?i58 ?u58 ?pg ?hd ?po ?sa ?mk ?kc ?nM ?nA ?aCg ?a59 ?i59 ?u59 ?a60 ?i60 ?l60 ?dl60 ?c60 ?k60 ?a61 ?i61 ?u61 ?a62 ?i62 ?u62 ?pg_Cg ?hd_Cg ?po_Cg ?sa_Cg ?mk_Cg ?kc_Cg ?nP ?aCs ?a63 ?i63 ?u63 ?pg_Cs ?hd_Cs ?po_Cs ?sa_Cs ?mk_Cs ?kc_Cs ?nSg ?nSd ?nSs ?nSt ?g1 ?g2 ?g3 ?g4 ?g5 ?z0 ?z1 ?z2 ?z3 ?z4 ?z5 ?z6 ?z7 ?z8 ?z9 ?z10 ?z11 ?z12 ?z13 ?z14 ?hcL ?x_ic1 ?x_ic2 ?x_ic3 ?x_ic4
  (case u1|u2|u3|u4|u5|u6|u7|u8|u9|u10|u11|u12|u13=>walk_at "u")
  (case a14|l14|c14|k14=>k_is)
  (case u15|u16|u17|u18|u19|u20|u21|u22|u23|u24|u25|u26|u27|u28|u29|u30|u31|u32|u33|u34|u35|u36|u37|u38|u39|u40|u41|u42|u43|u44|u45|u46|u47|u48|u49|u50|u51|u52|u53|u54|u55|u56=>walk_at "u")
  (case a57|l57|c57|k57|aC|a58|i58=>k_is)
  (case u58=>walk_at "v")
  (case pg|hd|po|sa|mk|kc|nM|nA|aCg|a59|i59=>k_is)
  (case u59=>walk_at "v")
  (case a60|i60|l60|dl60|c60|k60|a61|i61=>k_is)
  (case u61=>walk_at "v")
  (case a62|i62=>k_is)
  (case u62=>walk_at "v")
  (case pg_Cg|hd_Cg|po_Cg|sa_Cg|mk_Cg|kc_Cg|nP|aCs|a63|i63=>k_is)
  (case u63=>walk_at "v")
  (case pg_Cs|hd_Cs|po_Cs|sa_Cs|mk_Cs|kc_Cs|nSg|nSd|nSs|nSt|g1|g2|g3|g4|g5|z0|z1|z2|z3|z4|z5|z6|z7|z8|z9|z10|z11|z12|z13|z14=>k_is)
  (case hcL=>kernel_rfl)
  (case x_ic1|x_ic2|x_ic3|x_ic4=>k_is)
#print axioms PySem.Challenge.cw_limbtables_k66_papers_of_the_fixed_holds