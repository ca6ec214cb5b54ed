import PyProof.Rows.All
import Wide.All
import OpenK.AllK
import Wide.FinOn
import Lean
import PyProof.EqAt
import PyProof.EqKinds
import PyProof.TupleCall
import PyProof.ZipIter
import PyProof.Rows.ZipGen
import PyProof.SumWalkG
import PyProof.EnumMake
import PyProof.EnumFor
import PyProof.FactsAll.int_6
import PyProof.AutoIntG2
import PyProof.RulesAs
import PyProof.Rows.TopTwo
import PyProof.ExcArgsOwn
import PyProof.ExcBaseAll.ValueError
import OpenK.KDescr
import KE.RegKIsAll
import PyProof.EqKinds
import KE.KRevIter
import PyProof.ListNew
import KE.KItemsList
import KE.KLam
import KE.KMinKey
import PyProof.MinMaxWalk
import PyProof.NeKinds
import PySem.Challenge.RW_limbtables_k63_papers_of_changes
open PySem.W (Frag)
variable{P:PySem.Program}{w:PySem.World}{K:PySem.W.Frag}{mg:PySem.Str->Option PySem.Value}{base:PySem.Heap}{f:PySem.Addr}{fd:PySem.FuncData}
local macro_rules|`(∅)=>`(by omega)
local macro_rules|`(⋯)=>`(by decide +kernel)
local macro_rules|`(⇑0)=>`(by decide)
local macro_rules|`(⇑1)=>`(by rfl)
noncomputable section
abbrev Jaa:=@List.getElem?_eq_getElem
abbrev Jab:=@List.length_map
abbrev Jac:=@List.getD_eq_getElem?_getD
abbrev Jad:=@List.getElem?_map
abbrev Jae:=@List.mem_of_getElem?
abbrev Jaf:=@List.getElem?_eq_some_iff
abbrev Jag:=@Nat.le_refl
abbrev Jah:=@decide_eq_true
abbrev Jai:=@PySem.wpAny_bind
abbrev Jaj:=@List.length_append
abbrev Jak:=@List.getElem?_eq_none
abbrev Jal:=@List.length_range
abbrev Jam:=@List.getElem?_append_right
abbrev Jan:=@PySem.Heap.lt_size
abbrev Jao:=@List.getElem?_append_left
abbrev Jap:=@List.getElem_mem
abbrev Jaq:=@PySem.Heap.get?_push_of_some
abbrev Jar:=@List.mem_or_eq_of_mem_set
abbrev Jas:=@List.getElem?_range
abbrev Jat:=@of_decide_eq_true
abbrev Jau:=@Nat.lt_of_lt_of_le
abbrev Jav:=@List.length_set
abbrev Jaw:=@List.size_toArray
abbrev Jax:=@Bool.false_ne_true
abbrev Jay:=@decide_eq_false
abbrev Jaz:=@List.mem_map
abbrev Ja0:=@List.mem_range
abbrev Ja1:=@List.mem_iff_getElem
abbrev Ja2:=@PySem.Heap.get?_push_size
abbrev Ja3:=@List.mem_singleton
abbrev Ja4:=@Nat.le_trans
abbrev Ja5:=@PySem.PassesOwn.never
abbrev Ja6:=@List.lookup_cons
abbrev Ja7:=@Int.emod_lt_of_pos
abbrev Ja8:=@List.length_replicate
abbrev Ja9:=@PySem.wpAny_pure
abbrev Jba:=@List.mem_append
abbrev Jbb:=@List.map_append
abbrev Jbc:=@Classical.byContradiction
abbrev Jbd:=@PySem.boot_len
abbrev Jbe:=@List.all_eq_true
abbrev Jbf:=@Int.toNat_of_nonneg
abbrev Jbg:=@PyProof.Rows.boot_isinstance
abbrev Jbh:=@PySem.F.slot_list_append
abbrev Jbi:=@PySem.F.type_list_append
abbrev Jbj:=@List.mem_append_right
abbrev Jbk:=@Nat.lt_of_le_of_lt
abbrev Jbl:=@Int.emod_nonneg
abbrev Jbm:=@PySem.F.plainAttrs_list
abbrev Jbn:=@List.mem_cons_of_mem
abbrev Jbo:=@List.mem_cons
abbrev Jbp:=@Option.some.inj
abbrev Jbq:=@PySem.wpAny_truthy_bool
abbrev Jbr:=@Nat.ne_of_lt
abbrev Jbs:=@Int.fdiv_eq_ediv_of_nonneg
abbrev Jbt:=@PySem.Heap.size_push
abbrev Jbu:=@Int.toNat_natCast
abbrev Jbv:=@Nat.le_of_lt
abbrev Jbw:=@beq_iff_eq
abbrev Jbx:=@PySem.mem_of_lookup
abbrev Jby:=@List.getElem?_replicate
abbrev Jbz:=@Nat.le_of_succ_le
abbrev Jb0:=@Int.emod_eq_of_lt
abbrev Jb1:=@Bool.eq_iff_iff
abbrev Jb2:=@PySem.W.kia_one
abbrev Jb3:=@Nat.mul_le_mul
abbrev Jb4:=@Nat.lt_irrefl
abbrev Jb5:=@Nat.zero_le
abbrev Jb6:=@PyProof.Rows.callWith_type1
abbrev Jb7:=@Int.gcd_dvd_left
abbrev Jb8:=@List.replicate_succ
abbrev Jb9:=@List.mem_cons_self
abbrev Jca:=@if_true
abbrev Jcb:=@Bool.and_eq_true
abbrev Jcc:=@Int.gcd_dvd_right
abbrev Jcd:=@List.getElem?_set
abbrev Jce:=@List.range_succ
abbrev Jcf:=@List.not_mem_nil
abbrev Jcg:=@Classical.choose_spec
abbrev Jch:=@Int.natAbs_mul
abbrev Jci:=@PySem.wpAny_mono
abbrev Jcj:=@PySem.wpAny_passesOwn
abbrev Jck:=@PySem.wpAny_pyIter_list
abbrev Jcl:=@PyProof.Rows.boot_list
abbrev Jcm:=@List.ext_getElem?
abbrev Jcn:=@Int.mul_le_mul_of_nonneg_right
abbrev Jco:=@Nat.add_mul
abbrev Jcp:=@List.length_drop
abbrev Jcq:=@Nat.le_of_not_lt
abbrev Jcr:=@Int.mul_nonneg
abbrev Jcs:=@PySem.W.cellsFrom_some
abbrev Jct:=@PySem.wpAny_setField_rec
abbrev Jcu:=@decide_eq_true_iff
abbrev Jcv:=@List.mem_filter
abbrev Jcw:=@PySem.F.slot_int_bit_length
abbrev Jcx:=@PySem.F.type_int_bit_length
abbrev Jcy:=@List.flatten_cons
abbrev Jcz:=@Nat.lt_succ_of_lt
abbrev Jc0:=@Nat.pow_le_pow_right
abbrev Jc1:=@Int.natAbs_of_nonneg
abbrev Jc2:=@PySem.intBits_le_iff
abbrev Jc3:=@Nat.pow_lt_pow_right
abbrev Jc4:=@PySem.wpAny_seqItems
abbrev Jc5:=@List.length_cons
abbrev Jc6:=@decide_eq_decide
abbrev Jc7:=@beq_eq_false_iff_ne
abbrev Jc8:=@Int.ediv_mul_cancel
abbrev Jc9:=@Int.mul_pos
abbrev Jda:=@PySem.wpAny_field
abbrev Jdb:=@Nat.add_le_add_left
abbrev Jdc:=@Option.isSome_iff_exists
abbrev Jdd:=@Nat.sub_self
abbrev Jde:=@PySem.wpAny_Call_Name_kw
abbrev Jdf:=@Bool.or_eq_true
abbrev Jdg:=@List.all_cons
abbrev Jdh:=@Bool.true_and
abbrev Jdi:=@PySem.wpAny_nextOf_list_item
abbrev Jdj:=@Int.fmod_nonneg_of_pos
abbrev Jdk:=@PySem.F.plainAttrs_int
abbrev Jdl:=@congrArg
abbrev Jdm:=@Bool.false_and
abbrev Jdn:=@PySem.wpAny_isTrue_Compare1
abbrev Jdo:=@Int.zero_add
abbrev Jdp:=@Int.emod_add_mul_ediv
abbrev Jdq:=@Ne.symm
abbrev Jdr:=@Nat.lt_succ_self
abbrev Jds:=@List.length_take
abbrev Jdt:=@PySem.wpAny_pyIter_zip
abbrev Jdu:=@Nat.le_add_right
abbrev Jdv:=@Bool.and_true
abbrev Jdw:=@PyProof.Rows.boot_all
abbrev Jdx:=@List.filterMap_cons
abbrev Jdy:=@PySem.wpAny_execs_nil
abbrev Jdz:=@PySem.W.plainGet_of
abbrev Jd0:=@List.nodup_cons
abbrev Jd1:=@Int.ediv_nonneg
abbrev Jd2:=@PySem.F.slot_zip_next
abbrev Jd3:=@Nat.ne_of_gt
abbrev Jd4:=@Int.natCast_nonneg
abbrev Jd5:=@PySem.W.callWith_K
abbrev Jd6:=@PySem.SeqAt.EqAt.of_refs
abbrev Jd7:=@Prod.ext
abbrev Jd8:=@Int.gcd_comm
abbrev Jd9:=@Int.fmod_lt_of_pos
abbrev Jea:=@List.mem_replicate
abbrev Jeb:=@List.nodup_append
abbrev Jec:=@PySem.wpAny_standAt
abbrev Jed:=@PySem.wpAny_onRaise
abbrev Jee:=@or_false
set_option compiler.postponeCompile true
set_option bootstrap.genMatcherCode false
set_option genSizeOf false
set_option Elab.async false
set_option linter.all false
namespace L2
theorem Zpm {p f1 f2 f3 f4 f5 f6 f7 f8 f9:Prop}{G:Prop}(h:p/\f1/\f2/\f3/\f4/\f5/\f6/\f7/\f8/\f9)(f:p->f1->f2->f3->f4->f5->f6->f7->f8->f9->G):G:= f h.1 h.2.1 h.2.2.1 h.2.2.2.1 h.2.2.2.2.1 h.2.2.2.2.2.1 h.2.2.2.2.2.2.1 h.2.2.2.2.2.2.2.1 h.2.2.2.2.2.2.2.2.1 h.2.2.2.2.2.2.2.2.2
theorem xE0_12 {p f1 f2 f3 f4 f5 f6 f7 f8 f9 g0 g1:Prop}{G:Prop}(h:p/\f1/\f2/\f3/\f4/\f5/\f6/\f7/\f8/\f9/\g0/\g1)(f:p->f1->f2->f3->f4->f5->f6->f7->f8->f9->g0->g1->G):G:= f h.1 h.2.1 h.2.2.1 h.2.2.2.1 h.2.2.2.2.1 h.2.2.2.2.2.1 h.2.2.2.2.2.2.1 h.2.2.2.2.2.2.2.1 h.2.2.2.2.2.2.2.2.1 h.2.2.2.2.2.2.2.2.2.1 h.2.2.2.2.2.2.2.2.2.2.1 h.2.2.2.2.2.2.2.2.2.2.2
theorem Za2 {p f1 f2:Prop}{G:Prop}(h:p/\f1/\f2)(f:p->f1->f2->G):G:= f h.1 h.2.1 h.2.2
theorem Zcb {p f1 f2 f3:Prop}{G:Prop}(h:p/\f1/\f2/\f3)(f:p->f1->f2->f3->G):G:= f h.1 h.2.1 h.2.2.1 h.2.2.2
theorem Zc3 {p f1 f2 f3 f4:Prop}{G:Prop}(h:p/\f1/\f2/\f3/\f4)(f:p->f1->f2->f3->f4->G):G:= f h.1 h.2.1 h.2.2.1 h.2.2.2.1 h.2.2.2.2
theorem Zey {p f1 f2 f3 f4 f5:Prop}{G:Prop}(h:p/\f1/\f2/\f3/\f4/\f5)(f:p->f1->f2->f3->f4->f5->G):G:= f h.1 h.2.1 h.2.2.1 h.2.2.2.1 h.2.2.2.2.1 h.2.2.2.2.2
theorem xE0_7 {p f1 f2 f3 f4 f5 f6:Prop}{G:Prop}(h:p/\f1/\f2/\f3/\f4/\f5/\f6)(f:p->f1->f2->f3->f4->f5->f6->G):G:= f h.1 h.2.1 h.2.2.1 h.2.2.2.1 h.2.2.2.2.1 h.2.2.2.2.2.1 h.2.2.2.2.2.2
theorem xE0_8 {p f1 f2 f3 f4 f5 f6 f7:Prop}{G:Prop}(h:p/\f1/\f2/\f3/\f4/\f5/\f6/\f7)(f:p->f1->f2->f3->f4->f5->f6->f7->G):G:= f h.1 h.2.1 h.2.2.1 h.2.2.2.1 h.2.2.2.2.1 h.2.2.2.2.2.1 h.2.2.2.2.2.2.1 h.2.2.2.2.2.2.2
theorem xE0_9 {p f1 f2 f3 f4 f5 f6 f7 f8:Prop}{G:Prop}(h:p/\f1/\f2/\f3/\f4/\f5/\f6/\f7/\f8)(f:p->f1->f2->f3->f4->f5->f6->f7->f8->G):G:= f h.1 h.2.1 h.2.2.1 h.2.2.2.1 h.2.2.2.2.1 h.2.2.2.2.2.1 h.2.2.2.2.2.2.1 h.2.2.2.2.2.2.2.1 h.2.2.2.2.2.2.2.2
theorem xE10_2 {A B C D E F I J K L:Type}{p f1:A->B->C->D->E->F->I->J->K->L->Prop}{G:Prop}(h:∃ a b c d e i j k l m,p a b c d e i j k l m/\f1 a b c d e i j k l m)(f:∀ a b c d e i j k l m,p a b c d e i j k l m->f1 a b c d e i j k l m->G):G:=h.elim λa h=>h.elim λb h=>h.elim λc h=>h.elim λd h=>h.elim λe h=>h.elim λi h=>h.elim λj h=>h.elim λk h=>h.elim λl h=>h.elim λm h=>f a b c d e i j k l m h.1 h.2
theorem xE10_4 {A B C D E F I J K L:Type}{p f1 f2 f3:A->B->C->D->E->F->I->J->K->L->Prop}{G:Prop}(h:∃ a b c d e i j k l m,p a b c d e i j k l m/\f1 a b c d e i j k l m/\f2 a b c d e i j k l m/\f3 a b c d e i j k l m)(f:∀ a b c d e i j k l m,p a b c d e i j k l m->f1 a b c d e i j k l m->f2 a b c d e i j k l m->f3 a b c d e i j k l m->G):G:=h.elim λa h=>h.elim λb h=>h.elim λc h=>h.elim λd h=>h.elim λe h=>h.elim λi h=>h.elim λj h=>h.elim λk h=>h.elim λl h=>h.elim λm h=>f a b c d e i j k l m h.1 h.2.1 h.2.2.1 h.2.2.2
theorem xE11_2 {A B C D E F I J K L M:Type}{p f1:A->B->C->D->E->F->I->J->K->L->M->Prop}{G:Prop}(h:∃ a b c d e i j k l m n,p a b c d e i j k l m n/\f1 a b c d e i j k l m n)(f:∀ a b c d e i j k l m n,p a b c d e i j k l m n->f1 a b c d e i j k l m n->G):G:=h.elim λa h=>h.elim λb h=>h.elim λc h=>h.elim λd h=>h.elim λe h=>h.elim λi h=>h.elim λj h=>h.elim λk h=>h.elim λl h=>h.elim λm h=>h.elim λn h=>f a b c d e i j k l m n h.1 h.2
theorem xE11_4 {A B C D E F I J K L M:Type}{p f1 f2 f3:A->B->C->D->E->F->I->J->K->L->M->Prop}{G:Prop}(h:∃ a b c d e i j k l m n,p a b c d e i j k l m n/\f1 a b c d e i j k l m n/\f2 a b c d e i j k l m n/\f3 a b c d e i j k l m n)(f:∀ a b c d e i j k l m n,p a b c d e i j k l m n->f1 a b c d e i j k l m n->f2 a b c d e i j k l m n->f3 a b c d e i j k l m n->G):G:=h.elim λa h=>h.elim λb h=>h.elim λc h=>h.elim λd h=>h.elim λe h=>h.elim λi h=>h.elim λj h=>h.elim λk h=>h.elim λl h=>h.elim λm h=>h.elim λn h=>f a b c d e i j k l m n h.1 h.2.1 h.2.2.1 h.2.2.2
theorem xE13_2 {A B C D E F I J K L M N O:Type}{p f1:A->B->C->D->E->F->I->J->K->L->M->N->O->Prop}{G:Prop}(h:∃ a b c d e i j k l m n o q,p a b c d e i j k l m n o q/\f1 a b c d e i j k l m n o q)(f:∀ a b c d e i j k l m n o q,p a b c d e i j k l m n o q->f1 a b c d e i j k l m n o q->G):G:=h.elim λa h=>h.elim λb h=>h.elim λc h=>h.elim λd h=>h.elim λe h=>h.elim λi h=>h.elim λj h=>h.elim λk h=>h.elim λl h=>h.elim λm h=>h.elim λn h=>h.elim λo h=>h.elim λq h=>f a b c d e i j k l m n o q h.1 h.2
theorem xE13_4 {A B C D E F I J K L M N O:Type}{p f1 f2 f3:A->B->C->D->E->F->I->J->K->L->M->N->O->Prop}{G:Prop}(h:∃ a b c d e i j k l m n o q,p a b c d e i j k l m n o q/\f1 a b c d e i j k l m n o q/\f2 a b c d e i j k l m n o q/\f3 a b c d e i j k l m n o q)(f:∀ a b c d e i j k l m n o q,p a b c d e i j k l m n o q->f1 a b c d e i j k l m n o q->f2 a b c d e i j k l m n o q->f3 a b c d e i j k l m n o q->G):G:=h.elim λa h=>h.elim λb h=>h.elim λc h=>h.elim λd h=>h.elim λe h=>h.elim λi h=>h.elim λj h=>h.elim λk h=>h.elim λl h=>h.elim λm h=>h.elim λn h=>h.elim λo h=>h.elim λq h=>f a b c d e i j k l m n o q h.1 h.2.1 h.2.2.1 h.2.2.2
theorem Zpl {A B C D E F I J K L M N O P:Type}{p f1:A->B->C->D->E->F->I->J->K->L->M->N->O->P->Prop}{G:Prop}(h:∃ a b c d e i j k l m n o q r,p a b c d e i j k l m n o q r/\f1 a b c d e i j k l m n o q r)(f:∀ a b c d e i j k l m n o q r,p a b c d e i j k l m n o q r->f1 a b c d e i j k l m n o q r->G):G:=h.elim λa h=>h.elim λb h=>h.elim λc h=>h.elim λd h=>h.elim λe h=>h.elim λi h=>h.elim λj h=>h.elim λk h=>h.elim λl h=>h.elim λm h=>h.elim λn h=>h.elim λo h=>h.elim λq h=>h.elim λr h=>f a b c d e i j k l m n o q r h.1 h.2
theorem Zpk {A B C D E F I J K L M N O P:Type}{p f1 f2 f3:A->B->C->D->E->F->I->J->K->L->M->N->O->P->Prop}{G:Prop}(h:∃ a b c d e i j k l m n o q r,p a b c d e i j k l m n o q r/\f1 a b c d e i j k l m n o q r/\f2 a b c d e i j k l m n o q r/\f3 a b c d e i j k l m n o q r)(f:∀ a b c d e i j k l m n o q r,p a b c d e i j k l m n o q r->f1 a b c d e i j k l m n o q r->f2 a b c d e i j k l m n o q r->f3 a b c d e i j k l m n o q r->G):G:=h.elim λa h=>h.elim λb h=>h.elim λc h=>h.elim λd h=>h.elim λe h=>h.elim λi h=>h.elim λj h=>h.elim λk h=>h.elim λl h=>h.elim λm h=>h.elim λn h=>h.elim λo h=>h.elim λq h=>h.elim λr h=>f a b c d e i j k l m n o q r h.1 h.2.1 h.2.2.1 h.2.2.2
theorem Zni {A B C D E F I J K L M N O P Q:Type}{p f1:A->B->C->D->E->F->I->J->K->L->M->N->O->P->Q->Prop}{G:Prop}(h:∃ a b c d e i j k l m n o q r s,p a b c d e i j k l m n o q r s/\f1 a b c d e i j k l m n o q r s)(f:∀ a b c d e i j k l m n o q r s,p a b c d e i j k l m n o q r s->f1 a b c d e i j k l m n o q r s->G):G:=h.elim λa h=>h.elim λb h=>h.elim λc h=>h.elim λd h=>h.elim λe h=>h.elim λi h=>h.elim λj h=>h.elim λk h=>h.elim λl h=>h.elim λm h=>h.elim λn h=>h.elim λo h=>h.elim λq h=>h.elim λr h=>h.elim λs h=>f a b c d e i j k l m n o q r s h.1 h.2
theorem Zva {A B C D E F I J K L M N O P Q:Type}{p f1 f2 f3:A->B->C->D->E->F->I->J->K->L->M->N->O->P->Q->Prop}{G:Prop}(h:∃ a b c d e i j k l m n o q r s,p a b c d e i j k l m n o q r s/\f1 a b c d e i j k l m n o q r s/\f2 a b c d e i j k l m n o q r s/\f3 a b c d e i j k l m n o q r s)(f:∀ a b c d e i j k l m n o q r s,p a b c d e i j k l m n o q r s->f1 a b c d e i j k l m n o q r s->f2 a b c d e i j k l m n o q r s->f3 a b c d e i j k l m n o q r s->G):G:=h.elim λa h=>h.elim λb h=>h.elim λc h=>h.elim λd h=>h.elim λe h=>h.elim λi h=>h.elim λj h=>h.elim λk h=>h.elim λl h=>h.elim λm h=>h.elim λn h=>h.elim λo h=>h.elim λq h=>h.elim λr h=>h.elim λs h=>f a b c d e i j k l m n o q r s h.1 h.2.1 h.2.2.1 h.2.2.2
theorem xE18_2 {A B C D E F I J K L M N O P Q R S T:Type}{p f1:A->B->C->D->E->F->I->J->K->L->M->N->O->P->Q->R->S->T->Prop}{G:Prop}(h:∃ a b c d e i j k l m n o q r s t u v,p a b c d e i j k l m n o q r s t u v/\f1 a b c d e i j k l m n o q r s t u v)(f:∀ a b c d e i j k l m n o q r s t u v,p a b c d e i j k l m n o q r s t u v->f1 a b c d e i j k l m n o q r s t u v->G):G:=h.elim λa h=>h.elim λb h=>h.elim λc h=>h.elim λd h=>h.elim λe h=>h.elim λi h=>h.elim λj h=>h.elim λk h=>h.elim λl h=>h.elim λm h=>h.elim λn h=>h.elim λo h=>h.elim λq h=>h.elim λr h=>h.elim λs h=>h.elim λt h=>h.elim λu h=>h.elim λv h=>f a b c d e i j k l m n o q r s t u v h.1 h.2
theorem xE18_4 {A B C D E F I J K L M N O P Q R S T:Type}{p f1 f2 f3:A->B->C->D->E->F->I->J->K->L->M->N->O->P->Q->R->S->T->Prop}{G:Prop}(h:∃ a b c d e i j k l m n o q r s t u v,p a b c d e i j k l m n o q r s t u v/\f1 a b c d e i j k l m n o q r s t u v/\f2 a b c d e i j k l m n o q r s t u v/\f3 a b c d e i j k l m n o q r s t u v)(f:∀ a b c d e i j k l m n o q r s t u v,p a b c d e i j k l m n o q r s t u v->f1 a b c d e i j k l m n o q r s t u v->f2 a b c d e i j k l m n o q r s t u v->f3 a b c d e i j k l m n o q r s t u v->G):G:=h.elim λa h=>h.elim λb h=>h.elim λc h=>h.elim λd h=>h.elim λe h=>h.elim λi h=>h.elim λj h=>h.elim λk h=>h.elim λl h=>h.elim λm h=>h.elim λn h=>h.elim λo h=>h.elim λq h=>h.elim λr h=>h.elim λs h=>h.elim λt h=>h.elim λu h=>h.elim λv h=>f a b c d e i j k l m n o q r s t u v h.1 h.2.1 h.2.2.1 h.2.2.2
theorem Zu9 {A B C D E F I J K L M N O P Q R S T U:Type}{p f1:A->B->C->D->E->F->I->J->K->L->M->N->O->P->Q->R->S->T->U->Prop}{G:Prop}(h:∃ a b c d e i j k l m n o q r s t u v w,p a b c d e i j k l m n o q r s t u v w/\f1 a b c d e i j k l m n o q r s t u v w)(f:∀ a b c d e i j k l m n o q r s t u v w,p a b c d e i j k l m n o q r s t u v w->f1 a b c d e i j k l m n o q r s t u v w->G):G:=h.elim λa h=>h.elim λb h=>h.elim λc h=>h.elim λd h=>h.elim λe h=>h.elim λi h=>h.elim λj h=>h.elim λk h=>h.elim λl h=>h.elim λm h=>h.elim λn h=>h.elim λo h=>h.elim λq h=>h.elim λr h=>h.elim λs h=>h.elim λt h=>h.elim λu h=>h.elim λv h=>h.elim λw h=>f a b c d e i j k l m n o q r s t u v w h.1 h.2
theorem Zu8 {A B C D E F I J K L M N O P Q R S T U:Type}{p f1 f2 f3:A->B->C->D->E->F->I->J->K->L->M->N->O->P->Q->R->S->T->U->Prop}{G:Prop}(h:∃ a b c d e i j k l m n o q r s t u v w,p a b c d e i j k l m n o q r s t u v w/\f1 a b c d e i j k l m n o q r s t u v w/\f2 a b c d e i j k l m n o q r s t u v w/\f3 a b c d e i j k l m n o q r s t u v w)(f:∀ a b c d e i j k l m n o q r s t u v w,p a b c d e i j k l m n o q r s t u v w->f1 a b c d e i j k l m n o q r s t u v w->f2 a b c d e i j k l m n o q r s t u v w->f3 a b c d e i j k l m n o q r s t u v w->G):G:=h.elim λa h=>h.elim λb h=>h.elim λc h=>h.elim λd h=>h.elim λe h=>h.elim λi h=>h.elim λj h=>h.elim λk h=>h.elim λl h=>h.elim λm h=>h.elim λn h=>h.elim λo h=>h.elim λq h=>h.elim λr h=>h.elim λs h=>h.elim λt h=>h.elim λu h=>h.elim λv h=>h.elim λw h=>f a b c d e i j k l m n o q r s t u v w h.1 h.2.1 h.2.2.1 h.2.2.2
theorem Zae {A:Type}{p f1:A->Prop}{G:Prop}(h:∃ a,p a/\f1 a)(f:∀ a,p a->f1 a->G):G:=h.elim λa h=>f a h.1 h.2
theorem Zav {A:Type}{p f1 f2:A->Prop}{G:Prop}(h:∃ a,p a/\f1 a/\f2 a)(f:∀ a,p a->f1 a->f2 a->G):G:=h.elim λa h=>f a h.1 h.2.1 h.2.2
theorem Zom {A:Type}{p f1 f2 f3:A->Prop}{G:Prop}(h:∃ a,p a/\f1 a/\f2 a/\f3 a)(f:∀ a,p a->f1 a->f2 a->f3 a->G):G:=h.elim λa h=>f a h.1 h.2.1 h.2.2.1 h.2.2.2
theorem Zpj {A:Type}{p f1 f2 f3 f4:A->Prop}{G:Prop}(h:∃ a,p a/\f1 a/\f2 a/\f3 a/\f4 a)(f:∀ a,p a->f1 a->f2 a->f3 a->f4 a->G):G:=h.elim λa h=>f a h.1 h.2.1 h.2.2.1 h.2.2.2.1 h.2.2.2.2
theorem Zst {A:Type}{p f1 f2 f3 f4 f5:A->Prop}{G:Prop}(h:∃ a,p a/\f1 a/\f2 a/\f3 a/\f4 a/\f5 a)(f:∀ a,p a->f1 a->f2 a->f3 a->f4 a->f5 a->G):G:=h.elim λa h=>f a h.1 h.2.1 h.2.2.1 h.2.2.2.1 h.2.2.2.2.1 h.2.2.2.2.2
theorem Zex {A B:Type}{p:A->B->Prop}{G:Prop}(h:∃ a b,p a b)(f:∀ a b,p a b->G):G:=h.elim λa h=>h.elim λb h=>f a b h
theorem Zbd {A B:Type}{p f1:A->B->Prop}{G:Prop}(h:∃ a b,p a b/\f1 a b)(f:∀ a b,p a b->f1 a b->G):G:=h.elim λa h=>h.elim λb h=>f a b h.1 h.2
theorem Zbt {A B:Type}{p f1 f2:A->B->Prop}{G:Prop}(h:∃ a b,p a b/\f1 a b/\f2 a b)(f:∀ a b,p a b->f1 a b->f2 a b->G):G:=h.elim λa h=>h.elim λb h=>f a b h.1 h.2.1 h.2.2
theorem Zet {A B:Type}{p f1 f2 f3:A->B->Prop}{G:Prop}(h:∃ a b,p a b/\f1 a b/\f2 a b/\f3 a b)(f:∀ a b,p a b->f1 a b->f2 a b->f3 a b->G):G:=h.elim λa h=>h.elim λb h=>f a b h.1 h.2.1 h.2.2.1 h.2.2.2
theorem Zki {A B:Type}{p f1 f2 f3 f4:A->B->Prop}{G:Prop}(h:∃ a b,p a b/\f1 a b/\f2 a b/\f3 a b/\f4 a b)(f:∀ a b,p a b->f1 a b->f2 a b->f3 a b->f4 a b->G):G:=h.elim λa h=>h.elim λb h=>f a b h.1 h.2.1 h.2.2.1 h.2.2.2.1 h.2.2.2.2
theorem Zh7 {A B:Type}{p f1 f2 f3 f4 f5:A->B->Prop}{G:Prop}(h:∃ a b,p a b/\f1 a b/\f2 a b/\f3 a b/\f4 a b/\f5 a b)(f:∀ a b,p a b->f1 a b->f2 a b->f3 a b->f4 a b->f5 a b->G):G:=h.elim λa h=>h.elim λb h=>f a b h.1 h.2.1 h.2.2.1 h.2.2.2.1 h.2.2.2.2.1 h.2.2.2.2.2
theorem xE3_1 {A B C:Type}{p:A->B->C->Prop}{G:Prop}(h:∃ a b c,p a b c)(f:∀ a b c,p a b c->G):G:=h.elim λa h=>h.elim λb h=>h.elim λc h=>f a b c h
theorem Zf3 {A B C:Type}{p f1:A->B->C->Prop}{G:Prop}(h:∃ a b c,p a b c/\f1 a b c)(f:∀ a b c,p a b c->f1 a b c->G):G:=h.elim λa h=>h.elim λb h=>h.elim λc h=>f a b c h.1 h.2
theorem Zmd {A B C:Type}{p f1 f2:A->B->C->Prop}{G:Prop}(h:∃ a b c,p a b c/\f1 a b c/\f2 a b c)(f:∀ a b c,p a b c->f1 a b c->f2 a b c->G):G:=h.elim λa h=>h.elim λb h=>h.elim λc h=>f a b c h.1 h.2.1 h.2.2
theorem Zb9 {A B C:Type}{p f1 f2 f3:A->B->C->Prop}{G:Prop}(h:∃ a b c,p a b c/\f1 a b c/\f2 a b c/\f3 a b c)(f:∀ a b c,p a b c->f1 a b c->f2 a b c->f3 a b c->G):G:=h.elim λa h=>h.elim λb h=>h.elim λc h=>f a b c h.1 h.2.1 h.2.2.1 h.2.2.2
theorem xE4_1 {A B C D:Type}{p:A->B->C->D->Prop}{G:Prop}(h:∃ a b c d,p a b c d)(f:∀ a b c d,p a b c d->G):G:=h.elim λa h=>h.elim λb h=>h.elim λc h=>h.elim λd h=>f a b c d h
theorem Zol {A B C D:Type}{p f1:A->B->C->D->Prop}{G:Prop}(h:∃ a b c d,p a b c d/\f1 a b c d)(f:∀ a b c d,p a b c d->f1 a b c d->G):G:=h.elim λa h=>h.elim λb h=>h.elim λc h=>h.elim λd h=>f a b c d h.1 h.2
theorem xE4_3 {A B C D:Type}{p f1 f2:A->B->C->D->Prop}{G:Prop}(h:∃ a b c d,p a b c d/\f1 a b c d/\f2 a b c d)(f:∀ a b c d,p a b c d->f1 a b c d->f2 a b c d->G):G:=h.elim λa h=>h.elim λb h=>h.elim λc h=>h.elim λd h=>f a b c d h.1 h.2.1 h.2.2
theorem Zb8 {A B C D:Type}{p f1 f2 f3:A->B->C->D->Prop}{G:Prop}(h:∃ a b c d,p a b c d/\f1 a b c d/\f2 a b c d/\f3 a b c d)(f:∀ a b c d,p a b c d->f1 a b c d->f2 a b c d->f3 a b c d->G):G:=h.elim λa h=>h.elim λb h=>h.elim λc h=>h.elim λd h=>f a b c d h.1 h.2.1 h.2.2.1 h.2.2.2
theorem Zpi {A B C D E:Type}{p f1:A->B->C->D->E->Prop}{G:Prop}(h:∃ a b c d e,p a b c d e/\f1 a b c d e)(f:∀ a b c d e,p a b c d e->f1 a b c d e->G):G:=h.elim λa h=>h.elim λb h=>h.elim λc h=>h.elim λd h=>h.elim λe h=>f a b c d e h.1 h.2
theorem Zph {A B C D E:Type}{p f1 f2:A->B->C->D->E->Prop}{G:Prop}(h:∃ a b c d e,p a b c d e/\f1 a b c d e/\f2 a b c d e)(f:∀ a b c d e,p a b c d e->f1 a b c d e->f2 a b c d e->G):G:=h.elim λa h=>h.elim λb h=>h.elim λc h=>h.elim λd h=>h.elim λe h=>f a b c d e h.1 h.2.1 h.2.2
theorem Zg4 {A B C D E:Type}{p f1 f2 f3:A->B->C->D->E->Prop}{G:Prop}(h:∃ a b c d e,p a b c d e/\f1 a b c d e/\f2 a b c d e/\f3 a b c d e)(f:∀ a b c d e,p a b c d e->f1 a b c d e->f2 a b c d e->f3 a b c d e->G):G:=h.elim λa h=>h.elim λb h=>h.elim λc h=>h.elim λd h=>h.elim λe h=>f a b c d e h.1 h.2.1 h.2.2.1 h.2.2.2
theorem xE6_2 {A B C D E F:Type}{p f1:A->B->C->D->E->F->Prop}{G:Prop}(h:∃ a b c d e i,p a b c d e i/\f1 a b c d e i)(f:∀ a b c d e i,p a b c d e i->f1 a b c d e i->G):G:=h.elim λa h=>h.elim λb h=>h.elim λc h=>h.elim λd h=>h.elim λe h=>h.elim λi h=>f a b c d e i h.1 h.2
theorem Zlb {A B C D E F:Type}{p f1 f2 f3:A->B->C->D->E->F->Prop}{G:Prop}(h:∃ a b c d e i,p a b c d e i/\f1 a b c d e i/\f2 a b c d e i/\f3 a b c d e i)(f:∀ a b c d e i,p a b c d e i->f1 a b c d e i->f2 a b c d e i->f3 a b c d e i->G):G:=h.elim λa h=>h.elim λb h=>h.elim λc h=>h.elim λd h=>h.elim λe h=>h.elim λi h=>f a b c d e i h.1 h.2.1 h.2.2.1 h.2.2.2
theorem xE7_2 {A B C D E F I:Type}{p f1:A->B->C->D->E->F->I->Prop}{G:Prop}(h:∃ a b c d e i j,p a b c d e i j/\f1 a b c d e i j)(f:∀ a b c d e i j,p a b c d e i j->f1 a b c d e i j->G):G:=h.elim λa h=>h.elim λb h=>h.elim λc h=>h.elim λd h=>h.elim λe h=>h.elim λi h=>h.elim λj h=>f a b c d e i j h.1 h.2
theorem Zss {A B C D E F I:Type}{p f1 f2 f3:A->B->C->D->E->F->I->Prop}{G:Prop}(h:∃ a b c d e i j,p a b c d e i j/\f1 a b c d e i j/\f2 a b c d e i j/\f3 a b c d e i j)(f:∀ a b c d e i j,p a b c d e i j->f1 a b c d e i j->f2 a b c d e i j->f3 a b c d e i j->G):G:=h.elim λa h=>h.elim λb h=>h.elim λc h=>h.elim λd h=>h.elim λe h=>h.elim λi h=>h.elim λj h=>f a b c d e i j h.1 h.2.1 h.2.2.1 h.2.2.2
theorem xE8_2 {A B C D E F I J:Type}{p f1:A->B->C->D->E->F->I->J->Prop}{G:Prop}(h:∃ a b c d e i j k,p a b c d e i j k/\f1 a b c d e i j k)(f:∀ a b c d e i j k,p a b c d e i j k->f1 a b c d e i j k->G):G:=h.elim λa h=>h.elim λb h=>h.elim λc h=>h.elim λd h=>h.elim λe h=>h.elim λi h=>h.elim λj h=>h.elim λk h=>f a b c d e i j k h.1 h.2
theorem xE8_3 {A B C D E F I J:Type}{p f1 f2:A->B->C->D->E->F->I->J->Prop}{G:Prop}(h:∃ a b c d e i j k,p a b c d e i j k/\f1 a b c d e i j k/\f2 a b c d e i j k)(f:∀ a b c d e i j k,p a b c d e i j k->f1 a b c d e i j k->f2 a b c d e i j k->G):G:=h.elim λa h=>h.elim λb h=>h.elim λc h=>h.elim λd h=>h.elim λe h=>h.elim λi h=>h.elim λj h=>h.elim λk h=>f a b c d e i j k h.1 h.2.1 h.2.2
theorem Zpg {A B C D E F I J:Type}{p f1 f2 f3:A->B->C->D->E->F->I->J->Prop}{G:Prop}(h:∃ a b c d e i j k,p a b c d e i j k/\f1 a b c d e i j k/\f2 a b c d e i j k/\f3 a b c d e i j k)(f:∀ a b c d e i j k,p a b c d e i j k->f1 a b c d e i j k->f2 a b c d e i j k->f3 a b c d e i j k->G):G:=h.elim λa h=>h.elim λb h=>h.elim λc h=>h.elim λd h=>h.elim λe h=>h.elim λi h=>h.elim λj h=>h.elim λk h=>f a b c d e i j k h.1 h.2.1 h.2.2.1 h.2.2.2
theorem xE9_3 {A B C D E F I J K:Type}{p f1 f2:A->B->C->D->E->F->I->J->K->Prop}{G:Prop}(h:∃ a b c d e i j k l,p a b c d e i j k l/\f1 a b c d e i j k l/\f2 a b c d e i j k l)(f:∀ a b c d e i j k l,p a b c d e i j k l->f1 a b c d e i j k l->f2 a b c d e i j k l->G):G:=h.elim λa h=>h.elim λb h=>h.elim λc h=>h.elim λd h=>h.elim λe h=>h.elim λi h=>h.elim λj h=>h.elim λk h=>h.elim λl h=>f a b c d e i j k l h.1 h.2.1 h.2.2
theorem xI11_1 {A B C D E F I J K L M:Type}{p:A->B->C->D->E->F->I->J->K->L->M->Prop}(a:A)(b:B)(c:C)(d:D)(e:E)(i:F)(j:I)(k:J)(l:K)(m:L)(n:M)(h0:p a b c d e i j k l m n):∃ a b c d e i j k l m n,p a b c d e i j k l m n:=⟨a,b,c,d,e,i,j,k,l,m,n,h0⟩
theorem xI13_1 {A B C D E F I J K L M N O:Type}{p:A->B->C->D->E->F->I->J->K->L->M->N->O->Prop}(a:A)(b:B)(c:C)(d:D)(e:E)(i:F)(j:I)(k:J)(l:K)(m:L)(n:M)(o:N)(q:O)(h0:p a b c d e i j k l m n o q):∃ a b c d e i j k l m n o q,p a b c d e i j k l m n o q:=⟨a,b,c,d,e,i,j,k,l,m,n,o,q,h0⟩
theorem Zjs {A B C D E F I J K L M N O P:Type}{p:A->B->C->D->E->F->I->J->K->L->M->N->O->P->Prop}(a:A)(b:B)(c:C)(d:D)(e:E)(i:F)(j:I)(k:J)(l:K)(m:L)(n:M)(o:N)(q:O)(r:P)(h0:p a b c d e i j k l m n o q r):∃ a b c d e i j k l m n o q r,p a b c d e i j k l m n o q r:=⟨a,b,c,d,e,i,j,k,l,m,n,o,q,r,h0⟩
theorem Znh {A B C D E F I J K L M N O P Q:Type}{p:A->B->C->D->E->F->I->J->K->L->M->N->O->P->Q->Prop}(a:A)(b:B)(c:C)(d:D)(e:E)(i:F)(j:I)(k:J)(l:K)(m:L)(n:M)(o:N)(q:O)(r:P)(s:Q)(h0:p a b c d e i j k l m n o q r s):∃ a b c d e i j k l m n o q r s,p a b c d e i j k l m n o q r s:=⟨a,b,c,d,e,i,j,k,l,m,n,o,q,r,s,h0⟩
theorem Zu7 {A B C D E F I J K L M N O P Q R S T U:Type}{p:A->B->C->D->E->F->I->J->K->L->M->N->O->P->Q->R->S->T->U->Prop}(a:A)(b:B)(c:C)(d:D)(e:E)(i:F)(j:I)(k:J)(l:K)(m:L)(n:M)(o:N)(q:O)(r:P)(s:Q)(t:R)(u:S)(v:T)(w:U)(h0:p a b c d e i j k l m n o q r s t u v w):∃ a b c d e i j k l m n o q r s t u v w,p a b c d e i j k l m n o q r s t u v w:=⟨a,b,c,d,e,i,j,k,l,m,n,o,q,r,s,t,u,v,w,h0⟩
theorem Zaq {A B:Type}{p:A->B->Prop}(a:A)(b:B)(h0:p a b):∃ a b,p a b:=⟨a,b,h0⟩
theorem Zcm {A B C:Type}{p:A->B->C->Prop}(a:A)(b:B)(c:C)(h0:p a b c):∃ a b c,p a b c:=⟨a,b,c,h0⟩
theorem Zjr {A B C D:Type}{p:A->B->C->D->Prop}(a:A)(b:B)(c:C)(d:D)(h0:p a b c d):∃ a b c d,p a b c d:=⟨a,b,c,d,h0⟩
theorem Zg3 {A B C D E:Type}{p:A->B->C->D->E->Prop}(a:A)(b:B)(c:C)(d:D)(e:E)(h0:p a b c d e):∃ a b c d e,p a b c d e:=⟨a,b,c,d,e,h0⟩
theorem Zsr {A B C D E F:Type}{p:A->B->C->D->E->F->Prop}(a:A)(b:B)(c:C)(d:D)(e:E)(i:F)(h0:p a b c d e i):∃ a b c d e i,p a b c d e i:=⟨a,b,c,d,e,i,h0⟩
theorem Zla {A B C D E F I:Type}{p:A->B->C->D->E->F->I->Prop}(a:A)(b:B)(c:C)(d:D)(e:E)(i:F)(j:I)(h0:p a b c d e i j):∃ a b c d e i j,p a b c d e i j:=⟨a,b,c,d,e,i,j,h0⟩
theorem xI8_1 {A B C D E F I J:Type}{p:A->B->C->D->E->F->I->J->Prop}(a:A)(b:B)(c:C)(d:D)(e:E)(i:F)(j:I)(k:J)(h0:p a b c d e i j k):∃ a b c d e i j k,p a b c d e i j k:=⟨a,b,c,d,e,i,j,k,h0⟩
end L2
theorem oz1 {z y:Int}(h0:(0:Int)<=z)(h1:z<y):z.natAbs<=y.natAbs:=∅
theorem oz2 {a b:Nat}(h0:a<b+b):a-b<b:=∅
theorem oz3 {a b c:Nat}(h0:a=b)(h1:¬c<a)(h2:c-a=0):c=b:=∅
theorem oz4 {a b:Nat}{z y:Int}(h0:z.toNat<y.toNat)(h1:a=b)(h2:b=y.toNat):z.toNat<a:=∅
theorem oz5 {a b:Nat}{z:Int}(h0:a=z.toNat)(h1:b<z.toNat):b<a:=∅
theorem oz6 {a b:Nat}(h0:¬a-b=0):1<=a-b:=∅
theorem oz7 {a b:Nat}(h0:a<b):b+a<b+b:=∅
theorem oz8 {a b c:Nat}(h0:a=b)(h1:c<b):c<a:=∅
theorem oz9 {a b c d:Nat}(h0:a=b)(h1:c=b)(h2:d<a):d<c:=∅
theorem Zc0 {a b c:Nat}(h0:a=b)(h1:c<a):c<b:=∅
theorem oz11 {z y x Z Y X:Int}(h0:(0:Int)<=z)(h1:(0:Int)<=y)(h2:(x*y+Z*z).natAbs+(Y*y+X*z).natAbs<(y+z).natAbs):(↑(x*y+Z*z).natAbs:Int)+(↑(Y*y+X*z).natAbs:Int)<y+z:=∅
theorem oz12 {z y x Z:Int}:(0:Int)<=(↑(z*y+x*Z).natAbs:Int):=∅
theorem Zh3 {a b c:Nat}(h0:a<b)(h1:c=b):a<c:=∅
theorem oz14 {a b:Nat}(h0:a<b+1)(h1:¬a<b):a=b:=∅
theorem oz15 {a b c d:Nat}(h0:a=b)(h1:c=a)(h2:d<b):d<c:=∅
theorem oz16 {a b:Nat}(h0:¬a<b)(h1:a<b+1):a=b:=∅
theorem oz17 {z y x:Int}(h0:z<=(97:Int))(h1:y<=z)(h2:(0:Int)<=y / x)(h3:y / x<=y):(y / x).natAbs<=97:=∅
theorem oz18 {a b:Nat}{z:Int}(h0:(↑a:Int)=z)(h1:b=a):(↑b:Int)=z:=∅
theorem oz19 {a b:Nat}(h0:a=b):a=b:=∅
theorem oz20 {a:Nat}{z:Int}(h0:z<=(↑a:Int)):min z.toNat a=z.toNat:=∅
theorem oz21 {a b:Nat}(h0:a<b+1)(h1:¬a=b):a<b:=∅
theorem oz22 {a b c d:Nat}(h0:a<=9)(h1:b=a)(h2:c<b)(h3:d=c):d<=1000:=∅
theorem oz23 {a b c d:Nat}(h0:a=b)(h1:c=a)(h2:d<c):d<b:=∅
theorem oz24 {a b c:Nat}(h0:a=b)(h1:c=b):c=a:=∅
theorem oz25 {a b c:Nat}(h0:a<b)(h1:c<a):c<b:=∅
theorem oz26 {z y:Int}(h0:(0:Int)<=z)(h1:(0:Int)<=y)(h2:y≠z):z.toNat≠y.toNat:=∅
theorem oz27 {a b:Nat}(h0:a=b):a<=b:=∅
theorem oz28 {a b c:Nat}(h0:a=b)(h1:c=a):c=b:=∅
theorem oz29 {a:Nat}:((0:Int)+(↑a:Int)).toNat=a:=∅
theorem oz30 {a b:Nat}{z y:Int}(h0:z.natAbs<=a*b)(h1:y.natAbs<=b):(z+y).natAbs<=a*b+b:=∅
theorem Zlo {a b:Nat}(h0:¬a<b):b<=a:=∅
theorem oz32 {z y x:Int}(h0:z<y)(h1:y<=x):z<=x:=∅
theorem oz33 {a:Nat}{z:Int}(h0:(0:Int)<=z)(h1:z<(↑a:Int)):z.toNat<a:=∅
theorem oz34 {a b c d:Nat}(h0:a=b)(h1:c=a)(h2:d=c):d=b:=∅
theorem oz35 {a:Nat}:((↑a:Int)-(126:Int)).toNat=a-126:=∅
theorem oz36 {z y x:Int}(h0:z<y)(h1:x.toNat<y.toNat):z.toNat<y.toNat:=∅
theorem oz37 {a b:Nat}(h0:a<b):a<b:=∅
theorem oz38 {a b c:Nat}(h0:a<=b)(h1:b<c):b-a<c-a:=∅
theorem Ztp {a:Nat}(h0:a<=2):a<=200:=∅
theorem oz40 {a b:Nat}(h0:¬a<b+b):b<=a-b:=∅
theorem oz41 {a b c:Nat}:min (a-b) (c-b)<=c:=∅
theorem oz42 {a b c:Nat}(h0:a=b)(h1:c=b):a=c:=∅
theorem oz43 {a b:Nat}(h0:a<b):b-(a+1)<b-a:=∅
theorem oz44 {a b c d:Nat}(h0:a=b)(h1:c=b)(h2:d<c):d<a:=∅
theorem oz45 {z:Int}:(0:Int)<=(↑z.natAbs:Int):=∅
theorem oz46 {a:Nat}(h0:126<=a):64+(a-126)=a-62:=∅
theorem oz47 {z y x:Int}(h0:z<=(97:Int))(h1:y<x)(h2:x<=z)(h3:(1:Int)<y):y.natAbs<=97:=∅
theorem oz48 {a:Nat}{z:Int}(h0:(0:Int)<=z)(h1:a=z.toNat):(↑a:Int)=z:=∅
theorem oz49 {z:Int}(h0:(0:Int)<=z/\z<=(2:Int)):z.toNat<=2:=∅
theorem oz50 {a b:Nat}{z:Int}(h0:z<=(24:Int))(h1:a<z.toNat)(h2:b=a):b<=1000:=∅
theorem oz51 {a b c d:Nat}(h0:a=b)(h1:c=b)(h2:d-a=0):d-c=0:=∅
theorem oz52 {a b:Nat}{z y x:Int}(h0:(0:Int)<z)(h1:z<=y*x)(h2:(y*x).natAbs<=a*b):z.natAbs<=a*b:=∅
theorem oz53 {a b:Nat}(h0:a<=b):a+(b-a)=b:=∅
theorem oz54 {a b:Nat}{z:Int}(h0:(0:Int)<z)(h1:a=b)(h2:b=z.toNat):0<a:=∅
theorem oz55 {z y x:Int}(h0:z<=(97:Int))(h1:y<x)(h2:x<=z):y<(1073741824:Int):=∅
theorem oz56 {a:Nat}{z:Int}(h0:z<=(24:Int))(h1:(↑a:Int)=z):a<=1000:=∅
theorem oz57 {a:Nat}:((-1:Int)+(↑a:Int)).toNat=a-1:=∅
theorem oz58 {a b c:Nat}(h0:a=b)(h1:c=a):min a b=c:=∅
theorem oz59 {a b:Nat}:((↑a:Int)+(↑b:Int)).toNat=a+b:=∅
theorem Zmy {z:Int}(h0:(1:Int)<z):(0:Int)<z:=∅
theorem oz61 {a:Nat}{z y:Int}(h0:a=z.toNat)(h1:y<z):y<(↑a:Int):=∅
theorem oz62 {a b:Nat}(h0:4*a+2<=b):2*a<=b:=∅
theorem oz63 {a b c:Nat}(h0:a<b-c):c+a<b:=∅
theorem oz64 {a b:Nat}(h0:a<b):a<b+b:=∅
theorem oz65 {a b c d e:Nat}(h0:a<=200)(h1:b=a)(h2:c<b)(h3:d=min c e):d<=1000:=∅
theorem oz66 {a b c:Nat}(h0:a<=9)(h1:b=c)(h2:c<a):b<=1000:=∅
theorem oz68 {a:Nat}:a-62<=a-1:=∅
theorem oz69 {z:Int}(h0:(0:Int)<z):(0:Int)<=z:=∅
theorem oz70 {a b c:Nat}(h0:a<b+1)(h1:c≠a)(h2:¬a<b):c≠b:=∅
theorem oz71 {z y x Z:Int}(h0:z<(85070591730234615865843651857942052864:Int))(h1:y<=z)(h2:x<=z+y)(h3:(0:Int)<=x / Z)(h4:x / Z<=x):(x / Z).natAbs<170141183460469231731687303715884105728:=∅
theorem oz72 {a b c d:Nat}(h0:a=b)(h1:b=c)(h2:d=a):d=c:=∅
theorem oz73 {z:Int}(h0:(0:Int)<z)(h1:z<(4:Int)):z=(1:Int)\/z=(2:Int)\/z=(3:Int):=∅
theorem oz74 {a b c:Nat}(h0:a<b)(h1:b=c):a<c:=∅
theorem oz75 {a b:Nat}:a+b-a=b:=∅
theorem oz76 {a:Nat}{z y:Int}(h0:(↑a:Int)=z)(h1:(0:Int)<=y)(h2:y<z):y.toNat<a:=∅
theorem oz77 {a b:Nat}:(a+1)*b-1<=(a+1)*b*4-1:=∅
theorem oz78 {a b c:Nat}(h0:a<b)(h1:b<c+1):a<c:=∅
theorem oz79 {a b:Nat}(h0:a<=24)(h1:b=a):b<=900:=∅
theorem oz80 {a b:Nat}{z:Int}(h0:(↑a:Int)=z)(h1:(↑b:Int)=z):b=a:=∅
theorem oz81 {a:Nat}(h0:1<=a):22*(a*2)-8=2*(22*a-8)+8:=∅
theorem oz82 {z y x Z:Int}(h0:(0:Int)<=z)(h1:(0:Int)<=y)(h2:z+y<x+Z):(z+y).toNat<(x+Z).toNat:=∅
theorem oz83 {a b c:Nat}(h0:a<=1000)(h1:b<a)(h2:c=b):c<=1000:=∅
theorem oz84 {z:Int}(h0:(0:Int)<=z/\z<=(24:Int)):z.toNat<=24:=∅
theorem oz85 {z y:Int}(h0:z<y)(h1:(1:Int)<z):(0:Int)<=y:=∅
theorem oz86 {a b:Nat}(h0:a<=24)(h1:b=a):b<=1000:=∅
theorem oz87 {z y:Int}(h0:(0:Int)<=z)(h1:(0:Int)<=y):(0:Int)<=y+z:=∅
theorem oz88 {a:Nat}{z:Int}(h0:z=(↑a:Int)):(0:Int)<=z:=∅
theorem oz89 {z:Int}(h0:(0:Int)<=z/\z<=(2:Int)):z.toNat<=200:=∅
theorem oz90 {z:Int}(h0:(0:Int)<=z)(h1:¬(0:Int)<z):z=(0:Int):=∅
theorem oz91 {a b:Nat}(h0:a<=b)(h1:¬a<b):a=b:=∅
theorem oz92 {z y:Int}(h0:(1:Int)<z)(h1:y<z):y.toNat<z.toNat:=∅
theorem oz93 {a b c d e f g i j k:Nat}{z y x Z Y X W V U:Int}(h0:(0:Int)<=z)(h1:z<y)(h2:(0:Int)<=x)(h3:a<=b+(c+d))(h4:e<=f+(g+i))(h5:(↑j:Int)=Z+Y)(h6:(↑k:Int)=y)(h7:c<=4611686018427387903*k)(h8:d<=4611686018427387903*k)(h9:g<=4611686018427387903*k)(h10:i<=4611686018427387903*k)(h11:(↑b:Int)=X)(h12:(↑f:Int)=W)(h13:Z=V+z)(h14:Y=U+x)(h15:X+W+y*(18446744073709551616:Int)<=V+U):a+e<j:=∅
theorem Zto {z:Int}(h0:(1:Int)<z):z≠(0:Int):=∅
theorem oz95 {a b c:Nat}(h0:a=b)(h1:¬c<a):b<=c:=∅
theorem oz96 {a b:Nat}(h0:a=b):b=a:=∅
theorem oz97 {z:Int}(h0:(0:Int)<=z)(h1:z<(2:Int)):z=(0:Int)\/z=(1:Int):=∅
theorem oz98 {a:Nat}:7<=7+a:=∅
theorem oz99 {z y:Int}(h0:z % y<y)(h1:(1:Int)<=z % y):(z % y).toNat<y.toNat:=∅
theorem oz100 {z:Int}(h0:(0:Int)<z):0<z.toNat:=∅
theorem oz101 {a:Nat}{z y:Int}(h0:z=(↑a:Int))(h1:a<=24/\(↑a:Int)=y):z<=(24:Int):=∅
theorem Zlp {a b:Nat}(h0:a<b):a<b+1:=∅
theorem oz103 {a b c d:Nat}(h0:a=b)(h1:c=a)(h2:d=b):c=d:=∅
theorem oz104 {z y:Int}(h0:(0:Int)<z)(h1:y % z<z):(y % z).toNat<z.toNat:=∅
theorem oz105 {a b c d:Nat}(h0:a=b)(h1:b<=9)(h2:c<a)(h3:d=c):d<=1000:=∅
theorem oz106 {a b:Nat}{z:Int}(h0:z<(5:Int))(h1:a<z.toNat)(h2:b<=a):b<=1000:=∅
theorem oz107 {a:Nat}{z:Int}(h0:(↑a:Int)=z):a=z.toNat:=∅
theorem oz108 {a:Nat}{z:Int}(h0:(↑a:Int)=z)(h1:(2:Int)<z):a-1<a:=∅
theorem oz109 {z y x:Int}(h0:(0:Int)<=z)(h1:z<=y+x):z.natAbs<=(y+x).natAbs:=∅
theorem oz110 {a b:Nat}{z:Int}(h0:0<a)(h1:(↑b:Int)=(↑a:Int))(h2:z<(↑b:Int)):z.toNat<b:=∅
theorem oz111 {z:Int}(h0:(0:Int)<=z/\z<=(24:Int)):z.toNat<=24/\(↑z.toNat:Int)=z:=∅
theorem oz112 {a b:Nat}(h0:a<b)(h1:b<=8):a<=1000:=∅
theorem oz113 {a b c d:Nat}(h0:a=b)(h1:c=a)(h2:¬d<c):b<=d:=∅
theorem oz114 {a:Nat}(h0:7<=a):7<=a+1+2*a:=∅
theorem oz115 {a:Nat}(h0:126<=a):126+(a-126)=a:=∅
theorem oz116 {a:Nat}{z:Int}(h0:¬z.toNat<a):a<=z.toNat:=∅
theorem oz117 {a b:Nat}(h0:¬a=b)(h1:¬b<a):¬b<a+1:=∅
theorem oz118 {a b c:Nat}(h0:a+b+5<=c):a+b<=c:=∅
theorem oz119 {a b c d e:Nat}(h0:a=b)(h1:c=a)(h2:d=c)(h3:e<d):e<b:=∅
theorem oz120 {a b c:Nat}{z:Int}(h0:z<=(8:Int))(h1:(↑a:Int)=z)(h2:b<a)(h3:c=b):c<=1000:=∅
theorem oz121 {a b:Nat}{z:Int}(h0:(0:Int)<=z)(h1:¬z.natAbs<a)(h2:b<=a):(↑b:Int)<=z:=∅
theorem oz122 {a:Nat}(h0:a<=1):a=0\/a=1:=∅
theorem Zkt {a:Nat}:(0:Int)<=(↑a:Int):=∅
theorem oz124 {a:Nat}{z:Int}(h0:z<=(8:Int))(h1:(↑a:Int)=z):a<=1000:=∅
theorem oz125 {a:Nat}{z:Int}(h0:z.natAbs<a):z<(↑a:Int):=∅
theorem oz126 {a:Nat}(h0:4*a+2<=134000000):a+(a+1+2*a)<=134000000:=∅
theorem oz127 {a b:Nat}(h0:(↑a:Int)=(↑b:Int)):a=b:=∅
theorem oz128 {z:Int}(h0:(0:Int)<=z)(h1:z≠(0:Int)):(0:Int)<z:=∅
theorem oz129 {a b c d:Nat}(h0:a=b)(h1:c=b)(h2:¬d<a):c<=d:=∅
theorem oz130 {a b c:Nat}(h0:a<=200)(h1:b=c)(h2:c=a):b<=1000:=∅
theorem Ztt {z:Int}(h0:z.natAbs<4611686018427387904):z.natAbs<=4611686018427387903:=∅
theorem oz132 {a:Nat}{z:Int}(h0:(1:Int)<=z)(h1:a=z.toNat):(↑a:Int)=z:=∅
theorem oz133 {a:Nat}(h0:4*a+2<=134000000):a+1+2*a<=134000000:=∅
theorem oz134 {a:Nat}{z:Int}(h0:z<(5:Int))(h1:a<=z.toNat):a<=9:=∅
theorem oz135 {z y x:Int}(h0:z=-y)(h1:(0:Int)<=y)(h2:y < -x):z.natAbs<x.natAbs:=∅
theorem oz136 {a b:Nat}(h0:a<=24):((↑a:Int)-(↑b:Int)).toNat<=1000:=∅
theorem oz137 {z:Int}(h0:(1:Int)<=z):(0:Int)<z:=∅
theorem oz138 {z y:Int}(h0:(0:Int)<=z-z / y*y)(h1:z-z / y*y<y):(z-z / y*y).natAbs<y.natAbs:=∅
theorem oz139 {z:Int}(h0:z<=(1:Int)):((2:Int)*z).toNat=0\/((2:Int)*z).toNat=2:=∅
theorem oz140 {z:Int}(h0:z<=(24:Int)):z.toNat<=1000:=∅
theorem oz141 {a:Nat}{z:Int}(h0:(0:Int)<z)(h1:(z / (↑a:Int)).natAbs<=z.natAbs):z / (↑a:Int)<=z:=∅
theorem oz142 {z:Int}(h0:(0:Int)<=z):(↑z.toNat:Int)=z:=∅
theorem oz143 {a b:Nat}{z:Int}(h0:a+b<=200000)(h1:z.toNat*(a+b+8)<=2*(a+b+8)):7+z.toNat*(a+b+8)+a+b+7<=134000000:=∅
theorem oz144 {a:Nat}{z:Int}(h0:(↑a:Int)=z)(h1:(2:Int)<z):1<a:=∅
theorem oz145 {a b c d e:Nat}(h0:a=b)(h1:c=d)(h2:b=e)(h3:d=e):c=a:=∅
theorem Zts {z:Int}(h0:(18446744073709551616:Int)<=z):(0:Int)<=z:=∅
theorem oz147 {a:Nat}(h0:a<=24):a<=200:=∅
theorem oz148 {z y:Int}(h0:(0:Int)<=z)(h1:z<y)(h2:y<=(97:Int)):z.natAbs<128:=∅
theorem oz149 {a b:Nat}(h0:(a+1)*1<=(a+1)*b):4*((a+1)*b-1)+2<=(a+1)*b*4-1:=∅
theorem oz150 {a b:Nat}(h0:a+1<=b):a<=b:=∅
theorem oz151 {a:Nat}{z y:Int}(h0:z=(↑a:Int))(h1:(0:Int)<=y)(h2:y<z):y.toNat<a:=∅
theorem oz152 {a b:Nat}{z:Int}(h0:a<z.toNat)(h1:b=z.toNat):((0:Int)+(↑a:Int)).toNat<b:=∅
theorem oz153 {z y x Z Y:Int}(h0:z<=(97:Int))(h1:(0:Int)<=y)(h2:x*Z+Y*y=z)(h3:y<=Y*y)(h4:Z<=x*Z):Z<=(97:Int):=∅
theorem Zmz {z:Int}(h0:(0:Int)<=z):-(2:Int) ^ 62<=z:=∅
theorem oz155 {a:Nat}{z:Int}(h0:(↑a:Int)=z):(↑z.toNat:Int)=z:=∅
theorem oz156 {z:Int}(h0:(0:Int)<=z):z=(↑z.natAbs:Int):=∅
theorem oz157 {a:Nat}(h0:a<=2):a=0\/a=1\/a=2:=∅
theorem Zji {a:Nat}:a<a+1:=∅
theorem oz159 {z y:Int}(h0:z<y)(h1:(1:Int)<z):(1:Int)<=y:=∅
theorem oz160 {z y:Int}(h0:(0:Int)<=z % y)(h1:¬z % y=(0:Int)):(1:Int)<=z % y:=∅
theorem oz162 {a b:Nat}{z:Int}(h0:z<=(8:Int))(h1:(↑a:Int)=z)(h2:b=a):b<=1000:=∅
theorem oz163 {a b:Nat}(h0:a=2*b+8):b<=a:=∅
theorem oz165 {a:Nat}{z:Int}(h0:(↑a:Int)=z)(h1:(2:Int)<z):0<a:=∅
theorem oz166 {a b c d:Nat}(h0:a=b)(h1:c=b)(h2:d=a):d=c:=∅
theorem Zjh {z:Int}(h0:(0:Int)<z):¬z=(0:Int):=∅
theorem oz168 {a b:Nat}(h0:a=b):b<=a:=∅
theorem oz169 {a b c d:Nat}(h0:a<=100000)(h1:b<=100000)(h2:c<=100000)(h3:d*(c+(7+2*(a+b+8))+8)<=2*(c+(7+2*(a+b+8))+8)):7+d*(c+(7+2*(a+b+8))+8)+c+(7+2*(a+b+8))+7<=134000000:=∅
theorem oz170 {a:Nat}{z:Int}(h0:a<(z-(1:Int)).toNat):(0:Int)+(↑a:Int)+(1:Int)<z:=∅
theorem oz171 {a b:Nat}(h0:a<=9)(h1:b<a):b<=1000:=∅
theorem oz172 {a b c:Nat}(h0:a<=100000)(h1:b<=100000)(h2:c*(a+b+8)<=2*(a+b+8)):7+c*(a+b+8)+a+b+7<=134000000:=∅
theorem oz173 {a:Nat}(h0:1<=a):(1:Int)+(↑(a-1):Int)=(↑a:Int):=∅
theorem oz174 {z y:Int}(h0:(0:Int)<=z)(h1:¬y<z):z.natAbs<=y.natAbs:=∅
theorem oz175 {a:Nat}{z:Int}(h0:a<(z-(1:Int)).toNat):(0:Int)+(↑a:Int)<z:=∅
theorem Ztr {a b:Nat}(h0:a+b<=134000000):a+b<=134217728:=∅
theorem oz177 {a b:Nat}{z:Int}(h0:z<=(8:Int))(h1:a<z.toNat)(h2:b=a):b<=1000:=∅
theorem oz178 {a b:Nat}(h0:a=2*b+8):b+(7+b)+1<=a:=∅
theorem oz179 {a:Nat}{z:Int}(h0:1<=a)(h1:(↑a:Int)<z):a-1<(z-(1:Int)).toNat:=∅
theorem Ztq {a:Nat}:(0:Int)<=(0:Int)+(↑a:Int):=∅
theorem oz181 {a:Nat}:a+a-a=a:=∅
theorem oz182 {z:Int}(h0:z.natAbs<4611686018427387904):z.natAbs<170141183460469231731687303715884105728:=∅
theorem oz183 {a:Nat}{z:Int}(h0:a<z.toNat):(↑a:Int)<z:=∅
theorem oz184 {a:Nat}(h0:4000<a):(0:Int)<=(↑a:Int)-(126:Int):=∅
theorem Zow {z:Int}(h0:z<=(24:Int)):z<(2:Int) ^ 62:=∅
theorem oz186 {a b:Nat}(h0:7<=a)(h1:(a+1)*1<=(a+1)*b):7<=(a+1)*b-1:=∅
-- CHANGE: your row's module here,as the last of these rows
set_option Elab.async false
set_option linter.all false
set_option maxRecDepth 100000
namespace L2
open PySem PySem.Spec PyProof.Rows
abbrev Key:=Sum Int Str
def keyIs:Key->Value->Bool
 | .inl k,v=>Value.isInt k v
 | .inr x,v=>Value.isStrOf x v
def keyH (w:World):Key->Int
 | .inl k=>hashInt k
 | .inr x=>hashStr w x
theorem Zbq:∀ {k:Key} {v:Value},keyIs k v=true->(∃ i t,k=Sum.inl i/\v=Value.int i t)\/(∃ x t,k=Sum.inr x/\v=Value.str x t)
 | .inl i,v,h=>by
  obtain⟨t,e⟩:=Value.isInt_shape (k:=i) (v:=v) h;exact .inl ⟨i,t,rfl,e⟩
 | .inr x,v,h=>by
  obtain⟨t,e⟩:=Value.isStrOf_shape (x:=x) (v:=v) h;exact .inr ⟨x,t,rfl,e⟩
theorem key_ll (a b:Int):decide ((Sum.inl a:Key)=Sum.inl b)=(a == b):=by
 by_cases e:a=b
 .subst e;simp
 .have h:¬ (Sum.inl a:Key)=Sum.inl b:=λq=>e (Sum.inl.inj q);rw[Jay h];exact (Jc7.mpr e).symm
theorem key_rr (a b:Str):decide ((Sum.inr a:Key)=Sum.inr b)=decide (a=b):=by
 by_cases e:a=b
 .subst e;simp
 .have h:¬ (Sum.inr a:Key)=Sum.inr b:=λq=>e (Sum.inr.inj q);rw[Jay h,Jay e]
theorem key_lr (a:Int)(b:Str):decide ((Sum.inl a:Key)=Sum.inr b)=false:=Jay (λq=>nomatch q)
theorem key_rl (a:Str)(b:Int):decide ((Sum.inr a:Key)=Sum.inl b)=false:=Jay (λq=>nomatch q)
def Zm3 (prog:Program)(w:World):PySem.KeyKind prog w Key where
 is:=keyIs
 hash:=keyH w
 inj:=λv a b ha hb=>by
  rcases Zbq ha with ⟨i,t,rfl,rfl⟩|⟨x,t,rfl,rfl⟩
  .rcases Zbq hb with ⟨j,u,rfl,e⟩|⟨y,u,rfl,e⟩
   .injection e with e1 _;rw[e1]
   .exact nomatch e
  .rcases Zbq hb with ⟨j,u,rfl,e⟩|⟨y,u,rfl,e⟩
   .exact nomatch e
   .injection e with e1 _;rw[e1]
 byValue:=λk v h=>by
  rcases Zbq h with ⟨i,t,rfl,rfl⟩|⟨x,t,rfl,rfl⟩ <;> rfl
 pyHash:=λhv h=>by
  rcases Zbq hv with ⟨i,t,rfl,rfl⟩|⟨x,t,rfl,rfl⟩
  .exact wpAny_pyHash_int h
  .exact wpAny_pyHash_str h
 eqBool:=λhu hv h=>by
  rcases Zbq hu with ⟨i,t,rfl,rfl⟩|⟨x,t,rfl,rfl⟩
  .rcases Zbq hv with ⟨j,u,rfl,rfl⟩|⟨y,u,rfl,rfl⟩
   .rw [key_ll] at h;exact wpAny_eqBool_int h
   .rw [key_lr] at h;exact SeqAt.EqAt.int_str i t y u _ _ _ _ h
  .rcases Zbq hv with ⟨j,u,rfl,rfl⟩|⟨y,u,rfl,rfl⟩
   .rw [key_rl] at h;exact SeqAt.EqAt.str_int x t j u _ _ _ _ h
   .rw [key_rr] at h;exact wpAny_eqBool_str h
 «strs»:=λk x t v h=>by
  rcases Zbq h with ⟨i,u,rfl,e⟩|⟨y,u,rfl,e⟩
  .exact nomatch e
  .injection e with e1 _
   subst e1;cases v <;> rfl
inductive V where
 | non|bl (b:Bool)|int (i:Int)|str (x:Str)|byt (b:Array UInt8)|flt (b:UInt64)|ref (a:Addr)|ty (n:String)
 deriving DecidableEq
def RelV:V->Value->Prop
 | .non,u=>u=Value.none
 | .bl b,u=>u=Value.bool b
 | .int i,u=>∃ t,u=Value.int i t
 | .str x,u=>∃ t,u=Value.str x t
 | .byt b,u=>∃ t,u=Value.bytes b t
 | .flt b,u=>∃ t,u=Value.float b t
 | .ref a,u=>u=Value.ref a
 | .ty n,u=>u=Value.type n
abbrev Vals:List V->List Value->Prop:=Paired RelV
theorem Vals.length {xs:List V}{us:List Value}(r:Vals xs us):xs.length=us.length:=Paired.length r
theorem Vals.get:∀ {xs:List V} {us:List Value} {i:Nat} {x:V},Vals xs us->xs[i]?=some x->∃ u,us[i]?=some u/\RelV x u
 | _,_,_,_,.nil,e=>by simp at e
 | _,_,0,_,.cons r _,e=>by simp at e;subst e;exact⟨_,rfl,r⟩
 | _,_,i+1,x,.cons _ t,e=>by
  refine Zae (Vals.get (i:=i) (x:=x) t (by simpa using e)) λu h1 h2=>?_;exact⟨u,by simpa using h1,h2⟩
theorem Vals.set {x:V}{u:Value}(r:RelV x u):∀ {xs:List V} {us:List Value} (i:Nat),Vals xs us->Vals (xs.set i x) (us.set i u)
 | _,_,_,.nil=>.nil
 | _,_,0,.cons _ t=>.cons r t
 | _,_,i+1,.cons q t=>.cons q (Vals.set r i t)
theorem Vals.append:∀ {xs ys:List V} {us ws:List Value},Vals xs us->Vals ys ws->Vals (xs++ys) (us++ws)
 | _,_,_,_,.nil,s=>s
 | _,_,_,_,.cons r t,s=>.cons r (Vals.append t s)
theorem Vals.take:∀ {xs:List V} {us:List Value} (n:Nat),Vals xs us->Vals (xs.take n) (us.take n)
 | _,_,0,_=>.nil
 | _,_,_+1,.nil=>.nil
 | _,_,n+1,.cons r t=>.cons r (Vals.take n t)
theorem Vals.drop:∀ {xs:List V} {us:List Value} (n:Nat),Vals xs us->Vals (xs.drop n) (us.drop n)
 | _,_,0,r=>r
 | _,_,_+1,.nil=>.nil
 | _,_,n+1,.cons _ t=>Vals.drop n t
def RelO:Option V->Option Value->Prop
 | some v,some u=>RelV v u
 | none,none=>True
 | _,_=>False
def KV {κ:Type}:List (κ×V)->List (κ×Value)->Prop:=Paired λ(p:κ×V) (q:κ×Value)=>p.1=q.1/\RelV p.2 q.2
def kV:Key->V
 | .inl i=>.int i
 | .inr x=>.str x
inductive HO where
  | lst (xs:List V)
  | tup (xs:List V)
  | dK (kvs:List (Key×V))|dT (kvs:List (List Key×V))
  | set (S:Int->Bool) (n:Nat)
  | ins (C dx:Addr) (fs:List (Str×V))
  | own (x:Addr)
  | xd (fs:List (Str×V))
  | met (f x:Addr)
  | rng (lo hi:Int)
  | frz (o:Obj) (u:HO)
  | tbl (ps:Array Value)
  | ext (φ:Heap->Prop)
  | tab (l c:Int) (q:Str)
abbrev Hp:=Addr->Option HO
def upd (H:Hp)(a:Addr)(o:HO):Hp:=λb=>if b=a then some o else H b
theorem Zab {H:Hp}{a:Addr}{o:HO}:upd H a o a=some o:=by unfold upd;rw[if_pos rfl]
theorem Zaj {H:Hp}{a b:Addr}{o:HO}(h:b≠a):upd H a o b=H b:=by unfold upd;rw[if_neg h]
theorem Zdh {H:Hp}{a b:Addr}{o u:HO}(h:H a=some o)(h':H b=some u)(d:o≠u):a≠b:=by
 intro e;subst e;rw[h] at h';exact d (Jbp h')
theorem Zah {H:Hp}{a b:Addr}{o:HO}(h:H a=some o)(h':H b=none):a≠b:=by
 intro e;subst e;rw[h] at h';cases h'
section
variable (P:Program)(w:World)
def ObjOk (H:Hp)(h:Heap)(a:Addr):HO->Prop
 | .lst xs=>xs.length<=sizeLine/\∃ (its:List Value) (n:Nat),Vals xs its/\h.get? a=some { cls:=.type "list",data:=.seq its.toArray n }
 | .tup xs=>xs.length<=sizeLine/\∃ its:List Value,Vals xs its/\IsTup h a its.toArray
 | .dK kvs=>kvs.length<=sizeLine/\(a == sysModules)=false/\∃ vs,KV kvs vs/\h.DictOf (Zm3 P w) a vs
 | .dT kvs=>kvs.length<=sizeLine/\(a == sysModules)=false/\∃ xs:List (List Key×Addr×Value),
   Paired (λ(p:List Key×V) (q:List Key×Addr×Value)=>p.1=q.1/\H q.2.1=some (.tup (p.1.map kV))/\RelV p.2 q.2.2) kvs xs /\
   ∃ o es ep,h.get? a=some o/\o.ExactDict/\o.data=.dict es ep/\es.toList=xs.map (entryOfKey (tupleKind (Zm3 P w)))/\(xs.map (·.1)).Nodup
 | .set S n=>h.SetOf (intKind P w) a S n
 | .ins C dx fs=>H dx=some (.own a)/\fs.length<=1000/\dx≠a/\h.get? a=some (PySem.W.instObj C dx) /\
   ∃ mA,h.Ns1 dx mA/\(∀ f,RelO (fs.lookup f) (mA f))/\PySem.Within mA (fs.map (·.1))
 | .own _=>∃ o,h.get? a=some o
 | .xd fs=>∃ mA,h.Ns1 a mA/\∀ f,RelO (fs.lookup f) (mA f)
 | .rng lo hi=>∃ t u v,h.get? a=some { cls:=.type "range",data:=.fields #[.int lo t,.int hi u,.int 1 v] }
 | .frz o u=>h.get? a=some o/\ObjOk H h a u
 | .tbl ps=>h.get? a=some { cls:=.none,data:=.fields ps }
 | .met f x=>h.get? a=some (PySem.W.methodObj (.ref f) (.ref x))
 | .ext φ=>φ h/\(∃ o,h.get? a=some o)/\∀ h1 h2:Heap,φ h1->(∀ o,h1.get? a=some o->h2.get? a=some o)->φ h2
 | .tab l c q=>h.get? a=some { cls:=.none,data:=.fields #[] }\/∃ c' oc vs t,h.get? a=some { cls:=.none,data:=.fields #[rawInt l,rawInt c,.ref c'] }/\c'≠a/\H c'=some (.frz oc (.own a))/\oc.data=.fields vs/\vs[1]?=some (.str q t)
def HOk (H:Hp)(h:Heap):Prop:=∀ a o,H a=some o->ObjOk P w H h a o
end
section
variable {P:Program}{w:World}{H H':Hp}{h h':Heap}{a:Addr}{o:HO}
theorem ObjOk.lt (x:ObjOk P w H h a o):a<h.objs.size:=by
 cases o with
 | lst xs=>obtain⟨_,_,_,_,e⟩:=x;exact Jan e
 | tup xs=>obtain⟨_,_,_,p⟩:=x;exact p.lt
 | dK kvs=>obtain⟨_,_,_,_,o,_,_,e,_⟩:=x;exact Jan e
 | dT kvs=>obtain⟨_,_,_,_,o,_,_,e,_⟩:=x;exact Jan e
 | set S n=>obtain⟨o,_,_,_,e,_⟩:=x;exact Jan e
 | ins C dx fs=>obtain⟨_,_,_,e,_⟩:=x;exact Jan e
 | own y=>obtain⟨_,e⟩:=x;exact Jan e
 | xd fs=>obtain⟨_,⟨_,_,_,e,_⟩,_⟩:=x;exact Jan e
 | rng lo hi=>obtain⟨_,_,_,e⟩:=x;exact Jan e
 | frz ob u=>obtain⟨e,_⟩:=x;exact Jan e
 | tbl ps=>exact Jan (show h.get? a=some _ from x)
 | met f y=>exact Jan (show h.get? a=some _ from x)
 | ext φ=>obtain⟨_,⟨_,e⟩,_⟩:=x;exact Jan e
 | tab l c q=>
  rcases x with e|⟨_,_,_,_,e,_⟩
  .exact Jan e
  .exact Jan e
theorem Paired.mapP {α β:Type}{F G:α->β->Prop}:∀ {l₁:List α} {l₂:List β},Paired F l₁ l₂->(∀ a b,F a b->G a b)->Paired G l₁ l₂
 | _,_,.nil,_=>.nil
 | _,_,.cons r t,f=>.cons (f _ _ r) (Paired.mapP t f)
theorem ObjOk.stay (x:ObjOk P w H h a o)(k:∀ b u,(b=a\/H b=some (.own a))->h.get? b=some u->h'.get? b=some u)(ho:∀ b,H b=some (.own a)->H' b=some (.own a))(ht:∀ b xs,H b=some (.tup xs)->H' b=some (.tup xs))(hz:∀ b o' u,H b=some (.frz o' u)->H' b=some (.frz o' u)):ObjOk P w H' h' a o:=by
 induction o with
 | lst xs=>obtain⟨z,its,n,r,e⟩:=x;exact⟨z,its,n,r,k _ _ (.inl rfl) e⟩
 | tup xs=>obtain⟨z,its,r,ob,e,c⟩:=x;exact⟨z,its,r,ob,k _ _ (.inl rfl) e,c⟩
 | dK kvs=>obtain⟨z,y,vs,r,ob,es,ep,e,c⟩:=x;exact⟨z,y,vs,r,ob,es,ep,k _ _ (.inl rfl) e,c⟩
 | dT kvs=>
  refine Za2 x λz y e916=>?_;clear x;obtain⟨xs,r,ob,es,ep,e,c⟩:=e916;exact⟨z,y,xs,Paired.mapP r λp q z=>⟨z.1,ht _ _ z.2.1,z.2.2⟩,ob,es,ep,k _ _ (.inl rfl) e,c⟩
 | set S n=>obtain⟨ob,es,ep,t,e,c⟩:=x;exact⟨ob,es,ep,t,k _ _ (.inl rfl) e,c⟩
 | ins C dx fs=>
  refine Zc3 x λd z ne e e917=>?_;clear x;obtain⟨mA,⟨od,es,ep,e2,c⟩,r⟩:=e917;exact⟨ho _ d,z,ne,k _ _ (.inl rfl) e,mA,⟨od,es,ep,k _ _ (.inr d) e2,c⟩,r⟩
 | own y=>obtain⟨ob,e⟩:=x;exact⟨ob,k _ _ (.inl rfl) e⟩
 | xd fs=>obtain⟨mA,⟨od,es,ep,e,c⟩,r⟩:=x;exact⟨mA,⟨od,es,ep,k _ _ (.inl rfl) e,c⟩,r⟩
 | rng lo hi=>obtain⟨t,u,v,e⟩:=x;exact⟨t,u,v,k _ _ (.inl rfl) e⟩
 | frz ob u ih=>obtain⟨e,q⟩:=x;exact⟨k _ _ (.inl rfl) e,ih q⟩
 | tbl ps=>
  have e:h.get? a=some { cls:=.none,data:=.fields ps }:=x;show h'.get? a=some { cls:=.none,data:=.fields ps };exact k a _ (.inl rfl) e
 | met f y=>
  have e:h.get? a=some (PySem.W.methodObj (.ref f) (.ref y)):=x;show h'.get? a=some (PySem.W.methodObj (.ref f) (.ref y));exact k a _ (.inl rfl) e
 | ext φ=>obtain⟨p,⟨o,e⟩,st⟩:=x;exact⟨st _ _ p λo q=>k _ _ (.inl rfl) q,⟨o,k _ _ (.inl rfl) e⟩,st⟩
 | tab l c q=>
  rcases x with e|⟨c',oc,vs,t,e,ne,e2,r⟩
  .exact .inl (k _ _ (.inl rfl) e)
  .exact .inr ⟨c',oc,vs,t,k _ _ (.inl rfl) e,ne,hz _ _ _ e2,r⟩
theorem HOk.lt (x:HOk P w H h)(e:H a=some o):a<h.objs.size:=(x a o e).lt
theorem HOk.fresh (x:HOk P w H h)(e:h.objs.size<=a):H a=none:=by
 cases q:H a with
 | none=>rfl
 | some u=>exact absurd (Jau (x.lt q) e) (Jb4 _)
theorem HOk.kept (x:HOk P w H h)(k:∀ b u,h.get? b=some u->h'.get? b=some u):HOk P w H h':=λa o e=>
 (x a o e).stay (λb u _ q=>k b u q) (λ_ q=>q) (λ_ _ q=>q) λ_ _ _ q=>q
theorem HOk.laid (x:HOk P w H h)(k:∀ b u,h.get? b=some u->h'.get? b=some u)(hp:h.objs.size<=a)(new:ObjOk P w (upd H a o) h' a o):HOk P w (upd H a o) h':=λb u e=>by
 have hn:=x.fresh hp;by_cases hb:b=a
 .subst hb;rw[Zab] at e;cases e;exact new
 .rw [Zaj hb] at e;exact (x b u e).stay (λc v _ q=>k c v q) (λc q=>by rw[Zaj (Zah q hn)];exact q) (λc xs q=>by rw[Zaj (Zah q hn)];exact q) λc _ _ q=>by rw[Zaj (Zah q hn)];exact q
end
def Rd (H:Hp)(a:Addr)(u:HO):Prop:=H a=some u\/∃ o,H a=some (.frz o u)
theorem Rd.ok {P:Program}{w:World}{H:Hp}{h:Heap}{a:Addr}{u:HO}(r:Rd H a u)(x:HOk P w H h):ObjOk P w H h a u:=by
 rcases r with r|⟨o,r⟩
 .exact x a u r
 .obtain ⟨_,q⟩:=x a _ r;exact q
def Mut:Option HO->Prop
 | some (.lst _)=>True
 | some (.dK _)=>True
 | some (.dT _)=>True
 | some (.set _ _)=>True
 | some (.ins _ _ _)=>True
 | some (.ext _)=>True
 | some (.tab _ _ _)=>True
 | _=>False
section
variable {P:Program}{w:World}{H:Hp}{h h':Heap}{x e:Addr}{o':HO}
theorem HOk.write (ok:HOk P w H h)(mu:Mut (H x))(he:e=x\/H e=some (.own x))(k:∀ b u,b≠e->h.get? b=some u->h'.get? b=some u)(heo:∃ u,h'.get? e=some u)(new:ObjOk P w (upd H x o') h' x o'):HOk P w (upd H x o') h':=λb u q=>by
 have nown:∀ c y,H c=some (.own y)->c≠x:=λc y r z=>by subst z;rw[r] at mu;exact mu
 have ntup:∀ c xs,H c=some (.tup xs)->c≠x:=λc xs r z=>by subst z;rw[r] at mu;exact mu
 have nfrz:∀ c o' u',H c=some (.frz o' u')->c≠x:=λc o' u' r z=>by subst z;rw[r] at mu;exact mu
 by_cases hb:b=x
 .subst hb;rw[Zab] at q;cases q;exact new
 .rw [Zaj hb] at q;by_cases hbe:b=e
  .have q':H b=some (.own x):=by
    rcases he with z|z
    .exact absurd (hbe.trans z) hb
    .rw [hbe];exact z
   rw[q] at q';cases q';obtain⟨v,hv⟩:=heo;exact⟨v,by rw[hbe];exact hv⟩
  .refine (ok b u q).stay (λc v hc r=>k c v ?_ r) (λc r=>by rw[Zaj (nown c b r)];exact r) (λc xs r=>by rw[Zaj (ntup c xs r)];exact r) λc o' u' r=>by rw[Zaj (nfrz c o' u' r)];exact r
   rcases hc with rfl|hc
   .exact hbe
   .rintro rfl;rcases he with z|z
    .exact nown c b hc z
    .rw [hc] at z;cases z;exact hb rfl
end
structure Un (fs ex:List Addr)(H H':Hp)(h h':Heap):Prop where
 keep:∀ b o,h.get? b=some o->H b=none->b∉fs->b∉ex->h'.get? b=some o
 slot:∀ b o,h.get? b=some o->H b=none->b∈fs->b∉ex->∃ sl,h'.get? b=some { o with slots:=sl }
 free:∀ b o,h.get? b=some o->H b=none->b∉ex->H' b=none
 there:∀ b o,h.get? b=some o->b∉ex->∃ o',h'.get? b=some o'
 tups:∀ b xs,H b=some (.tup xs)->H' b=some (.tup xs)
 frzs:∀ b o u,H b=some (.frz o u)->H' b=some (.frz o u)
 tbls:∀ b ps,H b=some (.tbl ps)->∃ more,H' b=some (.tbl (ps++more))
section
variable {fs fs' ex ex':List Addr}{H H1 H2:Hp}{h h1 h2 h':Heap}{a x e:Addr}{o:HO}
theorem Un.any (u:Un fs ex H H1 h h1){b:Addr}{ob:Obj}(q:h.get? b=some ob)(n:H b=none)(hx:b∉ex):∃ sl,h1.get? b=some { ob with slots:=sl }:=by
 by_cases hb:b∈fs
 .exact u.slot b ob q n hb hx
 .exact ⟨ob.slots,u.keep b ob q n hb hx⟩
theorem Un.kept (k:∀ b u,h.get? b=some u->h'.get? b=some u):Un fs ex H H h h':=
 ⟨λb ob q _ _ _=>k b ob q,λb ob q _ _ _=>⟨ob.slots,k b ob q⟩,λ_ _ _ n _=>n,λb ob q _=>⟨ob,k b ob q⟩,λ_ _ q=>q,λ_ _ _ q=>q,λ_ ps q=>⟨#[],by rw[q];simp⟩⟩
theorem Un.refl:Un fs ex H H h h:=Un.kept λ_ _ q=>q
theorem Un.laid (k:∀ b u,h.get? b=some u->h'.get? b=some u)(hp:h.objs.size<=a)(hn:H a=none):Un fs ex H (upd H a o) h h' where
 keep:=λb u q _ _ _=>k b u q
 slot:=λb u q _ _ _=>⟨u.slots,k b u q⟩
 free:=λb u q n _=>by rw[Zaj (Jbr (Jau (Jan q) hp))];exact n
 there:=λb u q _=>⟨u,k b u q⟩
 tups:=λb xs q=>by rw[Zaj (Zah q hn)];exact q
 frzs:=λb u xs q=>by rw[Zaj (Zah q hn)];exact q
 tbls:=λb ps q=>⟨#[],by rw[Zaj (Zah q hn),q];simp⟩
theorem Un.write (mu:Mut (H x))(he:e=x\/H e=some (.own x))(k:∀ b u,b≠e->h.get? b=some u->h'.get? b=some u)(heo:∃ u,h'.get? e=some u):Un fs ex H (upd H x o) h h':=by
 have hx:∀ b,H b=none->b≠x:=λb n z=>by subst z;rw[n] at mu;exact mu
 have hb:∀ b,H b=none->b≠e:=λb n z=>by
  subst z;rcases he with r|r
  .exact hx b n r
  .rw [n] at r;cases r
 have hm:∀ b u,H b=some u->¬ Mut (some u)->b≠x:=λb u q nm z=>by subst z;rw[q] at mu;exact nm mu
 refine⟨λb u q n _ _=>k b u (hb b n) q,λb u q n _ _=>⟨u.slots,k b u (hb b n) q⟩,λb u q n _=>by rw[Zaj (hx b n)];exact n,λb u q _=>?_,
  λb xs q=>by rw[Zaj (hm b _ q λz=>z)];exact q,λb u xs q=>by rw[Zaj (hm b _ q λz=>z)];exact q,λb ps q=>⟨#[],by rw[Zaj (hm b _ q λz=>z),q];simp⟩⟩
 by_cases hbe:b=e
 .subst hbe;exact heo
 .exact ⟨u,k b u hbe q⟩
end
def trk (h:Heap)(H:Hp):List Addr:=(List.range h.objs.size).filter λa=>(H a).isSome
def Zso (h:Heap)(H:Hp):Heap:=PySem.W.hideAll h (trk h H)
theorem Zrv (h:Heap)(H:Hp):(Zso h H).objs.size=h.objs.size:=PySem.W.hideAll_size _ _
theorem Zum {h:Heap}{H:Hp}{b:Addr}{o:Obj}(e:h.get? b=some o)(n:H b=none):(Zso h H).get? b=some o:=
 PySem.W.hideAll_get _ e λhm=>by
  have q:(H b).isSome=true:=(Jcv.mp hm).2;rw[n] at q;simp at q
theorem of_hidT {h:Heap}{H:Hp}{b:Addr}{o:Obj}(e:(Zso h H).get? b=some o):h.get? b=some o/\H b=none:=by
 have e':h.get? b=some o:=PySem.W.of_hideAll (trk h H) e;refine⟨e',?_⟩;cases q:H b with
 | none=>rfl
 | some x=>
  have hm:b∈trk h H:=Jcv.mpr ⟨Ja0.mpr (Jan e'),by simp[q]⟩;have z:(Zso h H).get? b=none:=PySem.W.hideAll_none (trk h H) hm;rw[z] at e;cases e
def allNews (g h:Heap)(L:Addr):List (Addr×Obj):=(List.range h.objs.size).filterMap λa=>if a=L\/(g.get? a).isSome=true then none else (h.get? a).map λo=>(a,o)
def rest (g h:Heap)(L d:Addr):List (Addr×Obj):=(allNews g h L).filter λp=>decide (p.1≠d)
structure Mod (K:Frag)(mg:Str->Option Value)(base:Heap):Prop where
 kin:K.In base
 glob:base.Ns mainGlobals mg
 blt:∃ mb,base.Ns builtinsNs mb/\∀ x:Str,x ≠ "__name__" -> mb x=bootBuiltins x
 nolimit:base.NoLimit
 seer:base.NoSeer
 bmain:∃ bm ob,mg "__builtins__" = some (.ref bm)/\bm≠builtinsNs/\base.get? bm=some ob/\ob.cls=.type "module" /\ ob.dict=some builtinsNs/\ob.data=.plain
def Seen (l:List Env):Prop:=∃ e r,l=e::r/\e.scope.isGenerator=false/\e.scope.isCoroutine=false/\e.builtins=builtinsNs/\e.globals=mainGlobals
structure Cx where
 prog:Program
 w:World
 K:Frag
 mg:Str->Option Value
 base:Heap
 A:Around
 N:List Str
 s₀:Shared
 H₀:Hp
 env:Env
 outer:List Env
 stack:List Env
 ex:List Addr
 fn:Str->Bool
 calm:Bool
 pn:List (Addr×Obj)
 xe:Value->Shared->Prop
def frs (l:List Env):List Addr:=l.filterMap (·.frame)
abbrev Cx.fs (X:Cx):List Addr:=frs X.outer
def Vis (sc:Scope)(x:Str):Prop:=sc.names.lookup x=some .local\/sc.names.lookup x=some .cell\/sc.names.lookup x=some .free
def Loc (sc:Scope)(x:Str):Prop:=sc.names.lookup x=some .local\/sc.names.lookup x=some .cell
def Look (env:Env)(h:Heap)(m:Str->Option Value)(x:Str)(u:Value):Prop:=
 (env.kindOf x=some .local/\m x=some u)\/((env.kindOf x=some .cell\/env.kindOf x=some .free)/\∃ c,env.cells.lookup x=some c/\h.IsCell c (some u))
structure Cx.Ok (X:Cx):Prop where
 mod:Mod X.K X.mg X.base
 kind:X.env.scope.kind=.function
 glob:X.env.globals=mainGlobals
 blt:X.env.builtins=builtinsNs
 above:X.s₀.heap.objs.size<=X.env.locals
 inj:∀ x y c,X.env.cells.lookup x=some c->X.env.cells.lookup y=some c->x=y
 has:∀ x,(X.env.kindOf x=some .cell\/X.env.kindOf x=some .free)->∃ c,X.env.cells.lookup x=some c
 cab:∀ x c,X.fn x=true->X.env.cells.lookup x=some c->X.s₀.heap.objs.size<=c
 hd:X.calm=true->X.A.handled=none
 frames:X.A.frames=some X.stack
 stk:X.stack=X.outer\/(X.stack=X.env::X.outer/\X.env.frame=some X.env.locals)
 exf:∀ b∈X.ex,b≠X.env.locals/\∀ x c,X.env.cells.lookup x=some c->c≠b
 bs:∀ b o,X.base.get? b=some o->X.s₀.heap.get? b=some o/\X.H₀ b=none
 bsz:X.base.objs.size<=X.s₀.heap.objs.size
 noex:∀ b o,X.base.get? b=some o->b∉X.ex
 exfs:∀ b∈X.ex,b∉X.fs
 funs:X.s₀.heap.FunFrames X.base X.outer
 frf:∀ b∈X.fs,X.H₀ b=none
 top:Seen X.stack
structure Inv (X:Cx)(pins:List (Addr×Obj))(σ:List (Option V))(H:Hp)(s:Shared):Prop where
 ok:X.Ok
 os:s.os=X.s₀.os
 bare:AllBare s.gens
 base:Un X.fs X.ex X.H₀ H X.s₀.heap s.heap
 loc:∃ m,s.heap.Ns X.env.locals m/\∀ (i:Nat) (x:Str) (v:V),X.N[i]?=some x->σ[i]?=some (some v)->Vis X.env.scope x->∃ u,RelV v u/\Look X.env s.heap m x u
 cell:∀ x c,X.env.cells.lookup x=some c->∃ v,s.heap.IsCell c v
 free:H X.env.locals=none
 freeC:∀ x c,X.env.cells.lookup x=some c->H c=none
 pin:∀ p∈X.pn++pins,s.heap.get? p.1=some p.2/\H p.1=none/\p.1≠X.env.locals/\p.1∉X.fs/\∀ v,p.2.data≠.cell v
 hok:HOk X.prog X.w H s.heap
 len:σ.length=X.N.length
section
variable {X:Cx}{pins:List (Addr×Obj)}{σ:List (Option V)}{H H':Hp}{s:Shared}{h':Heap}
theorem Cx.Ok.nofr (ok:X.Ok){b:Addr}{o:Obj}(e:X.base.get? b=some o):b∉X.fs:=λhb=>by
 have:=(ok.funs.mem hb).1;rw[e] at this;cases this
theorem Inv.bs (I:Inv X pins σ H s):∀ b o,X.base.get? b=some o->s.heap.get? b=some o/\H b=none:=λb o e=>
 ⟨I.base.keep b o (I.ok.bs b o e).1 (I.ok.bs b o e).2 (I.ok.nofr e) (I.ok.noex b o e),I.base.free b o (I.ok.bs b o e).1 (I.ok.bs b o e).2 (I.ok.noex b o e)⟩
theorem Inv.bk (I:Inv X pins σ H s):∀ b o,X.base.get? b=some o->s.heap.get? b=some o:=λb o e=>(I.bs b o e).1
theorem Inv.mod (I:Inv X pins σ H s):Mod X.K X.mg X.base:=I.ok.mod
theorem Inv.kIn (I:Inv X pins σ H s):X.K.In s.heap:=I.ok.mod.kin.keeps I.bk
theorem Inv.nolimit (I:Inv X pins σ H s):s.heap.NoLimit:=I.ok.mod.nolimit.keeps I.bk
theorem Inv.long (I:Inv X pins σ H s)(ht:X.prog.given.tree=none)(hd:X.A.depth+Builtin.pylongFrames<recursionLimit):PySem.PylongRoom (model X.prog X.w) X.A s:=by
 refine Zki I.ok.top λe r hs h1 h2 h3 h4=>?_;exact PySem.PylongRoom.of I.nolimit hd (PySem.SeerAt.of (I.ok.mod.seer.keeps I.bk) ht (by rw[I.ok.frames,hs]) h1 h2 h3 h4)
theorem Inv.lt (I:Inv X pins σ H s):X.env.locals<s.heap.objs.size:=let ⟨_,hn,_⟩:=I.loc;hn.lt
theorem Inv.sz (I:Inv X pins σ H s):X.s₀.heap.objs.size<=s.heap.objs.size:=Ja4 I.ok.above (Jbv I.lt)
theorem Inv.nofs (I:Inv X pins σ H s){a:Addr}(h:s.heap.objs.size<=a):a∉X.fs:=λhb=>by
 obtain⟨_,o,ho,_⟩:=I.ok.funs.mem hb;exact absurd (Jau (Jan ho) (Ja4 I.sz h)) (Jb4 _)
theorem Inv.cne (I:Inv X pins σ H s):∀ x c,X.env.cells.lookup x=some c->c≠X.env.locals:=λx c e z=>by
 obtain⟨v,o,ho,hd⟩:=I.cell x c e;refine Zae I.loc λm e918 _=>?_;obtain⟨o',es,ep,ho',hd',_⟩:=e918;rw[z,ho'] at ho;cases ho;rw[hd'] at hd;cases hd
theorem Inv.funs (I:Inv X pins σ H s):s.heap.FunFrames X.base X.outer:=by
 have all:∀ (l:List Env),(∀ b∈frs l,b∈X.fs)->X.s₀.heap.FunFrames X.base l->s.heap.FunFrames X.base l:=by
  intro l
  induction l with
  | nil=>intro _ _;trivial
  | cons env r ih=>
   intro hs hl;refine Za2 hl λhk e919 hr=>?_;clear hl;obtain⟨L,o,hf,hn,ho,hd⟩:=e919;have hL:L∈X.fs:=hs L (by unfold frs;rw[Jdx,hf];exact Jb9);obtain⟨sl,e⟩:=I.base.slot L o ho (I.ok.frf L hL) hL λz=>I.ok.exfs L z hL;exact⟨hk,⟨L,_,hf,hn,e,hd⟩,ih (λb hb=>hs b (by unfold frs;rw[Jdx,hf];exact Jbn _ hb)) hr⟩
 exact all X.outer (λ_ hb=>hb) I.ok.funs
theorem Inv.stack (I:Inv X pins σ H s):s.heap.FunFrames X.base X.stack:=by
 rcases I.ok.stk with e|⟨e,hf⟩
 .rw [e];exact I.funs
 .rw [e];refine Zae I.loc λm hn _=>?_;refine .cons (by rw[I.ok.kind];decide) hf hn ?_ I.funs;exact Heap.get?_none_of_le (Ja4 I.ok.bsz I.ok.above)
theorem Inv.stkSub (I:Inv X pins σ H s):∀ b∈frs X.stack,b∈X.env.locals::X.fs:=λb hb=>by
 rcases I.ok.stk with e|⟨e,hf⟩
 .rw [e] at hb;exact Jbn _ hb
 .rw [e] at hb;unfold frs at hb;rw[Jdx,hf] at hb;exact hb
theorem Inv.stkFree (I:Inv X pins σ H s):∀ b∈frs X.stack,H b=none:=λb hb=>by
 rcases Jbo.mp (I.stkSub b hb) with e|hb
 .rw [e];exact I.free
 .obtain ⟨_,o,ho,_⟩:=I.ok.funs.mem hb;exact I.base.free b o ho (I.ok.frf b hb) λz=>I.ok.exfs b z hb
theorem Inv.step {g':Array GenState}{t':Nat}{d':Drawn}{ch:List Addr}(I:Inv X pins σ H s)(hch:∀ b∈ch,(b∈X.ex\/X.s₀.heap.objs.size<=b)/\b≠X.env.locals/\(∀ x c,X.env.cells.lookup x=some c->c≠b)/\∀ p∈X.pn++pins,p.1≠b)(keep:∀ b o,b≠X.env.locals->b∉X.fs->b∉ch->s.heap.get? b=some o->H b=none->h'.get? b=some o)(slot:∀ b o,b≠X.env.locals->b∈X.fs->b∉ch->s.heap.get? b=some o->H b=none->∃ sl,h'.get? b=some { o with slots:=sl })(free:∀ b o,b∉ch->s.heap.get? b=some o->H b=none->H' b=none)(there:∀ b o,b∉ch->s.heap.get? b=some o->∃ o',h'.get? b=some o')(tups:∀ b xs,H b=some (.tup xs)->H' b=some (.tup xs))(frzs:∀ b o u,H b=some (.frz o u)->H' b=some (.frz o u))(tbls:∀ b ps,H b=some (.tbl ps)->∃ more,H' b=some (.tbl (ps++more)))(ns:∀ m,s.heap.Ns X.env.locals m->h'.Ns X.env.locals m)(hok:HOk X.prog X.w H' h')(hg:AllBare g'):
  Inv X pins σ H' { s with heap:=h',gens:=g',drawn:=d',toks:=t' }:=by
 have neL:∀ b o,X.s₀.heap.get? b=some o->b≠X.env.locals:=λb o e=>Jbr (Jau (Jan e) I.ok.above);have neC:∀ b o,X.s₀.heap.get? b=some o->b∉X.ex->b∉ch:=λb o e hx hb=>by
  rcases (hch b hb).1 with z|z
  .exact hx z
  .exact absurd (Jau (Jan e) z) (Jb4 _)
 have cellK:∀ x c,X.env.cells.lookup x=some c->∀ v,s.heap.IsCell c v->h'.IsCell c v:=λx c e v ⟨o,ho,hd⟩=>by
  have nch:c∉ch:=λz=>(hch c z).2.2.1 x c e rfl;by_cases hc:c∈X.fs
  .obtain ⟨sl,q⟩:=slot c o (I.cne x c e) hc nch ho (I.freeC x c e);exact⟨_,q,hd⟩
  .exact ⟨o,keep c o (I.cne x c e) hc nch ho (I.freeC x c e),hd⟩
 refine⟨I.ok,I.os,hg,⟨λb o e n hb hx=>?_,λb o e n hb hx=>?_,λb o e n hx=>?_,λb o e hx=>?_,λb xs e=>tups b xs (I.base.tups b xs e),λb o xs e=>frzs b o xs (I.base.frzs b o xs e),λb ps e=>?_⟩,?_,λx c e=>?_,?_,λx c e=>?_,λp hp=>?_,hok,I.len⟩
 .exact keep b o (neL b o e) hb (neC b o e hx) (I.base.keep b o e n hb hx) (I.base.free b o e n hx)
 .obtain ⟨sl,e1⟩:=I.base.slot b o e n hb hx;obtain⟨sl',e2⟩:=slot b _ (neL b o e) hb (neC b o e hx) e1 (I.base.free b o e n hx);exact⟨sl',e2⟩
 .obtain ⟨o',e1⟩:=I.base.there b o e hx;exact free b o' (neC b o e hx) e1 (I.base.free b o e n hx)
 .obtain ⟨o',e1⟩:=I.base.there b o e hx;exact there b o' (neC b o e hx) e1
 .obtain ⟨m1,e1⟩:=I.base.tbls b ps e;obtain⟨m2,e2⟩:=tbls b _ e1;exact⟨m1++m2,by rw[e2,Array.append_assoc]⟩
 .refine Zae I.loc λm hn hl=>?_;refine⟨m,ns m hn,λi x v e1 e2 e3=>?_⟩;refine Zae (hl i x v e1 e2 e3) λu r l=>?_;refine⟨u,r,?_⟩;rcases l with l|⟨k,c,e,z⟩
  .exact .inl l
  .exact .inr ⟨k,c,e,cellK x c e _ z⟩
 .obtain ⟨v,z⟩:=I.cell x c e;exact⟨v,cellK x c e v z⟩
 .refine Zae I.loc λm e920 _=>?_;obtain⟨o,_,_,ho,_⟩:=e920;exact free _ o (λz=>(hch _ z).2.1 rfl) ho I.free
 .obtain ⟨v,o,ho,hd⟩:=I.cell x c e;exact free c o (λz=>(hch c z).2.2.1 x c e rfl) ho (I.freeC x c e)
 .refine Zc3 (I.pin p hp) λe n ne nf d=>?_;have nch:p.1∉ch:=λz=>(hch p.1 z).2.2.2 p hp rfl;exact⟨keep p.1 p.2 ne nf nch e n,free p.1 p.2 nch e n,ne,nf,d⟩
theorem Inv.un {t':Nat}(I:Inv X pins σ H s)(u:Un X.fs [] H H' s.heap h')(hok:HOk X.prog X.w H' h'):Inv X pins σ H' { s with heap:=h',toks:=t' }:=by
 refine Zae (id I.loc) λm e921 _=>?_;obtain⟨o,es,ep,ho,r⟩:=e921;obtain⟨sl,hL⟩:=u.any ho I.free (by simp);exact I.step (g':=s.gens) (d':=s.drawn) (ch:=[]) (λ_ z=>nomatch z) (λb o _ hb _ e n=>u.keep b o e n hb (by simp)) (λb o _ hb _ e n=>u.slot b o e n hb (by simp)) (λb o _ e n=>u.free b o e n (by simp)) (λb o _ e=>u.there b o e (by simp)) u.tups u.frzs u.tbls (λm' hm=>by
  refine Zf3 hm λo' es' ep' ho' r'=>?_;clear hm;rw[ho] at ho';cases ho';exact⟨_,es',ep',hL,r'⟩) hok I.bare
theorem Inv.call {g':Array GenState}{t':Nat}{d':Drawn}{ch:List Addr}(I:Inv X pins σ H s)(u:Un (frs X.stack) ch H H' s.heap h')(hok:HOk X.prog X.w H' h')(hg:AllBare g')(hch:∀ b∈ch,(b∈X.ex\/X.s₀.heap.objs.size<=b)/\b≠X.env.locals/\(∀ x c,X.env.cells.lookup x=some c->c≠b)/\∀ p∈X.pn++pins,p.1≠b):
  Inv X pins σ H' { s with heap:=h',gens:=g',drawn:=d',toks:=t' }:=by
 refine Zae (id I.loc) λm e922 _=>?_;obtain⟨o,es,ep,ho,r⟩:=e922;obtain⟨sl,hL⟩:=u.any ho I.free λz=>(hch _ z).2.1 rfl;exact I.step (ch:=ch) hch (λb o hL hb hc e n=>u.keep b o e n (λz=>(Jbo.mp (I.stkSub b z)).elim hL hb) hc) (λb o _ _ hc e n=>u.any e n hc) (λb o hc e n=>u.free b o e n hc) (λb o hc e=>u.there b o e hc) u.tups u.frzs u.tbls (λm' hm=>by
  refine Zf3 hm λo' es' ep' ho' r'=>?_;clear hm;rw[ho] at ho';cases ho';exact⟨_,es',ep',hL,r'⟩) hok hg
theorem Inv.turned {t':Nat}{it:Addr}(I:Inv X pins σ H s)(k:∀ b o,b≠it->s.heap.get? b=some o->h'.get? b=some o)(hn:H it=none)(hL:it≠X.env.locals)(h1:it∈X.ex\/X.s₀.heap.objs.size<=it)(h2:∀ x c,X.env.cells.lookup x=some c->c≠it)(h3:∀ p∈X.pn++pins,p.1≠it):Inv X pins σ H { s with heap:=h',toks:=t' }:=by
 have nit:∀ b u,H b=some u->b≠it:=λb u e z=>by rw[z,hn] at e;cases e
 refine I.step (g':=s.gens) (d':=s.drawn) (ch:=[it]) (λb hb=>?_) (λb o _ _ hc e _=>k b o (λz=>hc (by simp[z])) e) (λb o _ _ hc e _=>⟨o.slots,k b o (λz=>hc (by simp[z])) e⟩) (λ_ _ _ _ n=>n)
  (λb o hc e=>⟨o,k b o (λz=>hc (by simp[z])) e⟩) (λ_ _ e=>e) (λ_ _ _ e=>e) (λb ps e=>⟨#[],by rw[e];simp⟩) (λm hm=>?_) (λb u e=>?_) I.bare
 .have e:b=it:=by simpa using hb
  subst e;exact⟨h1,hL,h2,h3⟩
 .refine Zf3 hm λo es ep ho r=>?_;clear hm;exact Zcm o es ep ⟨k _ o (Jdq hL) ho,r⟩
 .refine (I.hok b u e).stay (λc v hc q=>k c v ?_ q) (λ_ q=>q) (λ_ _ q=>q) λ_ _ _ q=>q;rcases hc with z|z
  .rw [z];exact nit b u e
  .exact nit c _ z
theorem Inv.tok (I:Inv X pins σ H s)(t:Nat):Inv X pins σ H { s with toks:=t }:=I.un (h':=s.heap) (t':=t) Un.refl I.hok
theorem Inv.kept {t':Nat}(I:Inv X pins σ H s)(k:∀ b u,s.heap.get? b=some u->h'.get? b=some u):Inv X pins σ H { s with heap:=h',toks:=t' }:=I.un (Un.kept k) (I.hok.kept k)
theorem Inv.laid {a:Addr}{o:HO}{t':Nat}(I:Inv X pins σ H s)(k:∀ b u,s.heap.get? b=some u->h'.get? b=some u)(hp:s.heap.objs.size<=a)(new:ObjOk X.prog X.w (upd H a o) h' a o):
  Inv X pins σ (upd H a o) { s with heap:=h',toks:=t' }:=I.un (Un.laid k hp (I.hok.fresh hp)) (I.hok.laid k hp new)
theorem Inv.write {x e:Addr}{o:HO}{t':Nat}(I:Inv X pins σ H s)(mu:Mut (H x))(he:e=x\/H e=some (.own x))(k:∀ b u,b≠e->s.heap.get? b=some u->h'.get? b=some u)(heo:∃ u,h'.get? e=some u)(new:ObjOk X.prog X.w (upd H x o) h' x o):Inv X pins σ (upd H x o) { s with heap:=h',toks:=t' }:=I.un (Un.write mu he k heo) (I.hok.write mu he k heo new)
theorem Inv.pins_of {pins':List (Addr×Obj)}(I:Inv X pins σ H s)(h:∀ p∈pins',s.heap.get? p.1=some p.2/\H p.1=none/\p.1≠X.env.locals/\p.1∉X.fs/\∀ v,p.2.data≠.cell v):Inv X pins' σ H s:=
 ⟨I.ok,I.os,I.bare,I.base,I.loc,I.cell,I.free,I.freeC,λp hp=>(Jba.mp hp).elim (λz=>I.pin p (List.mem_append_left _ z)) (h p),I.hok,I.len⟩
theorem Zn5 {N:List Str}(hN:N.Nodup){i j:Nat}{x:Str}(a:N[i]?=some x)(b:N[j]?=some x):i=j:=by
 obtain⟨h1,e1⟩:=Jaf.mp a;obtain⟨h2,e2⟩:=Jaf.mp b;exact (List.getElem_inj hN).mp (e1.trans e2.symm)
theorem Zlf {M:Model}{A:Around}{E:Value->Shared->Prop}{i:Nat}{x:Str}{v:V}{u:Value}{Q:Unit->Shared->Prop}(I:Inv X pins σ H s)(hN:X.N.Nodup)(hi:X.N[i]?=some x)(hx:Loc X.env.scope x)(r:RelV v u)(h:∀ s',Inv X pins (σ.set i (some v)) H s'->(∃ a,Heap.SameBut a s.heap s'.heap/\(a=X.env.locals\/X.env.cells.lookup x=some a))->Q () s')(hf:X.fn x=true\/X.env.scope.names.lookup x=some .local:=by first|exact .inl rfl|exact .inr rfl|assumption):wpAny M A (storeName X.env x u) Q E s:=by
 refine Zae (id I.loc) λm hn hl=>?_;have hcls:(X.env.scope.kind == .class || (X.env.scope.kind == .module && X.env.locals != X.env.globals))=false:=by rw[I.ok.kind];rfl
 have hiσ:i<σ.length:=by rw[I.len];exact (Jaf.mp hi).1
 have cne:=I.cne;have tracked:∀ {a:Addr} {h':Heap},(∃ o,s.heap.get? a=some o/\H a=none)->Heap.SameBut a s.heap h'->HOk X.prog X.w H h':=λ{a h'} ha hs b ob e=>by
  refine Zae ha λ_ _ hfree=>?_;clear ha;refine (I.hok b ob e).stay (λc w' hc q=>(hs.2 c ?_).trans q) (λ_ q=>q) (λ_ _ q=>q) λ_ _ _ q=>q;rintro rfl;rcases hc with rfl|hc
  .rw [hfree] at e;cases e
  .rw [hfree] at hc;cases hc
 rcases hx with hk|hk
 .refine wpAny_storeName_local hk hn (λh' hn' hs=>?_) hcls;refine Zf3 (id hn) λoL _ _ hoL _=>?_;refine h _ ⟨I.ok,I.os,I.bare,⟨λb o e n hb hx=>?_,λb o e n hb hx=>?_,I.base.free,λb o e hx=>?_,I.base.tups,I.base.frzs,I.base.tbls⟩,⟨_,hn',λj y v' e1 e2 e3=>?_⟩,λy c e=>?_,I.free,I.freeC,λp hp=>?_,tracked ⟨oL,hoL,I.free⟩ hs,by simpa using I.len⟩ ⟨_,hs,.inl rfl⟩
  .exact (hs.2 b (Jbr (Jau (Jan e) I.ok.above))).trans (I.base.keep b o e n hb hx)
  .obtain ⟨sl,e1⟩:=I.base.slot b o e n hb hx;exact⟨sl,(hs.2 b (Jbr (Jau (Jan e) I.ok.above))).trans e1⟩
  .obtain ⟨o',e1⟩:=I.base.there b o e hx;exact⟨o',(hs.2 b (Jbr (Jau (Jan e) I.ok.above))).trans e1⟩
  .by_cases hj:j=i
   .subst hj;rw[hi] at e1;cases e1;rw[List.getElem?_set_self hiσ] at e2;cases e2;exact⟨u,r,.inl ⟨hk,by simp⟩⟩
   .rw [List.getElem?_set_ne (Jdq hj)] at e2;refine Zae (hl j y v' e1 e2 e3) λu' r' q=>?_;refine⟨u',r',?_⟩;rcases q with ⟨k,e⟩|⟨k,c,e,z⟩
    .refine .inl ⟨k,?_⟩;have:y≠x:=λe=>hj (Zn5 hN e1 (e ▸ hi));simp[this,e]
    .exact .inr ⟨k,c,e,z.sameBut hs (cne y c e)⟩
  .obtain ⟨w',z⟩:=I.cell y c e;exact⟨w',z.sameBut hs (cne y c e)⟩
  .refine Zc3 (I.pin p hp) λe n ne nf d=>?_;exact⟨(hs.2 p.1 ne).trans e,n,ne,nf,d⟩
 .have hfn:X.fn x=true:=by
   rcases hf with z|z
   .exact z
   .rw [z] at hk;cases hk
  obtain⟨c,hc⟩:=I.ok.has x (.inl hk);obtain⟨w',z⟩:=I.cell x c hc;refine wpAny_storeName_cell I.ok.kind hk hc z (λh' hc' hs=>?_);refine Zae (id z) λoc hoc hocd=>?_;refine h { s with heap:=h' } ⟨I.ok,I.os,I.bare,⟨λb o e n hb hx=>?_,λb o e n hb hx=>?_,I.base.free,λb o e hx=>?_,I.base.tups,I.base.frzs,I.base.tbls⟩,⟨m,hn.sameBut hs (Jdq (cne x c hc)),λj y v' e1 e2 e3=>?_⟩,λy c' e=>?_,I.free,I.freeC,λp hp=>?_,tracked ⟨oc,hoc,I.freeC x c hc⟩ hs,by simpa using I.len⟩ ⟨c,hs,.inr hc⟩
  .exact (hs.2 b (Jbr (Jau (Jan e) (I.ok.cab x c hfn hc)))).trans (I.base.keep b o e n hb hx)
  .obtain ⟨sl,e1⟩:=I.base.slot b o e n hb hx;exact⟨sl,(hs.2 b (Jbr (Jau (Jan e) (I.ok.cab x c hfn hc)))).trans e1⟩
  .obtain ⟨o',e1⟩:=I.base.there b o e hx;exact⟨o',(hs.2 b (Jbr (Jau (Jan e) (I.ok.cab x c hfn hc)))).trans e1⟩
  .by_cases hj:j=i
   .subst hj;rw[hi] at e1;cases e1;rw[List.getElem?_set_self hiσ] at e2;cases e2;exact⟨u,r,.inr ⟨.inl hk,c,hc,hc'⟩⟩
   .rw [List.getElem?_set_ne (Jdq hj)] at e2;refine Zae (hl j y v' e1 e2 e3) λu' r' q=>?_;refine⟨u',r',?_⟩;rcases q with q|⟨k,c',e,z'⟩
    .exact .inl q
    .refine .inr ⟨k,c',e,z'.sameBut hs ?_⟩;rintro rfl;exact hj (Zn5 hN e1 (I.ok.inj _ _ _ e hc ▸ hi))
  .by_cases hcc:c'=c
   .subst hcc;exact⟨_,hc'⟩
   .obtain ⟨w2,z2⟩:=I.cell y c' e;exact⟨w2,z2.sameBut hs hcc⟩
  .refine Zc3 (I.pin p hp) λe n ne nf d=>?_;refine⟨(hs.2 p.1 ?_).trans e,n,ne,nf,d⟩;intro q;rw[q,hoc] at e;have q':oc=p.2:=Jbp e;exact d w' (by rw[<- q'];exact hocd)
theorem Zid {M:Model}{A:Around}{E:Value->Shared->Prop}{i:Nat}{x:Str}{v:V}{u:Value}{Q:Unit->Shared->Prop}(I:Inv X pins σ H s)(hN:X.N.Nodup)(hi:X.N[i]?=some x)(hx:Loc X.env.scope x)(r:RelV v u)(h:∀ s',Inv X pins (σ.set i (some v)) H s'->Q () s')(hf:X.fn x=true\/X.env.scope.names.lookup x=some .local:=by first|exact .inl rfl|exact .inr rfl|assumption):wpAny M A (storeName X.env x u) Q E s:=
 Zlf I hN hi hx r (λs' I' _=>h s' I') hf
theorem Inv.call' {s':Shared}{ch:List Addr}(I:Inv X pins σ H s)(ho:s'.os=s.os)(u:Un (frs X.stack) ch H H' s.heap s'.heap)(hok:HOk X.prog X.w H' s'.heap)(hg:AllBare s'.gens)(hch:∀ b∈ch,(b∈X.ex\/X.s₀.heap.objs.size<=b)/\b≠X.env.locals/\(∀ x c,X.env.cells.lookup x=some c->c≠b)/\∀ p∈X.pn++pins,p.1≠b):Inv X pins σ H' s':=by
 obtain⟨h',g',d',t',o'⟩:=s';have e:o'=s.os:=ho;subst e;exact I.call (g':=g') (t':=t') (d':=d') u hok hg hch
end
abbrev XK:=Value->Option Addr->Hp->Prop
abbrev St:=List (Option V)
abbrev VK:=V->Hp->Prop
abbrev TE:=St->Hp->VK->Prop
abbrev TT:=St->Hp->(Bool->Hp->Prop)->Prop
abbrev TA:=St->Hp->(List V->Hp->Prop)->Prop
structure Ends where
 nx:St->Hp->Prop
 rt:VK
 bk:St->Hp->Prop:=λ_ _=>False
 ct:St->Hp->Prop:=λ_ _=>False
abbrev TS:=Ends->St->Hp->Prop
def EP (X:Cx)(pins:List (Addr×Obj))(σ:St)(Q:VK)(u:Value)(s':Shared):Prop:=∃ v H',Inv X pins σ H' s'/\RelV v u/\Q v H'
def TP (X:Cx)(pins:List (Addr×Obj))(σ:St)(Q:Bool->Hp->Prop)(b:Bool)(s':Shared):Prop:=∃ H',Inv X pins σ H' s'/\Q b H'
def AP (X:Cx)(pins:List (Addr×Obj))(σ:St)(Q:List V->Hp->Prop)(us:List Value)(s':Shared):Prop:=∃ vs H',Inv X pins σ H' s'/\Vals vs us/\Q vs H'
def SP (X:Cx)(pins:List (Addr×Obj))(D:Ends)(f:Flow)(s':Shared):Prop:=
 match f with
 | .next=>∃ σ' H',Inv X pins σ' H' s'/\D.nx σ' H'
 | .brk=>∃ σ' H',Inv X pins σ' H' s'/\D.bk σ' H'
 | .cont=>∃ σ' H',Inv X pins σ' H' s'/\D.ct σ' H'
 | .ret u=>∃ v σ' H',Inv X pins σ' H' s'/\RelV v u/\D.rt v H'
def PE (X:Cx)(e:Expr)(t:TE):Prop:=
 ∀ (pins:List (Addr×Obj)) (s:Shared) (σ:St) (H:Hp) (Q:VK),Inv X pins σ H s->t σ H Q->wpAny (model X.prog X.w) X.A (eval e X.env) (EP X pins σ Q) X.xe s
def PT (X:Cx)(e:Expr)(t:TT):Prop:=
 ∀ (pins:List (Addr×Obj)) (s:Shared) (σ:St) (H:Hp) (Q:Bool->Hp->Prop),Inv X pins σ H s->t σ H Q->wpAny (model X.prog X.w) X.A (isTrue e X.env (eval e X.env)) (TP X pins σ Q) X.xe s
def PW (X:Cx)(e:Expr)(t:TT):Prop:=
 ∀ (whole:Sem Value) (pins:List (Addr×Obj)) (s:Shared) (σ:St) (H:Hp) (Q:Bool->Hp->Prop),Inv X pins σ H s->t σ H Q->wpAny (model X.prog X.w) X.A (isTrue e X.env whole) (TP X pins σ Q) X.xe s
theorem PW.pt {X:Cx}{e:Expr}{t:TT}(h:PW X e t):PT X e t:=h _
def PA (X:Cx)(es:List Expr)(t:TA):Prop:=
 ∀ (pos:Pos) (pins:List (Addr×Obj)) (s:Shared) (σ:St) (H:Hp) (Q:List V->Hp->Prop),Inv X pins σ H s->t σ H Q->wpAny (model X.prog X.w) X.A (spliced (backTo pos (starEach es X.env))) (AP X pins σ Q) X.xe s
def PS (X:Cx)(st:Stmt)(t:TS):Prop:=
 ∀ (pins:List (Addr×Obj)) (s:Shared) (σ:St) (H:Hp) (D:Ends),Inv X pins σ H s->t D σ H->wpAny (model X.prog X.w) X.A (exec st X.env) (SP X pins D) X.xe s
def PSs (X:Cx)(st:List Stmt)(t:TS):Prop:=
 ∀ (pins:List (Addr×Obj)) (s:Shared) (σ:St) (H:Hp) (D:Ends),Inv X pins σ H s->t D σ H->wpAny (model X.prog X.w) X.A (execs st X.env) (SP X pins D) X.xe s
theorem thn {α:Type}{t:Sem α}{Q Q':α->Shared->Prop}{M:Model}{A:Around}{E:Value->Shared->Prop}{s:Shared}(h:wpAny M A t Q E s)(hQ:∀ a s,Q a s->Q' a s):wpAny M A t Q' E s:=Jci h hQ λ_ _ x=>x
section
variable {X:Cx}
theorem bin {a b:Expr}{ta tb:TE}(ha:PE X a ta)(hb:PE X b tb){pins:List (Addr×Obj)}{s:Shared}{σ:St}{H:Hp}{R:V->V->Hp->Prop}(I:Inv X pins σ H s)(h:ta σ H λx H1=>tb σ H1 λy H2=>R x y H2){α:Type}{Q:α->Shared->Prop}{f:Value->Value->Sem α}(hf:∀ v u s2 x y H2,Inv X pins σ H2 s2->RelV x v->RelV y u->R x y H2->wpAny (model X.prog X.w) X.A (f v u) Q X.xe s2):
  wpAny (model X.prog X.w) X.A (eval a X.env) (λv s₁=>wpAny (model X.prog X.w) X.A (eval b X.env) (λu s₂=>wpAny (model X.prog X.w) X.A (f v u) Q X.xe s₂) X.xe s₁) X.xe s:=by
 refine thn (ha pins s σ H _ I h) λv s1 ⟨x,H1,I1,r1,q1⟩=>?_;refine thn (hb pins s1 σ H1 _ I1 q1) λu s2 ⟨y,H2,I2,r2,q2⟩=>?_;exact hf v u s2 x y H2 I2 r1 r2 q2
def Zg5 (i:Nat):TE:=λσ H Q=>∃ v,σ[i]?=some (some v)/\Q v H
def tC (v:V):TE:=λ_ H Q=>Q v H
theorem pe_var {i:Nat}{x:Str}{pos:Pos}(hN:X.N[i]?=some x)(hv:Vis X.env.scope x)(hd:(x == ("__debug__" : Str))=false:=by decide)(hcd:(x == ("__classdict__" : Str))=false:=by decide):PE X (.Name x pos) (Zg5 i):=by
 intro pins s σ H Q I h;obtain⟨v,e,h⟩:=h;obtain⟨m,hn,hl⟩:=I.loc;obtain⟨u,r,l⟩:=hl i x v hN e hv;have fin:EP X pins σ Q u s:=⟨v,H,I,r,h⟩
 rcases l with ⟨hk,hm⟩|⟨hk,c,hc,hcell⟩
 .exact wpAny_Name (wpAny_loadName_local I.ok.kind hk hn hm fin) hd
 .rcases hk with hk|hk
  .exact wpAny_Name (wpAny_loadName_cell I.ok.kind hk hc hcell fin) hd
  .exact wpAny_Name (wpAny_loadName_free I.ok.kind hk hc hcell fin hcd) hd
theorem Zac {i j pos}:PE X (.Constant (.int i) j pos) (tC (.int i)):=λ_ _ _ H _ I h=>wpAny_Constant_int ⟨.int i,H,I.tok _,⟨_,rfl⟩,h⟩
theorem Zc5 {b j pos}:PE X (.Constant (.bool b) j pos) (tC (.bl b)):=λ_ _ _ H _ I h=>Constant_bool ⟨.bl b,H,I,rfl,h⟩
theorem pe_non {j pos}:PE X (.Constant .none j pos) (tC .non):=λ_ _ _ H _ I h=>Constant_none ⟨.non,H,I,rfl,h⟩
theorem Znx {x j pos}:PE X (.Constant (.str x) j pos) (tC (.str x)):=λ_ _ _ H _ I h=>Calls.Constant_str ⟨.str x,H,I.tok _,⟨_,rfl⟩,h⟩
def Gl (X:Cx)(x:Str):Prop:=X.env.kindOf x=some .globalImplicit
theorem Zm4 {E:Value->Shared->Prop}{pins:List (Addr×Obj)}{s:Shared}{σ:St}{H:Hp}{x:Str}{u:Value}{pos:Pos}{Q:Value->Shared->Prop}(I:Inv X pins σ H s)(hg:Gl X x)(hm:X.mg x=some u)(h:Q u s)(hd:(x == ("__debug__" : Str))=false:=by decide):wpAny (model X.prog X.w) X.A (eval (.Name x pos) X.env) Q E s:=
 Calls.Name_function_global I.ok.kind hg (Calls.loadGlobal_global (by rw[I.ok.glob];exact I.mod.glob.keeps I.bk) hm h) hd
theorem Zjj {E:Value->Shared->Prop}{pins:List (Addr×Obj)}{s:Shared}{σ:St}{H:Hp}{x:Str}{u:Value}{pos:Pos}{Q:Value->Shared->Prop}(I:Inv X pins σ H s)(hg:Gl X x)(hm:X.mg x=none)(hv:bootBuiltins x=some u)(h:Q u s)(hn:x ≠ "__name__" := by decide)(hd:(x == ("__debug__" : Str))=false:=by decide):wpAny (model X.prog X.w) X.A (eval (.Name x pos) X.env) Q E s:=by
 refine Zae I.mod.blt λmb h1 h2=>?_;exact Calls.Name_function_global I.ok.kind hg (Calls.loadGlobal_builtin (by rw[I.ok.glob];exact I.mod.glob.keeps I.bk) hm (by rw[I.ok.blt];exact h1.keeps I.bk) ((h2 x hn).trans hv) h) hd
theorem Zqo {x:Str}{v:V}{u:Value}{pos:Pos}(hg:Gl X x)(hm:X.mg x=some u)(r:RelV v u)(hd:(x == ("__debug__" : Str))=false:=by decide):PE X (.Name x pos) (tC v):=
 λ_ _ _ H _ I h=>Zm4 I hg hm ⟨v,H,I,r,h⟩ hd
theorem pe_bltn {x:Str}{v:V}{u:Value}{pos:Pos}(hg:Gl X x)(hm:X.mg x=none)(hv:bootBuiltins x=some u)(r:RelV v u)(hn:x ≠ "__name__" := by decide)(hd:(x == ("__debug__" : Str))=false:=by decide):PE X (.Name x pos) (tC v):=
 λ_ _ _ H _ I h=>Zjj I hg hm hv ⟨v,H,I,r,h⟩ hn hd
variable {a b:Expr}{ta tb:TE}{pos:Pos}
def PC (X:Cx)(op:CmpOp)(a b:Expr)(t:TE):Prop:=
 ∀ (pins:List (Addr×Obj)) (s:Shared) (σ:St) (H:Hp) (Q:VK),Inv X pins σ H s->t σ H Q->
  wpAny (model X.prog X.w) X.A (eval a X.env) (λv s₁=>wpAny (model X.prog X.w) X.A (eval b X.env) (λu s₂=>wpAny (model X.prog X.w) X.A (compareOp op v u) (EP X pins σ Q) X.xe s₂) X.xe s₁) X.xe s
theorem Zt8 (b:Expr){op:CmpOp}(h:op≠.In)(h2:op≠.NotIn):behindInMarks op b=false:=by
 have e1:(op == CmpOp.In)=false:=by cases op <;> first|rfl|exact absurd rfl h
 have e2:(op == CmpOp.NotIn)=false:=by cases op <;> first|rfl|exact absurd rfl h2
 cases b <;> simp[behindInMarks,e1,e2]
def tB (t:TE):TT:=λσ H Q=>t σ H λx H1=>∃ c,x=.bl c/\Q c H1
theorem pt_cmp {op:CmpOp}{t:TE}(h:PC X op a b t)(h1:behindInMarks op b=false:=by first|exact Zt8 _ ⇑0 ⇑0|rfl):PT X (.Compare a [op] [b] pos) (tB t):=by
 intro pins s σ H Q I hw;refine Jdn (thn (h pins s σ H _ I hw) λv s1 h1=>thn h1 λu s2 h2=>thn h2 λc s3 ⟨x,H1,I1,r1,q1⟩=>?_) h1;refine Zae q1 λd e923 q=>?_;clear q1;obtain rfl:=e923;cases r1;exact Jbq ⟨H1,I1,q⟩
theorem Zbs {e:Expr}{t:TE}(h:PE X e t)(he:∀ whole,isTrue e X.env whole=(do let v <- whole;standAt e.pos;holding [v] (truthy v)):=by intro _;rfl):PT X e (tB t):=by
 intro pins s σ H Q I hw;refine isTrue_plain (thn (h pins s σ H _ I hw) λv s1 ⟨x,H1,I1,r1,q1⟩=>?_) (he _);refine Zae q1 λd e924 q=>?_;clear q1;obtain rfl:=e924;cases r1;exact Jbq ⟨H1,I1,q⟩
variable {tA tB':TT}{rest:List Expr}
def tAnd (t u:TT):TT:=λσ H Q=>t σ H λc H1=>if c=true then u σ H1 Q else Q false H1
def tOr (t u:TT):TT:=λσ H Q=>t σ H λc H1=>if c=true then Q true H1 else u σ H1 Q
def tNot (t:TT):TT:=λσ H Q=>t σ H λc H1=>Q (!c) H1
theorem Zfc (ha:PT X a tA):PW X (.BoolOp .And [a] pos) tA:=by
 intro wh pins s σ H Q I h;refine isTrue_and (thn (ha pins s σ H Q I h) λc s1 e=>?_);cases c with
 | true=>exact isTrue_and_nil e
 | false=>exact e
theorem Zcf (ha:PT X a tA):PW X (.BoolOp .Or [a] pos) tA:=by
 intro wh pins s σ H Q I h;refine isTrue_or (thn (ha pins s σ H Q I h) λc s1 e=>?_);cases c with
 | false=>exact isTrue_or_nil e
 | true=>exact e
theorem Zh0 (ha:PT X a tA)(hb:PW X (.BoolOp .And (b::rest) pos) tB'):PW X (.BoolOp .And (a::b::rest) pos) (tAnd tA tB'):=by
 intro wh pins s σ H Q I h;refine isTrue_and (thn (ha pins s σ H _ I h) λc s1 ⟨H1,I1,q1⟩=>?_);cases c with
 | true=>exact hb wh pins s1 σ H1 Q I1 q1
 | false=>exact⟨H1,I1,q1⟩
theorem Zdf (ha:PT X a tA)(hb:PW X (.BoolOp .Or (b::rest) pos) tB'):PW X (.BoolOp .Or (a::b::rest) pos) (tOr tA tB'):=by
 intro wh pins s σ H Q I h;refine isTrue_or (thn (ha pins s σ H _ I h) λc s1 ⟨H1,I1,q1⟩=>?_);cases c with
 | true=>exact⟨H1,I1,q1⟩
 | false=>exact hb wh pins s1 σ H1 Q I1 q1
theorem Zbj (ha:PT X a tA):PT X (.UnaryOp .Not a pos) (tNot tA):=by
 intro pins s σ H Q I h;exact isTrue_not (ha pins s σ H (λc H1=>Q (!c) H1) I h)
def tAndV (ta tb:TE):TE:=λσ H Q=>ta σ H λx H1=>∃ c,x=.bl c/\if c=true then tb σ H1 Q else Q (.bl false) H1
def tOrV (ta tb:TE):TE:=λσ H Q=>ta σ H λx H1=>∃ c,x=.bl c/\if c=true then Q (.bl true) H1 else tb σ H1 Q
def tNotV (ta:TE):TE:=λσ H Q=>ta σ H λx H1=>∃ c,x=.bl c/\Q (.bl (!c)) H1
theorem Zf0 {op}{t:TE}(h:PE X a t):PE X (.BoolOp op [a] pos) t:=λpins s σ H Q I hw=>BoolOp_one (h pins s σ H Q I hw)
theorem Zf1 (ha:PE X a ta)(hb:PE X (.BoolOp .And (b::rest) pos) tb):PE X (.BoolOp .And (a::b::rest) pos) (tAndV ta tb):=by
 intro pins s σ H Q I h;refine BoolOp_and (thn (ha pins s σ H _ I h) λv s1 ⟨x,H1,I1,r1,q1⟩=>?_);obtain⟨c,rfl,q1⟩:=q1;cases r1;refine Jbq ?_;cases c with
 | true=>exact hb pins s1 σ H1 Q I1 q1
 | false=>exact⟨.bl false,H1,I1,rfl,q1⟩
theorem pe_or (ha:PE X a ta)(hb:PE X (.BoolOp .Or (b::rest) pos) tb):PE X (.BoolOp .Or (a::b::rest) pos) (tOrV ta tb):=by
 intro pins s σ H Q I h;refine BoolOp_or (thn (ha pins s σ H _ I h) λv s1 ⟨x,H1,I1,r1,q1⟩=>?_);obtain⟨c,rfl,q1⟩:=q1;cases r1;refine Jbq ?_;cases c with
 | false=>exact hb pins s1 σ H1 Q I1 q1
 | true=>exact⟨.bl true,H1,I1,rfl,q1⟩
theorem Zvo (ha:PE X a ta):PE X (.UnaryOp .Not a pos) (tNotV ta):=by
 intro pins s σ H Q I h;refine UnaryOp_ (thn (ha pins s σ H _ I h) λv s1 ⟨x,H1,I1,r1,q1⟩=>?_);obtain⟨c,rfl,q1⟩:=q1;cases r1;exact not_of (Jbq ⟨.bl (!c),H1,I1,rfl,q1⟩)
def tIf (t:TT)(ta tb:TE):TE:=λσ H Q=>t σ H λc H1=>if c=true then ta σ H1 Q else tb σ H1 Q
end
def SqL (K:Frag)(H:Hp)(a:Addr)(xs:List V):Prop:=
 Rd H a (.lst xs) \/
  ∃ (o:Obj) (its:Array Value) (n:Nat),K.lookup a=some o/\o.cls=.type "list" /\ o.dict=none/\o.data=.seq its n/\its.size<=sizeLine/\Vals xs its.toList
def SqT (K:Frag)(H:Hp)(a:Addr)(xs:List V):Prop:=
 Rd H a (.tup xs) \/
  ∃ (o:Obj) (its:Array Value) (n:Nat),K.lookup a=some o/\o.cls=.type "tuple" /\ o.data=.seq its n/\its.size<=sizeLine/\Vals xs its.toList
def absV:Value->Option V
 | .none=>some .non
 | .bool b=>some (.bl b)
 | .int i _=>some (.int i)
 | .str x _=>some (.str x)
 | .bytes b _=>some (.byt b)
 | .float b _=>some (.flt b)
 | .ref a=>some (.ref a)
 | .type n=>some (.ty n)
 | _=>none
theorem RelV.abs {x:V}{u:Value}(r:RelV x u):absV u=some x:=by
 cases x with
 | non=>cases r;rfl
 | bl _=>cases r;rfl
 | int _=>obtain⟨t,rfl⟩:=r;rfl
 | str _=>obtain⟨t,rfl⟩:=r;rfl
 | byt _=>obtain⟨t,rfl⟩:=r;rfl
 | flt _=>obtain⟨t,rfl⟩:=r;rfl
 | ref _=>cases r;rfl
 | ty _=>cases r;rfl
theorem RelV.inj {x y:V}{u:Value}(r:RelV x u)(q:RelV y u):x=y:=Jbp (r.abs.symm.trans q.abs)
theorem Vals.inj:∀ {xs ys:List V} {us:List Value},Vals xs us->Vals ys us->xs=ys
 | _,_,_,.nil,.nil=>rfl
 | _,_,_,.cons r t,.cons r' t'=>by rw[r.inj r',Vals.inj t t']
section
variable {X:Cx}{pins:List (Addr×Obj)}{σ:St}{H:Hp}{s:Shared}{a:Addr}{xs ys:List V}
theorem SqL.of {K:Frag}(h:H a=some (.lst xs)):SqL K H a xs:=.inl (.inl h)
theorem SqT.of {K:Frag}(h:H a=some (.tup xs)):SqT K H a xs:=.inl (.inl h)
theorem Inv.list (I:Inv X pins σ H s)(h:SqL X.K H a xs):∃ its:List Value,Vals xs its/\PlainL s.heap a its.toArray/\xs.length<=sizeLine:=by
 rcases h with h|⟨o,its,n,hk,hc,hd,hs,hz,r⟩
 .obtain ⟨z,its,n,r,e⟩:=h.ok I.hok;exact⟨its,r,⟨_,n,e,rfl,rfl,rfl⟩,z⟩
 .refine ⟨its.toList,r,⟨o,n,I.kIn a o hk,hc,hd,by simpa using hs⟩,?_⟩;have e:=r.length;simp only[Array.length_toList] at e;omega
theorem Inv.tuple (I:Inv X pins σ H s)(h:SqT X.K H a xs):∃ its:List Value,Vals xs its/\IsTup s.heap a its.toArray/\xs.length<=sizeLine:=by
 rcases h with h|⟨o,its,n,hk,hc,hs,hz,r⟩
 .obtain ⟨z,its,r,p⟩:=h.ok I.hok;exact⟨its,r,p,z⟩
 .refine ⟨its.toList,r,⟨o,I.kIn a o hk,hc,n,by simpa using hs⟩,?_⟩;have e:=r.length;simp only[Array.length_toList] at e;omega
theorem Inv.list_inj (I:Inv X pins σ H s)(h:SqL X.K H a xs)(h':SqL X.K H a ys):xs=ys:=by
 refine Zav (I.list h) λits r e925 _=>?_;obtain⟨o,n,e,_,_,d⟩:=e925;refine Zav (I.list h') λits' r' e926 _=>?_;obtain⟨o',n',e',_,_,d'⟩:=e926;rw[e] at e';cases e';rw[d] at d'
 injection d' with d1 _
 have:its=its':=by simpa using Jdl Array.toList d1
 subst this;exact r.inj r'
theorem Inv.tuple_inj (I:Inv X pins σ H s)(h:SqT X.K H a xs)(h':SqT X.K H a ys):xs=ys:=by
 refine Zav (I.tuple h) λits r e927 _=>?_;obtain⟨o,e,_,n,d⟩:=e927;refine Zav (I.tuple h') λits' r' e928 _=>?_;obtain⟨o',e',_,n',d'⟩:=e928;rw[e] at e';cases e';rw[d] at d'
 injection d' with d1 _
 have:its=its':=by simpa using Jdl Array.toList d1
 subst this;exact r.inj r'
end
abbrev Cx.wish (X:Cx)(E:Value->Shared->Prop):Cx:={ X with xe:=E }
abbrev Cx.nox (X:Cx):Cx:=X.wish λ_ _=>False
theorem Cx.Ok.wish {X:Cx}(ok:X.Ok)(E:Value->Shared->Prop):(X.wish E).Ok:=
 ⟨ok.mod,ok.kind,ok.glob,ok.blt,ok.above,ok.inj,ok.has,ok.cab,ok.hd,ok.frames,ok.stk,ok.exf,ok.bs,ok.bsz,ok.noex,ok.exfs,ok.funs,ok.frf,ok.top⟩
theorem Cx.Ok.unwish {X:Cx}{E:Value->Shared->Prop}(ok:(X.wish E).Ok):X.Ok:=
 ⟨ok.mod,ok.kind,ok.glob,ok.blt,ok.above,ok.inj,ok.has,ok.cab,ok.hd,ok.frames,ok.stk,ok.exf,ok.bs,ok.bsz,ok.noex,ok.exfs,ok.funs,ok.frf,ok.top⟩
section
variable {X:Cx}{pins:List (Addr×Obj)}{σ:St}{H:Hp}{s:Shared}{E:Value->Shared->Prop}
theorem Inv.wish (I:Inv X pins σ H s)(E:Value->Shared->Prop):Inv (X.wish E) pins σ H s:=⟨I.ok.wish E,I.os,I.bare,I.base,I.loc,I.cell,I.free,I.freeC,I.pin,I.hok,I.len⟩
theorem Inv.unwish (I:Inv (X.wish E) pins σ H s):Inv X pins σ H s:=⟨I.ok.unwish,I.os,I.bare,I.base,I.loc,I.cell,I.free,I.freeC,I.pin,I.hok,I.len⟩
theorem SP.unwish {D:Ends}{f:Flow}{s':Shared}(h:SP (X.wish E) pins D f s'):SP X pins D f s':=by
 cases f with
 | next=>obtain⟨σ',H',I,q⟩:=h;exact⟨σ',H',I.unwish,q⟩
 | brk=>obtain⟨σ',H',I,q⟩:=h;exact⟨σ',H',I.unwish,q⟩
 | cont=>obtain⟨σ',H',I,q⟩:=h;exact⟨σ',H',I.unwish,q⟩
 | ret u=>obtain⟨v,σ',H',I,r,q⟩:=h;exact⟨v,σ',H',I.unwish,r,q⟩
theorem PE.nox {e:Expr}{t:TE}(h:PE X.nox e t):PE X e t:=λpins s σ H Q I hw=>
 Jci (h pins s σ H Q (I.wish _) hw) (λ_ _ ⟨v,H',I',r,q⟩=>⟨v,H',I'.unwish,r,q⟩) λ_ _ z=>False.elim z
theorem PT.nox {e:Expr}{t:TT}(h:PT X.nox e t):PT X e t:=λpins s σ H Q I hw=>
 Jci (h pins s σ H Q (I.wish _) hw) (λ_ _ ⟨H',I',q⟩=>⟨H',I'.unwish,q⟩) λ_ _ z=>False.elim z
theorem PSs.nox {st:List Stmt}{t:TS}(h:PSs X.nox st t):PSs X st t:=λpins s σ H D I hw=>
 Jci (h pins s σ H D (I.wish _) hw) (λ_ _ q=>q.unwish) λ_ _ z=>False.elim z
end
section
variable {X:Cx}{st:Stmt}{rest:List Stmt}{t u:TS}{e:Expr}{te:TE}{pos:Pos}
def tNext:TS:=λD σ H=>D.nx σ H
def Zs1 (t u:TS):TS:=λD σ H=>t { D with nx:=u D } σ H
theorem Zal:PSs X [] tNext:=λ_ _ σ H _ I h=>Jdy ⟨σ,H,I,h⟩
theorem Zti (h1:PS X st t)(h2:PSs X rest u):PSs X (st::rest) (Zs1 t u):=by
 intro pins s σ H D I h;refine wpAny_execs_cons (thn (h1 pins s σ H { D with nx:=u D } I h) λf s1 q=>?_);cases f with
 | next=>
  obtain⟨σ',H',I',q⟩:=q;exact h2 pins s1 σ' H' D I' q
 | ret v=>exact q
 | brk=>exact q
 | cont=>exact q
theorem Zan (h1:PS X st t):PSs X [st] t:=by
 intro pins s σ H D I h;refine wpAny_execs_cons (thn (h1 pins s σ H D I h) λf s1 q=>?_);cases f with
 | next=>exact Jdy q
 | ret v=>exact q
 | brk=>exact q
 | cont=>exact q
def tCont:TS:=λD σ H=>D.ct σ H
theorem Zmu:PS X (.Continue pos) tCont:=λ_ _ σ H _ I h=>wpAny_Continue ⟨σ,H,I,h⟩
theorem Inv.quiet {pins:List (Addr×Obj)}{σ:St}{H:Hp}{s:Shared}(I:Inv X pins σ H s):interactive X.env=false:=by simp[interactive,I.ok.kind]
def tDrop (te:TE):TS:=λD σ H=>te σ H λ_ H1=>D.nx σ H1
theorem Zdw (he:PE X e te)(hs:swapsWith e none pos.line X.env=pure false:=by rfl):PS X (.Expr e pos) (tDrop te):=by
 intro pins s σ H D I h;exact wpAny_Expr_any (thn (he pins s σ H _ I h) λv s1 ⟨x,H1,I1,r1,q1⟩=>⟨σ,H1,I1,q1⟩) I.quiet hs
def tRet (te:TE):TS:=λD σ H=>te σ H D.rt
theorem ps_ret (he:PE X e te):PS X (.Return (some e) pos) (tRet te):=by
 intro pins s σ H D I h;exact wpAny_Return_some (thn (he pins s σ H _ I h) λv s1 ⟨x,H1,I1,r1,q1⟩=>⟨x,σ,H1,I1,r1,q1⟩)
def tRetN:TS:=λD _ H=>D.rt .non H
theorem ps_retN:PS X (.Return none pos) tRetN:=λ_ _ σ H _ I h=>wpAny_Return_none ⟨.non,σ,H,I,rfl,h⟩
def tIfS (c:TT)(t u:TS):TS:=λD σ H=>c σ H λb H1=>if b=true then t D σ H1 else u D σ H1
theorem Za6 {c:Expr}{a b:List Stmt}{tc:TT}(hc:PT X c tc)(ha:PSs X a t)(hb:PSs X b u):PS X (.If c a b pos) (tIfS tc t u):=by
 intro pins s σ H D I h;refine wpAny_If (thn (hc pins s σ H _ I h) λd s1 ⟨H1,I1,q1⟩=>?_);cases d with
 | true=>exact ha pins s1 σ H1 D I1 q1
 | false=>exact hb pins s1 σ H1 D I1 q1
def tNever:TS:=λ_ _ _=>False
theorem Zcu:PS X st tNever:=λ_ _ _ _ _ _ h=>h.elim
end
abbrev TG:=V->St->Hp->(St->Hp->Prop)->Prop
abbrev TGs:=List V->St->Hp->(St->Hp->Prop)->Prop
def PG (X:Cx)(target:Expr)(t:TG):Prop:=
 ∀ (pins:List (Addr×Obj)) (s:Shared) (σ:St) (H:Hp) (v:V) (u:Value) (Q:St->Hp->Prop),Inv X pins σ H s->RelV v u->t v σ H Q->
  wpAny (model X.prog X.w) X.A (assign target X.env u) (λ_ s'=>∃ σ' H',Inv X pins σ' H' s'/\Q σ' H') X.xe s
def PGs (X:Cx)(ts:List Expr)(t:TGs):Prop:=
 ∀ (pins:List (Addr×Obj)) (s:Shared) (σ:St) (H:Hp) (vs:List V) (us:List Value) (Q:St->Hp->Prop),Inv X pins σ H s->Vals vs us->t vs σ H Q->
  wpAny (model X.prog X.w) X.A (assignInOrder ((assignEach ts X.env).map (·.2)) us) (λ_ s'=>∃ σ' H',Inv X pins σ' H' s'/\Q σ' H') X.xe s
abbrev TSet:=V->V->V->Hp->(Hp->Prop)->Prop
def PSet (X:Cx)(t:TSet):Prop:=
 ∀ (pins:List (Addr×Obj)) (s:Shared) (σ:St) (H:Hp) (o i v:V) (ov iv u:Value) (Q:Hp->Prop),Inv X pins σ H s->RelV o ov->RelV i iv->RelV v u->t o i v H Q->
  wpAny (model X.prog X.w) X.A (setItem ov iv u) (λ_ s'=>∃ H',Inv X pins σ H' s'/\Q H') X.xe s
abbrev TIp:=V->V->Hp->VK->Prop
section
variable {X:Cx}{pos:Pos}
def Zbe (i:Nat):TG:=λv σ H Q=>Q (σ.set i (some v)) H
theorem Zad {i:Nat}{x:Str}(hN:X.N.Nodup)(hi:X.N[i]?=some x)(hx:Loc X.env.scope x)(hf:X.fn x=true\/X.env.scope.names.lookup x=some .local:=by first|exact .inl rfl|exact .inr rfl|assumption):PG X (.Name x pos) (Zbe i):=by
 intro pins s σ H v u Q I r h;exact wpAny_assign_Name (Zid I hN hi hx r (λs' I'=>⟨_,H,I',h⟩) hf)
def Zsp:TGs:=λvs σ H Q=>vs=[]/\Q σ H
def Zgu (t:TG)(u:TGs):TGs:=λvs σ H Q=>∃ v r,vs=v::r/\t v σ H λσ' H'=>u r σ' H' Q
theorem Za0:PGs X [] Zsp:=by
 intro pins s σ H vs us Q I r h;obtain⟨e,h⟩:=h;subst e;cases r;exact assignInOrder_nil ⟨σ,H,I,h⟩
theorem Zag {e:Expr}{es:List Expr}{t:TG}{u:TGs}(h1:PG X e t)(h2:PGs X es u)(hs:(assignEach (e::es) X.env).map (·.2)=assign e X.env::(assignEach es X.env).map (·.2):=by rfl):PGs X (e::es) (Zgu t u):=by
 intro pins s σ H vs us Q I r h;obtain⟨v,vr,e1,h⟩:=h;subst e1;cases r with
 | cons r rr=>
  rw[hs];refine assignInOrder_cons (thn (h1 pins s σ H _ _ _ I r h) λ_ s1 ⟨σ1,H1,I1,q1⟩=>?_);exact h2 pins s1 σ1 H1 _ _ Q I1 rr q1
def Zpb (K:Frag)(n:Nat)(t:TGs):TG:=λv σ H Q=>∃ a xs,v=.ref a/\SqT K H a xs/\xs.length=n/\t xs σ H Q
theorem Zbv {es:List Expr}{k:Nat}{t:TGs}{n:Nat}(hc:X.calm=true)(h:PGs X es t)(hn:(assignEach es X.env).length=n:=by rfl)(hst:(assignEach es X.env).findIdx? (·.1)=none:=by rfl):PG X (.Tuple es k pos) (Zpb X.K n t):=by
 intro pins s σ H v u Q I r hw;obtain⟨a,xs,e1,hq,hl,hw⟩:=hw;subst e1;cases r;obtain⟨its,rv,ht,hz⟩:=I.tuple hq;refine assign_Tuple_tuple (I.ok.hd hc) ht (by simp[hn,<- hl,rv.length]) hst λh' hx=>?_;have I1:Inv X pins σ H { s with heap:=h' }:=I.kept (t':=s.toks) λb o e=>hx b o (Jbr (Jan e)) e;exact h pins _ σ H xs _ Q I1 (by simpa using rv) hw
def gSub (to ti:TE)(t:TSet):TG:=λv σ H Q=>to σ H λo H1=>ti σ H1 λi H2=>t o i v H2 λH3=>Q σ H3
theorem Zer {o i:Expr}{to ti:TE}{t:TSet}(ho:PE X o to)(hi:PE X i ti)(hs:PSet X t)(ha:∀ v,assign (.Subscript o i pos) X.env v=(do
   let ov <- holding [v] (eval o X.env)
   let iv <- holding [v,ov] (eval i X.env)
   standAt pos
   holding [v,ov,iv] (setItem ov iv v)
   release [v,ov,iv] []):=by intro _;rfl):PG X (.Subscript o i pos) (gSub to ti t):=by
 intro pins s σ H v u Q I r h;rw[ha];refine Jai (wpAny_holding (thn (ho pins s σ H _ I h) λov s1 ⟨x,H1,I1,r1,q1⟩=>?_));refine Jai (wpAny_holding (thn (hi pins s1 σ H1 _ I1 q1) λiv s2 ⟨y,H2,I2,r2,q2⟩=>?_));refine Jai (Jec (Jai (wpAny_holding (thn (hs pins s2 σ H2 x y v ov iv u _ I2 r1 r2 r q2) λ_ s3 ⟨H3,I3,q3⟩=>?_))));exact wpAny_release ⟨σ,H3,I3,q3⟩
def tAsg (te:TE)(g:TG):TS:=λD σ H=>te σ H λx H1=>g x σ H1 D.nx
theorem Zbk {tg e:Expr}{te:TE}{g:TG}(he:PE X e te)(hg:PG X tg g)(hs:swapsWithSole [tg] e pos.line X.env=pure false:=by rfl)(hw:swappedStores [tg] e X.env=pure none:=by rfl)(h1:(assignEach [tg] X.env).map (·.2)=[assign tg X.env]:=by rfl):PS X (.Assign [tg] e pos) (tAsg te g):=by
 intro pins s σ H D I h;refine wpAny_Assign_stores (thn (he pins s σ H _ I h) λv s1 ⟨x,H1,I1,r1,q1⟩=>?_) hs hw;rw[h1];exact thn (hg pins s1 σ H1 x v _ I1 r1 q1) λ_ s2 q=>q
theorem Zap {i:Nat}{x:Str}{e:Expr}{te:TE}{pos':Pos}(hN:X.N.Nodup)(hi:X.N[i]?=some x)(hx:Loc X.env.scope x)(he:PE X e te)(hs:swapsWith e (some (.Name x pos')) pos.line X.env=pure false:=by rfl)(hf:X.fn x=true\/X.env.scope.names.lookup x=some .local:=by first|exact .inl rfl|exact .inr rfl|assumption):
  PS X (.Assign [.Name x pos'] e pos) (tAsg te (Zbe i)):=by
 intro pins s σ H D I h;refine wpAny_Assign_Name (thn (he pins s σ H _ I h) λv s1 ⟨y,H1,I1,r1,q1⟩=>?_) hs;exact Zid I1 hN hi hx r1 (λs2 I2=>⟨_,H1,I2,q1⟩) hf
def tPar (i j:Nat)(ta:TA):TS:=λD σ H=>ta σ H λvs H1=>∃ v w,vs=[v,w]/\D.nx ((σ.set i (some v)).set j (some w)) H1
theorem Zka {i j:Nat}{x y:Str}{a b:Expr}{ta:TA}{px py pt:Pos}{kt k2 pt2}(hc:X.calm=true)(hN:X.N.Nodup)(hi:X.N[i]?=some x)(hj:X.N[j]?=some y)(hij:i≠j)(hx:X.env.scope.names.lookup x=some .local)(hy:X.env.scope.names.lookup y=some .local)(ha:PA X [a,b] ta)(hw:swappedStores [.Tuple [.Name x px,.Name y py] kt pt] (.Tuple [a,b] k2 pt2) X.env=pure (some [x,y]))(hs:swapsWithSole [.Tuple [.Name x px,.Name y py] kt pt] (.Tuple [a,b] k2 pt2) pos.line X.env=pure false:=by rfl):
  PS X (.Assign [.Tuple [.Name x px,.Name y py] kt pt] (.Tuple [a,b] k2 pt2) pos) (tPar i j ta):=by
 intro pins s σ H D I h;rw[exec_Assign_arm];refine Jai (Jec ?_);rw[hs];refine Jai (Ja9 ?_);rw[if_neg ⇑0];refine Jai (Tuple_ (thn (ha _ pins s σ H _ I h) λus s1 ⟨vs,H1,I1,r1,q1⟩=>?_));obtain⟨v,w,e1,q1⟩:=q1;subst e1;obtain⟨u1,u2,rfl,rv,rw'⟩:∃ u1 u2,us=[u1,u2]/\RelV v u1/\RelV w u2:=by
  cases r1 with
  | cons p q=>
   cases q with
   | cons p' q'=>
    cases q';exact⟨_,_,rfl,p,p'⟩
 refine wpAny_newObj_type ?_ (by show 2<=sizeLine;decide);have I2:Inv X pins σ H1 { s1 with heap:=s1.heap.push { cls:=.type "tuple",data:=.seq [u1,u2].toArray } }:=I1.kept (t':=s1.toks) λb o e=>Jaq _ e;rw[hw];refine Jai (Ja9 ?_);show wpAny (model X.prog X.w) X.A (do rule "assign.swapped-stores";let items <- unpackItems (.ref s1.heap.objs.size) 2 none;assignInOrder [λv=>bindName X.env y v,λv=>bindName X.env x v] items.reverse;pure Flow.next) _ _ _;refine Jai (wpAny_rule (Jai (unpackItems_tuple (items:=#[u1,u2]) (I.ok.hd hc) (IsTup.new s1.heap _) λh' hx'=>?_)));have I3:=I2.kept (h':=h') (t':=s1.toks) λb o e=>hx' b o (Jbr (Jan e)) e;show wpAny _ _ (assignInOrder [λv=>bindName X.env y v,λv=>bindName X.env x v] [u2,u1] >>= λ_=>pure Flow.next) _ _ _;refine Jai (assignInOrder_cons (wpAny_bindName (Zid I3 hN hj (.inl hy) rw' (λs2 I4=>?_) (.inr hy))));refine assignInOrder_cons (wpAny_bindName (Zid I4 hN hi (.inl hx) rv (λs3 I5=>assignInOrder_nil (Ja9 ?_)) (.inr hx)));rw[List.set_comm _ _ (Jdq hij)] at I5;exact⟨_,H1,I5,q1⟩
def tAug (i:Nat)(te:TE)(ti:TIp):TS:=λD σ H=>∃ x,σ[i]?=some (some x)/\te σ H λy H1=>ti x y H1 λz H2=>D.nx (σ.set i (some z)) H2
def tAugS (to ti te:TE)(tget:V->V->Hp->VK->Prop)(tip:TIp)(tset:TSet):TS:=λD σ H=>to σ H λo H1=>ti σ H1 λi H2=>tget o i H2 λx H3=>te σ H3 λy H4=>tip x y H4 λz H5=>tset o i z H5 λH6=>D.nx σ H6
def ipI (f:Int->Int->Int):TIp:=λx y H Q=>∃ i j,x=.int i/\y=.int j/\Q (.int (f i j)) H
end
section
variable {X:Cx}{pos:Pos}
def tWhile (c:TT)(tb:TS):TS:=λD σ H=>∃ W:Nat->St->Hp->Prop,(∃ m,W m σ H)/\∀ m σ H,W m σ H->
 c σ H λb H1=>if b=true then ∃ N:St->Hp->Prop,(∀ σ' H',N σ' H'->∃ m',m'<m/\W m' σ' H')/\tb { D with nx:=N,ct:=N,bk:=D.nx } σ H1 else D.nx σ H1
theorem Zgq {c:Expr}{body:List Stmt}{tc:TT}{tb:TS}(hp:PassesOwn (model X.prog X.w) X.A X.env X.xe)(hc:PT X c tc)(hb:PSs X body tb):PS X (.While c body [] pos) (tWhile tc tb):=by
 intro pins s σ H D I h;refine Zae h λW e929 turn=>?_;clear h;obtain⟨m0,w0⟩:=e929;refine wpAny_While (codeAny_whileLoop (λn s'=>∃ σ' H',Inv X pins σ' H' s'/\W n σ' H') ?_ m0 ⟨σ,H,I,w0⟩);intro n s1 e91;refine Zbd e91 λσ1 H1 I1 w1=>?_;clear e91;refine Jcj hp (thn (hc pins s1 σ1 H1 _ I1 (turn n σ1 H1 w1)) λb s2 ⟨H2,I2,q2⟩=>?_);cases b with
 | true=>
  obtain⟨N,hN,q2⟩:=q2;rw[if_pos rfl];refine Jcj hp (thn (hb pins s2 σ1 H2 _ I2 q2) λf s3 q3=>?_);cases f with
  | next=>
   refine Zbd q3 λσ3 H3 I3 n3=>?_;clear q3;refine Zae (hN σ3 H3 n3) λm' hm w3=>?_;exact⟨m',hm,σ3,H3,I3,w3⟩
  | cont=>
   refine Zbd q3 λσ3 H3 I3 n3=>?_;clear q3;refine Zae (hN σ3 H3 n3) λm' hm w3=>?_;exact⟨m',hm,σ3,H3,I3,w3⟩
  | brk=>exact q3
  | ret v=>exact q3
 | false=>
  rw[if_neg Jax];exact Jdy ⟨σ1,H2,I2,q2⟩
end
structure It where
 go:Nat->Hp->Prop
 yld:Nat->Hp->V->Hp->Prop
 stop:Nat->Hp->Prop
def Zo9 (X:Cx)(pins:List (Addr×Obj))(H:Hp)(b:Addr):Prop:=
 H b=none/\b≠X.env.locals/\b∉X.fs/\(b∈X.ex\/X.s₀.heap.objs.size<=b)/\(∀ x c,X.env.cells.lookup x=some c->c≠b)/\∀ p∈X.pn++pins,p.1≠b
theorem Inv.fpOk {X:Cx}{pins:List (Addr×Obj)}{σ:St}{H H':Hp}{s:Shared}{b:Addr}(I:Inv X pins σ H s)(hb:s.heap.objs.size<=b)(hn:H' b=none):Zo9 X pins H' b:=by
 refine⟨hn,Jd3 (Jau I.lt hb),I.nofs hb,.inr (Ja4 I.sz hb),λx c e z=>?_,λp hp z=>?_⟩
 .obtain ⟨v,q⟩:=I.cell x c e;exact absurd (Jau q.lt (by rw[z];exact hb)) (Jb4 _)
 .exact absurd (Jau (Jan (I.pin p hp).1) (by rw[z];exact hb)) (Jb4 _)
structure Turn (P:Program)(w:World)(K:Frag)(tg:Expr)(J:It)(fp:List Addr)(it:Addr)(tn:Nat->Heap->Prop):Prop where
 mem:it∈fp
 obj:∀ i h,tn i h->∀ b∈fp,∃ o,h.get? b=some o/\∀ v,o.data≠.cell v
 keep:∀ i h h',tn i h->(∀ b∈fp,∀ o,h.get? b=some o->h'.get? b=some o)->tn i h'
 item:∀ (X:Cx),X.prog=P->X.w=w->X.K=K->X.calm=true->∀ (i:Nat) (pins:List (Addr×Obj)) (s:Shared) (σ:St) (H:Hp) (E:Value->Shared->Prop),Inv X pins σ H s->(∀ b∈fp,Zo9 X pins H b)->tn i s.heap->J.go i H->
  wpAny (model P w) X.A (pyNext (.ref it)) (λr s1=>∃ u,r=some u /\
   wpAny (model P w) X.A (letOwnedTupleGo tg (.ref it) u) (λ_ s2=>∃ x H',Inv X pins σ H' s2/\RelV x u/\J.yld i H x H'/\tn (i+1) s2.heap/\∀ b∈fp,H' b=none) E s1) E s
 done:∀ (X:Cx),X.prog=P->X.w=w->X.K=K->X.calm=true->∀ (i:Nat) (pins:List (Addr×Obj)) (s:Shared) (σ:St) (H:Hp) (E:Value->Shared->Prop),Inv X pins σ H s->(∀ b∈fp,Zo9 X pins H b)->tn i s.heap->J.stop i H->
  wpAny (model P w) X.A (pyNext (.ref it)) (λr s1=>r=none/\Inv X pins σ H s1) E s
 self:∀ (A:Around) (i:Nat) (s:Shared) (Q:Value->Shared->Prop) (E:Value->Shared->Prop),tn i s.heap->Q (.ref it) s->wpAny (model P w) A (pyIter (.ref it)) Q E s
abbrev TI:=St->Hp->(It->Hp->Prop)->Prop
def PIE (X:Cx)(pins:List (Addr×Obj))(σ:St)(tg:Expr)(R:It->Hp->Prop)(itv:Value)(s2:Shared):Prop:=
 ∃ (it:Addr) (fp:List Addr) (tn:Nat->Heap->Prop) (J:It) (H':Hp),itv=.ref it/\Inv X pins σ H' s2/\Turn X.prog X.w X.K tg J fp it tn/\tn 0 s2.heap/\(∀ b∈fp,Zo9 X pins H' b)/\R J H'
def PI (X:Cx)(tg iter:Expr)(wi:TI):Prop:=
 ∀ (pins:List (Addr×Obj)) (s:Shared) (σ:St) (H:Hp) (R:It->Hp->Prop),Inv X pins σ H s->wi σ H R->
  wpAny (model X.prog X.w) X.A (eval iter X.env) (λv s1=>wpAny (model X.prog X.w) X.A (pyIter v) (PIE X pins σ tg R) X.xe s1) X.xe s
theorem go_of {M:Model}{A:Around}{E:Value->Shared->Prop}{s:Shared}{tg:Expr}{it:Addr}{u:Value}{o:Obj}{n:String}{vs:Array Value}{Q:Unit->Shared->Prop}(ho:s.heap.get? it=some o)(hc:o.cls=.type n)(hd:o.data=.fields vs)(hn:["enumerate","zip","dict_itemiterator","dict_reverseitemiterator","odict_iterator","itertools.zip_longest","itertools.pairwise"].contains n=false)(hQ:Q () s):wpAny M A (letOwnedTupleGo tg (.ref it) u) Q E s:=by
 unfold letOwnedTupleGo;cases tg <;> first
  | exact Ja9 hQ
  | (cases u <;> first
    | exact Ja9 hQ
    | (refine Jai (wpAny_load ho ?_);rw[hc,hd];show wpAny M A (if (["enumerate","zip","dict_itemiterator","dict_reverseitemiterator","odict_iterator","itertools.zip_longest","itertools.pairwise"].contains n && vs[0]? == some (rawInt _))=true then _ else _) Q E s;rw[if_neg (by intro h;rw[hn,Jdm] at h;cases h)];exact Ja9 hQ))
def Itl (K:Frag)(a:Addr):It:=
 ⟨λi H=>∃ xs x,SqL K H a xs/\xs[i]?=some x,λi H x H'=>H'=H/\∀ xs,SqL K H a xs->xs[i]?=some x,λi H=>∃ xs,SqL K H a xs/\xs.length<=i⟩
def Itt (K:Frag)(a:Addr):It:=
 ⟨λi H=>∃ xs x,SqT K H a xs/\xs[i]?=some x,λi H x H'=>H'=H/\∀ xs,SqT K H a xs->xs[i]?=some x,λi H=>∃ xs,SqT K H a xs/\xs.length<=i⟩
def Itr (lo:Int)(n:Nat):It:=⟨λi _=>i<n,λi H x H'=>H'=H/\x=.int (lo+i),λi _=>n<=i⟩
theorem Zpr {P:Program}{w:World}{K:Frag}{tg:Expr}(a it:Addr):Turn P w K tg (Itl K a) [it] it (λi h=>h.IsListIter it a i) where
 mem:=by simp
 obj:=λi h st b hb=>by
  have e:b=it:=by simpa using hb
  subst e;refine Zav st λo e c d=>?_;clear st;exact⟨o,e,λv z=>by rw[d] at z;cases z⟩
 keep:=λi h h' st k=>st.at λo e=>k it (by simp) o e
 item:=by
  intro X hP hw hK hc i pins s σ H E I hf st hg;subst hP hw hK;refine Zbd hg λxs x hq hx=>?_;clear hg;refine Zav (I.list hq) λits rv p hz=>?_;refine Zae (rv.get hx) λu hu ru=>?_;refine Zey (hf it (by simp)) λf0 f1 f2 f3 f4 f5=>?_;refine wpAny_pyNext_list_item st p.isList (x:=u) (by simpa using hu) λh' st' sb=>?_;have I1:Inv X pins σ H { s with heap:=h' }:=I.turned (t':=s.toks) (λb o hb e=>(sb.2 b hb).trans e) f0 f1 f3 f4 f5;refine Zav (id st') λo e c d=>?_;exact⟨u,rfl,go_of (s:={ s with heap:=h' }) e c d ⇑0 ⟨x,H,I1,ru,⟨rfl,λys hy=>by rw[I.list_inj hy hq];exact hx⟩,st',λb hb=>(hf b hb).1⟩⟩
 done:=by
  intro X hP hw hK hc i pins s σ H E I hf st hg;subst hP hw hK;refine Zae hg λxs hq hx=>?_;clear hg;refine Zav (I.list hq) λits rv p hz=>?_;refine Zey (hf it (by simp)) λf0 f1 f2 f3 f4 f5=>?_;have hl:=rv.length;exact wpAny_pyNext_list_end (I.ok.hd hc) st p.isList (by simp;omega) λh' eb=>⟨rfl,I.turned (t':=s.toks) (λb o hb e=>eb b o hb e) f0 f1 f3 f4 f5⟩
 self:=λ_ _ _ _ _ st h=>wpAny_pyIter_listiter st h
theorem Zon {P:Program}{w:World}{K:Frag}{tg:Expr}(a it:Addr):Turn P w K tg (Itt K a) [it] it (λi h=>h.IsTupleIter it a i) where
 mem:=by simp
 obj:=λi h st b hb=>by
  have e:b=it:=by simpa using hb
  subst e;refine Zav st λo e c d=>?_;clear st;exact⟨o,e,λv z=>by rw[d] at z;cases z⟩
 keep:=λi h h' st k=>st.at λo e=>k it (by simp) o e
 item:=by
  intro X hP hw hK hc i pins s σ H E I hf st hg;subst hP hw hK;refine Zbd hg λxs x hq hx=>?_;clear hg;refine Zav (I.tuple hq) λits rv p hz=>?_;refine Zae (rv.get hx) λu hu ru=>?_;refine Zey (hf it (by simp)) λf0 f1 f2 f3 f4 f5=>?_;refine wpAny_pyNext_tuple_item st (show s.heap.IsTuple a its.toArray from p) (x:=u) (by simpa using hu) λh' st' sb=>?_;have I1:Inv X pins σ H { s with heap:=h' }:=I.turned (t':=s.toks) (λb o hb e=>(sb.2 b hb).trans e) f0 f1 f3 f4 f5;refine Zav (id st') λo e c d=>?_;exact⟨u,rfl,go_of (s:={ s with heap:=h' }) e c d ⇑0 ⟨x,H,I1,ru,⟨rfl,λys hy=>by rw[I.tuple_inj hy hq];exact hx⟩,st',λb hb=>(hf b hb).1⟩⟩
 done:=by
  intro X hP hw hK hc i pins s σ H E I hf st hg;subst hP hw hK;refine Zae hg λxs hq hx=>?_;clear hg;refine Zav (I.tuple hq) λits rv p hz=>?_;refine Zey (hf it (by simp)) λf0 f1 f2 f3 f4 f5=>?_;have hl:=rv.length;exact wpAny_pyNext_tuple_end (I.ok.hd hc) st (show s.heap.IsTuple a its.toArray from p) (by simp;omega) λh' eb=>⟨rfl,I.turned (t':=s.toks) (λb o hb e=>eb b o hb e) f0 f1 f3 f4 f5⟩
 self:=λ_ _ _ _ _ st h=>wpAny_pyIter_tupleiter st h
theorem Zoo {P:Program}{w:World}{K:Frag}{tg:Expr}(it:Addr)(lo:Int)(n:Nat):Turn P w K tg (Itr lo n) [it] it (λi h=>IsRangeIter h it (lo+(i:Nat)*1) ((n:Int)-(i:Nat)) 1) where
 mem:=by simp
 obj:=λi h st b hb=>by
  have e:b=it:=by simpa using hb
  subst e;exact⟨_,st,λv z=>by
   have z':Data.fields _=Data.cell v:=z;cases z'⟩
 keep:=λi h h' st k=>k it (by simp) _ st
 item:=by
  intro X hP hw hK hc i pins s σ H E I hf st hg;subst hP hw hK;refine Zey (hf it (by simp)) λf0 f1 f2 f3 f4 f5=>?_;have W:=Walks.range (prog:=X.prog) (w:=X.w) (I.ok.hd hc) it lo 1 n;refine W.item i s _ _ hg st λv h' tk hv st' kk=>?_;obtain⟨t,rfl⟩:=hv;have I1:Inv X pins σ H { s with heap:=h',toks:=tk }:=I.turned (λb o hb e=>kk b o (by simpa using hb) e) f0 f1 f3 f4 f5;refine⟨_,rfl,go_of (s:={ s with heap:=h',toks:=tk }) (n:="range_iterator") st' rfl rfl ⇑0 ⟨.int (lo+i),H,I1,⟨t,?_⟩,⟨rfl,rfl⟩,st',λb hb=>(hf b hb).1⟩⟩;rw[Int.mul_one]
 done:=by
  intro X hP hw hK hc i pins s σ H E I hf st hg;subst hP hw hK;refine Zey (hf it (by simp)) λf0 f1 f2 f3 f4 f5=>?_;exact wpAny_pyNext_range_end (I.ok.hd hc) st (by have:n<=i:=hg;omega) λh' eb=>⟨rfl,I.turned (t':=s.toks) (λb o hb e=>eb b o hb e) f0 f1 f3 f4 f5⟩
 self:=λ_ _ _ _ _ st h=>wpAny_pyIter_rangeiter st h
section
variable {X:Cx}{tg:Expr}
def Zru (K:Frag)(tl:TE):TI:=λσ H R=>tl σ H λx H1=>∃ a,x=.ref a/\(∃ xs,SqL K H1 a xs)/\R (Itl K a) H1
def iTup (K:Frag)(tl:TE):TI:=λσ H R=>tl σ H λx H1=>∃ a,x=.ref a/\(∃ xs,SqT K H1 a xs)/\R (Itt K a) H1
theorem Zbc {l:Expr}{tl:TE}(hl:PE X l tl):PI X tg l (Zru X.K tl):=by
 intro pins s σ H R I h;refine thn (hl pins s σ H _ I h) λv s1 ⟨x,H1,I1,r1,q1⟩=>?_;refine Zav q1 λa e e930 q=>?_;clear q1;obtain⟨xs,hq⟩:=e930;subst e;cases r1;refine Zav (I1.list hq) λits rv p hz=>?_;refine Jck p.isList ?_;refine Zg3 s1.heap.objs.size [s1.heap.objs.size] _ _ H1 ⟨rfl,I1.kept (t':=s1.toks) λb o e=>Jaq _ e,Zpr a _,⟨_,Ja2 _ rfl,rfl,rfl⟩,λb hb=>?_,q⟩;have e:b=s1.heap.objs.size:=by simpa using hb
 subst e;exact I1.fpOk (Jag _) (I1.hok.fresh (Jag _))
theorem Zvn {l:Expr}{tl:TE}(hl:PE X l tl):PI X tg l (iTup X.K tl):=by
 intro pins s σ H R I h;refine thn (hl pins s σ H _ I h) λv s1 ⟨x,H1,I1,r1,q1⟩=>?_;refine Zav q1 λa e e931 q=>?_;clear q1;obtain⟨xs,hq⟩:=e931;subst e;cases r1;refine Zav (I1.tuple hq) λits rv p hz=>?_;refine wpAny_pyIter_tuple (show s1.heap.IsTuple a its.toArray from p) ?_;refine Zg3 s1.heap.objs.size [s1.heap.objs.size] _ _ H1 ⟨rfl,I1.kept (t':=s1.toks) λb o e=>Jaq _ e,Zon a _,⟨_,Ja2 _ rfl,rfl,rfl⟩,λb hb=>?_,q⟩;have e:b=s1.heap.objs.size:=by simpa using hb
 subst e;exact I1.fpOk (Jag _) (I1.hok.fresh (Jag _))
theorem Znu {pins:List (Addr×Obj)}{σ:St}{H:Hp}{s:Shared}{R:It->Hp->Prop}{E:Value->Shared->Prop}{lo hi:Int}{t u v:Tok}{tk:Nat}(I:Inv X pins σ H s)(h1:-(2 ^ 62)<=lo)(h2:lo<2 ^ 62)(h3:-(2 ^ 62)<=hi)(h4:hi<2 ^ 62)(q:R (Itr lo (hi-lo).toNat) H):wpAny (model X.prog X.w) X.A (pyIter (.ref s.heap.objs.size)) (PIE X pins σ tg R) E { s with heap:=s.heap.push { cls:=.type "range",data:=.fields #[.int lo t,.int hi u,.int 1 v] },toks:=tk }:=by
 refine wpAny_pyIter_range (IsRange.new ..) (small_one h1 h2 h3 h4) ?_;have I1:Inv X pins σ H { s with heap:=s.heap.push { cls:=.type "range",data:=.fields #[.int lo t,.int hi u,.int 1 v] },toks:=tk }:=I.kept λb o e=>Jaq _ e;refine Zg3 ((s.heap.push { cls:=.type "range",data:=.fields #[.int lo t,.int hi u,.int 1 v] }).objs.size) [(s.heap.push { cls:=.type "range",data:=.fields #[.int lo t,.int hi u,.int 1 v] }).objs.size] _ _ H ⟨rfl,I1.kept (t':=tk) λb o e=>Jaq _ e,Zoo _ lo (hi-lo).toNat,?_,λb hb=>?_,q⟩
 .have e1:lo+((0:Nat):Int)*1=lo:=by simp
  have e2:(((hi-lo).toNat:Nat):Int)-((0:Nat):Int)=Builtin.Range.rangeSize lo hi 1:=by rw[rangeSize_one];split <;> omega
  show IsRangeIter _ _ (lo+((0:Nat):Int)*1) ((((hi-lo).toNat:Nat):Int)-((0:Nat):Int)) 1;rw[e1,e2];exact Ja2 _ rfl
 .have e:b=(s.heap.push { cls:=.type "range",data:=.fields #[.int lo t,.int hi u,.int 1 v] }).objs.size:=by simpa using hb
  subst e;exact I1.fpOk (Jag _) (I1.hok.fresh (Jag _))
def Zrt (ta:TA):TI:=λσ H R=>ta σ H λvs H1=>∃ j:Int,vs=[.int j]/\-(2 ^ 62)<=j/\j<2 ^ 62/\R (Itr 0 j.toNat) H1
def Zul (ta:TA):TI:=λσ H R=>ta σ H λvs H1=>∃ i j:Int,vs=[.int i,.int j]/\(-(2 ^ 62)<=i/\i<2 ^ 62/\-(2 ^ 62)<=j/\j<2 ^ 62)/\R (Itr i (j-i).toNat) H1
theorem Zqm {a:Expr}{ta:TA}{p pos:Pos}(hg:Gl X "range")(hm:X.mg "range" = none)(ha:PA X [a] ta)(hs:starEach [a] X.env=[(false,eval a X.env)]:=by rfl):PI X tg (.Call (.Name "range" p) [a] [] pos) (Zrt ta):=by
 intro pins s σ H R I h;refine Call_ (Zjj I hg hm boot_range (Jb6 (thn (ha pos pins s σ H _ I h) λus s1 ⟨vs,H1,I1,r1,q1⟩=>?_) hs rfl));obtain⟨j,e,q1,q2,q⟩:=q1;subst e;cases r1 with
 | cons r rr=>
  cases rr;obtain⟨t,rfl⟩:=r;exact call_range_1 (Znu I1 ∅ ∅ q1 q2 (by simpa using q))
theorem Zql {a b:Expr}{ta:TA}{p pos:Pos}(hg:Gl X "range")(hm:X.mg "range" = none)(ha:PA X [a,b] ta)(hs:starEach [a,b] X.env=[(false,eval a X.env),(false,eval b X.env)]:=by rfl)(hs2:starEach [b] X.env=[(false,eval b X.env)]:=by rfl):
  PI X tg (.Call (.Name "range" p) [a,b] [] pos) (Zul ta):=by
 intro pins s σ H R I h;refine Call_ (Zjj I hg hm boot_range (Jb6 (thn (ha pos pins s σ H _ I h) λus s1 ⟨vs,H1,I1,r1,q1⟩=>?_) (by rw[hs,hs2]) (by rw[hs2];rfl)));refine Zbt q1 λi j e e932 q=>?_;clear q1;obtain⟨q1,q2,q3,q4⟩:=e932;subst e;cases r1 with
 | cons r rr=>
  cases rr with
  | cons r' rr=>
   cases rr;obtain⟨t,rfl⟩:=r;obtain⟨t',rfl⟩:=r';exact call_range_2 (Znu I1 q1 q2 q3 q4 q)
def tFor (wi:TI)(g:TG)(tb:TS):TS:=λD σ H=>wi σ H λJ H1=>∃ W:Nat->Nat->St->Hp->Prop,(∃ m,W 0 m σ H1)/\∀ i m σ H,W i m σ H->
 (J.stop i H/\D.nx σ H)\/(J.go i H/\∃ N:St->Hp->Prop,(∀ σ' H',N σ' H'->∃ m',m'<m/\W (i+1) m' σ' H')/\∀ x H',J.yld i H x H'->g x σ H' λσ2 H2=>tb { D with nx:=N,ct:=N,bk:=D.nx } σ2 H2)
def Zln (fp:List Addr)(h:Heap):List (Addr×Obj):=fp.filterMap λb=>(h.get? b).map λo=>(b,o)
theorem Zfl {fp:List Addr}{h:Heap}{b:Addr}{o:Obj}(hb:b∈fp)(e:h.get? b=some o):(b,o)∈Zln fp h:=List.mem_filterMap.mpr ⟨b,hb,by rw[e];rfl⟩
theorem Zq2 {fp:List Addr}{h:Heap}{p:Addr×Obj}(hp:p∈Zln fp h):p.1∈fp/\h.get? p.1=some p.2:=by
 refine Zae (List.mem_filterMap.mp hp) λb hb e=>?_;cases q:h.get? b with
 | none=>rw[q] at e;cases e
 | some o=>
  rw[q] at e;have e':(b,o)=p:=Jbp e;subst e';exact⟨hb,q⟩
theorem Inv.pinned {pins:List (Addr×Obj)}{σ:St}{H:Hp}{s:Shared}{fp:List Addr}(I:Inv X pins σ H s)(hf:∀ b∈fp,Zo9 X pins H b)(ho:∀ b∈fp,∃ o,s.heap.get? b=some o/\∀ v,o.data≠.cell v):Inv X (pins++Zln fp s.heap) σ H s:=
 I.pins_of λp hp=>(Jba.mp hp).elim (λz=>I.pin p (Jbj _ z)) λz=>by
  obtain⟨hb,e⟩:=Zq2 z;refine Zcb (hf p.1 hb) λf0 f1 f2 _=>?_;refine Zae (ho p.1 hb) λo e' d=>?_;rw[e] at e';cases e';exact⟨e,f0,f1,f2,d⟩
theorem Inv.unpinned {pins pl:List (Addr×Obj)}{σ:St}{H:Hp}{s:Shared}(I:Inv X (pins++pl) σ H s):Inv X pins σ H s:=I.pins_of λp hp=>I.pin p (Jbj _ (List.mem_append_left _ hp))
theorem Zck {iter:Expr}{body:List Stmt}{wi:TI}{g:TG}{tb:TS}{pos:Pos}(hp:PassesOwn (model X.prog X.w) X.A X.env X.xe)(hc:X.calm=true)(hi:PI X tg iter wi)(hg:PG X tg g)(hb:PSs X body tb)(hs:∀ x,foldedSetIterable iter X.env x=pure x:=by intro _;rfl):PS X (.For tg iter body [] pos) (tFor wi g tb):=by
 intro pins s σ H D I h;refine wpAny_For (thn (hi pins s σ H _ I h) λv s1 h1=>thn h1 λitv s2 h2=>?_) hs;refine Zg4 h2 λit fp tn J H2 e I2 T e933=>?_;clear h2;refine Za2 e933 λst2 f2 e934=>?_;clear e933;obtain⟨W,⟨m0,w0⟩,turn⟩:=e934;subst e
 -- what stays true of the iterator's objects through the loop
 have stat:∀ {H':Hp},(∀ b∈fp,H' b=none)->∀ b∈fp,Zo9 X pins H' b:=λhn b hb=>⟨hn b hb,(f2 b hb).2⟩
 refine codeAny_forLoop_any (λn s'=>∃ i σ' H',Inv X pins σ' H' s'/\tn i s'.heap/\(∀ b∈fp,H' b=none)/\W i n σ' H') ?_ m0 ⟨0,σ,H2,I2,st2,λb hb=>(f2 b hb).1,w0⟩;intro n s3 e92;refine Zb9 e92 λi σ3 H3 I3 st3 fr3 w3=>?_;clear e92;rcases turn i n σ3 H3 w3 with ⟨stop,qn⟩|⟨go,N,hN,step⟩
 .refine Jcj hp (thn (T.done X rfl rfl rfl hc i pins s3 σ3 H3 X.xe I3 (stat fr3) st3 stop) λr s4 ⟨hr,I4⟩=>?_);subst hr;exact Jdy ⟨σ3,H3,I4,qn⟩
 .refine Jcj hp (thn (T.item X rfl rfl rfl hc i pins s3 σ3 H3 X.xe I3 (stat fr3) st3 go) λr s4 ⟨u,hr,h4⟩=>?_);subst hr;refine Jcj hp (thn h4 λ_ s5 ⟨x,H5,I5,r5,y5,st5,fr5⟩=>?_);have I5':=I5.pinned (stat fr5) (T.obj _ _ st5);refine Jcj hp (thn (hg _ s5 σ3 H5 x u _ I5' r5 (step x H5 y5)) λ_ s6 ⟨σ6,H6,I6,q6⟩=>?_);refine Jcj hp (thn (hb _ s6 σ6 H6 _ I6 q6) λf s7 q7=>?_);have again:∀ {σ7:St} {H7:Hp},Inv X (pins++Zln fp s5.heap) σ7 H7 s7->N σ7 H7->∃ m,m<n/\∃ i σ' H',Inv X pins σ' H' s7/\tn i s7.heap/\(∀ b∈fp,H' b=none)/\W i m σ' H':=λ{σ7 H7} I7 n7=>by
   refine Zae (hN σ7 H7 n7) λm' hm w7=>?_;refine⟨m',hm,i+1,σ7,H7,I7.unpinned,T.keep _ _ _ st5 λb hb o e=>(I7.pin (b,o) (Jbj _ (Jbj _ (Zfl hb e)))).1,λb hb=>?_,w7⟩;refine Zae (T.obj _ _ st5 b hb) λo e d=>?_;exact (I7.pin (b,o) (Jbj _ (Jbj _ (Zfl hb e)))).2.1
  cases f with
  | next=>obtain⟨σ7,H7,I7,n7⟩:=q7;exact again I7 n7
  | cont=>obtain⟨σ7,H7,I7,n7⟩:=q7;exact again I7 n7
  | brk=>obtain⟨σ7,H7,I7,q7⟩:=q7;exact⟨σ7,H7,I7.unpinned,q7⟩
  | ret v=>obtain⟨x7,σ7,H7,I7,r7,q7⟩:=q7;exact⟨x7,σ7,H7,I7.unpinned,r7,q7⟩
end
theorem Zih {K:Frag}{a:Addr}{xs:List V}{g:TG}{tb:TS}{D:Ends}{σ:St}{H:Hp}(Pv:Nat->St->Hp->Prop)(h0:Pv 0 σ H)(hl:∀ i σ H,i<=xs.length->Pv i σ H->SqL K H a xs)(hs:∀ i x σ H,xs[i]?=some x->Pv i σ H->g x σ H λσ2 H2=>tb { D with nx:=Pv (i+1),ct:=Pv (i+1),bk:=D.nx } σ2 H2)(hd:∀ σ H,Pv xs.length σ H->D.nx σ H):
  ∃ W:Nat->Nat->St->Hp->Prop,(∃ m,W 0 m σ H)/\∀ i m σ H,W i m σ H->
   ((Itl K a).stop i H/\D.nx σ H)\/((Itl K a).go i H/\∃ N:St->Hp->Prop,(∀ σ' H',N σ' H'->∃ m',m'<m/\W (i+1) m' σ' H')/\∀ x H',(Itl K a).yld i H x H'->g x σ H' λσ2 H2=>tb { D with nx:=N,ct:=N,bk:=D.nx } σ2 H2):=by
 refine⟨λi m σ H=>m=xs.length-i/\i<=xs.length/\Pv i σ H,⟨xs.length,by simp,Jb5 _,h0⟩,?_⟩;intro i m σ H e93;refine Za2 e93 λe935 hi p=>?_;clear e93;obtain rfl:=e935;have q:=hl i σ H hi p;by_cases hlt:i<xs.length
 .refine .inr ⟨⟨xs,xs[i],q,by simp[hlt]⟩,Pv (i+1),λσ' H' p'=>⟨xs.length-(i+1),∅,rfl,hlt,p'⟩,λx H' y=>?_⟩;obtain⟨e,y⟩:=y;subst e;exact hs i x σ _ (y xs q) p
 .have e:i=xs.length:=∅
  subst e;exact .inl ⟨⟨xs,q,Jag _⟩,hd σ H p⟩
theorem for_tup {K:Frag}{a:Addr}{xs:List V}{g:TG}{tb:TS}{D:Ends}{σ:St}{H:Hp}(Pv:Nat->St->Hp->Prop)(h0:Pv 0 σ H)(hl:∀ i σ H,i<=xs.length->Pv i σ H->SqT K H a xs)(hs:∀ i x σ H,xs[i]?=some x->Pv i σ H->g x σ H λσ2 H2=>tb { D with nx:=Pv (i+1),ct:=Pv (i+1),bk:=D.nx } σ2 H2)(hd:∀ σ H,Pv xs.length σ H->D.nx σ H):
  ∃ W:Nat->Nat->St->Hp->Prop,(∃ m,W 0 m σ H)/\∀ i m σ H,W i m σ H->
   ((Itt K a).stop i H/\D.nx σ H)\/((Itt K a).go i H/\∃ N:St->Hp->Prop,(∀ σ' H',N σ' H'->∃ m',m'<m/\W (i+1) m' σ' H')/\∀ x H',(Itt K a).yld i H x H'->g x σ H' λσ2 H2=>tb { D with nx:=N,ct:=N,bk:=D.nx } σ2 H2):=by
 refine⟨λi m σ H=>m=xs.length-i/\i<=xs.length/\Pv i σ H,⟨xs.length,by simp,Jb5 _,h0⟩,?_⟩;intro i m σ H e94;refine Za2 e94 λe936 hi p=>?_;clear e94;obtain rfl:=e936;have q:=hl i σ H hi p;by_cases hlt:i<xs.length
 .refine .inr ⟨⟨xs,xs[i],q,by simp[hlt]⟩,Pv (i+1),λσ' H' p'=>⟨xs.length-(i+1),∅,rfl,hlt,p'⟩,λx H' y=>?_⟩;obtain⟨e,y⟩:=y;subst e;exact hs i x σ _ (y xs q) p
 .have e:i=xs.length:=∅
  subst e;exact .inl ⟨⟨xs,q,Jag _⟩,hd σ H p⟩
theorem Zby {lo:Int}{n:Nat}{g:TG}{tb:TS}{D:Ends}{σ:St}{H:Hp}(Pv:Nat->St->Hp->Prop)(h0:Pv 0 σ H)(hs:∀ i σ H,i<n->Pv i σ H->g (.int (lo+i)) σ H λσ2 H2=>tb { D with nx:=Pv (i+1),ct:=Pv (i+1),bk:=D.nx } σ2 H2)(hd:∀ σ H,Pv n σ H->D.nx σ H):
  ∃ W:Nat->Nat->St->Hp->Prop,(∃ m,W 0 m σ H)/\∀ i m σ H,W i m σ H->
   ((Itr lo n).stop i H/\D.nx σ H)\/((Itr lo n).go i H/\∃ N:St->Hp->Prop,(∀ σ' H',N σ' H'->∃ m',m'<m/\W (i+1) m' σ' H')/\∀ x H',(Itr lo n).yld i H x H'->g x σ H' λσ2 H2=>tb { D with nx:=N,ct:=N,bk:=D.nx } σ2 H2):=by
 refine⟨λi m σ H=>m=n-i/\i<=n/\Pv i σ H,⟨n,by simp,Jb5 _,h0⟩,?_⟩;intro i m σ H e95;refine Za2 e95 λe937 hi p=>?_;clear e95;obtain rfl:=e937;by_cases hlt:i<n
 .refine .inr ⟨hlt,Pv (i+1),λσ' H' p'=>⟨n-(i+1),∅,rfl,hlt,p'⟩,λx H' y=>?_⟩;obtain⟨e,y⟩:=y;subst e y;exact hs i σ _ hlt p
 .have e:i=n:=∅
  subst e;exact .inl ⟨Jag _,hd σ H p⟩
abbrev R2:=V->V->Hp->VK->Prop
def OpR (X:Cx)(f:Value->Value->Sem Value)(r:R2):Prop:=
 ∀ (pins:List (Addr×Obj)) (s:Shared) (σ:St) (H:Hp) (x y:V) (v u:Value) (Q:VK),Inv X pins σ H s->RelV x v->RelV y u->r x y H Q->
  wpAny (model X.prog X.w) X.A (f v u) (EP X pins σ Q) X.xe s
def UnR (X:Cx)(f:Value->Sem Value)(r:V->Hp->VK->Prop):Prop:=
 ∀ (pins:List (Addr×Obj)) (s:Shared) (σ:St) (H:Hp) (x:V) (v:Value) (Q:VK),Inv X pins σ H s->RelV x v->r x H Q->
  wpAny (model X.prog X.w) X.A (f v) (EP X pins σ Q) X.xe s
def Zhm (X:Cx)(f:Value)(r:List V->Hp->VK->Prop):Prop:=
 ∀ (pins:List (Addr×Obj)) (s:Shared) (σ:St) (H:Hp) (xs:List V) (us:List Value) (Q:VK),Inv X pins σ H s->Vals xs us->r xs H Q->
  wpAny (model X.prog X.w) X.A (call f us) (EP X pins σ Q) X.xe s
def TruR (X:Cx)(r:V->Hp->(Bool->Hp->Prop)->Prop):Prop:=
 ∀ (pins:List (Addr×Obj)) (s:Shared) (σ:St) (H:Hp) (x:V) (v:Value) (Q:Bool->Hp->Prop),Inv X pins σ H s->RelV x v->r x H Q->
  wpAny (model X.prog X.w) X.A (truthy v) (TP X pins σ Q) X.xe s
def tOp (r:R2)(ta tb:TE):TE:=λσ H Q=>ta σ H λx H1=>tb σ H1 λy H2=>r x y H2 Q
def tUn (r:V->Hp->VK->Prop)(ta:TE):TE:=λσ H Q=>ta σ H λx H1=>r x H1 Q
def rI (C:Int->Int->Prop)(g:Int->Int->V):R2:=λx y H Q=>∃ i j,x=.int i/\y=.int j/\C i j/\Q (g i j) H
def rI0 (g:Int->Int->V):R2:=λx y H Q=>∃ i j,x=.int i/\y=.int j/\Q (g i j) H
def rU (g:Int->V):V->Hp->VK->Prop:=λx H Q=>∃ i,x=.int i/\Q (g i) H
section
variable {X:Cx}{a b c:Expr}{ta tb tc:TE}{pos:Pos}
theorem binT (ha:PE X a ta)(hb:PE X b tb){pins:List (Addr×Obj)}{s:Shared}{σ:St}{H:Hp}{R:V->V->Hp->Prop}(I:Inv X pins σ H s)(h:ta σ H λx H1=>tb σ H1 λy H2=>R x y H2){Q:Value->Shared->Prop}{f:Value->Value->Sem Value}(hf:∀ v u s2 x y H2,Inv X pins σ H2 s2->RelV x v->RelV y u->R x y H2->wpAny (model X.prog X.w) X.A (f v u) Q X.xe s2):
  wpAny (model X.prog X.w) X.A (eval a X.env) (λv s₁=>wpAny (model X.prog X.w) X.A (eval b X.env) (λu s₂=>wpAny (model X.prog X.w) X.A (f v u) Q X.xe s₂) X.xe s₁) X.xe s:=by
 refine thn (ha pins s σ H _ I h) λv s1 ⟨x,H1,I1,r1,q1⟩=>?_;refine thn (hb pins s1 σ H1 _ I1 q1) λu s2 ⟨y,H2,I2,r2,q2⟩=>?_;exact hf v u s2 x y H2 I2 r1 r2 q2
theorem pe_op {op:Operator}{r:R2}(ho:OpR X (binaryOp op) r)(ha:PE X a ta)(hb:PE X b tb):PE X (.BinOp a op b pos) (tOp r ta tb):=by
 intro pins s σ H Q I h;exact wpAny_BinOp (binT ha hb I h λv u s2 x y H2 I2 rx ry q=>ho pins s2 σ H2 x y v u Q I2 rx ry q)
theorem Zh9 {op:UnaryOp}{r:V->Hp->VK->Prop}(ho:UnR X (unaryOp op) r)(ha:PE X a ta):PE X (.UnaryOp op a pos) (tUn r ta):=by
 intro pins s σ H Q I h;exact UnaryOp_ (thn (ha pins s σ H _ I h) λv s1 ⟨x,H1,I1,r1,q1⟩=>ho pins s1 σ H1 x v Q I1 r1 q1)
theorem opI {f:Value->Value->Sem Value}{C:Int->Int->Prop}{g:Int->Int->Int}(rule:∀ (i j:Int) (t u:Tok) (s:Shared) (Q:Value->Shared->Prop) (E:Value->Shared->Prop),C i j->Q (.int (g i j) s.toks) { s with toks:=s.toks+1 }->wpAny (model X.prog X.w) X.A (f (.int i t) (.int j u)) Q E s):
  OpR X f (rI C λi j=>.int (g i j)):=by
 intro pins s σ H x y v u Q I rx ry h;refine Zet h λi j e938 e939 hc q=>?_;clear h;obtain rfl:=e938;obtain rfl:=e939;obtain⟨t,rfl⟩:=rx;obtain⟨t',rfl⟩:=ry;exact rule i j t t' s _ _ hc ⟨.int (g i j),H,I.tok _,⟨_,rfl⟩,q⟩
theorem opI0 {f:Value->Value->Sem Value}{g:Int->Int->Int}(rule:∀ (i j:Int) (t u:Tok) (s:Shared) (Q:Value->Shared->Prop) (E:Value->Shared->Prop),Q (.int (g i j) s.toks) { s with toks:=s.toks+1 }->wpAny (model X.prog X.w) X.A (f (.int i t) (.int j u)) Q E s):
  OpR X f (rI0 λi j=>.int (g i j)):=by
 intro pins s σ H x y v u Q I rx ry h;refine Zbt h λi j e940 e941 q=>?_;clear h;obtain rfl:=e940;obtain rfl:=e941;obtain⟨t,rfl⟩:=rx;obtain⟨t',rfl⟩:=ry;exact rule i j t t' s _ _ ⟨.int (g i j),H,I.tok _,⟨_,rfl⟩,q⟩
theorem opB0 {f:Value->Value->Sem Value}{g:Int->Int->Bool}(rule:∀ (i j:Int) (t u:Tok) (s:Shared) (Q:Value->Shared->Prop) (E:Value->Shared->Prop),Q (.bool (g i j)) s->wpAny (model X.prog X.w) X.A (f (.int i t) (.int j u)) Q E s):
  OpR X f (rI0 λi j=>.bl (g i j)):=by
 intro pins s σ H x y v u Q I rx ry h;refine Zbt h λi j e942 e943 q=>?_;clear h;obtain rfl:=e942;obtain rfl:=e943;obtain⟨t,rfl⟩:=rx;obtain⟨t',rfl⟩:=ry;exact rule i j t t' s _ _ ⟨.bl (g i j),H,I,rfl,q⟩
def CDiv (i j:Int):Prop:=0<j/\j<1073741824
def CPow (i j:Int):Prop:=0<=j/\j<=1000000/\i.natAbs<2 ^ 64
def CMul (i j:Int):Prop:=(-(2 ^ 64)<i/\i<2 ^ 64)\/(-(2 ^ 64)<j/\j<2 ^ 64)
theorem CMul.ok {i j:Int}(h:CMul i j):IntMulOk i j:=by
 rcases h with ⟨h1,h2⟩|⟨h1,h2⟩
 .exact .of_left (intBits_le_64 h1 h2)
 .exact .of_right (intBits_le_64 h1 h2)
theorem two_pow_nn (k:Nat):(0:Int)<=2 ^ k:=by
 rw[two_pow_cast];exact Jd4 _
theorem Zdg:OpR X (binaryOp .Add) (rI0 λi j=>.int (i+j)):=opI0 λ_ _ _ _ _ _ _ q=>add_int q
theorem Zff:OpR X (binaryOp .Sub) (rI0 λi j=>.int (i-j)):=opI0 λ_ _ _ _ _ _ _ q=>sub_int q
theorem Zkb:OpR X (binaryOp .Mult) (rI CMul λi j=>.int (i*j)):=opI λ_ _ _ _ _ _ _ hc q=>mul_int q hc.ok
theorem Zku:OpR X (binaryOp .FloorDiv) (rI CDiv λi j=>.int (i / j)):=opI λi j _ _ _ _ _ hc q=>by
 have h1:(0:Int)<j:=hc.1;have h2:j<1073741824:=hc.2;exact floordiv_int ∅ (by rw[Jbs i ∅];exact q) (.inl (PyProof.noPylong_small ∅))
theorem Zcw:OpR X (binaryOp .Mod) (rI (λ_ j=>0<j) λi j=>.int (i % j)):=opI λi j _ _ _ _ _ hc q=>by
 have h1:(0:Int)<j:=hc;exact mod_int' ∅ (by rw[Int.fmod_eq_emod_of_nonneg i ∅];exact q)
theorem Zqt:OpR X (binaryOp .Mod) (rI (λ_ j=>j≠0) λi j=>.int (i.fmod j)):=opI λ_ _ _ _ _ _ _ hc q=>mod_int' hc q
theorem Zvq:OpR X (binaryOp .Pow) (rI CPow λi j=>.int (i ^ j.toNat)):=opI λ_ _ _ _ _ _ _ hc q=>pow_int_small hc.1 hc.2.1 hc.2.2 q
theorem Zvp:OpR X (binaryOp .RShift) (rI (λ_ j=>0<=j) λi j=>.int (i / 2 ^ j.toNat)):=opI λi j _ _ _ _ _ hc q=>
 rshift_int hc (by rw[Jbs i (two_pow_nn _)];exact q)
theorem unI {f:Value->Sem Value}{g:Int->Int}(rule:∀ (i:Int) (t:Tok) (s:Shared) (Q:Value->Shared->Prop) (E:Value->Shared->Prop),Q (.int (g i) s.toks) { s with toks:=s.toks+1 }->wpAny (model X.prog X.w) X.A (f (.int i t)) Q E s):
  UnR X f (rU λi=>.int (g i)):=by
 intro pins s σ H x v Q I rx h;refine Zae h λi e944 q=>?_;clear h;obtain rfl:=e944;obtain⟨t,rfl⟩:=rx;exact rule i t s _ _ ⟨.int (g i),H,I.tok _,⟨_,rfl⟩,q⟩
theorem Zel:UnR X (unaryOp .USub) (rU λi=>.int (-i)):=unI λ_ _ _ _ _ q=>neg_int q
end
def scal:V->V->Bool
 | .non,.non=>true | .non,.int _=>true | .int _,.non=>true | .non,.bl _=>true | .bl _,.non=>true | .non,.str _=>true | .str _,.non=>true
 | .int _,.int _=>true | .bl _,.bl _=>true | .str _,.str _=>true | .byt _,.byt _=>true
 | .int _,.str _=>true | .str _,.int _=>true | .bl _,.str _=>true | .str _,.bl _=>true
 | _,_=>false
def rEq:R2:=λx y H Q=>scal x y=true/\Q (.bl (decide (x=y))) H
def rNe:R2:=λx y H Q=>scal x y=true/\Q (.bl (!decide (x=y))) H
theorem Zr4 {i j:Int}:decide (V.int i=V.int j)=(i == j):=by
 rw[Jb1];simp
theorem Zv1 {i j:Bool}:decide (V.bl i=V.bl j)=(i == j):=by
 rw[Jb1];simp
theorem Zr3 {i j:Str}:decide (V.str i=V.str j)=(i == j):=by
 rw[Jb1];simp
theorem Zr5 {i j:Array UInt8}:decide (V.byt i=V.byt j)=(i.toList == j.toList):=by
 rw[Jb1];cases i;cases j;simp
section
variable {X:Cx}{a b c:Expr}{ta tb tc:TE}{pos:Pos}
theorem Zbf {pins:List (Addr×Obj)}{σ:St}{H:Hp}{s:Shared}{Q:VK}{k k':Bool}(I:Inv X pins σ H s)(q:Q (.bl k) H)(e:k=k'):EP X pins σ Q (.bool k') s:=by
 subst e;exact Zaq (.bl k) H ⟨I,rfl,q⟩
theorem Zc7:OpR X (compareOp .Eq) rEq:=by
 intro pins s σ H x y v u Q I rx ry h;obtain⟨hs,q⟩:=h;cases x with
 | non=>
  cases rx;cases y with
  | non=>cases ry;exact PySem.EqNone.eq_none_none (Zbf I q (by simp))
  | bl j=>cases ry;exact PySem.EqNone.eq_none_bool (Zbf I q (by simp))
  | int j=>obtain⟨t',rfl⟩:=ry;exact PySem.EqNone.eq_none_int (Zbf I q (by simp))
  | str j=>obtain⟨t',rfl⟩:=ry;exact PySem.EqNone.eq_none_str (Zbf I q (by simp))
  | _=>exact absurd (show false=true from hs) Jax
 | bl i=>
  cases rx;cases y with
  | non=>cases ry;exact PySem.EqNone.eq_bool_none (Zbf I q (by simp))
  | bl j=>cases ry;exact eq_bool (Zbf I q Zv1)
  | str j=>obtain⟨t',rfl⟩:=ry;exact PySem.EqMixed.eq_bool_str (Zbf I q (by simp))
  | _=>exact absurd (show false=true from hs) Jax
 | int i=>
  obtain⟨t,rfl⟩:=rx;cases y with
  | non=>cases ry;exact PySem.EqNone.eq_int_none (Zbf I q (by simp))
  | int j=>obtain⟨t',rfl⟩:=ry;exact eq_int (Zbf I q Zr4)
  | str j=>obtain⟨t',rfl⟩:=ry;exact PySem.EqMixed.eq_int_str (Zbf I q (by simp))
  | _=>exact absurd (show false=true from hs) Jax
 | str i=>
  obtain⟨t,rfl⟩:=rx;cases y with
  | non=>cases ry;exact PySem.EqNone.eq_str_none (Zbf I q (by simp))
  | bl j=>cases ry;exact PySem.EqMixed.eq_str_bool (Zbf I q (by simp))
  | int j=>obtain⟨t',rfl⟩:=ry;exact PySem.EqMixed.eq_str_int (Zbf I q (by simp))
  | str j=>obtain⟨t',rfl⟩:=ry;exact eq_str (Zbf I q Zr3)
  | _=>exact absurd (show false=true from hs) Jax
 | byt i=>
  obtain⟨t,rfl⟩:=rx;cases y with
  | byt j=>obtain⟨t',rfl⟩:=ry;exact PySem.W.eq_bytes (Zbf I q Zr5)
  | _=>exact absurd (show false=true from hs) Jax
 | _=>cases y <;> exact absurd (show false=true from hs) Jax
theorem Zeu:OpR X (compareOp .NotEq) rNe:=by
 intro pins s σ H x y v u Q I rx ry h;obtain⟨hs,q⟩:=h;cases x with
 | non=>
  cases rx;cases y with
  | non=>cases ry;exact PySem.EqNone.ne_none_none (Zbf I q (by simp))
  | bl j=>cases ry;exact PySem.EqNone.ne_none_bool (Zbf I q (by simp))
  | int j=>obtain⟨t',rfl⟩:=ry;exact PySem.EqNone.ne_none_int (Zbf I q (by simp))
  | str j=>obtain⟨t',rfl⟩:=ry;exact PySem.EqNone.ne_none_str (Zbf I q (by simp))
  | _=>exact absurd (show false=true from hs) Jax
 | bl i=>
  cases rx;cases y with
  | non=>cases ry;exact PySem.EqNone.ne_bool_none (Zbf I q (by simp))
  | bl j=>cases ry;exact ne_bool (Zbf I q (Jdl not Zv1))
  | str j=>obtain⟨t',rfl⟩:=ry;exact PySem.EqMixed.ne_bool_str (Zbf I q (by simp))
  | _=>exact absurd (show false=true from hs) Jax
 | int i=>
  obtain⟨t,rfl⟩:=rx;cases y with
  | non=>cases ry;exact PySem.EqNone.ne_int_none (Zbf I q (by simp))
  | int j=>obtain⟨t',rfl⟩:=ry;exact ne_int (Zbf I q (Jdl not Zr4))
  | str j=>obtain⟨t',rfl⟩:=ry;exact PySem.EqMixed.ne_int_str (Zbf I q (by simp))
  | _=>exact absurd (show false=true from hs) Jax
 | str i=>
  obtain⟨t,rfl⟩:=rx;cases y with
  | non=>cases ry;exact PySem.EqNone.ne_str_none (Zbf I q (by simp))
  | bl j=>cases ry;exact PySem.EqMixed.ne_str_bool (Zbf I q (by simp))
  | int j=>obtain⟨t',rfl⟩:=ry;exact PySem.EqMixed.ne_str_int (Zbf I q (by simp))
  | str j=>obtain⟨t',rfl⟩:=ry;exact ne_str (Zbf I q (Jdl not Zr3))
  | _=>exact absurd (show false=true from hs) Jax
 | byt i=>
  obtain⟨t,rfl⟩:=rx;cases y with
  | byt j=>obtain⟨t',rfl⟩:=ry;exact PySem.W.ne_bytes (Zbf I q (Jdl not Zr5))
  | _=>exact absurd (show false=true from hs) Jax
 | _=>cases y <;> exact absurd (show false=true from hs) Jax
theorem Zia:OpR X (compareOp .Lt) (rI0 λi j=>.bl (decide (i<j))):=opB0 λ_ _ _ _ _ _ _ q=>lt_int q
theorem Zox:OpR X (compareOp .LtE) (rI0 λi j=>.bl (decide (i<=j))):=opB0 λ_ _ _ _ _ _ _ q=>le_int q
theorem Zd2:OpR X (compareOp .Gt) (rI0 λi j=>.bl (decide (j<i))):=opB0 λ_ _ _ _ _ _ _ q=>gt_int q
theorem op_ge:OpR X (compareOp .GtE) (rI0 λi j=>.bl (decide (j<=i))):=opB0 λ_ _ _ _ _ _ _ q=>ge_int q
theorem OpR.or {f:Value->Value->Sem Value}{r r':R2}(h:OpR X f r)(h':OpR X f r'):OpR X f (λx y H Q=>r x y H Q\/r' x y H Q):=by
 intro pins s σ H x y v u Q I rx ry q;rcases q with q|q
 .exact h pins s σ H x y v u Q I rx ry q
 .exact h' pins s σ H x y v u Q I rx ry q
theorem Zak (b:Expr){op:CmpOp}(h:op≠.In:=by decide)(h2:op≠.NotIn:=by decide):behindInMarks op b=false:=by
 have e1:(op == CmpOp.In)=false:=by cases op <;> first|rfl|exact absurd rfl h
 have e2:(op == CmpOp.NotIn)=false:=by cases op <;> first|rfl|exact absurd rfl h2
 cases b <;> simp[behindInMarks,e1,e2]
theorem Zcg {op:CmpOp}{r:R2}(ho:OpR X (compareOp op) r)(ha:PE X a ta)(hb:PE X b tb)(hm:behindInMarks op b=false):PE X (.Compare a [op] [b] pos) (tOp r ta tb):=by
 intro pins s σ H Q I h;exact wpAny_Compare1 (binT ha hb I h λv u s2 x y H2 I2 rx ry q=>ho pins s2 σ H2 x y v u Q I2 rx ry q) hm
def Zs0 (t:TE):TT:=λσ H Q=>t σ H λx H'=>∃ k,x=.bl k/\Q k H'
theorem Zb4 {op:CmpOp}{r:R2}(ho:OpR X (compareOp op) r)(ha:PE X a ta)(hb:PE X b tb)(hm:behindInMarks op b=false):PT X (.Compare a [op] [b] pos) (Zs0 (tOp r ta tb)):=by
 intro pins s σ H Q I h;refine Jdn (thn (ha pins s σ H _ I h) λv s1 ⟨x,H1,I1,r1,q1⟩=>thn (hb pins s1 σ H1 _ I1 q1) λu s2 ⟨y,H2,I2,r2,q2⟩=>
  thn (ho pins s2 σ H2 x y v u _ I2 r1 r2 q2) λc s3 ⟨z,H3,I3,r3,k,e,q3⟩=>?_) hm
 subst e;cases r3;exact Jbq ⟨H3,I3,q3⟩
def Znk (r r':R2)(ta tb tc:TE):TE:=λσ H Q=>ta σ H λx H1=>tb σ H1 λy H2=>r x y H2 λz H3=>∃ k,z=.bl k /\
 (if k=true then tc σ H3 λw' H4=>r' y w' H4 Q else Q (.bl false) H3)
theorem Znz {op op':CmpOp}{r r':R2}(ho:OpR X (compareOp op) r)(ho':OpR X (compareOp op') r')(ha:PE X a ta)(hb:PE X b tb)(hc:PE X c tc)(hm:lastMarks [op,op'] [b,c]=false:=by with_unfolding_all rfl):PE X (.Compare a [op,op'] [b,c] pos) (Znk r r' ta tb tc):=by
 intro pins s σ H Q I h;refine Compare_chain (thn (ha pins s σ H _ I h) λv s1 ⟨x,H1,I1,r1,q1⟩=>chain_link (thn (hb pins s1 σ H1 _ I1 q1) λu s2 ⟨y,H2,I2,r2,q2⟩=>
  thn (ho pins s2 σ H2 x y v u _ I2 r1 r2 q2) λd s3 ⟨z,H3,I3,r3,k,e,q3⟩=>?_)) hm
 subst e;cases r3;refine Jbq ?_;cases k with
 | false=>exact ite_ff ⟨.bl false,H3,I3,rfl,q3⟩
 | true=>exact ite_tt (chain_last (thn (hc pins s3 σ H3 _ I3 q3) λw' s4 ⟨z',H4,I4,r4,q4⟩=>ho' pins s4 σ H4 y z' u w' Q I4 r2 r4 q4))
theorem Znv {op op':CmpOp}{r r':R2}(ho:OpR X (compareOp op) r)(ho':OpR X (compareOp op') r')(ha:PE X a ta)(hb:PE X b tb)(hc:PE X c tc)(hm:lastMarks [op,op'] [b,c]=false:=by with_unfolding_all rfl):PT X (.Compare a [op,op'] [b,c] pos) (Zs0 (Znk r r' ta tb tc)):=by
 intro pins s σ H Q I h;refine isTrue_chain (thn (ha pins s σ H _ I h) λv s1 ⟨x,H1,I1,r1,q1⟩=>test_link (thn (hb pins s1 σ H1 _ I1 q1) λu s2 ⟨y,H2,I2,r2,q2⟩=>
  thn (ho pins s2 σ H2 x y v u _ I2 r1 r2 q2) λd s3 ⟨z,H3,I3,r3,k,e,q3⟩=>?_)) hm
 subst e;cases r3;refine Jbq ?_;cases k with
 | false=>
  refine Zae q3 λk' e' q'=>?_;clear q3;cases e';exact ite_ff ⟨H3,I3,q'⟩
 | true=>
  refine ite_tt (test_last (thn (hc pins s3 σ H3 _ I3 q3) λw' s4 ⟨z',H4,I4,r4,q4⟩=>thn (ho' pins s4 σ H4 y z' u w' _ I4 r2 r4 q4) λd' s5 ⟨z2,H5,I5,r5,k2,e2,q5⟩=>?_));subst e2;cases r5;exact Jbq ⟨H5,I5,q5⟩
def TruV (K:Frag)(x:V)(H:Hp)(k:Bool):Prop:=
 match x with
 | .non=>k=false
 | .bl b=>k=b
 | .int i=>k=(i != 0)
 | .str y=>y.length<=sizeLine/\k=((y.length:Int) != 0)
 | .byt y=>y.size<=sizeLine/\k=((y.size:Int) != 0)
 | .ref p=>(∃ xs,SqL K H p xs/\k=!xs.isEmpty)\/(∃ xs,SqT K H p xs/\k=!xs.isEmpty)\/∃ kvs,H p=some (.dK kvs)/\k=!kvs.isEmpty
 | _=>False
theorem Zo4 {κ:Type}{kvs:List (κ×V)}{vs:List (κ×Value)}(r:KV kvs vs):(!vs.isEmpty)=!kvs.isEmpty:=by
 cases r <;> rfl
theorem Zkd {xs:List V}{its:List Value}(r:Vals xs its):(!its.toArray.isEmpty)=!xs.isEmpty:=by
 cases r <;> simp
theorem Zlw:(sizeLine:Nat)<2 ^ 63:=by rw[sizeLine_eq];decide
theorem tru_ok:TruR X (λx H Q=>∃ k,TruV X.K x H k/\Q k H):=by
 intro pins s σ H x v Q I rx h;refine Zae h λk e q=>?_;clear h;have hl:=Zlw;have hs:sizeLine=16777216:=sizeLine_eq;cases x with
 | non=>
  cases rx;have e':k=false:=e;subst e';exact truthy_none ⟨H,I,q⟩
 | bl b=>
  cases rx;have e':k=b:=e;subst e';exact Jbq ⟨H,I,q⟩
 | int i=>
  obtain⟨t,rfl⟩:=rx;have e':k=(i != 0):=e;subst e';exact PySem.P.truthy_int ⟨H,I,q⟩
 | str y=>
  obtain⟨t,rfl⟩:=rx;obtain⟨hy,e'⟩:y.length<=sizeLine/\k=((y.length:Int) != 0):=e;subst e';exact PySem.P.truthy_str ∅ ⟨H,I.tok _,q⟩
 | byt y=>
  obtain⟨t,rfl⟩:=rx;obtain⟨hy,e'⟩:y.size<=sizeLine/\k=((y.size:Int) != 0):=e;subst e';exact PySem.W.truthy_bytes ∅ ⟨H,I.tok _,q⟩
 | ref p=>
  cases rx;have e':(∃ xs,SqL X.K H p xs/\k=!xs.isEmpty)\/(∃ xs,SqT X.K H p xs/\k=!xs.isEmpty)\/∃ kvs,H p=some (.dK kvs)/\k=!kvs.isEmpty:=e;rcases e' with ⟨xs,hx,e'⟩|⟨xs,hx,e'⟩|⟨kvs,hx,e'⟩
  .subst e';refine Zav (I.list hx) λits r pl hz=>?_;have hlen:=r.length;exact wpAny_truthy_list pl.isList (by simp only[Jaw];omega) ⟨H,I.tok _,by rw[Zkd r];exact q⟩
  .subst e';refine Zav (I.tuple hx) λits r pl hz=>?_;have hlen:=r.length;exact truthy_tuple pl (by simp only[Jaw];omega) ⟨H,I.tok _,by rw[Zkd r];exact q⟩
  .subst e';obtain⟨hz,hS,vs,r,m⟩:kvs.length<=sizeLine/\(p == sysModules)=false/\∃ vs,KV kvs vs/\s.heap.DictOf (Zm3 X.prog X.w) p vs:=I.hok p _ hx;have hlen:kvs.length=vs.length:=Paired.length r;exact wpAny_truthy_dict hS m ∅ ⟨H,I.tok _,by rw[Zo4 r];exact q⟩
 | _=>exact (show False from e).elim
theorem Zth (ha:PE X a ta)(he:∀ whole,isTrue a X.env whole=(do let v <- whole;standAt a.pos;holding [v] (truthy v))):
  PT X a (λσ H Q=>ta σ H λx H'=>∃ k,TruV X.K x H' k/\Q k H'):=by
 intro pins s σ H Q I h;exact isTrue_plain (thn (ha pins s σ H _ I h) λv s1 ⟨x,H1,I1,r1,q1⟩=>tru_ok pins s1 σ H1 x v Q I1 r1 q1) (he _)
theorem Zme {x:V}{us:List Value}(r:Vals [x] us):∃ u,us=[u]/\RelV x u:=by
 cases r with
 | cons r1 r2=>cases r2;exact⟨_,rfl,r1⟩
theorem vals2 {x y:V}{us:List Value}(r:Vals [x,y] us):∃ u w',us=[u,w']/\RelV x u/\RelV y w':=by
 cases r with
 | cons r1 r2=>
  cases r2 with
  | cons r3 r4=>cases r4;exact⟨_,_,rfl,r1,r3⟩
theorem Zej:Zhm X (.builtin "abs") (λxs H Q=>∃ i,xs=[.int i]/\Q (.int (if i<0 then -i else i)) H):=by
 intro pins s σ H xs us Q I r h;refine Zae h λi e968 q=>?_;clear h;obtain rfl:=e968;refine Zae (Zme r) λu e969 e970=>?_;obtain rfl:=e969;obtain⟨t,rfl⟩:=e970;exact call_abs_int λu tk=>⟨.int (if i<0 then -i else i),H,I.tok _,⟨_,rfl⟩,q⟩
theorem Zl6 (hc:X.calm=true):Zhm X (.builtin "min") (λxs H Q=>∃ i j,xs=[.int i,.int j]/\Q (.int (if j<i then j else i)) H):=by
 intro pins s σ H xs us Q I r h;refine Zbd h λi j e975 q=>?_;clear h;obtain rfl:=e975;refine Zbt (vals2 r) λu w' e976 e977 e978=>?_;obtain rfl:=e976;obtain⟨t,rfl⟩:=e977;obtain⟨t',rfl⟩:=e978;refine min_two_ints (I.ok.hd hc) λh' tk k=>⟨_,H,I.kept k,?_,q⟩
 by_cases hj:j<i
 .rw [if_pos hj,if_pos hj];exact⟨_,rfl⟩
 .rw [if_neg hj,if_neg hj];exact⟨_,rfl⟩
theorem Zjp:Zhm X (.type "int") (λxs H Q=>(∃ i,xs=[.int i]/\Q (.int i) H)\/∃ k,xs=[.bl k]/\Q (.int (if k then 1 else 0)) H):=by
 intro pins s σ H xs us Q I r h;rcases h with ⟨i,rfl,q⟩|⟨k,rfl,q⟩
 .refine Zae (Zme r) λu e979 e980=>?_;obtain rfl:=e979;obtain⟨t,rfl⟩:=e980;exact call_int_int ⟨.int i,H,I,⟨_,rfl⟩,q⟩
 .refine Zae (Zme r) λu e981 r1=>?_;obtain rfl:=e981;cases r1;exact call_int_bool ⟨.int (if k then 1 else 0),H,I.tok _,⟨_,rfl⟩,q⟩
end
structure ObjM (h:Heap)(x dx C:Addr)(mA:Str->Option Value):Prop where
 obj:h.get? x=some (PySem.W.instObj C dx)
 ns:h.Ns1 dx mA
 ne:dx≠x
theorem Zrb {h:Heap}{dx:Addr}{mA:Str->Option Value}(n:h.Ns1 dx mA):∃ od,h.get? dx=some od/\∀ name,PySem.W.lookIn name od=some (mA name):=by
 refine Zb9 n λo es ep ho hd hk e9101=>?_;clear n;obtain⟨_,hm⟩:=e9101;refine⟨o,ho,λname=>?_⟩;have e:=hm name;unfold nsFind findBy at e;rw[<- Array.find?_toList] at e;unfold PySem.W.lookIn;rw[hd];dsimp only;split
 .rename_i y q
  rw[q] at e;exact Jdl some e
 .rename_i q
  rw[q] at e;have a:es.toList.any (·.refKey)=false:=by
   rw[List.any_eq_false];intro y hy;refine Zex (hk y (Array.mem_toList_iff.mp hy)) λz t hkey=>?_;simp[DictEntry.refKey,hkey]
  have a':¬ es.toList.any (·.refKey)=true:=by rw[a];exact Jax
  rw[if_neg a'];exact Jdl some e
theorem ObjM.look {h:Heap}{x dx C:Addr}{mA:Str->Option Value}(I:ObjM h x dx C mA):∃ od,PySem.W.InstAt h x (PySem.W.instObj C dx) C (some od)/\∀ name,PySem.W.lookIn name od=some (mA name):=
 let ⟨od,ho,hl⟩:=Zrb I.ns
 ⟨od,⟨I.obj,rfl,rfl,ho⟩,hl⟩
section
variable {prog:Program}{w:World}{A:Around}{E:Value->Shared->Prop}{s:Shared}{K:Frag}{x dx C f:Addr}{mA:Str->Option Value}{name:Str}{v:Value}
theorem get_map {expr:Bool}{Q:Value->Shared->Prop}(X:K.In s.heap)(I:ObjM s.heap x dx C mA)(hg:PySem.W.plainGet K C name=true)(hh:PySem.W.hasDictIn K C=true)(ha:PySem.W.findIn K (.ref C) name=some none)(hv:mA name=some v)(hv':PySem.W.handedIn v=true)(h:Q v { s with toks:=s.toks+1 }):
  wpAny (model prog w) A (getAttr (.ref x) name expr) Q E s:=by
 refine Zae I.look λod J hl=>?_;exact PySem.W.get_value X J (Jdz hg).1 (PySem.W.findObj_own hh ha rfl (by rw[hl,hv])) hv' h
theorem Zuo {pl:Sem Bool}{Q:Value×List Value->Shared->Prop}(X:K.In s.heap)(I:ObjM s.heap x dx C mA)(hg:PySem.W.plainGet K C name=true)(hf:PySem.W.findIn K (.ref C) name=some (some (.ref f)))(ht:PySem.W.isFn K (.ref f)=true)(hv:mA name=none)(h:Q (.ref f,[.ref x]) s):
  wpAny (model prog w) A (getMethod (.ref x) name pl) Q E s:=by
 refine Zae I.look λod J hl=>?_;exact PySem.W.method_fn X J (Jdz hg).1 (Jdz hg).2 hf (Jbw.mp ht) (by show (PySem.W.lookIn name od).map (·.isSome)=some false;rw[hl,hv];rfl) h
theorem set_map {ns:List Str}{Q:Unit->Shared->Prop}(X:K.In s.heap)(I:ObjM s.heap x dx C mA)(hs:PySem.W.findIn K (.ref C) "__setattr__" = some (some (.builtin "object.__setattr__")))(hp:PySem.W.plainOver K C=true)(ht:PySem.W.takerIn K C name=some none)(hh:PySem.W.hasDictIn K C=true)(hw:PySem.Within mA ns)(hsz:ns.length<=sizeLine)(h:∀ h',ObjM h' x dx C (λy=>if y=name then some v else mA y)->Heap.SameBut dx s.heap h'->Q () { s with heap:=h',toks:=s.toks+2 }):
  wpAny (model prog w) A (setAttr (.ref x) name v) Q E s:=by
 refine Zae I.look λod J hl=>?_;refine PySem.W.set_plain X J hs (PySem.W.osa_open (s:={ s with toks:=s.toks+1 }) (r:=none) X J hp ht λb=>?_);refine Zae (PySem.W.any_some hh) λcd hc hd'=>?_;have hx:s.heap.get? x=some ⟨.ref C,some dx,.plain,#[]⟩:=I.obj;refine Jai (Ja9 (Jai (Jai (wpAny_loadPart hx (Jai (PySem.W.Looks.here (s:={ s with toks:=s.toks+1 }) (PySem.W.looks_clsIn X hc) ?_))))));rw[hd'];refine Ja9 (a:=some dx) (Jai (Ja9 (Jai ?_)));refine wpAny_nsSet1 (s:={ s with toks:=s.toks+1 }) I.ns λh' hn2 hs2=>?_;refine Zmd (hn2.count (PySem.Within.cons name v hw)) λoD esD epD hoD hdD hcD=>?_;refine Jai (wpAny_lookBehind hoD (by rw[hdD];exact pastItsLine_dict (Ja4 hcD (by rw[Jc5];omega))) ?_);exact Ja9 (h _ ⟨(hs2.2 _ (Jdq I.ne)).trans I.obj,hn2,I.ne⟩ hs2)
theorem Zud {R:Result->Shared->Prop}{vs:List Value}{kw:List (Str×Value)}(X:K.In s.heap)(hm:PySem.W.makesIn K C=true)(hi:PySem.W.findIn K (.ref C) "__init__" = some (some (.ref f)))(hf:PySem.W.typeIn K (.ref f)=some (.type "function"))(h:codeAny (model prog w) (A.under (.builtin "type.__call__" ⟨.ref C::vs,kw⟩)) (.call (.ref f) ⟨.ref (s.heap.objs.size+1)::vs,kw⟩) (PySem.W.InitBack (s.heap.objs.size+1) R)
   { s with heap:=(s.heap.push PySem.W.emptyDict).push (PySem.W.instObj C s.heap.objs.size) }):
  codeAny (model prog w) A (.call (.ref C) ⟨vs,kw⟩) R s:=by
 obtain⟨hh,g,d,t,os⟩:=s;exact PySem.W.make_core (PySem.W.makes_of X hm) (PySem.W.looks_findIn X hi) (λself=>PySem.W.bind_fn X self hf) (.inl rfl) h
end
def Zct (f:Str)(v:V):List (Str×V)->List (Str×V)
 | []=>[(f,v)]
 | (g,x)::r=>if g=f then (g,v)::r else (g,x)::Zct f v r
theorem Za1 (f g:Str)(v:V):∀ fs:List (Str×V),(Zct f v fs).lookup g=if g=f then some v else fs.lookup g
 | []=>by
  show List.lookup g [(f,v)]=_;by_cases h:g=f
  .have hb:(g == f)=true:=Jbw.mpr h;simp only[List.lookup,hb,if_pos h]
  .have hb:(g == f)=false:=Jc7.mpr h;simp only[List.lookup,hb,if_neg h]
 | (k,x)::r=>by
  have ih:=Za1 f g v r;rw[show Zct f v ((k,x)::r)=(if k=f then (k,v)::r else (k,x)::Zct f v r) from rfl];by_cases hk:k=f
  .rw [if_pos hk];by_cases h:g=k
   .have hb:(g == k)=true:=Jbw.mpr h;simp only[List.lookup,hb,if_pos (h.trans hk)]
   .have hb:(g == k)=false:=Jc7.mpr h;simp only[List.lookup,hb,if_neg (λe:g=f=>h (e.trans hk.symm))]
  .rw [if_neg hk];by_cases h:g=k
   .have hb:(g == k)=true:=Jbw.mpr h;simp only[List.lookup,hb,if_neg (λe:g=f=>hk (h.symm.trans e))]
   .have hb:(g == k)=false:=Jc7.mpr h;simp only[List.lookup,hb];exact ih
theorem Zjk (f:Str)(v:V):∀ fs:List (Str×V),f∈(Zct f v fs).map (·.1)/\∀ g,g∈fs.map (·.1)->g∈(Zct f v fs).map (·.1)
 | []=>⟨by simp[Zct],λg h=>by simp at h⟩
 | (k,x)::r=>by
  obtain⟨i1,i2⟩:=Zjk f v r;rw[show Zct f v ((k,x)::r)=(if k=f then (k,v)::r else (k,x)::Zct f v r) from rfl];by_cases hk:k=f
  .rw [if_pos hk];subst hk;exact⟨by simp,λg h=>by simpa using h⟩
  .rw [if_neg hk];refine⟨?_,λg h=>?_⟩
   .rw [List.map_cons];exact Jbn _ i1
   .rw [List.map_cons] at h ⊢;rcases Jbo.mp h with e|e
    .exact Jbo.mpr (.inl e)
    .exact Jbn _ (i2 g e)
theorem Zca (f:Str)(v:V):∀ fs:List (Str×V),(Zct f v fs).length<=fs.length+1
 | []=>by simp[Zct]
 | (k,x)::r=>by
  have ih:=Zca f v r;rw[show Zct f v ((k,x)::r)=(if k=f then (k,v)::r else (k,x)::Zct f v r) from rfl];by_cases hk:k=f
  .rw [if_pos hk,Jc5,Jc5];omega
  .rw [if_neg hk,Jc5,Jc5];omega
theorem RelO.some_of {v:V}{o:Option Value}(r:RelO (some v) o):∃ u,o=some u/\RelV v u:=by
 cases o with
 | none=>exact (show False from r).elim
 | some u=>exact⟨u,rfl,r⟩
theorem RelO.none_of {o:Option Value}(r:RelO none o):o=none:=by
 cases o with
 | none=>rfl
 | some u=>exact (show False from r).elim
theorem Zrw {v:V}{u:Value}(r:RelV v u):PySem.W.handedIn u=true:=by
 cases v with
 | non=>cases (show u=Value.none from r);rfl
 | bl b=>cases (show u=Value.bool b from r);rfl
 | int i=>obtain⟨t,e⟩:=(show ∃ t,u=Value.int i t from r);cases e;rfl
 | str x=>obtain⟨t,e⟩:=(show ∃ t,u=Value.str x t from r);cases e;rfl
 | byt b=>obtain⟨t,e⟩:=(show ∃ t,u=Value.bytes b t from r);cases e;rfl
 | flt b=>obtain⟨t,e⟩:=(show ∃ t,u=Value.float b t from r);cases e;rfl
 | ref a=>cases (show u=Value.ref a from r);rfl
 | ty n=>cases (show u=Value.type n from r);rfl
section
variable {P:Program}{w:World}{H H':Hp}{h h':Heap}{a C dx:Addr}{fs fs':List (Str×V)}
theorem Zk1 (hok:HOk P w H h)(e:H a=some (.ins C dx fs)):∃ mA,ObjM h a dx C mA/\(∀ f,RelO (fs.lookup f) (mA f))/\PySem.Within mA (fs.map (·.1))/\fs.length<=1000/\H dx=some (.own a):=by
 refine Zc3 (show ObjOk P w H h a (.ins C dx fs) from hok a _ e) λd z ne ob e9102=>?_;obtain⟨mA,n,r,q⟩:=e9102;exact⟨mA,⟨ob,n,ne⟩,r,q,z,d⟩
end
structure Cls (K:Frag)(C:Addr):Prop where
 pg:PySem.W.plainGet K C Str.empty=true
 hd:PySem.W.hasDictIn K C=true
 po:PySem.W.plainOver K C=true
 sa:PySem.W.findIn K (.ref C) "__setattr__" = some (some (.builtin "object.__setattr__"))
theorem Cls.get {K:Frag}{C:Addr}(c:Cls K C)(f:Str):PySem.W.plainGet K C f=true:=c.pg
def NoAttr (K:Frag)(C:Addr)(f:Str):Prop:=PySem.W.findIn K (.ref C) f=some none
theorem NoAttr.taker {K:Frag}{C:Addr}{f:Str}(n:NoAttr K C f):PySem.W.takerIn K C f=some none:=by
 unfold PySem.W.takerIn;rw[show PySem.W.findIn K (.ref C) f=some none from n];rfl
structure Con (K:Frag)(C:Addr)(f:Str)(v:V)(u:Value):Prop where
 at_:PySem.W.findIn K (.ref C) f=some (some u)
 rel:RelV v u
 get:PySem.W.specialIn K u "__get__" = some none
 cp:PySem.W.copiedNames.contains f=false
structure Meth (K:Frag)(C:Addr)(m:Str)(f:Addr):Prop where
 at_:PySem.W.findIn K (.ref C) m=some (some (.ref f))
 fn:PySem.W.isFn K (.ref f)=true
 kp:PySem.W.keepIn K (.ref f)=true
section
variable {X:Cx}{pins:List (Addr×Obj)}{σ:St}{H:Hp}{s:Shared}{a C dx:Addr}{fs:List (Str×V)}{f:Str}{v:V}{A:Around}{E:Value->Shared->Prop}
theorem Zo5 {b:Bool}{Q:Value->Shared->Prop}(I:Inv X pins σ H s)(e:H a=some (.ins C dx fs))(c:Cls X.K C)(n:NoAttr X.K C f)(l:fs.lookup f=some v)(h:∀ u s',Inv X pins σ H s'->RelV v u->Q u s'):wpAny (model X.prog X.w) A (getAttr (.ref a) f b) Q E s:=by
 refine Zpj (Zk1 I.hok e) λmA O r _ _ _=>?_;obtain⟨u,hu,ru⟩:=RelO.some_of (v:=v) (o:=mA f) (by rw[<- l];exact r f);exact get_map I.kIn O (c.get f) c.hd n hu (Zrw ru) (h u _ (I.tok _) ru)
theorem Zke {m:Str}{g:Addr}{pl:Sem Bool}{Q:Value×List Value->Shared->Prop}(I:Inv X pins σ H s)(e:H a=some (.ins C dx fs))(c:Cls X.K C)(k:Meth X.K C m g)(l:fs.lookup m=none)(h:Q (.ref g,[.ref a]) s):wpAny (model X.prog X.w) A (getMethod (.ref a) m pl) Q E s:=by
 refine Zpj (Zk1 I.hok e) λmA O r _ _ _=>?_;have hn:mA m=none:=RelO.none_of (by rw[<- l];exact r m);exact Zuo I.kIn O (c.get m) k.at_ k.fn hn h
theorem Zov {y:V}{u:Value}{Q:Unit->Shared->Prop}(I:Inv X pins σ H s)(e:H a=some (.ins C dx fs))(c:Cls X.K C)(n:NoAttr X.K C f)(hl:fs.length<1000)(ry:RelV y u)(h:∀ s',Inv X pins σ (upd H a (.ins C dx (Zct f y fs))) s'->Q () s'):wpAny (model X.prog X.w) A (setAttr (.ref a) f u) Q E s:=by
 refine Zpj (Zk1 I.hok e) λmA O r wi _ ho=>?_;have hz:(fs.map (·.1)).length<=sizeLine:=by rw[Jab,sizeLine_eq];omega
 refine set_map I.kIn O c.sa c.po n.taker c.hd wi hz λh' O' sb=>h _ ?_;have hd:∃ o,h'.get? dx=some o:=let ⟨o,_,_,e',_⟩:=O'.ns;⟨o,e'⟩;refine I.write (x:=a) (e:=dx) (by rw[e];exact True.intro) (.inr ho) (λb q hb z=>(sb.2 b hb).trans z) hd ?_;refine⟨by rw[Zaj O.ne];exact ho,?_,O.ne,O'.obj,_,O'.ns,λg=>?_,λg hg=>?_⟩
 .have:=Zca f y fs;omega
 .show RelO ((Zct f y fs).lookup g) (if g=f then some u else mA g);rw[Za1];by_cases q:g=f
  .rw [if_pos q,if_pos q];exact ry
  .rw [if_neg q,if_neg q];exact r g
 .by_cases q:g=f
  .rw [q];exact (Zjk f y fs).1
  .refine (Zjk f y fs).2 g (wi g λz=>hg ?_);show (if g=f then some u else mA g)=none;rw[if_neg q];exact z
theorem Inv.made (I:Inv X pins σ H s):Inv X pins σ (upd (upd H s.heap.objs.size (.own (s.heap.objs.size+1))) (s.heap.objs.size+1) (.ins C s.heap.objs.size []))
  { s with heap:=(s.heap.push PySem.W.emptyDict).push (PySem.W.instObj C s.heap.objs.size) }:=by
 have e1:(s.heap.push PySem.W.emptyDict).get? s.heap.objs.size=some PySem.W.emptyDict:=Ja2 s.heap rfl;have e2:((s.heap.push PySem.W.emptyDict).push (PySem.W.instObj C s.heap.objs.size)).get? (s.heap.objs.size+1)=some (PySem.W.instObj C s.heap.objs.size):=by
  have:=Ja2 (s.heap.push PySem.W.emptyDict) (o:=PySem.W.instObj C s.heap.objs.size) rfl;rwa [Jbt] at this
 have e3:(s.heap.push PySem.W.emptyDict).Ns s.heap.objs.size (λ_=>none):=⟨PySem.W.emptyDict,#[],_,e1,rfl,(λe he=>absurd he (by simp)),λ_=>rfl⟩
 have I1:=I.laid (a:=s.heap.objs.size) (o:=.own (s.heap.objs.size+1)) (h':=s.heap.push PySem.W.emptyDict) (t':=s.toks) (λb u q=>Jaq _ q) (Jag _) ⟨_,e1⟩;refine I1.laid (a:=s.heap.objs.size+1) (o:=.ins C s.heap.objs.size []) (t':=s.toks) (λb u q=>Jaq _ q) (Nat.le_of_eq (Jbt _ _)) ?_;have ne:s.heap.objs.size≠s.heap.objs.size+1:=Jbr (Jdr _);refine⟨by rw[Zaj ne,Zab],Jb5 _,ne,e2,λ_=>none,(Heap.Ns1.of_empty e3).at λo q=>Jaq _ q,λ_=>True.intro,λy hy=>absurd rfl hy⟩
theorem attr_of {prog:Program}{w:World}{env:Env}{e:Expr}{f:Str}{pos:Pos}{s:Shared}{Q:Value->Shared->Prop}(hb:attributeBase e f env (eval e env)=eval e env)(h:wpAny (model prog w) A (eval e env) (λo s₁=>wpAny (model prog w) A (getAttr o f true) Q E s₁) E s):wpAny (model prog w) A (eval (.Attribute e f pos) env) Q E s:=
 Attribute_any_ h (by rw[arm_eval_Attribute,hb])
end
def tFld (K:Frag)(ta:TE)(f:Str):TE:=λσ H Q=>ta σ H λx H1=>∃ a C dx fs v,x=.ref a/\H1 a=some (.ins C dx fs)/\Cls K C/\NoAttr K C f/\fs.lookup f=some v/\Q v H1
def sFld (K:Frag)(ta tv:TE)(f:Str):TS:=λD σ H=>tv σ H λy H1=>ta σ H1 λx H2=>∃ a C dx fs,x=.ref a/\H2 a=some (.ins C dx fs)/\Cls K C/\NoAttr K C f/\fs.length<1000 /\
 D.nx σ (upd H2 a (.ins C dx (Zct f y fs)))
section
variable {X:Cx}{o e value:Expr}{f:Str}{pos pos' tpos:Pos}{ta tv:TE}
theorem Zd1 (he:PE X e ta)(hb:attributeBase e f X.env (eval e X.env)=eval e X.env):PE X (.Attribute e f pos) (tFld X.K ta f):=by
 intro pins s σ H Q I h;refine attr_of hb (thn (he pins s σ H _ I h) λu s1 ⟨x,H1,I1,rx,a,C,dx,fs,v,ex,ea,c,n,l,q⟩=>?_);subst ex;obtain rfl:u=Value.ref a:=rx;exact Zo5 I1 ea c n l λu' s2 I2 ru=>⟨v,H1,I2,ru,q⟩
theorem Zje (ha:PE X o ta)(hv:PE X value tv)(hs:swapsWith value (some (.Attribute o f pos')) pos.line X.env=pure false):PS X (.Assign [.Attribute o f pos'] value pos) (sFld X.K ta tv f):=by
 intro pins s σ H D I h;refine plainObj_wpAny_Assign_Attribute (thn (hv pins s σ H _ I h) λu s1 ⟨y,H1,I1,ry,q⟩=>thn (ha pins s1 σ H1 _ I1 q) λov s2 ⟨x,H2,I2,rx,a,C,dx,fs,ex,ea,c,n,l,q2⟩=>?_) hs;subst ex;obtain rfl:ov=Value.ref a:=rx;exact Zov I2 ea c n l ry λs3 I3=>⟨σ,_,I3,q2⟩
theorem methcall_of {pl:Sem Bool}{m:Str}{apos:Pos}{args:List Expr}{pins:List (Addr×Obj)}{s:Shared}{σ:St}{H:Hp}{Q:Value->Shared->Prop}{te:TE}(he:PE X e te)(I:Inv X pins σ H s)(h:te σ H λx H1=>∃ a C dx fs g,x=.ref a/\H1 a=some (.ins C dx fs)/\Cls X.K C/\Meth X.K C m g/\fs.lookup m=none /\
   ∀ s1,Inv X pins σ H1 s1->wpAny (model X.prog X.w) X.A (callWith pos (.ref g) [.ref a] (backTo pos (starEach args X.env)) (backToKw pos (keywordEach [] X.env))) Q X.xe s1)(ht:eval (.Call (.Attribute e m apos) args [] pos) X.env=(do
   let ov <- eval e X.env
   standAt apos.atName
   let (f,first) <- holding [ov] (getMethod ov m pl)
   callWith pos f first (backTo pos (starEach args X.env)) (backToKw pos (keywordEach [] X.env)))):
  wpAny (model X.prog X.w) X.A (eval (.Call (.Attribute e m apos) args [] pos) X.env) Q X.xe s:=by
 refine PySem.W.methodCall_KW (pl:=pl) (thn (he pins s σ H _ I h) λu s1 ⟨x,H1,I1,rx,a,C,dx,fs,g,ex,ea,c,k,l,q⟩=>?_) ht;subst ex;obtain rfl:u=Value.ref a:=rx;exact Zke I1 ea c k l (q s1 I1)
end
section
variable {X:Cx}{pins:List (Addr×Obj)}{σ:St}{H:Hp}{s:Shared}{A:Around}{E:Value->Shared->Prop}{Q:Value->Shared->Prop}{c:Value}{b:Bool}
inductive TyOf (K:Frag) (H:Hp):V->Value->Prop where
 | non:TyOf K H .non (.type "NoneType")
 | bl (x:Bool):TyOf K H (.bl x) (.type "bool")
 | int (i:Int):TyOf K H (.int i) (.type "int")
 | str (x:Str):TyOf K H (.str x) (.type "str")
 | flt (x:UInt64):TyOf K H (.flt x) (.type "float")
 | lst {a:Addr} {xs:List V} (e:H a=some (.lst xs)):TyOf K H (.ref a) (.type "list")
 | frz {a:Addr} {o:Obj} {xs:List V} (e:H a=some (.frz o (.lst xs))):TyOf K H (.ref a) (.type "list")
 | tup {a:Addr} {xs:List V} (e:H a=some (.tup xs)):TyOf K H (.ref a) (.type "tuple")
 | dK {a:Addr} {kvs:List (Key×V)} (e:H a=some (.dK kvs)):TyOf K H (.ref a) (.type "dict")
 | dT {a:Addr} {kvs:List (List Key×V)} (e:H a=some (.dT kvs)):TyOf K H (.ref a) (.type "dict")
 | ins {a C dx:Addr} {fs:List (Str×V)} (e:H a=some (.ins C dx fs)) (cl:Cls K C) (ha:PySem.W.findIn K (.ref C) "__class__" = some (some (.builtin "object.__class__")))
   (hn:PySem.W.specialIn K (.builtin "object.__class__") "__get__" = some (some (.builtin "getset_descriptor.__get__"))) (htk:PySem.W.takesIn K (.builtin "object.__class__")=some true)
   (hm:PySem.W.mroIn K C (.type "object")=some true):TyOf K H (.ref a) (.ref C)
theorem Zrh {x:V}{u t:Value}(I:Inv X pins σ H s)(rx:RelV x u)(ty:TyOf X.K H x t)(e:PySem.W.kitOne X.K t c=some b)(h:∀ tk,Q (.bool b) { s with toks:=tk }):
  wpAny (model X.prog X.w) A (call (.builtin "isinstance") [u,c]) Q E s:=by
 cases ty with
 | non=>cases (show u=Value.none from rx);exact Jb2 PySem.W.kitx_none I.kIn True.intro e (λz=>nomatch z) h
 | bl y=>cases (show u=Value.bool y from rx);exact Jb2 PySem.W.kitx_bool I.kIn True.intro e (λz=>nomatch z) h
 | int i=>obtain⟨t,q⟩:=(show ∃ t,u=Value.int i t from rx);cases q;exact Jb2 PySem.W.kitx_int I.kIn True.intro e (λz=>nomatch z) h
 | str y=>obtain⟨t,q⟩:=(show ∃ t,u=Value.str y t from rx);cases q;exact Jb2 PySem.W.kitx_str I.kIn True.intro e (λz=>nomatch z) h
 | flt y=>obtain⟨t,q⟩:=(show ∃ t,u=Value.float y t from rx);cases q;exact Jb2 PySem.W.kitx_float I.kIn True.intro e (λz=>nomatch z) h
 | @lst a xs ea=>
  cases (show u=Value.ref a from rx);obtain⟨_,_,n,_,h1⟩:=(show ObjOk X.prog X.w H s.heap a (.lst xs) from I.hok a _ ea)
  exact Jb2 PySem.W.kitx_list I.kIn ⟨_,h1,rfl⟩ e (λz=>nomatch z) h
 | @frz a ob xs ea=>
  cases (show u=Value.ref a from rx);obtain⟨_,_,_,n,_,h1⟩:=(show ObjOk X.prog X.w H s.heap a (.frz ob (.lst xs)) from I.hok a _ ea)
  exact Jb2 PySem.W.kitx_list I.kIn ⟨_,h1,rfl⟩ e (λz=>nomatch z) h
 | @tup a xs ea=>
  cases (show u=Value.ref a from rx);obtain⟨_,_,_,p⟩:=(show ObjOk X.prog X.w H s.heap a (.tup xs) from I.hok a _ ea)
  refine Zav p λo h1 h2 _=>?_;clear p;exact Jb2 PySem.W.kitx_tuple I.kIn ⟨o,h1,h2⟩ e (λz=>nomatch z) h
 | @dK a kvs ea=>
  cases (show u=Value.ref a from rx);refine Za2 (show ObjOk X.prog X.w H s.heap a (.dK kvs) from I.hok a _ ea) λ_ _ e9107=>?_;obtain⟨vs,_,p⟩:=e9107;refine Zmd p λo es ep h1 h2 _=>?_;clear p;exact Jb2 PySem.W.kitx_dict I.kIn ⟨o,h1,h2.1⟩ e (λz=>nomatch z) h
 | @dT a kvs ea=>
  cases (show u=Value.ref a from rx);refine Za2 (show ObjOk X.prog X.w H s.heap a (.dT kvs) from I.hok a _ ea) λ_ _ e9108=>?_;obtain⟨xs,_,o,es,ep,h1,h2,_⟩:=e9108;exact Jb2 PySem.W.kitx_dict I.kIn ⟨o,h1,h2.1⟩ e (λz=>nomatch z) h
 | @ins a C dx fs ea cl ha hn htk hm=>
  cases (show u=Value.ref a from rx);refine Zae (Zk1 I.hok ea) λmA O _=>?_;refine Zae O.look λod J _=>?_;exact Jb2 (PySem.W.kitx_own (cl.get _) cl.hd ha hn htk hm) I.kIn J e (λz=>nomatch z) h
end
structure Room (k:Nat)(A:Around):Prop where
 hd:A.handled=none
 dp:A.depth+3*k+205<recursionLimit
 un:A.units+16*k+200<cLine
theorem Room.mono {j k:Nat}{A:Around}(r:Room k A)(h:j<=k):Room j A:=⟨r.hd,by have:=r.dp;omega,by have:=r.un;omega⟩
theorem Room.m {j k:Nat}{A:Around}(r:Room k A)(h:j<=k:=by decide):Room j A:=r.mono h
theorem Room.deeper {k:Nat}{A:Around}(r:Room (k+1) A)(env:Env):Room k (A.deeper env):=
 ⟨r.hd,by have:=r.dp;show A.depth+1+3*k+205<_;omega,by have:=r.un;show A.units+3+16*k+200<_;omega⟩
theorem Zo1 {A:Around}{C:Addr}{us:List Value}{kw:List (Str×Value)}:(A.under (.builtin "type.__call__" ⟨.ref C::us,kw⟩)).depth=A.depth+1:=by
 first|rfl|simp[Around.under,Code.weight,Code.isCreation,Code.isGuard,Code.isCaller,Code.frames,Code.isFrame,guardIds]
theorem Zo0 {A:Around}{C:Addr}{us:List Value}{kw:List (Str×Value)}:(A.under (.builtin "type.__call__" ⟨.ref C::us,kw⟩)).units=A.units+1:=by
 first|rfl|simp[Around.under,Code.cUnits,Code.frames,Code.isFrame]
theorem Room.make {k:Nat}{A:Around}(r:Room (k+1) A)(C:Addr)(us:List Value)(kw:List (Str×Value)):Room k (A.under (.builtin "type.__call__" ⟨.ref C::us,kw⟩)):=
 ⟨r.hd,by have:=r.dp;rw[Zo1];omega,by have:=r.un;rw[Zo0];omega⟩
theorem Room.depth {k:Nat}{A:Around}(r:Room k A):A.depth<recursionLimit:=by have:=r.dp;omega
theorem Room.units {k:Nat}{A:Around}(r:Room k A):A.units+64<cLine:=by have:=r.un;omega
def Zsm:TA:=λ_ H Q=>Q [] H
def Zf4 (ta:TE)(tr:TA):TA:=λσ H Q=>ta σ H λx H1=>tr σ H1 λxs H2=>Q (x::xs) H2
section
variable {X:Cx}{e:Expr}{es:List Expr}{te:TE}{t:TA}{pos:Pos}
theorem Zaa:PA X [] Zsm:=λ_ _ _ _ H Q I h=>Calls.spliced_nil ⟨[],H,I,.nil,h⟩
theorem pa_cons (ha:PE X e te)(hr:PA X es t)(hs:starEach (e::es) X.env=(false,eval e X.env)::starEach es X.env:=by rfl):PA X (e::es) (Zf4 te t):=by
 intro pos pins s σ H Q I h;rw[hs];show wpAny _ _ (spliced ((false,eval e X.env)::backTo pos (starEach es X.env))) _ _ s;refine Calls.spliced_cons (thn (ha pins s σ H _ I h) λu s1 ⟨x,H1,I1,r1,q1⟩=>?_);exact thn (hr pos pins s1 σ H1 _ I1 q1) λus s2 ⟨xs,H2,I2,r2,q2⟩=>⟨x::xs,H2,I2,.cons r1 r2,q2⟩
def tTup (t:TA):TE:=λσ H Q=>t σ H λxs H1=>xs.length<=sizeLine/\∀ p,H1 p=none->Q (.ref p) (upd H1 p (.tup xs))
def tLst (t:TA):TE:=λσ H Q=>t σ H λxs H1=>xs.length<=sizeLine/\∀ p,H1 p=none->Q (.ref p) (upd H1 p (.lst xs))
theorem Zaw {x1}(h:PA X es t):PE X (.Tuple es x1 pos) (tTup t):=by
 intro pins s σ H Q I hq;refine wpAny_Tuple_spliced (thn (h pos pins s σ H _ I hq) λus s1 ⟨xs,H1,I1,r,z,q⟩=>⟨by rw[<- r.length];exact z,?_⟩);have hf:H1 s1.heap.objs.size=none:=I1.hok.fresh (Jag _);refine Zaq (.ref s1.heap.objs.size) (upd H1 s1.heap.objs.size (.tup xs)) ⟨I1.laid (t':=s1.toks) (λb u e=>Jaq _ e) (Jag _) ?_,rfl,q _ hf⟩;exact⟨z,us,r,⟨_,Ja2 _ rfl,rfl,_,rfl⟩⟩
theorem Zbw (h:PA X es t):PE X (.List es pos) (tLst t):=by
 intro pins s σ H Q I hq;refine wpAny_List_spliced (thn (h pos pins s σ H _ I hq) λus s1 ⟨xs,H1,I1,r,z,q⟩=>⟨by rw[<- r.length];exact z,?_⟩);have hf:H1 s1.heap.objs.size=none:=I1.hok.fresh (Jag _);refine Zaq (.ref s1.heap.objs.size) (upd H1 s1.heap.objs.size (.lst xs)) ⟨I1.laid (t':=s1.toks) (λb u e=>Jaq _ e) (Jag _) ?_,rfl,q _ hf⟩;exact⟨z,us,0,r,Ja2 _ rfl⟩
end
abbrev Sp:=List V->Hp->VK->XK->Prop
abbrev CXT:=List Env->Hp->Shared->XK->Value->Shared->Prop
structure Env0 (P:Program)(w:World)(K:Frag)(mg:Str->Option Value)(base:Heap)(A:Around)(outer:List Env)(s:Shared)(H:Hp):Prop where
 frames:A.frames=some outer
 mod:Mod K mg base
 bs:∀ b o,base.get? b=some o->s.heap.get? b=some o/\H b=none
 bsz:base.objs.size<=s.heap.objs.size
 funs:s.heap.FunFrames base outer
 frf:∀ b∈frs outer,H b=none
 hok:HOk P w H s.heap
 bare:AllBare s.gens
def CE (outer:List Env)(P:Program)(w:World)(H:Hp)(s:Shared)(Q:VK)(u:Value)(s':Shared):Prop:=
 ∃ v H',s'.os=s.os/\AllBare s'.gens/\Un (frs outer) [] H H' s.heap s'.heap/\HOk P w H' s'.heap/\RelV v u/\Q v H'
def CR (CX:CXT)(outer:List Env)(P:Program)(w:World)(H:Hp)(s:Shared)(Q:VK)(E:XK)(r:Result)(s':Shared):Prop:=
 match r with
 | .ok (.ret u)=>CE outer P w H s Q u s'
 | .ok _=>False
 | .error e=>CX outer H s E e s'
structure FnOk (P:Program)(w:World)(K:Frag)(mg:Str->Option Value)(base:Heap)(CX:CXT)(k:Nat)(f:Addr)(fd:FuncData)(ps:List Str)(sp:Sp):Prop where
 len:∀ vs H Q E,sp vs H Q E->vs.length=ps.length
 run:∀ (A:Around) (outer:List Env) (s:Shared) (H:Hp) (args:Args) (us:List Value) (vs:List V) (Q:VK) (E:XK),Room k A->Env0 P w K mg base A outer s H->BindsTo s fd args (ps.zip us)->Vals vs us->sp vs H Q E->
  codeAny (model P w) A (.call (.ref f) args) (CR CX outer P w H s Q E) s
theorem Env0.make {P:Program}{w:World}{K:Frag}{mg:Str->Option Value}{base:Heap}{A:Around}{outer:List Env}{s:Shared}{H:Hp}(e:Env0 P w K mg base A outer s H)(C:Addr)(us:List Value)(kw:List (Str×Value)):
  Env0 P w K mg base (A.under (.builtin "type.__call__" ⟨.ref C::us,kw⟩)) outer s H:=⟨by first|exact e.frames|(simpa [Around.under,Code.envs,Code.isFrame,pushEnvs] using e.frames),e.mod,e.bs,e.bsz,e.funs,e.frf,e.hok,e.bare⟩
section
variable {X:Cx}{pins:List (Addr×Obj)}{σ:St}{H:Hp}{s s':Shared}
theorem Inv.env0 (I:Inv X pins σ H s):Env0 X.prog X.w X.K X.mg X.base X.A X.stack s H:=
 ⟨I.ok.frames,I.ok.mod,I.bs,Ja4 I.ok.bsz I.sz,I.stack,I.stkFree,I.hok,I.bare⟩
theorem Inv.after {Q:VK}{u:Value}(I:Inv X pins σ H s)(h:CE X.stack X.prog X.w H s Q u s'):EP X pins σ Q u s':=by
 refine Zh7 h λv H' os bare un hok r q=>?_;clear h;obtain⟨hh,g,d,t,os'⟩:=s';obtain rfl:os'=s.os:=os;exact Zaq v H' ⟨I.call (h':=hh) (g':=g) (d':=d) (t':=t) (ch:=[]) un hok bare (λb z=>absurd z (by simp)),r,q⟩
end
def Zop (sp:Sp)(dvs:List V)(E:XK)(t:TA):TE:=λσ H Q=>t σ H λvs H1=>sp (vs++dvs) H1 Q E
def Zps (C:Addr)(m:Str)(sp:Sp)(dvs:List V)(E:XK)(ta:TE)(t:TA):TE:=λσ H Q=>ta σ H λx H1=>∃ a dx fs,x=.ref a/\H1 a=some (.ins C dx fs)/\fs.lookup m=none /\
 t σ H1 λvs H2=>sp (x::(vs++dvs)) H2 Q E
def Zpt (C:Addr)(sp:Sp)(dvs:List V)(E:XK)(t:TA):TE:=λσ H Q=>t σ H λvs H1=>∀ x dx,H1 x=none->H1 dx=none->dx≠x->
 sp (.ref x::(vs++dvs)) (upd (upd H1 dx (.own x)) x (.ins C dx [])) (λv H2=>v=.non/\Q (.ref x) H2) E
def Binds (K:Frag)(fd:FuncData)(ps:List Str)(ds:List Value):Prop:=
 ∀ (s:Shared) (us:List Value),K.In s.heap->(us++ds).length=ps.length->BindsTo s fd ⟨us,[]⟩ (ps.zip (us++ds))
theorem Binds.all {K:Frag}{fd:FuncData}{ps:List Str}(h:∀ us:List Value,us.length=ps.length->bindArgs fd ⟨us,[]⟩=pure (ps.zip us)):Binds K fd ps []:=λs us _ hl=>by
 rw[List.append_nil] at hl ⊢;exact .of_eq (h us hl)
def Zkh (CX:CXT)(X:Cx)(E:XK):Prop:=∀ (pins:List (Addr×Obj)) (σ:St) (H:Hp) (s:Shared) (e:Value) (s':Shared),Inv X pins σ H s->CX X.stack H s E e s'->X.xe e s'
section
variable {X:Cx}{CX:CXT}{k:Nat}{f C:Addr}{fd:FuncData}{ps:List Str}{sp:Sp}{dvs:List V}{ds:List Value}{E:XK}{x m:Str}{p pos apos:Pos}{e o:Expr}{es:List Expr}{ta:TE}{t:TA}
theorem Zvj {pins:List (Addr×Obj)}{σ:St}{H:Hp}{s:Shared}{Q:VK}{us:List Value}{vs:List V}(F:FnOk X.prog X.w X.K X.mg X.base CX k f fd ps sp)(hr:Room k X.A)(hb:Binds X.K fd ps ds)(hd:Vals dvs ds)(hx:Zkh CX X E)(I:Inv X pins σ H s)(r:Vals vs us)(h:sp (vs++dvs) H Q E):wpAny (model X.prog X.w) X.A (call (.ref f) us) (EP X pins σ Q) X.xe s:=by
 have r2:Vals (vs++dvs) (us++ds):=r.append hd;have hl:(us++ds).length=ps.length:=by rw[<- r2.length];exact F.len _ _ _ _ h
 refine wpAny_call (codeAny_mono (F.run X.A X.stack s H ⟨us,[]⟩ (us++ds) (vs++dvs) Q E hr I.env0 (hb s us I.kIn hl) r2 h) λr s' hq=>?_);cases r with
 | error e=>exact hx pins σ H s e s' I hq
 | ok fl=>
  cases fl with
  | ret u=>exact I.after hq
  | next=>exact False.elim hq
  | brk=>exact False.elim hq
  | cont=>exact False.elim hq
theorem pe_call (F:FnOk X.prog X.w X.K X.mg X.base CX k f fd ps sp)(hr:Room k X.A)(hg:Gl X x)(hm:X.mg x=some (.ref f))(hk:PySem.W.keepIn X.K (.ref f)=true)(hb:Binds X.K fd ps ds)(hd:Vals dvs ds)(hx:Zkh CX X E)(ha:PA X (e::es) t)(hdb:(x == ("__debug__" : Str))=false:=by decide)(he:starEach (e::es) X.env=(false,eval e X.env)::starEach es X.env:=by rfl)(hpl:(backTo pos (starEach es X.env)).any (·.1)=false:=by rfl):
  PE X (.Call (.Name x p) (e::es) [] pos) (Zop sp dvs E t):=by
 intro pins s σ H Q I h;refine Jde (Zm4 I hg hm ?_ hdb);refine Jd5 (h₀:=X.base) I.ok.mod.kin hk (thn (ha pos pins s σ H _ I h) λus s1 ⟨vs,H1,I1,r,q⟩=>⟨I1.kIn,?_⟩) he hpl;exact Zvj F hr hb hd hx I1 r q
theorem Zqn {pl:Sem Bool}(he:PE X o ta)(c:Cls X.K C)(hm:Meth X.K C m f)(F:FnOk X.prog X.w X.K X.mg X.base CX k f fd ps sp)(hr:Room k X.A)(hb:Binds X.K fd ps ds)(hd:Vals dvs ds)(hx:Zkh CX X E)(ha:PA X (e::es) t)(hst:starEach (e::es) X.env=(false,eval e X.env)::starEach es X.env:=by rfl)(hpl:(backTo pos (starEach es X.env)).any (·.1)=false:=by rfl)(ht:eval (.Call (.Attribute o m apos) (e::es) [] pos) X.env=(do
   let ov <- eval o X.env
   standAt apos.atName
   let (f,first) <- holding [ov] (getMethod ov m pl)
   callWith pos f first (backTo pos (starEach (e::es) X.env)) (backToKw pos (keywordEach [] X.env))):=by rfl):
  PE X (.Call (.Attribute o m apos) (e::es) [] pos) (Zps C m sp dvs E ta t):=by
 intro pins s σ H Q I h;refine PySem.W.methodCall_KW (pl:=pl) (thn (he pins s σ H _ I h) λu s1 ⟨x,H1,I1,rx,a,dx,fs,ex,ea,l,q⟩=>?_) ht;subst ex;obtain rfl:u=Value.ref a:=rx;refine Zke I1 ea c hm l ?_;refine Jd5 (first:=[.ref a]) (h₀:=X.base) I.ok.mod.kin hm.kp (thn (ha pos pins s1 σ H1 _ I1 q) λus s2 ⟨vs,H2,I2,r,q2⟩=>⟨I2.kIn,?_⟩) hst hpl;exact Zvj (us:=.ref a::us) (vs:=.ref a::vs) F hr hb hd hx I2 (.cons rfl r) q2
structure Mk (K:Frag)(C f:Addr):Prop where
 makes:PySem.W.makesIn K C=true
 init:PySem.W.findIn K (.ref C) "__init__" = some (some (.ref f))
 fn:PySem.W.isFn K (.ref f)=true
 kp:PySem.W.keepIn K (.ref C)=true
theorem Ztc {pins:List (Addr×Obj)}{σ:St}{H:Hp}{s:Shared}{Q:VK}{us:List Value}{vs:List V}(M:Mk X.K C f)(F:FnOk X.prog X.w X.K X.mg X.base CX k f fd ps sp)(hr:Room (k+1) X.A)(hb:Binds X.K fd ps ds)(hd:Vals dvs ds)(hx:Zkh CX X E)(I:Inv X pins σ H s)(r:Vals vs us)(h:∀ x dx,H x=none->H dx=none->dx≠x->sp (.ref x::(vs++dvs)) (upd (upd H dx (.own x)) x (.ins C dx [])) (λv H2=>v=.non/\Q (.ref x) H2) E):
  wpAny (model X.prog X.w) X.A (call (.ref C) us) (EP X pins σ Q) X.xe s:=by
 have hq:=h (s.heap.objs.size+1) s.heap.objs.size (I.hok.fresh (Nat.le_succ _)) (I.hok.fresh (Jag _)) (Jbr (Jdr _));have I2:=Inv.made (C:=C) I;have r2:Vals (V.ref (s.heap.objs.size+1)::(vs++dvs)) (Value.ref (s.heap.objs.size+1)::(us++ds)):=.cons rfl (r.append hd);have hl:(Value.ref (s.heap.objs.size+1)::us++ds).length=ps.length:=by
  have e:=r2.length;rw[F.len _ _ _ _ hq] at e;exact e.symm
 refine wpAny_call (Zud (f:=f) I.kIn M.makes M.init (Jbw.mp M.fn) (codeAny_mono (F.run _ X.stack _ _ ⟨Value.ref (s.heap.objs.size+1)::us,[]⟩ (Value.ref (s.heap.objs.size+1)::(us++ds)) _ _ E (hr.make C us [])
  (I2.env0.make C us []) (hb _ (Value.ref (s.heap.objs.size+1)::us) I2.kIn hl) r2 hq) λr s' hq'=>?_))
 cases r with
 | error e=>exact hx pins σ _ _ e s' I2 hq'
 | ok fl=>
  cases fl with
  | ret u=>
   refine Zet (I2.after hq') λv H' I3 rv ev q3=>?_;subst ev;exact⟨rv,⟨V.ref (s.heap.objs.size+1),H',I3,rfl,q3⟩⟩
  | next=>exact False.elim hq'
  | brk=>exact False.elim hq'
  | cont=>exact False.elim hq'
theorem pe_make (M:Mk X.K C f)(F:FnOk X.prog X.w X.K X.mg X.base CX k f fd ps sp)(hr:Room (k+1) X.A)(hg:Gl X x)(hm:X.mg x=some (.ref C))(hb:Binds X.K fd ps ds)(hd:Vals dvs ds)(hx:Zkh CX X E)(ha:PA X (e::es) t)(hdb:(x == ("__debug__" : Str))=false:=by decide)(he:starEach (e::es) X.env=(false,eval e X.env)::starEach es X.env:=by rfl)(hpl:(backTo pos (starEach es X.env)).any (·.1)=false:=by rfl):
  PE X (.Call (.Name x p) (e::es) [] pos) (Zpt C sp dvs E t):=by
 intro pins s σ H Q I h;refine Jde (Zm4 I hg hm ?_ hdb);refine Jd5 (h₀:=X.base) I.ok.mod.kin M.kp (thn (ha pos pins s σ H _ I h) λus s1 ⟨vs,H1,I1,r,q⟩=>⟨I1.kIn,?_⟩) he hpl;exact Ztc M F hr hb hd hx I1 r q
end
section
variable {X:Cx}{CX:CXT}{k:Nat}{f C:Addr}{fd:FuncData}{ps ks:List Str}{sp:Sp}{E:XK}{x m:Str}{p pos apos kpos:Pos}{e o:Expr}{es:List Expr}{kws:List Keyword}{te ta:TE}{t tk:TA}{nm:Option Str}
structure KBinds (K:Frag)(fd:FuncData)(ps ks:List Str)(g:List Value->List Value->List Value)(gV:List V->List V->List V):Prop where
 to:∀ (s:Shared) (us ws:List Value),K.In s.heap->(g us ws).length=ps.length->BindsTo s fd ⟨us,ks.zip ws⟩ (ps.zip (g us ws))
 rel:∀ {vs:List V} {us:List Value} {zs:List V} {ws:List Value},Vals vs us->Vals zs ws->Vals (gV vs zs) (g us ws)
variable {g:List Value->List Value->List Value}{gV:List V->List V->List V}
end
structure FnScope (N P:List Str)(sc:Scope):Prop where
 kind:sc.kind=.function
 co:sc.isCoroutine=false
 gen:sc.isGenerator=false
 nd:N.Nodup
 pre:N.take P.length=P
 par:∀ x∈P,sc.names.lookup x=some .local\/sc.names.lookup x=some .cell
 nofree:∀ y∈sc.names,y.2≠.free
theorem Zl8 {kindOf:Str->Option NameKind}{x:Str}:∀ {binds:List (Str×Value)} {m:Str->Option Value},(∀ v,(x,v)∉binds)->bindL kindOf binds m x=m x
 | [],_,_=>rfl
 | (n,v)::r,m,h=>by
  unfold bindL;rw[Zl8 λw hw=>h w (Jbn _ hw)];split
  .have:x≠n:=by rintro rfl;exact h v Jb9
   simp[this]
  .rfl
theorem Zma {kindOf:Str->Option NameKind}{x:Str}:∀ {binds:List (Str×Value)} {m:Str->Option Value},(∀ v,(x,v)∉binds)->bindC kindOf binds m x=m x
 | [],_,_=>rfl
 | (n,v)::r,m,h=>by
  unfold bindC;rw[Zma λw hw=>h w (Jbn _ hw)];split
  .rfl
  .have:x≠n:=by rintro rfl;exact h v Jb9
   simp[this]
theorem Zl9 {kindOf:Str->Option NameKind}{x:Str}{v:Value}:∀ {P:List Str} {vs:List Value} {i:Nat} {m:Str->Option Value},P.Nodup->P[i]?=some x->vs[i]?=some v->kindOf x=some .local->
  bindL kindOf (P.zip vs) m x=some v
 | [],_,_,_,_,h,_,_=>by simp at h
 | _::_,[],_,_,_,_,h,_=>by simp at h
 | p::P,w::vs,0,m,nd,h1,h2,hk=>by
  simp at h1 h2;subst h1;subst h2;show bindL kindOf ((p,w)::P.zip vs) m p=_;unfold bindL;rw[Zl8 λv hv=>(Jd0.mp nd).1 (List.of_mem_zip hv).1,if_pos hk];simp
 | p::P,w::vs,i+1,m,nd,h1,h2,hk=>by
  show bindL kindOf ((p,w)::P.zip vs) m x=_;unfold bindL;exact Zl9 (i:=i) (Jd0.mp nd).2 (by simpa using h1) (by simpa using h2) hk
theorem Zmb {kindOf:Str->Option NameKind}{x:Str}{v:Value}:∀ {P:List Str} {vs:List Value} {i:Nat} {m:Str->Option Value},P.Nodup->P[i]?=some x->vs[i]?=some v->kindOf x≠some .local->
  bindC kindOf (P.zip vs) m x=some v
 | [],_,_,_,_,h,_,_=>by simp at h
 | _::_,[],_,_,_,_,h,_=>by simp at h
 | p::P,w::vs,0,m,nd,h1,h2,hk=>by
  simp at h1 h2;subst h1;subst h2;show bindC kindOf ((p,w)::P.zip vs) m p=_;unfold bindC;rw[Zma λv hv=>(Jd0.mp nd).1 (List.of_mem_zip hv).1,if_neg hk];simp
 | p::P,w::vs,i+1,m,nd,h1,h2,hk=>by
  show bindC kindOf ((p,w)::P.zip vs) m x=_;unfold bindC;exact Zmb (i:=i) (Jd0.mp nd).2 (by simpa using h1) (by simpa using h2) hk
def start (N:List Str)(vs:List V):St:=vs.map some++List.replicate (N.length-vs.length) none
def Zuv (CX:CXT)(P:Program)(w:World)(K:Frag)(mg:Str->Option Value)(base:Heap)(N:List Str)(qual:Str)(scope:Scope)(f:Addr)(cd:Value)(A:Around)(outer:List Env)(s:Shared)(H:Hp)(E:XK):Cx where
 prog:=P
 w:=w
 K:=K
 mg:=mg
 base:=base
 A:=A.deeper (envOfC qual scope s.heap.objs.size f cd)
 N:=N
 s₀:=s
 H₀:=H
 env:=envOfC qual scope s.heap.objs.size f cd
 outer:=outer
 stack:=envOfC qual scope s.heap.objs.size f cd::outer
 ex:=[]
 calm:=true
 fn:=λ_=>true
 pn:=[]
 xe:=λe s'=>wpAny (model P w) (A.deeper (envOfC qual scope s.heap.objs.size f cd)) (leaving (envOfC qual scope s.heap.objs.size f cd) e) (λ_ s''=>CX outer H s E e s'') (λe' s''=>CX outer H s E e' s'') s'
theorem Zoj {sc:Scope}{n:Nat}{x:Str}(h:sc.names.lookup x=some .cell):∃ c,(cellsFrom n sc.names []).lookup x=some c:=by
 have q:=Jcs sc.names n [] (.inl h);exact Jdc.mp q
theorem Zrm {CX:CXT}{P:Program}{w:World}{K:Frag}{mg:Str->Option Value}{base:Heap}{N ps:List Str}{qual:Str}{scope:Scope}{f:Addr}{cd:Value}{A:Around}{outer:List Env}{s s1:Shared}{H:Hp}{E:XK}{us:List Value}{vs:List V}(S:FnScope N ps scope)(hd:A.handled=none)(e0:Env0 P w K mg base A outer s H)(hl:vs.length=ps.length)(r:Vals vs us)(x:InCallC s s.heap.objs.size (bindL (envOfC qual scope s.heap.objs.size f cd).kindOf (ps.zip us) λ_=>none) (cellsFrom (s.heap.objs.size+1) scope.names []) (bindC (envOfC qual scope s.heap.objs.size f cd).kindOf (ps.zip us) λ_=>none) s1):
  Inv (Zuv CX P w K mg base N qual scope f cd A outer s H E) [] (start N vs) H s1:=by
 have hpl:ps.length<=N.length:=by have:=Jdl List.length S.pre;rw[Jds] at this;omega
 refine Zbd x.done λh1 tk e9109 hk=>?_;obtain rfl:=e9109;have noA:∀ b:Addr,b∉(Zuv CX P w K mg base N qual scope f cd A outer s H E).ex:=λb z=>absurd (show b∈([]:List Addr) from z) (by simp);refine⟨⟨e0.mod,S.kind,rfl,rfl,Jag _,λy z c h1 h2=>?_,λy hy=>?_,λy c _ h=>?_,λ_=>hd,Around.frames_deeper e0.frames,.inr ⟨rfl,rfl⟩,λb z=>absurd z (noA b),e0.bs,e0.bsz,λb _ _=>noA b,λb z=>absurd z (noA b),e0.funs,e0.frf,⟨_,_,rfl,S.gen,S.co,rfl,rfl⟩⟩,
  rfl,e0.bare,Un.kept hk,⟨_,x.toInCall.ns,λi y v h1 h2 h3=>?_⟩,λy c h=>⟨_,x.cell y c h⟩,e0.hok.fresh (Jag _),λy c h=>?_,λp hp=>absurd (show p∈([]:List (Addr×Obj)) from hp) (by simp),e0.hok.kept hk,?_⟩
 .exact name_of_addr x.apart (Jbx h1) (Jbx h2)
 .have hy:scope.names.lookup y=some .cell\/scope.names.lookup y=some .free:=hy;rcases hy with hy|hy
  .exact Zoj hy
  .exact absurd rfl (S.nofree _ (Jbx hy))
 .exact Jbv (x.above y c (Jbx h))
 .have hi:i<vs.length:=by
   unfold start at h2;by_cases hi:i<vs.length
   .exact hi
   .rw [Jam (by simpa using hi)] at h2;rw[Jby] at h2;split at h2 <;> cases h2
  have ha:vs[i]?=some v:=by
   unfold start at h2;rw[Jao (by simpa using hi),Jad] at h2;cases e:vs[i]? with
   | none=>rw[e] at h2;cases h2
   | some a=>rw[e] at h2;cases h2;rfl
  refine Zae (r.get ha) λu hu rv=>?_;have hp:ps[i]?=some y:=by
   rw[<- S.pre,List.getElem?_take_of_lt ∅];exact h1
  have ndP:ps.Nodup:=by rw[<- S.pre];exact S.nd.sublist (List.take_sublist _ _)
  refine⟨u,rv,?_⟩;rcases S.par y (Jae hp) with k|k
  .exact .inl ⟨k,Zl9 ndP hp hu k⟩
  .obtain ⟨c,e⟩:=Zoj (n:=s.heap.objs.size+1) k;refine .inr ⟨.inl k,c,e,?_⟩;have q:=x.cell y c e;rw[Zmb ndP hp hu (by show scope.names.lookup y≠_;rw[k];decide)] at q;exact q
 .exact e0.hok.fresh (Jbv (x.above y c (Jbx h)))
 .unfold start;show _=N.length;rw[Jaj,Jab,Ja8];omega
theorem fn_of {CX:CXT}{P:Program}{w:World}{K:Frag}{mg:Str->Option Value}{base:Heap}{k:Nat}{f:Addr}{name qual:Str}{params:Arguments}{body:List Stmt}{scope:Scope}{dV kV doc pm cdv ct oc:Value}{an od:Option Addr}{osl:Array (Option Value)}{N ps:List Str}{sp:Sp}(lk:K.lookup f=some ⟨oc,od,.func (PySem.W.fnOf name qual params body scope dV kV doc pm an cdv ct),osl⟩)(hcd:PySem.W.codeIn K cdv qual=true)(S:FnScope N ps scope)(len:∀ vs H Q E,sp vs H Q E->vs.length=ps.length)(hbody:∀ (A:Around) (outer:List Env) (s:Shared) (H:Hp) (vs:List V) (Q:VK) (E:XK),Room k (A.deeper (envOfC qual scope s.heap.objs.size f cdv))->sp vs H Q E->
   ∃ t,PSs (Zuv CX P w K mg base N qual scope f cdv A outer s H E) body t/\t { nx:=λ_ H'=>Q .non H',rt:=Q } (start N vs) H):
  FnOk P w K mg base CX (k+1) f (PySem.W.fnOf name qual params body scope dV kV doc pm an cdv ct) ps sp:=by
 refine⟨len,λA outer s H args us vs Q E hr e0 hb r hsp=>?_⟩;have hl:=len _ _ _ _ hsp;have KX:K.In s.heap:=e0.mod.kin.keeps λb o e=>(e0.bs b o e).1;have lim:s.heap.NoLimit:=e0.mod.nolimit.keeps λb o e=>(e0.bs b o e).1;have hkind:∀ y∈ps.zip us,scope.names.lookup y.1=some .local\/(scope.names.lookup y.1=some .cell/\((cellsFrom (s.heap.objs.size+1) scope.names []).lookup y.1).isSome=true):=λ⟨n,v⟩ hy=>by
  rcases S.par n (List.of_mem_zip hy).1 with q|q
  .exact .inl q
  .exact .inr ⟨q,Jcs _ _ _ (.inl q)⟩
 refine codeAny_call_function hr.depth (KX _ _ lk) rfl S.co S.gen rfl (PySem.W.codeRec_of KX hcd) (hb _ _ _ _ ?_);refine wpAny_newFunctionEnv_cells S.kind hkind λenv he s1 x=>?_;subst he;refine⟨lim.keeps x.toInCall.keep,codeAny_func ?_⟩;refine Zae (hbody A outer s H vs Q E (hr.deeper _) hsp) λt ht hq=>?_;have I:Inv (Zuv CX P w K mg base N qual scope f cdv A outer s H E) [] (start N vs) H s1:=Zrm S hr.hd e0 hl r x;refine Jci (ht [] s1 (start N vs) H _ I hq) (λfl s' hs=>?_) λe s' hs=>hs;have fin:∀ {σ':St} {H':Hp} {v:V} {u:Value},Inv (Zuv CX P w K mg base N qual scope f cdv A outer s H E) [] σ' H' s'->RelV v u->Q v H'->CE outer P w H s Q u s':=
  λ{σ' H' v u} J rv q=>⟨v,H',J.os,J.bare,J.base,J.hok,rv,q⟩
 cases fl with
 | ret u=>
  refine Zmd hs λv σ' H' J rv q=>?_;clear hs;exact fin J rv q
 | next=>
  refine Zbd hs λσ' H' J q=>?_;clear hs;exact fin (v:=V.non) (u:=Value.none) J rfl q
 | brk=>
  refine Zbd hs λ_ _ _ q=>?_;clear hs;exact False.elim q
 | cont=>
  refine Zbd hs λ_ _ _ q=>?_;clear hs;exact False.elim q
section
variable {X:Cx}{x:Str}{p pos:Pos}{e:Expr}{es:List Expr}{t:TA}{id T:String}{r:List V->Hp->VK->Prop}
def tCB (r:List V->Hp->VK->Prop)(t:TA):TE:=λσ H Q=>t σ H λvs H1=>r vs H1 Q
theorem Ztk (hc:Zhm X (.builtin id) r)(hg:Gl X x)(hm:X.mg x=none)(hv:bootBuiltins x=some (.builtin id))(ha:PA X (e::es) t)(hn:x ≠ "__name__" := by decide)(hdb:(x == ("__debug__" : Str))=false:=by decide)(he:starEach (e::es) X.env=(false,eval e X.env)::starEach es X.env:=by rfl)(hpl:(backTo pos (starEach es X.env)).any (·.1)=false:=by rfl):PE X (.Call (.Name x p) (e::es) [] pos) (tCB r t):=by
 intro pins s σ H Q I h;refine Jde (Zjj I hg hm hv ?_ hn hdb);exact PyProof.Rows.callWith_builtin1 (thn (ha pos pins s σ H _ I h) λus s1 ⟨vs,H1,I1,r1,q1⟩=>hc pins s1 σ H1 vs us Q I1 r1 q1) he hpl
theorem Zqp (hc:Zhm X (.type T) r)(hg:Gl X x)(hm:X.mg x=none)(hv:bootBuiltins x=some (.type T))(ha:PA X (e::es) t)(hn:x ≠ "__name__" := by decide)(hdb:(x == ("__debug__" : Str))=false:=by decide)(he:starEach (e::es) X.env=(false,eval e X.env)::starEach es X.env:=by rfl)(hpl:(backTo pos (starEach es X.env)).any (·.1)=false:=by rfl):PE X (.Call (.Name x p) (e::es) [] pos) (tCB r t):=by
 intro pins s σ H Q I h;refine Jde (Zjj I hg hm hv ?_ hn hdb);exact Jb6 (thn (ha pos pins s σ H _ I h) λus s1 ⟨vs,H1,I1,r1,q1⟩=>hc pins s1 σ H1 vs us Q I1 r1 q1) he hpl
end
end L2
namespace HT
open PySem PyProof.Rows
section
open PySem.SeqAt
open PySem.AutoSeq1 (wpAny_loadPart')
open PySem.MeetsSeq PySem.MeetsSeq2 PySem.MeetsSeq3
end
section
variable {prog:Program}{w:World}{A:Around}{E:Value->Shared->Prop}{s:Shared}
def sIx (n d:Nat):Option Int->Nat
 | none=>d
 | some v=>if v<0 then (v+(n:Int)).toNat else min v.toNat n
end
end HT
namespace L2
open PySem PySem.Spec PyProof.Rows
abbrev TO:=St->Hp->(Option Int->Hp->Prop)->Prop
def PO (X:Cx)(e:Option Expr)(t:TO):Prop:=
 ∀ (pins:List (Addr×Obj)) (s:Shared) (σ:St) (H:Hp) (Q:Option Int->Hp->Prop),Inv X pins σ H s->t σ H Q->
  wpAny (model X.prog X.w) X.A (evalPart e X.env) (λu s'=>∃ o H',Inv X pins σ H' s'/\IsPart u o/\Q o H') X.xe s
def Zmh:TO:=λ_ H Q=>Q none H
def tPart (t:TE):TO:=λσ H Q=>t σ H λx H1=>∃ i,x=.int i/\Q (some i) H1
section
variable {X:Cx}{e:Expr}{te:TE}{lo hi:Option Expr}{tl th:TO}{pos p2:Pos}
theorem po_none:PO X none Zmh:=by
 intro pins s σ H Q I h;rw[evalPart_none];exact Ja9 ⟨none,H,I,.none,h⟩
theorem Zmw (h:PE X e te):PO X (some e) (tPart te):=by
 intro pins s σ H Q I hw;rw[evalPart_some];refine thn (h pins s σ H _ I hw) λu s1 ⟨x,H1,I1,r1,q1⟩=>?_;refine Zae q1 λi e9110 q=>?_;clear q1;obtain rfl:=e9110;obtain⟨t,rfl⟩:=r1;exact Zaq (some i) H1 ⟨I1,.int i t,q⟩
def SlR (X:Cx)(r:V->Option Int->Option Int->Hp->VK->Prop):Prop:=
 ∀ (pins:List (Addr×Obj)) (s:Shared) (σ:St) (H:Hp) (x:V) (v vl vu:Value) (lo hi:Option Int) (sl:Addr) (Q:VK),Inv X pins σ H s->RelV x v->s.heap.IsSliceOf sl vl vu .none->IsPart vl lo->IsPart vu hi->r x lo hi H Q->
  ∃ T id,typeLookup (.type T) "__getitem__" = pure (some (.builtin id))/\s.TypeIs v T/\wpAny (model X.prog X.w) X.A (getItem v (.ref sl)) (EP X pins σ Q) X.xe s
def tSl (r:V->Option Int->Option Int->Hp->VK->Prop)(te:TE)(tl th:TO):TE:=λσ H Q=>te σ H λx H1=>tl σ H1 λl H2=>th σ H2 λu H3=>r x l u H3 Q
theorem Zny {r:V->Option Int->Option Int->Hp->VK->Prop}(hr:SlR X r)(he:PE X e te)(hl:PO X lo tl)(hu:PO X hi th):PE X (.Subscript e (.Slice lo hi none p2) pos) (tSl r te tl th):=by
 intro pins s σ H Q I h;refine Subscript_ (thn (he pins s σ H _ I h) λv s1 ⟨x,H1,I1,r1,q1⟩=>?_);refine wpAny_Slice (thn (hl pins s1 σ H1 _ I1 q1) λvl s2 ⟨l,H2,I2,pl,q2⟩=>thn (hu pins s2 σ H2 _ I2 q2) λvu s3 ⟨u,H3,I3,pu,q3⟩=>?_);rw[evalPart_none];refine Ja9 ?_;have I4:Inv X pins σ H3 { s3 with heap:=s3.heap.push { cls:=.type "slice",data:=.fields #[vl,vu,.none] } }:=I3.kept (t':=s3.toks) λb ob q=>Jaq _ q;refine Zbt (hr pins { s3 with heap:=s3.heap.push { cls:=.type "slice",data:=.fields #[vl,vu,.none] } } σ H3 x v vl vu l u s3.heap.objs.size Q I4 r1 (Heap.IsSliceOf.new ..) pl pu q3) λT id hT ht hg=>?_;show wpAny (model X.prog X.w) X.A (subscriptTail e (.Slice lo hi none p2) v (.ref s3.heap.objs.size)) (EP X pins σ Q) X.xe { s3 with heap:=s3.heap.push { cls:=.type "slice",data:=.fields #[vl,vu,.none] } };exact tail_any (ops:=[.ref s3.heap.objs.size,v]) ht hT hg (by with_unfolding_all rfl)
def Zux (xs:List V)(lo hi:Option Int):List V:=(xs.drop (HT.sIx xs.length 0 lo)).take (HT.sIx xs.length xs.length hi-HT.sIx xs.length 0 lo)
theorem Zm8 (xs:List V)(lo hi:Option Int):(Zux xs lo hi).length<=xs.length:=by
 unfold Zux;rw[Jds,Jcp];omega
end
def ixN (n:Nat)(i:Int):Option Nat:=if 0<=i then (if i<n then some i.toNat else none) else if -(n:Int)<=i then some (i+n).toNat else none
def atI {α:Type}(xs:List α)(i:Int):Option α:=(ixN xs.length i).bind λj=>xs[j]?
theorem Zre {n:Nat}{i:Int}{j:Nat}(h:ixN n i=some j):seqIndex? i n=some j/\j<n/\-(n:Int)<=i/\i<n:=by
 unfold ixN at h;by_cases h0:0<=i
 .rw [if_pos h0] at h;by_cases h1:i<n
  .rw [if_pos h1] at h;have e:i.toNat=j:=Jbp h;exact⟨by rw[seqIndex_of h0 h1,e],∅,∅,h1⟩
  .rw [if_neg h1] at h;cases h
 .rw [if_neg h0] at h;by_cases h1:-(n:Int)<=i
  .rw [if_pos h1] at h;have e:(i+n).toNat=j:=Jbp h;exact⟨by rw[seqIndex_neg ∅ h1,e],∅,h1,∅⟩
  .rw [if_neg h1] at h;cases h
theorem Zsj {α:Type}{xs:List α}{i:Int}{v:α}(h:atI xs i=some v):∃ j,seqIndex? i xs.length=some j/\xs[j]?=some v/\j<xs.length/\-(xs.length:Int)<=i/\i<xs.length:=by
 unfold atI at h;cases e:ixN xs.length i with
 | none=>rw[e] at h;cases h
 | some j=>
  rw[e] at h;refine Zcb (Zre e) λh1 h2 h3 h4=>?_;exact⟨j,h1,h,h2,h3,h4⟩
theorem atI_nat {α:Type}{xs:List α}{j:Nat}{v:α}(h:xs[j]?=some v):atI xs (j:Int)=some v:=by
 have hj:j<xs.length:=(Jaf.mp h).1;have e:ixN xs.length (j:Int)=some j:=by
  unfold ixN;rw[if_pos ∅,if_pos ∅];simp
 unfold atI;rw[e];exact h
theorem Zu4 {α:Type}(xs:List α)(v:α):atI (xs++[v]) (-1)=some v:=by
 have hl:(xs++[v]).length=xs.length+1:=by simp
 have e:ixN (xs++[v]).length (-1)=some xs.length:=by
  unfold ixN;rw[hl,if_neg ⇑0,if_pos ∅];congr 1;omega
 unfold atI;rw[e];show (xs++[v])[xs.length]?=some v;simp
def PlainIx (b:Expr):Prop:=∀ o i,subscripted b false o i=operate [o,i] (getItem o i)
def IxR (X:Cx)(r:R2):Prop:=
 ∀ (value slice:Expr) (pins:List (Addr×Obj)) (s:Shared) (σ:St) (H:Hp) (x y:V) (v u:Value) (Q:VK),Inv X pins σ H s->RelV x v->RelV y u->r x y H Q->
  subscripted slice false v u=operate [v,u] (getItem v u)->wpAny (model X.prog X.w) X.A (subscriptTail value slice v u) (EP X pins σ Q) X.xe s
def MtR (X:Cx)(id:String)(r:V->List V->Hp->VK->Prop):Prop:=
 ∀ (pins:List (Addr×Obj)) (s:Shared) (σ:St) (H:Hp) (x:V) (xs:List V) (v:Value) (us:List Value) (Q:VK),Inv X pins σ H s->RelV x v->Vals xs us->r x xs H Q->
  wpAny (model X.prog X.w) X.A (call (.builtin id) (v::us)) (EP X pins σ Q) X.xe s
section
variable {X:Cx}{a b:Expr}{ta tb:TE}{pos:Pos}
theorem pe_ix {r:R2}(hr:IxR X r)(ha:PE X a ta)(hb:PE X b tb)(hs:PlainIx b):PE X (.Subscript a b pos) (tOp r ta tb):=by
 intro pins s σ H Q I h;exact Subscript_ (binT ha hb I h λv u s2 x y H2 I2 rx ry q=>hr a b pins s2 σ H2 x y v u Q I2 rx ry q (hs _ _))
def rIxL (K:Frag):R2:=λx y H Q=>∃ p xs i v,x=.ref p/\y=.int i/\SqL K H p xs/\atI xs i=some v/\Q v H
def rIxT (K:Frag):R2:=λx y H Q=>∃ p xs i v,x=.ref p/\y=.int i/\SqT K H p xs/\atI xs i=some v/\Q v H
theorem Zar:IxR X (rIxL X.K):=by
 intro value slice pins s σ H x y v u Q I rx ry h hs;refine Zb8 h λp xs i z e9120 e9121 hq e9122=>?_;clear h;obtain rfl:=e9120;obtain rfl:=e9121;obtain⟨he,q⟩:=e9122;cases rx;obtain⟨t,rfl⟩:=ry;refine Zav (I.list hq) λits r pl hz=>?_;refine Zpj (Zsj he) λj h1 h2 h3 h4 h5=>?_;refine Zae (r.get h2) λw ew rw'=>?_;have hl:=r.length;have hn:=Zlw;have fin:EP X pins σ Q w s:=⟨z,H,I,rw',q⟩
 by_cases h0:0<=i
 .have hj:i.toNat=j:=by
   rw[seqIndex_of h0 h5] at h1;exact Jbp h1
  exact item_listR pl.isList h0 ∅ (by rw[hj];simpa using ew) fin hs
 .have hj:(i+(its.toArray.size:Int)).toNat=j:=by
   rw[seqIndex_neg ∅ h4] at h1;rw[Jaw,<- hl];exact Jbp h1
  exact subscriptTail_builtinR (x:=w) pl.isList.typeIs slot_list_getitem.lookup
   (wpAny_getItem_list_neg (Q:=λr s'=>r=w/\EP X pins σ Q r s') pl.isList ∅ (by rw[Jaw] <;> omega) ∅ (by rw[hj];simpa using ew) ⟨rfl,fin⟩) hs
theorem Zat:IxR X (rIxT X.K):=by
 intro value slice pins s σ H x y v u Q I rx ry h hs;refine Zb8 h λp xs i z e9123 e9124 hq e9125=>?_;clear h;obtain rfl:=e9123;obtain rfl:=e9124;obtain⟨he,q⟩:=e9125;cases rx;obtain⟨t,rfl⟩:=ry;refine Zav (I.tuple hq) λits r pl hz=>?_;refine Zpj (Zsj he) λj h1 h2 h3 h4 h5=>?_;refine Zae (r.get h2) λw ew rw'=>?_;have hl:=r.length;have hn:=Zlw;have fin:EP X pins σ Q w s:=⟨z,H,I,rw',q⟩
 exact subscriptTail_builtinR (x:=w) pl.typeIs slot_tuple_getitem.lookup
  (getItem_tuple (j:=j) (Q:=λr s'=>r=w/\EP X pins σ Q r s') pl ∅ ∅ (by rw[Jaw,<- hl];exact h1) (by simpa using ew) ⟨rfl,fin⟩) hs
theorem Zoz (its:List Value)(n j:Nat)(u:Value):Obj.mapSeq (·.setIfInBounds j u) { cls:=.type "list",data:=.seq its.toArray n }={ cls:=.type "list",data:=.seq (its.set j u).toArray n }:=by
 simp[Obj.mapSeq]
theorem Inv.lst {pins:List (Addr×Obj)}{σ:St}{H:Hp}{s:Shared}{p:Addr}{xs:List V}(I:Inv X pins σ H s)(h:H p=some (.lst xs)):
  ∃ (its:List Value) (n:Nat),Vals xs its/\s.heap.get? p=some { cls:=.type "list",data:=.seq its.toArray n }/\xs.length<=sizeLine:=by
 obtain⟨z,its,n,r,e⟩:=I.hok p _ h;exact Zaq its n ⟨r,e,z⟩
theorem Inv.lstUpd {pins:List (Addr×Obj)}{σ:St}{H:Hp}{s:Shared}{p:Addr}{xs ys:List V}{its its':List Value}{n n':Nat}{f:Obj->Obj}(I:Inv X pins σ H s)(h:H p=some (.lst xs))(ho:s.heap.get? p=some { cls:=.type "list",data:=.seq its.toArray n })(hf:f { cls:=.type "list",data:=.seq its.toArray n }={ cls:=.type "list",data:=.seq its'.toArray n' })(r:Vals ys its')(hz:ys.length<=sizeLine)(t:Nat):
  Inv X pins σ (upd H p (.lst ys)) { s with heap:=s.heap.update p f,toks:=t }:=by
 have e:(s.heap.update p f).get? p=some { cls:=.type "list",data:=.seq its'.toArray n' }:=by
  rw[Heap.get?_update_self f ho (by rw[hf] <;> rfl),hf]
 refine I.write (x:=p) (e:=p) (by rw[h];trivial) (.inl rfl) (λb u hb q=>(Heap.get?_update_other _ _ (Jdq hb)).trans q) ⟨_,e⟩ ?_;exact⟨hz,its',n',r,e⟩
def rSetL:V->V->V->Hp->(Hp->Prop)->Prop:=λo i v H Q=>∃ p xs k j,o=.ref p/\i=.int k/\H p=some (.lst xs)/\ixN xs.length k=some j/\Q (upd H p (.lst (xs.set j v)))
theorem Zb7:PSet X rSetL:=by
 intro pins s σ H o i v ov iv u Q I ro ri rv h;refine Zb8 h λp xs k j e9129 e9130 hp e9131=>?_;clear h;obtain rfl:=e9129;obtain rfl:=e9130;obtain⟨hj,q⟩:=e9131;cases ro;obtain⟨t,rfl⟩:=ri;refine Zbt (I.lst hp) λits n r ho hz=>?_;refine Zcb (Zre hj) λh1 h2 h3 h4=>?_;have hl:=r.length;have hn:=Zlw;have I':Inv X pins σ (upd H p (.lst (xs.set j v))) { s with heap:=s.heap.update p (Obj.mapSeq (·.setIfInBounds j u)) }:=
  I.lstUpd hp ho (Zoz its n j u) (r.set rv j) (by rw[Jav];exact hz) s.toks
 by_cases h0:0<=k
 .have hk:k.toNat=j:=by
   rw[seqIndex_of h0 h4] at h1;exact Jbp h1
  exact PySem.W.ki_setAt ho h0 ∅ (by rw[Jaw,<- hl];exact h4) (by rw[hk];exact⟨_,I',q⟩)
 .have hk:(k+(its.toArray.size:Int)).toNat=j:=by
   rw[seqIndex_neg ∅ h3] at h1;rw[Jaw,<- hl];exact Jbp h1
  exact PySem.W.ki_setBack ho ∅ (by rw[Jaw,<- hl];exact h3) ∅ (by rw[hk];exact⟨_,I',q⟩)
theorem Zlh (lo hi:Option Int)(n:Nat):(sliceBounds lo hi none n).1=((HT.sIx n 0 lo:Nat):Int)/\(sliceBounds lo hi none n).2.1=((HT.sIx n n hi:Nat):Int)/\(sliceBounds lo hi none n).2.2=1:=by
 refine⟨?_,?_,rfl⟩
 .cases lo with
  | none=>simp[sliceBounds,HT.sIx]
  | some i=>
   simp only[sliceBounds,HT.sIx,Option.getD_none,show (1:Int) > 0 by decide,Jca];by_cases h:i<0
   .simp only [h,Jca] <;> omega
   .simp only [h,if_false] <;> omega
 .cases hi with
  | none=>simp[sliceBounds,HT.sIx]
  | some i=>
   simp only[sliceBounds,HT.sIx,Option.getD_none,show (1:Int) > 0 by decide,Jca];by_cases h:i<0
   .simp only [h,Jca] <;> omega
   .simp only [h,if_false] <;> omega
theorem Zkm (its:List Value)(lo hi:Option Int):slicePick its.toArray lo hi none=((its.drop (HT.sIx its.length 0 lo)).take (HT.sIx its.length its.length hi-HT.sIx its.length 0 lo)).toArray:=by
 refine Za2 (Zlh lo hi its.toArray.size) λh1 h2 h3=>?_;unfold slicePick;rw[h1,h2,h3];simp only[sliceRange_one,pick_run,Jaw] <;> rfl
def rSlL (K:Frag):V->Option Int->Option Int->Hp->VK->Prop:=λx lo hi H Q=>∃ a xs,x=.ref a/\SqL K H a xs/\∀ p,H p=none->Q (.ref p) (upd H p (.lst (Zux xs lo hi)))
theorem Zp6:SlR X (rSlL X.K):=by
 intro pins s σ H x v vl vu lo hi sl Q I rx hs pl pu h;refine Zbt h λa xs e9132 hx q=>?_;clear h;obtain rfl:=e9132;cases rx;refine Zav (I.list hx) λits r ht hz=>?_;have hlen:=r.length;refine Zaq ("list") _ ⟨slot_list_getitem.lookup,ht.isList.typeIs,?_⟩;refine wpAny_getItem_list_slice ht.isList hs pl pu .none (by simp) ?_ (by rw[Jaw] <;> omega);rw[Zkm,<- hlen];refine Zaq (.ref s.heap.objs.size) _ ⟨I.laid (t':=s.toks) (o:=.lst (Zux xs lo hi)) (λb ob q=>Jaq _ q) (Jag _) ?_,rfl,q _ (I.hok.fresh (Jag _))⟩;exact⟨Ja4 (Zm8 xs lo hi) hz,_,0,(r.drop (HT.sIx xs.length 0 lo)).take (HT.sIx xs.length xs.length hi-HT.sIx xs.length 0 lo),Ja2 _ rfl⟩
def Zo6:V->Bool
 | .non=>true
 | .bl _=>true
 | .int _=>true
 | .str _=>true
 | _=>false
def eqV:V->V->Bool
 | .non,.non=>true
 | .bl a,.bl b=>a == b
 | .bl a,.int b=>(if a then 1 else 0) == b
 | .int a,.bl b=>a == (if b then 1 else 0)
 | .int a,.int b=>a == b
 | .str a,.str b=>a == b
 | _,_=>false
theorem eqAt_V {A:Around}{s:Shared}{y x:V}{u v:Value}(ry:RelV y u)(rx:RelV x v)(fy:Zo6 y=true)(fx:Zo6 x=true):SeqAt.EqAt A s u v (eqV y x):=by
 cases y with
 | non=>
  cases ry;cases x with
  | non=>cases rx;exact SeqAt.EqAt.same _
  | bl b=>cases rx;exact SeqAt.EqAt.none_bool b
  | int b=>obtain⟨t,rfl⟩:=rx;exact SeqAt.EqAt.none_int b t
  | str b=>obtain⟨t,rfl⟩:=rx;exact SeqAt.EqAt.none_str b t
  | _=>exact absurd (show false=true from fx) Jax
 | bl a=>
  cases ry;cases x with
  | non=>cases rx;exact SeqAt.EqAt.bool_none a
  | bl b=>cases rx;exact SeqAt.EqAt.bool_bool a b
  | int b=>obtain⟨t,rfl⟩:=rx;exact SeqAt.EqAt.bool_int a b t
  | str b=>obtain⟨t,rfl⟩:=rx;exact SeqAt.EqAt.bool_str a b t
  | _=>exact absurd (show false=true from fx) Jax
 | int a=>
  obtain⟨t',rfl⟩:=ry;cases x with
  | non=>cases rx;exact SeqAt.EqAt.int_none a t'
  | bl b=>cases rx;exact SeqAt.EqAt.int_bool a t' b
  | int b=>obtain⟨t,rfl⟩:=rx;exact SeqAt.EqAt.int_int a t' b t
  | str b=>obtain⟨t,rfl⟩:=rx;exact SeqAt.EqAt.int_str a t' b t
  | _=>exact absurd (show false=true from fx) Jax
 | str a=>
  obtain⟨t',rfl⟩:=ry;cases x with
  | non=>cases rx;exact SeqAt.EqAt.str_none a t'
  | bl b=>cases rx;exact SeqAt.EqAt.str_bool a t' b
  | int b=>obtain⟨t,rfl⟩:=rx;exact SeqAt.EqAt.str_int a t' b t
  | str b=>obtain⟨t,rfl⟩:=rx;exact SeqAt.EqAt.str_str a t' b t
  | _=>exact absurd (show false=true from fx) Jax
 | _=>exact absurd (show false=true from fy) Jax
def inV (x:V)(xs:List V):Bool:=xs.any λy=>eqV y x
def rIn (K:Frag)(neg:Bool):R2:=λx y H Q=>∃ p xs,y=.ref p/\(SqL K H p xs\/SqT K H p xs)/\Zo6 x=true/\xs.all Zo6=true/\Q (.bl (if neg then !inV x xs else inV x xs)) H
theorem Zau:Zhm X (.builtin "len") (λxs H Q=>∃ p ys,xs=[.ref p]/\(SqL X.K H p ys\/SqT X.K H p ys)/\Q (.int ys.length) H):=by
 intro pins s σ H xs us Q I r h;refine Zbt h λp ys e9137 hq q=>?_;clear h;obtain rfl:=e9137;refine Zae (Zme r) λu e9138 rx=>?_;obtain rfl:=e9138;cases rx;have hn:=Zlw;rcases hq with hq|hq
 .refine Zav (I.list hq) λits r' pl hz=>?_;have hlen:=r'.length;exact Calls.call_len_list pl.isList (by simp only[Jaw] <;> omega) ⟨.int ys.length,H,I.tok _,⟨s.toks+1,by rw[Jaw,hlen]⟩,q⟩
 .refine Zav (I.tuple hq) λits r' pl hz=>?_;have hlen:=r'.length;exact len_tuple pl (by simp only[Jaw] <;> omega) ⟨.int ys.length,H,I.tok _,⟨s.toks+1,by rw[Jaw,hlen]⟩,q⟩
theorem Zbz:Zhm X (.type "list") (λxs H Q=>∃ p ys,xs=[.ref p]/\(SqL X.K H p ys\/SqT X.K H p ys)/\∀ l,H l=none->Q (.ref l) (upd H l (.lst ys))):=by
 intro pins s σ H xs us Q I r h;refine Zbt h λp ys e9142 hq q=>?_;clear h;obtain rfl:=e9142;refine Zae (Zme r) λu e9143 rx=>?_;obtain rfl:=e9143;cases rx;have fin:∀ (its:List Value),Vals ys its->ys.length<=sizeLine->∀ (h':Heap) (c':Nat),(∀ b o',s.heap.get? b=some o'->h'.get? b=some o')->
   h'.get? s.heap.objs.size=some { cls:=.type "list",dict:=none,data:=.seq its.toArray c',slots:=#[] }->EP X pins σ Q (.ref s.heap.objs.size) { s with heap:=h' }:=λits r' hz h' c' kp e=>
  ⟨.ref s.heap.objs.size,_,I.laid (t':=s.toks) kp (Jag _) (show ObjOk X.prog X.w _ h' _ (.lst ys) from ⟨hz,its,c',r',e⟩),rfl,q _ (I.hok.fresh (Jag _))⟩
 rcases hq with hq|hq
 .refine Zav (I.list hq) λits r' pl hz=>?_;have hlen:=r'.length;obtain⟨o,ho,hc,n,hd⟩:=pl.isList;exact call_list_seq p (.inl rfl) ho hc hd (λh' c' kp e=>fin its r' hz h' c' kp e) (by simp only[Jaw] <;> omega)
 .obtain ⟨its,r',pl,hz⟩:=I.tuple hq;have hlen:=r'.length;obtain⟨o,ho,hc,n,hd⟩:=pl;exact call_list_seq p (.inr rfl) ho hc hd (λh' c' kp e=>fin its r' hz h' c' kp e) (by simp only[Jaw] <;> omega)
def tyV (K:Frag)(T:String)(x:V)(H:Hp):Prop:=match x with
 | .str _=>T="str"
 | .int _=>T="int"
 | .ref p=>(T="list" /\ ∃ xs,SqL K H p xs)\/(T="tuple" /\ ∃ o,K.lookup p=some o/\o.cls=.type "tuple" /\ o.dict=none) \/
   (T="dict" /\ ((∃ kvs,H p=some (.dK kvs))\/∃ kvs,H p=some (.dT kvs)))\/(T="set" /\ ∃ S n,H p=some (.set S n))
 | _=>False
theorem Zvc {pins:List (Addr×Obj)}{σ:St}{H:Hp}{s:Shared}{T:String}{x:V}{v:Value}(I:Inv X pins σ H s)(r:RelV x v)(ty:tyV X.K T x H):
  s.TypeIs v T/\∀ a,v=.ref a->∃ ob,s.heap.get? a=some ob/\ob.dict=none:=by
 cases x with
 | str z=>
  obtain⟨t,rfl⟩:=r;cases (show T="str" from ty);exact⟨typeIs_str s z t,λ_ e=>nomatch e⟩
 | int i=>
  obtain⟨t,rfl⟩:=r;cases (show T="int" from ty);exact⟨typeIs_int s i t,λ_ e=>nomatch e⟩
 | ref p=>
  cases r;rcases ty with ⟨rfl,xs,hq⟩|⟨rfl,o,hk,hc,hd⟩|⟨rfl,hk⟩|⟨rfl,S,n,hk⟩
  .refine Zav (I.list hq) λits _ pl _=>?_;refine⟨pl.isList.typeIs,λa e=>?_⟩;cases e;refine Zet pl λo n e c hd _=>?_;clear pl;exact⟨o,e,hd⟩
  .refine ⟨⟨o,I.kIn p o hk,hc⟩,λa e=>?_⟩;cases e;exact⟨o,I.kIn _ o hk,hd⟩
  .have z:∃ o,s.heap.get? p=some o/\o.ExactDict:=by
    rcases hk with ⟨kvs,hk⟩|⟨kvs,hk⟩
    .refine Za2 (I.hok p _ hk) λ_ _ e9144=>?_;obtain⟨_,_,o,_,_,e,ex,_⟩:=e9144;exact⟨o,e,ex⟩
    .refine Za2 (I.hok p _ hk) λ_ _ e9145=>?_;obtain⟨_,_,o,_,_,e,ex,_⟩:=e9145;exact⟨o,e,ex⟩
   refine Zae z λo e ex=>?_;clear z;refine⟨⟨o,e,ex.1⟩,λa e2=>?_⟩;cases e2;exact⟨o,e,ex.2.1⟩
  .refine xE4_3 (I.hok p _ hk) λo _ _ _ e ex _=>?_;refine⟨⟨o,e,ex.1⟩,λa e2=>?_⟩;cases e2;exact⟨o,e,ex.2.1⟩
 | _=>exact False.elim ty
def tBM0 (K:Frag)(T:String)(r:V->List V->Hp->VK->Prop)(to:TE):TE:=λσ H Q=>to σ H λx H1=>tyV K T x H1/\r x [] H1 Q
def tBM (K:Frag)(T:String)(r:V->List V->Hp->VK->Prop)(to:TE)(t:TA):TE:=λσ H Q=>to σ H λx H1=>tyV K T x H1/\t σ H1 λxs H2=>r x xs H2 Q
variable {o e:Expr}{es:List Expr}{to:TE}{t:TA}{name:Str}{apos cpos:Pos}{T id:String}{r:V->List V->Hp->VK->Prop}
theorem Zqq (pa:PlainAttrs T)(slot:Slot T name id)(hty:typeOf (.builtin id)=pure (.type "method_descriptor"))(hm:MtR X id r)(ho:PE X o to)(hbase:attributeBase o name X.env (eval o X.env)=eval o X.env:=by rfl)(hline:(apos.endLine == cpos.line)=true:=by rfl):PE X (.Call (.Attribute o name apos) [] [] cpos) (tBM0 X.K T r to):=by
 intro pins s σ H Q I h;refine wpAny_Call_method0_late hbase hline (thn (ho pins s σ H _ I h) λv s1 ⟨x,H1,I1,r1,ty,q1⟩=>?_);obtain⟨h1,h2⟩:=Zvc I1 r1 ty;exact Zaq T id ⟨pa,slot,hty,h1,h2,Calls.callWith_builtin rfl (PySem.evalArgs_none (hm pins s1 σ H1 x [] v [] Q I1 r1 .nil q1))⟩
theorem Zks (pa:PlainAttrs T)(slot:Slot T name id)(hty:typeOf (.builtin id)=pure (.type "method_descriptor"))(hm:MtR X id r)(ho:PE X o to)(ha:PA X (e::es) t)(hbase:attributeBase o name X.env (eval o X.env)=eval o X.env:=by rfl)(hfew:((backTo cpos (starEach (e::es) X.env)).all (λx=>!x.1) && (backToKw cpos (keywordEach [] X.env)).all (λx=>x.1.isSome)
   && decide ((e::es).length+([]:List Keyword).length+(if ([]:List Keyword).isEmpty then 0 else 1)<30))=true:=by rfl)(hline:(apos.endLine == cpos.line)=true:=by rfl)(hs:starEach (e::es) X.env=(false,eval e X.env)::starEach es X.env:=by rfl)(hplain:(backTo cpos (starEach es X.env)).any (·.1)=false:=by rfl):
  PE X (.Call (.Attribute o name apos) (e::es) [] cpos) (tBM X.K T r to t):=by
 intro pins s σ H Q I h;refine wpAny_Call_method_late hbase hfew hline rfl (thn (ho pins s σ H _ I h) λv s1 ⟨x,H1,I1,r1,ty,q1⟩=>?_);obtain⟨h1,h2⟩:=Zvc I1 r1 ty;refine Zaq T id ⟨pa,slot,hty,h1,h2,?_⟩;have hA:=ha cpos pins s1 σ H1 _ I1 q1;rw[hs] at hA ⊢;refine Calls.callWith_builtin (by show (false || (backTo cpos (starEach es X.env)).any (·.1))=false;rw[hplain] <;> rfl) (Calls.evalArgs_plain ?_);exact thn hA λus s2 ⟨vs,H2,I2,r2,q2⟩=>hm pins s2 σ H2 x vs v us Q I2 r1 r2 q2
end
def MtM (X:Cx)(id:String)(r:V->List V->Hp->VK->Prop):Prop:=
 ∀ (pins:List (Addr×Obj)) (s:Shared) (σ:St) (H:Hp) (x:V) (xs:List V) (v:Value) (us:List Value) (Q:VK),Inv X pins σ H s->RelV x v->Vals xs us->r x xs H Q->
  wpAny (model X.prog X.w) X.A (call (.builtin id) (v::us)) (EP X pins σ Q) X.xe s
theorem Vals.one:∀ {x:V} {us:List Value},Vals [x] us->∃ u,us=[u]/\RelV x u
 | _,_,.cons r .nil=>⟨_,rfl,r⟩
theorem Vals.zero:∀ {us:List Value},Vals [] us->us=[]
 | _,.nil=>rfl
theorem Vals.eraseIdx:∀ {xs:List V} {us:List Value} (i:Nat),Vals xs us->Vals (xs.eraseIdx i) (us.eraseIdx i)
 | _,_,_,.nil=>.nil
 | _,_,0,.cons _ t=>t
 | _,_,i+1,.cons r t=>.cons r (Vals.eraseIdx i t)
theorem Vals.rep {xs:List V}{us:List Value}(h:Vals xs us):∀ k:Nat,Vals (List.replicate k xs).flatten (List.replicate k us).flatten
 | 0=>.nil
 | k+1=>by
  rw[Jb8,Jb8,Jcy,Jcy];exact Vals.append h (Vals.rep h k)
theorem Zl1 (its:List Value):∀ (k:Nat) (acc:List Value),
  List.foldl (λx1 x2=>x1++x2) acc.toArray (List.replicate k its.toArray)=(acc++(List.replicate k its).flatten).toArray
 | 0,acc=>by simp
 | k+1,acc=>by
  have e:acc.toArray++its.toArray=(acc++its).toArray:=by simp
  have e2:(acc++its)++(List.replicate k its).flatten=acc++(List.replicate (k+1) its).flatten:=by
   rw[Jb8,Jcy,List.append_assoc]
  rw[<- e2,<- Zl1 its k (acc++its),<- e,Jb8,List.foldl_cons]
section
variable {X:Cx}{pins:List (Addr×Obj)}{σ:St}{H:Hp}{s:Shared}{l b:Addr}{xs ys zs:List V}
theorem Inv.lset {its its':List Value}{n:Nat}{f:Array Value->Array Value}{t':Nat}(I:Inv X pins σ H s)(hH:H l=some (.lst xs))(e:s.heap.get? l=some { cls:=.type "list",data:=.seq its.toArray n })(hf:f its.toArray=its'.toArray)(hv:Vals ys its')(hz:ys.length<=sizeLine):
  Inv X pins σ (upd H l (.lst ys)) { s with heap:=s.heap.update l (Obj.mapSeq f),toks:=t' }:=by
 have q:=PySem.IsL.update e f;rw[hf] at q;refine I.write (x:=l) (e:=l) (by rw[hH];exact trivial) (.inl rfl) (λb' u hb hu=>(Heap.get?_update_other s.heap (Obj.mapSeq f) (Jdq hb)).trans hu) ⟨_,q⟩ ?_;exact⟨hz,its',_,hv,q⟩
theorem Inv.lnew {its:List Value}{t':Nat}(I:Inv X pins σ H s)(hv:Vals ys its)(hz:ys.length<=sizeLine):
  Inv X pins σ (upd H s.heap.objs.size (.lst ys)) { s with heap:=s.heap.push { cls:=.type "list",data:=.seq its.toArray },toks:=t' }:=
 I.laid (λ_ _ q=>Jaq _ q) (Jag _) ⟨hz,its,0,hv,Ja2 _ rfl⟩
theorem Inv.fresh (I:Inv X pins σ H s):H s.heap.objs.size=none:=I.hok.fresh (Jag _)
theorem Inv.lstM (I:Inv X pins σ H s)(hH:H l=some (.lst xs)):xs.length<=sizeLine/\∃ (its:List Value) (n:Nat),Vals xs its/\xs.length=its.length/\s.heap.get? l=some { cls:=.type "list",data:=.seq its.toArray n }:=by
 obtain⟨z,its,n,r,e⟩:=I.hok l _ hH;exact⟨z,its,n,r,r.length,e⟩
theorem Zn4 {n:Nat}(h:n<=sizeLine):Builtin.List.listTooLong n=false:=by
 unfold Builtin.List.listTooLong;exact Jay ∅
end
section
variable {X:Cx}
def Zjd:V->List V->Hp->VK->Prop:=λx vs H Q=>∃ l xs y,x=.ref l/\vs=[y]/\H l=some (.lst xs)/\xs.length<sizeLine/\Q .non (upd H l (.lst (xs++[y])))
theorem Zb5:MtM X "list.append" Zjd:=by
 intro pins s σ H x vs v us Q I rx rv h;refine Zb9 h λl xs y e9146 e9147 hH e9148=>?_;clear h;obtain rfl:=e9146;obtain rfl:=e9147;obtain⟨hz,q⟩:=e9148;cases rx;refine Zae rv.one λu e9149 ru=>?_;obtain rfl:=e9149;obtain⟨z,its,n,r,hl,e⟩:=I.lstM hH;refine call_meets F.slot_list_append ⟨_,e,rfl⟩ F.entry_list_append (F.args_list_append_2 _ _) (PySem.list_append l its.toArray n u (by rw[Jaw];omega)) ⟨e,?_⟩;refine Zaq .non _ ⟨I.lset (its':=its++[u]) hH e (by simp) (r.append (.cons ru .nil)) ?_,rfl,q⟩;rw[Jaj,List.length_singleton];omega
def rExtend:V->List V->Hp->VK->Prop:=λx vs H Q=>∃ l b xs zs,x=.ref l/\vs=[.ref b]/\H l=some (.lst xs)/\H b=some (.lst zs)/\xs.length+zs.length<=sizeLine/\Q .non (upd H l (.lst (xs++zs)))
theorem mt_extend:MtM X "list.extend" rExtend:=by
 intro pins s σ H x vs v us Q I rx rv h;refine Zb8 h λl b xs zs e9150 e9151 hH e9152=>?_;clear h;obtain rfl:=e9150;obtain rfl:=e9151;refine Za2 e9152 λhB hz q=>?_;clear e9152;cases rx;refine Zae rv.one λu e9153 ru=>?_;obtain rfl:=e9153;cases ru;obtain⟨z,its,n,r,hl,e⟩:=I.lstM hH;obtain⟨z2,its2,n2,r2,hl2,e2⟩:=I.lstM hB;have hsz:its.toArray.size+its2.toArray.size<=sizeLine:=by rw[Jaw,Jaw];omega
 have hlong:¬ (!its.toArray.isEmpty && Builtin.List.listTooLong (its.toArray.size+its2.toArray.size))=true:=by
  rw[Zn4 hsz,Bool.and_false];exact Jax
 refine call_meets F.slot_list_extend ⟨_,e,rfl⟩ F.entry_list_extend (F.args_list_extend_2 _ _)
  (AutoSeq1.list_extend_list_list_0 l its.toArray n b its2.toArray n2 hlong (by rw[Jaw];omega) ∅) ⟨e,e2,?_⟩
 refine Zaq .non _ ⟨I.lset (its':=its++its2) hH e (by simp) (r.append r2) ?_,rfl,q⟩;rw[Jaj];omega
def Zvl:V->List V->Hp->VK->Prop:=λx vs H Q=>∃ l xs i k y,x=.ref l/\vs=[.int i]/\H l=some (.lst xs)/\-(2 ^ 63)<=i/\i<2 ^ 63/\seqIndex? i xs.length=some k/\xs[k]?=some y/\Q y (upd H l (.lst (xs.eraseIdx k)))
def rCat:R2:=λx y H Q=>∃ l b xs zs,x=.ref l/\y=.ref b/\H l=some (.lst xs)/\H b=some (.lst zs)/\xs.length+zs.length<=sizeLine/\∀ p,H p=none->Q (.ref p) (upd H p (.lst (xs++zs)))
theorem Zvu:OpR X (binaryOp .Add) rCat:=by
 intro pins s σ H x y v u Q I rx ry h;refine Zb8 h λl b xs zs e9165 e9166 hH e9167=>?_;clear h;obtain rfl:=e9165;obtain rfl:=e9166;refine Za2 e9167 λhB hz q=>?_;clear e9167;cases rx;cases ry;obtain⟨z,its,n,r,hl,e⟩:=I.lstM hH;obtain⟨z2,its2,n2,r2,hl2,e2⟩:=I.lstM hB;refine PySem.P.add_list e e2 ?_ (by rw[Jaw,Jaw];omega);have ea:its.toArray++its2.toArray=(its++its2).toArray:=by simp
 rw[ea];exact Zaq (.ref _) _ ⟨I.lnew (t':=s.toks) (r.append r2) (by rw[Jaj];omega),rfl,q _ I.fresh⟩
def rRep:R2:=λx y H Q=>∃ l k xs,x=.ref l/\y=.int k/\H l=some (.lst xs)/\-(2 ^ 63)<=k/\k<2 ^ 63/\xs.length*k.toNat<=sizeLine /\
 ∀ p,H p=none->Q (.ref p) (upd H p (.lst (List.replicate k.toNat xs).flatten))
theorem len_rep {α:Type}(xs:List α)(k:Nat):(List.replicate k xs).flatten.length=k*xs.length:=by
 induction k with
 | zero=>simp
 | succ k ih=>rw[Jb8,Jcy,Jaj,ih,Nat.succ_mul,Nat.add_comm]
theorem op_rep:OpR X (binaryOp .Mult) rRep:=by
 intro pins s σ H x y v u Q I rx ry h;refine Zb9 h λl k xs e9168 e9169 hH e9170=>?_;clear h;obtain rfl:=e9168;obtain rfl:=e9169;refine Zcb e9170 λh1 h2 hz q=>?_;clear e9170;cases rx;obtain⟨t,rfl⟩:=ry;obtain⟨z,its,n,r,hl,e⟩:=I.lstM hH;have hlen:its.toArray.size*k.toNat<=sizeLine:=by rw[Jaw,<- hl];exact hz
 have hcap:¬ its.toArray.size*k.toNat > (2 ^ 63-1) / 8:=by
  have:(sizeLine:Nat)<=(2 ^ 63-1) / 8:=⇑0
  omega
 have hfit:¬ (!Builtin.List.listFitsIndex k)=true:=by
  rw[fitsIndex_both h1 h2];exact Jax
 have hlong:¬ Builtin.List.listTooLong (its.toArray.size*k.toNat)=true:=by
  rw[Zn4 hlen];exact Jax
 have hnew:List.foldl (λx1 x2=>x1++x2) #[] (List.replicate (if its.toArray.isEmpty=true then 0 else k.toNat) its.toArray)=(List.replicate k.toNat its).flatten.toArray:=by
  have f0:∀ m:Nat,List.foldl (λx1 x2=>x1++x2) #[] (List.replicate m its.toArray)=(List.replicate m its).flatten.toArray:=λm=>by
   have:=Zl1 its m [];rw[List.nil_append] at this;exact this
  rw[f0];cases its with
  | nil=>simp
  | cons a r'=>rw[if_neg (by simp)]
 refine wpAny_binaryOp_repeat_ref (T:="list") (U:="int") ⇑0 ⟨_,e,rfl⟩ (λs'=>typeIs_int s' k t) noFill_list_mul F.fills_int_mul F.slot_int_rmul repeat_list F.slot_int_index.lookup
  (call_meets F.slot_int_rmul (typeIs_int s k t) F.entry_int_rmul (F.args_int_rmul_2 _ _) (int___rmul___int_list k t l its.toArray n)
   ⟨e,rfl,⟨_,e,rfl⟩,call_meets F.slot_list_mul ⟨_,e,rfl⟩ F.entry_list_mul (F.args_list_mul_2 _ _) (AutoListH.list___mul___list_int_3 l its.toArray n k t hfit hcap hlong) ⟨e,?_⟩⟩)
 rw[hnew];exact Zaq (.ref _) _ ⟨I.lnew (t':=s.toks) (r.rep k.toNat) (by rw[len_rep,Nat.mul_comm];exact hz),rfl,q _ I.fresh⟩
end
section
variable {prog:Program}{w:World}{A:Around}{E:Value->Shared->Prop}{s:Shared}
end
section
variable {X:Cx}
end
end L2
namespace Att
open PySem PySem.W PySem.Calls PyProof.Rows
theorem Zjn {P:Params}{h:Heap}:∀ (ns:List Int) (vs:List Value),WellAll P h vs (ns.map WData.int)->IntsAre vs ns:=by
 intro ns
 induction ns with
 | nil=>
  intro vs w;rw[List.map_nil] at w;cases w;exact .nil
 | cons n ns ih=>
  intro vs w;rw[List.map_cons] at w;cases w with
  | cons a b=>
   cases a;exact .cons _ _ (ih _ b)
theorem Zp7 {l:OpenLaw}{n:Nat}(hn:l.most=some n){P:Params}{h:Heap}{args:List WData}{vals:List Value}(hpre:l.row.toRowW.claim.pre args=true)(hwl:WellAll P h vals args):
  ∃ a vs ns,vals=[Value.ref a]/\args=[WData.list (ns.map WData.int)]/\h.get? a=some { cls:=.type "list",data:=.seq vs.toArray }/\IntsAre vs ns/\ns.length<=n:=by
 have hsh:WShape.hasAll [] args [.list .int]=true:=(pre_splitW hpre).1;have hc:l.pre.holds [] { args:=args }=true:=(pre_splitW hpre).2;obtain⟨d,r,rfl,h1,h2⟩:=hasAllW_cons hsh;obtain rfl:=hasAllW_nil h2;obtain⟨xs,rfl,h3⟩:=hasW_list h1;obtain⟨ns,rfl⟩:=items_int h3;have hlen:ns.length<=n:=by
  unfold OpenLaw.pre at hc;have h4:(WTm.not (.lt (.lit (.int (n:Int))) (.len (.arg 0)))).holds [] { args:=[.list (ns.map .int)] }=true:=by
   have h4:=(holds_andW hc).1;rw[hn] at h4;exact h4
  have h5:=condW_of h4 (w_not (w_lt w_lit (w_len_list (w_arg rfl))));rw[Jab] at h5;refine Jcq λq=>?_;have q':(n:Int)<((ns.length:Nat):Int):=∅
  first
   | (rw[Jah q'] at h5;exact absurd h5 ⇑0)
   | (simp at h5;omega)
 cases hwl with
 | cons w1 w2=>
  cases w2;cases w1 with
  | list ho hall=>exact⟨_,_,ns,rfl,rfl,ho,Zjn ns _ hall,hlen⟩
theorem Zqj (l:OpenLaw)(args:List WData):l.row.toRowW.claim.post args (.bool true) args=true:=
 postW_of (r:=l.row.toRowW) (X:=(true == true))
  (show WShape.has [] (.bool true) .bool=true by first|rfl|decide|simp[WShape.has,WShape.arms,WShape.armsAll])
  (show (WTm.eq .res (.lit (.bool true))).value [] { args:=args,res:=some (.bool true),after:=args }=some (.bool (true == true)) from w_eq_bool (w_res rfl) w_lit) rfl
theorem attach_call {l:OpenLaw}{n:Nat}{q:Program}{loose:List Str}{XP:(Str->Option Value)->Heap->Prop}{YP:World->Heap->Prop}{d:DefRec}(hn:l.most=some n)(hdf:d.params.defaults=[])(call:∀ (w:World) (s₀ s₁:Shared) (mg mb:Str->Option Value) (fa:Addr) (o:Obj) (pm cd doc:Value) (a:Addr) (vs:List Value) (ns:List Int),
   Ground q loose [] XP w s₀ mg mb s₁.heap->YP w s₁.heap->
   s₁.heap.get? fa=some o->o.data=.func (docDef d.name d.params d.body d.scope pm cd doc)->s₁.heap.CodeRec cd d.name->mg d.name=some (.ref fa)->
   s₁.heap.get? a=some { cls:=.type "list",data:=.seq vs.toArray }->IntsAre vs ns->ns.length<=n->s₁.gens=#[]->
   codeAny (model l.prog w) callerA (.call (.ref fa) ⟨[.ref a],[]⟩) (λr s'=>r=.ok (.ret (.bool true))/\OldK s₁.heap s'.heap/\s'.os=s₁.os/\AllBare s'.gens) s₁):
  WalkO q loose XP YP l.row.toRowW d [] (λf vs=>PySem.call f vs):=by
 intro w s₀ s₁ mg mb G Y fa o pm cd doc dV kV ho hd hcd hD hmg hg args vals as hpre hlay hrd hwl hlo;obtain rfl:dV=.none:=Dflts.none hD hdf;obtain rfl:kV=.none:=Dflts.noKw hD;obtain⟨a,vs,ns,rfl,rfl,hobj,hints,hlen⟩:=Zp7 hn hpre hwl;refine enter_call (codeAny_mono (call w s₀ s₁ mg mb fa o pm cd doc a vs ns G Y ho (fd_plain hd) hcd hmg hobj hints hlen hg) λr s' hq=>?_);obtain⟨rfl,h2,h3,h4⟩:=hq;exact⟨.inl ⟨.bool true,.bool true,[],rfl,λ_=>rfl,.bool true,Zqj l _,λ_=>⟨List.Pairwise.nil,λ_ hm=>(nomatch hm)⟩⟩,h2,h3,h4⟩
section
variable {prog:Program}{w:World}{A:Around}{E:Value->Shared->Prop}{s:Shared}{K:Frag}
end
end Att
namespace L2
open PySem PySem.Spec PyProof.Rows
theorem Zlc:∀ {vs:List Value} {ns:List Int},IntsAre vs ns->Vals (ns.map V.int) vs
 | _,_,.nil=>.nil
 | _,_,.cons n t h=>.cons ⟨t,rfl⟩ (Zlc h)
def Only (H:Hp):Prop:=∀ b,H b=none\/∃ o xs,H b=some (.frz o (.lst xs))
theorem Zug {P:Program}{w:World}{K:Frag}{mg mb:Str->Option Value}{CX:CXT}{k:Nat}{fa a:Addr}{fd:FuncData}{x:Str}{sp:Sp}{s₁:Shared}{vs:List Value}{ns:List Int}(KX:K.In s₁.heap)(hns:s₁.heap.Ns mainGlobals mg)(hb:s₁.heap.Ns builtinsNs mb)(hbb:∀ x:Str,x ≠ "__name__" -> mb x=bootBuiltins x)(hlim:s₁.heap.NoLimit)(hseer:s₁.heap.NoSeer)(hbm:∃ bm ob,mg "__builtins__" = some (.ref bm)/\bm≠builtinsNs/\s₁.heap.get? bm=some ob/\ob.cls=.type "module" /\ ob.dict=some builtinsNs/\ob.data=.plain)(hg:s₁.gens=#[])(ha:s₁.heap.get? a=some { cls:=.type "list",data:=.seq vs.toArray })(hi:IntsAre vs ns)(hl:ns.length<=sizeLine)(hr:Room k callerA)(F:∀ base:Heap,K.In base->base.Ns mainGlobals mg->FnOk P w K mg base CX k fa fd [x] sp)(hbind:∀ (s:Shared) (u:Value),BindsTo s fd ⟨[u],[]⟩ [(x,u)])(hsp:∀ H:Hp,Only H->SqL K H a (ns.map V.int)->sp [.ref a] H (λv _=>v=.bl true) λ_ _ _=>False)(hCX:∀ H e s',CX [] H s₁ (λ_ _ _=>False) e s'->False):
  codeAny (model P w) callerA (.call (.ref fa) ⟨[.ref a],[]⟩) (λr s'=>r=.ok (.ret (.bool true))/\OldK s₁.heap s'.heap/\s'.os=s₁.os/\AllBare s'.gens) s₁:=by
 have rv:=Zlc hi;have lenV:=hi.length
 -- from an abstract heap in which nothing but the script may be tracked
 have core:∀ H:Hp,Only H->SqL K H a (ns.map V.int)->HOk P w H s₁.heap->(∀ b,H b≠none->b=a)->(H a≠none->K.lookup a=none)->
   codeAny (model P w) callerA (.call (.ref fa) ⟨[.ref a],[]⟩) (λr s'=>r=.ok (.ret (.bool true))/\OldK s₁.heap s'.heap/\s'.os=s₁.os/\AllBare s'.gens) s₁:=by
  intro H hO hS hok hA hK;have base_of:∀ {b:Addr} {o:Obj},s₁.heap.get? b=some o->H b=none->(Zso s₁.heap H).get? b=some o:=λe n=>Zum e n;have noA:∀ {b:Addr} {o:Obj} {es:Array DictEntry} {ep:Nat},s₁.heap.get? b=some o->o.data=.dict es ep->H b=none:=λ{b o es ep} e d=>by
   cases q:H b with
   | none=>rfl
   | some u=>
    have e':b=a:=hA b (by rw[q];simp);subst e';rw[ha] at e;cases e;have d':Data.seq vs.toArray _=Data.dict es ep:=d;cases d'
  have nsK:∀ {b:Addr} {m:Str->Option Value},s₁.heap.Ns b m->(Zso s₁.heap H).Ns b m:=λ{b m} ⟨o,es,ep,e,d,r⟩=>⟨o,es,ep,base_of e (noA e d),d,r⟩
  have hKb:K.In (Zso s₁.heap H):=λb o e=>base_of (KX b o e) (by
   cases q:H b with
   | none=>rfl
   | some u=>
    have e':b=a:=hA b (by rw[q];simp);subst e';rw[hK (by rw[q];simp)] at e;cases e)
  have seerB:(Zso s₁.heap H).NoSeer:=⟨let ⟨mc,x,y⟩:=hseer.statics;⟨mc,nsK x,y⟩,let ⟨mc,x,y⟩:=hseer.mods;⟨mc,nsK x,y⟩,let ⟨mc,x,y⟩:=hseer.imp;⟨mc,nsK x,y⟩,let ⟨mg',bm,ob,x,y,z,u,v⟩:=hseer.main;⟨mg',bm,ob,nsK x,y,base_of z (by
   cases q:H bm with
   | none=>rfl
   | some o=>
    have e':bm=a:=hA bm (by rw[q];simp);subst e';rw[ha] at z;cases z;have u':Value.type "list" = Value.type "module" := u
    injection u' with u'
    exact absurd u' ⇑0),u,v⟩⟩
  have hM:Mod K mg (Zso s₁.heap H):=⟨hKb,nsK hns,⟨mb,nsK hb,hbb⟩,let ⟨mc,h1,h2⟩:=hlim;⟨mc,nsK h1,h2⟩,seerB,let ⟨bm,ob,x1,x2,x3,x4,x5,x6⟩:=hbm;⟨bm,ob,x1,x2,base_of x3 (by
   cases q:H bm with
   | none=>rfl
   | some o=>
    have e':bm=a:=hA bm (by rw[q];simp);subst e';rw[ha] at x3;cases x3;cases x6),x4,x5,x6⟩⟩
  have e0:Env0 P w K mg (Zso s₁.heap H) callerA [] s₁ H:=⟨rfl,hM,λb o e=>of_hidT e,Nat.le_of_eq (Zrv _ _),trivial,λb hb=>absurd (show b∈([]:List Addr) from hb) (by simp),hok,.of_eq hg⟩
  refine codeAny_mono ((F _ hKb (nsK hns)).run callerA [] s₁ H ⟨[.ref a],[]⟩ [.ref a] [.ref a] _ _ hr e0 (hbind s₁ (.ref a)) (.cons rfl .nil) (hsp H hO hS)) λr s' h=>?_;cases r with
  | error e=>exact (hCX H e s' h).elim
  | ok fl=>
   cases fl with
   | next=>exact False.elim h
   | brk=>exact False.elim h
   | cont=>exact False.elim h
   | ret u=>
    refine Zh7 h λv H' os bare un hok' r' q=>?_;clear h;have q':v=.bl true:=q;subst q';obtain rfl:u=Value.bool true:=r';refine⟨rfl,OldK.of_keep λb o e=>?_,os,bare⟩;cases q:H b with
    | none=>exact un.keep b o e q (by intro z;exact absurd (show b∈([]:List Addr) from z) (by simp)) (by simp)
    | some u=>
     rcases hO b with z|⟨ob,xs,z⟩
     .rw [q] at z;cases z
     .have z2:=un.frzs b ob _ z;obtain⟨e1,_⟩:=hok b _ z;obtain⟨e2,_⟩:=hok' b _ z2;rw[e] at e1;cases e1;exact e2
 cases hk:K.lookup a with
 | some o=>
  -- the script is one of the module's own objects
  have e:=KX a o hk;rw[ha] at e;cases e;refine core (λ_=>none) (λ_=>.inl rfl) (.inr ⟨_,vs.toArray,_,hk,rfl,rfl,rfl,by rw[Jaw,lenV];exact hl,by simpa using rv⟩) (λb u z=>by have z':(none:Option HO)=some u:=z;cases z') (λb z=>absurd rfl z) λz=>absurd rfl z
 | none=>
  refine core (λb=>if b=a then some (.frz { cls:=.type "list",data:=.seq vs.toArray } (.lst (ns.map V.int))) else none) (λb=>?_) (.inl (.inr ⟨{ cls:=.type "list",data:=.seq vs.toArray },if_pos rfl⟩)) (λb u z=>?_) (λb z=>?_) λ_=>hk
  .by_cases hb:b=a
   .exact .inr ⟨_,_,if_pos hb⟩
   .exact .inl (if_neg hb)
  .by_cases hb:b=a
   .have z':=(if_pos hb).symm.trans z;cases z';subst hb;exact⟨ha,by rw[Jab];exact hl,vs,_,rv,ha⟩
   .have z':=(if_neg hb).symm.trans z;cases z'
  .by_cases hb:b=a
   .exact hb
   .exact absurd (if_neg hb) z
theorem walk_of {l:PySem.W.OpenLaw}{n k:Nat}{q:Program}{loose:List Str}{XP:(Str->Option Value)->Heap->Prop}{YP:World->Heap->Prop}{d:DefRec}{K:Params->Frag}{CX:World->CXT}{sp:World->Sp}{x:Str}(hq:importsNone q=true)(hn:l.most=some n)(hn2:n<=sizeLine)(hdf:d.params.defaults=[])(hr:Room k callerA)(hY:∀ (w:World) (h:Heap),YP w h->(K w.params).In h)(F:∀ (w:World) (mg:Str->Option Value) (fa:Addr) (h:Heap),(K w.params).In h->h.Ns mainGlobals mg->mg d.name=some (.ref fa)->
   ∃ fd:FuncData,(∀ (s:Shared) (u:Value),BindsTo s fd ⟨[u],[]⟩ [(x,u)]) /\
    ∀ base:Heap,(K w.params).In base->base.Ns mainGlobals mg->FnOk l.prog w (K w.params) mg base (CX w) k fa fd [x] (sp w))(hsp:∀ (w:World) (H:Hp) (a:Addr) (ns:List Int),ns.length<=n->Only H->SqL (K w.params) H a (ns.map V.int)->sp w [.ref a] H (λv _=>v=.bl true) λ_ _ _=>False)(hCX:∀ (w:World) (H:Hp) (s:Shared) (e:Value) (s':Shared),CX w [] H s (λ_ _ _=>False) e s'->False):
  PySem.W.WalkO q loose XP YP l.row.toRowW d [] (λf vs=>PySem.call f vs):=by
 refine Att.attach_call hn hdf λw s₀ s₁ mg mb fa o pm cd doc a vs ns G Y ho hd hcd hmg hobj hints hlen hg=>?_;have KX:=hY w _ Y;refine Zae (F w mg fa _ KX G.T.g hmg) λfd hb hF=>?_;exact Zug KX G.T.g G.T.b G.T.builtins G.T.nolimit (G.T.seer hq) G.T.bmain hg hobj hints (Ja4 hlen hn2) hr hF hb (λH hO hS=>hsp w H a ns hlen hO hS) λH e s'=>hCX w H s₁ e s'
def Zjo (s:Stmt)(j:Nat):Stmt:=match s with
 | .ClassDef _ _ _ body _ _ _ _ _ _ _=>body.getD j (.Pass ⟨0,0,0,0⟩)
 | _=>.Pass ⟨0,0,0,0⟩
def Zdl (s:Stmt):Arguments:=match s with
 | .FunctionDef _ a _ _ _ _ _ _ _ _=>a
 | _=>{ posonlyargs:=[],args:=[],vararg:=none,kwonlyargs:=[],kw_defaults:=[],kwarg:=none,defaults:=[] }
def Zcj (s:Stmt):List Stmt:=match s with
 | .FunctionDef _ _ b _ _ _ _ _ _ _=>b
 | _=>[]
def Zaf (s:Stmt):Scope:=match s with
 | .FunctionDef _ _ _ _ _ _ sc _ _ _=>sc
 | _=>{ kind:=.function,names:=[],isGenerator:=false,isCoroutine:=false }
abbrev CX0:CXT:=λ_ _ _ _ _ _=>False
abbrev E0:XK:=λ_ _ _=>False
theorem Ztl {X:Cx}:Zkh CX0 X E0:=λ_ _ _ _ _ _ _ h=>h.elim
structure Fun (K:Frag)(x qual:Str)(st:Stmt)(f:Addr)(fd:FuncData):Prop where
 ex:∃ (oc:Value) (od:Option Addr) (kV doc pm:Value) (an:Option Addr) (cdv ct:Value) (osl:Array (Option Value)),
  fd=PySem.W.fnOf x qual (Zdl st) (Zcj st) (Zaf st) .none kV doc pm an cdv ct/\K.lookup f=some ⟨oc,od,.func fd,osl⟩/\PySem.W.codeIn K cdv qual=true
 kp:PySem.W.keepIn K (.ref f)=true
section
theorem Fun.ok {x qual:Str}{st:Stmt}{f:Addr}{fd:FuncData}{N ps:List Str}{k:Nat}{sp:Sp}(F:Fun K x qual st f fd)(S:FnScope N ps (Zaf st))(len:∀ vs H Q E,sp vs H Q E->vs.length=ps.length)(hbody:∀ (cdv:Value) (A:Around) (outer:List Env) (s:Shared) (H:Hp) (vs:List V) (Q:VK) (E:XK),Room k (A.deeper (envOfC qual (Zaf st) s.heap.objs.size f cdv))->sp vs H Q E->
   ∃ t,PSs (Zuv CX0 P w K mg base N qual (Zaf st) f cdv A outer s H E).nox (Zcj st) t/\t { nx:=λ_ H'=>Q .non H',rt:=Q } (start N vs) H):FnOk P w K mg base CX0 (k+1) f fd ps sp:=by
 refine xE9_3 F.ex λoc od kV doc pm an cdv ct osl e9171 lk hcd=>?_;obtain rfl:=e9171;refine fn_of lk hcd S len λA outer s H vs Q E hr hsp=>?_;refine Zae (hbody cdv A outer s H vs Q E hr hsp) λt h q=>?_;exact⟨t,h.nox,q⟩
theorem Fun.binds {x qual:Str}{st:Stmt}{f:Addr}{fd:FuncData}{ps:List Str}(F:Fun K x qual st f fd)(h:∀ (kV doc pm:Value) (an:Option Addr) (cdv ct:Value) (us:List Value),us.length=ps.length->bindArgs (PySem.W.fnOf x qual (Zdl st) (Zcj st) (Zaf st) .none kV doc pm an cdv ct) ⟨us,[]⟩=pure (ps.zip us)):Binds K fd ps []:=by
 refine xE9_3 F.ex λoc od kV doc pm an cdv ct osl e9172 lk hcd=>?_;obtain rfl:=e9172;exact .all (h kV doc pm an cdv ct)
theorem fun_mk {x qual:Str}{st:Stmt}{f:Addr}{oc:Value}{od an:Option Addr}{osl:Array (Option Value)}{kV doc pm cdv ct:Value}(l:K.lookup f=some ⟨oc,od,.func (PySem.W.fnOf x qual (Zdl st) (Zcj st) (Zaf st) .none kV doc pm an cdv ct),osl⟩)(c:PySem.W.codeIn K cdv qual=true)(k:PySem.W.keepIn K (.ref f)=true):Fun K x qual st f (PySem.W.fnOf x qual (Zdl st) (Zcj st) (Zaf st) .none kV doc pm an cdv ct):=⟨⟨oc,od,kV,doc,pm,an,cdv,ct,osl,rfl,l,c⟩,k⟩
end
theorem Zas {n:Nat}(h:n<=1000):n<sizeLine:=Jbk h ⇑0
section
variable {X:Cx}
theorem pv (i:Nat){x:Str}{pos:Pos}(hN:X.N[i]?=some x:=by rfl)(hv:Vis X.env.scope x:=by first|exact Or.inl rfl|exact Or.inr (Or.inl rfl)|exact Or.inr (Or.inr rfl))(hd:(x == ("__debug__" : Str))=false:=by decide)(hcd:(x == ("__classdict__" : Str))=false:=by decide):PE X (.Name x pos) (Zg5 i):=pe_var hN hv hd hcd
end
theorem iteF {A B:Prop}(h:B):if false=true then A else B:=by
 rw[if_neg Jax];exact h
theorem iteT {A B:Prop}(h:A):if true=true then A else B:=by
 rw[if_pos rfl];exact h
theorem Zci {c A B:Prop}[Decidable c](h1:c->A)(h2:¬ c->B):if c then A else B:=by
 by_cases h:c
 .rw [if_pos h];exact h1 h
 .rw [if_neg h];exact h2 h
def Same (H H':Hp):Prop:=∀ b o,H b=some o->H' b=some o
theorem Same.refl (H:Hp):Same H H:=λ_ _ h=>h
theorem Same.trans {H H1 H2:Hp}(a:Same H H1)(b:Same H1 H2):Same H H2:=λc o h=>b c o (a c o h)
theorem Same.free {H H':Hp}(e:Same H H'){l:Addr}(h:H' l=Option.none):H l=Option.none:=by
 cases q:H l with
 | none=>rfl
 | some o=>
  rw[e l o q] at h;cases h
theorem Same.seq {K:Frag}{H H':Hp}{a:Addr}{xs:List V}(e:Same H H')(h:SqL K H a xs):SqL K H' a xs:=by
 rcases h with (h|⟨o,h⟩)|h
 .exact .inl (.inl (e _ _ h))
 .exact .inl (.inr ⟨o,e _ _ h⟩)
 .exact .inr h
theorem Zu0 {x:Str}{c:Addr}:∀ (names:List (Str×NameKind)) (n:Nat) (acc:List (Str×Addr)),(cellsFrom n names acc).lookup x=some c->n<=c\/acc.lookup x=some c
 | [],_,_,h=>.inr h
 | (y,k)::r,n,acc,h=>by
  unfold cellsFrom at h;split at h
  .rcases Zu0 r (n+1) _ h with z|z
   .exact .inl (Jbz z)
   .rw [Ja6] at z;cases e:x == y with
    | true=>rw[e] at z;cases z;exact .inl (Jag _)
    | false=>rw[e] at z;exact .inr z
  .exact Zu0 r n acc h
theorem Zsd {x:Str}{c:Addr}:∀ (names:List (Str×NameKind)) (n:Nat) (acc:List (Str×Addr)),(x,NameKind.cell)∈names->(cellsFrom n names acc).lookup x=some c->n<=c
 | [],_,_,m,_=>nomatch m
 | (y,k)::r,n,acc,m,h=>by
  unfold cellsFrom at h;split at h
  .by_cases m':(x,NameKind.cell)∈r
   .exact Jbz (Zsd r (n+1) _ m' h)
   .have e:(x,NameKind.cell)=(y,k):=(Jbo.mp m).resolve_right m';cases e;rcases Zu0 r (n+1) _ h with z|z
    .exact Jbz z
    .rw [Ja6,beq_self_eq_true] at z;cases z;exact Jag _
  .rename_i hk
   have m':(x,NameKind.cell)∈r:=by
    rcases Jbo.mp m with e|m'
    .cases e;exact absurd rfl hk
    .exact m'
   exact Zsd r n acc m' h
theorem Zse {x:Str}:∀ {names:List (Str×NameKind)} {n:Nat} {acc:List (Str×Addr)},(x,NameKind.cell)∉names->(cellsFrom n names acc).lookup x=acc.lookup x
 | [],_,_,_=>rfl
 | (y,k)::r,n,acc,h=>by
  unfold cellsFrom;have hr:(x,NameKind.cell)∉r:=λm=>h (Jbn _ m);split
  .rename_i hk
   have hy:(x == y)=false:=by
    cases e:x == y with
    | false=>rfl
    | true=>
     exfalso;refine h ?_;rw[Jbw.mp e,Jbw.mp hk];exact Jb9
   rw[Zse hr,Ja6,hy]
  .exact Zse hr
theorem Zsf:∀ (names:List (Str×NameKind)) (n:Nat) (acc:List (Str×Addr)),(∀ x c,acc.lookup x=some c->c<n)->(∀ x y c,acc.lookup x=some c->acc.lookup y=some c->x=y)->
  ∀ x y c,(cellsFrom n names acc).lookup x=some c->(cellsFrom n names acc).lookup y=some c->x=y
 | [],_,_,_,hi=>hi
 | (z,k)::r,n,acc,hl,hi=>by
  unfold cellsFrom;split
  .refine Zsf r (n+1) _ (λx c h=>?_) (λx y c h1 h2=>?_)
   .rw [Ja6] at h;cases e:x == z with
    | true=>rw[e] at h;cases h;exact Jdr _
    | false=>rw[e] at h;exact Jcz (hl x c h)
   .rw [Ja6] at h1 h2;cases e1:x == z with
    | true=>
     rw[e1] at h1;cases h1;cases e2:y == z with
     | true=>rw[Jbw.mp e1,Jbw.mp e2]
     | false=>rw[e2] at h2;exact absurd (hl y _ h2) (Jb4 _)
    | false=>
     rw[e1] at h1;cases e2:y == z with
     | true=>rw[e2] at h2;cases h2;exact absurd (hl x _ h1) (Jb4 _)
     | false=>rw[e2] at h2;exact hi x y c h1 h2
  .exact Zsf r n acc hl hi
theorem Zna {x:Str}{c:Addr}:∀ (names:List (Str×NameKind)) (h:Heap) (acc:List (Str×Addr)),(cellsFrom h.objs.size names acc).lookup x=some c->(pushCells h names).IsCell c none\/acc.lookup x=some c
 | [],_,_,z=>.inr z
 | (y,k)::r,h,acc,z=>by
  unfold cellsFrom at z;unfold pushCells;split at z
  .rename_i hk
   rw[if_pos hk];have z':(cellsFrom (h.push { cls:=.type "cell",data:=.cell none }).objs.size r ((y,h.objs.size)::acc)).lookup x=some c:=by rw[Jbt];exact z
   rcases Zna r _ _ z' with q|q
   .exact .inl q
   .rw [Ja6] at q;cases e:x == y with
    | true=>
     rw[e] at q;cases q;exact .inl ⟨_,pushCells_keeps _ _ _ _ (Ja2 _ rfl),rfl⟩
    | false=>rw[e] at q;exact .inr q
  .rename_i hk
   rw[if_neg hk];exact Zna r h acc z
theorem Zm9 {env:Env}(f:Str×NameKind->List (Str×Addr)->Sem (ForInStep (List (Str×Addr))))(hf:∀ name kind cs,f (name,kind) cs=if kind == .free then (do let a <- cellOf env name;pure (.yield ((name,a)::cs))) else pure (.yield cs)):
  ∀ (names:List (Str×NameKind)) (acc:List (Str×Addr)),(∀ y∈names,y.2=.free->∃ c,env.cells.lookup y.1=some c)->(∀ x c,acc.lookup x=some c->env.cells.lookup x=some c)->
  ∃ cl,forIn names acc f=pure cl/\(∀ x c,cl.lookup x=some c->env.cells.lookup x=some c)/\(∀ y∈names,y.2=.free->∃ c,cl.lookup y.1=some c)/\∀ x c,acc.lookup x=some c->∃ c',cl.lookup x=some c'
 | [],acc,_,ha=>⟨acc,rfl,ha,(λ_ m=>nomatch m),λx c e=>⟨c,e⟩⟩
 | (y,k)::r,acc,h,ha=>by
  rw[List.forIn_cons,hf];have hr:∀ y∈r,y.2=NameKind.free->∃ c,env.cells.lookup y.1=some c:=λz m=>h z (Jbn _ m);by_cases hk:(k == NameKind.free)=true
  .obtain ⟨c,hc⟩:=h (y,k) Jb9 (Jbw.mp hk);have e:cellOf env y=pure c:=by unfold cellOf;rw[hc]
   rw[if_pos hk,e,pure_bind,pure_bind];have ha':∀ x d,((y,c)::acc).lookup x=some d->env.cells.lookup x=some d:=λx d e=>by
    rw[Ja6] at e;cases e1:x == y with
    | true=>rw[e1] at e;cases e;rw[Jbw.mp e1];exact hc
    | false=>rw[e1] at e;exact ha x d e
   refine Zom (Zm9 f hf r ((y,c)::acc) hr ha') λcl q1 q2 q3 q4=>?_;refine⟨cl,q1,q2,λz m hz=>?_,λx d e=>?_⟩
   .rcases Jbo.mp m with e|m
    .subst e;exact q4 y c (by rw[Ja6,beq_self_eq_true])
    .exact q3 z m hz
   .by_cases e1:(x == y)=true
    .exact q4 x c (by rw[Ja6,e1])
    .exact q4 x d (by rw[Ja6];simp only[e1];exact e)
  .rw [if_neg hk,pure_bind];refine Zom (Zm9 f hf r acc hr ha) λcl q1 q2 q3 q4=>?_;refine⟨cl,q1,q2,λz m hz=>?_,q4⟩;rcases Jbo.mp m with e|m
   .subst e;exact absurd (Jbw.mpr hz) hk
   .exact q3 z m hz
theorem Zsc {scope:Scope}{env:Env}(h:∀ y∈scope.names,y.2=.free->∃ c,env.cells.lookup y.1=some c):
  ∃ cl,closureFor scope env=pure cl/\(∀ x c,cl.lookup x=some c->env.cells.lookup x=some c)/\∀ y∈scope.names,y.2=.free->∃ c,cl.lookup y.1=some c:=by
 obtain⟨cl,q1,q2,q3,_⟩:=Zm9 (env:=env) (λx cs=>if x.2 == .free then (do let a <- cellOf env x.1;pure (.yield ((x.1,a)::cs))) else pure (.yield cs)) (λ_ _ _=>rfl) scope.names [] h (λ_ _ e=>nomatch e);refine⟨cl,?_,q2,q3⟩;unfold closureFor;have e:(λ(x:Str×NameKind) (r:List (Str×Addr))=>(match x with
   | (name,kind)=>if (kind == NameKind.free)=true then (do let __do_lift <- cellOf env name;pure (ForInStep.yield ((name,__do_lift)::r))) else pure (ForInStep.yield r):Sem (ForInStep (List (Str×Addr))))) =
   λx cs=>if x.2 == .free then (do let a <- cellOf env x.1;pure (.yield ((x.1,a)::cs))) else pure (.yield cs):=by
  funext x cs
  rfl
 have q:(forIn scope.names ([]:List (Str×Addr)) λ(x:Str×NameKind) (r:List (Str×Addr))=>(match x with
   | (name,kind)=>if (kind == NameKind.free)=true then (do let __do_lift <- cellOf env name;pure (ForInStep.yield ((name,__do_lift)::r))) else pure (ForInStep.yield r):Sem (ForInStep (List (Str×Addr)))))=pure cl:=by
  rw[e];exact q1
 simpa using q
theorem Zlr {M:Model}{A:Around}{E:Value->Shared->Prop}{s:Shared}{scope:Scope}{globals:Addr}{cl:List (Str×Addr)}{qual:Str}{env:Env}{Q:Env->Shared->Prop}(hQ:∀ h',h'.Ns s.heap.objs.size (λ_=>none)->(∀ b o,s.heap.get? b=some o->h'.get? b=some o)->
   (∀ x c,(cellsFrom (s.heap.objs.size+1) scope.names cl).lookup x=some c->h'.IsCell c none\/cl.lookup x=some c)->
   Q { scope,locals:=s.heap.objs.size,globals,cells:=cellsFrom (s.heap.objs.size+1) scope.names cl,qual,func:=none,code:=env.code,frame:=env.frame,builtins:=env.builtins } { s with heap:=h' }):
  wpAny M A (newFunctionEnv scope globals cl [] qual none .none (some env)) Q E s:=by
 simp only[newFunctionEnv,Option.isSome_some,Jca];refine Jai (wpAny_alloc ?_);refine Jai (wpAny_layCells _ (λname kind cells=>by cases hkc:kind == NameKind.cell <;> simp[hkc]) _ _ _ _ ?_);have hsz:(s.heap.push { cls:=.type "dict",data:=.dict #[] }).objs.size=s.heap.objs.size+1:=Jbt ..;have q:=hQ (pushCells (s.heap.push { cls:=.type "dict",data:=.dict #[] }) scope.names) ((Heap.Ns.new s.heap (.type "dict")).keeps (pushCells_keeps _ _)) (λb o e=>pushCells_keeps _ _ b o (Jaq _ e))
  (λx c e=>Zna scope.names (s.heap.push { cls:=.type "dict",data:=.dict #[] }) cl (by rw[hsz];exact e))
 show wpAny _ _ _ _ _ _;rw[show ({ s with heap:=s.heap.push { cls:=.type "dict",data:=.dict #[] } }:Shared).heap.objs.size=s.heap.objs.size+1 from hsz];exact Jai (Ja9 (Ja9 q))
theorem Zhz {env:Env}{x:Str}:∀ {names:List (Str×NameKind)},names.lookup x=some .free->
  (names.map λ(n,k)=>if (k == NameKind.free && env.scope.kind == .function && env.kindOf n == some .cell) then (n,NameKind.cell) else (n,k)).lookup x=some .cell \/
  (names.map λ(n,k)=>if (k == NameKind.free && env.scope.kind == .function && env.kindOf n == some .cell) then (n,NameKind.cell) else (n,k)).lookup x=some .free
 | [],h=>by simp at h
 | (n,k)::r,h=>by
  have ih:=@Zhz env x r;show List.lookup x ((if (k == NameKind.free && env.scope.kind == .function && env.kindOf n == some .cell)=true then (n,NameKind.cell) else (n,k))::_)=_\/List.lookup x ((if (k == NameKind.free && env.scope.kind == .function && env.kindOf n == some .cell)=true then (n,NameKind.cell) else (n,k))::_)=_;cases hx:x == n with
  | true=>
   simp only[Ja6,hx] at h;cases h;split <;> simp[Ja6,hx]
  | false=>
   simp only[Ja6,hx] at h;split <;> (simp only[Ja6,hx];exact ih h)
theorem Zfb {env:Env}{x:Str}{kd:NameKind}:∀ {names:List (Str×NameKind)},
  (names.map λ(n,k)=>if (k == NameKind.free && env.scope.kind == .function && env.kindOf n == some .cell) then (n,NameKind.cell) else (n,k)).lookup x=some kd->
  names.lookup x=some kd\/names.lookup x=some .free
 | [],h=>by simp at h
 | (n,k)::r,h=>by
  have ih:=@Zfb env x kd r;have h':List.lookup x ((if (k == NameKind.free && env.scope.kind == .function && env.kindOf n == some .cell)=true then (n,NameKind.cell) else (n,k))::(r.map λ(n,k)=>if (k == NameKind.free && env.scope.kind == .function && env.kindOf n == some .cell) then (n,NameKind.cell) else (n,k)))=some kd:=h;cases hx:x == n with
  | true=>
   by_cases hc:(k == NameKind.free && env.scope.kind == .function && env.kindOf n == some .cell)=true
   .have hk:k=.free:=by
     have:=(Jcb _ _ ▸ (Jcb _ _ ▸ hc).1).1;exact Jbw.mp this
    subst hk;exact .inr (by simp[Ja6,hx])
   .rw [if_neg hc] at h';simp only[Ja6,hx] at h';cases h';exact .inl (by simp[Ja6,hx])
  | false=>
   have h2:List.lookup x (r.map λ(n,k)=>if (k == NameKind.free && env.scope.kind == .function && env.kindOf n == some .cell) then (n,NameKind.cell) else (n,k))=some kd:=by
    split at h' <;> simpa only [Ja6,hx] using h'
   rcases ih h2 with z|z
   .exact .inl (by simp only[Ja6,hx];exact z)
   .exact .inr (by simp only[Ja6,hx];exact z)
def Zk3 (X:Cx)(N:List Str)(scope:Scope)(cl:List (Str×Addr))(s:Shared)(H:Hp)(fp:List Addr):Cx where
 prog:=X.prog
 w:=X.w
 K:=X.K
 mg:=X.mg
 base:=X.base
 A:=X.A
 N:=N
 s₀:=s
 H₀:=H
 env:={ scope:=relabel scope X.env,locals:=s.heap.objs.size,globals:=X.env.globals,cells:=cellsFrom (s.heap.objs.size+1) scope.names cl,qual:=X.env.qual,func:=none,code:=X.env.code,frame:=X.env.frame,builtins:=X.env.builtins }
 outer:=X.stack
 stack:=X.stack
 ex:=fp
 fn:=λx=>scope.names.lookup x == some .cell
 calm:=X.calm
 pn:=[]
 xe:=λ_ _=>False
structure BlScope (X:Cx)(scope:Scope)(own:List Str)(fr:List (Str×Nat)):Prop where
 kind:scope.kind=.function
 free:∀ y∈scope.names,y.2=.free->X.env.scope.names.lookup y.1=some .cell\/X.env.scope.names.lookup y.1=some .free
 loc:∀ y∈scope.names,y.2=.local->scope.names.lookup y.1=some .local
 look:∀ y∈scope.names,scope.names.lookup y.1=some y.2
 cap:∀ y∈fr,scope.names.lookup y.1=some .free/\X.N[y.2]?=some y.1
def Zg2 (k:Nat)(fr:List (Str×Nat))(σ:St):St:=List.replicate k none++fr.map λy=>(σ[y.2]?).getD none
def Zjq (own:List Str)(fr:List (Str×Nat)):List Str:=own++fr.map (·.1)
section
variable {X:Cx}{pins:List (Addr×Obj)}{σ:St}{H:Hp}{s:Shared}
theorem Zro {scope:Scope}{own:List Str}{fr:List (Str×Nat)}{cl:List (Str×Addr)}{fp:List Addr}{h':Heap}(I:Inv X pins σ H s)(B:BlScope X scope own fr)(hcl:∀ x c,cl.lookup x=some c->X.env.cells.lookup x=some c)(hcl2:∀ y∈scope.names,y.2=.free->∃ c,cl.lookup y.1=some c)(hfp:∀ b∈fp,Zo9 X pins H b)(hfo:∀ b∈fp,∃ o,s.heap.get? b=some o)(hn:h'.Ns s.heap.objs.size (λ_=>none))(hk:∀ b o,s.heap.get? b=some o->h'.get? b=some o)(hc:∀ x c,(cellsFrom (s.heap.objs.size+1) scope.names cl).lookup x=some c->h'.IsCell c none\/cl.lookup x=some c):
  Inv (Zk3 X (Zjq own fr) scope cl s H fp) [] (Zg2 own.length fr σ) H { s with heap:=h' }:=by
 have clt:∀ x c,cl.lookup x=some c->c<s.heap.objs.size:=λx c e=>by
  obtain⟨v,z⟩:=I.cell x c (hcl x c e);exact z.lt
 have ownC:∀ x c,(cellsFrom (s.heap.objs.size+1) scope.names cl).lookup x=some c->s.heap.objs.size+1<=c\/cl.lookup x=some c:=λx c e=>Zu0 _ _ _ e;have bsz:X.base.objs.size<=s.heap.objs.size:=Ja4 I.ok.bsz I.sz;refine⟨⟨I.ok.mod,B.kind,I.ok.glob,I.ok.blt,Jag _,?_,?_,?_,I.ok.hd,I.ok.frames,.inl rfl,?_,I.bs,bsz,?_,?_,I.stack,I.stkFree,I.ok.top⟩,rfl,I.bare,Un.kept hk,⟨_,hn,?_⟩,?_,I.hok.fresh (Jag _),?_,?_,I.hok.kept hk,?_⟩
 .exact Zsf _ _ _ (λx c e=>Jcz (clt x c e)) λx y c e1 e2=>I.ok.inj x y c (hcl x c e1) (hcl y c e2)
 .intro x hx;have hx:(relabel scope X.env).names.lookup x=some .cell\/(relabel scope X.env).names.lookup x=some .free:=hx;have q:scope.names.lookup x=some .cell\/scope.names.lookup x=some .free:=by
   rcases hx with z|z
   .exact Zfb z
   .exact (Zfb z).elim .inr .inr
  refine Jdc.mp (Jcs scope.names _ _ ?_);rcases q with z|z
  .exact .inl z
  .obtain ⟨c,e⟩:=hcl2 _ (Jbx z) rfl;exact .inr (by rw[e];rfl)
 .intro x c hf e;have hf:(scope.names.lookup x == some .cell)=true:=hf;exact Jbz (Zsd _ _ _ (Jbx (Jbw.mp hf)) e)
 .intro b hb;obtain⟨o,ho⟩:=hfo b hb;refine⟨Jbr (Jan ho),λx c e=>?_⟩;rcases ownC x c e with z|z
  .intro q;subst q;exact absurd (Jau (Jan ho) (Jbz z)) (Jb4 _)
  .exact (hfp b hb).2.2.2.2.1 x c (hcl x c z)
 .intro b o e hb;rcases (hfp b hb).2.2.2.1 with z|z
  .exact I.ok.noex b o e z
  .exact absurd (Jau (Jan e) (Ja4 I.ok.bsz z)) (Jb4 _)
 .intro b hb z;rcases Jbo.mp (I.stkSub b z) with q|q
  .exact (hfp b hb).2.1 q
  .exact (hfp b hb).2.2.1 q
 .intro i x v h1 h2 h3;have h1:(Zjq own fr)[i]?=some x:=h1;unfold Zjq at h1;unfold Zg2 at h2;by_cases hi:i<own.length
  .rw [Jao (by rw[Ja8];exact hi),Jby,if_pos hi] at h2;cases h2
  .have hi':own.length<=i:=Jcq hi;rw[Jam hi',Jad] at h1;rw[Jam (by rw[Ja8];exact hi'),Ja8,Jad] at h2;cases e:fr[i-own.length]? with
   | none=>rw[e] at h1;cases h1
   | some y=>
    rw[e] at h1 h2;have hy1:y.1=x:=Jbp h1;have hy2:(σ[y.2]?).getD none=some v:=Jbp h2;obtain⟨c1,c2⟩:=B.cap y (Jae e);rw[hy1] at c1 c2;have hs:σ[y.2]?=some (some v):=by
     cases e2:σ[y.2]? with
     | none=>rw[e2] at hy2;cases hy2
     | some o=>rw[e2] at hy2;cases o with
      | none=>cases hy2
      | some w=>cases hy2;rfl
    refine Zae I.loc λm hm hl=>?_;have hfree:=B.free _ (Jbx c1) rfl;refine Zae (hl y.2 x v c2 hs (hfree.elim (λz=>.inr (.inl z)) λz=>.inr (.inr z))) λu r l=>?_;refine⟨u,r,?_⟩;obtain⟨k,c,e3,z⟩:(X.env.kindOf x=some .cell\/X.env.kindOf x=some .free)/\∃ c,X.env.cells.lookup x=some c/\s.heap.IsCell c (some u):=by
     rcases l with ⟨k,_⟩|q
     .have k:X.env.scope.names.lookup x=some .local:=k;rcases hfree with z|z <;> (rw[z] at k;cases k)
     .exact q
    obtain⟨d,hd⟩:=hcl2 _ (Jbx c1) rfl;have hd':=hcl x d hd;rw[e3] at hd';cases hd';obtain⟨c',hc'⟩:∃ c',(cellsFrom (s.heap.objs.size+1) scope.names cl).lookup x=some c':=Jdc.mp (Jcs scope.names _ _ (.inr (by rw[hd];rfl)));have hcc:c'=c:=by
     rcases ownC x c' hc' with q|q
     .-- an own cell of that name: it is free,so no
      exfalso;have:(x,NameKind.cell)∉scope.names:=λm=>by
       have:=B.look _ m;rw[c1] at this;cases this
      exact absurd hc' (by
       rw[Zse this];intro z;rw[hd] at z;cases z;exact absurd (clt x _ hd) (Nat.not_lt.mpr (Jbz q)))
     .rw [hd] at q;cases q;rfl
    subst hcc;refine .inr ⟨?_,c',hc',z.keeps hk⟩;exact Zhz c1
 .intro x c e;rcases hc x c e with z|z
  .exact ⟨_,z⟩
  .obtain ⟨v,q⟩:=I.cell x c (hcl x c z);exact⟨v,q.keeps hk⟩
 .intro x c e;rcases ownC x c e with z|z
  .exact I.hok.fresh (Jbz z)
  .exact I.freeC x c (hcl x c z)
 .intro p hp;exact absurd (show p∈([]:List (Addr×Obj)) from hp) (by simp)
 .show (Zg2 _ _ _).length=(Zjq _ _).length;unfold Zg2 Zjq;simp
end
def PTs (X:Cx)(ifs:List Expr)(t:TT):Prop:=
 ∀ (pins:List (Addr×Obj)) (s:Shared) (σ:St) (H:Hp) (Q:Bool->Hp->Prop),Inv X pins σ H s->t σ H Q->
  wpAny (model X.prog X.w) X.A (forIn ifs true λc r=>if r=true then do let ok <- isTrue c X.env (eval c X.env);pure (ForInStep.yield ok) else pure (ForInStep.yield r)) (TP X pins σ Q) X.xe s
def Zew:TT:=λ_ H Q=>Q true H
theorem Zay {X:Cx}:PTs X [] Zew:=λpins s σ H Q I h=>wpAny_tests_nil ⟨H,I,h⟩
theorem Zmt {X:Cx}{c:Expr}{t:TT}(hc:PT X c t):PTs X [c] t:=λpins s σ H Q I h=>wpAny_tests_one (hc pins s σ H Q I h)
section
variable {prog:Program}{w:World}{A:Around}{R:Result->Shared->Prop}{s:Shared}
theorem Zl4 {elt target iter:Expr}{ifs:List Expr}{scope:Scope}{pos:Pos}{it acc:Value}{env:Env}(I:Nat->Shared->Prop)(turn:∀ n s,I n s->wpAny (model prog w) A (pyNext it) (λr s₁=>match r with
   | none=>R (.ok .next) s₁
   | some v=>wpAny (model prog w) A (letOwnedTupleGo target it v) (λ_ s₁=>wpAny (model prog w) A (assign target env v) (λ_ s₂=>
     wpAny (model prog w) A (forIn ifs true λc r=>if r=true then do let ok <- isTrue c env (eval c env);pure (ForInStep.yield ok) else pure (ForInStep.yield r)) (λok s₃=>
      if ok=true then wpAny (model prog w) A (eval elt env) (λx s₄=>
       wpAny (model prog w) A (call (.builtin "list.append") [acc,x]) (λ_ s₅=>∃ m,m<n/\I m s₅) (λ_ _=>False) s₄) (λ_ _=>False) s₃
      else ∃ m,m<n/\I m s₃) (λ_ _=>False) s₂) (λ_ _=>False) s₁) (λ_ _=>False) s₁) (λ_ _=>False) s)(n:Nat)(h:I n s):
  codeAny (model prog w) A (.compLoop (.ListComp elt [⟨target,iter,ifs,0⟩] scope pos) 0 it acc env) R s:=by
 refine codeAny_loop rfl I (λn s hI=>?_) n h;show wpAny _ A ((compTurn (.ListComp elt [⟨target,iter,ifs,0⟩] scope pos) 0 it acc env).onRaise (λx=>do noteFrame x env;theTreesLotGoes x)) _ _ s;refine wpAny_noted ?_;rw[compTurn_list];refine Jai (Jec (Jai (Jci (turn n s hI) (λr s₁ h₁=>?_) λ_ _ h'=>h'.elim)));cases r with
 | none=>exact Ja9 h₁
 | some v=>
  refine Jai (Jci h₁ (λ_ s₁' h₁'=>?_) λ_ _ h'=>h'.elim);refine Jai (Jci h₁' (λ_ s₂ h₂=>Jai (Jci h₂ (λok s₃ h₃=>?_) λ_ _ h'=>h'.elim)) λ_ _ h'=>h'.elim);cases ok with
  | false=>exact Ja9 ⟨rfl,h₃⟩
  | true=>
   exact Jai (Jai (Jci h₃ (λx s₄ h₄=>Jai (Jci h₄ (λ_ s₅ h₅=>Ja9 (Ja9 ⟨rfl,h₅⟩)) λ_ _ h'=>h'.elim)) λ_ _ h'=>h'.elim))
end
def Zbu (g:TG)(tt:TT)(te:TE)(J:It)(D:Addr)(σ0:St)(H1:Hp)(Q:VK):Prop:=
 ∃ W:Nat->Nat->St->Hp->Prop,(∃ m,W 0 m σ0 (upd H1 D (.lst [])))/\∀ i m σ' H2,W i m σ' H2->
  (J.stop i H2/\Q (.ref D) H2)\/(J.go i H2/\∀ x H3,J.yld i H2 x H3->g x σ' H3 λσ4 H4=>tt σ4 H4 λb H5=>
   if b=true then te σ4 H5 λy H6=>∃ vs,H6 D=some (.lst vs)/\vs.length<sizeLine/\∃ m',m'<m/\W (i+1) m' σ4 (upd H6 D (.lst (vs++[y])))
   else ∃ m',m'<m/\W (i+1) m' σ4 H5)
def tComp (k:Nat)(fr:List (Str×Nat))(wi:TI)(g:TG)(tt:TT)(te:TE):TE:=λσ H Q=>wi σ H λJ H1=>∀ D,H1 D=none->Zbu g tt te J D (Zg2 k fr σ) H1 Q
section
variable {X:Cx}{tg iter elt:Expr}{ifs:List Expr}{scope:Scope}{pos:Pos}{own:List Str}{fr:List (Str×Nat)}{wi:TI}{g:TG}{tt:TT}{te:TE}
theorem Zoh {pins:List (Addr×Obj)}{s2:Shared}{σ:St}{H2:Hp}{it:Addr}{fp:List Addr}{tn:Nat->Heap->Prop}{J:It}{Q:VK}{cl:List (Str×Addr)}{RR:Value->Addr->Result->Shared->Prop}{E:Value->Shared->Prop}(hc:X.calm=true)(B:BlScope X scope own fr)(hb:∀ cl s H fp,PG (Zk3 X (Zjq own fr) scope cl s H fp) tg g/\PTs (Zk3 X (Zjq own fr) scope cl s H fp) ifs tt/\PE (Zk3 X (Zjq own fr) scope cl s H fp) elt te)(hcl:∀ x c,cl.lookup x=some c->X.env.cells.lookup x=some c)(hcl2:∀ y∈scope.names,y.2=.free->∃ c,cl.lookup y.1=some c)(I2:Inv X pins σ H2 s2)(T:Turn X.prog X.w X.K tg J fp it tn)(st2:tn 0 s2.heap)(f2:∀ b∈fp,Zo9 X pins H2 b)(q:∀ D,H2 D=none->Zbu g tt te J D (Zg2 own.length fr σ) H2 Q)(hRR:∀ D C s' H',Inv X pins σ H' s'->Q (.ref D) H'->(∃ m,s'.heap.Ns C m)->C≠X.env.locals->(∀ x c,X.env.cells.lookup x=some c->c≠C)->(∀ p∈X.pn++pins,p.1≠C)->X.s₀.heap.objs.size<=C->H' C=none->RR (.ref D) C (.ok .next) s'):
  wpAny (model X.prog X.w) X.A (newList []) (λacc s₃=>wpAny (model X.prog X.w) X.A (newFunctionEnv scope X.env.globals cl [] X.env.qual none .none (some X.env)) (λcenv s₄=>
   codeAny (model X.prog X.w) X.A (.compStart (.ListComp elt [⟨tg,iter,ifs,0⟩] scope pos) 0 (.ref it) acc { cenv with scope:=relabel scope X.env }) (RR acc cenv.locals) s₄) E s₃) E s2:=by
 refine wpAny_newObj_type ?_;have fr0:H2 s2.heap.objs.size=none:=I2.hok.fresh (Jag _);have I3:=I2.lnew (its:=[]) (ys:=[]) (t':=s2.toks) .nil (Jb5 _);generalize hs3:({ s2 with heap:=s2.heap.push { cls:=.type "list",data:=.seq ([]:List Value).toArray } }:Shared)=s3 at *;have k23:∀ b o,s2.heap.get? b=some o->s3.heap.get? b=some o:=λb o e=>by rw[<- hs3];exact Jaq _ e
 have sz3:s3.heap.objs.size=s2.heap.objs.size+1:=by rw[<- hs3];exact Jbt ..
 have I3':Inv X pins σ (upd H2 s2.heap.objs.size (.lst [])) s3:=I3;have fne:∀ b∈fp,b≠s2.heap.objs.size:=λb hb z=>by
  refine Zae (T.obj 0 _ st2 b hb) λo ho _=>?_;exact absurd (Jan ho) (by rw[z];exact Jb4 _)
 have f3:∀ b∈fp,Zo9 X pins (upd H2 s2.heap.objs.size (.lst [])) b:=λb hb=>⟨by rw[Zaj (fne b hb)];exact (f2 b hb).1,(f2 b hb).2⟩
 have st3:tn 0 s3.heap:=T.keep 0 _ _ st2 λb _ o e=>k23 b o e;have hfo:∀ b∈fp,∃ o,s3.heap.get? b=some o:=λb hb=>let ⟨o,ho,_⟩:=T.obj 0 _ st3 b hb;⟨o,ho⟩;refine Zlr λh' hn hk hce=>?_;have I4:=Zro (own:=own) I3' B hcl hcl2 f3 hfo hn hk hce;refine Za2 (hb cl s3 (upd H2 s2.heap.objs.size (.lst [])) fp) λhg ht he=>?_;have st4:tn 0 h':=T.keep 0 _ _ st3 λb _ o e=>hk b o e;have stat:∀ {H':Hp},(∀ b∈fp,H' b=none)->∀ b∈fp,Zo9 (Zk3 X (Zjq own fr) scope cl s3 (upd H2 s2.heap.objs.size (.lst [])) fp) [] H' b:=λ{H'} hnn b hb=>
  ⟨hnn b hb,(I4.ok.exf b hb).1,I4.ok.exfs b hb,.inl hb,(I4.ok.exf b hb).2,λp hp=>absurd (show p∈([]:List (Addr×Obj)) from hp) (by simp)⟩
 refine Zae (q s2.heap.objs.size fr0) λW e92 turn=>?_;obtain⟨m0,w0⟩:=e92;have loop:codeAny (model X.prog X.w) X.A (.compLoop (.ListComp elt [⟨tg,iter,ifs,0⟩] scope pos) 0 (.ref it) (.ref s2.heap.objs.size) (Zk3 X (Zjq own fr) scope cl s3 (upd H2 s2.heap.objs.size (.lst [])) fp).env)
   (RR (.ref s2.heap.objs.size) s3.heap.objs.size) { s3 with heap:=h' }:=by
  refine Zl4 (λn s'=>∃ i σ' H',Inv (Zk3 X (Zjq own fr) scope cl s3 (upd H2 s2.heap.objs.size (.lst [])) fp) [] σ' H' s'/\tn i s'.heap/\(∀ b∈fp,H' b=none)/\W i n σ' H') ?_ m0
   ⟨0,_,_,I4,st4,λb hb=>(f3 b hb).1,w0⟩
  intro n s5 e91;refine Zb9 e91 λi σ5 H5 I5 st5 fr5 w5=>?_;clear e91;rcases turn i n σ5 H5 w5 with ⟨stop,qn⟩|⟨go,step⟩
  .refine thn (T.done (Zk3 X (Zjq own fr) scope cl s3 (upd H2 s2.heap.objs.size (.lst [])) fp) rfl rfl rfl hc i [] s5 σ5 H5 _ I5 (stat fr5) st5 stop) λr s6 ⟨hr,I6⟩=>?_;subst hr;have I7:Inv X pins σ H5 s6:=I3'.call' (ch:=fp) I6.os I6.base I6.hok I6.bare λb hb=>⟨(f3 b hb).2.2.2.1,(f3 b hb).2.1,(f3 b hb).2.2.2.2.1,(f3 b hb).2.2.2.2.2⟩
   refine Zae I6.loc λm6 hn6 _=>?_;refine hRR _ _ s6 H5 I7 qn ⟨m6,hn6⟩ (Jd3 I3'.lt) (λx c e=>?_) (λp hp=>?_) I3'.sz I6.free
   .obtain ⟨v,z⟩:=I3'.cell x c e;exact Jbr z.lt
   .exact Jbr (Jan (I3'.pin p hp).1)
  .refine thn (T.item (Zk3 X (Zjq own fr) scope cl s3 (upd H2 s2.heap.objs.size (.lst [])) fp) rfl rfl rfl hc i [] s5 σ5 H5 _ I5 (stat fr5) st5 go) λr s6 ⟨u,hr,h6⟩=>?_;subst hr;refine thn h6 λ_ s7 ⟨x,H7,I7,r7,y7,st7,fr7⟩=>?_;have I7':=I7.pinned (stat fr7) (T.obj _ _ st7);refine thn (hg _ s7 σ5 H7 x u _ I7' r7 (step x H7 y7)) λ_ s8 ⟨σ8,H8,I8,q8⟩=>?_;refine thn (ht _ s8 σ8 H8 _ I8 q8) λb s9 ⟨H9,I9,q9⟩=>?_;have again:∀ {sA:Shared} {σA:St} {HA:Hp} {m':Nat},Inv (Zk3 X (Zjq own fr) scope cl s3 (upd H2 s2.heap.objs.size (.lst [])) fp) ([]++Zln fp s7.heap) σA HA sA->m'<n->W (i+1) m' σA HA->
     ∃ m,m<n/\∃ i σ' H',Inv (Zk3 X (Zjq own fr) scope cl s3 (upd H2 s2.heap.objs.size (.lst [])) fp) [] σ' H' sA/\tn i sA.heap/\(∀ b∈fp,H' b=none)/\W i m σ' H':=λ{sA σA HA m'} IA hm wA=>by
    refine⟨m',hm,i+1,σA,HA,IA.unpinned,T.keep _ _ _ st7 λb hb o e=>(IA.pin (b,o) (Jbj _ (Jbj _ (Zfl hb e)))).1,λb hb=>?_,wA⟩;refine Zae (T.obj _ _ st7 b hb) λo e d=>?_;exact (IA.pin (b,o) (Jbj _ (Jbj _ (Zfl hb e)))).2.1
   cases b with
   | false=>
    refine Zae q9 λm' hm w9=>?_;clear q9;exact again I9 hm w9
   | true=>
    have q9:te σ8 H9 _:=q9;show wpAny _ _ _ _ _ _;refine thn (he _ s9 σ8 H9 _ I9 q9) λy sA ⟨vy,HA,IA,rA,vs,hvs,hlen,m',hm,wA⟩=>?_;refine thn (Zb5 (X:=Zk3 X (Zjq own fr) scope cl s3 (upd H2 s2.heap.objs.size (.lst [])) fp) _ sA σ8 HA (.ref s2.heap.objs.size) [vy] (.ref s2.heap.objs.size) [y] (λ_ HB=>W (i+1) m' σ8 HB) IA rfl (.cons rA .nil) ⟨_,vs,vy,rfl,rfl,hvs,hlen,wA⟩) λ_ sB ⟨_,HB,IB,_,wB⟩=>?_;exact again IB hm wB
 exact codeAny_compStart_list loop (T.self _ 0 _ _ _ st4 loop)
theorem SameBut.get {a:Addr}{h h':Heap}(x:Heap.SameBut a h h'):∀ b o,b≠a->h.get? b=some o->h'.get? b=some o:=λb o n e=>(x.2 b n).trans e
theorem Za3 (hc:X.calm=true)(B:BlScope X scope own fr)(hi:PI X tg iter wi)(hb:∀ cl s H fp,PG (Zk3 X (Zjq own fr) scope cl s H fp) tg g/\PTs (Zk3 X (Zjq own fr) scope cl s H fp) ifs tt/\PE (Zk3 X (Zjq own fr) scope cl s H fp) elt te)(hs:∀ x,foldedSetIterable iter X.env x=pure x:=by intro _;rfl):
  PE X (.ListComp elt [⟨tg,iter,ifs,0⟩] scope pos) (tComp own.length fr wi g tt te):=by
 intro pins s σ H Q I h;refine Zav (Zsc (scope:=scope) (env:=X.env) λy hy hf=>I.ok.has y.1 (B.free y hy hf)) λcl hclos hcl hcl2=>?_;rw[eval_ListComp];refine wpAny_comprehension_free (use:=none) rfl hs hclos B.kind B.loc (thn (hi pins s σ H _ I h) λv s1 h1=>thn h1 λitv s2 h2=>?_);refine Zg4 h2 λit fp tn J H2 e I2 T e93=>?_;clear h2;refine Za2 e93 λst2 f2 q=>?_;clear e93;subst e;refine Zoh (RR:=λacc C=>compPost (model X.prog X.w) X.A X.xe none (EP X pins σ Q) acc C) (Q:=Q) hc B hb hcl hcl2 I2 T st2 f2 q ?_;intro D C s' H' I' hq hn n1 n2 n3 n4 n5;obtain⟨m,hn⟩:=hn;refine⟨m,hn,λh' hs'=>⟨.ref D,H',I'.turned (it:=C) (t':=s'.toks) (λb o hb e=>SameBut.get hs' b o hb e) n5 (Jdq (Jdq n1)) (.inr n4) n2 n3,rfl,hq⟩⟩
theorem Zfd {i:Nat}{x:Str}{pos' spos:Pos}(hc:X.calm=true)(B:BlScope X scope own fr)(hi:PI X tg iter wi)(hb:∀ cl s H fp,PG (Zk3 X (Zjq own fr) scope cl s H fp) tg g/\PTs (Zk3 X (Zjq own fr) scope cl s H fp) ifs tt/\PE (Zk3 X (Zjq own fr) scope cl s H fp) elt te)(hN:X.N.Nodup)(hix:X.N[i]?=some x)(hx:X.env.scope.names.lookup x=some .local)(hsw:swapsWith (.ListComp elt [⟨tg,iter,ifs,0⟩] scope pos) (some (.Name x pos')) spos.line X.env=pure true)(hs:∀ x,foldedSetIterable iter X.env x=pure x:=by intro _;rfl):
  PS X (.Assign [.Name x pos'] (.ListComp elt [⟨tg,iter,ifs,0⟩] scope pos) spos) (tAsg (tComp own.length fr wi g tt te) (Zbe i)):=by
 intro pins s σ H D I h;refine Zav (Zsc (scope:=scope) (env:=X.env) λy hy hf=>I.ok.has y.1 (B.free y hy hf)) λcl hclos hcl hcl2=>?_;rw[exec_Assign_Name_used _ _ _ _ hsw];refine Jai (Jec (Jai ?_));show wpAny _ _ (do let _ <- comprehension (.ListComp elt [⟨tg,iter,ifs,0⟩] scope pos) scope X.env _ (newList []) false (eval iter X.env) (some (assign (.Name x pos') X.env))) _ _ s;refine Jai (Jci (wpAny_comprehension_free (use:=some (assign (.Name x pos') X.env)) (Q:=λ_ s'=>SP X pins D .next s') rfl hs hclos B.kind B.loc (thn (hi pins s σ H _ I h) λv s1 h1=>thn h1 λitv s2 h2=>?_))
  (λ_ s' hq=>Ja9 (Ja9 hq)) λ_ _ e=>e)
 refine Zg4 h2 λit fp tn J H2 e I2 T e94=>?_;clear h2;refine Za2 e94 λst2 f2 q=>?_;clear e94;subst e;refine Zoh (RR:=λacc C=>compPost (model X.prog X.w) X.A X.xe (some (assign (.Name x pos') X.env)) (λ_ s'=>SP X pins D .next s') acc C) (Q:=λv H'=>Zbe i v σ H' D.nx) hc B hb hcl hcl2 I2 T st2 f2 q ?_;intro DD C s' H' I' hq hn n1 n2 n3 n4 n5;obtain⟨m,hn⟩:=hn;show wpAny _ _ (assign (.Name x pos') X.env (.ref DD)) _ _ s';refine wpAny_assign_Name (Zlf I' hN hix (.inl hx) (v:=.ref DD) rfl (λs3 I3 ⟨a,hsa,ha⟩=>?_) (.inr hx));have hCa:C≠a:=by
  rcases ha with z|z
  .rw [z];exact n1
  .exact (n2 x a z).symm
 refine⟨m,hn.sameBut hsa hCa,λh' hs'=>⟨σ.set i (some (.ref DD)),H',I3.turned (it:=C) (t':=s3.toks) (λb o hb e=>SameBut.get hs' b o hb e) n5 n1 (.inr n4) n2 n3,hq⟩⟩
end
section
variable {X:Cx}
theorem Zbp:OpR X (binaryOp .Mult) (rI IntMulOk λi j=>.int (i*j)):=
 opI λi j t u s Q E c h=>PyProof.Rows.mul_int h c
def cV:V->Option Value
 | .ty n=>some (.type n)
 | .ref a=>some (.ref a)
 | _=>none
theorem Za5:Zhm X (.builtin "isinstance") (λxs H Q=>∃ x y c t b,xs=[x,y]/\cV y=some c/\TyOf X.K H x t/\PySem.W.kitOne X.K t c=some b/\Q (.bl b) H):=by
 intro pins s σ H xs us Q I r h;refine Zg4 h λx y c t b e93 hc ty e94=>?_;clear h;obtain rfl:=e93;obtain⟨e,q⟩:=e94;refine Zbt (vals2 r) λu v e95 rx ry=>?_;obtain rfl:=e95;have hv:v=c:=by
  cases y <;> first|(cases hc;done)|(cases hc;cases ry;rfl)
 subst hv;exact Zrh I rx ty e λtk=>⟨.bl b,H,I.tok _,rfl,q⟩
theorem Zdn (bs:List Bool):(List.range bs.length).all (λi=>(bs[i]?).getD true)=bs.all id:=by
 rw[Jb1,Jbe,Jbe];constructor
 .intro h b hb;obtain⟨i,hi,rfl⟩:=Ja1.mp hb;have:=h i (Ja0.mpr hi);rw[Jaa hi] at this;exact this
 .intro h i hi;have hi:=Ja0.mp hi;rw[Jaa hi];exact h _ (Jap hi)
theorem Zne {A:Around}{prog:Program}{w:World}{bs:List Bool}{its:List Value}(r:Vals (bs.map V.bl) its):TruthOf prog w A (λi v=>its.toArray[i]?=some v) (λi=>(bs[i]?).getD true):=by
 intro i v s Q E hP hQ;have hP:its[i]?=some v:=by simpa using hP
 have hl:=r.length;rw[Jab] at hl;have hi:i<bs.length:=by rw[hl];exact (Jaf.mp hP).1
 obtain⟨u,hu,rv⟩:=r.get (i:=i) (x:=.bl bs[i]) (by rw[Jad,Jaa hi];rfl);rw[hP] at hu;cases hu;cases rv;have hQ:Q ((bs[i]?).getD true) s:=hQ;rw[Jaa hi] at hQ;exact Jbq hQ
theorem Zcv (hc:X.calm=true):Zhm X (.builtin "all") (λxs H Q=>∃ (p:Addr) (bs:List Bool),xs=[.ref p]/\SqL X.K H p (bs.map V.bl)/\Q (.bl (bs.all id)) H):=by
 intro pins s σ H xs us Q I r h;refine Zbt h λp bs e96 hq q=>?_;clear h;obtain rfl:=e96;refine Zae (Zme r) λu e97 rx=>?_;obtain rfl:=e97;cases rx;refine Zav (I.list hq) λits rv pl hz=>?_;have hl:=rv.length;rw[Jab] at hl;refine call_all_walk (Jck pl.isList ?_);have hne:p≠s.heap.objs.size:=λe=>by
  refine Zbd pl λo n ho _=>?_;clear pl;exact absurd (Jan ho) (by rw[e];exact Jb4 _)
 refine Zla s.heap.objs.size _ _ _ _ _ (λi=>(bs[i]?).getD true) ⟨rfl,Walks.list (A:=X.A.in1) (I.ok.hd hc) _ p hne its.toArray,⟨⟨_,Ja2 _ rfl,rfl,rfl⟩,pl.isList.at λo e=>Jaq _ e⟩,Zne rv,λh' tk kp=>?_⟩;have e:(List.range its.toArray.size).all (λi=>(bs[i]?).getD true)=bs.all id:=by
  rw[Jaw,<- hl];exact Zdn bs
 rw[e];have f:=I.fpOk (H':=H) (Jag s.heap.objs.size) (I.hok.fresh (Jag _));exact Zaq (.bl _) H ⟨(I.kept (h':=s.heap.push { cls:=.type "list_iterator",data:=.fields #[.ref p,.int 0 0] }) (t':=s.toks) λb o e=>Jaq _ e).turned (it:=s.heap.objs.size) (t':=tk) (λb o hb e=>kp b o (by simpa using hb) e) f.1 f.2.1 f.2.2.2.1 f.2.2.2.2.1 f.2.2.2.2.2,rfl,q⟩
end
inductive EqD (K:Frag) (H:Hp):Nat->V->V->Bool->Prop where
 | flat {n:Nat} {x y:V} (hx:Zo6 x=true) (hy:Zo6 y=true):EqD K H n x y (eqV x y)
 | same {n:Nat} {a:Addr}:EqD K H n (.ref a) (.ref a) true
 | list {n:Nat} {a c:Addr} {xs ys:List V} {bs:List Bool} (ne:a≠c) (ha:SqL K H a xs) (hc:SqL K H c ys) (hl:xs.length=ys.length) (hb:bs.length=xs.length)
   (he:∀ (j:Nat) x y b,xs[j]?=some x->ys[j]?=some y->bs[j]?=some b->EqD K H n x y b):EqD K H (n+1) (.ref a) (.ref c) (bs.all id)
 | listL {n:Nat} {a c:Addr} {xs ys:List V} (ne:a≠c) (ha:SqL K H a xs) (hc:SqL K H c ys) (hl:xs.length≠ys.length):EqD K H (n+1) (.ref a) (.ref c) false
 | tuple {n:Nat} {a c:Addr} {xs ys:List V} {bs:List Bool} (ne:a≠c) (ha:SqT K H a xs) (hc:SqT K H c ys) (hl:xs.length=ys.length) (hb:bs.length=xs.length)
   (he:∀ (j:Nat) x y b,xs[j]?=some x->ys[j]?=some y->bs[j]?=some b->EqD K H n x y b):EqD K H (n+1) (.ref a) (.ref c) (bs.all id)
def Zek (K:Frag)(H:Hp)(n:Nat)(xs ys:List V)(bs:List Bool):Prop:=
 xs.length=ys.length/\bs.length=xs.length/\∀ (j:Nat) x y b,xs[j]?=some x->ys[j]?=some y->bs[j]?=some b->EqD K H n x y b
section
variable {X:Cx}{pins:List (Addr×Obj)}{σ:St}{H:Hp}{s:Shared}
theorem Zfm {A:Around}{xs ys:List V}{us vs:List Value}{bs:List Bool}(rx:Vals xs us)(ry:Vals ys vs)(hl:xs.length=ys.length)(hb:bs.length=xs.length)(ih:∀ (j:Nat) x y b,xs[j]?=some x->ys[j]?=some y->bs[j]?=some b->∀ u v,RelV x u->RelV y v->SeqAt.EqAt A s u v b):
  ∀ j (h1:j<us.toArray.size) (h2:j<vs.toArray.size),SeqAt.EqAt A s us.toArray[j] vs.toArray[j] ((bs[j]?).getD true):=by
 intro j h1 h2;have e1:=rx.length;have e2:=ry.length;have h1':j<us.length:=by simpa using h1
 have h2':j<vs.length:=by simpa using h2
 have g1:xs[j]?=some (xs[j]'(by omega)):=Jaa _;have g2:ys[j]?=some (ys[j]'(by omega)):=Jaa _;have g3:bs[j]?=some (bs[j]'(by omega)):=Jaa _;refine Zae (rx.get g1) λu hu ru=>?_;refine Zae (ry.get g2) λv hv rv=>?_;have eu:us.toArray[j]=u:=by
  rw[Jaa h1'] at hu;simpa using hu
 have ev:vs.toArray[j]=v:=by
  rw[Jaa h2'] at hv;simpa using hv
 rw[eu,ev,g3];exact ih j _ _ _ g1 g2 g3 u v ru rv
theorem EqD.at {n:Nat}{x y:V}{b:Bool}(I:Inv X pins σ H s)(e:EqD X.K H n x y b):∀ {A:Around} {u v:Value},A.units+n<cLine->RelV x u->RelV y v->SeqAt.EqAt A s u v b:=by
 induction e with
 | flat hx hy=>intro A u v _ ru rv;exact eqAt_V ru rv hx hy
 | same=>intro A u v _ ru rv;cases ru;cases rv;exact SeqAt.EqAt.same _
 | @list n a c xs ys bs ne ha hc hl hb he ih=>
  intro A u v hA ru rv;cases ru;cases rv;refine Zav (I.list ha) λits r1 p1 _=>?_;refine Zav (I.list hc) λits' r2 p2 _=>?_;have e1:=r1.length;have e2:=r2.length;have q:=SeqAt.RcAt.lists (e:=λj=>(bs[j]?).getD true) p1.isList p2.isList (by simp;omega) ∅ (Zfm (A:=A.in1) r1 r2 hl hb λj x y b h1 h2 h3 u v ru rv=>ih j x y b h1 h2 h3 (show A.units+1+n<cLine by omega) ru rv);rw[show its.toArray.size=bs.length by simp;omega,Zdn] at q;exact Jd6 ne q
 | @listL n a c xs ys ne ha hc hl=>
  intro A u v hA ru rv;cases ru;cases rv;refine Zav (I.list ha) λits r1 p1 _=>?_;refine Zav (I.list hc) λits' r2 p2 _=>?_;have e1:=r1.length;have e2:=r2.length;exact Jd6 ne (SeqAt.RcAt.lists_lengths p1.isList p2.isList (by simp;omega) ∅)
 | @tuple n a c xs ys bs ne ha hc hl hb he ih=>
  intro A u v hA ru rv;cases ru;cases rv;refine Zav (I.tuple ha) λits r1 p1 _=>?_;refine Zav (I.tuple hc) λits' r2 p2 _=>?_;have e1:=r1.length;have e2:=r2.length;have q:=SeqAt.RcAt.tuples (e:=λj=>(bs[j]?).getD true) p1 p2 ∅ (Zfm (A:=A.in1) r1 r2 hl hb λj x y b h1 h2 h3 u v ru rv=>ih j x y b h1 h2 h3 (show A.units+1+n<cLine by omega) ru rv);rw[show min its.toArray.size its'.toArray.size=bs.length by simp;omega,Zdn,show (its.toArray.size == its'.toArray.size)=true by simp;omega,Jdv] at q;exact Jd6 ne q
def rEqL (K:Frag)(neg:Bool):R2:=λx y H Q=>∃ a c xs ys,x=.ref a/\y=.ref c/\SqL K H a xs/\SqL K H c ys /\
 ((xs.length≠ys.length/\Q (.bl neg) H)\/∃ bs,Zek K H 6 xs ys bs/\Q (.bl (if neg then !bs.all id else bs.all id)) H)
def Zvm (K:Frag)(neg:Bool):R2:=λx y H Q=>∃ a c xs ys bs,x=.ref a/\y=.ref c/\SqT K H a xs/\SqT K H c ys/\Zek K H 6 xs ys bs/\Q (.bl (if neg then !bs.all id else bs.all id)) H
theorem Zqv (hu:X.A.units+8<cLine):OpR X (compareOp .Eq) (rEqL X.K false):=by
 intro pins s σ H x y v u Q I rx ry h;refine Zb8 h λa c xs ys e921 e922 ha e923=>?_;clear h;obtain rfl:=e921;obtain rfl:=e922;obtain⟨hc,h⟩:=e923;cases rx;cases ry;refine Zav (I.list ha) λits r1 p1 _=>?_;refine Zav (I.list hc) λits' r2 p2 _=>?_;have e1:=r1.length;have e2:=r2.length;rcases h with ⟨hne,q⟩|⟨bs,⟨hl,hb,he⟩,q⟩
 .exact SeqAt.eq_list_lengthsAt p1.isList p2.isList (by simp;omega) ∅ ⟨.bl false,H,I,rfl,q⟩
 .refine SeqAt.eq_listAt (e:=λj=>(bs[j]?).getD true) p1.isList p2.isList (by simp;omega) ∅ (Zfm (A:=X.A.in1) r1 r2 hl hb λj x y b h1 h2 h3 u v ru rv=>(he j x y b h1 h2 h3).at I (show X.A.units+1+6<cLine by omega) ru rv) ?_;rw[show its.toArray.size=bs.length by simp;omega,Zdn];exact Zaq (.bl (bs.all id)) H ⟨I,rfl,q⟩
theorem Zvs (hu:X.A.units+8<cLine):OpR X (compareOp .NotEq) (rEqL X.K true):=by
 intro pins s σ H x y v u Q I rx ry h;refine Zb8 h λa c xs ys e924 e925 ha e926=>?_;clear h;obtain rfl:=e924;obtain rfl:=e925;obtain⟨hc,h⟩:=e926;cases rx;cases ry;refine Zav (I.list ha) λits r1 p1 _=>?_;refine Zav (I.list hc) λits' r2 p2 _=>?_;have e1:=r1.length;have e2:=r2.length;rcases h with ⟨hne,q⟩|⟨bs,⟨hl,hb,he⟩,q⟩
 .exact SeqAt.RcNeAt.lists_lengths p1.isList p2.isList (by simp;omega) ∅ _ _ _ _ ⟨.bl true,H,I,rfl,q⟩
 .refine SeqAt.RcNeAt.lists (e:=λj=>(bs[j]?).getD true) p1.isList p2.isList (by simp;omega) ∅ (Zfm (A:=X.A.in1) r1 r2 hl hb λj x y b h1 h2 h3 u v ru rv=>(he j x y b h1 h2 h3).at I (show X.A.units+1+6<cLine by omega) ru rv) _ _ _ _ ?_;rw[show its.toArray.size=bs.length by simp;omega,Zdn];exact Zaq (.bl (!bs.all id)) H ⟨I,rfl,q⟩
theorem Zvt (hu:X.A.units+8<cLine):OpR X (compareOp .Eq) (Zvm X.K false):=by
 intro pins s σ H x y v u Q I rx ry h;refine Zg4 h λa c xs ys bs e927 e928 ha e929=>?_;clear h;obtain rfl:=e927;obtain rfl:=e928;refine Za2 e929 λhc e930 q=>?_;clear e929;obtain⟨hl,hb,he⟩:=e930;cases rx;cases ry;refine Zav (I.tuple ha) λits r1 p1 _=>?_;refine Zav (I.tuple hc) λits' r2 p2 _=>?_;have e1:=r1.length;have e2:=r2.length;refine SeqAt.eq_tupleAt (e:=λj=>(bs[j]?).getD true) p1 p2 ∅ (Zfm (A:=X.A.in1) r1 r2 hl hb λj x y b h1 h2 h3 u v ru rv=>(he j x y b h1 h2 h3).at I (show X.A.units+1+6<cLine by omega) ru rv) ?_;rw[show min its.toArray.size its'.toArray.size=bs.length by simp;omega,Zdn,show (its.toArray.size == its'.toArray.size)=true by simp;omega,Jdv];exact Zaq (.bl (bs.all id)) H ⟨I,rfl,q⟩
theorem Zvr (hu:X.A.units+8<cLine):OpR X (compareOp .NotEq) (Zvm X.K true):=by
 intro pins s σ H x y v u Q I rx ry h;refine Zg4 h λa c xs ys bs e931 e932 ha e933=>?_;clear h;obtain rfl:=e931;obtain rfl:=e932;refine Za2 e933 λhc e934 q=>?_;clear e933;obtain⟨hl,hb,he⟩:=e934;cases rx;cases ry;refine Zav (I.tuple ha) λits r1 p1 _=>?_;refine Zav (I.tuple hc) λits' r2 p2 _=>?_;have e1:=r1.length;have e2:=r2.length;refine SeqAt.RcNeAt.tuples (e:=λj=>(bs[j]?).getD true) p1 p2 ∅ (Zfm (A:=X.A.in1) r1 r2 hl hb λj x y b h1 h2 h3 u v ru rv=>(he j x y b h1 h2 h3).at I (show X.A.units+1+6<cLine by omega) ru rv) _ _ _ _ ?_;rw[show min its.toArray.size its'.toArray.size=bs.length by simp;omega,Zdn,show (its.toArray.size == its'.toArray.size)=true by simp;omega,Jdv];exact Zaq (.bl (!bs.all id)) H ⟨I,rfl,q⟩
end
theorem Zlx (K:Frag):PySem.W.kitOne K (.type "int") (.type "int")=some true:=by rfl
theorem Zkc (K:Frag):PySem.W.kitOne K (.type "int") (.type "bool")=some false:=by kernel_rfl
theorem Zjm (K:Frag):PySem.W.kitOne K (.type "bool") (.type "bool")=some true:=by rfl
theorem Zo3 (K:Frag):PySem.W.kitOne K (.type "bool") (.type "int")=some true:=by kernel_rfl
theorem Zjl (K:Frag):PySem.W.kitOne K (.type "tuple") (.type "tuple")=some true:=by rfl
theorem Zdi (K:Frag):PySem.W.kitOne K (.type "list") (.type "list")=some true:=by rfl
structure Cal (P:Program)(w:World)(K:Frag)(mg:Str->Option Value)(base:Heap)(x:Str)(k:Nat)(sp:Sp):Prop where
 ex:∃ (f:Addr) (fd:FuncData) (ps:List Str),FnOk P w K mg base CX0 k f fd ps sp/\mg x=some (.ref f)/\PySem.W.keepIn K (.ref f)=true/\Binds K fd ps []
theorem pe_cal {X:Cx}{x:Str}{k:Nat}{sp:Sp}{e:Expr}{es:List Expr}{t:TA}{p pos:Pos}(C:Cal X.prog X.w X.K X.mg X.base x k sp)(hr:Room k X.A)(hg:Gl X x)(ha:PA X (e::es) t)(hdb:(x == ("__debug__" : Str))=false:=by decide)(he:starEach (e::es) X.env=(false,eval e X.env)::starEach es X.env:=by rfl)(hpl:(backTo pos (starEach es X.env)).any (·.1)=false:=by rfl):
  PE X (.Call (.Name x p) (e::es) [] pos) (Zop sp [] E0 t):=by
 refine Zb9 C.ex λf fd ps F hm hk hb=>?_;exact pe_call F hr hg hm hk hb .nil Ztl ha hdb he hpl
structure CalM (P:Program)(w:World)(K:Frag)(mg:Str->Option Value)(base:Heap)(C:Addr)(m:Str)(k:Nat)(sp:Sp):Prop where
 ex:∃ (f:Addr) (fd:FuncData) (ps:List Str),FnOk P w K mg base CX0 k f fd ps sp/\Meth K C m f/\Binds K fd ps []
structure CalI (P:Program)(w:World)(K:Frag)(mg:Str->Option Value)(base:Heap)(x:Str)(C:Addr)(k:Nat)(sp:Sp):Prop where
 ex:∃ (f:Addr) (fd:FuncData) (ps:List Str),FnOk P w K mg base CX0 k f fd ps sp/\Mk K C f/\mg x=some (.ref C)/\Binds K fd ps []
theorem pe_new {X:Cx}{x:Str}{C:Addr}{k:Nat}{sp:Sp}{e:Expr}{es:List Expr}{t:TA}{p pos:Pos}(M:CalI X.prog X.w X.K X.mg X.base x C k sp)(hr:Room (k+1) X.A)(hg:Gl X x)(ha:PA X (e::es) t)(hdb:(x == ("__debug__" : Str))=false:=by decide)(he:starEach (e::es) X.env=(false,eval e X.env)::starEach es X.env:=by rfl)(hpl:(backTo pos (starEach es X.env)).any (·.1)=false:=by rfl):
  PE X (.Call (.Name x p) (e::es) [] pos) (Zpt C sp [] E0 t):=by
 refine Zb9 M.ex λf fd ps F hm hk hb=>?_;exact pe_make hm F hr hg hk hb .nil Ztl ha hdb he hpl
theorem pe_mth {X:Cx}{m:Str}{C:Addr}{k:Nat}{sp:Sp}{o e:Expr}{es:List Expr}{ta:TE}{t:TA}{apos pos:Pos}{pl:Sem Bool}(c:Cls X.K C)(M:CalM X.prog X.w X.K X.mg X.base C m k sp)(hr:Room k X.A)(ho:PE X o ta)(ha:PA X (e::es) t)(hst:starEach (e::es) X.env=(false,eval e X.env)::starEach es X.env:=by rfl)(hpl:(backTo pos (starEach es X.env)).any (·.1)=false:=by rfl)(ht:eval (.Call (.Attribute o m apos) (e::es) [] pos) X.env=(do
   let ov <- eval o X.env
   standAt apos.atName
   let (f,first) <- holding [ov] (getMethod ov m pl)
   callWith pos f first (backTo pos (starEach (e::es) X.env)) (backToKw pos (keywordEach [] X.env))):=by rfl):
  PE X (.Call (.Attribute o m apos) (e::es) [] pos) (Zps C m sp [] E0 ta t):=by
 refine Zmd M.ex λf fd ps F hm hb=>?_;exact Zqn ho c hm F hr hb .nil Ztl ha hst hpl ht
def blOk (outer:List (Str×NameKind))(N:List Str)(scope:Scope)(fr:List (Str×Nat)):Bool:=
 scope.kind == .function && scope.names.all (λy=>y.2 != .free || outer.lookup y.1 == some .cell || outer.lookup y.1 == some .free) && scope.names.all (λy=>scope.names.lookup y.1 == some y.2) &&
 fr.all λy=>scope.names.lookup y.1 == some .free && N[y.2]? == some y.1
theorem Zbn {X:Cx}{scope:Scope}{own:List Str}{fr:List (Str×Nat)}(h:blOk X.env.scope.names X.N scope fr=true):BlScope X scope own fr:=by
 unfold blOk at h;simp only[Jcb,Jbe] at h;obtain⟨⟨⟨h1,h2⟩,h3⟩,h4⟩:=h;refine⟨?_,λy hy hf=>?_,λy hy hl=>?_,λy hy=>?_,λy hy=>?_⟩
 .cases e:scope.kind <;> rw[e] at h1 <;> first|rfl|(exact absurd h1 ⇑0)
 .have:=h2 y hy;rw[hf] at this;simp only[Jdf,Jbw] at this;rcases this with (q|q)|q
  .exact absurd q ⇑0
  .exact .inl q
  .exact .inr q
 .have:=h3 y hy;rw[hl] at this;exact Jbw.mp this
 .exact Jbw.mp (h3 y hy)
 .have:=h4 y hy;exact⟨Jbw.mp this.1,Jbw.mp this.2⟩
def Sh (k:Nat)(cap σ:St):Prop:=∃ o,o.length=k/\σ=o++cap
theorem Sh.mk1 {cap:St}{a:Option V}:Sh 1 cap (a::cap):=⟨[a],rfl,rfl⟩
theorem Sh.mk2 {cap:St}{a b:Option V}:Sh 2 cap (a::b::cap):=⟨[a,b],rfl,rfl⟩
theorem Sh.one {cap σ:St}(h:Sh 1 cap σ):∃ a,σ=a::cap:=by
 refine Zae h λo h1 e92=>?_;clear h;obtain rfl:=e92
 match o,h1 with
 | [a],_=>exact⟨a,rfl⟩
theorem Sh.two {cap σ:St}(h:Sh 2 cap σ):∃ a b,σ=a::b::cap:=by
 refine Zae h λo h1 e93=>?_;clear h;obtain rfl:=e93
 match o,h1 with
 | [a,b],_=>exact⟨a,b,rfl⟩
def Zbm (fr:List (Str×Nat))(σ:St):St:=fr.map λy=>(σ[y.2]?).getD none
def Wv (n k:Nat)(cap:St)(Pv:Nat->List V->Hp->Prop):Nat->Nat->St->Hp->Prop:=λi m σ H=>m=n-i/\i<=n/\Sh k cap σ/\∃ vs,Pv i vs H
def Lf (D:Addr)(n k:Nat)(cap:St)(Pv:Nat->List V->Hp->Prop)(i:Nat)(σ4:St)(y:V)(H6:Hp):Prop:=
 ∃ vs,H6 D=some (.lst vs)/\vs.length<sizeLine/\∃ m',m'<n-i/\Wv n k cap Pv (i+1) m' σ4 (upd H6 D (.lst (vs++[y])))
def Lf0 (n k:Nat)(cap:St)(Pv:Nat->List V->Hp->Prop)(i:Nat)(σ4:St)(H5:Hp):Prop:=∃ m',m'<n-i/\Wv n k cap Pv (i+1) m' σ4 H5
theorem Zky {D:Addr}{n k:Nat}{cap:St}{Pv:Nat->List V->Hp->Prop}{i:Nat}{σ4:St}{y:V}{H6:Hp}{vs ws:List V}(hi:i<n)(sh:Sh k cap σ4)(hD:H6 D=some (.lst vs))(hl:vs.length<sizeLine)(p:Pv (i+1) ws (upd H6 D (.lst (vs++[y])))):Lf D n k cap Pv i σ4 y H6:=⟨vs,hD,hl,n-(i+1),∅,rfl,hi,sh,ws,p⟩
theorem leaf0 {n k:Nat}{cap:St}{Pv:Nat->List V->Hp->Prop}{i:Nat}{σ4:St}{H5:Hp}{ws:List V}(hi:i<n)(sh:Sh k cap σ4)(p:Pv (i+1) ws H5):Lf0 n k cap Pv i σ4 H5:=⟨n-(i+1),∅,rfl,hi,sh,ws,p⟩
def Zfq (g:TG)(tt:TT)(te:TE)(D:Addr)(n k:Nat)(cap:St)(Pv:Nat->List V->Hp->Prop)(i:Nat)(x:V)(σ':St)(H:Hp):Prop:=
 g x σ' H λσ4 H4=>tt σ4 H4 λb H5=>if b=true then te σ4 H5 λy H6=>Lf D n k cap Pv i σ4 y H6 else Lf0 n k cap Pv i σ4 H5
section
variable {K:Frag}{a D:Addr}{xs:List V}{g:TG}{tt:TT}{te:TE}{k:Nat}{fr:List (Str×Nat)}{σ:St}{H1:Hp}{Q:VK}
theorem sh0:Sh k (Zbm fr σ) (Zg2 k fr σ):=⟨List.replicate k none,Ja8,rfl⟩
theorem Zk5 {J:It}{n:Nat}(it:Nat->V->Prop)(Pv:Nat->List V->Hp->Prop)(h0:Pv 0 [] (upd H1 D (.lst [])))(go:∀ i vs H,i<n->Pv i vs H->J.go i H/\∀ x H',J.yld i H x H'->H'=H/\it i x)(stop:∀ vs H,Pv n vs H->J.stop n H)(hs:∀ i x vs σ' H,i<n->it i x->Sh k (Zbm fr σ) σ'->Pv i vs H->Zfq g tt te D n k (Zbm fr σ) Pv i x σ' H)(hd:∀ vs H,Pv n vs H->Q (.ref D) H):Zbu g tt te J D (Zg2 k fr σ) H1 Q:=by
 refine⟨Wv n k (Zbm fr σ) Pv,⟨n,by simp,Jb5 _,sh0,[],h0⟩,?_⟩;intro i m σ' H2 e91;refine Zcb e91 λe94 hi sh e95=>?_;clear e91;obtain rfl:=e94;obtain⟨vs,p⟩:=e95;by_cases hlt:i<n
 .obtain ⟨g1,g2⟩:=go i vs H2 hlt p;refine .inr ⟨g1,λx H3 y=>?_⟩;obtain⟨rfl,hx⟩:=g2 x H3 y;exact hs i x vs σ' _ hlt hx sh p
 .have e:i=n:=∅
  subst e;exact .inl ⟨stop vs H2 p,hd vs H2 p⟩
theorem Zei (Pv:Nat->List V->Hp->Prop)(h0:Pv 0 [] (upd H1 D (.lst [])))(hl:∀ i vs H,i<=xs.length->Pv i vs H->SqL K H a xs)(hs:∀ i x vs σ' H,i<xs.length->xs[i]?=some x->Sh k (Zbm fr σ) σ'->Pv i vs H->Zfq g tt te D xs.length k (Zbm fr σ) Pv i x σ' H)(hd:∀ vs H,Pv xs.length vs H->Q (.ref D) H):Zbu g tt te (Itl K a) D (Zg2 k fr σ) H1 Q:=
 Zk5 (λi x=>xs[i]?=some x) Pv h0 (λi vs H hi p=>⟨⟨xs,xs[i],hl i vs H (Jbv hi) p,by simp[hi]⟩,λx H' y=>⟨y.1,y.2 xs (hl i vs H (Jbv hi) p)⟩⟩)
  (λvs H p=>⟨xs,hl _ vs H (Jag _) p,Jag _⟩) hs hd
theorem Zuz (Pv:Nat->List V->Hp->Prop)(h0:Pv 0 [] (upd H1 D (.lst [])))(hl:∀ i vs H,i<=xs.length->Pv i vs H->SqT K H a xs)(hs:∀ i x vs σ' H,i<xs.length->xs[i]?=some x->Sh k (Zbm fr σ) σ'->Pv i vs H->Zfq g tt te D xs.length k (Zbm fr σ) Pv i x σ' H)(hd:∀ vs H,Pv xs.length vs H->Q (.ref D) H):Zbu g tt te (Itt K a) D (Zg2 k fr σ) H1 Q:=
 Zk5 (λi x=>xs[i]?=some x) Pv h0 (λi vs H hi p=>⟨⟨xs,xs[i],hl i vs H (Jbv hi) p,by simp[hi]⟩,λx H' y=>⟨y.1,y.2 xs (hl i vs H (Jbv hi) p)⟩⟩)
  (λvs H p=>⟨xs,hl _ vs H (Jag _) p,Jag _⟩) hs hd
theorem Zgx {lo:Int}{n:Nat}(Pv:Nat->List V->Hp->Prop)(h0:Pv 0 [] (upd H1 D (.lst [])))(hs:∀ i x vs σ' H,i<n->x=.int (lo+i)->Sh k (Zbm fr σ) σ'->Pv i vs H->Zfq g tt te D n k (Zbm fr σ) Pv i x σ' H)(hd:∀ vs H,Pv n vs H->Q (.ref D) H):Zbu g tt te (Itr lo n) D (Zg2 k fr σ) H1 Q:=
 Zk5 (λi x=>x=.int (lo+i)) Pv h0 (λi vs H hi p=>⟨hi,λx H' y=>y⟩) (λvs H p=>Jag _) hs hd
end
def Ext (l:Addr)(H H':Hp):Prop:=∀ b o,b≠l->H b=some o->H' b=some o
theorem Ext.refl (l:Addr)(H:Hp):Ext l H H:=λ_ _ _ e=>e
theorem Ext.trans {l:Addr}{H H1 H2:Hp}(a:Ext l H H1)(b:Ext l H1 H2):Ext l H H2:=λc o n e=>b c o n (a c o n e)
theorem Ext.new {l p:Addr}{H:Hp}{o:HO}(h:H p=none):Ext l H (upd H p o):=λc u _ e=>by rw[Zaj (Zah e h)];exact e
theorem Ext.set {l:Addr}{H:Hp}{o:HO}:Ext l H (upd H l o):=λc u n e=>by rw[Zaj n];exact e
theorem Same.ext {l:Addr}{H H':Hp}(s:Same H H'):Ext l H H':=λc o _ e=>s c o e
theorem Same.new {p:Addr}{H:Hp}{o:HO}(h:H p=none):Same H (upd H p o):=λc u e=>by rw[Zaj (Zah e h)];exact e
theorem Same.upd {p:Addr}{H H':Hp}{o:HO}(s:Same H H')(h:H p=none):Same H (upd H' p o):=λc u e=>by rw[Zaj (Zah e h)];exact s c u e
theorem Ext.upd {l p:Addr}{H H':Hp}{o:HO}(s:Ext l H H')(h:H p=none):Ext l H (upd H' p o):=λc u n e=>by rw[Zaj (Zah e h)];exact s c u n e
theorem Ext.free {l p:Addr}{H H':Hp}(s:Ext l H H')(n:p≠l)(h:H' p=none):H p=none:=by
 cases e:H p with
 | none=>rfl
 | some o=>rw[s p o n e] at h;cases h
theorem cx_K {CX:CXT}{P:Program}{w:World}{K:Frag}{mg:Str->Option Value}{base:Heap}{N:List Str}{qual:Str}{scope:Scope}{f:Addr}{cd:Value}{A:Around}{outer:List Env}{s:Shared}{H:Hp}{E:XK}:(Zuv CX P w K mg base N qual scope f cd A outer s H E).K=K:=rfl
theorem in_K {X:Cx}{N:List Str}{scope:Scope}{cl:List (Str×Addr)}{s:Shared}{H:Hp}{fp:List Addr}:(Zk3 X N scope cl s H fp).K=X.K:=rfl
theorem Zvb {X:Cx}{E:Value->Shared->Prop}:(X.wish E).K=X.K:=rfl
theorem Zfk {X:Cx}{x:Str}{i:Int}{pos:Pos}(hg:Gl X x)(hm:∃ t,X.mg x=some (.int i t))(hd:(x == ("__debug__" : Str))=false:=by decide):PE X (.Name x pos) (tC (.int i)):=by
 obtain⟨t,e⟩:=hm;exact Zqo hg e ⟨t,rfl⟩ hd
theorem Zb0 {α:Type}{xs:List α}{i:Int}{v:α}(h0:0<=i)(h:xs[i.toNat]?=some v):atI xs i=some v:=by
 have e:((i.toNat:Nat):Int)=i:=Jbf h0;rw[<- e];exact atI_nat h
def Zb3:Expr->Bool
 | .Starred _ _=>true
 | _=>false
theorem Za7 {e:Expr}{es:List Expr}{env:Env}(h:Zb3 e=false):starEach (e::es) env=(false,eval e env)::starEach es env:=by
 cases e <;> first|rfl|cases h
theorem Zfh {pos:Pos}{env:Env}:∀ {es:List Expr},es.all (λx=>!Zb3 x)=true->(backTo pos (starEach es env)).any (·.1)=false
 | [],_=>rfl
 | e::es,h=>by
  rw[Jdg,Jcb] at h;have h1:Zb3 e=false:=by simpa using h.1
  rw[Za7 h1];show ((false,_).1 || (backTo pos (starEach es env)).any (·.1))=false;rw[Zfh h.2];rfl
section
variable {X:Cx}{x:Str}{p pos:Pos}{e:Expr}{es:List Expr}{te:TE}{t:TA}{id T:String}{r:List V->Hp->VK->Prop}
theorem pa_c (ha:PE X e te)(hr:PA X es t)(h:Zb3 e=false:=by rfl):PA X (e::es) (Zf4 te t):=pa_cons ha hr (Za7 h)
theorem Za9 (hc:Zhm X (.builtin id) r)(hg:Gl X x)(hm:X.mg x=none)(hv:bootBuiltins x=some (.builtin id))(ha:PA X (e::es) t)(h:Zb3 e=false:=by rfl)(h2:es.all (λx=>!Zb3 x)=true:=by rfl)(hn:x ≠ "__name__" := by decide)(hdb:(x == ("__debug__" : Str))=false:=by decide):PE X (.Call (.Name x p) (e::es) [] pos) (tCB r t):=Ztk hc hg hm hv ha hn hdb (Za7 h) (Zfh h2)
theorem Zjg (hc:Zhm X (.type T) r)(hg:Gl X x)(hm:X.mg x=none)(hv:bootBuiltins x=some (.type T))(ha:PA X (e::es) t)(h:Zb3 e=false:=by rfl)(h2:es.all (λx=>!Zb3 x)=true:=by rfl)(hn:x ≠ "__name__" := by decide)(hdb:(x == ("__debug__" : Str))=false:=by decide):PE X (.Call (.Name x p) (e::es) [] pos) (tCB r t):=Zqp hc hg hm hv ha hn hdb (Za7 h) (Zfh h2)
theorem Za4 {k:Nat}{sp:Sp}(C:Cal X.prog X.w X.K X.mg X.base x k sp)(hr:Room k X.A)(hg:Gl X x)(ha:PA X (e::es) t)(h:Zb3 e=false:=by rfl)(h2:es.all (λx=>!Zb3 x)=true:=by rfl)(hdb:(x == ("__debug__" : Str))=false:=by decide):PE X (.Call (.Name x p) (e::es) [] pos) (Zop sp [] E0 t):=pe_cal C hr hg ha hdb (Za7 h) (Zfh h2)
theorem pe_n {C:Addr}{k:Nat}{sp:Sp}(M:CalI X.prog X.w X.K X.mg X.base x C k sp)(hr:Room (k+1) X.A)(hg:Gl X x)(ha:PA X (e::es) t)(h:Zb3 e=false:=by rfl)(h2:es.all (λx=>!Zb3 x)=true:=by rfl)(hdb:(x == ("__debug__" : Str))=false:=by decide):PE X (.Call (.Name x p) (e::es) [] pos) (Zpt C sp [] E0 t):=pe_new M hr hg ha hdb (Za7 h) (Zfh h2)
theorem Zfe {tg a:Expr}{ta:TA}(hg:Gl X "range")(hm:X.mg "range" = none)(ha:PA X [a] ta)(h:Zb3 a=false:=by rfl):PI X tg (.Call (.Name "range" p) [a] [] pos) (Zrt ta):=Zqm hg hm ha (Za7 h)
theorem pi_r2 {tg a b:Expr}{ta:TA}(hg:Gl X "range")(hm:X.mg "range" = none)(ha:PA X [a,b] ta)(h:Zb3 a=false:=by rfl)(h2:Zb3 b=false:=by rfl):PI X tg (.Call (.Name "range" p) [a,b] [] pos) (Zul ta):=
 Zql hg hm ha (by rw[Za7 h,Za7 h2];rfl) (Za7 h2)
end
theorem Zp9 {i j:Int}:scal (.int i) (.int j)=true:=rfl
theorem Zqa {i j:Bool}:scal (.bl i) (.bl j)=true:=rfl
theorem Zp8 {i j:Str}:scal (.str i) (.str j)=true:=rfl
theorem Zgf {X:Cx}{x:Str}{n:String}{pos:Pos}(hg:Gl X x)(hm:X.mg x=none)(hv:bootBuiltins x=some (.type n))(hn:x ≠ "__name__" := by decide)(hd:(x == ("__debug__" : Str))=false:=by decide):PE X (.Name x pos) (tC (.ty n)):=pe_bltn (v:=.ty n) hg hm hv rfl hn hd
section
variable {X:Cx}(K:Frag)(hK:X.K=K)
include hK
theorem Zcq {pos:Pos}{es:List Expr}{k:Nat}{t:TGs}{n:Nat}(hc:X.calm=true)(h:PGs X es t)(hn:(assignEach es X.env).length=n)(hst:(assignEach es X.env).findIdx? (·.1)=none):PG X (.Tuple es k pos) (Zpb K n t):=by subst hK;exact Zbv hc h hn hst
theorem Zgz:Zhm X (.type "list") (λxs H Q=>∃ p ys,xs=[.ref p]/\(SqL K H p ys\/SqT K H p ys)/\∀ l,H l=none->Q (.ref l) (upd H l (.lst ys))):=by subst hK;exact Zbz
theorem Zch:IxR X (rIxL K):=by subst hK;exact Zar
theorem Zkz:IxR X (rIxT K):=by subst hK;exact Zat
theorem Zs8:SlR X (rSlL K):=by subst hK;exact Zp6
theorem pe_fldK {e:Expr}{f:Str}{pos:Pos}{ta:TE}(he:PE X e ta)(hb:attributeBase e f X.env (eval e X.env)=eval e X.env):PE X (.Attribute e f pos) (tFld K ta f):=by subst hK;exact Zd1 he hb
theorem Zkr {tg l:Expr}{tl:TE}(hl:PE X l tl):PI X tg l (Zru K tl):=by subst hK;exact Zbc hl
theorem Zqu (hu:X.A.units+8<cLine):OpR X (compareOp .Eq) (Zvm K false):=by subst hK;exact Zvt hu
end
theorem Zpc {g:TG}{tb:TS}{D:Ends}{x:V}{σ:St}{H:Hp}(h:∀ D':Ends,D'=D->g x σ H λσ2 H2=>tb D' σ2 H2):g x σ H λσ2 H2=>tb D σ2 H2:=h D rfl
theorem cutI {c:TT}{A B:TS}{D:Ends}{σ:St}{H:Hp}(h:∀ A',A'=A->tIfS c A' B D σ H):tIfS c A B D σ H:=h A rfl
theorem Znf {xs:List V}{k:Nat}{v:V}(h:xs[k]?=some v):atI xs ((k:Nat):Int)=some v:=Zb0 (Jd4 _) (by rw[Jbu];exact h)
theorem atI_z {xs:List V}{k:Nat}{v:V}(h:xs[k]?=some v):atI xs (0+((k:Nat):Int))=some v:=by rw[Jdo];exact Znf h
theorem Zk7 {as:List Addr}{k:Nat}{a:Addr}(h:as[k]?=some a):atI (as.map V.ref) ((k:Nat):Int)=some (.ref a):=Znf (by rw[Jad,h];rfl)
theorem atI_rz {as:List Addr}{k:Nat}{a:Addr}(h:as[k]?=some a):atI (as.map V.ref) (0+((k:Nat):Int))=some (.ref a):=by rw[Jdo];exact Zk7 h
theorem lo62 (n:Nat):-2 ^ 62<=((n:Nat):Int):=∅
theorem hi62 {n:Nat}(h:n<=1000):((n:Nat):Int)<2 ^ 62:=∅
theorem Zbx {α:Type}{xs:List α}{k n:Nat}(h:k<n)(hl:xs.length=n):k<xs.length:=hl ▸ h
theorem Zrc {α:Type}{xs:List α}{m n:Nat}(hl:xs.length=n)(h:n<=m):xs.length<=m:=hl ▸ h
theorem Zpu {n k:Nat}:((n:Int)-(k:Int)).toNat=n-k:=∅
theorem lt_sub {n k i:Nat}(h:i<n-k):k+i<n:=∅
theorem Zui {n k:Nat}(h:k<n):ixN n ((k:Nat):Int)=some k:=by
 unfold ixN;rw[if_pos (Jd4 _),if_pos ∅,Jbu]
theorem Zuh {as:List Addr}{k n:Nat}(h:k<n)(hl:as.length=n):ixN (as.map V.ref).length ((k:Nat):Int)=some k:=Zui (by rw[Jab,hl];exact h)
end L2
set_option maxHeartbeats 1000000
namespace HT
open PySem PySem.Spec PyProof.Rows
section
variable {prog:Program}{w:World}{A:Around}{E:Value->Shared->Prop}{s:Shared}
end
end HT
namespace L2
open PySem PySem.Spec PyProof.Rows
theorem k_own (K:Frag)(C:Addr):PySem.W.kitOne K (.ref C) (.ref C)=some true:=by
 unfold PySem.W.kitOne;rw[if_pos]
 first|exact beq_self_eq_true _|(simp)|rfl
section
variable {X:Cx}{e es:Expr}{te ts:TE}{pos p2:Pos}
end
end L2
namespace L2
open PySem PySem.Spec PyProof.Rows
section
variable {X:Cx}
def rGetL (K:Frag):V->V->Hp->VK->Prop:=λx y H Q=>∃ p xs i v,x=.ref p/\y=.int i/\0<=i/\SqL K H p xs/\xs[i.toNat]?=some v/\Q v H
end
def atZ (ns:List Int)(i:Int):Int:=ns.getD i.toNat 0
theorem atZ_get {ns:List Int}{i:Int}(h:i.toNat<ns.length):(ns.map V.int)[i.toNat]?=some (.int (atZ ns i)):=by
 rw[Jad,Jaa h];simp[atZ,h]
theorem atZ_mem {ns:List Int}{i:Int}(h:i.toNat<ns.length):atZ ns i∈ns:=by
 unfold atZ;rw[Jac,Jaa h];exact Jap h
theorem Zrq {K:Frag}{H:Hp}(ns:List Int):Zek K H 6 (ns.map V.int) (ns.map V.int) (List.replicate (ns.map V.int).length true):=by
 refine⟨rfl,Ja8,λn y z b h1 h2 h3=>?_⟩;have hn:n<(ns.map V.int).length:=(Jaf.mp h1).1;rw[Jby,if_pos hn] at h3;cases h3;rw[h1] at h2;cases h2;rw[Jad] at h1;rw[Jab] at hn;rw[Jaa hn] at h1;cases h1;have:=EqD.flat (K:=K) (H:=H) (n:=6) (x:=.int ns[n]) (y:=.int ns[n]) rfl rfl;rw[show eqV (.int ns[n]) (.int ns[n])=true from by simp[eqV]] at this;exact this
end L2
namespace L2
open PySem PySem.Spec PyProof.Rows
section
variable {X:Cx}{pins:List (Addr×Obj)}{σ:St}{H:Hp}{s:Shared}{h':Heap}
theorem Inv.turnedL {t':Nat}{fp:List Addr}(I:Inv X pins σ H s)(hf:∀ b∈fp,Zo9 X pins H b)(k:∀ b o,b∉fp->s.heap.get? b=some o->h'.get? b=some o):Inv X pins σ H { s with heap:=h',toks:=t' }:=by
 have nit:∀ b u,H b=some u->b∉fp:=λb u e z=>by rw[(hf b z).1] at e;cases e
 refine I.step (g':=s.gens) (d':=s.drawn) (ch:=fp) (λb hb=>?_) (λb o _ _ hc e _=>k b o hc e) (λb o _ _ hc e _=>⟨o.slots,k b o hc e⟩) (λ_ _ _ _ n=>n)
  (λb o hc e=>⟨o,k b o hc e⟩) (λ_ _ e=>e) (λ_ _ _ e=>e) (λb ps e=>⟨#[],by rw[e];simp⟩) (λm hm=>?_) (λb u e=>?_) I.bare
 .refine Zey (hf b hb) λf0 f1 f2 f3 f4 f5=>?_;exact⟨f3,f1,f4,f5⟩
 .refine Zf3 hm λo es ep ho r=>?_;clear hm;exact Zcm o es ep ⟨k _ o (λz=>(hf _ z).2.1 rfl) ho,r⟩
 .refine (I.hok b u e).stay (λc v hc q=>k c v ?_ q) (λ_ q=>q) (λ_ _ q=>q) λ_ _ _ q=>q;rcases hc with z|z
  .rw [z];exact nit b u e
  .exact nit c _ z
theorem Inv.turnedT {t':Nat}{fp:List Addr}{p:Addr}{o:HO}(I:Inv X pins σ H s)(hf:∀ b∈fp,Zo9 X pins H b)(k:∀ b o,b∉fp->s.heap.get? b=some o->h'.get? b=some o)(hp:s.heap.objs.size<=p)(new:ObjOk X.prog X.w (upd H p o) h' p o):Inv X pins σ (upd H p o) { s with heap:=h',toks:=t' }:=by
 have hn:H p=none:=I.hok.fresh hp;have nit:∀ b u,H b=some u->b∉fp:=λb u e z=>by rw[(hf b z).1] at e;cases e
 have npp:∀ b u,s.heap.get? b=some u->b≠p:=λb u e=>Jbr (Jau (Jan e) hp);refine I.step (g':=s.gens) (d':=s.drawn) (ch:=fp) (λb hb=>?_) (λb o _ _ hc e _=>k b o hc e) (λb o _ _ hc e _=>⟨o.slots,k b o hc e⟩) (λb o _ e n=>by rw[Zaj (npp b o e)];exact n)
  (λb o hc e=>⟨o,k b o hc e⟩) (λb xs e=>by rw[Zaj (Zah e hn)];exact e) (λb u xs e=>by rw[Zaj (Zah e hn)];exact e) (λb ps e=>⟨#[],by rw[Zaj (Zah e hn),e];simp⟩) (λm hm=>?_) (λb u e=>?_) I.bare
 .refine Zey (hf b hb) λf0 f1 f2 f3 f4 f5=>?_;exact⟨f3,f1,f4,f5⟩
 .refine Zf3 hm λo es ep ho r=>?_;clear hm;exact Zcm o es ep ⟨k _ o (λz=>(hf _ z).2.1 rfl) ho,r⟩
 .by_cases hb:b=p
  .subst hb;rw[Zab] at e;cases e;exact new
  .rw [Zaj hb] at e;refine (I.hok b u e).stay (λc v hc q=>k c v ?_ q) (λc q=>by rw[Zaj (Zah q hn)];exact q) (λc xs q=>by rw[Zaj (Zah q hn)];exact q) λc _ _ q=>by rw[Zaj (Zah q hn)];exact q
   rcases hc with z|z
   .rw [z];exact nit b u e
   .exact nit c _ z
end
def Itz (K:Frag)(a b:Addr):It:=
 ⟨λi H=>∃ xs ys x y,SqL K H a xs/\SqL K H b ys/\xs[i]?=some x/\ys[i]?=some y,λi H v H'=>∃ x y p,v=.ref p/\H p=none/\H'=upd H p (.tup [x,y])/\(∀ xs,SqL K H a xs->xs[i]?=some x)/\∀ ys,SqL K H b ys->ys[i]?=some y,λi H=>∃ xs ys,SqL K H a xs/\SqL K H b ys/\(xs.length<=i\/ys.length<=i)⟩
theorem Zsw {P:Program}{w:World}{K:Frag}{elts:List Expr}{x1:Nat}{pos:Pos}{z TI TO i1 i2 a b:Addr}(D:ZipApart z TI TO i1 i2 a b):
  Turn P w K (.Tuple elts x1 pos) (Itz K a b) [z,TI,TO,i1,i2] z (λi h=>IsZip h z TI TO .none/\IsPair h TI (.ref i1) (.ref i2)/\(∃ u v,IsPair h TO u v)/\h.IsListIter i1 a i/\h.IsListIter i2 b i) where
 mem:=by simp
 obj:=λi h st c hc=>by
  refine Zc3 st λhz hTI e92 e93 e94=>?_;clear st;obtain⟨u,v,hTO⟩:=e92;obtain⟨o1,e1,c1,d1⟩:=e93;obtain⟨o2,e2,c2,d2⟩:=e94;simp at hc;rcases hc with rfl|rfl|rfl|rfl|rfl
  .exact ⟨_,hz,λv z=>by have z':Data.fields _=Data.cell v:=z;cases z'⟩
  .exact ⟨_,hTI,λv z=>by have z':Data.seq _ _=Data.cell v:=z;cases z'⟩
  .exact ⟨_,hTO,λv z=>by have z':Data.seq _ _=Data.cell v:=z;cases z'⟩
  .exact ⟨o1,e1,λv z=>by rw[d1] at z;cases z⟩
  .exact ⟨o2,e2,λv z=>by rw[d2] at z;cases z⟩
 keep:=λi h h' st k=>by
  refine Zc3 st λhz hTI e95 h1 h2=>?_;clear st;obtain⟨u,v,hTO⟩:=e95;exact⟨k z (by simp) _ hz,k TI (by simp) _ hTI,⟨u,v,k TO (by simp) _ hTO⟩,h1.at λo e=>k i1 (by simp) o e,h2.at λo e=>k i2 (by simp) o e⟩
 item:=by
  intro X hP hw hK hc i pins s σ H E I hf st hg;subst hP hw hK;refine Zb8 hg λxs ys x y hqa hqb hx hy=>?_;clear hg;refine Zav (I.list hqa) λits rv p hz1=>?_;refine Zav (I.list hqb) λits2 rv2 p2 hz2=>?_;refine Zae (rv.get hx) λu hu ru=>?_;refine Zae (rv2.get hy) λu2 hu2 ru2=>?_;refine Zc3 st λhz hTI e96 h1 h2=>?_;clear st;obtain⟨c,d,hTO⟩:=e96;refine wpAny_pyNext_zip_item D hz hTI hTO h1 h2 p.isList p2.isList (by simpa using hu) (by simpa using hu2) λh' a1 a2 a3 a4 a5 a6 a7=>?_;refine⟨_,rfl,wpAny_letOwnedTupleGo_zip a1 λh'' b1 b2=>?_⟩;have nz:s.heap.objs.size≠z:=Jd3 (Jan hz);have k2:∀ c o,c∉[z,TI,TO,i1,i2]->s.heap.get? c=some o->h''.get? c=some o:=λc o hc e=>by
   simp at hc;exact b2.extBut _ _ hc.1 (a7 c o hc.1 hc.2.2.1 hc.2.2.2.1 hc.2.2.2.2 e)
  have I2:Inv X pins σ (upd H s.heap.objs.size (.tup [x,y])) { s with heap:=h'' }:=I.turnedT (t':=s.toks) hf k2 (Jag _)
   ⟨by show 2<=sizeLine;decide,[u,u2],.cons ru (.cons ru2 .nil),_,b2.extBut _ _ nz a5,rfl,_,rfl⟩
  refine Zaq (.ref s.heap.objs.size) _ ⟨I2,rfl,⟨x,y,_,rfl,I.hok.fresh (Jag _),rfl,λxs' hq=>by rw[I.list_inj hq hqa];exact hx,λys' hq=>by rw[I.list_inj hq hqb];exact hy⟩,⟨b1,b2.extBut _ _ D.TIz (a7 _ _ D.TIz D.TITO D.TIi1 D.TIi2 hTI),⟨_,_,b2.extBut _ _ D.TOz a2⟩,a3.extBut b2.extBut D.i1z,a4.extBut b2.extBut D.i2z⟩,λc hc=>?_⟩;have hlt:∀ c∈[z,TI,TO,i1,i2],c<s.heap.objs.size:=λc hc=>by
   simp at hc;refine Zae h1 λo1 e1 _=>?_;clear h1;refine Zae h2 λo2 e2 _=>?_;clear h2;rcases hc with rfl|rfl|rfl|rfl|rfl
   .exact Jan hz
   .exact Jan hTI
   .exact Jan hTO
   .exact Jan e1
   .exact Jan e2
  rw[Zaj (Jbr (hlt c hc))];exact (hf c hc).1
 done:=by
  intro X hP hw hK hc i pins s σ H E I hf st hg;subst hP hw hK;refine Zbt hg λxs ys hqa hqb hx=>?_;clear hg;refine Zav (I.list hqa) λits rv p hz1=>?_;refine Zav (I.list hqb) λits2 rv2 p2 hz2=>?_;refine Zc3 st λhz hTI e97 h1 h2=>?_;clear st;obtain⟨c,d,hTO⟩:=e97;have l1:=rv.length;have l2:=rv2.length;refine wpAny_pyNext_zip_end (I.ok.hd hc) D hz hTI hTO h1 h2 p.isList p2.isList ?_ λh' kk=>⟨rfl,I.turnedL (t':=s.toks) hf λc o hc e=>?_⟩
  .rcases hx with hx|hx
   .exact .inl (by simp;omega)
   .exact .inr (by simp;omega)
  .simp at hc;exact kk c o hc.1 hc.2.2.1 hc.2.2.2.1 hc.2.2.2.2 e
 self:=λ_ _ _ _ _ st h=>Jdt st.1 h
section
variable {X:Cx}
def iZip (K:Frag)(ta:TA):TI:=λσ H R=>ta σ H λvs H1=>∃ a b,vs=[.ref a,.ref b]/\(∃ xs,SqL K H1 a xs)/\(∃ ys,SqL K H1 b ys)/\R (Itz K a b) H1
theorem Zh2 {elts:List Expr}{x1:Nat}{pt p pos:Pos}{a b:Expr}{ta:TA}(hg:Gl X "zip")(hm:X.mg "zip" = none)(ha:PA X [a,b] ta)(h:Zb3 a=false:=by rfl)(h2:Zb3 b=false:=by rfl):
  PI X (.Tuple elts x1 pt) (.Call (.Name "zip" p) [a,b] [] pos) (iZip X.K ta):=by
 intro pins s σ H R I hh;refine Call_ (Zjj I hg hm boot_zip (Jb6 (thn (ha pos pins s σ H _ I hh) λus s1 ⟨vs,H1,I1,r1,q1⟩=>?_) (by rw[Za7 h,Za7 h2]) (by rw[Za7 h2];rfl)));refine Zet q1 λc d e e98 e99 q=>?_;clear q1;obtain⟨xs,hq1⟩:=e98;obtain⟨ys,hq2⟩:=e99;subst e;cases r1 with
 | cons r rr=>
  cases rr with
  | cons r' rr=>
   cases rr;cases r;cases r';refine Zav (I1.list hq1) λits rv p1 hz1=>?_;refine Zav (I1.list hq2) λits2 rv2 p2 hz2=>?_;have lt1:c<s1.heap.objs.size:=by obtain⟨o,ho,_⟩:=p1.isList;exact Jan ho
   have lt2:d<s1.heap.objs.size:=by obtain⟨o,ho,_⟩:=p2.isList;exact Jan ho
   refine call_zip_2 p1.isList p2.isList λh' a1 a2 a3 a4 a5 a6 a7=>Jdt (s:={ s1 with heap:=h' }) a1 ?_;refine Zg3 _ _ _ _ H1 ⟨rfl,I1.kept (t':=s1.toks) a7,Zsw (zipApart_new lt1 lt2),⟨a1,a2,⟨_,_,a3⟩,a4,a5⟩,λb hb=>?_,q⟩;have hb':s1.heap.objs.size<=b:=by
    simp at hb;rcases hb with rfl|rfl|rfl|rfl|rfl
    .exact Jdu _ _
    .exact Jdu _ _
    .exact Jdu _ _
    .exact Jag _
    .exact Jdu _ _
   have:=(I1.fpOk (H':=H1) hb' (I1.hok.fresh hb'))
   exact this
theorem Zu1 (hc:X.calm=true):Zhm X (.builtin "sum") (λxs H Q=>∃ (p:Addr) (ns:List Int),xs=[.ref p]/\SqL X.K H p (ns.map V.int)/\Q (.int (preSum (λi=>ns.getD i 0) ns.length)) H):=by
 intro pins s σ H xs us Q I r h;refine Zbt h λp ns e910 hq q=>?_;clear h;obtain rfl:=e910;refine Zae (Zme r) λu e911 rx=>?_;obtain rfl:=e911;cases rx;refine Zav (I.list hq) λits rv pl hz=>?_;have hl:=rv.length;rw[Jab] at hl;refine call_sum_walkG (Jck pl.isList ?_);have hne:p≠s.heap.objs.size:=λe=>by
  refine Zbd pl λo n ho _=>?_;clear pl;exact absurd (Jan ho) (by rw[e];exact Jb4 _)
 refine Zla s.heap.objs.size _ _ _ _ _ (λi=>ns.getD i 0) ⟨rfl,Walks.list (A:=X.A.in1) (I.ok.hd hc) _ p hne its.toArray,⟨⟨_,Ja2 _ rfl,rfl,rfl⟩,pl.isList.at λo e=>Jaq _ e⟩,?_,?_,λh' tk t' kp=>?_⟩
 .intro b hb;simp at hb;rcases hb with rfl|rfl
  .rw [Jbt];exact Jdr _
  .rw [Jbt];refine Zae pl.isList λo ho _=>?_;exact Jcz (Jan ho)
 .intro i v hv;have hv:its[i]?=some v:=by simpa using hv
  have hi:i<ns.length:=by rw[hl];exact (Jaf.mp hv).1
  obtain⟨u,hu,ru⟩:=rv.get (i:=i) (x:=.int ns[i]) (by rw[Jad,Jaa hi];rfl);rw[hv] at hu;cases hu;obtain⟨t,rfl⟩:=ru;exact⟨t,by simp[hi]⟩
 .rw [Jaw,<- hl];have f:=I.fpOk (H':=H) (Jag s.heap.objs.size) (I.hok.fresh (Jag _));exact Zaq (.int _) H ⟨(I.kept (h':=s.heap.push { cls:=.type "list_iterator",data:=.fields #[.ref p,.int 0 0] }) (t':=s.toks) λb o e=>Jaq _ e).turned (it:=s.heap.objs.size) (t':=tk) (λb o hb e=>kp b o (by simpa using hb) e) f.1 f.2.1 f.2.2.2.1 f.2.2.2.2.1 f.2.2.2.2.2,⟨t',rfl⟩,q⟩
end
section
variable {K:Frag}{a b D:Addr}{xs ys:List V}{g:TG}{tt:TT}{te:TE}{k:Nat}{fr:List (Str×Nat)}{σ:St}{H1:Hp}{Q:VK}
theorem Zii (Pv:Nat->List V->Hp->Prop)(hlen:ys.length=xs.length)(h0:Pv 0 [] (upd H1 D (.lst [])))(hl:∀ i vs H,i<=xs.length->Pv i vs H->SqL K H a xs/\SqL K H b ys)(hs:∀ i x y p vs σ' H,i<xs.length->xs[i]?=some x->ys[i]?=some y->H p=none->Sh k (Zbm fr σ) σ'->Pv i vs H->Zfq g tt te D xs.length k (Zbm fr σ) Pv i (.ref p) σ' (upd H p (.tup [x,y])))(hd:∀ vs H,Pv xs.length vs H->Q (.ref D) H):
  Zbu g tt te (Itz K a b) D (Zg2 k fr σ) H1 Q:=by
 refine⟨Wv xs.length k (Zbm fr σ) Pv,⟨xs.length,by simp,Jb5 _,sh0,[],h0⟩,?_⟩;intro i m σ' H2 e91;refine Zcb e91 λe912 hi sh e913=>?_;clear e91;obtain rfl:=e912;obtain⟨vs,p⟩:=e913;obtain⟨q1,q2⟩:=hl i vs H2 hi p;by_cases hlt:i<xs.length
 .refine .inr ⟨⟨xs,ys,xs[i],ys[i]'(by omega),q1,q2,by simp[hlt],by simp[hlen,hlt]⟩,λx H3 y=>?_⟩;refine Zb9 y λu v pp e914 hp e915 e916=>?_;clear y;obtain rfl:=e914;obtain rfl:=e915;obtain⟨e1,e2⟩:=e916;exact hs i u v pp vs σ' _ hlt (e1 _ q1) (e2 _ q2) hp sh p
 .have e:i=xs.length:=∅
  subst e;exact .inl ⟨⟨xs,ys,q1,q2,.inl (Jag _)⟩,hd vs H2 p⟩
end
end L2
namespace L2
open PySem PySem.Spec PyProof.Rows
def nrm (a b:Int):Int×Int:=(a / (Int.gcd a b:Int),b / (Int.gcd a b:Int))
def Low (x:Int×Int):Prop:=0<x.2/\Int.gcd x.1 x.2=1
theorem emulR (a b p:Int):a*(b % p) % p=a*b % p:=by rw[Int.mul_emod,Int.emod_emod,<- Int.mul_emod]
theorem Zeg {a b:Int}(hb:0<b):0<(Int.gcd a b:Int):=by
 have:0<Int.gcd a b:=Int.gcd_pos_of_ne_zero_right a ∅;omega
theorem Zq7 {a b:Int}:(nrm a b).1*(Int.gcd a b:Int)=a:=Jc8 (Jb7 ..)
theorem Zm1 {a b:Int}:(nrm a b).2*(Int.gcd a b:Int)=b:=Jc8 (Jcc ..)
theorem nrm_pos {a b:Int}(hb:0<b):0<(nrm a b).2:=by
 have h2:=@Zm1 a b;have g0:=Zeg (a:=a) hb;rcases Int.lt_trichotomy 0 (nrm a b).2 with h|h|h
 .exact h
 .rw [<- h,Int.zero_mul] at h2;omega
 .have:=Int.mul_neg_of_neg_of_pos h g0;omega
theorem Zq6 {a b:Int}(hb:0<b):Low (nrm a b):=by
 refine⟨nrm_pos hb,?_⟩;have h:=Int.gcd_mul_right (nrm a b).1 (Int.gcd a b:Int) (nrm a b).2;rw[Zq7,Zm1] at h;have g0:=Zeg (a:=a) hb;have:Int.gcd a b=Int.gcd (nrm a b).1 (nrm a b).2*Int.gcd a b:=by simpa using h
 have g1:0<Int.gcd a b:=∅
 exact (Nat.eq_of_mul_eq_mul_right g1 ∅).symm
theorem Zo2 {x y:Int×Int}(hx:Low x)(hy:Low y)(h:x.1*y.2=y.1*x.2):x=y:=by
 obtain⟨x0,gx⟩:=hx;obtain⟨y0,gy⟩:=hy;have d1:x.2.natAbs ∣ y.2.natAbs:=by
  have c:Nat.Coprime x.2.natAbs x.1.natAbs:=by rw[Nat.coprime_comm];exact gx
  refine c.dvd_of_dvd_mul_left ?_;rw[<- Jch,h,Jch];exact Nat.dvd_mul_left ..
 have d2:y.2.natAbs ∣ x.2.natAbs:=by
  have c:Nat.Coprime y.2.natAbs y.1.natAbs:=by rw[Nat.coprime_comm];exact gy
  refine c.dvd_of_dvd_mul_left ?_;rw[<- Jch,<- h,Jch];exact Nat.dvd_mul_left ..
 have e:=Nat.dvd_antisymm d1 d2;have e2:x.2=y.2:=∅
 have e1:x.1=y.1:=by
  rw[e2] at h;exact Int.eq_of_mul_eq_mul_right ∅ h
 exact Jd7 e1 e2
theorem Zf2 (a:Int){g:Int}(hg:0<g)(hd:g ∣ a):(a / g).natAbs<=a.natAbs:=by
 obtain⟨k,rfl⟩:=hd;rw[Int.mul_ediv_cancel_left _ ∅,Jch];exact Nat.le_mul_of_pos_left _ ∅
def Bd (B:Nat)(x:Int×Int):Prop:=x.1.natAbs<=B/\x.2.natAbs<=B
def Isn (p:Int)(x:Int×Int):Prop:=(p=0/\Low x)\/(0<p/\0<=x.1/\x.1<p/\x.2=1)
def Zcz (p:Int)(x y:Int×Int):Int×Int:=if p=0 then nrm (x.1*y.2+y.1*x.2) (x.2*y.2) else ((x.1+y.1) % p,1)
def Za8 (p:Int)(x y:Int×Int):Int×Int:=if p=0 then nrm (x.1*y.1) (x.2*y.2) else (x.1*y.1 % p,1)
def Zgs (p k:Int):Int×Int:=if p=0 then (k,1) else (k % p,1)
theorem Isn.pos {p:Int}{x:Int×Int}(h:Isn p x):0<x.2:=by
 rcases h with ⟨_,h⟩|⟨_,_,_,h⟩
 .exact h.1
 .omega
theorem Zrg {p a b:Int}(hp:p=0)(hb:0<b):Isn p (nrm a b):=.inl ⟨hp,Zq6 hb⟩
theorem Zm5 {p a:Int}(hp:0<p):Isn p (a % p,1):=.inr ⟨hp,Jbl _ ∅,Ja7 _ hp,rfl⟩
theorem Zfn {p:Int}{x y:Int×Int}(h0:0<=p)(hx:Isn p x)(hy:Isn p y):Isn p (Zcz p x y):=by
 unfold Zcz;split
 .rename_i h;exact Zrg h (Jc9 hx.pos hy.pos)
 .exact Zm5 ∅
theorem Zbb {p:Int}{x y:Int×Int}(h0:0<=p)(hx:Isn p x)(hy:Isn p y):Isn p (Za8 p x y):=by
 unfold Za8;split
 .rename_i h;exact Zrg h (Jc9 hx.pos hy.pos)
 .exact Zm5 ∅
theorem Zc1 {p k:Int}(h0:0<=p):Isn p (Zgs p k):=by
 unfold Zgs;split
 .rename_i h;exact .inl ⟨h,⟨by show (0:Int)<1;decide,by simp⟩⟩
 .exact Zm5 ∅
theorem Zoe (a b:Int):Int.gcd b (a % b)=Int.gcd a b:=by
 rw[Int.emod_def,Int.sub_eq_add_neg,<- Int.mul_neg,Int.gcd_add_mul_left_right,Jd8]
structure FunD (K:Frag)(x qual:Str)(st:Stmt)(f:Addr)(fd:FuncData)(T:Addr):Prop where
 ex:∃ (oc:Value) (od:Option Addr) (kV doc pm:Value) (an:Option Addr) (cdv ct:Value) (osl:Array (Option Value)),
  fd=PySem.W.fnOf x qual (Zdl st) (Zcj st) (Zaf st) (.ref T) kV doc pm an cdv ct/\K.lookup f=some ⟨oc,od,.func fd,osl⟩/\PySem.W.codeIn K cdv qual=true
section
theorem FunD.ok {x qual:Str}{st:Stmt}{f T:Addr}{fd:FuncData}{N ps:List Str}{k:Nat}{sp:Sp}(F:FunD K x qual st f fd T)(S:FnScope N ps (Zaf st))(len:∀ vs H Q E,sp vs H Q E->vs.length=ps.length)(hbody:∀ (cdv:Value) (A:Around) (outer:List Env) (s:Shared) (H:Hp) (vs:List V) (Q:VK) (E:XK),Room k (A.deeper (envOfC qual (Zaf st) s.heap.objs.size f cdv))->sp vs H Q E->
   ∃ t,PSs (Zuv CX0 P w K mg base N qual (Zaf st) f cdv A outer s H E).nox (Zcj st) t/\t { nx:=λ_ H'=>Q .non H',rt:=Q } (start N vs) H):FnOk P w K mg base CX0 (k+1) f fd ps sp:=by
 refine xE9_3 F.ex λoc od kV doc pm an cdv ct osl e91 lk hcd=>?_;obtain rfl:=e91;refine fn_of lk hcd S len λA outer s H vs Q E hr hsp=>?_;refine Zae (hbody cdv A outer s H vs Q E hr hsp) λt h q=>?_;exact⟨t,h.nox,q⟩
end
structure CalD (P:Program)(w:World)(K:Frag)(mg:Str->Option Value)(base:Heap)(C:Addr)(m:Str)(k:Nat)(sp:Sp)(dvs:List V):Prop where
 ex:∃ (f:Addr) (fd:FuncData) (ps:List Str) (ds:List Value),FnOk P w K mg base CX0 k f fd ps sp/\Meth K C m f/\Binds K fd ps ds/\Vals dvs ds
theorem Zmx {X:Cx}{m:Str}{C:Addr}{k:Nat}{sp:Sp}{dvs:List V}{o e:Expr}{es:List Expr}{ta:TE}{t:TA}{apos pos:Pos}{pl:Sem Bool}(c:Cls X.K C)(M:CalD X.prog X.w X.K X.mg X.base C m k sp dvs)(hr:Room k X.A)(ho:PE X o ta)(ha:PA X (e::es) t)(h:Zb3 e=false:=by rfl)(h2:es.all (λx=>!Zb3 x)=true:=by rfl)(ht:eval (.Call (.Attribute o m apos) (e::es) [] pos) X.env=(do
   let ov <- eval o X.env
   standAt apos.atName
   let (f,first) <- holding [ov] (getMethod ov m pl)
   callWith pos f first (backTo pos (starEach (e::es) X.env)) (backToKw pos (keywordEach [] X.env))):=by rfl):
  PE X (.Call (.Attribute o m apos) (e::es) [] pos) (Zps C m sp dvs E0 ta t):=by
 refine Zb8 M.ex λf fd ps ds F hm hb hd=>?_;exact Zqn ho c hm F hr hb hd Ztl ha (Za7 h) (Zfh h2) ht
theorem Zg0 {K:Frag}{fd:FuncData}{ps:List Str}{T:Addr}{oc:Value}{od:Option Addr}{osl:Array (Option Value)}{items:Array Value}{n:Nat}{ds:List Value}(lk:K.lookup T=some ⟨oc,od,.seq items n,osl⟩)(hd:fd.defaults=.ref T)(h:∀ us:List Value,(us++ds).length=ps.length->∃ k,bindArgs fd ⟨us,[]⟩=seqItems? fd.defaults >>= k/\k (some items)=pure (ps.zip (us++ds))):Binds K fd ps ds:=λs us KX hl=>by
 refine Zae (h us hl) λk h1 h2=>?_;exact .of_defaults hd (KX T _ lk) rfl h1 h2
def rNeN (K:Frag):R2:=λx y H Q=>rNe x y H Q\/Zvm K true x y H Q
theorem op_neN {X:Cx}(hu:X.A.units+8<cLine):OpR X (compareOp .NotEq) (rNeN X.K):=Zeu.or (Zvr hu)
theorem Zqr {X:Cx}:OpR X (compareOp .IsNot) (λx y H Q=>∃ a b,x=.bl a/\y=.bl b/\Q (.bl (!(a == b))) H):=by
 intro pins s σ H x y v u Q I rx ry h;refine Zbt h λa b e94 e95 q=>?_;clear h;obtain rfl:=e94;obtain rfl:=e95;cases rx;cases ry;refine Ja9 (a:=Value.bool (!(Value.bool a == Value.bool b))) ⟨.bl (!(a == b)),H,I,?_,q⟩;cases a <;> cases b <;> rfl
def rBits:V->List V->Hp->VK->Prop:=λx vs H Q=>∃ i:Int,x=.int i/\vs=[]/\Q (.int ((Builtin.Int.intBits i:Nat):Int)) H
theorem Zm2 {X:Cx}:MtM X "int.bit_length" rBits:=by
 intro pins s σ H x vs v us Q I rx rv h;refine Zav h λi e91 e92 q=>?_;clear h;obtain rfl:=e91;obtain rfl:=e92;obtain⟨t,rfl⟩:=rx;have hus:=rv.zero;subst hus;exact call_gives F.slot_int_bit_length (typeIs_int s i t) F.entry_int_bit_length (F.args_int_bit_length_1 _) (AutoIntG2.int_bit_length_int_0 i t) ⟨.int ((Builtin.Int.intBits i:Nat):Int),H,I.tok _,⟨_,rfl⟩,q⟩
theorem bits_le {i:Int}{n:Nat}(h:i.natAbs<2 ^ n):Builtin.Int.intBits i<=n:=by
 unfold Builtin.Int.intBits;split
 .exact Jb5 _
 .rename_i h0
  have h1:i.natAbs≠0:=by
   intro e;exact h0 (by simp[Int.natAbs_eq_zero.mp e])
  exact (Nat.log2_lt h1).mpr h
end L2
namespace L2
open PySem PySem.Spec PyProof.Rows
def Ite (K:Frag)(a:Addr):It:=
 ⟨λi H=>∃ xs x,SqL K H a xs/\xs[i]?=some x,λi H v H'=>∃ x p,v=.ref p/\H p=none/\H'=upd H p (.tup [.int i,x])/\(∀ xs,SqL K H a xs->xs[i]?=some x),λi H=>∃ xs,SqL K H a xs/\xs.length<=i⟩
section
variable {X:Cx}
def iEnm (K:Frag)(ta:TA):TI:=λσ H R=>ta σ H λvs H1=>∃ a,vs=[.ref a]/\(∃ xs,SqL K H1 a xs)/\R (Ite K a) H1
end
section
variable {K:Frag}{a b D:Addr}{xs ys:List V}{g:TG}{tt:TT}{te:TE}{k:Nat}{fr:List (Str×Nat)}{σ:St}{H1:Hp}{Q:VK}
end
end L2
namespace L2
open PySem PySem.Spec PyProof.Rows PySem.W
structure Trk (B:Heap)(fr:List Env)(e:Addr)(cls c0 fl:Value)(h:Heap):Prop where
 st:B.StaysIn h
 nw:B.get? e=none
 ff:h.FunFrames B fr
 ob:∃ (o:Obj) (vs:Array Value) (T:Addr) (oT:Obj) (us:Array Value),h.get? e=some o/\o.cls=cls/\o.data=.fields vs/\vs[2]?=some c0/\vs[1]?=some (.ref T)/\B.get? T=none/\T≠e/\h.get? T=some oT/\oT.data=.fields us/\us[3]?=some fl
section
variable {M:Model}{A:Around}{E:Value->Shared->Prop}{s:Shared}{B:Heap}{fr:List Env}{e L:Addr}{cls c0:Value}{Q:Unit->Shared->Prop}
end
end L2
namespace L2
open PySem PySem.Spec PyProof.Rows PySem.W
structure Fly (P:Program)(w:World)(outer:List Env)(H:Hp)(s:Shared)(a:Addr)(cls c0:Value)(H':Hp)(s':Shared):Prop where
 os:s'.os=s.os
 bare:AllBare s'.gens
 hok:HOk P w H' s'.heap
 un:Un (frs outer) [] H H' s.heap s'.heap
 fly:∃ B,Trk B outer a cls c0 .none s'.heap/\(∀ b o,s.heap.get? b=some o->b∉frs outer->∃ o',B.get? b=some o')/\∀ b u,H' b=some u->∃ o',B.get? b=some o'
 new:∀ o,s.heap.get? a≠some o
 free:H' a=none
def CXe (P:Program)(w:World):CXT:=λouter H s E e s'=>∃ (a:Addr) (cls c0:Value) (H':Hp),e=.ref a/\Fly P w outer H s a cls c0 H' s'/\E cls none H'/\(c0=.none\/E cls (some 0) H')
section
variable {N:List Str}{qual:Str}{scope:Scope}{f:Addr}{cd:Value}{A:Around}{outer:List Env}{s:Shared}{H:Hp}{E:XK}{pins:List (Addr×Obj)}{σ:St}{H1:Hp}{s1 s2:Shared}{e:Addr}{cls:Value}
end
end L2
namespace L2
open PySem PySem.Spec PyProof.Rows PySem.W
def Zve (t:TA)(R:Hp->Prop):TS:=λ_ σ H=>t σ H λvs H1=>vs.length<=1000/\R H1
section
variable {X:Cx}{x:Str}{C:Addr}{bm bmN:List Value}{B Bn newId nid initId inN:String}{np cpos pos:Pos}{e₀:Expr}{rest:List Expr}{t:TA}{R:Hp->Prop}
end
end L2
namespace L2
open PySem PySem.Spec PyProof.Rows PySem.W
section
end
section
variable {X:Cx}{pins:List (Addr×Obj)}{σ:St}{H H':Hp}{s s':Shared}{a:Addr}{cls:Value}
end
end L2
namespace L2
open PySem PySem.Spec PyProof.Rows PySem.W
section
variable {M:Model}{A:Around}{E:Value->Shared->Prop}
variable {nm q:Str}{C N:Addr}{bs bm:List Value}{hdct:Bool}{sn:List Str}{sub:List Value}{ab:Bool}{col:Option Bool}{dd:Option Addr}{k0 k1 k2 k3 k5:Option Value}{newId:String}
variable {nm' q':Str}{C' N':Addr}{bs' bm':List Value}{hdct':Bool}{sn':List Str}{sub':List Value}{ab':Bool}{col':Option Bool}{dd':Option Addr}{j0 j1 j2 j3 j5:Option Value}{newId':String}
end
end L2
namespace L2
open PySem PySem.Spec PyProof.Rows PySem.W
abbrev Cx.pnx (X:Cx)(pins:List (Addr×Obj)):Cx:={ X with pn:=X.pn++pins }
abbrev Cx.hnd (X:Cx)(pins:List (Addr×Obj))(a:Addr):Cx:={ X with pn:=X.pn++pins,A:=X.A.mark (some (.ref a)),calm:=false,xe:=λ_ _=>False }
section
variable {X:Cx}{pins pins':List (Addr×Obj)}{σ:St}{H:Hp}{s:Shared}{a:Addr}
theorem Inv.pnx (I:Inv X pins σ H s):Inv (X.pnx pins) [] σ H s:=
 ⟨⟨I.ok.mod,I.ok.kind,I.ok.glob,I.ok.blt,I.ok.above,I.ok.inj,I.ok.has,I.ok.cab,I.ok.hd,I.ok.frames,I.ok.stk,I.ok.exf,I.ok.bs,I.ok.bsz,I.ok.noex,I.ok.exfs,I.ok.funs,I.ok.frf,I.ok.top⟩,I.os,I.bare,I.base,I.loc,I.cell,I.free,I.freeC,λp hp=>I.pin p (by simpa using hp),I.hok,I.len⟩
theorem Inv.hnd (I:Inv X pins σ H s)(a:Addr):Inv (X.hnd pins a) [] σ H s:=
 ⟨⟨I.ok.mod,I.ok.kind,I.ok.glob,I.ok.blt,I.ok.above,I.ok.inj,I.ok.has,I.ok.cab,(λz=>nomatch z),I.ok.frames,I.ok.stk,I.ok.exf,I.ok.bs,I.ok.bsz,I.ok.noex,I.ok.exfs,I.ok.funs,I.ok.frf,I.ok.top⟩,I.os,I.bare,I.base,I.loc,I.cell,I.free,I.freeC,λp hp=>I.pin p (by simpa using hp),I.hok,I.len⟩
end
def isExc (a:Addr)(cls:Value):HO:=.ext λh=>∃ ob,h.get? a=some ob/\ob.cls=cls
def hEnds (X:Cx)(D:Ends):Ends:={ nx:=λ_ H=>D.nx (List.replicate X.N.length none) H,rt:=D.rt,bk:=λ_ H=>D.bk (List.replicate X.N.length none) H,ct:=λ_ H=>D.ct (List.replicate X.N.length none) H }
def tTry (X:Cx)(E':XK)(tb:TS)(i:Nat)(th:TS):TS:=λD σ H=>tb D σ H/\∀ (cls:Value) (H':Hp) (a:Addr) (σ':St),E' cls none H'->H' a=none->σ'.length=X.N.length->th (hEnds X D) (σ'.set i (some (.ref a))) (upd H' a (isExc a cls))
section
variable {X:Cx}{x n:Str}{np hpos pos:Pos}{body suite:List Stmt}{b₀:Stmt}{E':XK}{tb th:TS}{i:Nat}{D:Addr}{bmD:List Value}{newD:String}
end
end L2
namespace L2
open PySem PySem.Spec PySem.Calls PyProof.Rows PySem.W Builtin Builtin.ObjectAttr Builtin.Getset_descriptor
structure ExcCls (K:Frag)(C:Addr):Prop where
 ga:findIn K (.ref C) "__getattribute__" = some (some (.builtin "BaseException.__getattribute__"))
 gt:findIn K (.ref C) "__getattr__" = some none
 cl:findIn K (.ref C) "__class__" = some (some (.builtin "object.__class__"))
 so:mroIn K C (.type "object")=some true
 sb:mroIn K C (.type "BaseException")=some true
section
variable {prog:Program}{w:World}{A:Around}{E:Value->Shared->Prop}{h:Heap}{g:Array GenState}{d:Drawn}{t:Nat}{os:OsState}{a C:Addr}{ox:Obj}{K:Frag}
end
end L2
namespace L2
open PySem PySem.Spec PyProof.Rows PySem.W
section
variable {X:Cx}
end
end L2
namespace L2
open PySem PySem.Spec PyProof.Rows PySem.W
structure CalE (P:Program)(w:World)(K:Frag)(mg:Str->Option Value)(base:Heap)(x:Str)(k:Nat)(sp:Sp):Prop where
 ex:∃ (f:Addr) (fd:FuncData) (ps:List Str),FnOk P w K mg base (CXe P w) k f fd ps sp/\mg x=some (.ref f)/\PySem.W.keepIn K (.ref f)=true/\Binds K fd ps []
structure CalME (P:Program)(w:World)(K:Frag)(mg:Str->Option Value)(base:Heap)(C:Addr)(m:Str)(k:Nat)(sp:Sp):Prop where
 ex:∃ (f:Addr) (fd:FuncData) (ps:List Str),FnOk P w K mg base (CXe P w) k f fd ps sp/\Meth K C m f/\Binds K fd ps []
structure CalIE (P:Program)(w:World)(K:Frag)(mg:Str->Option Value)(base:Heap)(x:Str)(C:Addr)(k:Nat)(sp:Sp):Prop where
 ex:∃ (f:Addr) (fd:FuncData) (ps:List Str),FnOk P w K mg base (CXe P w) k f fd ps sp/\Mk K C f/\mg x=some (.ref C)/\Binds K fd ps []
section
variable {X:Cx}{x m:Str}{k:Nat}{sp:Sp}{e o:Expr}{es:List Expr}{ta:TE}{t:TA}{p pos apos:Pos}{E:XK}{C:Addr}
end
theorem hnd_K {X:Cx}{pins:List (Addr×Obj)}{a:Addr}:(X.hnd pins a).K=X.K:=rfl
theorem pnx_K {X:Cx}{pins:List (Addr×Obj)}:(X.pnx pins).K=X.K:=rfl
structure CalDE (P:Program)(w:World)(K:Frag)(mg:Str->Option Value)(base:Heap)(C:Addr)(m:Str)(k:Nat)(sp:Sp)(dvs:List V):Prop where
 ex:∃ (f:Addr) (fd:FuncData) (ps:List Str) (ds:List Value),FnOk P w K mg base (CXe P w) k f fd ps sp/\Meth K C m f/\Binds K fd ps ds/\Vals dvs ds
section
variable {N:List Str}{qual:Str}{scope:Scope}{f:Addr}{cd:Value}{A:Around}{outer:List Env}{s:Shared}{H:Hp}{E:XK}
end
end L2
namespace L2
open PySem PySem.Spec PyProof.Rows
structure RoomH (k:Nat)(A:Around):Prop where
 dp:A.depth+3*k+205<recursionLimit
 un:A.units+16*k+200<cLine
theorem Room.mark {k:Nat}{A:Around}(r:Room k A)(v:Option Value):RoomH k (A.mark v):=⟨r.dp,r.un⟩
theorem RoomH.depth {k:Nat}{A:Around}(r:RoomH k A):A.depth<recursionLimit:=by have:=r.dp;omega
theorem RoomH.deeper {k:Nat}{A:Around}(r:RoomH (k+1) A)(env:Env):RoomH k (A.deeper env):=by
 have h1:=r.dp;have h2:=r.un;constructor
 .show A.depth+1+3*k+205<_;omega
 .show A.units+3+16*k+200<_;omega
structure FnOkH (P:Program)(w:World)(K:Frag)(mg:Str->Option Value)(base:Heap)(CX:CXT)(k:Nat)(f:Addr)(fd:FuncData)(ps:List Str)(sp:Sp):Prop where
 len:∀ vs H Q E,sp vs H Q E->vs.length=ps.length
 run:∀ (A:Around) (outer:List Env) (s:Shared) (H:Hp) (args:Args) (us:List Value) (vs:List V) (Q:VK) (E:XK),RoomH k A->Env0 P w K mg base A outer s H->BindsTo s fd args (ps.zip us)->Vals vs us->sp vs H Q E->
  codeAny (model P w) A (.call (.ref f) args) (CR CX outer P w H s Q E) s
section
structure CalH (P:Program)(w:World)(K:Frag)(mg:Str->Option Value)(base:Heap)(x:Str)(k:Nat)(sp:Sp):Prop where
 ex:∃ (f:Addr) (fd:FuncData) (ps:List Str),FnOkH P w K mg base CX0 k f fd ps sp/\mg x=some (.ref f)/\PySem.W.keepIn K (.ref f)=true/\Binds K fd ps []
end
section
variable {X:Cx}{CX:CXT}{k:Nat}{f C:Addr}{fd:FuncData}{ps:List Str}{sp:Sp}{dvs:List V}{ds:List Value}{E:XK}{x m:Str}{p pos apos:Pos}{e o:Expr}{es:List Expr}{ta:TE}{t:TA}
end
section
variable {X:Cx}
end
end L2
namespace L2
open PySem PySem.Spec PyProof.Rows
end L2
namespace L2
open PySem PySem.Spec PyProof.Rows
section
variable {prog:Program}{w:World}{A:Around}{s:Shared}{E:Value->Shared->Prop}
end
section
variable {X:Cx}
end
def Itv (K:Frag)(a:Addr)(n:Nat):It:=
 ⟨λi H=>∃ xs,SqL K H a xs/\xs.length=n/\i<n,λi H v H'=>H'=H/\∀ xs,SqL K H a xs->xs[n-1-i]?=some v,λi H=>∃ xs,SqL K H a xs/\xs.length=n/\i=n⟩
section
variable {X:Cx}
def iRvl (K:Frag)(ta:TA):TI:=λσ H R=>ta σ H λvs H1=>∃ a xs,vs=[.ref a]/\SqL K H1 a xs/\R (Itv K a xs.length) H1
end
section
variable {K:Frag}{a:Addr}{xs:List V}{g:TG}
end
end L2
namespace L2
open PySem PySem.Spec PyProof.Rows
section
variable {prog:Program}{w:World}{A:Around}{E:Value->Shared->Prop}{s:Shared}
end
end L2
namespace L2
open PySem PySem.Spec PyProof.Rows
section
variable {prog:Program}{w:World}{A:Around}{s:Shared}{E:Value->Shared->Prop}
structure EnG (items:Array Value)(lo:Addr)(h:Heap)(as:List Addr):Prop where
 rise:as.Pairwise (· < ·)
 above:∀ a∈as,lo<a
 pairs:∀ (j:Nat) (a:Addr),as[j]?=some a->∃ t x,items[j]?=some x/\h.get? a=some { cls:=.type "tuple",data:=.seq #[.int j t,x] }
end
section
variable {prog:Program}{w:World}{A:Around}{s:Shared}{R:Result->Shared->Prop}{items:Array Value}
end
section
variable {prog:Program}{w:World}{A:Around}{s:Shared}{E:Value->Shared->Prop}
end
section
variable {X:Cx}{pins:List (Addr×Obj)}{σ:St}
def tLE (K:Frag)(ta:TA):TE:=λσ H Q=>ta σ H λvs H1=>∃ a xs,vs=[.ref a]/\SqL K H1 a xs/\∀ (l:Addr) (ps:List Addr) (H':Hp),Same H1 H'->H1 l=none->(∀ q∈ps,q≠l)->H' l=some (.lst (ps.map V.ref))->ps.length=xs.length->
 (∀ (i:Nat) q x,ps[i]?=some q->xs[i]?=some x->H' q=some (.tup [.int i,x]))->Q (.ref l) H'
end
section
variable {X:Cx}
def gSl0 (to:TE)(th:TO):TG:=λv σ H Q=>to σ H λx H1=>th σ H1 λu H2=>∃ l b xs ys,∃ c:Int,x=.ref l/\v=.ref b/\u=some c/\H2 l=some (.lst xs)/\H2 b=some (.lst ys)/\l≠b/\0<=c/\c<=xs.length/\xs.length+ys.length<=sizeLine/\Q σ (upd H2 l (.lst (ys++xs.drop c.toNat)))
end
section
variable {K:Frag}{a b D:Addr}{xs ys:List V}{g:TG}{tt:TT}{te:TE}{k:Nat}{fr:List (Str×Nat)}{σ:St}{H1:Hp}{Q:VK}
end
theorem Zqs {X:Cx}(K:Frag)(hK:X.K=K)(hu:X.A.units+8<cLine):OpR X (compareOp .NotEq) (rNeN K):=hK ▸ op_neN hu
end L2
namespace L2
open PySem PySem.Spec PyProof.Rows
def Bt (n:Nat)(z:Int):Prop:=z.natAbs<2 ^ n
theorem Bt.le {n m:Nat}{z:Int}(h:Bt n z)(hm:n<=m):Bt m z:=Jau h (Jc0 ⇑0 hm)
theorem Bt.mul {n m:Nat}{x y:Int}(h:Bt n x)(h':Bt m y):Bt (n+m) (x*y):=by
 unfold Bt at *;rw[Jch,Nat.pow_add];exact Nat.mul_lt_mul'' h h'
theorem Bt.add {n:Nat}{x y:Int}(h:Bt n x)(h':Bt n y):Bt (n+1) (x+y):=by
 unfold Bt at *;rw[Nat.pow_succ];omega
theorem Bt.neg {n:Nat}{x:Int}(h:Bt n x):Bt n (-x):=by unfold Bt at *;rw[Int.natAbs_neg];exact h
theorem Bt.abs_le {n:Nat}{x y:Int}(h:Bt n x)(hy:y.natAbs<=x.natAbs):Bt n y:=Jbk hy h
theorem Bt.quo {n:Nat}{x y:Int}(h:Bt n x)(hd:y ∣ x):Bt n (x / y):=h.abs_le (by
 rw[Int.natAbs_ediv,if_pos (.inr (.inr hd))];exact Nat.div_le_self _ _)
theorem Znb (n:Nat):Bt n 0:=Nat.two_pow_pos n
theorem Zbi {n:Nat}{z:Int}(hn:7<=n)(h:z.natAbs<128):Bt n z:=Jau h (Jc0 (show 0<2 by decide) hn)
theorem Bt.bits {n:Nat}{z:Int}(h:Bt n z):Builtin.Int.intBits z<=n:=bits_le h
theorem Bt.ok {n m:Nat}{x y:Int}(h:Bt n x)(h':Bt m y)(hs:n+m<=134217728):IntMulOk x y:=mulOk_of_bits h.bits h'.bits hs
theorem Zc6 {X:Cx}(ht:X.prog.given.tree=none)(hd:X.A.depth+Builtin.pylongFrames<recursionLimit):OpR X (binaryOp .FloorDiv) (rI (λ_ j=>j≠0) λi j=>.int (i.fdiv j)):=by
 intro pins s σ H x y v u Q I rx ry h;refine Zet h λi j e91 e92 hc q=>?_;clear h;obtain rfl:=e91;obtain rfl:=e92;obtain⟨t,rfl⟩:=rx;obtain⟨t',rfl⟩:=ry;exact floordiv_int hc ⟨.int (i.fdiv j),H,I.tok _,⟨_,rfl⟩,q⟩ (.inr (I.long ht hd))
theorem Zce {k:Nat}{A:Around}(hr:Room k A):A.depth+Builtin.pylongFrames<recursionLimit:=by
 have:=hr.dp;have e:Builtin.pylongFrames<=200:=⇑0
 omega
theorem Zeh {i j:Int}(h:0<j):i.fdiv j=i / j:=Jbs i ∅
theorem Zup {a b c d x y:Int}(h:a*d-b*c=1\/a*d-b*c=-1):Int.gcd (a*x+b*y) (c*x+d*y)=Int.gcd x y:=by
 apply Nat.dvd_antisymm
 .have h1:((Int.gcd (a*x+b*y) (c*x+d*y):Nat):Int) ∣ a*x+b*y:=Jb7 ..;have h2:((Int.gcd (a*x+b*y) (c*x+d*y):Nat):Int) ∣ c*x+d*y:=Jcc ..;generalize Int.gcd (a*x+b*y) (c*x+d*y)=g at *;obtain⟨u,hu⟩:=h1;obtain⟨v,hv⟩:=h2;have dx:(g:Int) ∣ x:=by
   rcases h with h|h
   .exact ⟨d*u-b*v,by grind⟩
   .exact ⟨b*v-d*u,by grind⟩
  have dy:(g:Int) ∣ y:=by
   rcases h with h|h
   .exact ⟨a*v-c*u,by grind⟩
   .exact ⟨c*u-a*v,by grind⟩
  exact Int.ofNat_dvd.mp (Int.dvd_coe_gcd dx dy)
 .have h1:((Int.gcd x y:Nat):Int) ∣ x:=Jb7 ..;have h2:((Int.gcd x y:Nat):Int) ∣ y:=Jcc ..;generalize Int.gcd x y=g at *;obtain⟨u,hu⟩:=h1;obtain⟨v,hv⟩:=h2;exact Int.ofNat_dvd.mp (Int.dvd_coe_gcd ⟨a*u+b*v,by grind⟩ ⟨c*u+d*v,by grind⟩)
structure Steps (x0 y0 a b c d x y:Int):Prop where
 hx:a*x0+b*y0=x
 hy:c*x0+d*y0=y
 sg:∃ e:Int,(e=1\/e=-1)/\a*d-b*c=e/\0<=e*a/\0<=-(e*b)/\0<=-(e*c)/\0<=e*d
 x64:18446744073709551616<=x
 yn:0<=y
 yx:y<=x
 ab:a.natAbs<4611686018427387904/\b.natAbs<4611686018427387904
 pr:(a=1/\b=0/\c=0/\d=1)\/(b≠0/\x+y+18446744073709551616<=x0+y0)
theorem Zls {u x m:Int}(hu:0<=u)(hx:18446744073709551616<=x)(h:u*x<=m)(hm:m<85070591730234615865843651857942052864):u<4611686018427387904:=by
 apply Jbc;intro z;have h1:(4611686018427387904:Int)*18446744073709551616<=u*x:=Int.mul_le_mul ∅ hx ∅ hu;omega
theorem Steps.cd {x0 y0 a b c d x y:Int}(h:Steps x0 y0 a b c d x y)(h0:x0<85070591730234615865843651857942052864)(h1:y0<=x0):c.natAbs<4611686018427387904/\d.natAbs<4611686018427387904:=by
 refine Zst h.sg λe he det sa sb sc sd=>?_;have ee:e*e=1:=by rcases he with rfl|rfl <;> rfl
 have ex:(e*d)*x+(-(e*b))*y=x0:=by
  rw[<- h.hx,<- h.hy];have:(e*d)*(a*x0+b*y0)+(-(e*b))*(c*x0+d*y0)=e*(a*d-b*c)*x0:=by grind
  rw[this,det,ee,Int.one_mul]
 have ey:(-(e*c))*x+(e*a)*y=y0:=by
  rw[<- h.hx,<- h.hy];have:(-(e*c))*(a*x0+b*y0)+(e*a)*(c*x0+d*y0)=e*(a*d-b*c)*y0:=by grind
  rw[this,det,ee,Int.one_mul]
 have p1:0<=(-(e*b))*y:=Jcr sb h.yn;have p2:0<=(e*a)*y:=Jcr sa h.yn;have q1:=Zls sd h.x64 (show (e*d)*x<=x0 by omega) h0;have q2:=Zls sc h.x64 (show (-(e*c))*x<=x0 by omega) h0;constructor
 .rcases he with rfl|rfl <;> omega
 .rcases he with rfl|rfl <;> omega
theorem Steps.next {x0 y0 a b c d x y:Int}(h:Steps x0 y0 a b c d x y)(h0:x0<85070591730234615865843651857942052864)(h1:y0<=x0)(hy:18446744073709551616<=y):Steps x0 y0 c d (a-x / y*c) (b-x / y*d) y (x-x / y*y):=by
 have cd:=h.cd h0 h1;refine Zst h.sg λe he det sa sb sc sd=>?_;have m0:0<=x / y:=Jd1 (by have:=h.x64;omega) ∅;have m1:1<=x / y:=by
  have:=h.yx;exact (Int.le_ediv_iff_mul_le ∅).mpr ∅
 have hr:x-x / y*y=x % y:=by
  have:=Jdp x y;rw[Int.mul_comm y] at this;omega
 have r0:=Jbl x (show y≠0 by omega);have r1:=Ja7 x (show 0<y by omega);have e1:=h.hx;have e2:=h.hy;generalize hq:x / y=q at *;have qy:y<=q*y:=by
  have:=Jcn m1 (show 0<=y by omega);omega
 refine⟨h.hy,by rw[<- e1,<- e2];grind,⟨-e,?_,by grind,by grind,by grind,?_,?_⟩,hy,∅,∅,cd,.inr ⟨?_,?_⟩⟩
 .rcases he with rfl|rfl <;> simp
 .have p:=Jcr m0 sc;have:-(-e*(a-q*c))=e*a+q * -(e*c):=by grind
  omega
 .have p:=Jcr m0 sd;have:-e*(b-q*d)=-(e*b)+q*(e*d):=by grind
  omega
 .rcases h.pr with ⟨_,_,_,rfl⟩|⟨hb,_⟩
  .decide
  .intro z;subst z;have hbc:-(b*c)=e:=by rw[<- det];grind
   -- b*c=-e,d=0: then y=c*x0 and x=a*x0+b*y0
   have hc1:c.natAbs=1:=by
    have:b.natAbs*c.natAbs=1:=by rw[<- Jch];rcases he with rfl|rfl <;> omega
    exact Nat.eq_one_of_mul_eq_one_left this
   have e2':c*x0=y:=by rw[<- e2];grind
   have hc:c=1:=by
    rcases (show c=1\/c=-1 by omega) with z|z
    .exact z
    .subst z;have:=h.x64;have:=h.yx;omega
   subst hc;rcases h.pr with ⟨_,hb0,_⟩|⟨_,hs⟩
   .exact hb hb0
   .have:=h.x64;have:=h.yx;have:=h.yn;omega
 .rcases h.pr with ⟨rfl,rfl,rfl,rfl⟩|⟨_,hs⟩
  .have g1:x0=x:=by rw[<- e1];grind
   have g2:y0=y:=by rw[<- e2];grind
   omega
  .omega
end L2
namespace L2
open PySem PySem.Spec PyProof.Rows PySem.W
structure LamScope (X:Cx)(sc:Scope)(x:Str)(fr:List (Str×Nat)):Prop where
 kind:sc.kind=.function
 co:sc.isCoroutine=false
 gen:sc.isGenerator=false
 nocell:∀ y∈sc.names,y.2≠.cell
 par:sc.names.lookup x=some .local
 free:∀ y∈sc.names,y.2=.free->X.env.scope.names.lookup y.1=some .cell\/X.env.scope.names.lookup y.1=some .free
 cap:∀ y∈fr,sc.names.lookup y.1=some .free/\X.N[y.2]?=some y.1
abbrev lamS (v:V)(fr:List (Str×Nat))(σ:St):St:=some v::fr.map λy=>(σ[y.2]?).getD none
section
variable {X:Cx}{pins:List (Addr×Obj)}{σ:St}{H:Hp}{s:Shared}{A:Around}{sc:Scope}{x:Str}{fr:List (Str×Nat)}{cl:List (Str×Addr)}{f:Addr}{cd:Value}{qual:Str}
end
structure LamAt (X:Cx)(pins:List (Addr×Obj))(sc:Scope)(params:Arguments)(body:Expr)(qual:Str)(P:Addr)(H:Hp)(s:Shared)(f c':Addr)(cl:List (Str×Addr))(ctv pm:Value):Prop where
 fn:s.heap.get? f=some (kla_obj "<lambda>" qual params body sc cl pm c' ctv)
 fp:Zo9 X pins H f
 cod:∃ oc vs t,H c'=some (.frz oc (.own P))/\oc.data=.fields vs/\vs[1]?=some (.str qual t)
 hcl:∀ x c,cl.lookup x=some c->X.env.cells.lookup x=some c
 hcl2:∀ y∈sc.names,y.2=.free->∃ c,cl.lookup y.1=some c
section
variable {X:Cx}{pins:List (Addr×Obj)}{σ:St}{H:Hp}{s:Shared}{sc:Scope}{x:Str}{fr:List (Str×Nat)}{P c:Addr}{params:Arguments}{body:Expr}{pos:Pos}
end
def IsMin (kf:Nat->Int)(n i:Nat):Prop:=i<n/\∀ j,j<n->kf i<=kf j/\(j<i->kf i<kf j)
section
variable {X:Cx}{pins:List (Addr×Obj)}{σ:St}{sc:Scope}{x:Str}{fr:List (Str×Nat)}{P:Addr}{params:Arguments}{body:Expr}{qual:Str}{f c' l It S:Addr}{cl:List (Str×Addr)}{ctv pm:Value}{xs:List V}{te:TE}{H0:Hp}{kf:Nat->Int}
end
def tMinL (K:Frag)(P:Addr)(ln co:Int)(q:Str)(fr:List (Str×Nat))(ta te:TE):TE:=λσ H Q=>ta σ H λv H1=>∃ l xs,∃ kf:Nat->Int,v=.ref l/\SqL K H1 l xs/\H1 P=some (.tab ln co q) /\
 (∀ i v H,xs[i]?=some v->Same H1 H->te (lamS v fr σ) H λy H'=>y=.int (kf i)/\Same H H')/\(xs=[]->∀ H',Same H1 H'->Q .non H')/\∀ i v H',IsMin kf xs.length i->xs[i]?=some v->Same H1 H'->Q v H'
section
variable {X:Cx}{sc:Scope}{x:Str}{fr:List (Str×Nat)}{P c:Addr}{params:Arguments}{body e:Expr}{lpos p pos k1 k2 kp:Pos}{ta te:TE}
end
abbrev Tbs:=List (Addr×Int×Int×Str)
def hp0 (K:Frag)(tb:Tbs)(a:Addr)(oa:Obj)(xs:List V):Hp:=λb=>if b=a then (if (K.lookup a).isSome=true then none else some (.frz oa (.lst xs))) else (tb.lookup b).map λt=>.tab t.1 t.2.1 t.2.2
structure FunC (K:Frag)(x qual:Str)(st:Stmt)(f:Addr)(fd:FuncData)(c:Addr):Prop where
 ex:∃ (oc:Value) (od:Option Addr) (kV doc pm:Value) (an:Option Addr) (ct:Value) (osl:Array (Option Value)),
  fd=PySem.W.fnOf x qual (Zdl st) (Zcj st) (Zaf st) .none kV doc pm an (.ref c) ct/\K.lookup f=some ⟨oc,od,.func fd,osl⟩/\PySem.W.codeIn K (.ref c) qual=true
section
theorem FunC.ok {x qual:Str}{st:Stmt}{f c:Addr}{fd:FuncData}{N ps:List Str}{k:Nat}{sp:L2.Sp}(F:FunC K x qual st f fd c)(S:FnScope N ps (Zaf st))(len:∀ vs H Q E,sp vs H Q E->vs.length=ps.length)(hbody:∀ (A:Around) (outer:List Env) (s:Shared) (H:Hp) (vs:List V) (Q:VK) (E:XK),Room k (A.deeper (envOfC qual (Zaf st) s.heap.objs.size f (.ref c)))->sp vs H Q E->
   ∃ t,PSs (Zuv CX0 P w K mg base N qual (Zaf st) f (.ref c) A outer s H E).nox (Zcj st) t/\t { nx:=λ_ H'=>Q .non H',rt:=Q } (start N vs) H):FnOk P w K mg base CX0 (k+1) f fd ps sp:=by
 refine xE8_3 F.ex λoc od kV doc pm an ct osl e98 lk hcd=>?_;obtain rfl:=e98;refine fn_of lk hcd S len λA outer s H vs Q E hr hsp=>?_;refine Zae (hbody A outer s H vs Q E hr hsp) λt h q=>?_;exact⟨t,h.nox,q⟩
end
end L2
namespace L2
open PySem PySem.Spec PyProof.Rows PySem.W
end L2
namespace L2
open PySem PySem.Spec PyProof.Rows
abbrev two (elt t1 i1 t2 i2:Expr)(scope:Scope)(pos:Pos):Expr:=.ListComp elt [⟨t1,i1,[],0⟩,⟨t2,i2,[],0⟩] scope pos
section
variable {prog:Program}{w:World}{A:Around}{R:Result->Shared->Prop}{s:Shared}{elt t1 i1 t2 i2:Expr}{scope:Scope}{pos:Pos}{it acc:Value}{env:Env}
end
section
variable {X:Cx}{tg iter t2 i2 elt:Expr}{scope:Scope}{pos:Pos}{own:List Str}{fr:List (Str×Nat)}{wi wi2:TI}{g g2:TG}{te:TE}
end
end L2
namespace L3
open L2
open Lean.Grind
def Zp (n:Nat):Type:=Fin n
instance {n:Nat}[NeZero n]:CommRing (Zp n):=inferInstanceAs (CommRing (Fin n))
class PrimeN (n:Nat):Prop where
 gt:1<n
 inv:∀ r:Nat,0<r->r<n->∃ k,k<n/\k*r % n=1
instance {n:Nat}[h:PrimeN n]:NeZero n:=⟨by have:=h.gt;omega⟩
section
variable {n:Nat}[hn:PrimeN n]
theorem Zu6 (a:Zp n)(h:a≠0):∃ b:Zp n,a*b=1:=by
 have h0:0<(show Fin n from a).val:=by
  rcases Nat.eq_zero_or_pos (show Fin n from a).val with z|z
  .exact absurd (show a=0 from Fin.ext (by rw[z];rfl)) h
  .exact z
 refine Zae (hn.inv _ h0 (show Fin n from a).isLt) λk hk e=>?_;refine⟨(⟨k,hk⟩:Fin n),?_⟩;apply Fin.ext;show ((show Fin n from a).val*k) % n=1 % n;rw[Nat.mul_comm,e,Nat.mod_eq_of_lt hn.gt]
open Classical in
noncomputable def zinv (a:Zp n):Zp n:=if h:a≠0 then Classical.choose (Zu6 a h) else 0
theorem Zic {a:Zp n}(h:a≠0):a*zinv a=1:=by
 unfold zinv;rw[dif_pos h];exact Jcg (Zu6 a h)
theorem Zil:zinv (0:Zp n)=0:=by
 unfold zinv;rw[dif_neg (by simp)]
theorem Zik:(0:Zp n)≠1:=λz=>by
 have:=Jdl (λx:Fin n=>x.val) z;have h1:(0:Nat) % n=1 % n:=this;rw[Nat.zero_mod,Nat.mod_eq_of_lt hn.gt] at h1;omega
theorem Zpe {a b c:Zp n}(h1:a*b=1)(h2:a*c=1):b=c:=by
 have:b=b*(a*c):=by rw[h2];grind
 rw[this]
 grind
theorem Zpf (a:Zp n):zinv (zinv a)=a:=by
 by_cases h:a=0
 .rw [h,Zil,Zil]
 .have h1:=Zic h;have h2:zinv a≠0:=λz=>by
   rw[z] at h1;exact Zik (by rw[<- h1];grind)
  exact Zpe (Zic h2) (by rw[<- h1];grind)
theorem Zsq:zinv (1:Zp n)=1:=Zpe (Zic (λz=>Zik z.symm)) (by grind)
noncomputable instance:Inv (Zp n):=⟨zinv⟩
noncomputable instance:Div (Zp n):=⟨λa b=>a*zinv b⟩
noncomputable def zpw (a:Zp n):Int->Zp n
 | .ofNat k=>a ^ k
 | .negSucc k=>zinv (a ^ (k+1))
noncomputable instance:HPow (Zp n) Int (Zp n):=⟨zpw⟩
noncomputable instance:Field (Zp n) where
 div_eq_mul_inv:=λa b=>rfl
 zero_ne_one:=Zik
 inv_zero:=Zil
 mul_inv_cancel:=λh=>Zic h
 zpow_zero:=λa=>Semiring.pow_zero a
 zpow_succ:=λa k=>Semiring.pow_succ a k
 zpow_neg:=λa k=>by
  match k with
  | .ofNat 0=>exact (show a ^ (0:Nat)=zinv (a ^ (0:Nat)) by rw[Semiring.pow_zero,Zsq])
  | .ofNat (m+1)=>rfl
  | .negSucc m=>exact (Zpf (a ^ (m+1))).symm
end
section
variable {F:Type}[Field F]
def ic (z:Int):F:=(Ring.intCast:IntCast F).intCast z
theorem Zob (x y:Int):(ic (x+y):F)=ic x+ic y:=Ring.intCast_add x y
theorem Zv0 (x y:Int):(ic (x-y):F)=ic x-ic y:=Ring.intCast_sub x y
theorem Zcl (x y:Int):(ic (x*y):F)=ic x*ic y:=Ring.intCast_mul x y
theorem Zrs (x:Int):(ic (-x):F)=-ic x:=Ring.intCast_neg x
theorem Zhl:(ic 0:F)=0:=Ring.intCast_zero
theorem Zes:(ic 1:F)=1:=Ring.intCast_one
end
def Rz (p z:Int):Prop:=p=0\/(0<=z/\z<p)
structure FdOk (p:Int)(F:Type)[Field F]:Prop where
 z0:∀ z:Int,Rz p z->(ic z:F)=0->z=0
 md:p≠0->(ic p:F)=0
theorem fd_zero:FdOk 0 Rat:=⟨λz _ h=>by
 have h2:(z:Rat)=((0:Int):Rat):=h;exact Rat.intCast_inj.mp h2,λh=>absurd rfl h⟩
theorem Zu5 {n:Nat}[PrimeN n](k:Nat):(show Fin n from (ic ((k:Nat):Int):Zp n)).val=k % n:=by
 have:(ic ((k:Nat):Int):Zp n)=(Semiring.natCast:NatCast (Zp n)).natCast k:=Ring.intCast_natCast k;rw[this];rfl
theorem Zus {n:Nat}[hn:PrimeN n]:FdOk n (Zp n):=by
 refine⟨λz hz h=>?_,λ_=>?_⟩
 .have hz:0<=z/\z<n:=hz.resolve_left (by have:=hn.gt;omega);obtain⟨k,rfl⟩:=Int.eq_ofNat_of_zero_le hz.1;have h2:=Zu5 (n:=n) k;rw[h,Nat.mod_eq_of_lt ∅] at h2;have h3:0 % n=k:=h2;rw[Nat.zero_mod] at h3;rw[<- h3];rfl
 .apply Fin.ext;have h2:=Zu5 (n:=n) n;rw[Nat.mod_self] at h2;refine h2.trans ?_;show 0=0 % n;rw[Nat.zero_mod]
def nm {F:Type}[Field F](x:Int×Int):F:=ic x.1 / ic x.2
section
variable {p:Int}{F:Type}[Field F]
theorem Zl2 {a b c:F}(h:b≠0)(e:c*b=a):a / b=c:=by grind
theorem FdOk.modF (hF:FdOk p F)(hp:p≠0)(z:Int):(ic (z % p):F)=ic z:=by
 have e:z=z % p+p*(z / p):=(Jdp z p).symm;have e2:(ic z:F)=ic (z % p)+ic p*ic (z / p):=by
  rw[<- Zcl,<- Zob,<- e]
 rw[e2,hF.md hp]
 grind
theorem FdOk.ne0 (hF:FdOk p F){z:Int}(hz:Rz p z)(h:z≠0):(ic z:F)≠0:=λe=>h (hF.z0 z hz e)
theorem FdOk.bot (hF:FdOk p F){x:Int×Int}(h:Isn p x):(ic x.2:F)≠0:=by
 rcases h with ⟨hp,h1,_⟩|⟨_,_,_,h1⟩
 .exact hF.ne0 (.inl hp) ∅
 .rw [h1,Zes];exact λz=>Field.zero_ne_one (α:=F) z.symm
theorem FdOk.nrmF (hF:FdOk p F)(hp:p=0){a b:Int}(hb:0<b):(nm (nrm a b):F)=ic a / ic b:=by
 have g0:(ic ((Int.gcd a b:Nat):Int):F)≠0:=hF.ne0 (.inl hp) (by have:=Zeg (a:=a) hb;omega);have b0:(ic b:F)≠0:=hF.ne0 (.inl hp) ∅;have e1:(ic (nrm a b).1:F)*ic ((Int.gcd a b:Nat):Int)=ic a:=by rw[<- Zcl,Zq7]
 have e2:(ic (nrm a b).2:F)*ic ((Int.gcd a b:Nat):Int)=ic b:=by rw[<- Zcl,Zm1]
 have c0:(ic (nrm a b).2:F)≠0:=λz=>b0 (by rw[<- e2,z];grind);unfold nm;rw[<- e1,<- e2];generalize (ic (nrm a b).1:F)=x at *;generalize (ic (nrm a b).2:F)=y at *;generalize (ic ((Int.gcd a b:Nat):Int):F)=g at *;exact Zl2 c0 (by grind)
theorem FdOk.one (hF:FdOk p F)(z:Int):(nm (z,1):F)=ic z:=by
 unfold nm;rw[Zes];exact Zl2 (λz=>Field.zero_ne_one (α:=F) z.symm) (by grind)
theorem FdOk.plus (hF:FdOk p F){x y:Int×Int}(hx:Isn p x)(hy:Isn p y):(nm (Zcz p x y):F)=nm x+nm y:=by
 have bx:=hF.bot hx;have by':=hF.bot hy
 unfold Zcz;split
 .rename_i hp
  rw[hF.nrmF hp (Jc9 hx.pos hy.pos),Zob,Zcl,Zcl,Zcl];unfold nm
  grind
 .rename_i hp
  rw[hF.one,hF.modF hp,Zob];rcases hx with ⟨z,_⟩|⟨_,_,_,h1⟩
  .exact absurd z hp
  .rcases hy with ⟨z,_⟩|⟨_,_,_,h2⟩
   .exact absurd z hp
   .unfold nm;rw[h1,h2,Zes]
    grind
theorem FdOk.times (hF:FdOk p F){x y:Int×Int}(hx:Isn p x)(hy:Isn p y):(nm (Za8 p x y):F)=nm x*nm y:=by
 have bx:=hF.bot hx;have by':=hF.bot hy
 unfold Za8;split
 .rename_i hp
  rw[hF.nrmF hp (Jc9 hx.pos hy.pos),Zcl,Zcl];unfold nm
  grind
 .rename_i hp
  rw[hF.one,hF.modF hp,Zcl];rcases hx with ⟨z,_⟩|⟨_,_,_,h1⟩
  .exact absurd z hp
  .rcases hy with ⟨z,_⟩|⟨_,_,_,h2⟩
   .exact absurd z hp
   .unfold nm;rw[h1,h2,Zes]
    grind
theorem FdOk.intF (hF:FdOk p F)(k:Int):(nm (Zgs p k):F)=ic k:=by
 unfold Zgs;split
 .exact hF.one k
 .rename_i hp
  rw[hF.one,hF.modF hp]
theorem FdOk.inj (hF:FdOk p F){x y:Int×Int}(hx:Isn p x)(hy:Isn p y)(e:(nm x:F)=nm y):x=y:=by
 have bx:=hF.bot hx;have by':=hF.bot hy
 have e2:(ic x.1:F)*ic y.2=ic y.1*ic x.2:=by unfold nm at e;grind
 rw[<- Zcl,<- Zcl] at e2;have e3:(ic (x.1*y.2-y.1*x.2):F)=0:=by rw[Zv0,e2];grind
 by_cases hp:p=0
 .have h:=hF.z0 _ (.inl hp) e3;rcases hx with ⟨_,lx⟩|⟨z,_⟩
  .rcases hy with ⟨_,ly⟩|⟨z,_⟩
   .exact Zo2 lx ly ∅
   .omega
  .omega
 .rcases hx with ⟨z,_⟩|⟨pp,x0,x1,h1⟩
  .exact absurd z hp
  .rcases hy with ⟨z,_⟩|⟨_,y0,y1,h2⟩
   .exact absurd z hp
   .rw [h1,h2,Int.mul_one,Int.mul_one] at e3;rw[<- hF.modF hp] at e3;have h:=hF.z0 _ (.inr ⟨Jbl _ hp,Ja7 _ pp⟩) e3;have h3:x.1=y.1:=by
     have:=Int.emod_emod_of_dvd (x.1-y.1) (Int.dvd_refl p);by_cases q:y.1<=x.1
     .rw [Jb0 ∅ ∅] at h;omega
     .have h4:(x.1-y.1+p) % p=0:=by rw[Int.add_emod_right];exact h
      rw[Jb0 ∅ ∅] at h4;omega
    exact Jd7 h3 (by rw[h1,h2])
end
end L3
namespace L3
open Lean.Grind
section
variable {F:Type}[Field F]
def sm:Nat->(Nat->F)->F
 | 0,_=>0
 | n+1,f=>sm n f+f n
theorem Zai:∀ {n:Nat} {f g:Nat->F},(∀ i,i<n->f i=g i)->sm n f=sm n g
 | 0,_,_,_=>rfl
 | n+1,f,g,h=>by
  show sm n f+f n=sm n g+g n;rw[Zai (n:=n) λi hi=>h i ∅,h n ∅]
theorem Zcn:∀ n:Nat,sm n (λ_=>(0:F))=0
 | 0=>rfl
 | n+1=>by
  show sm n (λ_=>(0:F))+0=0;rw[Zcn n]
  grind
theorem Zho:∀ (n:Nat) (f g:Nat->F),sm n (λi=>f i+g i)=sm n f+sm n g
 | 0,_,_=>by show (0:F)=0+0;grind
 | n+1,f,g=>by
  show sm n (λi=>f i+g i)+(f n+g n)=(sm n f+f n)+(sm n g+g n);rw[Zho n]
  grind
theorem Zdx (a:F):∀ (n:Nat) (f:Nat->F),sm n (λi=>a*f i)=a*sm n f
 | 0,_=>by show (0:F)=a*0;grind
 | n+1,f=>by
  show sm n (λi=>a*f i)+a*f n=a*(sm n f+f n);rw[Zdx a n]
  grind
theorem Zg8 (a:F)(n:Nat)(f:Nat->F):sm n (λi=>f i*a)=sm n f*a:=by
 rw[show (λi=>f i*a)=λi=>a*f i from funext λi=>by grind,Zdx]
 grind
theorem Zg7:∀ (n m:Nat) (f:Nat->Nat->F),sm n (λi=>sm m (λj=>f i j))=sm m (λj=>sm n (λi=>f i j))
 | 0,m,f=>(Zcn m).symm
 | n+1,m,f=>by
  show sm n (λi=>sm m (λj=>f i j))+sm m (λj=>f n j)=sm m (λj=>sm n (λi=>f i j)+f n j);rw[Zg7 n m,Zho]
theorem Zhn:∀ {n k:Nat} (f:Nat->F),k<n->sm n (λi=>if i=k then f i else 0)=f k
 | 0,_,_,h=>absurd h (Nat.not_lt_zero _)
 | n+1,k,f,h=>by
  show sm n (λi=>if i=k then f i else 0)+(if n=k then f n else 0)=f k;by_cases e:n=k
  .subst e;rw[if_pos rfl,Zai (g:=λ_=>0) (λi hi=>by rw[if_neg ∅]),Zcn]
   grind
  .rw [if_neg e,Zhn f ∅]
   grind
theorem Zvg {n k:Nat}(f:Nat->F)(h:k<n):sm n (λi=>(if i=k then 1 else 0)*f i)=f k:=by
 rw[<- Zhn f h];exact Zai λi _=>by split <;> grind
theorem Zkl {n k:Nat}(f:Nat->F)(h:k<n):sm n (λi=>f i*(if i=k then 1 else 0))=f k:=by
 rw[<- Zhn f h];exact Zai λi _=>by split <;> grind
theorem Zie {n k:Nat}(f:Nat->F)(h:k<n):sm n (λi=>f i*(if k=i then 1 else 0))=f k:=by
 rw[<- Zhn f h];exact Zai λi _=>by
  by_cases e:i=k
  .rw [if_pos e,if_pos e.symm];grind
  .rw [if_neg e,if_neg (λz=>e z.symm)];grind
theorem sm_ne {n:Nat}{f:Nat->F}(h:sm n f≠0):∃ i,i<n/\f i≠0:=by
 apply Jbc;intro z;apply h;rw[Zai (g:=λ_=>0) λi hi=>Jbc λq=>z ⟨i,hi,q⟩,Zcn]
def sk (k j:Nat):Nat:=if j<k then j else j+1
theorem Znq:∀ {n k:Nat} (f:Nat->F),k<=n->sm (n+1) f=f k+sm n (λj=>f (sk k j))
 | n,k,f,h=>by
  by_cases e:k=n
  .subst e;show sm k f+f k=_;rw[Zai (n:=k) (f:=f) (g:=λj=>f (sk k j)) λi hi=>by unfold sk;rw[if_pos hi]]
   grind
  .cases n with
   | zero=>omega
   | succ n=>
    show sm (n+1) f+f (n+1)=f k+(sm n (λj=>f (sk k j))+f (sk k n));rw[Znq (n:=n) (k:=k) f ∅];have:sk k n=n+1:=by unfold sk;rw[if_neg ∅]
    rw[this]
    grind
theorem Zn8:∀ (r s:Nat) (Y:Nat->Nat->F),r<s->∃ v:Nat->F,(∃ j,j<s/\v j≠0)/\∀ i,i<r->sm s (λj=>Y i j*v j)=0
 | 0,s,Y,h=>⟨λ_=>1,⟨0,h,λz=>Field.zero_ne_one (α:=F) z.symm⟩,λi hi=>absurd hi (Nat.not_lt_zero _)⟩
 | r+1,s,Y,h=>by
  by_cases hz:∀ j,j<s->Y r j=0
  .obtain ⟨v,hv,he⟩:=Zn8 r s Y ∅;refine⟨v,hv,λi hi=>?_⟩;by_cases e:i=r
   .subst e;rw[Zai (g:=λ_=>0) λj hj=>by rw[hz j hj];grind,Zcn]
   .exact he i ∅
  .obtain ⟨k,hk⟩:∃ k,k<s/\Y r k≠0:=by
    apply Jbc;intro z;exact hz λj hj=>Jbc λq=>z ⟨j,hj,q⟩
   obtain⟨hk,hy⟩:=hk;obtain⟨s',rfl⟩:∃ s',s=s'+1:=⟨s-1,∅⟩
   obtain⟨v',⟨j0,hj0,hv0⟩,he⟩:=Zn8 r s' (λi j=>Y i (sk k j)-Y i k / Y r k*Y r (sk k j)) ∅;obtain⟨v,hvk,hv'⟩:∃ v:Nat->F,v k=-(sm s' (λj=>Y r (sk k j)*v' j)) / Y r k/\∀ j,v (sk k j)=v' j:=by
    refine⟨λi=>if i=k then -(sm s' (λj=>Y r (sk k j)*v' j)) / Y r k else v' (if i<k then i else i-1),if_pos rfl,λj=>?_⟩;have h1:sk k j≠k:=by unfold sk;split <;> omega
    show (if sk k j=k then _ else v' (if sk k j<k then sk k j else sk k j-1))=v' j;rw[if_neg h1];congr 1;unfold sk;by_cases q:j<k
    .rw [if_pos q,if_pos q]
    .rw [if_neg q,if_neg ∅];omega
   refine⟨v,⟨sk k j0,by unfold sk;split <;> omega,by rw[hv'];exact hv0⟩,λi hi=>?_⟩;rw[Znq (k:=k) _ ∅,hvk];rw[Zai (n:=s') (f:=λj=>Y i (sk k j)*v (sk k j)) (g:=λj=>Y i (sk k j)*v' j) λj hj=>by rw[hv']];by_cases e:i=r
   .subst e;generalize sm s' (λj=>Y i (sk k j)*v' j)=S
    grind
   .have h2:=he i ∅;have h3:sm s' (λj=>(Y i (sk k j)-Y i k / Y r k*Y r (sk k j))*v' j)=sm s' (λj=>Y i (sk k j)*v' j)-Y i k / Y r k*sm s' (λj=>Y r (sk k j)*v' j):=by
     rw[<- Zdx];have:∀ (f g:Nat->F),sm s' (λj=>f j-g j)=sm s' f-sm s' g:=λf g=>by
      have e1:=Zho s' (λj=>f j-g j) g;rw[show (λj=>f j-g j+g j)=f from funext λj=>by grind] at e1;rw[e1]
      grind
     rw[<- this];exact Zai λj _=>by grind
    rw[h3] at h2;generalize sm s' (λj=>Y i (sk k j)*v' j)=S1 at *;generalize sm s' (λj=>Y r (sk k j)*v' j)=S2 at *
    grind
abbrev del (i k:Nat):F:=if i=k then 1 else 0
theorem dim_le {r s:Nat}{X Y:Nat->Nat->F}(h:∀ i k,i<s->k<s->sm r (λt=>X i t*Y t k)=del i k):s<=r:=by
 apply Jbc;intro z;obtain⟨v,⟨j,hj,hv⟩,he⟩:=Zn8 r s Y ∅;apply hv;have h1:sm s (λk=>sm r (λt=>X j t*Y t k)*v k)=v j:=by
  rw[Zai (g:=λk=>del j k*v k) λk hk=>by rw[h j k hj hk]];rw[show (λk=>del j k*v k)=λk=>v k*(if j=k then 1 else 0) from funext λk=>by grind];exact Zie v hj
 rw[<- h1];rw[Zai (g:=λk=>sm r (λt=>X j t*Y t k*v k)) λk _=>by rw[Zg8],Zg7];rw[Zai (g:=λ_=>0) λt ht=>?_,Zcn];rw[show (λk=>X j t*Y t k*v k)=λk=>X j t*(Y t k*v k) from funext λk=>by grind,Zdx,he t ht]
 grind
structure Rk (A:Nat->Nat->F)(m n r:Nat):Prop where
 fac:∃ B C:Nat->Nat->F,∀ i j,i<m->j<n->A i j=sm r λk=>B i k*C k j
 piv:∃ P Q:Nat->Nat->F,∀ i k,i<r->k<r->sm m (λa=>P i a*sm n λb=>A a b*Q b k)=del i k
theorem through {m n r s:Nat}{A B C P Q:Nat->Nat->F}(hf:∀ i j,i<m->j<n->A i j=sm r λk=>B i k*C k j)(hp:∀ i k,i<s->k<s->sm m (λa=>P i a*sm n λb=>A a b*Q b k)=del i k):s<=r:=by
 refine dim_le (X:=λi t=>sm m λa=>P i a*B a t) (Y:=λt k=>sm n λb=>C t b*Q b k) λi k hi hk=>?_;rw[<- hp i k hi hk];have e1:∀ a,a<m->(sm n λb=>A a b*Q b k)=sm r λt=>B a t*sm n λb=>C t b*Q b k:=λa ha=>by
  rw[Zai (g:=λb=>sm r λt=>B a t*(C t b*Q b k)) λb hb=>?_,Zg7]
  .exact Zai λt _=>Zdx _ _ _
  .rw [hf a b ha hb,<- Zg8];exact Zai λt _=>by grind
 rw[Zai (n:=m) (g:=λa=>sm r λt=>P i a*B a t*sm n λb=>C t b*Q b k) λa ha=>?_,Zg7]
 .exact Zai λt _=>by rw[Zg8]
 .rw [e1 a ha,<- Zdx];exact Zai λt _=>by grind
abbrev mm (n:Nat)(A B:Nat->Nat->F):Nat->Nat->F:=λi j=>sm n λk=>A i k*B k j
theorem Zt9 (n l:Nat)(A B C:Nat->Nat->F)(i j:Nat):mm l (mm n A B) C i j=mm n A (mm l B C) i j:=by
 show sm l (λk=>sm n (λt=>A i t*B t k)*C k j)=sm n λt=>A i t*sm l λk=>B t k*C k j;rw[Zai (n:=l) (g:=λk=>sm n λt=>A i t*(B t k*C k j)) λk _=>?_,Zg7]
 .exact Zai λt _=>Zdx _ _ _
 .rw [<- Zg8];exact Zai λt _=>by grind
abbrev zv:Nat->F:=λ_=>0
inductive Sp (S:(Nat->F)->Prop):(Nat->F)->Prop
 | mem {v:Nat->F}:S v->Sp S v
 | zero:Sp S zv
 | comb {u v:Nat->F} (a b:F):Sp S u->Sp S v->Sp S λj=>a*u j+b*v j
theorem Sp.trans {S T:(Nat->F)->Prop}{v:Nat->F}(h:Sp S v)(k:∀ u,S u->Sp T u):Sp T v:=by
 induction h with
 | mem h=>exact k _ h
 | zero=>exact .zero
 | comb a b _ _ h1 h2=>exact .comb a b h1 h2
theorem Sp.smul {S:(Nat->F)->Prop}{v:Nat->F}(a:F)(h:Sp S v):Sp S λj=>a*v j:=by
 have:=Sp.comb a 0 h Sp.zero;rwa [show (λj=>a*v j+0*(zv j:F))=λj=>a*v j from funext λj=>by grind] at this
abbrev SpL (L:List (Nat->F))(v:Nat->F):Prop:=Sp (· ∈ L) v
structure SpEq (L L':List (Nat->F)):Prop where
 le:∀ v∈L,SpL L' v
 ge:∀ v∈L',SpL L v
theorem SpEq.refl (L:List (Nat->F)):SpEq L L:=⟨λ_ h=>.mem h,λ_ h=>.mem h⟩
theorem SpEq.trans {L L' L'':List (Nat->F)}(h:SpEq L L')(h':SpEq L' L''):SpEq L L'':=⟨λv hv=>(h.le v hv).trans λu hu=>h'.le u hu,λv hv=>(h'.ge v hv).trans λu hu=>h.ge u hu⟩
abbrev at' (L:List (Nat->F))(i:Nat):Nat->F:=L.getD i zv
theorem Zb6 {L:List (Nat->F)}{i:Nat}(h:i<L.length):at' L i∈L:=by
 unfold at';rw[Jac,Jaa h];exact Jap h
theorem Sp.coef {L:List (Nat->F)}{v:Nat->F}(h:SpL L v):∃ c:Nat->F,∀ j,v j=sm L.length λi=>c i*at' L i j:=by
 induction h with
 | mem h=>
  obtain⟨i,hi,rfl⟩:=Ja1.mp h;refine⟨λk=>del k i,λj=>?_⟩;rw[Zvg (λk=>at' L k j) hi];unfold at';rw[Jac,Jaa hi];rfl
 | zero=>exact⟨λ_=>0,λj=>by rw[Zai (g:=λ_=>0) λi _=>by grind,Zcn]⟩
 | comb a b _ _ h1 h2=>
  obtain⟨c,hc⟩:=h1;obtain⟨d,hd⟩:=h2;refine⟨λi=>a*c i+b*d i,λj=>?_⟩;show a*_+b*_=_;rw[hc j,hd j,<- Zdx,<- Zdx,<- Zho];exact Zai λi _=>by grind
theorem Sp.sum {S:(Nat->F)->Prop}(c:Nat->F)(u:Nat->Nat->F):∀ n:Nat,(∀ i,i<n->Sp S (u i))->Sp S λj=>sm n λi=>c i*u i j
 | 0,_=>.zero
 | n+1,h=>by
  have:=Sp.comb 1 (c n) (Sp.sum c u n λi hi=>h i ∅) (h n ∅);rwa [show (λj=>1*(sm n λi=>c i*u i j)+c n*u n j)=λj=>sm (n+1) λi=>c i*u i j from funext λj=>by show _=sm n _+_;grind] at this
structure RR (L:List (Nat->F))(n r:Nat)(c:Nat->Nat):Prop where
 rl:r<=L.length
 cn:∀ i,i<r->c i<n
 mono:∀ i k,i<k->k<r->c i<c k
 piv:∀ i k,i<r->k<r->at' L i (c k)=del i k
 low:∀ i j,i<r->j<c i->at' L i j=0
 zer:∀ i j,r<=i->i<L.length->j<n->at' L i j=0
theorem RR.expand {L:List (Nat->F)}{n r:Nat}{c:Nat->Nat}(R:RR L n r c){v:Nat->F}(h:SpL L v):∀ j,j<n->v j=sm r λi=>v (c i)*at' L i j:=by
 induction h with
 | mem h=>
  obtain⟨i,hi,rfl⟩:=Ja1.mp h;have e:L[i]=at' L i:=by unfold at';rw[Jac,Jaa hi];rfl
  rw[e];intro j hj;by_cases hr:i<r
  .rw [Zai (g:=λk=>at' L k j*(if i=k then 1 else 0)) λk hk=>by rw[R.piv i k hr hk];grind,Zie _ hr]
  .rw [R.zer i j ∅ hi hj,Zai (g:=λ_=>0) λk hk=>by rw[R.zer i (c k) ∅ hi (R.cn k hk)];grind,Zcn]
 | zero=>exact λj _=>by rw[Zai (g:=λ_=>0) λi _=>by grind,Zcn]
 | comb a b _ _ h1 h2=>
  intro j hj;show a*_+b*_=_;rw[h1 j hj,h2 j hj,<- Zdx,<- Zdx,<- Zho];exact Zai λi _=>by grind
theorem RR.meets {L L':List (Nat->F)}{n r r':Nat}{c c':Nat->Nat}(R:RR L n r c)(R':RR L' n r' c')(h:∀ v∈L,SpL L' v){i:Nat}(hi:i<r):∃ k,k<r'/\c i=c' k:=by
 have hs:=h _ (Zb6 (Jau hi R.rl));have e:=R'.expand hs (c i) (R.cn i hi);rw[R.piv i i hi hi] at e;have ne:sm r' (λk=>at' L i (c' k)*at' L' k (c i))≠0:=λz=>by
  rw[z] at e;exact Field.zero_ne_one (α:=F) (by rw[<- e];simp)
 obtain⟨k,hk,hne⟩:=sm_ne ne;refine⟨k,hk,?_⟩;rcases Nat.lt_trichotomy (c i) (c' k) with h1|h1|h1
 .exact absurd (by rw[R'.low k _ hk h1];grind) hne
 .exact h1
 .exact absurd (by rw[R.low i _ hi h1];grind) hne
theorem RR.uniq {L L':List (Nat->F)}{n r r':Nat}{c c':Nat->Nat}(R:RR L n r c)(R':RR L' n r' c')(h:SpEq L L'):r=r'/\(∀ i,i<r->c i=c' i)/\∀ i j,i<r->j<n->at' L i j=at' L' i j:=by
 have go:∀ i,i<r->i<r'/\c i=c' i:=by
  intro i
  induction i using Nat.strongRecOn with
  | _ i ih=>
   intro hi;obtain⟨k,hk,e⟩:=R.meets R' h.le hi;have hki:i<=k:=Jcq λhlt=>by
    have:=(ih k hlt ∅).2;have:=R.mono k i hlt hi;omega
   have hi':i<r':=∅
   refine⟨hi',?_⟩;obtain⟨l,hl,e2⟩:=R'.meets R h.ge hi';have hil:i<=l:=Jcq λhlt=>by
    have:=(ih l hlt ∅).2;have:=R'.mono l i hlt hi';omega
   have h1:c' i<=c' k:=by
    rcases Nat.lt_or_eq_of_le hki with q|q
    .exact Jbv (R'.mono i k q hk)
    .rw [q];exact Jag _
   have h2:c i<=c l:=by
    rcases Nat.lt_or_eq_of_le hil with q|q
    .exact Jbv (R.mono i l q hl)
    .rw [q];exact Jag _
   omega
 have le1:r<=r':=Jcq λhlt=>by
  have:=(go r' ∅).1;omega
 have le2:r'<=r:=Jcq λhlt=>by
  obtain⟨k,hk,e⟩:=R'.meets R h.ge (i:=r) hlt;have h1:=(go k hk).2;have h2:=R'.mono k r hk hlt;omega
 refine⟨∅,λi hi=>(go i hi).2,λi j hi hj=>?_⟩;have hs:=h.le _ (Zb6 (Jau hi R.rl));rw[R'.expand hs j hj];rw[Zai (g:=λk=>at' L' k j*(if i=k then 1 else 0)) λk hk=>by
  rw[<- (go k ∅).2,R.piv i k hi ∅]
  grind,Zie _ ∅]
end
end L3
namespace L3
open L2 Lean.Grind
def gcdL (zs:List Int):Nat:=zs.foldl (λd z=>Int.gcd z d) 0
def tidyZ (p:Int)(zs:List Int):List Int:=if p=0 then zs.map (· / (gcdL zs:Int)) else zs.map (· % p)
theorem Zrz {zs:List Int}(j:Nat):zs.getD j 0∈zs\/zs.getD j 0=0:=by
 rw[Jac];cases e:zs[j]? with
 | none=>exact .inr rfl
 | some z=>exact .inl (Jae e)
def Rw (p:Int)(W:Nat)(zs:List Int):Prop:=zs.length=W/\∀ z∈zs,Rz p z
def rawZ (row lead:List Int)(k:Nat):List Int:=List.zipWith (λx y=>lead.getD k 0 / (Int.gcd (row.getD k 0) (lead.getD k 0):Int)*x-row.getD k 0 / (Int.gcd (row.getD k 0) (lead.getD k 0):Int)*y) row lead
def clearZ (p:Int)(row lead:List Int)(k:Nat):List Int:=if row.getD k 0=0 then row else tidyZ p (rawZ row lead k)
section
variable {p:Int}{F:Type}[Field F]
def vz (zs:List Int):Nat->F:=λj=>ic (zs.getD j 0)
theorem fone:(1:F)≠0:=λz=>Field.zero_ne_one (α:=F) z.symm
end
inductive Sw (p:Int) (Z:List (List Int)):Nat->List (List Int)->List (List Int)->List Nat->Prop
 | start:Sw p Z 0 [] Z []
 | skip {k:Nat} {done left:List (List Int)} {pl:List Nat}:Sw p Z k done left pl->(∀ row∈left,row.getD k 0=0)->Sw p Z (k+1) done left pl
 | take {k:Nat} {done left:List (List Int)} {pl:List Nat} (i:Nat) (lead:List Int):Sw p Z k done left pl->left[i]?=some lead->lead.getD k 0≠0->Sw p Z (k+1) (done++[lead]) ((left.eraseIdx i).map λrow=>clearZ p row lead k) (pl++[k])
structure SwI (p:Int)(W:Nat)(Z:List (List Int))(k:Nat)(done left:List (List Int))(pl:List Nat):Prop where
 len:done.length=pl.length
 all:done.length+left.length=Z.length
 rw:∀ row∈done++left,Rw p W row
 asc:∀ i j,i<j->j<pl.length->pl.getD i 0<pl.getD j 0
 lt:∀ i,i<pl.length->pl.getD i 0<k
 piv:∀ i,i<pl.length->(done.getD i []).getD (pl.getD i 0) 0≠0
 low:∀ i j,i<pl.length->j<pl.getD i 0->(done.getD i []).getD j 0=0
 zer:∀ row∈left,∀ j,j<k->row.getD j 0=0
 sp:∀ (F:Type) [Field F],FdOk p F->SpEq (F:=F) ((done++left).map vz) (Z.map vz)
theorem Zlz {α:Type}{xs:List α}{x d:α}{i:Nat}:(xs++[x]).getD i d=if i<xs.length then xs.getD i d else if i=xs.length then x else d:=by
 rw[Jac,Jac];by_cases h:i<xs.length
 .rw [if_pos h,Jao h]
 .rw [if_neg h,Jam ∅];by_cases e:i=xs.length
  .rw [if_pos e,e,Jdd];rfl
  .rw [if_neg e,Jak (by simp;omega)];rfl
theorem Zbh {α:Type}{xs:List α}{i:Nat}{d:α}(h:i<xs.length):xs.getD i d=xs[i]:=by rw[Jac,Jaa h];rfl
structure BkI (p:Int)(W wide:Nat)(Z:List (List Int))(pl:List Nat)(F:Type)[Field F](t:Nat)(R:List (List Int)):Prop where
 len:R.length=Z.length
 rw:∀ row∈R,Rw p W row
 piv:∀ i,i<pl.length->(vz (R.getD i []) (pl.getD i 0):F)≠0
 low:∀ i j,i<pl.length->j<pl.getD i 0->(vz (R.getD i []) j:F)=0
 zer:∀ i j,pl.length<=i->i<R.length->j<wide->(vz (R.getD i []) j:F)=0
 up:∀ i l,i<pl.length->l<pl.length->pl.length-t<=l->l≠i->(vz (R.getD i []) (pl.getD l 0):F)=0
 sp:SpEq (F:=F) (R.map vz) (Z.map vz)
theorem Zn6 {α:Type}{xs:List α}{x:α}(h:x∈xs)(d:α):∃ i,i<xs.length/\xs.getD i d=x:=by
 obtain⟨i,hi,rfl⟩:=Ja1.mp h;exact⟨i,hi,Zbh hi⟩
theorem Zaz {α:Type}{xs:List α}{i:Nat}{d:α}(h:i<xs.length):xs.getD i d∈xs:=by rw[Zbh h];exact Jap h
def SmallR (n:Nat)(row:List Int):Prop:=∀ z∈row,Bt n z
theorem SmallR.at {n:Nat}{row:List Int}(h:SmallR n row)(j:Nat):Bt n (row.getD j 0):=by
 rcases Zrz (zs:=row) j with m|e
 .exact h _ m
 .rw [e];exact Znb n
end L3
namespace L2
open PySem PySem.Spec PyProof.Rows
section
variable {H:Hp}{Q:VK}{σ:St}{x:V}{z0 z1 z2 z3 z4 z5 z6 z7 z8 z9 z10 z11 z12:Option V}
theorem Zgi {i:Nat}(h:σ[i]?=some (some x)):Zg5 i σ H Q=Q x H:=by
 unfold Zg5;rw[h];exact propext ⟨λ⟨v,e,q⟩=>by cases e;exact q,λq=>⟨x,rfl,q⟩⟩
theorem tv0:Zg5 0 (some x::σ) H Q=Q x H:=Zgi rfl
theorem tv1:Zg5 1 (z0::some x::σ) H Q=Q x H:=Zgi rfl
theorem tv2:Zg5 2 (z0::z1::some x::σ) H Q=Q x H:=Zgi rfl
theorem tv3:Zg5 3 (z0::z1::z2::some x::σ) H Q=Q x H:=Zgi rfl
theorem tv4:Zg5 4 (z0::z1::z2::z3::some x::σ) H Q=Q x H:=Zgi rfl
theorem tv5:Zg5 5 (z0::z1::z2::z3::z4::some x::σ) H Q=Q x H:=Zgi rfl
theorem tv6:Zg5 6 (z0::z1::z2::z3::z4::z5::some x::σ) H Q=Q x H:=Zgi rfl
theorem tv7:Zg5 7 (z0::z1::z2::z3::z4::z5::z6::some x::σ) H Q=Q x H:=Zgi rfl
theorem tv8:Zg5 8 (z0::z1::z2::z3::z4::z5::z6::z7::some x::σ) H Q=Q x H:=Zgi rfl
theorem tv9:Zg5 9 (z0::z1::z2::z3::z4::z5::z6::z7::z8::some x::σ) H Q=Q x H:=Zgi rfl
theorem tv10:Zg5 10 (z0::z1::z2::z3::z4::z5::z6::z7::z8::z9::some x::σ) H Q=Q x H:=Zgi rfl
theorem tv11:Zg5 11 (z0::z1::z2::z3::z4::z5::z6::z7::z8::z9::z10::some x::σ) H Q=Q x H:=Zgi rfl
theorem tv12:Zg5 12 (z0::z1::z2::z3::z4::z5::z6::z7::z8::z9::z10::z11::some x::σ) H Q=Q x H:=Zgi rfl
theorem tv13:Zg5 13 (z0::z1::z2::z3::z4::z5::z6::z7::z8::z9::z10::z11::z12::some x::σ) H Q=Q x H:=Zgi rfl
theorem pI0 {g:Int->Int->V}{i j:Int}:rI0 g (.int i) (.int j) H Q=Q (g i j) H:=propext ⟨λ⟨_,_,e,e',q⟩=>by cases e;cases e';exact q,λq=>⟨i,j,rfl,rfl,q⟩⟩
theorem pI {D:Int->Int->Prop}{g:Int->Int->V}{i j:Int}:rI D g (.int i) (.int j) H Q=(D i j/\Q (g i j) H):=propext ⟨λ⟨_,_,e,e',q⟩=>by cases e;cases e';exact q,λq=>⟨i,j,rfl,rfl,q⟩⟩
theorem pU {g:Int->V}{i:Int}:rU g (.int i) H Q=Q (g i) H:=propext ⟨λ⟨_,e,q⟩=>by cases e;exact q,λq=>⟨i,rfl,q⟩⟩
theorem pIxL {K:Frag}{a:Addr}{k:Int}:rIxL K (.ref a) (.int k) H Q=∃ xs,SqL K H a xs/\∃ v,atI xs k=some v/\Q v H:=propext ⟨λ⟨_,xs,_,v,e,e',h,h',q⟩=>by cases e;cases e';exact⟨xs,h,v,h',q⟩,λ⟨xs,h,v,h',q⟩=>⟨a,xs,k,v,rfl,rfl,h,h',q⟩⟩
theorem pIxT {K:Frag}{a:Addr}{k:Int}:rIxT K (.ref a) (.int k) H Q=∃ xs,SqT K H a xs/\∃ v,atI xs k=some v/\Q v H:=propext ⟨λ⟨_,xs,_,v,e,e',h,h',q⟩=>by cases e;cases e';exact⟨xs,h,v,h',q⟩,λ⟨xs,h,v,h',q⟩=>⟨a,xs,k,v,rfl,rfl,h,h',q⟩⟩
theorem pEb {b:Bool}{p:Bool->Prop}:(∃ k,V.bl b=V.bl k/\p k)=p b:=propext ⟨λ⟨_,e,q⟩=>by cases e;exact q,λq=>⟨b,rfl,q⟩⟩
theorem pEi {b:Int}{p:Int->Prop}:(∃ k,V.int b=V.int k/\p k)=p b:=propext ⟨λ⟨_,e,q⟩=>by cases e;exact q,λq=>⟨b,rfl,q⟩⟩
theorem pEr {b:Addr}{p:Addr->Prop}:(∃ k,V.ref b=V.ref k/\p k)=p b:=propext ⟨λ⟨_,e,q⟩=>by cases e;exact q,λq=>⟨b,rfl,q⟩⟩
theorem pEqT {K:Frag}{b:Bool}{a c:Addr}:Zvm K b (.ref a) (.ref c) H Q=∃ xs,SqT K H a xs/\∃ ys,SqT K H c ys/\∃ bs,Zek K H 6 xs ys bs/\Q (V.bl (if b=true then !bs.all id else bs.all id)) H:=propext ⟨λ⟨_,_,xs,ys,bs,e,e',h,h',h'',q⟩=>by cases e;cases e';exact⟨xs,h,ys,h',bs,h'',q⟩,λ⟨xs,h,ys,h',bs,h'',q⟩=>⟨a,c,xs,ys,bs,rfl,rfl,h,h',h'',q⟩⟩
theorem pEqL {K:Frag}{b:Bool}{a c:Addr}:rEqL K b (.ref a) (.ref c) H Q=∃ xs,SqL K H a xs/\∃ ys,SqL K H c ys/\(xs.length≠ys.length/\Q (V.bl b) H\/∃ bs,Zek K H 6 xs ys bs/\Q (V.bl (if b=true then !bs.all id else bs.all id)) H):=propext ⟨λ⟨_,_,xs,ys,e,e',h,h',q⟩=>by cases e;cases e';exact⟨xs,h,ys,h',q⟩,λ⟨xs,h,ys,h',q⟩=>⟨a,c,xs,ys,rfl,rfl,h,h',q⟩⟩
theorem pSlL {K:Frag}{a:Addr}{lo hi:Option Int}:rSlL K (.ref a) lo hi H Q=∃ xs,SqL K H a xs/\∀ p,H p=none->Q (.ref p) (upd H p (.lst (Zux xs lo hi))):=propext ⟨λ⟨_,xs,e,h,q⟩=>by cases e;exact⟨xs,h,q⟩,λ⟨xs,h,q⟩=>⟨a,xs,rfl,h,q⟩⟩
theorem pCat {a c:Addr}:rCat (.ref a) (.ref c) H Q=∃ xs,H a=some (.lst xs)/\∃ ys,H c=some (.lst ys)/\xs.length+ys.length<=sizeLine/\∀ p,H p=none->Q (.ref p) (upd H p (.lst (xs++ys))):=propext ⟨λ⟨_,_,xs,ys,e,e',h,h',q⟩=>by cases e;cases e';exact⟨xs,h,ys,h',q⟩,λ⟨xs,h,ys,h',q⟩=>⟨a,c,xs,ys,rfl,rfl,h,h',q⟩⟩
theorem pApp {a:Addr}{v:V}:Zjd (.ref a) [v] H Q=∃ xs,H a=some (.lst xs)/\xs.length<sizeLine/\Q .non (upd H a (.lst (xs++[v]))):=propext ⟨λ⟨_,xs,_,e,e',q⟩=>by cases e;cases e';exact⟨xs,q⟩,λ⟨xs,q⟩=>⟨a,xs,v,rfl,rfl,q⟩⟩
theorem pTup {K:Frag}{n:Nat}{t:TGs}{a:Addr}{R:St->Hp->Prop}:Zpb K n t (.ref a) σ H R=∃ xs,SqT K H a xs/\xs.length=n/\t xs σ H R:=propext ⟨λ⟨_,xs,e,q⟩=>by cases e;exact⟨xs,q⟩,λ⟨xs,q⟩=>⟨a,xs,rfl,q⟩⟩
theorem pL1 {α:Type}{a:Addr}{p:Addr->α->Prop}:(∃ b y,[V.ref a]=[V.ref b]/\p b y)=∃ y,p a y:=propext ⟨λ⟨_,y,e,q⟩=>by cases e;exact⟨y,q⟩,λ⟨y,q⟩=>⟨a,y,rfl,q⟩⟩
theorem pL0 {a:Addr}{p:Addr->Prop}:(∃ b,[V.ref a]=[V.ref b]/\p b)=p a:=propext ⟨λ⟨_,e,q⟩=>by cases e;exact q,λq=>⟨a,rfl,q⟩⟩
theorem pLi {a:Int}{p:Int->Prop}:(∃ b,[V.int a]=[V.int b]/\p b)=p a:=propext ⟨λ⟨_,e,q⟩=>by cases e;exact q,λq=>⟨a,rfl,q⟩⟩
theorem pE5 {α β γ δ:Type}{a:Addr}{p:Addr->α->β->γ->δ->Prop}:(∃ b x y z u,V.ref a=V.ref b/\p b x y z u)=∃ x y z u,p a x y z u:=propext ⟨λ⟨_,x,y,z,u,e,q⟩=>by cases e;exact⟨x,y,z,u,q⟩,λ⟨x,y,z,u,q⟩=>⟨a,x,y,z,u,rfl,q⟩⟩
end
def onV:Option (Option V)->(V->Prop)->Prop
 | some (some v),k=>k v
 | _,_=>False
theorem Zn0 (v:V)(k:V->Prop):onV (some (some v)) k=k v:=rfl
def tVr (i:Nat):TE:=λσ H Q=>onV σ[i]? λv=>Q v H
theorem tVr_old {i:Nat}{σ:St}{H:Hp}{Q:VK}(h:tVr i σ H Q):Zg5 i σ H Q:=by
 unfold tVr at h;cases e:σ[i]? with
 | none=>rw[e] at h;exact h.elim
 | some o=>
  rw[e] at h;cases o with
  | none=>exact h.elim
  | some v=>exact⟨v,e,h⟩
theorem pvr {X:Cx}(i:Nat){x:Str}{pos:Pos}(hN:X.N[i]?=some x:=by rfl)(hv:Vis X.env.scope x:=by first|exact Or.inl rfl|exact Or.inr (Or.inl rfl)|exact Or.inr (Or.inr rfl))(hd:(x == ("__debug__" : Str))=false:=by decide)(hcd:(x == ("__classdict__" : Str))=false:=by decide):PE X (.Name x pos) (tVr i):=λpins s σ H Q I h=>pv i hN hv hd hcd pins s σ H Q I (tVr_old h)
def onI:V->(Int->Prop)->Prop
 | .int i,k=>k i
 | _,_=>False
def onR:V->(Addr->Prop)->Prop
 | .ref a,k=>k a
 | _,_=>False
def onB:V->(Bool->Prop)->Prop
 | .bl b,k=>k b
 | _,_=>False
def on1:List V->(V->Prop)->Prop
 | [y],k=>k y
 | _,_=>False
theorem Zqy (i:Int)(k:Int->Prop):onI (.int i) k=k i:=rfl
theorem Zqx (a:Addr)(k:Addr->Prop):onR (.ref a) k=k a:=rfl
theorem Zvv (b:Bool)(k:Bool->Prop):onB (.bl b) k=k b:=rfl
theorem Zqz (y:V)(k:V->Prop):on1 [y] k=k y:=rfl
theorem Zh4 {x:V}{k:Int->Prop}(h:onI x k):∃ i,x=.int i/\k i:=by
 cases x <;> first|exact⟨_,rfl,h⟩|exact False.elim h
theorem Zn1 {x:V}{k:Addr->Prop}(h:onR x k):∃ a,x=.ref a/\k a:=by
 cases x <;> first|exact⟨_,rfl,h⟩|exact False.elim h
theorem onB_of {x:V}{k:Bool->Prop}(h:onB x k):∃ b,x=.bl b/\k b:=by
 cases x <;> first|exact⟨_,rfl,h⟩|exact False.elim h
theorem on1_of {vs:List V}{k:V->Prop}(h:on1 vs k):∃ y,vs=[y]/\k y:=by
 match vs,h with
 | [y],h=>exact⟨y,rfl,h⟩
def rJ0 (g:Int->Int->V):R2:=λx y H Q=>onI x λi=>onI y λj=>Q (g i j) H
def rJ (C:Int->Int->Prop)(g:Int->Int->V):R2:=λx y H Q=>onI x λi=>onI y λj=>C i j/\Q (g i j) H
def rEqJ:R2:=λx y H Q=>onI x λi=>onI y λj=>Q (.bl (decide (i=j))) H
def rNeJ:R2:=λx y H Q=>onI x λi=>onI y λj=>Q (.bl (!decide (i=j))) H
section
variable {X:Cx}{f:Value->Value->Sem Value}
theorem Zk9 {g:Int->Int->V}(h:OpR X f (rI0 g)):OpR X f (rJ0 g):=λpins s σ H x y v u Q I rx ry q=>h pins s σ H x y v u Q I rx ry (let ⟨i,ei,q⟩:=Zh4 q;let ⟨j,ej,q⟩:=Zh4 q;⟨i,j,ei,ej,q⟩)
theorem opJ {C:Int->Int->Prop}{g:Int->Int->V}(h:OpR X f (rI C g)):OpR X f (rJ C g):=λpins s σ H x y v u Q I rx ry q=>h pins s σ H x y v u Q I rx ry (let ⟨i,ei,q⟩:=Zh4 q;let ⟨j,ej,q⟩:=Zh4 q;⟨i,j,ei,ej,q⟩)
theorem dec_ij {i j:Int}:decide (V.int i=V.int j)=decide (i=j):=by
 by_cases c:i=j
 .rw [Jah c,Jah (by rw[c])]
 .rw [Jay c,Jay λz=>c (V.int.inj z)]
theorem Zm0 (h:OpR X f rEq):OpR X f rEqJ:=λpins s σ H x y v u Q I rx ry q=>h pins s σ H x y v u Q I rx ry (by
 refine Zae (Zh4 q) λi e91 q1=>?_;obtain rfl:=e91;refine Zae (Zh4 q1) λj e92 q2=>?_;obtain rfl:=e92;exact⟨rfl,by rw[dec_ij];exact q2⟩)
def tTst (t:TE):TT:=λσ H Q=>t σ H λx H'=>onB x λk=>Q k H'
theorem Zam {op:CmpOp}{r:R2}{a b:Expr}{ta tb:TE}{pos:Pos}(ho:OpR X (compareOp op) r)(ha:PE X a ta)(hb:PE X b tb)(hm:behindInMarks op b=false):PT X (.Compare a [op] [b] pos) (tTst (tOp r ta tb)):=by
 intro pins s σ H Q I h;refine Jdn (thn (ha pins s σ H _ I h) λv s1 ⟨x,H1,I1,r1,q1⟩=>thn (hb pins s1 σ H1 _ I1 q1) λu s2 ⟨y,H2,I2,r2,q2⟩=>
  thn (ho pins s2 σ H2 x y v u _ I2 r1 r2 q2) λc s3 ⟨z,H3,I3,r3,q3⟩=>?_) hm
 refine Zae (onB_of q3) λk e q3=>?_;subst e;cases r3;exact Jbq ⟨H3,I3,q3⟩
def rIxJ (K:Frag):R2:=λx y H Q=>onR x λp=>onI y λi=>∃ xs,SqL K H p xs/\∃ v,atI xs i=some v/\Q v H
def rIxTJ (K:Frag):R2:=λx y H Q=>onR x λp=>onI y λi=>∃ xs,SqT K H p xs/\∃ v,atI xs i=some v/\Q v H
theorem ixJ {K:Frag}(h:IxR X (rIxL K)):IxR X (rIxJ K):=λa b pins s σ H x y v u Q I rx ry q=>h a b pins s σ H x y v u Q I rx ry (by
 refine Zae (Zn1 q) λp e95 q1=>?_;obtain rfl:=e95;refine Zae (Zh4 q1) λi e96 e97=>?_;obtain rfl:=e96;obtain⟨xs,h1,v,h2,q2⟩:=e97;exact⟨p,xs,i,v,rfl,rfl,h1,h2,q2⟩)
theorem Zgh {K:Frag}(h:IxR X (rIxT K)):IxR X (rIxTJ K):=λa b pins s σ H x y v u Q I rx ry q=>h a b pins s σ H x y v u Q I rx ry (by
 refine Zae (Zn1 q) λp e98 q1=>?_;obtain rfl:=e98;refine Zae (Zh4 q1) λi e99 e910=>?_;obtain rfl:=e99;obtain⟨xs,h1,v,h2,q2⟩:=e910;exact⟨p,xs,i,v,rfl,rfl,h1,h2,q2⟩)
def rAppJ:V->List V->Hp->VK->Prop:=λx vs H Q=>onR x λl=>on1 vs λy=>∃ xs,H l=some (.lst xs)/\xs.length<sizeLine/\Q .non (upd H l (.lst (xs++[y])))
theorem mtJ {id:String}(h:MtR X id Zjd):MtR X id rAppJ:=λpins s σ H x xs v us Q I rx rv q=>h pins s σ H x xs v us Q I rx rv (by
 refine Zae (Zn1 q) λl e911 q1=>?_;obtain rfl:=e911;refine Zae (on1_of q1) λy e912 e913=>?_;obtain rfl:=e912;obtain⟨ys,h1,h2,q2⟩:=e913;exact⟨l,ys,y,rfl,rfl,h1,h2,q2⟩)
def tFldJ (K:Frag)(ta:TE)(f:Str):TE:=λσ H Q=>ta σ H λx H1=>onR x λa=>∃ C dx fs,H1 a=some (.ins C dx fs)/\Cls K C/\NoAttr K C f/\∃ v,fs.lookup f=some v/\Q v H1
theorem Zsz {i:Nat}{σ:St}{H:Hp}{Q Q':VK}(h:tVr i σ H Q)(m:∀ x H1,Q x H1->Q' x H1):tVr i σ H Q':=by
 unfold tVr at *;cases e:σ[i]? with
 | none=>rw[e] at h;exact h.elim
 | some o=>
  rw[e] at h;cases o with
  | none=>exact h.elim
  | some v=>exact m _ _ h
theorem Zbl {e:Expr}{i:Nat}{f:Str}{pos:Pos}(he:PE X e (tVr i))(hb:attributeBase e f X.env (eval e X.env)=eval e X.env):PE X (.Attribute e f pos) (tFldJ X.K (tVr i) f):=λpins s σ H Q I h=>Zd1 he hb pins s σ H Q I (Zsz h λx H1 q=>by
 refine Zae (Zn1 q) λa e914 e915=>?_;obtain rfl:=e914;obtain⟨C,dx,fs,h1,h2,h3,v,h4,q⟩:=e915;exact⟨a,C,dx,fs,v,rfl,h1,h2,h3,h4,q⟩)
end
end L2
namespace L2
open PySem PySem.Spec PyProof.Rows
section
variable {prog:Program}{w:World}{A:Around}{E:Value->Shared->Prop}{s:Shared}
abbrev Tri (h:Heap)(T:Addr)(a b c:Value):Prop:=h.get? T=some { cls:=.type "tuple",data:=.seq #[a,b,c] }
theorem Zmf {T:Addr}{a b c x:Value}{k:Nat}{Q:Unit->Shared->Prop}(hT:Tri s.heap T a b c)(h:∀ h',h'.get? T=some { cls:=.type "tuple",data:=.seq ((#[a,b,c]:Array Value).setIfInBounds k x) }->Heap.SameBut T s.heap h'->Q () { s with heap:=h' }):
  wpAny (model prog w) A (updateSeq T (·.setIfInBounds k x)) Q E s:=by
 refine wpAny_updateSeq hT rfl (h _ ?_ (Heap.SameBut.update ..));rw[Heap.get?_update_self _ hT rfl];simp[Obj.mapSeq]
structure Z3 (h:Heap)(n:Nat)(l1 l2 l3:Nat)(k:Nat)(f:Value):Prop where
 z:IsZip h (n+5) (n+3) (n+4) f
 ti:Tri h (n+3) (.ref n) (.ref (n+1)) (.ref (n+2))
 to:∃ a b c,Tri h (n+4) a b c
 i1:h.IsListIter n l1 k
 i2:h.IsListIter (n+1) l2 k
 i3:h.IsListIter (n+2) l3 k
theorem dA {a b:Nat}(h:a≠b):(a:Addr)≠b:=h
theorem z3_item {n:Nat}{l1 l2 l3:Nat}{k:Nat}{xs ys ws:Array Value}{x y u:Value}{Q:Value->Shared->Prop}(m1:l1<n)(m2:l2<n)(m3:l3<n)(Z:Z3 s.heap n l1 l2 l3 k .none)(g1:s.heap.IsList l1 xs)(g2:s.heap.IsList l2 ys)(g3:s.heap.IsList l3 ws)(hx:xs[k]?=some x)(hy:ys[k]?=some y)(hu:ws[k]?=some u)(hQ:∀ h',Z3 h' n l1 l2 l3 (k+1) (rawInt s.heap.objs.size)->Tri h' s.heap.objs.size x y u->h'.objs.size=s.heap.objs.size+1->
   (∀ c o,(c<n\/n+6<=c)->s.heap.get? c=some o->h'.get? c=some o)->Q (.ref s.heap.objs.size) { s with heap:=h' }):
  wpAny (model prog w) A (Builtin.«zip.__next__» ⟨[.ref (n+5)],[]⟩) (λfin s'=>∃ v,fin=.done (.ret v)/\Q v s') E s:=by
 obtain⟨hz,hTI,⟨a,b,c,hTO⟩,h1,h2,h3⟩:=Z;show wpAny _ _ (field (.ref (n+5)) 2 >>= _) _ _ _;refine Jai (Jda hz rfl (x:=.bool false) rfl ?_);show wpAny _ _ (field (.ref (n+5)) 3 >>= _) _ _ _;refine Jai (Jda hz rfl (x:=.ref (n+3)) rfl (Jai (Jc4 hTI rfl ?_)));show wpAny _ _ (Builtin.SmallTypes.ownedTupleIsFree (.ref (n+5)) >>= _) _ _ _;refine Jai ?_;unfold Builtin.SmallTypes.ownedTupleIsFree;refine Jai (Jda hz rfl (x:=.none) rfl (Ja9 ?_));simp only[Jca];refine Jai (wpAny_rule (Jai (Jda hz rfl (x:=.ref (n+4)) rfl (Jai (Jct hz (by simp) λq1 hz1 s1=>?_)))))
 replace hz1:IsZip q1 (n+5) (n+3) (n+4) .ellipsis:=hz1
 refine Jai ?_;simp only[List.zipIdx_cons,List.zipIdx_nil,List.forIn_cons,List.forIn_nil];have e1:∀ c,c≠n+5->∀ o,s.heap.get? c=some o->q1.get? c=some o:=λc hc o=>s1.extBut c o hc;refine Jai (Jai (Jed ?_));show wpAny _ _ (Builtin.SmallTypes.nextOf (.ref n) >>= _) _ _ _;refine Jai (Jdi (h1.at (e1 _ ∅)) (g1.at (e1 _ ∅)) hx λq2 j1 s2=>Ja9 ?_);have e2:∀ c,c≠n+5->c≠n->∀ o,s.heap.get? c=some o->q2.get? c=some o:=λc c1 c2 o e=>s2.extBut c o c2 (e1 c c1 o e);have t2:=e2 _ ∅ ∅ _ hTO;refine Jai (Jc4 t2 rfl (Jai (Zmf t2 λq3 t3 s3=>?_)))
 replace t3:Tri q3 (n+4) x b c:=t3
 refine Jai (wpAny_letGo (Ja9 ?_));have e3:∀ c,c≠n+5->c≠n->c≠n+4->∀ o,s.heap.get? c=some o->q3.get? c=some o:=λc c1 c2 c3 o e=>s3.extBut c o c3 (e2 c c1 c2 o e);refine Jai (Jai (Jed ?_));show wpAny _ _ (Builtin.SmallTypes.nextOf (.ref (n+1)) >>= _) _ _ _;refine Jai (Jdi (h2.at (e3 _ ∅ ∅ ∅)) (g2.at (e3 _ ∅ ∅ ∅)) hy λq4 j2 s4=>Ja9 ?_);have t4:Tri q4 (n+4) x b c:=s4.extBut _ _ (dA ∅) t3;refine Jai (Jc4 t4 rfl (Jai (Zmf t4 λq5 t5 s5=>?_)))
 replace t5:Tri q5 (n+4) x y c:=t5
 refine Jai (wpAny_letGo (Ja9 ?_));have e5:∀ c,c≠n+5->c≠n->c≠n+4->c≠n+1->∀ o,s.heap.get? c=some o->q5.get? c=some o:=λc c1 c2 c3 c4 o e=>s5.extBut c o c3 (s4.extBut c o c4 (e3 c c1 c2 c3 o e));refine Jai (Jai (Jed ?_));show wpAny _ _ (Builtin.SmallTypes.nextOf (.ref (n+2)) >>= _) _ _ _;refine Jai (Jdi (h3.at (e5 _ ∅ ∅ ∅ ∅)) (g3.at (e5 _ ∅ ∅ ∅ ∅)) hu λq6 j3 s6=>Ja9 ?_);have t6:Tri q6 (n+4) x y c:=s6.extBut _ _ (dA ∅) t5;refine Jai (Jc4 t6 rfl (Jai (Zmf t6 λq7 t7 s7=>?_)))
 replace t7:Tri q7 (n+4) x y u:=t7
 refine Jai (wpAny_letGo (Ja9 (Ja9 ?_)));have e7:∀ c,c≠n+5->c≠n->c≠n+4->c≠n+1->c≠n+2->∀ o,s.heap.get? c=some o->q7.get? c=some o:=λc c1 c2 c3 c4 c5 o e=>s7.extBut c o c3 (s6.extBut c o c5 (e5 c c1 c2 c3 c4 o e));have z7:q7.objs.size=s.heap.objs.size:=by rw[s7.1,s6.1,s5.1,s4.1,s3.1,s2.1,s1.1]
 have j1':q7.IsListIter n l1 (k+1):=((((j1.extBut s3.extBut (dA ∅)).extBut s4.extBut (dA ∅)).extBut s5.extBut (dA ∅)).extBut s6.extBut (dA ∅)).extBut s7.extBut (dA ∅);have j2':q7.IsListIter (n+1) l2 (k+1):=((j2.extBut s5.extBut (dA ∅)).extBut s6.extBut (dA ∅)).extBut s7.extBut (dA ∅);have j3':q7.IsListIter (n+2) l3 (k+1):=j3.extBut s7.extBut (dA ∅);have hz7:IsZip q7 (n+5) (n+3) (n+4) .ellipsis:=s7.extBut _ _ (dA ∅) (s6.extBut _ _ (dA ∅) (s5.extBut _ _ (dA ∅) (s4.extBut _ _ (dA ∅) (s3.extBut _ _ (dA ∅) (s2.extBut _ _ (dA ∅) hz1)))));have lz:n+5<q7.objs.size:=Jan hz7;refine Jai (Jc4 t7 rfl (Jai (wpAny_newTuple ?_)));show wpAny _ _ (Builtin.SmallTypes.ownedTupleHandOut (.ref (n+5)) (.ref q7.objs.size) >>= _) _ _ _;refine Jai ?_;unfold Builtin.SmallTypes.ownedTupleHandOut;have hz8:IsZip (q7.push { cls:=.type "tuple",data:=.seq #[x,y,u] }) (n+5) (n+3) (n+4) .ellipsis:=Jaq _ hz7;refine Jai (Jct hz8 (by simp) λq9 hz9 s9=>?_)
 replace hz9:IsZip q9 (n+5) (n+3) (n+4) (rawInt q7.objs.size):=hz9
 refine Jct hz9 (by simp) λqa hza sa=>?_
 replace hza:IsZip qa (n+5) (n+3) (n+4) (rawInt q7.objs.size):=hza
 have up:∀ c,c≠n+5->∀ o,q7.get? c=some o->qa.get? c=some o:=λc c1 o e=>sa.extBut _ _ c1 (s9.extBut _ _ c1 (Jaq _ e));have ta:Tri qa q7.objs.size x y u:=sa.extBut _ _ (dA ∅) (s9.extBut _ _ (dA ∅) (Ja2 _ rfl));have za:qa.objs.size=q7.objs.size+1:=by rw[sa.1,s9.1,Jbt]
 rw[z7] at hza ta za;refine Ja9 ⟨_,rfl,?_⟩;show Q (.ref q7.objs.size) _;rw[z7];exact hQ qa ⟨hza,up _ ∅ _ (e7 _ ∅ ∅ ∅ ∅ ∅ _ hTI),⟨_,_,_,up _ ∅ _ t7⟩,j1'.at (up _ ∅),j2'.at (up _ ∅),j3'.at (up _ ∅)⟩ ta za
  λc o hc e=>up c ∅ o (e7 c ∅ ∅ ∅ ∅ ∅ o e)
theorem z3_end {n l1 l2 l3:Nat}{k:Nat}{xs:Array Value}{Q:Fin->Shared->Prop}(hh:A.handled=none)(m1:l1<n)(Z:Z3 s.heap n l1 l2 l3 k .none)(g1:s.heap.IsList l1 xs)(hx:xs[k]?=none)(hE:∀ h' e,(∀ c o,(c<n\/n+6<=c)->s.heap.get? c=some o->h'.get? c=some o)->(∃ o,h'.get? e=some o/\o.cls=.type "StopIteration")->E (.ref e) { s with heap:=h' }):
  wpAny (model prog w) A (Builtin.«zip.__next__» ⟨[.ref (n+5)],[]⟩) Q E s:=by
 obtain⟨hz,hTI,⟨a,b,c,hTO⟩,h1,_,_⟩:=Z;show wpAny _ _ (field (.ref (n+5)) 2 >>= _) _ _ _;refine Jai (Jda hz rfl (x:=.bool false) rfl ?_);show wpAny _ _ (field (.ref (n+5)) 3 >>= _) _ _ _;refine Jai (Jda hz rfl (x:=.ref (n+3)) rfl (Jai (Jc4 hTI rfl ?_)));show wpAny _ _ (Builtin.SmallTypes.ownedTupleIsFree (.ref (n+5)) >>= _) _ _ _;refine Jai ?_;unfold Builtin.SmallTypes.ownedTupleIsFree;refine Jai (Jda hz rfl (x:=.none) rfl (Ja9 ?_));simp only[Jca];refine Jai (wpAny_rule (Jai (Jda hz rfl (x:=.ref (n+4)) rfl (Jai (Jct hz (by simp) λq1 hz1 s1=>?_)))))
 replace hz1:IsZip q1 (n+5) (n+3) (n+4) .ellipsis:=hz1
 refine Jai ?_;simp only[List.zipIdx_cons,List.zipIdx_nil,List.forIn_cons,List.forIn_nil];have e1:∀ c,c≠n+5->∀ o,s.heap.get? c=some o->q1.get? c=some o:=λc hc o=>s1.extBut c o hc;refine Jai (Jai (Jed ?_));show wpAny _ _ (Builtin.SmallTypes.nextOf (.ref n) >>= _) _ _ _;refine Jai (wpAny_nextOf_list_end hh (h1.at (e1 _ ∅)) (g1.at (e1 _ ∅)) hx λq2 e s2 he=>?_);refine Zae he λoe hoe hce=>?_;clear he;have hz2:IsZip q2 (n+5) (n+3) (n+4) .ellipsis:=s2 _ _ (dA ∅) hz1;have hez:e≠n+5:=λx=>by subst x;rw[hz2] at hoe;cases hoe;simp at hce
 exact Jct hz2 (by simp) λq3 _ s3=>hE q3 e (λc o hc x=>s3.extBut _ _ (dA ∅) (s2 _ _ (dA ∅) (e1 c ∅ o x))) ⟨oe,s3.extBut _ _ hez hoe,hce⟩
theorem z3_next {n l1 l2 l3:Nat}{k:Nat}{xs ys ws:Array Value}{x y u:Value}{Q:Option Value->Shared->Prop}(m1:l1<n)(m2:l2<n)(m3:l3<n)(Z:Z3 s.heap n l1 l2 l3 k .none)(g1:s.heap.IsList l1 xs)(g2:s.heap.IsList l2 ys)(g3:s.heap.IsList l3 ws)(hx:xs[k]?=some x)(hy:ys[k]?=some y)(hu:ws[k]?=some u)(hQ:∀ h',Z3 h' n l1 l2 l3 (k+1) (rawInt s.heap.objs.size)->Tri h' s.heap.objs.size x y u->h'.objs.size=s.heap.objs.size+1->
   (∀ c o,(c<n\/n+6<=c)->s.heap.get? c=some o->h'.get? c=some o)->Q (some (.ref s.heap.objs.size)) { s with heap:=h' }):
  wpAny (model prog w) A (pyNext (.ref (n+5))) Q E s:=by
 have hT:s.TypeIs (.ref (n+5)) "zip" := ⟨_,Z.z,rfl⟩
 unfold pyNext;exact Jai (wpAny_attempt (wpAny_callSpecial?_slot (name:=Str.ofString "__next__") hT Jd2
  (wpAny_call_entry Jd2 hT F.entry_zip_next (z3_item m1 m2 m3 Z g1 g2 g3 hx hy hu λh' a1 a2 a3 a4=>Ja9 (hQ h' a1 a2 a3 a4)) (F.args_zip_next_1 _))))
theorem z3_stop {n l1 l2 l3:Nat}{k:Nat}{xs:Array Value}{Q:Option Value->Shared->Prop}(hh:A.handled=none)(m1:l1<n)(Z:Z3 s.heap n l1 l2 l3 k .none)(g1:s.heap.IsList l1 xs)(hx:xs[k]?=none)(hQ:∀ h',(∀ c o,(c<n\/n+6<=c)->s.heap.get? c=some o->h'.get? c=some o)->Q none { s with heap:=h' }):wpAny (model prog w) A (pyNext (.ref (n+5))) Q E s:=by
 have hT:s.TypeIs (.ref (n+5)) "zip" := ⟨_,Z.z,rfl⟩
 unfold pyNext;refine Jai (wpAny_attempt (wpAny_callSpecial?_slot (name:=Str.ofString "__next__") hT Jd2
  (wpAny_call_entry Jd2 hT F.entry_zip_next (z3_end hh m1 Z g1 hx λh' e hk he=>?_) (F.args_zip_next_1 _))))
 refine Zae he λo ho hc=>?_;clear he;exact Jai (wpAny_isInstance (T:="StopIteration") (b:=true) ⟨o,ho,hc⟩ isSubtype_stop (Ja9 (hQ _ hk)))
theorem Zsk (a b c d:Value):argsOk "object.__init__" ⟨[a,b,c,d],[]⟩:=by
 unfold argsOk;rw[signature?_of (id:="object.__init__") (n:=['_','_','t','i','n','i','_','_']) (o:=['t','c','e','j','b','o']) (by kernel_rfl) PySem.F.owner_object]
 kernel_rfl
abbrev zA (h:Heap)(l:Addr):Heap:=h.push { cls:=.type "list_iterator",data:=.fields #[.ref l,.int 0 0] }
abbrev zB (h:Heap)(l1 l2 l3:Addr):Heap:=zA (zA (zA h l1) l2) l3
abbrev zC (h:Heap)(l1 l2 l3:Addr):Heap:=(zB h l1 l2 l3).push { cls:=.type "tuple",data:=.seq #[.ref h.objs.size,.ref (zA h l1).objs.size,.ref (zA (zA h l1) l2).objs.size] }
abbrev zD (h:Heap)(l1 l2 l3:Addr):Heap:=(zC h l1 l2 l3).push { cls:=.type "tuple",data:=.seq #[.none,.none,.none] }
abbrev zE (h:Heap)(l1 l2 l3:Addr):Heap:=(zD h l1 l2 l3).push { cls:=.type "zip",data:=.fields #[.none,.bool false,.bool false,.ref (zB h l1 l2 l3).objs.size,.ref (zC h l1 l2 l3).objs.size] }
theorem Zuc (l1 l2 l3:Addr)(xs ys ws:Array Value):
  Meets (Builtin.«zip.__new__» ⟨[.type "zip",.ref l1,.ref l2,.ref l3],[]⟩) (λ_ R s=>s.heap.IsList l1 xs/\s.heap.IsList l2 ys/\s.heap.IsList l3 ws/\R (.ok (.ret (.ref (zD s.heap l1 l2 l3).objs.size))) { s with heap:=zE s.heap l1 l2 l3 }):=
 .of_wp λprog w A R s h=>by
  obtain⟨hp,g,d,tk,os⟩:=s;obtain⟨g1,g2,g3,h⟩:=h;have sub:=sub_zip;have q1:Heap.IsList (Shared.heap ⟨hp,g,d,tk,os⟩) l1 xs:=g1;have q2:Heap.IsList (Shared.heap ⟨zA hp l1,g,d,tk,os⟩) l2 ys:=Heap.IsList.push g2 _;have q3:Heap.IsList (Shared.heap ⟨zA (zA hp l1) l2,g,d,tk,os⟩) l3 ws:=Heap.IsList.push (Heap.IsList.push g3 _) _
  wp_walk using Jck q1,Jck q2,Jck q3
  exact⟨_,rfl,h⟩
theorem call_z3 {l1 l2 l3:Addr}{xs ys ws:Array Value}{Q:Value->Shared->Prop}(g1:s.heap.IsList l1 xs)(g2:s.heap.IsList l2 ys)(g3:s.heap.IsList l3 ws)(h:∀ h',Z3 h' s.heap.objs.size l1 l2 l3 0 .none->h'.objs.size=s.heap.objs.size+6->(∀ c o,s.heap.get? c=some o->h'.get? c=some o)->Q (.ref (s.heap.objs.size+5)) { s with heap:=h' }):
  wpAny (model prog w) A (call (.type "zip") [.ref l1,.ref l2,.ref l3]) Q E s:=by
 refine callType_new F.called_zip ⇑0 (by kernel_rfl) (by kernel_rfl) (λobj=>Zsk obj _ _ _) F.entry_zip_new (Zuc l1 l2 l3 xs ys ws) ⟨g1,g2,g3,?_⟩;have z1:(zA s.heap l1).objs.size=s.heap.objs.size+1:=Jbt ..;have z2:(zA (zA s.heap l1) l2).objs.size=s.heap.objs.size+2:=by rw[Jbt,z1]
 have z3:(zB s.heap l1 l2 l3).objs.size=s.heap.objs.size+3:=by rw[Jbt,z2]
 have z4:(zC s.heap l1 l2 l3).objs.size=s.heap.objs.size+4:=by rw[Jbt,z3]
 have z5:(zD s.heap l1 l2 l3).objs.size=s.heap.objs.size+5:=by rw[Jbt,z4]
 have z6:(zE s.heap l1 l2 l3).objs.size=s.heap.objs.size+6:=by rw[Jbt,z5]
 have up:∀ (q:Heap) (o:Obj) c u,q.get? c=some u->(q.push o).get? c=some u:=λq o c u e=>Jaq _ e;have a6:(zE s.heap l1 l2 l3).get? (zD s.heap l1 l2 l3).objs.size=some _:=Ja2 _ rfl;have a5:(zE s.heap l1 l2 l3).get? (zC s.heap l1 l2 l3).objs.size=some _:=up _ _ _ _ (Ja2 _ rfl);have a4:(zE s.heap l1 l2 l3).get? (zB s.heap l1 l2 l3).objs.size=some _:=up _ _ _ _ (up _ _ _ _ (Ja2 _ rfl));have a3:(zE s.heap l1 l2 l3).get? (zA (zA s.heap l1) l2).objs.size=some _:=up _ _ _ _ (up _ _ _ _ (up _ _ _ _ (Ja2 _ rfl)));have a2:(zE s.heap l1 l2 l3).get? (zA s.heap l1).objs.size=some _:=up _ _ _ _ (up _ _ _ _ (up _ _ _ _ (up _ _ _ _ (Ja2 _ rfl))));have a1:(zE s.heap l1 l2 l3).get? s.heap.objs.size=some _:=up _ _ _ _ (up _ _ _ _ (up _ _ _ _ (up _ _ _ _ (up _ _ _ _ (Ja2 _ rfl)))));show _/\_;rw[z3,z4,z5] at a6;rw[z1,z2,z3] at a4;rw[z4] at a5;rw[z1] at a2;rw[z2] at a3;rw[z5];exact⟨⟨_,a6,rfl⟩,h _ ⟨a6,a4,⟨_,_,_,a5⟩,⟨_,a1,rfl,rfl⟩,⟨_,a2,rfl,rfl⟩,⟨_,a3,rfl,rfl⟩⟩ z6 λc o x=>up _ _ _ _ (up _ _ _ _ (up _ _ _ _ (up _ _ _ _ (up _ _ _ _ (up _ _ _ _ x)))))⟩
end
end L2
namespace L2
open PySem PySem.Spec PyProof.Rows
def Ity (K:Frag)(a b c:Addr):It:=
 ⟨λi H=>∃ xs ys ws x y u,SqL K H a xs/\SqL K H b ys/\SqL K H c ws/\xs[i]?=some x/\ys[i]?=some y/\ws[i]?=some u,λi H v H'=>∃ x y u p,v=.ref p/\H p=none/\H'=upd H p (.tup [x,y,u])/\(∀ xs,SqL K H a xs->xs[i]?=some x)/\(∀ ys,SqL K H b ys->ys[i]?=some y)/\∀ ws,SqL K H c ws->ws[i]?=some u,λi H=>∃ xs,SqL K H a xs/\xs.length<=i⟩
theorem mem6 {n c:Nat}(h:c∈[n+5,n+3,n+4,n,n+1,n+2]):n<=c/\c<n+6:=by
 simp only[Jbo,Jcf,Jee] at h;omega
theorem out6 {n c:Nat}(h:c∉[n+5,n+3,n+4,n,n+1,n+2]):c<n\/n+6<=c:=by
 simp only[Jbo,Jcf,Jee] at h;omega
theorem Z3.keep {h h':Heap}{n l1 l2 l3 k:Nat}{f:Value}(Z:Z3 h n l1 l2 l3 k f)(e:∀ c∈[n+5,n+3,n+4,n,n+1,n+2],∀ o,h.get? c=some o->h'.get? c=some o):Z3 h' n l1 l2 l3 k f:=by
 obtain⟨hz,hTI,⟨a,b,c,hTO⟩,h1,h2,h3⟩:=Z;exact⟨e _ (by simp) _ hz,e _ (by simp) _ hTI,⟨_,_,_,e _ (by simp) _ hTO⟩,h1.at λo q=>e _ (by simp) o q,h2.at λo q=>e _ (by simp) o q,h3.at λo q=>e _ (by simp) o q⟩
theorem Zpq {P:Program}{w:World}{K:Frag}{elts:List Expr}{x1:Nat}{pos:Pos}{n a b c:Nat}(m1:a<n)(m2:b<n)(m3:c<n):
  Turn P w K (.Tuple elts x1 pos) (Ity K a b c) [n+5,n+3,n+4,n,n+1,n+2] (n+5) (λi h=>Z3 h n a b c i .none) where
 mem:=by simp
 obj:=λi h st c hc=>by
  obtain⟨hz,hTI,⟨_,_,_,hTO⟩,⟨o1,e1,c1,d1⟩,⟨o2,e2,c2,d2⟩,⟨o3,e3,c3,d3⟩⟩:=st;simp only[Jbo,Jcf,Jee] at hc;rcases hc with rfl|rfl|rfl|rfl|rfl|rfl
  .exact ⟨_,hz,λv z=>by have z':Data.fields _=Data.cell v:=z;cases z'⟩
  .exact ⟨_,hTI,λv z=>by have z':Data.seq _ _=Data.cell v:=z;cases z'⟩
  .exact ⟨_,hTO,λv z=>by have z':Data.seq _ _=Data.cell v:=z;cases z'⟩
  .exact ⟨o1,e1,λv z=>by rw[d1] at z;cases z⟩
  .exact ⟨o2,e2,λv z=>by rw[d2] at z;cases z⟩
  .exact ⟨o3,e3,λv z=>by rw[d3] at z;cases z⟩
 keep:=λi h h' st k=>st.keep λc hc o e=>k c hc o e
 item:=by
  intro X hP hw hK hc i pins s σ H E I hf st hg;subst hP hw hK;refine Zlb hg λxs ys ws x y u hqa hqb hqc e92=>?_;clear hg;refine Za2 e92 λhx hy hu=>?_;clear e92;refine Zav (I.list hqa) λits rv p hz1=>?_;refine Zav (I.list hqb) λits2 rv2 p2 hz2=>?_;refine Zav (I.list hqc) λits3 rv3 p3 hz3=>?_;refine Zae (rv.get hx) λu1 hu1 ru1=>?_;refine Zae (rv2.get hy) λu2 hu2 ru2=>?_;refine Zae (rv3.get hu) λu3 hu3 ru3=>?_;have lz:n+5<s.heap.objs.size:=Jan st.z;refine z3_next m1 m2 m3 st p.isList p2.isList p3.isList (by simpa using hu1) (by simpa using hu2) (by simpa using hu3) λh' a1 a2 a3 a4=>?_;refine⟨_,rfl,wpAny_letOwnedTupleGo_zip a1.z λh'' b1 b2=>?_⟩;have nz:(s.heap.objs.size:Addr)≠n+5:=Jd3 lz;have k2:∀ c o,c∉[n+5,n+3,n+4,n,n+1,n+2]->s.heap.get? c=some o->h''.get? c=some o:=λc o hc e=>b2.extBut _ _ (λz=>hc (by rw[z];simp)) (a4 c o (out6 hc) e);have I2:Inv X pins σ (upd H s.heap.objs.size (.tup [x,y,u])) { s with heap:=h'' }:=I.turnedT (t':=s.toks) hf k2 (Jag _)
   ⟨by show 3<=sizeLine;decide,[u1,u2,u3],.cons ru1 (.cons ru2 (.cons ru3 .nil)),_,b2.extBut _ _ nz a2,rfl,_,rfl⟩
  refine Zaq (.ref s.heap.objs.size) _ ⟨I2,rfl,⟨x,y,u,_,rfl,I.hok.fresh (Jag _),rfl,λxs' hq=>by rw[I.list_inj hq hqa];exact hx,λys' hq=>by rw[I.list_inj hq hqb];exact hy,λws' hq=>by rw[I.list_inj hq hqc];exact hu⟩,?_,λc hc=>?_⟩
  .obtain ⟨_,ti,⟨_,_,_,to⟩,j1,j2,j3⟩:=a1;have up:∀ c,c≠n+5->∀ o,h'.get? c=some o->h''.get? c=some o:=λc hc o e=>b2.extBut c o hc e;exact⟨b1,up _ ∅ _ ti,⟨_,_,_,up _ ∅ _ to⟩,j1.at (up _ ∅),j2.at (up _ ∅),j3.at (up _ ∅)⟩
  .have:=mem6 hc;rw[Zaj (Jbr (Jau this.2 lz))];exact (hf c hc).1
 done:=by
  intro X hP hw hK hc i pins s σ H E I hf st hg;subst hP hw hK;refine Zae hg λxs hqa hx=>?_;clear hg;refine Zav (I.list hqa) λits rv p hz1=>?_;have l1:=rv.length;exact z3_stop (I.ok.hd hc) m1 st p.isList (by simp;omega) λh' kk=>⟨rfl,I.turnedL (t':=s.toks) hf λc o hc e=>kk c o (out6 hc) e⟩
 self:=λ_ _ _ _ _ st h=>Jdt st.z h
section
variable {X:Cx}
def iZ3 (K:Frag)(ta:TA):TI:=λσ H R=>ta σ H λvs H1=>∃ a b c,vs=[.ref a,.ref b,.ref c]/\(∃ xs,SqL K H1 a xs)/\(∃ ys,SqL K H1 b ys)/\(∃ ws,SqL K H1 c ws)/\R (Ity K a b c) H1
theorem pi_z3 {elts:List Expr}{x1:Nat}{pt p pos:Pos}{a b c:Expr}{ta:TA}(hg:Gl X "zip")(hm:X.mg "zip" = none)(ha:PA X [a,b,c] ta)(h:Zb3 a=false:=by rfl)(h2:Zb3 b=false:=by rfl)(h3:Zb3 c=false:=by rfl):
  PI X (.Tuple elts x1 pt) (.Call (.Name "zip" p) [a,b,c] [] pos) (iZ3 X.K ta):=by
 intro pins s σ H R I hh;refine Call_ (Zjj I hg hm boot_zip (Jb6 (thn (ha pos pins s σ H _ I hh) λus s1 ⟨vs,H1,I1,r1,q1⟩=>?_) (by rw[Za7 h,Za7 h2,Za7 h3]) (by rw[Za7 h2,Za7 h3];rfl)));refine Zb9 q1 λa' b' c' e e93 e94 e95=>?_;clear q1;obtain⟨xs,hq1⟩:=e93;obtain⟨ys,hq2⟩:=e94;obtain⟨⟨ws,hq3⟩,q⟩:=e95;subst e;cases r1 with
 | cons r rr=>
  cases rr with
  | cons r' rr=>
   cases rr with
   | cons r'' rr=>
    cases rr;cases r;cases r';cases r'';refine Zav (I1.list hq1) λits rv p1 hz1=>?_;refine Zav (I1.list hq2) λits2 rv2 p2 hz2=>?_;refine Zav (I1.list hq3) λits3 rv3 p3 hz3=>?_;have lt1:a'<s1.heap.objs.size:=by obtain⟨o,ho,_⟩:=p1.isList;exact Jan ho
    have lt2:b'<s1.heap.objs.size:=by obtain⟨o,ho,_⟩:=p2.isList;exact Jan ho
    have lt3:c'<s1.heap.objs.size:=by obtain⟨o,ho,_⟩:=p3.isList;exact Jan ho
    refine call_z3 p1.isList p2.isList p3.isList λh' a1 a2 a3=>Jdt (s:={ s1 with heap:=h' }) a1.z ?_;refine Zg3 _ _ _ _ H1 ⟨rfl,I1.kept (t':=s1.toks) a3,Zpq lt1 lt2 lt3,a1,λb hb=>?_,q⟩;have hb':s1.heap.objs.size<=b:=(mem6 hb).1;exact I1.fpOk (H':=H1) hb' (I1.hok.fresh hb')
end
section
variable {K:Frag}{a b c D:Addr}{xs ys ws:List V}{g:TG}{tt:TT}{te:TE}{k:Nat}{fr:List (Str×Nat)}{σ:St}{H1:Hp}{Q:VK}
theorem Zoi (Pv:Nat->List V->Hp->Prop)(l2:ys.length=xs.length)(l3:ws.length=xs.length)(h0:Pv 0 [] (upd H1 D (.lst [])))(hl:∀ i vs H,i<=xs.length->Pv i vs H->SqL K H a xs/\SqL K H b ys/\SqL K H c ws)(hs:∀ i x y u p vs σ' H,i<xs.length->xs[i]?=some x->ys[i]?=some y->ws[i]?=some u->H p=none->Sh k (Zbm fr σ) σ'->Pv i vs H->Zfq g tt te D xs.length k (Zbm fr σ) Pv i (.ref p) σ' (upd H p (.tup [x,y,u])))(hd:∀ vs H,Pv xs.length vs H->Q (.ref D) H):
  Zbu g tt te (Ity K a b c) D (Zg2 k fr σ) H1 Q:=by
 refine⟨Wv xs.length k (Zbm fr σ) Pv,⟨xs.length,by simp,Jb5 _,sh0,[],h0⟩,?_⟩;intro i m σ' H2 e91;refine Zcb e91 λe96 hi sh e97=>?_;clear e91;obtain rfl:=e96;obtain⟨vs,p⟩:=e97;refine Za2 (hl i vs H2 hi p) λq1 q2 q3=>?_;by_cases hlt:i<xs.length
 .refine .inr ⟨⟨xs,ys,ws,xs[i],ys[i]'(by omega),ws[i]'(by omega),q1,q2,q3,by simp[hlt],by simp[l2,hlt],by simp[l3,hlt]⟩,λx H3 y=>?_⟩;refine Zb8 y λu v r pp e98 hp e99 e910=>?_;clear y;obtain rfl:=e98;obtain rfl:=e99;refine Za2 e910 λe1 e2 e3=>?_;clear e910;exact hs i u v r pp vs σ' _ hlt (e1 _ q1) (e2 _ q2) (e3 _ q3) hp sh p
 .have e:i=xs.length:=∅
  subst e;exact .inl ⟨⟨xs,q1,Jag _⟩,hd vs H2 p⟩
end
end L2
set_option maxHeartbeats 4000000
open PySem L2 PyProof.Rows
local macro_rules|`($i>>>$n)=>`(@Zad _ _ $i _ $n rfl (Or.inl rfl) (Or.inl rfl))
local macro_rules|`($i<<<$l)=>`(@Zad _ _ $i _ (show (($l) : List Str).Nodup by decide +kernel) rfl (Or.inl rfl) (Or.inr rfl))
local macro_rules|`($i|||$n|||$x)=>`(Zap (i:=$i) $n rfl (Or.inl rfl) $x)
local macro_rules|`($a^^^$b)=>`(@Zag _ _ _ _ _ $a $b (by rfl))
local macro_rules|`($c<$>$h<$>$x)=>`(Za4 $c ($h).m rfl $x)
local macro_rules | `($a<&>$b)=>`(@pa_c _ _ _ _ _ $a $b ⇑1)
local macro_rules | `($a<*>$b)=>`(@Zti _ _ _ _ _ $a $b)
local macro_rules | `($o<|>$a<&&>$b)=>`(@pe_op _ _ _ _ _ _ _ _ $o $a $b)
local macro_rules | `($o<|>$a<||>$b)=>`(@pe_ix _ _ _ _ _ _ _ $o $a $b (λ_ _=>rfl))
local macro_rules | `(~~~$x)=>`(@Zan _ _ _ (@ps_ret _ _ _ _ $x))
local macro_rules | `(tactic| walk_at "wp")=>do
 let f (s:String):=(s.splitOn " ").toArray.map λx=>Lean.mkIdent x.toName
 let a:=f "tv0 tv1 tv2 tv3 tv4 tv5 tv6 tv7 tv8 tv9 tv10 tv11 tv12 tv13 pI0 pI pU pIxL pIxT pEb pEi pEr pEqT pEqL pSlL pCat pApp pTup pL1 pL0 pLi pE5 Zs1 tIfS Zs0 tOp tUn tVr Zn0 Zqy Zqx Zvv Zqz rJ0 rJ rEqJ rNeJ tTst rIxJ rIxTJ rAppJ tFldJ tC tCB Zf4 Zsm tRet tRetN tNext tDrop tAsg tAug ipI Zbe Zpb Zgu Zsp gSub tTup tLst tSl Zmh tPart Znk Zop tBM tBM0 tPar tB tAnd tOr tNot tAndV tOrV tNotV tIf Zew Zpt Zps tFld sFld tAugS rGetL rI0 rI rU rIxL rIxT rSetL rSlL Zjd iZ3 Zvl iEnm iRvl tLE gSl0 tMinL rBits tTry hEnds Zve hnd_K pnx_K rCat rEq rNe rEqL Zvm rIn Zp9 Zqa Zp8 Zru iTup Zrt Zul cV cx_K in_K Zvb E0 L2.start"
 let b:=f "Zg5 List.map List.length List.replicate List.cons_append List.nil_append List.getElem?_cons_zero List.getElem?_cons_succ List.set_cons_zero List.set_cons_succ"
 let c:=f "List.append_nil Option.some.injEq exists_eq_left' exists_eq_left exists_and_left V.int.injEq V.bl.injEq V.ref.injEq V.ty.injEq List.cons.injEq reduceCtorEq false_and and_false exists_false Jee false_or and_true true_and Nat.reduceSub Nat.reduceAdd Nat.reduceLT Jca if_false Bool.false_eq_true"
 `(tactic| ((try dsimp only [$[↓$a:term],*,$[$b:term],*]);(try simp only[$[↓$a:term],*,$[$b:term],*,$[$c:term],*])))
namespace Pf
open PySem L2 PyProof.Rows
def top (i:Nat):Stmt:=PySem.Challenge.pw_limbtables_k63_papers_of_changes.main.body.getD i (.Pass ⟨0,0,0,0⟩)
abbrev Zfi:Stmt:=top 11
abbrev Zdc:Stmt:=top 20
abbrev Zhh:Stmt:=top 21
abbrev Zdv:Stmt:=Zjo (top 22) 0
abbrev Zcy:Stmt:=top 12
abbrev Zdb:Stmt:=top 13
abbrev Zf7:Stmt:=top 14
abbrev Zdd:Stmt:=top 15
abbrev Zcp:Stmt:=top 16
abbrev Zhf:Stmt:=top 27
abbrev Zko:Stmt:=top 28
abbrev Zms:Stmt:=top 29
abbrev Zi1:Stmt:=top 30
abbrev Zi0:Stmt:=top 31
abbrev Zf5:Stmt:=top 32
abbrev Zf8:Stmt:=top 33
abbrev Zds:Stmt:=top 34
abbrev Zgd:Stmt:=top 42
abbrev Zec:Stmt:=top 43
abbrev Zfa:Stmt:=top 44
abbrev Zde:Stmt:=Zjo (top 45) 0
abbrev Zf6:Stmt:=top 46
abbrev Zee:Stmt:=top 47
abbrev Zgc:Stmt:=top 54
abbrev Zge:Stmt:=top 55
abbrev Zkp:Stmt:=top 56
abbrev Zcx:Stmt:=top 58
abbrev Zi2:Stmt:=top 61
abbrev Zhg:Stmt:=top 64
abbrev Zdt:Stmt:=top 65
abbrev Zhi:Stmt:=top 66
abbrev Zja:Stmt:=top 67
abbrev Ziz:Stmt:=top 68
abbrev Zed:Stmt:=top 69
abbrev Zef:Stmt:=Zjo (top 70) 0
abbrev Zax:Stmt:=Zjo (top 70) 1
abbrev Zcd:Stmt:=Zjo (top 70) 6
abbrev Zhd:Stmt:=top 72
abbrev Zi8:Stmt:=top 73
abbrev Zhb:Stmt:=top 74
abbrev Zi6:Stmt:=top 75
abbrev Zdq:Stmt:=top 76
abbrev Zco:Stmt:=top 77
abbrev Ze7:Stmt:=top 78
abbrev Zi9:Stmt:=top 79
abbrev Zi3:Stmt:=top 80
abbrev Zi5:Stmt:=top 81
abbrev Zhe:Stmt:=top 82
abbrev Zg9:Stmt:=top 83
abbrev Zf9:Stmt:=top 84
abbrev Zhc:Stmt:=top 85
abbrev Zd8:Stmt:=top 86
abbrev Zga:Stmt:=top 87
abbrev Zd7:Stmt:=top 88
abbrev Ze6:Stmt:=top 89
abbrev Zeb:Stmt:=top 90
abbrev Zdu:Stmt:=top 91
abbrev Zd9:Stmt:=top 92
abbrev Ze9:Stmt:=top 93
abbrev Zea:Stmt:=top 94
abbrev Zi4:Stmt:=top 95
abbrev Ze8:Stmt:=top 96
abbrev Zha:Stmt:=top 97
abbrev Zi7:Stmt:=top 98
abbrev Zcc:Stmt:=top 99
abbrev Ze5:Stmt:=top 100
abbrev Zgb:Stmt:=top 101
abbrev Zkn:Stmt:=top 102
theorem Zd6:FnScope ["thing"] ["thing"] (Zaf Zfi):=⟨rfl,rfl,rfl,⋯,rfl,⋯,⋯⟩
theorem Zen:FnScope ["many","arrows"] ["many","arrows"] (Zaf Zdc):=⟨rfl,rfl,rfl,⋯,rfl,⋯,⋯⟩
theorem Zix:FnScope ["many","thing"] ["many","thing"] (Zaf Zhh):=⟨rfl,rfl,rfl,⋯,rfl,⋯,⋯⟩
theorem Ze4:FnScope ["self","many","arrows"] ["self","many","arrows"] (Zaf Zdv):=⟨rfl,rfl,rfl,⋯,rfl,⋯,⋯⟩
theorem Zd0:FnScope ["one","other"] ["one","other"] (Zaf Zcy):=⟨rfl,rfl,rfl,⋯,rfl,⋯,⋯⟩
theorem Zem:FnScope ["one","other"] ["one","other"] (Zaf Zdb):=⟨rfl,rfl,rfl,⋯,rfl,⋯,⋯⟩
theorem Zhr:FnScope ["one","other","shift","a","b","c","d"] ["one","other"] (Zaf Zf7):=⟨rfl,rfl,rfl,⋯,rfl,⋯,⋯⟩
theorem Zeo:FnScope ["one","other","a","b","c","d","many"] ["one","other"] (Zaf Zdd):=⟨rfl,rfl,rfl,⋯,rfl,⋯,⋯⟩
theorem Zdp:FnScope ["one","other"] ["one","other"] (Zaf Zcp):=⟨rfl,rfl,rfl,⋯,rfl,⋯,⋯⟩
theorem Ziv:FnScope ["ground","thing","high","wide","rows"] ["ground","thing"] (Zaf Zhf):=⟨rfl,rfl,rfl,⋯,rfl,⋯,⋯⟩
theorem Zlj:FnScope ["ground","wide","thing"] ["ground","wide","thing"] (Zaf Zko):=⟨rfl,rfl,rfl,⋯,rfl,⋯,⋯⟩
theorem Zns:FnScope ["ground","many","high","wide","rows","place"] ["ground","many"] (Zaf Zms):=⟨rfl,rfl,rfl,⋯,rfl,⋯,⋯⟩
theorem Zjz:FnScope ["ground","high","wide"] ["ground","high","wide"] (Zaf Zi1):=⟨rfl,rfl,rfl,⋯,rfl,⋯,⋯⟩
theorem Zjy:FnScope ["ground","one","other","rows","columns"] ["ground","one","other"] (Zaf Zi0):=⟨rfl,rfl,rfl,⋯,rfl,⋯,⋯⟩
theorem Zhp:FnScope ["ground","row","bottom","number"] ["ground","row"] (Zaf Zf5):=⟨rfl,rfl,rfl,⋯,rfl,⋯,⋯⟩
theorem Zhs:FnScope ["ground","row","column","tops","bottom","other_tops","other_bottom"] ["ground","row","column"] (Zaf Zf8):=⟨rfl,rfl,rfl,⋯,rfl,⋯,⋯⟩
theorem Ze1:FnScope ["table","high","wide","rows"] ["table"] (Zaf Zds):=⟨rfl,rfl,rfl,⋯,rfl,⋯,⋯⟩
theorem Zhx:FnScope ["drawing","thing"] ["drawing","thing"] (Zaf Zgd):=⟨rfl,rfl,rfl,⋯,rfl,⋯,⋯⟩
theorem Zfw:FnScope ["ground","high","wide","thing"] ["ground","high","wide","thing"] (Zaf Zec):=⟨rfl,rfl,rfl,⋯,rfl,⋯,⋯⟩
theorem Zgp:FnScope ["ground","drawing","sizes","thing"] ["ground","drawing","sizes","thing"] (Zaf Zfa):=⟨rfl,rfl,rfl,⋯,rfl,⋯,⋯⟩
theorem Zep:FnScope ["self","ground","drawing","sizes","tables"] ["self","ground","drawing","sizes","tables"] (Zaf Zde):=⟨rfl,rfl,rfl,⋯,rfl,⋯,⋯⟩
theorem Zhq:FnScope ["standing","ground","drawing"] ["standing","ground","drawing"] (Zaf Zf6):=⟨rfl,rfl,rfl,⋯,rfl,⋯,⋯⟩
theorem Zfy:FnScope ["standing","thing"] ["standing","thing"] (Zaf Zee):=⟨rfl,rfl,rfl,⋯,rfl,⋯,⋯⟩
theorem Zhw:FnScope ["standing","thing"] ["standing","thing"] (Zaf Zgc):=⟨rfl,rfl,rfl,⋯,rfl,⋯,⋯⟩
theorem Zhy:FnScope ["standing","changes","backs","ground"] ["standing","changes","backs"] (Zaf Zge):=⟨rfl,rfl,rfl,⋯,rfl,⋯,⋯⟩
theorem Zlk:FnScope ["standing","other","changes","backs","ground"] ["standing","other","changes","backs"] (Zaf Zkp):=⟨rfl,rfl,rfl,⋯,rfl,⋯,⋯⟩
theorem Zdz:FnScope ["standing","other","changes","backs"] ["standing","other","changes","backs"] (Zaf Zcx):=⟨rfl,rfl,rfl,⋯,rfl,⋯,⋯⟩
theorem Zj0:FnScope ["standing","paper"] ["standing","paper"] (Zaf Zi2):=⟨rfl,rfl,rfl,⋯,rfl,⋯,⋯⟩
theorem Ziw:FnScope ["number"] ["number"] (Zaf Zhg):=⟨rfl,rfl,rfl,⋯,rfl,⋯,⋯⟩
theorem Ze2:FnScope ["thing"] ["thing"] (Zaf Zdt):=⟨rfl,rfl,rfl,⋯,rfl,⋯,⋯⟩
theorem Ziy:FnScope ["top","bottom","divisor"] ["top","bottom"] (Zaf Zhi):=⟨rfl,rfl,rfl,⋯,rfl,⋯,⋯⟩
theorem Zj8:FnScope ["rest","prime","low","high","low_times","high_times","many"] ["rest","prime"] (Zaf Zja):=⟨rfl,rfl,rfl,⋯,rfl,⋯,⋯⟩
theorem Zjx:FnScope ["top","bottom","prime","below"] ["top","bottom","prime"] (Zaf Ziz):=⟨rfl,rfl,rfl,⋯,rfl,⋯,⋯⟩
theorem Zfx:FnScope ["thing","top","bottom"] ["thing"] (Zaf Zed):=⟨rfl,rfl,rfl,⋯,rfl,⋯,⋯⟩
theorem Zfz:FnScope ["self","prime"] ["self","prime"] (Zaf Zef):=⟨rfl,rfl,rfl,⋯,rfl,⋯,⋯⟩
theorem Zeq:FnScope ["self","top","bottom"] ["self","top","bottom"] (Zaf Zax):=⟨rfl,rfl,rfl,⋯,rfl,⋯,⋯⟩
theorem Zda:FnScope ["self","thing"] ["self","thing"] (Zaf Zcd):=⟨rfl,rfl,rfl,⋯,rfl,⋯,⋯⟩
theorem Zit:FnScope ["_law_script","_law_k"] ["_law_script","_law_k"] (Zaf Zhd):=⟨rfl,rfl,rfl,⋯,rfl,⋯,⋯⟩
theorem Zj6:FnScope ["_law_cell_here"] ["_law_cell_here"] (Zaf Zi8):=⟨rfl,rfl,rfl,⋯,rfl,⋯,⋯⟩
theorem Zir:FnScope ["_law_bag_here","_law_many","_law_found"] ["_law_bag_here","_law_many"] (Zaf Zhb):=⟨rfl,rfl,rfl,⋯,rfl,⋯,⋯⟩
theorem Zj4:FnScope ["_law_one","_law_two","_law_rest"] ["_law_one","_law_two"] (Zaf Zi6):=⟨rfl,rfl,rfl,⋯,rfl,⋯,⋯⟩
theorem Zc4:FnScope ["_law_top","_law_bottom","_law_both"] ["_law_top","_law_bottom"] (Zaf Zdq):=⟨rfl,rfl,rfl,⋯,rfl,⋯,⋯⟩
theorem Zdo:FnScope ["_law_bag_here"] ["_law_bag_here"] (Zaf Zco):=⟨rfl,rfl,rfl,⋯,rfl,⋯,⋯⟩
theorem Zgm:FnScope ["_law_bag_here","_law_p"] ["_law_bag_here","_law_p"] (Zaf Ze7):=⟨rfl,rfl,rfl,⋯,rfl,⋯,⋯⟩
theorem Zj7:FnScope ["_law_p","_law_a","_law_b"] ["_law_p","_law_a","_law_b"] (Zaf Zi9):=⟨rfl,rfl,rfl,⋯,rfl,⋯,⋯⟩
theorem Zj1:FnScope ["_law_p","_law_a","_law_b"] ["_law_p","_law_a","_law_b"] (Zaf Zi3):=⟨rfl,rfl,rfl,⋯,rfl,⋯,⋯⟩
theorem Zj3:FnScope ["_law_p","_law_k"] ["_law_p","_law_k"] (Zaf Zi5):=⟨rfl,rfl,rfl,⋯,rfl,⋯,⋯⟩
theorem Ziu:FnScope ["_law_p","_law_a"] ["_law_p","_law_a"] (Zaf Zhe):=⟨rfl,rfl,rfl,⋯,rfl,⋯,⋯⟩
theorem Zip:FnScope ["_law_bag_here","_law_p","_law_high","_law_wide","_law_thin","_law_rows_here","_law_i","_law_row","_law_j","_law_number_here"] ["_law_bag_here","_law_p","_law_high","_law_wide"] (Zaf Zg9):=⟨rfl,rfl,rfl,⋯,rfl,⋯,⋯⟩
theorem Zht:FnScope ["_law_bag_here","_law_p","_law_high","_law_wide","_law_rows_here","_law_a"] ["_law_bag_here","_law_p","_law_high","_law_wide"] (Zaf Zf9):=⟨rfl,rfl,rfl,⋯,rfl,⋯,⋯⟩
theorem Zis:FnScope ["_law_table_here"] ["_law_table_here"] (Zaf Zhc):=⟨rfl,rfl,rfl,⋯,rfl,⋯,⋯⟩
theorem Zfs:FnScope ["_law_p","_law_one","_law_other","_law_rows_here","_law_row","_law_made_here","_law_j","_law_number_here","_law_k"] ["_law_p","_law_one","_law_other"] (Zaf Zd8):=⟨rfl,rfl,rfl,⋯,rfl,⋯,⋯⟩
theorem Zhu:FnScope ["_law_p","_law_many"] ["_law_p","_law_many"] (Zaf Zga):=⟨rfl,rfl,rfl,⋯,rfl,⋯,⋯⟩
theorem Zfr:FnScope ["_law_p","_law_table_here","_law_high","_law_wide","_law_rows_here","_law_done","_law_column","_law_some","_law_back_here","_law_k","_law_less"] ["_law_p","_law_table_here"] (Zaf Zd7):=⟨rfl,rfl,rfl,⋯,rfl,⋯,⋯⟩
theorem Zgl:FnScope ["_law_one","_law_other"] ["_law_one","_law_other"] (Zaf Ze6):=⟨rfl,rfl,rfl,⋯,rfl,⋯,⋯⟩
theorem Zfv:FnScope ["_law_bag_here","_law_many","_law_way","_law_pairs","_law_k","_law_one","_law_arrows","_law_other","_law_turn"] ["_law_bag_here"] (Zaf Zeb):=⟨rfl,rfl,rfl,⋯,rfl,⋯,⋯⟩
theorem Ze3:FnScope ["_law_bag_here","_law_p","_law_many","_law_arrows","_law_sizes","_law_left","_law_k","_law_tables"] ["_law_bag_here","_law_p","_law_many","_law_arrows"] (Zaf Zdu):=⟨rfl,rfl,rfl,⋯,rfl,⋯,⋯⟩
theorem Zft:FnScope ["_law_bag_here","_law_p"] ["_law_bag_here","_law_p"] (Zaf Zd9):=⟨rfl,rfl,rfl,⋯,rfl,⋯,⋯⟩
theorem Zgo:FnScope ["_law_bag_here","_law_p","_law_size","_law_high","_law_wide","_law_rows_here","_law_a","_law_k","_law_one","_law_other"] ["_law_bag_here","_law_p","_law_size"] (Zaf Ze9):=⟨rfl,rfl,rfl,⋯,rfl,⋯,⋯⟩
theorem Zfu:FnScope ["_law_p","_law_table_here","_law_size","_law_led_here"] ["_law_p","_law_table_here"] (Zaf Zea):=⟨rfl,rfl,rfl,⋯,rfl,⋯,⋯⟩
theorem Zj2:FnScope ["_law_p","_law_arrows","_law_standing_here","_law_changes","_law_backs","_law_tables","_law_table_here","_law_tail","_law_head"] ["_law_p","_law_arrows","_law_standing_here","_law_changes","_law_backs"] (Zaf Zi4):=⟨rfl,rfl,rfl,⋯,rfl,⋯,⋯⟩
theorem Zgn:FnScope ["_law_tables"] ["_law_tables"] (Zaf Ze8):=⟨rfl,rfl,rfl,⋯,rfl,⋯,⋯⟩
theorem Ziq:FnScope ["_law_ground","_law_drawing_here","_law_standing_here"] ["_law_ground","_law_drawing_here","_law_standing_here"] (Zaf Zha):=⟨rfl,rfl,rfl,⋯,rfl,⋯,⋯⟩
theorem Zj5:FnScope ["_law_p","_law_arrows","_law_standing_here","_law_other","_law_changes","_law_backs","_law_size","_law_one","_law_two","_law_first","_law_second"] ["_law_p","_law_arrows","_law_standing_here","_law_other","_law_changes","_law_backs"] (Zaf Zi7):=⟨rfl,rfl,rfl,⋯,rfl,⋯,⋯⟩
theorem Zc9:FnScope ["_law_bag_here","_law_p","_law_tables","_law_some","_law_rows_here","_law_row"] ["_law_bag_here","_law_p","_law_tables"] (Zaf Zcc):=⟨rfl,rfl,rfl,⋯,rfl,⋯,⋯⟩
theorem Zgk:FnScope ["_law_bag_here","_law_p","_law_other","_law_changes","_law_backs","_law_way"] ["_law_bag_here","_law_p","_law_other","_law_changes","_law_backs"] (Zaf Ze5):=⟨rfl,rfl,rfl,⋯,rfl,⋯,⋯⟩
theorem Zhv:FnScope ["_law_p","_law_many","_law_arrows","_law_standing_here","_law_other","_law_changes","_law_backs","_law_one","_law_handed","_law_paper","_law_found"] ["_law_p","_law_many","_law_arrows","_law_standing_here","_law_other","_law_changes","_law_backs"] (Zaf Zgb):=⟨rfl,rfl,rfl,⋯,rfl,⋯,⋯⟩
theorem Zvi:FnScope ["_law_script","_law_cell_here","_law_bag_here","_law_p","_law_many","_law_arrows","_law_standing_here","_law_changes","_law_backs","_law_units","_law_other","_law_turn","_law_far","_law_near","_law_back_here","_law_due_here"] ["_law_script"] (Zaf Zkn):=⟨rfl,rfl,rfl,⋯,rfl,⋯,⋯⟩
structure Txt (K:Frag)(mg:Str->Option Value)(C G S:Addr):Prop where
 cl_Drawing:Cls K C
 nM:NoAttr K C "many"
 nA:NoAttr K C "arrows"
 cl_Ground:Cls K G
 nP:NoAttr K G "prime"
 cl_Standing:Cls K S
 nSg:NoAttr K S "ground"
 nSd:NoAttr K S "drawing"
 nSs:NoAttr K S "sizes"
 nSt:NoAttr K S "tables"
 n_len:mg "len" = none
 n_range:mg "range" = none
 n_list:mg "list" = none
 n_min:mg "min" = none
 n_int:mg "int" = none
 n_bool:mg "bool" = none
 n_tuple:mg "tuple" = none
 n_all:mg "all" = none
 n_isinstance:mg "isinstance" = none
 n_abs:mg "abs" = none
 n_zip:mg "zip" = none
 n_enumerate:mg "enumerate" = none
 n_reversed:mg "reversed" = none
 n_sum:mg "sum" = none
 n_any:mg "any" = none
 g_MOST_POINTS:∃ t,mg "MOST_POINTS" = some (.int 8 t)
 g_MOST_ARROWS:∃ t,mg "MOST_ARROWS" = some (.int 9 t)
 g_LARGEST_PRIME:∃ t,mg "LARGEST_PRIME" = some (.int 97 t)
 g_LONG:∃ t,mg "LONG" = some (.int 4000 t)
 g_LEADING:∃ t,mg "LEADING" = some (.int 126 t)
 g_Standing:mg "Standing" = some (.ref S)
 ic1:PySem.W.findIn K (.ref S) "__class__" = some (some (.builtin "object.__class__"))
 ic2:PySem.W.specialIn K (.builtin "object.__class__") "__get__" = some (some (.builtin "getset_descriptor.__get__"))
 ic3:PySem.W.takesIn K (.builtin "object.__class__")=some true
 ic4:PySem.W.mroIn K S (.type "object")=some true
def Zv4 (a b:Int):HO:=.lst [.int a,.int b]
def Bag (H:Hp)(l:Addr):Prop:=∃ a b:Int,H l=some (Zv4 a b)/\0<=b/\b<2147483647
def Zp4 (K:Frag):Sp:=λvs H Q _=>∃ (a:Addr) (ns:List Int) (k:Int),vs=[.ref a,.int k]/\SqL K H a (ns.map V.int)/\ns.length<=63/\0<=k/\∀ c,Q (.int c) H
def spBag:Sp:=λvs H Q _=>∃ c:Int,vs=[.int c]/\∀ (l:Addr) (a b:Int),H l=none->0<=b->b<2147483647->Q (.ref l) (upd H l (Zv4 a b))
def Zc8:Sp:=λvs H Q _=>∃ (l:Addr) (a b n:Int),vs=[.ref l,.int n]/\H l=some (Zv4 a b)/\0<=b/\b<2147483647/\0<n/\n<1000000000 /\
 ∀ (r a' b':Int),0<=r->r<n->0<=b'->b'<2147483647->Q (.int r) (upd H l (Zv4 a' b'))
section
variable {C G S:Addr}
theorem ok_cell (F:Fun K "_law_cell" "_law_cell" Zhd f fd)(T:Txt K mg C G S):FnOk P w K mg base CX0 1 f fd ["_law_script","_law_k"] (Zp4 K):=by
 have nd:=Zit.nd;refine F.ok Zit (λvs H Q E h=>?_) (λcdv A outer s H vs Q E hr h=>?_)
 .refine Zf3 h λa ns k e91 _=>?_;clear h;obtain rfl:=e91;rfl
 .refine Zb9 h λa ns k e92 hS hl e93=>?_;clear h;obtain rfl:=e92;obtain⟨h0,q⟩:=e93;refine⟨_,((@Za6 _ _ _ _ _ _ _ _ (Zam Zia (pvr 1) (Za9 Zau rfl T.n_len Jbd ((pvr 0)<&>Zaa)) (Zak _)) (~~~((ixJ Zar)<|>(pvr 0)<||>(pvr 1))) Zal)<*>(~~~Zac)),?_⟩;walk_at "wp";refine⟨_,.inl hS,Zci (λhc=>?_) (λ_=>q 0)⟩;have hc:=Jat hc;rw[Jab] at hc;refine⟨_,hS,V.int (ns[k.toNat]'(oz33 h0 hc)),Zb0 h0 ?_,q _⟩;rw[Jad,Jaa (oz33 h0 hc)];rfl
theorem cpow (k:Int)(h0:0<=k)(h1:k<=1000):CPow 10 k:=⟨h0,∅,⇑0⟩
theorem Zlt (c n:Int)(h:0<n):0<=c % n:=Jbl _ ∅
theorem Zlu (c n:Int)(h:0<n):c % n<n:=Ja7 _ h
end
end Pf
namespace Pf
open PySem L2 PyProof.Rows
section
variable {C G S:Addr}
theorem Bag.ne {H:Hp}{l p:Addr}(h:Bag H l)(hp:H p=none):p≠l:=by
 refine Zbd h λa b e _=>?_;clear h;exact (Zah e hp).symm
theorem Bag.new {H:Hp}{l p:Addr}{o:HO}(h:Bag H l)(hp:p≠l):Bag (upd H p o) l:=by
 refine Zbt h λa b e h1 h2=>?_;clear h;exact Zaq a b ⟨by rw[Zaj hp.symm];exact e,h1,h2⟩
theorem Bag.set {H:Hp}{l:Addr}{a b:Int}(h1:0<=b)(h2:b<2147483647):Bag (upd H l (Zv4 a b)) l:=⟨a,b,Zab,h1,h2⟩
def Edge (H:Hp)(m:Int)(x:V):Prop:=∃ (t:Addr) (i j:Int),x=.ref t/\H t=some (.tup [.int i,.int j])/\0<=i/\i<m/\0<=j/\j<m
def Edges (H:Hp)(m:Int)(xs:List V):Prop:=∀ x∈xs,Edge H m x
theorem Edge.same {H H':Hp}{m:Int}{x:V}(e:Edge H m x)(s:Same H H'):Edge H' m x:=by
 refine Zmd e λt i j h1 h2 h3=>?_;clear e;exact Zcm t i j ⟨h1,s _ _ h2,h3⟩
theorem Edges.same {H H':Hp}{m:Int}{xs:List V}(e:Edges H m xs)(s:Same H H'):Edges H' m xs:=λx hx=>(e x hx).same s
theorem Edge.ext {H H':Hp}{m:Int}{l:Addr}{x:V}{ys:List V}(e:Edge H m x)(s:Ext l H H')(hl:H l=some (.lst ys)):Edge H' m x:=by
 refine Zmd e λt i j h1 h2 h3=>?_;clear e;exact Zcm t i j ⟨h1,s _ _ (Zdh h2 hl (by intro z;cases z)) h2,h3⟩
theorem Edges.ext {H H':Hp}{m:Int}{l:Addr}{xs ys:List V}(e:Edges H m xs)(s:Ext l H H')(hl:H l=some (.lst ys)):Edges H' m xs:=λx hx=>(e x hx).ext s hl
theorem Edges.nil {H:Hp}{m:Int}:Edges H m []:=λ_ h=>nomatch h
theorem Edges.snoc {H:Hp}{m:Int}{xs:List V}{x:V}(e:Edges H m xs)(h:Edge H m x):Edges H m (xs++[x]):=λy hy=>by
 rcases Jba.mp hy with z|z
 .exact e y z
 .rw [Ja3.mp z];exact h
theorem Edges.put {H:Hp}{m:Int}{xs ys:List V}{p:Addr}{o:HO}(e:Edges H m xs)(hp:H p=some (.lst ys)):Edges (upd H p o) m xs:=e.ext (l:=p) Ext.set hp
structure Out (l:Addr)(H:Hp)(p e:Addr)(m:Int)(xs:List V)(H':Hp):Prop where
 ext:Ext l H H'
 bag:Bag H' l
 tup:H' p=some (.tup [.int m,.ref e])
 lst:H' e=some (.lst xs)
 new:H e=none
 lo:1<=m
 hi:m<=8
 len:xs.length<=9
 ed:Edges H' m xs
def spOut (K0:List V->Prop):Sp:=λvs H Q _=>∃ (l:Addr) (r:List V),vs=.ref l::r/\K0 r/\Bag H l/\∀ p e m xs H',Out l H p e m xs H'->Q (.ref p) H'
def way0 (r:List V):Prop:=r=[]
theorem Edge.mk {H:Hp}{p:Addr}{i j m:Int}(h1:0<=i)(h2:i<m)(h3:0<=j)(h4:j<m):Edge (upd H p (.tup [.int i,.int j])) m (.ref p):=⟨p,i,j,rfl,Zab,h1,h2,h3,h4⟩
theorem Edges.add {H:Hp}{p:Addr}{i j m:Int}{xs:List V}(e:Edges H m xs)(hp:H p=none)(h1:0<=i)(h2:i<m)(h3:0<=j)(h4:j<m):Edges (upd H p (.tup [.int i,.int j])) m (xs++[.ref p]):=
 (e.same (Same.new hp)).snoc (Edge.mk h1 h2 h3 h4)
theorem Zo8 {fr:List (Str×Nat)}{σ:L2.St}{t1 t2:TE}{lo m:Int}{n:Nat}{D:Addr}{H1:Hp}{Q:VK}(a b:Nat->Int)(hD:H1 D=none)(hn:n<=9)(h1:∀ i H Q,i<n->Q (.int (a i)) H->t1 (some (.int (lo+(i:Nat)))::Zbm fr σ) H Q)(h2:∀ i H Q,i<n->Q (.int (b i)) H->t2 (some (.int (lo+(i:Nat)))::Zbm fr σ) H Q)(hr:∀ i,i<n->0<=a i/\a i<m/\0<=b i/\b i<m)(hQ:∀ xs H',Same H1 H'->H' D=some (.lst xs)->xs.length=n->Edges H' m xs->Q (.ref D) H'):
  Zbu (Zbe 0) Zew (tTup (Zf4 t1 (Zf4 t2 Zsm))) (Itr lo n) D (Zg2 1 fr σ) H1 Q:=by
 refine Zgx (λi vs H=>Same H1 H/\H D=some (.lst vs)/\vs.length=i/\Edges H m vs) ⟨Same.new hD,Zab,rfl,Edges.nil⟩ ?_ (λvs H ⟨s,e,l,d⟩=>hQ vs H s e l d);intro i x vs σ' H hi e91;obtain rfl:=e91;intro sh e92;refine Zcb e92 λs e hl d=>?_;clear e92;obtain⟨z,rfl⟩:=sh.one;simp only[Zfq,Zbe,Zew,List.set_cons_zero,Jca,tTup,Zf4,Zsm];refine h1 i H _ hi (h2 i H _ hi ⟨by show 2<=sizeLine;decide,λp hp=>?_⟩);refine Zcb (hr i hi) λr1 r2 r3 r4=>?_;have nD:D≠p:=Zah e hp;have e':(upd H p (.tup [.int (a i),.int (b i)])) D=some (.lst vs):=by rw[Zaj nD];exact e
 exact Zky (ws:=vs++[.ref p]) hi Sh.mk1 e' (Zas ∅) ⟨(s.trans (Same.new hp)).upd hD,Zab,by rw[Jaj,hl];rfl,(d.add hp r1 r2 r3 r4).put e'⟩
theorem Out.fin {l p t:Addr}{m:Int}{xs:List V}{H H2:Hp}(ex:Ext l H H2)(b:Bag H2 l)(hp:H2 p=some (.lst xs))(new:H p=none)(lo:1<=m)(hi:m<=8)(len:xs.length<=9)(d:Edges H2 m xs)(ht:H2 t=none):
  Out l H t p m xs (upd H2 t (.tup [.int m,.ref p])):=
 ⟨ex.trans (Ext.new ht),b.new (b.ne ht),Zab,by rw[Zaj (Zah hp ht)];exact hp,new,lo,hi,len,d.same (Same.new ht)⟩
theorem Bag.draw {H:Hp}{l:Addr}{n:Int}{Q:VK}{E:XK}(b:Bag H l)(h0:0<n)(h1:n<1000000000)(q:∀ (r:Int) (H':Hp),0<=r->r<n->Ext l H H'->Bag H' l->Q (.int r) H'):Zc8 [.ref l,.int n] H Q E:=by
 refine Zbt b λx y e y0 y1=>?_;clear b;exact Zjr l x y n ⟨rfl,e,y0,y1,h0,h1,λr a' b' r0 r1 c0 c1=>q r _ r0 r1 Ext.set (Bag.set c0 c1)⟩
theorem Bag.lst {H:Hp}{l:Addr}(b:Bag H l):∃ ys,H l=some (.lst ys):=by
 refine Zbd b λx y e _=>?_;clear b;exact⟨_,e⟩
theorem Edges.bag {H H':Hp}{m:Int}{l:Addr}{xs:List V}(e:Edges H m xs)(s:Ext l H H')(b:Bag H l):Edges H' m xs:=by
 obtain⟨ys,h⟩:=b.lst;exact e.ext s h
theorem Ztg {R:It->Hp->Prop}{l:Addr}{σ:L2.St}{H:Hp}{k:Int}(b:Bag H l)(h0:0<k)(h1:k<1000000000)(q:∀ (n:Int) (H3:Hp),0<=n->n<k->Ext l H H3->Bag H3 l->R (Itr 0 n.toNat) H3):
  Zrt (Zf4 (Zop Zc8 [] E0 (Zf4 (Zg5 0) (Zf4 (tC (.int k)) Zsm))) Zsm) (some (.ref l)::σ) H R:=by
 refine⟨_,rfl,?_⟩;simp only[Zf4,tC,Zsm,List.append_nil];exact b.draw h0 h1 λn H3 n0 n1 e3 b3=>⟨n,rfl,Zmz n0,∅,q n H3 n0 n1 e3 b3⟩
theorem Bag.same {H H':Hp}{l:Addr}(b:Bag H l)(s:Same H H'):Bag H' l:=by
 refine Zbt b λx y e h1 h2=>?_;clear b;exact Zaq x y ⟨s _ _ e,h1,h2⟩
end
end Pf
set_option maxHeartbeats 1000000
namespace Pf
open PySem L2 PyProof.Rows
section
variable {C G S:Addr}
theorem Zrf {c A B:Prop}[Decidable c](hc:c)(h:A):if c then A else B:=by rw[if_pos hc];exact h
theorem Zgg {c A B:Prop}[Decidable c](hc:¬ c)(h:B):if c then A else B:=by rw[if_neg hc];exact h
theorem Zgy {a D:Addr}{xs:List V}{fr:List (Str×Nat)}{σ:L2.St}{te:TE}{H1:Hp}{Q:VK}(fb:Nat->Bool)(ha:H1 a=some (.lst xs))(hD:H1 D=none)(hn:xs.length<=1000)(h:∀ (i:Nat) x H (Q:VK),xs[i]?=some x->Same H1 H->(∀ H',Same H H'->Q (.bl (fb i)) H')->te (some x::Zbm fr σ) H Q)(hQ:∀ H',Same H1 H'->H' D=some (.lst (((List.range xs.length).map fb).map V.bl))->Q (.ref D) H'):Zbu (Zbe 0) Zew te (Itl K a) D (Zg2 1 fr σ) H1 Q:=by
 refine Zei (xs:=xs) (λi vs H=>Same H1 H/\H D=some (.lst vs)/\vs=((List.range i).map fb).map V.bl) ⟨Same.new hD,Zab,rfl⟩ (λi vs H _ p=>SqL.of (p.1 _ _ ha)) ?_ (λvs H ⟨s,e,hv⟩=>hQ H s (by rw[e,hv]));intro i x vs σ' H hi hx sh e91;refine Za2 e91 λs e e93=>?_;clear e91;obtain rfl:=e93;obtain⟨z,rfl⟩:=sh.one;simp only[Zfq,Zbe,Zew,List.set_cons_zero,Jca];refine h i x H _ hx s λH' s'=>?_;exact Zky (ws:=((List.range (i+1)).map fb).map V.bl) hi Sh.mk1 (s' _ _ e) (Zas (by rw[Jab,Jab,Jal];omega)) ⟨(s.trans s').upd hD,by rw[Zab,Jce,Jbb,Jbb];rfl,rfl⟩
theorem Zr9 {a D:Addr}{xs:List V}{fr:List (Str×Nat)}{σ:L2.St}{te:TE}{H1:Hp}{Q:VK}(fb:Nat->Bool)(ha:H1 a=some (.tup xs))(hD:H1 D=none)(hn:xs.length<=1000)(h:∀ (i:Nat) x H (Q:VK),xs[i]?=some x->Same H1 H->(∀ H',Same H H'->Q (.bl (fb i)) H')->te (some x::Zbm fr σ) H Q)(hQ:∀ H',Same H1 H'->H' D=some (.lst (((List.range xs.length).map fb).map V.bl))->Q (.ref D) H'):Zbu (Zbe 0) Zew te (Itt K a) D (Zg2 1 fr σ) H1 Q:=by
 refine Zuz (xs:=xs) (λi vs H=>Same H1 H/\H D=some (.lst vs)/\vs=((List.range i).map fb).map V.bl) ⟨Same.new hD,Zab,rfl⟩ (λi vs H _ p=>SqT.of (p.1 _ _ ha)) ?_ (λvs H ⟨s,e,hv⟩=>hQ H s (by rw[e,hv]));intro i x vs σ' H hi hx sh e92;refine Za2 e92 λs e e94=>?_;clear e92;obtain rfl:=e94;obtain⟨z,rfl⟩:=sh.one;simp only[Zfq,Zbe,Zew,List.set_cons_zero,Jca];refine h i x H _ hx s λH' s'=>?_;exact Zky (ws:=((List.range (i+1)).map fb).map V.bl) hi Sh.mk1 (s' _ _ e) (Zas (by rw[Jab,Jab,Jal];omega)) ⟨(s.trans s').upd hD,by rw[Zab,Jce,Jbb,Jbb];rfl,rfl⟩
theorem Zfp (n:Nat):((List.range n).map λ_=>true).all id=true:=by
 rw[Jbe];intro b hb;refine Zae (Jaz.mp hb) λ_ _ e95=>?_;obtain rfl:=e95;rfl
def Zg6:Sp:=λvs H Q _=>∃ i:Int,vs=[.int i]/\Q (.bl true) H
theorem Ztu (F:Fun K "is_whole" "is_whole" Zfi f fd)(T:Txt K mg C G S):FnOk P w K mg base CX0 1 f fd ["thing"] Zg6:=by
 have nd:=Zd6.nd;refine F.ok Zd6 (λvs H Q E h=>?_) (λcdv A outer s H vs Q E hr h=>?_)
 .refine Zae h λi e96 _=>?_;clear h;obtain rfl:=e96;rfl
 .refine Zae h λi e97 q=>?_;clear h;obtain rfl:=e97;refine⟨_,(~~~(Zf1 (Za9 Za5 rfl T.n_isinstance Jbg ((pvr 0)<&>((Zgf rfl T.n_int boot_int)<&>Zaa))) (Zf0 (Zvo (Za9 Za5 rfl T.n_isinstance Jbg ((pvr 0)<&>((Zgf rfl T.n_bool boot_bool)<&>Zaa))))))),?_⟩;walk_at "wp";exact Zaq _ _ ⟨⟨rfl,rfl⟩,_,rfl,_,.int i,_,Zlx K,iteT ⟨_,_,⟨rfl,rfl⟩,_,rfl,_,.int i,_,Zkc K,q⟩⟩
def Zmr:Sp:=λvs H Q _=>∃ (m:Int) (x:V),vs=[.int m,x]/\Edge H m x/\∀ H',Same H H'->Q (.bl true) H'
theorem Zt7 (F:Fun K "is_arrow" "is_arrow" Zhh f fd)(T:Txt K mg C G S)(Yab:Cal P w K mg base "is_whole" 1 Zg6):FnOk P w K mg base CX0 2 f fd ["many","thing"] Zmr:=by
 have nd:=Zix.nd;refine F.ok Zix (λvs H Q E h=>?_) (λcdv A outer s H vs Q E hr h=>?_)
 .refine Zbd h λm x e98 _=>?_;clear h;obtain rfl:=e98;rfl
 .refine Zbt h λm x e99 e910 q=>?_;clear h;obtain rfl:=e99;obtain⟨t,i,j,rfl,ht,i0,i1,j0,j1⟩:=e910;refine⟨_,((@Za6 _ _ _ _ _ _ _ _ (PW.pt (Zdf (Zbj (Zbs (Za9 Za5 rfl T.n_isinstance Jbg ((pvr 1)<&>((Zgf rfl T.n_tuple boot_tuple)<&>Zaa))))) (Zcf (Zam Zeu (Za9 Zau rfl T.n_len Jbd ((pvr 1)<&>Zaa)) Zac (Zak _))))) (~~~Zc5) Zal)<*>(~~~(Za9 (Zcv rfl) rfl T.n_all Jdw ((Za3 (own:=["end"]) (fr:=[("many",0)]) rfl (Zbn (by kernel_rfl)) (Zvn (pv 1)) (λ_ _ _ _=>⟨(0<<<["end","many"]),Zay,(Zf1 (Yab<$>hr<$>((pv 0)<&>Zaa)) (Zf0 (Znz Zox Zia Zac (pv 0) (pv 1))))⟩))<&>Zaa)))),?_⟩;walk_at "wp";refine Zaq _ _ ⟨⟨rfl,rfl⟩,_,rfl,_,.tup ht,_,Zjl K,iteF ⟨_,.inr (SqT.of ht),iteF ?_⟩⟩;refine⟨_,rfl,t,rfl,⟨_,SqT.of ht⟩,λD hD=>Zr9 (λ_=>true) ht hD (by show 2<=1000;decide) (λk x H' Q' hx s' q'=>?_) λH' s' e'=>⟨D,rfl,_,SqL.of e',?_⟩⟩
  .have hx':∃ z:Int,x=.int z/\0<=z/\z<m:=by
    match k,hx with
    | 0,hx=>exact⟨i,(Jbp hx).symm,i0,i1⟩
    | 1,hx=>exact⟨j,(Jbp hx).symm,j0,j1⟩
    | k+2,hx=>cases hx
   refine Zav hx' λz e911 z0 z1=>?_;clear hx';obtain rfl:=e911;refine⟨_,rfl,⟨z,rfl,true,rfl,iteT ⟨_,rfl,_,_,rfl,rfl,_,rfl,?_⟩⟩⟩;refine Zrf (Jah z0) ⟨_,rfl,_,_,rfl,rfl,?_⟩;show Q' (V.bl (decide (z<m))) H';rw[Jah z1];exact q' H' (Same.refl _)
  .rw [Zfp];exact q H' s'
def Zmo:Sp:=λvs H Q _=>∃ (m:Int) (a:Addr) (xs:List V),vs=[.int m,.ref a]/\1<=m/\m<=8/\H a=some (.lst xs)/\xs.length<=9/\Edges H m xs/\∀ H',Same H H'->Q (.bl true) H'
theorem Zt1 (F:Fun K "makes_drawing" "makes_drawing" Zdc f fd)(T:Txt K mg C G S)(Yab:Cal P w K mg base "is_whole" 1 Zg6)(Yaz:Cal P w K mg base "is_arrow" 2 Zmr):FnOk P w K mg base CX0 3 f fd ["many","arrows"] Zmo:=by
 have nd:=Zen.nd;refine F.ok Zen (λvs H Q E h=>?_) (λcdv A outer s H vs Q E hr h=>?_)
 .refine Zf3 h λm a xs e912 _=>?_;clear h;obtain rfl:=e912;rfl
 .refine Zb9 h λm a xs e913 m0 m8 e914=>?_;clear h;obtain rfl:=e913;refine Zcb e914 λha hl d q=>?_;clear e914;refine⟨_,((@Za6 _ _ _ _ _ _ _ _ (PW.pt (Zdf (Zbj (Zbs (Yab<$>hr<$>((pvr 0)<&>Zaa)))) (Zcf (Zbj (Znv Zox Zox Zac (pvr 0) (Zfk rfl T.g_MOST_POINTS)))))) (~~~Zc5) Zal)<*>((@Za6 _ _ _ _ _ _ _ _ (PW.pt (Zdf (Zbj (Zbs (Za9 Za5 rfl T.n_isinstance Jbg ((pvr 1)<&>((Zgf rfl T.n_list Jcl)<&>Zaa))))) (Zcf (Zam Zd2 (Za9 Zau rfl T.n_len Jbd ((pvr 1)<&>Zaa)) (Zfk rfl T.g_MOST_ARROWS) (Zak _))))) (~~~Zc5) Zal)<*>(~~~(Za9 (Zcv rfl) rfl T.n_all Jdw ((Za3 (own:=["arrow"]) (fr:=[("many",0)]) rfl (Zbn (by kernel_rfl)) (Zbc (pv 1)) (λ_ _ _ _=>⟨(0<<<["arrow","many"]),Zay,(Yaz<$>hr<$>((pv 1)<&>((pv 0)<&>Zaa)))⟩))<&>Zaa))))),?_⟩;walk_at "wp";refine⟨m,rfl,true,rfl,iteF (Zrf (Jah m0) (Zgg (by rw[Jah m8];decide) ⟨_,_,⟨rfl,rfl⟩,_,rfl,_,.lst ha,_,Zdi K,iteF ⟨_,.inl (SqL.of ha),Zgg (by rw[Jay ∅];decide) ?_⟩⟩))⟩;refine⟨_,rfl,a,rfl,⟨_,SqL.of ha⟩,λD hD=>Zgy (λ_=>true) ha hD ∅ (λk x H' Q' hx s' q'=>?_) λH' s' e'=>⟨D,rfl,_,SqL.of e',?_⟩⟩
  .exact ⟨_,rfl,_,rfl,m,x,rfl,(d x (Jae hx)).same s',q'⟩
  .rw [Zfp];exact q H' s'
def flds (m:Int)(lp:Addr):List (Str×V):=Zct "arrows" (.ref lp) (Zct "many" (.int m) [])
theorem Zdk (m:Int)(lp:Addr):(flds m lp).lookup ("arrows" : Str)=some (.ref lp):=by
 unfold flds;rw[Za1,if_pos rfl]
theorem Zgv (m:Int)(lp:Addr):(flds m lp).lookup ("many" : Str)=some (.int m):=by
 unfold flds;rw[Za1,if_neg ⋯,Za1,if_pos rfl]
theorem Zur (m:Int):(Zct "many" (.int m) ([]:List (Str×V))).length<1000:=by
 have:=Zca "many" (.int m) [];simp at this;omega
def Zno (C:Addr):Sp:=λvs H Q _=>∃ (p dx:Addr) (m:Int) (a:Addr) (xs:List V),vs=[.ref p,.int m,.ref a]/\H p=some (.ins C dx [])/\1<=m/\m<=8/\H a=some (.lst xs)/\xs.length<=9/\Edges H m xs /\
 ∀ (lp:Addr) (H':Hp),Ext p H H'->H' p=some (.ins C dx (flds m lp))->H lp=none->H' lp=some (.lst xs)->Q .non H'
theorem ok_init (F:Fun K "__init__" "Drawing.__init__" Zdv f fd)(T:Txt K mg C G S)(Ybs:Cal P w K mg base "makes_drawing" 3 Zmo):FnOk P w K mg base CX0 4 f fd ["self","many","arrows"] (Zno C):=by
 have nd:=Ze4.nd;refine F.ok Ze4 (λvs H Q E h=>?_) (λcdv A outer s H vs Q E hr h=>?_)
 .refine Zpi h λp dx m a xs e92 _=>?_;clear h;obtain rfl:=e92;rfl
 .refine Zg4 h λp dx m a xs e93 hp m0 e94=>?_;clear h;obtain rfl:=e93;refine Zc3 e94 λm8 ha hl d q=>?_;clear e94;refine⟨_,((@Za6 _ _ _ _ _ _ _ _ (Zbj (Zbs (Ybs<$>hr<$>((pvr 1)<&>((pvr 2)<&>Zaa))))) (@Zan _ _ _ Zcu) Zal)<*>((Zje (pvr 0) (pvr 1) rfl)<*>(@Zan _ _ _ (Zje (pvr 0) (Zjg Zbz rfl T.n_list Jcl ((pvr 2)<&>Zaa)) rfl)))),?_⟩;walk_at "wp";refine Zcm m a xs ⟨rfl,m0,m8,ha,hl,d,λH1 s1=>⟨true,rfl,iteF ?_⟩⟩;have nap:a≠p:=Zdh ha hp (by intro z;cases z);refine Zcm C dx [] ⟨s1 _ _ hp,T.cl_Drawing,T.nM,by show 0<1000;decide,xs,.inl (SqL.of (by rw[Zaj nap];exact s1 _ _ ha)),λl hl0=>?_⟩;have npl:p≠l:=Zah Zab hl0;refine Zcm C dx _ ⟨by rw[Zaj npl];exact Zab,T.cl_Drawing,T.nA,Zur m,?_⟩;have fl:H l=none:=by
   rw[Zaj npl.symm] at hl0;exact s1.free hl0
  refine q l _ (λb o nb e=>?_) Zab fl (by rw[Zaj npl.symm];exact Zab);rw[Zaj nb,Zaj (Zah e fl),Zaj nb];exact s1 _ _ e
def Prs (H:Hp)(xs:List V)(ps:List (Int×Int)):Prop:=xs.length=ps.length/\∀ (i:Nat) (x:V) (q:Int×Int),xs[i]?=some x->ps[i]?=some q->∃ t,x=.ref t/\H t=some (.tup [.int q.1,.int q.2])
theorem Prs.same {H H':Hp}{xs:List V}{ps:List (Int×Int)}(h:Prs H xs ps)(s:Same H H'):Prs H' xs ps:=⟨h.1,λi x q h1 h2=>let ⟨t,e1,e2⟩:=h.2 i x q h1 h2;⟨t,e1,s _ _ e2⟩⟩
def Zg1 (C:Addr)(H:Hp)(p:Addr)(m:Int)(lp:Addr)(xs:List V):Prop:=∃ dx,H p=some (.ins C dx (flds m lp))/\H lp=some (.lst xs)
def InP (m:Int)(ps:List (Int×Int)):Prop:=∀ q∈ps,0<=q.1/\q.1<m/\0<=q.2/\q.2<m
theorem Prs.nil {H:Hp}:Prs H [] []:=⟨rfl,λi x q h=>by simp at h⟩
theorem Zqf {H:Hp}{m:Int}:∀ {xs:List V},Edges H m xs->∃ ps,Prs H xs ps/\InP m ps
 | [],_=>⟨[],Prs.nil,λq h=>by simp at h⟩
 | x::xs,d=>by
  refine Zae (Zqf (xs:=xs) λy hy=>d y (Jbn _ hy)) λps e92 h3=>?_;obtain⟨h1,h2⟩:=e92;refine Zmd (d x Jb9) λt i j e93 ht hb=>?_;obtain rfl:=e93;refine⟨(i,j)::ps,⟨by simp[h1],λk y q e1 e2=>?_⟩,λq hq=>?_⟩
  .cases k with
   | zero=>
    simp at e1 e2;subst e1 e2;exact⟨t,rfl,ht⟩
   | succ k=>exact h2 k y q (by simpa using e1) (by simpa using e2)
  .rcases Jbo.mp hq with rfl|hq
   .exact hb
   .exact h3 q hq
theorem Zut {H:Hp}{m:Int}{xs:List V}{ps:List (Int×Int)}(h:Prs H xs ps)(r:InP m ps):Edges H m xs:=by
 intro x hx;obtain⟨i,hi,rfl⟩:=Ja1.mp hx;have hl:=h.1;have hq:ps[i]?=some (ps[i]'(oz74 hi hl)):=Jaa _;refine Zae (h.2 i _ _ (Jaa hi) hq) λt e1 e2=>?_;exact Zcm t _ _ ⟨e1,e2,r _ (Jae hq)⟩
theorem Zjc {k:Nat}{A:Around}(hr:Room k A):A.units+8<cLine:=by have:=hr.units;omega
theorem all_rep (n:Nat):(List.replicate n true).all id=true:=by simp
theorem Same.thru {l:Addr}{H H1 H2:Hp}(s:Same H H1)(h:H l=none)(e:Ext l H1 H2):Same H H2:=λb o eb=>e b o (Zah eb h) (s b o eb)
theorem Zsa {lo:Int}{n:Nat}{D:Addr}{fr:List (Str×Nat)}{σ:L2.St}{te:TE}{H1:Hp}{Q:VK}(fb:Nat->Bool)(hD:H1 D=none)(hn:n<=1000)(h:∀ (i:Nat) H (Q:VK),i<n->Same H1 H->(∀ H',Same H H'->Q (.bl (fb i)) H')->te (some (.int (lo+(i:Nat)))::Zbm fr σ) H Q)(hQ:∀ H',Same H1 H'->H' D=some (.lst (((List.range n).map fb).map V.bl))->Q (.ref D) H'):Zbu (Zbe 0) Zew te (Itr lo n) D (Zg2 1 fr σ) H1 Q:=by
 refine Zgx (λi vs H=>Same H1 H/\H D=some (.lst vs)/\vs=((List.range i).map fb).map V.bl) ⟨Same.new hD,Zab,rfl⟩ ?_ (λvs H ⟨s,e,hv⟩=>hQ H s (by rw[e,hv]));intro i x vs σ' H hi e91;obtain rfl:=e91;intro sh e92;refine Za2 e92 λs e e93=>?_;clear e92;obtain rfl:=e93;obtain⟨z,rfl⟩:=sh.one;simp only[Zfq,Zbe,Zew,List.set_cons_zero,Jca];refine h i H _ hi s λH' s'=>?_;exact Zky (ws:=((List.range (i+1)).map fb).map V.bl) hi Sh.mk1 (s' _ _ e) (Zas (by rw[Jab,Jab,Jal];omega)) ⟨(s.trans s').upd hD,by rw[Zab,Jce,Jbb,Jbb];rfl,rfl⟩
abbrev NB1:Nat:=67000002
abbrev NB:Nat:=67000001
def Top (a:Int):Prop:=Bt NB a
def Zfg (p:Int):Prop:=1<p/\p<=97/\∀ d:Int,2<=d->d<p->p % d≠0
def Zmm:Sp:=λvs H Q _=>∃ p:Int,vs=[.int p]/\Zfg p/\∀ H',Same H H'->Q (.bl true) H'
theorem Ztz (F:Fun K "is_prime" "is_prime" Zhg f fd)(T:Txt K mg C G S):FnOk P w K mg base CX0 1 f fd ["number"] Zmm:=by
 have nd:=Ziw.nd;refine F.ok Ziw (λvs H Q E h=>?_) (λcdv A outer s H vs Q E hr h=>?_)
 .refine Zae h λp e94 _=>?_;clear h;obtain rfl:=e94;rfl
 .refine Zav h λp e95 e96 q=>?_;clear h;obtain rfl:=e95;obtain⟨p1,p2,p3⟩:=e96;refine⟨_,(~~~(Zf1 (Zcg (Zk9 Zd2) (pvr 0) Zac (Zak _)) (Zf0 (Za9 (Zcv rfl) rfl T.n_all Jdw ((Za3 (own:=["divisor"]) (fr:=[("number",0)]) rfl (Zbn (by kernel_rfl)) (pi_r2 rfl T.n_range (Zac<&>((pv 0)<&>Zaa))) (λ_ _ _ _=>⟨(0<<<["divisor","number"]),Zay,(Zcg Zeu (Zcw<|>(pv 1)<&&>(pv 0)) Zac (Zak _))⟩))<&>Zaa))))),?_⟩;walk_at "wp";refine Zrf (Jah p1) ⟨_,rfl,2,p,rfl,⟨⇑0,⇑0,∅,∅⟩,λD hD=>Zsa (λ_=>true) hD ∅ (λi H' Q' hi s' q'=>?_) λH' s' e'=>⟨D,rfl,_,SqL.of e',?_⟩⟩
  .have h0:(0:Int)<2+(i:Int):=∅
   have hne:=p3 (2+(i:Int)) ∅ ∅;refine⟨_,rfl,_,rfl,_,_,rfl,rfl,h0,rfl,?_⟩;have:(!decide (V.int (p % (2+(i:Int)))=V.int 0))=true:=by simp only[V.int.injEq,Jay hne];rfl
   rw[this];exact q' H' (Same.refl _)
  .rw [Zfp];exact q H' s'
def GroundP (p:Int):Prop:=p=0\/Zfg p
def Zmj:Sp:=λvs H Q _=>∃ p:Int,vs=[.int p]/\GroundP p/\∀ H',Same H H'->Q (.bl true) H'
theorem Ztv (F:Fun K "tells_ground" "tells_ground" Zdt f fd)(T:Txt K mg C G S)(Yab:Cal P w K mg base "is_whole" 1 Zg6)(Ya0:Cal P w K mg base "is_prime" 1 Zmm):FnOk P w K mg base CX0 2 f fd ["thing"] Zmj:=by
 have nd:=Ze2.nd;refine F.ok Ze2 (λvs H Q E h=>?_) (λcdv A outer s H vs Q E hr h=>?_)
 .refine Zae h λp e97 _=>?_;clear h;obtain rfl:=e97;rfl
 .refine Zav h λp e98 hp q=>?_;clear h;obtain rfl:=e98;have p0:0<=p:=by rcases hp with rfl|⟨h,_⟩ <;> omega
  have p97:p<=97:=by rcases hp with rfl|⟨_,h,_⟩ <;> omega
  refine⟨_,((@Za6 _ _ _ _ _ _ _ _ (PW.pt (Zdf (Zbj (Zbs (Yab<$>hr<$>((pvr 0)<&>Zaa)))) (Zcf (Zbj (Znv Zox Zox Zac (pvr 0) (Zfk rfl T.g_LARGEST_PRIME)))))) (~~~Zc5) Zal)<*>(~~~(pe_or (Zcg (Zm0 Zc7) (pvr 0) Zac (Zak _)) (Zf0 (Ya0<$>hr<$>((pvr 0)<&>Zaa)))))),?_⟩;walk_at "wp";refine⟨p,rfl,true,rfl,iteF (Zrf (Jah p0) (Zgg (by rw[Jah p97];decide) (Zci (λ_=>q H (Same.refl _)) (λhc=>?_))))⟩;rcases hp with rfl|hp
  .exact absurd (Jah rfl) hc
  .exact ⟨p,rfl,hp,q⟩
def Zm7 (p:Int):List (Str×V):=Zct "prime" (.int p) []
theorem Zcr (p:Int):(Zm7 p).lookup ("prime" : Str)=some (.int p):=by
 unfold Zm7;rw[Za1,if_pos rfl]
theorem Zod (p:Int){x:Str}(h1:¬ x="prime"):(Zm7 p).lookup x=none:=by
 unfold Zm7;rw[Za1,if_neg h1];rfl
def Zkk (G:Addr):Sp:=λvs H Q _=>∃ (g dx:Addr) (p:Int),vs=[.ref g,.int p]/\H g=some (.ins G dx [])/\GroundP p/\∀ (H':Hp),Ext g H H'->H' g=some (.ins G dx (Zm7 p))->Q .non H'
theorem Zt5 (F:Fun K "__init__" "Ground.__init__" Zef f fd)(T:Txt K mg C G S)(Ya9:Cal P w K mg base "tells_ground" 2 Zmj):FnOk P w K mg base CX0 3 f fd ["self","prime"] (Zkk G):=by
 have nd:=Zfz.nd;refine F.ok Zfz (λvs H Q E h=>?_) (λcdv A outer s H vs Q E hr h=>?_)
 .refine Zf3 h λg dx p e99 _=>?_;clear h;obtain rfl:=e99;rfl
 .refine Zb9 h λg dx p e910 hg hp q=>?_;clear h;obtain rfl:=e910;refine⟨_,((@Za6 _ _ _ _ _ _ _ _ (Zbj (Zbs (Ya9<$>hr<$>((pvr 1)<&>Zaa)))) (@Zan _ _ _ Zcu) Zal)<*>(@Zan _ _ _ (Zje (pvr 0) (pvr 1) rfl))),?_⟩;walk_at "wp";refine⟨p,rfl,hp,λH1 s1=>⟨true,rfl,iteF ⟨G,dx,[],s1 _ _ hg,T.cl_Ground,T.nP,by show 0<1000;decide,?_⟩⟩⟩;exact q _ (λb o nb e=>by rw[Zaj nb];exact s1 _ _ e) Zab
def goodB (p:Int):Bool:=p == 0 || (decide (1<p) && decide (p<=97) && (List.range 98).all λd=>decide ((d:Int)<2) || decide (p<=(d:Int)) || decide (p % (d:Int)≠0))
theorem Zun {p:Int}(h:goodB p=true):GroundP p:=by
 unfold goodB at h;simp only[Jdf,Jcb,Jbw,decide_eq_true_eq,Jbe,Ja0] at h;rcases h with h|⟨⟨h1,h2⟩,h3⟩
 .exact .inl h
 .refine .inr ⟨h1,h2,λd d2 dp=>?_⟩;have:=h3 d.toNat ∅;rw[show ((d.toNat:Nat):Int)=d by omega] at this;rcases this with (h|h)|h
  .omega
  .omega
  .exact h
theorem Zqk {L:List Int}(h:L.all goodB=true){i:Int}(i0:0<=i)(i1:i<L.length):∃ p,atI (L.map V.int) i=some (.int p)/\GroundP p:=by
 have hi:i.toNat<L.length:=by exact oz33 i0 i1
 exact⟨_,Zb0 i0 (atZ_get hi),Zun (Jbe.mp h _ (atZ_mem hi))⟩
def NumV (H:Hp)(p:Int)(v:V)(x:Int×Int):Prop:=if p=0 then ∃ t,v=.ref t/\H t=some (.tup [.int x.1,.int x.2]) else v=.int x.1
theorem NumV.same {H H':Hp}{p:Int}{v:V}{x:Int×Int}(h:NumV H p v x)(s:Same H H'):NumV H' p v x:=by
 unfold NumV at *;split
 .rename_i hp
  rw[if_pos hp] at h;refine Zae h λt e ht=>?_;clear h;exact⟨t,e,s _ _ ht⟩
 .rename_i hp
  rw[if_neg hp] at h;exact h
theorem NumV.tup {H:Hp}{p:Int}{t:Addr}{x:Int×Int}(hp:p=0)(h:H t=some (.tup [.int x.1,.int x.2])):NumV H p (.ref t) x:=by
 unfold NumV;rw[if_pos hp];exact⟨t,rfl,h⟩
theorem NumV.of {H:Hp}{p:Int}{x:Int×Int}(hp:¬ p=0):NumV H p (.int x.1) x:=by
 unfold NumV;rw[if_neg hp]
theorem NumV.ref {H:Hp}{p:Int}{v:V}{x:Int×Int}(h:NumV H p v x)(hp:p=0):∃ t,v=.ref t/\H t=some (.tup [.int x.1,.int x.2]):=by
 unfold NumV at h;rw[if_pos hp] at h;exact h
theorem NumV.int {H:Hp}{p:Int}{v:V}{x:Int×Int}(h:NumV H p v x)(hp:¬ p=0):v=.int x.1:=by
 unfold NumV at h;rw[if_neg hp] at h;exact h
theorem GroundP.lo {p:Int}(h:GroundP p):0<=p:=by rcases h with rfl|⟨h,_⟩ <;> omega
theorem GroundP.hi {p:Int}(h:GroundP p):p<=97:=by rcases h with rfl|⟨_,h,_⟩ <;> omega
def GAt (G:Addr)(H:Hp)(g:Addr)(p:Int):Prop:=∃ dx,H g=some (.ins G dx (Zm7 p))
theorem GAt.same {H H':Hp}{g:Addr}{p:Int}(h:GAt G H g p)(s:Same H H'):GAt G H' g p:=let ⟨dx,e⟩:=h;⟨dx,s _ _ e⟩
end
end Pf
namespace Pf
open PySem L2 PyProof.Rows
theorem Zb1 {a b:Int}{A B:Nat}(ha:a.natAbs<=A)(hb:b.natAbs<=B):(a*b).natAbs<=A*B:=by rw[Jch];exact Jb3 ha hb
theorem Zao {α:Type}{xs:List α}{i:Nat}{x d:α}(h:xs[i]?=some x):xs.getD i d=x:=by rw[Jac,h];rfl
end Pf
namespace Pf
open PySem L2 PyProof.Rows
section
variable {C G S:Addr}
theorem Zd4 {A X:TS}{D:Ends}{σ:L2.St}{H:Hp}(h:∀ X',X'=X->Zs1 A X' D σ H):Zs1 A X D σ H:=h X rfl
theorem Znd {z:Int}(h:z.natAbs<170141183460469231731687303715884105728):Bt 127 z:=Jau h ⋯
def Zp2:Sp:=λvs H Q _=>∃ x0 y0:Int,vs=[.int x0,.int y0]/\18446744073709551616<=x0/\x0<85070591730234615865843651857942052864/\0<=y0/\y0<=x0 /\
 ∀ (a b c d x y:Int) (t:Addr) (H':Hp),Same H H'->H' t=some (.tup [.int a,.int b,.int c,.int d])->Steps x0 y0 a b c d x y->Q (.ref t) H'
theorem ok_lead (F:Fun K "leading_steps" "leading_steps" Zdd f fd)(T:Txt K mg C G S)(hpt:P.given.tree=none):FnOk P w K mg base CX0 1 f fd ["one","other"] Zp2:=by
 have nd:=Zeo.nd;refine F.ok Zeo (λvs H Q E h=>?_) (λcdv A outer s H vs Q E hr h=>?_)
 .refine Zbd h λx0 y0 e94 _=>?_;clear h;obtain rfl:=e94;rfl
 .refine Zh7 h λx0 y0 e95 hx64 hx hy0 hyx q=>?_;clear h;obtain rfl:=e95;refine⟨_,((Zbk (@Zaw _ _ _ _ _ (Zac<&>(Zac<&>(Zac<&>(Zac<&>Zaa))))) (@Zbv _ _ _ _ _ 4 rfl ((2>>>nd)^^^((3>>>nd)^^^((4>>>nd)^^^((5>>>nd)^^^(@Za0 _))))) ⇑1 ⇑1))<*>((Zgq Ja5 (Zb4 op_ge (pv 1) (Zvq<|>Zac<&&>Zac) (Zak _)) ((6|||nd|||((Zc6 hpt (Zce hr))<|>(pvr 0)<&&>(pvr 1)))<*>((Zka (i:=0) (j:=1) rfl nd rfl rfl ⇑0 rfl rfl ((pvr 1)<&>((Zff<|>(pvr 0)<&&>(Zbp<|>(pvr 6)<&&>(pvr 1)))<&>Zaa)) rfl)<*>(@Zan _ _ _ (Zbk (@Zaw _ _ _ _ _ ((pvr 4)<&>((pvr 5)<&>((Zff<|>(pvr 2)<&&>(Zbp<|>(pvr 6)<&&>(pvr 4)))<&>((Zff<|>(pvr 3)<&&>(Zbp<|>(pvr 6)<&&>(pvr 5)))<&>Zaa))))) (@Zbv _ _ _ _ _ 4 rfl ((2>>>nd)^^^((3>>>nd)^^^((4>>>nd)^^^((5>>>nd)^^^(@Za0 _))))) ⇑1 ⇑1))))))<*>(~~~(@Zaw _ _ _ _ _ ((pvr 2)<&>((pvr 3)<&>((pvr 4)<&>((pvr 5)<&>Zaa)))))))),?_⟩;walk_at "wp";refine⟨⇑0,λp hp=>⟨_,SqT.of Zab,rfl,_,_,rfl,_,_,rfl,_,_,rfl,_,_,rfl,rfl,?_⟩⟩;refine⟨λn σ H2=>∃ (a b c d x y:Int) (o:Option V),σ=[some (.int x),some (.int y),some (.int a),some (.int b),some (.int c),some (.int d),o]/\Same H H2/\n=y.natAbs/\Steps x0 y0 a b c d x y,
   ⟨_,1,0,0,1,x0,y0,none,rfl,Same.new hp,rfl,⟨∅,∅,⟨1,⇑0,⇑0,⇑0,⇑0,⇑0,⇑0⟩,hx64,hy0,hyx,⇑0,.inl ⟨rfl,rfl,rfl,rfl⟩⟩⟩,?_⟩
  intro n σ H2 e91;refine Zss e91 λa b c d x y o e96 s2 e97 st=>?_;clear e91;obtain rfl:=e96;obtain rfl:=e97;walk_at "wp";have e64:(2:Int) ^ Int.toNat 64=18446744073709551616:=⋯
  rw[e64];refine⟨⟨⇑0,⇑0,⇑0⟩,Zci (λhc=>?_) (λhc=>?_)⟩
  .have hc:=Jat hc;have nx:=st.next hx hyx hc;obtain⟨c1,c2⟩:=st.cd hx hyx;have hxs:x<=x0+y0:=by
    rcases st.pr with ⟨rfl,rfl,rfl,rfl⟩|⟨_,h⟩
    .have:=st.hx;omega
    .have:=st.yn;omega
   have hyx':=st.yx;have hx0:=st.x64;have q0:0<=x / y:=Jd1 (Zts hx0) (Zts hc);have q1:x / y<=x:=Int.ediv_le_self _ (Zts hx0);have hr0:=nx.yn;have hr1:x-x / y*y<y:=by
    have h1:=Ja7 x (show 0<y by omega);have h2:=Jdp x y;rw[Int.mul_comm y] at h2;omega
   refine⟨_,λ_ _ h=>h,∅,?_⟩;rw[Zeh ∅];refine⟨(Znd (oz71 hx hyx hxs q0 q1)).ok (Znd ∅) ⇑0,_,_,⟨rfl,rfl⟩,(Znd (oz71 hx hyx hxs q0 q1)).ok (Znd (oz182 c1)) ⇑0,(Znd (oz71 hx hyx hxs q0 q1)).ok (Znd (oz182 c2)) ⇑0,⇑0,λp2 hp2=>⟨_,SqT.of Zab,rfl,_,_,rfl,_,_,rfl,_,_,rfl,_,_,rfl,rfl,?_⟩⟩;exact⟨_,oz138 hr0 hr1,_,_,_,_,_,_,_,rfl,s2.trans (Same.new hp2),rfl,nx⟩
  .exact ⟨⇑0,λt ht=>q a b c d x y t _ (s2.trans (Same.new ht)) Zab st⟩
theorem Zuq (x:Int){y:Int}(h:y≠0):(x.fmod y).natAbs<y.natAbs:=by
 rcases Int.lt_or_gt_of_ne h with h|h
 .have e:x.fmod y=-((-x).fmod (-y)):=by rw[Int.neg_fmod_neg,Int.neg_neg]
  have h1:=Jdj (-x) (show 0 < -y by omega);have h2:=Jd9 (-x) (show 0 < -y by omega);exact oz135 e h1 h2
 .have h1:=Jdj x (show 0<y by omega);have h2:=Jd9 x (show 0<y by omega);omega
theorem Zl0 (a b:Int):Int.gcd b (a.fmod b)=Int.gcd a b:=by
 rw[Int.fmod_def,Int.sub_eq_add_neg,<- Int.mul_neg,Int.gcd_add_mul_left_right,Jd8]
theorem Zs9 {x y S a b c d X Y:Int}(hS:0<S)(st:Steps (x / S) (y / S) a b c d X Y)(hx:x / S<85070591730234615865843651857942052864)(hyx:y / S<=x / S)(hb:b≠0)(y0:0<=y)(x0:0<=x):(a*x+b*y).natAbs+(c*x+d*y).natAbs<(x+y).natAbs:=by
 obtain⟨c1,d1⟩:=st.cd hx hyx;obtain⟨a1,b1⟩:=st.ab;obtain⟨_,hs⟩:=st.pr.resolve_left λz=>hb z.2.1;have ex:x=S*(x / S)+x % S:=(Int.mul_ediv_add_emod x S).symm;have ey:y=S*(y / S)+y % S:=(Int.mul_ediv_add_emod y S).symm;have rx0:=Jbl x (show S≠0 by omega);have rx1:=Ja7 x hS;have ry0:=Jbl y (show S≠0 by omega);have ry1:=Ja7 y hS;have hX:=st.x64;have hY:=st.yn;have e1:a*x+b*y=S*X+(a*(x % S)+b*(y % S)):=by
  rw[<- st.hx]
  grind
 have e2:c*x+d*y=S*Y+(c*(x % S)+d*(y % S)):=by
  rw[<- st.hy]
  grind
 rw[e1,e2];generalize x / S=x' at *;generalize y / S=y' at *;generalize x % S=rx at *;generalize y % S=ry at *;have p1:=Zb1 (show a.natAbs<=4611686018427387903 by exact Ztt a1) (show rx.natAbs<=S.natAbs by exact oz1 rx0 rx1);have p2:=Zb1 (show b.natAbs<=4611686018427387903 by exact Ztt b1) (show ry.natAbs<=S.natAbs by exact oz1 ry0 ry1);have p3:=Zb1 (show c.natAbs<=4611686018427387903 by exact Ztt c1) (show rx.natAbs<=S.natAbs by exact oz1 rx0 rx1);have p4:=Zb1 (show d.natAbs<=4611686018427387903 by exact Ztt d1) (show ry.natAbs<=S.natAbs by exact oz1 ry0 ry1);have m1:S*(X+Y+18446744073709551616)<=S*(x'+y'):=Int.mul_le_mul_of_nonneg_left hs (oz69 hS);rw[Int.mul_add,Int.mul_add,Int.mul_add] at m1;have m2:0<=S*X:=Jcr (oz69 hS) (Zts hX);have m3:0<=S*Y:=Jcr (oz69 hS) hY;have tri:∀ u v z:Int,(u+(v+z)).natAbs<=u.natAbs+(v.natAbs+z.natAbs):=λu v z=>Ja4 (Int.natAbs_add_le _ _) (Jdb (Int.natAbs_add_le _ _) _);have t1:=tri (S*X) (a*rx) (b*ry);have t2:=tri (S*Y) (c*rx) (d*ry);have q1:=Jc1 m2;have q2:=Jc1 m3;have q3:=Jc1 (show 0<=S by exact oz69 hS);have q4:=Jc1 (show 0<=x+y by exact oz87 y0 x0);clear e1 e2 hs st a1 b1 c1 d1 hx hyx hX hY;generalize (S*X+(a*rx+b*ry)).natAbs=N1 at *;generalize (S*Y+(c*rx+d*ry)).natAbs=N2 at *;generalize (a*rx).natAbs=n1 at *;generalize (b*ry).natAbs=n2 at *;generalize (c*rx).natAbs=n3 at *;generalize (d*ry).natAbs=n4 at *;generalize (S*X).natAbs=n5 at *;generalize (S*Y).natAbs=n6 at *;generalize (x+y).natAbs=n7 at *;generalize S.natAbs=n8 at *;generalize S*X=zX at *;generalize S*Y=zY at *;generalize S*x'=zx at *;generalize S*y'=zy at *;exact oz93 rx0 rx1 ry0 t1 t2 q4 q3 p1 p2 p3 p4 q1 q2 ex ey m1
theorem Zu3 {x:Int}{n:Nat}(h0:0<=x)(h:Builtin.Int.intBits x=n)(hn:126<=n):18446744073709551616<=x / 2 ^ (n-126)/\x / 2 ^ (n-126)<85070591730234615865843651857942052864:=by
 have hp:(0:Int)<2 ^ (n-126):=Int.pow_pos ⇑0;have hu:x.natAbs<2 ^ n:=Jc2.mp (oz27 h);have hl:¬ x.natAbs<2 ^ (n-1):=λz=>by have:=Jc2.mpr z;omega
 constructor
 .refine (Int.le_ediv_iff_mul_le hp).mpr ?_;have e:(18446744073709551616:Int)*2 ^ (n-126)=2 ^ (n-62):=by
   rw[show (18446744073709551616:Int)=2 ^ 64 by decide +kernel,<- Int.pow_add];congr 1;exact oz46 hn
  have e2:(2:Int) ^ (n-62)=((2 ^ (n-62):Nat):Int):=by rw[Int.natCast_pow];rfl
  have e3:(2:Nat) ^ (n-62)<=2 ^ (n-1):=Jc0 ⇑0 oz68;rw[e,e2];exact oz121 h0 hl e3
 .refine Int.ediv_lt_of_lt_mul hp ?_;have e:(85070591730234615865843651857942052864:Int)*2 ^ (n-126)=2 ^ n:=by
   rw[show (85070591730234615865843651857942052864:Int)=2 ^ 126 by decide +kernel,<- Int.pow_add];congr 1;exact oz115 hn
  have e2:(2:Int) ^ n=((2 ^ n:Nat):Int):=by rw[Int.natCast_pow];rfl
  rw[e,e2];exact oz125 hu
def Zmk:Sp:=λvs H Q _=>∃ x y:Int,vs=[.int x,.int y]/\0<=x/\0<=y/\4000<Builtin.Int.intBits x/\4000<Builtin.Int.intBits y/\Bt NB1 x/\Bt NB1 y /\
 ∀ (u v:Int) (t:Addr) (H':Hp),Same H H'->H' t=some (.tup [.int u,.int v])->0<=u->0<=v->u+v<x+y->Int.gcd u v=Int.gcd x y->Q (.ref t) H'
theorem Ztx (F:Fun K "shortened" "shortened" Zf7 f fd)(T:Txt K mg C G S)(Ya8:Cal P w K mg base "leading_steps" 1 Zp2):FnOk P w K mg base CX0 2 f fd ["one","other"] Zmk:=by
 have nd:=Zhr.nd;refine F.ok Zhr (λvs H Q E h=>?_) (λcdv A outer s H vs Q E hr h=>?_)
 .refine Zbd h λx0 y0 e98 _=>?_;clear h;obtain rfl:=e98;rfl
 .refine Zh7 h λx y e99 x0 y0 xb yb e910=>?_;clear h;obtain rfl:=e99;refine Za2 e910 λbx by' q=>?_
  clear e910;refine⟨_,((@Za6 _ _ _ _ _ _ _ _ (Zam Zia (pvr 0) (pvr 1) (Zak _)) (@Zan _ _ _ (Zka (i:=0) (j:=1) rfl nd rfl rfl ⇑0 rfl rfl ((pvr 1)<&>((pvr 0)<&>Zaa)) rfl)) Zal)<*>((2|||nd|||(Zff<|>(Zqq Jdk Jcw Jcx Zm2 (pvr 0))<&&>(Zfk rfl T.g_LEADING)))<*>((Zbk (Ya8<$>hr<$>((Zvp<|>(pvr 0)<&&>(pvr 2))<&>((Zvp<|>(pvr 1)<&&>(pvr 2))<&>Zaa))) (@Zbv _ _ _ _ _ 4 rfl ((3>>>nd)^^^((4>>>nd)^^^((5>>>nd)^^^((6>>>nd)^^^(@Za0 _))))) ⇑1 ⇑1))<*>((@Za6 _ _ _ _ _ _ _ _ (Zam Zc7 (pvr 4) Zac (Zak _)) (~~~(@Zaw _ _ _ _ _ ((pvr 1)<&>((Zqt<|>(pvr 0)<&&>(pvr 1))<&>Zaa)))) Zal)<*>(~~~(@Zaw _ _ _ _ _ ((Za9 Zej rfl T.n_abs boot_abs ((Zdg<|>(Zbp<|>(pvr 3)<&&>(pvr 0))<&&>(Zbp<|>(pvr 4)<&&>(pvr 1)))<&>Zaa))<&>((Za9 Zej rfl T.n_abs boot_abs ((Zdg<|>(Zbp<|>(pvr 5)<&&>(pvr 0))<&&>(Zbp<|>(pvr 6)<&&>(pvr 1)))<&>Zaa))<&>Zaa)))))))),?_⟩;refine Zd4 λX hX=>?_;walk_at "wp";have aft:∀ x y:Int,0<=y->y<=x->4000<Builtin.Int.intBits x->4000<Builtin.Int.intBits y->Bt NB1 x->Bt NB1 y->(∀ (u v:Int) (t:Addr) (H':Hp),Same H H'->H' t=some (.tup [.int u,.int v])->0<=u->0<=v->u+v<x+y->Int.gcd u v=Int.gcd x y->Q (.ref t) H')->
    X { nx:=λx H'=>Q V.non H',rt:=Q } [some (.int x),some (.int y),none,none,none,none,none] H:=by
   intro x y y0 yx xb yb bx by' q
   subst hX;walk_at "wp";have x0:0<=x:=∅
   obtain⟨b1,b2⟩:=Zu3 x0 rfl (show 126<=Builtin.Int.intBits x by omega);have en:((Builtin.Int.intBits x:Int)-126).toNat=Builtin.Int.intBits x-126:=by exact oz35
   rw[en];have hS:(0:Int)<2 ^ (Builtin.Int.intBits x-126):=Int.pow_pos ⇑0;generalize (2:Int) ^ (Builtin.Int.intBits x-126)=S at *;have yn:y≠0:=λz=>by
    subst z;have:Builtin.Int.intBits 0=0:=rfl;omega
   have hyx:y / S<=x / S:=Int.ediv_le_ediv hS yx;refine⟨rfl,oz184 xb,oz184 xb,_,_,rfl,b1,b2,Jd1 y0 (oz69 hS),hyx,λa b c d X' Y' t H1 s1 ht st=>?_⟩;refine⟨t,rfl,_,SqT.of ht,rfl,_,_,rfl,_,_,rfl,_,_,rfl,_,_,rfl,rfl,rfl,Zci (λhb=>?_) (λhb=>?_)⟩
   .refine ⟨yn,⇑0,λp hp=>?_⟩;have f0:=Jdj x (show 0<y by exact oz128 y0 yn);have f1:=Jd9 x (show 0<y by exact oz128 y0 yn);exact q _ _ p _ (s1.trans (Same.new hp)) Zab y0 f0 ∅ (Zl0 x y)
   .have hb:b≠0:=λz=>hb (Jah (by rw[z]));obtain⟨a1,a2⟩:=st.ab;obtain⟨c1,c2⟩:=st.cd b2 hyx;have sm:∀ z:Int,z.natAbs<4611686018427387904->Bt 127 z:=λz hz=>Znd (oz182 hz);have lt:=Zs9 hS st b2 hyx hb y0 x0;refine⟨_,rfl,(sm a a1).ok bx ⇑0,_,rfl,(sm b a2).ok by' ⇑0,_,rfl,(sm c c1).ok bx ⇑0,_,rfl,(sm d c2).ok by' ⇑0,⇑0,λp hp=>?_⟩;have ab:∀ z:Int,(if z<0 then -z else z)=(z.natAbs:Int):=λz=>by split <;> omega
    rw[ab,ab];refine q _ _ p _ (s1.trans (Same.new hp)) Zab oz12 oz12 (oz11 y0 x0 lt) ?_;refine Zav st.sg λe he det _=>?_;have eg:∀ u v:Int,Int.gcd (u.natAbs:Int) (v.natAbs:Int)=Int.gcd u v:=λu v=>by simp[Int.gcd]
    rw[eg,Zup (by rcases he with rfl|rfl <;> omega)]
  refine Zci (λhc=>?_) (λhc=>?_)
  .have hc:=Jat hc;exact Zaq _ _ ⟨⟨rfl,rfl⟩,aft y x x0 ∅ yb xb by' bx λu v t H' s' ht u0 v0 huv hg=>q u v t H' s' ht u0 v0 ∅ (by rw[hg,Jd8])⟩
  .have hc:¬ x<y:=λz=>hc (Jah z);exact aft x y y0 ∅ xb yb bx by' q
theorem Zl7 {x y:Int}(h:x.natAbs<=y.natAbs):Builtin.Int.intBits x<=Builtin.Int.intBits y:=Jc2.mpr (Jbk h (Jc2.mp (Jag _)))
def spNbl:Sp:=λvs H Q _=>∃ x y:Int,vs=[.int x,.int y]/\0<=x/\0<=y/\Bt NB x/\Bt NB y /\
 ∀ (u v:Int) (t:Addr) (H':Hp),Same H H'->H' t=some (.tup [.int u,.int v])->Int.gcd u v=Int.gcd x y->Q (.ref t) H'
theorem ok_nbl (F:Fun K "not_both_long" "not_both_long" Zdb f fd)(T:Txt K mg C G S)(Yb2:Cal P w K mg base "shortened" 2 Zmk):FnOk P w K mg base CX0 3 f fd ["one","other"] spNbl:=by
 have nd:=Zem.nd;refine F.ok Zem (λvs H Q E h=>?_) (λcdv A outer s H vs Q E hr h=>?_)
 .refine Zbd h λx0 y0 e911 _=>?_;clear h;obtain rfl:=e911;rfl
 .refine Zh7 h λx y e912 x0 y0 bx by' q=>?_
  clear h;obtain rfl:=e912;refine⟨_,((Zgq Ja5 (Zb4 Zd2 (Zqq Jdk Jcw Jcx Zm2 (Za9 (Zl6 rfl) rfl T.n_min boot_min ((pv 0)<&>((pv 1)<&>Zaa)))) (Zfk rfl T.g_LONG) (Zak _)) (@Zan _ _ _ (Zbk (Yb2<$>hr<$>((pvr 0)<&>((pvr 1)<&>Zaa))) (@Zbv _ _ _ _ _ 2 rfl ((0>>>nd)^^^((1>>>nd)^^^(@Za0 _))) ⇑1 ⇑1))))<*>(~~~(@Zaw _ _ _ _ _ ((pvr 0)<&>((pvr 1)<&>Zaa))))),?_⟩;walk_at "wp";refine⟨λn σ H2=>∃ u v:Int,σ=[some (.int u),some (.int v)]/\Same H H2/\n=(u+v).toNat/\0<=u/\0<=v/\u+v<=x+y/\Int.gcd u v=Int.gcd x y,⟨_,x,y,rfl,Same.refl _,rfl,x0,y0,Int.le_refl _,rfl⟩,?_⟩;intro n σ H2 e92;refine Zh7 e92 λu v e913 s2 e914 u0 v0 e915=>?_;clear e92;obtain rfl:=e913;obtain rfl:=e914;obtain⟨huv,hg⟩:=e915;walk_at "wp";have hb:∀ z:Int,0<=z->z<=x+y->Bt NB1 z:=λz z0 z1=>(Bt.add bx by').abs_le (oz109 z0 z1);refine Zaq _ _ ⟨⟨rfl,rfl⟩,rfl,Zci (λhc=>?_) (λhc=>?_)⟩
  .have hc:=Jat hc;have bu:4000<Builtin.Int.intBits u:=by
    by_cases h:v<u
    .rw [if_pos h] at hc;exact Jau ∅ (Zl7 (show v.natAbs<=u.natAbs by exact oz1 v0 h))
    .rw [if_neg h] at hc;omega
   have bv:4000<Builtin.Int.intBits v:=by
    by_cases h:v<u
    .rw [if_pos h] at hc;omega
    .rw [if_neg h] at hc;exact Jau ∅ (Zl7 (show u.natAbs<=v.natAbs by exact oz174 u0 h))
   refine⟨_,λ_ _ h=>h,u,v,rfl,u0,v0,bu,bv,hb u u0 ∅,hb v v0 ∅,λu' v' t H3 s3 ht u0' v0' lt hg'=>⟨t,rfl,_,SqT.of ht,rfl,_,_,rfl,_,_,rfl,rfl,(u'+v').toNat,oz82 u0' v0' lt,u',v',rfl,s2.trans s3,rfl,u0',v0',∅,hg'.trans hg⟩⟩
  .exact ⟨⇑0,λt ht=>q u v t _ (s2.trans (Same.new ht)) Zab hg⟩
def Zp5:Sp:=λvs H Q _=>∃ a b:Int,vs=[.int a,.int b]/\Bt NB a/\Bt NB b/\∀ H',Same H H'->Q (.int (Int.gcd a b:Int)) H'
theorem ok_cdB (F:Fun K "common_divisor" "common_divisor" Zcy f fd)(T:Txt K mg C G S)(Ya4:Cal P w K mg base "not_both_long" 3 spNbl):FnOk P w K mg base CX0 4 f fd ["one","other"] Zp5:=by
 have nd:=Zd0.nd;refine F.ok Zd0 (λvs H Q E h=>?_) (λcdv A outer s H vs Q E hr h=>?_)
 .refine Zbd h λa b e916 _=>?_;clear h;obtain rfl:=e916;rfl
 .refine Zet h λa b e917 ha hb q=>?_;clear h;obtain rfl:=e917;refine⟨_,((@Za6 _ _ _ _ _ _ _ _ (Zam Zd2 (Zqq Jdk Jcw Jcx Zm2 (pvr 0)) (Zfk rfl T.g_LONG) (Zak _)) (@Zan _ _ _ (Zbk (Ya4<$>hr<$>((Za9 Zej rfl T.n_abs boot_abs ((pvr 0)<&>Zaa))<&>((Za9 Zej rfl T.n_abs boot_abs ((pvr 1)<&>Zaa))<&>Zaa))) (@Zbv _ _ _ _ _ 2 rfl ((0>>>nd)^^^((1>>>nd)^^^(@Za0 _))) ⇑1 ⇑1))) Zal)<*>((Zgq Ja5 (Zb4 Zeu (pv 1) Zac (Zak _)) (@Zan _ _ _ (Zka (i:=0) (j:=1) rfl nd rfl rfl ⇑0 rfl rfl ((pvr 1)<&>((Zqt<|>(pvr 0)<&&>(pvr 1))<&>Zaa)) rfl)))<*>(~~~(Za9 Zej rfl T.n_abs boot_abs ((pvr 0)<&>Zaa))))),?_⟩;refine Zd4 λX hX=>?_;walk_at "wp";have aft:∀ (x y:Int) (H1:Hp),Same H H1->Int.gcd x y=Int.gcd a b->X { nx:=λx H'=>Q V.non H',rt:=Q } [some (.int x),some (.int y)] H1:=by
   intro x y H1 s1 hg;subst hX;walk_at "wp";refine⟨λn σ H2=>∃ x y:Int,σ=[some (.int x),some (.int y)]/\H2=H1/\n=y.natAbs/\Int.gcd x y=Int.gcd a b,⟨_,x,y,rfl,rfl,rfl,hg⟩,?_⟩;intro n σ H2 e93;refine Zet e93 λx y e918 e919 e920 hg=>?_;clear e93;obtain rfl:=e918;obtain rfl:=e919;obtain rfl:=e920;walk_at "wp";refine Zci (λhc=>?_) (λhc=>?_)
   .have hy0:¬ y=0:=by simpa using hc
    exact⟨_,λ_ _ h=>h,hy0,_,_,⟨rfl,rfl⟩,(x.fmod y).natAbs,Zuq x hy0,y,x.fmod y,rfl,rfl,rfl,by rw[Zl0];exact hg⟩
   .have hy0:y=0:=by simpa using hc
    subst hy0;have e:(if x<0 then -x else x)=(Int.gcd a b:Int):=by
     rw[<- hg,Int.gcd_zero];split <;> omega
    rw[e];exact q _ s1
  have ab:∀ z:Int,(if z<0 then -z else z)=(z.natAbs:Int):=λz=>by split <;> omega
  refine⟨rfl,Zci (λhc=>?_) (λhc=>aft a b H (Same.refl _) rfl)⟩;rw[ab,ab];exact Zaq _ _ ⟨rfl,oz45,oz45,ha.abs_le (by simp),hb.abs_le (by simp),λu v t H1 s1 ht hg=>⟨t,rfl,_,SqT.of ht,rfl,_,_,rfl,_,_,rfl,rfl,aft u v H1 s1 (by rw[hg];simp[Int.gcd])⟩⟩
def Kn (H:Hp)(v:V):Prop:=v=.non\/(∃ b,v=.bl b)\/(∃ i,v=.int i)\/(∃ s,v=.str s)\/(∃ a xs,v=.ref a/\H a=some (.lst xs)/\xs.length<=1000)\/∃ a xs,v=.ref a/\H a=some (.tup xs)/\xs.length<=1000
theorem Kn.same {H H':Hp}{v:V}(h:Kn H v)(s:Same H H'):Kn H' v:=by
 rcases h with h|h|h|h|⟨a,xs,h1,h2,h3⟩|⟨a,xs,h1,h2,h3⟩
 .exact .inl h
 .exact .inr (.inl h)
 .exact .inr (.inr (.inl h))
 .exact .inr (.inr (.inr (.inl h)))
 .exact .inr (.inr (.inr (.inr (.inl ⟨a,xs,h1,s _ _ h2,h3⟩))))
 .exact .inr (.inr (.inr (.inr (.inr ⟨a,xs,h1,s _ _ h2,h3⟩))))
theorem Kn.int {H:Hp}{i:Int}:Kn H (.int i):=.inr (.inr (.inl ⟨i,rfl⟩))
theorem Kn.bl {H:Hp}{i:Bool}:Kn H (.bl i):=.inr (.inl ⟨i,rfl⟩)
theorem Kn.str {H:Hp}{i:Str}:Kn H (.str i):=.inr (.inr (.inr (.inl ⟨i,rfl⟩)))
theorem Kn.lst {H:Hp}{a:Addr}{xs:List V}(h:H a=some (.lst xs))(hl:xs.length<=1000):Kn H (.ref a):=.inr (.inr (.inr (.inr (.inl ⟨a,xs,rfl,h,hl⟩))))
theorem Kn.tup {H:Hp}{a:Addr}{xs:List V}(h:H a=some (.tup xs))(hl:xs.length<=1000):Kn H (.ref a):=.inr (.inr (.inr (.inr (.inr ⟨a,xs,rfl,h,hl⟩))))
def isI:V->Bool
 | .int _=>true
 | .bl _=>true
 | _=>false
def isBl:V->Bool
 | .bl _=>true
 | _=>false
def Zri (H:Hp):V->Bool
 | .ref a=>match H a with
  | some (.tup _)=>true
  | _=>false
 | _=>false
def Zuj (H:Hp):V->Bool
 | .ref a=>match H a with
  | some (.lst _)=>true
  | _=>false
 | _=>false
def whB:V->Bool
 | .int _=>true
 | _=>false
theorem kn_int {H:Hp}{v:V}(h:Kn H v):∃ t,TyOf K H v t/\PySem.W.kitOne K t (.type "int")=some (isI v):=by
 rcases h with rfl|⟨b,rfl⟩|⟨i,rfl⟩|⟨z,rfl⟩|⟨a,xs,rfl,h2,_⟩|⟨a,xs,rfl,h2,_⟩
 .exact ⟨_,.non,by kernel_rfl⟩
 .exact ⟨_,.bl b,Zo3 K⟩
 .exact ⟨_,.int i,Zlx K⟩
 .exact ⟨_,.str z,by kernel_rfl⟩
 .exact ⟨_,.lst h2,by kernel_rfl⟩
 .exact ⟨_,.tup h2,by kernel_rfl⟩
theorem kn_bool {H:Hp}{v:V}(h:Kn H v):∃ t,TyOf K H v t/\PySem.W.kitOne K t (.type "bool")=some (isBl v):=by
 rcases h with rfl|⟨b,rfl⟩|⟨i,rfl⟩|⟨z,rfl⟩|⟨a,xs,rfl,h2,_⟩|⟨a,xs,rfl,h2,_⟩
 .exact ⟨_,.non,by kernel_rfl⟩
 .exact ⟨_,.bl b,Zjm K⟩
 .exact ⟨_,.int i,Zkc K⟩
 .exact ⟨_,.str z,by kernel_rfl⟩
 .exact ⟨_,.lst h2,by kernel_rfl⟩
 .exact ⟨_,.tup h2,by kernel_rfl⟩
theorem Zvy {H:Hp}{v:V}(h:Kn H v):∃ t,TyOf K H v t/\PySem.W.kitOne K t (.type "tuple")=some (Zri H v):=by
 rcases h with rfl|⟨b,rfl⟩|⟨i,rfl⟩|⟨z,rfl⟩|⟨a,xs,rfl,h2,_⟩|⟨a,xs,rfl,h2,_⟩
 .exact ⟨_,.non,by kernel_rfl⟩
 .exact ⟨_,.bl b,by kernel_rfl⟩
 .exact ⟨_,.int i,by kernel_rfl⟩
 .exact ⟨_,.str z,by kernel_rfl⟩
 .refine ⟨_,.lst h2,?_⟩;simp only[Zri,h2]
  kernel_rfl
 .refine ⟨_,.tup h2,?_⟩;simp only[Zri,h2];exact Zjl K
theorem Zrd {H:Hp}{v:V}(h:Kn H v):∃ t,TyOf K H v t/\PySem.W.kitOne K t (.type "list")=some (Zuj H v):=by
 rcases h with rfl|⟨b,rfl⟩|⟨i,rfl⟩|⟨z,rfl⟩|⟨a,xs,rfl,h2,_⟩|⟨a,xs,rfl,h2,_⟩
 .exact ⟨_,.non,by kernel_rfl⟩
 .exact ⟨_,.bl b,by kernel_rfl⟩
 .exact ⟨_,.int i,by kernel_rfl⟩
 .exact ⟨_,.str z,by kernel_rfl⟩
 .refine ⟨_,.lst h2,?_⟩;simp only[Zuj,h2];exact Zdi K
 .refine ⟨_,.tup h2,?_⟩;simp only[Zuj,h2]
  kernel_rfl
def Zgj:Sp:=λvs H Q _=>∃ v:V,vs=[v]/\Kn H v/\Q (.bl (whB v)) H
theorem Zq0 (F:Fun K "is_whole" "is_whole" Zfi f fd)(T:Txt K mg C G S):FnOk P w K mg base CX0 1 f fd ["thing"] Zgj:=by
 have nd:=Zd6.nd;refine F.ok Zd6 (λvs H Q E h=>?_) (λcdv A outer s H vs Q E hr h=>?_)
 .refine Zae h λi e91 _=>?_;clear h;obtain rfl:=e91;rfl
 .refine Zav h λv e92 hk q=>?_;clear h;obtain rfl:=e92;refine⟨_,(~~~(Zf1 (Za9 Za5 rfl T.n_isinstance Jbg ((pvr 0)<&>((Zgf rfl T.n_int boot_int)<&>Zaa))) (Zf0 (Zvo (Za9 Za5 rfl T.n_isinstance Jbg ((pvr 0)<&>((Zgf rfl T.n_bool boot_bool)<&>Zaa))))))),?_⟩;walk_at "wp";refine Zae (kn_int (K:=K) hk) λt1 h1 h2=>?_;refine Zae (kn_bool (K:=K) hk) λt2 h3 h4=>?_;refine Zaq _ _ ⟨⟨rfl,rfl⟩,_,rfl,_,h1,_,h2,Zci (λhc=>⟨_,_,⟨rfl,rfl⟩,_,rfl,_,h3,_,h4,?_⟩) (λhc=>?_)⟩
  .cases v <;> first|exact q|cases hc
  .cases v <;> first|exact q|exact absurd rfl hc
def frB (H:Hp):V->Bool
 | .ref a=>match H a with
  | some (.tup [.int x,.int y])=>decide (1<=y) && decide (Int.gcd x y=1)
  | _=>false
 | _=>false
def Zn3 (p:Int)(H:Hp)(v:V):Bool:=if p=0 then frB H v else match v with
 | .int i=>decide (0<=i) && decide (i<p)
 | _=>false
def Zpa (p wd:Int)(H:Hp):V->Bool
 | .ref a=>match H a with
  | some (.lst xs)=>decide ((xs.length:Int)=wd) && xs.all (Zn3 p H)
  | _=>false
 | _=>false
def tabB (p:Int)(H:Hp):V->Bool
 | .ref a=>match H a with
  | some (.tup [.int h,.int wd,.ref r])=>match H r with
   | some (.lst rows)=>decide (0<=h) && decide (0<=wd) && decide ((rows.length:Int)=h) && rows.all (Zpa p wd H)
   | _=>false
  | _=>false
 | _=>false
def TopV (y:V):Prop:=∀ i,y=.int i->Top i
def WfN (H:Hp)(v:V):Prop:=Kn H v/\∀ a xs,v=.ref a->H a=some (.tup xs)->∀ y∈xs,Kn H y/\TopV y
def WfR (H:Hp)(v:V):Prop:=Kn H v/\∀ a xs,v=.ref a->H a=some (.lst xs)->∀ y∈xs,WfN H y
def WfT (H:Hp)(v:V):Prop:=Kn H v/\∀ a xs,v=.ref a->H a=some (.tup xs)->∀ y∈xs,Kn H y/\∀ r rows,y=.ref r->H r=some (.lst rows)->∀ z∈rows,WfR H z
theorem Kn.back {H H':Hp}{a:Addr}{o:HO}(h:Kn H (.ref a))(s:Same H H')(e:H' a=some o):H a=some o:=by
 rcases h with h|⟨_,h⟩|⟨_,h⟩|⟨_,h⟩|⟨b,xs,h1,h2,_⟩|⟨b,xs,h1,h2,_⟩
 .cases h
 .cases h
 .cases h
 .cases h
 .cases h1;rw[s _ _ h2] at e;rw[h2,e]
 .cases h1;rw[s _ _ h2] at e;rw[h2,e]
theorem Kn.at {H H':Hp}{a:Addr}(h:Kn H (.ref a))(s:Same H H'):H' a=H a:=by
 rcases h with h|⟨_,h⟩|⟨_,h⟩|⟨_,h⟩|⟨b,xs,h1,h2,_⟩|⟨b,xs,h1,h2,_⟩
 .cases h
 .cases h
 .cases h
 .cases h
 .cases h1;rw[s _ _ h2,h2]
 .cases h1;rw[s _ _ h2,h2]
theorem WfN.same {H H':Hp}{v:V}(h:WfN H v)(s:Same H H'):WfN H' v:=
 ⟨h.1.same s,λa xs e1 e2 y hy=>by subst e1;exact⟨(h.2 a xs rfl (h.1.back s e2) y hy).1.same s,(h.2 a xs rfl (h.1.back s e2) y hy).2⟩⟩
theorem WfR.same {H H':Hp}{v:V}(h:WfR H v)(s:Same H H'):WfR H' v:=
 ⟨h.1.same s,λa xs e1 e2 y hy=>by subst e1;exact (h.2 a xs rfl (h.1.back s e2) y hy).same s⟩
theorem Zlq {H H':Hp}{p:Int}{v:V}(h:WfN H v)(s:Same H H'):Zn3 p H' v=Zn3 p H v:=by
 unfold Zn3;split
 .cases v <;> try rfl
  simp only[frB,h.1.at s]
 .rfl
theorem Zkg {α:Type}{f g:α->Bool}:∀ {xs:List α},(∀ x∈xs,f x=g x)->xs.all f=xs.all g
 | [],_=>rfl
 | x::xs,h=>by
  rw[Jdg,Jdg,h x Jb9,Zkg λy hy=>h y (Jbn _ hy)]
theorem Zqc {H H':Hp}{p wd:Int}{v:V}(h:WfR H v)(s:Same H H'):Zpa p wd H' v=Zpa p wd H v:=by
 cases v <;> try rfl
 rename_i a
 simp only[Zpa,h.1.at s];split
 .rename_i xs e
  rw[Zkg λy hy=>Zlq (h.2 a xs rfl e y hy) s]
 .rfl
theorem tu_of {H:Hp}{v:V}(h:Kn H v)(ht:Zri H v=true):∃ a xs,v=.ref a/\H a=some (.tup xs)/\xs.length<=1000:=by
 rcases h with rfl|⟨b,rfl⟩|⟨i,rfl⟩|⟨z,rfl⟩|⟨a,xs,rfl,h2,_⟩|h
 .cases ht
 .cases ht
 .cases ht
 .cases ht
 .simp only [Zri,h2] at ht;cases ht
 .exact h
theorem li_of {H:Hp}{v:V}(h:Kn H v)(ht:Zuj H v=true):∃ a xs,v=.ref a/\H a=some (.lst xs)/\xs.length<=1000:=by
 rcases h with rfl|⟨b,rfl⟩|⟨i,rfl⟩|⟨z,rfl⟩|h|⟨a,xs,rfl,h2,_⟩
 .cases ht
 .cases ht
 .cases ht
 .cases ht
 .exact h
 .simp only [Zuj,h2] at ht;cases ht
theorem Zpn {v:V}(h:whB v=true):∃ i,v=.int i:=by
 cases v <;> first|exact⟨_,rfl⟩|cases h
theorem frB_noT {H:Hp}{v:V}(h:Zri H v=false):frB H v=false:=by
 cases v <;> try rfl
 simp only[Zri] at h;simp only[frB];split
 .rename_i e;rw[e] at h;cases h
 .rfl
theorem frB_len {H:Hp}{a:Addr}{xs:List V}(h:H a=some (.tup xs))(hl:xs.length≠2):frB H (.ref a)=false:=by
 simp only[frB,h];split
 .rename_i e;cases e;exact absurd rfl hl
 .rfl
theorem Zr0 {H:Hp}{a:Addr}{x y:V}(h:H a=some (.tup [x,y]))(hw:whB x=false\/whB y=false):frB H (.ref a)=false:=by
 simp only[frB,h];split
 .rename_i e
  cases e;rcases hw with hw|hw <;> cases hw
 .rfl
theorem Zof {H:Hp}{a:Addr}{x y:Int}(h:H a=some (.tup [.int x,.int y])):frB H (.ref a)=(decide (1<=y) && decide (Int.gcd x y=1)):=by
 simp only[frB,h]
def spFr:Sp:=λvs H Q _=>∃ v:V,vs=[v]/\WfN H v/\∀ H',Same H H'->Q (.bl (frB H v)) H'
theorem ok_fr (F:Fun K "is_fraction" "is_fraction" Zed f fd)(T:Txt K mg C G S)(Yab:Cal P w K mg base "is_whole" 1 Zgj)(Yal:Cal P w K mg base "common_divisor" 4 Zp5):FnOk P w K mg base CX0 5 f fd ["thing"] spFr:=by
 have nd:=Zfx.nd;refine F.ok Zfx (λvs H Q E h=>?_) (λcdv A outer s H vs Q E hr h=>?_)
 .refine Zae h λv e91 _=>?_;clear h;obtain rfl:=e91;rfl
 .refine Zav h λv e92 e93 q=>?_;clear h;obtain rfl:=e92;obtain⟨hk,hx⟩:=e93;refine⟨_,((@Za6 _ _ _ _ _ _ _ _ (PW.pt (Zdf (Zbj (Zbs (Za9 Za5 rfl T.n_isinstance Jbg ((pvr 0)<&>((Zgf rfl T.n_tuple boot_tuple)<&>Zaa))))) (Zcf (Zam Zeu (Za9 Zau rfl T.n_len Jbd ((pvr 0)<&>Zaa)) Zac (Zak _))))) (~~~Zc5) Zal)<*>((Zbk (pvr 0) (@Zbv _ _ _ _ _ 2 rfl ((1>>>nd)^^^((2>>>nd)^^^(@Za0 _))) ⇑1 ⇑1))<*>((@Za6 _ _ _ _ _ _ _ _ (PW.pt (Zdf (Zbj (Zbs (Yab<$>hr<$>((pvr 1)<&>Zaa)))) (Zdf (Zbj (Zbs (Yab<$>hr<$>((pvr 2)<&>Zaa)))) (Zcf (Zam Zia (pvr 2) Zac (Zak _)))))) (~~~Zc5) Zal)<*>(~~~(Zcg Zc7 (Yal<$>hr<$>((pvr 1)<&>((pvr 2)<&>Zaa))) Zac (Zak _)))))),?_⟩;walk_at "wp";refine Zae (Zvy (K:=K) hk) λt1 h1 h2=>?_;refine Zaq _ _ ⟨⟨rfl,rfl⟩,_,rfl,_,h1,_,h2,?_⟩;refine Zci (λhc=>?_) (λhc=>?_)
  .have hc:Zri H v=false:=by simpa using hc
   rw[frB_noT hc] at q;exact q _ (Same.refl _)
  .have hc:Zri H v=true:=by simpa using hc
   refine Zbt (tu_of hk hc) λa xs e94 ha hl=>?_;obtain rfl:=e94;refine⟨a,rfl,xs,.inr (SqT.of ha),Zci (λhn=>?_) (λhn=>?_)⟩
   .have hn:¬ xs.length=2:=by intro z;rw[z] at hn;exact absurd hn ⇑0
    rw[frB_len ha hn] at q;exact q _ (Same.refl _)
   .have hn:xs.length=2:=by
     have:((xs.length:Nat):Int)=2:=by simpa using hn
     omega
    obtain⟨x,y,rfl⟩:∃ x y,xs=[x,y]:=by
     match xs,hn with
     | [x,y],_=>exact⟨x,y,rfl⟩
    refine⟨a,rfl,_,SqT.of ha,rfl,_,_,rfl,_,_,rfl,rfl,x,rfl,(hx a _ rfl ha x (by simp)).1,_,rfl,Zci (λh1=>?_) (λh1=>?_)⟩
    .rw [Zr0 ha (.inl (by simpa using h1))] at q;exact q _ (Same.refl _)
    .obtain ⟨i,rfl⟩:=Zpn (v:=x) (by simpa using h1);refine⟨y,rfl,(hx a _ rfl ha y (by simp)).1,_,rfl,Zci (λh2=>?_) (λh2=>?_)⟩
     .rw [Zr0 ha (.inr (by simpa using h2))] at q;exact q _ (Same.refl _)
     .obtain ⟨j,rfl⟩:=Zpn (v:=y) (by simpa using h2);rw[Zof ha] at q;refine⟨j,rfl,Zci (λh3=>?_) (λh3=>?_)⟩
      .have h3:=Jat h3;rw[Jay (show ¬ 1<=j by omega)] at q;exact q _ (Same.refl _)
      .have h3:¬ j<1:=λz=>h3 (Jah z);refine Zaq i j ⟨rfl,(hx a _ rfl ha _ (by simp)).2 i rfl,(hx a _ rfl ha _ (by simp)).2 j rfl,λH' s'=>⟨rfl,?_⟩⟩;rw[Jah (show 1<=j by omega)] at q;have:decide (V.int (Int.gcd i j:Int)=V.int 1)=decide (Int.gcd i j=1):=by
        simp only[V.int.injEq];by_cases e:Int.gcd i j=1
        .rw [Jah e,Jah ∅]
        .rw [Jay e,Jay ∅]
       rw[this];exact q _ s'
def spIsN (G:Addr):Sp:=λvs H Q _=>∃ (g:Addr) (p:Int) (v:V),vs=[.ref g,v]/\GAt G H g p/\GroundP p/\WfN H v/\∀ H',Same H H'->Q (.bl (Zn3 p H v)) H'
theorem numB_pr {p:Int}{H:Hp}{v:V}(hp:¬ p=0)(h:whB v=false):Zn3 p H v=false:=by
 unfold Zn3;rw[if_neg hp];cases v <;> first|rfl|cases h
theorem Zn2 {p i:Int}{H:Hp}(hp:¬ p=0):Zn3 p H (.int i)=(decide (0<=i) && decide (i<p)):=by
 unfold Zn3;rw[if_neg hp]
theorem Zq5 {p:Int}{H:Hp}{v:V}(hp:p=0):Zn3 p H v=frB H v:=by
 unfold Zn3;rw[if_pos hp]
theorem ok_isn (F:Fun K "is_number" "Ground.is_number" Zcd f fd)(T:Txt K mg C G S)(Yab:Cal P w K mg base "is_whole" 1 Zgj)(Yb1:Cal P w K mg base "is_fraction" 5 spFr):FnOk P w K mg base CX0 6 f fd ["self","thing"] (spIsN G):=by
 have nd:=Zda.nd;refine F.ok Zda (λvs H Q E h=>?_) (λcdv A outer s H vs Q E hr h=>?_)
 .refine Zf3 h λg p v e95 _=>?_;clear h;obtain rfl:=e95;rfl
 .refine Zb9 h λg p v e96 e97 hp e98=>?_;clear h;obtain rfl:=e96;obtain⟨dx,hg⟩:=e97;obtain⟨hw,q⟩:=e98;refine⟨_,((@Za6 _ _ _ _ _ _ _ _ (Zam Zc7 (Zbl (pvr 0) rfl) Zac (Zak _)) (~~~(Yb1<$>hr<$>((pvr 1)<&>Zaa))) Zal)<*>(~~~(Zf1 (Yab<$>hr<$>((pvr 1)<&>Zaa)) (Zf0 (Znz Zox Zia Zac (pvr 1) (Zbl (pvr 0) rfl)))))),?_⟩;walk_at "wp";refine Zcm G dx _ ⟨hg,T.cl_Ground,T.nP,_,Zcr p,rfl,Zci (λhc=>?_) (λhc=>?_)⟩
  .have hp0:p=0:=by simpa using hc
   rw[Zq5 hp0] at q;exact⟨v,rfl,hw,q⟩
  .have hp0:¬ p=0:=by simpa using hc
   refine⟨v,rfl,hw.1,_,rfl,Zci (λh1=>?_) (λh1=>?_)⟩
   .obtain ⟨i,rfl⟩:=Zpn h1;rw[Zn2 hp0] at q;refine⟨i,rfl,Zci (λh2=>⟨G,dx,_,hg,T.cl_Ground,T.nP,_,Zcr p,i,rfl,p,rfl,?_⟩) (λh2=>?_)⟩
    .rw [h2,Jdh] at q;exact q _ (Same.refl _)
    .rw [show decide (0<=i)=false by simpa using h2,Jdm] at q;exact q _ (Same.refl _)
   .rw [numB_pr hp0 (by simpa using h1)] at q;exact q _ (Same.refl _)
theorem Zv3 {f:V->Bool}(xs:List V):((List.range xs.length).map λi=>f (xs.getD i .non)).all id=xs.all f:=by
 rw[Jb1,Jbe,Jbe];constructor
 .intro h x hx;obtain⟨i,hi,rfl⟩:=Ja1.mp hx;have:=h (f (xs.getD i .non)) (Jaz.mpr ⟨i,Ja0.mpr hi,rfl⟩);simpa [hi] using this
 .intro h b hb;refine Zae (Jaz.mp hb) λi hi e99=>?_;obtain rfl:=e99;have hi:=Ja0.mp hi;simpa [hi] using h _ (Jap hi)
theorem Zry {xs:List V}{i:Nat}{x:V}(h:xs[i]?=some x):xs.getD i .non=x:=by rw[Jac,h];rfl
def Zpz (G:Addr):Sp:=λvs H Q _=>∃ (g:Addr) (p wd:Int) (v:V),vs=[.ref g,.int wd,v]/\GAt G H g p/\GroundP p/\WfR H v/\∀ H',Same H H'->Q (.bl (Zpa p wd H v)) H'
theorem Ztf {p wd:Int}{H:Hp}{v:V}(h:Zuj H v=false):Zpa p wd H v=false:=by
 cases v <;> try rfl
 simp only[Zuj] at h;simp only[Zpa];split
 .rename_i e;rw[e] at h;cases h
 .rfl
theorem Zqd {p wd:Int}{H:Hp}{a:Addr}{xs:List V}(h:H a=some (.lst xs)):Zpa p wd H (.ref a)=(decide ((xs.length:Int)=wd) && xs.all (Zn3 p H)):=by
 simp only[Zpa,h]
theorem Zt4 (F:Fun K "is_row" "is_row" Zko f fd)(T:Txt K mg C G S)(Ybq:CalM P w K mg base G "is_number" 6 (spIsN G)):FnOk P w K mg base CX0 7 f fd ["ground","wide","thing"] (Zpz G):=by
 have nd:=Zlj.nd;refine F.ok Zlj (λvs H Q E h=>?_) (λcdv A outer s H vs Q E hr h=>?_)
 .refine Zol h λg p wd v e910 _=>?_;clear h;obtain rfl:=e910;rfl
 .refine Zb8 h λg p wd v e911 e912 hp e913=>?_;clear h;obtain rfl:=e911;obtain⟨dx,hg⟩:=e912;obtain⟨⟨hk,hx⟩,q⟩:=e913;refine⟨_,((@Za6 _ _ _ _ _ _ _ _ (PW.pt (Zdf (Zbj (Zbs (Za9 Za5 rfl T.n_isinstance Jbg ((pvr 2)<&>((Zgf rfl T.n_list Jcl)<&>Zaa))))) (Zcf (Zam Zeu (Za9 Zau rfl T.n_len Jbd ((pvr 2)<&>Zaa)) (pvr 1) (Zak _))))) (~~~Zc5) Zal)<*>(~~~(Za9 (Zcv rfl) rfl T.n_all Jdw ((Za3 (own:=["number"]) (fr:=[("ground",0)]) rfl (Zbn (by kernel_rfl)) (Zbc (pv 2)) (λ_ _ _ _=>⟨(0<<<["number","ground"]),Zay,(pe_mth T.cl_Ground Ybq hr.m (pv 1) ((pv 0)<&>Zaa))⟩))<&>Zaa)))),?_⟩;walk_at "wp";refine Zae (Zrd (K:=K) hk) λt1 h1 h2=>?_;refine Zaq _ _ ⟨⟨rfl,rfl⟩,_,rfl,_,h1,_,h2,Zci (λhc=>?_) (λhc=>?_)⟩
  .rw [Ztf (by simpa using hc)] at q;exact q H (Same.refl _)
  .refine Zbt (li_of hk (by simpa using hc)) λa xs e914 ha hl=>?_;obtain rfl:=e914;rw[Zqd ha] at q;refine⟨a,rfl,xs,.inl (SqL.of ha),Zci (λhn=>?_) (λhn=>?_)⟩
   .rw [show decide ((xs.length:Int)=wd)=false by simpa using hn,Jdm] at q;exact q H (Same.refl _)
   .rw [show decide ((xs.length:Int)=wd)=true by simpa using hn,Jdh] at q;refine⟨_,rfl,a,rfl,⟨_,SqL.of ha⟩,λD hD=>Zgy (λi=>Zn3 p H (xs.getD i .non)) ha hD ∅ (λi y H' Q' hy s' q'=>?_) λH' s' e'=>⟨D,rfl,_,SqL.of e',?_⟩⟩
    .have wy:=hx a xs rfl ha y (Jae hy);refine⟨_,rfl,g,dx,_,rfl,s' _ _ hg,Zod _ ⋯,_,rfl,g,p,y,rfl,⟨dx,s' _ _ hg⟩,hp,wy.same s',?_⟩;rw[Zlq wy s',<- Zry hy];exact λH2 s2=>q' H2 s2
    .rw [Zv3];exact q H' s'
def Zpx (G:Addr):Sp:=λvs H Q _=>∃ (g:Addr) (p:Int) (v:V),vs=[.ref g,v]/\GAt G H g p/\GroundP p/\WfT H v/\∀ H',Same H H'->Q (.bl (tabB p H v)) H'
theorem Zsx {p:Int}{H:Hp}{v:V}(h:Zri H v=false):tabB p H v=false:=by
 cases v <;> try rfl
 simp only[Zri] at h;simp only[tabB];split
 .rename_i e;rw[e] at h;cases h
 .rfl
theorem Zsy {p:Int}{H:Hp}{a:Addr}{xs:List V}(h:H a=some (.tup xs))(hl:xs.length≠3):tabB p H (.ref a)=false:=by
 simp only[tabB,h];split
 .rename_i e;cases e;exact absurd rfl hl
 .rfl
theorem Zju {p:Int}{H:Hp}{a:Addr}{x y z:V}(h:H a=some (.tup [x,y,z]))(hw:whB x=false\/whB y=false):tabB p H (.ref a)=false:=by
 simp only[tabB,h];split
 .rename_i e
  cases e;rcases hw with hw|hw <;> cases hw
 .rfl
theorem Zim {p:Int}{H:Hp}{a:Addr}{i j:Int}{z:V}(h:H a=some (.tup [.int i,.int j,z]))(hw:(i<0\/j<0)\/Zuj H z=false):tabB p H (.ref a)=false:=by
 simp only[tabB,h];split
 .rename_i e
  cases e;split
  .rename_i rows e2
   rcases hw with (hw|hw)|hw
   .rw [Jay (show ¬ 0<=i by omega)];simp
   .rw [Jay (show ¬ 0<=j by omega)];simp
   .simp only [Zuj,e2] at hw;cases hw
  .rfl
 .rfl
theorem Zle {p:Int}{H:Hp}{a r:Addr}{i j:Int}{rows:List V}(h:H a=some (.tup [.int i,.int j,.ref r]))(hr:H r=some (.lst rows))(h0:¬ i<0)(h1:¬ j<0):tabB p H (.ref a)=(decide ((rows.length:Int)=i) && rows.all (Zpa p j H)):=by
 simp only[tabB,h,hr];rw[Jah (show 0<=i by omega),Jah (show 0<=j by omega)];rfl
theorem Zt3 (F:Fun K "is_table" "is_table" Zhf f fd)(T:Txt K mg C G S)(Yab:Cal P w K mg base "is_whole" 1 Zgj)(Ybo:Cal P w K mg base "is_row" 7 (Zpz G)):FnOk P w K mg base CX0 8 f fd ["ground","thing"] (Zpx G):=by
 have nd:=Ziv.nd;refine F.ok Ziv (λvs H Q E h=>?_) (λcdv A outer s H vs Q E hr h=>?_)
 .refine Zf3 h λg p v e915 _=>?_;clear h;obtain rfl:=e915;rfl
 .refine Zb9 h λg p v e916 e917 hp e918=>?_;clear h;obtain rfl:=e916;obtain⟨dx,hg⟩:=e917;obtain⟨⟨hk,hx⟩,q⟩:=e918;refine⟨_,((@Za6 _ _ _ _ _ _ _ _ (PW.pt (Zdf (Zbj (Zbs (Za9 Za5 rfl T.n_isinstance Jbg ((pvr 1)<&>((Zgf rfl T.n_tuple boot_tuple)<&>Zaa))))) (Zcf (Zam Zeu (Za9 Zau rfl T.n_len Jbd ((pvr 1)<&>Zaa)) Zac (Zak _))))) (~~~Zc5) Zal)<*>((Zbk (pvr 1) (@Zbv _ _ _ _ _ 3 rfl ((2>>>nd)^^^((@Zad _ _ 3 _ nd rfl (Or.inr rfl) (Or.inl rfl))^^^((4>>>nd)^^^(@Za0 _)))) ⇑1 ⇑1))<*>((@Za6 _ _ _ _ _ _ _ _ (PW.pt (Zdf (Zbj (Zbs (Yab<$>hr<$>((pvr 2)<&>Zaa)))) (Zdf (Zbj (Zbs (Yab<$>hr<$>((pvr 3)<&>Zaa)))) (Zdf (Zam Zia (pvr 2) Zac (Zak _)) (Zcf (Zam Zia (pvr 3) Zac (Zak _))))))) (~~~Zc5) Zal)<*>((@Za6 _ _ _ _ _ _ _ _ (PW.pt (Zdf (Zbj (Zbs (Za9 Za5 rfl T.n_isinstance Jbg ((pvr 4)<&>((Zgf rfl T.n_list Jcl)<&>Zaa))))) (Zcf (Zam Zeu (Za9 Zau rfl T.n_len Jbd ((pvr 4)<&>Zaa)) (pvr 2) (Zak _))))) (~~~Zc5) Zal)<*>(~~~(Za9 (Zcv rfl) rfl T.n_all Jdw ((Za3 (own:=["row"]) (fr:=[("ground",0),("wide",3)]) rfl (Zbn (by kernel_rfl)) (Zbc (pv 4)) (λ_ _ _ _=>⟨(0<<<["row","ground","wide"]),Zay,(Ybo<$>hr<$>((pv 1)<&>((pv 2)<&>((pv 0)<&>Zaa))))⟩))<&>Zaa))))))),?_⟩;walk_at "wp";refine Zae (Zvy (K:=K) hk) λt1 h1 h2=>?_;refine Zaq _ _ ⟨⟨rfl,rfl⟩,_,rfl,_,h1,_,h2,Zci (λhc=>?_) (λhc=>?_)⟩
  .rw [Zsx (by simpa using hc)] at q;exact q H (Same.refl _)
  .refine Zbt (tu_of hk (by simpa using hc)) λa xs e919 ha hl=>?_;obtain rfl:=e919;refine⟨a,rfl,xs,.inr (SqT.of ha),Zci (λhn=>?_) (λhn=>?_)⟩
   .have hn:¬ xs.length=3:=by intro z;rw[z] at hn;exact absurd hn ⇑0
    rw[Zsy ha hn] at q;exact q H (Same.refl _)
   .have hn:xs.length=3:=by
     have:((xs.length:Nat):Int)=3:=by simpa using hn
     omega
    obtain⟨x,y,z,rfl⟩:∃ x y z,xs=[x,y,z]:=by
     match xs,hn with
     | [x,y,z],_=>exact⟨x,y,z,rfl⟩
    have kx:=(hx a _ rfl ha x (by simp)).1;have ky:=(hx a _ rfl ha y (by simp)).1;obtain⟨kz,hz⟩:=hx a _ rfl ha z (by simp);refine⟨a,rfl,_,SqT.of ha,rfl,_,_,rfl,_,_,rfl,_,_,rfl,rfl,x,rfl,kx,_,rfl,Zci (λh1=>?_) (λh1=>?_)⟩
    .rw [Zju ha (.inl (by simpa using h1))] at q;exact q H (Same.refl _)
    .obtain ⟨i,rfl⟩:=Zpn (v:=x) (by simpa using h1);refine⟨y,rfl,ky,_,rfl,Zci (λh2=>?_) (λh2=>?_)⟩
     .rw [Zju ha (.inr (by simpa using h2))] at q;exact q H (Same.refl _)
     .obtain ⟨j,rfl⟩:=Zpn (v:=y) (by simpa using h2);refine⟨i,rfl,Zci (λh3=>?_) (λh3=>⟨j,rfl,Zci (λh4=>?_) (λh4=>?_)⟩)⟩
      .rw [Zim ha (.inl (.inl (Jat h3)))] at q;exact q H (Same.refl _)
      .rw [Zim ha (.inl (.inr (Jat h4)))] at q;exact q H (Same.refl _)
      .have h3:¬ i<0:=λz=>h3 (Jah z);have h4:¬ j<0:=λz=>h4 (Jah z);refine Zae (Zrd (K:=K) kz) λt3 h5 h6=>?_;refine Zaq _ _ ⟨⟨rfl,rfl⟩,_,rfl,_,h5,_,h6,Zci (λhc2=>?_) (λhc2=>?_)⟩
       .rw [Zim ha (.inr (by simpa using hc2))] at q;exact q H (Same.refl _)
       .refine Zbt (li_of kz (by simpa using hc2)) λr rows e920 hr1 hrl=>?_;obtain rfl:=e920;rw[Zle ha hr1 h3 h4] at q;have ed:decide (V.int ((rows.length:Nat):Int)=V.int i)=decide ((rows.length:Int)=i):=by simp only[V.int.injEq]
        refine⟨r,rfl,rows,.inl (SqL.of hr1),rfl,Zci (λhn2=>?_) (λhn2=>?_)⟩
        .rw [ed] at hn2;rw[show decide ((rows.length:Int)=i)=false by simpa using hn2,Jdm] at q;exact q H (Same.refl _)
        .rw [ed] at hn2;rw[show decide ((rows.length:Int)=i)=true by simpa using hn2,Jdh] at q;refine⟨_,rfl,r,rfl,⟨_,SqL.of hr1⟩,λD hD=>Zgy (λk=>Zpa p j H (rows.getD k .non)) hr1 hD ∅ (λk y H' Q' hy s' q'=>?_) λH' s' e'=>⟨D,rfl,_,SqL.of e',?_⟩⟩
         .have wy:=hz r rows rfl hr1 y (Jae hy);refine⟨_,rfl,_,rfl,_,rfl,g,p,j,y,rfl,⟨dx,s' _ _ hg⟩,hp,wy.same s',λH2 s2=>?_⟩;rw[Zqc wy s',<- Zry hy];exact q' H2 s2
         .rw [Zv3];exact q H' s'
def NumO (H:Hp)(p:Int)(B:Nat)(v:V):Prop:=∃ x,NumV H p v x/\Isn p x/\Bd B x
theorem NumO.same {H H':Hp}{p:Int}{B:Nat}{v:V}(h:NumO H p B v)(s:Same H H'):NumO H' p B v:=let ⟨x,a,b,c⟩:=h;⟨x,a.same s,b,c⟩
theorem NumO.put {H:Hp}{D:Addr}{l:List V}{o:HO}{p:Int}{B:Nat}{v:V}(h:NumO H p B v)(hD:H D=some (.lst l)):NumO (upd H D o) p B v:=by
 refine Zav h λx a b c=>?_;clear h;refine⟨x,?_,b,c⟩;by_cases hp:p=0
 .refine Zae (a.ref hp) λt e93 ht=>?_;obtain rfl:=e93;exact NumV.tup hp (by rw[Zaj (Zdh ht hD (by intro z;cases z))];exact ht)
 .obtain rfl:=a.int hp;exact NumV.of hp
theorem NumV.ext {l:Addr}{H H':Hp}{p:Int}{v:V}{x:Int×Int}(h:NumV H p v x)(b:Bag H l)(e:Ext l H H'):NumV H' p v x:=by
 by_cases hp:p=0
 .refine Zae (h.ref hp) λt e94 ht=>?_;obtain rfl:=e94;refine Zbd b λa c hb _=>?_;clear b;exact NumV.tup hp (e _ _ (Zdh ht hb (by intro z;cases z)) ht)
 .obtain rfl:=h.int hp;exact NumV.of hp
theorem NumO.ext {l:Addr}{H H':Hp}{p:Int}{B:Nat}{v:V}(h:NumO H p B v)(b:Bag H l)(e:Ext l H H'):NumO H' p B v:=let ⟨x,a,c,d⟩:=h;⟨x,a.ext b e,c,d⟩
def RowO (H:Hp)(p:Int)(B:Nat)(wd:Int)(a:Addr):Prop:=∃ xs,H a=some (.lst xs)/\(xs.length:Int)=wd/\∀ x∈xs,NumO H p B x
theorem RowO.same {H H':Hp}{p wd:Int}{B:Nat}{a:Addr}(h:RowO H p B wd a)(s:Same H H'):RowO H' p B wd a:=let ⟨xs,h1,h2,h3⟩:=h;⟨xs,s _ _ h1,h2,λx hx=>(h3 x hx).same s⟩
theorem RowO.ext {l:Addr}{H H':Hp}{p wd:Int}{B:Nat}{a:Addr}(h:RowO H p B wd a)(b:Bag H l)(e:Ext l H H')(n:a≠l):RowO H' p B wd a:=let ⟨xs,h1,h2,h3⟩:=h;⟨xs,e _ _ n h1,h2,λx hx=>(h3 x hx).ext b e⟩
theorem RowO.put {H:Hp}{D:Addr}{l:List V}{o:HO}{p wd:Int}{B:Nat}{a:Addr}(h:RowO H p B wd a)(hD:H D=some (.lst l))(n:a≠D):RowO (upd H D o) p B wd a:=let ⟨xs,h1,h2,h3⟩:=h;⟨xs,by rw[Zaj n];exact h1,h2,λx hx=>(h3 x hx).put hD⟩
theorem Zba (rs:List Addr)(a:Addr):rs.map V.ref++[.ref a]=(rs++[a]).map V.ref:=by rw[Jbb];rfl
theorem Zuy {a D:Addr}{xs:List V}{fr:List (Str×Nat)}{σ:L2.St}{te:TE}{H1:Hp}{Q:VK}(R:Hp->V->Prop)(hS:∀ {H H' y},R H y->Same H H'->R H' y)(hP:∀ {H y l o},R H y->H D=some (.lst l)->R (upd H D o) y)(ha:H1 a=some (.lst xs))(hD:H1 D=none)(hn:xs.length<=1000)(h:∀ (i:Nat) x H (Q:VK),xs[i]?=some x->Same H1 H->(∀ y H',Same H H'->R H' y->Q y H')->te (some x::Zbm fr σ) H Q)(hQ:∀ ys H',Same H1 H'->H' D=some (.lst ys)->ys.length=xs.length->(∀ y∈ys,R H' y)->Q (.ref D) H'):Zbu (Zbe 0) Zew te (Itl K a) D (Zg2 1 fr σ) H1 Q:=by
 refine Zei (xs:=xs) (λi vs H=>Same H1 H/\H D=some (.lst vs)/\vs.length=i/\∀ y∈vs,R H y) ⟨Same.new hD,Zab,rfl,by simp⟩ (λi vs H _ p=>SqL.of (p.1 _ _ ha)) ?_ (λvs H ⟨s,e,hl,hr⟩=>hQ vs H s e hl hr);intro i x vs σ' H hi hx sh e91;refine Zcb e91 λs e hl hr=>?_;clear e91;obtain⟨z,rfl⟩:=sh.one;simp only[Zfq,Zbe,Zew,List.set_cons_zero,Jca];refine h i x H _ hx s λy H' s' ry=>?_;refine Zky (ws:=vs++[y]) hi Sh.mk1 (s' _ _ e) (Zas (oz83 hn hi hl)) ⟨(s.trans s').upd hD,Zab,by rw[Jaj,hl];rfl,λu hu=>?_⟩;rcases Jba.mp hu with hu|hu
 .exact hP (hS (hr u hu) s') (s' _ _ e)
 .rw [Ja3.mp hu];exact hP ry (s' _ _ e)
theorem Zo7 {a b D:Addr}{xs ys:List V}{fr:List (Str×Nat)}{σ:L2.St}{te:TE}{H1:Hp}{Q:VK}(R:Hp->V->Prop)(hS:∀ {H H' y},R H y->Same H H'->R H' y)(hP:∀ {H y l o},R H y->H D=some (.lst l)->R (upd H D o) y)(ha:H1 a=some (.lst xs))(hb:H1 b=some (.lst ys))(hlen:ys.length=xs.length)(hD:H1 D=none)(hn:xs.length<=1000)(h:∀ (i:Nat) x y H (Q:VK),xs[i]?=some x->ys[i]?=some y->Same H1 H->(∀ u H',Same H H'->R H' u->Q u H')->te (some x::some y::Zbm fr σ) H Q)(hQ:∀ zs H',Same H1 H'->H' D=some (.lst zs)->zs.length=xs.length->(∀ y∈zs,R H' y)->Q (.ref D) H'):Zbu (Zpb K 2 (Zgu (Zbe 0) (Zgu (Zbe 1) Zsp))) Zew te (Itz K a b) D (Zg2 2 fr σ) H1 Q:=by
 refine Zii (xs:=xs) (ys:=ys) (λi vs H=>Same H1 H/\H D=some (.lst vs)/\vs.length=i/\∀ y∈vs,R H y) hlen ⟨Same.new hD,Zab,rfl,by simp⟩ (λi vs H _ p=>⟨SqL.of (p.1 _ _ ha),SqL.of (p.1 _ _ hb)⟩) ?_ (λvs H ⟨s,e,hl,hr⟩=>hQ vs H s e hl hr);intro i x y p vs σ' H hi hx hy hp sh e92;refine Zcb e92 λs e hl hr=>?_;clear e92;refine Zex sh.two λz1 z2 e95=>?_;obtain rfl:=e95;have s0:=Same.new (o:=.tup [x,y]) hp;refine Zaq p _ ⟨rfl,SqT.of Zab,rfl,_,_,rfl,_,_,rfl,rfl,?_⟩;simp only[Zew,List.set_cons_zero,List.set_cons_succ,Jca];refine h i x y _ _ hx hy (s.trans s0) λu H' s' ru=>?_;have s1:=s0.trans s';refine Zky (ws:=vs++[u]) hi Sh.mk2 (s1 _ _ e) (Zas (oz83 hn hi hl)) ⟨(s.trans s1).upd hD,Zab,by rw[Jaj,hl];rfl,λv hv=>?_⟩;rcases Jba.mp hv with hv|hv
 .exact hP (hS (hr v hv) s1) (s1 _ _ e)
 .rw [Ja3.mp hv];exact hP ru (s1 _ _ e)
def BB:Nat:=2 ^ 1000000
theorem pow_lt2 {a b:Nat}(h:a<b):2 ^ a<2 ^ b:=Jc3 ⇑0 h
theorem pow_le2 {a b:Nat}(h:a<=b):2 ^ a<=2 ^ b:=Jc0 ⇑0 h
theorem BB_lt:BB<2 ^ NB:=by
 unfold BB;exact pow_lt2 ⇑0
theorem Zng {n m:Nat}(h:n<2 ^ m)(hm:m<=1000000):n<=BB:=by
 unfold BB;exact Jbv (Jau h (pow_le2 hm))
theorem BB_of {n:Nat}(h:n<=100000000000000000000000000000000):n<=BB:=Zng (m:=120) (Jbk h ⋯) ⇑0
theorem Zig {n:Nat}(h:0<n):ixN n (-1)=some (n-1):=by
 unfold ixN;rw[if_neg ∅,if_pos ∅];congr 1;exact oz57
theorem Zd5 (rs:List Addr)(j:Nat)(a:Addr):(rs.map V.ref).set j (.ref a)=(rs.set j a).map V.ref:=(List.map_set).symm
theorem Zgt {rs:List Addr}{j:Nat}(h:j<rs.length):(rs.map V.ref)[j]?=some (.ref rs[j]):=by rw[Jad,Jaa h];rfl
theorem Zsi {rs:List Addr}(h:0<rs.length):atI (rs.map V.ref) (-1)=some (.ref (rs[rs.length-1]'(by omega))):=by
 unfold atI;rw[Jab,Zig h];exact Zgt ∅
structure Tab (H:Hp)(p:Int)(hh wd:Int)(t r:Addr)(rs:List Addr):Prop where
 tup:H t=some (.tup [.int hh,.int wd,.ref r])
 lst:H r=some (.lst (rs.map V.ref))
 len:(rs.length:Int)=hh
 row:∀ a∈rs,RowO H p BB wd a
 nin:r∉rs
theorem Tab.same {H H':Hp}{p hh wd:Int}{t r:Addr}{rs:List Addr}(h:Tab H p hh wd t r rs)(s:Same H H'):Tab H' p hh wd t r rs:=⟨s _ _ h.tup,s _ _ h.lst,h.len,λa ha=>(h.row a ha).same s,h.nin⟩
def Fl (v:V):Prop:=v=.non\/(∃ b,v=.bl b)\/(∃ i,v=.int i)\/∃ s,v=.str s
theorem Fl.kn {H:Hp}{v:V}(h:Fl v):Kn H v:=by
 rcases h with h|h|h|h
 .exact .inl h
 .exact .inr (.inl h)
 .exact .inr (.inr (.inl h))
 .exact .inr (.inr (.inr (.inl h)))
theorem Zsu {H:Hp}{v:V}(h:Kn H v)(hn:∀ a,v≠.ref a):WfN H v:=⟨h,λa xs e=>absurd e (hn a)⟩
theorem wfn_tup {H:Hp}{a:Addr}{xs:List V}(h:H a=some (.tup xs))(hl:xs.length<=1000)(hk:∀ y∈xs,Kn H y/\TopV y):WfN H (.ref a):=⟨.tup h hl,λb ys e1 e2 y hy=>by cases e1;rw[h] at e2;cases e2;exact hk y hy⟩
def Zh6 (H:Hp)(v:V):Prop:=Kn H v/\∀ r rows,v=.ref r->H r=some (.lst rows)->∀ z∈rows,WfR H z
theorem NumO.wf {H:Hp}{p:Int}{B:Nat}{v:V}(h:NumO H p B v)(hB:B<=BB:=by first|exact Jag _|exact BB_of ⇑0):WfN H v:=by
 refine Zav h λx nv _ bd=>?_;clear h;by_cases hp:p=0
 .refine Zae (nv.ref hp) λt e96 ht=>?_;obtain rfl:=e96;refine wfn_tup ht (by show 2<=1000;decide) λu hu=>?_;simp only[Jbo,Jcf,Jee] at hu;rcases hu with rfl|rfl
  .exact ⟨Kn.int,λj e=>by cases e;exact Jbk (Ja4 bd.1 hB) BB_lt⟩
  .exact ⟨Kn.int,λj e=>by cases e;exact Jbk (Ja4 bd.2 hB) BB_lt⟩
 .obtain rfl:=nv.int hp;exact Zsu Kn.int (by intro a z;cases z)
theorem RowO.wf {H:Hp}{p wd:Int}{B:Nat}{a:Addr}(h:RowO H p B wd a)(w24:wd<=24)(hB:B<=BB:=by first|exact Jag _|exact BB_of ⇑0):WfR H (.ref a):=by
 refine Zav h λxs h1 h2 h3=>?_;clear h;exact⟨.lst h1 (oz56 w24 h2),λb ys e1 e2 y hy=>by cases e1;rw[h1] at e2;cases e2;exact (h3 y hy).wf hB⟩
theorem wfs_lst {H:Hp}{a:Addr}{xs:List V}(h:H a=some (.lst xs))(hl:xs.length<=1000)(hk:∀ y∈xs,WfR H y):Zh6 H (.ref a):=⟨.lst h hl,λb ys e1 e2 y hy=>by cases e1;rw[h] at e2;cases e2;exact hk y hy⟩
theorem wft_tup {H:Hp}{a:Addr}{xs:List V}(h:H a=some (.tup xs))(hl:xs.length<=1000)(hk:∀ y∈xs,Zh6 H y):WfT H (.ref a):=⟨.tup h hl,λb ys e1 e2 y hy=>by cases e1;rw[h] at e2;cases e2;exact hk y hy⟩
theorem Znj {H:Hp}{v:V}(h:Fl v):Zh6 H v:=⟨h.kn,λa xs e=>by subst e;rcases h with h|⟨_,h⟩|⟨_,h⟩|⟨_,h⟩ <;> cases h⟩
theorem fi {i:Int}:Fl (.int i):=.inr (.inr (.inl ⟨_,rfl⟩))
theorem fb {i:Bool}:Fl (.bl i):=.inr (.inl ⟨_,rfl⟩)
theorem Tab.wfs {H:Hp}{p hh wd:Int}{t r:Addr}{rs:List Addr}(h:Tab H p hh wd t r rs)(h24:hh<=24)(w24:wd<=24):Zh6 H (.ref r):=by
 have:=h.len;exact wfs_lst h.lst (by rw[Jab];exact oz56 h24 this) λy hy=>by obtain⟨a,ha,rfl⟩:=Jaz.mp hy;exact (h.row a ha).wf w24
theorem three {H:Hp}{x y z:V}(hx:Zh6 H x)(hy:Zh6 H y)(hz:Zh6 H z):∀ u∈[x,y,z],Zh6 H u:=λu hu=>by
 simp only[Jbo,Jcf,Jee] at hu;rcases hu with rfl|rfl|rfl
 .exact hx
 .exact hy
 .exact hz
theorem Tab.ext {l:Addr}{H H':Hp}{p hh wd:Int}{t r:Addr}{rs:List Addr}(h:Tab H p hh wd t r rs)(b:Bag H l)(e:Ext l H H')(nt:t≠l)(nr:r≠l)(ns:l∉rs):Tab H' p hh wd t r rs:=
 ⟨e _ _ nt h.tup,e _ _ nr h.lst,h.len,λa ha=>(h.row a ha).ext b e (λz=>ns (z ▸ ha)),h.nin⟩
theorem Tab.wft {H:Hp}{p hh wd:Int}{t r:Addr}{rs:List Addr}(h:Tab H p hh wd t r rs)(h24:hh<=24)(w24:wd<=24):WfT H (.ref t):=
 wft_tup h.tup (by show 3<=1000;decide) (three (Znj fi) (Znj fi) (h.wfs h24 w24))
theorem NumO.is {H:Hp}{p:Int}{B:Nat}{v:V}(h:NumO H p B v):Zn3 p H v=true:=by
 refine Zav h λx nv ix _=>?_;clear h;by_cases hp:p=0
 .refine Zae (nv.ref hp) λt e97 ht=>?_;obtain rfl:=e97;rw[Zq5 hp,Zof ht];rcases ix with ⟨_,lo⟩|⟨h,_⟩
  .have:=lo.1;rw[Jah (show 1<=x.2 by omega),Jah lo.2];rfl
  .omega
 .obtain rfl:=nv.int hp;rw[Zn2 hp];rcases ix with ⟨h,_⟩|⟨_,h1,h2,_⟩
  .exact absurd h hp
  .rw [Jah h1,Jah h2];rfl
theorem RowO.is {H:Hp}{p wd:Int}{B:Nat}{a:Addr}(h:RowO H p B wd a):Zpa p wd H (.ref a)=true:=by
 refine Zav h λxs h1 h2 h3=>?_;clear h;rw[Zqd h1,Jah h2,Jdh];exact Jbe.mpr λx hx=>(h3 x hx).is
theorem Tab.is {H:Hp}{p hh wd:Int}{t r:Addr}{rs:List Addr}(h:Tab H p hh wd t r rs)(h0:0<=hh)(w0:0<=wd):tabB p H (.ref t)=true:=by
 rw[Zle h.tup h.lst ∅ ∅,Jab,Jah h.len,Jdh];exact Jbe.mpr λy hy=>by obtain⟨a,ha,rfl⟩:=Jaz.mp hy;exact (h.row a ha).is
theorem Zfo {H:Hp}{n:Nat}{i:Int}:EqD K H n (.int i) (.int i) true:=by
 have:=EqD.flat (K:=K) (H:=H) (n:=n) (x:=.int i) (y:=.int i) rfl rfl;rwa [show eqV (.int i) (.int i)=true by simp[eqV]] at this
theorem rep_all (n:Nat):(List.replicate n true).all id=true:=by simp
theorem list_eq {H:Hp}{n:Nat}{a c:Addr}{xs ys:List V}(ha:H a=some (.lst xs))(hc:H c=some (.lst ys))(hl:xs.length=ys.length)(he:∀ (j:Nat) x y,xs[j]?=some x->ys[j]?=some y->EqD K H n x y true):EqD K H (n+1) (.ref a) (.ref c) true:=by
 by_cases h:a=c
 .subst h;exact EqD.same
 .have:=EqD.list (bs:=List.replicate xs.length true) h (SqL.of ha) (SqL.of hc) hl Ja8 (λj x y b e1 e2 e3=>by
   rw[Jby] at e3;split at e3
   .cases e3;exact he j x y e1 e2
   .cases e3)
  rwa [rep_all] at this
structure TabC (H:Hp)(p hh wd:Int)(t r:Addr)(rs:List Addr)(M:List (List V)):Prop where
 tab:Tab H p hh wd t r rs
 con:∀ (i:Nat) (a:Addr),rs[i]?=some a->H a=some (.lst (M.getD i []))
theorem TabC.same {H H':Hp}{p hh wd:Int}{t r:Addr}{rs:List Addr}{M:List (List V)}(h:TabC H p hh wd t r rs M)(s:Same H H'):TabC H' p hh wd t r rs M:=⟨h.tab.same s,λi a e=>s _ _ (h.con i a e)⟩
def Sizes (H:Hp)(z:Addr)(ns:List Int):Prop:=H z=some (.lst (ns.map V.int))/\ns.length<=8/\∀ n∈ns,0<=n/\n<=24
theorem Sizes.same {H H':Hp}{z:Addr}{ns:List Int}(h:Sizes H z ns)(s:Same H H'):Sizes H' z ns:=⟨s _ _ h.1,h.2⟩
def spSz (C:Addr):Sp:=λvs H Q _=>∃ (d z lp:Addr) (m:Int) (xs:List V) (ns:List Int),vs=[.ref d,.ref z]/\Zg1 C H d m lp xs/\Sizes H z ns/\(ns.length:Int)=m/\∀ H',Same H H'->Q (.bl true) H'
theorem ok_sz (F:Fun K "are_sizes" "are_sizes" Zgd f fd)(T:Txt K mg C G S)(Yab:Cal P w K mg base "is_whole" 1 Zg6):FnOk P w K mg base CX0 2 f fd ["drawing","thing"] (spSz C):=by
 have nd:=Zhx.nd;refine F.ok Zhx (λvs H Q E h=>?_) (λcdv A outer s H vs Q E hr h=>?_)
 .refine xE6_2 h λd z lp m xs ns e94 _=>?_;clear h;obtain rfl:=e94;rfl
 .refine Zlb h λd z lp m xs ns e95 e96 e97 e98=>?_;clear h;obtain rfl:=e95;obtain⟨dx,hd,hlp⟩:=e96;obtain⟨hz,h8,hn⟩:=e97;obtain⟨hm,q⟩:=e98;refine⟨_,((@Za6 _ _ _ _ _ _ _ _ (PW.pt (Zdf (Zbj (Zbs (Za9 Za5 rfl T.n_isinstance Jbg ((pvr 1)<&>((Zgf rfl T.n_list Jcl)<&>Zaa))))) (Zcf (Zam Zeu (Za9 Zau rfl T.n_len Jbd ((pvr 1)<&>Zaa)) (Zbl (pvr 0) rfl) (Zak _))))) (~~~Zc5) Zal)<*>(~~~(Za9 (Zcv rfl) rfl T.n_all Jdw ((Za3 (own:=["size"]) (fr:=[]) rfl (Zbn (by kernel_rfl)) (Zbc (pv 1)) (λ_ _ _ _=>⟨(0<<<["size"]),Zay,(Zf1 (Yab<$>hr<$>((pv 0)<&>Zaa)) (Zf0 (Zcg op_ge (pv 0) Zac (Zak _))))⟩))<&>Zaa)))),?_⟩;walk_at "wp";refine Zaq _ _ ⟨⟨rfl,rfl⟩,_,rfl,_,.lst hz,true,Zdi K,Zgg ⇑0 ⟨_,.inl (SqL.of hz),C,dx,_,hd,T.cl_Drawing,T.nM,_,Zgv m lp,rfl,Zgg ?_ ⟨_,rfl,z,rfl,⟨_,SqL.of hz⟩,λD hD=>Zgy (λ_=>true) hz hD (by rw[Jab];omega) (λk x H' Q' hx s' q'=>?_) λH' s' e'=>⟨D,rfl,_,SqL.of e',?_⟩⟩⟩⟩
  .rw [Jah (by rw[Jab,hm])];decide
  .rw [Jad] at hx;cases e:ns[k]? with
   | none=>rw[e] at hx;cases hx
   | some n=>
    rw[e] at hx;cases hx;have n0:=(hn n (Jae e)).1;refine⟨_,rfl,n,rfl,true,rfl,iteT ⟨_,rfl,_,_,rfl,rfl,?_⟩⟩;show Q' (V.bl (decide (0<=n))) H';rw[Jah n0];exact q' H' (Same.refl _)
  .rw [Zfp];exact q H' s'
def spTo (G:Addr):Sp:=λvs H Q _=>∃ (g t r:Addr) (p hh wd:Int) (rs:List Addr),vs=[.ref g,.int hh,.int wd,.ref t]/\GAt G H g p/\GroundP p/\Tab H p hh wd t r rs/\0<=hh/\hh<=24/\0<=wd/\wd<=24/\∀ H',Same H H'->Q (.bl true) H'
theorem ok_to (F:Fun K "is_table_of" "is_table_of" Zec f fd)(T:Txt K mg C G S)(Yam:Cal P w K mg base "is_table" 8 (Zpx G)):FnOk P w K mg base CX0 9 f fd ["ground","high","wide","thing"] (spTo G):=by
 have nd:=Zfw.nd;refine F.ok Zfw (λvs H Q E h=>?_) (λcdv A outer s H vs Q E hr h=>?_)
 .refine xE7_2 h λg t r p hh wd rs e99 _=>?_;clear h;obtain rfl:=e99;rfl
 .refine Zss h λg t r p hh wd rs e910 hg hp e911=>?_;clear h;obtain rfl:=e910;refine Zey e911 λtb h0 h24 w0 w24 q=>?_;clear e911;refine⟨_,(~~~(Zf1 (Yam<$>hr<$>((pvr 0)<&>((pvr 3)<&>Zaa))) (Zf1 (Zcg Zc7 ((Zgh Zat)<|>(pvr 3)<||>Zac) (pvr 1) (Zak _)) (Zf0 (Zcg Zc7 ((Zgh Zat)<|>(pvr 3)<||>Zac) (pvr 2) (Zak _)))))),?_⟩;walk_at "wp";exact Zcm g p (.ref t) ⟨rfl,hg,hp,tb.wft h24 w24,λH1 s1=>⟨_,rfl,Zrf (tb.is h0 w0) ⟨_,SqT.of (s1 _ _ tb.tup),_,rfl,rfl,Zrf (Jah rfl) ⟨_,SqT.of (s1 _ _ tb.tup),_,rfl,rfl,by rw[Jah rfl];exact q H1 s1⟩⟩⟩⟩
theorem Zvh {cap:L2.St}{a b c:Option V}:Sh 3 cap (a::b::c::cap):=⟨[a,b,c],rfl,rfl⟩
theorem Znr {cap σ:L2.St}(h:Sh 3 cap σ):∃ a b c,σ=a::b::c::cap:=by
 refine Zae h λo h1 e912=>?_;clear h;obtain rfl:=e912
 match o,h1 with
 | [a,b,c],_=>exact⟨a,b,c,rfl⟩
theorem Zok {ns:List Int}{i:Int}(h0:0<=i)(h1:i<ns.length):atI (ns.map V.int) i=some (.int (ns.getD i.toNat 0)):=by
 refine Zb0 h0 ?_;rw[Jad,Jac,Jaa (show i.toNat<ns.length by exact oz33 h0 h1)];rfl
def spTs (C G:Addr):Sp:=λvs H Q _=>∃ (g d z l lp:Addr) (p m:Int) (xs:List V) (ps:List (Int×Int)) (ns:List Int) (ts:List Addr),vs=[.ref g,.ref d,.ref z,.ref l]/\GAt G H g p/\GroundP p/\Zg1 C H d m lp xs/\Prs H xs ps/\InP m ps/\ps.length<=9/\Sizes H z ns/\(ns.length:Int)=m /\
 H l=some (.lst (ts.map V.ref))/\ts.length=ps.length/\(∀ (i:Nat) t q,ts[i]?=some t->ps[i]?=some q->∃ r rs,Tab H p (ns.getD q.2.toNat 0) (ns.getD q.1.toNat 0) t r rs)/\∀ H',Same H H'->Q (.bl true) H'
theorem ok_ts (F:Fun K "are_tables" "are_tables" Zfa f fd)(T:Txt K mg C G S)(Yau:Cal P w K mg base "is_table_of" 9 (spTo G)):FnOk P w K mg base CX0 10 f fd ["ground","drawing","sizes","thing"] (spTs C G):=by
 have nd:=Zgp.nd;refine F.ok Zgp (λvs H Q E h=>?_) (λcdv A outer s H vs Q E hr h=>?_)
 .refine xE11_2 h λg d z l lp p m xs ps ns ts e913 _=>?_;clear h;obtain rfl:=e913;rfl
 .refine xE11_4 h λg d z l lp p m xs ps ns ts e914 hg hp e915=>?_;clear h;obtain rfl:=e914;refine Zpm e915 λe916 pr ip p9 hz hm hl hlen tb q=>?_;clear e915;obtain⟨dx,hd,hlp⟩:=e916;refine⟨_,((@Za6 _ _ _ _ _ _ _ _ (PW.pt (Zdf (Zbj (Zbs (Za9 Za5 rfl T.n_isinstance Jbg ((pvr 3)<&>((Zgf rfl T.n_list Jcl)<&>Zaa))))) (Zcf (Zam Zeu (Za9 Zau rfl T.n_len Jbd ((pvr 3)<&>Zaa)) (Za9 Zau rfl T.n_len Jbd ((Zbl (pvr 1) rfl)<&>Zaa)) (Zak _))))) (~~~Zc5) Zal)<*>(~~~(Za9 (Zcv rfl) rfl T.n_all Jdw ((Za3 (own:=["tail","head","table"]) (fr:=[("ground",0),("sizes",2)]) rfl (Zbn (by kernel_rfl)) (Zh2 rfl T.n_zip ((Zd1 (pv 1) rfl)<&>((pv 3)<&>Zaa))) (λ_ _ _ _=>⟨(@Zcq _ K rfl _ _ _ _ 2 rfl ((@Zcq _ K rfl _ _ _ _ 2 rfl ((0<<<["tail","head","table","ground","sizes"])^^^((1<<<["tail","head","table","ground","sizes"])^^^(@Za0 _))) ⇑1 ⇑1)^^^((2<<<["tail","head","table","ground","sizes"])^^^(@Za0 _))) ⇑1 ⇑1),Zay,(Yau<$>hr<$>((pv 3)<&>(((Zch K rfl)<|>(pv 4)<||>(pv 1))<&>(((Zch K rfl)<|>(pv 4)<||>(pv 0))<&>((pv 2)<&>Zaa)))))⟩))<&>Zaa)))),?_⟩;walk_at "wp";have hxl:=pr.1;refine Zaq _ _ ⟨⟨rfl,rfl⟩,_,rfl,_,.lst hl,true,Zdi K,Zgg ⇑0 ⟨_,.inl (SqL.of hl),C,dx,_,hd,T.cl_Drawing,T.nA,_,Zdk m lp,lp,rfl,_,.inl (SqL.of hlp),Zgg ?_ ?_⟩⟩
  .rw [Jah (by rw[Jab];omega)];decide
  .refine ⟨_,rfl,d,C,dx,_,_,rfl,hd,T.cl_Drawing,T.nA,Zdk m lp,_,rfl,lp,l,rfl,⟨_,SqL.of hlp⟩,⟨_,SqL.of hl⟩,λD hD=>?_⟩;refine Zii (k:=3) (xs:=xs) (ys:=ts.map V.ref) (λi vs H'=>Same H H'/\H' D=some (.lst vs)/\vs=((List.range i).map λ_=>true).map V.bl) (by rw[Jab];exact oz42 hlen hxl) ⟨Same.new hD,Zab,rfl⟩ (λi vs H' _ pv=>⟨SqL.of (pv.1 _ _ hlp),SqL.of (pv.1 _ _ hl)⟩) ?_ ?_
   .intro i x y pz vs σ' H' hi hx hy hpz sh e91;refine Za2 e91 λs' e' e917=>?_;clear e91;obtain rfl:=e917;refine xE3_1 (Znr sh) λz1 z2 z3 e918=>?_;obtain rfl:=e918;have hi':i<ps.length:=by exact Zc0 hxl hi
    have hq:ps[i]?=some ps[i]:=Jaa hi';refine Zae (pr.2 i x _ hx hq) λta e919 hta=>?_;obtain rfl:=e919;have hti:ts[i]?=some (ts[i]'(oz44 hlen hxl hi)):=Jaa (oz44 hlen hxl hi);rw[Jad,hti] at hy;cases hy;refine Zex (tb i _ _ hti hq) λr rs tb1=>?_;refine Zcb (ip _ (Jae hq)) λi0 i1 j0 j1=>?_;have s0:=s'.trans (Same.new (o:=.tup [V.ref ta,V.ref (ts[i]'(oz8 hlen hi'))]) hpz);have hz0:=hz.same s0;have a1:=Zok (ns:=ns) i0 ∅;have a2:=Zok (ns:=ns) j0 ∅;have b1:=hz.2.2 (ns.getD ps[i].1.toNat 0) (by rw[Jac,Jaa (show ps[i].1.toNat<ns.length by exact oz76 hm i0 i1)];exact Jap _);have b2:=hz.2.2 (ns.getD ps[i].2.toNat 0) (by rw[Jac,Jaa (show ps[i].2.toNat<ns.length by exact oz76 hm j0 j1)];exact Jap _);refine Zaq pz _ ⟨rfl,SqT.of Zab,rfl,_,_,rfl,ta,_,rfl,SqT.of (s0 _ _ hta),rfl,_,_,rfl,_,_,rfl,rfl,_,_,rfl,rfl,?_⟩;simp only[Zew,List.set_cons_zero,List.set_cons_succ,Jca];refine⟨_,rfl,_,rfl,_,rfl,z,_,_,_,rfl,rfl,SqL.of hz0.1,a2,_,rfl,_,rfl,z,_,_,_,rfl,rfl,SqL.of hz0.1,a1,_,rfl,g,_,r,p,_,_,rs,rfl,hg.same s0,hp,tb1.same s0,b2.1,b2.2,b1.1,b1.2,λH'' s''=>?_⟩;have s1:=(Same.new (o:=.tup [V.ref ta,V.ref (ts[i]'(oz8 hlen hi'))]) hpz).trans s'';exact Zky (ws:=((List.range (i+1)).map λ_=>true).map V.bl) hi Zvh (s1 _ _ e') (Zas (by rw[Jab,Jab,Jal];exact oz171 p9 hi')) ⟨(s'.trans s1).upd hD,by rw[Zab,Jce,Jbb,Jbb];rfl,rfl⟩
   .intro vs H' e92;refine Za2 e92 λs' e' e920=>?_;clear e92;obtain rfl:=e920;exact⟨D,rfl,_,SqL.of e',by rw[Zfp];exact q H' s'⟩
def TabF (H0 H:Hp)(p hh wd:Int)(t:Addr)(M:List (List V)):Prop:=∃ r rs,TabC H p hh wd t r rs M/\H0 t=none/\H0 r=none/\∀ a∈rs,H0 a=none
def Tbs (H:Hp)(p:Int)(l:Addr)(ts:List Addr)(cs:List (Int×Int×List (List V))):Prop:=H l=some (.lst (ts.map V.ref))/\ts.length=cs.length/\cs.length<=9/\∀ (i:Nat) t c,ts[i]?=some t->cs[i]?=some c->(∃ r rs,TabC H p c.1 c.2.1 t r rs c.2.2)/\0<=c.1/\c.1<=24/\0<=c.2.1/\c.2.1<=24
theorem TabC.put {H:Hp}{p hh wd:Int}{t r D:Addr}{rs:List Addr}{M:List (List V)}{l:List V}{o:HO}(h:TabC H p hh wd t r rs M)(hD:H D=some (.lst l))(nr:r≠D)(ns:D∉rs):TabC (upd H D o) p hh wd t r rs M:=by
 have nt:t≠D:=Zdh h.tab.tup hD (by intro z;cases z);have na:∀ a∈rs,a≠D:=λa ha z=>ns (z ▸ ha);exact⟨⟨by rw[Zaj nt];exact h.tab.tup,by rw[Zaj nr];exact h.tab.lst,h.tab.len,λa ha=>(h.tab.row a ha).put hD (na a ha),h.tab.nin⟩,λi a e=>by rw[Zaj (na a (Jae e))];exact h.con i a e⟩
abbrev teRow (K:Frag):TE:=tCB (λxs H Q=>∃ p,xs=[V.ref p]/\∃ x,(SqL K H p x\/SqT K H p x)/\∀ (l:Addr),H l=none->Q (V.ref l) (upd H l (HO.lst x))) (Zf4 (Zg5 0) Zsm)
abbrev teTab (K:Frag):TE:=tTup (Zf4 (Zg5 0) (Zf4 (Zg5 1) (Zf4 (tComp 1 [] (Zru K (Zg5 2)) (Zbe 0) Zew (teRow K)) Zsm)))
theorem Zr7 {r D:Addr}{rs:List Addr}{M:List (List V)}{fr:List (Str×Nat)}{σ:L2.St}{H1:Hp}{Q:VK}(hr:H1 r=some (.lst (rs.map V.ref)))(hc:∀ (i:Nat) (a:Addr),rs[i]?=some a->H1 a=some (.lst (M.getD i [])))(hn:rs.length<=100)(hD:H1 D=none)(hQ:∀ (rs':List Addr) H',Same H1 H'->H' D=some (.lst (rs'.map V.ref))->rs'.length=rs.length->(∀ (i:Nat) (a:Addr),rs'[i]?=some a->H' a=some (.lst (M.getD i [])))->(∀ a∈rs',H1 a=none/\a≠D)->rs'.Nodup->Q (.ref D) H'):
  Zbu (Zbe 0) Zew (teRow K) (Itl K r) D (Zg2 1 fr σ) H1 Q:=by
 refine Zei (xs:=rs.map V.ref) (λi vs H=>∃ rs':List Addr,vs=rs'.map V.ref/\Same H1 H/\H D=some (.lst vs)/\rs'.length=i/\(∀ (j:Nat) (a:Addr),rs'[j]?=some a->H a=some (.lst (M.getD j [])))/\(∀ a∈rs',H1 a=none/\a≠D)/\rs'.Nodup)
  ⟨[],rfl,Same.new hD,Zab,rfl,λj a e=>by simp at e,(λa ha=>by simp at ha),List.nodup_nil⟩ (λi vs H _ ⟨_,_,s,_⟩=>SqL.of (s _ _ hr)) ?_ (λvs H ⟨rs',hv,s,e,hl,hc',fr',nd'⟩=>hQ rs' H s (hv ▸ e) (by rw[hl,Jab]) hc' fr' nd')
 intro i x vs σ' H hi hx sh e91;refine Zst e91 λrs' e93 s e hl hc' e94=>?_;clear e91;obtain rfl:=e93;obtain⟨fr',nd'⟩:=e94;obtain⟨z,rfl⟩:=sh.one;rw[Jab] at hi;rw[Zgt hi] at hx;cases hx;have ha:=s _ _ (hc i _ (Jaa hi));simp only[Zfq,Zbe,Zew,List.set_cons_zero,Jca];refine⟨_,rfl,_,rfl,_,.inl (SqL.of ha),λc hc0=>?_⟩;have nDc:D≠c:=Zah e hc0;have hDc:(upd H c (.lst (M.getD i []))) D=some (.lst (rs'.map V.ref)):=by rw[Zaj nDc];exact e
 have sc:=s.trans (Same.new (o:=.lst (M.getD i [])) hc0);refine Zky (ws:=rs'.map V.ref++[.ref c]) (by rw[Jab];exact hi) Sh.mk1 hDc (Zas (by rw[Jab];omega)) ⟨rs'++[c],Zba _ _,sc.upd hD,by rw[Zab,Zba],by rw[Jaj,hl];rfl,λj a ej=>?_,λa ha=>?_,?_⟩
 .by_cases hj:j<rs'.length
  .rw [Jao hj] at ej;have:=hc' j a ej;have naD:=(fr' a (Jae ej)).2;rw[Zaj naD,Zaj (Zah this hc0)];exact this
  .rw [Jam (Zlo hj)] at ej;have hj0:j-rs'.length=0:=by
    by_cases z:j-rs'.length=0
    .exact z
    .rw [Jak (by simp;exact oz6 z)] at ej;cases ej
   rw[hj0] at ej;cases ej;rw[Zaj nDc.symm,Zab,show j=i by exact oz3 hl hj hj0]
 .rcases Jba.mp ha with ha|ha
  .exact fr' a ha
  .rw [Ja3.mp ha];exact⟨s.free hc0,nDc.symm⟩
 .refine Jeb.mpr ⟨nd',by simp,λa ha b hb z=>?_⟩;rw[Ja3.mp hb] at z;subst z;obtain⟨j,hj,rfl⟩:=Ja1.mp ha;have:=hc' j _ (Jaa hj);rw[hc0] at this;cases this
def Sep (H:Hp)(D:Addr)(ts:List Addr):Prop:=∃ rr:List (Addr×List Addr),rr.length=ts.length/\(∀ (i:Nat) t x,ts[i]?=some t->rr[i]?=some x->(∃ h w:V,H t=some (.tup [h,w,.ref x.1]))/\H x.1=some (.lst (x.2.map V.ref)))/\(∀ x∈rr,x.1≠D/\D∉x.2)/\(∀ x∈rr,∀ y∈rr,x.1∉y.2)/\(rr.map (·.2)).flatten.Nodup
theorem Zr6 {l D:Addr}{p:Int}{ts:List Addr}{cs:List (Int×Int×List (List V))}{fr:List (Str×Nat)}{σ:L2.St}{H1:Hp}{Q:VK}(hT:Tbs H1 p l ts cs)(hD:H1 D=none)(hQ:∀ (ts':List Addr) H',Same H1 H'->H' D=some (.lst (ts'.map V.ref))->ts'.length=cs.length->(∀ (i:Nat) t c,ts'[i]?=some t->cs[i]?=some c->TabF H1 H' p c.1 c.2.1 t c.2.2)->Sep H' D ts'->Q (.ref D) H'):
  Zbu (Zpb K 3 (Zgu (Zbe 0) (Zgu (Zbe 1) (Zgu (Zbe 2) Zsp)))) Zew (teTab K) (Itl K l) D (Zg2 3 fr σ) H1 Q:=by
 refine Zcb hT λhl hlen h9 hc=>?_;clear hT;refine Zei (k:=3) (xs:=ts.map V.ref) (λi vs H=>∃ (ts':List Addr) (rr:List (Addr×List Addr)),vs=ts'.map V.ref/\Same H1 H/\H D=some (.lst vs)/\ts'.length=i/\rr.length=i/\((∀ x∈rr,∀ y∈rr,x.1∉y.2)/\(rr.map (·.2)).flatten.Nodup)/\(∀ x∈rr,x.1≠D/\D∉x.2/\(∃ o,H x.1=some o)/\∀ a∈x.2,∃ o,H a=some o)/\∀ (j:Nat) t c x,ts'[j]?=some t->cs[j]?=some c->rr[j]?=some x->TabC H p c.1 c.2.1 t x.1 x.2 c.2.2/\H1 t=none/\H1 x.1=none/\∀ a∈x.2,H1 a=none)
  ⟨[],[],rfl,Same.new hD,Zab,rfl,rfl,⟨by simp,by simp⟩,by simp,λj t c x e=>by simp at e⟩ (λi vs H _ ⟨_,_,_,s,_⟩=>SqL.of (s _ _ hl)) ?_ (λvs H ⟨ts',rr,hv,s,e,hl',hrr,sp,sD,hc'⟩=>?_)
 rotate_left
 .have hrl:rr.length=ts'.length:=by exact oz24 hl' hrr
  have htl:ts'.length=cs.length:=by rw[hl',Jab,hlen]
  refine hQ ts' H s (hv ▸ e) htl (λi t c e1 e2=>?_) ⟨rr,hrl,λi t x e1 e2=>?_,λx hx=>⟨(sD x hx).1,(sD x hx).2.1⟩,sp⟩
  .have hi:i<rr.length:=by have:=(Jaf.mp e1).1;exact oz9 hl' hrr this
   refine Zcb (hc' i t c _ e1 e2 (Jaa hi)) λa1 a2 a3 a4=>?_;exact Zaq _ _ ⟨a1,a2,a3,a4⟩
  .have hi:i<cs.length:=by have:=(Jaf.mp e1).1;exact Zc0 htl this
   obtain⟨a1,_⟩:=hc' i t _ x e1 (Jaa hi) e2;exact⟨⟨_,_,a1.tab.tup⟩,a1.tab.lst⟩
 intro i x vs σ' H hi hx sh e92;refine Zh7 e92 λts' rr e95 s e hl' hrr e96=>?_;clear e92;obtain rfl:=e95;refine Za2 e96 λsp sD hc'=>?_;clear e96;refine xE3_1 (Znr sh) λz1 z2 z3 e97=>?_;obtain rfl:=e97;rw[Jab] at hi;rw[Zgt hi] at hx;cases hx;have hci:cs[i]?=some (cs[i]'(Zc0 hlen hi)):=Jaa (Zc0 hlen hi);refine Zc3 (hc i _ _ (Jaa hi) hci) λe98 c0 c24 w0 w24=>?_;obtain⟨r,rs,tc⟩:=e98;have tcH:=tc.same s;have hrl:=tc.tab.len;refine Zaq _ _ ⟨rfl,SqT.of tcH.tab.tup,rfl,_,_,rfl,_,_,rfl,_,_,rfl,rfl,?_⟩;simp only[Zew,List.set_cons_zero,List.set_cons_succ,Jca];refine⟨_,rfl,_,rfl,_,rfl,r,rfl,⟨_,SqL.of tcH.tab.lst⟩,λD2 hD2=>Zr7 (M:=(cs[i]'(Zc0 hlen hi)).2.2) tcH.tab.lst tcH.con ∅ hD2 λrs' H' s' hD2' hl2 hc2 fr2 nd2=>?_⟩;refine⟨by show 3<=sizeLine;decide,λpt hpt=>?_⟩;have s0:=Same.new (o:=.tup [V.int (cs[i]'(Zc0 hlen hi)).1,V.int (cs[i]'(Zc0 hlen hi)).2.1,V.ref D2]) hpt;have s1:=s'.trans s0;have sA:=s.trans s1;have hDpt:=s1 _ _ e;have nDp:D≠pt:=Zah (s' _ _ e) hpt;have nD2:D2≠D:=λz=>by rw[z,e] at hD2;cases hD2
 have nDr:D∉rs':=λz=>by have:=(fr2 D z).1;rw[e] at this;cases this
 have tcN:TabC (upd H' pt (.tup [V.int (cs[i]'(Zc0 hlen hi)).1,V.int (cs[i]'(Zc0 hlen hi)).2.1,V.ref D2])) p (cs[i]'(Zc0 hlen hi)).1 (cs[i]'(Zc0 hlen hi)).2.1 pt D2 rs' (cs[i]'(Zc0 hlen hi)).2.2:=by
  refine⟨⟨Zab,s0 _ _ hD2',∅,λa ha=>?_,λz=>(fr2 D2 z).2 rfl⟩,λj a ej=>s0 _ _ (hc2 j a ej)⟩;obtain⟨j,hj,rfl⟩:=Ja1.mp ha;have hj':j<rs.length:=by exact Zc0 hl2 hj
  refine Zav (tcH.tab.row rs[j] (Jap hj')) λys hy hyl hyn=>?_;rw[tcH.con j _ (Jaa hj')] at hy;cases hy;exact⟨_,s0 _ _ (hc2 j _ (Jaa hj)),hyl,λy hy=>(hyn y hy).same s1⟩
 have sep':∀ x∈rr++[(D2,rs')],∀ y∈rr++[(D2,rs')],x.1∉y.2:=λx hx y hy z=>by
  rcases Jba.mp hx with hx|hx <;> rcases Jba.mp hy with hy|hy
  .exact sp.1 x hx y hy z
  .rw [Ja3.mp hy] at z;obtain⟨o,ho⟩:=(sD x hx).2.2.1;have:=(fr2 x.1 z).1;rw[ho] at this;cases this
  .rw [Ja3.mp hx] at z;obtain⟨o,ho⟩:=(sD y hy).2.2.2 _ z;rw[hD2] at ho;cases ho
  .rw [Ja3.mp hx,Ja3.mp hy] at z;exact (fr2 D2 z).2 rfl
 have nodup':((rr++[(D2,rs')]).map (·.2)).flatten.Nodup:=by
  rw[Jbb,List.flatten_append];refine Jeb.mpr ⟨sp.2,by simpa using nd2,λa ha b hb z=>?_⟩;subst z;refine Zae (List.mem_flatten.mp ha) λu hu hau=>?_;refine Zae (Jaz.mp hu) λy hy e99=>?_;obtain rfl:=e99;obtain⟨o,ho⟩:=(sD y hy).2.2.2 a hau;have:=(fr2 a (by simpa using hb)).1;rw[ho] at this;cases this
 refine Zky (ws:=ts'.map V.ref++[.ref pt]) (by rw[Jab];exact hi) Zvh hDpt (Zas (by rw[Jab];exact oz105 hlen h9 hi hl')) ⟨ts'++[pt],rr++[(D2,rs')],Zba _ _,sA.upd hD,by rw[Zab,Zba],by rw[Jaj,hl'];rfl,by rw[Jaj,hrr];rfl,⟨sep',nodup'⟩,λx hx=>?_,λj t c x e1 e2 e3=>?_⟩
 .have keep:∀ b o,b≠D->(upd H' pt (.tup [V.int (cs[i]'(Zc0 hlen hi)).1,V.int (cs[i]'(Zc0 hlen hi)).2.1,V.ref D2])) b=some o->∀ o',(upd (upd H' pt (.tup [V.int (cs[i]'(Zc0 hlen hi)).1,V.int (cs[i]'(Zc0 hlen hi)).2.1,V.ref D2])) D o') b=some o:=λb o nb h o'=>by rw[Zaj nb];exact h
  rcases Jba.mp hx with hx|hx
  .refine Zcb (sD x hx) λx1 x2 e910 x4=>?_;obtain⟨o,ho⟩:=e910;refine⟨x1,x2,⟨o,keep _ _ x1 (s1 _ _ ho) _⟩,λa ha=>?_⟩;obtain⟨o,ho⟩:=x4 a ha;exact⟨o,keep _ _ (λz=>x2 (z ▸ ha)) (s1 _ _ ho) _⟩
  .rw [Ja3.mp hx];refine⟨nD2,nDr,⟨_,keep _ _ nD2 tcN.tab.lst _⟩,λa ha=>?_⟩;refine Zae (tcN.tab.row a ha) λys hy _=>?_;exact⟨_,keep _ _ (λz=>nDr (z ▸ ha)) hy _⟩
 by_cases hj:j<ts'.length
 .rw [Jao hj] at e1;rw[Jao (oz9 hl' hrr hj)] at e3;refine Zcb (hc' j t c x e1 e2 e3) λa1 a2 a3 a4=>?_;refine Za2 (sD x (Jae e3)) λa5 a6 _=>?_;exact⟨(a1.same s1).put hDpt a5 a6,a2,a3,a4⟩
 .rw [Jam (Zlo hj)] at e1;rw[Jam (oz129 hl' hrr hj)] at e3;have hj0:j-ts'.length=0:=by
   by_cases z:j-ts'.length=0
   .exact z
   .rw [Jak (by simp;exact oz6 z)] at e1;cases e1
  rw[show j-rr.length=0 by exact oz51 hl' hrr hj0] at e3;rw[hj0] at e1;cases e1;cases e3;have hji:j=i:=by exact oz3 hl' hj hj0
  subst hji;rw[hci] at e2;cases e2;exact⟨tcN.put hDpt nD2 nDr,(s.trans s').free hpt,s.free hD2,λa ha=>s.free (fr2 a ha).1⟩
theorem NumO.extI {x C0 dx:Addr}{fs:List (Str×V)}{H H':Hp}{p:Int}{B:Nat}{v:V}(h:NumO H p B v)(hx:H x=some (.ins C0 dx fs))(e:Ext x H H'):NumO H' p B v:=by
 refine Zav h λy nv b c=>?_;clear h;refine⟨y,?_,b,c⟩;by_cases hp:p=0
 .refine Zae (nv.ref hp) λt e911 ht=>?_;obtain rfl:=e911;exact NumV.tup hp (e _ _ (Zdh ht hx (by intro z;cases z)) ht)
 .obtain rfl:=nv.int hp;exact NumV.of hp
theorem TabC.extI {x C0 dx:Addr}{fs:List (Str×V)}{H H':Hp}{p hh wd:Int}{t r:Addr}{rs:List Addr}{M:List (List V)}(h:TabC H p hh wd t r rs M)(hx:H x=some (.ins C0 dx fs))(e:Ext x H H'):TabC H' p hh wd t r rs M:=by
 refine⟨⟨e _ _ (Zdh h.tab.tup hx (by intro z;cases z)) h.tab.tup,e _ _ (Zdh h.tab.lst hx (by intro z;cases z)) h.tab.lst,h.tab.len,λa ha=>?_,h.tab.nin⟩,λi a ei=>e _ _ (Zdh (h.con i a ei) hx (by intro z;cases z)) (h.con i a ei)⟩;refine Zav (h.tab.row a ha) λys h1 h2 h3=>?_;exact⟨ys,e _ _ (Zdh h1 hx (by intro z;cases z)) h1,h2,λy hy=>(h3 y hy).extI hx e⟩
theorem Tbs.extI {x C0 dx:Addr}{fs:List (Str×V)}{H H':Hp}{p:Int}{l:Addr}{ts:List Addr}{cs:List (Int×Int×List (List V))}(h:Tbs H p l ts cs)(hx:H x=some (.ins C0 dx fs))(e:Ext x H H'):Tbs H' p l ts cs:=
 ⟨e _ _ (Zdh h.1 hx (by intro z;cases z)) h.1,h.2.1,h.2.2.1,λi t c e1 e2=>let ⟨⟨r,rs,a⟩,b⟩:=h.2.2.2 i t c e1 e2;⟨⟨r,rs,a.extI hx e⟩,b⟩⟩
theorem Tbs.same {H H':Hp}{p:Int}{l:Addr}{ts:List Addr}{cs:List (Int×Int×List (List V))}(h:Tbs H p l ts cs)(s:Same H H'):Tbs H' p l ts cs:=
 ⟨s _ _ h.1,h.2.1,h.2.2.1,λi t c e1 e2=>let ⟨⟨r,rs,a⟩,b⟩:=h.2.2.2 i t c e1 e2;⟨⟨r,rs,a.same s⟩,b⟩⟩
def Zin (g d z l:Addr):List (Str×V):=Zct "tables" (.ref l) (Zct "sizes" (.ref z) (Zct "drawing" (.ref d) (Zct "ground" (.ref g) [])))
theorem Zli (g d z l:Addr):(Zin g d z l).lookup ("tables" : Str)=some (.ref l):=by unfold Zin;rw[Za1,if_pos rfl]
theorem Zif (g d z l:Addr):(Zin g d z l).lookup ("sizes" : Str)=some (.ref z):=by unfold Zin;rw[Za1,if_neg ⋯,Za1,if_pos rfl]
theorem Zdy (g d z l:Addr):(Zin g d z l).lookup ("drawing" : Str)=some (.ref d):=by unfold Zin;rw[Za1,if_neg ⋯,Za1,if_neg ⋯,Za1,if_pos rfl]
theorem Ze0 (g d z l:Addr):(Zin g d z l).lookup ("ground" : Str)=some (.ref g):=by unfold Zin;rw[Za1,if_neg ⋯,Za1,if_neg ⋯,Za1,if_neg ⋯,Za1,if_pos rfl]
def Fits (ns:List Int)(cs:List (Int×Int×List (List V)))(ps:List (Int×Int)):Prop:=cs.length=ps.length/\∀ (i:Nat) c q,cs[i]?=some c->ps[i]?=some q->c.1=ns.getD q.2.toNat 0/\c.2.1=ns.getD q.1.toNat 0
def spSI (S C G:Addr):Sp:=λvs H Q _=>∃ (x dx g d z l lp:Addr) (p m:Int) (xs:List V) (ps:List (Int×Int)) (ns:List Int) (ts:List Addr) (cs:List (Int×Int×List (List V))),vs=[.ref x,.ref g,.ref d,.ref z,.ref l]/\H x=some (.ins S dx [])/\GAt G H g p/\GroundP p /\
 Zg1 C H d m lp xs/\Prs H xs ps/\InP m ps/\ps.length<=9/\Sizes H z ns/\(ns.length:Int)=m/\Tbs H p l ts cs/\Fits ns cs ps /\
 ∀ (z' l':Addr) (ts':List Addr) (H':Hp),Ext x H H'->H' x=some (.ins S dx (Zin g d z' l'))->H z'=none->H l'=none->Sizes H' z' ns->H' l'=some (.lst (ts'.map V.ref))->ts'.length=cs.length->(∀ (i:Nat) t c,ts'[i]?=some t->cs[i]?=some c->TabF H H' p c.1 c.2.1 t c.2.2)->Q .non H'
theorem Ztw (F:Fun K "__init__" "Standing.__init__" Zde f fd)(T:Txt K mg C G S)(Ybn:Cal P w K mg base "are_sizes" 2 (spSz C))(Ybl:Cal P w K mg base "are_tables" 10 (spTs C G)):FnOk P w K mg base CX0 11 f fd ["self","ground","drawing","sizes","tables"] (spSI S C G):=by
 have nd:=Zep.nd;refine F.ok Zep (λvs H Q E h=>?_) (λcdv A outer s H vs Q E hr h=>?_)
 .refine Zpl h λx dx g d z l lp p m xs ps ns ts cs e912 _=>?_;clear h;obtain rfl:=e912;rfl
 .refine Zpk h λx dx g d z l lp p m xs ps ns ts cs e913 hx hg e914=>?_;clear h;obtain rfl:=e913;refine Zpm e914 λhp hd pr ip p9 hz hm hT ft q=>?_;clear e914;refine⟨_,((@Za6 _ _ _ _ _ _ _ _ (PW.pt (Zdf (Zbj (Zbs (Ybn<$>hr<$>((pvr 2)<&>((pvr 3)<&>Zaa))))) (Zcf (Zbj (Zbs (Ybl<$>hr<$>((pvr 1)<&>((pvr 2)<&>((pvr 3)<&>((pvr 4)<&>Zaa)))))))))) (@Zan _ _ _ Zcu) Zal)<*>((Zje (pvr 0) (pvr 1) rfl)<*>((Zje (pvr 0) (pvr 2) rfl)<*>((Zje (pvr 0) (Zjg Zbz rfl T.n_list Jcl ((pvr 3)<&>Zaa)) rfl)<*>(@Zan _ _ _ (Zje (pvr 0) (Za3 (own:=["high","wide","rows"]) (fr:=[]) rfl (Zbn (by kernel_rfl)) (Zbc (pv 4)) (λ_ _ _ _=>⟨(@Zcq _ K rfl _ _ _ _ 3 rfl ((0<<<["high","wide","rows"])^^^((1<<<["high","wide","rows"])^^^((2<<<["high","wide","rows"])^^^(@Za0 _)))) ⇑1 ⇑1),Zay,(@Zaw _ _ _ _ _ ((pv 0)<&>((pv 1)<&>((Za3 (own:=["row"]) (fr:=[]) rfl (Zbn (by kernel_rfl)) (Zkr K rfl (pv 2)) (λ_ _ _ _=>⟨(0<<<["row"]),Zay,(Zjg (Zgz K rfl) rfl T.n_list Jcl ((pv 0)<&>Zaa))⟩))<&>Zaa))))⟩)) rfl)))))),?_⟩;walk_at "wp";refine Zsr d z lp m xs ns ⟨rfl,hd,hz,hm,λH1 s1=>⟨true,rfl,Zgg ⇑0 ?_⟩⟩;have hT1:=hT;refine Zcb hT λhl hlen h9 hc=>?_;clear hT;refine Zae hd λdxd hd1 hd2=>?_;clear hd;refine xI11_1 g d z l lp p m xs ps ns ts ⟨rfl,hg.same s1,hp,⟨dxd,s1 _ _ hd1,s1 _ _ hd2⟩,pr.same s1,ip,p9,hz.same s1,hm,s1 _ _ hl,by rw[hlen,ft.1],λi t q' e1 e2=>?_,λH2 s2=>⟨true,rfl,Zgg ⇑0 ?_⟩⟩
  .have hi:i<ps.length:=(Jaf.mp e2).1;have hci:cs[i]?=some (cs[i]'(by have:=ft.1;exact Zh3 hi this)):=Jaa _;obtain⟨⟨r,rs,tc⟩,_⟩:=hc i t _ e1 hci;obtain⟨f1,f2⟩:=ft.2 i _ _ hci e2;rw[<- f1,<- f2];exact⟨r,rs,tc.tab.same s1⟩
  .have s12:=s1.trans s2;have hx2:=s12 _ _ hx;have nzx:z≠x:=Zdh hz.1 hx (by intro w;cases w);refine Zcm S dx [] ⟨hx2,T.cl_Standing,T.nSg,by show 0<1000;decide,S,dx,_,Zab,T.cl_Standing,T.nSd,by have l1:=Zca "ground" (.ref g) [];simp at l1;omega,_,.inl (SqL.of (by rw[Zaj nzx,Zaj nzx];exact s12 _ _ hz.1)),λl1 hl1=>?_⟩;have nxl:x≠l1:=Zah Zab hl1;have f1:H l1=none:=by
    rw[Zaj nxl.symm,Zaj nxl.symm] at hl1;exact s12.free hl1
   have g1:=Zca "ground" (.ref g) [];have g2:=Zca "drawing" (.ref d) (Zct "ground" (.ref g) []);have g3:=Zca "sizes" (.ref l1) (Zct "drawing" (.ref d) (Zct "ground" (.ref g) []));simp only[List.length_nil] at g1;refine Zcm S dx _ ⟨by rw[Zaj nxl];exact Zab,T.cl_Standing,T.nSs,∅,?_⟩;have e6:Ext x H (upd (upd (upd (upd H2 x (.ins S dx (Zct "ground" (.ref g) []))) x (.ins S dx (Zct "drawing" (.ref d) (Zct "ground" (.ref g) [])))) l1 (.lst (ns.map V.int))) x (.ins S dx (Zct "sizes" (.ref l1) (Zct "drawing" (.ref d) (Zct "ground" (.ref g) []))))):=λb o nb eb=>by
    rw[Zaj nb,Zaj (Zah eb f1),Zaj nb,Zaj nb];exact s12 _ _ eb
   have hx6:(upd (upd (upd (upd H2 x (.ins S dx (Zct "ground" (.ref g) []))) x (.ins S dx (Zct "drawing" (.ref d) (Zct "ground" (.ref g) [])))) l1 (.lst (ns.map V.int))) x (.ins S dx (Zct "sizes" (.ref l1) (Zct "drawing" (.ref d) (Zct "ground" (.ref g) []))))) x=some (.ins S dx (Zct "sizes" (.ref l1) (Zct "drawing" (.ref d) (Zct "ground" (.ref g) [])))):=Zab;have hl6:(upd (upd (upd (upd H2 x (.ins S dx (Zct "ground" (.ref g) []))) x (.ins S dx (Zct "drawing" (.ref d) (Zct "ground" (.ref g) [])))) l1 (.lst (ns.map V.int))) x (.ins S dx (Zct "sizes" (.ref l1) (Zct "drawing" (.ref d) (Zct "ground" (.ref g) []))))) l1=some (.lst (ns.map V.int)):=by rw[Zaj nxl.symm];exact Zab
   generalize upd (upd (upd (upd H2 x (.ins S dx (Zct "ground" (.ref g) []))) x (.ins S dx (Zct "drawing" (.ref d) (Zct "ground" (.ref g) [])))) l1 (.lst (ns.map V.int))) x (.ins S dx (Zct "sizes" (.ref l1) (Zct "drawing" (.ref d) (Zct "ground" (.ref g) []))))=H6 at *;have fr6:∀ b,H6 b=none->H b=none:=λb hb=>by
    cases eb:H b with
    | none=>rfl
    | some o=>
     by_cases nb:b=x
     .rw [nb,hx6] at hb;cases hb
     .rw [e6 b o nb eb] at hb;cases hb
   have hT6:=hT1.extI hx e6;refine⟨_,rfl,l,rfl,⟨_,SqL.of hT6.1⟩,λD hD=>Zr6 hT6 hD λts' H7 s7 hD7 hl7 ht7 _=>?_⟩;have hx7:=s7 _ _ hx6;have nDx:D≠x:=λw=>by rw[w,hx6] at hD;cases hD
   refine Zcm S dx _ ⟨hx7,T.cl_Standing,T.nSt,∅,?_⟩;refine q l1 D ts' _ (λb o nb eb=>by rw[Zaj nb];exact s7 _ _ (e6 b o nb eb)) Zab f1 (fr6 D hD) ⟨by rw[Zaj nxl.symm];exact s7 _ _ hl6,hz.2⟩ (by rw[Zaj nDx];exact hD7) hl7 λi t c e1 e2=>?_;refine Zet (ht7 i t c e1 e2) λr rs a1 a2 a3 a4=>?_;exact Zaq r rs ⟨a1.extI hx7 (λb o nb eb=>by rw[Zaj nb];exact eb),fr6 t a2,fr6 r a3,λa ha=>fr6 a (a4 a ha)⟩
end
end Pf
set_option maxRecDepth 50000
set_option maxHeartbeats 500000
namespace Pf
open PySem L2 PyProof.Rows
section
variable {C G S:Addr}
theorem Tab.ext2 {l:Addr}{H H':Hp}{p hh wd:Int}{t r:Addr}{rs:List Addr}(h:Tab H p hh wd t r rs)(b:Bag H l)(e:Ext l H H')(nr:r≠l)(ns:l∉rs):Tab H' p hh wd t r rs:=
 ⟨by obtain⟨ys,hy⟩:=b.lst;exact e _ _ (Zdh h.tup hy (by intro z;cases z)) h.tup,e _ _ nr h.lst,h.len,λa ha=>(h.row a ha).ext b e (λz=>ns (z ▸ ha)),h.nin⟩
theorem TabC.ext {l:Addr}{H H':Hp}{p hh wd:Int}{t r:Addr}{rs:List Addr}{M:List (List V)}(h:TabC H p hh wd t r rs M)(b:Bag H l)(e:Ext l H H')(nr:r≠l)(ns:l∉rs):TabC H' p hh wd t r rs M:=
 ⟨h.tab.ext2 b e nr ns,λi a ei=>e _ _ (λz=>ns (z ▸ Jae ei)) (h.con i a ei)⟩
def rowOf (H:Hp)(a:Addr):List V:=match H a with
 | some (.lst xs)=>xs
 | _=>[]
theorem Tab.toC {H:Hp}{p hh wd:Int}{t r:Addr}{rs:List Addr}(h:Tab H p hh wd t r rs):∃ M,TabC H p hh wd t r rs M:=by
 refine⟨rs.map (rowOf H),h,λi a e=>?_⟩;rw[Jac,Jad,e];refine Zae (h.row a (Jae e)) λxs hx _=>?_;show H a=some (.lst (rowOf H a));unfold rowOf;rw[hx]
theorem Prs.bag {l:Addr}{H H':Hp}{xs:List V}{ps:List (Int×Int)}(h:Prs H xs ps)(b:Bag H l)(e:Ext l H H'):Prs H' xs ps:=
 ⟨h.1,λi x q h1 h2=>by
  refine Zae (h.2 i x q h1 h2) λt e1 e2=>?_;obtain⟨ys,hy⟩:=b.lst;exact⟨t,e1,e _ _ (Zdh e2 hy (by intro z;cases z)) e2⟩⟩
abbrev Nv:=Int×Int
abbrev Mv:=List (List Nv)
def All2 {α β:Type}(P:α->β->Prop)(xs:List α)(ys:List β):Prop:=xs.length=ys.length/\∀ (i:Nat) x y,xs[i]?=some x->ys[i]?=some y->P x y
theorem All2.nil {α β:Type}{P:α->β->Prop}:All2 P [] []:=⟨rfl,λi x y e=>by simp at e⟩
theorem All2.drop {α β:Type}{P:α->β->Prop}{xs:List α}{ys:List β}(h:All2 P xs ys)(n:Nat):All2 P (xs.drop n) (ys.drop n):=⟨by rw[Jcp,Jcp,h.1],λi x y e1 e2=>by
 rw[List.getElem?_drop] at e1 e2;exact h.2 _ x y e1 e2⟩
theorem All2.app {α β:Type}{P:α->β->Prop}{xs xs':List α}{ys ys':List β}(h:All2 P xs ys)(h':All2 P xs' ys'):All2 P (xs++xs') (ys++ys'):=⟨by rw[Jaj,Jaj,h.1,h'.1],λi x y e1 e2=>by
 have hl:=h.1;by_cases hi:i<xs.length
 .rw [Jao hi] at e1;rw[Jao (Zc0 hl hi)] at e2;exact h.2 i x y e1 e2
 .rw [Jam ∅] at e1 e2;rw[<- hl] at e2;exact h'.2 _ x y e1 e2⟩
theorem All2.one {α β:Type}{P:α->β->Prop}{x:α}{y:β}(h:P x y):All2 P [x] [y]:=⟨rfl,λi a b e1 e2=>by
 cases i with
 | zero=>cases e1;cases e2;exact h
 | succ i=>simp at e1⟩
theorem All2.mono {α β:Type}{P P':α->β->Prop}{xs:List α}{ys:List β}(h:All2 P xs ys)(k:∀ x y,P x y->P' x y):All2 P' xs ys:=⟨h.1,λi x y e1 e2=>k x y (h.2 i x y e1 e2)⟩
theorem All2.monoM {α β:Type}{P P':α->β->Prop}{xs:List α}{ys:List β}(h:All2 P xs ys)(k:∀ x y,x∈xs->P x y->P' x y):All2 P' xs ys:=⟨h.1,λi x y e1 e2=>k x y (Jae e1) (h.2 i x y e1 e2)⟩
theorem All2.set {α β:Type}{P:α->β->Prop}{xs:List α}{ys:List β}(h:All2 P xs ys)(n:Nat){x:α}{y:β}(hp:P x y):All2 P (xs.set n x) (ys.set n y):=⟨by rw[Jav,Jav,h.1],λi a b e1 e2=>by
 rw[Jcd] at e1 e2;by_cases hi:n=i
 .rw [if_pos hi] at e1 e2;split at e1
  .split at e2
   .cases e1;cases e2;exact hp
   .cases e2
  .cases e1
 .rw [if_neg hi] at e1 e2;exact h.2 i a b e1 e2⟩
theorem All2.rep {α β:Type}{P:α->β->Prop}{x:α}{y:β}(h:P x y)(n:Nat):All2 P (List.replicate n x) (List.replicate n y):=⟨by simp,λi a b e1 e2=>by
 rw[Jby] at e1 e2;split at e1
 .rename_i hi
  rw[if_pos hi] at e2;cases e1;cases e2;exact h
 .cases e1⟩
theorem All2.at {α β:Type}{P:α->β->Prop}{xs:List α}{ys:List β}(h:All2 P xs ys){i:Nat}{y:β}(e:ys[i]?=some y):∃ x,xs[i]?=some x/\P x y:=by
 have hi:i<ys.length:=(Jaf.mp e).1;have hx:xs[i]?=some (xs[i]'(by have:=h.1;exact Zh3 hi this)):=Jaa _;exact⟨_,hx,h.2 i _ y hx e⟩
theorem All2.at' {α β:Type}{P:α->β->Prop}{xs:List α}{ys:List β}(h:All2 P xs ys){i:Nat}{x:α}(e:xs[i]?=some x):∃ y,ys[i]?=some y/\P x y:=by
 have hi:i<xs.length:=(Jaf.mp e).1;have hy:ys[i]?=some (ys[i]'(by have:=h.1;exact oz74 hi this)):=Jaa _;exact⟨_,hy,h.2 i x _ e hy⟩
theorem All2.pick {α β:Type}{P:α->β->Prop}:∀ {xs:List α},(∀ x∈xs,∃ y,P x y)->∃ ys,All2 P xs ys
 | [],_=>⟨[],All2.nil⟩
 | x::xs,h=>by
  obtain⟨y,hy⟩:=h x (by simp);obtain⟨ys,hys⟩:=All2.pick (xs:=xs) λz hz=>h z (by simp[hz]);exact⟨y::ys,(All2.one hy).app hys⟩
def RowV (H:Hp)(p:Int)(a:Addr)(xs:List Nv):Prop:=∃ vs,H a=some (.lst vs)/\All2 (NumV H p) vs xs
theorem RowV.same {H H':Hp}{p:Int}{a:Addr}{xs:List Nv}(h:RowV H p a xs)(s:Same H H'):RowV H' p a xs:=let ⟨vs,h1,h2⟩:=h;⟨vs,s _ _ h1,h2.mono λ_ _ k=>k.same s⟩
theorem NumV.put {H:Hp}{D:Addr}{l:List V}{o:HO}{p:Int}{v:V}{x:Nv}(h:NumV H p v x)(hD:H D=some (.lst l)):NumV (upd H D o) p v x:=by
 by_cases hp:p=0
 .refine Zae (h.ref hp) λt e94 ht=>?_;obtain rfl:=e94;exact NumV.tup hp (by rw[Zaj (Zdh ht hD (by intro z;cases z))];exact ht)
 .obtain rfl:=h.int hp;exact NumV.of hp
theorem RowV.put {H:Hp}{D:Addr}{l:List V}{o:HO}{p:Int}{a:Addr}{xs:List Nv}(h:RowV H p a xs)(hD:H D=some (.lst l))(n:a≠D):RowV (upd H D o) p a xs:=let ⟨vs,h1,h2⟩:=h;⟨vs,by rw[Zaj n];exact h1,h2.mono λ_ _ k=>k.put hD⟩
theorem RowV.ext {l:Addr}{H H':Hp}{p:Int}{a:Addr}{xs:List Nv}(h:RowV H p a xs)(b:Bag H l)(e:Ext l H H')(n:a≠l):RowV H' p a xs:=let ⟨vs,h1,h2⟩:=h;⟨vs,e _ _ n h1,h2.mono λ_ _ k=>k.ext b e⟩
structure TabV (H:Hp)(p hh wd:Int)(t r:Addr)(rs:List Addr)(M:Mv):Prop where
 tup:H t=some (.tup [.int hh,.int wd,.ref r])
 lst:H r=some (.lst (rs.map V.ref))
 row:All2 (RowV H p) rs M
 nin:r∉rs
theorem TabV.same {H H':Hp}{p hh wd:Int}{t r:Addr}{rs:List Addr}{M:Mv}(h:TabV H p hh wd t r rs M)(s:Same H H'):TabV H' p hh wd t r rs M:=⟨s _ _ h.tup,s _ _ h.lst,h.row.mono λ_ _ k=>k.same s,h.nin⟩
theorem TabV.put {H:Hp}{D:Addr}{l:List V}{o:HO}{p hh wd:Int}{t r:Addr}{rs:List Addr}{M:Mv}(h:TabV H p hh wd t r rs M)(hD:H D=some (.lst l))(nr:r≠D)(ns:D∉rs):TabV (upd H D o) p hh wd t r rs M:=
 ⟨by rw[Zaj (Zdh h.tup hD (by intro z;cases z))];exact h.tup,by rw[Zaj nr];exact h.lst,h.row.monoM λa _ ha k=>k.put hD (λz=>ns (z ▸ ha)),h.nin⟩
theorem TabV.ext {l:Addr}{H H':Hp}{p hh wd:Int}{t r:Addr}{rs:List Addr}{M:Mv}(h:TabV H p hh wd t r rs M)(b:Bag H l)(e:Ext l H H')(nr:r≠l)(ns:l∉rs):TabV H' p hh wd t r rs M:=
 ⟨e _ _ (λz=>by obtain⟨x,y,hb,_⟩:=b;rw[<- z,h.tup] at hb;cases hb) h.tup,e _ _ nr h.lst,h.row.monoM λa _ ha k=>k.ext b e (λz=>ns (z ▸ ha)),h.nin⟩
def Shp (hh wd:Int)(M:Mv):Prop:=(M.length:Int)=hh/\∀ row∈M,(row.length:Int)=wd
theorem Zbr {α:Type}{R:Addr->α->Prop}{rs:List Addr}{xs:List α}(h:All2 R rs xs):All2 (λv x=>∃ a,v=.ref a/\R a x) (rs.map V.ref) xs:=⟨by rw[Jab];exact h.1,λi v x e1 e2=>by
 rw[Jad] at e1;cases e:rs[i]? with
 | none=>rw[e] at e1;cases e1
 | some a=>rw[e] at e1;cases e1;exact⟨a,rfl,h.2 i a x e e2⟩⟩
theorem Zb2 {a D:Addr}{xs:List V}{fr:List (Str×Nat)}{σ:L2.St}{te:TE}{H1:Hp}{Q:VK}(R:Nat->Hp->V->Prop)(hS:∀ {i H H' y},R i H y->Same H H'->R i H' y)(hP:∀ {i H y l o},R i H y->H D=some (.lst l)->R i (upd H D o) y)(ha:H1 a=some (.lst xs))(hD:H1 D=none)(hn:xs.length<=1000)(h:∀ (i:Nat) x H (Q:VK),xs[i]?=some x->Same H1 H->(∃ l,H D=some (.lst l))->(∀ y H',Same H H'->R i H' y->Q y H')->te (some x::Zbm fr σ) H Q)(hQ:∀ ys H',Same H1 H'->H' D=some (.lst ys)->ys.length=xs.length->(∀ (i:Nat) y,ys[i]?=some y->R i H' y)->Q (.ref D) H'):Zbu (Zbe 0) Zew te (Itl K a) D (Zg2 1 fr σ) H1 Q:=by
 refine Zei (xs:=xs) (λi vs H=>Same H1 H/\H D=some (.lst vs)/\vs.length=i/\∀ (j:Nat) y,vs[j]?=some y->R j H y) ⟨Same.new hD,Zab,rfl,λj y e=>by simp at e⟩ (λi vs H _ p=>SqL.of (p.1 _ _ ha)) ?_ (λvs H ⟨s,e,hl,hr⟩=>hQ vs H s e hl hr);intro i x vs σ' H hi hx sh e91;refine Zcb e91 λs e hl hr=>?_;clear e91;obtain⟨z,rfl⟩:=sh.one;simp only[Zfq,Zbe,Zew,List.set_cons_zero,Jca];refine h i x H _ hx s ⟨_,e⟩ λy H' s' ry=>?_;refine Zky (ws:=vs++[y]) hi Sh.mk1 (s' _ _ e) (Zas (oz83 hn hi hl)) ⟨(s.trans s').upd hD,Zab,by rw[Jaj,hl];rfl,λj u hu=>?_⟩;by_cases hj:j<vs.length
 .rw [Jao hj] at hu;exact hP (hS (hr j u hu) s') (s' _ _ e)
 .rw [Jam (Zlo hj)] at hu;have hj0:j-vs.length=0:=by
   by_cases z:j-vs.length=0
   .exact z
   .rw [Jak (by simp;exact oz6 z)] at hu;cases hu
  rw[hj0] at hu;cases hu;rw[show j=i by exact oz3 hl hj hj0];exact hP ry (s' _ _ e)
theorem Zl3 {lo:Int}{n:Nat}{D:Addr}{fr:List (Str×Nat)}{σ:L2.St}{te:TE}{H1:Hp}{Q:VK}(R:Nat->Hp->V->Prop)(hS:∀ {i H H' y},R i H y->Same H H'->R i H' y)(hP:∀ {i H y l o},R i H y->H D=some (.lst l)->R i (upd H D o) y)(hD:H1 D=none)(hn:n<=1000)(h:∀ (i:Nat) H (Q:VK),i<n->Same H1 H->(∃ l,H D=some (.lst l))->(∀ y H',Same H H'->R i H' y->Q y H')->te (some (.int (lo+(i:Nat)))::Zbm fr σ) H Q)(hQ:∀ ys H',Same H1 H'->H' D=some (.lst ys)->ys.length=n->(∀ (i:Nat) y,ys[i]?=some y->R i H' y)->Q (.ref D) H'):Zbu (Zbe 0) Zew te (Itr lo n) D (Zg2 1 fr σ) H1 Q:=by
 refine Zgx (n:=n) (λi vs H=>Same H1 H/\H D=some (.lst vs)/\vs.length=i/\∀ (j:Nat) y,vs[j]?=some y->R j H y) ⟨Same.new hD,Zab,rfl,λj y e=>by simp at e⟩ ?_ (λvs H ⟨s,e,hl,hr⟩=>hQ vs H s e hl hr);intro i x vs σ' H hi e92;obtain rfl:=e92;intro sh e93;refine Zcb e93 λs e hl hr=>?_;clear e93;obtain⟨z,rfl⟩:=sh.one;simp only[Zfq,Zbe,Zew,List.set_cons_zero,Jca];refine h i H _ hi s ⟨_,e⟩ λy H' s' ry=>?_;refine Zky (ws:=vs++[y]) hi Sh.mk1 (s' _ _ e) (Zas (oz83 hn hi hl)) ⟨(s.trans s').upd hD,Zab,by rw[Jaj,hl];rfl,λj u hu=>?_⟩;by_cases hj:j<vs.length
 .rw [Jao hj] at hu;exact hP (hS (hr j u hu) s') (s' _ _ e)
 .rw [Jam (Zlo hj)] at hu;have hj0:j-vs.length=0:=by
   by_cases z:j-vs.length=0
   .exact z
   .rw [Jak (by simp;exact oz6 z)] at hu;cases hu
  rw[hj0] at hu;cases hu;rw[show j=i by exact oz3 hl hj hj0];exact hP ry (s' _ _ e)
theorem Zrp {ys:List V}{g:Nat->Int}{n:Nat}(hl:ys.length=n)(h:∀ (i:Nat) y,ys[i]?=some y->y=.int (g i)):ys=((List.range n).map g).map V.int:=by
 apply Jcm;intro i;by_cases hi:i<n
 .rw [Jaa (oz8 hl hi),h i _ (Jaa (oz8 hl hi)),Jad,Jad,Jas hi];rfl
 .rw [Jak ∅,Jak (by simp;exact Zlo hi)]
theorem Zkq {P:Nat->Addr->Prop}:∀ {ys:List V},(∀ (i:Nat) y,ys[i]?=some y->∃ b,y=.ref b/\P i b)->∃ bs:List Addr,ys=bs.map V.ref/\∀ (i:Nat) b,bs[i]?=some b->P i b:=by
 intro ys
 induction ys generalizing P with
 | nil=>exact λ_=>⟨[],rfl,λi b e=>by simp at e⟩
 | cons y ys ih=>
  intro h;refine Zae (h 0 y rfl) λb e97 hb=>?_;obtain rfl:=e97;refine Zae (ih (P:=λi b=>P (i+1) b) λi u e=>h (i+1) u (by simpa using e)) λbs e98 hbs=>?_;obtain rfl:=e98;exact⟨b::bs,rfl,λi u e=>by
   cases i with
   | zero=>cases e;exact hb
   | succ i=>exact hbs i u (by simpa using e)⟩
theorem Zjb {D:Addr}{H1 H':Hp}{p:Int}{M:Mv}{ys:List V}(hl:ys.length=M.length)(h:∀ (i:Nat) y,ys[i]?=some y->∃ a,y=.ref a/\RowV H' p a (M.getD i [])/\a≠D/\H1 a=none):∃ rs:List Addr,ys=rs.map V.ref/\All2 (RowV H' p) rs M/\D∉rs/\∀ a∈rs,H1 a=none:=by
 refine Zae (Zkq (P:=λi a=>RowV H' p a (M.getD i [])/\a≠D/\H1 a=none) h) λrs e99 hr=>?_;obtain rfl:=e99;rw[Jab] at hl;refine⟨rs,rfl,⟨hl,λi a xs e1 e2=>?_⟩,λz=>?_,λa ha=>?_⟩
 .have:=(hr i a e1).1;rwa [Jac,e2] at this
 .obtain ⟨j,hj,e⟩:=Ja1.mp z;exact (hr j D (by rw[Jaa hj,e])).2.1 rfl
 .obtain ⟨j,hj,rfl⟩:=Ja1.mp ha;exact (hr j _ (Jaa hj)).2.2
structure New (H:Hp)(t r:Addr)(rs:List Addr):Prop where
 t:H t=none
 r:H r=none
 rs:∀ a∈rs,H a=none
def Znp:Sp:=λvs H Q _=>∃ (p hh wd:Int) (t r:Addr) (rs:List Addr) (M:Mv),vs=[.ref t]/\TabV H p hh wd t r rs M/\M.length<=200/\∀ (t' r':Addr) (rs':List Addr) (H':Hp),Same H H'->New H t' r' rs'->TabV H' p hh wd t' r' rs' M->Q (.ref t') H'
theorem ok_copy (F:Fun K "_law_copy" "_law_copy" Zhc f fd)(T:Txt K mg C G S):FnOk P w K mg base CX0 1 f fd ["_law_table_here"] Znp:=by
 have nd:=Zis.nd;refine F.ok Zis (λvs H Q E h=>?_) (λcdv A outer s H vs Q E hr h=>?_)
 .refine xE7_2 h λp hh wd t r rs M e91 _=>?_;clear h;obtain rfl:=e91;rfl
 .refine Zss h λp hh wd t r rs M e92 tb ml q=>?_;clear h;obtain rfl:=e92;have hln:=tb.row.1;refine⟨_,(~~~(@Zaw _ _ _ _ _ (((Zgh Zat)<|>(pvr 0)<||>Zac)<&>(((Zgh Zat)<|>(pvr 0)<||>Zac)<&>((Za3 (own:=["_law_row"]) (fr:=[]) rfl (Zbn (by kernel_rfl)) (Zbc (Zat<|>(pv 0)<||>Zac)) (λ_ _ _ _=>⟨(0<<<["_law_row"]),Zay,(Zjg (Zgz K rfl) rfl T.n_list Jcl ((pv 0)<&>Zaa))⟩))<&>Zaa))))),?_⟩;walk_at "wp";refine⟨_,SqT.of tb.tup,_,rfl,_,SqT.of tb.tup,_,rfl,?_⟩;refine⟨_,rfl,t,_,2,_,rfl,rfl,SqT.of tb.tup,rfl,r,rfl,⟨_,SqL.of tb.lst⟩,λD hD=>?_⟩;refine Zb2 (λi Hc y=>∃ a,y=.ref a/\RowV Hc p a (M.getD i [])/\a≠D/\H a=none) (λ⟨a,e,b,c⟩ s=>⟨a,e,b.same s,c⟩) (λ⟨a,e,b,c,d⟩ hD=>⟨a,e,b.put hD c,c,d⟩) tb.lst hD (by rw[Jab];omega) (λi x H' Q' hx s' ⟨lD,hlD⟩ q'=>?_) (λys H' s' h' hyl hys=>?_)
  .refine Zae ((Zbr tb.row).at' hx) λrow er e93=>?_;obtain⟨a,rfl,vs,h1,h2⟩:=e93;refine⟨_,rfl,_,rfl,vs,.inl (SqL.of (s' _ _ h1)),λc hc=>?_⟩;have sc:=s'.trans (Same.new (o:=.lst vs) hc);exact q' _ _ (Same.new hc) ⟨c,rfl,⟨vs,Zab,by rw[Zao er];exact h2.mono λ_ _ k=>k.same sc⟩,(Zah hlD hc).symm,s'.free hc⟩
  .rw [Jab] at hyl;refine Zom (Zjb (D:=D) (H1:=H) (p:=p) (M:=M) (oz28 hln hyl) hys) λrs' e94 a2 nD fr=>?_;obtain rfl:=e94;refine⟨by show 3<=sizeLine;decide,λt' ht'=>?_⟩;have s2:=Same.new (o:=.tup [.int hh,.int wd,.ref D]) ht';exact q t' D rs' _ (s'.trans s2) ⟨s'.free ht',hD,fr⟩ ⟨Zab,s2 _ _ h',a2.mono λ_ _ k=>k.same s2,nD⟩
abbrev Tv:=Int×Int×Mv
abbrev t0:Tv:=(0,0,[])
abbrev hF (cs:List Tv)(i:Nat):Int:=(cs.getD i t0).1
abbrev wF (cs:List Tv)(i:Nat):Int:=(cs.getD i t0).2.1
abbrev mF (cs:List Tv)(i:Nat):Mv:=(cs.getD i t0).2.2
theorem Zr8 {a D:Addr}{xs:List V}{fr:List (Str×Nat)}{σ:L2.St}{te:TE}{H1:Hp}{Q:VK}(g:Nat->Int)(ha:H1 a=some (.lst xs))(hD:H1 D=none)(hn:xs.length<=1000)(h:∀ (i:Nat) x H (Q:VK),xs[i]?=some x->Same H1 H->(∀ H',Same H H'->Q (.int (g i)) H')->te (some x::Zbm fr σ) H Q)(hQ:∀ H',Same H1 H'->H' D=some (.lst (((List.range xs.length).map g).map V.int))->Q (.ref D) H'):Zbu (Zbe 0) Zew te (Itl K a) D (Zg2 1 fr σ) H1 Q:=
 Zb2 (λi _ y=>y=.int (g i)) (λr _=>r) (λr _=>r) ha hD hn (λi x H Q hx s _ k=>h i x H Q hx s λH' s'=>k _ H' s' rfl) (λys H' s e hl hr=>hQ H' s (by rw[e,Zrp hl hr]))
structure FewC (cs:List Tv):Prop where
 few:cs.length<=9
 bd:∀ i,i<cs.length->0<=hF cs i/\hF cs i<=24/\0<=wF cs i/\wF cs i<=24/\Shp (hF cs i) (wF cs i) (mF cs i)
structure TbsV (H:Hp)(p:Int)(a:Addr)(ts:List Addr)(cs:List Tv):Prop where
 lst:H a=some (.lst (ts.map V.ref))
 tab:All2 (λt c=>∃ r rs,TabV H p c.1 c.2.1 t r rs c.2.2) ts cs
end
end Pf
namespace Pf
open PySem L2 L3 PyProof.Rows
section
variable {C G S:Addr}
def nrS (a b:Int):Int×Int:=if b<0 then nrm (-a) (-b) else nrm a b
theorem nrS_eq {a b:Int}(h:b≠0):((a.fdiv (if b<0 then -(Int.gcd a b:Int) else (Int.gcd a b:Int)),b.fdiv (if b<0 then -(Int.gcd a b:Int) else (Int.gcd a b:Int))):Int×Int)=nrS a b:=by
 unfold nrS nrm;by_cases hb:b<0
 .simp only [if_pos hb];have e1:∀ z g:Int,z.fdiv (-g)=(-z).fdiv g:=λz g=>by rw[<- Int.neg_fdiv_neg (-z) g,Int.neg_neg]
  have e2:Int.gcd (-a) (-b)=Int.gcd a b:=by rw[Int.gcd_neg,Int.neg_gcd]
  rw[e1,e1,e2,Jbs _ Zkt,Jbs _ Zkt]
 .simp only [if_neg hb];rw[Jbs _ Zkt,Jbs _ Zkt]
def Zmp:Sp:=λvs H Q _=>∃ a b:Int,vs=[.int a,.int b]/\Bt NB a/\Bt NB b/\b≠0/\∀ t H',Same H H'->H' t=some (.tup [.int (nrS a b).1,.int (nrS a b).2])->Q (.ref t) H'
theorem Zt6 (F:Fun K "fraction" "fraction" Zhi f fd)(T:Txt K mg C G S)(hpt:P.given.tree=none)(Yal:Cal P w K mg base "common_divisor" 4 Zp5):FnOk P w K mg base CX0 5 f fd ["top","bottom"] Zmp:=by
 have nd:=Ziy.nd;refine F.ok Ziy (λvs H Q E h=>?_) (λcdv A outer s H vs Q E hr h=>?_)
 .refine Zbd h λa b e92 _=>?_;clear h;obtain rfl:=e92;rfl
 .refine Zki h λa b e93 ha hb b0 q=>?_;clear h;obtain rfl:=e93;refine⟨_,((@Za6 _ _ _ _ _ _ _ _ (Zam (Zm0 Zc7) (pvr 1) Zac (Zak _)) (@Zan _ _ _ Zcu) Zal)<*>((2|||nd|||(Yal<$>hr<$>((pvr 0)<&>((pvr 1)<&>Zaa))))<*>((@Za6 _ _ _ _ _ _ _ _ (Zam (Zk9 Zia) (pvr 1) Zac (Zak _)) (@Zan _ _ _ (2|||nd|||(Zh9 Zel (pvr 2)))) Zal)<*>(~~~(@Zaw _ _ _ _ _ (((Zc6 hpt (Zce hr))<|>(pvr 0)<&&>(pvr 2))<&>(((Zc6 hpt (Zce hr))<|>(pvr 1)<&&>(pvr 2))<&>Zaa))))))),?_⟩;walk_at "wp";have Zgg:∀ {c A B:Prop} [Decidable c],¬ c->B->if c then A else B:=λhc h=>by rw[if_neg hc];exact h
  refine Zgg (by rw[Jay b0];decide) ⟨a,b,rfl,ha,hb,λH1 s1=>?_⟩;have g0:0<Int.gcd a b:=Int.gcd_pos_of_ne_zero_right _ b0;have e:=nrS_eq (a:=a) b0;refine Zci (λhc=>?_) (λhc=>?_)
  .have hc:=Jat hc;rw[if_pos hc] at e;refine⟨_,rfl,∅,∅,⇑0,λt ht=>q t _ (s1.trans (Same.new ht)) ?_⟩;rw[Zab,<- e]
  .have hc:¬ b<0:=λz=>hc (Jah z);rw[if_neg hc] at e;refine⟨_,rfl,∅,_,rfl,∅,⇑0,λt ht=>q t _ (s1.trans (Same.new ht)) ?_⟩;rw[Zab,<- e]
theorem Zqg {b p:Int}(hp:Zfg p)(h0:0<b)(h1:b<p):Int.gcd b p=1:=by
 have hd1:((Int.gcd b p:Nat):Int) ∣ b:=Jb7 b p;have hd2:((Int.gcd b p:Nat):Int) ∣ p:=Jcc b p;have hle:=Int.le_of_dvd h0 hd1;have hpos:0<Int.gcd b p:=Int.gcd_pos_of_ne_zero_left _ ∅;by_cases h:Int.gcd b p=1
 .exact h
 .exact absurd (Int.emod_eq_zero_of_dvd hd2) (hp.2.2 _ ∅ ∅)
theorem inv_end {p z b c:Int}(h:p ∣ z*b-c):(z % p*b) % p=c % p:=by
 obtain⟨k,hk⟩:=h;have e:z % p*b=c+p*(k-z / p*b):=by rw[Int.emod_def];grind
 rw[e,Int.add_mul_emod_self_left]
theorem Zn7 {a b:Int}(ha:1<=a)(hb:0<=b):b<=a*b:=by
 have:=Jcn ha hb;omega
theorem Zsg {x:Int}(h:x.natAbs<=97):Bt 7 x:=Jbk h ⇑0
def spInv:Sp:=λvs H Q _=>∃ b p:Int,vs=[.int b,.int p]/\Zfg p/\0<b/\b<p/\∀ r H',Same H H'->0<=r->r<p->(r*b) % p=1->Q (.int r) H'
theorem ok_inv (F:Fun K "inverse" "inverse" Zja f fd)(T:Txt K mg C G S):FnOk P w K mg base CX0 1 f fd ["rest","prime"] spInv:=by
 have nd:=Zj8.nd;refine F.ok Zj8 (λvs H Q E h=>?_) (λcdv A outer s H vs Q E hr h=>?_)
 .refine Zbd h λb p e94 _=>?_;clear h;obtain rfl:=e94;rfl
 .refine Zki h λb p e95 hp b0 b1 q=>?_;clear h;obtain rfl:=e95;have p1:=hp.1;have p97:=hp.2.1;refine⟨_,((Zka (i:=2) (j:=3) rfl nd rfl rfl ⇑0 rfl rfl ((pvr 0)<&>((pvr 1)<&>Zaa)) rfl)<*>((Zbk (@Zaw _ _ _ _ _ (Zac<&>(Zac<&>Zaa))) (@Zbv _ _ _ _ _ 2 rfl ((4>>>nd)^^^((5>>>nd)^^^(@Za0 _))) ⇑1 ⇑1))<*>((Zgq Ja5 (Zb4 Zd2 (pv 2) Zac (Zak _)) ((6|||nd|||((opJ Zku)<|>(pvr 3)<&&>(pvr 2)))<*>((Zka (i:=2) (j:=3) rfl nd rfl rfl ⇑0 rfl rfl (((Zk9 Zff)<|>(pvr 3)<&&>((opJ Zbp)<|>(pvr 6)<&&>(pvr 2)))<&>((pvr 2)<&>Zaa)) rfl)<*>(@Zan _ _ _ (Zka (i:=4) (j:=5) rfl nd rfl rfl ⇑0 rfl rfl (((Zk9 Zff)<|>(pvr 5)<&&>((opJ Zbp)<|>(pvr 6)<&&>(pvr 4)))<&>((pvr 4)<&>Zaa)) rfl)))))<*>(~~~((opJ Zcw)<|>(pvr 4)<&&>(pvr 1)))))),?_⟩;walk_at "wp";refine Zaq _ _ ⟨⟨rfl,rfl⟩,⇑0,λt ht=>⟨_,SqT.of Zab,rfl,_,_,rfl,_,_,rfl,rfl,?_⟩⟩;refine⟨λn σ H2=>∃ (lo hi lt ht':Int) (o:Option V),σ=[some (V.int b),some (V.int p),some (V.int lo),some (V.int hi),some (V.int lt),some (V.int ht'),o]/\H2=upd H t (.tup [V.int 1,V.int 0])/\n=lo.toNat/\1<=lo/\lo<hi/\hi<=p/\Int.gcd lo hi=1/\p ∣ lt*b-lo/\p ∣ ht'*b-hi /\
    ∃ u v:Int,0<=u/\0<=v/\lo*v+hi*u=p/\((lt=u/\ht'=-v)\/(lt=-u/\ht'=v)),
   ⟨_,b,p,1,0,none,rfl,rfl,rfl,∅,b1,Int.le_refl _,Zqg hp b0 b1,⟨0,∅⟩,⟨-1,∅⟩,1,0,⇑0,⇑0,∅,.inl ⟨rfl,rfl⟩⟩,?_⟩
  intro n σ H2 e91;refine Zg4 e91 λlo hi lt ht' o e96 e97 e98 e99=>?_;clear e91;obtain rfl:=e96;obtain rfl:=e97;obtain rfl:=e98;refine xE0_7 e99 λl1 l2 l3 hg d1 d2 e910=>?_;clear e99;obtain⟨u,v,u0,v0,huv,hs⟩:=e910;walk_at "wp";refine Zci (λhc=>?_) (λhc=>?_)
  .have hc:=Jat hc;have hm:hi-hi / lo*lo=hi % lo:=by rw[Int.emod_def,Int.mul_comm lo]
   have m0:0<=hi / lo:=Jd1 (oz85 l2 hc) ∅;have m1:hi / lo<=hi:=Int.ediv_le_self _ (oz85 l2 hc);have r0:=Jbl hi (show lo≠0 by exact Zto hc);have r1:=Ja7 hi (show 0<lo by exact Zmy hc);have hg':Int.gcd (hi % lo) lo=1:=by rw[Jd8,Zoe,Jd8];exact hg
   have r2:1<=hi % lo:=by
    by_cases z:hi % lo=0
    .rw [z,Int.zero_gcd] at hg';omega
    .exact oz160 r0 z
   have u1:=Zn7 (a:=hi) (oz159 l2 hc) u0;have v1:=Zn7 (a:=lo) ∅ v0;have um:u<=97:=∅
   have vm:v<=97:=by exact oz153 p97 u0 huv u1 v1
   have e3:(hi-hi / lo*lo)*u+lo*(v+hi / lo*u)=p:=by rw[<- huv];grind
   have mu:0<=hi / lo*u:=Jcr m0 u0;refine⟨_,λ_ _ h=>h,⟨Zmy hc,oz55 p97 l2 l3⟩,(Zsg (oz17 p97 l3 m0 m1)).ok (Zsg (oz47 p97 l2 l3 hc)) ⇑0,_,_,⟨rfl,rfl⟩,(Zsg (oz17 p97 l3 m0 m1)).ok (Zsg (by rcases hs with ⟨h,_⟩|⟨h,_⟩ <;> omega)) ⇑0,_,_,⟨rfl,rfl⟩,(hi % lo).toNat,oz99 r1 r2,
    hi-hi / lo*lo,lo,ht'-hi / lo*lt,lt,_,rfl,rfl,by rw[hm],by rw[hm];exact r2,by rw[hm];exact r1,oz32 l2 l3,by rw[hm];exact hg',?_,d1,v+hi / lo*u,∅,u,u0,e3,?_⟩
   .have e:(ht'-hi / lo*lt)*b-(hi-hi / lo*lo)=(ht'*b-hi)-hi / lo*(lt*b-lo):=by grind
    rw[e];exact Int.dvd_sub d2 (Int.dvd_mul_of_dvd_right d1)
   .rcases hs with ⟨h1,h2⟩|⟨h1,h2⟩
    .subst h1 h2;exact .inr ⟨by grind,rfl⟩
    .subst h1 h2;exact .inl ⟨by grind,rfl⟩
  .have hc:¬ 1<lo:=λz=>hc (Jah z);have hl:lo=1:=∅
   subst hl;refine⟨Zmy p1,q _ _ (Same.new ht) (Jbl _ (Zto p1)) (Ja7 _ (Zmy p1)) ?_⟩;rw[inv_end d1,Jb0 ⇑0 p1]
def Zml:Sp:=λvs H Q E=>∃ a b p:Int,vs=[.int a,.int b,.int p]/\Zfg p/\Bt NB a/\b % p≠0/\∀ r H',Same H H'->0<=r->r<p->(r*b-a) % p=0->Q (.int r) H'
theorem Zty (F:Fun K "rest_of" "rest_of" Ziz f fd)(T:Txt K mg C G S)(Ybi:Cal P w K mg base "inverse" 1 spInv):FnOk P w K mg base CX0 2 f fd ["top","bottom","prime"] Zml:=by
 have nd:=Zjx.nd;refine F.ok Zjx (λvs H Q E h=>?_) (λcdv A outer s H vs Q E hr h=>?_)
 .refine Zf3 h λa b p e911 _=>?_;clear h;obtain rfl:=e911;rfl
 .refine Zb9 h λa b p e912 hp ha e913=>?_;clear h;obtain rfl:=e912;obtain⟨hb,q⟩:=e913;have p1:=hp.1;have p97:=hp.2.1;have b0:=Jbl b (show p≠0 by exact Zto p1);have b1:=Ja7 b (show 0<p by exact Zmy p1);refine⟨_,((3|||nd|||((opJ Zcw)<|>(pvr 1)<&&>(pvr 2)))<*>((@Za6 _ _ _ _ _ _ _ _ (Zam (Zm0 Zc7) (pvr 3) Zac (Zak _)) (@Zan _ _ _ Zcu) Zal)<*>(~~~(Zcw<|>(Zbp<|>(pvr 0)<&&>(Ybi<$>hr<$>((pvr 3)<&>((pvr 2)<&>Zaa))))<&&>(pvr 2))))),?_⟩;walk_at "wp";have Zgg:∀ {c A B:Prop} [Decidable c],¬ c->B->if c then A else B:=λhc h=>by rw[if_neg hc];exact h
  refine⟨Zmy p1,Zgg (by rw[Jay hb];decide) ?_⟩;refine Zaq _ p ⟨rfl,hp,∅,b1,λr H' s' r0 r1 hr1=>⟨r,rfl,ha.ok (Zsg ∅) ⇑0,Zmy p1,q _ H' s' (Jbl _ (Zto p1)) (Ja7 _ (Zmy p1)) ?_⟩⟩;have k1:p ∣ r*(b % p)-1:=Int.dvd_of_emod_eq_zero (by rw[Int.sub_emod,hr1,Jb0 ⇑0 p1];rfl);obtain⟨k,hk⟩:=k1;have e:(a*r % p)*b-a=p*(a*k+a*r*(b / p)-a*r / p*b):=by
   rw[Int.emod_def] at hk ⊢
   grind
  rw[e,Int.mul_emod_right]
structure IsQ (p a b:Int)(x:Int×Int):Prop where
 is:Isn p x
 fd:∀ (F:Type) [Lean.Grind.Field F],FdOk p F->(nm x:F)=ic a / ic b
 bt:∀ n:Nat,7<=n->Bt n a->Bt n b->Bt n x.1/\Bt n x.2
theorem Zn9 {a b:Int}(b0:b≠0):IsQ 0 a b (nrS a b):=by
 have key:∀ a b:Int,0<b->IsQ 0 a b (nrm a b):=λa b h=>by
  refine⟨.inl ⟨rfl,?_⟩,λF _ hF=>hF.nrmF rfl h,λn _ ha hb=>?_⟩
  .exact Zq6 h
  .have g0:=Zeg (a:=a) h;exact⟨ha.quo (Jb7 ..),hb.quo (Jcc ..)⟩
 unfold nrS;by_cases h:b<0
 .rw [if_pos h];obtain⟨h1,h2,h3⟩:=key (-a) (-b) ∅;refine⟨h1,λF _ hF=>?_,λn h7 ha hb=>h3 n h7 ha.neg hb.neg⟩;rw[h2 F hF,Zrs,Zrs];have:(ic b:F)≠0:=hF.ne0 (.inl rfl) b0
  grind
 .rw [if_neg h];exact key a b ∅
theorem Zrj {p a b r:Int}(hp:Zfg p)(hb:b % p≠0)(r0:0<=r)(r1:r<p)(h:(r*b-a) % p=0):IsQ p a b (r,1):=by
 have p1:=hp.1;have p97:=hp.2.1;refine⟨.inr ⟨Zmy p1,r0,r1,rfl⟩,λF _ hF=>?_,λn h7 _ _=>⟨Zbi h7 (by show r.natAbs<128;exact oz148 r0 r1 p97),Zbi h7 (by show (1:Int).natAbs<128;decide)⟩⟩;have e1:(ic b:F)≠0:=by
  rw[<- hF.modF (Zto p1)];exact hF.ne0 (.inr ⟨Jbl _ (Zto p1),Ja7 _ (Zmy p1)⟩) hb
 have e2:(ic (r*b-a):F)=0:=by rw[<- hF.modF (Zto p1),h,Zhl]
 rw[Zv0,Zcl] at e2;rw[hF.one]
 grind
def Zjv (G:Addr):Sp:=λvs H Q _=>∃ (g:Addr) (p a b:Int),vs=[.ref g,.int a,.int b]/\GAt G H g p/\GroundP p/\Bt NB a/\Bt NB b/\(p=0->b≠0)/\(p≠0->b % p≠0)/\∀ v x H',Same H H'->NumV H' p v x->IsQ p a b x->Q v H'
theorem Zq1 {f D:Addr}{fd:FuncData}(F:FunD K "number" "Ground.number" Zax f fd D)(T:Txt K mg C G S)(Ya7:Cal P w K mg base "fraction" 5 Zmp)(Ya1:Cal P w K mg base "rest_of" 2 Zml):FnOk P w K mg base CX0 6 f fd ["self","top","bottom"] (Zjv G):=by
 have nd:=Zeq.nd;refine F.ok Zeq (λvs H Q E h=>?_) (λcdv A outer s H vs Q E hr h=>?_)
 .refine Zol h λg p a b e914 _=>?_;clear h;obtain rfl:=e914;rfl
 .refine Zb8 h λg p a b e915 e916 hp e917=>?_;clear h;obtain rfl:=e915;obtain⟨dx,hg⟩:=e916;refine Zc3 e917 λha hb h0 h1 q=>?_;clear e917;refine⟨_,((@Za6 _ _ _ _ _ _ _ _ (Zam Zc7 (Zbl (pvr 0) rfl) Zac (Zak _)) (~~~(Ya7<$>hr<$>((pvr 1)<&>((pvr 2)<&>Zaa)))) Zal)<*>(~~~(Ya1<$>hr<$>((pvr 1)<&>((pvr 2)<&>((Zbl (pvr 0) rfl)<&>Zaa)))))),?_⟩;walk_at "wp";refine Zcm G dx _ ⟨hg,T.cl_Ground,T.nP,_,Zcr p,rfl,Zci (λhc=>?_) (λhc=>?_)⟩
  .have hp0:p=0:=by simpa using hc
   subst hp0;exact Zaq a b ⟨rfl,ha,hb,h0 rfl,λt H' s' ht=>q _ _ _ s' (NumV.tup rfl ht) (Zn9 (h0 rfl))⟩
  .have hp0:¬ p=0:=by simpa using hc
   have hp1:Zfg p:=hp.resolve_left hp0;exact Zcm G dx _ ⟨hg,T.cl_Ground,T.nP,_,Zcr p,a,b,p,rfl,hp1,ha,h1 hp0,λr H' s' r0 r1 hr=>q _ (r,1) H' s' (NumV.of (x:=(r,1)) hp0) (Zrj hp1 (h1 hp0) r0 r1 hr)⟩
def spCmB:Sp:=λvs H Q _=>∃ a b:Int,vs=[.int a,.int b]/\0<a/\0<b/\Bt NB a/\Bt NB b/\∀ m H',Same H H'->0<m->a ∣ m->b ∣ m->m<=a*b->Q (.int m) H'
theorem ok_cmB (F:Fun K "common_multiple" "common_multiple" Zcp f fd)(T:Txt K mg C G S)(hpt:P.given.tree=none)(Yal:Cal P w K mg base "common_divisor" 4 Zp5):FnOk P w K mg base CX0 5 f fd ["one","other"] spCmB:=by
 have nd:=Zdp.nd;refine F.ok Zdp (λvs H Q E h=>?_) (λcdv A outer s H vs Q E hr h=>?_)
 .refine Zbd h λa b e918 _=>?_;clear h;obtain rfl:=e918;rfl
 .refine Zh7 h λa b e919 ha hb ta tb q=>?_;clear h;obtain rfl:=e919;refine⟨_,(~~~(Zbp<|>((Zc6 hpt (Zce hr))<|>(pvr 0)<&&>(Yal<$>hr<$>((pvr 0)<&>((pvr 1)<&>Zaa))))<&&>(pvr 1))),?_⟩;walk_at "wp";have g0:=Zeg (a:=a) hb;have e1:a / (Int.gcd a b:Int)*(Int.gcd a b:Int)=a:=Jc8 (Jb7 ..);obtain⟨k,hk⟩:(Int.gcd a b:Int) ∣ b:=Jcc ..;have dpos:0<a / (Int.gcd a b:Int):=by
   rcases Int.lt_trichotomy 0 (a / (Int.gcd a b:Int)) with h|h|h
   .exact h
   .rw [<- h,Int.zero_mul] at e1;omega
   .have:=Int.mul_neg_of_neg_of_pos h g0;omega
  have bd:Bt NB (a / (Int.gcd a b:Int)):=ta.quo (Jb7 ..);have dle:(a / (Int.gcd a b:Int)).natAbs<=a.natAbs:=Zf2 a g0 (Jb7 ..);refine Zaq a b ⟨rfl,ta,tb,λH' s'=>⟨_,rfl,∅,?_⟩⟩;rw[Zeh g0];refine⟨bd.ok tb ⇑0,q _ _ s' (Jc9 dpos hb) ⟨k,?_⟩ ⟨_,Int.mul_comm ..⟩ (Jcn (oz141 ha dle) (oz69 hb))⟩;generalize (Int.gcd a b:Int)=g at *;generalize a / g=d at *;rw[hk,<- e1,Int.mul_assoc]
abbrev HB:Nat:=33500000
def RowZ (H:Hp)(a:Addr)(zs:List Int):Prop:=H a=some (.lst (zs.map V.int))
theorem RowZ.put {H:Hp}{D:Addr}{o:HO}{a:Addr}{zs:List Int}(h:RowZ H a zs)(n:a≠D):RowZ (upd H D o) a zs:=by unfold RowZ;rw[Zaj n];exact h
theorem Zgw {a b D:Addr}{xs ys:List V}{fr:List (Str×Nat)}{σ:L2.St}{te:TE}{H1:Hp}{Q:VK}(R:Nat->Hp->V->Prop)(hS:∀ {i H H' y},R i H y->Same H H'->R i H' y)(hP:∀ {i H y l o},R i H y->H D=some (.lst l)->R i (upd H D o) y)(ha:H1 a=some (.lst xs))(hb:H1 b=some (.lst ys))(hlen:ys.length=xs.length)(hD:H1 D=none)(hn:xs.length<=1000)(h:∀ (i:Nat) x y H (Q:VK),xs[i]?=some x->ys[i]?=some y->Same H1 H->(∃ l,H D=some (.lst l))->(∀ u H',Same H H'->R i H' u->Q u H')->te (some x::some y::Zbm fr σ) H Q)(hQ:∀ zs H',Same H1 H'->H' D=some (.lst zs)->zs.length=xs.length->(∀ (i:Nat) y,zs[i]?=some y->R i H' y)->Q (.ref D) H'):Zbu (Zpb K 2 (Zgu (Zbe 0) (Zgu (Zbe 1) Zsp))) Zew te (Itz K a b) D (Zg2 2 fr σ) H1 Q:=by
 refine Zii (xs:=xs) (ys:=ys) (λi vs H=>Same H1 H/\H D=some (.lst vs)/\vs.length=i/\∀ (j:Nat) y,vs[j]?=some y->R j H y) hlen ⟨Same.new hD,Zab,rfl,λj y e=>by simp at e⟩ (λi vs H _ p=>⟨SqL.of (p.1 _ _ ha),SqL.of (p.1 _ _ hb)⟩) ?_ (λvs H ⟨s,e,hl,hr⟩=>hQ vs H s e hl hr);intro i x y p vs σ' H hi hx hy hp sh e91;refine Zcb e91 λs e hl hr=>?_;clear e91;refine Zex sh.two λz1 z2 e94=>?_;obtain rfl:=e94;have s0:=Same.new (o:=.tup [x,y]) hp;refine Zaq p _ ⟨rfl,SqT.of Zab,rfl,_,_,rfl,_,_,rfl,rfl,?_⟩;simp only[Zew,List.set_cons_zero,List.set_cons_succ,Jca];refine h i x y _ _ hx hy (s.trans s0) ⟨_,s0 _ _ e⟩ λu H' s' ru=>?_;have s1:=s0.trans s';refine Zky (ws:=vs++[u]) hi Sh.mk2 (s1 _ _ e) (Zas (oz83 hn hi hl)) ⟨(s.trans s1).upd hD,Zab,by rw[Jaj,hl];rfl,λj v hv=>?_⟩;by_cases hj:j<vs.length
 .rw [Jao hj] at hv;exact hP (hS (hr j v hv) s1) (s1 _ _ e)
 .rw [Jam (Zlo hj)] at hv;have hj0:j-vs.length=0:=by
   by_cases z:j-vs.length=0
   .exact z
   .rw [Jak (by simp;exact oz6 z)] at hv;cases hv
  rw[hj0] at hv;cases hv;rw[show j=i by exact oz3 hl hj hj0];exact hP ru (s1 _ _ e)
theorem Zte {H:Hp}{p:Int}{vs:List V}{xs:List Nv}(hp:p≠0)(h:All2 (NumV H p) vs xs):vs=(xs.map λx=>x.1).map V.int:=by
 apply Jcm;intro i;have hl:=h.1;by_cases hi:i<vs.length
 .have e2:xs[i]?=some (xs[i]'(by omega)):=Jaa _;have:=(h.2 i _ _ (Jaa hi) e2).int hp;rw[Jaa hi,this,Jad,Jad,e2];rfl
 .rw [Jak (Zlo hi),Jak (by simp;omega)]
structure WRz (p:Int)(xs:List Nv)(zs:List Int)(b:Int):Prop where
 len:zs.length=xs.length
 pos:0<b
 one:p≠0->b=1
 eq:∀ i,zs.getD i 0*(xs.getD i (0,1)).2=(xs.getD i (0,1)).1*b
def GoodB (p:Int)(k:Nat)(xs:List Nv):Prop:=∀ x∈xs,Isn p x/\Bt k x.1/\Bt k x.2
def spWrZ (G:Addr):Sp:=λvs H Q _=>∃ (g a:Addr) (p:Int) (xs:List Nv) (k:Nat),vs=[.ref g,.ref a]/\GAt G H g p/\GroundP p/\RowV H p a xs/\xs.length<=900/\GoodB p k xs/\1<=k/\(xs.length+1)*k<=NB /\
 ∀ (t l:Addr) (zs:List Int) (b:Int) H',Same H H'->H l=none->H' t=some (.tup [.ref l,.int b])->RowZ H' l zs->WRz p xs zs b->SmallR ((xs.length+1)*k) zs->Bt ((xs.length+1)*k) b->Q (.ref t) H'
theorem ok_wrZ (F:Fun K "whole_row" "whole_row" Zf5 f fd)(T:Txt K mg C G S)(hpt:P.given.tree=none)(Ybp:Cal P w K mg base "common_multiple" 5 spCmB):FnOk P w K mg base CX0 6 f fd ["ground","row"] (spWrZ G):=by
 have nd:=Zhp.nd;refine F.ok Zhp (λvs H Q E h=>?_) (λcdv A outer s H vs Q E hr h=>?_)
 .refine Zpi h λg a p xs k e95 _=>?_;clear h;obtain rfl:=e95;rfl
 .refine Zg4 h λg a p xs k e96 e97 hp e98=>?_;clear h;obtain rfl:=e96;obtain⟨dx,hg⟩:=e97;refine Zey e98 λe99 xl gd k1 kb q=>?_;clear e98;obtain⟨vs,hv,al⟩:=e99;have vl:=al.1;refine⟨_,((@Za6 _ _ _ _ _ _ _ _ (Zam Zeu (Zbl (pvr 0) rfl) Zac (Zak _)) (~~~(@Zaw _ _ _ _ _ ((Zjg Zbz rfl T.n_list Jcl ((pvr 1)<&>Zaa))<&>(Zac<&>Zaa)))) Zal)<*>((Zap (i:=2) nd rfl (Or.inr rfl) Zac)<*>((Zck Ja5 rfl (Zbc (pv 1)) (3>>>nd) (@Zan _ _ _ (Zap (i:=2) nd rfl (Or.inr rfl) (Ybp<$>hr<$>((pvr 2)<&>(((Zgh Zat)<|>(pvr 3)<||>Zac)<&>Zaa))))))<*>(~~~(@Zaw _ _ _ _ _ ((Za3 (own:=["number"]) (fr:=[("bottom",2)]) rfl (Zbn (by kernel_rfl)) (Zbc (pv 1)) (λ_ _ _ _=>⟨(0<<<["number","bottom"]),Zay,(Zbp<|>((Zkz K rfl)<|>(pv 0)<||>Zac)<&&>((Zc6 hpt (Zce hr))<|>(pv 1)<&&>((Zkz K rfl)<|>(pv 0)<||>Zac)))⟩))<&>((pvr 2)<&>Zaa))))))),?_⟩;walk_at "wp";refine Zcm G dx _ ⟨hg,T.cl_Ground,T.nP,_,Zcr p,rfl,Zci (λhc=>?_) (λhc=>?_)⟩
  .have hp0:¬ p=0:=by simpa using hc
   refine⟨_,.inl (SqL.of hv),λl hl=>⟨⇑0,λt ht=>?_⟩⟩;have s1:=Same.new (o:=.lst vs) hl;have s2:=Same.new (o:=.tup [V.ref l,V.int 1]) ht;have ev:=Zte hp0 al;refine q t l (xs.map λx=>x.1) 1 _ (s1.trans s2) hl Zab (by show upd (upd H l (.lst vs)) t _ l=_;rw[s2 _ _ Zab,ev]) ⟨by rw[Jab],⇑0,λ_=>rfl,λi=>?_⟩ (λz hz=>?_) (by
    show (1:Int).natAbs<2 ^ _;exact Nat.one_lt_two_pow (by rw[Jco];omega))
   .rw [Jac,Jac,Jad];cases e:xs[i]? with
    | none=>rfl
    | some x=>
     rcases (gd _ (Jae e)).1 with ⟨h,_⟩|⟨_,_,_,h⟩
     .exact absurd h hp0
     .show x.1*x.2=x.1*1;rw[h]
   .refine Zae (Jaz.mp hz) λx hx e910=>?_;obtain rfl:=e910;refine (gd x hx).2.1.le ?_;rw[Jco];omega
  .have hp0:p=0:=by simpa using hc
   refine⟨_,rfl,a,rfl,⟨_,SqL.of hv⟩,Zih (xs:=vs) (λi σ H2=>∃ (v3:Option V) (b:Int),σ=[some (.ref g),some (.ref a),some (.int b),v3]/\Same H H2/\0<b/\b.natAbs<=2 ^ (i*k)/\∀ j,j<i->(xs.getD j (0,1)).2 ∣ b)
    ⟨none,1,rfl,Same.refl _,⇑0,by simp,λj hj=>∅⟩ (λi σ H2 _ ⟨_,_,_,e,_⟩=>SqL.of (e _ _ hv)) ?_ ?_⟩
   .intro i x σ H2 hi e92;refine Zki e92 λv3 b e911 s2 b0 bB dv=>?_;clear e92;obtain rfl:=e911;refine Zae (al.at' hi) λy ey hy=>?_;refine Zae (hy.ref hp0) λty e912 hty=>?_;obtain rfl:=e912;refine Za2 (gd y (Jae ey)) λiy by1 by2=>?_;have hil:i<vs.length:=(Jaf.mp hi).1;have kik:i*k+k<=(xs.length+1)*k:=by
     rw[show i*k+k=(i+1)*k by rw[Jco,Nat.one_mul]];exact Jb3 ∅ (Jag _)
    have bT:Bt NB b:=Jbk bB (Jc3 ⇑0 ∅);have yT:Bt NB y.2:=by2.le ∅;walk_at "wp";refine⟨_,SqT.of (s2 _ _ hty),_,rfl,b,y.2,rfl,b0,iy.pos,bT,yT,λm H3 s3 m0 d1 d2 ml=>⟨_,m,⟨rfl,rfl⟩,s2.trans s3,m0,?_,λj hj=>?_⟩⟩
    .have h1:(b*y.2).natAbs<=2 ^ (i*k)*2 ^ k:=Zb1 bB (Jbv by2);rw[Jco,Nat.one_mul,Nat.pow_add];exact oz52 m0 ml h1
    .by_cases h:j=i
     .subst h;rw[Zao ey];exact d2
     .exact Int.dvd_trans (dv j (oz21 hj h)) d1
   .intro σ H2 e93;refine Zki e93 λv3 b e913 s2 b0 bB dv=>?_;clear e93;obtain rfl:=e913;rw[vl] at bB dv;walk_at "wp";refine⟨_,rfl,a,rfl,⟨_,SqL.of (s2 _ _ hv)⟩,λD hD=>Zr8 (λi=>(xs.getD i (0,1)).1*(b / (xs.getD i (0,1)).2)) (s2 _ _ hv) hD ∅ (λi x H' Q' hx s' q'=>?_) λH1 s1 e1=>?_⟩
    .refine Zae (al.at' hx) λy ey hy=>?_;refine Zae (hy.ref hp0) λty e914 hty=>?_;obtain rfl:=e914;refine Za2 (gd y (Jae ey)) λiy by1 by2=>?_;have hil:i<vs.length:=(Jaf.mp hx).1;have d2:=dv i (Zc0 vl hil);have q2:=q' H' (Same.refl _);rw[Zao ey] at d2 q2;have hty':=(s2.trans s') _ _ hty;have bT:Bt NB b:=Jbk bB (Jc3 ⇑0 (by rw[Jco] at kb;omega));have fe:=Zeh (i:=b) iy.pos;refine⟨_,rfl,ty,_,_,_,rfl,rfl,SqT.of hty',rfl,_,rfl,_,rfl,ty,_,_,_,rfl,rfl,SqT.of hty',rfl,_,_,rfl,rfl,(by have:=iy.pos;omega),_,_,rfl,rfl,?_,?_⟩
     .rw [fe];exact (by1.le (m:=NB) (by rw[Jco] at kb;omega)).ok (bT.quo d2) ⇑0
     .rw [fe];exact q2
    .rw [vl] at e1;refine⟨⇑0,λt ht=>?_⟩;have s3:=Same.new (o:=.tup [V.ref D,V.int b]) ht;refine q t D ((List.range xs.length).map λi=>(xs.getD i (0,1)).1*(b / (xs.getD i (0,1)).2)) b _ ((s2.trans s1).trans s3) (s2.free hD) Zab (s3 _ _ e1) ⟨by rw[Jab,Jal],b0,λh=>absurd hp0 h,λi=>?_⟩ (λz hz=>?_) (Jbk bB (Jc3 ⇑0 (by rw[Jco];omega)))
     .rw [Jac,Jad];by_cases hi:i<xs.length
      .have e:xs[i]?=some xs[i]:=Jaa hi;have d2:=dv i hi;rw[Jas hi];show (xs.getD i (0,1)).1*(b / (xs.getD i (0,1)).2)*(xs.getD i (0,1)).2=_;rw[Int.mul_assoc,Jc8 d2]
      .rw [Jak (by simp;exact Zlo hi),Jac,Jak (Zlo hi)];simp
     .refine Zae (Jaz.mp hz) λi hi e915=>?_;obtain rfl:=e915;have hi:=Ja0.mp hi;have e:xs[i]?=some xs[i]:=Jaa hi;have d2:=dv i hi;rw[Zao e] at d2 ⊢;refine Za2 (gd _ (Jap hi)) λiy by1 by2=>?_;have h1:(b / xs[i].2).natAbs<=b.natAbs:=Zf2 b iy.pos d2;have h2:=Zb1 (Jag xs[i].1.natAbs) (Ja4 h1 bB);show (xs[i].1*(b / xs[i].2)).natAbs<2 ^ ((xs.length+1)*k);rw[Jco,Nat.one_mul,Nat.pow_add,Nat.mul_comm];exact Jbk h2 (Nat.mul_lt_mul_of_pos_right by1 (Nat.two_pow_pos _))
theorem Zkw {zs:List Int}{i:Nat}{x:V}(h:(zs.map V.int)[i]?=some x):∃ z,zs[i]?=some z/\x=.int z:=by
 rw[Jad] at h;cases e:zs[i]? with
 | none=>rw[e] at h;cases h
 | some z=>rw[e] at h;cases h;exact⟨z,rfl,rfl⟩
end
end Pf
namespace Pf
open PySem L2 L3 PyProof.Rows
section
variable {G PL cL:Addr}
theorem inv_tab:((List.range 98).all λp=>decide (p<2) || (List.range p).any (λd=>decide (2<=d) && p % d == 0) || (List.range p).all λr=>r == 0 || (List.range p).any λk=>k*r % p == 1)=true:=⋯
theorem Zvz {p b:Int}(hp:Zfg p)(hb:b % p≠0):∃ k:Nat,1<=k/\(k:Int)<p/\(k:Int)*b % p=1:=by
 refine Za2 hp λp1 p97 hd=>?_;clear hp;have h:=Jbe.mp inv_tab p.toNat (Ja0.mpr ∅);have ep:((p.toNat:Nat):Int)=p:=Jbf ∅;rw[Jdf,Jdf] at h;rcases h with (h|h)|h
 .have:=Jat h;omega
 .refine Zae (List.any_eq_true.mp h) λd d1 d2=>?_;have d1:=Ja0.mp d1;rw[Jcb] at d2;have d3:=Jat d2.1;have d4:p.toNat % d=0:=by simpa using d2.2
  refine absurd ?_ (hd d ∅ (oz183 d1));rw[<- ep,<- Int.natCast_emod,d4];rfl
 .have b0:0<=b % p:=Jbl _ (Zto p1);have b1:b % p<p:=Ja7 _ (Zmy p1);have h:=Jbe.mp h (b % p).toNat (Ja0.mpr ∅);rw[Jdf] at h;rcases h with h|h
  .have:(b % p).toNat=0:=by simpa using h
   omega
  .refine Zae (List.any_eq_true.mp h) λk k1 k2=>?_;have k1:=Ja0.mp k1;have k2:k*(b % p).toNat % p.toNat=1:=by simpa using k2
   have k3:(k:Int)*(b % p) % p=1:=by
    have e:(((b % p).toNat:Nat):Int)=b % p:=Jbf b0;have:((k*(b % p).toNat % p.toNat:Nat):Int)=1:=by rw[k2];rfl
    rw[Int.natCast_emod,Int.natCast_mul,e,ep] at this;exact this
   refine⟨k,?_,oz183 k1,by rw[emulR] at k3;exact k3⟩;rcases Nat.eq_zero_or_pos k with rfl|h
   .simp at k2
   .exact h
theorem Zqh {p:Int}(hp:Zfg p):PrimeN p.toNat:=by
 have p1:=hp.1;have ep:((p.toNat:Nat):Int)=p:=Jbf ∅;refine⟨∅,λr r0 r1=>?_⟩;obtain⟨k,k1,kp,kr⟩:=Zvz (b:=(r:Int)) hp (by rw[Jb0 Zkt (oz183 r1)];omega);refine⟨k,∅,?_⟩;rw[<- ep,<- Int.natCast_mul,<- Int.natCast_emod] at kr;omega
theorem Zk2 {p:Int}(hp:GroundP p):∃ (F:Type) (_:Lean.Grind.Field F),FdOk p F:=by
 rcases hp with rfl|hp
 .exact ⟨Rat,inferInstance,fd_zero⟩
 .have:PrimeN p.toNat:=Zqh hp;have h:=Zus (n:=p.toNat);rw[Jbf (by have:=hp.1;omega)] at h;exact⟨Zp p.toNat,inferInstance,h⟩
theorem Zqw {p:Int}(hp:GroundP p)(h:p≠0):(1:Int) % p≠0:=by
 rcases hp with h'|h'
 .exact absurd h' h
 .rw [Jb0 ⇑0 h'.1];decide
theorem Zrk {p k:Int}{x:Int×Int}(hp:GroundP p)(h:IsQ p k 1 x):x=Zgs p k:=by
 obtain⟨F,_,hF⟩:=Zk2 hp;refine hF.inj h.is (Zc1 hp.lo) ?_;rw[h.fd F hF,hF.intF,Zes];have:=fone (F:=F)
 grind
theorem Zk0 {p:Int}(hp:GroundP p):Zgs p 1=(1,1):=by
 unfold Zgs;split
 .rfl
 .rw [Jb0 ⇑0];rcases hp with h|⟨h,_⟩ <;> omega
theorem Zdj (p:Int):(Zm7 p).lookup ("number" : Str)=none:=Zod _ ⋯
theorem Ztd {H:Hp}{p:Int}{rs:List Addr}{M:Mv}{k:Nat}{a:Addr}{us:List V}{o:HO}{row:List Nv}(h:All2 (RowV H p) rs M)(nds:rs.Nodup)(e:rs[k]?=some a)(ha:H a=some (.lst us))(hr:RowV (upd H a o) p a row):All2 (RowV (upd H a o) p) rs (M.set k row):=by
 have hk:k<rs.length:=(Jaf.mp e).1;have ek:rs[k]=a:=(Jaf.mp e).2;refine⟨by rw[Jav];exact h.1,λj c y f1 f2=>?_⟩;rw[Jcd] at f2;by_cases hjk:k=j
 .subst hjk;rw[e] at f1;cases f1;rw[if_pos rfl] at f2;split at f2
  .cases f2;exact hr
  .cases f2
 .rw [if_neg hjk] at f2;refine (h.2 j c y f1 f2).put ha λz=>hjk ?_;have hj:j<rs.length:=(Jaf.mp f1).1;have e':rs[j]=rs[k]:=by rw[ek,<- z];exact (Jaf.mp f1).2
  rcases Nat.lt_trichotomy k j with h|h|h
  .exact absurd e'.symm (List.pairwise_iff_getElem.mp nds k j hk hj h)
  .exact h
  .exact absurd e' (List.pairwise_iff_getElem.mp nds j k hj hk h)
theorem Zq9 {lo:Int}{n:Nat}{D:Addr}{fr:List (Str×Nat)}{σ:L2.St}{te:TE}{H1:Hp}{Q:VK}{p:Int}(M:Nat->List Nv)(hD:H1 D=none)(hn:n<=1000)(h:∀ (i:Nat) H (Q:VK),i<n->Same H1 H->(∀ a H',H a=none->Same H H'->RowV H' p a (M i)->Q (.ref a) H')->te (some (.int (lo+(i:Nat)))::Zbm fr σ) H Q)(hQ:∀ (rs:List Addr) H',Same H1 H'->H' D=some (.lst (rs.map V.ref))->All2 (RowV H' p) rs ((List.range n).map M)->D∉rs->rs.Nodup->(∀ a∈rs,H1 a=none)->Q (.ref D) H'):Zbu (Zbe 0) Zew te (Itr lo n) D (Zg2 1 fr σ) H1 Q:=by
 refine Zgx (n:=n) (λi vs H=>∃ rs:List Addr,vs=rs.map V.ref/\Same H1 H/\H D=some (.lst (rs.map V.ref))/\All2 (RowV H p) rs ((List.range i).map M)/\D∉rs/\rs.Nodup/\∀ a∈rs,H1 a=none) ⟨[],rfl,Same.new hD,Zab,All2.nil,by simp,by simp,by simp⟩ ?_ (λvs H ⟨rs,e,a,b,c,d,f,g⟩=>hQ rs H a b c d f g);intro i x vs σ' H hi e91;obtain rfl:=e91;intro sh e92;refine Zst e92 λrs e95 s e al nD e96=>?_;clear e92;obtain rfl:=e95;obtain⟨nd,fr⟩:=e96;obtain⟨z,rfl⟩:=sh.one;simp only[Zfq,Zbe,Zew,List.set_cons_zero,Jca];refine h i H _ hi s λa H' ha s' rv=>?_;have nDa:D≠a:=Zah e ha;have na:a∉rs:=λz=>by
  obtain⟨j,hj,ej⟩:=Ja1.mp z;refine Zae (al.at' (Jaa hj)) λ_ _ e97=>?_;obtain⟨us,hu,_⟩:=e97;rw[ej,ha] at hu;cases hu
 have l1:=al.1;rw[Jab,Jal] at l1;refine Zky (ws:=rs.map V.ref++[.ref a]) hi Sh.mk1 (s' _ _ e) (Zas (by rw[Jab];exact oz83 hn hi l1)) ⟨rs++[a],Zba _ _,(s.trans s').upd hD,by rw[Zab,Zba],?_,λz=>?_,?_,λb hb=>?_⟩
 .rw [Jce,Jbb];exact (al.monoM λc x hc k=>(k.same s').put (s' _ _ e) (λz=>nD (z ▸ hc))).app (All2.one (rv.put (s' _ _ e) nDa.symm))
 .rcases Jba.mp z with h|h
  .exact nD h
  .exact nDa (Ja3.mp h)
 .rw [Jeb];exact⟨nd,by simp,λx hx y hy e=>na (by rw[<- Ja3.mp hy,<- e];exact hx)⟩
 .rcases Jba.mp hb with h|h
  .exact fr b h
  .rw [Ja3.mp h];exact s.free ha
theorem ixN_of {n:Nat}{k:Int}(h0:0<=k)(h1:k.toNat<n):ixN n k=some k.toNat:=by
 unfold ixN;simp[h0];omega
theorem Zd3 (p:Int):Zgs p 0=(0,1):=by
 unfold Zgs;split
 .rfl
 .rw [Int.zero_emod]
theorem rep1 (n:Nat)(v:V):(List.replicate n [v]).flatten=List.replicate n v:=by
 induction n with
 | zero=>rfl
 | succ n ih=>rw[Jb8,Jcy,ih,Jb8];rfl
theorem small24 {n:Nat}(h:n<=24):n<=sizeLine:=Jbv (Zas ∅)
abbrev zR (n:Nat):List Nv:=List.replicate n (0,1)
abbrev zM (h n:Nat):Mv:=(List.range h).map λ_=>zR n
def spNou (G:Addr):L2.Sp:=λvs H Q _=>∃ (g:Addr) (p hh wd:Int),vs=[.ref g,.int hh,.int wd]/\GAt G H g p/\GroundP p/\0<=hh/\hh<=24/\0<=wd/\wd<=24 /\
 ∀ (t r:Addr) (rs:List Addr) H',Same H H'->New H t r rs->rs.Nodup->TabV H' p hh wd t r rs (zM hh.toNat wd.toNat)->Q (.ref t) H'
theorem ok_nou (F:Fun K "noughts" "noughts" Zi1 f fd)(T:Txt K mg C G S)(Yak:CalD P w K mg base G "number" 6 (Zjv G) [.int 1]):FnOk P w K mg base CX0 7 f fd ["ground","high","wide"] (spNou G):=by
 have nd:=Zjz.nd;refine F.ok Zjz (λvs H Q E h=>?_) (λcdv A outer s H vs Q E hr h=>?_)
 .refine Zol h λg p hh wd e98 _=>?_;clear h;obtain rfl:=e98;rfl
 .refine Zb8 h λg p hh wd e99 e910 hp e911=>?_;clear h;obtain rfl:=e99;obtain⟨dg,hg0⟩:=e910;refine Zc3 e911 λh0 h24 w0 w24 q=>?_;clear e911;refine⟨_,(~~~(@Zaw _ _ _ _ _ ((pvr 1)<&>((pvr 2)<&>((Za3 (own:=["row"]) (fr:=[("ground",0),("wide",2)]) rfl (Zbn (by kernel_rfl)) (Zfe rfl T.n_range ((pv 1)<&>Zaa)) (λ_ _ _ _=>⟨(0<<<["row","ground","wide"]),Zay,(op_rep<|>(@Zbw _ _ _ _ ((Zmx T.cl_Ground Yak hr.m (pv 1) (Zac<&>Zaa))<&>Zaa))<&&>(pv 2))⟩))<&>Zaa))))),?_⟩;walk_at "wp";refine⟨_,rfl,hh,rfl,Zmz h0,Zow h24,λD hD=>Zq9 (p:=p) (λ_=>zR wd.toNat) hD (oz140 h24) (λi H' Q' hi s' q'=>?_) λrs H3 s3 hD3 al3 nD nds fr=>?_⟩
  .have wsz:1*wd.toNat<=sizeLine:=small24 ∅;refine⟨_,rfl,g,dg,_,rfl,s' _ _ hg0,Zdj p,g,p,0,1,rfl,⟨dg,s' _ _ hg0⟩,hp,Zbi ⇑0 ⇑0,Zbi ⇑0 ⇑0,λ_=>⇑0,Zqw hp,λnv nx H2 s2 hnv iq=>⟨by show 1<=sizeLine;decide,λo1 ho1=>?_⟩⟩;rw[Zrk hp iq,Zd3] at hnv;have s5:=Same.new (o:=.lst [nv]) ho1;refine⟨_,rfl,o1,_,_,rfl,rfl,Zab,∅,∅,wsz,λo2 ho2=>?_⟩;rw[rep1];have s6:=Same.new (o:=.lst (List.replicate wd.toNat nv)) ho2;have t6:=s5.trans s6;exact q' o2 _ ((s2.trans s5).free ho2) (s2.trans t6) ⟨_,Zab,All2.rep (hnv.same t6) _⟩
  .refine ⟨⇑0,λt ht=>?_⟩;have s5:=Same.new (o:=.tup [V.int hh,V.int wd,V.ref D]) ht;exact q t D rs _ (s3.trans s5) ⟨s3.free ht,hD,fr⟩ nds ⟨Zab,s5 _ _ hD3,al3.mono λ_ _ q=>q.same s5,nD⟩
abbrev eR (n i:Nat):List Nv:=(zR n).set i (1,1)
def Zsn (n k:Nat):Mv:=(List.range n).map λi=>if i<k then eR n i else zR n
abbrev Zbo (n:Nat):Mv:=(List.range n).map λi=>eR n i
theorem Zub (n:Nat):Zsn n n=Zbo n:=by
 unfold Zsn;refine List.map_congr_left λj hj=>?_;rw[if_pos (Ja0.mp hj)]
theorem Zra (n:Nat):Zsn n 0=zM n n:=by
 unfold Zsn;refine List.map_congr_left λj hj=>?_;rw[if_neg ∅]
theorem Zua (n k:Nat):(Zsn n k).set k (eR n k)=Zsn n (k+1):=by
 unfold Zsn;apply Jcm;intro j;rw[Jcd];by_cases hij:k=j
 .subst hij;rw[if_pos rfl];by_cases hn:k<n
  .rw [if_pos (by simpa using hn),Jad,Jas hn];simp
  .rw [if_neg (by simpa using hn),Jad,Jak (by simpa using hn)];rfl
 .rw [if_neg hij,Jad,Jad];by_cases hn:j<n
  .rw [Jas hn];show some (if j<k then eR n j else zR n)=some (if j<k+1 then eR n j else zR n);by_cases h1:j<k
   .rw [if_pos h1,if_pos (Zlp h1)]
   .rw [if_neg h1,if_neg (oz117 hij h1)]
  .rw [Jak (by simpa using hn)];rfl
def spPl (G:Addr):L2.Sp:=λvs H Q _=>∃ (g:Addr) (p n:Int),vs=[.ref g,.int n]/\GAt G H g p/\GroundP p/\0<=n/\n<=24 /\
 ∀ (t r:Addr) (rs:List Addr) H',Same H H'->New H t r rs->TabV H' p n n t r rs (Zbo n.toNat)->Q (.ref t) H'
theorem ok_pl (F:Fun K "plain" "plain" Zms f fd)(T:Txt K mg C G S)(Yba:Cal P w K mg base "noughts" 7 (spNou G))(Yak:CalD P w K mg base G "number" 6 (Zjv G) [.int 1]):FnOk P w K mg base CX0 8 f fd ["ground","many"] (spPl G):=by
 have nd:=Zns.nd;refine F.ok Zns (λvs H Q E h=>?_) (λcdv A outer s H vs Q E hr h=>?_)
 .refine Zf3 h λg p n e912 _=>?_;clear h;obtain rfl:=e912;rfl
 .refine Zb9 h λg p n e913 hg hp e914=>?_;clear h;obtain rfl:=e913;refine Za2 e914 λn0 n24 q=>?_;clear e914;refine⟨_,((Zbk (Yba<$>hr<$>((pvr 0)<&>((pvr 1)<&>((pvr 1)<&>Zaa)))) (@Zbv _ _ _ _ _ 3 rfl ((2>>>nd)^^^((3>>>nd)^^^((4>>>nd)^^^(@Za0 _)))) ⇑1 ⇑1))<*>((Zck Ja5 rfl (Zfe rfl T.n_range ((pv 1)<&>Zaa)) (5>>>nd) (@Zan _ _ _ (Zbk (Zmx T.cl_Ground Yak hr.m (pvr 0) (Zac<&>Zaa)) (Zer ((ixJ Zar)<|>(pvr 4)<||>(pvr 5)) (pvr 5) Zb7))))<*>(~~~(@Zaw _ _ _ _ _ ((pvr 2)<&>((pvr 3)<&>((pvr 4)<&>Zaa))))))),?_⟩;walk_at "wp";refine Zjr g p n n ⟨rfl,hg,hp,n0,n24,n0,n24,λt r rs H1 s1 nw nds tb=>?_⟩;refine⟨t,rfl,_,SqT.of tb.tup,rfl,_,_,rfl,_,_,rfl,_,_,rfl,rfl,?_⟩;have rl:=tb.row.1;rw[Jab,Jal] at rl;refine⟨_,rfl,n,rfl,Zmz n0,Zow n24,Zby (λi σ H3=>∃ v5:Option V,σ=[some (.ref g),some (.int n),some (.int n),some (.int n),some (.ref r),v5]/\Same H H3/\H3 r=some (.lst (rs.map V.ref))/\All2 (RowV H3 p) rs (Zsn n.toNat i)) ⟨none,rfl,s1,tb.lst,by rw[Zra];exact tb.row⟩ ?_ ?_⟩
  .intro i σ H3 hi e93;refine Zom e93 λv5 e915 s3 h3 a3=>?_;clear e93;obtain rfl:=e915;walk_at "wp";obtain⟨dg,hg0⟩:=hg.same s3;refine Zaq dg _ ⟨hg0,Zdj p,g,p,1,1,rfl,⟨dg,hg0⟩,hp,Zbi ⇑0 ⇑0,Zbi ⇑0 ⇑0,λ_=>⇑0,Zqw hp,λnv nx H4 s4 hnv iq=>?_⟩;rw[Zrk hp iq,Zk0 hp] at hnv;have hirs:i<rs.length:=by exact oz5 rl hi
   have e1:rs[i]?=some rs[i]:=Jaa hirs;have a4:All2 (RowV H4 p) rs (Zsn n.toNat i):=a3.mono λ_ _ k=>k.same s4;refine Zae (a4.at' e1) λrow er e916=>?_;obtain⟨us,hu1,hu2⟩:=e916;have erow:row=zR n.toNat:=by
    unfold Zsn at er;rw[Jad,Jas hi] at er;have:(if i<i then eR n.toNat i else zR n.toNat)=row:=by simpa using er
    rw[<- this,if_neg ∅]
   subst erow;have ul:=hu2.1;rw[Ja8] at ul;have nri:r≠rs[i]:=λz=>tb.nin (by rw[z];exact Jap hirs);refine⟨_,SqL.of (s4 _ _ h3),_,Zb0 Ztq (by rw[show ((0:Int)+(i:Int)).toNat=i by exact oz29,Jad,e1];rfl),_,rfl,us,hu1,i,?_,(s3.trans s4).upd (nw.rs _ (Jap hirs)),by rw[Zaj nri];exact s4 _ _ h3,?_⟩
   .rw [ixN_of Ztq (oz152 hi ul)];congr 1;exact oz29
   .rw [<- Zua];refine Ztd a4 nds e1 hu1 ⟨_,Zab,?_⟩;exact (hu2.mono λ_ _ q=>q.put hu1).set _ (hnv.put hu1)
  .intro σ H3 e94;refine Zom e94 λv5 e917 s3 h3 a3=>?_;clear e94;obtain rfl:=e917;walk_at "wp";rw[Zub] at a3;refine⟨⇑0,λt' ht'=>?_⟩;have s5:=Same.new (o:=.tup [V.int n,V.int n,V.ref r]) ht';exact q t' r rs _ (s3.trans s5) ⟨s3.free ht',nw.r,nw.rs⟩ ⟨Zab,s5 _ _ h3,a3.mono λ_ _ q=>q.same s5,tb.nin⟩
end
end Pf
namespace Pf
open PySem L2 L3 PyProof.Rows
section
variable {p:Int}{F:Type}[Lean.Grind.Field F]
def vN (xs:List Nv):Nat->F:=λj=>nm (xs.getD j (0,1))
theorem Zkv:(nm ((0,1):Nv):F)=0:=by
 unfold nm;rw[Zhl,Zes];have:=fone (F:=F)
 grind
theorem Zjt {xs:List Nv}{j:Nat}(h:xs.length<=j):(vN xs j:F)=0:=by
 unfold vN;rw[Jac,Jak h];exact Zkv
theorem Zpo {xs:List Nv}{j:Nat}{x:Nv}(h:xs[j]?=some x):(vN xs j:F)=nm x:=by
 unfold vN;rw[Jac,h];rfl
theorem at_map {α:Type}{f:α->Nat->F}{Z:List α}{i:Nat}{d:α}(h:i<Z.length):at' (Z.map f) i=f (Z.getD i d):=by
 show (Z.map f).getD i zv=_;rw[Jac,Jad,Jaa h,Jac,Jaa h];rfl
theorem wr_eq (hF:FdOk p F){xs:List Nv}{zs:List Int}{b:Int}(h:WRz p xs zs b)(hx:∀ x∈xs,Isn p x)(j:Nat):(vz zs j:F)=ic b*vN xs j:=by
 have e:=h.eq j;have e2:(ic (zs.getD j 0):F)*ic (xs.getD j (0,1)).2=ic (xs.getD j (0,1)).1*ic b:=by rw[<- Zcl,<- Zcl,e]
 have b2:(ic (xs.getD j (0,1)).2:F)≠0:=by
  by_cases hj:j<xs.length
  .rw [Zbh hj];exact hF.bot (hx _ (Jap hj))
  .rw [Jac,Jak (Zlo hj)];show (ic 1:F)≠0;rw[Zes];exact fone
 unfold vz vN nm;generalize (ic (zs.getD j 0):F)=u at *;generalize (ic (xs.getD j (0,1)).1:F)=v at *;generalize (ic (xs.getD j (0,1)).2:F)=t at *
 grind
theorem wr_b (hF:FdOk p F){xs:List Nv}{zs:List Int}{b:Int}(h:WRz p xs zs b):(ic b:F)≠0:=by
 by_cases hp:p=0
 .exact hF.ne0 (.inl hp) (by have:=h.pos;omega)
 .rw [h.one hp,Zes];exact fone
end
end Pf
namespace Pf
open PySem L2 L3 PyProof.Rows
section
variable {F:Type}[Lean.Grind.Field F]
theorem nm_one:(nm ((1,1):Nv):F)=1:=by
 unfold nm;rw[Zes];have:=fone (F:=F)
 grind
theorem Zez {n i j:Nat}(hi:i<n)(hj:j<n):(vN ((Zbo n).getD i []) j:F)=del i j:=by
 have e:(Zbo n).getD i []=eR n i:=by
  rw[Jac,Jad,Jas hi];rfl
 rw[e];unfold vN;rw[Jac,Jcd];show _=if i=j then (1:F) else 0
 by_cases h:i=j
 .subst h;rw[if_pos rfl,if_pos (by rw[Ja8];exact hi),if_pos rfl];exact nm_one
 .rw [if_neg h,if_neg h,Jby,if_pos hj];exact Zkv
end
theorem Zly {p:Int}(hp:GroundP p):Isn p (0,1)/\Isn p (1,1):=by
 have h0:=Zc1 (p:=p) (k:=0) hp.lo;have h1:=Zc1 (p:=p) (k:=1) hp.lo;rw[Zd3] at h0;rw[Zk0 hp] at h1;exact⟨h0,h1⟩
section
variable {p:Int}{F:Type}[Lean.Grind.Field F]
end
end Pf
namespace Pf
open PySem L2 L3 PyProof.Rows
section
variable {G PL cL:Addr}
structure TabB (H:Hp)(p:Int)(k n wd:Nat)(t r:Addr)(rs:List Addr)(M:Mv):Prop where
 tv:TabV H p n wd t r rs M
 hl:M.length=n
 hw:∀ xs∈M,xs.length=wd
 gd:∀ xs∈M,GoodB p k xs
theorem TabB.same {H H':Hp}{p:Int}{k n wd:Nat}{t r:Addr}{rs:List Addr}{M:Mv}(h:TabB H p k n wd t r rs M)(s:Same H H'):TabB H' p k n wd t r rs M:=⟨h.tv.same s,h.hl,h.hw,h.gd⟩
theorem Zou {a D:Addr}{p:Int}{fr:List (Str×Nat)}{σ:L2.St}{te:TE}{H1:Hp}{Q:VK}{as:List Addr}{M:Mv}(f:List Nv->List Nv)(ha:H1 a=some (.lst (as.map V.ref)))(rv:All2 (RowV H1 p) as M)(hD:H1 D=none)(hn:as.length<=1000)(h:∀ (b:Addr) xs H (Q:VK),xs∈M->RowV H p b xs->Same H1 H->(∀ c H',H c=none->Same H H'->RowV H' p c (f xs)->Q (.ref c) H')->te (some (.ref b)::Zbm fr σ) H Q)(hQ:∀ (rs:List Addr) H',Same H1 H'->H' D=some (.lst (rs.map V.ref))->All2 (RowV H' p) rs (M.map f)->D∉rs->(∀ b∈rs,H1 b=none)->Q (.ref D) H'):Zbu (Zbe 0) Zew te (Itl K a) D (Zg2 1 fr σ) H1 Q:=by
 refine Zb2 (λi Hc y=>∃ b,y=.ref b/\RowV Hc p b ((M.map f).getD i [])/\b≠D/\H1 b=none) (λ⟨a,e,b,c⟩ s=>⟨a,e,b.same s,c⟩) (λ⟨a,e,b,c,d⟩ hD=>⟨a,e,b.put hD c,c,d⟩) ha hD (by rw[Jab];exact hn) (λi x H' Q' hx s' ⟨lD,hlD⟩ q'=>?_) (λys H' s' h' hyl hys=>?_)
 .refine Zae ((Zbr rv).at' hx) λxs er e91=>?_;obtain⟨b,rfl,rb⟩:=e91;refine h b xs H' Q' (Jae er) (rb.same s') s' λc H2 hc s2 rc=>q' _ H2 s2 ⟨c,rfl,?_,(Zah hlD hc).symm,s'.free hc⟩;rw[Zao (show _=some _ by rw[Jad,er];rfl)];exact rc
 .rw [Jab] at hyl;obtain⟨rs',rfl,a2,nD,fr⟩:=Zjb (D:=D) (H1:=H1) (p:=p) (M:=M.map f) (by rw[Jab,<- rv.1];exact hyl) hys;exact hQ rs' H' s' h' a2 nD fr
end
end Pf
namespace Pf
open PySem L2 PyProof.Rows
section
variable {C G S:Addr}
theorem ok_bag (F:Fun K "_law_bag" "_law_bag" Zi8 f fd)(T:Txt K mg C G S):FnOk P w K mg base CX0 1 f fd ["_law_cell_here"] spBag:=by
 have nd:=Zj6.nd;refine F.ok Zj6 (λvs H Q E h=>?_) (λcdv A outer s H vs Q E hr h=>?_)
 .refine Zae h λc e92 _=>?_;clear h;obtain rfl:=e92;rfl
 .refine Zae h λc e93 q=>?_;clear h;obtain rfl:=e93;refine⟨_,((@Za6 _ _ _ _ _ _ _ _ (Zam op_ge (pvr 0) ((opJ Zvq)<|>Zac<&&>Zac) (Zak _)) (~~~(@Zbw _ _ _ _ ((pvr 0)<&>(((opJ Zcw)<|>(pvr 0)<&&>Zac)<&>Zaa)))) Zal)<*>(~~~(@Zbw _ _ _ _ (Zac<&>(((opJ Zcw)<|>((Zk9 Zdg)<|>((opJ Zkb)<|>((opJ Zcw)<|>(pvr 0)<&&>Zac)<&&>Zac)<&&>Zac)<&&>Zac)<&>Zaa))))),?_⟩;walk_at "wp";refine⟨cpow _ ⇑0 ⇑0,Zci (λ_=>?_) (λ_=>?_)⟩
  .exact ⟨⇑0,⇑0,λp hp=>q p _ _ hp (Zlt _ _ ⇑0) (Zlu _ _ ⇑0)⟩
  .exact ⟨⇑0,.inr ⟨⇑0,⇑0⟩,⇑0,⇑0,λp hp=>q p _ _ hp (Zlt _ _ ⇑0) (Zlu _ _ ⇑0)⟩
theorem ok_draw (F:Fun K "_law_draw" "_law_draw" Zhb f fd)(T:Txt K mg C G S):FnOk P w K mg base CX0 1 f fd ["_law_bag_here","_law_many"] Zc8:=by
 have nd:=Zir.nd;refine F.ok Zir (λvs H Q E h=>?_) (λcdv A outer s H vs Q E hr h=>?_)
 .refine Zol h λl a b n e94 _=>?_;clear h;obtain rfl:=e94;rfl
 .refine Zb8 h λl a b n e95 hl b0 e96=>?_;clear h;obtain rfl:=e95;refine Zcb e96 λb1 n0 n1 q=>?_;clear e96;refine⟨_,((@Za6 _ _ _ _ _ _ _ _ (Zam Zd2 ((ixJ Zar)<|>(pvr 0)<||>Zac) Zac (Zak _)) ((2|||nd|||(Zcw<|>((ixJ Zar)<|>(pvr 0)<||>Zac)<&&>(pvr 1)))<*>((Zbk (Zku<|>((ixJ Zar)<|>(pvr 0)<||>Zac)<&&>(pvr 1)) (Zer (pvr 0) Zac Zb7))<*>(~~~(pvr 2)))) Zal)<*>((Zbk (Zcw<|>(Zdg<|>(Zkb<|>((ixJ Zar)<|>(pvr 0)<||>Zac)<&&>Zac)<&&>Zac)<&&>Zac) (Zer (pvr 0) Zac Zb7))<*>(~~~(Zcw<|>(Zku<|>(Zcw<|>(Zkb<|>((ixJ Zar)<|>(pvr 0)<||>Zac)<&&>(Zdg<|>(Zku<|>((ixJ Zar)<|>(pvr 0)<||>Zac)<&&>Zac)<&&>Zac))<&&>Zac)<&&>Zac)<&&>(pvr 1))))),?_⟩;walk_at "wp";refine⟨_,SqL.of hl,_,rfl,_,rfl,Zci (λhc=>?_) (λhc=>?_)⟩
  .refine ⟨_,SqL.of hl,_,rfl,_,rfl,n0,_,SqL.of hl,_,rfl,_,rfl,⟨n0,∅⟩,_,hl,_,rfl,?_⟩;exact q _ _ _ (Zlt _ _ n0) (Zlu _ _ n0) b0 b1
  .refine ⟨_,SqL.of hl,_,rfl,_,rfl,.inr ⟨⇑0,⇑0⟩,⇑0,_,hl,_,rfl,_,SqL.of Zab,_,rfl,_,SqL.of Zab,_,rfl,_,rfl,⟨⇑0,⇑0⟩,_,rfl,?_⟩;have h1:=Zlt (b*48271+4099) 2147483647 ⇑0;have h2:=Zlu (b*48271+4099) 2147483647 ⇑0;refine⟨.inl ⟨∅,∅⟩,⇑0,⟨⇑0,⇑0⟩,n0,?_⟩;exact q _ _ _ (Zlt _ _ n0) (Zlu _ _ n0) h1 h2
def Zs5:Sp:=λvs H Q _=>∃ a b:Int,vs=[.int a,.int b]/\Q (.int (Int.gcd a b:Int)) H
theorem ok_gcd (F:Fun K "_law_gcd" "_law_gcd" Zi6 f fd)(T:Txt K mg C G S):FnOk P w K mg base CX0 1 f fd ["_law_one","_law_two"] Zs5:=by
 have nd:=Zj4.nd;refine F.ok Zj4 (λvs H Q E h=>?_) (λcdv A outer s H vs Q E hr h=>?_)
 .refine Zbd h λa b e97 _=>?_;clear h;obtain rfl:=e97;rfl
 .refine Zbd h λa b e98 q=>?_;clear h;obtain rfl:=e98;refine⟨_,((0|||nd|||(Za9 Zej rfl T.n_abs boot_abs ((pvr 0)<&>Zaa)))<*>((1|||nd|||(Za9 Zej rfl T.n_abs boot_abs ((pvr 1)<&>Zaa)))<*>((Zgq Ja5 (Zb4 Zd2 (pv 1) Zac (Zak _)) ((2|||nd|||((opJ Zcw)<|>(pvr 0)<&&>(pvr 1)))<*>((0|||nd|||(pvr 1))<*>(@Zan _ _ _ (1|||nd|||(pvr 2))))))<*>(~~~(pvr 0))))),?_⟩;walk_at "wp";have ea:(if a<0 then -a else a)=(a.natAbs:Int):=by split <;> omega
  have eb:(if b<0 then -b else b)=(b.natAbs:Int):=by split <;> omega
  rw[ea,eb];refine⟨λn σ H2=>∃ (x y:Int) (v:Option V),σ=[some (.int x),some (.int y),v]/\H2=H/\0<=x/\0<=y/\n=y.toNat/\Int.gcd x y=Int.gcd a b,⟨_,_,_,none,rfl,rfl,oz45,oz45,rfl,by unfold Int.gcd;rfl⟩,?_⟩;intro n σ H2 e91;refine Zb9 e91 λx y v e99 e910 hx e911=>?_;clear e91;obtain rfl:=e99;obtain rfl:=e910;refine Za2 e911 λhy e912 hg=>?_;clear e911;obtain rfl:=e912;walk_at "wp";refine Zci (λhc=>?_) (λhc=>?_)
  .have y1:0<y:=Jat hc;have l1:=Jbl x (show y≠0 by omega);have l2:=Ja7 x y1;refine⟨_,λ_ _ h=>h,?_⟩;walk_at "wp";exact⟨y1,_,oz104 y1 l2,y,x % y,_,⟨rfl,rfl,rfl⟩,oz69 y1,l1,rfl,by rw[Zoe];exact hg⟩
  .have hy0:¬ 0<y:=λz=>hc (Jah z);have hy0:y=0:=by exact oz90 hy hy0
   subst hy0;have e:x=(Int.gcd a b:Int):=by
    rw[<- hg,Int.gcd_zero];exact oz156 hx
   rw[<- e] at q;exact q
def Zot:Sp:=λvs H Q _=>∃ p k:Int,vs=[.int p,.int k]/\GroundP p/\∀ v H',Same H H'->NumV H' p v (Zgs p k)->Q v H'
theorem ok_int (F:Fun K "_law_int" "_law_int" Zi5 f fd)(T:Txt K mg C G S):FnOk P w K mg base CX0 1 f fd ["_law_p","_law_k"] Zot:=by
 have nd:=Zj3.nd;refine F.ok Zj3 (λvs H Q E h=>?_) (λcdv A outer s H vs Q E hr h=>?_)
 .refine Zbd h λp k e913 _=>?_;clear h;obtain rfl:=e913;rfl
 .refine Zbt h λp k e914 hp q=>?_;clear h;obtain rfl:=e914;have p0:=hp.lo;refine⟨_,((@Za6 _ _ _ _ _ _ _ _ (Zam (Zk9 Zd2) (pvr 0) Zac (Zak _)) (~~~((opJ Zcw)<|>(pvr 1)<&&>(pvr 0))) Zal)<*>(~~~(@Zaw _ _ _ _ _ ((pvr 1)<&>(Zac<&>Zaa))))),?_⟩;walk_at "wp";refine Zci (λhc=>?_) (λhc=>?_)
  .have hc:=Jat hc;refine⟨hc,q _ H (Same.refl _) ?_⟩;have:=NumV.of (H:=H) (x:=Zgs p k) (show ¬ p=0 by exact Zjh hc);rw[Zgs,if_neg (Zjh hc)] at this ⊢;exact this
  .have hc:¬ 0<p:=λz=>hc (Jah z);have hp0:p=0:=by exact oz90 p0 hc
   refine⟨⇑0,λt ht=>q _ _ (Same.new ht) ?_⟩;rw[Zgs,if_pos hp0];exact NumV.tup hp0 Zab
end
end Pf
namespace Pf
open PySem L2 L3 PyProof.Rows
section
variable {p:Int}{F:Type}[Lean.Grind.Field F]
theorem Zc2 {α:Type}{L:List α}{k i:Nat}{v d:α}(hk:k<L.length):(L.set k v).getD i d=if i=k then v else L.getD i d:=by
 rw[Jac,Jcd,Jac];by_cases h:i=k
 .subst h;rw[if_pos rfl,if_pos rfl,if_pos hk];rfl
 .rw [if_neg (λz=>h z.symm),if_neg h]
theorem Zmi {L L':List (Nat->F)}(h1:∀ i,i<L.length->SpL L' (at' L i))(h2:∀ i,i<L'.length->SpL L (at' L' i)):SpEq L L':=by
 refine⟨λv hv=>?_,λv hv=>?_⟩
 .refine Zae (Zn6 hv zv) λi hi e=>?_;have:=h1 i hi;rwa [show at' L i=v from e] at this
 .refine Zae (Zn6 hv zv) λi hi e=>?_;have:=h2 i hi;rwa [show at' L' i=v from e] at this
theorem Zor {L L':List (Nat->F)}{k:Nat}(hl:L'.length=L.length)(hk:k<L.length)(a:F)(ha:a≠0)(h:∀ i,i<L.length->i≠k->at' L' i=at' L i)(e:∀ j,at' L' k j=a*at' L k j):SpEq L' L:=by
 refine Zmi (λi hi=>?_) (λi hi=>?_)
 .by_cases hik:i=k
  .subst hik;rw[show at' L' i=λj=>a*at' L i j from funext e];exact Sp.smul a (.mem (Zb6 hk))
  .rw [h i (Zc0 hl hi) hik];exact .mem (Zb6 (Zc0 hl hi))
 .by_cases hik:i=k
  .subst hik;rw[show at' L i=λj=>(1 / a)*at' L' i j from funext λj=>by rw[e j];show at' L i j=_;grind];exact Sp.smul _ (.mem (Zb6 (oz8 hl hi)))
  .rw [<- h i hi hik];exact .mem (Zb6 (oz8 hl hi))
theorem Zpw {L L':List (Nat->F)}{k d:Nat}(hl:L'.length=L.length)(hk:k<L.length)(hd:d<L.length)(hne:d≠k)(b:F)(h:∀ i,i<L.length->i≠k->at' L' i=at' L i)(e:∀ j,at' L' k j=at' L k j+b*at' L d j):SpEq L' L:=by
 refine Zmi (λi hi=>?_) (λi hi=>?_)
 .by_cases hik:i=k
  .subst hik;rw[show at' L' i=λj=>1*at' L i j+b*at' L d j from funext λj=>by rw[e j];show at' L i j+_=_;grind];exact .comb 1 b (.mem (Zb6 hk)) (.mem (Zb6 hd))
  .rw [h i (Zc0 hl hi) hik];exact .mem (Zb6 (Zc0 hl hi))
 .by_cases hik:i=k
  .subst hik;rw[show at' L i=λj=>1*at' L' i j+(-b)*at' L' d j from funext λj=>by rw[h d hd hne,e j];show at' L i j=_;grind];exact .comb 1 (-b) (.mem (Zb6 (oz8 hl hi))) (.mem (Zb6 (oz8 hl hd)))
  .rw [<- h i hi hik];exact .mem (Zb6 (oz8 hl hi))
theorem Zpv {L L':List (Nat->F)}{s d:Nat}(hl:L'.length=L.length)(hs:s<L.length)(hd:d<L.length)(h:∀ i,i<L.length->at' L' i=if i=d then at' L s else if i=s then at' L d else at' L i):SpEq L' L:=by
 refine Zmi (λi hi=>?_) (λi hi=>?_)
 .rw [h i (Zc0 hl hi)];split
  .exact .mem (Zb6 hs)
  .split
   .exact .mem (Zb6 hd)
   .exact .mem (Zb6 (Zc0 hl hi))
 .by_cases h1:i=d
  .subst h1;have e:=h s hs;by_cases h2:s=i
   .rw [if_pos h2,h2] at e;rw[<- e];exact .mem (Zb6 ∅)
   .rw [if_neg h2,if_pos rfl] at e;rw[<- e];exact .mem (Zb6 (oz8 hl hs))
  .by_cases h2:i=s
   .subst h2;have e:=h d hd;rw[if_pos rfl] at e;rw[<- e];exact .mem (Zb6 (oz8 hl hd))
   .have e:=h i hi;rw[if_neg h1,if_neg h2] at e;rw[<- e];exact .mem (Zb6 (oz8 hl hi))
structure LrF (F:Type)[Lean.Grind.Field F](n c:Nat)(M0 M:Mv)(pl:List Nat):Prop where
 ml:M.length=n
 dl:pl.length<=n
 asc:∀ i j,i<j->j<pl.length->pl.getD i 0<pl.getD j 0
 lt:∀ i,i<pl.length->pl.getD i 0<c
 one:∀ i,i<pl.length->(vN (M.getD i []) (pl.getD i 0):F)=1
 col:∀ i k,i<n->k<pl.length->i≠k->(vN (M.getD i []) (pl.getD k 0):F)=0
 low:∀ i j,i<pl.length->j<pl.getD i 0->(vN (M.getD i []) j:F)=0
 zer:∀ i j,pl.length<=i->i<n->j<c->(vN (M.getD i []) j:F)=0
 sp:SpEq (F:=F) (M.map vN) (M0.map vN)
theorem LrF.start {n:Nat}{M:Mv}(h:M.length=n):LrF F n 0 M M []:=
 ⟨h,Jb5 _,λi j _ h=>by simp at h,λi h=>by simp at h,λi h=>by simp at h,λi k _ h=>by simp at h,λi j h=>by simp at h,λi j _ _ h=>∅,SpEq.refl _⟩
theorem LrF.skip {n c:Nat}{M0 M:Mv}{pl:List Nat}(h:LrF F n c M0 M pl)(hz:∀ i,pl.length<=i->i<n->(vN (M.getD i []) c:F)=0):LrF F n (c+1) M0 M pl:=
 ⟨h.ml,h.dl,h.asc,λi hi=>Jcz (h.lt i hi),h.one,h.col,h.low,λi j h1 h2 h3=>by
  by_cases e:j=c
  .subst e;exact hz i h1 h2
  .exact h.zer i j h1 h2 (oz21 h3 e),h.sp⟩
structure LrG (F:Type)[Lean.Grind.Field F](n c k:Nat)(M0 M:Mv)(pl:List Nat):Prop where
 ml:M.length=n
 dl:pl.length<n
 asc:∀ i j,i<j->j<pl.length->pl.getD i 0<pl.getD j 0
 lt:∀ i,i<pl.length->pl.getD i 0<c
 one:∀ i,i<pl.length->(vN (M.getD i []) (pl.getD i 0):F)=1
 col:∀ i k,i<n->k<pl.length->i≠k->(vN (M.getD i []) (pl.getD k 0):F)=0
 low:∀ i j,i<pl.length->j<pl.getD i 0->(vN (M.getD i []) j:F)=0
 zer:∀ i j,pl.length<=i->i<n->j<c->(vN (M.getD i []) j:F)=0
 pv:(vN (M.getD pl.length []) c:F)=1
 cl:∀ i,i<k->i<n->i≠pl.length->(vN (M.getD i []) c:F)=0
 sp:SpEq (F:=F) (M.map vN) (M0.map vN)
theorem Zev {M:Mv}{i:Nat}(h:i<M.length):at' (M.map (vN (F:=F))) i=vN (M.getD i []):=at_map h
theorem LrF.lead {n c s:Nat}{M0 M M':Mv}{pl:List Nat}{a:F}(h:LrF F n c M0 M pl)(hs:pl.length<=s)(hsn:s<n)(ha:(vN (M.getD s []) c:F)*a=1)(hl:M'.length=n)(e1:∀ j,(vN (M'.getD pl.length []) j:F)=a*vN (M.getD s []) j)(e2:∀ i,i<n->i≠pl.length->(vN (M'.getD i []):Nat->F)=if i=s then vN (M.getD pl.length []) else vN (M.getD i [])):LrG F n c 0 M0 M' pl:=by
 have dn:pl.length<n:=∅
 have ml:=h.ml;have a0:a≠0:=λz=>by
  rw[z] at ha;exact fone (F:=F) (by rw[<- ha];grind)
 have eq:∀ i,i<pl.length->(vN (M'.getD i []):Nat->F)=vN (M.getD i []):=λi hi=>by rw[e2 i (oz25 dn hi) ∅,if_neg ∅]
 refine⟨hl,dn,h.asc,h.lt,λi hi=>by rw[eq i hi];exact h.one i hi,λi k hi hk hne=>?_,λi j hi hj=>by rw[eq i hi];exact h.low i j hi hj,λi j h1 h2 h3=>?_,?_,λi hi=>∅,?_⟩
 .by_cases hd:i=pl.length
  .rw [hd,e1,h.col s k hsn hk ∅]
   grind
  .rw [e2 i hi hd];split
   .exact h.col _ k dn hk ∅
   .exact h.col i k hi hk hne
 .by_cases hd:i=pl.length
  .rw [hd,e1,h.zer s j hs hsn h3]
   grind
  .rw [e2 i h2 hd];split
   .exact h.zer _ j (Jag _) dn h3
   .exact h.zer i j h1 h2 h3
 .rw [e1]
  grind
 .-- swap,then divide
  refine SpEq.trans ?_ h.sp;have hM:(M.map (vN (F:=F))).length=n:=by rw[Jab];exact ml
  have step1:=Zor (L:=(((M.set s (M.getD pl.length [])).set pl.length (M.getD s [])).map (vN (F:=F)))) (L':=M'.map vN) (k:=pl.length) (by rw[Jab,Jab,Jav,Jav];exact oz42 hl ml) (by rw[Jab,Jav,Jav];exact Zh3 dn ml) a a0
   (λi hi hne=>by
    rw[Jab,Jav,Jav] at hi;rw[Zev (oz44 hl ml hi),Zev (by rw[Jav,Jav];exact oz37 hi),e2 i (Zc0 ml hi) hne,Zc2 (by rw[Jav];exact Zh3 dn ml),if_neg hne,Zc2 (Zh3 hsn ml)];split <;> rfl)
   (λj=>by
    rw[Zev (oz8 hl dn),Zev (by rw[Jav,Jav];exact Zh3 dn ml),e1,Zc2 (by rw[Jav];exact Zh3 dn ml),if_pos rfl])
  refine step1.trans (Zpv (s:=s) (d:=pl.length) (by simp) (Zh3 hsn hM) (Zh3 dn hM) λi hi=>?_);rw[hM] at hi;rw[Zev (by rw[Jav,Jav];exact oz8 ml hi),Zc2 (by rw[Jav];exact Zh3 dn ml),Zc2 (Zh3 hsn ml),Zev (Zh3 hsn ml),Zev (Zh3 dn ml),Zev (oz8 ml hi)];split
  .rfl
  .split <;> rfl
theorem LrG.skip {n c k:Nat}{M0 M:Mv}{pl:List Nat}(h:LrG F n c k M0 M pl)(hz:k≠pl.length->k<n->(vN (M.getD k []) c:F)=0):LrG F n c (k+1) M0 M pl:=
 ⟨h.ml,h.dl,h.asc,h.lt,h.one,h.col,h.low,h.zer,h.pv,λi h1 h2 h3=>by
  by_cases e:i=k
  .subst e;exact hz h3 h2
  .exact h.cl i (oz21 h1 e) h2 h3,h.sp⟩
theorem LrG.take {n c k:Nat}{M0 M M':Mv}{pl:List Nat}(h:LrG F n c k M0 M pl)(hk:k<n)(hkd:k≠pl.length)(hl:M'.length=n)(e1:∀ j,(vN (M'.getD k []) j:F)=vN (M.getD k []) j+(-vN (M.getD k []) c)*vN (M.getD pl.length []) j)(e2:∀ i,i<n->i≠k->M'.getD i []=M.getD i []):LrG F n c (k+1) M0 M' pl:=by
 have ml:=h.ml;have dn:=h.dl;have zd:∀ j,j<c->(vN (M.getD pl.length []) j:F)=0:=λj hj=>h.zer _ j (Jag _) dn hj;refine⟨hl,dn,h.asc,h.lt,λi hi=>?_,λi l hi hl' hne=>?_,λi j hi hj=>?_,λi j h1 h2 h3=>?_,?_,λi h1 h2 h3=>?_,?_⟩
 .by_cases hik:i=k
  .subst hik;rw[e1,zd _ (h.lt i hi),h.one i hi]
   grind
  .rw [e2 i (oz25 dn hi) hik];exact h.one i hi
 .by_cases hik:i=k
  .subst hik;rw[e1,zd _ (h.lt l hl'),h.col i l hi hl' hne]
   grind
  .rw [e2 i hi hik];exact h.col i l hi hl' hne
 .by_cases hik:i=k
  .subst hik;rw[e1,zd j (by have:=h.lt i hi;omega),h.low i j hi hj]
   grind
  .rw [e2 i (oz25 dn hi) hik];exact h.low i j hi hj
 .by_cases hik:i=k
  .subst hik;rw[e1,zd j h3,h.zer i j h1 h2 h3]
   grind
  .rw [e2 i h2 hik];exact h.zer i j h1 h2 h3
 .rw [e2 _ dn (Jdq hkd)];exact h.pv
 .by_cases hik:i=k
  .subst hik;rw[e1,h.pv]
   grind
  .rw [e2 i h2 hik];exact h.cl i (oz21 h1 hik) h2 h3
 .refine SpEq.trans (Zpw (k:=k) (d:=pl.length) (by rw[Jab,Jab];exact oz42 hl ml) (by rw[Jab];exact Zh3 hk ml) (by rw[Jab];exact oz8 ml dn) (Jdq hkd) (-vN (M.getD k []) c) (λi hi hne=>?_) λj=>?_) h.sp
  .rw [Jab] at hi;rw[Zev (oz44 hl ml hi),Zev hi,e2 i (Zc0 ml hi) hne]
  .rw [Zev (Zh3 hk hl),Zev (Zh3 hk ml),Zev (oz8 ml dn)];exact e1 j
theorem LrG.next {n c:Nat}{M0 M:Mv}{pl:List Nat}(h:LrG F n c n M0 M pl):LrF F n (c+1) M0 M (pl++[c]):=by
 have dn:=h.dl;have gl:∀ {i:Nat},i<pl.length->(pl++[c]).getD i 0=pl.getD i 0:=λ{i} hi=>by rw[Zlz,if_pos hi]
 have gd:(pl++[c]).getD pl.length 0=c:=by rw[Zlz,if_neg ∅,if_pos rfl]
 have ll:(pl++[c]).length=pl.length+1:=by rw[Jaj];rfl
 refine⟨h.ml,∅,λi j hij hj=>?_,λi hi=>?_,λi hi=>?_,λi k hi hk hne=>?_,λi j hi hj=>?_,λi j h1 h2 h3=>?_,h.sp⟩
 .rw [ll] at hj;rw[gl (oz78 hij hj)];by_cases e:j<pl.length
  .rw [gl e];exact h.asc i j hij e
  .rw [show j=pl.length by exact oz14 hj e,gd];exact h.lt i (oz78 hij hj)
 .rw [ll] at hi;by_cases e:i<pl.length
  .rw [gl e];exact Jcz (h.lt i e)
  .rw [show i=pl.length by exact oz14 hi e,gd];exact Zji
 .rw [ll] at hi;by_cases e:i<pl.length
  .rw [gl e];exact h.one i e
  .rw [show i=pl.length by exact oz14 hi e,gd];exact h.pv
 .rw [ll] at hk;by_cases e:k<pl.length
  .rw [gl e];exact h.col i k hi e hne
  .have ek:k=pl.length:=by exact oz14 hk e
   rw[ek,gd];exact h.cl i hi hi (oz70 hk hne e)
 .rw [ll] at hi;by_cases e:i<pl.length
  .rw [gl e] at hj;exact h.low i j e hj
  .have ei:i=pl.length:=by exact oz14 hi e
   rw[ei,gd] at hj;rw[ei];exact h.zer _ j (Jag _) dn hj
 .rw [ll] at h1;by_cases e:j=c
  .subst e;exact h.cl i h2 h2 ∅
  .exact h.zer i j (oz150 h1) h2 (oz21 h3 e)
theorem LrF.rr {n wd:Nat}{M0 M:Mv}{pl:List Nat}(h:LrF F n wd M0 M pl):RR (M.map (vN (F:=F))) wd pl.length (λi=>pl.getD i 0):=by
 have ml:=h.ml;have dl:=h.dl;refine⟨by rw[Jab];omega,h.lt,λi k h1 h2=>h.asc i k h1 h2,λi k hi hk=>?_,λi j hi hj=>?_,λi j hi hi2 hj=>?_⟩
 .rw [Zev ∅];show _=if i=k then (1:F) else 0
  by_cases e:i=k
  .subst e;rw[if_pos rfl];exact h.one i hi
  .rw [if_neg e];exact h.col i k ∅ hk e
 .rw [Zev ∅];exact h.low i j hi hj
 .rw [Jab] at hi2;rw[Zev hi2];exact h.zer i j hi (Zc0 ml hi2) hj
end
end Pf
namespace Pf
open PySem L2 L3 PyProof.Rows
section
variable {G PL cL:Addr}
def Zlg:L2.Sp:=λvs H Q _=>∃ a b:Int,vs=[.int a,.int b]/\0<b/\∀ t,H t=none->Q (.ref t) (upd H t (.tup [.int (nrm a b).1,.int (nrm a b).2]))
theorem ok_lowB (F:Fun K "_law_lowest" "_law_lowest" Zdq f fd)(T:Txt K mg C G S)(hpt:P.given.tree=none)(Yar:Cal P w K mg base "_law_gcd" 1 Zs5):FnOk P w K mg base CX0 2 f fd ["_law_top","_law_bottom"] Zlg:=by
 have nd:=Zc4.nd;refine F.ok Zc4 (λvs H Q E h=>?_) (λcdv A outer s H vs Q E hr h=>?_)
 .refine Zbd h λa b e91 _=>?_;clear h;obtain rfl:=e91;rfl
 .refine Zbt h λa b e92 hb q=>?_;clear h;obtain rfl:=e92;have Zgg:∀ {c A B:Prop} [Decidable c],¬ c->B->if c then A else B:=λhc h=>by rw[if_neg hc];exact h
  refine⟨_,((@Za6 _ _ _ _ _ _ _ _ (Zb4 Zia (pvr 1) Zac (Zak _)) (@Zan _ _ _ Zcu) Zal)<*>((2|||nd|||(Yar<$>hr<$>((pvr 0)<&>((pvr 1)<&>Zaa))))<*>(~~~(@Zaw _ _ _ _ _ (((Zc6 hpt (Zce hr))<|>(pvr 0)<&&>(pvr 2))<&>(((Zc6 hpt (Zce hr))<|>(pvr 1)<&&>(pvr 2))<&>Zaa)))))),?_⟩;walk_at "wp";have g0:=Zeg (a:=a) hb;refine Zgg (by rw[Jay ∅];decide) ⟨a,b,rfl,_,rfl,∅,_,rfl,∅,⇑0,λt ht=>?_⟩;rw[Zeh g0,Zeh g0];exact q t ht
def Zp0:L2.Sp:=λvs H Q _=>∃ a b:Int,vs=[.int a,.int b]/\b≠0/\∀ t,H t=none->Q (.ref t) (upd H t (.tup [.int (nrS a b).1,.int (nrS a b).2]))
theorem ok_lowZ (F:Fun K "_law_lowest" "_law_lowest" Zdq f fd)(T:Txt K mg C G S)(hpt:P.given.tree=none)(Yar:Cal P w K mg base "_law_gcd" 1 Zs5)(Yaf:Cal P w K mg base "_law_lowest" 2 Zlg):FnOk P w K mg base CX0 3 f fd ["_law_top","_law_bottom"] Zp0:=by
 have nd:=Zc4.nd;refine F.ok Zc4 (λvs H Q E h=>?_) (λcdv A outer s H vs Q E hr h=>?_)
 .refine Zbd h λa b e93 _=>?_;clear h;obtain rfl:=e93;rfl
 .refine Zbt h λa b e94 hb q=>?_;clear h;obtain rfl:=e94;refine⟨_,((@Za6 _ _ _ _ _ _ _ _ (Zb4 Zia (pvr 1) Zac (Zak _)) (~~~(Yaf<$>hr<$>((Zh9 Zel (pvr 0))<&>((Zh9 Zel (pvr 1))<&>Zaa)))) Zal)<*>((2|||nd|||(Yar<$>hr<$>((pvr 0)<&>((pvr 1)<&>Zaa))))<*>(~~~(@Zaw _ _ _ _ _ (((Zc6 hpt (Zce hr))<|>(pvr 0)<&&>(pvr 2))<&>(((Zc6 hpt (Zce hr))<|>(pvr 1)<&&>(pvr 2))<&>Zaa)))))),?_⟩;walk_at "wp";refine Zci (λhc=>?_) (λhc=>?_)
  .have hc:=Jat hc;refine Zaq (-a) (-b) ⟨rfl,∅,λt ht=>?_⟩;have:=q t ht;unfold nrS at this;rw[if_pos hc] at this;exact this
  .have hc:¬ b<0:=λz=>hc (Jah z);have g0:=Zeg (a:=a) (show 0<b by omega);refine Zaq a b ⟨rfl,_,rfl,∅,_,rfl,∅,⇑0,λt ht=>?_⟩;rw[Zeh g0,Zeh g0];have:=q t ht;unfold nrS at this;rw[if_neg hc] at this;exact this
structure TwoB (H:Hp)(p:Int)(va vb:V)(x y:Nv):Prop where
 a:NumV H p va x
 b:NumV H p vb y
 hx:Isn p x
 hy:Isn p y
 bt:∃ n m:Nat,Bt n x.1/\Bt n x.2/\Bt m y.1/\Bt m y.2/\n+m<=134000000
def Zh8 (op:Int->Nv->Nv->Nv):L2.Sp:=λvs H Q _=>∃ (p:Int) (va vb:V) (x y:Nv),vs=[.int p,va,vb]/\GroundP p/\TwoB H p va vb x y/\∀ v H',Same H H'->NumV H' p v (op p x y)->Q v H'
theorem ok_addB (F:Fun K "_law_add" "_law_add" Zi9 f fd)(T:Txt K mg C G S)(Yaf:Cal P w K mg base "_law_lowest" 2 Zlg):FnOk P w K mg base CX0 3 f fd ["_law_p","_law_a","_law_b"] (Zh8 Zcz):=by
 have nd:=Zj7.nd;refine F.ok Zj7 (λvs H Q E h=>?_) (λcdv A outer s H vs Q E hr h=>?_)
 .refine Zpi h λp va vb x y e95 _=>?_;clear h;obtain rfl:=e95;rfl
 .refine Zg4 h λp va vb x y e96 hp h2 q=>?_;clear h;obtain rfl:=e96;have p0:=hp.lo;refine Zki h2.bt λn m b1 b2 b3 b4 nm'=>?_;refine⟨_,((@Za6 _ _ _ _ _ _ _ _ (Zb4 Zd2 (pvr 0) Zac (Zak _)) (~~~(Zcw<|>(Zdg<|>(pvr 1)<&&>(pvr 2))<&&>(pvr 0))) Zal)<*>(~~~(Yaf<$>hr<$>((Zdg<|>(Zbp<|>(Zat<|>(pvr 1)<||>Zac)<&&>(Zat<|>(pvr 2)<||>Zac))<&&>(Zbp<|>(Zat<|>(pvr 2)<||>Zac)<&&>(Zat<|>(pvr 1)<||>Zac)))<&>((Zbp<|>(Zat<|>(pvr 1)<||>Zac)<&&>(Zat<|>(pvr 2)<||>Zac))<&>Zaa))))),?_⟩;walk_at "wp";refine Zci (λhc=>?_) (λhc=>?_)
  .have hc:=Jat hc;obtain rfl:=h2.a.int (Zjh hc);obtain rfl:=h2.b.int (Zjh hc);refine⟨_,rfl,_,rfl,hc,q _ H (Same.refl _) ?_⟩;have:=NumV.of (H:=H) (x:=Zcz p x y) (show ¬ p=0 by exact Zjh hc);rw[Zcz,if_neg (Zjh hc)] at this ⊢;exact this
  .have hc:¬ 0<p:=λz=>hc (Jah z);have hp0:p=0:=by exact oz90 p0 hc
   refine Zae (h2.a.ref hp0) λta e97 hta=>?_;obtain rfl:=e97;refine Zae (h2.b.ref hp0) λtb e98 htb=>?_;obtain rfl:=e98;walk_at "wp";refine⟨_,SqT.of hta,_,rfl,_,SqT.of htb,_,rfl,_,rfl,_,rfl,b1.ok b4 (Ztr nm'),_,SqT.of htb,_,rfl,_,SqT.of hta,_,rfl,_,rfl,_,rfl,b3.ok b2 ∅,_,SqT.of hta,_,rfl,_,SqT.of htb,_,rfl,_,rfl,_,rfl,b2.ok b4 (Ztr nm'),?_⟩;refine Zaq _ _ ⟨rfl,Jc9 h2.hx.pos h2.hy.pos,λt ht=>q _ _ (Same.new ht) ?_⟩;rw[Zcz,if_pos hp0];exact NumV.tup hp0 Zab
theorem ok_mulB (F:Fun K "_law_mul" "_law_mul" Zi3 f fd)(T:Txt K mg C G S)(Yaf:Cal P w K mg base "_law_lowest" 2 Zlg):FnOk P w K mg base CX0 3 f fd ["_law_p","_law_a","_law_b"] (Zh8 Za8):=by
 have nd:=Zj1.nd;refine F.ok Zj1 (λvs H Q E h=>?_) (λcdv A outer s H vs Q E hr h=>?_)
 .refine Zpi h λp va vb x y e99 _=>?_;clear h;obtain rfl:=e99;rfl
 .refine Zg4 h λp va vb x y e910 hp h2 q=>?_;clear h;obtain rfl:=e910;have p0:=hp.lo;refine Zki h2.bt λn m b1 b2 b3 b4 nm'=>?_;refine⟨_,((@Za6 _ _ _ _ _ _ _ _ (Zb4 Zd2 (pvr 0) Zac (Zak _)) (~~~(Zcw<|>(Zkb<|>(pvr 1)<&&>(pvr 2))<&&>(pvr 0))) Zal)<*>(~~~(Yaf<$>hr<$>((Zbp<|>(Zat<|>(pvr 1)<||>Zac)<&&>(Zat<|>(pvr 2)<||>Zac))<&>((Zbp<|>(Zat<|>(pvr 1)<||>Zac)<&&>(Zat<|>(pvr 2)<||>Zac))<&>Zaa))))),?_⟩;walk_at "wp";refine Zci (λhc=>?_) (λhc=>?_)
  .have hc:=Jat hc;obtain rfl:=h2.a.int (Zjh hc);obtain rfl:=h2.b.int (Zjh hc);have p97:=hp.hi;have hx:0<=x.1/\x.1<p:=by rcases h2.hx with ⟨h,_⟩|⟨_,h,h',_⟩ <;> omega
   refine⟨_,rfl,_,rfl,.inl ⟨∅,∅⟩,hc,q _ H (Same.refl _) ?_⟩;have:=NumV.of (H:=H) (x:=Za8 p x y) (show ¬ p=0 by exact Zjh hc);rw[Za8,if_neg (Zjh hc)] at this ⊢;exact this
  .have hc:¬ 0<p:=λz=>hc (Jah z);have hp0:p=0:=by exact oz90 p0 hc
   refine Zae (h2.a.ref hp0) λta e911 hta=>?_;obtain rfl:=e911;refine Zae (h2.b.ref hp0) λtb e912 htb=>?_;obtain rfl:=e912;walk_at "wp";refine⟨_,SqT.of hta,_,rfl,_,SqT.of htb,_,rfl,_,rfl,_,rfl,b1.ok b3 (Ztr nm'),_,SqT.of hta,_,rfl,_,SqT.of htb,_,rfl,_,rfl,_,rfl,b2.ok b4 (Ztr nm'),?_⟩;refine Zaq _ _ ⟨rfl,Jc9 h2.hx.pos h2.hy.pos,λt ht=>q _ _ (Same.new ht) ?_⟩;rw[Za8,if_pos hp0];exact NumV.tup hp0 Zab
abbrev BtN (n:Nat)(x:Nv):Prop:=Bt n x.1/\Bt n x.2
theorem BtN.le {n m:Nat}{x:Nv}(h:BtN n x)(hm:n<=m):BtN m x:=⟨h.1.le hm,h.2.le hm⟩
theorem Zk6 {p:Int}{x:Nv}(h0:p≠0)(p97:p<=97)(h:Isn p x):BtN 7 x:=by
 rcases h with ⟨e,_⟩|⟨_,e1,e2,e3⟩
 .exact absurd e h0
 .exact ⟨Zbi (Jag _) ∅,by rw[e3];exact Zbi (Jag _) ⇑0⟩
theorem Znc {a b:Int}{n:Nat}(ha:Bt n a)(hb:Bt n b):BtN n (nrm a b):=⟨ha.quo (Jb7 ..),hb.quo (Jcc ..)⟩
theorem Zij {p:Int}{x y:Nv}{n m:Nat}(hp:GroundP p)(hx:Isn p x)(hy:Isn p y)(h1:BtN n x)(h2:BtN m y)(h7:7<=n):BtN (n+m+1) (Zcz p x y):=by
 by_cases h0:p=0
 .unfold Zcz;rw[if_pos h0];refine Znc ?_ ((h1.2.mul h2.2).le ∅);have a:=h1.1.mul h2.2;have b:=h2.1.mul h1.2;rw[Nat.add_comm m n] at b;exact Bt.add a b
 .exact (Zk6 h0 hp.hi (Zfn hp.lo hx hy)).le ∅
theorem Zdm {p:Int}{x y:Nv}{n m:Nat}(hp:GroundP p)(hx:Isn p x)(hy:Isn p y)(h1:BtN n x)(h2:BtN m y)(h7:7<=n+m):BtN (n+m) (Za8 p x y):=by
 by_cases h0:p=0
 .unfold Za8;rw[if_pos h0];exact Znc (h1.1.mul h2.1) (h1.2.mul h2.2)
 .exact (Zk6 h0 hp.hi (Zbb hp.lo hx hy)).le h7
theorem Zu2 {p:Int}{x:Nv}{n:Nat}(hp:GroundP p)(hx:Isn p x)(h:BtN n x)(h7:7<=n):BtN (n+1) (Za8 p (Zgs p (-1)) x):=by
 by_cases h0:p=0
 .unfold Za8 Zgs;rw[if_pos h0,if_pos h0];refine Znc ?_ ?_
  .exact (show Bt n (-1*x.1) by rw[show -1*x.1=-x.1 by omega];exact h.1.neg).le ∅
  .exact (show Bt n (1*x.2) by rw[Int.one_mul];exact h.2).le ∅
 .exact (Zk6 h0 hp.hi (Zbb hp.lo (Zc1 hp.lo) hx)).le ∅
theorem Zk4 {lo:Int}{n:Nat}{D:Addr}{fr:List (Str×Nat)}{σ:L2.St}{tt:TT}{H1:Hp}{Q:VK}(fb:Nat->Bool)(hD:H1 D=none)(hn:n<=1000)(h:∀ (i:Nat) H (Q:Bool->Hp->Prop),i<n->Same H1 H->(∀ H',Same H H'->Q (fb i) H')->tt (some (.int (lo+(i:Nat)))::Zbm fr σ) H Q)(hQ:∀ H',Same H1 H'->H' D=some (.lst (((List.range n).filter fb).map λi=>V.int (lo+(i:Nat))))->Q (.ref D) H'):Zbu (Zbe 0) tt (Zg5 0) (Itr lo n) D (Zg2 1 fr σ) H1 Q:=by
 refine Zgx (n:=n) (λi vs H=>Same H1 H/\H D=some (.lst vs)/\vs=(((List.range i).filter fb).map λi=>V.int (lo+(i:Nat)))) ⟨Same.new hD,Zab,rfl⟩ ?_ (λvs H ⟨s,e,hv⟩=>hQ H s (by rw[e,hv]));intro i x vs σ' H hi e91;obtain rfl:=e91;intro sh e92;refine Za2 e92 λs e e93=>?_;clear e92;obtain rfl:=e93;obtain⟨z,rfl⟩:=sh.one;simp only[Zfq,Zbe,List.set_cons_zero];refine h i H _ hi s λH' s'=>?_;have e2:(List.range (i+1)).filter fb=(List.range i).filter fb++(if fb i=true then [i] else []):=by
  rw[Jce,List.filter_append];congr 1;cases hb:fb i <;> simp[hb]
 have e':=s' _ _ e;cases hb:fb i with
 | false=>
  rw[hb] at e2;exact leaf0 (ws:=((List.range (i+1)).filter fb).map λi=>V.int (lo+(i:Nat))) hi Sh.mk1 ⟨s.trans s',by rw[e',e2];simp,rfl⟩
 | true=>
  rw[hb,if_pos rfl] at e2;refine⟨_,rfl,Zky (ws:=((List.range (i+1)).filter fb).map λi=>V.int (lo+(i:Nat))) hi Sh.mk1 e' (Zas ?_) ⟨(s.trans s').upd hD,by rw[Zab,e2,Jbb];rfl,rfl⟩⟩;have:=List.length_filter_le fb (List.range i);rw[Jab];rw[Jal] at this;omega
structure IsB (p:Int)(x y:Nv):Prop where
 is:Isn p y
 fd:∀ (F:Type) [Lean.Grind.Field F],FdOk p F->(nm x:F)*nm y=1
 bt:∀ n:Nat,7<=n->BtN n x->BtN n y
theorem Zuk {x:Nv}(hx:Isn 0 x)(h:x.1≠0):IsB 0 x (nrS x.2 x.1):=by
 have iq:=Zn9 (a:=x.2) h;refine⟨iq.is,λF _ hF=>?_,λn h7 b=>iq.bt n h7 b.2 b.1⟩;rw[iq.fd F hF];have b1:=hF.bot hx;have b2:(ic x.1:F)≠0:=hF.ne0 (.inl rfl) h;unfold nm
 grind
theorem Zrl {p:Int}{x:Nv}{k:Int}(hp:Zfg p)(hx:Isn p x)(k0:0<=k)(k1:k<p)(h:k*x.1 % p=1):IsB p x (k,1):=by
 have p1:=hp.1;have p97:=hp.2.1;refine⟨.inr ⟨Zmy p1,k0,k1,rfl⟩,λF _ hF=>?_,λn h7 _=>⟨Zbi h7 (by show k.natAbs<128;exact oz148 k0 k1 p97),Zbi h7 (by show (1:Int).natAbs<128;decide)⟩⟩;have hx2:x.2=1:=by
  rcases hx with ⟨z,_⟩|⟨_,_,_,h⟩
  .omega
  .exact h
 have e:(ic (k*x.1):F)=1:=by rw[<- hF.modF (Zto p1),h,Zes]
 rw[hF.one];unfold nm;rw[hx2,Zes];rw[Zcl] at e;have:=fone (F:=F)
 grind
def Zmq:L2.Sp:=λvs H Q _=>∃ (p:Int) (va:V) (x:Nv),vs=[.int p,va]/\GroundP p/\NumV H p va x/\Isn p x/\x.1≠0/\∀ v y H',Same H H'->NumV H' p v y->IsB p x y->Q v H'
theorem ok_back (F:Fun K "_law_back" "_law_back" Zhe f fd)(T:Txt K mg C G S)(Yaf:Cal P w K mg base "_law_lowest" 3 Zp0):FnOk P w K mg base CX0 4 f fd ["_law_p","_law_a"] Zmq:=by
 have nd:=Ziu.nd;refine F.ok Ziu (λvs H Q E h=>?_) (λcdv A outer s H vs Q E hr h=>?_)
 .refine Zf3 h λp va x e94 _=>?_;clear h;obtain rfl:=e94;rfl
 .refine Zb9 h λp va x e95 hp nx e96=>?_;clear h;obtain rfl:=e95;refine Za2 e96 λix x0 q=>?_;clear e96;refine⟨_,((@Za6 _ _ _ _ _ _ _ _ (Zam (Zm0 Zc7) (pvr 0) Zac (Zak _)) (~~~(Yaf<$>hr<$>(((Zgh Zat)<|>(pvr 1)<||>Zac)<&>(((Zgh Zat)<|>(pvr 1)<||>Zac)<&>Zaa)))) Zal)<*>(~~~(Zar<|>(Za3 (own:=["_law_k"]) (fr:=[("_law_a",1),("_law_p",0)]) rfl (Zbn (by kernel_rfl)) (pi_r2 rfl T.n_range (Zac<&>((pv 0)<&>Zaa))) (λ_ _ _ _=>⟨(0<<<["_law_k","_law_a","_law_p"]),(Zmt (Zb4 Zc7 (Zcw<|>(Zkb<|>(pv 0)<&&>(pv 1))<&&>(pv 2)) Zac (Zak _))),(pv 0)⟩))<||>Zac))),?_⟩;walk_at "wp";refine Zci (λhc=>?_) (λhc=>?_)
  .have hp0:p=0:=by simpa using hc
   subst hp0;refine Zae (nx.ref rfl) λta e97 hta=>?_;obtain rfl:=e97;walk_at "wp";exact⟨_,SqT.of hta,_,rfl,_,SqT.of hta,_,rfl,_,_,rfl,x0,λt ht=>q _ _ _ (Same.new ht) (NumV.tup rfl Zab) (Zuk ix x0)⟩
  .have hp0:¬ p=0:=by simpa using hc
   obtain rfl:=nx.int hp0;have hp1:Zfg p:=hp.resolve_left hp0;have p1:=hp1.1;have p97:=hp1.2.1;have xr:0<=x.1/\x.1<p:=by rcases ix with ⟨h,_⟩|⟨_,h,h',_⟩ <;> omega
   obtain⟨k,k1,kp,kb⟩:=Zvz (b:=x.1) hp1 (by rw[Jb0 xr.1 xr.2];exact x0);refine⟨_,rfl,1,p,rfl,⟨⇑0,⇑0,∅,∅⟩,λD hD=>Zk4 (λi=>decide ((1+(i:Nat):Int)*x.1 % p=1)) hD ∅ (λi H4 Q4 hi s4 q4=>?_) λH4 s4 e4=>?_⟩
   .simp only [Zbm];walk_at "wp";refine⟨_,rfl,_,rfl,.inl ⟨∅,∅⟩,_,rfl,_,rfl,Zmy p1,?_⟩;exact q4 H4 (Same.refl _)
   .have hmem:k-1∈(List.range (p-1).toNat).filter (λi=>decide ((1+(i:Nat):Int)*x.1 % p=1)):=by
     rw[Jcv,Ja0];refine⟨oz179 k1 kp,Jah ?_⟩;rw[show (1+((k-1:Nat):Int))=k by exact oz173 k1];exact kb
    generalize hL:(List.range (p-1).toNat).filter (λi=>decide ((1+(i:Nat):Int)*x.1 % p=1))=L at *;cases L with
    | nil=>simp at hmem
    | cons i L=>
     have hi:i∈(List.range (p-1).toNat).filter (λi=>decide ((1+(i:Nat):Int)*x.1 % p=1)):=by rw[hL];simp
     rw[Jcv,Ja0] at hi;have hib:=Jat hi.2;exact⟨D,rfl,_,SqL.of e4,_,Zb0 ⇑0 rfl,q _ (1+(i:Int),1) H4 s4 (NumV.of (x:=(1+(i:Int),1)) hp0) (Zrl hp1 ix ∅ ∅ hib)⟩
def Zr2 (p:Int)(f g:Nat->Nv):Nat->Nv
 | 0=>Zgs p 0
 | k+1=>Zcz p (Zr2 p f g k) (Za8 p (f k) (g k))
abbrev Zuu (p:Int)(xs ys:List Nv):Nv:=Zr2 p (λk=>xs.getD k (0,1)) (λk=>ys.getD k (0,1)) xs.length
abbrev Zib (B:Mv)(j:Nat):List Nv:=B.map λrow=>row.getD j (0,1)
def Zbg (p:Int)(A B:Mv)(wd:Nat):Mv:=A.map λrow=>(List.range wd).map λj=>Zuu p row (Zib B j)
theorem Zkj {p:Int}{x y:Nv}{n m:Nat}(hp:GroundP p)(hx:Isn p x)(hy:Isn p y)(h1:BtN n x)(h2:BtN m y):BtN (n+m+7) (Za8 p x y):=by
 have:=Zdm hp hx hy h1 (h2.le (show m<=m+7 by omega)) ∅;rwa [<- Nat.add_assoc] at this
theorem Zr1 {p:Int}(hp:GroundP p){f g:Nat->Nv}{k1 k2:Nat}:∀ {n:Nat},(∀ i,i<n->Isn p (f i)/\BtN k1 (f i))->(∀ i,i<n->Isn p (g i)/\BtN k2 (g i))->Isn p (Zr2 p f g n)/\BtN (7+n*(k1+k2+8)) (Zr2 p f g n)
 | 0,_,_=>⟨Zc1 hp.lo,by
   show BtN _ (Zgs p 0);unfold Zgs;split
   .exact ⟨Znb _,Zbi ∅ ⇑0⟩
   .rw [Int.zero_emod];exact⟨Znb _,Zbi ∅ ⇑0⟩⟩
 | n+1,hf,hg=>by
  obtain⟨i1,b1⟩:=Zr1 hp (k1:=k1) (k2:=k2) (n:=n) (λi hi=>hf i (Zlp hi)) (λi hi=>hg i (Zlp hi));obtain⟨i2,b2⟩:=hf n Zji;obtain⟨i3,b3⟩:=hg n Zji;have it:=Zbb hp.lo i2 i3;refine⟨Zfn hp.lo i1 it,?_⟩;have:=Zij hp i1 it b1 (Zkj hp i2 i3 b2 b3) ∅;refine this.le ?_;rw[Jco n 1];omega
theorem Zl5 {p:Int}{wd k:Nat}{B:Mv}(hw:∀ xs∈B,xs.length=wd)(g:∀ xs∈B,GoodB p k xs){j:Nat}(hj:j<wd):GoodB p k (Zib B j):=λx hx=>by
 refine Zae (Jaz.mp hx) λrow hr e97=>?_;obtain rfl:=e97;exact g row hr _ (Zaz (by rw[hw row hr];exact hj))
theorem Zog {p:Int}{F:Type}[Lean.Grind.Field F](hp:GroundP p)(hF:FdOk p F){f g:Nat->Nv}:∀ {n:Nat},(∀ i,i<n->Isn p (f i))->(∀ i,i<n->Isn p (g i))->Isn p (Zr2 p f g n)/\(nm (Zr2 p f g n):F)=sm n λi=>nm (f i)*nm (g i)
 | 0,_,_=>⟨Zc1 hp.lo,by
   show (nm (Zgs p 0):F)=0;rw[hF.intF,Zhl]⟩
 | n+1,hf,hg=>by
  obtain⟨i1,e1⟩:=Zog hp hF (n:=n) (λi hi=>hf i (Zlp hi)) (λi hi=>hg i (Zlp hi));have it:=Zbb hp.lo (hf n Zji) (hg n Zji);refine⟨Zfn hp.lo i1 it,?_⟩;show (nm (Zcz p (Zr2 p f g n) (Za8 p (f n) (g n))):F)=sm n (λi=>nm (f i)*nm (g i))+nm (f n)*nm (g n);rw[hF.plus i1 it,e1,hF.times (hf n Zji) (hg n Zji)]
def Zs2:L2.Sp:=λvs H Q _=>∃ (t1 r1 t2 r2:Addr) (rs1 rs2:List Addr) (p:Int) (n1 m1 w2 k1 k2:Nat) (A B:Mv),vs=[.int p,.ref t1,.ref t2]/\GroundP p/\TabB H p k1 n1 m1 t1 r1 rs1 A/\TabB H p k2 m1 w2 t2 r2 rs2 B/\n1<=200/\m1<=200/\w2<=200/\7+m1*(k1+k2+8)+k1+k2+7<=134000000 /\
 ∀ t r rs H',Same H H'->New H t r rs->TabV H' p n1 w2 t r rs (Zbg p A B w2)->Q (.ref t) H'
theorem dot_lim {k m a b:Nat}(h:k<=m)(l:7+m*(a+b+8)+a+b+7<=134000000):7+k*(a+b+8)+(a+b+7)<=134000000:=by
 have:=Jb3 h (Jag (a+b+8));omega
theorem ok_lpB (F:Fun K "_law_product" "_law_product" Zd8 f fd)(T:Txt K mg C G S)(Yae:Cal P w K mg base "_law_int" 1 Zot)(Yah:Cal P w K mg base "_law_add" 3 (Zh8 Zcz))(Yac:Cal P w K mg base "_law_mul" 3 (Zh8 Za8)):FnOk P w K mg base CX0 4 f fd ["_law_p","_law_one","_law_other"] Zs2:=by
 have nd:=Zfs.nd;refine F.ok Zfs (λvs H Q E h=>?_) (λcdv A outer s H vs Q E hr h=>?_)
 .refine Zpl h λt1 r1 t2 r2 rs1 rs2 p n1 m1 w2 k1 k2 A B e98 _=>?_;clear h;obtain rfl:=e98;rfl
 .refine Zpk h λt1 r1 t2 r2 rs1 rs2 p n1 m1 w2 k1 k2 A B e99 hp T1 e910=>?_;clear h;obtain rfl:=e99;refine Zey e910 λT2 n24 m24 w24 lim q=>?_;clear e910;have lim2:k1+k2<=134000000:=∅
  have la:=T1.tv.row.1;have sA:=T1.hl;have sB:=T2.hl;refine⟨_,((3|||nd|||(@Zbw _ _ _ _ Zaa))<*>((Zck Ja5 rfl (Zbc (Zat<|>(pv 1)<||>Zac)) (4>>>nd) ((5|||nd|||(@Zbw _ _ _ _ Zaa))<*>((Zck Ja5 rfl (Zfe rfl T.n_range ((Zat<|>(pv 2)<||>Zac)<&>Zaa)) (6>>>nd) ((7|||nd|||(Yae<$>hr<$>((pvr 0)<&>(Zac<&>Zaa))))<*>((Zck Ja5 rfl (Zfe rfl T.n_range ((Zat<|>(pv 1)<||>Zac)<&>Zaa)) (8>>>nd) (@Zan _ _ _ (7|||nd|||(Yah<$>hr<$>((pvr 0)<&>((pvr 7)<&>((Yac<$>hr<$>((pvr 0)<&>(((ixJ Zar)<|>(pvr 4)<||>(pvr 8))<&>((Zar<|>(Zar<|>((Zgh Zat)<|>(pvr 2)<||>Zac)<||>(pvr 8))<||>(pvr 6))<&>Zaa))))<&>Zaa)))))))<*>(@Zan _ _ _ (Zdw (Zks Jbm Jbh Jbi (mtJ Zb5) (pvr 5) ((pvr 7)<&>Zaa)))))))<*>(@Zan _ _ _ (Zdw (Zks Jbm Jbh Jbi (mtJ Zb5) (pvr 3) ((pvr 5)<&>Zaa)))))))<*>(~~~(@Zaw _ _ _ _ _ (((Zgh Zat)<|>(pvr 1)<||>Zac)<&>(((Zgh Zat)<|>(pvr 2)<||>Zac)<&>((pvr 3)<&>Zaa))))))),?_⟩;walk_at "wp";refine⟨⇑0,λR hR=>?_⟩;have sR:=Same.new (o:=.lst []) hR;refine⟨_,rfl,t1,_,2,_,rfl,rfl,SqT.of (sR _ _ T1.tv.tup),rfl,r1,rfl,⟨_,SqL.of (sR _ _ T1.tv.lst)⟩,Zih (xs:=rs1.map V.ref) (λi σ H3=>∃ (v4 v5 v6 v7 v8:Option V) (rs:List Addr),σ=[some (.int p),some (.ref t1),some (.ref t2),some (.ref R),v4,v5,v6,v7,v8]/\Same H H3/\H3 R=some (.lst (rs.map V.ref))/\R∉rs/\(∀ a∈rs,H a=none)/\All2 (RowV H3 p) rs ((Zbg p A B w2).take i))
   ⟨none,none,none,none,none,[],rfl,sR,Zab,by simp,by simp,by rw[List.take_zero];exact All2.nil⟩ (λi σ H3 _ ⟨_,_,_,_,_,_,_,s3,_⟩=>SqL.of (s3 _ _ T1.tv.lst)) ?_ ?_⟩
  .intro i x σ H3 hi e91;refine Zlb e91 λv4 v5 v6 v7 v8 rs e911 s3 h3 e912=>?_;clear e91;obtain rfl:=e911;refine Za2 e912 λnR nf a3=>?_;clear e912;refine Zpc λD1 hD1=>?_;refine Zae ((Zbr T1.tv.row).at' hi) λrow er e913=>?_;obtain⟨a,rfl,rv⟩:=e913;have hrow:=Jae er;have wr:=T1.hw row hrow;have gr:=T1.gd row hrow;have lA:i<A.length:=(Jaf.mp er).1;have ep:(Zbg p A B w2)[i]?=some ((List.range w2).map λj=>Zuu p row (Zib B j)):=by unfold Zbg;rw[Jad,er];rfl
   have l3:=a3.1;rw[Jds] at l3;walk_at "wp";refine⟨⇑0,λb hb=>?_⟩;have s4:=Same.new (o:=.lst []) hb;refine⟨_,rfl,t2,_,1,_,rfl,rfl,SqT.of ((s3.trans s4) _ _ T2.tv.tup),rfl,(w2:Int),rfl,lo62 _,hi62 (Ja4 w24 ⇑0),Zby (λj σ H5=>∃ (v6 v7 v8:Option V) (vs:List V),σ=[some (.int p),some (.ref t1),some (.ref t2),some (.ref R),some (.ref a),some (.ref b),v6,v7,v8]/\Same H3 H5/\H5 b=some (.lst vs)/\All2 (NumV H5 p) vs ((List.range j).map λj=>Zuu p row (Zib B j)))
    ⟨v6,v7,v8,[],rfl,s4,Zab,All2.nil⟩ ?_ ?_⟩
   .intro j σ H5 hj e92;refine Zb8 e92 λu6 u7 u8 vs e914 s5 h5 a5=>?_;clear e92;obtain rfl:=e914;refine Zpc λD2 hD2=>?_;have hj:j<w2:=hj;have s05:=s3.trans s5;have l5:=a5.1;rw[Jab,Jal] at l5;have gc:GoodB p k2 (Zib B j):=Zl5 T2.hw T2.gd hj;walk_at "wp";refine Zaq p 0 ⟨rfl,hp,λn0 H6 s6 hn0=>?_⟩;rw[show Zgs p 0=Zr2 p (λk=>row.getD k (0,1)) (λk=>(Zib B j).getD k (0,1)) 0 from rfl] at hn0;refine⟨_,rfl,t1,_,1,_,rfl,rfl,SqT.of ((s05.trans s6) _ _ T1.tv.tup),rfl,(m1:Int),rfl,lo62 _,hi62 (Ja4 m24 ⇑0),Zby (λk σ H7=>∃ (n v8:V),σ=[some (.int p),some (.ref t1),some (.ref t2),some (.ref R),some (.ref a),some (.ref b),some (.int (0+(j:Int))),some n,if k=0 then u8 else some v8]/\Same H5 H7/\NumV H7 p n (Zr2 p (λk=>row.getD k (0,1)) (λk=>(Zib B j).getD k (0,1)) k))
     ⟨n0,n0,rfl,s6,hn0⟩ ?_ ?_⟩
    .intro k σ H7 hk e93;refine Zbt e93 λn v8' e915 s7 hn=>?_;clear e93;obtain rfl:=e915;refine Zpc λD3 hD3=>?_;have hk:k<m1:=hk;have s07:=s05.trans s7;have hk1:k<row.length:=Zbx hk wr;have ex:row[k]?=some row[k]:=Jaa hk1;have hkB:k<B.length:=Zbx hk sB;have eB:B[k]?=some B[k]:=Jaa hkB;have wB:=T2.hw _ (Jap hkB);have hjB:j<(B[k]).length:=Zbx hj wB;have ey:(B[k])[j]?=some ((B[k])[j]'hjB):=Jaa _;have ecl:(Zib B j)[k]?=some ((B[k])[j]'hjB):=by rw[Jad,eB];show some ((B[k]).getD j (0,1))=_;rw[Zao ey]
     refine Zae (rv.same s07) λxsv hx1 hx2=>?_;refine Zae (hx2.at ex) λvx evx nvx=>?_;refine Zae ((T2.tv.same s07).row.at eB) λbk ebk e916=>?_;obtain⟨ysv,hy1,hy2⟩:=e916;refine Zae (hy2.at ey) λvy evy nvy=>?_;have gx:=gr _ (Jap hk1);have gy:=gc _ (Jae ecl);have fi:∀ i,i<k->Isn p (row.getD i (0,1))/\BtN k1 (row.getD i (0,1)):=λi hi=>gr _ (Zaz (Nat.lt_trans hi hk1));have gi:∀ i,i<k->Isn p ((Zib B j).getD i (0,1))/\BtN k2 ((Zib B j).getD i (0,1)):=λi hi=>gc _ (Zaz (by rw[Jab];exact Nat.lt_trans hi hkB));obtain⟨isd,bdd⟩:=Zr1 hp (n:=k) fi gi;walk_at "wp";refine⟨_,SqL.of hx1,vx,atI_z evx,_,SqT.of (s07 _ _ T2.tv.tup),_,rfl,_,rfl,_,SqL.of (s07 _ _ T2.tv.lst),_,atI_rz ebk,_,rfl,_,SqL.of hy1,vy,atI_z evy,p,vx,vy,_,_,rfl,hp,⟨nvx,nvy,gx.1,gy.1,k1,k2,gx.2.1,gx.2.2,gy.2.1,gy.2.2,lim2⟩,λm H8 s8 hm=>?_⟩;have it:=Zbb hp.lo gx.1 gy.1;have bt:BtN (k1+k2+7) (Za8 p row[k] ((B[k])[j]'hjB)):=Zkj hp gx.1 gy.1 gx.2 gy.2;refine Zg3 p n m _ _ ⟨rfl,hp,⟨hn.same s8,hm,isd,it,_,_,bdd.1,bdd.2,bt.1,bt.2,dot_lim (Jbv hk) lim⟩,λn' H9 s9 hn'=>?_⟩;subst hD3;refine Zaq n' (.int (0+(k:Int))) ⟨?_,(s7.trans s8).trans s9,?_⟩
     .simp
     .show NumV H9 p n' (Zcz p _ (Za8 p (row.getD k (0,1)) ((Zib B j).getD k (0,1))));rw[Zao ex,Zao ecl];exact hn'
    .intro σ H7 e94;refine Zbt e94 λn v8' e917 s7 hn=>?_;clear e94;obtain rfl:=e917;have h57:=s7 _ _ h5;walk_at "wp";refine⟨.inl ⟨rfl,_,SqL.of h57⟩,_,h57,Zas (Zrc l5 (Jbv (Jau hj (Ja4 w24 ⇑0)))),?_⟩;subst hD2;refine Zjr _ _ _ _ ⟨rfl,?_,Zab,?_⟩
     .exact (s5.trans s7).upd hb
     .rw [Jce,Jbb];rw[Jbu,<- wr] at hn;exact (a5.mono λ_ _ k=>(k.same s7).put h57).app (All2.one (hn.put h57))
   .intro σ H5 e95;refine Zb8 e95 λu6 u7 u8 vs e918 s5 h5 a5=>?_;clear e95;obtain rfl:=e918;have h35:=s5 _ _ h3;have nb:b≠R:=(Zah h3 hb).symm;walk_at "wp";refine⟨.inl ⟨rfl,_,SqL.of h35⟩,_,h35,Zas (by rw[Jab];exact oz65 n24 sA lA l3),?_⟩;subst hD1;refine Zsr _ _ _ _ _ (rs++[b]) ⟨rfl,(s3.trans s5).upd hR,by rw[Zab,Zba],λz=>?_,λc hc=>?_,?_⟩
    .rcases Jba.mp z with h|h
     .exact nR h
     .exact nb (Ja3.mp h).symm
    .rcases Jba.mp hc with h|h
     .exact nf c h
     .rw [Ja3.mp h];exact s3.free hb
    .rw [List.take_add_one,ep];exact (a3.monoM λc x hc k=>(k.same s5).put h35 (λz=>nR (z ▸ hc))).app (All2.one (RowV.put ⟨vs,h5,a5⟩ h35 nb))
  .intro σ H3 e96;refine Zlb e96 λv4 v5 v6 v7 v8 rs e919 s3 h3 e920=>?_;clear e96;obtain rfl:=e919;refine Za2 e920 λnR nf a3=>?_;clear e920;rw[Jab,la,List.take_of_length_le (by unfold Zbg;rw[Jab];omega)] at a3;walk_at "wp";refine⟨_,SqT.of (s3 _ _ T1.tv.tup),_,rfl,_,SqT.of (s3 _ _ T2.tv.tup),_,rfl,⇑0,λt ht=>?_⟩;have s5:=Same.new (o:=.tup [.int n1,.int w2,.ref R]) ht;exact q t R rs _ (s3.trans s5) ⟨s3.free ht,hR,nf⟩ ⟨Zab,s5 _ _ h3,a3.mono λ_ _ q=>q.same s5,nR⟩
theorem Ztn {H:Hp}{t u:Addr}{a b c d:Int}{Q:VK}(neg:Bool)(ht:H t=some (.tup [.int a,.int b]))(hu:H u=some (.tup [.int c,.int d]))(q:Q (.bl (if neg then !(decide (a=c) && decide (b=d)) else (decide (a=c) && decide (b=d)))) H):Zvm K neg (.ref t) (.ref u) H Q:=by
 have e:∀ i j:Int,eqV (.int i) (.int j)=decide (i=j):=λi j=>by simp[eqV,Bool.beq_eq_decide_eq]
 refine Zg3 t u _ _ [decide (a=c),decide (b=d)] ⟨rfl,rfl,SqT.of ht,SqT.of hu,⟨rfl,rfl,λj x y z e1 e2 e3=>?_⟩,?_⟩
 .match j,e1,e2,e3 with
  | 0,e1,e2,e3=>
   cases e1;cases e2;cases e3;have:=EqD.flat (K:=K) (H:=H) (n:=6) (x:=.int a) (y:=.int c) rfl rfl;rw[e] at this;exact this
  | 1,e1,e2,e3=>
   cases e1;cases e2;cases e3;have:=EqD.flat (K:=K) (H:=H) (n:=6) (x:=.int b) (y:=.int d) rfl rfl;rw[e] at this;exact this
  | j+2,e1,e2,e3=>cases e1
 .simpa using q
theorem Zq4 {H:Hp}{p:Int}{v u:V}{x y:Nv}{Q:VK}(h:NumV H p v x)(h':NumV H p u y)(hx:Isn p x)(hy:Isn p y)(q:Q (.bl (decide (x≠y))) H):rNeN K v u H Q:=by
 by_cases hp:p=0
 .refine Zae (h.ref hp) λt e95 ht=>?_;obtain rfl:=e95;refine Zae (h'.ref hp) λt' e96 ht'=>?_;obtain rfl:=e96;refine .inr (Ztn true ht ht' ?_);have:(if true=true then !(decide (x.1=y.1) && decide (x.2=y.2)) else (decide (x.1=y.1) && decide (x.2=y.2)))=decide (x≠y):=by
   rw[if_pos rfl,<- Bool.decide_and,<- decide_not];exact Jc6.mpr (not_congr Prod.ext_iff.symm)
  rw[this];exact q
 .obtain rfl:=h.int hp;obtain rfl:=h'.int hp;refine .inl ⟨rfl,?_⟩;have:(!decide (V.int x.1=V.int y.1))=decide (x≠y):=by
   rw[<- decide_not];have h2:x.2=y.2:=by
    rcases hx with ⟨z,_⟩|⟨_,_,_,h1⟩
    .exact absurd z hp
    .rcases hy with ⟨z,_⟩|⟨_,_,_,h2⟩
     .exact absurd z hp
     .rw [h1,h2]
   refine Jc6.mpr (not_congr ?_);rw[Prod.ext_iff,V.int.injEq];exact⟨λh=>⟨h,h2⟩,λh=>h.1⟩
  rw[this];exact q
def lb (p:Int)(k c:Nat):Nat:=if p=0 then (k+1)*4 ^ c-1 else 7
structure RowsV (H:Hp)(p:Int)(b n wd:Nat)(r:Addr)(rs:List Addr)(M:Mv):Prop where
 lst:H r=some (.lst (rs.map V.ref))
 row:All2 (RowV H p) rs M
 nin:r∉rs
 hl:M.length=n
 hw:∀ xs∈M,xs.length=wd
 gd:∀ xs∈M,GoodB p b xs
theorem RowsV.same {H H':Hp}{p:Int}{b n wd:Nat}{r:Addr}{rs:List Addr}{M:Mv}(h:RowsV H p b n wd r rs M)(s:Same H H'):RowsV H' p b n wd r rs M:=⟨s _ _ h.lst,h.row.mono λ_ _ k=>k.same s,h.nin,h.hl,h.hw,h.gd⟩
theorem RowsV.at {H:Hp}{p:Int}{b n wd:Nat}{r:Addr}{rs:List Addr}{M:Mv}(h:RowsV H p b n wd r rs M){i c:Nat}(hi:i<n)(hc:c<wd):∃ (a:Addr) (vs:List V) (v:V),rs[i]?=some a/\a≠r/\H a=some (.lst vs)/\vs.length=wd/\All2 (NumV H p) vs (M.getD i [])/\vs[c]?=some v/\NumV H p v ((M.getD i []).getD c (0,1))/\Isn p ((M.getD i []).getD c (0,1))/\BtN b ((M.getD i []).getD c (0,1)):=by
 have hl:=h.hl;have e:M[i]?=some (M.getD i []):=by rw[Zbh (Zh3 hi hl)];exact Jaa _
 refine Zae (h.row.at e) λa ea e97=>?_;obtain⟨vs,hv,al⟩:=e97;have hm:M.getD i []∈M:=Jae e;have wl:=h.hw _ hm;have vl:=al.1;have ec:(M.getD i [])[c]?=some ((M.getD i []).getD c (0,1)):=by rw[Zbh (show c<(M.getD i []).length by exact Zh3 hc wl)];exact Jaa _
 refine Zae (al.at ec) λv ev nv=>?_;have g:=h.gd _ hm _ (Jae ec);exact Zcm a vs v ⟨ea,λz=>h.nin (z ▸ Jae ea),hv,∅,al,ev,nv,g.1,g.2⟩
theorem RowsV.set {H:Hp}{p:Int}{b n wd:Nat}{r:Addr}{rs:List Addr}{M:Mv}(h:RowsV H p b n wd r rs M){k:Nat}{a:Addr}{xs:List Nv}(hk:k<n)(ha:RowV H p a xs)(hr:a≠r)(hx:xs.length=wd){b':Nat}(hb:∀ ys∈M.set k xs,GoodB p b' ys):RowsV (upd H r (.lst ((rs.set k a).map V.ref))) p b' n wd r (rs.set k a) (M.set k xs):=by
 refine⟨Zab,(h.row.set k ha).monoM λc ys hc q=>q.put h.lst (λz=>?_),λz=>?_,by rw[Jav];exact h.hl,λys hy=>?_,hb⟩
 .rcases Jar hc with h1|h1
  .exact h.nin (z ▸ h1)
  .exact hr (h1 ▸ z)
 .rcases Jar z with h1|h1
  .exact h.nin h1
  .exact hr h1.symm
 .rcases Jar hy with h1|h1
  .exact h.hw ys h1
  .rw [h1];exact hx
theorem cut2 {A B X:TS}{D:Ends}{σ:L2.St}{H:Hp}(h:∀ X',X'=X->Zs1 A (Zs1 B X') D σ H):Zs1 A (Zs1 B X) D σ H:=h X rfl
theorem Zhk {p:Int}{k c:Nat}(h7:7<=k):(p=0->4*lb p k c+2<=lb p k (c+1))/\7<=lb p k c/\lb p k c<=lb p k (c+1):=by
 unfold lb;by_cases h:p=0
 .rw [if_pos h,if_pos h,Nat.pow_succ,<- Nat.mul_assoc];have:(k+1)*1<=(k+1)*4 ^ c:=Jb3 (Jag _) (Nat.pos_of_ne_zero (by simp));exact⟨λ_=>by exact oz149 this,oz186 h7 this,oz77⟩
 .rw [if_neg h,if_neg h];exact⟨λz=>absurd z h,Jag _,Jag _⟩
theorem lb_mono {p:Int}{k c d:Nat}(h7:7<=k)(h:c<=d):lb p k c<=lb p k d:=by
 induction d with
 | zero=>rw[show c=0 by omega];exact Jag _
 | succ d ih=>
  by_cases e:c=d+1
  .rw [e];exact Jag _
  .exact Ja4 (ih ∅) (Zhk h7).2.2
theorem Zoc {p:Int}{b:Nat}{xs:List Nv}(h0:p≠0)(p97:p<=97)(h7:7<=b)(h:∀ x∈xs,Isn p x):GoodB p b xs:=λx hx=>⟨h x hx,(Zk6 h0 p97 (h x hx)).le h7⟩
theorem isn_ne {p:Int}{x:Nv}(hx:Isn p x)(h:x≠(0,1)):x.1≠0:=λz=>by
 refine h (Jd7 z ?_);rcases hx with ⟨_,h1,h2⟩|⟨_,_,_,h1⟩
 .rw [z] at h2;simp[Int.gcd] at h2;show x.2=1;omega
 .exact h1
theorem map_at {f:Nv->Nv}{xs:List Nv}{j:Nat}(h:j<xs.length):(xs.map f).getD j (0,1)=f (xs.getD j (0,1)):=by
 rw[Jac,Jad,Jaa h,Zbh h];rfl
abbrev Zio (p:Int)(y:Nv)(row:List Nv):List Nv:=row.map λx=>Za8 p y x
abbrev Ztj (p:Int)(l:Nv)(row lead:List Nv):List Nv:=(List.range row.length).map λj=>Zcz p (row.getD j (0,1)) (Za8 p l (lead.getD j (0,1)))
theorem Ztb {p:Int}{F:Type}[Lean.Grind.Field F](hF:FdOk p F){y:Nv}{row:List Nv}(hy:Isn p y)(hr:∀ x∈row,Isn p x)(j:Nat):(vN (Zio p y row) j:F)=nm y*vN row j:=by
 by_cases h:j<row.length
 .unfold vN;rw[map_at h,hF.times hy (hr _ (Zaz h))]
 .rw [Zjt (by rw[Jab];omega),Zjt (Zlo h)]
  grind
theorem plus_fd {p:Int}{F:Type}[Lean.Grind.Field F](hp:GroundP p)(hF:FdOk p F){l:Nv}{row lead:List Nv}(hl:Isn p l)(he:row.length=lead.length)(hr:∀ x∈row,Isn p x)(hd:∀ x∈lead,Isn p x)(j:Nat):(vN (Ztj p l row lead) j:F)=vN row j+nm l*vN lead j:=by
 by_cases h:j<row.length
 .unfold vN;rw[Jac,Jad,Jas h];have h1:=hr _ (Zaz (d:=(0,1)) h);have h2:=hd _ (Zaz (d:=(0,1)) (show j<lead.length by exact Zc0 he h));show (nm (Zcz p (row.getD j (0,1)) (Za8 p l (lead.getD j (0,1)))):F)=_;rw[hF.plus h1 (Zbb hp.lo hl h2),hF.times hl h2]
 .rw [Zjt (by rw[Jab,Jal];exact Zlo h),Zjt (Zlo h),Zjt (oz95 he h)]
  grind
theorem Zta {p:Int}{b:Nat}(hp:GroundP p)(h7:7<=b){y:Nv}{row:List Nv}(hy:Isn p y)(by':BtN b y)(hr:GoodB p b row):GoodB p (2*b) (Zio p y row):=λx hx=>by
 refine Zae (Jaz.mp hx) λu hu e98=>?_;obtain rfl:=e98;obtain⟨i1,b1⟩:=hr u hu;have:=Zdm hp hy i1 by' b1 ∅
 rw[<- Nat.two_mul] at this;exact⟨Zbb hp.lo hy i1,this⟩
theorem plus_gd {p:Int}{b:Nat}(hp:GroundP p)(h7:7<=b){l:Nv}{row lead:List Nv}(hl:Isn p l)(bl:BtN (b+1) l)(he:row.length=lead.length)(hr:GoodB p b row)(hd:GoodB p (2*b) lead):GoodB p (4*b+2) (Ztj p l row lead):=λx hx=>by
 refine Zae (Jaz.mp hx) λj hj e99=>?_;obtain rfl:=e99;have hj:=Ja0.mp hj;obtain⟨i1,b1⟩:=hr _ (Zaz (d:=(0,1)) hj);obtain⟨i2,b2⟩:=hd _ (Zaz (d:=(0,1)) (show j<lead.length by exact Zc0 he hj));have t1:=Zdm hp hl i2 bl b2 (oz114 h7);have t2:=Zij hp i1 (Zbb hp.lo hl i2) b1 t1 h7;exact⟨Zfn hp.lo i1 (Zbb hp.lo hl i2),BtN.le t2 ∅⟩
theorem int_bt1 {p:Int}(hp:GroundP p):Bt 7 (Zgs p (-1)).1:=by
 unfold Zgs;split
 .exact Zbi (Jag _) ⇑0
 .have h1:=Jbl (-1) (show p≠0 by assumption);have h2:=Ja7 (-1) (show 0<p by have:=hp.lo;omega);have h3:=hp.hi;exact Zbi (Jag _) (by show (-1 % p).natAbs<128;omega)
theorem int_bt2 {p:Int}(hp:GroundP p):Bt 7 (Zgs p (-1)).2:=by
 unfold Zgs;split
 .exact Zbi (Jag _) ⇑0
 .exact Zbi (Jag _) (show (1:Int).natAbs<128 by decide)
def LrInv (H:Hp)(p:Int)(t r1:Addr)(k n wd:Nat)(M:Mv)(c:Nat)(σ:L2.St)(H3:Hp):Prop:=∃ (v6 v7 v8 v9 v10:Option V) (rs2:List Addr) (M2:Mv) (pl:List Nat),σ=[some (.int p),some (.ref t),some (.int n),some (.int wd),some (.ref r1),some (.int (pl.length:Nat)),v6,v7,v8,v9,v10]/\Same H H3/\RowsV H3 p (lb p k c) n wd r1 rs2 M2/\(∀ a∈rs2,H a=none)/\∀ (F:Type) [Lean.Grind.Field F],FdOk p F->LrF F n c M M2 pl
def Zp3:L2.Sp:=λvs H Q _=>∃ (p:Int) (t r:Addr) (rs:List Addr) (k n wd:Nat) (M:Mv),vs=[.int p,.ref t]/\GroundP p/\TabB H p k n wd t r rs M/\7<=k/\n<=24/\wd<=24/\(p=0->(k+1)*4 ^ wd<=134000000) /\
 ∀ (t' tm r':Addr) (rs':List Addr) (M':Mv) (pl:List Nat) H',Same H H'->H' t'=some (.tup [.int (pl.length:Nat),.ref tm])->New H tm r' rs'->TabB H' p (lb p k wd) n wd tm r' rs' M'->(∀ (F:Type) [Lean.Grind.Field F],FdOk p F->LrF F n wd M M' pl)->Q (.ref t') H'
theorem lb_lim {p:Int}{k c wd:Nat}(h7:7<=k)(hc:c+1<=wd)(kb:p=0->(k+1)*4 ^ wd<=134000000):4*lb p k c+2<=134000000:=by
 have h1:=(Zhk (p:=p) (c:=c) h7).1;have h2:=lb_mono (p:=p) h7 hc;by_cases h0:p=0
 .have h3:lb p k wd<=134000000:=by
   unfold lb;rw[if_pos h0];have:=kb h0;omega
  have:=h1 h0;omega
 .unfold lb;rw[if_neg h0];decide
theorem ok_lred (F:Fun K "_law_reduced" "_law_reduced" Zd7 f fd)(T:Txt K mg C G S)(Yaq:Cal P w K mg base "_law_copy" 1 Znp)(Yae:Cal P w K mg base "_law_int" 1 Zot)(Yah:Cal P w K mg base "_law_add" 3 (Zh8 Zcz))(Yac:Cal P w K mg base "_law_mul" 3 (Zh8 Za8))(Ybr:Cal P w K mg base "_law_back" 4 Zmq):FnOk P w K mg base CX0 5 f fd ["_law_p","_law_table_here"] Zp3:=by
 have nd:=Zfr.nd;refine F.ok Zfr (λvs H Q E h=>?_) (λcdv A outer s H vs Q E hr h=>?_)
 .refine xE8_2 h λp t r rs k n wd M e910 _=>?_;clear h;obtain rfl:=e910;rfl
 .refine Zpg h λp t r rs k n wd M e911 hp tb e912=>?_;clear h;obtain rfl:=e911;refine Zc3 e912 λk7 n24 w24 kb q=>?_;clear e912;refine⟨_,((Zbk (Yaq<$>hr<$>((pvr 1)<&>Zaa)) (@Zbv _ _ _ _ _ 3 rfl ((2>>>nd)^^^((3>>>nd)^^^((@Zad _ _ 4 _ nd rfl (Or.inr rfl) (Or.inl rfl))^^^(@Za0 _)))) ⇑1 ⇑1))<*>((5|||nd|||Zac)<*>((Zck Ja5 rfl (Zfe rfl T.n_range ((pv 3)<&>Zaa)) (@Zad _ _ 6 _ nd rfl (Or.inr rfl) (Or.inl rfl)) ((Zfd (i:=7) (own:=["_law_k"]) (fr:=[("_law_rows_here",4),("_law_column",6),("_law_p",0)]) rfl (Zbn (by kernel_rfl)) (pi_r2 rfl T.n_range ((pv 5)<&>((pv 2)<&>Zaa))) (λ_ _ _ _=>⟨(0<<<["_law_k","_law_rows_here","_law_column","_law_p"]),(Zmt (Zb4 (Zqs K rfl (Zjc hr)) ((Zch K rfl)<|>((Zch K rfl)<|>(pv 1)<||>(pv 0))<||>(pv 2)) (Yae<$>hr<$>((pv 3)<&>(Zac<&>Zaa))) (Zak _))),(pv 0)⟩) nd rfl rfl rfl)<*>((@Za6 _ _ _ _ _ _ _ _ (Zb4 (Zqv (Zjc hr)) (pvr 7) (@Zbw _ _ _ _ Zaa) (Zak _)) (@Zan _ _ _ Zmu) Zal)<*>((Zbk (@Zaw _ _ _ _ _ ((Zar<|>(pvr 4)<||>(pvr 5))<&>((Zar<|>(pvr 4)<||>(Zar<|>(pvr 7)<||>(Zh9 Zel Zac)))<&>Zaa))) (@Zbv _ _ _ _ _ 2 rfl ((Zer (pvr 4) (Zar<|>(pvr 7)<||>(Zh9 Zel Zac)) Zb7)^^^((Zer (pvr 4) (pvr 5) Zb7)^^^(@Za0 _))) ⇑1 ⇑1))<*>((Zap (i:=8) nd rfl (Or.inr rfl) (Ybr<$>hr<$>((pvr 0)<&>((Zar<|>(Zar<|>(pvr 4)<||>(pvr 5))<||>(pvr 6))<&>Zaa))))<*>((Zbk (Za3 (own:=["_law_number_here"]) (fr:=[("_law_p",0),("_law_back_here",8)]) rfl (Zbn (by kernel_rfl)) (Zbc (Zar<|>(pv 4)<||>(pv 5))) (λ_ _ _ _=>⟨(0<<<["_law_number_here","_law_p","_law_back_here"]),Zay,(Yac<$>hr<$>((pv 1)<&>((pv 2)<&>((pv 0)<&>Zaa))))⟩)) (Zer (pvr 4) (pvr 5) Zb7))<*>((Zck Ja5 rfl (Zfe rfl T.n_range ((pv 2)<&>Zaa)) (9>>>nd) (@Zan _ _ _ (@Za6 _ _ _ _ _ _ _ _ (PW.pt (Zh0 (Zb4 Zeu (pvr 9) (pvr 5) (Zak _)) (Zfc (Zb4 (Zqs K rfl (Zjc hr)) (Zar<|>(Zar<|>(pvr 4)<||>(pvr 9))<||>(pvr 6)) (Yae<$>hr<$>((pvr 0)<&>(Zac<&>Zaa))) (Zak _))))) ((Zap (i:=10) nd rfl (Or.inr rfl) (Yac<$>hr<$>((pvr 0)<&>((Yae<$>hr<$>((pvr 0)<&>((Zh9 Zel Zac)<&>Zaa)))<&>((Zar<|>(Zar<|>(pvr 4)<||>(pvr 9))<||>(pvr 6))<&>Zaa)))))<*>(@Zan _ _ _ (Zbk (Za3 (own:=["_law_a","_law_b"]) (fr:=[("_law_p",0),("_law_less",10)]) rfl (Zbn (by kernel_rfl)) (Zh2 rfl T.n_zip ((Zar<|>(pv 4)<||>(pv 9))<&>((Zar<|>(pv 4)<||>(pv 5))<&>Zaa))) (λ_ _ _ _=>⟨(@Zcq _ K rfl _ _ _ _ 2 rfl ((0<<<["_law_a","_law_b","_law_p","_law_less"])^^^((1<<<["_law_a","_law_b","_law_p","_law_less"])^^^(@Za0 _))) ⇑1 ⇑1),Zay,(Yah<$>hr<$>((pv 2)<&>((pv 0)<&>((Yac<$>hr<$>((pv 2)<&>((pv 3)<&>((pv 1)<&>Zaa))))<&>Zaa))))⟩)) (Zer (pvr 4) (pvr 9) Zb7)))) Zal)))<*>(@Zan _ _ _ (5|||nd|||(Zdg<|>(pvr 5)<&&>Zac))))))))))<*>(~~~(@Zaw _ _ _ _ _ ((pvr 5)<&>((@Zaw _ _ _ _ _ ((pvr 2)<&>((pvr 3)<&>((pvr 4)<&>Zaa))))<&>Zaa))))))),?_⟩;walk_at "wp";refine Zla p n wd t r rs M ⟨rfl,tb.tv,by rw[tb.hl];exact oz147 n24,λt1 r1 rs1 H1 s1 nw1 tb1=>?_⟩;refine⟨t1,rfl,_,SqT.of tb1.tup,rfl,_,_,rfl,_,_,rfl,_,_,rfl,rfl,?_⟩;refine⟨_,rfl,(wd:Int),rfl,lo62 _,hi62 (Ja4 w24 ⇑0),Zby (n:=wd) (λc σ H3=>LrInv H p t r1 k n wd M c σ H3)
   ⟨none,none,none,none,none,rs1,M,[],rfl,s1,⟨tb1.lst,tb1.row,tb1.nin,tb.hl,tb.hw,?_⟩,nw1.rs,λF _ hF=>LrF.start tb.hl⟩ ?_ ?_⟩
  .intro xs hx;by_cases h0:p=0
   .have:lb p k 0=k:=by unfold lb;rw[if_pos h0];simp
    rw[this];exact tb.gd xs hx
   .exact Zoc h0 hp.hi (Zhk k7).2.1 λx hxx=>(tb.gd xs hx x hxx).1
  .intro c σ H3 hc e91;refine Zpg e91 λv6 v7 v8 v9 v10 rs2 M2 pl e913 s3 R3 e914=>?_;clear e91;obtain rfl:=e913;obtain⟨f3,lr⟩:=e914;refine Zpc λD1 hD1=>?_;simp only[Zbe,List.set_cons_zero,List.set_cons_succ];obtain⟨F0,_,hF0⟩:=Zk2 hp;have dl:=(lr F0 hF0).dl;have m2:=R3.hl;have rl2:=R3.row.1;refine cut2 λX hX=>?_;walk_at "wp";have ec:(0:Int)+(c:Int)=(c:Int):=Jdo _;rw[ec];have aft:∀ (Dn:Ends) (D:Addr) (s:Nat) (L:List Nat) (H4:Hp),(∀ σ H5,LrInv H p t r1 k n wd M (c+1) σ H5->Dn.nx σ H5)->Same H3 H4->H4 D=some (.lst ((L++[s]).map λ(i:Nat)=>V.int i))->pl.length<=s->s<n->(M2.getD s []).getD c (0,1)≠(0,1)->
     X Dn [some (.int p),some (.ref t),some (.int n),some (.int wd),some (.ref r1),some (.int (pl.length:Nat)),some (.int c),some (.ref D),v8,v9,v10] H4:=by
    intro Dn D s L H4 hDn s4 e4 hs1 hs2 hs3;subst hX;refine Zd4 λX2 hX2=>?_;have R4:=R3.same s4;have rl4:rs2.length=n:=R4.row.1.trans m2;have hpn:pl.length<n:=Jbk hs1 hs2;have hpM:pl.length<M2.length:=Zbx hpn m2;have hsM:s<M2.length:=Zbx hs2 m2;have es:rs2[s]?=some (rs2[s]'(Zbx hs2 rl4)):=Jaa _;have ed:rs2[pl.length]?=some (rs2[pl.length]'(Zbx hpn rl4)):=Jaa _;generalize hea:rs2[s]'(Zbx hs2 rl4)=aS at es;generalize hed:rs2[pl.length]'(Zbx hpn rl4)=aD at ed;have lastL:atI ((L++[s]).map λ(i:Nat)=>V.int i) (-1)=some (.int s):=by
     unfold atI;rw[Zig (by simp)];simp
    have rvD:RowV H4 p aD (M2.getD pl.length []):=R4.row.2 pl.length _ _ ed (by rw[Zbh hpM];exact Jaa _);have rvS:RowV H4 p aS (M2.getD s []):=R4.row.2 s _ _ es (by rw[Zbh hsM];exact Jaa _);have nD:aD≠r1:=λz=>R4.nin (z ▸ Jae ed);have nS:aS≠r1:=λz=>R4.nin (z ▸ Jae es);have mD:M2.getD pl.length []∈M2:=Zaz hpM;have mS:M2.getD s []∈M2:=Zaz hsM;refine Za2 (Zhk (p:=p) (c:=c) k7) λlb1 lb7 lb2=>?_;have sm4:=lb_lim k7 hc kb;have sm2:lb p k c+lb p k c<=134000000:=∅
    have sm1:7+lb p k c<=134000000:=∅
    -- behind the swap
    have aft2:∀ (rs6:List Addr) (H6:Hp),Same H H6->RowsV H6 p (lb p k c) n wd r1 rs6 ((M2.set s (M2.getD pl.length [])).set pl.length (M2.getD s []))->(∀ a∈rs6,H a=none)->
      X2 Dn [some (.int p),some (.ref t),some (.int n),some (.int wd),some (.ref r1),some (.int (pl.length:Nat)),some (.int c),some (.ref D),v8,v9,v10] H6:=by
     intro rs6 H6 s06 R6 f6;subst hX2;refine cut2 λX3 hX3=>?_;have l0:(M2.set s (M2.getD pl.length [])).length=n:=by rw[Jav];exact m2
     have eDrow:((M2.set s (M2.getD pl.length [])).set pl.length (M2.getD s [])).getD pl.length []=M2.getD s []:=by rw[Zc2 (Zbx hpn l0),if_pos rfl]
     have eOther:∀ i,i≠pl.length->((M2.set s (M2.getD pl.length [])).set pl.length (M2.getD s [])).getD i []=if i=s then M2.getD pl.length [] else M2.getD i []:=λi hi=>by rw[Zc2 (Zbx hpn l0),if_neg hi,Zc2 hsM]
     generalize (M2.set s (M2.getD pl.length [])).set pl.length (M2.getD s [])=M6 at *;have hl6:=R6.hl;have rl6:rs6.length=n:=R6.row.1.trans hl6;refine Zb9 (R6.at (i:=pl.length) (c:=c) hpn hc) λa6 vs6 v6' ea6 na6 hv6 e915=>?_;refine Zey e915 λvl6 al6 ev6 nv6 is6 bt6=>?_;clear e915;rw[eDrow] at al6 nv6 is6 bt6;have gS:=R3.gd _ mS;have wS:=R3.hw _ mS;have x1:=isn_ne is6 hs3;walk_at "wp";refine⟨_,SqL.of R6.lst,.ref a6,Zk7 ea6,_,rfl,_,SqL.of hv6,v6',Znf ev6,p,v6',_,rfl,hp,nv6,is6,x1,λbv y H7 s7 ny iB=>?_⟩;have R7:=R6.same s7;have hv7:=s7 _ _ hv6;have al7:All2 (NumV H7 p) vs6 (M2.getD s []):=al6.mono λ_ _ q=>q.same s7;have by':=iB.bt _ lb7 bt6
     refine⟨_,rfl,_,rfl,r1,_,_,_,rfl,rfl,SqL.of R7.lst,Zk7 ea6,a6,rfl,⟨_,SqL.of hv7⟩,λD2 hD2=>Zb2 (λj Hc v=>NumV Hc p v (Za8 p y ((M2.getD s []).getD j (0,1)))) (λq s=>q.same s) (λq hD=>q.put hD) hv7 hD2 (Zrc vl6 (Ja4 w24 ⇑0)) (λj v Hc Qc hj sc _ qc=>?_) λws H8 s8 e8 wl hws=>?_⟩
     .refine Zae (al7.at' hj) λx ex nx=>?_;obtain⟨ix,bx⟩:=gS x (Jae ex);refine⟨_,rfl,_,rfl,_,rfl,p,bv,v,y,x,rfl,hp,⟨ny.same sc,nx.same sc,iB.is,ix,_,_,by'.1,by'.2,bx.1,bx.2,sm2⟩,λu Hd sd nu=>qc u Hd sd ?_⟩;rw[Zao ex];exact nu
     have R8:=R7.same s8;have wsl:ws.length=(M2.getD s []).length:=(wl.trans vl6).trans wS.symm;have rv8:RowV H8 p D2 (Zio p y (M2.getD s [])):=⟨ws,e8,by rw[Jab];exact wsl,λj v x e1 e2=>by
      have hj:j<(M2.getD s []).length:=wsl ▸ (Jaf.mp e1).1;have h1:=hws j v e1;rw[Jad,Jaa hj] at e2;cases e2;rwa [Zbh hj] at h1⟩
     have nD2:D2≠r1:=(Zah R7.lst hD2).symm;refine⟨_,R8.lst,pl.length,Zuh hpn rl6,?_⟩;rw[Zd5];have sgd:=Zta hp lb7 iB.is by' gS
     have two:2*lb p k c<=lb p k (c+1)\/p≠0:=by
      by_cases h0:p=0
      .have:=lb1 h0;exact .inl (oz62 this)
      .exact .inr h0
     have up:∀ {b:Nat} {xs:List Nv},(p=0->b<=lb p k (c+1))->GoodB p b xs->GoodB p (lb p k (c+1)) xs:=λ{b xs} h g=>by
      by_cases h0:p=0
      .exact λx hx=>⟨(g x hx).1,BtN.le (g x hx).2 (h h0)⟩
      .exact Zoc h0 hp.hi (Zhk k7).2.1 λx hx=>(g x hx).1
     have R9:=R8.set (k:=pl.length) hpn rv8 nD2 (by rw[Jab];exact wS) (b':=lb p k (c+1)) λys hy=>by
      rcases Jar hy with h1|h1
      .exact up (λ_=>lb2) (R8.gd ys h1)
      .rw [h1];exact up (λh0=>by have:=lb1 h0;exact oz62 this) sgd
     have s09:Same H (upd H8 r1 (.lst ((rs6.set pl.length D2).map V.ref))):=((s06.trans s7).trans s8).upd nw1.r;have f9:∀ a∈rs6.set pl.length D2,H a=none:=λa ha=>by
      rcases Jar ha with h1|h1
      .exact f6 a h1
      .rw [h1];exact (s06.trans s7).free hD2
     have lg:∀ (F:Type) [Lean.Grind.Field F],FdOk p F->LrG F n c 0 M (M6.set pl.length (Zio p y (M2.getD s []))) pl:=λF _ hF=>by
      refine (lr F hF).lead hs1 hs2 (a:=nm y) ?_ (by rw[Jav];exact hl6) (λj=>?_) (λi hi hne=>?_)
      .exact iB.fd F hF
      .rw [Zc2 (Zbx hpn hl6),if_pos rfl];exact Ztb hF iB.is (λx hx=>(gS x hx).1) j
      .rw [Zc2 (Zbx hpn hl6),if_neg hne,eOther i hne];split <;> rfl
     have gd9:GoodB p (2*lb p k c) ((M6.set pl.length (Zio p y (M2.getD s []))).getD pl.length []):=by
      rw[Zc2 (Zbx hpn hl6),if_pos rfl];exact sgd
     have go9:∀ i,0<=i->i<n->i≠pl.length->GoodB p (lb p k c) ((M6.set pl.length (Zio p y (M2.getD s []))).getD i []):=λi _ hi hne=>by
      rw[Zc2 (Zbx hpn hl6),if_neg hne];exact R6.gd _ (Zaz (Zbx hi hl6))
     generalize M6.set pl.length (Zio p y (M2.getD s []))=M9 at *;generalize upd H8 r1 (.lst ((rs6.set pl.length D2).map V.ref))=H9 at *;generalize rs6.set pl.length D2=rs9 at *;subst hX3;walk_at "wp";refine⟨_,rfl,(n:Int),rfl,lo62 _,hi62 (Ja4 n24 ⇑0),Zby (n:=n) (λkk σ H3=>∃ (v9 v10:Option V) (rs2:List Addr) (M3:Mv),σ=[some (.int p),some (.ref t),some (.int n),some (.int wd),some (.ref r1),some (.int (pl.length:Nat)),some (.int c),some (.ref D),some bv,v9,v10]/\Same H H3/\RowsV H3 p (lb p k (c+1)) n wd r1 rs2 M3/\(∀ a∈rs2,H a=none)/\(∀ (F:Type) [Lean.Grind.Field F],FdOk p F->LrG F n c kk M M3 pl)/\GoodB p (2*lb p k c) (M3.getD pl.length [])/\∀ i,kk<=i->i<n->i≠pl.length->GoodB p (lb p k c) (M3.getD i []))
      ⟨v9,v10,rs9,M9,rfl,s09,R9,f9,lg,gd9,go9⟩ ?_ ?_⟩
     .intro kk σ H10 hkk e92;refine Zb8 e92 λu9 u10 rs10 M10 e916 s10 R10 e917=>?_;clear e92;obtain rfl:=e916;refine Zcb e917 λf10 lg10 gd10 go10=>?_;clear e917;refine Zpc λD2' hD2'=>?_;simp only[Zbe,List.set_cons_zero,List.set_cons_succ];refine cutI λY hY=>?_;walk_at "wp";have ek:(0:Int)+(kk:Int)=(kk:Int):=Jdo _;rw[ek];have hl10:=R10.hl;have rl10:rs10.length=n:=R10.row.1.trans hl10;refine Zci (λhne=>?_) (λhne=>?_)
      .have hne:kk≠pl.length:=λz=>by rw[z] at hne;simp at hne
       refine Zb9 (R10.at (i:=kk) (c:=c) hkk hc) λak vsk vk eak nak hvk e918=>?_;refine Zey e918 λvlk alk evk nvk isk btk0=>?_;clear e918;have rowk:GoodB p (lb p k c) (M10.getD kk []):=go10 kk (Jag _) hkk hne;have wk:(M10.getD kk []).length=wd:=R10.hw _ (Zaz (Zbx hkk hl10));have wdd:(M10.getD pl.length []).length=wd:=R10.hw _ (Zaz (Zbx hpn hl10));have btk:BtN (lb p k c) ((M10.getD kk []).getD c (0,1)):=(rowk _ (Zaz (Zbx hc wk))).2;refine⟨_,SqL.of R10.lst,.ref ak,Zk7 eak,_,rfl,_,SqL.of hvk,vk,Znf evk,p,0,rfl,hp,λu H11 s11 nu=>?_⟩;refine Zq4 (nvk.same s11) nu isk (Zc1 hp.lo) ⟨_,rfl,?_⟩;rw[Zd3];refine Zci (λhz=>?_) (λhz=>?_)
       .have hz:(M10.getD kk []).getD c (0,1)≠(0,1):=Jat hz;subst hY;refine Zd4 λY hY=>?_;walk_at "wp";refine Zaq p (-1) ⟨rfl,hp,λmv H12 s12 nm1=>?_⟩;have s1112:=s11.trans s12;have R12:=R10.same s1112;refine⟨_,SqL.of R12.lst,.ref ak,Zk7 eak,_,rfl,_,SqL.of (s1112 _ _ hvk),vk,Znf evk,p,mv,vk,Zgs p (-1),(M10.getD kk []).getD c (0,1),rfl,hp,⟨nm1,nvk.same s1112,Zc1 hp.lo,isk,7,lb p k c,int_bt1 hp,int_bt2 hp,btk.1,btk.2,sm1⟩,λlv H13 s13 nl=>?_⟩;have isl:=Zbb hp.lo (Zc1 (k:=-1) hp.lo) isk;have btl:=Zu2 hp isk btk lb7;have fdl:∀ (F:Type) [Lean.Grind.Field F],FdOk p F->(nm (Za8 p (Zgs p (-1)) ((M10.getD kk []).getD c (0,1))):F)=-nm ((M10.getD kk []).getD c (0,1)):=λF _ hF=>by
         rw[hF.times (Zc1 hp.lo) isk,hF.intF,Zrs,Zes]
         grind
        generalize Za8 p (Zgs p (-1)) ((M10.getD kk []).getD c (0,1))=less at *;have s13':=s1112.trans s13;have R13:=R10.same s13';refine Zb9 (R13.at (i:=pl.length) (c:=c) hpn hc) λad vsd vd ead nad hvd e919=>?_;refine Zey e919 λvld ald evd nvd isd btd=>?_;clear e919;have hvk13:=s13' _ _ hvk;have alk13:All2 (NumV H13 p) vsk (M10.getD kk []):=alk.mono λ_ _ q=>q.same s13';subst hY;walk_at "wp";refine⟨_,rfl,_,rfl,r1,_,_,_,rfl,rfl,SqL.of R13.lst,Zk7 eak,_,rfl,_,rfl,r1,_,_,_,rfl,rfl,SqL.of R13.lst,Zk7 ead,ak,ad,rfl,⟨_,SqL.of hvk13⟩,⟨_,SqL.of hvd⟩,λD3 hD3=>Zgw (λj Hc v=>NumV Hc p v (Zcz p ((M10.getD kk []).getD j (0,1)) (Za8 p less ((M10.getD pl.length []).getD j (0,1))))) (λq s=>q.same s) (λq hD=>q.put hD) hvk13 hvd (vld.trans vlk.symm) hD3 (Zrc vlk (Ja4 w24 ⇑0)) (λj va vb Hc Qc hva hvb sc _ qc=>?_) λws H14 s14 e14 wl hws=>?_⟩
        .refine Zae (alk13.at' hva) λxa exa nxa=>?_;refine Zae (ald.at' hvb) λxb exb nxb=>?_;obtain⟨ia,ba⟩:=rowk xa (Jae exa);obtain⟨ib,bb⟩:=gd10 xb (Jae exb);have tb1:=Zdm hp isl ib btl bb (oz114 lb7);refine⟨_,rfl,_,rfl,_,rfl,_,rfl,_,rfl,p,lv,vb,less,xb,rfl,hp,⟨nl.same sc,nxb.same sc,isl,ib,_,_,btl.1,btl.2,bb.1,bb.2,oz133 sm4⟩,λm Hd sd hm=>?_⟩;refine Zg3 p va m xa _ ⟨rfl,hp,⟨(nxa.same sc).same sd,hm,ia,Zbb hp.lo isl ib,_,_,ba.1,ba.2,tb1.1,tb1.2,oz126 sm4⟩,λv He se hv=>qc v He (sd.trans se) ?_⟩;rw[Zao exa,Zao exb];exact hv
        have R14:=R13.same s14;have wsk:ws.length=(M10.getD kk []).length:=(wl.trans vlk).trans wk.symm;have rv14:RowV H14 p D3 (Ztj p less (M10.getD kk []) (M10.getD pl.length [])):=⟨ws,e14,by rw[Jab,Jal];exact wsk,λj v x e1 e2=>by
         have hj:j<(M10.getD kk []).length:=wsk ▸ (Jaf.mp e1).1;have h1:=hws j v e1;rw[Jad,Jas hj] at e2;cases e2;exact h1⟩
        have nD3:D3≠r1:=(Zah R13.lst hD3).symm;refine⟨_,R14.lst,kk,Zuh hkk rl10,?_⟩;rw[Zd5];have pgd:=plus_gd hp lb7 isl btl (wk.trans wdd.symm) rowk gd10;have R15:=R14.set (k:=kk) hkk rv14 nD3 (by rw[Jab,Jal];exact wk) (b':=lb p k (c+1)) λys hy=>by
         rcases Jar hy with h1|h1
         .exact R14.gd ys h1
         .rw [h1];exact up lb1 pgd
        subst hD2';refine Zjr _ _ (rs10.set kk D3) (M10.set kk (Ztj p less (M10.getD kk []) (M10.getD pl.length []))) ⟨rfl,((s10.trans s13').trans s14).upd nw1.r,R15,λa ha=>?_,λF _ hF=>?_,?_,λi hi1 hi2 hi3=>?_⟩
        .rcases Jar ha with h1|h1
         .exact f10 a h1
         .rw [h1];exact (s10.trans s13').free hD3
        .refine (lg10 F hF).take hkk hne (by rw[Jav];exact hl10) (λj=>?_) (λi hi hne'=>?_)
         .rw [Zc2 (Zbx hkk hl10),if_pos rfl,plus_fd hp hF isl (wk.trans wdd.symm) (λx hx=>(rowk x hx).1) (λx hx=>(gd10 x hx).1) j,fdl F hF];rfl
         .rw [Zc2 (Zbx hkk hl10),if_neg hne']
        .rw [Zc2 (Zbx hkk hl10),if_neg (Jdq hne)];exact gd10
        .rw [Zc2 (Zbx hkk hl10),if_neg (Jd3 hi1)];exact go10 i (Jbz hi1) hi2 hi3
       .have hz:(M10.getD kk []).getD c (0,1)=(0,1):=by
         apply Jbc;intro z;exact hz (Jah z)
        subst hD2';refine Zjr _ _ rs10 M10 ⟨rfl,s10.trans s11,R10.same s11,f10,λF _ hF=>(lg10 F hF).skip λ_ _=>?_,gd10,λi hi1 hi2 hi3=>go10 i (Jbz hi1) hi2 hi3⟩;unfold vN;rw[hz];exact Zkv
      .have hne:kk=pl.length:=by
        have:(kk:Int)=(pl.length:Int):=by simpa using hne
        exact oz127 this
       subst hD2';exact Zjr _ _ rs10 M10 ⟨rfl,s10,R10,f10,λF _ hF=>(lg10 F hF).skip λh=>absurd hne h,gd10,λi hi1 hi2 hi3=>go10 i (Jbz hi1) hi2 hi3⟩
     .intro σ H10 e93;refine Zb8 e93 λu9 u10 rs10 M10 e920 s10 R10 e921=>?_;clear e93;obtain rfl:=e920;refine Zcb e921 λf10 lg10 gd10 go10=>?_;clear e921;walk_at "wp";exact hDn _ _ ⟨some (.int c),some (.ref D),some bv,u9,u10,rs10,M10,pl++[c],by simp,s10,R10,f10,λF _ hF=>(lg10 F hF).next⟩
    walk_at "wp";refine⟨_,SqL.of R4.lst,.ref aD,Zk7 ed,_,SqL.of e4,_,lastL,_,_,rfl,SqL.of R4.lst,.ref aS,Zk7 es,⇑0,λtp htp=>?_⟩;have s5:=Same.new (o:=.tup [V.ref aD,V.ref aS]) htp;have R5:=R4.same s5;refine⟨_,SqT.of Zab,rfl,_,_,rfl,_,SqL.of (s5 _ _ e4),_,lastL,_,_,rfl,R5.lst,s,Zuh hs2 rl4,?_⟩;have R6:=R5.set (k:=s) hs2 (rvD.same s5) nD (R5.hw _ mD) (b':=lb p k c) λys hy=>by
     rcases Jar hy with h1|h1
     .exact R5.gd ys h1
     .rw [h1];exact R5.gd _ mD
    rw[Zd5];have e6:upd (upd H4 tp (.tup [V.ref aD,V.ref aS])) r1 (.lst ((rs2.set s aD).map V.ref)) r1=some (.lst ((rs2.set s aD).map V.ref)):=Zab;refine Zaq _ _ ⟨rfl,_,e6,pl.length,Zuh hpn ((Jav ..).trans rl4),rfl,?_⟩;rw[Zd5];have rvS6:RowV (upd (upd H4 tp (.tup [V.ref aD,V.ref aS])) r1 (.lst ((rs2.set s aD).map V.ref))) p aS (M2.getD s []):=(rvS.same s5).put R5.lst nS;have R7:=R6.set (k:=pl.length) hpn rvS6 nS (R5.hw _ mS) (b':=lb p k c) λys hy=>by
     rcases Jar hy with h1|h1
     .exact R6.gd ys h1
     .rw [h1];exact R5.gd _ mS
    refine aft2 _ _ ((((s3.trans s4).trans s5).upd nw1.r).upd nw1.r) R7 λa ha=>?_;rcases Jar ha with h1|h1
    .rcases Jar h1 with h2|h2
     .exact f3 a h2
     .rw [h2];exact f3 aD (Jae ed)
    .rw [h1];exact f3 aS (Jae es)
   refine⟨_,rfl,_,rfl,_,_,rfl,⟨lo62 _,hi62 (Ja4 dl (Ja4 n24 ⇑0)),lo62 _,hi62 (Ja4 n24 ⇑0)⟩,λD hD=>Zk4 (λi=>decide ((M2.getD (pl.length+i) []).getD c (0,1)≠(0,1))) hD (oz136 n24) (λi H4 Q4 hi s4 q4=>?_) λH4 s4 e4=>?_⟩
   .have hin:pl.length+i<n:=lt_sub (Zpu ▸ hi);refine Zb9 ((R3.same s4).at hin hc) λa vs v ea nar hv e922=>?_;refine Zey e922 λvl al ev nv is bt=>?_;clear e922;have R4:=R3.same s4;simp only[Zbm];walk_at "wp";refine⟨_,rfl,r1,rfl,_,SqL.of R4.lst,.ref a,Zb0 ∅ (by rw[show ((pl.length:Int)+(i:Int)).toNat=pl.length+i by exact oz59,Jad,ea];rfl),_,rfl,a,rfl,_,_,rfl,SqL.of hv,v,Zb0 Zkt (by rw[Jbu];exact ev),_,rfl,p,0,rfl,hp,λu H5 s5 nu=>?_⟩;refine Zq4 (nv.same s5) nu is (Zc1 hp.lo) ⟨_,rfl,?_⟩;rw[Zd3];exact q4 H5 s5
   .generalize hL:(List.range ((n:Int)-(pl.length:Int)).toNat).filter (λi=>decide ((M2.getD (pl.length+i) []).getD c (0,1)≠(0,1)))=L at e4;have memL:∀ i,i∈L ↔ i<n-pl.length/\(M2.getD (pl.length+i) []).getD c (0,1)≠(0,1):=λi=>by
     rw[<- hL,Jcv,Ja0,Jcu,Zpu]
    refine⟨⇑0,λE0' hE0=>?_⟩;have s5:=Same.new (o:=.lst []) hE0;refine⟨D,rfl,_,SqL.of (s5 _ _ e4),_,SqL.of Zab,?_⟩;rcases List.eq_nil_or_concat L with e|⟨L0,i,e⟩
    .subst e;refine .inr ⟨[],⟨rfl,rfl,λj x y b e1=>by simp at e1⟩,?_⟩;rw[if_pos (by rfl)];subst hD1;refine xI8_1 _ _ _ _ _ rs2 M2 pl ⟨rfl,(s3.trans s4).trans s5,?_,f3,λF _ hF=>(lr F hF).skip λi h1 h2=>?_⟩
     .have R5:=(R3.same s4).same s5;exact⟨R5.lst,R5.row,R5.nin,R5.hl,R5.hw,λxs hx x hxx=>⟨(R5.gd xs hx x hxx).1,BtN.le (R5.gd xs hx x hxx).2 (Zhk k7).2.2⟩⟩
     .have:(M2.getD i []).getD c (0,1)=(0,1):=by
       apply Jbc;intro z;have:=(memL (i-pl.length)).mpr ⟨oz38 h1 h2,by rw[show pl.length+(i-pl.length)=i by exact oz53 h1];exact z⟩;simp at this
      unfold vN;rw[this];exact Zkv
    .rw [List.concat_eq_append] at e;subst e;refine .inl ⟨by simp,?_⟩;obtain⟨h1,h2⟩:=(memL i).mp (by simp);refine aft _ D (pl.length+i) (L0.map λj=>pl.length+j) _ (λσ H5 h=>by rw[hD1];exact h) (s4.trans s5) ?_ ∅ (oz63 h1) h2;rw[s5 _ _ e4];simp
  .intro σ H3 e94;refine Zpg e94 λv6 v7 v8 v9 v10 rs2 M2 pl e923 s3 R3 e924=>?_;clear e94;obtain rfl:=e923;obtain⟨f3,lr⟩:=e924;walk_at "wp";refine⟨⇑0,λtm htm=>⟨⇑0,λt' ht'=>?_⟩⟩;have s4:=Same.new (o:=.tup [V.int n,V.int wd,V.ref r1]) htm;have s5:=Same.new (o:=.tup [V.int (pl.length:Nat),V.ref tm]) ht';have s45:=s4.trans s5;exact q t' tm r1 rs2 M2 pl _ (s3.trans s45) Zab ⟨s3.free htm,nw1.r,f3⟩ ⟨⟨s5 _ _ Zab,s45 _ _ R3.lst,R3.row.mono λ_ _ k=>k.same s45,R3.nin⟩,R3.hl,R3.hw,R3.gd⟩ lr
end
end Pf
set_option maxHeartbeats 1000000
namespace Pf
open PySem L2 L3 PyProof.Rows
structure Mat (p:Int)(n wd:Nat)(M:Mv):Prop where
 hl:M.length=n
 hw:∀ xs∈M,xs.length=wd
 is:∀ xs∈M,∀ x∈xs,Isn p x
theorem Zlv {p:Int}{F:Type}[Lean.Grind.Field F](hF:FdOk p F){n wd:Nat}{A B:Mv}(hA:Mat p n wd A)(hB:Mat p n wd B)(h:∀ i j,i<n->j<wd->(vN (A.getD i []) j:F)=vN (B.getD i []) j):A=B:=by
 have la:=hA.hl;have lb:=hB.hl;refine List.ext_getElem (oz42 la lb) λi h1 h2=>?_;have wa:=hA.hw _ (Jap h1);have wb:=hB.hw _ (Jap h2);refine List.ext_getElem (oz42 wa wb) λj h3 h4=>?_;have:=h i j (Zc0 lb h2) (Zc0 wa h3);rw[Zbh h1,Zbh h2,Zpo (Jaa h3),Zpo (Jaa h4)] at this;exact hF.inj (hA.is _ (Jap h1) _ (Jap h3)) (hB.is _ (Jap h2) _ (Jap h4)) this
theorem Zfj {p:Int}(hp:GroundP p){n m wd:Nat}{A B:Mv}(hA:Mat p n m A)(hB:Mat p m wd B):Mat p n wd (Zbg p A B wd):=by
 obtain⟨F,_,hF⟩:=Zk2 hp;refine⟨by unfold Zbg;rw[Jab];exact hA.hl,λxs hx=>?_,λxs hx x hxx=>?_⟩
 .refine Zae (Jaz.mp hx) λrow _ e91=>?_;obtain rfl:=e91;rw[Jab,Jal]
 .refine Zae (Jaz.mp hx) λrow hr e92=>?_;obtain rfl:=e92;refine Zae (Jaz.mp hxx) λj hj e93=>?_;obtain rfl:=e93;have hj:=Ja0.mp hj;have wr:=hA.hw row hr;have lB:=hB.hl;exact (Zog hp hF (λi hi=>hA.is row hr _ (Zaz hi)) (λi hi=>by
   have hi':i<B.length:=by exact oz9 wr lB hi
   rw[Jac,Jad,Jaa hi'];exact hB.is _ (Jap hi') _ (Zaz (by rw[hB.hw _ (Jap hi')];exact hj)))).1
theorem Zhj {p:Int}{F:Type}[Lean.Grind.Field F](hp:GroundP p)(hF:FdOk p F){n m wd:Nat}{A B:Mv}(hA:Mat p n m A)(hB:Mat p m wd B){i j:Nat}(hi:i<n)(hj:j<wd):(vN ((Zbg p A B wd).getD i []) j:F)=sm m λl=>vN (A.getD i []) l*vN (B.getD l []) j:=by
 have lA:=hA.hl;have lB:=hB.hl;have hm:A.getD i []∈A:=Zaz (Zh3 hi lA);have e:(Zbg p A B wd).getD i []=(List.range wd).map λj=>Zuu p (A.getD i []) (Zib B j):=by
  unfold Zbg;rw[Jac,Jad,Jaa (show i<A.length by exact Zh3 hi lA),Zbh (show i<A.length by exact Zh3 hi lA)];rfl
 have wr:=hA.hw _ hm;have col:∀ l,l<m->(Zib B j).getD l (0,1)=(B.getD l []).getD j (0,1):=λl hl=>by
  rw[Jac,Jad,Jaa (show l<B.length by exact oz8 lB hl),Zbh (show l<B.length by exact oz8 lB hl)];rfl
 rw[e];unfold vN;rw[Jac,Jad,Jas hj];have:=(Zog hp hF (n:=(A.getD i []).length) (f:=λk=>(A.getD i []).getD k (0,1)) (g:=λk=>(Zib B j).getD k (0,1)) (λl hl=>hA.is _ hm _ (Zaz hl)) (λl hl=>by
  rw[col l (Zc0 wr hl)];exact hB.is _ (Zaz (oz44 lB wr hl)) _ (Zaz (by rw[hB.hw _ (Zaz (oz44 lB wr hl))];exact hj)))).2
 show (nm (Zuu p (A.getD i []) (Zib B j)):F)=_;rw[this,wr];exact Zai λl hl=>by rw[col l hl]
section
variable {G PL cL:Addr}
structure WRh (H:Hp)(p:Int)(t l:Addr)(xs:List Nv)(kb:Nat):Prop where
 ex:∃ (ts:List Int) (b:Int),H t=some (.tup [.ref l,.int b])/\RowZ H l ts/\WRz p xs ts b/\SmallR kb ts/\Bt kb b
theorem WRh.same {H H':Hp}{p:Int}{t l:Addr}{xs:List Nv}{kb:Nat}(h:WRh H p t l xs kb)(s:Same H H'):WRh H' p t l xs kb:=let ⟨ts,b,h1,h2,h3⟩:=h.ex;⟨ts,b,s _ _ h1,s _ _ h2,h3⟩
theorem WRh.put {H:Hp}{D:Addr}{l':List V}{o:HO}{p:Int}{t l:Addr}{xs:List Nv}{kb:Nat}(h:WRh H p t l xs kb)(hD:H D=some (.lst l'))(n:l≠D):WRh (upd H D o) p t l xs kb:=let ⟨ts,b,h1,h2,h3⟩:=h.ex;⟨ts,b,by rw[Zaj (Zdh h1 hD (by intro z;cases z))];exact h1,h2.put n,h3⟩
theorem Zh1 {f g:Nat->Int}:∀ {n:Nat},(∀ i,i<n->f i=g i)->preSum f n=preSum g n
 | 0,_=>rfl
 | n+1,h=>by
  show preSum f n+f n=preSum g n+g n;rw[Zh1 (n:=n) λi hi=>h i (Zlp hi),h n Zji]
theorem Zoq (g:Nat->Int)(N:Nat):preSum (λi=>((List.range N).map g).getD i 0) N=preSum g N:=Zh1 λi hi=>by
 rw[Jac,Jad,Jas hi];rfl
theorem Zll {f:Nat->Int}{B:Nat}:∀ {n:Nat},(∀ i,i<n->(f i).natAbs<=B)->(preSum f n).natAbs<=n*B
 | 0,_=>by show (0:Int).natAbs<=_;simp
 | n+1,h=>by
  have a:=Zll (f:=f) (B:=B) (n:=n) λi hi=>h i (Zlp hi);have b:=h n Zji;show (preSum f n+f n).natAbs<=(n+1)*B;rw[Jco,Nat.one_mul];exact oz30 a b
theorem Zlm {F:Type}[Lean.Grind.Field F](f:Nat->Int):∀ n:Nat,(ic (preSum f n):F)=sm n λi=>ic (f i)
 | 0=>Zhl
 | n+1=>by
  show (ic (preSum f n+f n):F)=sm n (λi=>ic (f i))+ic (f n);rw[Zob,Zlm f n]
theorem Zqi {f:Nat->Int}{k n:Nat}(hn:n<=24)(h:∀ i,i<n->Bt k (f i)):Bt (k+5) (preSum f n):=by
 have h1:=Zll (f:=f) (B:=2 ^ k) (n:=n) λi hi=>Jbv (h i hi);have h2:n*2 ^ k<=24*2 ^ k:=Nat.mul_le_mul_right _ hn;have h3:2 ^ (k+5)=32*2 ^ k:=by rw[Nat.pow_add];omega
 have h4:=Nat.two_pow_pos k;show (preSum f n).natAbs<2 ^ (k+5);omega
theorem dot_isQ {p:Int}{xs ys:List Nv}{ts us:List Int}{b c:Int}{x:Nv}(hp:GroundP p)(hl:ys.length=xs.length)(hx:∀ x∈xs,Isn p x)(hy:∀ y∈ys,Isn p y)(w1:WRz p xs ts b)(w2:WRz p ys us c)(iq:IsQ p (preSum (λi=>ts.getD i 0*us.getD i 0) xs.length) (b*c) x):x=Zuu p xs ys:=by
 obtain⟨F,_,hF⟩:=Zk2 hp;obtain⟨i1,e1⟩:=Zog hp hF (n:=xs.length) (f:=λk=>xs.getD k (0,1)) (g:=λk=>ys.getD k (0,1)) (λi hi=>hx _ (Zaz hi)) (λi hi=>hy _ (Zaz (oz8 hl hi)));refine hF.inj iq.is i1 ?_;rw[iq.fd F hF,e1,Zlm,Zcl];have b0:=wr_b hF w1;have c0:=wr_b hF w2;rw[Zai (g:=λi=>(ic b*ic c)*(nm (xs.getD i (0,1))*nm (ys.getD i (0,1)))) λi hi=>by
  rw[Zcl];have a1:=wr_eq hF w1 hx i;have a2:=wr_eq hF w2 hy i;unfold vz vN at a1 a2;rw[a1,a2]
  grind]
 rw[Zdx];generalize (sm xs.length λi=>(nm (xs.getD i (0,1)):F)*nm (ys.getD i (0,1)))=z;have bc:(ic b*ic c:F)≠0:=by
  intro z
  grind
 grind
theorem bot_ne {p b:Int}{F:Type}[Lean.Grind.Field F](hp:GroundP p)(hF:FdOk p F)(h:(ic b:F)≠0):p≠0->b % p≠0:=λh0 z=>by
 apply h;rw[<- hF.modF h0,z,Zhl]
def spRt (G:Addr):L2.Sp:=λvs H Q _=>∃ (g t l u m:Addr) (p:Int) (xs ys:List Nv) (k1 k2:Nat),vs=[.ref g,.ref t,.ref u]/\GAt G H g p/\GroundP p/\WRh H p t l xs k1/\WRh H p u m ys k2/\xs.length<=24/\ys.length=xs.length/\(∀ x∈xs,Isn p x)/\(∀ y∈ys,Isn p y)/\k1+k2+5<=NB /\
 ∀ v H',Same H H'->NumV H' p v (Zuu p xs ys)->Q v H'
theorem ok_rt (F:Fun K "row_times" "row_times" Zf8 f fd)(T:Txt K mg C G S)(Ya2:CalD P w K mg base G "number" 6 (Zjv G) []):FnOk P w K mg base CX0 7 f fd ["ground","row","column"] (spRt G):=by
 have nd:=Zhs.nd;refine F.ok Zhs (λvs H Q E h=>?_) (λcdv A outer s H vs Q E hr h=>?_)
 .refine xE10_2 h λg t l u m p xs ys k1 k2 e91 _=>?_;clear h;obtain rfl:=e91;rfl
 .refine xE10_4 h λg t l u m p xs ys k1 k2 e92 hg hp e93=>?_;clear h;obtain rfl:=e92;refine xE0_8 e93 λe94 e95 xl yl gx gy kb q=>?_;clear e93;obtain⟨ts,b,ht,hl,w1,b1,bb1⟩:=e94;obtain⟨us,c,hu,hm,w2,b2,bb2⟩:=e95;refine⟨_,((Zbk (pvr 1) (@Zbv _ _ _ _ _ 2 rfl ((3>>>nd)^^^((4>>>nd)^^^(@Za0 _))) ⇑1 ⇑1))<*>((Zbk (pvr 2) (@Zbv _ _ _ _ _ 2 rfl ((5>>>nd)^^^((6>>>nd)^^^(@Za0 _))) ⇑1 ⇑1))<*>(~~~(Zmx T.cl_Ground Ya2 hr.m (pvr 0) ((Za9 (Zu1 rfl) rfl T.n_sum boot_sum ((Za3 (own:=["a","b"]) (fr:=[]) rfl (Zbn (by kernel_rfl)) (Zh2 rfl T.n_zip ((pv 3)<&>((pv 5)<&>Zaa))) (λ_ _ _ _=>⟨(@Zcq _ K rfl _ _ _ _ 2 rfl ((0<<<["a","b"])^^^((1<<<["a","b"])^^^(@Za0 _))) ⇑1 ⇑1),Zay,(Zbp<|>(pv 0)<&&>(pv 1))⟩))<&>Zaa))<&>((Zbp<|>(pvr 4)<&&>(pvr 6))<&>Zaa)))))),?_⟩;walk_at "wp";obtain⟨dx,hg0⟩:=hg;have tl:=w1.len;have ul:=w2.len;refine⟨_,SqT.of ht,rfl,_,_,rfl,_,_,rfl,rfl,_,SqT.of hu,rfl,_,_,rfl,_,_,rfl,rfl,dx,_,hg0,Zdj p,?_⟩;have bt1:∀ i,Bt k1 (ts.getD i 0):=λi=>b1.at i;have bt2:∀ i,Bt k2 (us.getD i 0):=λi=>b2.at i;refine⟨_,rfl,_,rfl,l,m,rfl,⟨_,SqL.of hl⟩,⟨_,SqL.of hm⟩,λD hD=>Zgw (λi _ y=>y=.int (ts.getD i 0*us.getD i 0)) (λr _=>r) (λr _=>r) hl hm (by rw[Jab,Jab];exact oz166 yl tl ul) hD (by rw[Jab];exact oz86 xl tl) (λi x y H' Q' hx hy s' _ q'=>?_) (λzs H1 s1 e1 zl hz=>?_)⟩
  .refine Zae (Zkw hx) λa e e96=>?_;obtain rfl:=e96;refine Zae (Zkw hy) λc' e' e97=>?_;obtain rfl:=e97;have h1:=bt1 i;have h2:=bt2 i;rw[Zao e] at h1;rw[Zao e'] at h2;exact⟨_,rfl,_,rfl,_,_,rfl,rfl,h1.ok h2 (Ja4 (show k1+k2<=NB by exact oz118 kb) ⇑0),q' _ H' (Same.refl _) (by rw[Zao e,Zao e'])⟩
  .rw [Jab,tl] at zl;rw[Zrp zl hz] at e1;refine⟨D,rfl,_,SqL.of e1,b,rfl,c,rfl,bb1.ok bb2 (Ja4 (show k1+k2<=NB by exact oz118 kb) ⇑0),?_⟩;rw[Jab,Jal,Zoq];obtain⟨F',_,hF⟩:=Zk2 hp;have bc:(ic (b*c):F')≠0:=by
    have:=wr_b hF w1;have:=wr_b hF w2;rw[Zcl];intro z
    grind
   refine Zjr g p _ _ ⟨rfl,⟨dx,s1 _ _ hg0⟩,hp,(Zqi xl λi _=>(bt1 i).mul (bt2 i)).le ∅,(bb1.mul bb2).le (oz118 kb),λ_=>?_,bot_ne hp hF bc,λv x H2 s2 nv iq=>?_⟩
   .have:=Jc9 w1.pos w2.pos;omega
   .rw [dot_isQ hp yl gx gy w1 w2 iq] at nv;exact q v H2 (s1.trans s2) nv
abbrev colM (M:Mv)(wd:Nat):Mv:=(List.range wd).map λj=>Zib M j
theorem col_len {M:Mv}{n wd:Nat}(hl:M.length=n):∀ xs∈colM M wd,xs.length=n:=λxs hx=>by
 refine Zae (Jaz.mp hx) λj _ e98=>?_;obtain rfl:=e98;rw[Jab,hl]
theorem Zsb {p:Int}{M:Mv}{k wd:Nat}(hw:∀ xs∈M,xs.length=wd)(g:∀ xs∈M,GoodB p k xs):∀ xs∈colM M wd,GoodB p k xs:=λxs hx=>by
 refine Zae (Jaz.mp hx) λj hj e99=>?_;obtain rfl:=e99;exact Zl5 hw g (Ja0.mp hj)
def spTa:L2.Sp:=λvs H Q _=>∃ (p:Int) (k n wd:Nat) (t r:Addr) (rs:List Addr) (M:Mv),vs=[.ref t]/\TabB H p k n wd t r rs M/\n<=200/\wd<=200/\∀ (t' r':Addr) (rs':List Addr) H',Same H H'->New H t' r' rs'->TabB H' p k wd n t' r' rs' (colM M wd)->Q (.ref t') H'
theorem ok_ta (F:Fun K "turned_about" "turned_about" Zds f fd)(T:Txt K mg C G S):FnOk P w K mg base CX0 1 f fd ["table"] spTa:=by
 have nd:=Ze1.nd;refine F.ok Ze1 (λvs H Q E h=>?_) (λcdv A outer s H vs Q E hr h=>?_)
 .refine xE8_2 h λp k n wd t r rs M e910 _=>?_;clear h;obtain rfl:=e910;rfl
 .refine Zpg h λp k n wd t r rs M e911 tb n24 e912=>?_;clear h;obtain rfl:=e911;obtain⟨w24,q⟩:=e912;have rl:=tb.tv.row.1;have hM:=tb.hl;refine⟨_,((Zbk (pvr 0) (@Zbv _ _ _ _ _ 3 rfl ((1>>>nd)^^^((2>>>nd)^^^((@Zad _ _ 3 _ nd rfl (Or.inr rfl) (Or.inl rfl))^^^(@Za0 _)))) ⇑1 ⇑1))<*>(~~~(@Zaw _ _ _ _ _ ((pvr 2)<&>((pvr 1)<&>((Za3 (own:=["place"]) (fr:=[("rows",3)]) rfl (Zbn (by kernel_rfl)) (Zfe rfl T.n_range ((pv 2)<&>Zaa)) (λ_ _ _ _=>⟨(@Zad _ _ 0 _ (show (["place","rows"]:List Str).Nodup by decide +kernel) rfl (Or.inr rfl) (Or.inl rfl)),Zay,(Za3 (own:=["row"]) (fr:=[("place",0)]) rfl (Zbn (by kernel_rfl)) (Zkr K rfl (pv 1)) (λ_ _ _ _=>⟨(0<<<["row","place"]),Zay,((Zch K rfl)<|>(pv 0)<||>(pv 1))⟩))⟩))<&>Zaa)))))),?_⟩;walk_at "wp";refine⟨_,SqT.of tb.tv.tup,rfl,_,_,rfl,_,_,rfl,_,_,rfl,rfl,?_⟩;refine⟨_,rfl,_,rfl,∅,∅,λD hD=>Zl3 (n:=wd) (λi Hc y=>∃ a,y=.ref a/\RowV Hc p a ((colM M wd).getD i [])/\a≠D/\H a=none) (λ⟨a,e,b,c⟩ s=>⟨a,e,b.same s,c⟩) (λ⟨a,e,b,c,d⟩ hD=>⟨a,e,b.put hD c,c,d⟩) hD ∅ (λi H' Q' hi s' ⟨lD,hlD⟩ q'=>?_) (λys H1 s1 e1 yl hys=>?_)⟩
  .refine ⟨_,rfl,r,rfl,⟨_,SqL.of (s' _ _ tb.tv.lst)⟩,λE1 hE1=>Zb2 (λk Hc y=>NumV Hc p y ((M.getD k []).getD i (0,1))) (λk s=>k.same s) (λk hD=>k.put hD) (s' _ _ tb.tv.lst) hE1 (by rw[Jab];exact oz130 n24 rl hM) (λk x Hc Qc hx sc _ qc=>?_) (λys Hc sc ec yl yn=>?_)⟩
   .refine Zae ((Zbr tb.tv.row).at' hx) λrow er e913=>?_;obtain⟨a,rfl,vs,hv1,hv2⟩:=e913;have rw':=tb.hw row (Jae er);have ei:row[i]?=some (row[i]'(Zh3 hi rw')):=Jaa _;refine Zae (hv2.at ei) λv ev nv=>?_;have nv':=nv.same (s'.trans sc);have qq:=qc v Hc (Same.refl _);rw[Zao er,Zao ei] at qq;exact⟨_,rfl,_,rfl,a,vs,((0:Int)+(i:Int)),v,rfl,rfl,SqL.of ((s'.trans sc) _ _ hv1),Zb0 Ztq (by rw[show ((0:Int)+(i:Int)).toNat=i by exact oz29];exact ev),qq nv'⟩
   .rw [Jab] at yl;have ecol:(colM M wd).getD i []=Zib M i:=Zao (by rw[Jad,Jas hi];rfl);refine q' _ Hc sc ⟨E1,rfl,⟨ys,ec,?_⟩,(Zah hlD hE1).symm,s'.free hE1⟩;rw[ecol];refine⟨by rw[Jab];exact oz28 rl yl,λk y x f1 f2=>?_⟩;rw[Jad] at f2;cases eM:M[k]? with
    | none=>rw[eM] at f2;cases f2
    | some row=>
     rw[eM] at f2;cases f2;have:=yn k y f1;rwa [Zao eM] at this
  .obtain ⟨rs',rfl,a2,nD,fr⟩:=Zjb (D:=D) (H1:=H) (p:=p) (M:=colM M wd) (by rw[Jab,Jal];exact yl) hys;refine⟨⇑0,λt' ht'=>?_⟩;have s2:=Same.new (o:=.tup [V.int wd,V.int n,.ref D]) ht';exact q t' D rs' _ (s1.trans s2) ⟨s1.free ht',hD,fr⟩ ⟨⟨Zab,s2 _ _ e1,a2.mono λ_ _ k=>k.same s2,nD⟩,by rw[Jab,Jal],col_len hM,Zsb tb.hw tb.gd⟩
def Znl (G:Addr):L2.Sp:=λvs H Q E=>∃ (g t1 r1 t2 r2:Addr) (rs1 rs2:List Addr) (p:Int) (n m w2 k1 k2:Nat) (A B:Mv),vs=[.ref g,.ref t1,.ref t2]/\GAt G H g p/\GroundP p/\TabB H p k1 n m t1 r1 rs1 A/\TabB H p k2 m w2 t2 r2 rs2 B/\n<=24/\m<=24/\w2<=24/\1<=k1/\1<=k2/\(m+1)*k1+(m+1)*k2+5<=NB /\
 ∀ t r rs H',Same H H'->New H t r rs->TabB H' p (7+m*(k1+k2+8)) n w2 t r rs (Zbg p A B w2)->Q (.ref t) H'
theorem Zgr {p:Int}{n m wd k1 k2:Nat}{A B:Mv}(hp:GroundP p)(hl:A.length=n)(hw:∀ xs∈A,xs.length=m)(hg:∀ xs∈A,GoodB p k1 xs)(hl':B.length=m)(hw':∀ xs∈B,xs.length=wd)(hg':∀ xs∈B,GoodB p k2 xs):(Zbg p A B wd).length=n/\(∀ xs∈Zbg p A B wd,xs.length=wd)/\∀ xs∈Zbg p A B wd,GoodB p (7+m*(k1+k2+8)) xs:=by
 refine⟨by unfold Zbg;rw[Jab];exact hl,λxs hx=>?_,λxs hx x hxx=>?_⟩
 .refine Zae (Jaz.mp hx) λrow _ e914=>?_;obtain rfl:=e914;rw[Jab,Jal]
 .refine Zae (Jaz.mp hx) λrow hr e915=>?_;obtain rfl:=e915;refine Zae (Jaz.mp hxx) λj hj e916=>?_;obtain rfl:=e916;have hj:=Ja0.mp hj;have wr:=hw row hr;have gc:=Zl5 hw' hg' hj;have:=Zr1 hp (k1:=k1) (k2:=k2) (n:=row.length) (f:=λk=>row.getD k (0,1)) (g:=λk=>(Zib B j).getD k (0,1)) (λi hi=>hg row hr _ (Zaz hi)) (λi hi=>gc _ (Zaz (by rw[Jab];exact oz44 hl' wr hi)));rw[wr] at this;refine⟨?_,?_⟩
  .show Isn p (Zr2 p _ _ row.length);rw[wr];exact this.1
  .show BtN _ (Zr2 p _ _ row.length);rw[wr];exact this.2
theorem ok_prod (F:Fun K "product" "product" Zi0 f fd)(T:Txt K mg C G S)(Yax:Cal P w K mg base "whole_row" 6 (spWrZ G))(Ybz:Cal P w K mg base "turned_about" 1 spTa)(Yb0:Cal P w K mg base "row_times" 7 (spRt G)):FnOk P w K mg base CX0 8 f fd ["ground","one","other"] (Znl G):=by
 have nd:=Zjy.nd;refine F.ok Zjy (λvs H Q E h=>?_) (λcdv A outer s H vs Q E hr h=>?_)
 .refine Zni h λg t1 r1 t2 r2 rs1 rs2 p n m w2 k1 k2 A B e917 _=>?_;clear h;obtain rfl:=e917;rfl
 .refine Zva h λg t1 r1 t2 r2 rs1 rs2 p n m w2 k1 k2 A B e918 hg hp e919=>?_;clear h;obtain rfl:=e918;refine xE0_9 e919 λT1 T2 n24 m24 w24 k11 k21 lim good=>?_;clear e919;have Zgg:∀ {c A B:Prop} [Decidable c],¬ c->B->if c then A else B:=λhc h=>by rw[if_neg hc];exact h
  refine⟨_,((@Za6 _ _ _ _ _ _ _ _ (Zam Zeu ((Zgh Zat)<|>(pvr 1)<||>Zac) ((Zgh Zat)<|>(pvr 2)<||>Zac) (Zak _)) (@Zan _ _ _ Zcu) Zal)<*>((Zfd (i:=3) (own:=["row"]) (fr:=[("ground",0)]) rfl (Zbn (by kernel_rfl)) (Zbc (Zat<|>(pv 1)<||>Zac)) (λ_ _ _ _=>⟨(0<<<["row","ground"]),Zay,(Yax<$>hr<$>((pv 1)<&>((pv 0)<&>Zaa)))⟩) nd rfl rfl rfl)<*>((Zap (i:=4) nd rfl (Or.inr rfl) (Za3 (own:=["column"]) (fr:=[("ground",0)]) rfl (Zbn (by kernel_rfl)) (Zbc (Zat<|>(Ybz<$>hr<$>((pv 2)<&>Zaa))<||>Zac)) (λ_ _ _ _=>⟨(0<<<["column","ground"]),Zay,(Yax<$>hr<$>((pv 1)<&>((pv 0)<&>Zaa)))⟩)))<*>(~~~(@Zaw _ _ _ _ _ (((Zgh Zat)<|>(pvr 1)<||>Zac)<&>(((Zgh Zat)<|>(pvr 2)<||>Zac)<&>((Za3 (own:=["row"]) (fr:=[("columns",4),("ground",0)]) rfl (Zbn (by kernel_rfl)) (Zbc (pv 3)) (λ_ _ _ _=>⟨(@Zad _ _ 0 _ (show (["row","columns","ground"]:List Str).Nodup by decide +kernel) rfl (Or.inr rfl) (Or.inl rfl)),Zay,(Za3 (own:=["column"]) (fr:=[("ground",2),("row",0)]) rfl (Zbn (by kernel_rfl)) (Zkr K rfl (pv 1)) (λ_ _ _ _=>⟨(0<<<["column","ground","row"]),Zay,(Yb0<$>hr<$>((pv 1)<&>((pv 2)<&>((pv 0)<&>Zaa))))⟩))⟩))<&>Zaa)))))))),?_⟩;walk_at "wp";refine⟨_,SqT.of T1.tv.tup,_,rfl,_,SqT.of T2.tv.tup,_,rfl,rfl,Zgg (by simp) ?_⟩;have la:=T1.tv.row.1;have lb:=T2.tv.row.1;have sA:=T1.hl;have sB:=T2.hl
  -- the rows
  refine⟨_,rfl,t1,_,2,_,rfl,rfl,SqT.of T1.tv.tup,rfl,r1,rfl,⟨_,SqL.of T1.tv.lst⟩,λD1 hD1=>Zb2 (λi Hc y=>∃ t l,y=.ref t/\WRh Hc p t l (A.getD i []) ((m+1)*k1)/\l≠D1) (λ⟨t,l,e,b,c⟩ s=>⟨t,l,e,b.same s,c⟩) (λ⟨t,l,e,b,c⟩ hD=>⟨t,l,e,b.put hD c,c⟩) T1.tv.lst hD1 (by rw[Jab];omega) (λi x H' Q' hx s' ⟨lD,hlD⟩ q'=>?_) (λys H1 s1 e1 yl hys=>?_)⟩
  .refine Zae ((Zbr T1.tv.row).at' hx) λrow er e920=>?_;obtain⟨a,rfl,rv⟩:=e920;have hrow:=Jae er;have wr:=T1.hw row hrow;refine⟨_,rfl,_,rfl,g,a,p,row,k1,rfl,hg.same s',hp,rv.same s',oz79 m24 wr,T1.gd row hrow,k11,by rw[wr];omega,λt l zs b H2 s2 fl ht rz wz sz bb=>q' _ H2 s2 ⟨t,l,rfl,?_,(Zah hlD fl).symm⟩⟩;rw[Zao er];rw[wr] at sz bb;exact⟨zs,b,ht,rz,wz,sz,bb⟩
  rw[Jab] at yl
  -- the columns
  refine⟨_,rfl,p,k2,m,w2,t2,r2,rs2,B,rfl,T2.same s1,oz147 m24,oz147 w24,λt3 r3 rs3 H2 s2 nw3 tb3=>?_⟩;have s02:=s1.trans s2;refine Zjr t3 _ 2 _ ⟨rfl,rfl,SqT.of tb3.tv.tup,rfl,r3,rfl,⟨_,SqL.of tb3.tv.lst⟩,λD2 hD2=>?_⟩;have l3:=tb3.tv.row.1;rw[Jab,Jal] at l3;refine Zb2 (λi Hc y=>∃ t l,y=.ref t/\WRh Hc p t l (Zib B i) ((m+1)*k2)/\l≠D2) (λ⟨t,l,e,b,c⟩ s=>⟨t,l,e,b.same s,c⟩) (λ⟨t,l,e,b,c⟩ hD=>⟨t,l,e,b.put hD c,c⟩) tb3.tv.lst hD2 (by rw[Jab];exact oz86 w24 l3) (λi x H' Q' hx s' ⟨lD,hlD⟩ q'=>?_) (λzs H3 s3 e3 zl hzs=>?_)
  .refine Zae ((Zbr tb3.tv.row).at' hx) λcol ec e921=>?_;obtain⟨a,rfl,rv⟩:=e921;have hi:i<w2:=by
    have:=(Jaf.mp ec).1;rwa [Jab,Jal] at this
   have ecol:col=Zib B i:=by
    rw[Jad,Jas hi] at ec;cases ec;rfl
   subst ecol;have cl:(Zib B i).length=m:=by rw[Jab];exact sB
   refine⟨_,rfl,_,rfl,g,a,p,Zib B i,k2,rfl,hg.same (s02.trans s'),hp,rv.same s',oz79 m24 cl,Zl5 T2.hw T2.gd hi,k21,by rw[cl];omega,λt l zs b H4 s4 fl ht rz wz sz bb=>q' _ H4 s4 ⟨t,l,rfl,?_,(Zah hlD fl).symm⟩⟩;rw[cl] at sz bb;exact⟨zs,b,ht,rz,wz,sz,bb⟩
  rw[Jab] at zl;have s03:=s02.trans s3;have s13:=s2.trans s3;have e13:=s13 _ _ e1;refine⟨_,SqT.of (s03 _ _ T1.tv.tup),_,rfl,_,SqT.of (s03 _ _ T2.tv.tup),_,rfl,?_⟩
  -- the rows of the product
  refine⟨_,rfl,D1,rfl,⟨_,SqL.of e13⟩,λD3 hD3=>Zb2 (λi Hc y=>∃ a,y=.ref a/\RowV Hc p a ((Zbg p A B w2).getD i [])/\a≠D3/\H3 a=none) (λ⟨a,e,b,c⟩ s=>⟨a,e,b.same s,c⟩) (λ⟨a,e,b,c,d⟩ hD=>⟨a,e,b.put hD c,c,d⟩) e13 hD3 ∅ (λi x H' Q' hx s' ⟨lD,hlD⟩ q'=>?_) (λus H4 s4 e4 ul hus=>?_)⟩
  .refine Zbt (hys i x hx) λti li e922 wri _=>?_;obtain rfl:=e922;have hi:i<A.length:=by have:=(Jaf.mp hx).1;exact oz23 la yl this
   have eA:A[i]?=some A[i]:=Jaa hi;rw[Zao eA] at wri;have hrow:=Jap hi;have wr:=T1.hw _ hrow;refine⟨_,rfl,D2,rfl,⟨_,SqL.of (s' _ _ e3)⟩,λD4 hD4=>Zb2 (λj Hc y=>NumV Hc p y (Zuu p A[i] (Zib B j))) (λk s=>k.same s) (λk hD=>k.put hD) (s' _ _ e3) hD4 ∅ (λj y Hc Qc hy sc _ qc=>?_) (λvs Hc sc ec vl vn=>?_)⟩
   .refine Zbt (hzs j y hy) λtj lj e923 wrj _=>?_;obtain rfl:=e923;have hj:j<w2:=by have:=(Jaf.mp hy).1;exact oz23 l3 zl this
    exact⟨_,rfl,_,rfl,_,rfl,g,ti,li,tj,lj,p,A[i],Zib B j,(m+1)*k1,(m+1)*k2,rfl,hg.same ((s03.trans s').trans sc),hp,wri.same ((s13.trans s').trans sc),wrj.same (s'.trans sc),∅,by rw[Jab];omega,λx hx=>(T1.gd _ hrow x hx).1,λx hx=>(Zl5 T2.hw T2.gd hj x hx).1,lim,λv Hd sd nv=>qc v Hd sd nv⟩
   .refine q' _ Hc sc ⟨D4,rfl,⟨vs,ec,?_⟩,(Zah hlD hD4).symm,s'.free hD4⟩;have ep:(Zbg p A B w2).getD i []=(List.range w2).map λj=>Zuu p A[i] (Zib B j):=Zao (by unfold Zbg;rw[Jad,eA];rfl);rw[ep];refine⟨by rw[Jab,Jal];exact oz34 l3 zl vl,λj v x f1 f2=>?_⟩;have hj:j<w2:=by have:=(Jaf.mp f1).1;exact oz119 l3 zl vl this
    rw[Jad,Jas hj] at f2;cases f2;exact vn j v f1
  .obtain ⟨rs',rfl,a2,nD,fr⟩:=Zjb (D:=D3) (H1:=H3) (p:=p) (M:=Zbg p A B w2) (by unfold Zbg;rw[Jab];exact oz34 la yl ul) hus;refine⟨⇑0,λt' ht'=>?_⟩;have s5:=Same.new (o:=.tup [V.int n,V.int w2,.ref D3]) ht';refine Za2 (Zgr (wd:=w2) hp T1.hl T1.hw T1.gd T2.hl T2.hw T2.gd) λg1 g2 g3=>?_;exact good t' D3 rs' _ ((s03.trans s4).trans s5) ⟨(s03.trans s4).free ht',s03.free hD3,λb hb=>s03.free (fr b hb)⟩ ⟨⟨Zab,s5 _ _ e4,a2.mono λ_ _ k=>k.same s5,nD⟩,g1,g2,g3⟩
end
end Pf
namespace Pf
open PySem L2 L3 PyProof.Rows
section
variable {F:Type}[Lean.Grind.Field F]
theorem Zvf {n:Nat}{U S:Nat->Nat->F}(h:∀ i j,i<n->j<n->mm n U S i j=del i j):∀ i j,i<n->j<n->mm n S U i j=del i j:=by
 have inj:∀ v:Nat->F,(∀ i,i<n->sm n (λj=>U i j*v j)=0)->∀ j,j<n->v j=0:=by
  intro v hv;refine Zae (Zn8 n (n+1) (λi j=>if j<n then S i j else v i) Zji) λc e91 hc=>?_;obtain⟨j0,hj0,hc0⟩:=e91;have e1:∀ i,i<n->sm n (λj=>S i j*c j)+v i*c n=0:=λi hi=>by
   have:=hc i hi;show _=_;rw[show sm (n+1) (λj=>(if j<n then S i j else v i)*c j)=sm n (λj=>(if j<n then S i j else v i)*c j)+(if n<n then S i n else v i)*c n from rfl,if_neg (Jb4 n)] at this;rw[<- this];congr 1;exact Zai λj hj=>by rw[if_pos hj]
  have e2:∀ i,i<n->c i=0:=λi hi=>by
   have h1:sm n (λk=>U i k*(sm n (λj=>S k j*c j)+v k*c n))=0:=by
    rw[Zai (g:=λ_=>(0:F)) λk hk=>by rw[e1 k hk];grind];exact Zcn n
   rw[Zai (g:=λk=>sm n (λj=>U i k*(S k j*c j))+U i k*v k*c n) λk hk=>by rw[Zdx];grind,Zho,Zg7,Zg8,hv i hi] at h1;rw[Zai (g:=λj=>del i j*c j) λj hj=>by
    rw[<- h i j hi hj];show _=sm n (λk=>U i k*S k j)*c j;rw[<- Zg8];exact Zai λk _=>by grind] at h1
   have h2:sm n (λj=>del i j*c j)=c i:=by
    rw[Zai (g:=λj=>if j=i then c j else 0) λj _=>by
     show (if i=j then (1:F) else 0)*c j=_;by_cases e:i=j
     .subst e;rw[if_pos rfl,if_pos rfl];grind
     .rw [if_neg e,if_neg (λz=>e z.symm)];grind]
    exact Zhn c hi
   rw[h2] at h1
   grind
  have hjn:j0=n:=by
   apply Jbc;intro z;exact hc0 (e2 j0 (oz21 hj0 z))
  subst hjn;intro j hj;have:=e1 j hj;rw[Zai (g:=λ_=>(0:F)) λk hk=>by rw[e2 k hk];grind,Zcn] at this
  grind
 intro i j hi hj;have:=inj (λk=>mm n S U k j-del k j) (λl hl=>by
  have e:sm n (λk=>U l k*(mm n S U k j-del k j))=mm n U (mm n S U) l j-sm n (λk=>U l k*del k j):=by
   have:∀ m:Nat,sm m (λk=>U l k*(mm n S U k j-del k j))=sm m (λk=>U l k*mm n S U k j)-sm m (λk=>U l k*del k j):=by
    intro m
    induction m with
    | zero=>show (0:F)=0-0;grind
    | succ m ih=>
     show sm m _+_=(sm m _+_)-(sm m _+_);rw[ih]
     grind
   exact this n
  rw[e,<- Zt9];have e3:mm n (mm n U S) U l j=U l j:=by
   show sm n (λk=>mm n U S l k*U k j)=_;rw[Zai (g:=λk=>del l k*U k j) λk hk=>by rw[h l k hl hk]];rw[Zai (g:=λk=>if k=l then U k j else 0) λk _=>by
    show (if l=k then (1:F) else 0)*U k j=_;by_cases e:l=k
    .subst e;rw[if_pos rfl,if_pos rfl];grind
    .rw [if_neg e,if_neg (λz=>e z.symm)];grind]
   exact Zhn _ hl
  have e4:sm n (λk=>U l k*del k j)=U l j:=Zkl _ hj;rw[e3,e4]
  grind) i hi
 grind
end
end Pf
namespace Pf
open PySem L2 L3 PyProof.Rows
section
variable {G PL cL:Addr}
theorem Zm6 {H:Hp}{n:Nat}{i j:Int}:EqD K H n (.int i) (.int j) (decide (i=j)):=by
 have:=EqD.flat (K:=K) (H:=H) (n:=n) (x:=.int i) (y:=.int j) rfl rfl;have e:eqV (.int i) (.int j)=decide (i=j):=by
  show (i == j)=decide (i=j);exact Jb1.mpr (by rw[Jbw,Jcu])
 rwa [e] at this
theorem Zkx {α:Type}{H:Hp}{n:Nat}{a c:Addr}{R:V->α->Prop}{vs us:List V}{xs ys:List α}(hl:xs.length=ys.length)(ha:H a=some (.lst vs))(hc:H c=some (.lst us))(h:All2 R vs xs)(h':All2 R us ys)(uq:∀ v x y,x∈xs->y∈ys->R v x->R v y->x=y)(k:∀ v u x y,x∈xs->y∈ys->R v x->R u y->∃ b,EqD K H n v u b/\(b=true ↔ x=y)):∃ b,EqD K H (n+1) (.ref a) (.ref c) b/\(b=true ↔ xs=ys):=by
 have l1:=h.1;have l2:=h'.1;have key:∀ i,∃ b,i<vs.length->∃ v u x y,vs[i]?=some v/\us[i]?=some u/\xs[i]?=some x/\ys[i]?=some y/\EqD K H n v u b/\(b=true ↔ x=y):=λi=>by
  by_cases hi:i<vs.length
  .have e1:=Jaa hi;have e2:=Jaa (show i<us.length by omega);have e3:=Jaa (show i<xs.length by exact Zc0 l1 hi);have e4:=Jaa (show i<ys.length by exact oz23 hl l1 hi);refine Zae (k _ _ _ _ (Jae e3) (Jae e4) (h.2 i _ _ e1 e3) (h'.2 i _ _ e2 e4)) λb hb hb2=>?_;exact⟨b,λ_=>⟨_,_,_,_,e1,e2,e3,e4,hb,hb2⟩⟩
  .exact ⟨true,λz=>absurd z hi⟩
 by_cases hac:a=c
 .subst hac;rw[ha] at hc;cases hc;refine⟨true,.same,λ_=>?_,λ_=>rfl⟩;refine Jcm λi=>?_;by_cases hi:i<vs.length
  .have e1:=Jaa hi;have e3:=Jaa (show i<xs.length by exact Zc0 l1 hi);have e4:=Jaa (show i<ys.length by exact oz23 hl l1 hi);rw[e3,e4,uq _ _ _ (Jae e3) (Jae e4) (h.2 i _ _ e1 e3) (h'.2 i _ _ e1 e4)]
  .rw [Jak (oz95 l1 hi),Jak (oz113 hl l1 hi)]
 .refine ⟨((List.range vs.length).map λi=>Classical.choose (key i)).all id,.list hac (SqL.of ha) (SqL.of hc) (oz103 hl l1 l2) (by rw[Jab,Jal]) λj x y b f1 f2 f3=>?_,?_⟩
  .have hj:j<vs.length:=(Jaf.mp f1).1;rw[Jad,Jas hj] at f3;cases f3;refine Zb8 (Jcg (key j) hj) λv u x' y' e1 e2 e3 e91=>?_;refine Za2 e91 λe4 hq _=>?_;clear e91;rw[e1] at f1;rw[e2] at f2;cases f1;cases f2;exact hq
  .rw [List.all_map,Jbe];constructor
   .intro hall;refine Jcm λi=>?_;by_cases hi:i<vs.length
    .refine Zb8 (Jcg (key i) hi) λv u x y e1 e2 e3 e92=>?_;refine Za2 e92 λe4 hq hxy=>?_;clear e92;rw[e3,e4,hxy.mp (hall i (Ja0.mpr hi))]
    .rw [Jak (oz95 l1 hi),Jak (oz113 hl l1 hi)]
   .rintro rfl i hi;have hi:=Ja0.mp hi;refine Zb8 (Jcg (key i) hi) λv u x y e1 e2 e3 e93=>?_;refine Za2 e93 λe4 hq hxy=>?_;clear e93;rw[e3] at e4;cases e4;exact hxy.mpr rfl
theorem Zq3 {H:Hp}{p:Int}{v:V}{x y:Nv}(hx:Isn p x)(hy:Isn p y)(h:NumV H p v x)(h':NumV H p v y):x=y:=by
 by_cases hp:p=0
 .refine Zae (h.ref hp) λt e94 ht=>?_;obtain rfl:=e94;refine Zae (h'.ref hp) λt' e ht'=>?_;cases e;rw[ht] at ht';simp only[Option.some.injEq,HO.tup.injEq,List.cons.injEq,V.int.injEq,and_true] at ht';exact Jd7 ht'.1 ht'.2
 .obtain rfl:=h.int hp;have e:=h'.int hp;have e1:x.1=y.1:=by simpa using e
  rcases hx with ⟨h,_⟩|⟨_,_,_,h1⟩
  .exact absurd h hp
  .rcases hy with ⟨h,_⟩|⟨_,_,_,h2⟩
   .exact absurd h hp
   .exact Jd7 e1 (h1.trans h2.symm)
theorem num_eqB {H:Hp}{n:Nat}{p:Int}{v u:V}{x y:Nv}(hx:Isn p x)(hy:Isn p y)(h:NumV H p v x)(h':NumV H p u y):∃ b,EqD K H (n+1) v u b/\(b=true ↔ x=y):=by
 by_cases hp:p=0
 .refine Zae (h.ref hp) λt e95 ht=>?_;obtain rfl:=e95;refine Zae (h'.ref hp) λt' e96 ht'=>?_;obtain rfl:=e96;by_cases e:t=t'
  .subst e;exact⟨true,.same,λ_=>Zq3 hx hy h h',λ_=>rfl⟩
  .refine ⟨[decide (x.1=y.1),decide (x.2=y.2)].all id,.tuple e (SqT.of ht) (SqT.of ht') rfl rfl λj a b c f1 f2 f3=>?_,?_⟩
   .match j,f1,f2,f3 with
    | 0,f1,f2,f3=>cases f1;cases f2;cases f3;exact Zm6
    | 1,f1,f2,f3=>cases f1;cases f2;cases f3;exact Zm6
    | j+2,f1,_,_=>cases f1
   .simp only [Jdg,List.all_nil,id,Jdv,Jcb,Jcu];exact⟨λz=>Jd7 z.1 z.2,λz=>by rw[z];exact⟨rfl,rfl⟩⟩
 .have e1:=h.int hp;have e2:=h'.int hp;subst e1;subst e2;refine⟨decide (x.1=y.1),Zm6,?_⟩;rw[Jcu];refine⟨λz=>?_,λz=>by rw[z]⟩;rcases hx with ⟨h,_⟩|⟨_,_,_,h1⟩
  .exact absurd h hp
  .rcases hy with ⟨h,_⟩|⟨_,_,_,h2⟩
   .exact absurd h hp
   .exact Jd7 z (h1.trans h2.symm)
theorem Zvk {H:Hp}{p:Int}{a:Addr}{xs ys:List Nv}(hx:∀ x∈xs,Isn p x)(hy:∀ y∈ys,Isn p y)(h:RowV H p a xs)(h':RowV H p a ys):xs=ys:=by
 refine Zae h λvs h1 h2=>?_;clear h;refine Zae h' λus h3 h4=>?_;clear h';rw[h1] at h3;cases h3;have l1:=h2.1;have l2:=h4.1;refine Jcm λi=>?_;by_cases hi:i<vs.length
 .have e1:=Jaa hi;have e3:=Jaa (show i<xs.length by omega);have e4:=Jaa (show i<ys.length by omega);rw[e3,e4,Zq3 (hx _ (Jae e3)) (hy _ (Jae e4)) (h2.2 i _ _ e1 e3) (h4.2 i _ _ e1 e4)]
 .rw [Jak ∅,Jak ∅]
theorem Zqb {H:Hp}{n:Nat}{p:Int}{a c:Addr}{xs ys:List Nv}(hl:xs.length=ys.length)(hx:∀ x∈xs,Isn p x)(hy:∀ y∈ys,Isn p y)(h:RowV H p a xs)(h':RowV H p c ys):∃ b,EqD K H (n+2) (.ref a) (.ref c) b/\(b=true ↔ xs=ys):=by
 refine Zae h λvs h1 h2=>?_;clear h;refine Zae h' λus h3 h4=>?_;clear h';exact Zkx hl h1 h3 h2 h4 (λv x y m1 m2=>Zq3 (hx x m1) (hy y m2)) (λv u x y m1 m2=>num_eqB (hx x m1) (hy y m2))
theorem tab_eqB {H:Hp}{p:Int}{n wd:Nat}{t r t' r':Addr}{rs rs':List Addr}{M N:Mv}(mM:Mat p n wd M)(mN:Mat p n wd N)(h:TabV H p n wd t r rs M)(h':TabV H p n wd t' r' rs' N):∃ bs,Zek K H 6 [.int n,.int wd,.ref r] [.int n,.int wd,.ref r'] bs/\(bs.all id=true ↔ M=N):=by
 obtain⟨b,hb,e⟩:=Zkx (K:=K) (H:=H) (n:=5) (R:=λv x=>∃ a,v=.ref a/\RowV H p a x) (mM.hl.trans mN.hl.symm) h.lst h'.lst (Zbr h.row) (Zbr h'.row)
  (λv x y m1 m2 ⟨a,ea,ha⟩ ⟨c,ec,hc⟩=>by subst ea;cases ec;exact Zvk (mM.is x m1) (mN.is y m2) ha hc)
  (λv u x y m1 m2 ⟨a,ea,ha⟩ ⟨c,ec,hc⟩=>by subst ea;subst ec;exact Zqb (n:=3) ((mM.hw x m1).trans (mN.hw y m2).symm) (mM.is x m1) (mN.is y m2) ha hc)
 refine⟨[true,true,b],⟨rfl,rfl,λj x y c f1 f2 f3=>?_⟩,?_⟩
 .match j,f1,f2,f3 with
  | 0,f1,f2,f3=>cases f1;cases f2;cases f3;exact Zfo
  | 1,f1,f2,f3=>cases f1;cases f2;cases f3;exact Zfo
  | 2,f1,f2,f3=>cases f1;cases f2;cases f3;exact hb
  | j+3,f1,_,_=>cases f1
 .rw [<- e];simp
end
end Pf
namespace Pf
open PySem L2 L3 PyProof.Rows
theorem Zcs {p:Int}(hp:GroundP p)(n:Nat):Mat p n n (Zbo n):=by
 obtain⟨i0,i1⟩:=Zly hp;refine⟨by rw[Jab,Jal],λxs hx=>?_,λxs hx x hxx=>?_⟩
 .refine Zae (Jaz.mp hx) λi _ e91=>?_;obtain rfl:=e91;rw[Jav,Ja8]
 .refine Zae (Jaz.mp hx) λi _ e92=>?_;obtain rfl:=e92;rcases Jar hxx with h|h
  .rw [List.eq_of_mem_replicate h];exact i0
  .rw [h];exact i1
section
variable {p:Int}{k n:Nat}{M S R:Mv}{pl:List Nat}
end
end Pf
namespace Pf
open PySem L2 L3 PyProof.Rows
section
variable {C PL:Addr}
theorem TabB.tab {H:Hp}{p:Int}{k n wd:Nat}{t r:Addr}{rs:List Addr}{M:Mv}(h:TabB H p k n wd t r rs M)(hk:k<=1000000):Tab H p n wd t r rs:=by
 have hl:=h.tv.row.1;have h2:=h.hl;refine⟨h.tv.tup,h.tv.lst,∅,λa ha=>?_,h.tv.nin⟩;obtain⟨i,hi,rfl⟩:=Ja1.mp ha;refine Zae (h.tv.row.at' (Jaa hi)) λxs ex e93=>?_;obtain⟨vs,hv,al⟩:=e93;have hx:=Jae ex;refine⟨vs,hv,by rw[al.1,h.hw xs hx],λv hvm=>?_⟩;obtain⟨j,hj,rfl⟩:=Ja1.mp hvm;refine Zae (al.at' (Jaa hj)) λx e2 nv=>?_;refine Za2 (h.gd xs hx x (Jae e2)) λi1 b1 b2=>?_;exact⟨x,nv,i1,Zng b1 hk,Zng b2 hk⟩
def ChL (H:Hp)(p:Int)(k:Nat)(l:Addr)(ts:List Addr)(ns:List Int)(Cs:List Mv):Prop:=H l=some (.lst (ts.map V.ref))/\ts.length=ns.length/\∀ (i:Nat) t n,ts[i]?=some t->ns[i]?=some n->∃ r rs,TabB H p k n.toNat n.toNat t r rs (Cs.getD i [])
theorem ChL.same {H H':Hp}{p:Int}{k:Nat}{l:Addr}{ts:List Addr}{ns:List Int}{Cs:List Mv}(h:ChL H p k l ts ns Cs)(s:Same H H'):ChL H' p k l ts ns Cs:=⟨s _ _ h.1,h.2.1,λi t n e1 e2=>let ⟨r,rs,tb⟩:=h.2.2 i t n e1 e2;⟨r,rs,tb.same s⟩⟩
structure StA (S C G:Addr)(H:Hp)(x:Addr)(p m:Int)(ns:List Int)(dx g d z l lp:Addr)(xs:List V):Prop where
 ins:H x=some (.ins S dx (Zin g d z l))
 grd:GAt G H g p
 drw:Zg1 C H d m lp xs
 szs:Sizes H z ns
 hm:(ns.length:Int)=m
theorem StA.same {S G:Addr}{H H':Hp}{x:Addr}{p m:Int}{ns:List Int}{dx g d z l lp:Addr}{xs:List V}(h:StA S C G H x p m ns dx g d z l lp xs)(s:Same H H'):StA S C G H' x p m ns dx g d z l lp xs:=
 ⟨s _ _ h.ins,h.grd.same s,(let ⟨a,b,c⟩:=h.drw;⟨a,s _ _ b,s _ _ c⟩),h.szs.same s,h.hm⟩
def spAc (S C G:Addr):L2.Sp:=λvs H Q _=>∃ (x c dx g d z l lp:Addr) (p m:Int) (k:Nat) (xs:List V) (ns:List Int) (ts:List Addr) (Cs:List Mv),vs=[.ref x,.ref c]/\StA S C G H x p m ns dx g d z l lp xs/\GroundP p/\ChL H p k c ts ns Cs/\k<=1000000/\∀ H',Same H H'->Q (.bl true) H'
theorem ok_ac (F:Fun K "are_changes" "are_changes" Zee f fd)(T:Txt K mg C G S)(Yau:Cal P w K mg base "is_table_of" 9 (spTo G)):FnOk P w K mg base CX0 10 f fd ["standing","thing"] (spAc S C G):=by
 have nd:=Zfy.nd;refine F.ok Zfy (λvs H Q E h=>?_) (λcdv A outer s H vs Q E hr h=>?_)
 .refine Zni h λx c dx g d z l lp p m k xs ns ts Cs e94 _=>?_;clear h;obtain rfl:=e94;rfl
 .refine Zva h λx c dx g d z l lp p m k xs ns ts Cs e95 st hp e96=>?_;clear h;obtain rfl:=e95;refine Za2 e96 λhc hk q=>?_;clear e96;refine⟨_,((@Za6 _ _ _ _ _ _ _ _ (PW.pt (Zdf (Zbj (Zbs (Za9 Za5 rfl T.n_isinstance Jbg ((pvr 1)<&>((Zgf rfl T.n_list Jcl)<&>Zaa))))) (Zcf (Zam Zeu (Za9 Zau rfl T.n_len Jbd ((pvr 1)<&>Zaa)) (Zd1 (Zbl (pvr 0) rfl) rfl) (Zak _))))) (~~~Zc5) Zal)<*>(~~~(Za9 (Zcv rfl) rfl T.n_all Jdw ((Za3 (own:=["size","table"]) (fr:=[("standing",0)]) rfl (Zbn (by kernel_rfl)) (Zh2 rfl T.n_zip ((Zd1 (pv 0) rfl)<&>((pv 1)<&>Zaa))) (λ_ _ _ _=>⟨(@Zcq _ K rfl _ _ _ _ 2 rfl ((0<<<["size","table","standing"])^^^((1<<<["size","table","standing"])^^^(@Za0 _))) ⇑1 ⇑1),Zay,(Yau<$>hr<$>((pe_fldK K rfl (pv 2) rfl)<&>((pv 0)<&>((pv 0)<&>((pv 1)<&>Zaa)))))⟩))<&>Zaa)))),?_⟩;walk_at "wp";refine Zae st.drw λdd hd hlp=>?_;have hm:=st.hm;have hcl:=hc.2.1;refine Zaq _ _ ⟨⟨rfl,rfl⟩,_,rfl,_,.lst hc.1,true,Zdi K,Zgg ⇑0 ⟨_,.inl (SqL.of hc.1),S,dx,_,st.ins,T.cl_Standing,T.nSd,_,Zdy ..,d,rfl,C,dd,_,hd,T.cl_Drawing,T.nM,_,Zgv m lp,rfl,Zgg ?_ ?_⟩⟩
  .rw [Jah (by rw[Jab];congr 1;exact oz18 hm hcl)];decide
  .refine ⟨_,rfl,x,S,dx,_,_,rfl,st.ins,T.cl_Standing,T.nSs,Zif ..,_,rfl,z,c,rfl,⟨_,SqL.of st.szs.1⟩,⟨_,SqL.of hc.1⟩,λD hD=>?_⟩;refine Zii (k:=2) (xs:=ns.map V.int) (ys:=ts.map V.ref) (λi vs H'=>Same H H'/\H' D=some (.lst vs)/\vs=((List.range i).map λ_=>true).map V.bl) (by rw[Jab,Jab];exact oz19 hcl) ⟨Same.new hD,Zab,rfl⟩ (λi vs H' _ pv=>⟨SqL.of (pv.1 _ _ st.szs.1),SqL.of (pv.1 _ _ hc.1)⟩) ?_ ?_
   .intro i v y pz vs σ' H' hi hx hy hpz sh e91;refine Za2 e91 λs' e' e97=>?_;clear e91;obtain rfl:=e97;refine Zex sh.two λz1 z2 e98=>?_;obtain rfl:=e98;rw[Jab] at hi;refine Zae (Zkw hx) λn hn e99=>?_;obtain rfl:=e99;have hti:ts[i]?=some (ts[i]'(oz8 hcl hi)):=Jaa (oz8 hcl hi);rw[Jad,hti] at hy;cases hy;refine Zex (hc.2.2 i _ n hti hn) λr rs tb=>?_;have n0:=st.szs.2.2 n (Jae hn);have n8:=st.szs.2.1;have tb1:=tb.tab hk;rw[Jbf n0.1] at tb1;have s0:=s'.trans (Same.new (o:=.tup [V.int n,V.ref (ts[i]'(oz8 hcl hi))]) hpz);have st0:=st.same s0;refine Zaq pz _ ⟨rfl,SqT.of Zab,rfl,_,_,rfl,_,_,rfl,rfl,?_⟩;simp only[Zew,List.set_cons_zero,List.set_cons_succ,Jca];refine⟨_,rfl,x,S,dx,_,_,rfl,st0.ins,T.cl_Standing,T.nSg,Ze0 ..,_,rfl,_,rfl,_,rfl,g,_,r,p,n,n,rs,rfl,st0.grd,hp,tb1.same s0,n0.1,n0.2,n0.1,n0.2,λH'' s''=>?_⟩;have s1:=(Same.new (o:=.tup [V.int n,V.ref (ts[i]'(oz8 hcl hi))]) hpz).trans s'';exact Zky (ws:=((List.range (i+1)).map λ_=>true).map V.bl) (by rw[Jab];exact hi) Sh.mk2 (s1 _ _ e') (Zas (by rw[Jab,Jab,Jal];exact oz112 hi n8)) ⟨(s'.trans s1).upd hD,by rw[Zab,Jce,Jbb,Jbb];rfl,rfl⟩
   .intro vs H' e92;refine Za2 e92 λs' e' e910=>?_;clear e92;obtain rfl:=e910;exact⟨D,rfl,_,SqL.of e',by rw[Zfp];exact q H' s'⟩
end
end Pf
namespace Pf
open PySem L2 PyProof.Rows
section
variable {C G S:Addr}
theorem for_zip {a b:Addr}{xs ys:List V}{g:TG}{tb:TS}{Dn:Ends}{σ:L2.St}{H:Hp}(Pv:Nat->L2.St->Hp->Prop)(hlen:ys.length=xs.length)(h0:Pv 0 σ H)(hl:∀ i σ H,i<=xs.length->Pv i σ H->SqL K H a xs/\SqL K H b ys)(hs:∀ (i:Nat) x y p σ H,xs[i]?=some x->ys[i]?=some y->H p=none->Pv i σ H->g (.ref p) σ (upd H p (.tup [x,y])) λσ2 H2=>tb { Dn with nx:=Pv (i+1),ct:=Pv (i+1),bk:=Dn.nx } σ2 H2)(hd:∀ σ H,Pv xs.length σ H->Dn.nx σ H):
  ∃ W:Nat->Nat->L2.St->Hp->Prop,(∃ m,W 0 m σ H)/\∀ i m σ H,W i m σ H->
   ((Itz K a b).stop i H/\Dn.nx σ H)\/((Itz K a b).go i H/\∃ N:L2.St->Hp->Prop,(∀ σ' H',N σ' H'->∃ m',m'<m/\W (i+1) m' σ' H')/\∀ x H',(Itz K a b).yld i H x H'->g x σ H' λσ2 H2=>tb { Dn with nx:=N,ct:=N,bk:=Dn.nx } σ2 H2):=by
 refine⟨λi m σ H=>m=xs.length-i/\i<=xs.length/\Pv i σ H,⟨xs.length,by simp,Jb5 _,h0⟩,?_⟩;intro i m σ H e91;refine Za2 e91 λe92 hi p=>?_;clear e91;obtain rfl:=e92;obtain⟨q1,q2⟩:=hl i σ H hi p;by_cases hlt:i<xs.length
 .refine .inr ⟨⟨xs,ys,xs[i],ys[i]'(oz8 hlen hlt),q1,q2,by simp[hlt],by simp[hlen,hlt]⟩,Pv (i+1),λσ' H' p'=>⟨xs.length-(i+1),oz43 hlt,rfl,hlt,p'⟩,λx H' y=>?_⟩;refine Zb9 y λu v pp e93 hp e94 e95=>?_;clear y;obtain rfl:=e93;obtain rfl:=e94;obtain⟨e1,e2⟩:=e95;exact hs i u v pp σ _ (e1 xs q1) (e2 ys q2) hp p
 .have e:i=xs.length:=by exact oz91 hi hlt
  subst e;exact .inl ⟨⟨xs,ys,q1,q2,.inl (Jag _)⟩,hd σ H p⟩
end
end Pf
namespace Pf
open PySem L2 L3 PyProof.Rows
section
variable {C PL:Addr}
abbrev Tc:=Int×Int×List (List V)
def nz (ns:List Int)(i:Int):Nat:=(ns.getD i.toNat 0).toNat
theorem Zoy {H:Hp}{z:Addr}{ns:List Int}(h:Sizes H z ns)(i:Int):nz ns i<=24/\((nz ns i:Nat):Int)=ns.getD i.toNat 0:=by
 unfold nz;by_cases q:i.toNat<ns.length
 .have:=h.2.2 _ (Zaz (d:=0) q);exact oz111 this
 .rw [Jac,Jak (oz116 q)];exact⟨⇑0,rfl⟩
def TbL (H:Hp)(p:Int)(k:Nat)(l:Addr)(ts:List Addr)(ps:List (Int×Int))(ns:List Int)(Ms:List Mv):Prop:=H l=some (.lst (ts.map V.ref))/\ts.length=ps.length/\∀ (i:Nat) t q,ts[i]?=some t->ps[i]?=some q->∃ r rs,TabB H p k (nz ns q.2) (nz ns q.1) t r rs (Ms.getD i [])
theorem TbL.same {H H':Hp}{p:Int}{k:Nat}{l:Addr}{ts:List Addr}{ps:List (Int×Int)}{ns:List Int}{Ms:List Mv}(h:TbL H p k l ts ps ns Ms)(s:Same H H'):TbL H' p k l ts ps ns Ms:=⟨s _ _ h.1,h.2.1,λi t n e1 e2=>let ⟨r,rs,tb⟩:=h.2.2 i t n e1 e2;⟨r,rs,tb.same s⟩⟩
structure StB (H0:Hp)(S C G:Addr)(H:Hp)(x:Addr)(p m:Int)(ps:List (Int×Int))(ns:List Int)(k:Nat)(Ms:List Mv)(dx g d z l lp:Addr)(xs:List V)(ts:List Addr):Prop where
 sa:StA S C G H x p m ns dx g d z l lp xs
 prs:Prs H xs ps
 lst:H l=some (.lst (ts.map V.ref))
 len:ts.length=ps.length
 tbs:∀ (i:Nat) t q,ts[i]?=some t->ps[i]?=some q->∃ r rs,TabB H p k (nz ns q.2) (nz ns q.1) t r rs (Ms.getD i [])/\New H0 t r rs
 nz:H0 z=none
 nl:H0 l=none
theorem StB.same {H0:Hp}{S G:Addr}{H H':Hp}{x:Addr}{p m:Int}{ps:List (Int×Int)}{ns:List Int}{k:Nat}{Ms:List Mv}{dx g d z l lp:Addr}{xs:List V}{ts:List Addr}(h:StB H0 S C G H x p m ps ns k Ms dx g d z l lp xs ts)(s:Same H H'):StB H0 S C G H' x p m ps ns k Ms dx g d z l lp xs ts:=
 ⟨h.sa.same s,h.prs.same s,s _ _ h.lst,h.len,λi t q e1 e2=>let ⟨r,rs,tb,nw⟩:=h.tbs i t q e1 e2;⟨r,rs,tb.same s,nw⟩,h.nz,h.nl⟩
theorem tabB_of {H H':Hp}{p:Int}{k n wd:Nat}{t r t' r':Addr}{rs rs':List Addr}{M:Mv}{MV:List (List V)}(tb:TabB H p k n wd t r rs M)(tc:TabC H p n wd t r rs MV)(s:Same H H')(tc':TabC H' p n wd t' r' rs' MV):TabB H' p k n wd t' r' rs' M:=by
 have l1:=tc.tab.len;have l2:=tc'.tab.len;have l3:=tb.tv.row.1;refine⟨⟨tc'.tab.tup,tc'.tab.lst,⟨∅,λi a xs e1 e2=>?_⟩,tc'.tab.nin⟩,tb.hl,tb.hw,tb.gd⟩;have hi:=(Jaf.mp e2).1;refine Zae (tb.tv.row.at (i:=i) e2) λb eb e91=>?_;obtain⟨vs,hv,al⟩:=e91;have h1:=tc.con i b eb;rw[hv] at h1;have e3:vs=MV.getD i []:=by cases h1;rfl
 refine⟨MV.getD i [],tc'.con i a e1,?_⟩;rw[<- e3];exact al.mono λ_ _ q=>q.same s
theorem stdv_of {S G:Addr}{H:Hp}{x dx g d z l lp:Addr}{p m:Int}{k:Nat}{xs:List V}{ps:List (Int×Int)}{ns:List Int}{ts:List Addr}{Ms:List Mv}{Q:VK}{E:XK}(hx:H x=none)(hdx:H dx=none)(ndx:dx≠x)(hg:GAt G H g p)(hp:GroundP p)(hd:Zg1 C H d m lp xs)(pr:Prs H xs ps)(ip:InP m ps)(p9:ps.length<=9)(hz:Sizes H z ns)(hm:(ns.length:Int)=m)(hT:TbL H p k l ts ps ns Ms)(hk:k<=1000000)(q:∀ (dx z' l':Addr) (ts':List Addr) (H':Hp),Same H H'->StB H S C G H' x p m ps ns k Ms dx g d z' l' lp xs ts'->Q .non H'):spSI S C G [.ref x,.ref g,.ref d,.ref z,.ref l] (upd (upd H dx (.own x)) x (.ins S dx [])) Q E:=by
 have fx:(upd H dx (.own x)) x=none:=by rw[Zaj ndx.symm];exact hx
 have sx:Same H (upd (upd H dx (.own x)) x (.ins S dx [])):=(Same.new hdx).trans (Same.new fx);refine Zae hd λdd hd1 hd2=>?_;clear hd;have hl:=hT.2.1;obtain⟨cs,hcs⟩:=All2.pick (xs:=List.range ps.length) (P:=λi (c:Tc)=>∃ (t r:Addr) (rs:List Addr) (qq:Int×Int),ts[i]?=some t/\ps[i]?=some qq/\TabB H p k (nz ns qq.2) (nz ns qq.1) t r rs (Ms.getD i [])/\c.1=(nz ns qq.2:Nat)/\c.2.1=(nz ns qq.1:Nat)/\TabC H p c.1 c.2.1 t r rs c.2.2) λi hi=>by
  have hi:=Ja0.mp hi;have e1:ts[i]?=some (ts[i]'(oz8 hl hi)):=Jaa _;have e2:ps[i]?=some ps[i]:=Jaa hi;refine Zex (hT.2.2 i _ _ e1 e2) λr rs tb=>?_;obtain⟨MV,tc⟩:=(tb.tab hk).toC;exact Zg3 (_,_,MV) _ r rs _ ⟨e1,e2,tb,rfl,rfl,tc⟩
 have cl:cs.length=ps.length:=by have:=hcs.1;rw[Jal] at this;exact oz96 this
 have at1:∀ (i:Nat) c,cs[i]?=some c->∃ (t r:Addr) (rs:List Addr) (qq:Int×Int),ts[i]?=some t/\ps[i]?=some qq/\TabB H p k (nz ns qq.2) (nz ns qq.1) t r rs (Ms.getD i [])/\c.1=(nz ns qq.2:Nat)/\c.2.1=(nz ns qq.1:Nat)/\TabC H p c.1 c.2.1 t r rs c.2.2:=λi c e=>by
  refine Zae (hcs.at (i:=i) e) λj ej h=>?_;have hi:=(Jaf.mp e).1;rw[Jas (Zc0 cl hi)] at ej;cases ej;exact h
 have tbs:Tbs H p l ts cs:=by
  refine⟨hT.1,∅,∅,λi t c e1 e2=>?_⟩;refine Zb8 (at1 i c e2) λt' r rs qq f1 f2 tb e92=>?_;refine Za2 e92 λc1 c2 tc=>?_;clear e92;rw[e1] at f1;cases f1;have n1:=Zoy hz qq.1;have n2:=Zoy hz qq.2;exact⟨⟨r,rs,tc⟩,oz88 c1,oz101 c1 n2,oz88 c2,oz101 c2 n1⟩
 have ft:Fits ns cs ps:=⟨cl,λi c qq e1 e2=>by
  refine Zb8 (at1 i c e1) λt' r rs q' f1 f2 tb e93=>?_;refine Za2 e93 λc1 c2 tc=>?_;clear e93;rw[e2] at f2;cases f2;rw[c1,c2,(Zoy hz qq.1).2,(Zoy hz qq.2).2];exact⟨rfl,rfl⟩⟩
 refine Zjs x dx g d z l lp p m xs ps ns ts cs ⟨rfl,Zab,hg.same sx,hp,⟨dd,sx _ _ hd1,sx _ _ hd2⟩,pr.same sx,ip,p9,hz.same sx,hm,tbs.same sx,ft,λz' l' ts' H' ex hx' fz fl' hz' hl' hn' ht'=>?_⟩;have sH:Same H H':=Same.thru sx hx ex;refine q dx z' l' ts' H' sH ⟨⟨hx',hg.same sH,⟨dd,sH _ _ hd1,sH _ _ hd2⟩,hz',hm⟩,pr.same sH,hl',∅,λi t qq e1 e2=>?_,sx.free fz,sx.free fl'⟩;have hi:=(Jaf.mp e1).1;have ec:cs[i]?=some (cs[i]'(by omega)):=Jaa _;refine Zb8 (at1 i _ ec) λt' r rs q' f1 f2 tb e94=>?_;refine Za2 e94 λc1 c2 tc=>?_;clear e94;rw[e2] at f2;cases f2;refine Zet (ht' i t _ e1 ec) λr' rs' tc' ft' fr' fs'=>?_;rw[c1,c2] at tc tc';exact Zaq r' rs' ⟨tabB_of tb tc sH tc',sx.free ft',sx.free fr',λa ha=>sx.free (fs' a ha)⟩
theorem TabB.le {H:Hp}{p:Int}{k k' n wd:Nat}{t r:Addr}{rs:List Addr}{M:Mv}(h:TabB H p k n wd t r rs M)(hk:k<=k'):TabB H p k' n wd t r rs M:=⟨h.tv,h.hl,h.hw,λxs hx x hxx=>let ⟨a,b,c⟩:=h.gd xs hx x hxx;⟨a,b.le hk,c.le hk⟩⟩
theorem TabB.put {H:Hp}{D:Addr}{l:List V}{o:HO}{p:Int}{k n wd:Nat}{t r:Addr}{rs:List Addr}{M:Mv}(h:TabB H p k n wd t r rs M)(hD:H D=some (.lst l))(nr:r≠D)(ns:D∉rs):TabB (upd H D o) p k n wd t r rs M:=⟨h.tv.put hD nr ns,h.hl,h.hw,h.gd⟩
theorem cutF {wi:TI}{g:TG}{tb:TS}{D:Ends}{σ:L2.St}{H:Hp}(h:∀ tb',tb'=tb->tFor wi g tb' D σ H):tFor wi g tb D σ H:=h tb rfl
def chM (p:Int)(ns:List Int)(ps:List (Int×Int))(Bs Ms Cs:List Mv)(i:Nat):Mv:=Zbg p (Bs.getD (ps.getD i (0,0)).2.toNat []) (Zbg p (Ms.getD i []) (Cs.getD (ps.getD i (0,0)).1.toNat []) (nz ns (ps.getD i (0,0)).1)) (nz ns (ps.getD i (0,0)).1)
end
end Pf
namespace Pf
open PySem L2 PyProof.Rows
section
variable {C G S:Addr}
theorem Zrr {H:Hp}{n:Nat}(i j:Int):EqD K H n (.int i) (.int j) (decide (i=j)):=by
 have:=EqD.flat (K:=K) (H:=H) (n:=n) (x:=.int i) (y:=.int j) rfl rfl;rwa [show eqV (.int i) (.int j)=decide (i=j) by simp only[eqV];rw[Jb1];simp] at this
theorem Ztm {H:Hp}{n:Nat}{t u:Addr}{q r:Int×Int}(ht:H t=some (.tup [.int q.1,.int q.2]))(hu:H u=some (.tup [.int r.1,.int r.2])):EqD K H (n+1) (.ref t) (.ref u) (decide (q=r)):=by
 by_cases h:t=u
 .subst h;rw[ht] at hu;have:q=r:=by
   injection hu with hu
   injection hu with hu
   injection hu with a b
   injection b with b c
   injection a with a
   injection b with b
   exact Jd7 a b
  rw[Jah this];exact .same
 .have:=EqD.tuple (n:=n) (bs:=[decide (q.1=r.1),decide (q.2=r.2)]) h (SqT.of (K:=K) ht) (SqT.of hu) rfl rfl λj x y b e1 e2 e3=>by
   match j,e1,e2,e3 with
   | 0,e1,e2,e3=>cases e1;cases e2;cases e3;exact Zrr _ _
   | 1,e1,e2,e3=>cases e1;cases e2;cases e3;exact Zrr _ _
   | j+2,e1,_,_=>cases e1
  have e:[decide (q.1=r.1),decide (q.2=r.2)].all id=decide (q=r):=by
   simp only[Jdg,List.all_nil,id,Jdv];rw[<- Bool.decide_and];exact Jc6.mpr ⟨λ⟨a,b⟩=>Jd7 a b,λh=>h ▸ ⟨rfl,rfl⟩⟩
  rwa [e] at this
theorem Zsl {α:Type}[DecidableEq α]:∀ {xs ys:List α},xs.length=ys.length->(List.zipWith (λa b=>decide (a=b)) xs ys).all id=decide (xs=ys)
 | [],[],_=>rfl
 | x::xs,y::ys,h=>by
  have ih:=Zsl (xs:=xs) (ys:=ys) (by simpa using h);rw[List.zipWith_cons_cons,Jdg,ih];simp only[id];rw[<- Bool.decide_and];exact Jc6.mpr ⟨λ⟨a,b⟩=>by rw[a,b],λh=>by injection h with a b;exact⟨a,b⟩⟩
 | [],_::_,h=>by simp at h
 | _::_,[],h=>by simp at h
theorem prs_eqB {H:Hp}{xs ys:List V}{ps qs:List (Int×Int)}(h:Prs H xs ps)(h':Prs H ys qs)(hl:ps.length=qs.length):Zek K H 6 xs ys (List.zipWith (λa b=>decide (a=b)) ps qs):=by
 have l1:=h.1;have l2:=h'.1;refine⟨oz103 hl l1 l2,by rw[List.length_zipWith];exact oz58 hl l1,λj x y b e1 e2 e3=>?_⟩;have j1:j<ps.length:=by have:=(Jaf.mp e1).1;exact Zc0 l1 this
 refine Zae (h.2 j x _ e1 (Jaa j1)) λt e91 ht=>?_;obtain rfl:=e91;refine Zae (h'.2 j y _ e2 (Jaa (Zc0 hl j1))) λu e92 hu=>?_;obtain rfl:=e92;rw[List.getElem?_zipWith,Jaa j1,Jaa (show j<qs.length by exact Zc0 hl j1)] at e3;cases e3;exact Ztm ht hu
def spOn (S C G:Addr):Sp:=λvs H Q _=>∃ (x dx g d z l g' d' lp lp':Addr) (p p' m m':Int) (xs ys:List V) (ps qs:List (Int×Int)),vs=[.ref x,.ref g',.ref d']/\H x=some (.ins S dx (Zin g d z l))/\GAt G H g p/\GAt G H g' p'/\Zg1 C H d m lp xs/\Zg1 C H d' m' lp' ys/\Prs H xs ps/\Prs H ys qs/\Q (.bl (decide (p=p'/\m=m'/\ps=qs))) H
theorem ok_on (F:Fun K "stands_on" "stands_on" Zf6 f fd)(T:Txt K mg C G S):FnOk P w K mg base CX0 1 f fd ["standing","ground","drawing"] (spOn S C G):=by
 have nd:=Zhq.nd;refine F.ok Zhq (λvs H Q E h=>?_) (λcdv A outer s H vs Q E hr h=>?_)
 .refine xE18_2 h λx dx g d z l g' d' lp lp' p p' m m' xs ys ps qs e93 _=>?_;clear h;obtain rfl:=e93;rfl
 .refine xE18_4 h λx dx g d z l g' d' lp lp' p p' m m' xs ys ps qs e94 hx e95 e96=>?_;clear h;obtain rfl:=e94;obtain⟨dg,hg⟩:=e95;refine Zey e96 λe97 e98 e99 pr pr' q=>?_;clear e96;obtain⟨dg',hg'⟩:=e97;obtain⟨dd,hd,hlp⟩:=e98;obtain⟨dd',hd',hlp'⟩:=e99;refine⟨_,((@Za6 _ _ _ _ _ _ _ _ (PW.pt (Zdf (Zam Zeu (Zd1 (Zbl (pvr 0) rfl) rfl) (Zbl (pvr 1) rfl) (Zak _)) (Zcf (Zam Zeu (Zd1 (Zbl (pvr 0) rfl) rfl) (Zbl (pvr 2) rfl) (Zak _))))) (~~~Zc5) Zal)<*>(~~~(Zcg (Zqv (Zjc hr)) (Zd1 (Zbl (pvr 0) rfl) rfl) (Zbl (pvr 2) rfl) (Zak _)))),?_⟩;walk_at "wp";refine Zcm S dx _ ⟨hx,T.cl_Standing,T.nSg,_,Ze0 ..,g,rfl,G,dg,_,hg,T.cl_Ground,T.nP,_,Zcr p,G,dg',_,hg',T.cl_Ground,T.nP,_,Zcr p',rfl,Zci (λhc=>?_) (λhc=>?_)⟩
  .have:¬ p=p':=by simpa using hc
   rw[Jay (λh=>this h.1)] at q;exact q
  .have e1:p=p':=by simpa using hc
   refine Zcm S dx _ ⟨hx,T.cl_Standing,T.nSd,_,Zdy ..,d,rfl,C,dd,_,hd,T.cl_Drawing,T.nM,_,Zgv m lp,C,dd',_,hd',T.cl_Drawing,T.nM,_,Zgv m' lp',rfl,Zci (λhc=>?_) (λhc=>?_)⟩
   .have:¬ m=m':=by simpa using hc
    rw[Jay (λh=>this h.2.1)] at q;exact q
   .have e2:m=m':=by simpa using hc
    refine Zcm S dx _ ⟨hx,T.cl_Standing,T.nSd,_,Zdy ..,d,rfl,C,dd,_,hd,T.cl_Drawing,T.nA,_,Zdk m lp,C,dd',_,hd',T.cl_Drawing,T.nA,_,Zdk m' lp',?_⟩;by_cases hl:ps.length=qs.length
    .refine ⟨lp,rfl,lp',rfl,_,SqL.of hlp,_,SqL.of hlp',.inr ⟨_,prs_eqB pr pr' hl,?_⟩⟩;rw[Zsl hl];have:decide (p=p'/\m=m'/\ps=qs)=decide (ps=qs):=Jc6.mpr ⟨λh=>h.2.2,λh=>⟨e1,e2,h⟩⟩;rw[this] at q;exact q
    .refine ⟨lp,rfl,lp',rfl,_,SqL.of hlp,_,SqL.of hlp',.inl ⟨by rw[pr.1,pr'.1];exact hl,?_⟩⟩;rw[Jay (λh=>hl (by rw[h.2.2]))] at q;exact q
theorem Zt2 (F:Fun K "_law_drawing" "_law_drawing" Zeb f fd)(T:Txt K mg C G S)(Yaa:Cal P w K mg base "_law_draw" 1 Zc8):FnOk P w K mg base CX0 2 f fd ["_law_bag_here"] (spOut way0):=by
 have nd:=Zfv.nd;refine F.ok Zfv (λvs H Q E h=>?_) (λcdv A outer s H vs Q E hr h=>?_)
 .refine Zbt h λl r e95 e96 _=>?_;clear h;obtain rfl:=e95;obtain rfl:=e96;rfl
 .refine Zet h λl r e97 e98 hb q=>?_;clear h;obtain rfl:=e97;obtain rfl:=e98;refine⟨_,((1|||nd|||(Zdg<|>Zac<&&>(Yaa<$>hr<$>((pvr 0)<&>(Zac<&>Zaa)))))<*>((@Za6 _ _ _ _ _ _ _ _ (Zam Zc7 (Yaa<$>hr<$>((pvr 0)<&>(Zac<&>Zaa))) Zac (Zak _)) (@Zan _ _ _ (1|||nd|||Zac)) Zal)<*>((2|||nd|||(Yaa<$>hr<$>((pvr 0)<&>(Zac<&>Zaa))))<*>((Zfd (i:=3) (own:=["_law_k"]) (fr:=[]) rfl (Zbn (by kernel_rfl)) (Zfe rfl T.n_range ((Zff<|>(pv 1)<&&>Zac)<&>Zaa)) (λ_ _ _ _=>⟨(0<<<["_law_k"]),Zay,(@Zaw _ _ _ _ _ ((pv 0)<&>((Zdg<|>(pv 0)<&&>Zac)<&>Zaa)))⟩) nd rfl rfl rfl)<*>((@Za6 _ _ _ _ _ _ _ _ (Zam (Zm0 Zc7) (pvr 2) Zac (Zak _)) ((1|||nd|||Zac)<*>(@Zan _ _ _ (3|||nd|||(@Zbw _ _ _ _ ((@Zaw _ _ _ _ _ (Zac<&>(Zac<&>Zaa)))<&>((@Zaw _ _ _ _ _ (Zac<&>(Zac<&>Zaa)))<&>((@Zaw _ _ _ _ _ (Zac<&>(Zac<&>Zaa)))<&>Zaa))))))) Zal)<*>((@Za6 _ _ _ _ _ _ _ _ (Zam (Zm0 Zc7) (pvr 2) Zac (Zak _)) ((3|||nd|||(@Zbw _ _ _ _ Zaa))<*>(@Zan _ _ _ (Zck Ja5 rfl (Zfe rfl T.n_range ((Yaa<$>hr<$>((pv 0)<&>(Zac<&>Zaa)))<&>Zaa)) (4>>>nd) ((5|||nd|||(Yaa<$>hr<$>((pvr 0)<&>((pvr 1)<&>Zaa))))<*>(@Zan _ _ _ (Zdw (Zks Jbm Jbh Jbi (mtJ Zb5) (pvr 3) ((@Zaw _ _ _ _ _ ((pvr 5)<&>((Yaa<$>hr<$>((pvr 0)<&>((pvr 1)<&>Zaa)))<&>Zaa)))<&>Zaa)))))))) Zal)<*>((6|||nd|||(@Zbw _ _ _ _ Zaa))<*>((Zck Ja5 rfl (Zbc (pv 3)) (@Zbv _ _ _ _ _ 2 rfl ((5>>>nd)^^^((7>>>nd)^^^(@Za0 _))) ⇑1 ⇑1) ((8|||nd|||(Yaa<$>hr<$>((pvr 0)<&>(Zac<&>Zaa))))<*>(@Zan _ _ _ (Zdw (Zks Jbm Jbh Jbi (mtJ Zb5) (pvr 6) ((Zar<|>(@Zbw _ _ _ _ ((@Zaw _ _ _ _ _ ((pvr 5)<&>((pvr 7)<&>Zaa)))<&>((@Zaw _ _ _ _ _ ((pvr 7)<&>((pvr 5)<&>Zaa)))<&>Zaa)))<||>(pvr 8))<&>Zaa))))))<*>(~~~(@Zaw _ _ _ _ _ ((pvr 1)<&>((pvr 6)<&>Zaa)))))))))))),?_⟩;refine Zd4 λX hX=>?_;walk_at "wp";refine hb.draw ⇑0 ⇑0 λr H1 r0 r1 e1 b1=>⟨r,rfl,?_⟩
  subst hX;refine Zd4 λX2 hX2=>?_;have aft:∀ (m:Int) H2,1<=m->m<=8->Ext l H H2->Bag H2 l->X2 { nx:=λx H'=>Q V.non H',rt:=Q } [some (.ref l),some (.int m),none,none,none,none,none,none,none] H2:=by
   intro m H2 m1 m8 e2 b2;subst hX2;refine cut2 λX3 hX3=>?_;walk_at "wp";refine b2.draw ⇑0 ⇑0 λw0 H3 w1 w2 e3 b3=>⟨_,rfl,_,_,rfl,rfl,_,rfl,∅,∅,λD hD=>Zo8 (m:=m) (λi=>0+(i:Int)) (λi=>0+(i:Int)+1) hD ∅ (λi H Q _ h=>⟨_,rfl,h⟩) (λi H Q _ h=>⟨_,rfl,_,_,rfl,rfl,h⟩) (λi hi=>⟨Ztq,oz175 hi,∅,oz170 hi⟩) λxs H4 s4 hD4 hl4 d4=>?_⟩
   subst hX3;refine cut2 λX5 hX5=>?_;have aft5:∀ (m:Int) (p:Addr) (xs:List V) (v4 v5:Option V) H5,1<=m->m<=8->Ext l H H5->Bag H5 l->H p=none->H5 p=some (.lst xs)->xs.length<=9->Edges H5 m xs->X5 { nx:=λx H'=>Q V.non H',rt:=Q } [some (.ref l),some (.int m),some (.int w0),some (.ref p),v4,v5,none,none,none] H5:=by
    intro m p xs v4 v5 H5 m1 m8 e5 b5 fp hp hl d;subst hX5;walk_at "wp";refine⟨Jb5 _,λpa hpa=>?_⟩;have npl:p≠l:=hb.ne fp;have nal:pa≠l:=b5.ne hpa;have npa:p≠pa:=Zah hp hpa;have fpa:H pa=none:=e5.free nal hpa;refine⟨_,rfl,p,rfl,⟨_,SqL.of (Same.new hpa _ _ hp)⟩,Zih (xs:=xs) (λi σ H6=>∃ (as:List V) (v5 v7 v8:Option V),σ=[some (.ref l),some (.int m),some (.int w0),some (.ref p),v4,v5,some (.ref pa),v7,v8]/\Ext l H H6/\Bag H6 l/\H6 p=some (.lst xs)/\H6 pa=some (.lst as)/\as.length=i/\Edges H6 m xs/\Edges H6 m as) ⟨[],v5,none,none,rfl,e5.trans (Ext.new hpa),b5.new nal,Same.new hpa _ _ hp,Zab,rfl,d.same (Same.new hpa),Edges.nil⟩ (λi σ H6 _ ⟨_,_,_,_,_,_,_,hp6,_⟩=>SqL.of hp6) ?_ ?_⟩
    .intro i x σ H6 hx e91;refine Zb8 e91 λas u5 u7 u8 e99 e6 b6 e910=>?_;clear e91;obtain rfl:=e99;refine Zc3 e910 λhp6 ha6 hal dx da=>?_;clear e910;have hi:i<xs.length:=(Jaf.mp hx).1;refine Zb9 (dx x (Jae hx)) λtx i1 j1 e911 htx i10 e912=>?_;obtain rfl:=e911;refine Za2 e912 λi11 j10 j11=>?_;clear e912;walk_at "wp";refine⟨_,SqT.of htx,rfl,_,_,rfl,_,_,rfl,rfl,?_⟩;refine b6.draw ⇑0 ⇑0 λr1 H7 r10 r11 e7 b7=>⟨.inl ⟨rfl,_,SqL.of (e7 _ _ nal ha6)⟩,⇑0,λp1 h1=>⟨⇑0,λp2 h2=>⟨⇑0,λp3 h3=>?_⟩⟩⟩
     have S2:=(Same.new (o:=.tup [V.int i1,V.int j1]) h1).trans (Same.new (o:=.tup [V.int j1,V.int i1]) h2);have S3:=S2.trans (Same.new (o:=.lst [V.ref p1,V.ref p2]) h3);have D1:=(Edges.nil (H:=H7) (m:=m)).add (i:=i1) (j:=j1) h1 i10 i11 j10 j11;have D2:=(D1.add (i:=j1) (j:=i1) h2 j10 j11 i10 i11).same (Same.new (o:=.lst [V.ref p1,V.ref p2]) h3);have q3:(upd (upd (upd H7 p1 (.tup [V.int i1,V.int j1])) p2 (.tup [V.int j1,V.int i1])) p3 (.lst [V.ref p1,V.ref p2])) p3=some (.lst [V.ref p1,V.ref p2]):=Zab;generalize upd (upd (upd H7 p1 (.tup [V.int i1,V.int j1])) p2 (.tup [V.int j1,V.int i1])) p3 (.lst [V.ref p1,V.ref p2])=H8 at *;have ha8:=S3 _ _ (e7 _ _ nal ha6);have pick:∃ u,atI [V.ref p1,V.ref p2] r1=some u/\Edge H8 m u:=by
      have:r1=0\/r1=1:=by exact oz97 r10 r11
      rcases this with rfl|rfl
      .exact ⟨_,Zb0 ⇑0 rfl,D2 _ (by simp)⟩
      .exact ⟨_,Zb0 ⇑0 rfl,D2 _ (by simp)⟩
     refine Zae pick λu hu du=>?_;clear pick;refine Zaq _ r1 ⟨rfl,SqL.of q3,u,hu,as,ha8,Zas (oz66 hl hal hi),as++[u],_,_,_,⟨rfl,rfl,rfl⟩,((e6.trans e7).trans S3.ext).upd fpa,(b7.same S3).new nal,by rw[Zaj npa];exact S3 _ _ (e7 _ _ npl hp6),Zab,by rw[Jaj,hal];rfl,((dx.bag e7 b6).same S3).put ha8,(((da.bag e7 b6).same S3).snoc du).put ha8⟩
    .intro σ H6 e92;refine Zb8 e92 λas u5 u7 u8 e913 e6 b6 e914=>?_;clear e92;obtain rfl:=e913;refine Zc3 e914 λhp6 ha6 hal dx da=>?_;clear e914;walk_at "wp";exact⟨⇑0,λt ht=>q _ _ _ _ _ (Out.fin e6 b6 ha6 fpa m1 m8 ∅ da ht)⟩
   refine Zd4 λX4 hX4=>?_;have e4:Ext l H H4:=(e2.trans e3).trans s4.ext;have b4:=b3.same s4;have fD:H D=none:=(e2.trans e3).free (b3.ne hD) hD;have aft4:∀ (m:Int) (p:Addr) (xs:List V) H5,1<=m->m<=8->Ext l H H5->Bag H5 l->H p=none->H5 p=some (.lst xs)->xs.length<=9->Edges H5 m xs->X4 { nx:=λx H'=>Q V.non H',rt:=Q } [some (.ref l),some (.int m),some (.int w0),some (.ref p),none,none,none,none,none] H5:=by
    intro m p xs H5 m1 m8 e5 b5 fp hp hl d;subst hX4;walk_at "wp";refine Zci (λ_=>⟨Jb5 _,λpa hpa=>?_⟩) (λ_=>aft5 m p xs none none H5 m1 m8 e5 b5 fp hp hl d);have nal:pa≠l:=b5.ne hpa;have fpa:H pa=none:=e5.free nal hpa;refine Ztg (b5.new nal) ⇑0 ⇑0 λn H6 n0 n1 e6 b6=>?_;refine Zby (λi σ H7=>∃ (as:List V) (v4 v5:Option V),σ=[some (.ref l),some (.int m),some (.int w0),some (.ref pa),v4,v5,none,none,none]/\Ext l H H7/\Bag H7 l/\H7 pa=some (.lst as)/\as.length<=i/\Edges H7 m as) ⟨[],none,none,rfl,(e5.trans (Ext.new hpa)).trans e6,b6,e6 _ _ nal Zab,Jag _,Edges.nil⟩ ?_ ?_
    .intro i σ H7 hi e93;refine Zb9 e93 λas u4 u5 e915 e7 b7 e916=>?_;clear e93;obtain rfl:=e915;refine Za2 e916 λha7 hal da=>?_;clear e916;walk_at "wp";refine b7.draw (oz137 m1) ∅ λr1 H8 r10 r11 e8 b8=>?_;refine⟨.inl ⟨rfl,_,SqL.of (e8 _ _ nal ha7)⟩,b8.draw (oz137 m1) ∅ λr2 H9 r20 r21 e9 b9=>⟨⇑0,λt ht=>?_⟩⟩;have hx4:H9 pa=some (.lst as):=e9 _ _ nal (e8 _ _ nal ha7);have nt:pa≠t:=Zah hx4 ht;have hx5:(upd H9 t (.tup [.int r1,.int r2])) pa=some (.lst as):=by rw[Zaj nt];exact hx4
     refine⟨_,hx5,Zas (oz106 n1 hi hal),as++[.ref t],_,_,⟨rfl,rfl⟩,(((e7.trans e8).trans e9).trans (Ext.new ht)).upd fpa,(b9.new (b9.ne ht)).new nal,Zab,by rw[Jaj];show _+1<=_;omega,(((da.bag e8 b7).bag e9 b8).add ht r10 r11 r20 r21).put hx5⟩
    .intro σ H7 e94;refine Zb9 e94 λas u4 u5 e917 e7 b7 e918=>?_;clear e94;obtain rfl:=e917;refine Za2 e918 λha7 hal da=>?_;clear e918;exact aft5 m pa as u4 u5 H7 m1 m8 e7 b7 fpa ha7 (oz134 n1 hal) da
   walk_at "wp";refine Zci (λ_=>⟨⇑0,λp1 h1=>⟨⇑0,λp2 h2=>⟨⇑0,λp3 h3=>⟨⇑0,λp4 h4=>?_⟩⟩⟩⟩) (λ_=>aft4 m D xs H4 m1 m8 e4 b4 fD hD4 ∅ d4);have D1:=(Edges.nil (H:=H4) (m:=4)).add (i:=0) (j:=1) h1 ∅ ∅ ∅ ∅;have D2:=D1.add (i:=1) (j:=2) h2 ∅ ∅ ∅ ∅;have D3:=D2.add (i:=3) (j:=1) h3 ∅ ∅ ∅ ∅;have S3:=((Same.new (o:=.tup [V.int 0,V.int 1]) h1).trans (Same.new (o:=.tup [V.int 1,V.int 2]) h2)).trans (Same.new (o:=.tup [V.int 3,V.int 1]) h3);have S4:=S3.trans (Same.new (o:=.lst [.ref p1,.ref p2,.ref p3]) h4);exact aft4 4 p4 [.ref p1,.ref p2,.ref p3] _ ⇑0 ⇑0 (e4.trans S4.ext) (b4.same S4) ((e4.trans S3.ext).free ((b4.same S3).ne h4) h4) Zab (by show 3<=9;decide) (D3.same (Same.new h4))
  walk_at "wp";refine b1.draw ⇑0 ⇑0 λt H2 t0 t1 e2 b2=>⟨rfl,Zci (λ_=>aft 8 H2 ⇑0 ⇑0 (e1.trans e2) b2) (λ_=>aft (1+r) H2 ∅ ∅ (e1.trans e2) b2)⟩
end
end Pf
namespace Pf
open PySem L2 L3 PyProof.Rows
section
variable {C PL:Addr}
def spBsd (S C G:Addr):L2.Sp:=λvs H Q _=>∃ (x dx g d z l lp y dy g' d' z' l' lp':Addr) (p m:Int) (xs ys:List V) (ps:List (Int×Int)) (ns ns':List Int),vs=[.ref x,.ref y]/\StA S C G H x p m ns dx g d z l lp xs/\Prs H xs ps/\StA S C G H y p m ns' dy g' d' z' l' lp' ys/\Prs H ys ps/\∀ H',Same H H'->Q (.bl true) H'
theorem ok_bsd (F:Fun K "is_beside" "is_beside" Zgc f fd)(T:Txt K mg C G S)(Ybt:Cal P w K mg base "stands_on" 1 (spOn S C G)):FnOk P w K mg base CX0 2 f fd ["standing","thing"] (spBsd S C G):=by
 have nd:=Zhw.nd;refine F.ok Zhw (λvs H Q E h=>?_) (λcdv A outer s H vs Q E hr h=>?_)
 .obtain ⟨x,dx,g,d,z,l,lp,y,dy,g',d',z',l',lp',p,m,xs,ys,ps,ns,ns',rfl,_⟩:=h;rfl
 .obtain ⟨x,dx,g,d,z,l,lp,y,dy,g',d',z',l',lp',p,m,xs,ys,ps,ns,ns',rfl,sx,px,sy,py,q⟩:=h;refine⟨_,(~~~(Zf1 (Za9 Za5 rfl T.n_isinstance Jbg ((pvr 1)<&>((Zqo (v:=.ref S) rfl T.g_Standing rfl)<&>Zaa))) (Zf0 (Ybt<$>hr<$>((pvr 1)<&>((Zbl (pvr 0) rfl)<&>((Zbl (pvr 0) rfl)<&>Zaa))))))),?_⟩;walk_at "wp";refine Zaq _ _ ⟨⟨rfl,rfl⟩,_,rfl,_,.ins sy.ins T.cl_Standing T.ic1 T.ic2 T.ic3 T.ic4,_,k_own K S,iteT ?_⟩;refine Zcm S dx _ ⟨sx.ins,T.cl_Standing,T.nSg,_,Ze0 ..,S,dx,_,sx.ins,T.cl_Standing,T.nSd,_,Zdy ..,y,dy,g',d',z',l',g,d,lp',lp,p,p,m,m,ys,xs,ps,ps,rfl,sy.ins,sy.grd,sx.grd,sy.drw,sx.drw,py,px,?_⟩;rw[Jah ⟨rfl,rfl,rfl⟩];exact q H (Same.refl _)
theorem sh3 {cap σ:L2.St}(h:Sh 3 cap σ):∃ a b c,σ=a::b::c::cap:=by
 refine Zae h λo ol e93=>?_;clear h;obtain rfl:=e93
 match o,ol with
 | [a,b,c],_=>exact⟨a,b,c,rfl⟩
theorem sh3m {cap:L2.St}{a b c:Option V}:Sh 3 cap (a::b::c::cap):=⟨[a,b,c],rfl,rfl⟩
theorem Zv2 {bs:List Bool}:bs.all id=true ↔ ∀ (j:Nat) c,bs[j]?=some c->c=true:=by
 rw[Jbe];refine⟨λh j c e=>h c (Jae e),λh c m=>?_⟩;obtain⟨j,hj,rfl⟩:=Ja1.mp m;exact h j _ (Jaa hj)
theorem TabB.mat {H:Hp}{p:Int}{k n wd:Nat}{t r:Addr}{rs:List Addr}{M:Mv}(h:TabB H p k n wd t r rs M):Mat p n wd M:=⟨h.hl,h.hw,λxs hx x hxx=>(h.gd xs hx x hxx).1⟩
theorem nb25 {n k k2:Nat}(hn:n<=24)(hk:k<=100000)(h2:k2<=1500000):(n+1)*k+(n+1)*k2+5<=NB:=Ja4 (Nat.add_le_add_right (Nat.add_le_add (Jb3 (show n+1<=25 by omega) hk) (Jb3 (show n+1<=25 by omega) h2)) 5) ⇑0
theorem Zmg {H:Hp}{p:Int}{k n wd k':Nat}{t r t' r':Addr}{rs rs':List Addr}{M N:Mv}(h:TabB H p k n wd t r rs M)(mN:Mat p n wd N)(h':TabV H p n wd t' r' rs' N):∃ bs,Zek K H 6 [.int n,.int wd,.ref r] [.int n,.int wd,.ref r'] bs/\(bs.all id=true ↔ M=N):=tab_eqB h.mat mN h.tv h'
def Zmc (p:Int)(ns:List Int)(Cs Bs:List Mv):Prop:=∀ (i:Nat) n,ns[i]?=some n->Zbg p (Cs.getD i []) (Bs.getD i []) n.toNat=Zbo n.toNat
def spBks (S C G:Addr):L2.Sp:=λvs H Q _=>∃ (x c b dx g d z l lp:Addr) (p m:Int) (k k2:Nat) (xs:List V) (ns:List Int) (cts bts:List Addr) (Cs Bs:List Mv),vs=[.ref x,.ref c,.ref b]/\StA S C G H x p m ns dx g d z l lp xs/\GroundP p/\ChL H p k c cts ns Cs/\ChL H p k2 b bts ns Bs/\1<=k/\k<=50000/\1<=k2/\k2<=50000/\∀ (t:Bool) H',Same H H'->(t=true ↔ Zmc p ns Cs Bs)->Q (.bl t) H'
theorem ok_bks (F:Fun K "are_backs" "are_backs" Zge f fd)(T:Txt K mg C G S)(Yav:Cal P w K mg base "are_changes" 10 (spAc S C G))(Yao:Cal P w K mg base "product" 8 (Znl G))(Ybe:Cal P w K mg base "plain" 8 (spPl G)):FnOk P w K mg base CX0 11 f fd ["standing","changes","backs"] (spBks S C G):=by
 have nd:=Zhy.nd;refine F.ok Zhy (λvs H Q E h=>?_) (λcdv A outer s H vs Q E hr h=>?_)
 .refine Zu9 h λx c b dx g d z l lp p m k k2 xs ns cts bts Cs Bs e94 _=>?_;clear h;obtain rfl:=e94;rfl
 .refine Zu8 h λx c b dx g d z l lp p m k k2 xs ns cts bts Cs Bs e95 st hp e96=>?_;clear h;obtain rfl:=e95;refine xE0_7 e96 λhc hb k1 km k21 k2m q=>?_;clear e96;refine⟨_,((@Za6 _ _ _ _ _ _ _ _ (PW.pt (Zdf (Zbj (Zbs (Yav<$>hr<$>((pvr 0)<&>((pvr 1)<&>Zaa))))) (Zcf (Zbj (Zbs (Yav<$>hr<$>((pvr 0)<&>((pvr 2)<&>Zaa)))))))) (~~~Zc5) Zal)<*>((Zap (i:=3) nd rfl (Or.inr rfl) (Zbl (pvr 0) rfl))<*>(~~~(Za9 (Zcv rfl) rfl T.n_all Jdw ((Za3 (own:=["change","back","size"]) (fr:=[("ground",3)]) rfl (Zbn (by kernel_rfl)) (pi_z3 rfl T.n_zip ((pv 1)<&>((pv 2)<&>((Zd1 (pv 0) rfl)<&>Zaa)))) (λ_ _ _ _=>⟨(@Zcq _ K rfl _ _ _ _ 3 rfl ((0<<<["change","back","size","ground"])^^^((1<<<["change","back","size","ground"])^^^((2<<<["change","back","size","ground"])^^^(@Za0 _)))) ⇑1 ⇑1),Zay,(Zcg (Zqu K rfl (Zjc hr)) (Yao<$>hr<$>((pv 3)<&>((pv 0)<&>((pv 1)<&>Zaa)))) (Ybe<$>hr<$>((pv 3)<&>((pv 2)<&>Zaa))) (Zak _))⟩))<&>Zaa))))),?_⟩;walk_at "wp";refine Znh x c dx g d z l lp p m k xs ns cts Cs ⟨rfl,st,hp,hc,∅,λH1 s1=>⟨true,rfl,Zgg ⇑0 ⟨x,b,dx,g,d,z,l,lp,p,m,k2,xs,ns,bts,Bs,rfl,st.same s1,hp,hb.same s1,∅,λH2 s2=>⟨true,rfl,Zgg ⇑0 ?_⟩⟩⟩⟩;have s02:=s1.trans s2;have st2:=st.same s02;have hc2:=hc.same s02;have hb2:=hb.same s02;have cl:=hc.2.1;have bl:=hb.2.1;refine Zcm S dx _ ⟨st2.ins,T.cl_Standing,T.nSg,_,Ze0 ..,_,rfl,_,rfl,_,rfl,x,S,dx,_,_,rfl,st2.ins,T.cl_Standing,T.nSs,Zif ..,c,b,z,rfl,⟨_,SqL.of hc2.1⟩,⟨_,SqL.of hb2.1⟩,⟨_,SqL.of st2.szs.1⟩,λD hD=>?_⟩;refine Zoi (k:=3) (xs:=cts.map V.ref) (ys:=bts.map V.ref) (ws:=ns.map V.int) (λi vs H'=>Same H2 H'/\∃ bs:List Bool,vs=bs.map V.bl/\H' D=some (.lst vs)/\bs.length=i/\∀ (j:Nat) c n,bs[j]?=some c->ns[j]?=some n->(c=true ↔ Zbg p (Cs.getD j []) (Bs.getD j []) n.toNat=Zbo n.toNat)) (by rw[Jab,Jab];exact oz24 cl bl) (by rw[Jab,Jab];exact oz96 cl) ⟨Same.new hD,[],rfl,Zab,rfl,λj c n e=>by simp at e⟩ (λi vs H' _ pv=>⟨SqL.of (pv.1 _ _ hc2.1),SqL.of (pv.1 _ _ hb2.1),SqL.of (pv.1 _ _ st2.szs.1)⟩) ?_ ?_
  .intro i v1 v2 v3 pz vs σ' H' hi h1 h2 h3 hpz sh e91;obtain⟨s',bs,rfl,e',bsl,hbs⟩:=e91;refine xE3_1 (sh3 sh) λz1 z2 z3 e97=>?_;obtain rfl:=e97;rw[Jab] at hi;have hct:cts[i]?=some (cts[i]'(oz37 hi)):=Jaa _;have hbt:bts[i]?=some (bts[i]'(oz9 cl bl hi)):=Jaa _;rw[Jad,hct] at h1;cases h1;rw[Jad,hbt] at h2;cases h2;generalize cts[i]'(oz37 hi)=ct at *;generalize bts[i]'(oz9 cl bl hi)=bt at *;refine Zae (Zkw h3) λn hn e98=>?_;obtain rfl:=e98;refine Zex (hc2.2.2 i ct n hct hn) λrC rsC tbC=>?_;refine Zex (hb2.2.2 i bt n hbt hn) λrB rsB tbB=>?_;have n0:=st.szs.2.2 n (Jae hn);have s0:=s'.trans (Same.new (o:=.tup [V.ref ct,V.ref bt,V.int n]) hpz);have e0:=(Same.new (o:=.tup [V.ref ct,V.ref bt,V.int n]) hpz) _ _ e';refine Zaq pz _ ⟨rfl,SqT.of Zab,rfl,_,_,rfl,_,_,rfl,_,_,rfl,rfl,?_⟩;simp only[Zew,List.set_cons_zero,List.set_cons_succ,Jca];have pz3:(upd H' pz (.tup [V.ref ct,V.ref bt,V.int n])) pz=some (.tup [V.ref ct,V.ref bt,V.int n]):=Zab;generalize upd H' pz (.tup [V.ref ct,V.ref bt,V.int n])=H3 at *;have s3:=(s02.trans s0)
   have nn:=Jbf n0.1;have g3:=st.grd.same s3;have mU:=Zcs hp n.toNat;refine⟨_,rfl,_,rfl,_,rfl,g,ct,rC,bt,rB,rsC,rsB,p,n.toNat,n.toNat,n.toNat,k,k2,_,_,rfl,g3,hp,tbC.same s0,tbB.same s0,oz84 n0,oz84 n0,oz84 n0,k1,k21,nb25 (oz84 n0) ∅ ∅,λt r rs H4 s4 nw tb4=>⟨_,rfl,_,rfl,g,p,n,rfl,g3.same s4,hp,n0.1,n0.2,λt2 r2 rs2 H5 s5 nw5 tv5=>?_⟩⟩;rw[<- nn] at tv5;rw[Jbu] at tv5;refine Zae (Zmg (K:=K) (k':=0) (tb4.same s5) mU tv5) λcs hcs ecs=>?_;have e5:=s5 _ _ (s4 _ _ e0);refine Zg3 t t2 _ _ cs ⟨rfl,rfl,SqT.of (tb4.same s5).tv.tup,SqT.of tv5.tup,hcs,Zky (ws:=(bs++[cs.all id]).map V.bl) (by rw[Jab];exact hi) sh3m e5 (Zas (by rw[Jab];have:=st.szs.2.1;have:=(Jaf.mp hn).1;omega)) ⟨((s0.trans s4).trans s5).upd hD,bs++[cs.all id],rfl,by rw[Zab,Jbb];rfl,by rw[Jaj,bsl];rfl,λj c n' f1 f2=>?_⟩⟩;by_cases hj:j<bs.length
   .rw [Jao hj] at f1;exact hbs j c n' f1 f2
   .have hj2:j=bs.length:=by
     have:=(Jaf.mp f1).1;rw[Jaj] at this;have:j<bs.length+1:=this;exact oz16 hj this
    subst hj2;rw[Jam (Jag _),Jdd] at f1;cases f1;rw[bsl,hn] at f2;cases f2;rw[bsl];exact ecs
  .intro vs H' e92;obtain⟨s',bs,rfl,e',bsl,hbs⟩:=e92;rw[Jab] at bsl;refine⟨D,rfl,bs,SqL.of e',q (bs.all id) H' (s02.trans s') ?_⟩;rw[Zv2];refine⟨λh i n hn=>?_,λh j c e=>?_⟩
   .have hi:=(Jaf.mp hn).1;have ei:bs[i]?=some (bs[i]'(oz15 cl bsl hi)):=Jaa _;exact (hbs i _ n ei hn).mp (h i _ ei)
   .have hj:=(Jaf.mp e).1;have ej:ns[j]?=some (ns[j]'(oz23 cl bsl hj)):=Jaa _;exact (hbs j c _ e ej).mpr (h j _ ej)
theorem Zrq {H:Hp}{ns:List Int}:Zek K H 6 (ns.map V.int) (ns.map V.int) (List.replicate ns.length true):=⟨by simp,by simp,λj x y c e1 e2 e3=>by
 rw[e1] at e2;cases e2;rw[Jad] at e1;have hc:=List.eq_of_mem_replicate (Jae e3);subst hc;cases f1:ns[j]? with
 | none=>rw[f1] at e1;cases e1
 | some t=>rw[f1] at e1;cases e1;exact Zfo⟩
theorem sh4 {cap σ:L2.St}(h:Sh 4 cap σ):∃ a b c d,σ=a::b::c::d::cap:=by
 refine Zae h λo ol e93=>?_;clear h;obtain rfl:=e93
 match o,ol with
 | [a,b,c,d],_=>exact⟨a,b,c,d,rfl⟩
theorem sh4m {cap:L2.St}{a b c d:Option V}:Sh 4 cap (a::b::c::d::cap):=⟨[a,b,c,d],rfl,rfl⟩
theorem k1_le {n a b:Nat}(hn:n<=24)(ha:a<=10000)(hb:b<=50000):7+n*(a+b+8)<=1500000:=Ja4 (Jdb (Jb3 hn (show a+b+8<=60008 by omega)) 7) ⇑0
def Zk8 (p:Int)(ns:List Int)(ps:List (Int×Int))(Ms Cs Bs Ms':List Mv):Prop:=Zmc p ns Cs Bs/\∀ i,i<ps.length->chM p ns ps Bs Ms Cs i=Ms'.getD i []
def Znm (S C G:Addr):L2.Sp:=λvs H Q _=>∃ (H0 H0':Hp) (x c b dx g d z l lp y dy g' d' z' l' lp':Addr) (p m:Int) (k k2 kt kt':Nat) (xs ys:List V) (ps:List (Int×Int)) (ns:List Int) (ts ts' cts bts:List Addr) (Ms Ms' Cs Bs:List Mv),vs=[.ref x,.ref y,.ref c,.ref b]/\StB H0 S C G H x p m ps ns kt Ms dx g d z l lp xs ts/\StB H0' S C G H y p m ps ns kt' Ms' dy g' d' z' l' lp' ys ts'/\GroundP p/\InP m ps/\ps.length<=9/\ChL H p k c cts ns Cs/\ChL H p k2 b bts ns Bs/\1<=k/\k<=50000/\1<=k2/\k2<=50000/\1<=kt/\kt<=10000/\∀ (t:Bool) H',Same H H'->(t=true ↔ Zk8 p ns ps Ms Cs Bs Ms')->Q (.bl t) H'
theorem ok_ledt (F:Fun K "is_led" "is_led" Zkp f fd)(T:Txt K mg C G S)(Ybu:Cal P w K mg base "are_backs" 11 (spBks S C G))(Yao:Cal P w K mg base "product" 8 (Znl G)):FnOk P w K mg base CX0 12 f fd ["standing","other","changes","backs"] (Znm S C G):=by
 have nd:=Zlk.nd;refine F.ok Zlk (λvs H Q E h=>?_) (λcdv A outer s H vs Q E hr h=>?_)
 .obtain ⟨H0,H0',x,c,b,dx,g,d,z,l,lp,y,dy,g',d',z',l',lp',p,m,k,k2,kt,kt',xs,ys,ps,ns,ts,ts',cts,bts,Ms,Ms',Cs,Bs,rfl,_⟩:=h;rfl
 .obtain ⟨H0,H0',x,c,b,dx,g,d,z,l,lp,y,dy,g',d',z',l',lp',p,m,k,k2,kt,kt',xs,ys,ps,ns,ts,ts',cts,bts,Ms,Ms',Cs,Bs,rfl,sx,sy,hp,ip,p9,hc,hb,k1,km,k21,k2m,kt1,ktm,q⟩:=h;refine⟨_,((@Za6 _ _ _ _ _ _ _ _ (PW.pt (Zdf (Zam (Zvs (Zjc hr)) (Zbl (pvr 0) rfl) (Zbl (pvr 1) rfl) (Zak _)) (Zcf (Zbj (Zbs (Ybu<$>hr<$>((pvr 0)<&>((pvr 2)<&>((pvr 3)<&>Zaa))))))))) (~~~Zc5) Zal)<*>((Zap (i:=4) nd rfl (Or.inr rfl) (Zbl (pvr 0) rfl))<*>(~~~(Za9 (Zcv rfl) rfl T.n_all Jdw ((Za3 (own:=["tail","head","before","after"]) (fr:=[("ground",4),("backs",3),("changes",2)]) rfl (Zbn (by kernel_rfl)) (pi_z3 rfl T.n_zip ((Zd1 (Zd1 (pv 0) rfl) rfl)<&>((Zd1 (pv 0) rfl)<&>((Zd1 (pv 1) rfl)<&>Zaa)))) (λ_ _ _ _=>⟨(@Zcq _ K rfl _ _ _ _ 3 rfl ((@Zcq _ K rfl _ _ _ _ 2 rfl ((0<<<["tail","head","before","after","ground","backs","changes"])^^^((1<<<["tail","head","before","after","ground","backs","changes"])^^^(@Za0 _))) ⇑1 ⇑1)^^^((2<<<["tail","head","before","after","ground","backs","changes"])^^^((3<<<["tail","head","before","after","ground","backs","changes"])^^^(@Za0 _)))) ⇑1 ⇑1),Zay,(Zcg (Zqu K rfl (Zjc hr)) (Yao<$>hr<$>((pv 4)<&>(((Zch K rfl)<|>(pv 5)<||>(pv 1))<&>((Yao<$>hr<$>((pv 4)<&>((pv 2)<&>(((Zch K rfl)<|>(pv 6)<||>(pv 0))<&>Zaa))))<&>Zaa)))) (pv 3) (Zak _))⟩))<&>Zaa))))),?_⟩;walk_at "wp";refine Zcm S dx _ ⟨sx.sa.ins,T.cl_Standing,T.nSs,_,Zif ..,S,dy,_,sy.sa.ins,T.cl_Standing,T.nSs,_,Zif ..,z,rfl,z',rfl,_,SqL.of sx.sa.szs.1,_,SqL.of sy.sa.szs.1,.inr ⟨_,Zrq,Zgg (by rw[all_rep];decide) ⟨x,c,b,dx,g,d,z,l,lp,p,m,k,k2,xs,ns,cts,bts,Cs,Bs,rfl,sx.sa,hp,hc,hb,k1,km,k21,k2m,λt1 H1 s1 ht1=>⟨t1,rfl,?_⟩⟩⟩⟩;cases t1 with
  | false=>exact Zrf ⇑0 (q false H1 s1 ⟨λh=>(by cases h),λh=>ht1.mpr h.1⟩)
  | true=>
   refine Zgg ⇑0 ?_;have bk:=ht1.mp rfl;refine Zae sx.sa.drw λdd hd hlp=>?_;have sx1:=sx.same s1;have sy1:=sy.same s1;have hc1:=hc.same s1;have hb1:=hb.same s1;have hd1:=s1 _ _ hd;have hlp1:=s1 _ _ hlp;have xl:=sx.prs.1;have tl:=sx.len;have tl':=sy.len;have hm:=sx.sa.hm;have cl:=hc.2.1;have bl:=hb.2.1;refine Zcm S dx _ ⟨sx1.sa.ins,T.cl_Standing,T.nSg,_,Ze0 ..,_,rfl,x,S,dx,_,_,rfl,sx1.sa.ins,T.cl_Standing,T.nSd,Zdy ..,d,C,dd,_,_,rfl,hd1,T.cl_Drawing,T.nA,Zdk m lp,_,rfl,x,S,dx,_,_,rfl,sx1.sa.ins,T.cl_Standing,T.nSt,Zli ..,_,rfl,y,S,dy,_,_,rfl,sy1.sa.ins,T.cl_Standing,T.nSt,Zli ..,lp,l,l',rfl,⟨_,SqL.of hlp1⟩,⟨_,SqL.of sx1.lst⟩,⟨_,SqL.of sy1.lst⟩,λD hD=>?_⟩;refine Zoi (k:=4) (xs:=xs) (ys:=ts.map V.ref) (ws:=ts'.map V.ref) (λi vs H'=>Same H1 H'/\∃ bs:List Bool,vs=bs.map V.bl/\H' D=some (.lst vs)/\bs.length=i/\∀ (j:Nat) c,bs[j]?=some c->(c=true ↔ chM p ns ps Bs Ms Cs j=Ms'.getD j [])) (by rw[Jab];exact oz24 xl tl) (by rw[Jab];exact oz24 xl tl') ⟨Same.new hD,[],rfl,Zab,rfl,λj c e=>by simp at e⟩ (λi vs H' _ pv=>⟨SqL.of (pv.1 _ _ hlp1),SqL.of (pv.1 _ _ sx1.lst),SqL.of (pv.1 _ _ sy1.lst)⟩) ?_ ?_
   .intro i v1 v2 v3 pz vs σ' H' hi h1 h2 h3 hpz sh e91;obtain⟨s',bs,rfl,e',bsl,hbs⟩:=e91;refine xE4_1 (sh4 sh) λz1 z2 z3 z4 e94=>?_;obtain rfl:=e94;have hti:ts[i]?=some (ts[i]'(oz9 xl tl hi)):=Jaa _;have hti':ts'[i]?=some (ts'[i]'(oz9 xl tl' hi)):=Jaa _;rw[Jad,hti] at h2;cases h2;rw[Jad,hti'] at h3;cases h3;generalize ts[i]'(oz9 xl tl hi)=t at *;generalize ts'[i]'(oz9 xl tl' hi)=t' at *;have hip:i<ps.length:=by exact Zc0 xl hi
    have hq:ps[i]?=some (ps.getD i (0,0)):=by rw[Zbh hip];exact Jaa _
    refine Zbd (sx1.tbs i _ _ hti hq) λr rs tb _=>?_;refine Zbd (sy1.tbs i _ _ hti' hq) λr' rs' tb' _=>?_;have ec:chM p ns ps Bs Ms Cs i=Zbg p (Bs.getD (ps.getD i (0,0)).2.toNat []) (Zbg p (Ms.getD i []) (Cs.getD (ps.getD i (0,0)).1.toNat []) (nz ns (ps.getD i (0,0)).1)) (nz ns (ps.getD i (0,0)).1):=rfl;generalize ps.getD i (0,0)=qq at *;obtain⟨tl',hd'⟩:=qq;refine Zae (sx1.prs.2 i _ _ h1 hq) λta e95 hta=>?_;obtain rfl:=e95;refine Zcb (ip _ (Jae hq)) λi0 i1 j0 j1=>?_;have s0:=s'.trans (Same.new (o:=.tup [V.ref ta,V.ref t,V.ref t']) hpz);have e0:=(Same.new (o:=.tup [V.ref ta,V.ref t,V.ref t']) hpz) _ _ e';have p4:(upd H' pz (.tup [V.ref ta,V.ref t,V.ref t'])) pz=some (.tup [V.ref ta,V.ref t,V.ref t']):=Zab;generalize upd H' pz (.tup [V.ref ta,V.ref t,V.ref t'])=H3 at *;refine Zaq pz _ ⟨rfl,SqT.of p4,rfl,_,_,rfl,ta,_,rfl,SqT.of (s0 _ _ hta),rfl,_,_,rfl,_,_,rfl,rfl,_,_,rfl,_,_,rfl,rfl,?_⟩;simp only[Zew,List.set_cons_zero,List.set_cons_succ,Jca];have hnt:ns[tl'.toNat]?=some (ns.getD tl'.toNat 0):=by rw[Zbh ∅];exact Jaa _
    have hnh:ns[hd'.toNat]?=some (ns.getD hd'.toNat 0):=by rw[Zbh ∅];exact Jaa _
    have hbt:bts[hd'.toNat]?=some (bts[hd'.toNat]'(by omega)):=Jaa _;have hct:cts[tl'.toNat]?=some (cts[tl'.toNat]'(by omega)):=Jaa _;refine Zex (hb1.2.2 _ _ _ hbt hnh) λrB rsB tbB=>?_;refine Zex (hc1.2.2 _ _ _ hct hnt) λrC rsC tbC=>?_;have tbB:TabB H1 p k2 (nz ns hd') (nz ns hd') _ rB rsB _:=tbB;have tbC:TabB H1 p k (nz ns tl') (nz ns tl') _ rC rsC _:=tbC;have m1:=(Zoy sx.sa.szs tl').1;have m2:=(Zoy sx.sa.szs hd').1;walk_at "wp";refine⟨_,rfl,_,rfl,b,rfl,_,SqL.of (s0 _ _ hb1.1),_,Zb0 j0 (by rw[Jad,hbt];rfl),_,rfl,_,rfl,c,rfl,_,SqL.of (s0 _ _ hc1.1),_,Zb0 i0 (by rw[Jad,hct];rfl),?_⟩;refine Znh g t r _ rC rs rsC p (nz ns hd') (nz ns tl') (nz ns tl') kt k _ _ ⟨rfl,sx1.sa.grd.same s0,hp,tb.same s0,tbC.same s0,m2,m1,m1,kt1,k1,nb25 m1 ∅ ∅,λt5 r5 rs5 H5 s5 nw5 tb5=>?_⟩;have e5:=s5 _ _ e0;have s05:=s0.trans s5;refine Znh g _ rB t5 r5 rsB rs5 p (nz ns hd') (nz ns hd') (nz ns tl') k2 _ _ _ ⟨rfl,sx1.sa.grd.same s05,hp,tbB.same s05,tb5,m2,m2,m1,k21,∅,nb25 m2 ∅ (k1_le m1 ktm km),λt6 r6 rs6 H6 s6 nw6 tb6=>?_⟩;have e6:=s6 _ _ e5;have s06:=s05.trans s6;rw[<- ec] at tb6;refine Zae (Zmg (K:=K) (k':=0) tb6 tb'.mat (tb'.same s06).tv) λcs hcs ecs=>?_;refine⟨t6,rfl,_,SqT.of tb6.tv.tup,_,SqT.of (tb'.same s06).tv.tup,cs,hcs,Zky (ws:=(bs++[cs.all id]).map V.bl) hi sh4m e6 (Zas (by rw[Jab];exact oz22 p9 xl hi bsl)) ⟨s06.upd hD,bs++[cs.all id],rfl,by rw[Zab,Jbb];rfl,by rw[Jaj,bsl];rfl,λj c' f1=>?_⟩⟩;by_cases hj:j<bs.length
    .rw [Jao hj] at f1;exact hbs j c' f1
    .have hj2:j=bs.length:=by
      have:=(Jaf.mp f1).1;rw[Jaj] at this;have:j<bs.length+1:=this;exact oz16 hj this
     subst hj2;rw[Jam (Jag _),Jdd] at f1;cases f1;rw[bsl];exact ecs
   .intro vs H' e92;obtain⟨s',bs,rfl,e',bsl,hbs⟩:=e92;refine⟨D,rfl,bs,SqL.of e',q (bs.all id) H' (s1.trans s') ?_⟩;rw[Zv2];refine⟨λh=>⟨bk,λi hi=>?_⟩,λh j c e=>?_⟩
    .have ei:bs[i]?=some (bs[i]'(oz15 xl bsl hi)):=Jaa _;exact (hbs i _ ei).mp (h i _ ei)
    .have hj:=(Jaf.mp e).1;exact (hbs j c e).mpr (h.2 j (oz23 xl bsl hj))
def Zs3 (S C G:Addr):L2.Sp:=Znm S C G
theorem ok_lbc (F:Fun K "lets_by_change" "lets_by_change" Zcx f fd)(T:Txt K mg C G S)(Yb4:Cal P w K mg base "is_beside" 2 (spBsd S C G))(Ybk:Cal P w K mg base "is_led" 12 (Znm S C G)):FnOk P w K mg base CX0 13 f fd ["standing","other","changes","backs"] (Zs3 S C G):=by
 have nd:=Zdz.nd;refine F.ok Zdz (λvs H Q E h=>?_) (λcdv A outer s H vs Q E hr h=>?_)
 .obtain ⟨H0,H0',x,c,b,dx,g,d,z,l,lp,y,dy,g',d',z',l',lp',p,m,k,k2,kt,kt',xs,ys,ps,ns,ts,ts',cts,bts,Ms,Ms',Cs,Bs,rfl,_⟩:=h;rfl
 .obtain ⟨H0,H0',x,c,b,dx,g,d,z,l,lp,y,dy,g',d',z',l',lp',p,m,k,k2,kt,kt',xs,ys,ps,ns,ts,ts',cts,bts,Ms,Ms',Cs,Bs,rfl,sx,sy,hp,ip,p9,hc,hb,k1,km,k21,k2m,kt1,ktm,q⟩:=h;refine⟨_,(~~~(Zf1 (Yb4<$>hr<$>((pvr 0)<&>((pvr 1)<&>Zaa))) (Zf0 (Ybk<$>hr<$>((pvr 0)<&>((pvr 1)<&>((pvr 2)<&>((pvr 3)<&>Zaa)))))))),?_⟩;walk_at "wp";refine⟨x,dx,g,d,z,l,lp,y,dy,g',d',z',l',lp',p,m,xs,ys,ps,ns,ns,rfl,sx.sa,sx.prs,sy.sa,sy.prs,λH1 s1=>⟨true,rfl,Zrf rfl ⟨H0,H0',x,c,b,dx,g,d,z,l,lp,y,dy,g',d',z',l',lp',p,m,k,k2,kt,kt',xs,ys,ps,ns,ts,ts',cts,bts,Ms,Ms',Cs,Bs,rfl,sx.same s1,sy.same s1,hp,ip,p9,hc.same s1,hb.same s1,k1,km,k21,k2m,kt1,ktm,λt H2 s2 e=>q t H2 (s1.trans s2) e⟩⟩⟩
def spLb (S C G:Addr):L2.Sp:=λvs H Q E=>∃ (x pa y c b:Addr),vs=[.ref x,.ref pa]/\H pa=some (.tup [.str "change",.ref y,.ref c,.ref b])/\Zs3 S C G [.ref x,.ref y,.ref c,.ref b] H Q E
theorem ok_lb (F:Fun K "lets_by" "lets_by" Zi2 f fd)(T:Txt K mg C G S)(Ya3:Cal P w K mg base "lets_by_change" 13 (Zs3 S C G)):FnOk P w K mg base CX0 14 f fd ["standing","paper"] (spLb S C G):=by
 have nd:=Zj0.nd;refine F.ok Zj0 (λvs H Q E h=>?_) (λcdv A outer s H vs Q E hr h=>?_)
 .refine Zpi h λx pa y c b e91 _=>?_;clear h;obtain rfl:=e91;rfl
 .refine Zph h λx pa y c b e92 hpa q=>?_;clear h;obtain rfl:=e92;refine⟨_,((@Za6 _ _ _ _ _ _ _ _ (PW.pt (Zdf (Zbj (Zbs (Za9 Za5 rfl T.n_isinstance Jbg ((pvr 1)<&>((Zgf rfl T.n_tuple boot_tuple)<&>Zaa))))) (Zcf (Zbj (Zth (pvr 1) (λ_=>rfl)))))) (~~~Zc5) Zal)<*>((@Za6 _ _ _ _ _ _ _ _ (PW.pt (Zh0 (Zam Zc7 ((Zgh Zat)<|>(pvr 1)<||>Zac) Znx (Zak _)) (Zfc (Zam Zc7 (Za9 Zau rfl T.n_len Jbd ((pvr 1)<&>Zaa)) Zac (Zak _))))) (~~~(Ya3<$>hr<$>((pvr 0)<&>(((Zgh Zat)<|>(pvr 1)<||>Zac)<&>(((Zgh Zat)<|>(pvr 1)<||>Zac)<&>(((Zgh Zat)<|>(pvr 1)<||>Zac)<&>Zaa)))))) Zal)<*>((@Za6 _ _ _ _ _ _ _ _ (PW.pt (Zh0 (Zam Zc7 ((Zgh Zat)<|>(pvr 1)<||>Zac) Znx (Zak _)) (Zfc (Zam Zc7 (Za9 Zau rfl T.n_len Jbd ((pvr 1)<&>Zaa)) Zac (Zak _))))) (@Zan _ _ _ Zcu) Zal)<*>((@Za6 _ _ _ _ _ _ _ _ (PW.pt (Zh0 (Zam Zc7 ((Zgh Zat)<|>(pvr 1)<||>Zac) Znx (Zak _)) (Zfc (Zam Zc7 (Za9 Zau rfl T.n_len Jbd ((pvr 1)<&>Zaa)) Zac (Zak _))))) (@Zan _ _ _ Zcu) Zal)<*>(@Zan _ _ _ Zcu))))),?_⟩;walk_at "wp";refine Zaq _ _ ⟨⟨rfl,rfl⟩,_,rfl,_,.tup hpa,true,Zjl K,Zgg ⇑0 ⟨true,?_,Zgg ⇑0 ⟨_,SqT.of hpa,_,rfl,rfl,Zrf ⇑0 ⟨_,.inr (SqT.of hpa),Zrf (Jah rfl) ⟨_,SqT.of hpa,_,rfl,_,SqT.of hpa,_,rfl,_,SqT.of hpa,_,rfl,?_⟩⟩⟩⟩⟩
  .exact .inr (.inl ⟨_,SqT.of hpa,rfl⟩)
  .exact q
def spSmp:L2.Sp:=λvs H Q _=>∃ l:Addr,vs=[.ref l]/\Bag H l/\∀ p H',Ext l H H'->Bag H' l->GroundP p->Q (.int p) H'
theorem ok_smp (F:Fun K "_law_small_prime" "_law_small_prime" Zco f fd)(T:Txt K mg C G S)(Yaa:Cal P w K mg base "_law_draw" 1 Zc8):FnOk P w K mg base CX0 2 f fd ["_law_bag_here"] spSmp:=by
 have nd:=Zdo.nd;refine F.ok Zdo (λvs H Q E h=>?_) (λcdv A outer s H vs Q E hr h=>?_)
 .refine Zae h λl e91 _=>?_;clear h;obtain rfl:=e91;rfl
 .refine Zav h λl e92 hb q=>?_;clear h;obtain rfl:=e92;refine⟨_,(~~~(Zar<|>(@Zbw _ _ _ _ (Zac<&>(Zac<&>(Zac<&>(Zac<&>(Zac<&>(Zac<&>Zaa)))))))<||>(Yaa<$>hr<$>((pvr 0)<&>(Zac<&>Zaa))))),?_⟩;walk_at "wp";refine⟨⇑0,λa ha=>?_⟩;have na:=hb.ne ha;refine (hb.new na).draw ⇑0 ⇑0 λz H2 z0 z1 e2 b2=>?_;refine Zae (Zqk (L:=[0,2,3,5,97,2]) ⇑0 z0 z1) λp h1 h2=>?_;exact Zaq _ z ⟨rfl,SqL.of (e2 _ _ na Zab),_,h1,q p H2 ((Ext.new ha).trans e2) b2 h2⟩
def Zjw (b:Nat):L2.Sp:=λvs H Q _=>∃ (l:Addr) (p:Int),vs=[.ref l,.int p]/\Bag H l/\GroundP p/\∀ v x H',Ext l H H'->Bag H' l->NumV H' p v x->Isn p x->BtN b x->Q v H'
theorem few_p {p z:Int}(hp:GroundP p)(h0:0<p)(z0:0<=z)(z1:z<p):Isn p (z,1)/\BtN 7 (z,1):=by
 have p97:=hp.hi;refine⟨.inr ⟨h0,z0,z1,rfl⟩,?_,?_⟩
 .show z.natAbs<2 ^ 7;omega
 .show (1:Int).natAbs<2 ^ 7;decide
theorem few_0 {x:Nv}(h:Low x)(h1:x.1.natAbs<128)(h2:x.2.natAbs<128):Isn 0 x/\BtN 7 x:=⟨.inl ⟨rfl,h⟩,h1,h2⟩
theorem Znw {H:Hp}{l pl:Addr}{as:List Addr}{xs:List Nv}{n:Int}{Q:VK}(b:Bag H l)(hl:H pl=some (.lst (as.map V.ref)))(npl:pl≠l)(hn:n=as.length)(n1:1<=n)(n9:n<=9)(hx:xs.length=as.length)(ht:∀ (i:Nat) a x,as[i]?=some a->xs[i]?=some x->a≠l/\H a=some (.tup [.int x.1,.int x.2]))(q:∀ v x H',Ext l H H'->Bag H' l->NumV H' 0 v x->x∈xs->Q v H'):Zc8 [.ref l,.int n] H (λy H2=>∃ ys i,y=.int i/\SqL K H2 pl ys/\∃ v,atI ys i=some v/\Q v H2) E0:=by
 refine b.draw (oz137 n1) ∅ λz H2 z0 z1 e2 b2=>?_;have hz:z.toNat<as.length:=by exact oz151 hn z0 z1
 have ea:as[z.toNat]?=some (as[z.toNat]'hz):=Jaa _;have ex:xs[z.toNat]?=some (xs[z.toNat]'(by omega)):=Jaa _;obtain⟨na,ta⟩:=ht _ _ _ ea ex;exact Zaq _ z ⟨rfl,SqL.of (e2 _ _ npl hl),_,Zb0 z0 (by rw[Jad,ea];rfl),q _ _ H2 e2 b2 (NumV.tup rfl (e2 _ _ na ta)) (Jae ex)⟩
theorem ok_numf (F:Fun K "_law_number" "_law_number" Ze7 f fd)(T:Txt K mg C G S)(Yaa:Cal P w K mg base "_law_draw" 1 Zc8):FnOk P w K mg base CX0 2 f fd ["_law_bag_here","_law_p"] (Zjw 7):=by
 have nd:=Zgm.nd;refine F.ok Zgm (λvs H Q E h=>?_) (λcdv A outer s H vs Q E hr h=>?_)
 .refine Zbd h λl p e93 _=>?_;clear h;obtain rfl:=e93;rfl
 .refine Zet h λl p e94 hb hp q=>?_;clear h;obtain rfl:=e94;have p0:=hp.lo;have p97:=hp.hi;refine⟨_,((@Za6 _ _ _ _ _ _ _ _ (Zam (Zk9 Zd2) (pvr 1) Zac (Zak _)) (~~~(Yaa<$>hr<$>((pvr 0)<&>((pvr 1)<&>Zaa)))) Zal)<*>(~~~(Zar<|>(@Zbw _ _ _ _ ((@Zaw _ _ _ _ _ (Zac<&>(Zac<&>Zaa)))<&>((@Zaw _ _ _ _ _ (Zac<&>(Zac<&>Zaa)))<&>((@Zaw _ _ _ _ _ ((Zh9 Zel Zac)<&>(Zac<&>Zaa)))<&>((@Zaw _ _ _ _ _ (Zac<&>(Zac<&>Zaa)))<&>((@Zaw _ _ _ _ _ (Zac<&>(Zac<&>Zaa)))<&>Zaa))))))<||>(Yaa<$>hr<$>((pvr 0)<&>(Zac<&>Zaa)))))),?_⟩;walk_at "wp";refine Zci (λhc=>?_) (λhc=>?_)
  .have hc:=Jat hc;refine hb.draw hc ∅ λz H2 z0 z1 e2 b2=>?_;have w:=few_p hp hc z0 z1;exact q (.int z) (z,1) H2 e2 b2 (NumV.of (x:=(z,1)) (Zjh hc)) w.1 w.2
  .have hc:¬ 0<p:=λz=>hc (Jah z);have hp0:p=0:=by exact oz90 p0 hc
   subst hp0;refine⟨⇑0,λp1 h1=>⟨⇑0,λp2 h2=>⟨⇑0,λp3 h3=>⟨⇑0,λp4 h4=>⟨⇑0,λp5 h5=>⟨⇑0,λpl hl=>?_⟩⟩⟩⟩⟩⟩;have n1:=hb.ne h1;have b1:=hb.new n1 (o:=.tup [.int 0,.int 1]);have n2:=b1.ne h2;have b2:=b1.new n2 (o:=.tup [.int 1,.int 1]);have n3:=b2.ne h3;have b3:=b2.new n3 (o:=.tup [.int (-1),.int 1]);have n4:=b3.ne h4;have b4:=b3.new n4 (o:=.tup [.int 2,.int 1]);have n5:=b4.ne h5;have b5:=b4.new n5 (o:=.tup [.int 1,.int 2]);have n6:=b5.ne hl;have s6:=Same.new (o:=.lst [.ref p1,.ref p2,.ref p3,.ref p4,.ref p5]) hl;have s5:=(Same.new (o:=.tup [.int 1,.int 2]) h5).trans s6;have s4:=(Same.new (o:=.tup [.int 2,.int 1]) h4).trans s5;have s3:=(Same.new (o:=.tup [.int (-1),.int 1]) h3).trans s4;have s2:=(Same.new (o:=.tup [.int 1,.int 1]) h2).trans s3;have s1:=(Same.new (o:=.tup [.int 0,.int 1]) h1).trans s2;refine Znw (as:=[p1,p2,p3,p4,p5]) (xs:=[(0,1),(1,1),(-1,1),(2,1),(1,2)]) (b5.new n6) Zab n6 rfl ⇑0 ⇑0 rfl (λi a x ea ex=>?_) λv x H' e b n m=>?_
   .match i with
    | 0=>cases ea;cases ex;exact⟨n1,s2 _ _ Zab⟩
    | 1=>cases ea;cases ex;exact⟨n2,s3 _ _ Zab⟩
    | 2=>cases ea;cases ex;exact⟨n3,s4 _ _ Zab⟩
    | 3=>cases ea;cases ex;exact⟨n4,s5 _ _ Zab⟩
    | 4=>cases ea;cases ex;exact⟨n5,s6 _ _ Zab⟩
    | i+5=>cases ea
   .have w:Low x/\x.1.natAbs<128/\x.2.natAbs<128:=by
     simp only[Jbo,Jcf,Jee] at m;rcases m with rfl|rfl|rfl|rfl|rfl <;> exact⟨⟨⇑0,⇑0⟩,⇑0,⇑0⟩
    have w2:=few_0 w.1 w.2.1 w.2.2;exact q v x H' (s1.ext.trans e) b n w2.1 w2.2
theorem bd_of {x:Nv}(h:BtN 7 x):Bd 127 x:=⟨Nat.le_of_lt_succ h.1,Nat.le_of_lt_succ h.2⟩
theorem of_bd {x:Nv}(h:Bd 127 x):BtN 7 x:=⟨Nat.lt_succ_of_le h.1,Nat.lt_succ_of_le h.2⟩
theorem bd_i0 (p:Int):Bd 127 (Zgs p 0):=by
 rw[Zd3];exact⟨⇑0,⇑0⟩
def spNzF:L2.Sp:=λvs H Q _=>∃ (l:Addr) (p:Int),vs=[.ref l,.int p]/\Bag H l/\GroundP p/\∀ v x H',Ext l H H'->Bag H' l->NumV H' p v x->Isn p x->BtN 7 x->x.1≠0->Q v H'
theorem ok_nzf (F:Fun K "_law_nonzero" "_law_nonzero" Zd9 f fd)(T:Txt K mg C G S)(Yaa:Cal P w K mg base "_law_draw" 1 Zc8):FnOk P w K mg base CX0 2 f fd ["_law_bag_here","_law_p"] spNzF:=by
 have nd:=Zft.nd;refine F.ok Zft (λvs H Q E h=>?_) (λcdv A outer s H vs Q E hr h=>?_)
 .refine Zbd h λl p e95 _=>?_;clear h;obtain rfl:=e95;rfl
 .refine Zet h λl p e96 hb hp q=>?_;clear h;obtain rfl:=e96;have p0:=hp.lo;have p97:=hp.hi;refine⟨_,((@Za6 _ _ _ _ _ _ _ _ (Zam (Zk9 Zd2) (pvr 1) Zac (Zak _)) (~~~(Zdg<|>Zac<&&>(Yaa<$>hr<$>((pvr 0)<&>(((Zk9 Zff)<|>(pvr 1)<&&>Zac)<&>Zaa))))) Zal)<*>(~~~(Zar<|>(@Zbw _ _ _ _ ((@Zaw _ _ _ _ _ (Zac<&>(Zac<&>Zaa)))<&>((@Zaw _ _ _ _ _ ((Zh9 Zel Zac)<&>(Zac<&>Zaa)))<&>((@Zaw _ _ _ _ _ (Zac<&>(Zac<&>Zaa)))<&>((@Zaw _ _ _ _ _ (Zac<&>(Zac<&>Zaa)))<&>Zaa)))))<||>(Yaa<$>hr<$>((pvr 0)<&>(Zac<&>Zaa)))))),?_⟩;walk_at "wp";refine Zci (λhc=>?_) (λhc=>?_)
  .have hc:=Jat hc;have p2:1<p:=by rcases hp with h|h;omega;exact h.1
   refine hb.draw ∅ ∅ λz H2 z0 z1 e2 b2=>⟨z,rfl,?_⟩
   have w:=few_p hp hc (z:=1+z) ∅ ∅;exact q (.int (1+z)) (1+z,1) H2 e2 b2 (NumV.of (x:=(1+z,1)) ∅) w.1 w.2 (by show 1+z≠0;omega)
  .have hc:¬ 0<p:=λz=>hc (Jah z);have hp0:p=0:=by exact oz90 p0 hc
   subst hp0;refine⟨⇑0,λp1 h1=>⟨⇑0,λp2 h2=>⟨⇑0,λp3 h3=>⟨⇑0,λp4 h4=>⟨⇑0,λpl hl=>?_⟩⟩⟩⟩⟩;have n1:=hb.ne h1;have b1:=hb.new n1 (o:=.tup [.int 1,.int 1]);have n2:=b1.ne h2;have b2:=b1.new n2 (o:=.tup [.int (-1),.int 1]);have n3:=b2.ne h3;have b3:=b2.new n3 (o:=.tup [.int 2,.int 1]);have n4:=b3.ne h4;have b4:=b3.new n4 (o:=.tup [.int 1,.int 2]);have n6:=b4.ne hl;have s6:=Same.new (o:=.lst [.ref p1,.ref p2,.ref p3,.ref p4]) hl;have s4:=(Same.new (o:=.tup [.int 1,.int 2]) h4).trans s6;have s3:=(Same.new (o:=.tup [.int 2,.int 1]) h3).trans s4;have s2:=(Same.new (o:=.tup [.int (-1),.int 1]) h2).trans s3;have s1:=(Same.new (o:=.tup [.int 1,.int 1]) h1).trans s2;refine Znw (as:=[p1,p2,p3,p4]) (xs:=[(1,1),(-1,1),(2,1),(1,2)]) (b4.new n6) Zab n6 rfl ⇑0 ⇑0 rfl (λi a x ea ex=>?_) λv x H' e b n m=>?_
   .match i with
    | 0=>cases ea;cases ex;exact⟨n1,s2 _ _ Zab⟩
    | 1=>cases ea;cases ex;exact⟨n2,s3 _ _ Zab⟩
    | 2=>cases ea;cases ex;exact⟨n3,s4 _ _ Zab⟩
    | 3=>cases ea;cases ex;exact⟨n4,s6 _ _ Zab⟩
    | i+4=>cases ea
   .have w:(Low x/\x.1.natAbs<128/\x.2.natAbs<128)/\x.1≠0:=by
     simp only[Jbo,Jcf,Jee] at m;rcases m with rfl|rfl|rfl|rfl <;> exact⟨⟨⟨⇑0,⇑0⟩,⇑0,⇑0⟩,⇑0⟩
    have w2:=few_0 w.1.1 w.1.2.1 w.1.2.2;exact q v x H' (s1.ext.trans e) b n w2.1 w2.2 w.2
def Zpy:Sp:=λvs H Q _=>∃ (l:Addr) (p hh wd:Int),vs=[.ref l,.int p,.int hh,.int wd]/\Bag H l/\GroundP p/\0<=hh/\hh<=24/\0<=wd/\wd<=24 /\
 ∀ (r:Addr) (rs:List Addr) (H':Hp),Ext l H H'->Bag H' l->H r=none->(∀ a∈rs,H a=none)->r∉rs->H' r=some (.lst (rs.map V.ref))->(rs.length:Int)=hh->(∀ a∈rs,RowO H' p 127 wd a)->Q (.ref r) H'
theorem ok_rows (F:Fun K "_law_rows" "_law_rows" Zg9 f fd)(T:Txt K mg C G S)(Yaa:Cal P w K mg base "_law_draw" 1 Zc8)(Yai:Cal P w K mg base "_law_number" 2 (Zjw 7))(Yae:Cal P w K mg base "_law_int" 1 Zot):FnOk P w K mg base CX0 4 f fd ["_law_bag_here","_law_p","_law_high","_law_wide"] Zpy:=by
 have nd:=Zip.nd;refine F.ok Zip (λvs H Q E h=>?_) (λcdv A outer s H vs Q E hr h=>?_)
 .refine Zol h λl p hh wd e97 _=>?_;clear h;obtain rfl:=e97;rfl
 .refine Zb8 h λl p hh wd e98 hb hp e99=>?_;clear h;obtain rfl:=e98;refine Zc3 e99 λh0 h24 w0 w24 q=>?_;clear e99;refine⟨_,((4|||nd|||(Zdg<|>Zac<&&>(Yaa<$>hr<$>((pvr 0)<&>(Zac<&>Zaa)))))<*>((5|||nd|||(@Zbw _ _ _ _ Zaa))<*>((Zck Ja5 rfl (Zfe rfl T.n_range ((pv 2)<&>Zaa)) (6>>>nd) ((7|||nd|||(@Zbw _ _ _ _ Zaa))<*>((Zck Ja5 rfl (Zfe rfl T.n_range ((pv 3)<&>Zaa)) (8>>>nd) ((9|||nd|||(Yai<$>hr<$>((pvr 0)<&>((pvr 1)<&>Zaa))))<*>(@Zan _ _ _ (@Za6 _ _ _ _ _ _ _ _ (Zam Zia (Yaa<$>hr<$>((pvr 0)<&>(Zac<&>Zaa))) (pvr 4) (Zak _)) (@Zan _ _ _ (Zdw (Zks Jbm Jbh Jbi (mtJ Zb5) (pvr 7) ((pvr 9)<&>Zaa)))) (@Zan _ _ _ (Zdw (Zks Jbm Jbh Jbi (mtJ Zb5) (pvr 7) ((Yae<$>hr<$>((pvr 1)<&>(Zac<&>Zaa)))<&>Zaa))))))))<*>(@Zan _ _ _ (Zdw (Zks Jbm Jbh Jbi (mtJ Zb5) (pvr 5) ((pvr 7)<&>Zaa)))))))<*>(~~~(pvr 5))))),?_⟩;walk_at "wp";refine hb.draw ⇑0 ⇑0 λz H2 z0 z1 e2 b2=>⟨z,rfl,⇑0,λr hr0=>?_⟩
  have nr:r≠l:=b2.ne hr0;have fr:H r=none:=e2.free nr hr0;refine⟨_,rfl,hh,rfl,Zmz h0,Zow h24,Zby (λi σ H3=>∃ (v6 v7 v8 v9:Option V) (rs:List Addr),σ=[some (.ref l),some (.int p),some (.int hh),some (.int wd),some (.int (1+z)),some (.ref r),v6,v7,v8,v9]/\Ext l H H3/\Bag H3 l/\(∀ a∈rs,H a=none)/\r∉rs/\H3 r=some (.lst (rs.map V.ref))/\rs.length=i/\∀ a∈rs,RowO H3 p 127 wd a)
   ⟨none,none,none,none,[],rfl,e2.trans (Ext.new hr0),b2.new nr,by simp,by simp,Zab,rfl,by simp⟩ ?_ ?_⟩
  .intro i σ H3 hi e91;refine Zg4 e91 λv6 v7 v8 v9 rs e910 e3 b3 e911=>?_;clear e91;obtain rfl:=e910;refine Zc3 e911 λhf nm hr3 hln hro=>?_;clear e911;walk_at "wp";refine⟨⇑0,λa ha=>?_⟩;have na:a≠l:=b3.ne ha;have fa:H a=none:=e3.free na ha;have nar:r≠a:=Zah hr3 ha;have nas:a∉rs:=λz=>by obtain⟨xs,h1,_⟩:=hro a z;rw[ha] at h1;cases h1
   refine⟨_,rfl,wd,rfl,Zmz w0,Zow w24,Zby (λj σ H4=>∃ (v8 v9:Option V) (xs:List V),σ=[some (.ref l),some (.int p),some (.int hh),some (.int wd),some (.int (1+z)),some (.ref r),some (.int (0+(i:Int))),some (.ref a),v8,v9]/\Ext l H H4/\Bag H4 l/\H4 r=some (.lst (rs.map V.ref))/\(∀ a∈rs,RowO H4 p 127 wd a)/\H4 a=some (.lst xs)/\xs.length=j/\∀ x∈xs,NumO H4 p 127 x)
    ⟨v8,v9,[],rfl,e3.trans (Ext.new ha),b3.new na,by rw[Zaj nar];exact hr3,λb hb=>(hro b hb).same (Same.new ha),Zab,rfl,by simp⟩ ?_ ?_⟩
   .intro j σ H4 hj e92;refine Zb9 e92 λu8 u9 xs e912 e4 b4 e913=>?_;clear e92;obtain rfl:=e912;refine Zc3 e913 λhr4 hro4 ha4 hlx hnx=>?_;clear e913;walk_at "wp";have step:∀ (v:V) (H5:Hp),Ext l H4 H5->Bag H5 l->NumO H5 p 127 v->(Ext l H (upd H5 a (.lst (xs++[v])))/\Bag (upd H5 a (.lst (xs++[v]))) l/\upd H5 a (.lst (xs++[v])) r=some (.lst (rs.map V.ref))/\(∀ b∈rs,RowO (upd H5 a (.lst (xs++[v]))) p 127 wd b) /\
      ∃ ys,upd H5 a (.lst (xs++[v])) a=some (.lst ys)/\ys.length=j+1/\∀ x∈ys,NumO (upd H5 a (.lst (xs++[v]))) p 127 x):=by
     intro v H5 e5 b5 nv;have ha5:=e5 _ _ na ha4;refine⟨(e4.trans e5).upd fa,b5.new na,by rw[Zaj nar];exact e5 _ _ nr hr4,λb hbm=>?_,_,Zab,by rw[Jaj,hlx];rfl,λx hx=>?_⟩
     .have nb:b≠l:=hb.ne (hf b hbm);exact ((hro4 b hbm).ext b4 e5 nb).put ha5 (λz=>nas (z ▸ hbm))
     .rcases Jba.mp hx with hx|hx
      .exact ((hnx x hx).ext b4 e5).put ha5
      .rw [Ja3.mp hx];exact nv.put ha5
    have hsz:xs.length<sizeLine:=Zas (oz50 w24 hj hlx);refine Zaq l p ⟨rfl,b4,hp,λv x H5 e5 b5 nv iv bv=>?_⟩;refine b5.draw ⇑0 ⇑0 λy H6 y0 y1 e6 b6=>⟨y,rfl,Zci (λ_=>?_) (λ_=>?_)⟩
    .have ha6:=(e5.trans e6) _ _ na ha4;exact⟨.inl ⟨rfl,_,SqL.of ha6⟩,xs,ha6,hsz,_,_,⟨rfl,rfl⟩,step v H6 (e5.trans e6) b6 ⟨x,nv.ext b5 e6,iv,bd_of bv⟩⟩
    .have ha6:=(e5.trans e6) _ _ na ha4;refine⟨.inl ⟨rfl,_,SqL.of ha6⟩,p,0,rfl,hp,λv0 H7 s7 n0=>?_⟩;have ha7:=s7 _ _ ha6;exact⟨xs,ha7,hsz,_,_,⟨rfl,rfl⟩,step v0 H7 ((e5.trans e6).trans s7.ext) (b6.same s7) ⟨_,n0,Zc1 hp.lo,bd_i0 p⟩⟩
   .intro σ H4 e93;refine Zb9 e93 λu8 u9 xs e914 e4 b4 e915=>?_;clear e93;obtain rfl:=e914;refine Zc3 e915 λhr4 hro4 ha4 hlx hnx=>?_;clear e915;walk_at "wp";refine⟨.inl ⟨rfl,_,SqL.of hr4⟩,_,hr4,Zas (by rw[Jab];exact oz50 h24 hi hln),_,_,_,_,⟨rfl,rfl,rfl,rfl⟩,e4.upd fr,b4.new nr,rs++[a],?_,?_,?_,by rw[Jaj,hln];rfl,?_⟩
    .intro b hbm;rcases Jba.mp hbm with h|h
     .exact hf b h
     .rw [Ja3.mp h];exact fa
    .intro z;rcases Jba.mp z with h|h
     .exact nm h
     .exact nar (Ja3.mp h)
    .rw [Zab,Zba]
    .intro b hbm;rcases Jba.mp hbm with h|h
     .exact (hro4 b h).put hr4 (λz=>nm (z ▸ h))
     .rw [Ja3.mp h];exact RowO.put ⟨xs,ha4,oz48 w0 hlx,hnx⟩ hr4 nar.symm
  .intro σ H3 e94;refine Zg4 e94 λv6 v7 v8 v9 rs e916 e3 b3 e917=>?_;clear e94;obtain rfl:=e916;refine Zc3 e917 λhf nm hr3 hln hro=>?_;clear e917;exact q r rs H3 e3 b3 fr hf nm hr3 (oz48 h0 hln) hro
def NumG (H:Hp)(p:Int)(B:Nat)(v:V):Prop:=∃ x,NumV H p v x/\Isn p x/\BtN B x
theorem NumG.same {H H':Hp}{p:Int}{B:Nat}{v:V}(h:NumG H p B v)(s:Same H H'):NumG H' p B v:=let ⟨x,a,b,c⟩:=h;⟨x,a.same s,b,c⟩
theorem NumG.weak {H:Hp}{p:Int}{B B':Nat}{v:V}(h:NumG H p B v)(hB:B<=B'):NumG H p B' v:=let ⟨x,a,b,c⟩:=h;⟨x,a,b,c.le hB⟩
theorem NumG.ext {l:Addr}{H H':Hp}{p:Int}{B:Nat}{v:V}(h:NumG H p B v)(b:Bag H l)(e:Ext l H H'):NumG H' p B v:=let ⟨x,a,c,d⟩:=h;⟨x,a.ext b e,c,d⟩
theorem NumG.put {H:Hp}{D:Addr}{l:List V}{o:HO}{p:Int}{B:Nat}{v:V}(h:NumG H p B v)(hD:H D=some (.lst l)):NumG (upd H D o) p B v:=let ⟨x,a,b,c⟩:=h;⟨x,a.put hD,b,c⟩
def RowG (H:Hp)(p:Int)(B:Nat)(wd:Int)(a:Addr):Prop:=∃ xs,H a=some (.lst xs)/\(xs.length:Int)=wd/\∀ x∈xs,NumG H p B x
theorem RowG.same {H H':Hp}{p wd:Int}{B:Nat}{a:Addr}(h:RowG H p B wd a)(s:Same H H'):RowG H' p B wd a:=let ⟨xs,h1,h2,h3⟩:=h;⟨xs,s _ _ h1,h2,λx hx=>(h3 x hx).same s⟩
theorem RowG.weak {H:Hp}{p wd:Int}{B B':Nat}{a:Addr}(h:RowG H p B wd a)(hB:B<=B'):RowG H p B' wd a:=let ⟨xs,h1,h2,h3⟩:=h;⟨xs,h1,h2,λx hx=>(h3 x hx).weak hB⟩
theorem RowG.ext {l:Addr}{H H':Hp}{p wd:Int}{B:Nat}{a:Addr}(h:RowG H p B wd a)(b:Bag H l)(e:Ext l H H')(n:a≠l):RowG H' p B wd a:=let ⟨xs,h1,h2,h3⟩:=h;⟨xs,e _ _ n h1,h2,λx hx=>(h3 x hx).ext b e⟩
theorem RowG.put {H:Hp}{D:Addr}{l:List V}{o:HO}{p wd:Int}{B:Nat}{a:Addr}(h:RowG H p B wd a)(hD:H D=some (.lst l))(n:a≠D):RowG (upd H D o) p B wd a:=let ⟨xs,h1,h2,h3⟩:=h;⟨xs,by rw[Zaj n];exact h1,h2,λx hx=>(h3 x hx).put hD⟩
theorem rowG_of {H:Hp}{p wd:Int}{a:Addr}(h:RowO H p 127 wd a):RowG H p 7 wd a:=let ⟨xs,h1,h2,h3⟩:=h;⟨xs,h1,h2,λx hx=>let ⟨y,a,b,c⟩:=h3 x hx;⟨y,a,b,of_bd c⟩⟩
theorem Zld {H:Hp}{p hh wd:Int}{k:Nat}{t r:Addr}{rs:List Addr}(hl:(rs.length:Int)=hh)(w0:0<=wd)(ht:H t=some (.tup [.int hh,.int wd,.ref r]))(hr:H r=some (.lst (rs.map V.ref)))(ro:∀ a∈rs,RowG H p k wd a)(nin:r∉rs):∃ M,TabB H p k hh.toNat wd.toNat t r rs M:=by
 obtain⟨M,hM⟩:=All2.pick (xs:=rs) (P:=λa ys=>RowV H p a ys/\(ys.length:Int)=wd/\GoodB p k ys) λa ha=>by
  refine Zav (ro a ha) λxs h1 h2 h3=>?_;obtain⟨ys,hy⟩:=All2.pick (xs:=xs) (P:=λv y=>NumV H p v y/\Isn p y/\BtN k y) λv hv=>h3 v hv;refine⟨ys,⟨xs,h1,hy.mono λ_ _ z=>z.1⟩,by rw[<- hy.1];exact h2,λy m=>?_⟩;obtain⟨i,e⟩:=List.mem_iff_getElem?.mp m;refine Zae (hy.at (i:=i) e) λv _ z=>?_;exact⟨z.2.1,z.2.2⟩
 have row:∀ ys∈M,(ys.length:Int)=wd/\GoodB p k ys:=λys m=>by
  obtain⟨i,e⟩:=List.mem_iff_getElem?.mp m;refine Zae (hM.at (i:=i) e) λa _ z=>?_;exact z.2
 have h1:((hh.toNat:Nat):Int)=hh:=by exact oz155 hl
 have h2:((wd.toNat:Nat):Int)=wd:=by exact oz142 w0
 exact⟨M,⟨by rw[h1,h2];exact ht,hr,hM.mono λ_ _ z=>z.1,nin⟩,by rw[<- hM.1];exact oz107 hl,λys m=>by have:=(row ys m).1;exact oz107 this,λys m=>(row ys m).2⟩
def spTbG:L2.Sp:=λvs H Q _=>∃ (l:Addr) (p hh wd:Int),vs=[.ref l,.int p,.int hh,.int wd]/\Bag H l/\GroundP p/\0<=hh/\hh<=24/\0<=wd/\wd<=24 /\
 ∀ (t r:Addr) (rs:List Addr) (M:Mv) (H':Hp),Ext l H H'->Bag H' l->New H t r rs->TabB H' p 60 hh.toNat wd.toNat t r rs M->Q (.ref t) H'
theorem ok_tb (F:Fun K "_law_table" "_law_table" Zf9 f fd)(T:Txt K mg C G S)(Ybv:Cal P w K mg base "_law_rows" 4 Zpy)(Yaa:Cal P w K mg base "_law_draw" 1 Zc8)(Yai:Cal P w K mg base "_law_number" 2 (Zjw 7))(Yac:Cal P w K mg base "_law_mul" 3 (Zh8 Za8))(Yah:Cal P w K mg base "_law_add" 3 (Zh8 Zcz)):FnOk P w K mg base CX0 5 f fd ["_law_bag_here","_law_p","_law_high","_law_wide"] spTbG:=by
 have nd:=Zht.nd;refine F.ok Zht (λvs H Q E h=>?_) (λcdv A outer s H vs Q E hr h=>?_)
 .refine Zol h λl p hh wd e91 _=>?_;clear h;obtain rfl:=e91;rfl
 .refine Zb8 h λl p hh wd e92 hb hp e93=>?_;clear h;obtain rfl:=e92;refine Zc3 e93 λh0 h24 w0 w24 q=>?_;clear e93;refine⟨_,((4|||nd|||(Ybv<$>hr<$>((pvr 0)<&>((pvr 1)<&>((pvr 2)<&>((pvr 3)<&>Zaa))))))<*>((@Za6 _ _ _ _ _ _ _ _ (PW.pt (Zh0 (Zam (Zk9 Zd2) (pvr 2) Zac (Zak _)) (Zfc (Zam Zc7 (Yaa<$>hr<$>((pvr 0)<&>(Zac<&>Zaa))) Zac (Zak _))))) ((Zap (i:=5) nd rfl (Or.inr rfl) (Yai<$>hr<$>((pvr 0)<&>((pvr 1)<&>Zaa))))<*>((Zbk (Za3 (own:=["_law_number_here"]) (fr:=[("_law_p",1),("_law_a",5)]) rfl (Zbn (by kernel_rfl)) (Zbc (Zar<|>(pv 4)<||>Zac)) (λ_ _ _ _=>⟨(0<<<["_law_number_here","_law_p","_law_a"]),Zay,(Yac<$>hr<$>((pv 1)<&>((pv 2)<&>((pv 0)<&>Zaa))))⟩)) (Zer (pvr 4) (Zh9 Zel Zac) Zb7))<*>(@Zan _ _ _ (@Za6 _ _ _ _ _ _ _ _ (PW.pt (Zh0 (Zam (Zk9 Zd2) (pvr 2) Zac (Zak _)) (Zfc (Zam Zc7 (Yaa<$>hr<$>((pvr 0)<&>(Zac<&>Zaa))) Zac (Zak _))))) (@Zan _ _ _ (Zbk (Za3 (own:=["_law_b","_law_c"]) (fr:=[("_law_p",1)]) rfl (Zbn (by kernel_rfl)) (Zh2 rfl T.n_zip ((Zar<|>(pv 4)<||>(Zh9 Zel Zac))<&>((Zar<|>(pv 4)<||>Zac)<&>Zaa))) (λ_ _ _ _=>⟨(@Zcq _ K rfl _ _ _ _ 2 rfl ((0<<<["_law_b","_law_c","_law_p"])^^^((1<<<["_law_b","_law_c","_law_p"])^^^(@Za0 _))) ⇑1 ⇑1),Zay,(Yah<$>hr<$>((pv 2)<&>((pv 0)<&>((pv 1)<&>Zaa))))⟩)) (Zer (pvr 4) (Zh9 Zel Zac) Zb7))) Zal)))) Zal)<*>(~~~(@Zaw _ _ _ _ _ ((pvr 2)<&>((pvr 3)<&>((pvr 4)<&>Zaa))))))),?_⟩;walk_at "wp";refine Zjr l p hh wd ⟨rfl,hb,hp,h0,h24,w0,w24,λr rs H1 e1 b1 fr hf nin hr1 hln hro=>?_⟩;have nr:r≠l:=hb.ne fr;have fin:∀ (H2:Hp) (rs2:List Addr),Ext l H H2->Bag H2 l->H2 r=some (.lst (rs2.map V.ref))->(rs2.length:Int)=hh->(∀ a∈rs2,RowG H2 p 60 wd a)->r∉rs2->(∀ a∈rs2,H a=none)->
    (3<=sizeLine/\∀ t,H2 t=none->Q (.ref t) (upd H2 t (.tup [.int hh,.int wd,.ref r]))):=by
   intro H2 rs2 e2 b2 hr2 hl2 hro2 nin2 hf2;refine⟨⇑0,λt ht=>?_⟩;have nt:=b2.ne ht;have hr2':(upd H2 t (.tup [.int hh,.int wd,.ref r])) r=some (.lst (rs2.map V.ref)):=by rw[Zaj (Zah hr2 ht)];exact hr2
   obtain⟨M,tb⟩:=Zld (t:=t) hl2 w0 Zab hr2' (λa ha=>(hro2 a ha).same (Same.new ht)) nin2;exact q t r rs2 M _ (e2.trans (Ext.new ht)) (b2.new nt) ⟨e2.free nt ht,fr,hf2⟩ tb
  have hroB:∀ H2,Ext l H1 H2->∀ B:Nat,7<=B->∀ a∈rs,RowG H2 p B wd a:=λH2 e2 B hB a ha=>((rowG_of (hro a ha)).ext b1 e2 (hb.ne (hf a ha))).weak hB;refine Zci (λhc1=>?_) (λ_=>fin H1 rs e1 b1 hr1 hln (hroB H1 (Ext.refl _ _) 60 ⇑0) nin hf);have hc1:=Jat hc1;refine b1.draw ⇑0 ⇑0 λz H2 z0 z1 e2 b2=>⟨rfl,Zci (λ_=>?_) (λ_=>fin H2 rs (e1.trans e2) b2 (e2 _ _ nr hr1) hln (hroB H2 e2 60 ⇑0) nin hf)⟩
  refine Zaq l p ⟨rfl,b2,hp,λva x H3 e3 b3 na ia ba=>?_⟩;have hr3:=(e2.trans e3) _ _ nr hr1;have hro3:=hroB H3 (e2.trans e3) 7 ⇑0;have hn0:0<rs.length:=∅
  refine Zav (hro3 (rs[0]) (Jap hn0)) λxs0 hx0 lx0 nx0=>?_;refine⟨_,rfl,r,_,0,_,rfl,rfl,SqL.of hr3,Zb0 ⇑0 (Zgt hn0),_,rfl,⟨_,SqL.of hx0⟩,λD hD=>Zuy (λH y=>NumG H p 21 y) (λh s=>h.same s) (λh e=>h.put e) hx0 hD (oz56 w24 lx0) (λi y H' Q' hy s' q'=>?_) λys H4 s4 hD4 ly hys=>?_⟩
  .refine Zav (nx0 y (Jae hy)) λxy ny iy byy=>?_;exact⟨_,rfl,_,rfl,_,rfl,p,va,y,x,xy,rfl,hp,⟨na.same s',ny.same s',ia,iy,7,7,ba.1,ba.2,byy.1,byy.2,⇑0⟩,λv H5 s5 n5=>q' v H5 s5 ⟨_,n5,Zbb hp.lo ia iy,Zkj hp ia iy ba byy⟩⟩
  have hr4:=s4 _ _ hr3;have nDl:D≠l:=b3.ne hD;have fD:H D=none:=((e1.trans e2).trans e3).free nDl hD;have nDr:r≠D:=Zah hr3 hD;refine⟨r,rfl,_,hr4,_,Zig (by rw[Jab];exact hn0),?_⟩;rw[Jab,Zd5];have b4:=b3.same s4;have e4:Ext l H H4:=((e1.trans e2).trans e3).trans s4.ext;have e5:Ext l H (upd H4 r (.lst ((rs.set (rs.length-1) D).map V.ref))):=e4.upd fr;have b5:Bag (upd H4 r (.lst ((rs.set (rs.length-1) D).map V.ref))) l:=b4.new nr;have ro5:∀ a∈rs.set (rs.length-1) D,RowG (upd H4 r (.lst ((rs.set (rs.length-1) D).map V.ref))) p 21 wd a:=λa ha=>by
   rcases Jar ha with ha|rfl
   .exact (((hro3 a ha).same s4).weak ⇑0).put hr4 (λz=>nin (z ▸ ha))
   .exact RowG.put ⟨ys,hD4,oz18 lx0 ly,hys⟩ hr4 nDr.symm
  have nin5:r∉rs.set (rs.length-1) D:=λz=>by
   rcases Jar z with z|z
   .exact nin z
   .exact nDr z
  have hf5:∀ a∈rs.set (rs.length-1) D,H a=none:=λa ha=>by
   rcases Jar ha with ha|rfl
   .exact hf a ha
   .exact fD
  have ln5:((rs.set (rs.length-1) D).length:Int)=hh:=by rw[Jav];exact hln
  have r5:(upd H4 r (.lst ((rs.set (rs.length-1) D).map V.ref))) r=some (.lst ((rs.set (rs.length-1) D).map V.ref)):=Zab;generalize upd H4 r (.lst ((rs.set (rs.length-1) D).map V.ref))=H5 at *;generalize rs.set (rs.length-1) D=rs5 at *;refine Zci (λhc2=>?_) (λ_=>fin H5 rs5 e5 b5 r5 ln5 (λa ha=>(ro5 a ha).weak ⇑0) nin5 hf5);have hc2:=Jat hc2;refine b5.draw ⇑0 ⇑0 λz2 H6 _ _ e6 b6=>⟨rfl,Zci (λ_=>?_) (λ_=>fin H6 rs5 (e5.trans e6) b6 (e6 _ _ nr r5) ln5 (λa ha=>((ro5 a ha).ext b5 e6 (hb.ne (hf5 a ha))).weak ⇑0) nin5 hf5)⟩
  have r6:=e6 _ _ nr r5;have ro6:∀ a∈rs5,RowG H6 p 21 wd a:=λa ha=>(ro5 a ha).ext b5 e6 (hb.ne (hf5 a ha));have hn5:0<rs5.length:=by exact oz165 ln5 hc2
  have hn1:1<rs5.length:=by exact oz144 ln5 hc2
  refine Zav (ro6 (rs5[rs5.length-1]'(oz108 ln5 hc2)) (Jap _)) λxa hxa lxa nxa=>?_;refine Zav (ro6 (rs5[1]) (Jap hn1)) λxb hxb lxb nxb=>?_;refine⟨_,rfl,_,rfl,r,_,-1,_,rfl,rfl,SqL.of r6,Zsi hn5,_,rfl,r,_,1,_,rfl,rfl,SqL.of r6,Zb0 ⇑0 (Zgt hn1),_,_,rfl,⟨_,SqL.of hxa⟩,⟨_,SqL.of hxb⟩,λD2 hD2=>Zo7 (λH y=>NumG H p 60 y) (λh s=>h.same s) (λh e=>h.put e) hxa hxb (oz80 lxa lxb) hD2 (oz56 w24 lxa) (λi y u H' Q' hy hu s' q'=>?_) λys2 H7 s7 hD7 ly2 hys2=>?_⟩
  .refine Zav (nxa y (Jae hy)) λxy ny iy byy=>?_;refine Zav (nxb u (Jae hu)) λxu nu iu bu=>?_;exact⟨_,rfl,_,rfl,_,rfl,p,y,u,xy,xu,rfl,hp,⟨ny.same s',nu.same s',iy,iu,21,21,byy.1,byy.2,bu.1,bu.2,⇑0⟩,λv H8 s8 n8=>q' v H8 s8 ⟨_,n8,Zfn hp.lo iy iu,(Zij hp iy iu byy bu ⇑0).le ⇑0⟩⟩
  have r7:=s7 _ _ r6;have nDl2:D2≠l:=b6.ne hD2;have fD2:H D2=none:=(e5.trans e6).free nDl2 hD2;have nDr2:r≠D2:=Zah r6 hD2;refine⟨r,rfl,_,r7,_,Zig (by rw[Jab];exact hn5),?_⟩;rw[Jab,Zd5];refine fin _ (rs5.set (rs5.length-1) D2) (((e5.trans e6).trans s7.ext).upd fr) ((b6.same s7).new nr) Zab (by rw[Jav];exact ln5) (λa ha=>?_) (λz=>?_) (λa ha=>?_)
  .rcases Jar ha with ha|rfl
   .exact (((ro6 a ha).same s7).weak ⇑0).put r7 (λz=>nin5 (z ▸ ha))
   .exact RowG.put ⟨ys2,hD7,oz18 lxa ly2,hys2⟩ r7 nDr2.symm
  .rcases Jar z with z|z
   .exact nin5 z
   .exact nDr2 z
  .rcases Jar ha with ha|rfl
   .exact hf5 a ha
   .exact fD2
end
end Pf
namespace Pf
open PySem L2 L3 PyProof.Rows
def Zpd (p:Int)(n:Nat)(M:Mv):Prop:=∀ (F:Type) [Lean.Grind.Field F],FdOk p F->∃ U:Nat->Nat->F,∀ i j,i<n->j<n->sm n (λt=>U i t*vN (M.getD t []) j)=del i j
section
variable {p:Int}{n:Nat}{M:Mv}
theorem vN_set {F:Type}[Lean.Grind.Field F]{M:Mv}{a t:Nat}{row:List Nv}(ha:a<M.length)(j:Nat):(vN ((M.set a row).getD t []) j:F)=if t=a then vN row j else vN (M.getD t []) j:=by
 rw[Jac,Jcd];by_cases q:a=t
 .rw [if_pos q,if_pos ha,if_pos q.symm];rfl
 .rw [if_neg q,if_neg (λz=>q z.symm),<- Jac]
theorem Zoa {a:Nat}{row:List Nv}(ha:a<n)(hl:M.length=n)(iv:Zpd p n M)(h:∀ (F:Type) [Lean.Grind.Field F],FdOk p F->∀ U:Nat->Nat->F,(∀ i j,i<n->j<n->sm n (λt=>U i t*vN (M.getD t []) j)=del i j)->∃ U':Nat->Nat->F,∀ i j,i<n->j<n->sm n (λt=>U' i t*(if t=a then vN row j else vN (M.getD t []) j))=del i j):Zpd p n (M.set a row):=λF _ hF=>by
 obtain⟨U,hU⟩:=iv F hF;obtain⟨U',hU'⟩:=h F hF U hU;refine⟨U',λi j hi hj=>?_⟩;rw[<- hU' i j hi hj];exact Zai λt _=>by rw[vN_set (Zh3 ha hl)]
theorem Zrn {a:Nat}{u:Nv}{row:List Nv}(ha:a<n)(hl:M.length=n)(iv:Zpd p n M)(hu:∀ (F:Type) [Lean.Grind.Field F],FdOk p F->(nm u:F)≠0)(hr:∀ (F:Type) [Lean.Grind.Field F],FdOk p F->∀ j,j<n->(vN row j:F)=nm u*vN (M.getD a []) j):Zpd p n (M.set a row):=
 Zoa ha hl iv λF _ hF U hU=>⟨λi t=>if t=a then U i t / nm u else U i t,λi j hi hj=>by
  rw[<- hU i j hi hj];refine Zai λt ht=>?_;have u0:=hu F hF;show (if t=a then U i t / nm u else U i t)*(if t=a then vN row j else vN (M.getD t []) j)=_;by_cases q:t=a
  .subst q;rw[if_pos rfl,if_pos rfl,hr F hF j hj];generalize (nm u:F)=y at *
   grind
  .rw [if_neg q,if_neg q]⟩
theorem inv_add {a b:Nat}{u:Nv}{row:List Nv}(ha:a<n)(hb:b<n)(hab:a≠b)(hl:M.length=n)(iv:Zpd p n M)(hr:∀ (F:Type) [Lean.Grind.Field F],FdOk p F->∀ j,j<n->(vN row j:F)=vN (M.getD a []) j+nm u*vN (M.getD b []) j):Zpd p n (M.set a row):=
 Zoa ha hl iv λF _ hF U hU=>⟨λi t=>if t=b then U i b-nm u*U i a else U i t,λi j hi hj=>by
  rw[<- hU i j hi hj];have e:∀ t,t<n->(if t=b then U i b-nm u*U i a else U i t)*(if t=a then vN row j else vN (M.getD t []) j)=U i t*vN (M.getD t []) j+((if t=a then U i t*(nm u*vN (M.getD b []) j) else 0)+(if t=b then -(nm u*U i a*vN (M.getD t []) j) else 0)):=λt ht=>by
   by_cases q:t=a
   .subst q;rw[if_neg hab,if_pos rfl,if_pos rfl,if_neg hab,hr F hF j hj]
    grind
   .rw [if_neg q,if_neg q];by_cases q2:t=b
    .subst q2;rw[if_pos rfl,if_pos rfl]
     grind
    .rw [if_neg q2,if_neg q2]
     grind
  rw[Zai e,Zho,Zho,Zhn (λt=>U i t*(nm u*vN (M.getD b []) j)) ha,Zhn (λt=>-(nm u*U i a*vN (M.getD t []) j)) hb]
  grind⟩
end
section
variable {C PL:Addr}
def Zos:L2.Sp:=λvs H Q _=>∃ p n:Int,vs=[.int p,.int n]/\GroundP p/\0<=n/\n<=24/\∀ t r rs H',Same H H'->New H t r rs->TabV H' p n n t r rs (Zbo n.toNat)->Q (.ref t) H'
theorem ok_plC (F:Fun K "_law_plain" "_law_plain" Zga f fd)(T:Txt K mg C G S)(Yae:Cal P w K mg base "_law_int" 1 Zot):FnOk P w K mg base CX0 2 f fd ["_law_p","_law_many"] Zos:=by
 have nd:=Zhu.nd;refine F.ok Zhu (λvs H Q E h=>?_) (λcdv A outer s H vs Q E hr h=>?_)
 .refine Zbd h λp n e93 _=>?_;clear h;obtain rfl:=e93;rfl
 .refine Zki h λp n e94 hp n0 n24 q=>?_;clear h;obtain rfl:=e94;refine⟨_,(~~~(@Zaw _ _ _ _ _ ((pvr 1)<&>((pvr 1)<&>((Za3 (own:=["_law_i"]) (fr:=[("_law_many",1),("_law_p",0)]) rfl (Zbn (by kernel_rfl)) (Zfe rfl T.n_range ((pv 1)<&>Zaa)) (λ_ _ _ _=>⟨(@Zad _ _ 0 _ (show (["_law_i","_law_many","_law_p"]:List Str).Nodup by decide +kernel) rfl (Or.inr rfl) (Or.inl rfl)),Zay,(Za3 (own:=["_law_j"]) (fr:=[("_law_p",2),("_law_i",0)]) rfl (Zbn (by kernel_rfl)) (Zfe rfl T.n_range ((pv 1)<&>Zaa)) (λ_ _ _ _=>⟨(0<<<["_law_j","_law_p","_law_i"]),Zay,(Yae<$>hr<$>((pv 1)<&>((Zjg Zjp rfl T.n_int boot_int ((Zcg Zc7 (pv 2) (pv 0) (Zak _))<&>Zaa))<&>Zaa)))⟩))⟩))<&>Zaa))))),?_⟩;walk_at "wp";refine⟨_,rfl,n,rfl,Zmz n0,Zow n24,λD hD=>Zq9 (p:=p) (λi=>eR n.toNat i) hD (oz140 n24) (λi H' Q' hi s' q'=>?_) λrs H3 s3 hD3 al3 nD nds fr=>?_⟩
  .refine ⟨_,rfl,n,rfl,Zmz n0,Zow n24,λE1 hE1=>Zl3 (λj Hc y=>NumV Hc p y (if i=j then (1,1) else (0,1))) (λk s=>k.same s) (λk hD=>k.put hD) hE1 (oz140 n24) (λj Hc Qc hj sc _ qc=>?_) λys Hc sc ec yl yn=>?_⟩
   .simp only [Zbm];walk_at "wp";refine⟨_,rfl,_,rfl,rfl,p,_,rfl,hp,λv Hd sd nv=>qc v Hd sd ?_⟩;by_cases h:i=j
    .subst h;rw[if_pos rfl];rw[Jah rfl,if_pos rfl] at nv;have e:Zgs p 1=(1,1):=Zk0 hp;rwa [e] at nv
    .rw [if_neg h];rw[Jay (λz=>h (by have:=V.int.inj z;omega)),if_neg ⇑0] at nv;rwa [Zd3] at nv
   .refine q' E1 Hc hE1 sc ⟨ys,ec,by rw[Jav,Ja8];omega,λk y x f1 f2=>?_⟩;have nk:=yn k y f1;have hk:k<n.toNat:=by have:=(Jaf.mp f1).1;omega
    rw[Jcd,Jby,if_pos hk] at f2;by_cases h:i=k
    .subst h;rw[if_pos rfl] at nk f2;rw[if_pos (by rw[Ja8];exact hk)] at f2;cases f2;exact nk
    .rw [if_neg h] at nk f2;cases f2;exact nk
  .refine ⟨⇑0,λt ht=>?_⟩;have s5:=Same.new (o:=.tup [V.int n,V.int n,V.ref D]) ht;exact q t D rs _ (s3.trans s5) ⟨s3.free ht,hD,fr⟩ ⟨Zab,s5 _ _ hD3,al3.mono λ_ _ q=>q.same s5,nD⟩
theorem Zdr {α:Type}{xs:List α}{k:Nat}{y z:α}(h:z∈xs.set k y):z=y\/z∈xs:=by
 rcases Jar h with h|h
 .exact .inr h
 .exact .inl h
structure ChG (H0 H:Hp)(p:Int)(n b:Nat)(r:Addr)(rs:List Addr)(M:Mv):Prop where
 lst:H r=some (.lst (rs.map V.ref))
 row:All2 (RowV H p) rs M
 nin:r∉rs
 fr:∀ a∈rs,H0 a=none
 hl:M.length=n
 hw:∀ xs∈M,xs.length=n
 gd:∀ xs∈M,GoodB p b xs
 iv:Zpd p n M
theorem GoodB.le {p:Int}{b b':Nat}{xs:List Nv}(h:GoodB p b xs)(hb:b<=b'):GoodB p b' xs:=λx hx=>⟨(h x hx).1,(h x hx).2.1.le hb,(h x hx).2.2.le hb⟩
theorem ChG.same {H0 H H':Hp}{p:Int}{n b:Nat}{r:Addr}{rs:List Addr}{M:Mv}(h:ChG H0 H p n b r rs M)(s:Same H H'):ChG H0 H' p n b r rs M:=⟨s _ _ h.lst,h.row.mono λ_ _ q=>q.same s,h.nin,h.fr,h.hl,h.hw,h.gd,h.iv⟩
theorem ChG.le {H0 H:Hp}{p:Int}{n b b':Nat}{r:Addr}{rs:List Addr}{M:Mv}(h:ChG H0 H p n b r rs M)(hb:b<=b'):ChG H0 H p n b' r rs M:=⟨h.lst,h.row,h.nin,h.fr,h.hl,h.hw,λxs hx=>(h.gd xs hx).le hb,h.iv⟩
theorem ChG.ext {l:Addr}{H0 H H':Hp}{p:Int}{n b:Nat}{r:Addr}{rs:List Addr}{M:Mv}(h:ChG H0 H p n b r rs M)(b0:Bag H0 l)(b1:Bag H l)(e:Ext l H H')(nr:r≠l):ChG H0 H' p n b r rs M:=
 ⟨e _ _ nr h.lst,h.row.monoM λa xs ha q=>q.ext b1 e (b0.ne (h.fr a ha)),h.nin,h.fr,h.hl,h.hw,h.gd,h.iv⟩
theorem ChG.put {H0 H:Hp}{p:Int}{n b b' k:Nat}{r D:Addr}{rs:List Addr}{M:Mv}{row:List Nv}(h:ChG H0 H p n b r rs M)(hb:b<=b')(rv:RowV H p D row)(rl:row.length=n)(rg:GoodB p b' row)(iv:Zpd p n (M.set k row))(nD:D≠r)(fD:H0 D=none):ChG H0 (upd H r (.lst ((rs.map V.ref).set k (.ref D)))) p n b' r (rs.set k D) (M.set k row):=by
 refine⟨by rw[Zab,Zd5],(h.row.monoM λa xs ha q=>q.put h.lst (λz=>h.nin (z ▸ ha))).set k (rv.put h.lst nD),λz=>?_,λa ha=>?_,by rw[Jav];exact h.hl,λxs hx=>?_,λxs hx=>?_,iv⟩
 .rcases Zdr z with e|e
  .exact nD e.symm
  .exact h.nin e
 .rcases Zdr ha with e|e
  .rw [e];exact fD
  .exact h.fr a e
 .rcases Zdr hx with e|e
  .rw [e];exact rl
  .exact h.hw xs e
 .rcases Zdr hx with e|e
  .rw [e];exact rg
  .exact (h.gd xs e).le hb
theorem ChG.tabB {H0 H:Hp}{p:Int}{n b:Nat}{t r:Addr}{rs:List Addr}{M:Mv}(h:ChG H0 H p n b r rs M)(ht:H t=some (.tup [.int n,.int n,.ref r])):TabB H p b n n t r rs M:=⟨⟨ht,h.lst,h.row,h.nin⟩,h.hl,h.hw,h.gd⟩
theorem nz_nm {p:Int}{u:Nv}(hp:GroundP p)(h:Isn p u)(h0:u.1≠0):∀ (F:Type) [Lean.Grind.Field F],FdOk p F->(nm u:F)≠0:=λF _ hF z=>by
 have e:=hF.inj h (Zly hp).1 (by rw[z,hF.one,Zhl]);exact h0 (by rw[e])
abbrev cB (i:Nat):Nat:=22*2 ^ i-8
theorem cB_next (i:Nat):14<=cB i/\cB (i+1)=2*cB i+8:=by
 have:1<=2 ^ i:=Nat.one_le_two_pow;refine⟨by show 14<=22*2 ^ i-8;omega,?_⟩;show 22*2 ^ (i+1)-8=2*(22*2 ^ i-8)+8;rw[Nat.pow_succ];exact oz81 this
theorem mod_ne {a d n:Int}(a0:0<=a)(a1:a<n)(d0:0<=d)(d1:d<n-1):0<=(a+1+d) % n/\(a+1+d) % n<n/\(a+1+d) % n≠a:=by
 refine⟨Jbl _ ∅,Ja7 _ ∅,?_⟩;by_cases h:a+1+d<n
 .rw [Jb0 ∅ h];omega
 .have:(a+1+d) % n=(a+1+d-n) % n:=by rw[<- Int.sub_emod_right]
  rw[this,Jb0 ∅ ∅];omega
def spChg:L2.Sp:=λvs H Q _=>∃ (l:Addr) (p n:Int),vs=[.ref l,.int p,.int n]/\Bag H l/\GroundP p/\0<=n/\n<=24/\∀ t r rs M H',Ext l H H'->Bag H' l->New H t r rs->H' t=some (.tup [.int n,.int n,.ref r])->ChG H H' p n.toNat 80 r rs M->Q (.ref t) H'
theorem ok_chg (F:Fun K "_law_change" "_law_change" Ze9 f fd)(T:Txt K mg C G S)(Yag:Cal P w K mg base "_law_plain" 2 Zos)(Ybf:Cal P w K mg base "_law_nonzero" 2 spNzF)(Yac:Cal P w K mg base "_law_mul" 3 (Zh8 Za8))(Yaa:Cal P w K mg base "_law_draw" 1 Zc8)(Yai:Cal P w K mg base "_law_number" 2 (Zjw 7))(Yah:Cal P w K mg base "_law_add" 3 (Zh8 Zcz)):FnOk P w K mg base CX0 4 f fd ["_law_bag_here","_law_p","_law_size"] spChg:=by
 have nd:=Zgo.nd;refine F.ok Zgo (λvs H Q E h=>?_) (λcdv A outer s H vs Q E hr h=>?_)
 .refine Zf3 h λl p n e95 _=>?_;clear h;obtain rfl:=e95;rfl
 .refine Zb9 h λl p n e96 hb hp e97=>?_;clear h;obtain rfl:=e96;refine Za2 e97 λn0 n24 q=>?_;clear e97;refine⟨_,((Zbk (Yag<$>hr<$>((pvr 1)<&>((pvr 2)<&>Zaa))) (@Zbv _ _ _ _ _ 3 rfl ((3>>>nd)^^^((4>>>nd)^^^((5>>>nd)^^^(@Za0 _)))) ⇑1 ⇑1))<*>((@Za6 _ _ _ _ _ _ _ _ (Zam (Zk9 Zd2) (pvr 2) Zac (Zak _)) ((Zap (i:=6) nd rfl (Or.inr rfl) (Ybf<$>hr<$>((pvr 0)<&>((pvr 1)<&>Zaa))))<*>(@Zan _ _ _ (Zbk (Za3 (own:=["_law_number_here"]) (fr:=[("_law_p",1),("_law_a",6)]) rfl (Zbn (by kernel_rfl)) (Zbc (Zar<|>(pv 5)<||>Zac)) (λ_ _ _ _=>⟨(0<<<["_law_number_here","_law_p","_law_a"]),Zay,(Yac<$>hr<$>((pv 1)<&>((pv 2)<&>((pv 0)<&>Zaa))))⟩)) (Zer (pvr 5) Zac Zb7)))) Zal)<*>((Zck Ja5 rfl (Zfe rfl T.n_range ((Zkb<|>Zac<&&>(Zjg Zjp rfl T.n_int boot_int ((Zcg Zd2 (pv 2) Zac (Zak _))<&>Zaa)))<&>Zaa)) (7>>>nd) ((8|||nd|||(Yaa<$>hr<$>((pvr 0)<&>((pvr 2)<&>Zaa))))<*>((9|||nd|||(Zcw<|>(Zdg<|>((Zk9 Zdg)<|>(pvr 8)<&&>Zac)<&&>(Yaa<$>hr<$>((pvr 0)<&>(((Zk9 Zff)<|>(pvr 2)<&&>Zac)<&>Zaa))))<&&>(pvr 2)))<*>((Zap (i:=6) nd rfl (Or.inr rfl) (Yai<$>hr<$>((pvr 0)<&>((pvr 1)<&>Zaa))))<*>(@Zan _ _ _ (Zbk (Za3 (own:=["_law_b","_law_c"]) (fr:=[("_law_p",1),("_law_a",6)]) rfl (Zbn (by kernel_rfl)) (Zh2 rfl T.n_zip ((Zar<|>(pv 5)<||>(pv 8))<&>((Zar<|>(pv 5)<||>(pv 9))<&>Zaa))) (λ_ _ _ _=>⟨(@Zcq _ K rfl _ _ _ _ 2 rfl ((0<<<["_law_b","_law_c","_law_p","_law_a"])^^^((1<<<["_law_b","_law_c","_law_p","_law_a"])^^^(@Za0 _))) ⇑1 ⇑1),Zay,(Yah<$>hr<$>((pv 2)<&>((pv 0)<&>((Yac<$>hr<$>((pv 2)<&>((pv 3)<&>((pv 1)<&>Zaa))))<&>Zaa))))⟩)) (Zer (pvr 5) (pvr 8) Zb7)))))))<*>(~~~(@Zaw _ _ _ _ _ ((pvr 3)<&>((pvr 4)<&>((pvr 5)<&>Zaa)))))))),?_⟩;refine Zd4 λX hX=>?_;walk_at "wp";refine Zaq p n ⟨rfl,hp,n0,n24,λt r rs H1 s1 nw tv=>⟨t,rfl,_,SqT.of tv.tup,rfl,_,_,rfl,_,_,rfl,_,_,rfl,rfl,?_⟩⟩;have nr:r≠l:=hb.ne nw.r;have c0:ChG H H1 p n.toNat 7 r rs (Zbo n.toNat):=⟨tv.lst,tv.row,tv.nin,nw.rs,by unfold Zbo;rw[Jab,Jal],λxs hx=>(Zcs hp n.toNat).2 xs hx,λxs hx x hxx=>?_,λF _ hF=>⟨λi t=>if t=i then 1 else 0,λi j hi hj=>?_⟩⟩
  rotate_left
  .have h01:=Zly hp;refine Zae (Jaz.mp hx) λj _ e98=>?_;obtain rfl:=e98;rcases Zdr hxx with e|e
   .rw [e];exact⟨h01.2,by unfold Bt;decide,by unfold Bt;decide⟩
   .rw [(Jea.mp e).2];exact⟨h01.1,by unfold Bt;decide,by unfold Bt;decide⟩
  .show sm n.toNat (λt=>(if t=i then 1 else 0)*vN ((Zbo n.toNat).getD t []) j)=_;rw[Zvg (λt=>vN ((Zbo n.toNat).getD t []) j) hi,Zez hi hj]
  have b1:=hb.same s1;subst hX;refine Zd4 λY hY=>?_;have aft:∀ (v6:Option V) (rs:List Addr) (M:Mv) (H2:Hp),Ext l H H2->Bag H2 l->ChG H H2 p n.toNat 14 r rs M->Y { nx:=λx H'=>Q V.non H',rt:=Q } [some (.ref l),some (.int p),some (.int n),some (.int n),some (.int n),some (.ref r),v6,none,none,none] H2:=by
   intro v6 rs M H2 e2 b2 ch;subst hY;refine Zd4 λX hX=>?_;refine cutF λY hY=>?_;have cnt:∃ c:Int,(if decide (1<n)=true then (1:Int) else 0)=c/\0<=c/\c<=1/\(c=1->1<n):=by
    by_cases h:1<n
    .exact ⟨1,by rw[Jah h];rfl,⇑0,⇑0,λ_=>h⟩
    .exact ⟨0,by rw[Jay h];rfl,⇑0,⇑0,λz=>by cases z⟩
   refine Zom cnt λc ec c0 c1 cn=>?_;clear cnt;refine⟨_,rfl,_,_,rfl,rfl,.inr ⟨_,rfl,?_⟩⟩;rw[ec];refine Zaq _ _ ⟨rfl,rfl,.inl ⟨∅,∅⟩,_,rfl,∅,∅,?_⟩;refine Zby (λi σ H3=>∃ (v6 v7 v8 v9:Option V) (rs:List Addr) (M:Mv),σ=[some (.ref l),some (.int p),some (.int n),some (.int n),some (.int n),some (.ref r),v6,v7,v8,v9]/\Ext l H H3/\Bag H3 l/\ChG H H3 p n.toNat (cB i) r rs M) ⟨v6,none,none,none,rs,M,rfl,e2,b2,ch⟩ ?_ ?_
   .intro i σ H3 hi e91;refine Zlb e91 λv6 v7 v8 v9 rs M e99 e3 b3 ch=>?_;clear e91;obtain rfl:=e99;refine Zpc λD2 hD2=>?_;have c1':c=1:=∅
    have hn:=cn c1';have i2:i<=1:=∅
    have bi:cB i<=36:=by
     have:i=0\/i=1:=by exact oz122 i2
     rcases this with rfl|rfl <;> decide
    obtain⟨lo14,nxt⟩:=cB_next i;simp only[Zbe,List.set_cons_zero,List.set_cons_succ];subst hY;refine Zd4 λY hY=>?_;walk_at "wp";refine b3.draw (Zmy hn) ∅ λa H4 a0 a1 e4 b4=>?_;have c4:=ch.ext hb b3 e4 nr;subst hY;refine Zd4 λY hY=>?_;walk_at "wp";refine b4.draw ∅ ∅ λd H5 d0 d1 e5 b5=>?_;have c5:=c4.ext hb b4 e5 nr;refine Za2 (mod_ne a0 a1 d0 d1) λb0 b1' nab=>?_;refine⟨_,rfl,Zmy hn,?_⟩;generalize (a+1+d) % n=b at *;subst hY;refine Zd4 λY hY=>?_;walk_at "wp";refine Zaq l p ⟨rfl,b5,hp,λvu u H6 e6 b6 nu iu bu=>?_⟩;have c6:=c5.ext hb b5 e6 nr;have e06:Ext l H H6:=((e3.trans e4).trans e5).trans e6;clear c4 c5 e4 e5 e6 b4 b5 ch;subst hY;have ha':a.toNat<n.toNat:=by exact oz92 hn a1
    have hb':b.toNat<n.toNat:=by exact oz36 b1' ha'
    have hab:a.toNat≠b.toNat:=by exact oz26 a0 b0 nab
    have rl:=c6.row.1;have ml:=c6.hl;have eA:rs[a.toNat]?=some (rs[a.toNat]'(oz4 ha' rl ml)):=Jaa _;have eB:rs[b.toNat]?=some (rs[b.toNat]'(oz4 hb' rl ml)):=Jaa _;refine Zae (c6.row.at' eA) λxa fa e910=>?_;obtain⟨va,hva,ala⟩:=e910;refine Zae (c6.row.at' eB) λxb fb e911=>?_;obtain⟨vb,hvb,alb⟩:=e911;have wa:=c6.hw xa (Jae fa);have wb:=c6.hw xb (Jae fb);have ga:=c6.gd xa (Jae fa);have gb:=c6.gd xb (Jae fb);generalize hAdr:rs[a.toNat]'(oz4 ha' rl ml)=A at *;generalize hBdr:rs[b.toNat]'(oz4 hb' rl ml)=B at *;have atA:atI (rs.map V.ref) a=some (.ref A):=Zb0 a0 (by rw[Jad,eA];rfl);have atB:atI (rs.map V.ref) b=some (.ref B):=Zb0 b0 (by rw[Jad,eB];rfl);have ixA:ixN (rs.map V.ref).length a=some a.toNat:=by
     have:=Zui (n:=(rs.map V.ref).length) (k:=a.toNat) (by rw[Jab];exact oz4 ha' rl ml);rwa [Jbf a0] at this
    walk_at "wp";refine⟨_,rfl,_,rfl,r,_,a,_,rfl,rfl,SqL.of c6.lst,atA,_,rfl,_,rfl,r,_,b,_,rfl,rfl,SqL.of c6.lst,atB,A,B,rfl,⟨_,SqL.of hva⟩,⟨_,SqL.of hvb⟩,λD hD=>?_⟩;refine Zgw (λj Hc y=>NumV Hc p y (Zcz p (xa.getD j (0,1)) (Za8 p u (xb.getD j (0,1))))) (λk s=>k.same s) (λk hD=>k.put hD) hva hvb (by rw[ala.1,alb.1];omega) hD (by rw[ala.1];omega) (λj v v' Hc Qc hv hv' sc _ qc=>?_) λys H8 s8 e8 yl hys=>?_
    .refine Zae (ala.at' hv) λx ex nx=>?_;refine Zae (alb.at' hv') λx' ex' nx'=>?_;have gx:=ga x (Jae ex);have gx':=gb x' (Jae ex');have bt:=Zdm hp iu gx'.1 bu gx'.2 oz98;rw[Zao ex,Zao ex'] at qc;simp only[Zbm];walk_at "wp";refine⟨_,rfl,_,rfl,_,rfl,p,vu,v',u,x',rfl,hp,⟨nu.same sc,nx'.same sc,iu,gx'.1,7,cB i,bu.1,bu.2,gx'.2.1,gx'.2.2,∅⟩,λw1 He se nw1=>⟨p,v,w1,x,_,rfl,hp,⟨(nx.same sc).same se,nw1,gx.1,Zbb hp.lo iu gx'.1,cB i,7+cB i,gx.2.1,gx.2.2,bt.1,bt.2,∅⟩,λw2 Hf sf nw2=>qc w2 Hf (se.trans sf) nw2⟩⟩
    .have rv:RowV H8 p D ((List.range n.toNat).map λj=>Zcz p (xa.getD j (0,1)) (Za8 p u (xb.getD j (0,1)))):=⟨ys,e8,by rw[yl,Jab,Jal,ala.1];exact wa,λk y x f1 f2=>by
      have hk:k<n.toNat:=by have:=(Jaf.mp f1).1;have:=ala.1;omega
      rw[Jad,Jas hk] at f2;cases f2;exact hys k y f1⟩
     have c8:=c6.same s8;refine⟨_,c8.lst,a.toNat,ixA,?_⟩;subst hD2;refine Zsr _ _ _ _ (rs.set a.toNat D) (M.set a.toNat ((List.range n.toNat).map λj=>Zcz p (xa.getD j (0,1)) (Za8 p u (xb.getD j (0,1))))) ⟨rfl,(e06.trans s8.ext).upd nw.r,(b6.same s8).new nr,c8.put (oz163 nxt) rv (by rw[Jab,Jal]) (λx hx=>?_) (inv_add (b:=b.toNat) (u:=u) ha' hb' hab ml c6.iv λF _ hF j hj=>?_) (Zah c6.lst hD).symm (e06.free (b6.ne hD) hD)⟩
     .refine Zae (Jaz.mp hx) λj hj e912=>?_;obtain rfl:=e912;have hj:=Ja0.mp hj;have g1:=ga _ (Zaz (d:=(0,1)) (show j<xa.length by exact oz5 wa hj));have g2:=gb _ (Zaz (d:=(0,1)) (show j<xb.length by exact oz5 wb hj));have bt:=Zij hp g1.1 (Zbb hp.lo iu g2.1) g1.2 (Zdm hp iu g2.1 bu g2.2 oz98) ∅;exact⟨Zfn hp.lo g1.1 (Zbb hp.lo iu g2.1),bt.le (oz178 nxt)⟩
     .rw [Zao fa,Zao fb,Zpo (x:=Zcz p (xa.getD j (0,1)) (Za8 p u (xb.getD j (0,1)))) (by rw[Jad,Jas hj];rfl)];have g1:=(ga _ (Zaz (d:=(0,1)) (show j<xa.length by exact oz5 wa hj))).1;have g2:=(gb _ (Zaz (d:=(0,1)) (show j<xb.length by exact oz5 wb hj))).1;rw[hF.plus g1 (Zbb hp.lo iu g2),hF.times iu g2];rfl
   .intro σ H3 e92;refine Zlb e92 λv6 v7 v8 v9 rs M e913 e3 b3 ch=>?_;clear e92;obtain rfl:=e913;have ch:ChG H H3 p n.toNat 80 r rs M:=ch.le (by
     have:(2*c).toNat=0\/(2*c).toNat=2:=by exact oz139 c1
     rcases this with h|h <;> rw[h] <;> decide)
    subst hX;walk_at "wp";exact⟨⇑0,λt ht=>q t r rs M _ (e3.trans (Ext.new ht)) (b3.new (b3.ne ht)) ⟨e3.free (b3.ne ht) ht,nw.r,ch.fr⟩ Zab (ch.same (Same.new ht))⟩
  clear hY;walk_at "wp";refine Zci (λhc=>?_) (λ_=>aft none rs _ H1 s1.ext b1 (c0.le ⇑0));have hn:=Jat hc;refine Zaq l p ⟨rfl,b1,hp,λva u H3 e3 b3 nu iu bu u0=>?_⟩;have c3:=c0.ext hb b1 e3 nr;have rl:=c3.row.1;have ml:=c3.hl;have eA:rs[0]?=some (rs[0]'(oz54 hn rl ml)):=Jaa _;refine Zae (c3.row.at' eA) λxa fa e914=>?_;obtain⟨vs,hva,ala⟩:=e914;have wa:=c3.hw xa (Jae fa);have ga:=c3.gd xa (Jae fa);generalize hAdr:rs[0]'(oz54 hn rl ml)=A at *;have atA:atI (rs.map V.ref) 0=some (.ref A):=Zb0 ⇑0 (by rw[Jad];show (rs[0]?).map _=_;rw[eA];rfl);walk_at "wp";refine⟨_,rfl,r,_,0,_,rfl,rfl,SqL.of c3.lst,atA,A,rfl,⟨_,SqL.of hva⟩,λD hD=>?_⟩;refine Zb2 (λj Hc y=>NumV Hc p y (Za8 p u (xa.getD j (0,1)))) (λk s=>k.same s) (λk hD=>k.put hD) hva hD (by rw[ala.1];omega) (λj v Hc Qc hv sc _ qc=>?_) λys H7 s7 e7 yl hys=>?_
  .refine Zae (ala.at' hv) λx ex nx=>?_;have gx:=ga x (Jae ex);rw[Zao ex] at qc;simp only[Zbm];walk_at "wp";exact⟨_,rfl,_,rfl,p,va,v,u,x,rfl,hp,⟨nu.same sc,nx.same sc,iu,gx.1,7,7,bu.1,bu.2,gx.2.1,gx.2.2,∅⟩,λw He se nw=>qc w He se nw⟩
  .have rv:RowV H7 p D (xa.map (Za8 p u)):=⟨ys,e7,by rw[yl,Jab];exact ala.1,λk y x f1 f2=>by
    rw[Jad] at f2;cases f3:xa[k]? with
    | none=>rw[f3] at f2;cases f2
    | some z=>
     rw[f3] at f2;cases f2;have:=hys k y f1;rwa [Zao f3] at this⟩
   have c7:=c3.same s7;refine⟨_,c7.lst,0,Zui (n:=(rs.map V.ref).length) (k:=0) (by rw[Jab];exact oz54 hn rl ml),?_⟩;refine aft _ (rs.set 0 D) (M:=(Zbo n.toNat).set 0 (xa.map (Za8 p u))) _ (((s1.ext.trans e3).trans s7.ext).upd nw.r) ((b3.same s7).new nr) (c7.put ⇑0 rv (by rw[Jab];exact wa) (λx hx=>?_) (Zrn (oz100 hn) ml c3.iv (nz_nm hp iu u0) λF _ hF j hj=>?_) (Zah c3.lst hD).symm ((s1.ext.trans e3).free (b3.ne hD) hD))
   .refine Zae (Jaz.mp hx) λz hz e915=>?_;obtain rfl:=e915;exact⟨Zbb hp.lo iu (ga z hz).1,(Zdm hp iu (ga z hz).1 bu (ga z hz).2 ⇑0)⟩
   .rw [Zao fa];have ez:xa[j]?=some (xa[j]'(oz5 wa hj)):=Jaa _;rw[Zpo ez,Zpo (x:=Za8 p u (xa[j]'(oz5 wa hj))) (by rw[Jad,ez];rfl)];exact hF.times iu (ga _ (Jae ez)).1
end
section
variable {F:Type}[Lean.Grind.Field F]
theorem vN_drop {xs:List Nv}{w j:Nat}:(vN (xs.drop w) j:F)=vN xs (w+j):=by
 unfold vN;rw[Jac,List.getElem?_drop,Jac]
theorem vN_app {xs ys:List Nv}{j:Nat}:(vN (xs++ys) j:F)=if j<xs.length then vN xs j else vN ys (j-xs.length):=by
 unfold vN;split
 .rename_i h
  rw[Jac,Jao h,Jac]
 .rename_i h
  rw[Jac,Jam (Zlo h),Jac]
end
section
variable {C PL:Addr}
theorem cut_hiG (xs:List V)(k:Int)(h0:0<=k)(h1:k<=xs.length):Zux xs (some k) none=xs.drop k.toNat:=by
 unfold Zux HT.sIx;have e:¬ k<0:=∅
 have e2:min k.toNat xs.length=k.toNat:=by exact oz20 h1
 simp only[e,if_false,e2];rw[List.take_of_length_le];rw[Jcp];omega
def Zmn:L2.Sp:=λvs H Q _=>∃ (t1 r1 t2 r2:Addr) (rs1 rs2:List Addr) (p:Int) (k n w1 w2:Nat) (A B:Mv),vs=[.ref t1,.ref t2]/\TabB H p k n w1 t1 r1 rs1 A/\TabB H p k n w2 t2 r2 rs2 B/\n<=200/\w1<=200/\w2<=200 /\
 ∀ t r rs H',Same H H'->New H t r rs->TabB H' p k n (w1+w2) t r rs ((List.range n).map λi=>A.getD i []++B.getD i [])->Q (.ref t) H'
theorem Zt0 (F:Fun K "_law_pasted" "_law_pasted" Ze6 f fd)(T:Txt K mg C G S):FnOk P w K mg base CX0 1 f fd ["_law_one","_law_other"] Zmn:=by
 have nd:=Zgl.nd;refine F.ok Zgl (λvs H Q E h=>?_) (λcdv A outer s H vs Q E hr h=>?_)
 .refine xE13_2 h λt1 r1 t2 r2 rs1 rs2 p k n w1 w2 A B e91 _=>?_;clear h;obtain rfl:=e91;rfl
 .refine xE13_4 h λt1 r1 t2 r2 rs1 rs2 p k n w1 w2 A B e92 T1 T2 e93=>?_;clear h;obtain rfl:=e92;refine Zcb e93 λn24 w24 w24' q=>?_;clear e93;refine⟨_,(~~~(@Zaw _ _ _ _ _ (((Zgh Zat)<|>(pvr 0)<||>Zac)<&>((Zdg<|>((Zgh Zat)<|>(pvr 0)<||>Zac)<&&>((Zgh Zat)<|>(pvr 1)<||>Zac))<&>((Za3 (own:=["_law_row","_law_more"]) (fr:=[]) rfl (Zbn (by kernel_rfl)) (Zh2 rfl T.n_zip ((Zat<|>(pv 0)<||>Zac)<&>((Zat<|>(pv 1)<||>Zac)<&>Zaa))) (λ_ _ _ _=>⟨(@Zcq _ K rfl _ _ _ _ 2 rfl ((0<<<["_law_row","_law_more"])^^^((1<<<["_law_row","_law_more"])^^^(@Za0 _))) ⇑1 ⇑1),Zay,(Zvu<|>(pv 0)<&&>(pv 1))⟩))<&>Zaa))))),?_⟩;walk_at "wp";have la:=T1.tv.row.1;have lb:=T2.tv.row.1;have hA:=T1.hl;have hB:=T2.hl;have tup1:=T1.tv.tup;have tup2:=T2.tv.tup;refine⟨_,SqT.of tup1,_,rfl,_,SqT.of tup1,_,rfl,_,SqT.of tup2,_,rfl,_,rfl,_,rfl,_,rfl,t1,_,2,_,rfl,rfl,SqT.of tup1,rfl,_,rfl,t2,_,2,_,rfl,rfl,SqT.of tup2,rfl,r1,r2,rfl,⟨_,SqL.of T1.tv.lst⟩,⟨_,SqL.of T2.tv.lst⟩,λD hD=>Zgw (λi Hc y=>∃ a,y=.ref a/\RowV Hc p a (((List.range n).map λi=>A.getD i []++B.getD i []).getD i [])/\a≠D/\H a=none) (λ⟨a,e,b,c⟩ s=>⟨a,e,b.same s,c⟩) (λ⟨a,e,b,c,d⟩ hD=>⟨a,e,b.put hD c,c,d⟩) T1.tv.lst T2.tv.lst (by rw[Jab,Jab];exact oz145 la lb hA hB) hD (by rw[Jab];exact oz130 n24 la hA) (λi x y H' Q' hx hy s' ⟨lD,hlD⟩ q'=>?_) (λys H1 s1 e1 yl hys=>?_)⟩
  .refine Zae ((Zbr T1.tv.row).at' hx) λrow er e94=>?_;obtain⟨a,rfl,vs,hv1,hv2⟩:=e94;refine Zae ((Zbr T2.tv.row).at' hy) λrow' er' e95=>?_;obtain⟨b,rfl,us,hu1,hu2⟩:=e95;have w1':=T1.hw row (Jae er);have w2':=T2.hw row' (Jae er');have l1:=hv2.1;have l2:=hu2.1;have hi:i<n:=by have:=(Jaf.mp er).1;exact Zc0 hA this
   refine⟨_,rfl,_,rfl,a,b,vs,us,rfl,rfl,s' _ _ hv1,s' _ _ hu1,Jbv (Zas ∅),λc hc=>q' _ _ (Same.new hc) ⟨c,rfl,?_,(Zah hlD hc).symm,s'.free hc⟩⟩;have e:((List.range n).map λi=>A.getD i []++B.getD i []).getD i []=row++row':=by
    rw[Zao (show _=some _ by rw[Jad,Jas hi];rfl)];show A.getD i []++B.getD i []=_;rw[Zao er,Zao er']
   rw[e];have sc:=Same.new (o:=.lst (vs++us)) hc;exact⟨_,Zab,(hv2.mono λ_ _ k=>k.same (s'.trans sc)).app (hu2.mono λ_ _ k=>k.same (s'.trans sc))⟩
  .rw [Jab] at yl;obtain⟨rs',rfl,a2,nD,fr⟩:=Zjb (D:=D) (H1:=H) (p:=p) (M:=(List.range n).map λi=>A.getD i []++B.getD i []) (by rw[Jab,Jal];exact oz72 la hA yl) hys;refine⟨⇑0,λt' ht'=>?_⟩;have s2:=Same.new (o:=.tup [V.int n,V.int ((w1:Int)+(w2:Int)),.ref D]) ht';refine q t' D rs' _ (s1.trans s2) ⟨s1.free ht',hD,fr⟩ ⟨⟨by rw[Zab];rfl,s2 _ _ e1,a2.mono λ_ _ k=>k.same s2,nD⟩,by rw[Jab,Jal],λxs hx=>?_,λxs hx x hxx=>?_⟩
   .refine Zae (Jaz.mp hx) λi hi e96=>?_;obtain rfl:=e96;have hi:=Ja0.mp hi;rw[Jaj,T1.hw _ (Zaz (oz8 hA hi)),T2.hw _ (Zaz (oz8 hB hi))]
   .refine Zae (Jaz.mp hx) λi hi e97=>?_;obtain rfl:=e97;have hi:=Ja0.mp hi;rcases Jba.mp hxx with h|h
    .exact T1.gd _ (Zaz (oz8 hA hi)) x h
    .exact T2.gd _ (Zaz (oz8 hB hi)) x h
abbrev Zh5 (M:Mv)(n:Nat):Mv:=(List.range n).map λi=>M.getD i []++(Zbo n).getD i []
theorem Zsv (n i:Nat)(h:i<n):((Zbo n).getD i []).length=n:=by
 unfold Zbo;rw[Jac,Jad,Jas h];show ((zR n).set i (1,1)).length=n;rw[Jav,Ja8]
theorem inv_law {p:Int}{n:Nat}{M M':Mv}{pl:List Nat}(hp:GroundP p)(mM:Mat p n n M)(iv:Zpd p n M)(mM':Mat p n (n+n) M')(lr:∀ (F:Type) [Lean.Grind.Field F],FdOk p F->LrF F n (n+n) (Zh5 M n) M' pl):
  Mat p n n (M'.map λrow=>row.drop n)/\Zbg p (M'.map λrow=>row.drop n) M n=Zbo n/\Zbg p M (M'.map λrow=>row.drop n) n=Zbo n:=by
 have mB:Mat p n n (M'.map λrow=>row.drop n):=by
  refine⟨by rw[Jab];exact mM'.hl,λxs hx=>?_,λxs hx x hxx=>?_⟩
  .refine Zae (Jaz.mp hx) λrow hr e98=>?_;obtain rfl:=e98;rw[Jcp,mM'.hw row hr];exact oz181
  .refine Zae (Jaz.mp hx) λrow hr e99=>?_;obtain rfl:=e99;exact mM'.3 row hr x (List.mem_of_mem_drop hxx)
 obtain⟨F,_,hF⟩:=Zk2 hp;obtain⟨U,hU⟩:=iv F hF;have hU2:=Zvf (n:=n) (U:=U) (S:=λt j=>vN (M.getD t []) j) hU;have lF:=lr F hF;have hl:=mM.hl;have hl':=mM'.hl;have tl:(Zh5 M n).length=n:=by rw[Jab,Jal]
 have eT:∀ {l:Nat},l<n->(Zh5 M n).getD l []=M.getD l []++(Zbo n).getD l []:=λ{l} h=>by
  rw[Jac,Jad,Jas h];rfl
 have aT:∀ {l j:Nat},l<n->(at' ((Zh5 M n).map vN) l j:F)=if j<n then vN (M.getD l []) j else if j<n+n then del l (j-n) else 0:=λ{l j} h=>by
  rw[Zev (oz8 tl h),eT h,vN_app,mM.hw _ (Zaz (oz8 hl h))];by_cases hj:j<n
  .rw [if_pos hj,if_pos hj]
  .rw [if_neg hj,if_neg hj];by_cases h2:j<n+n
   .rw [if_pos h2,Zez h (oz2 h2)]
   .rw [if_neg h2,Zjt (by rw[Zsv n l h];exact oz40 h2)]
 have aN:∀ {i j:Nat},i<n->at' ((List.range n).map λi j=>if j<n then (del i j:F) else if j<n+n then U i (j-n) else 0) i j=if j<n then (del i j:F) else if j<n+n then U i (j-n) else 0:=λ{i j} h=>by
  unfold at';rw[Jac,Jad,Jas h];rfl
 have nl:((List.range n).map λi j=>if j<n then (del i j:F) else if j<n+n then U i (j-n) else 0).length=n:=by rw[Jab,Jal]
 have rN:RR ((List.range n).map λi j=>if j<n then (del i j:F) else if j<n+n then U i (j-n) else 0) (n+n) n (λi=>i):=by
  refine⟨oz168 nl,λi hi=>by show i<n+n;exact oz64 hi,λi k h _=>h,λi k hi hk=>?_,λi j hi hj=>?_,λi j h1 h2 _=>∅⟩
  .rw [aN hi,if_pos hk]
  .rw [aN hi,if_pos (oz25 hi hj)];have hj:j<i:=hj;unfold del;rw[if_neg ∅]
 have sp:SpEq (M'.map (vN (F:=F))) ((List.range n).map λi j=>if j<n then (del i j:F) else if j<n+n then U i (j-n) else 0):=by
  refine lF.sp.trans ⟨λv hv=>?_,λv hv=>?_⟩
  .obtain ⟨l,hl0,rfl⟩:=Ja1.mp hv;have hln:l<n:=by rw[Jab] at hl0;exact Zc0 tl hl0
   have:=Sp.sum (S:=λv=>v∈(List.range n).map λi j=>if j<n then (del i j:F) else if j<n+n then U i (j-n) else 0) (λi=>vN (M.getD l []) i) (λi=>at' ((List.range n).map λi j=>if j<n then (del i j:F) else if j<n+n then U i (j-n) else 0) i) n λi hi=>.mem (Zb6 (oz8 nl hi));have e:((Zh5 M n).map (vN (F:=F)))[l]=λj=>sm n λi=>vN (M.getD l []) i*at' ((List.range n).map λi j=>if j<n then (del i j:F) else if j<n+n then U i (j-n) else 0) i j:=funext λj=>by
    have a1:=aT (j:=j) hln;unfold at' at a1;rw[Jac,Jaa hl0] at a1;refine a1.trans ?_;by_cases hj:j<n
    .rw [if_pos hj,Zai λi hi=>by rw[aN hi,if_pos hj]];exact (Zkl (λi=>vN (M.getD l []) i) hj).symm
    .rw [if_neg hj];by_cases h2:j<n+n
     .rw [if_pos h2,Zai λi hi=>by rw[aN hi,if_neg hj,if_pos h2]];exact (hU2 l (j-n) hln (oz2 h2)).symm
     .rw [if_neg h2,Zai λi hi=>by rw[aN hi,if_neg hj,if_neg h2]];rw[Zai (g:=λ_=>0) λi _=>by grind];exact (Zcn n).symm
   rw[e];exact this
  .obtain ⟨i,hi0,rfl⟩:=Ja1.mp hv;have hin:i<n:=by rw[nl] at hi0;exact hi0
   have:=Sp.sum (S:=λv=>v∈(Zh5 M n).map (vN (F:=F))) (λl=>U i l) (λl=>at' ((Zh5 M n).map (vN (F:=F))) l) n λl hl0=>.mem (Zb6 (by rw[Jab];exact oz8 tl hl0));have e:((List.range n).map λi j=>if j<n then (del i j:F) else if j<n+n then U i (j-n) else 0)[i]=λj=>sm n λl=>U i l*at' ((Zh5 M n).map (vN (F:=F))) l j:=funext λj=>by
    have a1:=aN (j:=j) hin;unfold at' at a1;rw[Jac,Jaa hi0] at a1;refine a1.trans ?_;by_cases hj:j<n
    .rw [if_pos hj,Zai λl hl0=>by rw[aT hl0,if_pos hj]];exact (hU i j hin hj).symm
    .rw [if_neg hj];by_cases h2:j<n+n
     .rw [if_pos h2,Zai λl hl0=>by rw[aT hl0,if_neg hj,if_pos h2]];exact (Zkl (λl=>U i l) (show j-n<n by exact oz2 h2)).symm
     .rw [if_neg h2,Zai λl hl0=>by rw[aT hl0,if_neg hj,if_neg h2]];rw[Zai (g:=λ_=>0) λi _=>by grind];exact (Zcn n).symm
   rw[e];exact this
 refine Za2 (lF.rr.uniq rN sp) λer _ eq=>?_;have eB:∀ {i j:Nat},i<n->j<n->(vN ((M'.map λrow=>row.drop n).getD i []) j:F)=U i j:=λ{i j} hi hj=>by
  have a1:=eq i (n+j) (oz8 er hi) (oz7 hj);rw[Zev (oz8 hl' hi),aN hi,if_neg ∅,if_pos (oz7 hj)] at a1;rw[Jac,Jad,Jaa (show i<M'.length by exact oz8 hl' hi)];show (vN (M'[i].drop n) j:F)=_;rw[vN_drop];rw[Zbh (show i<M'.length by exact oz8 hl' hi)] at a1;rw[a1];congr 1;exact oz75
 have mU:=Zcs hp n;refine⟨mB,Zlv hF (Zfj hp mB mM) mU λi j hi hj=>?_,Zlv hF (Zfj hp mM mB) mU λi j hi hj=>?_⟩
 .rw [Zhj hp hF mB mM hi hj,Zez hi hj,<- hU i j hi hj];exact Zai λl hl0=>by rw[eB hi hl0]
 .rw [Zhj hp hF mM mB hi hj,Zez hi hj,<- hU2 i j hi hj];exact Zai λl hl0=>by rw[eB hl0 hj]
def Zp1:L2.Sp:=λvs H Q _=>∃ (p:Int) (t r:Addr) (rs:List Addr) (n:Nat) (M:Mv),vs=[.int p,.ref t]/\GroundP p/\TabB H p 80 n n t r rs M/\Zpd p n M/\n<=2 /\
 ∀ t' r' rs' B H',Same H H'->New H t' r' rs'->TabB H' p 20800 n n t' r' rs' B->Zbg p B M n=Zbo n/\Zbg p M B n=Zbo n->Q (.ref t') H'
theorem ok_linv (F:Fun K "_law_inverse" "_law_inverse" Zea f fd)(T:Txt K mg C G S)(Yag:Cal P w K mg base "_law_plain" 2 Zos)(Ybx:Cal P w K mg base "_law_pasted" 1 Zmn)(Yb3:Cal P w K mg base "_law_reduced" 5 Zp3):FnOk P w K mg base CX0 6 f fd ["_law_p","_law_table_here"] Zp1:=by
 have nd:=Zfu.nd;refine F.ok Zfu (λvs H Q E h=>?_) (λcdv A outer s H vs Q E hr h=>?_)
 .refine xE6_2 h λp t r rs n M e910 _=>?_;clear h;obtain rfl:=e910;rfl
 .refine Zlb h λp t r rs n M e911 hp tb e912=>?_;clear h;obtain rfl:=e911;refine Za2 e912 λiv n2 q=>?_;clear e912;refine⟨_,((Zap (i:=2) nd rfl (Or.inr rfl) ((Zgh Zat)<|>(pvr 1)<||>Zac))<*>((3|||nd|||(Zat<|>(Yb3<$>hr<$>((pvr 0)<&>((Ybx<$>hr<$>((pvr 1)<&>((Yag<$>hr<$>((pvr 0)<&>((pvr 2)<&>Zaa)))<&>Zaa)))<&>Zaa)))<||>Zac))<*>(~~~(@Zaw _ _ _ _ _ ((pvr 2)<&>((pvr 2)<&>((Za3 (own:=["_law_row"]) (fr:=[("_law_size",2)]) rfl (Zbn (by kernel_rfl)) (Zbc (Zat<|>(pv 3)<||>Zac)) (λ_ _ _ _=>⟨(0<<<["_law_row","_law_size"]),Zay,(@Zny _ _ _ _ _ _ _ _ _ _ (Zs8 K rfl) (pv 0) (@Zmw _ _ _ (pv 1)) po_none)⟩))<&>Zaa))))))),?_⟩;walk_at "wp";refine⟨_,SqT.of tb.tv.tup,_,rfl,p,n,rfl,hp,Zkt,∅,λtu ru rsu H1 s1 nw1 tvu=>?_⟩;have tbu:TabB H1 p 80 n n tu ru rsu (Zbo n):=by
   have mU:=Zcs hp n;refine⟨tvu,mU.hl,mU.hw,λxs hx x hxx=>?_⟩;have h01:=Zly hp;refine Zae (Jaz.mp hx) λj _ e913=>?_;obtain rfl:=e913;rcases Zdr hxx with e|e
   .rw [e];exact⟨h01.2,by unfold Bt;decide,by unfold Bt;decide⟩
   .rw [(Jea.mp e).2];exact⟨h01.1,by unfold Bt;decide,by unfold Bt;decide⟩
  refine xI13_1 t r tu ru rs rsu p 80 n n n M (Zbo n) ⟨rfl,tb.same s1,tbu,Ztp n2,Ztp n2,Ztp n2,λtp rp rsp H2 s2 nw2 tbp=>?_⟩;have hk:(80+1)*4 ^ (n+n)<=20737:=by
   have:n=0\/n=1\/n=2:=by exact oz157 n2
   rcases this with rfl|rfl|rfl <;> decide
  refine xI8_1 p tp rp rsp 80 n (n+n) _ ⟨rfl,hp,tbp,⇑0,∅,∅,λ_=>∅,λt1 tm r1 rs1 M1 pl H3 s3 h1 nw3 tb3 lr=>?_⟩;have mM:Mat p n n M:=⟨tb.hl,tb.hw,λxs hx x hxx=>(tb.gd xs hx x hxx).1⟩
  have mM1:Mat p n (n+n) M1:=⟨tb3.hl,tb3.hw,λxs hx x hxx=>(tb3.gd xs hx x hxx).1⟩
  refine Za2 (inv_law hp mM iv mM1 lr) λmB i1 i2=>?_;have hlb:lb p 80 (n+n)<=20800:=by
   unfold lb;split <;> omega
  refine⟨t1,rfl,_,SqT.of h1,_,rfl,?_⟩;walk_at "wp";refine⟨_,rfl,tm,_,2,_,rfl,rfl,SqT.of tb3.tv.tup,rfl,r1,rfl,⟨_,SqL.of tb3.tv.lst⟩,λD hD=>Zou (λrow=>row.drop n) tb3.tv.lst tb3.tv.row hD (by rw[tb3.tv.row.1,tb3.hl];omega) (λa xs H' Q' hx rv s' q'=>?_) λrsS H5 s5 e5 rvS nS fS=>⟨⇑0,λtS htS=>?_⟩⟩
  .refine Zae rv λvs hv al=>?_;clear rv;have xl:=tb3.hw xs hx;have vl:=al.1;refine⟨_,rfl,_,rfl,_,rfl,a,vs,rfl,SqL.of hv,λb hb=>?_⟩;rw[cut_hiG _ _ Zkt ∅,Jbu];have sb:=Same.new (o:=.lst (vs.drop n)) hb;exact q' b _ hb sb ⟨_,Zab,(al.drop n).mono λ_ _ r=>r.same sb⟩
  .have s6:=Same.new (o:=.tup [V.int n,V.int n,V.ref D]) htS;have s13:=(s1.trans s2).trans s3;refine q tS D rsS _ _ ((s13.trans s5).trans s6) ⟨(s13.trans s5).free htS,s13.free hD,λb hb=>s13.free (fS b hb)⟩ ⟨⟨Zab,s6 _ _ e5,rvS.mono λ_ _ r=>r.same s6,nS⟩,mB.hl,mB.hw,λxs hx=>?_⟩ ⟨i1,i2⟩;refine Zae (Jaz.mp hx) λrow hr e914=>?_;obtain rfl:=e914;exact λx hxx=>(tb3.gd row hr).le hlb x (List.mem_of_mem_drop hxx)
theorem TabB.ext {l:Addr}{H0 H H':Hp}{p:Int}{k n wd:Nat}{t r:Addr}{rs:List Addr}{M:Mv}(h:TabB H p k n wd t r rs M)(b0:Bag H0 l)(nw:New H0 t r rs)(b:Bag H l)(e:Ext l H H'):TabB H' p k n wd t r rs M:=
 ⟨⟨e _ _ (b0.ne nw.t) h.tv.tup,e _ _ (b0.ne nw.r) h.tv.lst,h.tv.row.monoM λa xs ha q=>q.ext b e (b0.ne (nw.rs a ha)),h.tv.nin⟩,h.hl,h.hw,h.gd⟩
structure GL (H0 H:Hp)(p:Int)(k:Nat)(l:Addr)(ts:List Addr)(ds:List (Nat×Nat))(Ms:List Mv):Prop where
 lst:H l=some (.lst (ts.map V.ref))
 len:ts.length=ds.length
 nl:H0 l=none
 tab:∀ (i:Nat) t d,ts[i]?=some t->ds[i]?=some d->∃ r rs,TabB H p k d.1 d.2 t r rs (Ms.getD i [])/\New H0 t r rs
theorem GL.same {H0 H H':Hp}{p:Int}{k:Nat}{l:Addr}{ts:List Addr}{ds:List (Nat×Nat)}{Ms:List Mv}(h:GL H0 H p k l ts ds Ms)(s:Same H H'):GL H0 H' p k l ts ds Ms:=⟨s _ _ h.lst,h.len,h.nl,λi t d e1 e2=>let ⟨r,rs,a,b⟩:=h.tab i t d e1 e2;⟨r,rs,a.same s,b⟩⟩
theorem GL.le {H0 H:Hp}{p:Int}{k k':Nat}{l:Addr}{ts:List Addr}{ds:List (Nat×Nat)}{Ms:List Mv}(h:GL H0 H p k l ts ds Ms)(hk:k<=k'):GL H0 H p k' l ts ds Ms:=⟨h.lst,h.len,h.nl,λi t d e1 e2=>let ⟨r,rs,a,b⟩:=h.tab i t d e1 e2;⟨r,rs,a.le hk,b⟩⟩
theorem GL.ext {b:Addr}{H0 H H':Hp}{p:Int}{k:Nat}{l:Addr}{ts:List Addr}{ds:List (Nat×Nat)}{Ms:List Mv}(h:GL H0 H p k l ts ds Ms)(b0:Bag H0 b)(b1:Bag H b)(e:Ext b H H'):GL H0 H' p k l ts ds Ms:=⟨e _ _ (b0.ne h.nl) h.lst,h.len,h.nl,λi t d e1 e2=>let ⟨r,rs,a,nw⟩:=h.tab i t d e1 e2;⟨r,rs,a.ext b0 nw b1 e,nw⟩⟩
abbrev tds (ns:List Int)(ps:List (Int×Int)):List (Nat×Nat):=ps.map λq=>(nz ns q.2,nz ns q.1)
abbrev cds (ns:List Int):List (Nat×Nat):=ns.map λn=>(n.toNat,n.toNat)
theorem GL.tbl {H0 H:Hp}{p:Int}{k:Nat}{l:Addr}{ts:List Addr}{ps:List (Int×Int)}{ns:List Int}{Ms:List Mv}(h:GL H0 H p k l ts (tds ns ps) Ms):TbL H p k l ts ps ns Ms:=⟨h.lst,by rw[h.len,Jab],λi t q e1 e2=>let ⟨r,rs,a,_⟩:=h.tab i t (nz ns q.2,nz ns q.1) e1 (by rw[Jad,e2];rfl);⟨r,rs,a⟩⟩
theorem GL.chl {H0 H:Hp}{p:Int}{k:Nat}{l:Addr}{ts:List Addr}{ns:List Int}{Ms:List Mv}(h:GL H0 H p k l ts (cds ns) Ms):ChL H p k l ts ns Ms:=⟨h.lst,by rw[h.len,Jab],λi t n e1 e2=>let ⟨r,rs,a,_⟩:=h.tab i t (n.toNat,n.toNat) e1 (by rw[Jad,e2];rfl);⟨r,rs,a⟩⟩
abbrev ledM (p:Int)(ns:List Int)(ps:List (Int×Int))(Ms Cs Bs:List Mv):List Mv:=(List.range ps.length).map (chM p ns ps Bs Ms Cs)
abbrev ledB (kt k k2:Nat):Nat:=7+2*(k2+(7+2*(kt+k+8))+8)
def Znn:L2.Sp:=λvs H Q _=>∃ (e st z tl cl bl:Addr) (p:Int) (kt k k2:Nat) (xs:List V) (ps:List (Int×Int)) (ns:List Int) (ts cts bts:List Addr) (Ms Cs Bs:List Mv),vs=[.int p,.ref e,.ref st,.ref cl,.ref bl]/\GroundP p/\H e=some (.lst xs)/\Prs H xs ps/\InP (ns.length:Int) ps/\ps.length<=9/\H st=some (.tup [.ref z,.ref tl])/\(∀ i,nz ns i<=2) /\
 TbL H p kt tl ts ps ns Ms/\ChL H p k cl cts ns Cs/\ChL H p k2 bl bts ns Bs/\kt<=100000/\k<=100000/\k2<=100000/\∀ t l' ts' H',Same H H'->H t=none->H' t=some (.tup [.ref z,.ref l'])->GL H H' p (ledB kt k k2) l' ts' (tds ns ps) (ledM p ns ps Ms Cs Bs)->Q (.ref t) H'
theorem ok_ledL (F:Fun K "_law_led" "_law_led" Zi4 f fd)(T:Txt K mg C G S)(Yap:Cal P w K mg base "_law_product" 4 Zs2):FnOk P w K mg base CX0 5 f fd ["_law_p","_law_arrows","_law_standing_here","_law_changes","_law_backs"] Znn:=by
 have nd:=Zj2.nd;refine F.ok Zj2 (λvs H Q E h=>?_) (λcdv A outer s H vs Q E hr h=>?_)
 .refine Zu9 h λe st z tl cl bl p kt k k2 xs ps ns ts cts bts Ms Cs Bs e93 _=>?_;clear h;obtain rfl:=e93;rfl
 .refine Zu8 h λe st z tl cl bl p kt k k2 xs ps ns ts cts bts Ms Cs Bs e94 hp he e95=>?_;clear h;obtain rfl:=e94;refine xE0_12 e95 λpr ip p9 hst n2 ht hc hb kt1 k1 k21 q=>?_;clear e95;refine⟨_,((5|||nd|||(@Zbw _ _ _ _ Zaa))<*>((Zck Ja5 rfl (Zh2 rfl T.n_zip ((Zat<|>(pv 2)<||>Zac)<&>((pv 1)<&>Zaa))) (@Zbv _ _ _ _ _ 2 rfl ((6>>>nd)^^^((@Zbv _ _ _ _ _ 2 rfl ((7>>>nd)^^^((8>>>nd)^^^(@Za0 _))) ⇑1 ⇑1)^^^(@Za0 _))) ⇑1 ⇑1) (@Zan _ _ _ (Zdw (Zks Jbm Jbh Jbi (mtJ Zb5) (pvr 5) ((Yap<$>hr<$>((pvr 0)<&>(((ixJ Zar)<|>(pvr 4)<||>(pvr 8))<&>((Yap<$>hr<$>((pvr 0)<&>((pvr 6)<&>(((ixJ Zar)<|>(pvr 3)<||>(pvr 7))<&>Zaa))))<&>Zaa))))<&>Zaa)))))<*>(~~~(@Zaw _ _ _ _ _ (((Zgh Zat)<|>(pvr 2)<||>Zac)<&>((pvr 5)<&>Zaa)))))),?_⟩;refine Zd4 λX hX=>?_;walk_at "wp";refine⟨⇑0,λD hD=>?_⟩;have s1:=Same.new (o:=.lst []) hD;have eD:(upd H D (.lst [])) D=some (.lst []):=Zab;generalize upd H D (.lst [])=H1 at *;subst hX;refine Zd4 λX hX=>?_;refine cutF λY hY=>?_;have xl:=pr.1;have tl1:=ht.2.1;have cl1:=hc.2.1;have bl1:=hb.2.1;refine⟨_,rfl,st,_,1,_,rfl,rfl,SqT.of (s1 _ _ hst),rfl,_,rfl,tl,e,rfl,⟨_,SqL.of (s1 _ _ ht.1)⟩,⟨_,SqL.of (s1 _ _ he)⟩,
   for_zip (xs:=ts.map V.ref) (ys:=xs) (λi σ H3=>∃ (v6 v7 v8:Option V) (us:List Addr),σ=[some (.int p),some (.ref e),some (.ref st),some (.ref cl),some (.ref bl),some (.ref D),v6,v7,v8]/\Same H H3/\H3 D=some (.lst (us.map V.ref))/\us.length=i/\∀ (j:Nat) t q,us[j]?=some t->ps[j]?=some q->∃ r rs,TabB H3 p (ledB kt k k2) (nz ns q.2) (nz ns q.1) t r rs (chM p ns ps Bs Ms Cs j)/\New H t r rs/\r≠D/\D∉rs) (by rw[Jab];exact oz42 xl tl1) ⟨none,none,none,[],rfl,s1,eD,rfl,λj t q e=>by simp at e⟩ (λi σ H3 _ ⟨_,_,_,_,_,s3,_⟩=>⟨SqL.of (s3 _ _ ht.1),SqL.of (s3 _ _ he)⟩) ?_ ?_⟩
  .intro i y v pz σ H3 hy hv hpz e91;refine Zb8 e91 λv6 v7 v8 us e96 s3 e3 e97=>?_;clear e91;obtain rfl:=e96;obtain⟨ul,hu⟩:=e97;refine Zpc λD2 hD2=>?_;have hi:i<ps.length:=by have:=(Jaf.mp hv).1;exact Zc0 xl this
   have hq:ps[i]?=some (ps.getD i (0,0)):=by rw[Zbh hi];exact Jaa _
   have hti:ts[i]?=some (ts[i]'(oz8 tl1 hi)):=Jaa _;rw[Jad,hti] at hy;cases hy;refine Zex (ht.2.2 i _ _ hti hq) λr rs tb=>?_;have ec:chM p ns ps Bs Ms Cs i=Zbg p (Bs.getD (ps.getD i (0,0)).2.toNat []) (Zbg p (Ms.getD i []) (Cs.getD (ps.getD i (0,0)).1.toNat []) (nz ns (ps.getD i (0,0)).1)) (nz ns (ps.getD i (0,0)).1):=rfl;generalize ps.getD i (0,0)=qq at *;obtain⟨tl',hd'⟩:=qq;refine Zae (pr.2 i v _ hv hq) λta e98 hta=>?_;obtain rfl:=e98;refine Zcb (ip _ (Jae hq)) λi0 i1 j0 j1=>?_;have s4:=Same.new (o:=.tup [V.ref (ts[i]'(oz8 tl1 hi)),V.ref ta]) hpz;have e4:=s4 _ _ e3;have p4:(upd H3 pz (.tup [V.ref (ts[i]'(oz8 tl1 hi)),V.ref ta])) pz=some (.tup [V.ref (ts[i]'(oz8 tl1 hi)),V.ref ta]):=Zab;have s04:=s3.trans s4;generalize upd H3 pz (.tup [V.ref (ts[i]'(oz8 tl1 hi)),V.ref ta])=H4 at *;simp only[Zpb,Zgu,Zsp,Zbe,List.set_cons_zero,List.set_cons_succ];refine Zaq pz _ ⟨rfl,SqT.of p4,rfl,_,_,rfl,_,_,rfl,ta,_,rfl,SqT.of (s04 _ _ hta),rfl,_,_,rfl,_,_,rfl,rfl,rfl,?_⟩;subst hY;walk_at "wp";have hnt:ns[tl'.toNat]?=some (ns.getD tl'.toNat 0):=by rw[Zbh ∅];exact Jaa _
   have hnh:ns[hd'.toNat]?=some (ns.getD hd'.toNat 0):=by rw[Zbh ∅];exact Jaa _
   have hbt:bts[hd'.toNat]?=some (bts[hd'.toNat]'(by omega)):=Jaa _;have hct:cts[tl'.toNat]?=some (cts[tl'.toNat]'(by omega)):=Jaa _;refine Zex (hb.2.2 _ _ _ hbt hnh) λrB rsB tbB=>?_;refine Zex (hc.2.2 _ _ _ hct hnt) λrC rsC tbC=>?_;have tb:TabB H p kt (nz ns hd') (nz ns tl') _ r rs _:=tb;have tbB:TabB H p k2 (nz ns hd') (nz ns hd') _ rB rsB _:=tbB;have tbC:TabB H p k (nz ns tl') (nz ns tl') _ rC rsC _:=tbC;have m1:=n2 tl';have m2:=n2 hd';have l1:nz ns tl'*(kt+k+8)<=2*(kt+k+8):=Jb3 m1 (Jag _);have l2:nz ns hd'*(k2+(7+2*(kt+k+8))+8)<=2*(k2+(7+2*(kt+k+8))+8):=Jb3 m2 (Jag _);refine⟨.inl ⟨rfl,_,SqL.of e4⟩,_,SqL.of (s04 _ _ hb.1),_,Zb0 j0 (by rw[Jad,hbt];rfl),_,SqL.of (s04 _ _ hc.1),_,Zb0 i0 (by rw[Jad,hct];rfl),?_⟩;refine Zjs _ r _ rC rs rsC p (nz ns hd') (nz ns tl') (nz ns tl') kt k _ _ ⟨rfl,hp,tb.same s04,tbC.same s04,Ztp m2,Ztp m1,Ztp m1,oz172 kt1 k1 l1,λt5 r5 rs5 H5 s5 nw5 tv5=>?_⟩;refine Za2 (Zgr (wd:=nz ns tl') hp tb.hl tb.hw tb.gd tbC.hl tbC.hw tbC.gd) λg1 g2 g3=>?_;have tb5:TabB H5 p (7+2*(kt+k+8)) (nz ns hd') (nz ns tl') t5 r5 rs5 _:=⟨tv5,g1,g2,λxs hx=>(g3 xs hx).le (Jdb l1 7)⟩
   have s05:=s04.trans s5;have e5:=s5 _ _ e4;refine Zjs _ rB t5 r5 rsB rs5 p (nz ns hd') (nz ns hd') (nz ns tl') k2 _ _ _ ⟨rfl,hp,tbB.same s05,tb5,Ztp m2,Ztp m2,Ztp m1,oz169 kt1 k1 k21 l2,λt6 r6 rs6 H6 s6 nw6 tv6=>?_⟩;refine Za2 (Zgr (wd:=nz ns tl') hp tbB.hl tbB.hw tbB.gd tb5.hl tb5.hw tb5.gd) λg1 g2 g3=>?_;have tb6:TabB H6 p (ledB kt k k2) (nz ns hd') (nz ns tl') t6 r6 rs6 _:=⟨tv6,g1,g2,λxs hx=>(g3 xs hx).le (Jdb l2 7)⟩
   have s06:=s05.trans s6;have e6:=s6 _ _ e5;have n6:r6≠D:=λz=>by have:=nw6.r;rw[z,e5] at this;cases this
   have n6':D∉rs6:=λz=>by have:=nw6.rs D z;rw[e5] at this;cases this
   subst hD2;refine⟨_,e6,Zas (by rw[Jab];exact oz66 p9 ul hi),_,_,_,us++[t6],rfl,s06.upd hD,by rw[Zab,Zba],by rw[Jaj,ul];rfl,λj t q f1 f2=>?_⟩;by_cases hj:j<us.length
   .rw [Jao hj] at f1;refine Zet (hu j t q f1 f2) λr' rs' tb' nw' n1 n2=>?_;exact Zaq r' rs' ⟨(((tb'.same s4).same s5).same s6).put e6 n1 n2,nw',n1,n2⟩
   .have hj0:j=us.length:=by
     have:=(Jaf.mp f1).1;rw[Jaj] at this;have:j<us.length+1:=this;exact oz16 hj this
    subst hj0;rw[Jam (Jag _),Jdd] at f1;cases f1;rw[ul] at f2 ⊢;rw[hq] at f2;cases f2;rw[ec];exact Zaq r6 rs6 ⟨tb6.put e6 n6 n6',⟨s05.free nw6.t,s05.free nw6.r,λx hx=>s05.free (nw6.rs x hx)⟩,n6,n6'⟩
  .intro σ H3 e92;refine Zb8 e92 λv6 v7 v8 us e99 s3 e3 e910=>?_;clear e92;obtain rfl:=e99;obtain⟨ul,hu⟩:=e910;subst hX;walk_at "wp";refine⟨_,SqT.of (s3 _ _ hst),_,rfl,⇑0,λt ht'=>?_⟩;have s5:=Same.new (o:=.tup [.ref z,.ref D]) ht';refine q t D us _ (s3.trans s5) (s3.free ht') Zab ⟨s5 _ _ e3,by rw[ul,Jab,Jab];exact tl1,hD,λi t d f1 f2=>?_⟩;rw[Jad] at f2;cases eq':ps[i]? with
   | none=>rw[eq'] at f2;cases f2
   | some q'=>
    rw[eq'] at f2;cases f2;refine Zet (hu i t q' f1 eq') λr rs tb nw _ _=>?_;have hi:i<ps.length:=(Jaf.mp eq').1;have em:(ledM p ns ps Ms Cs Bs).getD i []=chM p ns ps Bs Ms Cs i:=by
     rw[Jac,Jad,Jas hi];rfl
    rw[em];exact Zaq r rs ⟨tb.same s5,nw⟩
theorem tab_eqG {H:Hp}{m:Nat}{p:Int}{n wd:Nat}{t r t' r':Addr}{rs rs':List Addr}{M N:Mv}(mM:Mat p n wd M)(mN:Mat p n wd N)(h:TabV H p n wd t r rs M)(h':TabV H p n wd t' r' rs' N):∃ b,EqD K H (m+4) (.ref t) (.ref t') b/\(b=true ↔ M=N):=by
 obtain⟨b,hb,e⟩:=Zkx (K:=K) (H:=H) (n:=m+2) (R:=λv x=>∃ a,v=.ref a/\RowV H p a x) (mM.hl.trans mN.hl.symm) h.lst h'.lst (Zbr h.row) (Zbr h'.row)
  (λv x y m1 m2 ⟨a,ea,ha⟩ ⟨c,ec,hc⟩=>by subst ea;cases ec;exact Zvk (mM.is x m1) (mN.is y m2) ha hc)
  (λv u x y m1 m2 ⟨a,ea,ha⟩ ⟨c,ec,hc⟩=>by subst ea;subst ec;exact Zqb (n:=m) ((mM.hw x m1).trans (mN.hw y m2).symm) (mM.is x m1) (mN.is y m2) ha hc)
 by_cases q:t=t'
 .subst q;have e1:=h.tup.symm.trans h'.tup
  injection e1 with e1
  injection e1 with e1
  injection e1 with _ e1
  injection e1 with _ e1
  injection e1 with e1 _
  injection e1 with e1
  subst e1;have bt:b=true:=by
   cases hb with
   | flat hx _=>cases hx
   | same=>rfl
   | list ne=>exact absurd rfl ne
   | listL ne=>exact absurd rfl ne
   | tuple ne=>exact absurd rfl ne
  exact⟨true,.same,λ_=>e.mp bt,λ_=>rfl⟩
 .refine ⟨[true,true,b].all id,.tuple q (SqT.of h.tup) (SqT.of h'.tup) rfl rfl λj x y c f1 f2 f3=>?_,?_⟩
  .match j,f1,f2,f3 with
   | 0,f1,f2,f3=>cases f1;cases f2;cases f3;exact Zfo
   | 1,f1,f2,f3=>cases f1;cases f2;cases f3;exact Zfo
   | 2,f1,f2,f3=>cases f1;cases f2;cases f3;exact hb
   | j+3,f1,_,_=>cases f1
  .rw [<- e];simp
theorem Zqe {xs ys:List Addr}(h:xs.map V.ref=ys.map V.ref):xs=ys:=by
 have:=Jdl (List.map λv:V=>match v with | .ref a=>a|_=>0) h;rw[List.map_map,List.map_map] at this;have e:((λv:V=>match v with | .ref a=>a|_=>0) ∘ V.ref)=id:=rfl;rw[e,List.map_id,List.map_id] at this;exact this
theorem gl_eq {H H0 H0':Hp}{m:Nat}{p:Int}{k k':Nat}{l l':Addr}{ts ts':List Addr}{ds:List (Nat×Nat)}{Ms Ms':List Mv}(h:GL H0 H p k l ts ds Ms)(h':GL H0' H p k' l' ts' ds Ms'):∃ b,EqD K H (m+5) (.ref l) (.ref l') b/\(b=true ↔ ∀ i,i<ds.length->Ms.getD i []=Ms'.getD i []):=by
 have one:∀ i,i<ds.length->∃ (t t':Addr),ts[i]?=some t/\ts'[i]?=some t'/\∃ b,EqD K H (m+4) (.ref t) (.ref t') b/\(b=true ↔ Ms.getD i []=Ms'.getD i []):=λi hi=>by
  have hl:=h.len;have hl':=h'.len;have e1:ts[i]?=some (ts[i]'(Zh3 hi hl)):=Jaa _;have e2:ts'[i]?=some (ts'[i]'(Zh3 hi hl')):=Jaa _;refine Zbd (h.tab i _ _ e1 (Jaa hi)) λr rs tb _=>?_;refine Zbd (h'.tab i _ _ e2 (Jaa hi)) λr' rs' tb' _=>?_;exact Zaq _ _ ⟨e1,e2,tab_eqG tb.mat tb'.mat tb.tv tb'.tv⟩
 by_cases q:l=l'
 .subst q;have e1:=h.lst.symm.trans h'.lst
  injection e1 with e1
  injection e1 with e1
  have e1:=Zqe e1;subst e1;refine⟨true,.same,λ_ i hi=>?_,λ_=>rfl⟩;refine Zbt (one i hi) λt t' f1 f2 e91=>?_;obtain⟨b,hb,e⟩:=e91;rw[f1] at f2;cases f2;refine e.mp ?_;cases hb with
  | flat hx _=>cases hx
  | same=>rfl
  | list ne=>exact absurd rfl ne
  | listL ne=>exact absurd rfl ne
  | tuple ne=>exact absurd rfl ne
 .refine ⟨((List.range ds.length).map λi=>decide (Ms.getD i []=Ms'.getD i [])).all id,.list q (SqL.of h.lst) (SqL.of h'.lst) (by rw[Jab,Jab,h.len,h'.len]) (by rw[Jab,Jal,Jab,h.len]) λj x y b f1 f2 f3=>?_,?_⟩
  .rw [Jad] at f3;have hj:j<ds.length:=by
    by_cases hj:j<ds.length
    .exact hj
    .rw [Jak (by rw[Jal];exact Zlo hj)] at f3;cases f3
   rw[Jas hj] at f3;cases f3;refine Zbt (one j hj) λt t' g1 g2 e92=>?_;obtain⟨b,hb,e⟩:=e92;rw[Jad,g1] at f1;rw[Jad,g2] at f2;cases f1;cases f2;have eb:decide (Ms.getD j []=Ms'.getD j [])=b:=by
    rw[Jb1,Jcu];exact e.symm
   show EqD K H (m+4) (V.ref t) (V.ref t') (decide (Ms.getD j []=Ms'.getD j []));rw[eb];exact hb
  .rw [Jbe];refine⟨λz i hi=>?_,λz b hb=>?_⟩
   .exact Jat (z _ (Jaz.mpr ⟨i,Ja0.mpr hi,rfl⟩))
   .refine Zae (Jaz.mp hb) λi hi e93=>?_;obtain rfl:=e93;exact Jah (z i (Ja0.mp hi))
def Zs6:L2.Sp:=λvs H Q _=>∃ (H0:Hp) (l:Addr) (p:Int) (k:Nat) (ts:List Addr) (ds:List (Nat×Nat)) (Ms:List Mv),vs=[.ref l]/\GL H0 H p k l ts ds Ms/\ds.length<=9/\(∀ d∈ds,d.1<=24)/\∀ l' ts' H',Same H H'->GL H H' p k l' ts' ds Ms->Q (.ref l') H'
theorem ok_cps (F:Fun K "_law_copies" "_law_copies" Ze8 f fd)(T:Txt K mg C G S)(Yaq:Cal P w K mg base "_law_copy" 1 Znp):FnOk P w K mg base CX0 2 f fd ["_law_tables"] Zs6:=by
 have nd:=Zgn.nd;refine F.ok Zgn (λvs H Q E h=>?_) (λcdv A outer s H vs Q E hr h=>?_)
 .refine xE7_2 h λH0 l p k ts ds Ms e94 _=>?_;clear h;obtain rfl:=e94;rfl
 .refine Zss h λH0 l p k ts ds Ms e95 gl d9 e96=>?_;clear h;obtain rfl:=e95;obtain⟨d24,q⟩:=e96;refine⟨_,(~~~(Za3 (own:=["_law_table_here"]) (fr:=[]) rfl (Zbn (by kernel_rfl)) (Zbc (pv 0)) (λ_ _ _ _=>⟨(0<<<["_law_table_here"]),Zay,(Yaq<$>hr<$>((pv 0)<&>Zaa))⟩))),?_⟩;walk_at "wp";have tl:=gl.len;refine⟨_,rfl,l,rfl,⟨_,SqL.of gl.lst⟩,λD hD=>?_⟩;refine Zb2 (λi Hc y=>∃ t d,y=.ref t/\ds[i]?=some d/\∃ r rs,TabB Hc p k d.1 d.2 t r rs (Ms.getD i [])/\(r≠D/\D∉rs)/\New H t r rs) (λ⟨t,d,e,ed,r,rs,a,n⟩ s=>⟨t,d,e,ed,r,rs,a.same s,n⟩) (λ⟨t,d,e,ed,r,rs,a,n,n2⟩ hD=>⟨t,d,e,ed,r,rs,a.put hD n.1 n.2,n,n2⟩) gl.lst hD (by rw[Jab];omega) (λi y H1 Q1 hy s1 ⟨lD,hlD⟩ q1=>?_) (λys H1 s1 e1 yl hys=>?_)
  .rw [Jad] at hy;cases et:ts[i]? with
   | none=>rw[et] at hy;cases hy
   | some t=>
    rw[et] at hy;cases hy;have hi:i<ds.length:=by have:=(Jaf.mp et).1;exact Zc0 tl this
    have ed:=Jaa hi;refine Zbd (gl.tab i t _ et ed) λr rs tb _=>?_;have hd:=d24 _ (Jap hi);generalize ds[i]=d at *;have ml:=tb.hl;simp only[Zbm];walk_at "wp";refine Zla p d.1 d.2 t r rs _ ⟨rfl,tb.tv.same s1,∅,λt' r' rs' H2 s2 nw tv=>q1 (.ref t') H2 s2 ⟨t',d,rfl,ed,r',rs',⟨tv,tb.hl,tb.hw,tb.gd⟩,⟨λz=>?_,λz=>?_⟩,⟨s1.free nw.t,s1.free nw.r,λx hx=>s1.free (nw.rs x hx)⟩⟩⟩
    .have:=nw.r;rw[z,hlD] at this;cases this
    .have:=nw.rs _ z;rw[hlD] at this;cases this
  .obtain ⟨ts',rfl,hts⟩:=Zkq (P:=λi t=>∃ d,ds[i]?=some d/\∃ r rs,TabB H1 p k d.1 d.2 t r rs (Ms.getD i [])/\(r≠D/\D∉rs)/\New H t r rs) λi y e=>let ⟨t,d,a,b⟩:=hys i y e;⟨t,a,d,b⟩;rw[Jab,Jab] at yl;refine q D ts' H1 s1 ⟨e1,oz28 tl yl,hD,λi t d f1 f2=>?_⟩;refine Zae (hts i t f1) λd' ed e97=>?_;obtain⟨r,rs,tb,_,nw⟩:=e97;rw[f2] at ed;cases ed;exact Zaq r rs ⟨tb,nw⟩
theorem for_z3 {a b c:Addr}{xs ys ws:List V}{g:TG}{tb:TS}{Dn:Ends}{σ:L2.St}{H:Hp}(Pv:Nat->L2.St->Hp->Prop)(hlen:ys.length=xs.length)(hlen3:ws.length=xs.length)(h0:Pv 0 σ H)(hl:∀ i σ H,i<=xs.length->Pv i σ H->SqL K H a xs/\SqL K H b ys/\SqL K H c ws)(hs:∀ (i:Nat) x y u p σ H,xs[i]?=some x->ys[i]?=some y->ws[i]?=some u->H p=none->Pv i σ H->g (.ref p) σ (upd H p (.tup [x,y,u])) λσ2 H2=>tb { Dn with nx:=Pv (i+1),ct:=Pv (i+1),bk:=Dn.nx } σ2 H2)(hd:∀ σ H,Pv xs.length σ H->Dn.nx σ H):
  ∃ W:Nat->Nat->L2.St->Hp->Prop,(∃ m,W 0 m σ H)/\∀ i m σ H,W i m σ H->
   ((Ity K a b c).stop i H/\Dn.nx σ H)\/((Ity K a b c).go i H/\∃ N:L2.St->Hp->Prop,(∀ σ' H',N σ' H'->∃ m',m'<m/\W (i+1) m' σ' H')/\∀ x H',(Ity K a b c).yld i H x H'->g x σ H' λσ2 H2=>tb { Dn with nx:=N,ct:=N,bk:=Dn.nx } σ2 H2):=by
 refine⟨λi m σ H=>m=xs.length-i/\i<=xs.length/\Pv i σ H,⟨xs.length,by simp,Jb5 _,h0⟩,?_⟩;intro i m σ H e91;refine Za2 e91 λe96 hi p=>?_;clear e91;obtain rfl:=e96;refine Za2 (hl i σ H hi p) λq1 q2 q3=>?_;by_cases hlt:i<xs.length
 .refine .inr ⟨⟨xs,ys,ws,xs[i],ys[i]'(oz8 hlen hlt),ws[i]'(oz8 hlen3 hlt),q1,q2,q3,by simp[hlt],by simp[hlen,hlt],by simp[hlen3,hlt]⟩,Pv (i+1),λσ' H' p'=>⟨xs.length-(i+1),oz43 hlt,rfl,hlt,p'⟩,λx H' y=>?_⟩;refine Zb8 y λu v r pp e97 hp e98 e99=>?_;clear y;obtain rfl:=e97;obtain rfl:=e98;refine Za2 e99 λe1 e2 e3=>?_;clear e99;exact hs i u v r pp σ _ (e1 xs q1) (e2 ys q2) (e3 ws q3) hp p
 .have e:i=xs.length:=by exact oz91 hi hlt
  subst e;exact .inl ⟨⟨xs,q1,Jag _⟩,hd σ H p⟩
def spMd (S C G:Addr):L2.Sp:=λvs H Q _=>∃ (g d st z tl lp:Addr) (p m:Int) (k:Nat) (xs:List V) (ps:List (Int×Int)) (ns:List Int) (ts:List Addr) (Ms:List Mv),vs=[.ref g,.ref d,.ref st]/\GAt G H g p/\GroundP p/\Zg1 C H d m lp xs/\Prs H xs ps/\InP m ps/\ps.length<=9/\Sizes H z ns/\(ns.length:Int)=m/\TbL H p k tl ts ps ns Ms/\k<=1000000/\H st=some (.tup [.ref z,.ref tl]) /\
 ∀ (x dx z' l':Addr) (ts':List Addr) (H1 H':Hp),Same H H'->StB H S C G H' x p m ps ns k Ms dx g d z' l' lp xs ts'->Q (.ref x) H'
theorem ok_md (F:Fun K "_law_made" "_law_made" Zha f fd)(T:Txt K mg C G S)(Ybd:CalI P w K mg base "Standing" S 11 (spSI S C G)):FnOk P w K mg base CX0 13 f fd ["_law_ground","_law_drawing_here","_law_standing_here"] (spMd S C G):=by
 have nd:=Ziq.nd;refine F.ok Ziq (λvs H Q E h=>?_) (λcdv A outer s H vs Q E hr h=>?_)
 .refine Zpl h λg d st z tl lp p m k xs ps ns ts Ms e910 _=>?_;clear h;obtain rfl:=e910;rfl
 .refine Zpk h λg d st z tl lp p m k xs ps ns ts Ms e911 hg hp e912=>?_;clear h;obtain rfl:=e911;refine Zpm e912 λhd pr ip p9 hz hm ht hk hst q=>?_;clear e912;refine⟨_,(~~~(pe_n Ybd hr.m rfl ((pvr 0)<&>((pvr 1)<&>(((Zgh Zat)<|>(pvr 2)<||>Zac)<&>(((Zgh Zat)<|>(pvr 2)<||>Zac)<&>Zaa)))))),?_⟩;walk_at "wp";refine⟨_,SqT.of hst,_,rfl,_,SqT.of hst,_,rfl,λx dx hx hdx ndx=>stdv_of hx hdx ndx hg hp hd pr ip p9 hz hm ht hk λdx2 z' l' ts' H4 s4 sb=>⟨rfl,q x dx2 z' l' ts' H H4 s4 sb⟩⟩
theorem Zsh {p:Int}{n:Nat}{A B:Mv}(hp:GroundP p)(mA:Mat p n n A)(mB:Mat p n n B)(h:Zbg p A B n=Zbo n):Zbg p B A n=Zbo n:=by
 obtain⟨F,_,hF⟩:=Zk2 hp;have mU:=Zcs hp n;have h1:=Zvf (n:=n) (U:=λi l=>(vN (A.getD i []) l:F)) (S:=λl j=>vN (B.getD l []) j) λi j hi hj=>by
  rw[<- Zez hi hj,<- h,Zhj hp hF mA mB hi hj]
 refine Zlv hF (Zfj hp mB mA) mU λi j hi hj=>?_;rw[Zhj hp hF mB mA hi hj,Zez hi hj];exact h1 i j hi hj
def spDue:L2.Sp:=λvs H Q _=>∃ (H0 H0' H1 H1':Hp) (e st ot z z' tl tl' cl bl:Addr) (p:Int) (kt kt' k k2:Nat) (xs:List V) (ps:List (Int×Int)) (ns:List Int) (ts ts' cts bts:List Addr) (Ms Ms' Cs Bs:List Mv),vs=[.int p,.ref e,.ref st,.ref ot,.ref cl,.ref bl]/\GroundP p/\H e=some (.lst xs)/\Prs H xs ps/\InP (ns.length:Int) ps/\ps.length<=9/\H st=some (.tup [.ref z,.ref tl])/\H z=some (.lst (ns.map V.int))/\ns.length<=8/\(∀ n∈ns,0<=n/\n<=2) /\
 GL H0 H p kt tl ts (tds ns ps) Ms/\H ot=some (.tup [.ref z',.ref tl'])/\H z'=some (.lst (ns.map V.int))/\GL H0' H p kt' tl' ts' (tds ns ps) Ms'/\GL H1 H p k cl cts (cds ns) Cs/\GL H1' H p k2 bl bts (cds ns) Bs/\kt<=100000/\k<=100000/\k2<=100000/\∀ (t:Bool) H',Same H H'->(t=true ↔ Zk8 p ns ps Ms Cs Bs Ms')->Q (.bl t) H'
theorem ok_due (F:Fun K "_law_due" "_law_due" Zi7 f fd)(T:Txt K mg C G S)(Yap:Cal P w K mg base "_law_product" 4 Zs2)(Yag:Cal P w K mg base "_law_plain" 2 Zos)(Yas:Cal P w K mg base "_law_led" 5 Znn):FnOk P w K mg base CX0 6 f fd ["_law_p","_law_arrows","_law_standing_here","_law_other","_law_changes","_law_backs"] spDue:=by
 have nd:=Zj5.nd;refine F.ok Zj5 (λvs H Q E h=>?_) (λcdv A outer s H vs Q E hr h=>?_)
 .obtain ⟨H0,H0',H1,H1',e,st,ot,z,z',tl,tl',cl,bl,p,kt,kt',k,k2,xs,ps,ns,ts,ts',cts,bts,Ms,Ms',Cs,Bs,rfl,_⟩:=h;rfl
 .obtain ⟨H0,H0',H1,H1',e,st,ot,z,z',tl,tl',cl,bl,p,kt,kt',k,k2,xs,ps,ns,ts,ts',cts,bts,Ms,Ms',Cs,Bs,rfl,hp,he,pr,ip,p9,hst,hz,n8,hn,gt,hot,hz',gt',gc,gb,kt1,k1,k21,q⟩:=h;refine⟨_,((Zck Ja5 rfl (pi_z3 rfl T.n_zip ((Zat<|>(pv 2)<||>Zac)<&>((pv 4)<&>((pv 5)<&>Zaa)))) (@Zbv _ _ _ _ _ 3 rfl ((6>>>nd)^^^((7>>>nd)^^^((8>>>nd)^^^(@Za0 _)))) ⇑1 ⇑1) (@Zan _ _ _ (Zck Ja5 rfl (Zvn (@Zaw _ _ _ _ _ ((@Zaw _ _ _ _ _ ((pv 7)<&>((pv 8)<&>Zaa)))<&>((@Zaw _ _ _ _ _ ((pv 8)<&>((pv 7)<&>Zaa)))<&>Zaa)))) (@Zbv _ _ _ _ _ 2 rfl ((9>>>nd)^^^((10>>>nd)^^^(@Za0 _))) ⇑1 ⇑1) (@Zan _ _ _ (@Za6 _ _ _ _ _ _ _ _ (Zam (Zvr (Zjc hr)) (Yap<$>hr<$>((pvr 0)<&>((pvr 9)<&>((pvr 10)<&>Zaa)))) (Yag<$>hr<$>((pvr 0)<&>((pvr 6)<&>Zaa))) (Zak _)) (~~~Zc5) Zal)))))<*>(~~~(Zcg (Zvt (Zjc hr)) (pvr 3) (Yas<$>hr<$>((pvr 0)<&>((pvr 1)<&>((pvr 2)<&>((pvr 4)<&>((pvr 5)<&>Zaa)))))) (Zak _)))),?_⟩;refine Zd4 λX hX=>?_;refine cutF λY hY=>?_;have gcl:=gc.chl;have gbl:=gb.chl;have cl1:=gcl.2.1;have bl1:=gbl.2.1;refine⟨_,rfl,st,_,0,_,rfl,rfl,SqT.of hst,rfl,_,rfl,_,rfl,z,cl,bl,rfl,⟨_,SqL.of hz⟩,⟨_,SqL.of gc.lst⟩,⟨_,SqL.of gb.lst⟩,
   for_z3 (xs:=ns.map V.int) (ys:=cts.map V.ref) (ws:=bts.map V.ref) (λi σ H3=>∃ (v6 v7 v8 v9 v10:Option V),σ=[some (.int p),some (.ref e),some (.ref st),some (.ref ot),some (.ref cl),some (.ref bl),v6,v7,v8,v9,v10]/\Same H H3/\∀ j n,j<i->ns[j]?=some n->Zbg p (Cs.getD j []) (Bs.getD j []) n.toNat=Zbo n.toNat) (by rw[Jab,Jab];exact oz19 cl1) (by rw[Jab,Jab];exact oz19 bl1) ⟨none,none,none,none,none,rfl,Same.refl _,λj n h=>∅⟩ (λi σ H3 _ ⟨_,_,_,_,_,_,s3,_⟩=>⟨SqL.of (s3 _ _ hz),SqL.of (s3 _ _ gc.lst),SqL.of (s3 _ _ gb.lst)⟩) ?_ ?_⟩
  .intro i y1 y2 y3 pz σ H3 h1 h2 h3 hpz e92;refine Zph e92 λv6 v7 v8 v9 v10 e913 s3 inv=>?_;clear e92;obtain rfl:=e913;refine Zpc λD2 hD2=>?_;rw[Jad] at h1;cases en:ns[i]? with
   | none=>rw[en] at h1;cases h1
   | some n=>
   rw[en] at h1;cases h1;have hi:i<ns.length:=(Jaf.mp en).1;have hn':=hn n (Jae en);have ec:cts[i]?=some (cts[i]'(oz8 cl1 hi)):=Jaa _;have eb:bts[i]?=some (bts[i]'(oz8 bl1 hi)):=Jaa _;rw[Jad,ec] at h2;rw[Jad,eb] at h3;cases h2;cases h3;refine Zex (gcl.2.2 _ _ _ ec en) λrC rsC tbC=>?_;refine Zex (gbl.2.2 _ _ _ eb en) λrB rsB tbB=>?_;generalize cts[i]'(oz8 cl1 hi)=tc at *;generalize bts[i]'(oz8 bl1 hi)=tb at *;have s4:=Same.new (o:=.tup [V.int n,V.ref tc,V.ref tb]) hpz;have p4:(upd H3 pz (.tup [V.int n,V.ref tc,V.ref tb])) pz=some (.tup [V.int n,V.ref tc,V.ref tb]):=Zab;have s04:=s3.trans s4;generalize upd H3 pz (.tup [V.int n,V.ref tc,V.ref tb])=H4 at *;simp only[Zpb,Zgu,Zsp,Zbe,List.set_cons_zero,List.set_cons_succ];refine Zaq pz _ ⟨rfl,SqT.of p4,rfl,_,_,rfl,_,_,rfl,_,_,rfl,rfl,?_⟩;subst hY;refine cutF λY hY=>?_;have mC:=tbC.mat;have mB:=tbB.mat;have nn:((n.toNat:Nat):Int)=n:=Jbf hn'.1;have l1:n.toNat*(k+k2+8)<=2*(k+k2+8):=Jb3 (oz49 hn') (Jag _);have l2:n.toNat*(k2+k+8)<=2*(k2+k+8):=Jb3 (oz49 hn') (Jag _);refine⟨_,rfl,_,rfl,(show 2<=sizeLine by decide),λa1 ha1=>⟨_,rfl,_,rfl,(show 2<=sizeLine by decide),λa2 ha2=>⟨(show 2<=sizeLine by decide),λa3 ha3=>?_⟩⟩⟩;have sa:=((Same.new (o:=.tup [V.ref tc,V.ref tb]) ha1).trans (Same.new (o:=.tup [V.ref tb,V.ref tc]) ha2)).trans (Same.new (o:=.tup [V.ref a1,V.ref a2]) ha3);have q3:(upd (upd (upd H4 a1 (.tup [V.ref tc,V.ref tb])) a2 (.tup [V.ref tb,V.ref tc])) a3 (.tup [V.ref a1,V.ref a2])) a3=some (.tup [V.ref a1,V.ref a2]):=Zab;have q2:(upd (upd (upd H4 a1 (.tup [V.ref tc,V.ref tb])) a2 (.tup [V.ref tb,V.ref tc])) a3 (.tup [V.ref a1,V.ref a2])) a2=some (.tup [V.ref tb,V.ref tc]):=(Same.new ha3) _ _ Zab;have q1:(upd (upd (upd H4 a1 (.tup [V.ref tc,V.ref tb])) a2 (.tup [V.ref tb,V.ref tc])) a3 (.tup [V.ref a1,V.ref a2])) a1=some (.tup [V.ref tc,V.ref tb]):=(Same.new ha3) _ _ ((Same.new ha2) _ _ Zab);generalize upd (upd (upd H4 a1 (.tup [V.ref tc,V.ref tb])) a2 (.tup [V.ref tb,V.ref tc])) a3 (.tup [V.ref a1,V.ref a2])=H5 at *;have s05:=s04.trans sa;have no:∀ {t:Bool} H',Same H H'->(t=false)->¬ Zk8 p ns ps Ms Cs Bs Ms'->Q (.bl t) H':=λ{t} H' s' e h=>q t H' s' ⟨λz=>(by rw[e] at z;cases z),λz=>absurd z h⟩;have go:∀ (x1 x2 r1 r2:Addr) (rs1 rs2:List Addr) (kk kk2:Nat) (A B:Mv) (H6:Hp) (R:TS) (D3:Ends),Same H H6->TabB H p kk n.toNat n.toNat x1 r1 rs1 A->TabB H p kk2 n.toNat n.toNat x2 r2 rs2 B->kk+kk2<=200000->D3.rt=Q->(Zbg p A B n.toNat≠Zbo n.toNat->¬ Zk8 p ns ps Ms Cs Bs Ms')->(∀ H7,Same H6 H7->Zbg p A B n.toNat=Zbo n.toNat->D3.nx [some (.int p),some (.ref e),some (.ref st),some (.ref ot),some (.ref cl),some (.ref bl),some (.int n),some (.ref tc),some (.ref tb),some (.ref x1),some (.ref x2)] H7)->
     Y D3 [some (.int p),some (.ref e),some (.ref st),some (.ref ot),some (.ref cl),some (.ref bl),some (.int n),some (.ref tc),some (.ref tb),some (.ref x1),some (.ref x2)] H6:=by
    intro x1 x2 r1 r2 rs1 rs2 kk kk2 A B H6 R D3 s6 t1 t2 hkk hrt hne hnx;have l3:n.toNat*(kk+kk2+8)<=2*(kk+kk2+8):=Jb3 (oz49 hn') (Jag _);subst hY;walk_at "wp";refine Zjs x1 r1 x2 r2 rs1 rs2 p n.toNat n.toNat n.toNat kk kk2 A B ⟨rfl,hp,t1.same s6,t2.same s6,oz89 hn',oz89 hn',oz89 hn',oz143 hkk l3,λt r rs H7 s7 nw tv=>?_⟩;refine Zaq p n ⟨rfl,hp,hn'.1,∅,λt' r' rs' H8 s8 nw' tv'=>?_⟩;have mP:=Zfj hp t1.mat t2.mat;refine Za2 (Zgr (wd:=n.toNat) hp t1.hl t1.hw t1.gd t2.hl t2.hw t2.gd) λg1 g2 g3=>?_;rw[<- nn] at tv';refine Zae (Zmg (K:=K) (k':=0) (⟨tv.same s8,g1,g2,g3⟩:TabB H8 p _ n.toNat n.toNat t r rs (Zbg p A B n.toNat)) (Zcs hp n.toNat) tv') λbs ie ib=>?_;refine⟨t,rfl,t',rfl,_,SqT.of (tv.same s8).tup,_,SqT.of tv'.tup,bs,ie,?_⟩;have s68:=s6.trans (s7.trans s8);refine Zci (λhc=>?_) (λhc=>?_)
    .have hb:¬ bs.all id=true:=by simpa using hc
     rw[hrt];exact no H8 s68 rfl (hne λz=>hb (ib.mpr z))
    .have hb:bs.all id=true:=by simpa using hc
     exact hnx H8 (s7.trans s8) (ib.mp hb)
   refine⟨a3,rfl,⟨_,SqT.of q3⟩,for_tup (xs:=[V.ref a1,V.ref a2]) (λj σ H6=>∃ v9 v10:Option V,σ=[some (.int p),some (.ref e),some (.ref st),some (.ref ot),some (.ref cl),some (.ref bl),some (.int n),some (.ref tc),some (.ref tb),v9,v10]/\Same H5 H6/\(1<=j->Zbg p (Cs.getD i []) (Bs.getD i []) n.toNat=Zbo n.toNat)) ⟨v9,v10,rfl,Same.refl _,λh=>∅⟩ (λj σ H6 _ ⟨_,_,_,s6,_⟩=>SqT.of (s6 _ _ q3)) ?_ ?_⟩
   .intro j y σ H6 hy e93;refine Zbt e93 λv9 v10 e914 s6 f=>?_;clear e93;obtain rfl:=e914;refine Zpc λD3 hD3=>?_;have hrt:D3.rt=Q:=by rw[hD3,hD2]
    match j,hy with
    | 0,hy=>
     cases hy;simp only[Zpb,Zgu,Zsp,Zbe,List.set_cons_zero,List.set_cons_succ];refine Zaq a1 _ ⟨rfl,SqT.of (s6 _ _ q1),rfl,_,_,rfl,_,_,rfl,rfl,?_⟩;refine go tc tb rC rB rsC rsB k k2 _ _ H6 Y D3 (s05.trans s6) tbC tbB ∅ hrt (λh z=>h (z.1 i n en)) λH7 s7 h7=>?_;subst hD3;exact Zaq _ _ ⟨rfl,s6.trans s7,λ_=>h7⟩
    | 1,hy=>
     cases hy;simp only[Zpb,Zgu,Zsp,Zbe,List.set_cons_zero,List.set_cons_succ];refine Zaq a2 _ ⟨rfl,SqT.of (s6 _ _ q2),rfl,_,_,rfl,_,_,rfl,rfl,?_⟩;refine go tb tc rB rC rsB rsC k2 k _ _ H6 Y D3 (s05.trans s6) tbB tbC ∅ hrt (λh z=>h (Zsh hp mC mB (z.1 i n en))) λH7 s7 h7=>?_;subst hD3;exact Zaq _ _ ⟨rfl,s6.trans s7,λ_=>f (Jag _)⟩
    | j+2,hy=>cases hy
   .intro σ H6 e94;refine Zbt e94 λv9 v10 e915 s6 f=>?_;clear e94;obtain rfl:=e915;subst hD2;refine Zg3 _ _ _ _ _ ⟨rfl,s05.trans s6,λj n' hj e'=>?_⟩;by_cases h:j=i
    .subst h;rw[en] at e';cases e';exact f (show 1<=2 by decide)
    .exact inv j n' (oz21 hj h) e'
  .intro σ H3 e95;refine Zph e95 λv6 v7 v8 v9 v10 e916 s3 inv=>?_;clear e95;obtain rfl:=e916;subst hX;walk_at "wp";have bk:Zmc p ns Cs Bs:=λi n en=>inv i n (by rw[Jab];exact (Jaf.mp en).1) en;have nz2:∀ i,nz ns i<=2:=λi=>by
    unfold nz;by_cases hi:i.toNat<ns.length
    .have:=hn _ (Zaz (d:=0) hi);exact oz49 this
    .rw [Jac,Jak (oz116 hi)];decide
   refine Zu7 e st z tl cl bl p kt k k2 xs ps ns ts cts bts Ms Cs Bs ⟨rfl,hp,s3 _ _ he,pr.same s3,ip,p9,s3 _ _ hst,nz2,gt.tbl.same s3,gcl.same s3,gbl.same s3,kt1,k1,k21,λt5 l5 ts5 H5 s5 f5 e5 g5=>?_⟩;have s05:=s3.trans s5;refine Zae (gl_eq (K:=K) (H:=H5) (m:=1) (gt'.same s05) g5) λb hb eb=>?_;have eqz:EqD K H5 6 (.ref z') (.ref z) true:=list_eq (n:=5) (s05 _ _ hz') (s05 _ _ hz) rfl λj x y e1 e2=>by
    rw[e1] at e2;cases e2;rw[Jad] at e1;cases f1:ns[j]? with
    | none=>rw[f1] at e1;cases e1
    | some t=>rw[f1] at e1;cases e1;exact Zfo
   refine⟨t5,rfl,_,SqT.of (s05 _ _ hot),_,SqT.of e5,[true,b],⟨rfl,rfl,λj x y c f1 f2 f3=>?_⟩,q _ H5 s05 ?_⟩
   .match j,f1,f2,f3 with
    | 0,f1,f2,f3=>cases f1;cases f2;cases f3;exact eqz
    | 1,f1,f2,f3=>cases f1;cases f2;cases f3;exact hb
    | j+2,f1,_,_=>cases f1
   .have em:∀ i,i<ps.length->(ledM p ns ps Ms Cs Bs).getD i []=chM p ns ps Bs Ms Cs i:=λi hi=>by
     rw[Jac,Jad,Jas hi];rfl
    have e1:[true,b].all id=b:=by cases b <;> rfl
    rw[e1,eb,Jab];exact⟨λh=>⟨bk,λi hi=>by rw[h i hi,em i hi]⟩,λh i hi=>by rw[em i hi,h.2 i hi]⟩
theorem All2.mem {α β:Type}{P:α->β->Prop}{xs:List α}{ys:List β}(h:All2 P xs ys){x:α}(hx:x∈xs):∃ y∈ys,P x y:=by
 obtain⟨i,hi,rfl⟩:=Ja1.mp hx;refine Zae (h.at' (Jaa hi)) λy ey hp=>?_;exact⟨y,Jae ey,hp⟩
theorem TabB.rowG {H:Hp}{p:Int}{k n wd:Nat}{t r:Addr}{rs:List Addr}{M:Mv}(h:TabB H p k n wd t r rs M):∀ b∈rs,RowG H p k wd b:=λb hb=>by
 refine Zae (h.tv.row.mem hb) λys hy e91=>?_;obtain⟨vs,h1,h2⟩:=e91;refine⟨vs,h1,by rw[h2.1,h.hw ys hy],λv hv=>?_⟩;refine Zae (h2.mem hv) λy my ny=>?_;exact⟨y,ny,(h.gd ys hy y my).1,(h.gd ys hy y my).2⟩
theorem Zvw {H:Hp}{p:Int}{k:Nat}{a c:Addr}{vs:List V}{rs:List Addr}(ha:H a=some (.lst vs))(hne:vs≠[])(num:∀ v∈vs,NumG H p k v)(hc:H c=some (.lst (rs.map V.ref)))(nn:∀ b∈rs,∀ x,¬ NumV H p (.ref b) x):c≠a:=λz=>by
 subst z;rw[hc] at ha;cases ha;obtain⟨v,hv⟩:=List.exists_mem_of_ne_nil _ hne;refine Zae (num v hv) λx nv _=>?_;refine Zae (Jaz.mp hv) λb hb e92=>?_;obtain rfl:=e92;exact nn b hb x nv
theorem Zq8 {H:Hp}{p:Int}{b:Addr}(h:(∃ us,H b=some (.lst us))\/∃ x y z,H b=some (.tup [x,y,z])):∀ x,¬ NumV H p (.ref b) x:=λx nv=>by
 by_cases hp:p=0
 .refine Zae (nv.ref hp) λt e ht=>?_;cases e;rcases h with ⟨us,h⟩|⟨_,_,_,h⟩
  .rw [h] at ht;cases ht
  .rw [h] at ht;cases ht
 .cases nv.int hp
theorem gl_mut {H0 H:Hp}{p:Int}{k:Nat}{l a:Addr}{ts:List Addr}{ds:List (Nat×Nat)}{Ms:List Mv}{vs vs':List V}(h:GL H0 H p k l ts ds Ms)(ha:H a=some (.lst vs))(hne:vs≠[])(num:∀ v∈vs,NumG H p k v)(hl:vs'.length=vs.length)(num':∀ v∈vs',NumG H p k v):∃ Ms',GL H0 (upd H a (.lst vs')) p k l ts ds Ms':=by
 have tab:∀ i:Nat,∃ M:Mv,∀ t d,ts[i]?=some t->ds[i]?=some d->∃ r rs,TabB (upd H a (.lst vs')) p k d.1 d.2 t r rs M/\New H0 t r rs:=λi=>by
  cases et:ts[i]? with
  | none=>exact⟨[],λt d e=>by cases e⟩
  | some t=>
   cases ed:ds[i]? with
   | none=>exact⟨[],λt d _ e=>by cases e⟩
   | some d=>
    refine Zbd (h.tab i t d et ed) λr rs tb nw=>?_;have nt:t≠a:=Zdh tb.tv.tup ha (by intro z;cases z);have nr:r≠a:=Zvw ha hne num tb.tv.lst λb hb=>Zq8 (.inl (by
     refine Zae (tb.rowG b hb) λus h1 _=>?_;exact⟨us,h1⟩))
    obtain⟨M,tb'⟩:=Zld (H:=upd H a (.lst vs')) (p:=p) (hh:=(d.1:Int)) (wd:=(d.2:Int)) (k:=k) (t:=t) (r:=r) (rs:=rs) (by rw[tb.tv.row.1,tb.hl]) Zkt (by rw[Zaj nt];exact tb.tv.tup) (by rw[Zaj nr];exact tb.tv.lst) (λb hb=>by
     refine Zav (tb.rowG b hb) λus h1 h2 h3=>?_;by_cases e:b=a
     .subst e;rw[ha] at h1;cases h1;exact⟨vs',Zab,by rw[hl];exact h2,λx hx=>(num' x hx).put ha⟩
     .exact ⟨us,by rw[Zaj e];exact h1,h2,λx hx=>(h3 x hx).put ha⟩) tb.tv.nin
    rw[Jbu,Jbu] at tb';exact⟨M,λt' d' e1 e2=>by cases e1;cases e2;exact⟨r,rs,tb',nw⟩⟩
 have nl:l≠a:=Zvw ha hne num h.lst λb hb=>Zq8 (.inr (by
  obtain⟨i,hi,rfl⟩:=Ja1.mp hb;have hl:=h.len;refine Zbd (h.tab i _ _ (Jaa hi) (Jaa (show i<ds.length by exact oz74 hi hl))) λr rs tb _=>?_;exact⟨_,_,_,tb.tv.tup⟩))
 refine⟨(List.range ds.length).map λi=>Classical.choose (tab i),by rw[Zaj nl];exact h.lst,h.len,h.nl,λi t d e1 e2=>?_⟩;have hi:i<ds.length:=(Jaf.mp e2).1;have em:((List.range ds.length).map λi=>Classical.choose (tab i)).getD i []=Classical.choose (tab i):=by
  rw[Jac,Jad,Jas hi];rfl
 rw[em];exact Jcg (tab i) t d e1 e2
def Off (a b:Addr)(H H':Hp):Prop:=∀ c o,c≠a->c≠b->H c=some o->H' c=some o
theorem Zrx {H0 H H':Hp}{p:Int}{k:Nat}{l a b:Addr}{ts:List Addr}{ds:List (Nat×Nat)}{Ms:List Mv}{us:List V}(h:GL H0 H p k l ts ds Ms)(ha:H0 a≠none)(hb:H0 b≠none)(la:H a=some (.lst us))(lb:Bag H b)(o:Off a b H H'):GL H0 H' p k l ts ds Ms:=by
 have ne:∀ c,H0 c=none->c≠a/\c≠b:=λc hc=>⟨λz=>ha (z ▸ hc),λz=>hb (z ▸ hc)⟩
 have keep:∀ c x,H0 c=none->H c=some x->H' c=some x:=λc x hc e=>o c x (ne c hc).1 (ne c hc).2 e;have tup:∀ c xs,H c=some (.tup xs)->H' c=some (.tup xs):=λc xs e=>o c _ (Zdh e la (by intro z;cases z)) (by
  refine Zbd lb λx y h _=>?_;clear lb;exact Zdh e h (by intro z;cases z)) e
 refine⟨keep _ _ h.nl h.lst,h.len,h.nl,λi t d e1 e2=>?_⟩;refine Zbd (h.tab i t d e1 e2) λr rs tb nw=>?_;refine Zaq r rs ⟨⟨⟨keep _ _ nw.t tb.tv.tup,keep _ _ nw.r tb.tv.lst,tb.tv.row.monoM λc xs hc ⟨vs,h1,h2⟩=>⟨vs,keep _ _ (nw.rs c hc) h1,h2.mono λv x nv=>?_⟩,tb.tv.nin⟩,tb.hl,tb.hw,tb.gd⟩,nw⟩;by_cases hp:p=0
 .refine Zae (nv.ref hp) λt e93 ht=>?_;obtain rfl:=e93;exact NumV.tup hp (tup _ _ ht)
 .obtain rfl:=nv.int hp;exact NumV.of hp
def spOth:L2.Sp:=λvs H Q _=>∃ (H0:Hp) (b:Addr) (p:Int) (l:Addr) (k:Nat) (ts:List Addr) (ds:List (Nat×Nat)) (Ms:List Mv),vs=[.ref b,.int p,.ref l]/\Bag H b/\Bag H0 b/\GroundP p/\GL H0 H p k l ts ds Ms/\7<=k/\ds.length<=9/\(∀ d∈ds,d.1<=24/\d.2<=24) /\
 ∀ (a:Addr) (Ms':List Mv) H',Bag H' b->GL H0 H' p k l ts ds Ms'->H0 a=none->(∃ us,H a=some (.lst us))->(∀ Hx H0' Ms0,Same Hx H->GL H0' Hx p k l ts ds Ms0->Hx a≠none)->Off a b H H'->Q .non H'
theorem ok_oth (F:Fun K "_law_other_number" "_law_other_number" Zcc f fd)(T:Txt K mg C G S)(Yaa:Cal P w K mg base "_law_draw" 1 Zc8)(Yai:Cal P w K mg base "_law_number" 2 (Zjw 7)):FnOk P w K mg base CX0 3 f fd ["_law_bag_here","_law_p","_law_tables"] spOth:=by
 have nd:=Zc9.nd;refine F.ok Zc9 (λvs H Q E h=>?_) (λcdv A outer s H vs Q E hr h=>?_)
 .refine xE8_2 h λH0 b p l k ts ds Ms e94 _=>?_;clear h;obtain rfl:=e94;rfl
 .refine Zpg h λH0 b p l k ts ds Ms e95 hb hb0 e96=>?_;clear h;obtain rfl:=e95;refine Zey e96 λhp gl k7 d9 d24 q=>?_;clear e96;refine⟨_,((Zfd (i:=3) (own:=["_law_k"]) (fr:=[("_law_tables",2)]) rfl (Zbn (by kernel_rfl)) (Zfe rfl T.n_range ((Za9 Zau rfl T.n_len Jbd ((pv 2)<&>Zaa))<&>Zaa)) (λ_ _ _ _=>⟨(0<<<["_law_k","_law_tables"]),(Zmt (PW.pt (Zh0 (Zb4 Zd2 ((Zkz K rfl)<|>((Zch K rfl)<|>(pv 1)<||>(pv 0))<||>Zac) Zac (Zak _)) (Zfc (Zb4 Zd2 ((Zkz K rfl)<|>((Zch K rfl)<|>(pv 1)<||>(pv 0))<||>Zac) Zac (Zak _)))))),(pv 0)⟩) nd rfl rfl rfl)<*>((@Za6 _ _ _ _ _ _ _ _ (Zam (Zqv (Zjc hr)) (pvr 3) (@Zbw _ _ _ _ Zaa) (Zak _)) (@Zan _ _ _ ps_retN) Zal)<*>((4|||nd|||(Zat<|>(Zar<|>(pvr 2)<||>(Zar<|>(pvr 3)<||>(Yaa<$>hr<$>((pvr 0)<&>((Za9 Zau rfl T.n_len Jbd ((pvr 3)<&>Zaa))<&>Zaa)))))<||>Zac))<*>((5|||nd|||(Zar<|>(pvr 4)<||>(Yaa<$>hr<$>((pvr 0)<&>((Za9 Zau rfl T.n_len Jbd ((pvr 4)<&>Zaa))<&>Zaa)))))<*>(@Zan _ _ _ (Zbk (Yai<$>hr<$>((pvr 0)<&>((pvr 1)<&>Zaa))) (Zer (pvr 5) (Yaa<$>hr<$>((pvr 0)<&>((Za9 Zau rfl T.n_len Jbd ((pvr 5)<&>Zaa))<&>Zaa))) Zb7))))))),?_⟩;refine Zd4 λX hX=>?_;walk_at "wp";have tl:=gl.len;refine⟨_,rfl,l,rfl,_,.inl (SqL.of gl.lst),_,rfl,∅,by rw[Jab];omega,λD hD=>?_⟩;refine Zk4 (λi=>decide (0<(ds.getD i (0,0)).1) && decide (0<(ds.getD i (0,0)).2)) hD (by rw[Jab,Jbu];omega) (λi H1 Q1 hi s1 q1=>?_) (λH1 s1 e1=>?_)
  .rw [Jab,Jbu] at hi;have et:ts[i]?=some (ts[i]'hi):=Jaa _;have ed:ds[i]?=some (ds[i]'(Zc0 tl hi)):=Jaa _;refine Zbd (gl.tab i _ _ et ed) λr rs tb _=>?_;have tt:=s1 _ _ tb.tv.tup;rw[Zao ed] at q1;generalize ds[i]'(Zc0 tl hi)=d at *;generalize ts[i]'hi=t at *;have at1:atI (ts.map V.ref) (0+(i:Int))=some (.ref t):=by
    rw[Jdo];exact Znf (by rw[Jad,et];rfl)
   simp only[Zbm];walk_at "wp";refine⟨_,rfl,l,rfl,_,SqL.of (s1 _ _ gl.lst),_,at1,t,rfl,_,SqT.of tt,_,rfl,_,rfl,Zci (λh=>⟨_,rfl,l,rfl,_,SqL.of (s1 _ _ gl.lst),_,at1,t,rfl,_,SqT.of tt,_,rfl,_,rfl,?_⟩) (λh=>?_)⟩
   .have h:=Jat h;have:=q1 H1 (Same.refl _);rw[Jah (show 0<d.1 by omega),Jdh] at this;by_cases h2:0<d.2
    .rw [Jah (show (0:Int)<(d.2:Int) by omega)];rwa [Jah h2] at this
    .rw [Jay (show ¬ (0:Int)<(d.2:Int) by omega)];rwa [Jay h2] at this
   .have h:¬ (0:Int)<(d.1:Int):=λz=>h (Jah z);have:=q1 H1 (Same.refl _);rwa [Jay (show ¬ 0<d.1 by omega),Jdm] at this
  .rw [Jab,Jbu] at e1;subst hX;refine Zd4 λX hX=>?_;have gl1:=gl.same s1;have b1:=hb.same s1;walk_at "wp";refine⟨Jb5 _,λp1 hp1=>⟨_,SqL.of (Same.new hp1 _ _ e1),_,SqL.of Zab,?_⟩⟩;have s2:=Same.new (o:=.lst []) hp1;have eD:=s2 _ _ e1;have gl2:=gl1.same s2;have b2:=b1.same s2;have s02:=s1.trans s2;generalize upd H1 p1 (.lst [])=H2 at *;have hz:∀ i∈(List.range ts.length).filter (λi=>decide (0<(ds.getD i (0,0)).1) && decide (0<(ds.getD i (0,0)).2)),i<ts.length/\0<(ds.getD i (0,0)).1/\0<(ds.getD i (0,0)).2:=λi hi=>by
    obtain⟨h1,h2⟩:=Jcv.mp hi;rw[Jcb] at h2;exact⟨Ja0.mp h1,Jat h2.1,Jat h2.2⟩
   have zl:((List.range ts.length).filter (λi=>decide (0<(ds.getD i (0,0)).1) && decide (0<(ds.getD i (0,0)).2))).length<=ts.length:=by
    have:=List.length_filter_le (λi=>decide (0<(ds.getD i (0,0)).1) && decide (0<(ds.getD i (0,0)).2)) (List.range ts.length);rwa [Jal] at this
   generalize (List.range ts.length).filter (λi=>decide (0<(ds.getD i (0,0)).1) && decide (0<(ds.getD i (0,0)).2))=zs at *;by_cases z0:zs=[]
   .subst z0;refine .inr ⟨[],⟨rfl,rfl,λj x y c e=>by cases e⟩,Zrf rfl (q l Ms H2 b2 gl2 gl.nl ⟨_,gl.lst⟩ (λHx H0' Ms0 _ g z=>by rw[g.lst] at z;cases z) λc o _ _ e=>s02 _ _ e)⟩
   .refine .inl ⟨λz=>z0 (List.length_eq_zero_iff.mp (by rw[Jab] at z;exact z)),?_⟩;have zp:0<zs.length:=List.length_pos_iff.mpr z0;subst hX;refine Zd4 λX hX=>?_;walk_at "wp";refine⟨_,.inl (SqL.of eD),b2.draw (by rw[Jab];omega) (by rw[Jab];omega) λw H3 w0 w1 e3 b3=>?_⟩;rw[Jab] at w1;have eD3:=e3 _ _ (hb.ne hD) eD;have gl3:=gl2.ext hb0 b2 e3;have hw:w.toNat<zs.length:=by exact oz33 w0 w1
    refine Za2 (hz _ (Jap hw)) λi1 i2 i3=>?_;have ezw:zs[w.toNat]?=some (zs[w.toNat]'hw):=Jaa hw;generalize zs[w.toNat]'hw=i at *;have et:ts[i]?=some (ts[i]'i1):=Jaa _;have ed:ds[i]?=some (ds[i]'(Zc0 tl i1)):=Jaa _;refine Zbd (gl3.tab i _ _ et ed) λr rs tb nw=>?_;have d24i:=d24 _ (Jae ed);rw[Zao ed] at i2 i3;have fnd:∀ Hx H0' Ms0,Same Hx H->GL H0' Hx p k l ts ds Ms0->∀ a∈rs,∃ us,Hx a=some (.lst us):=λHx H0' Ms0 sx g a ha=>by
     refine Zbd (g.tab i _ _ et ed) λr' rs' tb' _=>?_;have e02:=sx.trans s02;have ht:ts[i]'i1≠b:=hb0.ne nw.t;have c1:=(e3 _ _ ht (e02 _ _ tb'.tv.tup)).symm.trans tb.tv.tup
     injection c1 with c1
     injection c1 with c1
     injection c1 with _ c1
     injection c1 with _ c1
     injection c1 with c1 _
     injection c1 with c1
     subst c1;have c2:=(e3 _ _ (hb0.ne nw.r) (e02 _ _ tb'.tv.lst)).symm.trans tb.tv.lst
     injection c2 with c2
     injection c2 with c2
     have c2:=Zqe c2;subst c2;refine Zae (tb'.rowG a ha) λus h1 _=>?_;exact⟨us,h1⟩
    generalize ds[i]'(Zc0 tl i1)=d at *;generalize ts[i]'i1=t at *;have at1:atI (ts.map V.ref) (0+(i:Int))=some (.ref t):=by
     rw[Jdo];exact Znf (by rw[Jad,et];rfl)
    refine Zaq _ w ⟨rfl,SqL.of eD3,_,Zb0 w0 (by rw[Jad,ezw];rfl),_,_,rfl,SqL.of gl3.lst,_,at1,t,rfl,_,SqT.of tb.tv.tup,_,rfl,?_⟩;have rl:=tb.tv.row.1;have ml:=tb.hl;subst hX;refine Zd4 λX hX=>?_;walk_at "wp";refine⟨_,.inl (SqL.of tb.tv.lst),b3.draw (by rw[Jab];omega) (by rw[Jab];omega) λw2 H4 w20 w21 e4 b4=>?_⟩;rw[Jab] at w21;have gl4:=gl3.ext hb0 b3 e4;have hw2:w2.toNat<rs.length:=by exact oz33 w20 w21
    have er:rs[w2.toNat]?=some (rs[w2.toNat]'hw2):=Jaa hw2;have ma:=Jae er;refine Zav (tb.rowG _ ma) λus ha ul num=>?_;have na:rs[w2.toNat]'hw2≠b:=hb0.ne (nw.rs _ ma);have f0:=nw.rs _ ma;have fn2:=λHx H0' Ms0 sx g=>fnd Hx H0' Ms0 sx g _ ma;generalize rs[w2.toNat]'hw2=a at *;have ha4:=e4 _ _ na ha;have num4:∀ v∈us,NumG H4 p k v:=λv hv=>(num v hv).ext b3 e4;refine Zaq _ w2 ⟨rfl,SqL.of (e4 _ _ (hb0.ne nw.r) tb.tv.lst),_,Zb0 w20 (by rw[Jad,er];rfl),?_⟩;subst hX;walk_at "wp";refine Zaq b p ⟨rfl,b4,hp,λva x H5 e5 b5 nx ix bx=>?_⟩;have ha5:=e5 _ _ na ha4;have num5:∀ v∈us,NumG H5 p k v:=λv hv=>(num4 v hv).ext b4 e5;refine⟨_,.inl (SqL.of ha5),b5.draw ∅ ∅ λw3 H6 w30 w31 e6 b6=>?_⟩;have ha6:=e6 _ _ na ha5;have num6:∀ v∈us,NumG H6 p k v:=λv hv=>(num5 v hv).ext b5 e6;have gl6:=(gl4.ext hb0 b4 e5).ext hb0 b5 e6;obtain⟨Ms',gm⟩:=gl_mut (vs':=us.set w3.toNat va) gl6 ha6 (λz=>by rw[z] at ul;simp at ul;omega) num6 (by rw[Jav]) λv hv=>by
     rcases Zdr hv with z|z
     .rw [z];exact⟨x,nx.ext b5 e6,ix,bx.le k7⟩
     .exact num6 v z
    refine Zaq _ w3 ⟨rfl,ha6,w3.toNat,?_,q a Ms' _ (b6.new na) gm f0 (fn2 H H0 Ms (Same.refl _) gl) (λHx H0' Ms0 sx g z=>?_) λc o n1 n2 e=>?_⟩
    .have:=Zui (n:=us.length) (k:=w3.toNat) (oz110 i3 ul w31);rwa [Jbf w30] at this
    .obtain ⟨us',h1⟩:=fn2 Hx H0' Ms0 sx g;rw[z] at h1;cases h1
    .rw [Zaj n1];exact e6 _ _ n2 (e5 _ _ n2 (e4 _ _ n2 (e3 _ _ n2 (s02 _ _ e))))
theorem GL.back {b:Addr}{H0 H1 H:Hp}{p:Int}{k:Nat}{l:Addr}{ts:List Addr}{ds:List (Nat×Nat)}{Ms:List Mv}(h:GL H1 H p k l ts ds Ms)(e:Ext b H0 H1)(b1:Bag H1 b):GL H0 H p k l ts ds Ms:=⟨h.lst,h.len,e.free (b1.ne h.nl) h.nl,λi t d e1 e2=>let ⟨r,rs,a,nw⟩:=h.tab i t d e1 e2;⟨r,rs,a,⟨e.free (b1.ne nw.t) nw.t,e.free (b1.ne nw.r) nw.r,λx hx=>e.free (b1.ne (nw.rs x hx)) (nw.rs x hx)⟩⟩⟩
def spSpt:L2.Sp:=λvs H Q _=>∃ (Ha Hb Hc:Hp) (b ot cl bl z tl:Addr) (p:Int) (kt k:Nat) (ps:List (Int×Int)) (ns:List Int) (ts cts bts:List Addr) (Ms Cs Bs:List Mv),vs=[.ref b,.int p,.ref ot,.ref cl,.ref bl]/\Bag H b/\Bag Ha b/\Bag Hb b/\Bag Hc b/\z≠b/\GroundP p/\H ot=some (.tup [.ref z,.ref tl])/\H z=some (.lst (ns.map V.int)) /\
 GL Ha H p kt tl ts (tds ns ps) Ms/\GL Hb H p k cl cts (cds ns) Cs/\GL Hc H p k bl bts (cds ns) Bs/\ps.length<=9/\ns.length<=8/\(∀ n∈ns,0<=n/\n<=2)/\7<=kt/\7<=k /\
 ∀ (t ot' z' tl' cl' bl':Addr) (ts' cts' bts':List Addr) (Ms' Cs' Bs':List Mv) H',Ext b H H'->Bag H' b->H' t=some (.tup [.ref ot',.ref cl',.ref bl'])->H' ot'=some (.tup [.ref z',.ref tl'])->H' z'=some (.lst (ns.map V.int))->GL H H' p kt tl' ts' (tds ns ps) Ms'->GL H H' p k cl' cts' (cds ns) Cs'->GL H H' p k bl' bts' (cds ns) Bs'->Q (.ref t) H'
theorem nz_2 {ns:List Int}(hn:∀ n∈ns,0<=n/\n<=2):∀ i,nz ns i<=2:=λi=>by
 unfold nz;by_cases hi:i.toNat<ns.length
 .have:=hn _ (Zaz (d:=0) hi);exact oz49 this
 .rw [Jac,Jak (oz116 hi)];decide
theorem Zvd {ns:List Int}{ps:List (Int×Int)}(hn:∀ n∈ns,0<=n/\n<=2):∀ d∈tds ns ps,d.1<=24/\d.2<=24:=λd hd=>by
 refine Zae (Jaz.mp hd) λq _ e91=>?_;obtain rfl:=e91;exact⟨Ja4 (nz_2 hn _) ⇑0,Ja4 (nz_2 hn _) ⇑0⟩
theorem Zkf {ns:List Int}(hn:∀ n∈ns,0<=n/\n<=2):∀ d∈cds ns,d.1<=24/\d.2<=24:=λd hd=>by
 refine Zae (Jaz.mp hd) λn h e92=>?_;obtain rfl:=e92;have:=hn n h;exact⟨by show n.toNat<=24;omega,by show n.toNat<=24;omega⟩
theorem ok_spt (F:Fun K "_law_spoilt" "_law_spoilt" Ze5 f fd)(T:Txt K mg C G S)(Yaa:Cal P w K mg base "_law_draw" 1 Zc8)(Yaj:Cal P w K mg base "_law_copies" 2 Zs6)(Ybc:Cal P w K mg base "_law_other_number" 3 spOth):FnOk P w K mg base CX0 4 f fd ["_law_bag_here","_law_p","_law_other","_law_changes","_law_backs"] spSpt:=by
 have nd:=Zgk.nd;refine F.ok Zgk (λvs H Q E h=>?_) (λcdv A outer s H vs Q E hr h=>?_)
 .obtain ⟨Ha,Hb,Hc,b,ot,cl,bl,z,tl,p,kt,k,ps,ns,ts,cts,bts,Ms,Cs,Bs,rfl,_⟩:=h;rfl
 .obtain ⟨Ha,Hb,Hc,b,ot,cl,bl,z,tl,p,kt,k,ps,ns,ts,cts,bts,Ms,Cs,Bs,rfl,hb,hba,hbb,hbc,nzb,hp,hot,hz,gt,gc,gb,p9,n8,hn,kt7,k7,q⟩:=h;refine⟨_,((5|||nd|||(Yaa<$>hr<$>((pvr 0)<&>(Zac<&>Zaa))))<*>((2|||nd|||(@Zaw _ _ _ _ _ ((Zjg Zbz rfl T.n_list Jcl (((Zgh Zat)<|>(pvr 2)<||>Zac)<&>Zaa))<&>((Yaj<$>hr<$>(((Zgh Zat)<|>(pvr 2)<||>Zac)<&>Zaa))<&>Zaa))))<*>((3|||nd|||(Yaj<$>hr<$>((pvr 3)<&>Zaa)))<*>((4|||nd|||(Yaj<$>hr<$>((pvr 4)<&>Zaa)))<*>((@Za6 _ _ _ _ _ _ _ _ (Zam (Zm0 Zc7) (pvr 5) Zac (Zak _)) (~~~(@Zaw _ _ _ _ _ ((pvr 2)<&>((pvr 4)<&>((pvr 3)<&>Zaa))))) Zal)<*>((@Za6 _ _ _ _ _ _ _ _ (PW.pt (Zh0 (Zam (Zk9 Zd2) (pvr 5) Zac (Zak _)) (Zfc (Zam (Zk9 Zia) (pvr 5) Zac (Zak _))))) (@Zan _ _ _ (Zdw (Ybc<$>hr<$>((pvr 0)<&>((pvr 1)<&>((Zar<|>(@Zbw _ _ _ _ (((Zgh Zat)<|>(pvr 2)<||>Zac)<&>((pvr 3)<&>((pvr 4)<&>Zaa))))<||>((Zk9 Zff)<|>(pvr 5)<&&>Zac))<&>Zaa)))))) Zal)<*>(~~~(@Zaw _ _ _ _ _ ((pvr 2)<&>((pvr 3)<&>((pvr 4)<&>Zaa))))))))))),?_⟩;refine Zd4 λX hX=>?_;walk_at "wp";refine hb.draw ⇑0 ⇑0 λy H1 y0 y1 e1 b1=>?_;have gt1:=gt.ext hba hb e1;have gc1:=gc.ext hbb hb e1;have gb1:=gb.ext hbc hb e1;have hot1:H1 ot=some (.tup [.ref z,.ref tl]):=by
   refine Zbd hb λu v hbl _=>?_;clear hb;exact e1 _ _ (Zdh hot hbl (by intro z;cases z)) hot
  have hz1:=e1 _ _ nzb hz;subst hX;refine Zd4 λX hX=>?_;walk_at "wp";refine⟨_,SqT.of hot1,_,rfl,z,rfl,_,.inl (SqL.of hz1),λz' hz'=>?_⟩;have s2:=Same.new (o:=.lst (ns.map V.int)) hz';have ez':(upd H1 z' (.lst (ns.map V.int))) z'=some (.lst (ns.map V.int)):=Zab;generalize upd H1 z' (.lst (ns.map V.int))=H2 at *;have e02:=e1.trans s2.ext;have b2:=b1.same s2;have nz':z'≠b:=b1.ne hz';refine⟨_,SqT.of (s2 _ _ hot1),_,rfl,Ha,tl,p,kt,ts,_,Ms,rfl,gt1.same s2,by rw[Jab];exact p9,λd hd=>(Zvd hn d hd).1,λtl' ts' H3 s3 g3=>⟨(show 2<=sizeLine by decide),λot' hot'=>?_⟩⟩;have s4:=Same.new (o:=.tup [V.ref z',V.ref tl']) hot';have eot:(upd H3 ot' (.tup [V.ref z',V.ref tl'])) ot'=some (.tup [V.ref z',V.ref tl']):=Zab;generalize upd H3 ot' (.tup [V.ref z',V.ref tl'])=H4 at *;have s24:=s3.trans s4;subst hX;refine Zd4 λX hX=>?_;walk_at "wp";refine Zla Hb cl p k cts _ Cs ⟨rfl,gc1.same (s2.trans s24),by rw[Jab];omega,λd hd=>(Zkf hn d hd).1,λcl' cts' H5 s5 g5=>?_⟩;subst hX;refine Zd4 λX hX=>?_;walk_at "wp";refine Zla Hc bl p k bts _ Bs ⟨rfl,gb1.same ((s2.trans s24).trans s5),by rw[Jab];omega,λd hd=>(Zkf hn d hd).1,λbl' bts' H6 s6 g6=>?_⟩;have s46:=s5.trans s6;have e06:Ext b H H6:=(e02.trans s24.ext).trans s46.ext;have s26:=s24.trans s46;have b4:=b2.same s24;have b5:=b4.same s5;have b6:=b2.same s26;have gT:GL H2 H6 p kt tl' ts' (tds ns ps) Ms:=(g3.same s4).same s46;have gC:GL H4 H6 p k cl' cts' (cds ns) Cs:=g5.same s6;have gB:GL H5 H6 p k bl' bts' (cds ns) Bs:=g6;have fin:∀ (H7:Hp) (c1 d1:Addr) (ct dt:List Addr) (Ms' Cs' Bs':List Mv),Ext b H H7->Bag H7 b->H7 ot'=some (.tup [.ref z',.ref tl'])->H7 z'=some (.lst (ns.map V.int))->GL H H7 p kt tl' ts' (tds ns ps) Ms'->GL H H7 p k c1 ct (cds ns) Cs'->GL H H7 p k d1 dt (cds ns) Bs'->
    (3<=sizeLine/\∀ t,H7 t=none->Q (.ref t) (upd H7 t (.tup [.ref ot',.ref c1,.ref d1]))):=by
   intro H7 c1 d1 ct dt Ms' Cs' Bs' e7 b7 h1 h2 g1 g2 g3;refine⟨⇑0,λt ht=>?_⟩;have s8:=Same.new (o:=.tup [.ref ot',.ref c1,.ref d1]) ht;exact q t ot' z' tl' c1 d1 ts' ct dt Ms' Cs' Bs' _ (e7.trans s8.ext) (b7.same s8) Zab (s8 _ _ h1) (s8 _ _ h2) (g1.same s8) (g2.same s8) (g3.same s8)
  have oT:=gT.back e02 b2;have oC:=gC.back (e02.trans s24.ext) b4;have oB:=gB.back ((e02.trans s24.ext).trans s5.ext) b5;have z6:=s26 _ _ ez';have ot6:=s46 _ _ eot;have nb:∀ {Hx:Hp},Bag Hx b->Hx b≠none:=λ{Hx} h z=>by
   refine Zbd h λu v hx _=>?_;clear h;rw[hx] at z;cases z
  have lenT:(tds ns ps).length<=9:=by rw[Jab];exact p9
  have lenC:(cds ns).length<=9:=by rw[Jab];omega
  subst hX;refine Zd4 λX hX=>?_;walk_at "wp";refine Zci (λhc=>?_) (λhc=>?_)
  .exact fin H6 bl' cl' bts' cts' Ms Bs Cs e06 b6 ot6 z6 oT oB oC
  .have same:=fin H6 cl' bl' cts' bts' Ms Cs Bs e06 b6 ot6 z6 oT oC oB;subst hX;walk_at "wp";refine Zci (λh0=>Zci (λh4=>?_) (λ_=>same)) (λ_=>same);have h0:=Jat h0;have h4:=Jat h4;refine⟨_,SqT.of ot6,_,rfl,(show 3<=sizeLine by decide),λp1 hp1=>?_⟩;have s7:=Same.new (o:=.lst [V.ref tl',V.ref cl',V.ref bl']) hp1;have ep1:(upd H6 p1 (.lst [V.ref tl',V.ref cl',V.ref bl'])) p1=some (.lst [V.ref tl',V.ref cl',V.ref bl']):=Zab;generalize upd H6 p1 (.lst [V.ref tl',V.ref cl',V.ref bl'])=H7 at *;have b7:=b6.same s7;have s27:=s26.trans s7;have s47:=s46.trans s7;have ot7:=s7 _ _ ot6;have e27:∀ {H8:Hp} {a:Addr},H2 a=none->Off a b H7 H8->Ext b H H8:=λ{H8 a} ha o c x hc e=>o c x (λz=>by have:=e02 _ _ hc e;rw[z,ha] at this;cases this) hc (s27 _ _ (e02 _ _ hc e));have ext:∀ {Hx H8:Hp} {a:Addr},Same Hx H7->Hx a=none->Off a b H7 H8->Ext b Hx H8:=λ{Hx H8 a} sx ha o c x hc e=>o c x (λz=>by rw[z,ha] at e;cases e) hc (sx _ _ e);have otk:∀ {H8:Hp} {a:Addr} {us:List V},H7 a=some (.lst us)->Off a b H7 H8->H8 ot'=some (.tup [.ref z',.ref tl']):=λ{H8 a us} la o=>o _ _ (Zdh ot7 la (by intro z;cases z)) (by
    refine Zbd b7 λu v hx _=>?_;clear b7;exact Zdh ot7 hx (by intro z;cases z)) ot7
   have y3:y=1\/y=2\/y=3:=by exact oz73 h0 h4
   rcases y3 with rfl|rfl|rfl
   .refine ⟨_,SqL.of ep1,.ref tl',rfl,H2,b,p,tl',kt,ts',_,Ms,rfl,b7,b2,hp,gT.same s7,kt7,lenT,Zvd hn,λa Ms' H8 b8 g8 f0 ⟨us,la⟩ fd o=>?_⟩;have f4:=fd H4 H2 Ms s47 (g3.same s4);have f5:H5 a≠none:=λz=>f4 (s5.free z);exact fin H8 cl' bl' cts' bts' Ms' Cs Bs (e27 f0 o) b8 (otk la o) (o _ _ (λz=>by rw[z,f0] at ez';cases ez') nz' (s27 _ _ ez')) (g8.back e02 b2)
     ((Zrx (gC.same s7) f4 (nb b4) la b7 o).back (e02.trans s24.ext) b4) ((Zrx (gB.same s7) f5 (nb b5) la b7 o).back ((e02.trans s24.ext).trans s5.ext) b5)
   .refine ⟨_,SqL.of ep1,.ref cl',rfl,H4,b,p,cl',k,cts',_,Cs,rfl,b7,b4,hp,gC.same s7,k7,lenC,Zkf hn,λa Cs' H8 b8 g8 f0 ⟨us,la⟩ fd o=>?_⟩;have f5:=fd H5 H4 Cs (s6.trans s7) g5;have f2:H2 a=none:=s24.free f0;exact fin H8 cl' bl' cts' bts' Ms Cs' Bs (e27 f2 o) b8 (otk la o) (o _ _ (λz=>by rw[z,f2] at ez';cases ez') nz' (s27 _ _ ez')) (((g3.same s4).ext b2 b4 (ext s47 f0 o)).back e02 b2)
     (g8.back (e02.trans s24.ext) b4) ((Zrx (gB.same s7) f5 (nb b5) la b7 o).back ((e02.trans s24.ext).trans s5.ext) b5)
   .refine ⟨_,SqL.of ep1,.ref bl',rfl,H5,b,p,bl',k,bts',_,Bs,rfl,b7,b5,hp,gB.same s7,k7,lenC,Zkf hn,λa Bs' H8 b8 g8 f0 ⟨us,la⟩ fd o=>?_⟩;have f4:H4 a=none:=s5.free f0;have f2:H2 a=none:=s24.free f4;exact fin H8 cl' bl' cts' bts' Ms Cs Bs' (e27 f2 o) b8 (otk la o) (o _ _ (λz=>by rw[z,f2] at ez';cases ez') nz' (s27 _ _ ez')) (((g3.same s4).ext b2 b4 (ext s47 f4 o)).back e02 b2)
     ((g5.ext b4 b5 (ext (s6.trans s7) f0 o)).back (e02.trans s24.ext) b4) (g8.back ((e02.trans s24.ext).trans s5.ext) b5)
def spLs6:L2.Sp:=λvs H Q _=>∃ (l a:Addr) (p m:Int) (xs:List V) (ps:List (Int×Int)),vs=[.ref l,.int p,.int m,.ref a]/\Bag H l/\GroundP p/\H a=some (.lst xs)/\Prs H xs ps/\InP m ps/\ps.length<=9/\1<=m/\m<=8/\a≠l /\
 ∀ (t z tl:Addr) (ns:List Int) (ts:List Addr) (Ms:List Mv) (H':Hp),Ext l H H'->Bag H' l->H t=none->H' t=some (.tup [.ref z,.ref tl])->H z=none->H' z=some (.lst (ns.map V.int))->(ns.length:Int)=m->(∀ n∈ns,0<=n/\n<=2)->GL H H' p 60 tl ts (tds ns ps) Ms->Q (.ref t) H'
theorem ok_ls6 (F:Fun K "_law_standing" "_law_standing" Zdu f fd)(T:Txt K mg C G S)(Yaa:Cal P w K mg base "_law_draw" 1 Zc8)(Ybw:Cal P w K mg base "_law_table" 5 spTbG):FnOk P w K mg base CX0 6 f fd ["_law_bag_here","_law_p","_law_many","_law_arrows"] spLs6:=by
 have nd:=Ze3.nd;refine F.ok Ze3 (λvs H Q E h=>?_) (λcdv A outer s H vs Q E hr h=>?_)
 .refine xE6_2 h λl a p m xs ps e95 _=>?_;clear h;obtain rfl:=e95;rfl
 .refine Zlb h λl a p m xs ps e96 hb hp e97=>?_;clear h;obtain rfl:=e96;refine xE0_8 e97 λha pr ip p9 m1 m8 na q=>?_;clear e97;refine⟨_,((Zap (i:=4) nd rfl (Or.inr rfl) (@Zbw _ _ _ _ Zaa))<*>((5|||nd|||(Zar<|>(@Zbw _ _ _ _ (Zac<&>(Zac<&>Zaa)))<||>(Zjg Zjp rfl T.n_int boot_int ((Zcg (Zk9 Zd2) (pvr 1) Zac (Zak _))<&>Zaa))))<*>((Zck Ja5 rfl (Zfe rfl T.n_range ((pv 2)<&>Zaa)) (6>>>nd) ((Zdw (Zks Jbm Jbh Jbi (mtJ Zb5) (pvr 4) ((Za9 (Zl6 rfl) rfl T.n_min boot_min ((pvr 5)<&>((Yaa<$>hr<$>((pvr 0)<&>(Zac<&>Zaa)))<&>Zaa)))<&>Zaa)))<*>(@Zan _ _ _ (5|||nd|||(Zff<|>(pvr 5)<&&>(Zar<|>(pvr 4)<||>(Zh9 Zel Zac)))))))<*>((Zfd (i:=7) (own:=["_law_tail","_law_head"]) (fr:=[("_law_bag_here",0),("_law_p",1),("_law_sizes",4)]) rfl (Zbn (by kernel_rfl)) (Zbc (pv 3)) (λ_ _ _ _=>⟨(@Zcq _ K rfl _ _ _ _ 2 rfl ((0<<<["_law_tail","_law_head","_law_bag_here","_law_p","_law_sizes"])^^^((1<<<["_law_tail","_law_head","_law_bag_here","_law_p","_law_sizes"])^^^(@Za0 _))) ⇑1 ⇑1),Zay,(Ybw<$>hr<$>((pv 2)<&>((pv 3)<&>(((Zch K rfl)<|>(pv 4)<||>(pv 1))<&>(((Zch K rfl)<|>(pv 4)<||>(pv 0))<&>Zaa)))))⟩) nd rfl rfl rfl)<*>(~~~(@Zaw _ _ _ _ _ ((pvr 4)<&>((pvr 7)<&>Zaa)))))))),?_⟩;refine cut2 λX hX=>?_;walk_at "wp";have p0:=hp.lo;refine⟨Jb5 _,λz hz=>?_⟩;have nz:z≠l:=hb.ne hz;have naz:a≠z:=Zah ha hz;have ez:(upd H z (.lst [])) z=some (.lst []):=Zab;have s1:=Same.new (o:=.lst []) hz;have b1:=hb.new (o:=.lst []) nz;generalize upd H z (.lst [])=H1 at *;refine⟨(show 2<=sizeLine by decide),λp1 hp1=>?_⟩;obtain⟨le0,hle,l0,l7⟩:∃ le0:Int,atI [V.int 4,V.int 7] (if decide (0<p)=true then 1 else 0)=some (.int le0)/\0<=le0/\le0<=7:=by
   by_cases h:0<p
   .exact ⟨7,by rw[Jah h];rfl,⇑0,⇑0⟩
   .exact ⟨4,by rw[Jay h];rfl,⇑0,⇑0⟩
  have s2:=Same.new (o:=.lst [V.int 4,V.int 7]) hp1;refine⟨_,SqL.of Zab,_,hle,?_⟩;have ez2:=s2 _ _ ez;have b2:=b1.same s2;have s02:=s1.trans s2;generalize upd H1 p1 (.lst [V.int 4,V.int 7])=H2 at *;subst hX;refine Zd4 λX hX=>?_;refine cutF λY hY=>?_;refine⟨_,rfl,m,rfl,∅,∅,Zby (λi σ H3=>∃ (v6:Option V) (le:Int) (ns:List Int),σ=[some (.ref l),some (.int p),some (.int m),some (.ref a),some (.ref z),some (.int le),v6,none]/\0<=le/\le<=7/\Ext l H H3/\Bag H3 l/\H3 z=some (.lst (ns.map V.int))/\ns.length=i/\∀ n∈ns,0<=n/\n<=2)
   ⟨none,le0,[],rfl,l0,l7,s02.ext,b2,ez2,rfl,by simp⟩ ?_ ?_⟩
  .intro i σ H3 hi e91;refine Zb9 e91 λv6 le ns e98 l0 l7 e99=>?_;clear e91;obtain rfl:=e98;refine Zc3 e99 λe3 b3 hz3 hln hn=>?_;clear e99;refine Zpc λD2 hD2=>?_;simp only[Zbe,List.set_cons_zero,List.set_cons_succ];subst hY;walk_at "wp";refine⟨.inl ⟨rfl,_,SqL.of hz3⟩,b3.draw ⇑0 ⇑0 λy H4 y0 y1 e4 b4=>⟨le,y,⟨rfl,rfl⟩,_,e4 _ _ nz hz3,Zas (by rw[Jab];exact oz177 m8 hi hln),_,SqL.of Zab,_,Zu4 _ _,_,rfl,?_⟩⟩;subst hD2;refine Zcm _ _ (ns++[if y<le then y else le]) ⟨rfl,?_,?_,(e3.trans e4).upd hz,b4.new nz,by rw[Zab,Jbb];rfl,by rw[Jaj,hln];rfl,λn hnn=>?_⟩
   .split <;> omega
   .split <;> omega
   .rcases Jba.mp hnn with h|h
    .exact hn n h
    .rw [Ja3.mp h];split <;> omega
  .intro σ H3 e92;refine Zb9 e92 λv6 le ns e910 l0 l7 e911=>?_;clear e92;obtain rfl:=e910;refine Zc3 e911 λe3 b3 hz3 hln hn=>?_;clear e911;subst hX;walk_at "wp";have hxl:=pr.1;have ha3:=e3 _ _ na ha;refine⟨_,rfl,a,rfl,⟨_,SqL.of ha3⟩,λD hD=>?_⟩;have nDl:D≠l:=b3.ne hD;have fD:H D=none:=e3.free nDl hD;have nzD:z≠D:=Zah hz3 hD;refine Zei (k:=2) (xs:=xs) (λi vs H'=>∃ (ts:List Addr) (Ms:List Mv),vs=ts.map V.ref/\Ext l H3 H'/\Bag H' l/\H' D=some (.lst vs)/\ts.length=i/\Ms.length=i/\∀ (j:Nat) t q,ts[j]?=some t->ps[j]?=some q->∃ r rs,TabB H' p 60 (Pf.nz ns q.2) (Pf.nz ns q.1) t r rs (Ms.getD j [])/\New H t r rs/\r≠D/\D∉rs)
    ⟨[],[],rfl,Ext.new hD,b3.new nDl,Zab,rfl,rfl,λj t q e=>by simp at e⟩ (λi vs H' _ ⟨_,_,_,e',_⟩=>SqL.of (e' _ _ na ha3)) ?_ ?_
   .intro i x vs σ' H' hi hx sh e93;refine Zh7 e93 λts Ms e912 e' b' hD' htl e913=>?_;clear e93;obtain rfl:=e912;obtain⟨hml,ht⟩:=e913;refine Zex sh.two λz1 z2 e914=>?_;obtain rfl:=e914;have hq:ps[i]?=some (ps[i]'(Zc0 hxl hi)):=Jaa (Zc0 hxl hi);refine Zae ((pr.bag hb (e3.trans e')).2 i x _ hx hq) λta e915 hta=>?_;obtain rfl:=e915;have hz':=e' _ _ nz hz3;refine Zcb (ip _ (Jae hq)) λi0 i1 j0 j1=>?_;have a1:=Zok (ns:=ns) i0 (oz61 hln i1);have a2:=Zok (ns:=ns) j0 (oz61 hln j1);have c1:=hn (ns.getD ps[i].1.toNat 0) (by rw[Jac,Jaa (show ps[i].1.toNat<ns.length by omega)];exact Jap _);have c2:=hn (ns.getD ps[i].2.toNat 0) (by rw[Jac,Jaa (show ps[i].2.toNat<ns.length by omega)];exact Jap _);refine Zaq ta _ ⟨rfl,SqT.of hta,rfl,_,_,rfl,_,_,rfl,rfl,?_⟩;simp only[Zew,List.set_cons_zero,List.set_cons_succ,Jca,Zbm];walk_at "wp";refine⟨_,rfl,_,rfl,_,rfl,z,rfl,_,SqL.of hz',_,a2,_,rfl,z,rfl,_,SqL.of hz',_,a1,l,p,_,_,rfl,b',hp,c2.1,∅,c1.1,∅,λt r rs M H4 e4 b4 nw tb=>?_⟩;have hD4:=e4 _ _ nDl hD';have n3:r≠D:=λz=>by have:=nw.r;rw[z,hD'] at this;cases this
    have n4:D∉rs:=λz=>by have:=nw.rs D z;rw[hD'] at this;cases this
    have e0':=e3.trans e';refine Zky (ws:=ts.map V.ref++[.ref t]) hi Sh.mk2 hD4 (Zas (by rw[Jab];exact oz22 p9 hxl hi htl)) ⟨ts++[t],Zba _ _,(e'.trans e4).upd hD,b4.new nDl,by rw[Zab],by rw[Jaj,htl];rfl,Ms++[M],by rw[Jaj,hml];rfl,λj t' q' f1 f2=>?_⟩;by_cases hj:j<ts.length
    .rw [Jao hj] at f1;refine Zet (ht j t' q' f1 f2) λr' rs' tb' nw' n1 n2=>?_;refine Zaq r' rs' ⟨?_,nw',n1,n2⟩;rw[Jac,Jao (oz9 htl hml hj),<- Jac];exact (tb'.ext hb nw' b' e4).put hD4 n1 n2
    .rw [Jam (Zlo hj)] at f1;have hj0:j-ts.length=0:=by
      by_cases z:j-ts.length=0
      .exact z
      .rw [Jak (by simp;exact oz6 z)] at f1;cases f1
     rw[hj0] at f1;cases f1;have ji:j=i:=by exact oz3 htl hj hj0
     subst ji;rw[hq] at f2;cases f2;refine Zaq r rs ⟨?_,⟨e0'.free (b'.ne nw.t) nw.t,e0'.free (b'.ne nw.r) nw.r,λx hx=>e0'.free (b'.ne (nw.rs x hx)) (nw.rs x hx)⟩,n3,n4⟩;rw[Jac,Jam (oz27 hml),hml,Jdd];exact tb.put hD4 n3 n4
   .intro vs H4 e94;refine Zh7 e94 λts Ms e916 e4 b4 hD4 htl e917=>?_;clear e94;obtain rfl:=e916;obtain⟨hml,ht⟩:=e917;refine⟨⇑0,λt ht'=>?_⟩;have s5:=Same.new (o:=.tup [V.ref z,V.ref D]) ht';have e05:=(e3.trans e4).trans s5.ext;refine q t z D ns ts Ms _ e05 (b4.same s5) ((e3.trans e4).free (b4.ne ht') ht') Zab hz (s5 _ _ (e4 _ _ nz hz3)) (oz132 m1 hln) hn ⟨s5 _ _ hD4,by rw[Jab];exact oz28 hxl htl,fD,λi t d f1 f2=>?_⟩;rw[Jad] at f2;cases eq':ps[i]? with
    | none=>rw[eq'] at f2;cases f2
    | some q'=>
     rw[eq'] at f2;cases f2;refine Zet (ht i t q' f1 eq') λr rs tb nw _ _=>?_;exact Zaq r rs ⟨tb.same s5,nw⟩
theorem Zj9 {H:Hp}{p:Int}{R:Addr->Hp->Prop}(hp:GroundP p)(k:∀ g H',Same H H'->GAt G H' g p->R g H'):∀ x dx,H x=none->H dx=none->dx≠x->Zkk G [.ref x,.int p] (upd (upd H dx (.own x)) x (.ins G dx [])) (λv H2=>v=.non/\R x H2) E0:=by
 intro g dg hg hdg ndg;have fg:(upd H dg (.own g)) g=none:=by rw[Zaj ndg.symm];exact hg
 have sg:Same H (upd (upd H dg (.own g)) g (.ins G dg [])):=(Same.new hdg).trans (Same.new fg);exact Zcm g dg p ⟨rfl,Zab,hp,λH1 ex1 hg1=>⟨rfl,k g H1 (Same.thru sg hg ex1) ⟨dg,hg1⟩⟩⟩
theorem Znt {H:Hp}{m:Int}{e:Addr}{xs:List V}{ps:List (Int×Int)}{R:Addr->Hp->Prop}(m0:1<=m)(m8:m<=8)(he:H e=some (.lst xs))(pr:Prs H xs ps)(ip:InP m ps)(p9:ps.length<=9)(k:∀ d lp H',Same H H'->Zg1 C H' d m lp xs->R d H'):
  ∀ x dx,H x=none->H dx=none->dx≠x->Zno C [.ref x,.int m,.ref e] (upd (upd H dx (.own x)) x (.ins C dx [])) (λv H2=>v=.non/\R x H2) E0:=by
 intro d dd hd hdd ndd;have fd0:(upd H dd (.own d)) d=none:=by rw[Zaj ndd.symm];exact hd
 have sd:Same H (upd (upd H dd (.own d)) d (.ins C dd [])):=(Same.new hdd).trans (Same.new fd0);have:=pr.1;exact Zg3 d dd m e xs ⟨rfl,Zab,m0,m8,sd _ _ he,∅,(Zut pr ip).same sd,λlp H3 ex3 hd3 flp hlp=>⟨rfl,k d lp H3 (Same.thru sd hd ex3) ⟨dd,hd3,hlp⟩⟩⟩
def Zs7:L2.Sp:=λvs H Q _=>∃ (Ha Hb Hc Hd:Hp) (e st ot z z' tl tl' cl bl:Addr) (p m:Int) (kt kt' k k2:Nat) (xs:List V) (ps:List (Int×Int)) (ns:List Int) (ts ts' cts bts:List Addr) (Ms Ms' Cs Bs:List Mv),vs=[.int p,.int m,.ref e,.ref st,.ref ot,.ref cl,.ref bl]/\GroundP p/\1<=m/\m<=8/\H e=some (.lst xs)/\Prs H xs ps/\InP m ps/\ps.length<=9/\(ns.length:Int)=m/\(∀ n∈ns,0<=n/\n<=2)/\H st=some (.tup [.ref z,.ref tl])/\H z=some (.lst (ns.map V.int))/\GL Ha H p kt tl ts (tds ns ps) Ms/\H ot=some (.tup [.ref z',.ref tl'])/\H z'=some (.lst (ns.map V.int))/\GL Hb H p kt' tl' ts' (tds ns ps) Ms'/\GL Hc H p k cl cts (cds ns) Cs/\GL Hd H p k2 bl bts (cds ns) Bs/\1<=kt/\kt<=10000/\kt'<=1000000/\1<=k/\k<=50000/\1<=k2/\k2<=50000 /\
 ∀ (t:Bool) H',Same H H'->(t=true ↔ Zk8 p ns ps Ms Cs Bs Ms')->Q (.bl t) H'
theorem ok_ask (F:Fun K "_law_asked" "_law_asked" Zgb f fd)(T:Txt K mg C G S)(Yad:CalI P w K mg base "Ground" G 3 (Zkk G))(Yaw:CalI P w K mg base "Drawing" C 4 (Zno C))(Yay:Cal P w K mg base "_law_made" 13 (spMd S C G))(Yaj:Cal P w K mg base "_law_copies" 2 Zs6)(Yan:Cal P w K mg base "lets_by" 14 (spLb S C G)):FnOk P w K mg base CX0 15 f fd ["_law_p","_law_many","_law_arrows","_law_standing_here","_law_other","_law_changes","_law_backs"] Zs7:=by
 have nd:=Zhv.nd;refine F.ok Zhv (λvs H Q E h=>?_) (λcdv A outer s H vs Q E hr h=>?_)
 .obtain ⟨Ha,Hb,Hc,Hd,e,st,ot,z,z',tl,tl',cl,bl,p,m,kt,kt',k,k2,xs,ps,ns,ts,ts',cts,bts,Ms,Ms',Cs,Bs,rfl,_⟩:=h;rfl
 .obtain ⟨Ha,Hb,Hc,Hd,e,st,ot,z,z',tl,tl',cl,bl,p,m,kt,kt',k,k2,xs,ps,ns,ts,ts',cts,bts,Ms,Ms',Cs,Bs,rfl,hp,m1,m8,he,pr,ip,p9,hm,hn,hst,hz,gt,hot,hz',gt',gc,gb,kt1,ktm,kt'm,k1,km,k21,k2m,q⟩:=h;refine⟨_,((7|||nd|||(Yay<$>hr<$>((pe_n Yad hr.m rfl ((pvr 0)<&>Zaa))<&>((pe_n Yaw hr.m rfl ((pvr 1)<&>((Zjg Zbz rfl T.n_list Jcl ((pvr 2)<&>Zaa))<&>Zaa)))<&>((pvr 3)<&>Zaa)))))<*>((8|||nd|||(@Zbw _ _ _ _ ((Yaj<$>hr<$>((pvr 5)<&>Zaa))<&>((Yaj<$>hr<$>((pvr 6)<&>Zaa))<&>Zaa))))<*>((9|||nd|||(@Zaw _ _ _ _ _ (Znx<&>((Yay<$>hr<$>((pe_n Yad hr.m rfl ((pvr 0)<&>Zaa))<&>((pe_n Yaw hr.m rfl ((pvr 1)<&>((Zjg Zbz rfl T.n_list Jcl ((pvr 2)<&>Zaa))<&>Zaa)))<&>((pvr 4)<&>Zaa))))<&>(((ixJ Zar)<|>(pvr 8)<||>Zac)<&>(((ixJ Zar)<|>(pvr 8)<||>Zac)<&>Zaa))))))<*>((10|||nd|||(Yan<$>hr<$>((pvr 7)<&>((pvr 9)<&>Zaa))))<*>((@Za6 _ _ _ _ _ _ _ _ (PW.pt (Zdf (Zbj (Zbs (Za9 Za5 rfl T.n_isinstance Jbg ((pvr 10)<&>((Zgf rfl T.n_bool boot_bool)<&>Zaa))))) (Zdf (Zam (Zvs (Zjc hr)) (pvr 8) (@Zbw _ _ _ _ ((pvr 5)<&>((pvr 6)<&>Zaa))) (Zak _)) (Zcf (Zam Zeu (Yan<$>hr<$>((pvr 7)<&>((pvr 9)<&>Zaa))) (pvr 10) (Zak _)))))) (~~~pe_non) Zal)<*>(~~~(pvr 10))))))),?_⟩;refine Zd4 λX hX=>?_;walk_at "wp";have hn24:∀ n∈ns,0<=n/\n<=24:=λn h=>⟨(hn n h).1,Int.le_trans (hn n h).2 ⇑0⟩
  have n8:ns.length<=8:=∅
  have lenC:(cds ns).length<=9:=by rw[Jab];omega
  refine Zj9 hp λg H1 s1 hg1=>⟨_,.inl (SqL.of (s1 _ _ he)),λe1 he1=>?_⟩
  have s2:=Same.new (o:=.lst xs) he1;have q2:(upd H1 e1 (.lst xs)) e1=some (.lst xs):=Zab;generalize upd H1 e1 (.lst xs)=H2 at *;have t2:=s1.trans s2;refine Znt m1 m8 q2 (pr.same t2) ip p9 λd lp H3 s3 hd3=>?_;have t3:=t2.trans s3;refine Zjs g d st z tl lp p m kt xs ps ns ts Ms ⟨rfl,(hg1.same s2).same s3,hp,hd3,pr.same t3,ip,p9,⟨t3 _ _ hz,n8,hn24⟩,hm,gt.tbl.same t3,∅,t3 _ _ hst,λx dx z1 l1 ts1 _ H4 s4 sb=>?_⟩;have t4:=t3.trans s4;subst hX;refine Zd4 λX hX=>?_;walk_at "wp";refine Zla Hc cl p k cts _ Cs ⟨rfl,gc.same t4,lenC,λd hd=>(Zkf hn d hd).1,λc1 cts1 H5 s5 g5=>?_⟩;refine Zla Hd bl p k2 bts _ Bs ⟨rfl,gb.same (t4.trans s5),lenC,λd hd=>(Zkf hn d hd).1,λb1 bts1 H6 s6 g6=>⟨(show 2<=sizeLine by decide),λhp1 hhp1=>?_⟩⟩;have s7:=Same.new (o:=.lst [V.ref c1,V.ref b1]) hhp1;have q7:(upd H6 hp1 (.lst [V.ref c1,V.ref b1])) hp1=some (.lst [V.ref c1,V.ref b1]):=Zab;generalize upd H6 hp1 (.lst [V.ref c1,V.ref b1])=H7 at *;have t67:=s6.trans s7;have t47:=s5.trans t67;have t7:=t4.trans t47;have g5':=g5.same t67;have g6':=g6.same s7;have sb7:=sb.same t47;subst hX;refine Zd4 λX hX=>?_;walk_at "wp";refine Zj9 hp λg2 H8 s8 hg8=>⟨_,.inl (SqL.of (s8 _ _ (t7 _ _ he))),λe2 he2=>?_⟩
  have s9:=Same.new (o:=.lst xs) he2;have q9:(upd H8 e2 (.lst xs)) e2=some (.lst xs):=Zab;generalize upd H8 e2 (.lst xs)=H9 at *;have t9:=t7.trans (s8.trans s9);refine Znt m1 m8 q9 (pr.same t9) ip p9 λd2 lp2 H10 s10 hd10=>?_;have t10:=t9.trans s10;refine Zjs g2 d2 ot z' tl' lp2 p m kt' xs ps ns ts' Ms' ⟨rfl,(hg8.same s9).same s10,hp,hd10,pr.same t10,ip,p9,⟨t10 _ _ hz',n8,hn24⟩,hm,gt'.tbl.same t10,kt'm,t10 _ _ hot,λy dy z2 l2 ts2 _ H11 s11 sb2=>?_⟩;have t711:=((s8.trans s9).trans s10).trans s11;refine⟨_,SqL.of (t711 _ _ q7),_,rfl,_,SqL.of (t711 _ _ q7),_,rfl,⇑0,λpa hpa=>?_⟩;have s12:=Same.new (o:=.tup [V.str "change",V.ref y,V.ref c1,V.ref b1]) hpa;have q12:(upd H11 pa (.tup [V.str "change",V.ref y,V.ref c1,V.ref b1])) pa=some (.tup [V.str "change",V.ref y,V.ref c1,V.ref b1]):=Zab;generalize upd H11 pa (.tup [V.str "change",V.ref y,V.ref c1,V.ref b1])=H12 at *;have t712:=t711.trans s12;have t12:=t7.trans t712;have sb12:=sb7.same t712;have sb22:=sb2.same s12;have g12:=g5'.same t712;have g22:=g6'.same t712;have q712:=t712 _ _ q7;have gc12:=gc.same t12;have gb12:=gb.same t12;have run:∀ {Q2:VK} H13,Same H12 H13->(∀ (t:Bool) H',Same H13 H'->(t=true ↔ Zk8 p ns ps Ms Cs Bs Ms')->Q2 (.bl t) H')->spLb S C G [.ref x,.ref pa] H13 Q2 E0:=λ{Q2} H13 s13 q2=>⟨x,pa,y,c1,b1,rfl,s13 _ _ q12,_,_,x,c1,b1,dx,g,d,z1,l1,lp,y,dy,g2,d2,z2,l2,lp2,p,m,k,k2,kt,kt',xs,xs,ps,ns,ts1,ts2,cts1,bts1,Ms,Ms',Cs,Bs,rfl,sb12.same s13,sb22.same s13,hp,ip,p9,(g12.same s13).chl,(g22.same s13).chl,k1,km,k21,k2m,kt1,ktm,q2⟩
  subst hX;refine Zd4 λX hX=>?_;walk_at "wp";refine run H12 (Same.refl _) λt H13 s13 ht=>?_;subst hX;refine cutI λY hY=>?_;walk_at "wp";refine Zaq _ _ ⟨⟨rfl,rfl⟩,_,rfl,_,.bl _,_,Zjm K,Zgg ⇑0 ⟨(show 2<=sizeLine by decide),λp1 hp1=>?_⟩⟩;have s14:=Same.new (o:=.lst [V.ref cl,V.ref bl]) hp1;have q14:(upd H13 p1 (.lst [V.ref cl,V.ref bl])) p1=some (.lst [V.ref cl,V.ref bl]):=Zab;generalize upd H13 p1 (.lst [V.ref cl,V.ref bl])=H14 at *;have t14:=s13.trans s14;refine Zae (gl_eq (K:=K) (m:=1) (g12.same t14) (gc12.same t14)) λc hc ec=>?_;refine Zae (gl_eq (K:=K) (m:=1) (g22.same t14) (gb12.same t14)) λb hb eb=>?_;obtain rfl:c=true:=ec.mpr λ_ _=>rfl;obtain rfl:b=true:=eb.mpr λ_ _=>rfl;refine⟨_,SqL.of (t14 _ _ q712),_,SqL.of q14,.inr ⟨[true,true],⟨rfl,rfl,λj x y c f1 f2 f3=>?_⟩,Zgg ⇑0 (run H14 t14 λt' H15 s15 ht'=>?_)⟩⟩
  .match j,f1,f2,f3 with
   | 0,f1,f2,f3=>cases f1;cases f2;cases f3;exact hc
   | 1,f1,f2,f3=>cases f1;cases f2;cases f3;exact hb
   | j+2,f1,_,_=>cases f1
  obtain rfl:t'=t:=by rw[Jb1];exact ht'.trans ht.symm
  exact⟨rfl,Zgg (by simp) (q t' H15 (t12.trans (t14.trans s15)) ht')⟩
theorem Zuw (ns:List Int)(lo hi:Option Int):∃ ms:List Int,Zux (ns.map V.int) lo hi=ms.map V.int/\ms.length<=ns.length:=by
 refine⟨(ns.drop (HT.sIx (ns.map V.int).length 0 lo)).take (HT.sIx (ns.map V.int).length (ns.map V.int).length hi-HT.sIx (ns.map V.int).length 0 lo),?_,?_⟩
 .unfold Zux;rw[List.map_take,List.map_drop]
 .rw [Jds,Jcp];exact oz41
def Zs4 (K:Frag):Sp:=λvs H Q _=>∃ (a:Addr) (ns:List Int),vs=[.ref a]/\SqL K H a (ns.map V.int)/\ns.length<=63/\∀ H',Q (.bl true) H'
theorem Zjf {p:Int}(hp:GroundP p){n wd:Nat}{M:Mv}(mM:Mat p n wd M):Zbg p M (Zbo wd) wd=M:=by
 obtain⟨F,_,hF⟩:=Zk2 hp;have mU:=Zcs hp wd;refine Zlv hF (Zfj hp mM mU) mM λi j hi hj=>?_;rw[Zhj hp hF mM mU hi hj,Zai (g:=λl=>vN (M.getD i []) l*(if l=j then (1:F) else 0)) λl hl=>by rw[Zez hl hj],Zkl _ hj]
theorem Zmv {p:Int}(hp:GroundP p){n wd:Nat}{M:Mv}(mM:Mat p n wd M):Zbg p (Zbo n) M wd=M:=by
 obtain⟨F,_,hF⟩:=Zk2 hp;have mU:=Zcs hp n;refine Zlv hF (Zfj hp mU mM) mM λi j hi hj=>?_;rw[Zhj hp hF mU mM hi hj,Zai (g:=λl=>vN (M.getD l []) j*(if i=l then (1:F) else 0)) λl hl=>by rw[Zez hi hl];grind,Zie _ hi]
theorem Zvx {P:Nat->Mv->Prop}:∀ n,(∀ i,i<n->∃ b,P i b)->∃ bs:List Mv,bs.length=n/\∀ i,i<n->P i (bs.getD i [])
 | 0,_=>⟨[],rfl,λi h=>absurd h (Nat.not_lt_zero i)⟩
 | n+1,h=>by
  refine Zae (Zvx n λi hi=>h i (Zlp hi)) λbs l hb=>?_;obtain⟨b,e⟩:=h n Zji;refine⟨bs++[b],by rw[Jaj,l];rfl,λi hi=>?_⟩;rw[Jac];by_cases z:i<n
  .rw [Jao (oz8 l z),<- Jac];exact hb i z
  .have:i=n:=by exact oz14 hi z
   subst this;rw[Jam (oz27 l),l,Jdd];exact e
abbrev untM (ns:List Int):List Mv:=ns.map λn=>Zbo n.toNat
theorem Zuf {p:Int}{ns:List Int}{ps:List (Int×Int)}{Ms Cs Bs:List Mv}(h:Zmc p ns Cs Bs):Zk8 p ns ps Ms Cs Bs (ledM p ns ps Ms Cs Bs):=⟨h,λi hi=>by
 rw[Jac,Jad,Jas hi];rfl⟩
theorem Zpp {ns:List Int}{i:Nat}{n:Int}(h:ns[i]?=some n):(untM ns).getD i []=Zbo n.toNat:=by
 rw[Jac,Jad,h];rfl
theorem Zue {H0 H:Hp}{p:Int}{k:Nat}{l:Addr}{ts:List Addr}{ns:List Int}{ps:List (Int×Int)}{Ms:List Mv}(hp:GroundP p)(ip:InP (ns.length:Int) ps)(g:GL H0 H p k l ts (tds ns ps) Ms):Zk8 p ns ps Ms (untM ns) (untM ns) Ms:=by
 refine⟨λi n h=>?_,λi hi=>?_⟩
 .rw [Zpp h];exact Zjf hp (Zcs hp _)
 .have eq:ps[i]?=some ps[i]:=Jaa hi;have hl:=g.len;rw[Jab] at hl;obtain⟨r,rs,tb,_⟩:=g.tab i _ _ (Jaa (show i<ts.length by exact Zh3 hi hl)) (by rw[Jad,eq];rfl);refine Zcb (ip _ (Jap hi)) λa0 a1 b0 b1=>?_;have u1:∀ q:Int,0<=q->q<ns.length->(untM ns).getD q.toNat []=Zbo (nz ns q):=λq q0 q1=>by
   have hq:q.toNat<ns.length:=by exact oz33 q0 q1
   rw[Zpp (Jaa hq)];unfold nz;rw[Jac,Jaa hq];rfl
  unfold chM;rw[Zbh hi,u1 _ a0 a1,u1 _ b0 b1,Zjf hp tb.mat];exact Zmv hp tb.mat
theorem ok_law (F:Fun K "law" "law" Zkn f fd)(T:Txt K mg C G S)(Ybb:Cal P w K mg base "_law_cell" 1 (Zp4 K))(Ybj:Cal P w K mg base "_law_bag" 1 spBag)(Ya5:Cal P w K mg base "_law_small_prime" 2 spSmp)(Ybg:Cal P w K mg base "_law_drawing" 2 (spOut way0))(Ybh:Cal P w K mg base "_law_standing" 6 spLs6)(Ya6:Cal P w K mg base "_law_change" 4 spChg)(Yb5:Cal P w K mg base "_law_inverse" 6 Zp1)(Yag:Cal P w K mg base "_law_plain" 2 Zos)(Yas:Cal P w K mg base "_law_led" 5 Znn)(Yat:Cal P w K mg base "_law_asked" 15 Zs7)(Ybm:Cal P w K mg base "_law_spoilt" 4 spSpt)(Yby:Cal P w K mg base "_law_due" 6 spDue):FnOk P w K mg base CX0 16 f fd ["_law_script"] (Zs4 K):=by
 have nd:=Zvi.nd;refine F.ok Zvi (λvs H Q E h=>?_) (λcdv A outer s H vs Q E hr h=>?_)
 .refine Zbd h λa ns e97 _=>?_;clear h;obtain rfl:=e97;rfl
 .refine Zet h λa ns e98 hS hl q=>?_;clear h;obtain rfl:=e98;refine⟨_,((Zck Ja5 rfl (Zbc (Zvu<|>(@Zbw _ _ _ _ ((Ybb<$>hr<$>((pv 0)<&>(Zac<&>Zaa)))<&>(Zac<&>Zaa)))<&&>(@Zny _ _ _ _ _ _ _ _ _ _ Zp6 (pv 0) (@Zmw _ _ _ Zac) (@Zmw _ _ _ Zac)))) (1>>>nd) ((Zap (i:=2) nd rfl (Or.inr rfl) (Ybj<$>hr<$>((pvr 1)<&>Zaa)))<*>((Zap (i:=3) nd rfl (Or.inr rfl) (Ya5<$>hr<$>((pvr 2)<&>Zaa)))<*>((Zbk (Ybg<$>hr<$>((pvr 2)<&>Zaa)) (@Zbv _ _ _ _ _ 2 rfl ((4>>>nd)^^^((5>>>nd)^^^(@Za0 _))) ⇑1 ⇑1))<*>((6|||nd|||(Ybh<$>hr<$>((pvr 2)<&>((pvr 3)<&>((pvr 4)<&>((pvr 5)<&>Zaa))))))<*>((Zfd (i:=7) (own:=["_law_size"]) (fr:=[("_law_bag_here",2),("_law_p",3)]) rfl (Zbn (by kernel_rfl)) (Zbc (Zat<|>(pv 6)<||>Zac)) (λ_ _ _ _=>⟨(0<<<["_law_size","_law_bag_here","_law_p"]),Zay,(Ya6<$>hr<$>((pv 1)<&>((pv 2)<&>((pv 0)<&>Zaa))))⟩) nd rfl rfl rfl)<*>((Zfd (i:=8) (own:=["_law_change_here"]) (fr:=[("_law_p",3)]) rfl (Zbn (by kernel_rfl)) (Zbc (pv 7)) (λ_ _ _ _=>⟨(0<<<["_law_change_here","_law_p"]),Zay,(Yb5<$>hr<$>((pv 1)<&>((pv 0)<&>Zaa)))⟩) nd rfl rfl rfl)<*>((Zfd (i:=9) (own:=["_law_size"]) (fr:=[("_law_p",3)]) rfl (Zbn (by kernel_rfl)) (Zbc (Zat<|>(pv 6)<||>Zac)) (λ_ _ _ _=>⟨(0<<<["_law_size","_law_p"]),Zay,(Yag<$>hr<$>((pv 1)<&>((pv 0)<&>Zaa)))⟩) nd rfl rfl rfl)<*>((10|||nd|||(Yas<$>hr<$>((pvr 3)<&>((pvr 5)<&>((pvr 6)<&>((pvr 7)<&>((pvr 8)<&>Zaa)))))))<*>((@Za6 _ _ _ _ _ _ _ _ (Zam Zqr (Yat<$>hr<$>((pvr 3)<&>((pvr 4)<&>((pvr 5)<&>((pvr 6)<&>((pvr 10)<&>((pvr 7)<&>((pvr 8)<&>Zaa)))))))) Zc5 (Zak _)) (~~~Zc5) Zal)<*>((@Za6 _ _ _ _ _ _ _ _ (Zam Zqr (Yat<$>hr<$>((pvr 3)<&>((pvr 4)<&>((pvr 5)<&>((pvr 6)<&>((pvr 6)<&>((pvr 9)<&>((pvr 9)<&>Zaa)))))))) Zc5 (Zak _)) (~~~Zc5) Zal)<*>(@Zan _ _ _ (Zck Ja5 rfl (Zfe rfl T.n_range (Zac<&>Zaa)) (11>>>nd) ((Zbk (Ybm<$>hr<$>((pvr 2)<&>((pvr 3)<&>((pvr 10)<&>((pvr 7)<&>((pvr 8)<&>Zaa)))))) (@Zbv _ _ _ _ _ 3 rfl ((12>>>nd)^^^((13>>>nd)^^^((14>>>nd)^^^(@Za0 _)))) ⇑1 ⇑1))<*>((15|||nd|||(Yby<$>hr<$>((pvr 3)<&>((pvr 5)<&>((pvr 6)<&>((pvr 12)<&>((pvr 13)<&>((pvr 14)<&>Zaa))))))))<*>(@Zan _ _ _ (@Za6 _ _ _ _ _ _ _ _ (Zam Zeu (Yat<$>hr<$>((pvr 3)<&>((pvr 4)<&>((pvr 5)<&>((pvr 6)<&>((pvr 12)<&>((pvr 13)<&>((pvr 14)<&>Zaa)))))))) (pvr 15) (Zak _)) (~~~Zc5) Zal)))))))))))))))))<*>(~~~Zc5)),?_⟩;refine Zd4 λXX hXX=>?_;refine cutF λY hY=>?_;refine Zae (Zuw ns (some 1) (some 8)) λms hms hml=>?_;refine⟨_,rfl,a,ns,0,rfl,hS,hl,⇑0,λc0=>⟨by show 2<=sizeLine;decide,λp1 hp1=>⟨_,rfl,_,rfl,_,rfl,a,_,rfl,(Same.new hp1).seq hS,λp2 hp2=>?_⟩⟩⟩;rw[hms] at *;refine Zjr p1 p2 _ _ ⟨rfl,rfl,by rw[Zaj (Zah Zab hp2)];exact Zab,Zab,Jbv (Zas (by rw[Jab];show 2+ms.length<=1000;omega)),λp3 hp3=>?_⟩;have hz:[V.int c0,V.int 1]++ms.map V.int=(c0::1::ms).map V.int:=rfl;rw[hz];have e3:upd (upd (upd H p1 (.lst [V.int c0,V.int 1])) p2 (.lst (ms.map V.int))) p3 (.lst ((c0::1::ms).map V.int)) p3=some (.lst ((c0::1::ms).map V.int)):=Zab;generalize upd (upd (upd H p1 (.lst [V.int c0,V.int 1])) p2 (.lst (ms.map V.int))) p3 (.lst ((c0::1::ms).map V.int))=H0 at *;refine⟨p3,rfl,⟨_,SqL.of e3⟩,Zih (xs:=(c0::1::ms).map V.int) (λi σ H2=>∃ v1 v2 v3 v4 v5 v6 v7 v8 v9 v10 v11 v12 v13 v14 v15:Option V,σ=[some (.ref a),v1,v2,v3,v4,v5,v6,v7,v8,v9,v10,v11,v12,v13,v14,v15]/\Same H0 H2)
   ⟨none,none,none,none,none,none,none,none,none,none,none,none,none,none,none,rfl,Same.refl _⟩ (λi σ H2 _ ⟨_,_,_,_,_,_,_,_,_,_,_,_,_,_,_,_,sH⟩=>SqL.of (sH _ _ e3)) ?_ ?_⟩
  .intro i x σ H2 hi e91;refine Zni e91 λv1 v2 v3 v4 v5 v6 v7 v8 v9 v10 v11 v12 v13 v14 v15 e99 s2=>?_;clear e91;obtain rfl:=e99;obtain⟨c,rfl⟩:∃ c:Int,x=.int c:=by
    rw[Jad] at hi;cases e:(c0::1::ms)[i]? with
    | none=>rw[e] at hi;cases hi
    | some c=>rw[e] at hi;cases hi;exact⟨c,rfl⟩
   refine Zpc λD2 hD2=>?_;simp only[Zbe,List.set_cons_zero,List.set_cons_succ];subst hY;refine Zd4 λX hX=>?_;walk_at "wp";refine⟨c,rfl,λl xa xb hl0 xb0 xb1=>?_⟩;have b3:Bag (upd H2 l (Zv4 xa xb)) l:=Bag.set xb0 xb1;have fl:=s2.free hl0;have s3:=s2.trans (Same.new (o:=Zv4 xa xb) hl0);generalize upd H2 l (Zv4 xa xb)=H3 at *;subst hX;refine Zd4 λX hX=>?_;walk_at "wp";refine⟨l,rfl,b3,λp H4 e4 b4 hp=>?_⟩;have s4:=Same.thru s3 fl e4;subst hX;refine Zd4 λX hX=>?_;walk_at "wp";refine Zaq l [] ⟨rfl,rfl,b4,λpt e m xs H5 O=>⟨pt,rfl,_,SqT.of O.tup,rfl,_,_,rfl,_,_,rfl,rfl,?_⟩⟩;have s5:Same H0 H5:=Same.thru s4 fl O.ext;have b5:=O.bag;have m0:=O.lo;have m8:=O.hi;have x9:=O.len;have nel:e≠l:=b4.ne O.new;have he:=O.lst;refine Zae (Zqf O.ed) λps pr ip=>?_;have pl:=pr.1;have p9:ps.length<=9:=∅
   clear O s4 e4 b4 b3 s3;subst hX;refine Zd4 λX hX=>?_;walk_at "wp";refine Zsr l e p m xs ps ⟨rfl,b5,hp,he,pr,ip,p9,m0,m8,nel,λst z tl ns ts Ms H6 e6 b6 fst hst fz hz hm hn gt=>?_⟩;have s6:Same H0 H6:=Same.thru s5 fl e6;have he6:=e6 _ _ nel he;have pr6:=pr.bag b5 e6;have n8:ns.length<=8:=∅
   have nst:st≠l:=b5.ne fst;have nzl:z≠l:=b5.ne fz;have ip:InP (ns.length:Int) ps:=by rw[hm];exact ip
   subst hX;refine Zd4 λX hX=>?_;walk_at "wp";refine⟨_,rfl,st,_,0,_,rfl,rfl,SqT.of hst,rfl,_,rfl,⟨_,SqL.of hz⟩,λD hD=>?_⟩;have nDl:D≠l:=b6.ne hD;have nzD:z≠D:=Zah hz hD;refine Zei (k:=1) (xs:=ns.map V.int) (λi vs H'=>∃ (ts:List Addr) (Ms:List Mv),vs=ts.map V.ref/\Ext l H6 H'/\Bag H' l/\H' D=some (.lst vs)/\ts.length=i/\Ms.length=i/\∀ (j:Nat) t n,ts[j]?=some t->ns[j]?=some n->∃ r rs,TabB H' p 80 n.toNat n.toNat t r rs (Ms.getD j [])/\Zpd p n.toNat (Ms.getD j [])/\New H6 t r rs/\r≠D/\D∉rs)
    ⟨[],[],rfl,Ext.new hD,b6.new nDl,Zab,rfl,rfl,λj t q e=>by simp at e⟩ (λi vs H' _ ⟨_,_,_,e',_⟩=>SqL.of (e' _ _ nzl hz)) ?_ ?_
   .intro i x vs σ' H' hi hx sh e92;refine Zh7 e92 λts' Cs e910 e' b' hD' htl e911=>?_;clear e92;obtain rfl:=e910;obtain⟨hml,ht⟩:=e911;obtain⟨z1,rfl⟩:=sh.one;rw[Jad] at hx;rw[Jab] at hi;have hq:ns[i]?=some ns[i]:=Jaa hi;rw[hq] at hx;cases hx;obtain⟨c1,c2⟩:=hn _ (Jap hi);simp only[Zew,Zbe,List.set_cons_zero,List.set_cons_succ,Jca,Zbm];walk_at "wp";refine⟨_,rfl,_,rfl,_,rfl,l,p,_,rfl,b',hp,c1,∅,λt r rs M H4 e4 b4 nw htu ch=>?_⟩;have nn:((ns[i].toNat:Nat):Int)=ns[i]:=Jbf c1;have tb:=ch.tabB (t:=t) (by rw[nn];exact htu);have hD4:=e4 _ _ nDl hD';have n3:r≠D:=λz=>by have:=nw.r;rw[z,hD'] at this;cases this
    have n4:D∉rs:=λz=>by have:=nw.rs D z;rw[hD'] at this;cases this
    refine Zky (ws:=ts'.map V.ref++[.ref t]) (by rw[Jab];exact hi) Sh.mk1 hD4 (Zas (by rw[Jab];exact oz120 m8 hm hi htl)) ⟨ts'++[t],Zba _ _,(e'.trans e4).upd hD,b4.new nDl,by rw[Zab],by rw[Jaj,htl];rfl,Cs++[M],by rw[Jaj,hml];rfl,λj t' q' f1 f2=>?_⟩;by_cases hj:j<ts'.length
    .rw [Jao hj] at f1;refine Zki (ht j t' q' f1 f2) λr' rs' tb' iv' nw' n1 n2=>?_;refine⟨r',rs',?_,?_,nw',n1,n2⟩ <;> rw[Jac,Jao (oz9 htl hml hj),<- Jac]
     .exact (tb'.ext b6 nw' b' e4).put hD4 n1 n2
     .exact iv'
    .rw [Jam (Zlo hj)] at f1;have hj0:j-ts'.length=0:=by
      by_cases z:j-ts'.length=0
      .exact z
      .rw [Jak (by simp;exact oz6 z)] at f1;cases f1
     rw[hj0] at f1;cases f1;have ji:j=i:=by exact oz3 htl hj hj0
     subst ji;rw[hq] at f2;cases f2;refine⟨r,rs,?_,?_,⟨e'.free (b'.ne nw.t) nw.t,e'.free (b'.ne nw.r) nw.r,λx hx=>e'.free (b'.ne (nw.rs x hx)) (nw.rs x hx)⟩,n3,n4⟩ <;> rw[Jac,Jam (oz27 hml),hml,Jdd]
     .exact tb.put hD4 n3 n4
     .exact ch.iv
   intro vs H7 e93;refine Zh7 e93 λcts Cs e912 e7 b7 hD7 ctl e913=>?_;clear e93;obtain rfl:=e912;obtain⟨cml,hcs⟩:=e913;rw[Jab] at ctl cml;have s7:Same H0 H7:=Same.thru s6 fl e7;have gc:GL H6 H7 p 80 D cts (cds ns) Cs:=⟨hD7,by rw[Jab];exact oz19 ctl,hD,λi t d f1 f2=>by
    rw[Jad] at f2;cases eq':ns[i]? with
    | none=>rw[eq'] at f2;cases f2
    | some n=>
     rw[eq'] at f2;cases f2;refine Zet (hcs i t n f1 eq') λr rs tb _ nw _=>?_;exact⟨r,rs,tb,nw⟩⟩
   have ivs:∀ (i:Nat) n,ns[i]?=some n->Zpd p n.toNat (Cs.getD i []):=λi n f2=>by
    have hi:=(Jaf.mp f2).1;refine Zbt (hcs i _ n (Jaa (show i<cts.length by exact oz8 ctl hi)) f2) λr rs _ iv _=>?_;exact iv
   clear hcs;have hz7:=e7 _ _ nzl hz;have hst7:=e7 _ _ nst hst;have he7:=e7 _ _ nel he6;have pr7:=pr6.bag b6 e7;have gt7:=gt.ext b5 b6 e7;subst hX;refine Zd4 λX hX=>?_;walk_at "wp";refine⟨_,rfl,D,rfl,⟨_,SqL.of hD7⟩,λD2' hB'=>?_⟩;refine Zb2 (λi Hc y=>∃ t n,y=.ref t/\ns[i]?=some n/\∃ r rs B,TabB Hc p 20800 n.toNat n.toNat t r rs B/\Zbg p (Cs.getD i []) B n.toNat=Zbo n.toNat/\(r≠D2'/\D2'∉rs)/\New H7 t r rs) (λ⟨t,d,e,ed,r,rs,B,a,n⟩ s=>⟨t,d,e,ed,r,rs,B,a.same s,n⟩) (λ⟨t,d,e,ed,r,rs,B,a,n0,n,n2⟩ hD=>⟨t,d,e,ed,r,rs,B,a.put hD n.1 n.2,n0,n,n2⟩) hD7 hB' (by rw[Jab];exact oz162 m8 hm ctl) (λi y H1 Q1 hy s1 ⟨lD,hlD⟩ q1=>?_) (λys H8 s8 hD8 yl hys=>?_)
   .rw [Jad] at hy;cases et:cts[i]? with
    | none=>rw[et] at hy;cases hy
    | some t=>
     rw[et] at hy;cases hy;have hi:i<ns.length:=by have:=(Jaf.mp et).1;exact Zc0 ctl this
     have ed:=Jaa hi;obtain⟨r,rs,tb,_⟩:=gc.tab i t _ et (by rw[Jad,ed];rfl);have iv:=ivs i _ ed;have hd:=hn _ (Jap hi);generalize ns[i]=n at *;simp only[Zbm];walk_at "wp";refine⟨_,rfl,p,t,r,rs,n.toNat,_,rfl,hp,tb.same s1,iv,oz49 hd,λt' r' rs' B H2 s2 nw tb' ⟨_,e2⟩=>q1 (.ref t') H2 s2 ⟨t',n,rfl,ed,r',rs',B,tb',e2,⟨λz=>?_,λz=>?_⟩,⟨s1.free nw.t,s1.free nw.r,λx hx=>s1.free (nw.rs x hx)⟩⟩⟩
     .have:=nw.r;rw[z,hlD] at this;cases this
     .have:=nw.rs _ z;rw[hlD] at this;cases this
   rw[Jab] at yl;have s08:=s7.trans s8;obtain⟨bts,Bs,rfl,gb,bk⟩:∃ (bts:List Addr) (Bs:List Mv),ys=bts.map V.ref/\GL H7 H8 p 20800 D2' bts (cds ns) Bs/\Zmc p ns Cs Bs:=by
    obtain⟨bts,rfl,hb⟩:=Zkq (P:=λi t=>∃ n,ns[i]?=some n/\∃ r rs B,TabB H8 p 20800 n.toNat n.toNat t r rs B/\Zbg p (Cs.getD i []) B n.toNat=Zbo n.toNat/\(r≠D2'/\D2'∉rs)/\New H7 t r rs) λi y e=>let ⟨t,d,a,b⟩:=hys i y e;⟨t,a,d,b⟩;rw[Jab] at yl;obtain⟨Bs,Bl,hB⟩:=Zvx (P:=λi B=>∀ t n,bts[i]?=some t->ns[i]?=some n->(∃ r rs,TabB H8 p 20800 n.toNat n.toNat t r rs B/\New H7 t r rs)/\Zbg p (Cs.getD i []) B n.toNat=Zbo n.toNat) ns.length λi hi=>by
     have e1:bts[i]?=some (bts[i]'(oz15 ctl yl hi)):=Jaa _;refine Zae (hb i _ e1) λn en e914=>?_;obtain⟨r,rs,B,tb,eb,_,nw⟩:=e914;refine⟨B,λt n' f1 f2=>?_⟩;rw[e1] at f1;rw[en] at f2;cases f1;cases f2;exact⟨⟨r,rs,tb,nw⟩,eb⟩
    refine Zaq bts Bs ⟨rfl,⟨hD8,by rw[Jab];exact oz28 ctl yl,hB',λi t d f1 f2=>?_⟩,λi n en=>?_⟩
    .rw [Jad] at f2;cases eq':ns[i]? with
     | none=>rw[eq'] at f2;cases f2
     | some n=>
      rw[eq'] at f2;cases f2;exact (hB i (Jaf.mp eq').1 t n f1 eq').1
    .have hi:=(Jaf.mp en).1;exact (hB i hi _ n (Jaa (show i<bts.length by exact oz15 ctl yl hi)) en).2
   clear hys yl ivs;subst hX;refine Zd4 λX hX=>?_;walk_at "wp";refine⟨_,rfl,st,_,0,_,rfl,rfl,SqT.of (s8 _ _ hst7),rfl,_,rfl,⟨_,SqL.of (s8 _ _ hz7)⟩,λD3 hD3=>?_⟩;refine Zb2 (λi Hc y=>∃ t n,y=.ref t/\ns[i]?=some n/\∃ r rs,TabB Hc p 20800 n.toNat n.toNat t r rs (Zbo n.toNat)/\(r≠D3/\D3∉rs)/\New H8 t r rs) (λ⟨t,d,e,ed,r,rs,a,n⟩ s=>⟨t,d,e,ed,r,rs,a.same s,n⟩) (λ⟨t,d,e,ed,r,rs,a,n,n2⟩ hD=>⟨t,d,e,ed,r,rs,a.put hD n.1 n.2,n,n2⟩) (s8 _ _ hz7) hD3 (by rw[Jab];exact oz124 m8 hm) (λi y H1 Q1 hy s1 ⟨lD,hlD⟩ q1=>?_) (λys H9 s9 hD9 yl hys=>?_)
   .rw [Jad] at hy;cases ed:ns[i]? with
    | none=>rw[ed] at hy;cases hy
    | some n=>
     rw[ed] at hy;cases hy;obtain⟨d0,d2⟩:=hn _ (Jae ed);simp only[Zbm];walk_at "wp";have h01:=Zly hp;refine⟨_,rfl,p,n,rfl,hp,d0,∅,λt' r' rs' H2 s2 nw tv=>q1 (.ref t') H2 s2 ⟨t',n,rfl,ed,r',rs',?_,⟨λz=>?_,λz=>?_⟩,⟨s1.free nw.t,s1.free nw.r,λx hx=>s1.free (nw.rs x hx)⟩⟩⟩
     .have mU:=Zcs hp n.toNat;refine⟨by rw[Jbf d0];exact tv,mU.hl,mU.hw,λxs hx x hxx=>?_⟩;refine Zae (Jaz.mp hx) λj _ e915=>?_;obtain rfl:=e915;rcases Zdr hxx with e|e
      .rw [e];exact⟨h01.2,by unfold Bt;decide,by unfold Bt;decide⟩
      .rw [(Jea.mp e).2];exact⟨h01.1,by unfold Bt;decide,by unfold Bt;decide⟩
     .have:=nw.r;rw[z,hlD] at this;cases this
     .have:=nw.rs _ z;rw[hlD] at this;cases this
   rw[Jab] at yl;have s09:=s08.trans s9;have s79:=s8.trans s9;have b8:=b7.same s8;have b9:=b8.same s9;obtain⟨uts,rfl,hu⟩:=Zkq (P:=λi t=>∃ n,ns[i]?=some n/\∃ r rs,TabB H9 p 20800 n.toNat n.toNat t r rs (Zbo n.toNat)/\(r≠D3/\D3∉rs)/\New H8 t r rs) λi y e=>let ⟨t,d,a,b⟩:=hys i y e;⟨t,a,d,b⟩;rw[Jab] at yl;have gu:GL H8 H9 p 20800 D3 uts (cds ns) (untM ns):=⟨hD9,by rw[Jab];exact oz19 yl,hD3,λi t d f1 f2=>by
    refine Zae (hu i t f1) λn en e916=>?_;obtain⟨r,rs,tb,_,nw⟩:=e916;rw[Jad,en] at f2;cases f2;rw[Zpp en];exact⟨r,rs,tb,nw⟩⟩
   clear hys hu yl;have gt9:=gt7.same s79;have gc9:=gc.same s79;have gb9:=gb.same s9;have he9:=s79 _ _ he7;have pr9:=pr7.same s79;have hst9:=s79 _ _ hst7;have hz9:=s79 _ _ hz7;subst hX;refine Zd4 λX hX=>?_;walk_at "wp";refine Zu7 e st z tl D D2' p 60 80 20800 xs ps ns ts cts bts Ms Cs Bs ⟨rfl,hp,he9,pr9,ip,p9,hst9,nz_2 hn,gt9.tbl,gc9.chl,gb9.chl,⇑0,⇑0,⇑0,λot l10 ots H10 s10 fot hot go=>?_⟩;have s710:=s79.trans s10;have s010:=s09.trans s10;have b10:=b9.same s10;subst hX;refine cutI λY2 hY2=>?_;walk_at "wp";have asks:∀ {Q2:VK} (Hb Hc Hd Hx:Hp) (ot' cl bl z' tl':Addr) (kt' k k2:Nat) (ts' cts' bts':List Addr) (Ms' Cs' Bs':List Mv),Ext l H10 Hx->Hx ot'=some (.tup [.ref z',.ref tl'])->Hx z'=some (.lst (ns.map V.int))->GL Hb Hx p kt' tl' ts' (tds ns ps) Ms'->GL Hc Hx p k cl cts' (cds ns) Cs'->GL Hd Hx p k2 bl bts' (cds ns) Bs'->kt'<=1000000->1<=k->k<=50000->1<=k2->k2<=50000->(∀ (t:Bool) H',Same Hx H'->(t=true ↔ Zk8 p ns ps Ms Cs' Bs' Ms')->Q2 (.bl t) H')->Zs7 [.int p,.int m,.ref e,.ref st,.ref ot',.ref cl,.ref bl] Hx Q2 E0:=λ{Q2} Hb Hc Hd Hx ot' cl bl z' tl' kt' k k2 ts' cts' bts' Ms' Cs' Bs' ex h1 h2 g1 g2 g3 k1 k2 k3 k4 k5 q2=>
    ⟨H5,Hb,Hc,Hd,e,st,ot',z,z',tl,tl',cl,bl,p,m,60,kt',_,_,xs,ps,ns,ts,ts',cts',bts',Ms,Ms',Cs',Bs',rfl,hp,m0,m8,ex _ _ nel (s10 _ _ he9),(pr9.same s10).bag b10 ex,by rw[<- hm];exact ip,p9,hm,hn,ex _ _ nst (s10 _ _ hst9),ex _ _ nzl (s10 _ _ hz9),(gt9.same s10).ext b5 b10 ex,h1,h2,g1,g2,g3,⇑0,⇑0,k1,k2,k3,k4,k5,q2⟩
   refine asks H9 H6 H7 H10 ot D D2' z l10 _ 80 20800 ots cts bts _ Cs Bs (Ext.refl _ _) hot (s10 _ _ hz9) go (gc9.same s10) (gb9.same s10) ⇑0 ⇑0 ⇑0 ⇑0 ⇑0 λt H11 s11 ht=>?_;obtain rfl:t=true:=ht.mpr (Zuf bk);refine⟨true,rfl,Zgg ⇑0 ?_⟩;have b11:=b10.same s11;have hst11:=(s10.trans s11) _ _ hst9;have hz11:=(s10.trans s11) _ _ hz9;refine asks H5 H8 H8 H11 st D3 D3 z tl _ 20800 20800 ts uts uts _ _ _ s11.ext hst11 hz11 ((gt9.same s10).same s11) ((gu.same s10).same s11) ((gu.same s10).same s11) ⇑0 ⇑0 ⇑0 ⇑0 ⇑0 λt H12 s12 ht=>?_;obtain rfl:t=true:=ht.mpr (Zue hp ip gt9);refine⟨true,rfl,Zgg ⇑0 ?_⟩;have s1012:=s11.trans s12;have b12:=b11.same s12;have oT:=(go.same s1012).le (show ledB 60 80 20800<=50000 by decide);have oC:=((gc9.same s10).same s1012).le (show 80<=20800 by decide);have oB:=(gb9.same s10).same s1012;have hot12:=s1012 _ _ hot;have hz12:=s12 _ _ hz11;refine cutF λY4 hY4=>?_;refine⟨_,rfl,⇑0,⇑0,Zby (λj σ H3=>∃ v11 v12 v13 v14 v15:Option V,σ=[some (.ref a),some (.int c),some (.ref l),some (.int p),some (.int m),some (.ref e),some (.ref st),some (.ref D),some (.ref D2'),some (.ref D3),some (.ref ot),v11,v12,v13,v14,v15]/\Ext l H12 H3/\Bag H3 l) ⟨v11,v12,v13,v14,v15,rfl,Ext.refl _ _,b12⟩ ?_ ?_⟩
   .intro j σ H13 hj e94;refine Zph e94 λv11 v12 v13 v14 v15 e917 e13 b13=>?_;clear e94;obtain rfl:=e917;refine Zpc λD5 hD5=>?_;simp only[Zbe,List.set_cons_zero,List.set_cons_succ];subst hY4;refine Zd4 λX hX=>?_;walk_at "wp";have e10:Ext l H10 H13:=s1012.ext.trans e13;refine⟨H9,H6,H7,l,ot,D,D2',z,l10,p,50000,20800,ps,ns,ots,cts,bts,_,Cs,Bs,rfl,b13,b9,b6,b7,nzl,hp,e13 _ _ (b9.ne fot) hot12,e13 _ _ nzl hz12,oT.ext b9 b12 e13,oC.ext b6 b12 e13,oB.ext b7 b12 e13,p9,n8,hn,⇑0,⇑0,λt3 o3 z3 l3 c3 d3 ts3 cts3 bts3 Ms3 Cs3 Bs3 H14 e14 b14 ht3 ho3 hz3 gt3 gc3 gb3=>⟨t3,rfl,_,SqT.of ht3,rfl,_,_,rfl,_,_,rfl,_,_,rfl,rfl,?_⟩⟩;have e1014:=e10.trans e14;subst hX;refine Zd4 λX hX=>?_;walk_at "wp";refine⟨H5,H13,H13,H13,e,st,o3,z,z3,tl,l3,c3,d3,p,60,50000,20800,20800,xs,ps,ns,ts,ts3,cts3,bts3,Ms,Ms3,Cs3,Bs3,rfl,hp,e1014 _ _ nel (s10 _ _ he9),(pr9.same s10).bag b10 e1014,ip,p9,e1014 _ _ nst (s10 _ _ hst9),e1014 _ _ nzl (s10 _ _ hz9),n8,hn,(gt9.same s10).ext b5 b10 e1014,ho3,hz3,gt3,gc3,gb3,⇑0,⇑0,⇑0,λt H15 s15 ht=>?_⟩;subst hX;walk_at "wp";refine asks H13 H13 H13 H15 o3 c3 d3 z3 l3 50000 20800 20800 ts3 cts3 bts3 Ms3 Cs3 Bs3 (e1014.trans s15.ext) (s15 _ _ ho3) (s15 _ _ hz3) (gt3.same s15) (gc3.same s15) (gb3.same s15) ⇑0 ⇑0 ⇑0 ⇑0 ⇑0 λt' H16 s16 ht'=>?_;obtain rfl:t'=t:=by rw[Jb1];exact ht'.trans ht.symm
    refine⟨rfl,Zgg (by simp) ?_⟩;subst hD5;exact Zg3 _ _ _ _ _ ⟨rfl,(e13.trans e14).trans (s15.trans s16).ext,b14.same (s15.trans s16)⟩
   .intro σ H13 e95;refine Zph e95 λv11 v12 v13 v14 v15 e918 e13 b13=>?_;clear e95;obtain rfl:=e918;subst hD2;exact Znh _ _ _ _ _ _ _ _ _ _ _ _ _ _ _ ⟨rfl,Same.thru (s010.trans s1012) fl e13⟩
  .intro σ H2 e96;refine Zni e96 λv1 v2 v3 v4 v5 v6 v7 v8 v9 v10 v11 v12 v13 v14 v15 e919 s2=>?_;clear e96;obtain rfl:=e919;subst hXX;exact q H2
end
end Pf
set_option maxHeartbeats 4000000
namespace Pf
open PySem L2 PyProof.Rows
open PySem.W (nsIn codeIn keepIn fnOf findIn isFn mg_of mg_none_of plainGet hasDictIn plainOver makesIn)
theorem ex1 {us:List Value}(hl:us.length=1):∃ a0,us=[a0]:=match us,hl with|[a0],_=>⟨a0,rfl⟩
theorem ex2 {us:List Value}(hl:us.length=2):∃ a0 a1,us=[a0,a1]:=match us,hl with|[a0,a1],_=>⟨a0,a1,rfl⟩
theorem ex3 {us:List Value}(hl:us.length=3):∃ a0 a1 a2,us=[a0,a1,a2]:=match us,hl with|[a0,a1,a2],_=>⟨a0,a1,a2,rfl⟩
theorem ex4 {us:List Value}(hl:us.length=4):∃ a0 a1 a2 a3,us=[a0,a1,a2,a3]:=match us,hl with|[a0,a1,a2,a3],_=>⟨a0,a1,a2,a3,rfl⟩
theorem ex5 {us:List Value}(hl:us.length=5):∃ a0 a1 a2 a3 a4,us=[a0,a1,a2,a3,a4]:=match us,hl with|[a0,a1,a2,a3,a4],_=>⟨a0,a1,a2,a3,a4,rfl⟩
theorem ex6 {us:List Value}(hl:us.length=6):∃ a0 a1 a2 a3 a4 a5,us=[a0,a1,a2,a3,a4,a5]:=match us,hl with|[a0,a1,a2,a3,a4,a5],_=>⟨a0,a1,a2,a3,a4,a5,rfl⟩
theorem ex7 {us:List Value}(hl:us.length=7):∃ a0 a1 a2 a3 a4 a5 a6,us=[a0,a1,a2,a3,a4,a5,a6]:=match us,hl with|[a0,a1,a2,a3,a4,a5,a6],_=>⟨a0,a1,a2,a3,a4,a5,a6,rfl⟩
def Gf (K:Frag)(x:Str)(st:Stmt)(f:Addr):Prop:=nsIn K mainGlobals x=some (some (.ref f))/\∃ fd,Fun K x x st f fd
theorem all_mk {l:PySem.W.OpenLaw}{w:World}{K:Frag}{h:Heap}{mg:Str->Option Value}{fa C Cg Cs:Addr}{t1 t2 t3 t4 t5:Tok}(hpt:l.prog.given.tree=none)(X:K.In h)(G:h.Ns mainGlobals mg)(hfa:mg "law" = some (.ref fa)){f1 f2 f3 f4 f5 f6 f7 f8 f9 f10 f11 f12 f13 f14 f15 f16 f17 f18 f19 f20 f21 f22 f23 f24 f25 f26 f27 f28 f29 f30 f31 f32 f33 f34 f35 f36 f37 f38 f39 f40 f41 f42 f43 f44 f45 f46 f47 f48 f49 f50 f51 f52 f53 f54 f55 f56 f57 f58 f59 f60 f61 f62 f63 f64 f65 f66 f67 f68:Addr}{od63 an63 od66 an66:Option Addr}{sl63 sl66:Array (Option Value)}{oc63 kV63 dc63 pm63 ct63 cd63 oc66 kV66 dc66 pm66 ct66 cd66:Value}{D66:Addr}{doc66:Value}{dod66:Option Addr}{dosl66:Array (Option Value)}{dn66:Nat}{dt66:Tok}(u1:Gf K "is_whole" Zfi f1)(u2:Gf K "makes_drawing" Zdc f2)(u3:Gf K "is_arrow" Zhh f3)(u4:Gf K "common_divisor" Zcy f4)(u5:Gf K "not_both_long" Zdb f5)(u6:Gf K "shortened" Zf7 f6)(u7:Gf K "leading_steps" Zdd f7)(u8:Gf K "common_multiple" Zcp f8)(u9:Gf K "is_table" Zhf f9)(u10:Gf K "is_row" Zko f10)(u11:Gf K "plain" Zms f11)(u12:Gf K "noughts" Zi1 f12)(u13:Gf K "product" Zi0 f13)(u14:Gf K "whole_row" Zf5 f14)(u15:Gf K "row_times" Zf8 f15)(u16:Gf K "turned_about" Zds f16)(u17:Gf K "are_sizes" Zgd f17)(u18:Gf K "is_table_of" Zec f18)(u19:Gf K "are_tables" Zfa f19)(u20:Gf K "stands_on" Zf6 f20)(u21:Gf K "are_changes" Zee f21)(u22:Gf K "is_beside" Zgc f22)(u23:Gf K "are_backs" Zge f23)(u24:Gf K "is_led" Zkp f24)(u25:Gf K "lets_by_change" Zcx f25)(u26:Gf K "lets_by" Zi2 f26)(u27:Gf K "is_prime" Zhg f27)(u28:Gf K "tells_ground" Zdt f28)(u29:Gf K "fraction" Zhi f29)(u30:Gf K "inverse" Zja f30)(u31:Gf K "rest_of" Ziz f31)(u32:Gf K "is_fraction" Zed f32)(u33:Gf K "_law_cell" Zhd f33)(u34:Gf K "_law_bag" Zi8 f34)(u35:Gf K "_law_draw" Zhb f35)(u36:Gf K "_law_gcd" Zi6 f36)(u37:Gf K "_law_lowest" Zdq f37)(u38:Gf K "_law_small_prime" Zco f38)(u39:Gf K "_law_number" Ze7 f39)(u40:Gf K "_law_add" Zi9 f40)(u41:Gf K "_law_mul" Zi3 f41)(u42:Gf K "_law_int" Zi5 f42)(u43:Gf K "_law_back" Zhe f43)(u44:Gf K "_law_rows" Zg9 f44)(u45:Gf K "_law_table" Zf9 f45)(u46:Gf K "_law_copy" Zhc f46)(u47:Gf K "_law_product" Zd8 f47)(u48:Gf K "_law_plain" Zga f48)(u49:Gf K "_law_reduced" Zd7 f49)(u50:Gf K "_law_pasted" Ze6 f50)(u51:Gf K "_law_drawing" Zeb f51)(u52:Gf K "_law_standing" Zdu f52)(u53:Gf K "_law_nonzero" Zd9 f53)(u54:Gf K "_law_change" Ze9 f54)(u55:Gf K "_law_inverse" Zea f55)(u56:Gf K "_law_led" Zi4 f56)(u57:Gf K "_law_copies" Ze8 f57)(u58:Gf K "_law_made" Zha f58)(u59:Gf K "_law_due" Zi7 f59)(u60:Gf K "_law_other_number" Zcc f60)(u61:Gf K "_law_spoilt" Ze5 f61)(u62:Gf K "_law_asked" Zgb f62)(a63:nsIn K mainGlobals "law" = some (some (.ref f63)))(l63:K.lookup f63=some ⟨oc63,od63,.func (fnOf "law" "law" (Zdl Zkn) (Zcj Zkn) (Zaf Zkn) .none kV63 dc63 pm63 an63 cd63 ct63),sl63⟩)(c63:codeIn K cd63 "law" = true)(k63:keepIn K (.ref f63)=true)(aC:nsIn K mainGlobals "Drawing" = some (some (.ref C)))(a64:findIn K (.ref C) "__init__" = some (some (.ref f64)))(i64:isFn K (.ref f64)=true)(u64:∃ fd,Fun K "__init__" "Drawing.__init__" Zdv f64 fd)(pg:plainGet K C Str.empty=true)(hd:hasDictIn K C=true)(po:plainOver K C=true)(sa:findIn K (.ref C) "__setattr__" = some (some (.builtin "object.__setattr__")))(mk:makesIn K C=true)(kc:keepIn K (.ref C)=true)(nM:findIn K (.ref C) "many" = some none)(nA:findIn K (.ref C) "arrows" = some none)(aCg:nsIn K mainGlobals "Ground" = some (some (.ref Cg)))(a65:findIn K (.ref Cg) "__init__" = some (some (.ref f65)))(i65:isFn K (.ref f65)=true)(u65:∃ fd,Fun K "__init__" "Ground.__init__" Zef f65 fd)(a66:findIn K (.ref Cg) "number" = some (some (.ref f66)))(i66:isFn K (.ref f66)=true)(l66:K.lookup f66=some ⟨oc66,od66,.func (fnOf "number" "Ground.number" (Zdl Zax) (Zcj Zax) (Zaf Zax) (.ref D66) kV66 dc66 pm66 an66 cd66 ct66),sl66⟩)(dl66:K.lookup D66=some ⟨doc66,dod66,.seq #[.int 1 dt66] dn66,dosl66⟩)(c66:codeIn K cd66 "Ground.number" = true)(k66:keepIn K (.ref f66)=true)(a67:findIn K (.ref Cg) "is_number" = some (some (.ref f67)))(i67:isFn K (.ref f67)=true)(u67:∃ fd,Fun K "is_number" "Ground.is_number" Zcd f67 fd)(pg_Cg:plainGet K Cg Str.empty=true)(hd_Cg:hasDictIn K Cg=true)(po_Cg:plainOver K Cg=true)(sa_Cg:findIn K (.ref Cg) "__setattr__" = some (some (.builtin "object.__setattr__")))(mk_Cg:makesIn K Cg=true)(kc_Cg:keepIn K (.ref Cg)=true)(nP:findIn K (.ref Cg) "prime" = some none)(aCs:nsIn K mainGlobals "Standing" = some (some (.ref Cs)))(a68:findIn K (.ref Cs) "__init__" = some (some (.ref f68)))(i68:isFn K (.ref f68)=true)(u68:∃ fd,Fun K "__init__" "Standing.__init__" Zde f68 fd)(pg_Cs:plainGet K Cs Str.empty=true)(hd_Cs:hasDictIn K Cs=true)(po_Cs:plainOver K Cs=true)(sa_Cs:findIn K (.ref Cs) "__setattr__" = some (some (.builtin "object.__setattr__")))(mk_Cs:makesIn K Cs=true)(kc_Cs:keepIn K (.ref Cs)=true)(nSg:findIn K (.ref Cs) "ground" = some none)(nSd:findIn K (.ref Cs) "drawing" = some none)(nSs:findIn K (.ref Cs) "sizes" = some none)(nSt:findIn K (.ref Cs) "tables" = some none)(g1:nsIn K mainGlobals "MOST_POINTS" = some (some (.int 8 t1)))(g2:nsIn K mainGlobals "MOST_ARROWS" = some (some (.int 9 t2)))(g3:nsIn K mainGlobals "LARGEST_PRIME" = some (some (.int 97 t3)))(g4:nsIn K mainGlobals "LONG" = some (some (.int 4000 t4)))(g5:nsIn K mainGlobals "LEADING" = some (some (.int 126 t5)))(z0:nsIn K mainGlobals "len" = some none)(z1:nsIn K mainGlobals "range" = some none)(z2:nsIn K mainGlobals "list" = some none)(z3:nsIn K mainGlobals "min" = some none)(z4:nsIn K mainGlobals "int" = some none)(z5:nsIn K mainGlobals "bool" = some none)(z6:nsIn K mainGlobals "tuple" = some none)(z7:nsIn K mainGlobals "all" = some none)(z8:nsIn K mainGlobals "isinstance" = some none)(z9:nsIn K mainGlobals "abs" = some none)(z10:nsIn K mainGlobals "zip" = some none)(z11:nsIn K mainGlobals "enumerate" = some none)(z12:nsIn K mainGlobals "reversed" = some none)(z13:nsIn K mainGlobals "sum" = some none)(z14:nsIn K mainGlobals "any" = some none)(x_ic1:findIn K (.ref Cs) "__class__" = some (some (.builtin "object.__class__")))(x_ic2:PySem.W.specialIn K (.builtin "object.__class__") "__get__" = some (some (.builtin "getset_descriptor.__get__")))(x_ic3:PySem.W.takesIn K (.builtin "object.__class__")=some true)(x_ic4:PySem.W.mroIn K Cs (.type "object")=some true):
  ∃ fd:FuncData,(∀ (s:Shared) (v:Value),BindsTo s fd ⟨[v],[]⟩ [("_law_script",v)])/\∀ base:Heap,K.In base->base.Ns mainGlobals mg->FnOk l.prog w K mg base CX0 16 fa fd ["_law_script"] (Zs4 K):=by
 have e:=hfa.symm.trans (mg_of X G a63);cases e;have T:Txt K mg C Cg Cs:=⟨⟨pg,hd,po,sa⟩,nM,nA,⟨pg_Cg,hd_Cg,po_Cg,sa_Cg⟩,nP,⟨pg_Cs,hd_Cs,po_Cs,sa_Cs⟩,nSg,nSd,nSs,nSt,mg_none_of X G z0,mg_none_of X G z1,mg_none_of X G z2,mg_none_of X G z3,mg_none_of X G z4,mg_none_of X G z5,mg_none_of X G z6,mg_none_of X G z7,mg_none_of X G z8,mg_none_of X G z9,mg_none_of X G z10,mg_none_of X G z11,mg_none_of X G z12,mg_none_of X G z13,mg_none_of X G z14,⟨t1,mg_of X G g1⟩,⟨t2,mg_of X G g2⟩,⟨t3,mg_of X G g3⟩,⟨t4,mg_of X G g4⟩,⟨t5,mg_of X G g5⟩,mg_of X G aCs,x_ic1,x_ic2,x_ic3,x_ic4⟩
 obtain⟨a1,_,F1⟩:=u1;have b1:=F1.binds (ps:=["thing"]) λ_ _ _ _ _ _ us hl=>by obtain⟨_,rfl⟩:=ex1 hl;rfl
 obtain⟨a2,_,F2⟩:=u2;have b2:=F2.binds (ps:=["many","arrows"]) λ_ _ _ _ _ _ us hl=>by obtain⟨_,_,rfl⟩:=ex2 hl;rfl
 obtain⟨a3,_,F3⟩:=u3;have b3:=F3.binds (ps:=["many","thing"]) λ_ _ _ _ _ _ us hl=>by obtain⟨_,_,rfl⟩:=ex2 hl;rfl
 obtain⟨a4,_,F4⟩:=u4;have b4:=F4.binds (ps:=["one","other"]) λ_ _ _ _ _ _ us hl=>by obtain⟨_,_,rfl⟩:=ex2 hl;rfl
 obtain⟨a5,_,F5⟩:=u5;have b5:=F5.binds (ps:=["one","other"]) λ_ _ _ _ _ _ us hl=>by obtain⟨_,_,rfl⟩:=ex2 hl;rfl
 obtain⟨a6,_,F6⟩:=u6;have b6:=F6.binds (ps:=["one","other"]) λ_ _ _ _ _ _ us hl=>by obtain⟨_,_,rfl⟩:=ex2 hl;rfl
 obtain⟨a7,_,F7⟩:=u7;have b7:=F7.binds (ps:=["one","other"]) λ_ _ _ _ _ _ us hl=>by obtain⟨_,_,rfl⟩:=ex2 hl;rfl
 obtain⟨a8,_,F8⟩:=u8;have b8:=F8.binds (ps:=["one","other"]) λ_ _ _ _ _ _ us hl=>by obtain⟨_,_,rfl⟩:=ex2 hl;rfl
 obtain⟨a9,_,F9⟩:=u9;have b9:=F9.binds (ps:=["ground","thing"]) λ_ _ _ _ _ _ us hl=>by obtain⟨_,_,rfl⟩:=ex2 hl;rfl
 obtain⟨a10,_,F10⟩:=u10;have b10:=F10.binds (ps:=["ground","wide","thing"]) λ_ _ _ _ _ _ us hl=>by obtain⟨_,_,_,rfl⟩:=ex3 hl;rfl
 obtain⟨a11,_,F11⟩:=u11;have b11:=F11.binds (ps:=["ground","many"]) λ_ _ _ _ _ _ us hl=>by obtain⟨_,_,rfl⟩:=ex2 hl;rfl
 obtain⟨a12,_,F12⟩:=u12;have b12:=F12.binds (ps:=["ground","high","wide"]) λ_ _ _ _ _ _ us hl=>by obtain⟨_,_,_,rfl⟩:=ex3 hl;rfl
 obtain⟨a13,_,F13⟩:=u13;have b13:=F13.binds (ps:=["ground","one","other"]) λ_ _ _ _ _ _ us hl=>by obtain⟨_,_,_,rfl⟩:=ex3 hl;rfl
 obtain⟨a14,_,F14⟩:=u14;have b14:=F14.binds (ps:=["ground","row"]) λ_ _ _ _ _ _ us hl=>by obtain⟨_,_,rfl⟩:=ex2 hl;rfl
 obtain⟨a15,_,F15⟩:=u15;have b15:=F15.binds (ps:=["ground","row","column"]) λ_ _ _ _ _ _ us hl=>by obtain⟨_,_,_,rfl⟩:=ex3 hl;rfl
 obtain⟨a16,_,F16⟩:=u16;have b16:=F16.binds (ps:=["table"]) λ_ _ _ _ _ _ us hl=>by obtain⟨_,rfl⟩:=ex1 hl;rfl
 obtain⟨a17,_,F17⟩:=u17;have b17:=F17.binds (ps:=["drawing","thing"]) λ_ _ _ _ _ _ us hl=>by obtain⟨_,_,rfl⟩:=ex2 hl;rfl
 obtain⟨a18,_,F18⟩:=u18;have b18:=F18.binds (ps:=["ground","high","wide","thing"]) λ_ _ _ _ _ _ us hl=>by obtain⟨_,_,_,_,rfl⟩:=ex4 hl;rfl
 obtain⟨a19,_,F19⟩:=u19;have b19:=F19.binds (ps:=["ground","drawing","sizes","thing"]) λ_ _ _ _ _ _ us hl=>by obtain⟨_,_,_,_,rfl⟩:=ex4 hl;rfl
 obtain⟨a20,_,F20⟩:=u20;have b20:=F20.binds (ps:=["standing","ground","drawing"]) λ_ _ _ _ _ _ us hl=>by obtain⟨_,_,_,rfl⟩:=ex3 hl;rfl
 obtain⟨a21,_,F21⟩:=u21;have b21:=F21.binds (ps:=["standing","thing"]) λ_ _ _ _ _ _ us hl=>by obtain⟨_,_,rfl⟩:=ex2 hl;rfl
 obtain⟨a22,_,F22⟩:=u22;have b22:=F22.binds (ps:=["standing","thing"]) λ_ _ _ _ _ _ us hl=>by obtain⟨_,_,rfl⟩:=ex2 hl;rfl
 obtain⟨a23,_,F23⟩:=u23;have b23:=F23.binds (ps:=["standing","changes","backs"]) λ_ _ _ _ _ _ us hl=>by obtain⟨_,_,_,rfl⟩:=ex3 hl;rfl
 obtain⟨a24,_,F24⟩:=u24;have b24:=F24.binds (ps:=["standing","other","changes","backs"]) λ_ _ _ _ _ _ us hl=>by obtain⟨_,_,_,_,rfl⟩:=ex4 hl;rfl
 obtain⟨a25,_,F25⟩:=u25;have b25:=F25.binds (ps:=["standing","other","changes","backs"]) λ_ _ _ _ _ _ us hl=>by obtain⟨_,_,_,_,rfl⟩:=ex4 hl;rfl
 obtain⟨a26,_,F26⟩:=u26;have b26:=F26.binds (ps:=["standing","paper"]) λ_ _ _ _ _ _ us hl=>by obtain⟨_,_,rfl⟩:=ex2 hl;rfl
 obtain⟨a27,_,F27⟩:=u27;have b27:=F27.binds (ps:=["number"]) λ_ _ _ _ _ _ us hl=>by obtain⟨_,rfl⟩:=ex1 hl;rfl
 obtain⟨a28,_,F28⟩:=u28;have b28:=F28.binds (ps:=["thing"]) λ_ _ _ _ _ _ us hl=>by obtain⟨_,rfl⟩:=ex1 hl;rfl
 obtain⟨a29,_,F29⟩:=u29;have b29:=F29.binds (ps:=["top","bottom"]) λ_ _ _ _ _ _ us hl=>by obtain⟨_,_,rfl⟩:=ex2 hl;rfl
 obtain⟨a30,_,F30⟩:=u30;have b30:=F30.binds (ps:=["rest","prime"]) λ_ _ _ _ _ _ us hl=>by obtain⟨_,_,rfl⟩:=ex2 hl;rfl
 obtain⟨a31,_,F31⟩:=u31;have b31:=F31.binds (ps:=["top","bottom","prime"]) λ_ _ _ _ _ _ us hl=>by obtain⟨_,_,_,rfl⟩:=ex3 hl;rfl
 obtain⟨a32,_,F32⟩:=u32;have b32:=F32.binds (ps:=["thing"]) λ_ _ _ _ _ _ us hl=>by obtain⟨_,rfl⟩:=ex1 hl;rfl
 obtain⟨a33,_,F33⟩:=u33;have b33:=F33.binds (ps:=["_law_script","_law_k"]) λ_ _ _ _ _ _ us hl=>by obtain⟨_,_,rfl⟩:=ex2 hl;rfl
 obtain⟨a34,_,F34⟩:=u34;have b34:=F34.binds (ps:=["_law_cell_here"]) λ_ _ _ _ _ _ us hl=>by obtain⟨_,rfl⟩:=ex1 hl;rfl
 obtain⟨a35,_,F35⟩:=u35;have b35:=F35.binds (ps:=["_law_bag_here","_law_many"]) λ_ _ _ _ _ _ us hl=>by obtain⟨_,_,rfl⟩:=ex2 hl;rfl
 obtain⟨a36,_,F36⟩:=u36;have b36:=F36.binds (ps:=["_law_one","_law_two"]) λ_ _ _ _ _ _ us hl=>by obtain⟨_,_,rfl⟩:=ex2 hl;rfl
 obtain⟨a37,_,F37⟩:=u37;have b37:=F37.binds (ps:=["_law_top","_law_bottom"]) λ_ _ _ _ _ _ us hl=>by obtain⟨_,_,rfl⟩:=ex2 hl;rfl
 obtain⟨a38,_,F38⟩:=u38;have b38:=F38.binds (ps:=["_law_bag_here"]) λ_ _ _ _ _ _ us hl=>by obtain⟨_,rfl⟩:=ex1 hl;rfl
 obtain⟨a39,_,F39⟩:=u39;have b39:=F39.binds (ps:=["_law_bag_here","_law_p"]) λ_ _ _ _ _ _ us hl=>by obtain⟨_,_,rfl⟩:=ex2 hl;rfl
 obtain⟨a40,_,F40⟩:=u40;have b40:=F40.binds (ps:=["_law_p","_law_a","_law_b"]) λ_ _ _ _ _ _ us hl=>by obtain⟨_,_,_,rfl⟩:=ex3 hl;rfl
 obtain⟨a41,_,F41⟩:=u41;have b41:=F41.binds (ps:=["_law_p","_law_a","_law_b"]) λ_ _ _ _ _ _ us hl=>by obtain⟨_,_,_,rfl⟩:=ex3 hl;rfl
 obtain⟨a42,_,F42⟩:=u42;have b42:=F42.binds (ps:=["_law_p","_law_k"]) λ_ _ _ _ _ _ us hl=>by obtain⟨_,_,rfl⟩:=ex2 hl;rfl
 obtain⟨a43,_,F43⟩:=u43;have b43:=F43.binds (ps:=["_law_p","_law_a"]) λ_ _ _ _ _ _ us hl=>by obtain⟨_,_,rfl⟩:=ex2 hl;rfl
 obtain⟨a44,_,F44⟩:=u44;have b44:=F44.binds (ps:=["_law_bag_here","_law_p","_law_high","_law_wide"]) λ_ _ _ _ _ _ us hl=>by obtain⟨_,_,_,_,rfl⟩:=ex4 hl;rfl
 obtain⟨a45,_,F45⟩:=u45;have b45:=F45.binds (ps:=["_law_bag_here","_law_p","_law_high","_law_wide"]) λ_ _ _ _ _ _ us hl=>by obtain⟨_,_,_,_,rfl⟩:=ex4 hl;rfl
 obtain⟨a46,_,F46⟩:=u46;have b46:=F46.binds (ps:=["_law_table_here"]) λ_ _ _ _ _ _ us hl=>by obtain⟨_,rfl⟩:=ex1 hl;rfl
 obtain⟨a47,_,F47⟩:=u47;have b47:=F47.binds (ps:=["_law_p","_law_one","_law_other"]) λ_ _ _ _ _ _ us hl=>by obtain⟨_,_,_,rfl⟩:=ex3 hl;rfl
 obtain⟨a48,_,F48⟩:=u48;have b48:=F48.binds (ps:=["_law_p","_law_many"]) λ_ _ _ _ _ _ us hl=>by obtain⟨_,_,rfl⟩:=ex2 hl;rfl
 obtain⟨a49,_,F49⟩:=u49;have b49:=F49.binds (ps:=["_law_p","_law_table_here"]) λ_ _ _ _ _ _ us hl=>by obtain⟨_,_,rfl⟩:=ex2 hl;rfl
 obtain⟨a50,_,F50⟩:=u50;have b50:=F50.binds (ps:=["_law_one","_law_other"]) λ_ _ _ _ _ _ us hl=>by obtain⟨_,_,rfl⟩:=ex2 hl;rfl
 obtain⟨a51,_,F51⟩:=u51;have b51:=F51.binds (ps:=["_law_bag_here"]) λ_ _ _ _ _ _ us hl=>by obtain⟨_,rfl⟩:=ex1 hl;rfl
 obtain⟨a52,_,F52⟩:=u52;have b52:=F52.binds (ps:=["_law_bag_here","_law_p","_law_many","_law_arrows"]) λ_ _ _ _ _ _ us hl=>by obtain⟨_,_,_,_,rfl⟩:=ex4 hl;rfl
 obtain⟨a53,_,F53⟩:=u53;have b53:=F53.binds (ps:=["_law_bag_here","_law_p"]) λ_ _ _ _ _ _ us hl=>by obtain⟨_,_,rfl⟩:=ex2 hl;rfl
 obtain⟨a54,_,F54⟩:=u54;have b54:=F54.binds (ps:=["_law_bag_here","_law_p","_law_size"]) λ_ _ _ _ _ _ us hl=>by obtain⟨_,_,_,rfl⟩:=ex3 hl;rfl
 obtain⟨a55,_,F55⟩:=u55;have b55:=F55.binds (ps:=["_law_p","_law_table_here"]) λ_ _ _ _ _ _ us hl=>by obtain⟨_,_,rfl⟩:=ex2 hl;rfl
 obtain⟨a56,_,F56⟩:=u56;have b56:=F56.binds (ps:=["_law_p","_law_arrows","_law_standing_here","_law_changes","_law_backs"]) λ_ _ _ _ _ _ us hl=>by obtain⟨_,_,_,_,_,rfl⟩:=ex5 hl;rfl
 obtain⟨a57,_,F57⟩:=u57;have b57:=F57.binds (ps:=["_law_tables"]) λ_ _ _ _ _ _ us hl=>by obtain⟨_,rfl⟩:=ex1 hl;rfl
 obtain⟨a58,_,F58⟩:=u58;have b58:=F58.binds (ps:=["_law_ground","_law_drawing_here","_law_standing_here"]) λ_ _ _ _ _ _ us hl=>by obtain⟨_,_,_,rfl⟩:=ex3 hl;rfl
 obtain⟨a59,_,F59⟩:=u59;have b59:=F59.binds (ps:=["_law_p","_law_arrows","_law_standing_here","_law_other","_law_changes","_law_backs"]) λ_ _ _ _ _ _ us hl=>by obtain⟨_,_,_,_,_,_,rfl⟩:=ex6 hl;rfl
 obtain⟨a60,_,F60⟩:=u60;have b60:=F60.binds (ps:=["_law_bag_here","_law_p","_law_tables"]) λ_ _ _ _ _ _ us hl=>by obtain⟨_,_,_,rfl⟩:=ex3 hl;rfl
 obtain⟨a61,_,F61⟩:=u61;have b61:=F61.binds (ps:=["_law_bag_here","_law_p","_law_other","_law_changes","_law_backs"]) λ_ _ _ _ _ _ us hl=>by obtain⟨_,_,_,_,_,rfl⟩:=ex5 hl;rfl
 obtain⟨a62,_,F62⟩:=u62;have b62:=F62.binds (ps:=["_law_p","_law_many","_law_arrows","_law_standing_here","_law_other","_law_changes","_law_backs"]) λ_ _ _ _ _ _ us hl=>by obtain⟨_,_,_,_,_,_,_,rfl⟩:=ex7 hl;rfl
 have F63:=fun_mk (st:=Zkn) l63 c63 k63;obtain⟨_,F64⟩:=u64;have b64:=F64.binds (ps:=["self","many","arrows"]) λ_ _ _ _ _ _ us hl=>by obtain⟨_,_,_,rfl⟩:=ex3 hl;rfl
 obtain⟨_,F65⟩:=u65;have b65:=F65.binds (ps:=["self","prime"]) λ_ _ _ _ _ _ us hl=>by obtain⟨_,_,rfl⟩:=ex2 hl;rfl
 have F66:FunD K "number" "Ground.number" Zax f66 _ D66:=⟨⟨oc66,od66,kV66,dc66,pm66,an66,cd66,ct66,sl66,rfl,l66,c66⟩⟩
 have b66:=Zg0 (fd:=fnOf "number" "Ground.number" (Zdl Zax) (Zcj Zax) (Zaf Zax) (.ref D66) kV66 dc66 pm66 an66 cd66 ct66) (ps:=["self","top","bottom"]) (ds:=[.int 1 dt66]) dl66 rfl λus hl=>match us,(show us.length=2 by simpa using hl) with|[_,_],_=>⟨_,rfl,rfl⟩
 have bF66:=Zg0 (fd:=fnOf "number" "Ground.number" (Zdl Zax) (Zcj Zax) (Zaf Zax) (.ref D66) kV66 dc66 pm66 an66 cd66 ct66) (ps:=["self","top","bottom"]) (ds:=[]) dl66 rfl λus hl=>match us,(show us.length=3 by simpa using hl) with|[_,_,_],_=>⟨_,rfl,rfl⟩
 obtain⟨_,F67⟩:=u67;have b67:=F67.binds (ps:=["self","thing"]) λ_ _ _ _ _ _ us hl=>by obtain⟨_,_,rfl⟩:=ex2 hl;rfl
 obtain⟨_,F68⟩:=u68;have b68:=F68.binds (ps:=["self","ground","drawing","sizes","tables"]) λ_ _ _ _ _ _ us hl=>by obtain⟨_,_,_,_,_,rfl⟩:=ex5 hl;rfl
 refine⟨fnOf "law" "law" (Zdl Zkn) (Zcj Zkn) (Zaf Zkn) .none kV63 dc63 pm63 an63 cd63 ct63,λs v=>.of_eq rfl,λbase KB _=>?_⟩;have C1:Cal l.prog w K mg base "is_whole" 1 Zg6:=⟨_,_,_,Ztu F1 T ,mg_of X G a1,F1.kp,b1⟩
 have C1A:Cal l.prog w K mg base "is_whole" 1 Zgj:=⟨_,_,_,Zq0 F1 T ,mg_of X G a1,F1.kp,b1⟩
 have C3:Cal l.prog w K mg base "is_arrow" 2 Zmr:=⟨_,_,_,Zt7 F3 T C1,mg_of X G a3,F3.kp,b3⟩
 have C2:Cal l.prog w K mg base "makes_drawing" 3 Zmo:=⟨_,_,_,Zt1 F2 T C1 C3,mg_of X G a2,F2.kp,b2⟩
 have C64:CalI l.prog w K mg base "Drawing" C 4 (Zno C):=⟨_,_,_,ok_init F64 T C2,⟨mk,a64,i64,kc⟩,mg_of X G aC,b64⟩
 have C7:Cal l.prog w K mg base "leading_steps" 1 Zp2:=⟨_,_,_,ok_lead F7 T hpt,mg_of X G a7,F7.kp,b7⟩
 have C6:Cal l.prog w K mg base "shortened" 2 Zmk:=⟨_,_,_,Ztx F6 T C7,mg_of X G a6,F6.kp,b6⟩
 have C5:Cal l.prog w K mg base "not_both_long" 3 spNbl:=⟨_,_,_,ok_nbl F5 T C6,mg_of X G a5,F5.kp,b5⟩
 have C4:Cal l.prog w K mg base "common_divisor" 4 Zp5:=⟨_,_,_,ok_cdB F4 T C5,mg_of X G a4,F4.kp,b4⟩
 have C27:Cal l.prog w K mg base "is_prime" 1 Zmm:=⟨_,_,_,Ztz F27 T ,mg_of X G a27,F27.kp,b27⟩
 have C28:Cal l.prog w K mg base "tells_ground" 2 Zmj:=⟨_,_,_,Ztv F28 T C1 C27,mg_of X G a28,F28.kp,b28⟩
 have C29:Cal l.prog w K mg base "fraction" 5 Zmp:=⟨_,_,_,Zt6 F29 T hpt C4,mg_of X G a29,F29.kp,b29⟩
 have C30:Cal l.prog w K mg base "inverse" 1 spInv:=⟨_,_,_,ok_inv F30 T ,mg_of X G a30,F30.kp,b30⟩
 have C31:Cal l.prog w K mg base "rest_of" 2 Zml:=⟨_,_,_,Zty F31 T C30,mg_of X G a31,F31.kp,b31⟩
 have C32:Cal l.prog w K mg base "is_fraction" 5 spFr:=⟨_,_,_,ok_fr F32 T C1A C4,mg_of X G a32,F32.kp,b32⟩
 have C65:CalI l.prog w K mg base "Ground" Cg 3 (Zkk Cg):=⟨_,_,_,Zt5 F65 T C28,⟨mk_Cg,a65,i65,kc_Cg⟩,mg_of X G aCg,b65⟩
 have C66:CalD l.prog w K mg base Cg "number" 6 (Zjv Cg) [.int 1]:=⟨_,_,_,_,Zq1 F66 T C29 C31,⟨a66,i66,k66⟩,b66,.cons ⟨_,rfl⟩ .nil⟩
 have C66F:CalD l.prog w K mg base Cg "number" 6 (Zjv Cg) []:=⟨_,_,_,[],Zq1 F66 T C29 C31,⟨a66,i66,k66⟩,bF66,.nil⟩
 have C67:CalM l.prog w K mg base Cg "is_number" 6 (spIsN Cg):=⟨_,_,_,ok_isn F67 T C1A C32,⟨a67,i67,F67.kp⟩,b67⟩
 have C10:Cal l.prog w K mg base "is_row" 7 (Zpz Cg):=⟨_,_,_,Zt4 F10 T C67,mg_of X G a10,F10.kp,b10⟩
 have C9:Cal l.prog w K mg base "is_table" 8 (Zpx Cg):=⟨_,_,_,Zt3 F9 T C1A C10,mg_of X G a9,F9.kp,b9⟩
 have C17:Cal l.prog w K mg base "are_sizes" 2 (spSz C):=⟨_,_,_,ok_sz F17 T C1,mg_of X G a17,F17.kp,b17⟩
 have C18:Cal l.prog w K mg base "is_table_of" 9 (spTo Cg):=⟨_,_,_,ok_to F18 T C9,mg_of X G a18,F18.kp,b18⟩
 have C19:Cal l.prog w K mg base "are_tables" 10 (spTs C Cg):=⟨_,_,_,ok_ts F19 T C18,mg_of X G a19,F19.kp,b19⟩
 have C68:CalI l.prog w K mg base "Standing" Cs 11 (spSI Cs C Cg):=⟨_,_,_,Ztw F68 T C17 C19,⟨mk_Cs,a68,i68,kc_Cs⟩,mg_of X G aCs,b68⟩
 have C8:Cal l.prog w K mg base "common_multiple" 5 spCmB:=⟨_,_,_,ok_cmB F8 T hpt C4,mg_of X G a8,F8.kp,b8⟩
 have C14:Cal l.prog w K mg base "whole_row" 6 (spWrZ Cg):=⟨_,_,_,ok_wrZ F14 T hpt C8,mg_of X G a14,F14.kp,b14⟩
 have C12:Cal l.prog w K mg base "noughts" 7 (spNou Cg):=⟨_,_,_,ok_nou F12 T C66,mg_of X G a12,F12.kp,b12⟩
 have C11:Cal l.prog w K mg base "plain" 8 (spPl Cg):=⟨_,_,_,ok_pl F11 T C12 C66,mg_of X G a11,F11.kp,b11⟩
 have C15:Cal l.prog w K mg base "row_times" 7 (spRt Cg):=⟨_,_,_,ok_rt F15 T C66F,mg_of X G a15,F15.kp,b15⟩
 have C16:Cal l.prog w K mg base "turned_about" 1 spTa:=⟨_,_,_,ok_ta F16 T ,mg_of X G a16,F16.kp,b16⟩
 have C13:Cal l.prog w K mg base "product" 8 (Znl Cg):=⟨_,_,_,ok_prod F13 T C14 C16 C15,mg_of X G a13,F13.kp,b13⟩
 have C21:Cal l.prog w K mg base "are_changes" 10 (spAc Cs C Cg):=⟨_,_,_,ok_ac F21 T C18,mg_of X G a21,F21.kp,b21⟩
 have C20:Cal l.prog w K mg base "stands_on" 1 (spOn Cs C Cg):=⟨_,_,_,ok_on F20 T ,mg_of X G a20,F20.kp,b20⟩
 have C22:Cal l.prog w K mg base "is_beside" 2 (spBsd Cs C Cg):=⟨_,_,_,ok_bsd F22 T C20,mg_of X G a22,F22.kp,b22⟩
 have C23:Cal l.prog w K mg base "are_backs" 11 (spBks Cs C Cg):=⟨_,_,_,ok_bks F23 T C21 C13 C11,mg_of X G a23,F23.kp,b23⟩
 have C24:Cal l.prog w K mg base "is_led" 12 (Znm Cs C Cg):=⟨_,_,_,ok_ledt F24 T C23 C13,mg_of X G a24,F24.kp,b24⟩
 have C25:Cal l.prog w K mg base "lets_by_change" 13 (Zs3 Cs C Cg):=⟨_,_,_,ok_lbc F25 T C22 C24,mg_of X G a25,F25.kp,b25⟩
 have C26:Cal l.prog w K mg base "lets_by" 14 (spLb Cs C Cg):=⟨_,_,_,ok_lb F26 T C25,mg_of X G a26,F26.kp,b26⟩
 have C33:Cal l.prog w K mg base "_law_cell" 1 (Zp4 K):=⟨_,_,_,ok_cell F33 T ,mg_of X G a33,F33.kp,b33⟩
 have C34:Cal l.prog w K mg base "_law_bag" 1 spBag:=⟨_,_,_,ok_bag F34 T ,mg_of X G a34,F34.kp,b34⟩
 have C35:Cal l.prog w K mg base "_law_draw" 1 Zc8:=⟨_,_,_,ok_draw F35 T ,mg_of X G a35,F35.kp,b35⟩
 have C36:Cal l.prog w K mg base "_law_gcd" 1 Zs5:=⟨_,_,_,ok_gcd F36 T ,mg_of X G a36,F36.kp,b36⟩
 have C37B:Cal l.prog w K mg base "_law_lowest" 2 Zlg:=⟨_,_,_,ok_lowB F37 T hpt C36,mg_of X G a37,F37.kp,b37⟩
 have C37Z:Cal l.prog w K mg base "_law_lowest" 3 Zp0:=⟨_,_,_,ok_lowZ F37 T hpt C36 C37B,mg_of X G a37,F37.kp,b37⟩
 have C40B:Cal l.prog w K mg base "_law_add" 3 (Zh8 Zcz):=⟨_,_,_,ok_addB F40 T C37B,mg_of X G a40,F40.kp,b40⟩
 have C41B:Cal l.prog w K mg base "_law_mul" 3 (Zh8 Za8):=⟨_,_,_,ok_mulB F41 T C37B,mg_of X G a41,F41.kp,b41⟩
 have C42:Cal l.prog w K mg base "_law_int" 1 Zot:=⟨_,_,_,ok_int F42 T ,mg_of X G a42,F42.kp,b42⟩
 have C43:Cal l.prog w K mg base "_law_back" 4 Zmq:=⟨_,_,_,ok_back F43 T C37Z,mg_of X G a43,F43.kp,b43⟩
 have C46:Cal l.prog w K mg base "_law_copy" 1 Znp:=⟨_,_,_,ok_copy F46 T ,mg_of X G a46,F46.kp,b46⟩
 have C47:Cal l.prog w K mg base "_law_product" 4 Zs2:=⟨_,_,_,ok_lpB F47 T C42 C40B C41B,mg_of X G a47,F47.kp,b47⟩
 have C49:Cal l.prog w K mg base "_law_reduced" 5 Zp3:=⟨_,_,_,ok_lred F49 T C46 C42 C40B C41B C43,mg_of X G a49,F49.kp,b49⟩
 have C50:Cal l.prog w K mg base "_law_pasted" 1 Zmn:=⟨_,_,_,Zt0 F50 T ,mg_of X G a50,F50.kp,b50⟩
 have C38:Cal l.prog w K mg base "_law_small_prime" 2 spSmp:=⟨_,_,_,ok_smp F38 T C35,mg_of X G a38,F38.kp,b38⟩
 have C39:Cal l.prog w K mg base "_law_number" 2 (Zjw 7):=⟨_,_,_,ok_numf F39 T C35,mg_of X G a39,F39.kp,b39⟩
 have C53:Cal l.prog w K mg base "_law_nonzero" 2 spNzF:=⟨_,_,_,ok_nzf F53 T C35,mg_of X G a53,F53.kp,b53⟩
 have C44:Cal l.prog w K mg base "_law_rows" 4 Zpy:=⟨_,_,_,ok_rows F44 T C35 C39 C42,mg_of X G a44,F44.kp,b44⟩
 have C45:Cal l.prog w K mg base "_law_table" 5 spTbG:=⟨_,_,_,ok_tb F45 T C44 C35 C39 C41B C40B,mg_of X G a45,F45.kp,b45⟩
 have C51:Cal l.prog w K mg base "_law_drawing" 2 (spOut way0):=⟨_,_,_,Zt2 F51 T C35,mg_of X G a51,F51.kp,b51⟩
 have C48:Cal l.prog w K mg base "_law_plain" 2 Zos:=⟨_,_,_,ok_plC F48 T C42,mg_of X G a48,F48.kp,b48⟩
 have C54:Cal l.prog w K mg base "_law_change" 4 spChg:=⟨_,_,_,ok_chg F54 T C48 C53 C41B C35 C39 C40B,mg_of X G a54,F54.kp,b54⟩
 have C55:Cal l.prog w K mg base "_law_inverse" 6 Zp1:=⟨_,_,_,ok_linv F55 T C48 C50 C49,mg_of X G a55,F55.kp,b55⟩
 have C56:Cal l.prog w K mg base "_law_led" 5 Znn:=⟨_,_,_,ok_ledL F56 T C47,mg_of X G a56,F56.kp,b56⟩
 have C57:Cal l.prog w K mg base "_law_copies" 2 Zs6:=⟨_,_,_,ok_cps F57 T C46,mg_of X G a57,F57.kp,b57⟩
 have C58:Cal l.prog w K mg base "_law_made" 13 (spMd Cs C Cg):=⟨_,_,_,ok_md F58 T C68,mg_of X G a58,F58.kp,b58⟩
 have C59:Cal l.prog w K mg base "_law_due" 6 spDue:=⟨_,_,_,ok_due F59 T C47 C48 C56,mg_of X G a59,F59.kp,b59⟩
 have C60:Cal l.prog w K mg base "_law_other_number" 3 spOth:=⟨_,_,_,ok_oth F60 T C35 C39,mg_of X G a60,F60.kp,b60⟩
 have C61:Cal l.prog w K mg base "_law_spoilt" 4 spSpt:=⟨_,_,_,ok_spt F61 T C35 C57 C60,mg_of X G a61,F61.kp,b61⟩
 have C52:Cal l.prog w K mg base "_law_standing" 6 spLs6:=⟨_,_,_,ok_ls6 F52 T C35 C45,mg_of X G a52,F52.kp,b52⟩
 have C62:Cal l.prog w K mg base "_law_asked" 15 Zs7:=⟨_,_,_,ok_ask F62 T C65 C64 C58 C57 C26,mg_of X G a62,F62.kp,b62⟩
 exact ok_law F63 T C33 C34 C38 C51 C52 C54 C55 C48 C56 C62 C61 C59
theorem walk {l:PySem.W.OpenLaw}{q:Program}{loose:List Str}{XP:(Str->Option Value)->Heap->Prop}{YP:World->Heap->Prop}{d:DefRec}{K:Params->Frag}(hq:importsNone q=true)(hn:l.most=some 63)(hdf:d.params.defaults=[])(hY:∀ (w:World) (h:Heap),YP w h->(K w.params).In h)(F:∀ (w:World) (mg:Str->Option Value) (fa:Addr) (h:Heap),(K w.params).In h->h.Ns mainGlobals mg->mg d.name=some (.ref fa)->
   ∃ fd:FuncData,(∀ (s:Shared) (u:Value),BindsTo s fd ⟨[u],[]⟩ [("_law_script",u)])/\∀ base:Heap,(K w.params).In base->base.Ns mainGlobals mg->FnOk l.prog w (K w.params) mg base CX0 16 fa fd ["_law_script"] (Zs4 (K w.params))):
  PySem.W.WalkO q loose XP YP l.row.toRowW d [] (λf vs=>PySem.call f vs):=
 L2.walk_of (n:=63) (k:=16) (x:="_law_script") (CX:=λ_=>CX0) (sp:=λw=>Zs4 (K w.params)) hq hn ⇑0 hdf ⟨rfl,⇑0,⇑0⟩ hY F (λ_ _ a ns hl _ hS=>⟨a,ns,rfl,hS,hl,λ_=>rfl⟩) (λ_ _ _ _ _ h=>h)
end Pf
namespace PySem.W.Fast
def tw15752113344536329379:=0
def tw13786471873236537832:=0
def tw13778021672410465610:=0
def tw10716923770685016623:=0
def tw7130141768543069363:=0
def tw16309056325832895019:=0
def tw8167460189662100077:=0
def tw709668819214076308:=0
def tw11141133534839410152:=0
def tw7232996159486684668:=0
def tw2241470624747408497:=0
def tw2868856971188551559:=0
def tw17958073978447042198:=0
def tw7299149542726181415:=0
def tw13721311930698191970:=0
def tw900611733284459689:=0
def tw11295848470674949510:=0
def tw11458139829292812995:=0
def tw10646416034598569414:=0
def tw2401606362395712406:=0
def tw4699910985262092349:=0
def tw2504006006847553662:=0
def tw2151358172260300587:=0
def tw16339195426749830928:=0
def tw411575400214632090:=0
def tw14529799558245914944:=0
def tw3155547333350250480:=0
def tw3803977390464320931:=0
def tw7645871940972077700:=0
def tw3823677186128149679:=0
def tw14243026645750390630:=0
def tw1277105265209271544:=0
def tw4712459727787767352:=0
def tw14468772721601908093:=0
def tw1587586968584651316:=0
def tw6281888206825215913:=0
def tw14236726988534681017:=0
def tw4286329416443235109:=0
def tw3603342622904275815:=0
def tw12364248439416712991:=0
def tw2272843479643244834:=0
def tw16696439684202972605:=0
def tw4105308923447309799:=0
def tw2542757004366593118:=0
def tw15904546079198757770:=0
def tw17151074093651029027:=0
def tw9897644347391454581:=0
def tw9502684954883991208:=0
def tw10949783170604699041:=0
def tw8842790295945930159:=0
def tw9668447095740938018:=0
def tw7099895798006245043:=0
def tw16684842200331630541:=0
def tw2732725590217746429:=0
def tw13009628459043496844:=0
def tw7152114535685632963:=0
def tw6274631676858663290:=0
def tw16208621831986699464:=0
def tw10160369841413781599:=0
def tw2812501395058809376:=0
def tw4231654379774890920:=0
def tw330350528094381745:=0
def tw18098890519070193304:=0
def tw12386405526610397017:=0
def tw12072147351110477166:=0
def tw8439958196156393086:=0
def tw9128394721700029535:=0
def tw1164202428623103258:=0
def tw12812509391057100949:=0
def tw6532566374480476624:=0
def tw6149970465721828558:=0
def tw2227879012787773297:=0
def tw11829466999960634109:=0
def tw9320092706862742022:=0
def tw14840076232558888636:=0
def tw17687171145853590390:=0
def tw14933586626419881059:=0
def tw12233665784611024134:=0
def tw4075819034352157317:=0
def tw14991742560010071420:=0
def tw8512932015710344658:=0
def tw7103575903369662947:=0
def tw18143988380829779543:=0
def tw4239754348084159881:=0
def tw362457201046325445:=0
def tw14368744078198909839:=0
def tw8537600984205421036:=0
def tw12363159581717364555:=0
def tw2752183233053602281:=0
def tw18446173893418935903:=0
def tw13413451632822941726:=0
def tw4456964124057372561:=0
def tw7011699302217221649:=0
def tw1078345203541920818:=0
def tw1570704499394934882:=0
def tw17561342449769752487:=0
def tw10284761737475585826:=0
def tw4545481902892226832:=0
def tw9560492031193763366:=0
def tw9909514078216442889:=0
def tw1365744932004556910:=0
def tw4805805787185823139:=0
def tw10611175389383195515:=0
def tw9377436031807224223:=0
def tw13040584848521669512:=0
def tw7859635450762499755:=0
def tw6382992989286966950:=0
def tw930592326109291292:=0
def tw2059064575595158588:=0
def tw12428807636929684282:=0
def tw2469290062657752030:=0
def tw13105611063969030033:=0
def tw1493391091756568657:=0
def tw12169482967523434890:=0
def tw17685947645247331833:=0
def tw2739456246616304056:=0
def tw17839330817136623514:=0
def tw16484412571315592742:=0
def tw8230382388323426541:=0
def tw8668903979728727456:=0
def tw7236589505583827468:=0
def tw12789875747061907116:=0
def tw8599337727363677731:=0
def tw3686583241333003642:=0
def tw1384632630533299345:=0
def tw7524192192521227228:=0
def tw3447745256610065936:=0
def tw10189328810997304879:=0
def tw9857292666677967548:=0
def tw13619702835363548599:=0
def tw549327429870750995:=0
def tw11545151793205409516:=0
def tw11135227408222048599:=0
def tw16902410598710461183:=0
def tw2166594078044516756:=0
def tw1395615766258324350:=0
def tw9626142956626510824:=0
def tw18161976778663449877:=0
def tw1501733808860379581:=0
def tw9698362553939379016:=0
def tw3997095292180055643:=0
def tw16079765489181625336:=0
def tw12742075039615351758:=0
def tw6233656087848515513:=0
def tw1356777718844097731:=0
def tw2789264873872360316:=0
def tw11558515276357711223:=0
def tw982549276420197337:=0
def tw15578299223994463479:=0
def tw17733390115776515309:=0
def tw11676818799669993733:=0
def tw14288706394325637653:=0
def tw11973473796487455869:=0
def tw7462849306306097166:=0
def tw14291407966855732938:=0
def tw7293593455016081558:=0
def tw108476276678410143:=0
def tw16557782082494695279:=0
def tw4388202617589793965:=0
def tw1186807642565073598:=0
def tw14718930627343407177:=0
def tw1083046841639504673:=0
def tw1284414549698063150:=0
def tw9137353223093068329:=0
def tw11706115510394801036:=0
def tw15305447172437695971:=0
def tw6513096332543506482:=0
def tw520000436492489832:=0
def tw4057927800524217495:=0
def tw2907879215775683852:=0
def tw11409563785076485448:=0
def tw13934735090015425156:=0
def tw6036612567612974987:=0
def tw13677324465901978187:=0
def tw5079503165951230057:=0
def tw16483060248996918646:=0
def tw9750514397967920199:=0
def tw8761605109502409012:=0
def tw9733365670176903684:=0
def tw9791826549082236920:=0
def tw1180421164957150448:=0
def tw13531503714326039400:=0
def tw1158883407089284196:=0
def tw11786843229792984349:=0
def tw400518886587187662:=0
def tw8701312831643760559:=0
def tw3070107265245643224:=0
def tw13995140727388531644:=0
def tw14159174231754684230:=0
def tw8826309707513240928:=0
def tw13541840770713262591:=0
def tw8920534401858684756:=0
def tw3620764502084419202:=0
def tw17297841114021839797:=0
def tw16356968669396431892:=0
def tw11545593835958357322:=0
def tw13244187013483544683:=0
def tw849677007989405957:=0
def tw16339058322172068482:=0
def tw18061316334316976022:=0
def tw11274130474589882670:=0
def tw754146924395173584:=0
def tw1637104527375872142:=0
def tw12529513920498028650:=0
def tw14409228250841380635:=0
def tw10118809431123539473:=0
def tw2693327749501783736:=0
def tw9389389077774575058:=0
def tw1187628283635018002:=0
def tw1379901626046852110:=0
def tw15033550901962247062:=0
def tw2892962910890695295:=0
def tw15704920465004548434:=0
def tw1478042590156835476:=0
def tw14237322385900861149:=0
def tw5600613959774781804:=0
def tw4203845562249365337:=0
def tw17107555372115333730:=0
def tw16744238625862650125:=0
def tw9074754475466996684:=0
def tw6297125885182434742:=0
def tw10876704401752438599:=0
def tw2345854110604844571:=0
def tw5746591638746460508:=0
def tw6881352134782958715:=0
def tw6986958270690203400:=0
def tw17281345414077903355:=0
def tw17308744715978940340:=0
def tw6298918992858348902:=0
def tw12850155417044304255:=0
def tw4567121757023932658:=0
def tw17513999890102379409:=0
def tw16326545737366034217:=0
def tw11061242544308772412:=0
def tw10105690094410196285:=0
def tw7605855912480637903:=0
def tw9746011443739098916:=0
def tw7808027002416725790:=0
def tw1656795625047061858:=0
def tw8386497163799426061:=0
def tw13253218500160609505:=0
def tw13908150357356903638:=0
def tw15713969322765320157:=0
def tw11612085294861100087:=0
def tw1270748639051188183:=0
def tw17223461729759817418:=0
def tw16496381938350688772:=0
def tw16912549162647857308:=0
def tw13337842568853727150:=0
def tw14717925843845667970:=0
def tw13879904539270645173:=0
def tw8917948118306045053:=0
def tw3152677693378732731:=0
def tw1590366424844968660:=0
def tw1402774459506032879:=0
def tw17920302910098053149:=0
def tw9096771482410532536:=0
def tw12831026073251448698:=0
def tw5123390267954564428:=0
def tw5855516694430023201:=0
def tw16029270478870836653:=0
def tw10414939434684441805:=0
def tw13630176721397873893:=0
end PySem.W.Fast
open PySem PySem.W PyProof.Rows
local macro_rules | `(tactic| walk_at "v")=>`(tactic| exact⟨_,⟨⟨_,_,_,_,_,_,_,_,_,rfl,by k_is,by k_is⟩,by k_is⟩⟩)
local macro_rules | `(tactic| walk_at "u")=>`(tactic| exact⟨by k_is,_,⟨⟨_,_,_,_,_,_,_,_,_,rfl,by k_is,by k_is⟩,by k_is⟩⟩)
set_option maxRecDepth 100000 in
set_option maxHeartbeats 0 in
theorem PySem.Challenge.cw_limbtables_k63_papers_of_changes_holds : PySem.Challenge.rw_limbtables_k63_papers_of_changes.Holds := by
 w_on;o_law;k_head;(case hw=>w_witness2)
 k_fill
 refine Pf.walk (l:=PySem.Challenge.rw_limbtables_k63_papers_of_changes) ⋯ rfl rfl (λw h Y=>by first|exact PySem.W.kIn_of Y|exact PySem.W.km_in_of Y) ?F
 case F=>
  intro w mg fa h KX G hmg;refine' Pf.all_mk rfl KX G hmg ?u1 ?u2 ?u3 ?u4 ?u5 ?u6 ?u7 ?u8 ?u9 ?u10 ?u11 ?u12 ?u13 ?u14 ?u15 ?u16 ?u17 ?u18 ?u19 ?u20 ?u21 ?u22 ?u23 ?u24 ?u25 ?u26 ?u27 ?u28 ?u29 ?u30 ?u31 ?u32 ?u33 ?u34 ?u35 ?u36 ?u37 ?u38 ?u39 ?u40 ?u41 ?u42 ?u43 ?u44 ?u45 ?u46 ?u47 ?u48 ?u49 ?u50 ?u51 ?u52 ?u53 ?u54 ?u55 ?u56 ?u57 ?u58 ?u59 ?u60 ?u61 ?u62 ?a63 ?l63 ?c63 ?k63 ?aC ?a64 ?i64 ?u64 ?pg ?hd ?po ?sa ?mk ?kc ?nM ?nA ?aCg ?a65 ?i65 ?u65 ?a66 ?i66 ?l66 ?dl66 ?c66 ?k66 ?a67 ?i67 ?u67 ?pg_Cg ?hd_Cg ?po_Cg ?sa_Cg ?mk_Cg ?kc_Cg ?nP ?aCs ?a68 ?i68 ?u68 ?pg_Cs ?hd_Cs ?po_Cs ?sa_Cs ?mk_Cs ?kc_Cs ?nSg ?nSd ?nSs ?nSt ?g1 ?g2 ?g3 ?g4 ?g5 ?z0 ?z1 ?z2 ?z3 ?z4 ?z5 ?z6 ?z7 ?z8 ?z9 ?z10 ?z11 ?z12 ?z13 ?z14 ?x_ic1 ?x_ic2 ?x_ic3 ?x_ic4
  (case u1|u2|u3|u4|u5|u6|u7|u8|u9|u10|u11|u12|u13|u14|u15|u16|u17|u18|u19|u20|u21|u22|u23|u24|u25|u26|u27|u28|u29|u30|u31|u32|u33|u34|u35|u36|u37|u38|u39|u40|u41|u42|u43|u44|u45|u46|u47|u48|u49|u50|u51|u52|u53|u54|u55|u56|u57|u58|u59|u60|u61|u62=>walk_at "u")
  (case a63|l63|c63|k63|aC|a64|i64=>k_is)
  (case u64=>walk_at "v")
  (case pg|hd|po|sa|mk|kc|nM|nA|aCg|a65|i65=>k_is)
  (case u65=>walk_at "v")
  (case a66|i66|l66|dl66|c66|k66|a67|i67=>k_is)
  (case u67=>walk_at "v")
  (case pg_Cg|hd_Cg|po_Cg|sa_Cg|mk_Cg|kc_Cg|nP|aCs|a68|i68=>k_is)
  (case u68=>walk_at "v")
  (case pg_Cs|hd_Cs|po_Cs|sa_Cs|mk_Cs|kc_Cs|nSg|nSd|nSs|nSt|g1|g2|g3|g4|g5|z0|z1|z2|z3|z4|z5|z6|z7|z8|z9|z10|z11|z12|z13|z14|x_ic1|x_ic2|x_ic3|x_ic4=>k_is)
#print axioms PySem.Challenge.cw_limbtables_k63_papers_of_changes_holds