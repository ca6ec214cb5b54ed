import PyProof.Rows.All
import Wide.All
import OpenK.AllK
import Wide.FinOn
import Lean
import PyProof.EqAt
import PyProof.EqKinds
import PyProof.TupleCall
import PyProof.ZipIter
import PyProof.Rows.ZipGen
import PyProof.SumWalkG
import PyProof.EnumMake
import PyProof.EnumFor
import PyProof.FactsAll.int_6
import PyProof.AutoIntG2
import PyProof.RulesAs
import PyProof.Rows.TopTwo
import PyProof.ExcArgsOwn
import PyProof.ExcBaseAll.ValueError
import OpenK.KDescr
import KE.RegKIsAll
import PyProof.EqKinds
import KE.KRevIter
import PyProof.ListNew
import KE.KItemsList
import KE.KLam
import KE.KMinKey
import PyProof.MinMaxWalk
import PyProof.NeKinds
import PySem.Challenge.RW_limbtables_k67_papers_of_no_form
open PySem.W (Frag)
variable{P:PySem.Program}{w:PySem.World}{K:PySem.W.Frag}{mg:PySem.Str->Option PySem.Value}{base:PySem.Heap}{f:PySem.Addr}{fd:PySem.FuncData}
local macro_rules|`(∅)=>`(by omega)
local macro_rules|`(⋯)=>`(by decide +kernel)
local macro_rules|`(⇑0)=>`(by decide)
local macro_rules|`(⇑1)=>`(by rfl)
noncomputable section
abbrev Jaa:=@List.getElem?_eq_getElem
abbrev Jab:=@List.length_map
abbrev Jac:=@List.mem_of_getElem?
abbrev Jad:=@List.getElem?_map
abbrev Jae:=@List.getD_eq_getElem?_getD
abbrev Jaf:=@List.getElem?_eq_some_iff
abbrev Jag:=@PySem.wpAny_bind
abbrev Jah:=@decide_eq_true
abbrev Jai:=@List.length_append
abbrev Jaj:=@Nat.le_refl
abbrev Jak:=@PySem.Heap.get?_push_of_some
abbrev Jal:=@List.size_toArray
abbrev Jam:=@decide_eq_false
abbrev Jan:=@PySem.Heap.lt_size
abbrev Jao:=@List.mem_singleton
abbrev Jap:=@List.getElem?_eq_none
abbrev Jaq:=@Nat.lt_of_lt_of_le
abbrev Jar:=@List.getElem?_append_left
abbrev Jas:=@List.getElem?_append_right
abbrev Jat:=@List.getElem_mem
abbrev Jau:=@Bool.false_ne_true
abbrev Jav:=@List.length_replicate
abbrev Jaw:=@PySem.wpAny_pure
abbrev Jax:=@List.length_range
abbrev Jay:=@PySem.Heap.get?_push_size
abbrev Jaz:=@of_decide_eq_true
abbrev Ja0:=@List.cons_ne_nil
abbrev Ja1:=@List.mem_append
abbrev Ja2:=@List.mem_map
abbrev Ja3:=@List.lookup_cons
abbrev Ja4:=@List.mem_iff_getElem
abbrev Ja5:=@List.mem_cons
abbrev Ja6:=@List.mem_range
abbrev Ja7:=@List.map_append
abbrev Ja8:=@Int.emod_lt_of_pos
abbrev Ja9:=@Int.eq_ofNat_of_zero_le
abbrev Jba:=@PySem.boot_len
abbrev Jbb:=@PyProof.Rows.boot_isinstance
abbrev Jbc:=@List.getElem?_range
abbrev Jbd:=@Nat.le_of_lt
abbrev Jbe:=@Bool.false_and
abbrev Jbf:=@Nat.lt_of_le_of_lt
abbrev Jbg:=@List.all_eq_true
abbrev Jbh:=@Nat.le_trans
abbrev Jbi:=@List.mem_append_right
abbrev Jbj:=@Int.toNat_of_nonneg
abbrev Jbk:=@List.mem_or_eq_of_mem_set
abbrev Jbl:=@List.mem_cons_of_mem
abbrev Jbm:=@Bool.and_eq_true
abbrev Jbn:=@Option.some.inj
abbrev Jbo:=@PySem.wpAny_truthy_bool
abbrev Jbp:=@Int.toNat_natCast
abbrev Jbq:=@Int.emod_nonneg
abbrev Jbr:=@PySem.PassesOwn.never
abbrev Jbs:=@Nat.ne_of_lt
abbrev Jbt:=@Int.fdiv_eq_ediv_of_nonneg
abbrev Jbu:=@beq_iff_eq
abbrev Jbv:=@PySem.Heap.size_push
abbrev Jbw:=@PySem.F.slot_list_append
abbrev Jbx:=@PySem.F.type_list_append
abbrev Jby:=@PySem.mem_of_lookup
abbrev Jbz:=@List.length_drop
abbrev Jb0:=@PySem.F.plainAttrs_list
abbrev Jb1:=@List.mem_replicate
abbrev Jb2:=@PySem.W.kia_one
abbrev Jb3:=@List.replicate_succ
abbrev Jb4:=@Nat.lt_irrefl
abbrev Jb5:=@PyProof.Rows.callWith_type1
abbrev Jb6:=@List.getElem?_replicate
abbrev Jb7:=@List.length_take
abbrev Jb8:=@Int.gcd_dvd_left
abbrev Jb9:=@if_true
abbrev Jca:=@Bool.true_and
abbrev Jcb:=@Bool.eq_iff_iff
abbrev Jcc:=@List.length_set
abbrev Jcd:=@List.mem_cons_self
abbrev Jce:=@List.not_mem_nil
abbrev Jcf:=@Nat.pow_le_pow_right
abbrev Jcg:=@PyProof.Rows.boot_list
abbrev Jch:=@Nat.le_of_succ_le
abbrev Jci:=@Int.gcd_dvd_right
abbrev Jcj:=@Int.emod_eq_of_lt
abbrev Jck:=@Nat.zero_le
abbrev Jcl:=@List.length_cons
abbrev Jcm:=@PySem.wpAny_field
abbrev Jcn:=@Int.natAbs_mul
abbrev Jco:=@Classical.byContradiction
abbrev Jcp:=@PySem.wpAny_mono
abbrev Jcq:=@PySem.wpAny_newObj_type
abbrev Jcr:=@PySem.wpAny_passesOwn
abbrev Jcs:=@PySem.wpAny_pyIter_list
abbrev Jct:=@PyProof.Rows.slot_tuple_getitem
abbrev Jcu:=@List.flatten_cons
abbrev Jcv:=@List.range_succ
abbrev Jcw:=@List.ext_getElem?
abbrev Jcx:=@Int.mul_le_mul_of_nonneg_right
abbrev Jcy:=@Nat.add_mul
abbrev Jcz:=@Int.mul_nonneg
abbrev Jc0:=@PySem.W.cellsFrom_some
abbrev Jc1:=@PySem.wpAny_setField_rec
abbrev Jc2:=@decide_eq_true_iff
abbrev Jc3:=@Classical.choose_spec
abbrev Jc4:=@PySem.F.slot_int_bit_length
abbrev Jc5:=@PySem.F.type_int_bit_length
abbrev Jc6:=@PyProof.Rows.boot_all
abbrev Jc7:=@List.getElem?_set
abbrev Jc8:=@Int.natAbs_of_nonneg
abbrev Jc9:=@PySem.intBits_le_iff
abbrev Jda:=@Nat.pow_lt_pow_right
abbrev Jdb:=@PySem.wpAny_seqItems
abbrev Jdc:=@beq_eq_false_iff_ne
abbrev Jdd:=@Int.ediv_mul_cancel
abbrev Jde:=@Int.mul_pos
abbrev Jdf:=@Option.isSome_iff_exists
abbrev Jdg:=@PySem.wpAny_Call_Name_kw
abbrev Jdh:=@PySem.wpAny_callSpecial?_slot
abbrev Jdi:=@Bool.or_eq_true
abbrev Jdj:=@List.all_cons
abbrev Jdk:=@List.getElem?_set_self
abbrev Jdl:=@PySem.wpAny_nextOf_list_item
abbrev Jdm:=@Int.fmod_nonneg_of_pos
abbrev Jdn:=@PySem.F.plainAttrs_int
abbrev Jdo:=@Bool.not_eq_true'
abbrev Jdp:=@congrArg
abbrev Jdq:=@Bool.and_false
abbrev Jdr:=@Nat.mul_le_mul
abbrev Jds:=@PySem.wpAny_isTrue_Compare1
abbrev Jdt:=@Int.emod_add_mul_ediv
abbrev Jdu:=@Bool.and_eq_false_iff
abbrev Jdv:=@Nat.lt_succ_self
abbrev Jdw:=@PySem.wpAny_pyIter_zip
abbrev Jdx:=@Nat.le_add_right
abbrev Jdy:=@decide_eq_decide
abbrev Jdz:=@List.filterMap_cons
abbrev Jd0:=@Array.length_toList
abbrev Jd1:=@PySem.wpAny_execs_nil
abbrev Jd2:=@PySem.W.plainGet_of
abbrev Jd3:=@List.nodup_cons
abbrev Jd4:=@Int.ediv_nonneg
abbrev Jd5:=@Nat.not_lt_zero
abbrev Jd6:=@PySem.F.slot_zip_next
abbrev Jd7:=@List.length_nil
abbrev Jd8:=@List.map_congr_left
abbrev Jd9:=@Nat.one_ne_zero
abbrev Jea:=@PySem.SeqAt.EqAt.int_str
abbrev Jeb:=@Int.natCast_nonneg
abbrev Jec:=@PySem.W.callWith_K
abbrev Jed:=@Prod.ext
abbrev Jee:=@PySem.SeqAt.EqAt.of_refs
abbrev Jef:=@Int.gcd_comm
abbrev Jeg:=@or_false
abbrev Jeh:=@Int.fmod_lt_of_pos
abbrev Jei:=@List.map_replicate
abbrev Jej:=@Int.le_trans
abbrev Jek:=@Nat.lt_succ_of_lt
abbrev Jel:=@List.nodup_append
abbrev Jem:=@List.all_eq_false
abbrev Jen:=@Ne.symm
abbrev Jeo:=@PySem.wpAny_holding
abbrev Jep:=@PySem.wpAny_standAt
abbrev Jeq:=@Bool.and_true
abbrev Jer:=@PySem.wpAny_onRaise
abbrev Jes:=@Int.le_refl
abbrev Jet:=@Nat.one_mul
set_option compiler.postponeCompile true
set_option bootstrap.genMatcherCode false
set_option genSizeOf false
set_option Elab.async false
set_option linter.all false
namespace L2
theorem Zvl {p f1 f2 f3 f4 f5 f6 f7 f8 f9:Prop}{G:Prop}(h:p/\f1/\f2/\f3/\f4/\f5/\f6/\f7/\f8/\f9)(f:p->f1->f2->f3->f4->f5->f6->f7->f8->f9->G):G:= f h.1 h.2.1 h.2.2.1 h.2.2.2.1 h.2.2.2.2.1 h.2.2.2.2.2.1 h.2.2.2.2.2.2.1 h.2.2.2.2.2.2.2.1 h.2.2.2.2.2.2.2.2.1 h.2.2.2.2.2.2.2.2.2
theorem Zba {p f1 f2:Prop}{G:Prop}(h:p/\f1/\f2)(f:p->f1->f2->G):G:= f h.1 h.2.1 h.2.2
theorem Zck {p f1 f2 f3:Prop}{G:Prop}(h:p/\f1/\f2/\f3)(f:p->f1->f2->f3->G):G:= f h.1 h.2.1 h.2.2.1 h.2.2.2
theorem Zcy {p f1 f2 f3 f4:Prop}{G:Prop}(h:p/\f1/\f2/\f3/\f4)(f:p->f1->f2->f3->f4->G):G:= f h.1 h.2.1 h.2.2.1 h.2.2.2.1 h.2.2.2.2
theorem Zih {p f1 f2 f3 f4 f5:Prop}{G:Prop}(h:p/\f1/\f2/\f3/\f4/\f5)(f:p->f1->f2->f3->f4->f5->G):G:= f h.1 h.2.1 h.2.2.1 h.2.2.2.1 h.2.2.2.2.1 h.2.2.2.2.2
theorem xE0_7 {p f1 f2 f3 f4 f5 f6:Prop}{G:Prop}(h:p/\f1/\f2/\f3/\f4/\f5/\f6)(f:p->f1->f2->f3->f4->f5->f6->G):G:= f h.1 h.2.1 h.2.2.1 h.2.2.2.1 h.2.2.2.2.1 h.2.2.2.2.2.1 h.2.2.2.2.2.2
theorem xE0_8 {p f1 f2 f3 f4 f5 f6 f7:Prop}{G:Prop}(h:p/\f1/\f2/\f3/\f4/\f5/\f6/\f7)(f:p->f1->f2->f3->f4->f5->f6->f7->G):G:= f h.1 h.2.1 h.2.2.1 h.2.2.2.1 h.2.2.2.2.1 h.2.2.2.2.2.1 h.2.2.2.2.2.2.1 h.2.2.2.2.2.2.2
theorem xE0_9 {p f1 f2 f3 f4 f5 f6 f7 f8:Prop}{G:Prop}(h:p/\f1/\f2/\f3/\f4/\f5/\f6/\f7/\f8)(f:p->f1->f2->f3->f4->f5->f6->f7->f8->G):G:= f h.1 h.2.1 h.2.2.1 h.2.2.2.1 h.2.2.2.2.1 h.2.2.2.2.2.1 h.2.2.2.2.2.2.1 h.2.2.2.2.2.2.2.1 h.2.2.2.2.2.2.2.2
theorem xE10_2 {A B C D E F I J K L:Type}{p f1:A->B->C->D->E->F->I->J->K->L->Prop}{G:Prop}(h:∃ a b c d e i j k l m,p a b c d e i j k l m/\f1 a b c d e i j k l m)(f:∀ a b c d e i j k l m,p a b c d e i j k l m->f1 a b c d e i j k l m->G):G:=h.elim λa h=>h.elim λb h=>h.elim λc h=>h.elim λd h=>h.elim λe h=>h.elim λi h=>h.elim λj h=>h.elim λk h=>h.elim λl h=>h.elim λm h=>f a b c d e i j k l m h.1 h.2
theorem xE10_4 {A B C D E F I J K L:Type}{p f1 f2 f3:A->B->C->D->E->F->I->J->K->L->Prop}{G:Prop}(h:∃ a b c d e i j k l m,p a b c d e i j k l m/\f1 a b c d e i j k l m/\f2 a b c d e i j k l m/\f3 a b c d e i j k l m)(f:∀ a b c d e i j k l m,p a b c d e i j k l m->f1 a b c d e i j k l m->f2 a b c d e i j k l m->f3 a b c d e i j k l m->G):G:=h.elim λa h=>h.elim λb h=>h.elim λc h=>h.elim λd h=>h.elim λe h=>h.elim λi h=>h.elim λj h=>h.elim λk h=>h.elim λl h=>h.elim λm h=>f a b c d e i j k l m h.1 h.2.1 h.2.2.1 h.2.2.2
theorem xE11_2 {A B C D E F I J K L M:Type}{p f1:A->B->C->D->E->F->I->J->K->L->M->Prop}{G:Prop}(h:∃ a b c d e i j k l m n,p a b c d e i j k l m n/\f1 a b c d e i j k l m n)(f:∀ a b c d e i j k l m n,p a b c d e i j k l m n->f1 a b c d e i j k l m n->G):G:=h.elim λa h=>h.elim λb h=>h.elim λc h=>h.elim λd h=>h.elim λe h=>h.elim λi h=>h.elim λj h=>h.elim λk h=>h.elim λl h=>h.elim λm h=>h.elim λn h=>f a b c d e i j k l m n h.1 h.2
theorem xE11_4 {A B C D E F I J K L M:Type}{p f1 f2 f3:A->B->C->D->E->F->I->J->K->L->M->Prop}{G:Prop}(h:∃ a b c d e i j k l m n,p a b c d e i j k l m n/\f1 a b c d e i j k l m n/\f2 a b c d e i j k l m n/\f3 a b c d e i j k l m n)(f:∀ a b c d e i j k l m n,p a b c d e i j k l m n->f1 a b c d e i j k l m n->f2 a b c d e i j k l m n->f3 a b c d e i j k l m n->G):G:=h.elim λa h=>h.elim λb h=>h.elim λc h=>h.elim λd h=>h.elim λe h=>h.elim λi h=>h.elim λj h=>h.elim λk h=>h.elim λl h=>h.elim λm h=>h.elim λn h=>f a b c d e i j k l m n h.1 h.2.1 h.2.2.1 h.2.2.2
theorem xE12_2 {A B C D E F I J K L M N:Type}{p f1:A->B->C->D->E->F->I->J->K->L->M->N->Prop}{G:Prop}(h:∃ a b c d e i j k l m n o,p a b c d e i j k l m n o/\f1 a b c d e i j k l m n o)(f:∀ a b c d e i j k l m n o,p a b c d e i j k l m n o->f1 a b c d e i j k l m n o->G):G:=h.elim λa h=>h.elim λb h=>h.elim λc h=>h.elim λd h=>h.elim λe h=>h.elim λi h=>h.elim λj h=>h.elim λk h=>h.elim λl h=>h.elim λm h=>h.elim λn h=>h.elim λo h=>f a b c d e i j k l m n o h.1 h.2
theorem xE12_4 {A B C D E F I J K L M N:Type}{p f1 f2 f3:A->B->C->D->E->F->I->J->K->L->M->N->Prop}{G:Prop}(h:∃ a b c d e i j k l m n o,p a b c d e i j k l m n o/\f1 a b c d e i j k l m n o/\f2 a b c d e i j k l m n o/\f3 a b c d e i j k l m n o)(f:∀ a b c d e i j k l m n o,p a b c d e i j k l m n o->f1 a b c d e i j k l m n o->f2 a b c d e i j k l m n o->f3 a b c d e i j k l m n o->G):G:=h.elim λa h=>h.elim λb h=>h.elim λc h=>h.elim λd h=>h.elim λe h=>h.elim λi h=>h.elim λj h=>h.elim λk h=>h.elim λl h=>h.elim λm h=>h.elim λn h=>h.elim λo h=>f a b c d e i j k l m n o h.1 h.2.1 h.2.2.1 h.2.2.2
theorem Zpy {A B C D E F I J K L M N O:Type}{p f1:A->B->C->D->E->F->I->J->K->L->M->N->O->Prop}{G:Prop}(h:∃ a b c d e i j k l m n o q,p a b c d e i j k l m n o q/\f1 a b c d e i j k l m n o q)(f:∀ a b c d e i j k l m n o q,p a b c d e i j k l m n o q->f1 a b c d e i j k l m n o q->G):G:=h.elim λa h=>h.elim λb h=>h.elim λc h=>h.elim λd h=>h.elim λe h=>h.elim λi h=>h.elim λj h=>h.elim λk h=>h.elim λl h=>h.elim λm h=>h.elim λn h=>h.elim λo h=>h.elim λq h=>f a b c d e i j k l m n o q h.1 h.2
theorem Zvk {A B C D E F I J K L M N O:Type}{p f1 f2 f3:A->B->C->D->E->F->I->J->K->L->M->N->O->Prop}{G:Prop}(h:∃ a b c d e i j k l m n o q,p a b c d e i j k l m n o q/\f1 a b c d e i j k l m n o q/\f2 a b c d e i j k l m n o q/\f3 a b c d e i j k l m n o q)(f:∀ a b c d e i j k l m n o q,p a b c d e i j k l m n o q->f1 a b c d e i j k l m n o q->f2 a b c d e i j k l m n o q->f3 a b c d e i j k l m n o q->G):G:=h.elim λa h=>h.elim λb h=>h.elim λc h=>h.elim λd h=>h.elim λe h=>h.elim λi h=>h.elim λj h=>h.elim λk h=>h.elim λl h=>h.elim λm h=>h.elim λn h=>h.elim λo h=>h.elim λq h=>f a b c d e i j k l m n o q h.1 h.2.1 h.2.2.1 h.2.2.2
theorem Znr {A B C D E F I J K L M N O P:Type}{p f1:A->B->C->D->E->F->I->J->K->L->M->N->O->P->Prop}{G:Prop}(h:∃ a b c d e i j k l m n o q r,p a b c d e i j k l m n o q r/\f1 a b c d e i j k l m n o q r)(f:∀ a b c d e i j k l m n o q r,p a b c d e i j k l m n o q r->f1 a b c d e i j k l m n o q r->G):G:=h.elim λa h=>h.elim λb h=>h.elim λc h=>h.elim λd h=>h.elim λe h=>h.elim λi h=>h.elim λj h=>h.elim λk h=>h.elim λl h=>h.elim λm h=>h.elim λn h=>h.elim λo h=>h.elim λq h=>h.elim λr h=>f a b c d e i j k l m n o q r h.1 h.2
theorem Zvj {A B C D E F I J K L M N O P:Type}{p f1 f2 f3:A->B->C->D->E->F->I->J->K->L->M->N->O->P->Prop}{G:Prop}(h:∃ a b c d e i j k l m n o q r,p a b c d e i j k l m n o q r/\f1 a b c d e i j k l m n o q r/\f2 a b c d e i j k l m n o q r/\f3 a b c d e i j k l m n o q r)(f:∀ a b c d e i j k l m n o q r,p a b c d e i j k l m n o q r->f1 a b c d e i j k l m n o q r->f2 a b c d e i j k l m n o q r->f3 a b c d e i j k l m n o q r->G):G:=h.elim λa h=>h.elim λb h=>h.elim λc h=>h.elim λd h=>h.elim λe h=>h.elim λi h=>h.elim λj h=>h.elim λk h=>h.elim λl h=>h.elim λm h=>h.elim λn h=>h.elim λo h=>h.elim λq h=>h.elim λr h=>f a b c d e i j k l m n o q r h.1 h.2.1 h.2.2.1 h.2.2.2
theorem Znq {A B C D E F I J K L M N O P Q:Type}{p f1:A->B->C->D->E->F->I->J->K->L->M->N->O->P->Q->Prop}{G:Prop}(h:∃ a b c d e i j k l m n o q r s,p a b c d e i j k l m n o q r s/\f1 a b c d e i j k l m n o q r s)(f:∀ a b c d e i j k l m n o q r s,p a b c d e i j k l m n o q r s->f1 a b c d e i j k l m n o q r s->G):G:=h.elim λa h=>h.elim λb h=>h.elim λc h=>h.elim λd h=>h.elim λe h=>h.elim λi h=>h.elim λj h=>h.elim λk h=>h.elim λl h=>h.elim λm h=>h.elim λn h=>h.elim λo h=>h.elim λq h=>h.elim λr h=>h.elim λs h=>f a b c d e i j k l m n o q r s h.1 h.2
theorem Znp {A B C D E F I J K L M N O P Q:Type}{p f1 f2 f3:A->B->C->D->E->F->I->J->K->L->M->N->O->P->Q->Prop}{G:Prop}(h:∃ a b c d e i j k l m n o q r s,p a b c d e i j k l m n o q r s/\f1 a b c d e i j k l m n o q r s/\f2 a b c d e i j k l m n o q r s/\f3 a b c d e i j k l m n o q r s)(f:∀ a b c d e i j k l m n o q r s,p a b c d e i j k l m n o q r s->f1 a b c d e i j k l m n o q r s->f2 a b c d e i j k l m n o q r s->f3 a b c d e i j k l m n o q r s->G):G:=h.elim λa h=>h.elim λb h=>h.elim λc h=>h.elim λd h=>h.elim λe h=>h.elim λi h=>h.elim λj h=>h.elim λk h=>h.elim λl h=>h.elim λm h=>h.elim λn h=>h.elim λo h=>h.elim λq h=>h.elim λr h=>h.elim λs h=>f a b c d e i j k l m n o q r s h.1 h.2.1 h.2.2.1 h.2.2.2
theorem Zpx {A B C D E F I J K L M N O P Q R S:Type}{p f1:A->B->C->D->E->F->I->J->K->L->M->N->O->P->Q->R->S->Prop}{G:Prop}(h:∃ a b c d e i j k l m n o q r s t u,p a b c d e i j k l m n o q r s t u/\f1 a b c d e i j k l m n o q r s t u)(f:∀ a b c d e i j k l m n o q r s t u,p a b c d e i j k l m n o q r s t u->f1 a b c d e i j k l m n o q r s t u->G):G:=h.elim λa h=>h.elim λb h=>h.elim λc h=>h.elim λd h=>h.elim λe h=>h.elim λi h=>h.elim λj h=>h.elim λk h=>h.elim λl h=>h.elim λm h=>h.elim λn h=>h.elim λo h=>h.elim λq h=>h.elim λr h=>h.elim λs h=>h.elim λt h=>h.elim λu h=>f a b c d e i j k l m n o q r s t u h.1 h.2
theorem Zpw {A B C D E F I J K L M N O P Q R S:Type}{p f1 f2 f3:A->B->C->D->E->F->I->J->K->L->M->N->O->P->Q->R->S->Prop}{G:Prop}(h:∃ a b c d e i j k l m n o q r s t u,p a b c d e i j k l m n o q r s t u/\f1 a b c d e i j k l m n o q r s t u/\f2 a b c d e i j k l m n o q r s t u/\f3 a b c d e i j k l m n o q r s t u)(f:∀ a b c d e i j k l m n o q r s t u,p a b c d e i j k l m n o q r s t u->f1 a b c d e i j k l m n o q r s t u->f2 a b c d e i j k l m n o q r s t u->f3 a b c d e i j k l m n o q r s t u->G):G:=h.elim λa h=>h.elim λb h=>h.elim λc h=>h.elim λd h=>h.elim λe h=>h.elim λi h=>h.elim λj h=>h.elim λk h=>h.elim λl h=>h.elim λm h=>h.elim λn h=>h.elim λo h=>h.elim λq h=>h.elim λr h=>h.elim λs h=>h.elim λt h=>h.elim λu h=>f a b c d e i j k l m n o q r s t u h.1 h.2.1 h.2.2.1 h.2.2.2
theorem Zvi {A B C D E F I J K L M N O P Q R S T:Type}{p f1:A->B->C->D->E->F->I->J->K->L->M->N->O->P->Q->R->S->T->Prop}{G:Prop}(h:∃ a b c d e i j k l m n o q r s t u v,p a b c d e i j k l m n o q r s t u v/\f1 a b c d e i j k l m n o q r s t u v)(f:∀ a b c d e i j k l m n o q r s t u v,p a b c d e i j k l m n o q r s t u v->f1 a b c d e i j k l m n o q r s t u v->G):G:=h.elim λa h=>h.elim λb h=>h.elim λc h=>h.elim λd h=>h.elim λe h=>h.elim λi h=>h.elim λj h=>h.elim λk h=>h.elim λl h=>h.elim λm h=>h.elim λn h=>h.elim λo h=>h.elim λq h=>h.elim λr h=>h.elim λs h=>h.elim λt h=>h.elim λu h=>h.elim λv h=>f a b c d e i j k l m n o q r s t u v h.1 h.2
theorem Zvh {A B C D E F I J K L M N O P Q R S T:Type}{p f1 f2 f3:A->B->C->D->E->F->I->J->K->L->M->N->O->P->Q->R->S->T->Prop}{G:Prop}(h:∃ a b c d e i j k l m n o q r s t u v,p a b c d e i j k l m n o q r s t u v/\f1 a b c d e i j k l m n o q r s t u v/\f2 a b c d e i j k l m n o q r s t u v/\f3 a b c d e i j k l m n o q r s t u v)(f:∀ a b c d e i j k l m n o q r s t u v,p a b c d e i j k l m n o q r s t u v->f1 a b c d e i j k l m n o q r s t u v->f2 a b c d e i j k l m n o q r s t u v->f3 a b c d e i j k l m n o q r s t u v->G):G:=h.elim λa h=>h.elim λb h=>h.elim λc h=>h.elim λd h=>h.elim λe h=>h.elim λi h=>h.elim λj h=>h.elim λk h=>h.elim λl h=>h.elim λm h=>h.elim λn h=>h.elim λo h=>h.elim λq h=>h.elim λr h=>h.elim λs h=>h.elim λt h=>h.elim λu h=>h.elim λv h=>f a b c d e i j k l m n o q r s t u v h.1 h.2.1 h.2.2.1 h.2.2.2
theorem xE19_2 {A B C D E F I J K L M N O P Q R S T U:Type}{p f1:A->B->C->D->E->F->I->J->K->L->M->N->O->P->Q->R->S->T->U->Prop}{G:Prop}(h:∃ a b c d e i j k l m n o q r s t u v w,p a b c d e i j k l m n o q r s t u v w/\f1 a b c d e i j k l m n o q r s t u v w)(f:∀ a b c d e i j k l m n o q r s t u v w,p a b c d e i j k l m n o q r s t u v w->f1 a b c d e i j k l m n o q r s t u v w->G):G:=h.elim λa h=>h.elim λb h=>h.elim λc h=>h.elim λd h=>h.elim λe h=>h.elim λi h=>h.elim λj h=>h.elim λk h=>h.elim λl h=>h.elim λm h=>h.elim λn h=>h.elim λo h=>h.elim λq h=>h.elim λr h=>h.elim λs h=>h.elim λt h=>h.elim λu h=>h.elim λv h=>h.elim λw h=>f a b c d e i j k l m n o q r s t u v w h.1 h.2
theorem xE19_4 {A B C D E F I J K L M N O P Q R S T U:Type}{p f1 f2 f3:A->B->C->D->E->F->I->J->K->L->M->N->O->P->Q->R->S->T->U->Prop}{G:Prop}(h:∃ a b c d e i j k l m n o q r s t u v w,p a b c d e i j k l m n o q r s t u v w/\f1 a b c d e i j k l m n o q r s t u v w/\f2 a b c d e i j k l m n o q r s t u v w/\f3 a b c d e i j k l m n o q r s t u v w)(f:∀ a b c d e i j k l m n o q r s t u v w,p a b c d e i j k l m n o q r s t u v w->f1 a b c d e i j k l m n o q r s t u v w->f2 a b c d e i j k l m n o q r s t u v w->f3 a b c d e i j k l m n o q r s t u v w->G):G:=h.elim λa h=>h.elim λb h=>h.elim λc h=>h.elim λd h=>h.elim λe h=>h.elim λi h=>h.elim λj h=>h.elim λk h=>h.elim λl h=>h.elim λm h=>h.elim λn h=>h.elim λo h=>h.elim λq h=>h.elim λr h=>h.elim λs h=>h.elim λt h=>h.elim λu h=>h.elim λv h=>h.elim λw h=>f a b c d e i j k l m n o q r s t u v w h.1 h.2.1 h.2.2.1 h.2.2.2
theorem Zae {A:Type}{p f1:A->Prop}{G:Prop}(h:∃ a,p a/\f1 a)(f:∀ a,p a->f1 a->G):G:=h.elim λa h=>f a h.1 h.2
theorem Zas {A:Type}{p f1 f2:A->Prop}{G:Prop}(h:∃ a,p a/\f1 a/\f2 a)(f:∀ a,p a->f1 a->f2 a->G):G:=h.elim λa h=>f a h.1 h.2.1 h.2.2
theorem Zpv {A:Type}{p f1 f2 f3:A->Prop}{G:Prop}(h:∃ a,p a/\f1 a/\f2 a/\f3 a)(f:∀ a,p a->f1 a->f2 a->f3 a->G):G:=h.elim λa h=>f a h.1 h.2.1 h.2.2.1 h.2.2.2
theorem Zkr {A:Type}{p f1 f2 f3 f4:A->Prop}{G:Prop}(h:∃ a,p a/\f1 a/\f2 a/\f3 a/\f4 a)(f:∀ a,p a->f1 a->f2 a->f3 a->f4 a->G):G:=h.elim λa h=>f a h.1 h.2.1 h.2.2.1 h.2.2.2.1 h.2.2.2.2
theorem Zs7 {A:Type}{p f1 f2 f3 f4 f5:A->Prop}{G:Prop}(h:∃ a,p a/\f1 a/\f2 a/\f3 a/\f4 a/\f5 a)(f:∀ a,p a->f1 a->f2 a->f3 a->f4 a->f5 a->G):G:=h.elim λa h=>f a h.1 h.2.1 h.2.2.1 h.2.2.2.1 h.2.2.2.2.1 h.2.2.2.2.2
theorem Zfq {A B:Type}{p:A->B->Prop}{G:Prop}(h:∃ a b,p a b)(f:∀ a b,p a b->G):G:=h.elim λa h=>h.elim λb h=>f a b h
theorem Zbs {A B:Type}{p f1:A->B->Prop}{G:Prop}(h:∃ a b,p a b/\f1 a b)(f:∀ a b,p a b->f1 a b->G):G:=h.elim λa h=>h.elim λb h=>f a b h.1 h.2
theorem Zca {A B:Type}{p f1 f2:A->B->Prop}{G:Prop}(h:∃ a b,p a b/\f1 a b/\f2 a b)(f:∀ a b,p a b->f1 a b->f2 a b->G):G:=h.elim λa h=>h.elim λb h=>f a b h.1 h.2.1 h.2.2
theorem Zf2 {A B:Type}{p f1 f2 f3:A->B->Prop}{G:Prop}(h:∃ a b,p a b/\f1 a b/\f2 a b/\f3 a b)(f:∀ a b,p a b->f1 a b->f2 a b->f3 a b->G):G:=h.elim λa h=>h.elim λb h=>f a b h.1 h.2.1 h.2.2.1 h.2.2.2
theorem Zlj {A B:Type}{p f1 f2 f3 f4:A->B->Prop}{G:Prop}(h:∃ a b,p a b/\f1 a b/\f2 a b/\f3 a b/\f4 a b)(f:∀ a b,p a b->f1 a b->f2 a b->f3 a b->f4 a b->G):G:=h.elim λa h=>h.elim λb h=>f a b h.1 h.2.1 h.2.2.1 h.2.2.2.1 h.2.2.2.2
theorem Zju {A B:Type}{p f1 f2 f3 f4 f5:A->B->Prop}{G:Prop}(h:∃ a b,p a b/\f1 a b/\f2 a b/\f3 a b/\f4 a b/\f5 a b)(f:∀ a b,p a b->f1 a b->f2 a b->f3 a b->f4 a b->f5 a b->G):G:=h.elim λa h=>h.elim λb h=>f a b h.1 h.2.1 h.2.2.1 h.2.2.2.1 h.2.2.2.2.1 h.2.2.2.2.2
theorem Zs6 {A B C:Type}{p:A->B->C->Prop}{G:Prop}(h:∃ a b c,p a b c)(f:∀ a b c,p a b c->G):G:=h.elim λa h=>h.elim λb h=>h.elim λc h=>f a b c h
theorem Zhc {A B C:Type}{p f1:A->B->C->Prop}{G:Prop}(h:∃ a b c,p a b c/\f1 a b c)(f:∀ a b c,p a b c->f1 a b c->G):G:=h.elim λa h=>h.elim λb h=>h.elim λc h=>f a b c h.1 h.2
theorem Zmk {A B C:Type}{p f1 f2:A->B->C->Prop}{G:Prop}(h:∃ a b c,p a b c/\f1 a b c/\f2 a b c)(f:∀ a b c,p a b c->f1 a b c->f2 a b c->G):G:=h.elim λa h=>h.elim λb h=>h.elim λc h=>f a b c h.1 h.2.1 h.2.2
theorem Zcx {A B C:Type}{p f1 f2 f3:A->B->C->Prop}{G:Prop}(h:∃ a b c,p a b c/\f1 a b c/\f2 a b c/\f3 a b c)(f:∀ a b c,p a b c->f1 a b c->f2 a b c->f3 a b c->G):G:=h.elim λa h=>h.elim λb h=>h.elim λc h=>f a b c h.1 h.2.1 h.2.2.1 h.2.2.2
theorem xE4_1 {A B C D:Type}{p:A->B->C->D->Prop}{G:Prop}(h:∃ a b c d,p a b c d)(f:∀ a b c d,p a b c d->G):G:=h.elim λa h=>h.elim λb h=>h.elim λc h=>h.elim λd h=>f a b c d h
theorem Zli {A B C D:Type}{p f1:A->B->C->D->Prop}{G:Prop}(h:∃ a b c d,p a b c d/\f1 a b c d)(f:∀ a b c d,p a b c d->f1 a b c d->G):G:=h.elim λa h=>h.elim λb h=>h.elim λc h=>h.elim λd h=>f a b c d h.1 h.2
theorem xE4_3 {A B C D:Type}{p f1 f2:A->B->C->D->Prop}{G:Prop}(h:∃ a b c d,p a b c d/\f1 a b c d/\f2 a b c d)(f:∀ a b c d,p a b c d->f1 a b c d->f2 a b c d->G):G:=h.elim λa h=>h.elim λb h=>h.elim λc h=>h.elim λd h=>f a b c d h.1 h.2.1 h.2.2
theorem Zc6 {A B C D:Type}{p f1 f2 f3:A->B->C->D->Prop}{G:Prop}(h:∃ a b c d,p a b c d/\f1 a b c d/\f2 a b c d/\f3 a b c d)(f:∀ a b c d,p a b c d->f1 a b c d->f2 a b c d->f3 a b c d->G):G:=h.elim λa h=>h.elim λb h=>h.elim λc h=>h.elim λd h=>f a b c d h.1 h.2.1 h.2.2.1 h.2.2.2
theorem Zpu {A B C D E:Type}{p f1:A->B->C->D->E->Prop}{G:Prop}(h:∃ a b c d e,p a b c d e/\f1 a b c d e)(f:∀ a b c d e,p a b c d e->f1 a b c d e->G):G:=h.elim λa h=>h.elim λb h=>h.elim λc h=>h.elim λd h=>h.elim λe h=>f a b c d e h.1 h.2
theorem Zhb {A B C D E:Type}{p f1 f2 f3:A->B->C->D->E->Prop}{G:Prop}(h:∃ a b c d e,p a b c d e/\f1 a b c d e/\f2 a b c d e/\f3 a b c d e)(f:∀ a b c d e,p a b c d e->f1 a b c d e->f2 a b c d e->f3 a b c d e->G):G:=h.elim λa h=>h.elim λb h=>h.elim λc h=>h.elim λd h=>h.elim λe h=>f a b c d e h.1 h.2.1 h.2.2.1 h.2.2.2
theorem xE6_2 {A B C D E F:Type}{p f1:A->B->C->D->E->F->Prop}{G:Prop}(h:∃ a b c d e i,p a b c d e i/\f1 a b c d e i)(f:∀ a b c d e i,p a b c d e i->f1 a b c d e i->G):G:=h.elim λa h=>h.elim λb h=>h.elim λc h=>h.elim λd h=>h.elim λe h=>h.elim λi h=>f a b c d e i h.1 h.2
theorem Zs5 {A B C D E F:Type}{p f1 f2 f3:A->B->C->D->E->F->Prop}{G:Prop}(h:∃ a b c d e i,p a b c d e i/\f1 a b c d e i/\f2 a b c d e i/\f3 a b c d e i)(f:∀ a b c d e i,p a b c d e i->f1 a b c d e i->f2 a b c d e i->f3 a b c d e i->G):G:=h.elim λa h=>h.elim λb h=>h.elim λc h=>h.elim λd h=>h.elim λe h=>h.elim λi h=>f a b c d e i h.1 h.2.1 h.2.2.1 h.2.2.2
theorem xE7_2 {A B C D E F I:Type}{p f1:A->B->C->D->E->F->I->Prop}{G:Prop}(h:∃ a b c d e i j,p a b c d e i j/\f1 a b c d e i j)(f:∀ a b c d e i j,p a b c d e i j->f1 a b c d e i j->G):G:=h.elim λa h=>h.elim λb h=>h.elim λc h=>h.elim λd h=>h.elim λe h=>h.elim λi h=>h.elim λj h=>f a b c d e i j h.1 h.2
theorem xE7_4 {A B C D E F I:Type}{p f1 f2 f3:A->B->C->D->E->F->I->Prop}{G:Prop}(h:∃ a b c d e i j,p a b c d e i j/\f1 a b c d e i j/\f2 a b c d e i j/\f3 a b c d e i j)(f:∀ a b c d e i j,p a b c d e i j->f1 a b c d e i j->f2 a b c d e i j->f3 a b c d e i j->G):G:=h.elim λa h=>h.elim λb h=>h.elim λc h=>h.elim λd h=>h.elim λe h=>h.elim λi h=>h.elim λj h=>f a b c d e i j h.1 h.2.1 h.2.2.1 h.2.2.2
theorem xE8_2 {A B C D E F I J:Type}{p f1:A->B->C->D->E->F->I->J->Prop}{G:Prop}(h:∃ a b c d e i j k,p a b c d e i j k/\f1 a b c d e i j k)(f:∀ a b c d e i j k,p a b c d e i j k->f1 a b c d e i j k->G):G:=h.elim λa h=>h.elim λb h=>h.elim λc h=>h.elim λd h=>h.elim λe h=>h.elim λi h=>h.elim λj h=>h.elim λk h=>f a b c d e i j k h.1 h.2
theorem xE8_3 {A B C D E F I J:Type}{p f1 f2:A->B->C->D->E->F->I->J->Prop}{G:Prop}(h:∃ a b c d e i j k,p a b c d e i j k/\f1 a b c d e i j k/\f2 a b c d e i j k)(f:∀ a b c d e i j k,p a b c d e i j k->f1 a b c d e i j k->f2 a b c d e i j k->G):G:=h.elim λa h=>h.elim λb h=>h.elim λc h=>h.elim λd h=>h.elim λe h=>h.elim λi h=>h.elim λj h=>h.elim λk h=>f a b c d e i j k h.1 h.2.1 h.2.2
theorem xE8_4 {A B C D E F I J:Type}{p f1 f2 f3:A->B->C->D->E->F->I->J->Prop}{G:Prop}(h:∃ a b c d e i j k,p a b c d e i j k/\f1 a b c d e i j k/\f2 a b c d e i j k/\f3 a b c d e i j k)(f:∀ a b c d e i j k,p a b c d e i j k->f1 a b c d e i j k->f2 a b c d e i j k->f3 a b c d e i j k->G):G:=h.elim λa h=>h.elim λb h=>h.elim λc h=>h.elim λd h=>h.elim λe h=>h.elim λi h=>h.elim λj h=>h.elim λk h=>f a b c d e i j k h.1 h.2.1 h.2.2.1 h.2.2.2
theorem xE9_3 {A B C D E F I J K:Type}{p f1 f2:A->B->C->D->E->F->I->J->K->Prop}{G:Prop}(h:∃ a b c d e i j k l,p a b c d e i j k l/\f1 a b c d e i j k l/\f2 a b c d e i j k l)(f:∀ a b c d e i j k l,p a b c d e i j k l->f1 a b c d e i j k l->f2 a b c d e i j k l->G):G:=h.elim λa h=>h.elim λb h=>h.elim λc h=>h.elim λd h=>h.elim λe h=>h.elim λi h=>h.elim λj h=>h.elim λk h=>h.elim λl h=>f a b c d e i j k l h.1 h.2.1 h.2.2
theorem xI11_1 {A B C D E F I J K L M:Type}{p:A->B->C->D->E->F->I->J->K->L->M->Prop}(a:A)(b:B)(c:C)(d:D)(e:E)(i:F)(j:I)(k:J)(l:K)(m:L)(n:M)(h0:p a b c d e i j k l m n):∃ a b c d e i j k l m n,p a b c d e i j k l m n:=⟨a,b,c,d,e,i,j,k,l,m,n,h0⟩
theorem xI12_1 {A B C D E F I J K L M N:Type}{p:A->B->C->D->E->F->I->J->K->L->M->N->Prop}(a:A)(b:B)(c:C)(d:D)(e:E)(i:F)(j:I)(k:J)(l:K)(m:L)(n:M)(o:N)(h0:p a b c d e i j k l m n o):∃ a b c d e i j k l m n o,p a b c d e i j k l m n o:=⟨a,b,c,d,e,i,j,k,l,m,n,o,h0⟩
theorem xI13_1 {A B C D E F I J K L M N O:Type}{p:A->B->C->D->E->F->I->J->K->L->M->N->O->Prop}(a:A)(b:B)(c:C)(d:D)(e:E)(i:F)(j:I)(k:J)(l:K)(m:L)(n:M)(o:N)(q:O)(h0:p a b c d e i j k l m n o q):∃ a b c d e i j k l m n o q,p a b c d e i j k l m n o q:=⟨a,b,c,d,e,i,j,k,l,m,n,o,q,h0⟩
theorem Zvg {A B C D E F I J K L M N O P:Type}{p:A->B->C->D->E->F->I->J->K->L->M->N->O->P->Prop}(a:A)(b:B)(c:C)(d:D)(e:E)(i:F)(j:I)(k:J)(l:K)(m:L)(n:M)(o:N)(q:O)(r:P)(h0:p a b c d e i j k l m n o q r):∃ a b c d e i j k l m n o q r,p a b c d e i j k l m n o q r:=⟨a,b,c,d,e,i,j,k,l,m,n,o,q,r,h0⟩
theorem Zpt {A B C D E F I J K L M N O P Q:Type}{p:A->B->C->D->E->F->I->J->K->L->M->N->O->P->Q->Prop}(a:A)(b:B)(c:C)(d:D)(e:E)(i:F)(j:I)(k:J)(l:K)(m:L)(n:M)(o:N)(q:O)(r:P)(s:Q)(h0:p a b c d e i j k l m n o q r s):∃ a b c d e i j k l m n o q r s,p a b c d e i j k l m n o q r s:=⟨a,b,c,d,e,i,j,k,l,m,n,o,q,r,s,h0⟩
theorem Zps {A B C D E F I J K L M N O P Q R S:Type}{p:A->B->C->D->E->F->I->J->K->L->M->N->O->P->Q->R->S->Prop}(a:A)(b:B)(c:C)(d:D)(e:E)(i:F)(j:I)(k:J)(l:K)(m:L)(n:M)(o:N)(q:O)(r:P)(s:Q)(t:R)(u:S)(h0:p a b c d e i j k l m n o q r s t u):∃ a b c d e i j k l m n o q r s t u,p a b c d e i j k l m n o q r s t u:=⟨a,b,c,d,e,i,j,k,l,m,n,o,q,r,s,t,u,h0⟩
theorem Zno {A B C D E F I J K L M N O P Q R S T:Type}{p:A->B->C->D->E->F->I->J->K->L->M->N->O->P->Q->R->S->T->Prop}(a:A)(b:B)(c:C)(d:D)(e:E)(i:F)(j:I)(k:J)(l:K)(m:L)(n:M)(o:N)(q:O)(r:P)(s:Q)(t:R)(u:S)(v:T)(h0:p a b c d e i j k l m n o q r s t u v):∃ a b c d e i j k l m n o q r s t u v,p a b c d e i j k l m n o q r s t u v:=⟨a,b,c,d,e,i,j,k,l,m,n,o,q,r,s,t,u,v,h0⟩
theorem Zaq {A B:Type}{p:A->B->Prop}(a:A)(b:B)(h0:p a b):∃ a b,p a b:=⟨a,b,h0⟩
theorem Zbv {A B C:Type}{p:A->B->C->Prop}(a:A)(b:B)(c:C)(h0:p a b c):∃ a b c,p a b c:=⟨a,b,c,h0⟩
theorem Zkq {A B C D:Type}{p:A->B->C->D->Prop}(a:A)(b:B)(c:C)(d:D)(h0:p a b c d):∃ a b c d,p a b c d:=⟨a,b,c,d,h0⟩
theorem Zlh {A B C D E:Type}{p:A->B->C->D->E->Prop}(a:A)(b:B)(c:C)(d:D)(e:E)(h0:p a b c d e):∃ a b c d e,p a b c d e:=⟨a,b,c,d,e,h0⟩
theorem xI6_1 {A B C D E F:Type}{p:A->B->C->D->E->F->Prop}(a:A)(b:B)(c:C)(d:D)(e:E)(i:F)(h0:p a b c d e i):∃ a b c d e i,p a b c d e i:=⟨a,b,c,d,e,i,h0⟩
theorem xI7_1 {A B C D E F I:Type}{p:A->B->C->D->E->F->I->Prop}(a:A)(b:B)(c:C)(d:D)(e:E)(i:F)(j:I)(h0:p a b c d e i j):∃ a b c d e i j,p a b c d e i j:=⟨a,b,c,d,e,i,j,h0⟩
end L2
theorem oz1 {z y:Int}(h0:(0:Int)<=z)(h1:z<y):z.natAbs<=y.natAbs:=∅
theorem oz2 {a b c:Nat}(h0:a=b)(h1:¬c<a)(h2:c-a=0):c=b:=∅
theorem oz3 {a b c:Nat}(h0:a=b)(h1:c<a):c<b:=∅
theorem oz4 {a b:Nat}(h0:¬a-b=0):1<=a-b:=∅
theorem oz5 {a b c d:Nat}(h0:a=b)(h1:c=b)(h2:d<a):d<c:=∅
theorem oz6 {z y x Z Y X:Int}(h0:(0:Int)<=z)(h1:(0:Int)<=y)(h2:(x*y+Z*z).natAbs+(Y*y+X*z).natAbs<(y+z).natAbs):(↑(x*y+Z*z).natAbs:Int)+(↑(Y*y+X*z).natAbs:Int)<y+z:=∅
theorem oz7 {a b c:Nat}(h0:a<b)(h1:c=b):a<c:=∅
theorem oz8 {z y x Z:Int}:(0:Int)<=(↑(z*y+x*Z).natAbs:Int):=∅
theorem oz9 {a b:Nat}(h0:a<b+1)(h1:¬a<b):a=b:=∅
theorem oz10 {z y x:Int}(h0:z<=(97:Int))(h1:y<=z)(h2:(0:Int)<=y / x)(h3:y / x<=y):(y / x).natAbs<=97:=∅
theorem oz11 {a b c:Nat}(h0:a<=8)(h1:b=a):min c b+(b-(c+1))<=1000:=∅
theorem oz12 {a b:Nat}{z:Int}(h0:(↑a:Int)=z)(h1:b=a):(↑b:Int)=z:=∅
theorem oz13 {a b:Nat}(h0:a<=b):min (↑a:Int).toNat b=a:=∅
theorem oz14 {a b c d:Nat}(h0:a<=9)(h1:b=a)(h2:c<b)(h3:d=c):d<=1000:=∅
theorem oz15 {a:Nat}:((0:Int)+(↑a:Int)).toNat=a:=∅
theorem oz16 {a b c d:Nat}(h0:a=b)(h1:(↑c:Int)<(↑a:Int))(h2:d=b):c<=d:=∅
theorem oz17 {a b c d:Nat}(h0:a=b)(h1:c=a)(h2:d<c):d<b:=∅
theorem oz18 {a b:Nat}(h0:a<b+1)(h1:¬a=b):a<b:=∅
theorem Zly {a b c:Nat}(h0:a=b)(h1:c<b):c<a:=∅
theorem oz20 {a b c:Nat}(h0:a=b)(h1:c=b):c=a:=∅
theorem oz21 {a b:Nat}{z y:Int}(h0:z.natAbs<=a*b)(h1:y.natAbs<=b):(z+y).natAbs<=a*b+b:=∅
theorem oz22 {a b c d:Nat}(h0:a=b)(h1:(↑c:Int)<(↑a:Int))(h2:d=b):min c d+(d-(c+1))≠b:=∅
theorem oz23 {z y x:Int}(h0:z<y)(h1:y<=x):z<=x:=∅
theorem oz24 {a b:Nat}(h0:a=b):a<=b:=∅
theorem oz25 {a b c d:Nat}(h0:a=b)(h1:c=a)(h2:d=c):d=b:=∅
theorem Zpp {a b:Nat}(h0:¬a<b):b<=a:=∅
theorem oz28 {a:Nat}(h0:a<=8):a+1<=1000:=∅
theorem oz29 {a:Nat}:((↑a:Int)-(126:Int)).toNat=a-126:=∅
theorem oz30 {a b:Nat}(h0:a=b):a=b:=∅
theorem oz31 {a b:Nat}(h0:a<b):a<b:=∅
theorem oz32 {a b c:Nat}:min (a-b) (c-b)<=c:=∅
theorem oz33 {a b c d:Nat}(h0:a=b)(h1:c=b)(h2:d<c):d<a:=∅
theorem oz34 {a b:Nat}(h0:¬a<b)(h1:a<b+1):a=b:=∅
theorem oz35 {a b:Nat}(h0:a<=24)(h1:b=a):b<=1000:=∅
theorem oz36 {z:Int}:(0:Int)<=(↑z.natAbs:Int):=∅
theorem oz37 {a:Nat}(h0:126<=a):64+(a-126)=a-62:=∅
theorem oz38 {z:Int}(h0:(0:Int)<=z)(h1:z<(6:Int))(h2:¬z=(0:Int))(h3:¬z=(1:Int))(h4:¬z=(2:Int))(h5:¬z=(3:Int))(h6:¬z=(4:Int)):z=(5:Int):=∅
theorem oz39 {z y x:Int}(h0:z<=(97:Int))(h1:y<x)(h2:x<=z)(h3:(1:Int)<y):y.natAbs<=97:=∅
theorem oz40 {a:Nat}{z:Int}(h0:(0:Int)<=z)(h1:a=z.toNat):(↑a:Int)=z:=∅
theorem oz41 {a b c:Nat}(h0:a+1=b)(h1:0+1=c):min b c=1:=∅
theorem oz42 {a b c:Nat}(h0:a<b)(h1:c<a):c<b:=∅
theorem oz43 {a b c:Nat}(h0:a=b)(h1:c=b):a=c:=∅
theorem oz44 {a b c d:Nat}(h0:a=b)(h1:(↑c:Int)<(↑a:Int))(h2:d=b):c+1<=d:=∅
theorem oz45 {a b c d:Nat}(h0:a=b)(h1:c=a)(h2:d<b):d<c:=∅
theorem oz46 {a b:Nat}{z:Int}(h0:z<=(24:Int))(h1:a<z.toNat)(h2:b=a):b<=1000:=∅
theorem oz47 {a b c d:Nat}(h0:a=b)(h1:c=b)(h2:d-a=0):d-c=0:=∅
theorem oz48 {a b:Nat}{z y x:Int}(h0:(0:Int)<z)(h1:z<=y*x)(h2:(y*x).natAbs<=a*b):z.natAbs<=a*b:=∅
theorem oz49 {z y x:Int}(h0:z<=(97:Int))(h1:y<x)(h2:x<=z):y<(1073741824:Int):=∅
theorem oz50 {a b:Nat}(h0:a=b):b=a:=∅
theorem oz51 {a:Nat}{z:Int}(h0:z<=(24:Int))(h1:(↑a:Int)=z):a<=1000:=∅
theorem oz53 {a:Nat}(h0:(↑a:Int)<=(8:Int)):1*(↑a:Int).toNat<=1000:=∅
theorem oz54 {a:Nat}:((-1:Int)+(↑a:Int)).toNat=a-1:=∅
theorem oz55 {a b c:Nat}(h0:a+1=b)(h1:0+1=c):b=c ↔ a=0:=∅
theorem oz56 {a b c:Nat}(h0:a=b)(h1:c=a):min a b=c:=∅
theorem oz57 {a b:Nat}(h0:a<=8)(h1:b=a):b<=8:=∅
theorem oz58 {a b c d:Nat}(h0:a=b)(h1:b<=8)(h2:(↑c:Int)<(↑a:Int))(h3:d=b):c+1+(d-(c+1))<=1000:=∅
theorem oz59 {a b c d:Nat}(h0:a=b)(h1:(↑c:Int)<(↑a:Int))(h2:d=b):min c d=c:=∅
theorem oz60 {a:Nat}{z y:Int}(h0:a=z.toNat)(h1:y<z):y<(↑a:Int):=∅
theorem oz61 {a:Nat}:(↑a:Int)+(1:Int)=(↑(a+1):Int):=∅
theorem oz62 {a b c:Nat}(h0:a=b)(h1:c=a):c=b:=∅
theorem oz63 {a:Nat}{z:Int}(h0:(0:Int)<=z)(h1:z<(↑a:Int)):z.toNat<a:=∅
theorem Zq5 {z:Int}(h0:(1:Int)<z):(0:Int)<z:=∅
theorem oz65 {a b:Nat}{z:Int}(h0:(↑a:Int)=z)(h1:(↑b:Int)=z):b=a:=∅
theorem oz67 {a b:Nat}(h0:a<b)(h1:b<=8):a<=1000:=∅
theorem oz68 {a b c:Nat}(h0:a=b)(h1:(↑c:Int)<(↑a:Int)):c<b:=∅
theorem oz69 {a:Nat}:a-62<=a-1:=∅
theorem oz70 {z:Int}(h0:(0:Int)<z):(0:Int)<=z:=∅
theorem oz71 {a b c:Nat}(h0:a<b+1)(h1:c≠a)(h2:¬a<b):c≠b:=∅
theorem oz72 {z y x Z:Int}(h0:z<(85070591730234615865843651857942052864:Int))(h1:y<=z)(h2:x<=z+y)(h3:(0:Int)<=x / Z)(h4:x / Z<=x):(x / Z).natAbs<170141183460469231731687303715884105728:=∅
theorem oz73 {a:Nat}(h0:0<a):(0:Int)<(↑a:Int):=∅
theorem oz74 {a:Nat}{z y:Int}(h0:(↑a:Int)=z)(h1:(0:Int)<=y)(h2:y<z):y.toNat<a:=∅
theorem oz75 {a b c:Nat}(h0:a<b)(h1:b<c+1):a<c:=∅
theorem oz76 {a b:Nat}(h0:a<=24)(h1:b=a):b<=900:=∅
theorem oz78 {a:Nat}(h0:a<=24):(↑a:Int)<(1000000000:Int):=∅
theorem oz79 {a b c:Nat}(h0:a<b)(h1:b=c):a<c:=∅
theorem oz80 {z y x Z:Int}(h0:(0:Int)<=z)(h1:(0:Int)<=y)(h2:z+y<x+Z):(z+y).toNat<(x+Z).toNat:=∅
theorem oz81 {a b c:Nat}(h0:a<=1000)(h1:b<a)(h2:c=b):c<=1000:=∅
theorem oz82 {z:Int}(h0:(0:Int)<=z/\z<=(24:Int)):z.toNat<=24:=∅
theorem oz83 {z y:Int}(h0:z<y)(h1:(1:Int)<z):(0:Int)<=y:=∅
theorem oz84 {z y:Int}(h0:(0:Int)<=z)(h1:(0:Int)<=y):(0:Int)<=y+z:=∅
theorem oz85 {a:Nat}{z:Int}(h0:z=(↑a:Int)):(0:Int)<=z:=∅
theorem oz86 {a:Nat}(h0:0<a):a=a-1+1:=∅
theorem oz87 {a b c:Nat}(h0:a<=24)(h1:b=a)(h2:c=b):c<=1000:=∅
theorem oz88 {a:Nat}:-(2:Int) ^ 63<=(↑a:Int):=∅
theorem oz90 {a b c:Nat}(h0:a=b)(h1:(↑c:Int)<(↑b:Int)):c<a:=∅
theorem oz91 {a b c d e f g i j k:Nat}{z y x Z Y X W V U:Int}(h0:(0:Int)<=z)(h1:z<y)(h2:(0:Int)<=x)(h3:a<=b+(c+d))(h4:e<=f+(g+i))(h5:(↑j:Int)=Z+Y)(h6:(↑k:Int)=y)(h7:c<=4611686018427387903*k)(h8:d<=4611686018427387903*k)(h9:g<=4611686018427387903*k)(h10:i<=4611686018427387903*k)(h11:(↑b:Int)=X)(h12:(↑f:Int)=W)(h13:Z=V+z)(h14:Y=U+x)(h15:X+W+y*(18446744073709551616:Int)<=V+U):a+e<j:=∅
theorem Zvx {z:Int}(h0:(1:Int)<z):z≠(0:Int):=∅
theorem oz93 {z:Int}(h0:(0:Int)<=z)(h1:z<(2:Int)):z=(0:Int)\/z=(1:Int):=∅
theorem oz94 {a b c d:Nat}(h0:a=b)(h1:(↑c:Int)<(↑a:Int))(h2:d=b):c<d:=∅
theorem oz95 {z y:Int}(h0:z % y<y)(h1:(1:Int)<=z % y):(z % y).toNat<y.toNat:=∅
theorem oz96 {a:Nat}{z y:Int}(h0:z=(↑a:Int))(h1:a<=24/\(↑a:Int)=y):z<=(24:Int):=∅
theorem oz97 {a b:Nat}(h0:(↑a:Int)<(↑b:Int)):a<b:=∅
theorem oz98 {z:Int}(h0:(0:Int)<=z)(h1:¬(0:Int)<z):z=(0:Int):=∅
theorem Zvw {a b:Nat}(h0:a<b):a<b+1:=∅
theorem oz100 {a:Nat}:a+1-1=a:=∅
theorem oz101 {a b c:Nat}(h0:a=b)(h1:¬c<a):b<=c:=∅
theorem Zjw {a:Nat}:a<a+1:=∅
theorem oz103 {a b c d:Nat}(h0:a=b)(h1:c=a)(h2:d=b):c=d:=∅
theorem oz104 {z y:Int}(h0:(0:Int)<z)(h1:y % z<z):(y % z).toNat<z.toNat:=∅
theorem oz105 {a b c d:Nat}(h0:a=b)(h1:b<=9)(h2:c<a)(h3:d=c):d<=1000:=∅
theorem oz106 {a b:Nat}{z:Int}(h0:z<(5:Int))(h1:a<z.toNat)(h2:b<=a):b<=1000:=∅
theorem oz107 {a:Nat}{z:Int}(h0:(↑a:Int)=z):a=z.toNat:=∅
theorem oz108 {a:Nat}{z:Int}(h0:(↑a:Int)=z)(h1:(2:Int)<z):a-1<a:=∅
theorem oz109 {z y x:Int}(h0:(0:Int)<=z)(h1:z<=y+x):z.natAbs<=(y+x).natAbs:=∅
theorem oz110 {z:Int}(h0:(0:Int)<=z/\z<=(24:Int)):z.toNat<=24/\(↑z.toNat:Int)=z:=∅
theorem oz111 {a b c:Nat}(h0:a<=b)(h1:c<a):c<b:=∅
theorem oz112 {a b c d:Nat}(h0:a=b)(h1:c=a)(h2:(↑d:Int)<(↑b:Int)):d<c:=∅
theorem oz113 {a b c d:Nat}(h0:a=b)(h1:c=a)(h2:¬d<c):b<=d:=∅
theorem oz114 {a:Nat}(h0:126<=a):126+(a-126)=a:=∅
theorem oz115 {a b:Nat}(h0:a<=8)(h1:b=a):b<=1000:=∅
theorem oz116 {a b:Nat}(h0:¬a=b)(h1:¬b<a):¬b<a+1:=∅
theorem oz117 {a b c:Nat}(h0:a+b+5<=c):a+b<=c:=∅
theorem oz118 {a b c d e:Nat}(h0:a=b)(h1:c=a)(h2:d=c)(h3:e<d):e<b:=∅
theorem oz120 {a b:Nat}(h0:a<b):b=b-1+1:=∅
theorem oz121 {a b:Nat}{z:Int}(h0:(0:Int)<=z)(h1:¬z.natAbs<a)(h2:b<=a):(↑b:Int)<=z:=∅
theorem oz122 {a:Nat}{z:Int}(h0:z.natAbs<a):z<(↑a:Int):=∅
theorem oz123 {z:Int}(h0:(0:Int)<=z)(h1:z≠(0:Int)):(0:Int)<z:=∅
theorem oz124 {a b c d:Nat}(h0:a=b)(h1:c=b)(h2:¬d<a):c<=d:=∅
theorem Zt5 {z:Int}(h0:z.natAbs<4611686018427387904):z.natAbs<=4611686018427387903:=∅
theorem oz127 {a:Nat}{z:Int}(h0:(1:Int)<=z)(h1:a=z.toNat):(↑a:Int)=z:=∅
theorem oz128 {a:Nat}{z:Int}(h0:z<(5:Int))(h1:a<=z.toNat):a<=9:=∅
theorem oz129 {z y x:Int}(h0:z=-y)(h1:(0:Int)<=y)(h2:y < -x):z.natAbs<x.natAbs:=∅
theorem oz130 {z:Int}(h0:(1:Int)<=z):(0:Int)<z:=∅
theorem oz131 {z y:Int}(h0:(0:Int)<=z-z / y*y)(h1:z-z / y*y<y):(z-z / y*y).natAbs<y.natAbs:=∅
theorem oz132 {z:Int}(h0:z<=(24:Int)):z.toNat<=1000:=∅
theorem oz133 {a b:Nat}(h0:(0:Int)<=(↑a:Int)/\(↑a:Int)<=(2:Int))(h1:b=a):b+1<=1000:=∅
theorem oz134 {a:Nat}{z:Int}(h0:(0:Int)<z)(h1:(z / (↑a:Int)).natAbs<=z.natAbs):z / (↑a:Int)<=z:=∅
theorem oz135 {z:Int}(h0:(0:Int)<=z):(↑z.toNat:Int)=z:=∅
theorem oz136 {a:Nat}{z:Int}(h0:(↑a:Int)=z)(h1:(2:Int)<z):1<a:=∅
theorem Zt4 {z:Int}(h0:(18446744073709551616:Int)<=z):(0:Int)<=z:=∅
theorem oz138 {z y:Int}(h0:(0:Int)<=z)(h1:z<y)(h2:y<=(97:Int)):z.natAbs<128:=∅
theorem oz139 {a b:Nat}(h0:a+1<=b):a<=b:=∅
theorem oz140 {a:Nat}{z y:Int}(h0:z=(↑a:Int))(h1:(0:Int)<=y)(h2:y<z):y.toNat<a:=∅
theorem oz141 {a b:Nat}{z:Int}(h0:a<z.toNat)(h1:b=z.toNat):((0:Int)+(↑a:Int)).toNat<b:=∅
theorem oz142 {a b c d:Nat}(h0:a≠b)(h1:a=c)(h2:b=d):¬c=d:=∅
theorem oz143 {z y x Z Y:Int}(h0:z<=(97:Int))(h1:(0:Int)<=y)(h2:x*Z+Y*y=z)(h3:y<=Y*y)(h4:Z<=x*Z):Z<=(97:Int):=∅
theorem oz144 {a:Nat}{z:Int}(h0:(↑a:Int)=z):(↑z.toNat:Int)=z:=∅
theorem oz145 {z:Int}(h0:(0:Int)<=z):z=(↑z.natAbs:Int):=∅
theorem Zm4 {z:Int}(h0:(0:Int)<=z):-(2:Int) ^ 62<=z:=∅
theorem oz147 {z y:Int}(h0:z<y)(h1:(1:Int)<z):(1:Int)<=y:=∅
theorem oz148 {z y:Int}(h0:(0:Int)<=z % y)(h1:¬z % y=(0:Int)):(1:Int)<=z % y:=∅
theorem oz150 {a:Nat}(h0:(↑a:Int)<=(8:Int)):(↑a:Int)<(2:Int) ^ 63:=∅
theorem oz151 {a b c:Nat}(h0:a+(b+1)<c):a+1+b<c:=∅
theorem oz153 {a:Nat}{z:Int}(h0:(↑a:Int)=z)(h1:(2:Int)<z):0<a:=∅
theorem oz154 {a b:Nat}{z:Int}(h0:¬z=(0:Int))(h1:(↑z.toNat:Int)=z)(h2:a=z.toNat)(h3:b=a):¬0=b:=∅
theorem oz155 {a b c d:Nat}(h0:a=b)(h1:c=b)(h2:d=a):d=c:=∅
theorem Zje {z:Int}(h0:(0:Int)<z):¬z=(0:Int):=∅
theorem oz157 {z:Int}(h0:z<=(8:Int))(h1:¬z=(8:Int)):z+(1:Int)<=(8:Int):=∅
theorem Zt3 {a:Nat}:-(2:Int) ^ 62<=(↑a:Int):=∅
theorem oz159 {a:Nat}{z:Int}(h0:a<(z-(1:Int)).toNat):(0:Int)+(↑a:Int)+(1:Int)<z:=∅
theorem oz160 {a:Nat}(h0:a<=24):a<=200:=∅
theorem oz161 {a b c d:Nat}(h0:a=b)(h1:a=c)(h2:b=d):c=d:=∅
theorem oz162 {a b:Nat}(h0:a<=9)(h1:b<a):b<=1000:=∅
theorem oz163 {a b:Nat}(h0:a<b)(h1:b<=8):a+1+(b-(a+1))<=1000:=∅
theorem oz164 {z:Int}(h0:(0:Int)<=z)(h1:z<(3:Int)):z=(0:Int)\/z=(1:Int)\/z=(2:Int):=∅
theorem oz165 {z y:Int}(h0:(0:Int)<=z)(h1:¬y<z):z.natAbs<=y.natAbs:=∅
theorem oz166 {a:Nat}{z:Int}(h0:a<(z-(1:Int)).toNat):(0:Int)+(↑a:Int)<z:=∅
theorem oz167 {a b c:Nat}(h0:a+b<c):a<c:=∅
theorem oz168 {z y x:Int}(h0:(0:Int)<=z/\z<y/\(0:Int)<=x/\x<y):(0:Int)<=z/\z<y+(1:Int)/\(0:Int)<=x/\x<y+(1:Int):=∅
theorem Zt2 {a b:Nat}(h0:a+b<=134000000):a+b<=134217728:=∅
theorem oz170 {a:Nat}{z:Int}(h0:z<=(8:Int))(h1:(↑a:Int)=z)(h2:¬z=(8:Int)):a+1<=8:=∅
theorem oz171 {a b:Nat}{z:Int}(h0:z<=(8:Int))(h1:a<z.toNat)(h2:b=a):b<=1000:=∅
theorem oz172 {a:Nat}{z y x:Int}(h0:(↑a:Int)=z)(h1:(0:Int)<=y/\y<z/\(0:Int)<=x/\x<z):x.toNat<a:=∅
theorem Zt1 {a:Nat}:(0:Int)<=(0:Int)+(↑a:Int):=∅
theorem oz175 {z:Int}(h0:z.natAbs<4611686018427387904):z.natAbs<170141183460469231731687303715884105728:=∅
theorem oz176 {a b:Nat}:(↑(a+1):Int)=(↑(b+1):Int) ↔ a=b:=∅
theorem Zq6 {a:Nat}:(0:Int)<=(↑a:Int):=∅
theorem oz178 {a:Nat}{z:Int}(h0:a<z.toNat):(↑a:Int)<z:=∅
theorem oz179 {a:Nat}(h0:4000<a):(0:Int)<=(↑a:Int)-(126:Int):=∅
theorem oz180 {a b c:Nat}(h0:a+(b+1)<c):a<c:=∅
theorem oz182 {a b:Nat}(h0:a<b):min a b=a:=∅
theorem oz183 {a:Nat}{z y x:Int}(h0:(↑a:Int)=z)(h1:(0:Int)<=y/\y<z/\(0:Int)<=x/\x<z):y.toNat<a:=∅
theorem Zo9 {z:Int}(h0:z<=(24:Int)):z<(2:Int) ^ 62:=∅
theorem oz185 {z y x Z Y:Int}(h0:z<=(97:Int))(h1:(0:Int)<=y)(h2:x*y+Z*Y=z)(h3:Y<=Z*Y)(h4:y<=x*y):Y<=(97:Int):=∅
theorem oz186 {z y x Z:Int}(h0:(0:Int)<=z)(h1:(0:Int)<=y / x*Z):(0:Int)<=z+y / x*Z:=∅
theorem oz187 {z y:Int}(h0:(1:Int)<z)(h1:z.natAbs=1):(1:Int)<=y % z:=∅
theorem oz188 {z y x Z:Int}(h0:z<(85070591730234615865843651857942052864:Int))(h1:y<=z)(h2:(18446744073709551616:Int)<=x)(h3:Z<=z+y)(h4:x<=Z):x.natAbs<170141183460469231731687303715884105728:=∅
theorem oz189 {a b c d:Nat}(h0:a<=24)(h1:b=c)(h2:c=a)(h3:d=b):d<=1000:=∅
theorem oz190 {a b c d:Nat}(h0:(a+1)*b<=c)(h1:d*b+b<=(a+1)*b):b<=c:=∅
theorem oz191 {z y x Z Y X:Int}(h0:z+y<=x+Z)(h1:Y+X<z+y):Y+X<=x+Z:=∅
theorem Zt0 {a:Nat}(h0:(4000:Int)<(↑a:Int)):4000<a:=∅
theorem oz193 {a:Nat}(h0:(↑a:Int)<=(8:Int)):a<=8:=∅
theorem oz194 {z:Int}(h0:z<=(8:Int)):z<(1000000000:Int):=∅
theorem oz195 {a:Nat}{z y:Int}(h0:(↑a:Int)=z)(h1:y<z):y<(↑a:Int):=∅
theorem oz196 {a:Nat}{z:Int}(h0:a<(z-(2:Int)).toNat):(2:Int)+(↑a:Int)<z:=∅
theorem oz197 {z y x:Int}(h0:z<=y)(h1:x<z):z+x<y+z:=∅
theorem oz199 {a:Nat}(h0:a<=24):(↑a:Int)<=(24:Int):=∅
theorem oz200 {a b:Nat}(h0:a<=1000)(h1:b<a):b<=1000:=∅
theorem oz201 {a b c d:Nat}(h0:a=b)(h1:c<=b)(h2:d<c):d<a:=∅
theorem oz202 {a b c:Nat}(h0:a<=9)(h1:b=c)(h2:c<a):b<=1000:=∅
theorem Ztz {z:Int}(h0:(1:Int)<z):(0:Int)<=z:=∅
theorem oz204 {a:Nat}{z:Int}(h0:z<=(8:Int))(h1:a=(z-(1:Int)).toNat):a<=9:=∅
theorem oz205 {a b c:Nat}(h0:a<=0+1)(h1:b<=a+1)(h2:c<=b+1):c<1000:=∅
theorem oz206 {a:Nat}{z:Int}(h0:z<=(24:Int))(h1:(↑a:Int)=z):a<=100:=∅
theorem oz207 {z y:Int}(h0:(1:Int)<z)(h1:y % z<z):(y % z).toNat<z.toNat:=∅
theorem oz208 {a b c:Nat}(h0:¬a<b):min b c<=a:=∅
theorem oz210 {a b:Nat}(h0:a<=9)(h1:b=a):b<=9:=∅
theorem oz211 {a b:Nat}(h0:a<=b):a+1<=b+1:=∅
theorem oz213 {a b:Nat}(h0:a=b)(h1:b<=8):(↑a:Int)<(1000000000:Int):=∅
theorem oz214 {a b:Nat}(h0:a<=b+1)(h1:¬a=b+1):¬b<a:=∅
theorem oz215 {z y:Int}(h0:(0:Int)<=z)(h1:z<y):z.natAbs<y.natAbs:=∅
theorem oz216 {a:Nat}(h0:0<a):a-1<a:=∅
theorem Zo8 {z:Int}(h0:(0:Int)<z):z≠(0:Int):=∅
theorem oz218 {a b c:Nat}(h0:a=b)(h1:c=b):(↑a:Int)=(↑c:Int):=∅
theorem oz219 {a b:Nat}:7<=7+0*(a+b+8):=∅
theorem oz220 {z:Int}:(z*(48271:Int)+(4099:Int)) % (2147483647:Int)<(2:Int) ^ 64:=∅
theorem oz221 {a b c d:Nat}(h0:(↑a:Int)=(↑b:Int))(h1:(↑c:Int)=(↑b:Int))(h2:a=d):c=d:=∅
theorem oz222 {a:Nat}(h0:0<a)(h1:¬a=1):(2:Int)<=(↑a:Int):=∅
theorem oz223 {a:Nat}{z:Int}(h0:z<=(8:Int))(h1:(↑a:Int)=z):a<=8:=∅
theorem oz224 {z y:Int}(h0:z % y<y)(h1:z % y+z / y*y=z):z-z / y*y<y:=∅
theorem oz225 {a b c:Nat}{z:Int}(h0:z.natAbs<=a*b)(h1:a*b<=24*b)(h2:c=32*b)(h3:0<b):z.natAbs<c:=∅
theorem oz226 {z:Int}(h0:z<(0:Int)):(0:Int) < -z:=∅
theorem oz227 {a b c d:Nat}(h0:1<=a)(h1:(b+1)*a<=c)(h2:d*a+a<=(b+1)*a):d*a<c:=∅
theorem oz228 {z y:Int}(h0:z<=(97:Int))(h1:(0:Int)<=y)(h2:y<z):y.natAbs<=97:=∅
theorem oz229 {a b:Nat}(h0:(0:Int)<=(↑a:Int)/\(↑a:Int)<=(2:Int))(h1:b=a):b<=1000:=∅
theorem oz231 {a b:Nat}{z:Int}(h0:a=b)(h1:(↑b:Int)=z)(h2:(1:Int)<=z):(0:Int)<(↑a:Int):=∅
-- CHANGE: your row's module here,as the last of these rows
set_option Elab.async false
set_option linter.all false
set_option maxRecDepth 100000
namespace L2
open PySem PySem.Spec PyProof.Rows
abbrev Key:=Sum Int Str
def keyIs:Key->Value->Bool
 | .inl k,v=>Value.isInt k v
 | .inr x,v=>Value.isStrOf x v
def keyH (w:World):Key->Int
 | .inl k=>hashInt k
 | .inr x=>hashStr w x
theorem Zbo:∀ {k:Key} {v:Value},keyIs k v=true->(∃ i t,k=Sum.inl i/\v=Value.int i t)\/(∃ x t,k=Sum.inr x/\v=Value.str x t)
 | .inl i,v,h=>by
  obtain⟨t,e⟩:=Value.isInt_shape (k:=i) (v:=v) h;exact .inl ⟨i,t,rfl,e⟩
 | .inr x,v,h=>by
  obtain⟨t,e⟩:=Value.isStrOf_shape (x:=x) (v:=v) h;exact .inr ⟨x,t,rfl,e⟩
theorem key_ll (a b:Int):decide ((Sum.inl a:Key)=Sum.inl b)=(a == b):=by
 by_cases e:a=b
 .subst e;simp
 .have h:¬ (Sum.inl a:Key)=Sum.inl b:=λq=>e (Sum.inl.inj q);rw[Jam h];exact (Jdc.mpr e).symm
theorem key_rr (a b:Str):decide ((Sum.inr a:Key)=Sum.inr b)=decide (a=b):=by
 by_cases e:a=b
 .subst e;simp
 .have h:¬ (Sum.inr a:Key)=Sum.inr b:=λq=>e (Sum.inr.inj q);rw[Jam h,Jam e]
theorem key_lr (a:Int)(b:Str):decide ((Sum.inl a:Key)=Sum.inr b)=false:=Jam (λq=>nomatch q)
theorem key_rl (a:Str)(b:Int):decide ((Sum.inr a:Key)=Sum.inl b)=false:=Jam (λq=>nomatch q)
def Zna (prog:Program)(w:World):PySem.KeyKind prog w Key where
 is:=keyIs
 hash:=keyH w
 inj:=λv a b ha hb=>by
  rcases Zbo ha with ⟨i,t,rfl,rfl⟩|⟨x,t,rfl,rfl⟩
  .rcases Zbo hb with ⟨j,u,rfl,e⟩|⟨y,u,rfl,e⟩
   .injection e with e1 _;rw[e1]
   .exact nomatch e
  .rcases Zbo hb with ⟨j,u,rfl,e⟩|⟨y,u,rfl,e⟩
   .exact nomatch e
   .injection e with e1 _;rw[e1]
 byValue:=λk v h=>by
  rcases Zbo h with ⟨i,t,rfl,rfl⟩|⟨x,t,rfl,rfl⟩ <;> rfl
 pyHash:=λhv h=>by
  rcases Zbo hv with ⟨i,t,rfl,rfl⟩|⟨x,t,rfl,rfl⟩
  .exact wpAny_pyHash_int h
  .exact wpAny_pyHash_str h
 eqBool:=λhu hv h=>by
  rcases Zbo hu with ⟨i,t,rfl,rfl⟩|⟨x,t,rfl,rfl⟩
  .rcases Zbo hv with ⟨j,u,rfl,rfl⟩|⟨y,u,rfl,rfl⟩
   .rw [key_ll] at h;exact wpAny_eqBool_int h
   .rw [key_lr] at h;exact Jea i t y u _ _ _ _ h
  .rcases Zbo hv with ⟨j,u,rfl,rfl⟩|⟨y,u,rfl,rfl⟩
   .rw [key_rl] at h;exact SeqAt.EqAt.str_int x t j u _ _ _ _ h
   .rw [key_rr] at h;exact wpAny_eqBool_str h
 «strs»:=λk x t v h=>by
  rcases Zbo h with ⟨i,u,rfl,e⟩|⟨y,u,rfl,e⟩
  .exact nomatch e
  .injection e with e1 _
   subst e1;cases v <;> rfl
inductive V where
 | non|bl (b:Bool)|int (i:Int)|str (x:Str)|byt (b:Array UInt8)|flt (b:UInt64)|ref (a:Addr)|ty (n:String)
 deriving DecidableEq
def RelV:V->Value->Prop
 | .non,u=>u=Value.none
 | .bl b,u=>u=Value.bool b
 | .int i,u=>∃ t,u=Value.int i t
 | .str x,u=>∃ t,u=Value.str x t
 | .byt b,u=>∃ t,u=Value.bytes b t
 | .flt b,u=>∃ t,u=Value.float b t
 | .ref a,u=>u=Value.ref a
 | .ty n,u=>u=Value.type n
abbrev Vals:List V->List Value->Prop:=Paired RelV
theorem Vals.length {xs:List V}{us:List Value}(r:Vals xs us):xs.length=us.length:=Paired.length r
theorem Vals.get:∀ {xs:List V} {us:List Value} {i:Nat} {x:V},Vals xs us->xs[i]?=some x->∃ u,us[i]?=some u/\RelV x u
 | _,_,_,_,.nil,e=>by simp at e
 | _,_,0,_,.cons r _,e=>by simp at e;subst e;exact⟨_,rfl,r⟩
 | _,_,i+1,x,.cons _ t,e=>by
  refine Zae (Vals.get (i:=i) (x:=x) t (by simpa using e)) λu h1 h2=>?_;exact⟨u,by simpa using h1,h2⟩
theorem Vals.set {x:V}{u:Value}(r:RelV x u):∀ {xs:List V} {us:List Value} (i:Nat),Vals xs us->Vals (xs.set i x) (us.set i u)
 | _,_,_,.nil=>.nil
 | _,_,0,.cons _ t=>.cons r t
 | _,_,i+1,.cons q t=>.cons q (Vals.set r i t)
theorem Vals.append:∀ {xs ys:List V} {us ws:List Value},Vals xs us->Vals ys ws->Vals (xs++ys) (us++ws)
 | _,_,_,_,.nil,s=>s
 | _,_,_,_,.cons r t,s=>.cons r (Vals.append t s)
theorem Vals.take:∀ {xs:List V} {us:List Value} (n:Nat),Vals xs us->Vals (xs.take n) (us.take n)
 | _,_,0,_=>.nil
 | _,_,_+1,.nil=>.nil
 | _,_,n+1,.cons r t=>.cons r (Vals.take n t)
theorem Vals.drop:∀ {xs:List V} {us:List Value} (n:Nat),Vals xs us->Vals (xs.drop n) (us.drop n)
 | _,_,0,r=>r
 | _,_,_+1,.nil=>.nil
 | _,_,n+1,.cons _ t=>Vals.drop n t
def RelO:Option V->Option Value->Prop
 | some v,some u=>RelV v u
 | none,none=>True
 | _,_=>False
def KV {κ:Type}:List (κ×V)->List (κ×Value)->Prop:=Paired λ(p:κ×V) (q:κ×Value)=>p.1=q.1/\RelV p.2 q.2
def kV:Key->V
 | .inl i=>.int i
 | .inr x=>.str x
inductive HO where
  | lst (xs:List V)
  | tup (xs:List V)
  | dK (kvs:List (Key×V))|dT (kvs:List (List Key×V))
  | set (S:Int->Bool) (n:Nat)
  | ins (C dx:Addr) (fs:List (Str×V))
  | own (x:Addr)
  | xd (fs:List (Str×V))
  | met (f x:Addr)
  | rng (lo hi:Int)
  | frz (o:Obj) (u:HO)
  | tbl (ps:Array Value)
  | ext (φ:Heap->Prop)
  | tab (l c:Int) (q:Str)
abbrev Hp:=Addr->Option HO
def upd (H:Hp)(a:Addr)(o:HO):Hp:=λb=>if b=a then some o else H b
theorem Zaa {H:Hp}{a:Addr}{o:HO}:upd H a o a=some o:=by unfold upd;rw[if_pos rfl]
theorem Zal {H:Hp}{a b:Addr}{o:HO}(h:b≠a):upd H a o b=H b:=by unfold upd;rw[if_neg h]
theorem Zfd {H:Hp}{a b:Addr}{o u:HO}(h:H a=some o)(h':H b=some u)(d:o≠u):a≠b:=by
 intro e;subst e;rw[h] at h';exact d (Jbn h')
theorem Zai {H:Hp}{a b:Addr}{o:HO}(h:H a=some o)(h':H b=none):a≠b:=by
 intro e;subst e;rw[h] at h';cases h'
section
variable (P:Program)(w:World)
def ObjOk (H:Hp)(h:Heap)(a:Addr):HO->Prop
 | .lst xs=>xs.length<=sizeLine/\∃ (its:List Value) (n:Nat),Vals xs its/\h.get? a=some { cls:=.type "list",data:=.seq its.toArray n }
 | .tup xs=>xs.length<=sizeLine/\∃ its:List Value,Vals xs its/\IsTup h a its.toArray
 | .dK kvs=>kvs.length<=sizeLine/\(a == sysModules)=false/\∃ vs,KV kvs vs/\h.DictOf (Zna P w) a vs
 | .dT kvs=>kvs.length<=sizeLine/\(a == sysModules)=false/\∃ xs:List (List Key×Addr×Value),
   Paired (λ(p:List Key×V) (q:List Key×Addr×Value)=>p.1=q.1/\H q.2.1=some (.tup (p.1.map kV))/\RelV p.2 q.2.2) kvs xs /\
   ∃ o es ep,h.get? a=some o/\o.ExactDict/\o.data=.dict es ep/\es.toList=xs.map (entryOfKey (tupleKind (Zna P w)))/\(xs.map (·.1)).Nodup
 | .set S n=>h.SetOf (intKind P w) a S n
 | .ins C dx fs=>H dx=some (.own a)/\fs.length<=1000/\dx≠a/\h.get? a=some (PySem.W.instObj C dx) /\
   ∃ mA,h.Ns1 dx mA/\(∀ f,RelO (fs.lookup f) (mA f))/\PySem.Within mA (fs.map (·.1))
 | .own _=>∃ o,h.get? a=some o
 | .xd fs=>∃ mA,h.Ns1 a mA/\∀ f,RelO (fs.lookup f) (mA f)
 | .rng lo hi=>∃ t u v,h.get? a=some { cls:=.type "range",data:=.fields #[.int lo t,.int hi u,.int 1 v] }
 | .frz o u=>h.get? a=some o/\ObjOk H h a u
 | .tbl ps=>h.get? a=some { cls:=.none,data:=.fields ps }
 | .met f x=>h.get? a=some (PySem.W.methodObj (.ref f) (.ref x))
 | .ext φ=>φ h/\(∃ o,h.get? a=some o)/\∀ h1 h2:Heap,φ h1->(∀ o,h1.get? a=some o->h2.get? a=some o)->φ h2
 | .tab l c q=>h.get? a=some { cls:=.none,data:=.fields #[] }\/∃ c' oc vs t,h.get? a=some { cls:=.none,data:=.fields #[rawInt l,rawInt c,.ref c'] }/\c'≠a/\H c'=some (.frz oc (.own a))/\oc.data=.fields vs/\vs[1]?=some (.str q t)
def HOk (H:Hp)(h:Heap):Prop:=∀ a o,H a=some o->ObjOk P w H h a o
end
section
variable {P:Program}{w:World}{H H':Hp}{h h':Heap}{a:Addr}{o:HO}
theorem ObjOk.lt (x:ObjOk P w H h a o):a<h.objs.size:=by
 cases o with
 | lst xs=>obtain⟨_,_,_,_,e⟩:=x;exact Jan e
 | tup xs=>obtain⟨_,_,_,p⟩:=x;exact p.lt
 | dK kvs=>obtain⟨_,_,_,_,o,_,_,e,_⟩:=x;exact Jan e
 | dT kvs=>obtain⟨_,_,_,_,o,_,_,e,_⟩:=x;exact Jan e
 | set S n=>obtain⟨o,_,_,_,e,_⟩:=x;exact Jan e
 | ins C dx fs=>obtain⟨_,_,_,e,_⟩:=x;exact Jan e
 | own y=>obtain⟨_,e⟩:=x;exact Jan e
 | xd fs=>obtain⟨_,⟨_,_,_,e,_⟩,_⟩:=x;exact Jan e
 | rng lo hi=>obtain⟨_,_,_,e⟩:=x;exact Jan e
 | frz ob u=>obtain⟨e,_⟩:=x;exact Jan e
 | tbl ps=>exact Jan (show h.get? a=some _ from x)
 | met f y=>exact Jan (show h.get? a=some _ from x)
 | ext φ=>obtain⟨_,⟨_,e⟩,_⟩:=x;exact Jan e
 | tab l c q=>
  rcases x with e|⟨_,_,_,_,e,_⟩
  .exact Jan e
  .exact Jan e
theorem Paired.mapP {α β:Type}{F G:α->β->Prop}:∀ {l₁:List α} {l₂:List β},Paired F l₁ l₂->(∀ a b,F a b->G a b)->Paired G l₁ l₂
 | _,_,.nil,_=>.nil
 | _,_,.cons r t,f=>.cons (f _ _ r) (Paired.mapP t f)
theorem ObjOk.stay (x:ObjOk P w H h a o)(k:∀ b u,(b=a\/H b=some (.own a))->h.get? b=some u->h'.get? b=some u)(ho:∀ b,H b=some (.own a)->H' b=some (.own a))(ht:∀ b xs,H b=some (.tup xs)->H' b=some (.tup xs))(hz:∀ b o' u,H b=some (.frz o' u)->H' b=some (.frz o' u)):ObjOk P w H' h' a o:=by
 induction o with
 | lst xs=>obtain⟨z,its,n,r,e⟩:=x;exact⟨z,its,n,r,k _ _ (.inl rfl) e⟩
 | tup xs=>obtain⟨z,its,r,ob,e,c⟩:=x;exact⟨z,its,r,ob,k _ _ (.inl rfl) e,c⟩
 | dK kvs=>obtain⟨z,y,vs,r,ob,es,ep,e,c⟩:=x;exact⟨z,y,vs,r,ob,es,ep,k _ _ (.inl rfl) e,c⟩
 | dT kvs=>
  refine Zba x λz y e916=>?_;clear x;obtain⟨xs,r,ob,es,ep,e,c⟩:=e916;exact⟨z,y,xs,Paired.mapP r λp q z=>⟨z.1,ht _ _ z.2.1,z.2.2⟩,ob,es,ep,k _ _ (.inl rfl) e,c⟩
 | set S n=>obtain⟨ob,es,ep,t,e,c⟩:=x;exact⟨ob,es,ep,t,k _ _ (.inl rfl) e,c⟩
 | ins C dx fs=>
  refine Zcy x λd z ne e e917=>?_;clear x;obtain⟨mA,⟨od,es,ep,e2,c⟩,r⟩:=e917;exact⟨ho _ d,z,ne,k _ _ (.inl rfl) e,mA,⟨od,es,ep,k _ _ (.inr d) e2,c⟩,r⟩
 | own y=>obtain⟨ob,e⟩:=x;exact⟨ob,k _ _ (.inl rfl) e⟩
 | xd fs=>obtain⟨mA,⟨od,es,ep,e,c⟩,r⟩:=x;exact⟨mA,⟨od,es,ep,k _ _ (.inl rfl) e,c⟩,r⟩
 | rng lo hi=>obtain⟨t,u,v,e⟩:=x;exact⟨t,u,v,k _ _ (.inl rfl) e⟩
 | frz ob u ih=>obtain⟨e,q⟩:=x;exact⟨k _ _ (.inl rfl) e,ih q⟩
 | tbl ps=>
  have e:h.get? a=some { cls:=.none,data:=.fields ps }:=x;show h'.get? a=some { cls:=.none,data:=.fields ps };exact k a _ (.inl rfl) e
 | met f y=>
  have e:h.get? a=some (PySem.W.methodObj (.ref f) (.ref y)):=x;show h'.get? a=some (PySem.W.methodObj (.ref f) (.ref y));exact k a _ (.inl rfl) e
 | ext φ=>obtain⟨p,⟨o,e⟩,st⟩:=x;exact⟨st _ _ p λo q=>k _ _ (.inl rfl) q,⟨o,k _ _ (.inl rfl) e⟩,st⟩
 | tab l c q=>
  rcases x with e|⟨c',oc,vs,t,e,ne,e2,r⟩
  .exact .inl (k _ _ (.inl rfl) e)
  .exact .inr ⟨c',oc,vs,t,k _ _ (.inl rfl) e,ne,hz _ _ _ e2,r⟩
theorem HOk.lt (x:HOk P w H h)(e:H a=some o):a<h.objs.size:=(x a o e).lt
theorem HOk.fresh (x:HOk P w H h)(e:h.objs.size<=a):H a=none:=by
 cases q:H a with
 | none=>rfl
 | some u=>exact absurd (Jaq (x.lt q) e) (Jb4 _)
theorem HOk.kept (x:HOk P w H h)(k:∀ b u,h.get? b=some u->h'.get? b=some u):HOk P w H h':=λa o e=>
 (x a o e).stay (λb u _ q=>k b u q) (λ_ q=>q) (λ_ _ q=>q) λ_ _ _ q=>q
theorem HOk.laid (x:HOk P w H h)(k:∀ b u,h.get? b=some u->h'.get? b=some u)(hp:h.objs.size<=a)(new:ObjOk P w (upd H a o) h' a o):HOk P w (upd H a o) h':=λb u e=>by
 have hn:=x.fresh hp;by_cases hb:b=a
 .subst hb;rw[Zaa] at e;cases e;exact new
 .rw [Zal hb] at e;exact (x b u e).stay (λc v _ q=>k c v q) (λc q=>by rw[Zal (Zai q hn)];exact q) (λc xs q=>by rw[Zal (Zai q hn)];exact q) λc _ _ q=>by rw[Zal (Zai q hn)];exact q
end
def Rd (H:Hp)(a:Addr)(u:HO):Prop:=H a=some u\/∃ o,H a=some (.frz o u)
theorem Rd.ok {P:Program}{w:World}{H:Hp}{h:Heap}{a:Addr}{u:HO}(r:Rd H a u)(x:HOk P w H h):ObjOk P w H h a u:=by
 rcases r with r|⟨o,r⟩
 .exact x a u r
 .obtain ⟨_,q⟩:=x a _ r;exact q
def Mut:Option HO->Prop
 | some (.lst _)=>True
 | some (.dK _)=>True
 | some (.dT _)=>True
 | some (.set _ _)=>True
 | some (.ins _ _ _)=>True
 | some (.ext _)=>True
 | some (.tab _ _ _)=>True
 | _=>False
section
variable {P:Program}{w:World}{H:Hp}{h h':Heap}{x e:Addr}{o':HO}
theorem HOk.write (ok:HOk P w H h)(mu:Mut (H x))(he:e=x\/H e=some (.own x))(k:∀ b u,b≠e->h.get? b=some u->h'.get? b=some u)(heo:∃ u,h'.get? e=some u)(new:ObjOk P w (upd H x o') h' x o'):HOk P w (upd H x o') h':=λb u q=>by
 have nown:∀ c y,H c=some (.own y)->c≠x:=λc y r z=>by subst z;rw[r] at mu;exact mu
 have ntup:∀ c xs,H c=some (.tup xs)->c≠x:=λc xs r z=>by subst z;rw[r] at mu;exact mu
 have nfrz:∀ c o' u',H c=some (.frz o' u')->c≠x:=λc o' u' r z=>by subst z;rw[r] at mu;exact mu
 by_cases hb:b=x
 .subst hb;rw[Zaa] at q;cases q;exact new
 .rw [Zal hb] at q;by_cases hbe:b=e
  .have q':H b=some (.own x):=by
    rcases he with z|z
    .exact absurd (hbe.trans z) hb
    .rw [hbe];exact z
   rw[q] at q';cases q';obtain⟨v,hv⟩:=heo;exact⟨v,by rw[hbe];exact hv⟩
  .refine (ok b u q).stay (λc v hc r=>k c v ?_ r) (λc r=>by rw[Zal (nown c b r)];exact r) (λc xs r=>by rw[Zal (ntup c xs r)];exact r) λc o' u' r=>by rw[Zal (nfrz c o' u' r)];exact r
   rcases hc with rfl|hc
   .exact hbe
   .rintro rfl;rcases he with z|z
    .exact nown c b hc z
    .rw [hc] at z;cases z;exact hb rfl
end
structure Un (fs ex:List Addr)(H H':Hp)(h h':Heap):Prop where
 keep:∀ b o,h.get? b=some o->H b=none->b∉fs->b∉ex->h'.get? b=some o
 slot:∀ b o,h.get? b=some o->H b=none->b∈fs->b∉ex->∃ sl,h'.get? b=some { o with slots:=sl }
 free:∀ b o,h.get? b=some o->H b=none->b∉ex->H' b=none
 there:∀ b o,h.get? b=some o->b∉ex->∃ o',h'.get? b=some o'
 tups:∀ b xs,H b=some (.tup xs)->H' b=some (.tup xs)
 frzs:∀ b o u,H b=some (.frz o u)->H' b=some (.frz o u)
 tbls:∀ b ps,H b=some (.tbl ps)->∃ more,H' b=some (.tbl (ps++more))
section
variable {fs fs' ex ex':List Addr}{H H1 H2:Hp}{h h1 h2 h':Heap}{a x e:Addr}{o:HO}
theorem Un.any (u:Un fs ex H H1 h h1){b:Addr}{ob:Obj}(q:h.get? b=some ob)(n:H b=none)(hx:b∉ex):∃ sl,h1.get? b=some { ob with slots:=sl }:=by
 by_cases hb:b∈fs
 .exact u.slot b ob q n hb hx
 .exact ⟨ob.slots,u.keep b ob q n hb hx⟩
theorem Un.kept (k:∀ b u,h.get? b=some u->h'.get? b=some u):Un fs ex H H h h':=
 ⟨λb ob q _ _ _=>k b ob q,λb ob q _ _ _=>⟨ob.slots,k b ob q⟩,λ_ _ _ n _=>n,λb ob q _=>⟨ob,k b ob q⟩,λ_ _ q=>q,λ_ _ _ q=>q,λ_ ps q=>⟨#[],by rw[q];simp⟩⟩
theorem Un.refl:Un fs ex H H h h:=Un.kept λ_ _ q=>q
theorem Un.laid (k:∀ b u,h.get? b=some u->h'.get? b=some u)(hp:h.objs.size<=a)(hn:H a=none):Un fs ex H (upd H a o) h h' where
 keep:=λb u q _ _ _=>k b u q
 slot:=λb u q _ _ _=>⟨u.slots,k b u q⟩
 free:=λb u q n _=>by rw[Zal (Jbs (Jaq (Jan q) hp))];exact n
 there:=λb u q _=>⟨u,k b u q⟩
 tups:=λb xs q=>by rw[Zal (Zai q hn)];exact q
 frzs:=λb u xs q=>by rw[Zal (Zai q hn)];exact q
 tbls:=λb ps q=>⟨#[],by rw[Zal (Zai q hn),q];simp⟩
theorem Un.write (mu:Mut (H x))(he:e=x\/H e=some (.own x))(k:∀ b u,b≠e->h.get? b=some u->h'.get? b=some u)(heo:∃ u,h'.get? e=some u):Un fs ex H (upd H x o) h h':=by
 have hx:∀ b,H b=none->b≠x:=λb n z=>by subst z;rw[n] at mu;exact mu
 have hb:∀ b,H b=none->b≠e:=λb n z=>by
  subst z;rcases he with r|r
  .exact hx b n r
  .rw [n] at r;cases r
 have hm:∀ b u,H b=some u->¬ Mut (some u)->b≠x:=λb u q nm z=>by subst z;rw[q] at mu;exact nm mu
 refine⟨λb u q n _ _=>k b u (hb b n) q,λb u q n _ _=>⟨u.slots,k b u (hb b n) q⟩,λb u q n _=>by rw[Zal (hx b n)];exact n,λb u q _=>?_,
  λb xs q=>by rw[Zal (hm b _ q λz=>z)];exact q,λb u xs q=>by rw[Zal (hm b _ q λz=>z)];exact q,λb ps q=>⟨#[],by rw[Zal (hm b _ q λz=>z),q];simp⟩⟩
 by_cases hbe:b=e
 .subst hbe;exact heo
 .exact ⟨u,k b u hbe q⟩
end
def trk (h:Heap)(H:Hp):List Addr:=(List.range h.objs.size).filter λa=>(H a).isSome
def Zs3 (h:Heap)(H:Hp):Heap:=PySem.W.hideAll h (trk h H)
theorem Zr6 (h:Heap)(H:Hp):(Zs3 h H).objs.size=h.objs.size:=PySem.W.hideAll_size _ _
theorem Zuw {h:Heap}{H:Hp}{b:Addr}{o:Obj}(e:h.get? b=some o)(n:H b=none):(Zs3 h H).get? b=some o:=
 PySem.W.hideAll_get _ e λhm=>by
  have q:(H b).isSome=true:=(List.mem_filter.mp hm).2;rw[n] at q;simp at q
theorem of_hidT {h:Heap}{H:Hp}{b:Addr}{o:Obj}(e:(Zs3 h H).get? b=some o):h.get? b=some o/\H b=none:=by
 have e':h.get? b=some o:=PySem.W.of_hideAll (trk h H) e;refine⟨e',?_⟩;cases q:H b with
 | none=>rfl
 | some x=>
  have hm:b∈trk h H:=List.mem_filter.mpr ⟨Ja6.mpr (Jan e'),by simp[q]⟩;have z:(Zs3 h H).get? b=none:=PySem.W.hideAll_none (trk h H) hm;rw[z] at e;cases e
def allNews (g h:Heap)(L:Addr):List (Addr×Obj):=(List.range h.objs.size).filterMap λa=>if a=L\/(g.get? a).isSome=true then none else (h.get? a).map λo=>(a,o)
def rest (g h:Heap)(L d:Addr):List (Addr×Obj):=(allNews g h L).filter λp=>decide (p.1≠d)
structure Mod (K:Frag)(mg:Str->Option Value)(base:Heap):Prop where
 kin:K.In base
 glob:base.Ns mainGlobals mg
 blt:∃ mb,base.Ns builtinsNs mb/\∀ x:Str,x ≠ "__name__" -> mb x=bootBuiltins x
 nolimit:base.NoLimit
 seer:base.NoSeer
 bmain:∃ bm ob,mg "__builtins__" = some (.ref bm)/\bm≠builtinsNs/\base.get? bm=some ob/\ob.cls=.type "module" /\ ob.dict=some builtinsNs/\ob.data=.plain
def Seen (l:List Env):Prop:=∃ e r,l=e::r/\e.scope.isGenerator=false/\e.scope.isCoroutine=false/\e.builtins=builtinsNs/\e.globals=mainGlobals
structure Cx where
 prog:Program
 w:World
 K:Frag
 mg:Str->Option Value
 base:Heap
 A:Around
 N:List Str
 s₀:Shared
 H₀:Hp
 env:Env
 outer:List Env
 stack:List Env
 ex:List Addr
 fn:Str->Bool
 calm:Bool
 pn:List (Addr×Obj)
 xe:Value->Shared->Prop
def frs (l:List Env):List Addr:=l.filterMap (·.frame)
abbrev Cx.fs (X:Cx):List Addr:=frs X.outer
def Vis (sc:Scope)(x:Str):Prop:=sc.names.lookup x=some .local\/sc.names.lookup x=some .cell\/sc.names.lookup x=some .free
def Loc (sc:Scope)(x:Str):Prop:=sc.names.lookup x=some .local\/sc.names.lookup x=some .cell
def Look (env:Env)(h:Heap)(m:Str->Option Value)(x:Str)(u:Value):Prop:=
 (env.kindOf x=some .local/\m x=some u)\/((env.kindOf x=some .cell\/env.kindOf x=some .free)/\∃ c,env.cells.lookup x=some c/\h.IsCell c (some u))
structure Cx.Ok (X:Cx):Prop where
 mod:Mod X.K X.mg X.base
 kind:X.env.scope.kind=.function
 glob:X.env.globals=mainGlobals
 blt:X.env.builtins=builtinsNs
 above:X.s₀.heap.objs.size<=X.env.locals
 inj:∀ x y c,X.env.cells.lookup x=some c->X.env.cells.lookup y=some c->x=y
 has:∀ x,(X.env.kindOf x=some .cell\/X.env.kindOf x=some .free)->∃ c,X.env.cells.lookup x=some c
 cab:∀ x c,X.fn x=true->X.env.cells.lookup x=some c->X.s₀.heap.objs.size<=c
 hd:X.calm=true->X.A.handled=none
 frames:X.A.frames=some X.stack
 stk:X.stack=X.outer\/(X.stack=X.env::X.outer/\X.env.frame=some X.env.locals)
 exf:∀ b∈X.ex,b≠X.env.locals/\∀ x c,X.env.cells.lookup x=some c->c≠b
 bs:∀ b o,X.base.get? b=some o->X.s₀.heap.get? b=some o/\X.H₀ b=none
 bsz:X.base.objs.size<=X.s₀.heap.objs.size
 noex:∀ b o,X.base.get? b=some o->b∉X.ex
 exfs:∀ b∈X.ex,b∉X.fs
 funs:X.s₀.heap.FunFrames X.base X.outer
 frf:∀ b∈X.fs,X.H₀ b=none
 top:Seen X.stack
structure Inv (X:Cx)(pins:List (Addr×Obj))(σ:List (Option V))(H:Hp)(s:Shared):Prop where
 ok:X.Ok
 os:s.os=X.s₀.os
 bare:AllBare s.gens
 base:Un X.fs X.ex X.H₀ H X.s₀.heap s.heap
 loc:∃ m,s.heap.Ns X.env.locals m/\∀ (i:Nat) (x:Str) (v:V),X.N[i]?=some x->σ[i]?=some (some v)->Vis X.env.scope x->∃ u,RelV v u/\Look X.env s.heap m x u
 cell:∀ x c,X.env.cells.lookup x=some c->∃ v,s.heap.IsCell c v
 free:H X.env.locals=none
 freeC:∀ x c,X.env.cells.lookup x=some c->H c=none
 pin:∀ p∈X.pn++pins,s.heap.get? p.1=some p.2/\H p.1=none/\p.1≠X.env.locals/\p.1∉X.fs/\∀ v,p.2.data≠.cell v
 hok:HOk X.prog X.w H s.heap
 len:σ.length=X.N.length
section
variable {X:Cx}{pins:List (Addr×Obj)}{σ:List (Option V)}{H H':Hp}{s:Shared}{h':Heap}
theorem Cx.Ok.nofr (ok:X.Ok){b:Addr}{o:Obj}(e:X.base.get? b=some o):b∉X.fs:=λhb=>by
 have:=(ok.funs.mem hb).1;rw[e] at this;cases this
theorem Inv.bs (I:Inv X pins σ H s):∀ b o,X.base.get? b=some o->s.heap.get? b=some o/\H b=none:=λb o e=>
 ⟨I.base.keep b o (I.ok.bs b o e).1 (I.ok.bs b o e).2 (I.ok.nofr e) (I.ok.noex b o e),I.base.free b o (I.ok.bs b o e).1 (I.ok.bs b o e).2 (I.ok.noex b o e)⟩
theorem Inv.bk (I:Inv X pins σ H s):∀ b o,X.base.get? b=some o->s.heap.get? b=some o:=λb o e=>(I.bs b o e).1
theorem Inv.mod (I:Inv X pins σ H s):Mod X.K X.mg X.base:=I.ok.mod
theorem Inv.kIn (I:Inv X pins σ H s):X.K.In s.heap:=I.ok.mod.kin.keeps I.bk
theorem Inv.nolimit (I:Inv X pins σ H s):s.heap.NoLimit:=I.ok.mod.nolimit.keeps I.bk
theorem Inv.long (I:Inv X pins σ H s)(ht:X.prog.given.tree=none)(hd:X.A.depth+Builtin.pylongFrames<recursionLimit):PySem.PylongRoom (model X.prog X.w) X.A s:=by
 refine Zlj I.ok.top λe r hs h1 h2 h3 h4=>?_;exact PySem.PylongRoom.of I.nolimit hd (PySem.SeerAt.of (I.ok.mod.seer.keeps I.bk) ht (by rw[I.ok.frames,hs]) h1 h2 h3 h4)
theorem Inv.fr (I:Inv X pins σ H s):∃ m,Fr X.base X.env.locals s.heap m:=
 let ⟨m,hn,_⟩:=I.loc
 ⟨m,hn,I.bk,Jbh I.ok.bsz I.ok.above⟩
theorem Inv.lt (I:Inv X pins σ H s):X.env.locals<s.heap.objs.size:=let ⟨_,hn,_⟩:=I.loc;hn.lt
theorem Inv.sz (I:Inv X pins σ H s):X.s₀.heap.objs.size<=s.heap.objs.size:=Jbh I.ok.above (Jbd I.lt)
theorem Inv.nofs (I:Inv X pins σ H s){a:Addr}(h:s.heap.objs.size<=a):a∉X.fs:=λhb=>by
 obtain⟨_,o,ho,_⟩:=I.ok.funs.mem hb;exact absurd (Jaq (Jan ho) (Jbh I.sz h)) (Jb4 _)
theorem Inv.cne (I:Inv X pins σ H s):∀ x c,X.env.cells.lookup x=some c->c≠X.env.locals:=λx c e z=>by
 obtain⟨v,o,ho,hd⟩:=I.cell x c e;refine Zae I.loc λm e918 _=>?_;obtain⟨o',es,ep,ho',hd',_⟩:=e918;rw[z,ho'] at ho;cases ho;rw[hd'] at hd;cases hd
theorem Inv.funs (I:Inv X pins σ H s):s.heap.FunFrames X.base X.outer:=by
 have all:∀ (l:List Env),(∀ b∈frs l,b∈X.fs)->X.s₀.heap.FunFrames X.base l->s.heap.FunFrames X.base l:=by
  intro l
  induction l with
  | nil=>intro _ _;trivial
  | cons env r ih=>
   intro hs hl;refine Zba hl λhk e919 hr=>?_;clear hl;obtain⟨L,o,hf,hn,ho,hd⟩:=e919;have hL:L∈X.fs:=hs L (by unfold frs;rw[Jdz,hf];exact Jcd);obtain⟨sl,e⟩:=I.base.slot L o ho (I.ok.frf L hL) hL λz=>I.ok.exfs L z hL;exact⟨hk,⟨L,_,hf,hn,e,hd⟩,ih (λb hb=>hs b (by unfold frs;rw[Jdz,hf];exact Jbl _ hb)) hr⟩
 exact all X.outer (λ_ hb=>hb) I.ok.funs
theorem Inv.stack (I:Inv X pins σ H s):s.heap.FunFrames X.base X.stack:=by
 rcases I.ok.stk with e|⟨e,hf⟩
 .rw [e];exact I.funs
 .rw [e];refine Zae I.loc λm hn _=>?_;refine .cons (by rw[I.ok.kind];decide) hf hn ?_ I.funs;exact Heap.get?_none_of_le (Jbh I.ok.bsz I.ok.above)
theorem Inv.stkSub (I:Inv X pins σ H s):∀ b∈frs X.stack,b∈X.env.locals::X.fs:=λb hb=>by
 rcases I.ok.stk with e|⟨e,hf⟩
 .rw [e] at hb;exact Jbl _ hb
 .rw [e] at hb;unfold frs at hb;rw[Jdz,hf] at hb;exact hb
theorem Inv.stkFree (I:Inv X pins σ H s):∀ b∈frs X.stack,H b=none:=λb hb=>by
 rcases Ja5.mp (I.stkSub b hb) with e|hb
 .rw [e];exact I.free
 .obtain ⟨_,o,ho,_⟩:=I.ok.funs.mem hb;exact I.base.free b o ho (I.ok.frf b hb) λz=>I.ok.exfs b z hb
theorem Inv.step {g':Array GenState}{t':Nat}{d':Drawn}{ch:List Addr}(I:Inv X pins σ H s)(hch:∀ b∈ch,(b∈X.ex\/X.s₀.heap.objs.size<=b)/\b≠X.env.locals/\(∀ x c,X.env.cells.lookup x=some c->c≠b)/\∀ p∈X.pn++pins,p.1≠b)(keep:∀ b o,b≠X.env.locals->b∉X.fs->b∉ch->s.heap.get? b=some o->H b=none->h'.get? b=some o)(slot:∀ b o,b≠X.env.locals->b∈X.fs->b∉ch->s.heap.get? b=some o->H b=none->∃ sl,h'.get? b=some { o with slots:=sl })(free:∀ b o,b∉ch->s.heap.get? b=some o->H b=none->H' b=none)(there:∀ b o,b∉ch->s.heap.get? b=some o->∃ o',h'.get? b=some o')(tups:∀ b xs,H b=some (.tup xs)->H' b=some (.tup xs))(frzs:∀ b o u,H b=some (.frz o u)->H' b=some (.frz o u))(tbls:∀ b ps,H b=some (.tbl ps)->∃ more,H' b=some (.tbl (ps++more)))(ns:∀ m,s.heap.Ns X.env.locals m->h'.Ns X.env.locals m)(hok:HOk X.prog X.w H' h')(hg:AllBare g'):
  Inv X pins σ H' { s with heap:=h',gens:=g',drawn:=d',toks:=t' }:=by
 have neL:∀ b o,X.s₀.heap.get? b=some o->b≠X.env.locals:=λb o e=>Jbs (Jaq (Jan e) I.ok.above);have neC:∀ b o,X.s₀.heap.get? b=some o->b∉X.ex->b∉ch:=λb o e hx hb=>by
  rcases (hch b hb).1 with z|z
  .exact hx z
  .exact absurd (Jaq (Jan e) z) (Jb4 _)
 have cellK:∀ x c,X.env.cells.lookup x=some c->∀ v,s.heap.IsCell c v->h'.IsCell c v:=λx c e v ⟨o,ho,hd⟩=>by
  have nch:c∉ch:=λz=>(hch c z).2.2.1 x c e rfl;by_cases hc:c∈X.fs
  .obtain ⟨sl,q⟩:=slot c o (I.cne x c e) hc nch ho (I.freeC x c e);exact⟨_,q,hd⟩
  .exact ⟨o,keep c o (I.cne x c e) hc nch ho (I.freeC x c e),hd⟩
 refine⟨I.ok,I.os,hg,⟨λb o e n hb hx=>?_,λb o e n hb hx=>?_,λb o e n hx=>?_,λb o e hx=>?_,λb xs e=>tups b xs (I.base.tups b xs e),λb o xs e=>frzs b o xs (I.base.frzs b o xs e),λb ps e=>?_⟩,?_,λx c e=>?_,?_,λx c e=>?_,λp hp=>?_,hok,I.len⟩
 .exact keep b o (neL b o e) hb (neC b o e hx) (I.base.keep b o e n hb hx) (I.base.free b o e n hx)
 .obtain ⟨sl,e1⟩:=I.base.slot b o e n hb hx;obtain⟨sl',e2⟩:=slot b _ (neL b o e) hb (neC b o e hx) e1 (I.base.free b o e n hx);exact⟨sl',e2⟩
 .obtain ⟨o',e1⟩:=I.base.there b o e hx;exact free b o' (neC b o e hx) e1 (I.base.free b o e n hx)
 .obtain ⟨o',e1⟩:=I.base.there b o e hx;exact there b o' (neC b o e hx) e1
 .obtain ⟨m1,e1⟩:=I.base.tbls b ps e;obtain⟨m2,e2⟩:=tbls b _ e1;exact⟨m1++m2,by rw[e2,Array.append_assoc]⟩
 .refine Zae I.loc λm hn hl=>?_;refine⟨m,ns m hn,λi x v e1 e2 e3=>?_⟩;refine Zae (hl i x v e1 e2 e3) λu r l=>?_;refine⟨u,r,?_⟩;rcases l with l|⟨k,c,e,z⟩
  .exact .inl l
  .exact .inr ⟨k,c,e,cellK x c e _ z⟩
 .obtain ⟨v,z⟩:=I.cell x c e;exact⟨v,cellK x c e v z⟩
 .refine Zae I.loc λm e920 _=>?_;obtain⟨o,_,_,ho,_⟩:=e920;exact free _ o (λz=>(hch _ z).2.1 rfl) ho I.free
 .obtain ⟨v,o,ho,hd⟩:=I.cell x c e;exact free c o (λz=>(hch c z).2.2.1 x c e rfl) ho (I.freeC x c e)
 .refine Zcy (I.pin p hp) λe n ne nf d=>?_;have nch:p.1∉ch:=λz=>(hch p.1 z).2.2.2 p hp rfl;exact⟨keep p.1 p.2 ne nf nch e n,free p.1 p.2 nch e n,ne,nf,d⟩
theorem Inv.un {t':Nat}(I:Inv X pins σ H s)(u:Un X.fs [] H H' s.heap h')(hok:HOk X.prog X.w H' h'):Inv X pins σ H' { s with heap:=h',toks:=t' }:=by
 refine Zae (id I.loc) λm e921 _=>?_;obtain⟨o,es,ep,ho,r⟩:=e921;obtain⟨sl,hL⟩:=u.any ho I.free (by simp);exact I.step (g':=s.gens) (d':=s.drawn) (ch:=[]) (λ_ z=>nomatch z) (λb o _ hb _ e n=>u.keep b o e n hb (by simp)) (λb o _ hb _ e n=>u.slot b o e n hb (by simp)) (λb o _ e n=>u.free b o e n (by simp)) (λb o _ e=>u.there b o e (by simp)) u.tups u.frzs u.tbls (λm' hm=>by
  refine Zhc hm λo' es' ep' ho' r'=>?_;clear hm;rw[ho] at ho';cases ho';exact⟨_,es',ep',hL,r'⟩) hok I.bare
theorem Inv.call {g':Array GenState}{t':Nat}{d':Drawn}{ch:List Addr}(I:Inv X pins σ H s)(u:Un (frs X.stack) ch H H' s.heap h')(hok:HOk X.prog X.w H' h')(hg:AllBare g')(hch:∀ b∈ch,(b∈X.ex\/X.s₀.heap.objs.size<=b)/\b≠X.env.locals/\(∀ x c,X.env.cells.lookup x=some c->c≠b)/\∀ p∈X.pn++pins,p.1≠b):
  Inv X pins σ H' { s with heap:=h',gens:=g',drawn:=d',toks:=t' }:=by
 refine Zae (id I.loc) λm e922 _=>?_;obtain⟨o,es,ep,ho,r⟩:=e922;obtain⟨sl,hL⟩:=u.any ho I.free λz=>(hch _ z).2.1 rfl;exact I.step (ch:=ch) hch (λb o hL hb hc e n=>u.keep b o e n (λz=>(Ja5.mp (I.stkSub b z)).elim hL hb) hc) (λb o _ _ hc e n=>u.any e n hc) (λb o hc e n=>u.free b o e n hc) (λb o hc e=>u.there b o e hc) u.tups u.frzs u.tbls (λm' hm=>by
  refine Zhc hm λo' es' ep' ho' r'=>?_;clear hm;rw[ho] at ho';cases ho';exact⟨_,es',ep',hL,r'⟩) hok hg
theorem Inv.turned {t':Nat}{it:Addr}(I:Inv X pins σ H s)(k:∀ b o,b≠it->s.heap.get? b=some o->h'.get? b=some o)(hn:H it=none)(hL:it≠X.env.locals)(h1:it∈X.ex\/X.s₀.heap.objs.size<=it)(h2:∀ x c,X.env.cells.lookup x=some c->c≠it)(h3:∀ p∈X.pn++pins,p.1≠it):Inv X pins σ H { s with heap:=h',toks:=t' }:=by
 have nit:∀ b u,H b=some u->b≠it:=λb u e z=>by rw[z,hn] at e;cases e
 refine I.step (g':=s.gens) (d':=s.drawn) (ch:=[it]) (λb hb=>?_) (λb o _ _ hc e _=>k b o (λz=>hc (by simp[z])) e) (λb o _ _ hc e _=>⟨o.slots,k b o (λz=>hc (by simp[z])) e⟩) (λ_ _ _ _ n=>n)
  (λb o hc e=>⟨o,k b o (λz=>hc (by simp[z])) e⟩) (λ_ _ e=>e) (λ_ _ _ e=>e) (λb ps e=>⟨#[],by rw[e];simp⟩) (λm hm=>?_) (λb u e=>?_) I.bare
 .have e:b=it:=by simpa using hb
  subst e;exact⟨h1,hL,h2,h3⟩
 .refine Zhc hm λo es ep ho r=>?_;clear hm;exact Zbv o es ep ⟨k _ o (Jen hL) ho,r⟩
 .refine (I.hok b u e).stay (λc v hc q=>k c v ?_ q) (λ_ q=>q) (λ_ _ q=>q) λ_ _ _ q=>q;rcases hc with z|z
  .rw [z];exact nit b u e
  .exact nit c _ z
theorem Inv.tok (I:Inv X pins σ H s)(t:Nat):Inv X pins σ H { s with toks:=t }:=I.un (h':=s.heap) (t':=t) Un.refl I.hok
theorem Inv.kept {t':Nat}(I:Inv X pins σ H s)(k:∀ b u,s.heap.get? b=some u->h'.get? b=some u):Inv X pins σ H { s with heap:=h',toks:=t' }:=I.un (Un.kept k) (I.hok.kept k)
theorem Inv.laid {a:Addr}{o:HO}{t':Nat}(I:Inv X pins σ H s)(k:∀ b u,s.heap.get? b=some u->h'.get? b=some u)(hp:s.heap.objs.size<=a)(new:ObjOk X.prog X.w (upd H a o) h' a o):
  Inv X pins σ (upd H a o) { s with heap:=h',toks:=t' }:=I.un (Un.laid k hp (I.hok.fresh hp)) (I.hok.laid k hp new)
theorem Inv.write {x e:Addr}{o:HO}{t':Nat}(I:Inv X pins σ H s)(mu:Mut (H x))(he:e=x\/H e=some (.own x))(k:∀ b u,b≠e->s.heap.get? b=some u->h'.get? b=some u)(heo:∃ u,h'.get? e=some u)(new:ObjOk X.prog X.w (upd H x o) h' x o):Inv X pins σ (upd H x o) { s with heap:=h',toks:=t' }:=I.un (Un.write mu he k heo) (I.hok.write mu he k heo new)
theorem Inv.pins_of {pins':List (Addr×Obj)}(I:Inv X pins σ H s)(h:∀ p∈pins',s.heap.get? p.1=some p.2/\H p.1=none/\p.1≠X.env.locals/\p.1∉X.fs/\∀ v,p.2.data≠.cell v):Inv X pins' σ H s:=
 ⟨I.ok,I.os,I.bare,I.base,I.loc,I.cell,I.free,I.freeC,λp hp=>(Ja1.mp hp).elim (λz=>I.pin p (List.mem_append_left _ z)) (h p),I.hok,I.len⟩
theorem Zok {N:List Str}(hN:N.Nodup){i j:Nat}{x:Str}(a:N[i]?=some x)(b:N[j]?=some x):i=j:=by
 obtain⟨h1,e1⟩:=Jaf.mp a;obtain⟨h2,e2⟩:=Jaf.mp b;exact (List.getElem_inj hN).mp (e1.trans e2.symm)
theorem Zln {M:Model}{A:Around}{E:Value->Shared->Prop}{i:Nat}{x:Str}{v:V}{u:Value}{Q:Unit->Shared->Prop}(I:Inv X pins σ H s)(hN:X.N.Nodup)(hi:X.N[i]?=some x)(hx:Loc X.env.scope x)(r:RelV v u)(h:∀ s',Inv X pins (σ.set i (some v)) H s'->(∃ a,Heap.SameBut a s.heap s'.heap/\(a=X.env.locals\/X.env.cells.lookup x=some a))->Q () s')(hf:X.fn x=true\/X.env.scope.names.lookup x=some .local:=by first|exact .inl rfl|exact .inr rfl|assumption):wpAny M A (storeName X.env x u) Q E s:=by
 refine Zae (id I.loc) λm hn hl=>?_;have hcls:(X.env.scope.kind == .class || (X.env.scope.kind == .module && X.env.locals != X.env.globals))=false:=by rw[I.ok.kind];rfl
 have hiσ:i<σ.length:=by rw[I.len];exact (Jaf.mp hi).1
 have cne:=I.cne;have tracked:∀ {a:Addr} {h':Heap},(∃ o,s.heap.get? a=some o/\H a=none)->Heap.SameBut a s.heap h'->HOk X.prog X.w H h':=λ{a h'} ha hs b ob e=>by
  refine Zae ha λ_ _ hfree=>?_;clear ha;refine (I.hok b ob e).stay (λc w' hc q=>(hs.2 c ?_).trans q) (λ_ q=>q) (λ_ _ q=>q) λ_ _ _ q=>q;rintro rfl;rcases hc with rfl|hc
  .rw [hfree] at e;cases e
  .rw [hfree] at hc;cases hc
 rcases hx with hk|hk
 .refine wpAny_storeName_local hk hn (λh' hn' hs=>?_) hcls;refine Zhc (id hn) λoL _ _ hoL _=>?_;refine h _ ⟨I.ok,I.os,I.bare,⟨λb o e n hb hx=>?_,λb o e n hb hx=>?_,I.base.free,λb o e hx=>?_,I.base.tups,I.base.frzs,I.base.tbls⟩,⟨_,hn',λj y v' e1 e2 e3=>?_⟩,λy c e=>?_,I.free,I.freeC,λp hp=>?_,tracked ⟨oL,hoL,I.free⟩ hs,by simpa using I.len⟩ ⟨_,hs,.inl rfl⟩
  .exact (hs.2 b (Jbs (Jaq (Jan e) I.ok.above))).trans (I.base.keep b o e n hb hx)
  .obtain ⟨sl,e1⟩:=I.base.slot b o e n hb hx;exact⟨sl,(hs.2 b (Jbs (Jaq (Jan e) I.ok.above))).trans e1⟩
  .obtain ⟨o',e1⟩:=I.base.there b o e hx;exact⟨o',(hs.2 b (Jbs (Jaq (Jan e) I.ok.above))).trans e1⟩
  .by_cases hj:j=i
   .subst hj;rw[hi] at e1;cases e1;rw[Jdk hiσ] at e2;cases e2;exact⟨u,r,.inl ⟨hk,by simp⟩⟩
   .rw [List.getElem?_set_ne (Jen hj)] at e2;refine Zae (hl j y v' e1 e2 e3) λu' r' q=>?_;refine⟨u',r',?_⟩;rcases q with ⟨k,e⟩|⟨k,c,e,z⟩
    .refine .inl ⟨k,?_⟩;have:y≠x:=λe=>hj (Zok hN e1 (e ▸ hi));simp[this,e]
    .exact .inr ⟨k,c,e,z.sameBut hs (cne y c e)⟩
  .obtain ⟨w',z⟩:=I.cell y c e;exact⟨w',z.sameBut hs (cne y c e)⟩
  .refine Zcy (I.pin p hp) λe n ne nf d=>?_;exact⟨(hs.2 p.1 ne).trans e,n,ne,nf,d⟩
 .have hfn:X.fn x=true:=by
   rcases hf with z|z
   .exact z
   .rw [z] at hk;cases hk
  obtain⟨c,hc⟩:=I.ok.has x (.inl hk);obtain⟨w',z⟩:=I.cell x c hc;refine wpAny_storeName_cell I.ok.kind hk hc z (λh' hc' hs=>?_);refine Zae (id z) λoc hoc hocd=>?_;refine h { s with heap:=h' } ⟨I.ok,I.os,I.bare,⟨λb o e n hb hx=>?_,λb o e n hb hx=>?_,I.base.free,λb o e hx=>?_,I.base.tups,I.base.frzs,I.base.tbls⟩,⟨m,hn.sameBut hs (Jen (cne x c hc)),λj y v' e1 e2 e3=>?_⟩,λy c' e=>?_,I.free,I.freeC,λp hp=>?_,tracked ⟨oc,hoc,I.freeC x c hc⟩ hs,by simpa using I.len⟩ ⟨c,hs,.inr hc⟩
  .exact (hs.2 b (Jbs (Jaq (Jan e) (I.ok.cab x c hfn hc)))).trans (I.base.keep b o e n hb hx)
  .obtain ⟨sl,e1⟩:=I.base.slot b o e n hb hx;exact⟨sl,(hs.2 b (Jbs (Jaq (Jan e) (I.ok.cab x c hfn hc)))).trans e1⟩
  .obtain ⟨o',e1⟩:=I.base.there b o e hx;exact⟨o',(hs.2 b (Jbs (Jaq (Jan e) (I.ok.cab x c hfn hc)))).trans e1⟩
  .by_cases hj:j=i
   .subst hj;rw[hi] at e1;cases e1;rw[Jdk hiσ] at e2;cases e2;exact⟨u,r,.inr ⟨.inl hk,c,hc,hc'⟩⟩
   .rw [List.getElem?_set_ne (Jen hj)] at e2;refine Zae (hl j y v' e1 e2 e3) λu' r' q=>?_;refine⟨u',r',?_⟩;rcases q with q|⟨k,c',e,z'⟩
    .exact .inl q
    .refine .inr ⟨k,c',e,z'.sameBut hs ?_⟩;rintro rfl;exact hj (Zok hN e1 (I.ok.inj _ _ _ e hc ▸ hi))
  .by_cases hcc:c'=c
   .subst hcc;exact⟨_,hc'⟩
   .obtain ⟨w2,z2⟩:=I.cell y c' e;exact⟨w2,z2.sameBut hs hcc⟩
  .refine Zcy (I.pin p hp) λe n ne nf d=>?_;refine⟨(hs.2 p.1 ?_).trans e,n,ne,nf,d⟩;intro q;rw[q,hoc] at e;have q':oc=p.2:=Jbn e;exact d w' (by rw[<- q'];exact hocd)
theorem Zia {M:Model}{A:Around}{E:Value->Shared->Prop}{i:Nat}{x:Str}{v:V}{u:Value}{Q:Unit->Shared->Prop}(I:Inv X pins σ H s)(hN:X.N.Nodup)(hi:X.N[i]?=some x)(hx:Loc X.env.scope x)(r:RelV v u)(h:∀ s',Inv X pins (σ.set i (some v)) H s'->Q () s')(hf:X.fn x=true\/X.env.scope.names.lookup x=some .local:=by first|exact .inl rfl|exact .inr rfl|assumption):wpAny M A (storeName X.env x u) Q E s:=
 Zln I hN hi hx r (λs' I' _=>h s' I') hf
theorem Inv.call' {s':Shared}{ch:List Addr}(I:Inv X pins σ H s)(ho:s'.os=s.os)(u:Un (frs X.stack) ch H H' s.heap s'.heap)(hok:HOk X.prog X.w H' s'.heap)(hg:AllBare s'.gens)(hch:∀ b∈ch,(b∈X.ex\/X.s₀.heap.objs.size<=b)/\b≠X.env.locals/\(∀ x c,X.env.cells.lookup x=some c->c≠b)/\∀ p∈X.pn++pins,p.1≠b):Inv X pins σ H' s':=by
 obtain⟨h',g',d',t',o'⟩:=s';have e:o'=s.os:=ho;subst e;exact I.call (g':=g') (t':=t') (d':=d') u hok hg hch
end
abbrev XK:=Value->Option Addr->Hp->Prop
abbrev St:=List (Option V)
abbrev VK:=V->Hp->Prop
abbrev TE:=St->Hp->VK->Prop
abbrev TT:=St->Hp->(Bool->Hp->Prop)->Prop
abbrev TA:=St->Hp->(List V->Hp->Prop)->Prop
structure Ends where
 nx:St->Hp->Prop
 rt:VK
 bk:St->Hp->Prop:=λ_ _=>False
 ct:St->Hp->Prop:=λ_ _=>False
abbrev TS:=Ends->St->Hp->Prop
def EP (X:Cx)(pins:List (Addr×Obj))(σ:St)(Q:VK)(u:Value)(s':Shared):Prop:=∃ v H',Inv X pins σ H' s'/\RelV v u/\Q v H'
def TP (X:Cx)(pins:List (Addr×Obj))(σ:St)(Q:Bool->Hp->Prop)(b:Bool)(s':Shared):Prop:=∃ H',Inv X pins σ H' s'/\Q b H'
def AP (X:Cx)(pins:List (Addr×Obj))(σ:St)(Q:List V->Hp->Prop)(us:List Value)(s':Shared):Prop:=∃ vs H',Inv X pins σ H' s'/\Vals vs us/\Q vs H'
def SP (X:Cx)(pins:List (Addr×Obj))(D:Ends)(f:Flow)(s':Shared):Prop:=
 match f with
 | .next=>∃ σ' H',Inv X pins σ' H' s'/\D.nx σ' H'
 | .brk=>∃ σ' H',Inv X pins σ' H' s'/\D.bk σ' H'
 | .cont=>∃ σ' H',Inv X pins σ' H' s'/\D.ct σ' H'
 | .ret u=>∃ v σ' H',Inv X pins σ' H' s'/\RelV v u/\D.rt v H'
def PE (X:Cx)(e:Expr)(t:TE):Prop:=
 ∀ (pins:List (Addr×Obj)) (s:Shared) (σ:St) (H:Hp) (Q:VK),Inv X pins σ H s->t σ H Q->wpAny (model X.prog X.w) X.A (eval e X.env) (EP X pins σ Q) X.xe s
def PT (X:Cx)(e:Expr)(t:TT):Prop:=
 ∀ (pins:List (Addr×Obj)) (s:Shared) (σ:St) (H:Hp) (Q:Bool->Hp->Prop),Inv X pins σ H s->t σ H Q->wpAny (model X.prog X.w) X.A (isTrue e X.env (eval e X.env)) (TP X pins σ Q) X.xe s
def PW (X:Cx)(e:Expr)(t:TT):Prop:=
 ∀ (whole:Sem Value) (pins:List (Addr×Obj)) (s:Shared) (σ:St) (H:Hp) (Q:Bool->Hp->Prop),Inv X pins σ H s->t σ H Q->wpAny (model X.prog X.w) X.A (isTrue e X.env whole) (TP X pins σ Q) X.xe s
theorem PW.pt {X:Cx}{e:Expr}{t:TT}(h:PW X e t):PT X e t:=h _
def PA (X:Cx)(es:List Expr)(t:TA):Prop:=
 ∀ (pos:Pos) (pins:List (Addr×Obj)) (s:Shared) (σ:St) (H:Hp) (Q:List V->Hp->Prop),Inv X pins σ H s->t σ H Q->wpAny (model X.prog X.w) X.A (spliced (backTo pos (starEach es X.env))) (AP X pins σ Q) X.xe s
def PS (X:Cx)(st:Stmt)(t:TS):Prop:=
 ∀ (pins:List (Addr×Obj)) (s:Shared) (σ:St) (H:Hp) (D:Ends),Inv X pins σ H s->t D σ H->wpAny (model X.prog X.w) X.A (exec st X.env) (SP X pins D) X.xe s
def PSs (X:Cx)(st:List Stmt)(t:TS):Prop:=
 ∀ (pins:List (Addr×Obj)) (s:Shared) (σ:St) (H:Hp) (D:Ends),Inv X pins σ H s->t D σ H->wpAny (model X.prog X.w) X.A (execs st X.env) (SP X pins D) X.xe s
theorem thn {α:Type}{t:Sem α}{Q Q':α->Shared->Prop}{M:Model}{A:Around}{E:Value->Shared->Prop}{s:Shared}(h:wpAny M A t Q E s)(hQ:∀ a s,Q a s->Q' a s):wpAny M A t Q' E s:=Jcp h hQ λ_ _ x=>x
section
variable {X:Cx}
theorem bin {a b:Expr}{ta tb:TE}(ha:PE X a ta)(hb:PE X b tb){pins:List (Addr×Obj)}{s:Shared}{σ:St}{H:Hp}{R:V->V->Hp->Prop}(I:Inv X pins σ H s)(h:ta σ H λx H1=>tb σ H1 λy H2=>R x y H2){α:Type}{Q:α->Shared->Prop}{f:Value->Value->Sem α}(hf:∀ v u s2 x y H2,Inv X pins σ H2 s2->RelV x v->RelV y u->R x y H2->wpAny (model X.prog X.w) X.A (f v u) Q X.xe s2):
  wpAny (model X.prog X.w) X.A (eval a X.env) (λv s₁=>wpAny (model X.prog X.w) X.A (eval b X.env) (λu s₂=>wpAny (model X.prog X.w) X.A (f v u) Q X.xe s₂) X.xe s₁) X.xe s:=by
 refine thn (ha pins s σ H _ I h) λv s1 ⟨x,H1,I1,r1,q1⟩=>?_;refine thn (hb pins s1 σ H1 _ I1 q1) λu s2 ⟨y,H2,I2,r2,q2⟩=>?_;exact hf v u s2 x y H2 I2 r1 r2 q2
def Zhs (i:Nat):TE:=λσ H Q=>∃ v,σ[i]?=some (some v)/\Q v H
def tC (v:V):TE:=λ_ H Q=>Q v H
theorem pe_var {i:Nat}{x:Str}{pos:Pos}(hN:X.N[i]?=some x)(hv:Vis X.env.scope x)(hd:(x == ("__debug__" : Str))=false:=by decide)(hcd:(x == ("__classdict__" : Str))=false:=by decide):PE X (.Name x pos) (Zhs i):=by
 intro pins s σ H Q I h;obtain⟨v,e,h⟩:=h;obtain⟨m,hn,hl⟩:=I.loc;obtain⟨u,r,l⟩:=hl i x v hN e hv;have fin:EP X pins σ Q u s:=⟨v,H,I,r,h⟩
 rcases l with ⟨hk,hm⟩|⟨hk,c,hc,hcell⟩
 .exact wpAny_Name (wpAny_loadName_local I.ok.kind hk hn hm fin) hd
 .rcases hk with hk|hk
  .exact wpAny_Name (wpAny_loadName_cell I.ok.kind hk hc hcell fin) hd
  .exact wpAny_Name (wpAny_loadName_free I.ok.kind hk hc hcell fin hcd) hd
theorem Zac {i j pos}:PE X (.Constant (.int i) j pos) (tC (.int i)):=λ_ _ _ H _ I h=>wpAny_Constant_int ⟨.int i,H,I.tok _,⟨_,rfl⟩,h⟩
theorem Zbm {b j pos}:PE X (.Constant (.bool b) j pos) (tC (.bl b)):=λ_ _ _ H _ I h=>Constant_bool ⟨.bl b,H,I,rfl,h⟩
theorem Zfy {j pos}:PE X (.Constant .none j pos) (tC .non):=λ_ _ _ H _ I h=>Constant_none ⟨.non,H,I,rfl,h⟩
theorem Zbh {x j pos}:PE X (.Constant (.str x) j pos) (tC (.str x)):=λ_ _ _ H _ I h=>Calls.Constant_str ⟨.str x,H,I.tok _,⟨_,rfl⟩,h⟩
def Gl (X:Cx)(x:Str):Prop:=X.env.kindOf x=some .globalImplicit
theorem Znb {E:Value->Shared->Prop}{pins:List (Addr×Obj)}{s:Shared}{σ:St}{H:Hp}{x:Str}{u:Value}{pos:Pos}{Q:Value->Shared->Prop}(I:Inv X pins σ H s)(hg:Gl X x)(hm:X.mg x=some u)(h:Q u s)(hd:(x == ("__debug__" : Str))=false:=by decide):wpAny (model X.prog X.w) X.A (eval (.Name x pos) X.env) Q E s:=
 Calls.Name_function_global I.ok.kind hg (Calls.loadGlobal_global (by rw[I.ok.glob];exact I.mod.glob.keeps I.bk) hm h) hd
theorem Zjk {E:Value->Shared->Prop}{pins:List (Addr×Obj)}{s:Shared}{σ:St}{H:Hp}{x:Str}{u:Value}{pos:Pos}{Q:Value->Shared->Prop}(I:Inv X pins σ H s)(hg:Gl X x)(hm:X.mg x=none)(hv:bootBuiltins x=some u)(h:Q u s)(hn:x ≠ "__name__" := by decide)(hd:(x == ("__debug__" : Str))=false:=by decide):wpAny (model X.prog X.w) X.A (eval (.Name x pos) X.env) Q E s:=by
 refine Zae I.mod.blt λmb h1 h2=>?_;exact Calls.Name_function_global I.ok.kind hg (Calls.loadGlobal_builtin (by rw[I.ok.glob];exact I.mod.glob.keeps I.bk) hm (by rw[I.ok.blt];exact h1.keeps I.bk) ((h2 x hn).trans hv) h) hd
theorem Zm2 {x:Str}{v:V}{u:Value}{pos:Pos}(hg:Gl X x)(hm:X.mg x=some u)(r:RelV v u)(hd:(x == ("__debug__" : Str))=false:=by decide):PE X (.Name x pos) (tC v):=
 λ_ _ _ H _ I h=>Znb I hg hm ⟨v,H,I,r,h⟩ hd
theorem pe_bltn {x:Str}{v:V}{u:Value}{pos:Pos}(hg:Gl X x)(hm:X.mg x=none)(hv:bootBuiltins x=some u)(r:RelV v u)(hn:x ≠ "__name__" := by decide)(hd:(x == ("__debug__" : Str))=false:=by decide):PE X (.Name x pos) (tC v):=
 λ_ _ _ H _ I h=>Zjk I hg hm hv ⟨v,H,I,r,h⟩ hn hd
variable {a b:Expr}{ta tb:TE}{pos:Pos}
def PC (X:Cx)(op:CmpOp)(a b:Expr)(t:TE):Prop:=
 ∀ (pins:List (Addr×Obj)) (s:Shared) (σ:St) (H:Hp) (Q:VK),Inv X pins σ H s->t σ H Q->
  wpAny (model X.prog X.w) X.A (eval a X.env) (λv s₁=>wpAny (model X.prog X.w) X.A (eval b X.env) (λu s₂=>wpAny (model X.prog X.w) X.A (compareOp op v u) (EP X pins σ Q) X.xe s₂) X.xe s₁) X.xe s
theorem Zuk (b:Expr){op:CmpOp}(h:op≠.In)(h2:op≠.NotIn):behindInMarks op b=false:=by
 have e1:(op == CmpOp.In)=false:=by cases op <;> first|rfl|exact absurd rfl h
 have e2:(op == CmpOp.NotIn)=false:=by cases op <;> first|rfl|exact absurd rfl h2
 cases b <;> simp[behindInMarks,e1,e2]
def tB (t:TE):TT:=λσ H Q=>t σ H λx H1=>∃ c,x=.bl c/\Q c H1
theorem pt_cmp {op:CmpOp}{t:TE}(h:PC X op a b t)(h1:behindInMarks op b=false:=by first|exact Zuk _ ⇑0 ⇑0|rfl):PT X (.Compare a [op] [b] pos) (tB t):=by
 intro pins s σ H Q I hw;refine Jds (thn (h pins s σ H _ I hw) λv s1 h1=>thn h1 λu s2 h2=>thn h2 λc s3 ⟨x,H1,I1,r1,q1⟩=>?_) h1;refine Zae q1 λd e923 q=>?_;clear q1;obtain rfl:=e923;cases r1;exact Jbo ⟨H1,I1,q⟩
theorem Zbb {e:Expr}{t:TE}(h:PE X e t)(he:∀ whole,isTrue e X.env whole=(do let v <- whole;standAt e.pos;holding [v] (truthy v)):=by intro _;rfl):PT X e (tB t):=by
 intro pins s σ H Q I hw;refine isTrue_plain (thn (h pins s σ H _ I hw) λv s1 ⟨x,H1,I1,r1,q1⟩=>?_) (he _);refine Zae q1 λd e924 q=>?_;clear q1;obtain rfl:=e924;cases r1;exact Jbo ⟨H1,I1,q⟩
variable {tA tB':TT}{rest:List Expr}
def tAnd (t u:TT):TT:=λσ H Q=>t σ H λc H1=>if c=true then u σ H1 Q else Q false H1
def tOr (t u:TT):TT:=λσ H Q=>t σ H λc H1=>if c=true then Q true H1 else u σ H1 Q
def tNot (t:TT):TT:=λσ H Q=>t σ H λc H1=>Q (!c) H1
theorem Zgc (ha:PT X a tA):PW X (.BoolOp .And [a] pos) tA:=by
 intro wh pins s σ H Q I h;refine isTrue_and (thn (ha pins s σ H Q I h) λc s1 e=>?_);cases c with
 | true=>exact isTrue_and_nil e
 | false=>exact e
theorem Zbj (ha:PT X a tA):PW X (.BoolOp .Or [a] pos) tA:=by
 intro wh pins s σ H Q I h;refine isTrue_or (thn (ha pins s σ H Q I h) λc s1 e=>?_);cases c with
 | false=>exact isTrue_or_nil e
 | true=>exact e
theorem Zjb (ha:PT X a tA)(hb:PW X (.BoolOp .And (b::rest) pos) tB'):PW X (.BoolOp .And (a::b::rest) pos) (tAnd tA tB'):=by
 intro wh pins s σ H Q I h;refine isTrue_and (thn (ha pins s σ H _ I h) λc s1 ⟨H1,I1,q1⟩=>?_);cases c with
 | true=>exact hb wh pins s1 σ H1 Q I1 q1
 | false=>exact⟨H1,I1,q1⟩
theorem Zce (ha:PT X a tA)(hb:PW X (.BoolOp .Or (b::rest) pos) tB'):PW X (.BoolOp .Or (a::b::rest) pos) (tOr tA tB'):=by
 intro wh pins s σ H Q I h;refine isTrue_or (thn (ha pins s σ H _ I h) λc s1 ⟨H1,I1,q1⟩=>?_);cases c with
 | true=>exact⟨H1,I1,q1⟩
 | false=>exact hb wh pins s1 σ H1 Q I1 q1
theorem Za9 (ha:PT X a tA):PT X (.UnaryOp .Not a pos) (tNot tA):=by
 intro pins s σ H Q I h;exact isTrue_not (ha pins s σ H (λc H1=>Q (!c) H1) I h)
def tAndV (ta tb:TE):TE:=λσ H Q=>ta σ H λx H1=>∃ c,x=.bl c/\if c=true then tb σ H1 Q else Q (.bl false) H1
def tOrV (ta tb:TE):TE:=λσ H Q=>ta σ H λx H1=>∃ c,x=.bl c/\if c=true then Q (.bl true) H1 else tb σ H1 Q
def tNotV (ta:TE):TE:=λσ H Q=>ta σ H λx H1=>∃ c,x=.bl c/\Q (.bl (!c)) H1
theorem Zdw {op}{t:TE}(h:PE X a t):PE X (.BoolOp op [a] pos) t:=λpins s σ H Q I hw=>BoolOp_one (h pins s σ H Q I hw)
theorem Zdc (ha:PE X a ta)(hb:PE X (.BoolOp .And (b::rest) pos) tb):PE X (.BoolOp .And (a::b::rest) pos) (tAndV ta tb):=by
 intro pins s σ H Q I h;refine BoolOp_and (thn (ha pins s σ H _ I h) λv s1 ⟨x,H1,I1,r1,q1⟩=>?_);obtain⟨c,rfl,q1⟩:=q1;cases r1;refine Jbo ?_;cases c with
 | true=>exact hb pins s1 σ H1 Q I1 q1
 | false=>exact⟨.bl false,H1,I1,rfl,q1⟩
theorem pe_or (ha:PE X a ta)(hb:PE X (.BoolOp .Or (b::rest) pos) tb):PE X (.BoolOp .Or (a::b::rest) pos) (tOrV ta tb):=by
 intro pins s σ H Q I h;refine BoolOp_or (thn (ha pins s σ H _ I h) λv s1 ⟨x,H1,I1,r1,q1⟩=>?_);obtain⟨c,rfl,q1⟩:=q1;cases r1;refine Jbo ?_;cases c with
 | false=>exact hb pins s1 σ H1 Q I1 q1
 | true=>exact⟨.bl true,H1,I1,rfl,q1⟩
theorem Zvv (ha:PE X a ta):PE X (.UnaryOp .Not a pos) (tNotV ta):=by
 intro pins s σ H Q I h;refine UnaryOp_ (thn (ha pins s σ H _ I h) λv s1 ⟨x,H1,I1,r1,q1⟩=>?_);obtain⟨c,rfl,q1⟩:=q1;cases r1;exact not_of (Jbo ⟨.bl (!c),H1,I1,rfl,q1⟩)
def tIf (t:TT)(ta tb:TE):TE:=λσ H Q=>t σ H λc H1=>if c=true then ta σ H1 Q else tb σ H1 Q
end
def SqL (K:Frag)(H:Hp)(a:Addr)(xs:List V):Prop:=
 Rd H a (.lst xs) \/
  ∃ (o:Obj) (its:Array Value) (n:Nat),K.lookup a=some o/\o.cls=.type "list" /\ o.dict=none/\o.data=.seq its n/\its.size<=sizeLine/\Vals xs its.toList
def SqT (K:Frag)(H:Hp)(a:Addr)(xs:List V):Prop:=
 Rd H a (.tup xs) \/
  ∃ (o:Obj) (its:Array Value) (n:Nat),K.lookup a=some o/\o.cls=.type "tuple" /\ o.data=.seq its n/\its.size<=sizeLine/\Vals xs its.toList
def absV:Value->Option V
 | .none=>some .non
 | .bool b=>some (.bl b)
 | .int i _=>some (.int i)
 | .str x _=>some (.str x)
 | .bytes b _=>some (.byt b)
 | .float b _=>some (.flt b)
 | .ref a=>some (.ref a)
 | .type n=>some (.ty n)
 | _=>none
theorem RelV.abs {x:V}{u:Value}(r:RelV x u):absV u=some x:=by
 cases x with
 | non=>cases r;rfl
 | bl _=>cases r;rfl
 | int _=>obtain⟨t,rfl⟩:=r;rfl
 | str _=>obtain⟨t,rfl⟩:=r;rfl
 | byt _=>obtain⟨t,rfl⟩:=r;rfl
 | flt _=>obtain⟨t,rfl⟩:=r;rfl
 | ref _=>cases r;rfl
 | ty _=>cases r;rfl
theorem RelV.inj {x y:V}{u:Value}(r:RelV x u)(q:RelV y u):x=y:=Jbn (r.abs.symm.trans q.abs)
theorem Vals.inj:∀ {xs ys:List V} {us:List Value},Vals xs us->Vals ys us->xs=ys
 | _,_,_,.nil,.nil=>rfl
 | _,_,_,.cons r t,.cons r' t'=>by rw[r.inj r',Vals.inj t t']
section
variable {X:Cx}{pins:List (Addr×Obj)}{σ:St}{H:Hp}{s:Shared}{a:Addr}{xs ys:List V}
theorem SqL.of {K:Frag}(h:H a=some (.lst xs)):SqL K H a xs:=.inl (.inl h)
theorem SqT.of {K:Frag}(h:H a=some (.tup xs)):SqT K H a xs:=.inl (.inl h)
theorem Inv.list (I:Inv X pins σ H s)(h:SqL X.K H a xs):∃ its:List Value,Vals xs its/\PlainL s.heap a its.toArray/\xs.length<=sizeLine:=by
 rcases h with h|⟨o,its,n,hk,hc,hd,hs,hz,r⟩
 .obtain ⟨z,its,n,r,e⟩:=h.ok I.hok;exact⟨its,r,⟨_,n,e,rfl,rfl,rfl⟩,z⟩
 .refine ⟨its.toList,r,⟨o,n,I.kIn a o hk,hc,hd,by simpa using hs⟩,?_⟩;have e:=r.length;simp only[Jd0] at e;omega
theorem Inv.tuple (I:Inv X pins σ H s)(h:SqT X.K H a xs):∃ its:List Value,Vals xs its/\IsTup s.heap a its.toArray/\xs.length<=sizeLine:=by
 rcases h with h|⟨o,its,n,hk,hc,hs,hz,r⟩
 .obtain ⟨z,its,r,p⟩:=h.ok I.hok;exact⟨its,r,p,z⟩
 .refine ⟨its.toList,r,⟨o,I.kIn a o hk,hc,n,by simpa using hs⟩,?_⟩;have e:=r.length;simp only[Jd0] at e;omega
theorem Inv.list_inj (I:Inv X pins σ H s)(h:SqL X.K H a xs)(h':SqL X.K H a ys):xs=ys:=by
 refine Zas (I.list h) λits r e925 _=>?_;obtain⟨o,n,e,_,_,d⟩:=e925;refine Zas (I.list h') λits' r' e926 _=>?_;obtain⟨o',n',e',_,_,d'⟩:=e926;rw[e] at e';cases e';rw[d] at d'
 injection d' with d1 _
 have:its=its':=by simpa using Jdp Array.toList d1
 subst this;exact r.inj r'
theorem Inv.tuple_inj (I:Inv X pins σ H s)(h:SqT X.K H a xs)(h':SqT X.K H a ys):xs=ys:=by
 refine Zas (I.tuple h) λits r e927 _=>?_;obtain⟨o,e,_,n,d⟩:=e927;refine Zas (I.tuple h') λits' r' e928 _=>?_;obtain⟨o',e',_,n',d'⟩:=e928;rw[e] at e';cases e';rw[d] at d'
 injection d' with d1 _
 have:its=its':=by simpa using Jdp Array.toList d1
 subst this;exact r.inj r'
end
abbrev Cx.wish (X:Cx)(E:Value->Shared->Prop):Cx:={ X with xe:=E }
abbrev Cx.nox (X:Cx):Cx:=X.wish λ_ _=>False
theorem Cx.Ok.wish {X:Cx}(ok:X.Ok)(E:Value->Shared->Prop):(X.wish E).Ok:=
 ⟨ok.mod,ok.kind,ok.glob,ok.blt,ok.above,ok.inj,ok.has,ok.cab,ok.hd,ok.frames,ok.stk,ok.exf,ok.bs,ok.bsz,ok.noex,ok.exfs,ok.funs,ok.frf,ok.top⟩
theorem Cx.Ok.unwish {X:Cx}{E:Value->Shared->Prop}(ok:(X.wish E).Ok):X.Ok:=
 ⟨ok.mod,ok.kind,ok.glob,ok.blt,ok.above,ok.inj,ok.has,ok.cab,ok.hd,ok.frames,ok.stk,ok.exf,ok.bs,ok.bsz,ok.noex,ok.exfs,ok.funs,ok.frf,ok.top⟩
section
variable {X:Cx}{pins:List (Addr×Obj)}{σ:St}{H:Hp}{s:Shared}{E:Value->Shared->Prop}
theorem Inv.wish (I:Inv X pins σ H s)(E:Value->Shared->Prop):Inv (X.wish E) pins σ H s:=⟨I.ok.wish E,I.os,I.bare,I.base,I.loc,I.cell,I.free,I.freeC,I.pin,I.hok,I.len⟩
theorem Inv.unwish (I:Inv (X.wish E) pins σ H s):Inv X pins σ H s:=⟨I.ok.unwish,I.os,I.bare,I.base,I.loc,I.cell,I.free,I.freeC,I.pin,I.hok,I.len⟩
theorem SP.unwish {D:Ends}{f:Flow}{s':Shared}(h:SP (X.wish E) pins D f s'):SP X pins D f s':=by
 cases f with
 | next=>obtain⟨σ',H',I,q⟩:=h;exact⟨σ',H',I.unwish,q⟩
 | brk=>obtain⟨σ',H',I,q⟩:=h;exact⟨σ',H',I.unwish,q⟩
 | cont=>obtain⟨σ',H',I,q⟩:=h;exact⟨σ',H',I.unwish,q⟩
 | ret u=>obtain⟨v,σ',H',I,r,q⟩:=h;exact⟨v,σ',H',I.unwish,r,q⟩
theorem PE.nox {e:Expr}{t:TE}(h:PE X.nox e t):PE X e t:=λpins s σ H Q I hw=>
 Jcp (h pins s σ H Q (I.wish _) hw) (λ_ _ ⟨v,H',I',r,q⟩=>⟨v,H',I'.unwish,r,q⟩) λ_ _ z=>False.elim z
theorem PT.nox {e:Expr}{t:TT}(h:PT X.nox e t):PT X e t:=λpins s σ H Q I hw=>
 Jcp (h pins s σ H Q (I.wish _) hw) (λ_ _ ⟨H',I',q⟩=>⟨H',I'.unwish,q⟩) λ_ _ z=>False.elim z
theorem PSs.nox {st:List Stmt}{t:TS}(h:PSs X.nox st t):PSs X st t:=λpins s σ H D I hw=>
 Jcp (h pins s σ H D (I.wish _) hw) (λ_ _ q=>q.unwish) λ_ _ z=>False.elim z
end
section
variable {X:Cx}{st:Stmt}{rest:List Stmt}{t u:TS}{e:Expr}{te:TE}{pos:Pos}
def tNext:TS:=λD σ H=>D.nx σ H
def Ztg (t u:TS):TS:=λD σ H=>t { D with nx:=u D } σ H
theorem Zaj:PSs X [] tNext:=λ_ _ σ H _ I h=>Jd1 ⟨σ,H,I,h⟩
theorem Ztt (h1:PS X st t)(h2:PSs X rest u):PSs X (st::rest) (Ztg t u):=by
 intro pins s σ H D I h;refine wpAny_execs_cons (thn (h1 pins s σ H { D with nx:=u D } I h) λf s1 q=>?_);cases f with
 | next=>
  obtain⟨σ',H',I',q⟩:=q;exact h2 pins s1 σ' H' D I' q
 | ret v=>exact q
 | brk=>exact q
 | cont=>exact q
theorem Zau (h1:PS X st t):PSs X [st] t:=by
 intro pins s σ H D I h;refine wpAny_execs_cons (thn (h1 pins s σ H D I h) λf s1 q=>?_);cases f with
 | next=>exact Jd1 q
 | ret v=>exact q
 | brk=>exact q
 | cont=>exact q
theorem Inv.quiet {pins:List (Addr×Obj)}{σ:St}{H:Hp}{s:Shared}(I:Inv X pins σ H s):interactive X.env=false:=by simp[interactive,I.ok.kind]
def tDrop (te:TE):TS:=λD σ H=>te σ H λ_ H1=>D.nx σ H1
theorem Zgd (he:PE X e te)(hs:swapsWith e none pos.line X.env=pure false:=by rfl):PS X (.Expr e pos) (tDrop te):=by
 intro pins s σ H D I h;exact wpAny_Expr_any (thn (he pins s σ H _ I h) λv s1 ⟨x,H1,I1,r1,q1⟩=>⟨σ,H1,I1,q1⟩) I.quiet hs
def tRet (te:TE):TS:=λD σ H=>te σ H D.rt
theorem ps_ret (he:PE X e te):PS X (.Return (some e) pos) (tRet te):=by
 intro pins s σ H D I h;exact wpAny_Return_some (thn (he pins s σ H _ I h) λv s1 ⟨x,H1,I1,r1,q1⟩=>⟨x,σ,H1,I1,r1,q1⟩)
def tRetN:TS:=λD _ H=>D.rt .non H
def tIfS (c:TT)(t u:TS):TS:=λD σ H=>c σ H λb H1=>if b=true then t D σ H1 else u D σ H1
theorem Zay {c:Expr}{a b:List Stmt}{tc:TT}(hc:PT X c tc)(ha:PSs X a t)(hb:PSs X b u):PS X (.If c a b pos) (tIfS tc t u):=by
 intro pins s σ H D I h;refine wpAny_If (thn (hc pins s σ H _ I h) λd s1 ⟨H1,I1,q1⟩=>?_);cases d with
 | true=>exact ha pins s1 σ H1 D I1 q1
 | false=>exact hb pins s1 σ H1 D I1 q1
def tNever:TS:=λ_ _ _=>False
theorem Zcf:PS X st tNever:=λ_ _ _ _ _ _ h=>h.elim
end
abbrev TG:=V->St->Hp->(St->Hp->Prop)->Prop
abbrev TGs:=List V->St->Hp->(St->Hp->Prop)->Prop
def PG (X:Cx)(target:Expr)(t:TG):Prop:=
 ∀ (pins:List (Addr×Obj)) (s:Shared) (σ:St) (H:Hp) (v:V) (u:Value) (Q:St->Hp->Prop),Inv X pins σ H s->RelV v u->t v σ H Q->
  wpAny (model X.prog X.w) X.A (assign target X.env u) (λ_ s'=>∃ σ' H',Inv X pins σ' H' s'/\Q σ' H') X.xe s
def PGs (X:Cx)(ts:List Expr)(t:TGs):Prop:=
 ∀ (pins:List (Addr×Obj)) (s:Shared) (σ:St) (H:Hp) (vs:List V) (us:List Value) (Q:St->Hp->Prop),Inv X pins σ H s->Vals vs us->t vs σ H Q->
  wpAny (model X.prog X.w) X.A (assignInOrder ((assignEach ts X.env).map (·.2)) us) (λ_ s'=>∃ σ' H',Inv X pins σ' H' s'/\Q σ' H') X.xe s
abbrev TSet:=V->V->V->Hp->(Hp->Prop)->Prop
def PSet (X:Cx)(t:TSet):Prop:=
 ∀ (pins:List (Addr×Obj)) (s:Shared) (σ:St) (H:Hp) (o i v:V) (ov iv u:Value) (Q:Hp->Prop),Inv X pins σ H s->RelV o ov->RelV i iv->RelV v u->t o i v H Q->
  wpAny (model X.prog X.w) X.A (setItem ov iv u) (λ_ s'=>∃ H',Inv X pins σ H' s'/\Q H') X.xe s
abbrev TIp:=V->V->Hp->VK->Prop
section
variable {X:Cx}{pos:Pos}
def Zbp (i:Nat):TG:=λv σ H Q=>Q (σ.set i (some v)) H
theorem Zad {i:Nat}{x:Str}(hN:X.N.Nodup)(hi:X.N[i]?=some x)(hx:Loc X.env.scope x)(hf:X.fn x=true\/X.env.scope.names.lookup x=some .local:=by first|exact .inl rfl|exact .inr rfl|assumption):PG X (.Name x pos) (Zbp i):=by
 intro pins s σ H v u Q I r h;exact wpAny_assign_Name (Zia I hN hi hx r (λs' I'=>⟨_,H,I',h⟩) hf)
def gNil:TGs:=λvs σ H Q=>vs=[]/\Q σ H
def Zjz (t:TG)(u:TGs):TGs:=λvs σ H Q=>∃ v r,vs=v::r/\t v σ H λσ' H'=>u r σ' H' Q
theorem Za6:PGs X [] gNil:=by
 intro pins s σ H vs us Q I r h;obtain⟨e,h⟩:=h;subst e;cases r;exact assignInOrder_nil ⟨σ,H,I,h⟩
theorem Zag {e:Expr}{es:List Expr}{t:TG}{u:TGs}(h1:PG X e t)(h2:PGs X es u)(hs:(assignEach (e::es) X.env).map (·.2)=assign e X.env::(assignEach es X.env).map (·.2):=by rfl):PGs X (e::es) (Zjz t u):=by
 intro pins s σ H vs us Q I r h;obtain⟨v,vr,e1,h⟩:=h;subst e1;cases r with
 | cons r rr=>
  rw[hs];refine assignInOrder_cons (thn (h1 pins s σ H _ _ _ I r h) λ_ s1 ⟨σ1,H1,I1,q1⟩=>?_);exact h2 pins s1 σ1 H1 _ _ Q I1 rr q1
def Zv7 (K:Frag)(n:Nat)(t:TGs):TG:=λv σ H Q=>∃ a xs,v=.ref a/\SqT K H a xs/\xs.length=n/\t xs σ H Q
theorem Zc2 {es:List Expr}{k:Nat}{t:TGs}{n:Nat}(hc:X.calm=true)(h:PGs X es t)(hn:(assignEach es X.env).length=n:=by rfl)(hst:(assignEach es X.env).findIdx? (·.1)=none:=by rfl):PG X (.Tuple es k pos) (Zv7 X.K n t):=by
 intro pins s σ H v u Q I r hw;obtain⟨a,xs,e1,hq,hl,hw⟩:=hw;subst e1;cases r;obtain⟨its,rv,ht,hz⟩:=I.tuple hq;refine assign_Tuple_tuple (I.ok.hd hc) ht (by simp[hn,<- hl,rv.length]) hst λh' hx=>?_;have I1:Inv X pins σ H { s with heap:=h' }:=I.kept (t':=s.toks) λb o e=>hx b o (Jbs (Jan e)) e;exact h pins _ σ H xs _ Q I1 (by simpa using rv) hw
def gSub (to ti:TE)(t:TSet):TG:=λv σ H Q=>to σ H λo H1=>ti σ H1 λi H2=>t o i v H2 λH3=>Q σ H3
theorem Zkh {o i:Expr}{to ti:TE}{t:TSet}(ho:PE X o to)(hi:PE X i ti)(hs:PSet X t)(ha:∀ v,assign (.Subscript o i pos) X.env v=(do
   let ov <- holding [v] (eval o X.env)
   let iv <- holding [v,ov] (eval i X.env)
   standAt pos
   holding [v,ov,iv] (setItem ov iv v)
   release [v,ov,iv] []):=by intro _;rfl):PG X (.Subscript o i pos) (gSub to ti t):=by
 intro pins s σ H v u Q I r h;rw[ha];refine Jag (Jeo (thn (ho pins s σ H _ I h) λov s1 ⟨x,H1,I1,r1,q1⟩=>?_));refine Jag (Jeo (thn (hi pins s1 σ H1 _ I1 q1) λiv s2 ⟨y,H2,I2,r2,q2⟩=>?_));refine Jag (Jep (Jag (Jeo (thn (hs pins s2 σ H2 x y v ov iv u _ I2 r1 r2 r q2) λ_ s3 ⟨H3,I3,q3⟩=>?_))));exact wpAny_release ⟨σ,H3,I3,q3⟩
def tAsg (te:TE)(g:TG):TS:=λD σ H=>te σ H λx H1=>g x σ H1 D.nx
theorem Zb4 {tg e:Expr}{te:TE}{g:TG}(he:PE X e te)(hg:PG X tg g)(hs:swapsWithSole [tg] e pos.line X.env=pure false:=by rfl)(hw:swappedStores [tg] e X.env=pure none:=by rfl)(h1:(assignEach [tg] X.env).map (·.2)=[assign tg X.env]:=by rfl):PS X (.Assign [tg] e pos) (tAsg te g):=by
 intro pins s σ H D I h;refine wpAny_Assign_stores (thn (he pins s σ H _ I h) λv s1 ⟨x,H1,I1,r1,q1⟩=>?_) hs hw;rw[h1];exact thn (hg pins s1 σ H1 x v _ I1 r1 q1) λ_ s2 q=>q
theorem Zap {i:Nat}{x:Str}{e:Expr}{te:TE}{pos':Pos}(hN:X.N.Nodup)(hi:X.N[i]?=some x)(hx:Loc X.env.scope x)(he:PE X e te)(hs:swapsWith e (some (.Name x pos')) pos.line X.env=pure false:=by rfl)(hf:X.fn x=true\/X.env.scope.names.lookup x=some .local:=by first|exact .inl rfl|exact .inr rfl|assumption):
  PS X (.Assign [.Name x pos'] e pos) (tAsg te (Zbp i)):=by
 intro pins s σ H D I h;refine wpAny_Assign_Name (thn (he pins s σ H _ I h) λv s1 ⟨y,H1,I1,r1,q1⟩=>?_) hs;exact Zia I1 hN hi hx r1 (λs2 I2=>⟨_,H1,I2,q1⟩) hf
def tPar (i j:Nat)(ta:TA):TS:=λD σ H=>ta σ H λvs H1=>∃ v w,vs=[v,w]/\D.nx ((σ.set i (some v)).set j (some w)) H1
theorem Zkg {i j:Nat}{x y:Str}{a b:Expr}{ta:TA}{px py pt:Pos}{kt k2 pt2}(hc:X.calm=true)(hN:X.N.Nodup)(hi:X.N[i]?=some x)(hj:X.N[j]?=some y)(hij:i≠j)(hx:X.env.scope.names.lookup x=some .local)(hy:X.env.scope.names.lookup y=some .local)(ha:PA X [a,b] ta)(hw:swappedStores [.Tuple [.Name x px,.Name y py] kt pt] (.Tuple [a,b] k2 pt2) X.env=pure (some [x,y]))(hs:swapsWithSole [.Tuple [.Name x px,.Name y py] kt pt] (.Tuple [a,b] k2 pt2) pos.line X.env=pure false:=by rfl):
  PS X (.Assign [.Tuple [.Name x px,.Name y py] kt pt] (.Tuple [a,b] k2 pt2) pos) (tPar i j ta):=by
 intro pins s σ H D I h;rw[exec_Assign_arm];refine Jag (Jep ?_);rw[hs];refine Jag (Jaw ?_);rw[if_neg ⇑0];refine Jag (Tuple_ (thn (ha _ pins s σ H _ I h) λus s1 ⟨vs,H1,I1,r1,q1⟩=>?_));obtain⟨v,w,e1,q1⟩:=q1;subst e1;obtain⟨u1,u2,rfl,rv,rw'⟩:∃ u1 u2,us=[u1,u2]/\RelV v u1/\RelV w u2:=by
  cases r1 with
  | cons p q=>
   cases q with
   | cons p' q'=>
    cases q';exact⟨_,_,rfl,p,p'⟩
 refine Jcq ?_ (by show 2<=sizeLine;decide);have I2:Inv X pins σ H1 { s1 with heap:=s1.heap.push { cls:=.type "tuple",data:=.seq [u1,u2].toArray } }:=I1.kept (t':=s1.toks) λb o e=>Jak _ e;rw[hw];refine Jag (Jaw ?_);show wpAny (model X.prog X.w) X.A (do rule "assign.swapped-stores";let items <- unpackItems (.ref s1.heap.objs.size) 2 none;assignInOrder [λv=>bindName X.env y v,λv=>bindName X.env x v] items.reverse;pure Flow.next) _ _ _;refine Jag (wpAny_rule (Jag (unpackItems_tuple (items:=#[u1,u2]) (I.ok.hd hc) (IsTup.new s1.heap _) λh' hx'=>?_)));have I3:=I2.kept (h':=h') (t':=s1.toks) λb o e=>hx' b o (Jbs (Jan e)) e;show wpAny _ _ (assignInOrder [λv=>bindName X.env y v,λv=>bindName X.env x v] [u2,u1] >>= λ_=>pure Flow.next) _ _ _;refine Jag (assignInOrder_cons (wpAny_bindName (Zia I3 hN hj (.inl hy) rw' (λs2 I4=>?_) (.inr hy))));refine assignInOrder_cons (wpAny_bindName (Zia I4 hN hi (.inl hx) rv (λs3 I5=>assignInOrder_nil (Jaw ?_)) (.inr hx)));rw[List.set_comm _ _ (Jen hij)] at I5;exact⟨_,H1,I5,q1⟩
def tAug (i:Nat)(te:TE)(ti:TIp):TS:=λD σ H=>∃ x,σ[i]?=some (some x)/\te σ H λy H1=>ti x y H1 λz H2=>D.nx (σ.set i (some z)) H2
def tAugS (to ti te:TE)(tget:V->V->Hp->VK->Prop)(tip:TIp)(tset:TSet):TS:=λD σ H=>to σ H λo H1=>ti σ H1 λi H2=>tget o i H2 λx H3=>te σ H3 λy H4=>tip x y H4 λz H5=>tset o i z H5 λH6=>D.nx σ H6
def ipI (f:Int->Int->Int):TIp:=λx y H Q=>∃ i j,x=.int i/\y=.int j/\Q (.int (f i j)) H
end
section
variable {X:Cx}{pos:Pos}
def tWhile (c:TT)(tb:TS):TS:=λD σ H=>∃ W:Nat->St->Hp->Prop,(∃ m,W m σ H)/\∀ m σ H,W m σ H->
 c σ H λb H1=>if b=true then ∃ N:St->Hp->Prop,(∀ σ' H',N σ' H'->∃ m',m'<m/\W m' σ' H')/\tb { D with nx:=N,ct:=N,bk:=D.nx } σ H1 else D.nx σ H1
theorem Zgr {c:Expr}{body:List Stmt}{tc:TT}{tb:TS}(hp:PassesOwn (model X.prog X.w) X.A X.env X.xe)(hc:PT X c tc)(hb:PSs X body tb):PS X (.While c body [] pos) (tWhile tc tb):=by
 intro pins s σ H D I h;refine Zae h λW e929 turn=>?_;clear h;obtain⟨m0,w0⟩:=e929;refine wpAny_While (codeAny_whileLoop (λn s'=>∃ σ' H',Inv X pins σ' H' s'/\W n σ' H') ?_ m0 ⟨σ,H,I,w0⟩);intro n s1 e91;refine Zbs e91 λσ1 H1 I1 w1=>?_;clear e91;refine Jcr hp (thn (hc pins s1 σ1 H1 _ I1 (turn n σ1 H1 w1)) λb s2 ⟨H2,I2,q2⟩=>?_);cases b with
 | true=>
  obtain⟨N,hN,q2⟩:=q2;rw[if_pos rfl];refine Jcr hp (thn (hb pins s2 σ1 H2 _ I2 q2) λf s3 q3=>?_);cases f with
  | next=>
   refine Zbs q3 λσ3 H3 I3 n3=>?_;clear q3;refine Zae (hN σ3 H3 n3) λm' hm w3=>?_;exact⟨m',hm,σ3,H3,I3,w3⟩
  | cont=>
   refine Zbs q3 λσ3 H3 I3 n3=>?_;clear q3;refine Zae (hN σ3 H3 n3) λm' hm w3=>?_;exact⟨m',hm,σ3,H3,I3,w3⟩
  | brk=>exact q3
  | ret v=>exact q3
 | false=>
  rw[if_neg Jau];exact Jd1 ⟨σ1,H2,I2,q2⟩
end
structure It where
 go:Nat->Hp->Prop
 yld:Nat->Hp->V->Hp->Prop
 stop:Nat->Hp->Prop
def Zpo (X:Cx)(pins:List (Addr×Obj))(H:Hp)(b:Addr):Prop:=
 H b=none/\b≠X.env.locals/\b∉X.fs/\(b∈X.ex\/X.s₀.heap.objs.size<=b)/\(∀ x c,X.env.cells.lookup x=some c->c≠b)/\∀ p∈X.pn++pins,p.1≠b
theorem Inv.fpOk {X:Cx}{pins:List (Addr×Obj)}{σ:St}{H H':Hp}{s:Shared}{b:Addr}(I:Inv X pins σ H s)(hb:s.heap.objs.size<=b)(hn:H' b=none):Zpo X pins H' b:=by
 refine⟨hn,Nat.ne_of_gt (Jaq I.lt hb),I.nofs hb,.inr (Jbh I.sz hb),λx c e z=>?_,λp hp z=>?_⟩
 .obtain ⟨v,q⟩:=I.cell x c e;exact absurd (Jaq q.lt (by rw[z];exact hb)) (Jb4 _)
 .exact absurd (Jaq (Jan (I.pin p hp).1) (by rw[z];exact hb)) (Jb4 _)
structure Turn (P:Program)(w:World)(K:Frag)(tg:Expr)(J:It)(fp:List Addr)(it:Addr)(tn:Nat->Heap->Prop):Prop where
 mem:it∈fp
 obj:∀ i h,tn i h->∀ b∈fp,∃ o,h.get? b=some o/\∀ v,o.data≠.cell v
 keep:∀ i h h',tn i h->(∀ b∈fp,∀ o,h.get? b=some o->h'.get? b=some o)->tn i h'
 item:∀ (X:Cx),X.prog=P->X.w=w->X.K=K->X.calm=true->∀ (i:Nat) (pins:List (Addr×Obj)) (s:Shared) (σ:St) (H:Hp) (E:Value->Shared->Prop),Inv X pins σ H s->(∀ b∈fp,Zpo X pins H b)->tn i s.heap->J.go i H->
  wpAny (model P w) X.A (pyNext (.ref it)) (λr s1=>∃ u,r=some u /\
   wpAny (model P w) X.A (letOwnedTupleGo tg (.ref it) u) (λ_ s2=>∃ x H',Inv X pins σ H' s2/\RelV x u/\J.yld i H x H'/\tn (i+1) s2.heap/\∀ b∈fp,H' b=none) E s1) E s
 done:∀ (X:Cx),X.prog=P->X.w=w->X.K=K->X.calm=true->∀ (i:Nat) (pins:List (Addr×Obj)) (s:Shared) (σ:St) (H:Hp) (E:Value->Shared->Prop),Inv X pins σ H s->(∀ b∈fp,Zpo X pins H b)->tn i s.heap->J.stop i H->
  wpAny (model P w) X.A (pyNext (.ref it)) (λr s1=>r=none/\Inv X pins σ H s1) E s
 self:∀ (A:Around) (i:Nat) (s:Shared) (Q:Value->Shared->Prop) (E:Value->Shared->Prop),tn i s.heap->Q (.ref it) s->wpAny (model P w) A (pyIter (.ref it)) Q E s
abbrev TI:=St->Hp->(It->Hp->Prop)->Prop
def PIE (X:Cx)(pins:List (Addr×Obj))(σ:St)(tg:Expr)(R:It->Hp->Prop)(itv:Value)(s2:Shared):Prop:=
 ∃ (it:Addr) (fp:List Addr) (tn:Nat->Heap->Prop) (J:It) (H':Hp),itv=.ref it/\Inv X pins σ H' s2/\Turn X.prog X.w X.K tg J fp it tn/\tn 0 s2.heap/\(∀ b∈fp,Zpo X pins H' b)/\R J H'
def PI (X:Cx)(tg iter:Expr)(wi:TI):Prop:=
 ∀ (pins:List (Addr×Obj)) (s:Shared) (σ:St) (H:Hp) (R:It->Hp->Prop),Inv X pins σ H s->wi σ H R->
  wpAny (model X.prog X.w) X.A (eval iter X.env) (λv s1=>wpAny (model X.prog X.w) X.A (pyIter v) (PIE X pins σ tg R) X.xe s1) X.xe s
theorem go_of {M:Model}{A:Around}{E:Value->Shared->Prop}{s:Shared}{tg:Expr}{it:Addr}{u:Value}{o:Obj}{n:String}{vs:Array Value}{Q:Unit->Shared->Prop}(ho:s.heap.get? it=some o)(hc:o.cls=.type n)(hd:o.data=.fields vs)(hn:["enumerate","zip","dict_itemiterator","dict_reverseitemiterator","odict_iterator","itertools.zip_longest","itertools.pairwise"].contains n=false)(hQ:Q () s):wpAny M A (letOwnedTupleGo tg (.ref it) u) Q E s:=by
 unfold letOwnedTupleGo;cases tg <;> first
  | exact Jaw hQ
  | (cases u <;> first
    | exact Jaw hQ
    | (refine Jag (wpAny_load ho ?_);rw[hc,hd];show wpAny M A (if (["enumerate","zip","dict_itemiterator","dict_reverseitemiterator","odict_iterator","itertools.zip_longest","itertools.pairwise"].contains n && vs[0]? == some (rawInt _))=true then _ else _) Q E s;rw[if_neg (by intro h;rw[hn,Jbe] at h;cases h)];exact Jaw hQ))
def Itl (K:Frag)(a:Addr):It:=
 ⟨λi H=>∃ xs x,SqL K H a xs/\xs[i]?=some x,λi H x H'=>H'=H/\∀ xs,SqL K H a xs->xs[i]?=some x,λi H=>∃ xs,SqL K H a xs/\xs.length<=i⟩
def Itt (K:Frag)(a:Addr):It:=
 ⟨λi H=>∃ xs x,SqT K H a xs/\xs[i]?=some x,λi H x H'=>H'=H/\∀ xs,SqT K H a xs->xs[i]?=some x,λi H=>∃ xs,SqT K H a xs/\xs.length<=i⟩
def Itr (lo:Int)(n:Nat):It:=⟨λi _=>i<n,λi H x H'=>H'=H/\x=.int (lo+i),λi _=>n<=i⟩
theorem Zp4 {P:Program}{w:World}{K:Frag}{tg:Expr}(a it:Addr):Turn P w K tg (Itl K a) [it] it (λi h=>h.IsListIter it a i) where
 mem:=by simp
 obj:=λi h st b hb=>by
  have e:b=it:=by simpa using hb
  subst e;refine Zas st λo e c d=>?_;clear st;exact⟨o,e,λv z=>by rw[d] at z;cases z⟩
 keep:=λi h h' st k=>st.at λo e=>k it (by simp) o e
 item:=by
  intro X hP hw hK hc i pins s σ H E I hf st hg;subst hP hw hK;refine Zbs hg λxs x hq hx=>?_;clear hg;refine Zas (I.list hq) λits rv p hz=>?_;refine Zae (rv.get hx) λu hu ru=>?_;refine Zih (hf it (by simp)) λf0 f1 f2 f3 f4 f5=>?_;refine wpAny_pyNext_list_item st p.isList (x:=u) (by simpa using hu) λh' st' sb=>?_;have I1:Inv X pins σ H { s with heap:=h' }:=I.turned (t':=s.toks) (λb o hb e=>(sb.2 b hb).trans e) f0 f1 f3 f4 f5;refine Zas (id st') λo e c d=>?_;exact⟨u,rfl,go_of (s:={ s with heap:=h' }) e c d ⇑0 ⟨x,H,I1,ru,⟨rfl,λys hy=>by rw[I.list_inj hy hq];exact hx⟩,st',λb hb=>(hf b hb).1⟩⟩
 done:=by
  intro X hP hw hK hc i pins s σ H E I hf st hg;subst hP hw hK;refine Zae hg λxs hq hx=>?_;clear hg;refine Zas (I.list hq) λits rv p hz=>?_;refine Zih (hf it (by simp)) λf0 f1 f2 f3 f4 f5=>?_;have hl:=rv.length;exact wpAny_pyNext_list_end (I.ok.hd hc) st p.isList (by simp;omega) λh' eb=>⟨rfl,I.turned (t':=s.toks) (λb o hb e=>eb b o hb e) f0 f1 f3 f4 f5⟩
 self:=λ_ _ _ _ _ st h=>wpAny_pyIter_listiter st h
theorem Zo0 {P:Program}{w:World}{K:Frag}{tg:Expr}(a it:Addr):Turn P w K tg (Itt K a) [it] it (λi h=>h.IsTupleIter it a i) where
 mem:=by simp
 obj:=λi h st b hb=>by
  have e:b=it:=by simpa using hb
  subst e;refine Zas st λo e c d=>?_;clear st;exact⟨o,e,λv z=>by rw[d] at z;cases z⟩
 keep:=λi h h' st k=>st.at λo e=>k it (by simp) o e
 item:=by
  intro X hP hw hK hc i pins s σ H E I hf st hg;subst hP hw hK;refine Zbs hg λxs x hq hx=>?_;clear hg;refine Zas (I.tuple hq) λits rv p hz=>?_;refine Zae (rv.get hx) λu hu ru=>?_;refine Zih (hf it (by simp)) λf0 f1 f2 f3 f4 f5=>?_;refine wpAny_pyNext_tuple_item st (show s.heap.IsTuple a its.toArray from p) (x:=u) (by simpa using hu) λh' st' sb=>?_;have I1:Inv X pins σ H { s with heap:=h' }:=I.turned (t':=s.toks) (λb o hb e=>(sb.2 b hb).trans e) f0 f1 f3 f4 f5;refine Zas (id st') λo e c d=>?_;exact⟨u,rfl,go_of (s:={ s with heap:=h' }) e c d ⇑0 ⟨x,H,I1,ru,⟨rfl,λys hy=>by rw[I.tuple_inj hy hq];exact hx⟩,st',λb hb=>(hf b hb).1⟩⟩
 done:=by
  intro X hP hw hK hc i pins s σ H E I hf st hg;subst hP hw hK;refine Zae hg λxs hq hx=>?_;clear hg;refine Zas (I.tuple hq) λits rv p hz=>?_;refine Zih (hf it (by simp)) λf0 f1 f2 f3 f4 f5=>?_;have hl:=rv.length;exact wpAny_pyNext_tuple_end (I.ok.hd hc) st (show s.heap.IsTuple a its.toArray from p) (by simp;omega) λh' eb=>⟨rfl,I.turned (t':=s.toks) (λb o hb e=>eb b o hb e) f0 f1 f3 f4 f5⟩
 self:=λ_ _ _ _ _ st h=>wpAny_pyIter_tupleiter st h
theorem Zo1 {P:Program}{w:World}{K:Frag}{tg:Expr}(it:Addr)(lo:Int)(n:Nat):Turn P w K tg (Itr lo n) [it] it (λi h=>IsRangeIter h it (lo+(i:Nat)*1) ((n:Int)-(i:Nat)) 1) where
 mem:=by simp
 obj:=λi h st b hb=>by
  have e:b=it:=by simpa using hb
  subst e;exact⟨_,st,λv z=>by
   have z':Data.fields _=Data.cell v:=z;cases z'⟩
 keep:=λi h h' st k=>k it (by simp) _ st
 item:=by
  intro X hP hw hK hc i pins s σ H E I hf st hg;subst hP hw hK;refine Zih (hf it (by simp)) λf0 f1 f2 f3 f4 f5=>?_;have W:=Walks.range (prog:=X.prog) (w:=X.w) (I.ok.hd hc) it lo 1 n;refine W.item i s _ _ hg st λv h' tk hv st' kk=>?_;obtain⟨t,rfl⟩:=hv;have I1:Inv X pins σ H { s with heap:=h',toks:=tk }:=I.turned (λb o hb e=>kk b o (by simpa using hb) e) f0 f1 f3 f4 f5;refine⟨_,rfl,go_of (s:={ s with heap:=h',toks:=tk }) (n:="range_iterator") st' rfl rfl ⇑0 ⟨.int (lo+i),H,I1,⟨t,?_⟩,⟨rfl,rfl⟩,st',λb hb=>(hf b hb).1⟩⟩;rw[Int.mul_one]
 done:=by
  intro X hP hw hK hc i pins s σ H E I hf st hg;subst hP hw hK;refine Zih (hf it (by simp)) λf0 f1 f2 f3 f4 f5=>?_;exact wpAny_pyNext_range_end (I.ok.hd hc) st (by have:n<=i:=hg;omega) λh' eb=>⟨rfl,I.turned (t':=s.toks) (λb o hb e=>eb b o hb e) f0 f1 f3 f4 f5⟩
 self:=λ_ _ _ _ _ st h=>wpAny_pyIter_rangeiter st h
section
variable {X:Cx}{tg:Expr}
def Zr5 (K:Frag)(tl:TE):TI:=λσ H R=>tl σ H λx H1=>∃ a,x=.ref a/\(∃ xs,SqL K H1 a xs)/\R (Itl K a) H1
def iTup (K:Frag)(tl:TE):TI:=λσ H R=>tl σ H λx H1=>∃ a,x=.ref a/\(∃ xs,SqT K H1 a xs)/\R (Itt K a) H1
theorem Zbd {l:Expr}{tl:TE}(hl:PE X l tl):PI X tg l (Zr5 X.K tl):=by
 intro pins s σ H R I h;refine thn (hl pins s σ H _ I h) λv s1 ⟨x,H1,I1,r1,q1⟩=>?_;refine Zas q1 λa e e930 q=>?_;clear q1;obtain⟨xs,hq⟩:=e930;subst e;cases r1;refine Zas (I1.list hq) λits rv p hz=>?_;refine Jcs p.isList ?_;refine Zlh s1.heap.objs.size [s1.heap.objs.size] _ _ H1 ⟨rfl,I1.kept (t':=s1.toks) λb o e=>Jak _ e,Zp4 a _,⟨_,Jay _ rfl,rfl,rfl⟩,λb hb=>?_,q⟩;have e:b=s1.heap.objs.size:=by simpa using hb
 subst e;exact I1.fpOk (Jaj _) (I1.hok.fresh (Jaj _))
theorem pi_tup {l:Expr}{tl:TE}(hl:PE X l tl):PI X tg l (iTup X.K tl):=by
 intro pins s σ H R I h;refine thn (hl pins s σ H _ I h) λv s1 ⟨x,H1,I1,r1,q1⟩=>?_;refine Zas q1 λa e e931 q=>?_;clear q1;obtain⟨xs,hq⟩:=e931;subst e;cases r1;refine Zas (I1.tuple hq) λits rv p hz=>?_;refine wpAny_pyIter_tuple (show s1.heap.IsTuple a its.toArray from p) ?_;refine Zlh s1.heap.objs.size [s1.heap.objs.size] _ _ H1 ⟨rfl,I1.kept (t':=s1.toks) λb o e=>Jak _ e,Zo0 a _,⟨_,Jay _ rfl,rfl,rfl⟩,λb hb=>?_,q⟩;have e:b=s1.heap.objs.size:=by simpa using hb
 subst e;exact I1.fpOk (Jaj _) (I1.hok.fresh (Jaj _))
theorem Zob {pins:List (Addr×Obj)}{σ:St}{H:Hp}{s:Shared}{R:It->Hp->Prop}{E:Value->Shared->Prop}{lo hi:Int}{t u v:Tok}{tk:Nat}(I:Inv X pins σ H s)(h1:-(2 ^ 62)<=lo)(h2:lo<2 ^ 62)(h3:-(2 ^ 62)<=hi)(h4:hi<2 ^ 62)(q:R (Itr lo (hi-lo).toNat) H):wpAny (model X.prog X.w) X.A (pyIter (.ref s.heap.objs.size)) (PIE X pins σ tg R) E { s with heap:=s.heap.push { cls:=.type "range",data:=.fields #[.int lo t,.int hi u,.int 1 v] },toks:=tk }:=by
 refine wpAny_pyIter_range (IsRange.new ..) (small_one h1 h2 h3 h4) ?_;have I1:Inv X pins σ H { s with heap:=s.heap.push { cls:=.type "range",data:=.fields #[.int lo t,.int hi u,.int 1 v] },toks:=tk }:=I.kept λb o e=>Jak _ e;refine Zlh ((s.heap.push { cls:=.type "range",data:=.fields #[.int lo t,.int hi u,.int 1 v] }).objs.size) [(s.heap.push { cls:=.type "range",data:=.fields #[.int lo t,.int hi u,.int 1 v] }).objs.size] _ _ H ⟨rfl,I1.kept (t':=tk) λb o e=>Jak _ e,Zo1 _ lo (hi-lo).toNat,?_,λb hb=>?_,q⟩
 .have e1:lo+((0:Nat):Int)*1=lo:=by simp
  have e2:(((hi-lo).toNat:Nat):Int)-((0:Nat):Int)=Builtin.Range.rangeSize lo hi 1:=by rw[rangeSize_one];split <;> omega
  show IsRangeIter _ _ (lo+((0:Nat):Int)*1) ((((hi-lo).toNat:Nat):Int)-((0:Nat):Int)) 1;rw[e1,e2];exact Jay _ rfl
 .have e:b=(s.heap.push { cls:=.type "range",data:=.fields #[.int lo t,.int hi u,.int 1 v] }).objs.size:=by simpa using hb
  subst e;exact I1.fpOk (Jaj _) (I1.hok.fresh (Jaj _))
def Zr4 (ta:TA):TI:=λσ H R=>ta σ H λvs H1=>∃ j:Int,vs=[.int j]/\-(2 ^ 62)<=j/\j<2 ^ 62/\R (Itr 0 j.toNat) H1
def Zuv (ta:TA):TI:=λσ H R=>ta σ H λvs H1=>∃ i j:Int,vs=[.int i,.int j]/\(-(2 ^ 62)<=i/\i<2 ^ 62/\-(2 ^ 62)<=j/\j<2 ^ 62)/\R (Itr i (j-i).toNat) H1
theorem Zq1 {a:Expr}{ta:TA}{p pos:Pos}(hg:Gl X "range")(hm:X.mg "range" = none)(ha:PA X [a] ta)(hs:starEach [a] X.env=[(false,eval a X.env)]:=by rfl):PI X tg (.Call (.Name "range" p) [a] [] pos) (Zr4 ta):=by
 intro pins s σ H R I h;refine Call_ (Zjk I hg hm boot_range (Jb5 (thn (ha pos pins s σ H _ I h) λus s1 ⟨vs,H1,I1,r1,q1⟩=>?_) hs rfl));obtain⟨j,e,q1,q2,q⟩:=q1;subst e;cases r1 with
 | cons r rr=>
  cases rr;obtain⟨t,rfl⟩:=r;exact call_range_1 (Zob I1 ∅ ∅ q1 q2 (by simpa using q))
theorem Zq0 {a b:Expr}{ta:TA}{p pos:Pos}(hg:Gl X "range")(hm:X.mg "range" = none)(ha:PA X [a,b] ta)(hs:starEach [a,b] X.env=[(false,eval a X.env),(false,eval b X.env)]:=by rfl)(hs2:starEach [b] X.env=[(false,eval b X.env)]:=by rfl):
  PI X tg (.Call (.Name "range" p) [a,b] [] pos) (Zuv ta):=by
 intro pins s σ H R I h;refine Call_ (Zjk I hg hm boot_range (Jb5 (thn (ha pos pins s σ H _ I h) λus s1 ⟨vs,H1,I1,r1,q1⟩=>?_) (by rw[hs,hs2]) (by rw[hs2];rfl)));refine Zca q1 λi j e e932 q=>?_;clear q1;obtain⟨q1,q2,q3,q4⟩:=e932;subst e;cases r1 with
 | cons r rr=>
  cases rr with
  | cons r' rr=>
   cases rr;obtain⟨t,rfl⟩:=r;obtain⟨t',rfl⟩:=r';exact call_range_2 (Zob I1 q1 q2 q3 q4 q)
def tFor (wi:TI)(g:TG)(tb:TS):TS:=λD σ H=>wi σ H λJ H1=>∃ W:Nat->Nat->St->Hp->Prop,(∃ m,W 0 m σ H1)/\∀ i m σ H,W i m σ H->
 (J.stop i H/\D.nx σ H)\/(J.go i H/\∃ N:St->Hp->Prop,(∀ σ' H',N σ' H'->∃ m',m'<m/\W (i+1) m' σ' H')/\∀ x H',J.yld i H x H'->g x σ H' λσ2 H2=>tb { D with nx:=N,ct:=N,bk:=D.nx } σ2 H2)
def Zlw (fp:List Addr)(h:Heap):List (Addr×Obj):=fp.filterMap λb=>(h.get? b).map λo=>(b,o)
theorem Zfl {fp:List Addr}{h:Heap}{b:Addr}{o:Obj}(hb:b∈fp)(e:h.get? b=some o):(b,o)∈Zlw fp h:=List.mem_filterMap.mpr ⟨b,hb,by rw[e];rfl⟩
theorem Zri {fp:List Addr}{h:Heap}{p:Addr×Obj}(hp:p∈Zlw fp h):p.1∈fp/\h.get? p.1=some p.2:=by
 refine Zae (List.mem_filterMap.mp hp) λb hb e=>?_;cases q:h.get? b with
 | none=>rw[q] at e;cases e
 | some o=>
  rw[q] at e;have e':(b,o)=p:=Jbn e;subst e';exact⟨hb,q⟩
theorem Inv.pinned {pins:List (Addr×Obj)}{σ:St}{H:Hp}{s:Shared}{fp:List Addr}(I:Inv X pins σ H s)(hf:∀ b∈fp,Zpo X pins H b)(ho:∀ b∈fp,∃ o,s.heap.get? b=some o/\∀ v,o.data≠.cell v):Inv X (pins++Zlw fp s.heap) σ H s:=
 I.pins_of λp hp=>(Ja1.mp hp).elim (λz=>I.pin p (Jbi _ z)) λz=>by
  obtain⟨hb,e⟩:=Zri z;refine Zck (hf p.1 hb) λf0 f1 f2 _=>?_;refine Zae (ho p.1 hb) λo e' d=>?_;rw[e] at e';cases e';exact⟨e,f0,f1,f2,d⟩
theorem Inv.unpinned {pins pl:List (Addr×Obj)}{σ:St}{H:Hp}{s:Shared}(I:Inv X (pins++pl) σ H s):Inv X pins σ H s:=I.pins_of λp hp=>I.pin p (Jbi _ (List.mem_append_left _ hp))
theorem Zgs {iter:Expr}{body:List Stmt}{wi:TI}{g:TG}{tb:TS}{pos:Pos}(hp:PassesOwn (model X.prog X.w) X.A X.env X.xe)(hc:X.calm=true)(hi:PI X tg iter wi)(hg:PG X tg g)(hb:PSs X body tb)(hs:∀ x,foldedSetIterable iter X.env x=pure x:=by intro _;rfl):PS X (.For tg iter body [] pos) (tFor wi g tb):=by
 intro pins s σ H D I h;refine wpAny_For (thn (hi pins s σ H _ I h) λv s1 h1=>thn h1 λitv s2 h2=>?_) hs;refine Zhb h2 λit fp tn J H2 e I2 T e933=>?_;clear h2;refine Zba e933 λst2 f2 e934=>?_;clear e933;obtain⟨W,⟨m0,w0⟩,turn⟩:=e934;subst e
 -- what stays true of the iterator's objects through the loop
 have stat:∀ {H':Hp},(∀ b∈fp,H' b=none)->∀ b∈fp,Zpo X pins H' b:=λhn b hb=>⟨hn b hb,(f2 b hb).2⟩
 refine codeAny_forLoop_any (λn s'=>∃ i σ' H',Inv X pins σ' H' s'/\tn i s'.heap/\(∀ b∈fp,H' b=none)/\W i n σ' H') ?_ m0 ⟨0,σ,H2,I2,st2,λb hb=>(f2 b hb).1,w0⟩;intro n s3 e92;refine Zcx e92 λi σ3 H3 I3 st3 fr3 w3=>?_;clear e92;rcases turn i n σ3 H3 w3 with ⟨stop,qn⟩|⟨go,N,hN,step⟩
 .refine Jcr hp (thn (T.done X rfl rfl rfl hc i pins s3 σ3 H3 X.xe I3 (stat fr3) st3 stop) λr s4 ⟨hr,I4⟩=>?_);subst hr;exact Jd1 ⟨σ3,H3,I4,qn⟩
 .refine Jcr hp (thn (T.item X rfl rfl rfl hc i pins s3 σ3 H3 X.xe I3 (stat fr3) st3 go) λr s4 ⟨u,hr,h4⟩=>?_);subst hr;refine Jcr hp (thn h4 λ_ s5 ⟨x,H5,I5,r5,y5,st5,fr5⟩=>?_);have I5':=I5.pinned (stat fr5) (T.obj _ _ st5);refine Jcr hp (thn (hg _ s5 σ3 H5 x u _ I5' r5 (step x H5 y5)) λ_ s6 ⟨σ6,H6,I6,q6⟩=>?_);refine Jcr hp (thn (hb _ s6 σ6 H6 _ I6 q6) λf s7 q7=>?_);have again:∀ {σ7:St} {H7:Hp},Inv X (pins++Zlw fp s5.heap) σ7 H7 s7->N σ7 H7->∃ m,m<n/\∃ i σ' H',Inv X pins σ' H' s7/\tn i s7.heap/\(∀ b∈fp,H' b=none)/\W i m σ' H':=λ{σ7 H7} I7 n7=>by
   refine Zae (hN σ7 H7 n7) λm' hm w7=>?_;refine⟨m',hm,i+1,σ7,H7,I7.unpinned,T.keep _ _ _ st5 λb hb o e=>(I7.pin (b,o) (Jbi _ (Jbi _ (Zfl hb e)))).1,λb hb=>?_,w7⟩;refine Zae (T.obj _ _ st5 b hb) λo e d=>?_;exact (I7.pin (b,o) (Jbi _ (Jbi _ (Zfl hb e)))).2.1
  cases f with
  | next=>obtain⟨σ7,H7,I7,n7⟩:=q7;exact again I7 n7
  | cont=>obtain⟨σ7,H7,I7,n7⟩:=q7;exact again I7 n7
  | brk=>obtain⟨σ7,H7,I7,q7⟩:=q7;exact⟨σ7,H7,I7.unpinned,q7⟩
  | ret v=>obtain⟨x7,σ7,H7,I7,r7,q7⟩:=q7;exact⟨x7,σ7,H7,I7.unpinned,r7,q7⟩
end
theorem Zlb {K:Frag}{a:Addr}{xs:List V}{g:TG}{tb:TS}{D:Ends}{σ:St}{H:Hp}(Pv:Nat->St->Hp->Prop)(h0:Pv 0 σ H)(hl:∀ i σ H,i<=xs.length->Pv i σ H->SqL K H a xs)(hs:∀ i x σ H,xs[i]?=some x->Pv i σ H->g x σ H λσ2 H2=>tb { D with nx:=Pv (i+1),ct:=Pv (i+1),bk:=D.nx } σ2 H2)(hd:∀ σ H,Pv xs.length σ H->D.nx σ H):
  ∃ W:Nat->Nat->St->Hp->Prop,(∃ m,W 0 m σ H)/\∀ i m σ H,W i m σ H->
   ((Itl K a).stop i H/\D.nx σ H)\/((Itl K a).go i H/\∃ N:St->Hp->Prop,(∀ σ' H',N σ' H'->∃ m',m'<m/\W (i+1) m' σ' H')/\∀ x H',(Itl K a).yld i H x H'->g x σ H' λσ2 H2=>tb { D with nx:=N,ct:=N,bk:=D.nx } σ2 H2):=by
 refine⟨λi m σ H=>m=xs.length-i/\i<=xs.length/\Pv i σ H,⟨xs.length,by simp,Jck _,h0⟩,?_⟩;intro i m σ H e93;refine Zba e93 λe935 hi p=>?_;clear e93;obtain rfl:=e935;have q:=hl i σ H hi p;by_cases hlt:i<xs.length
 .refine .inr ⟨⟨xs,xs[i],q,by simp[hlt]⟩,Pv (i+1),λσ' H' p'=>⟨xs.length-(i+1),∅,rfl,hlt,p'⟩,λx H' y=>?_⟩;obtain⟨e,y⟩:=y;subst e;exact hs i x σ _ (y xs q) p
 .have e:i=xs.length:=∅
  subst e;exact .inl ⟨⟨xs,q,Jaj _⟩,hd σ H p⟩
theorem Zeg {lo:Int}{n:Nat}{g:TG}{tb:TS}{D:Ends}{σ:St}{H:Hp}(Pv:Nat->St->Hp->Prop)(h0:Pv 0 σ H)(hs:∀ i σ H,i<n->Pv i σ H->g (.int (lo+i)) σ H λσ2 H2=>tb { D with nx:=Pv (i+1),ct:=Pv (i+1),bk:=D.nx } σ2 H2)(hd:∀ σ H,Pv n σ H->D.nx σ H):
  ∃ W:Nat->Nat->St->Hp->Prop,(∃ m,W 0 m σ H)/\∀ i m σ H,W i m σ H->
   ((Itr lo n).stop i H/\D.nx σ H)\/((Itr lo n).go i H/\∃ N:St->Hp->Prop,(∀ σ' H',N σ' H'->∃ m',m'<m/\W (i+1) m' σ' H')/\∀ x H',(Itr lo n).yld i H x H'->g x σ H' λσ2 H2=>tb { D with nx:=N,ct:=N,bk:=D.nx } σ2 H2):=by
 refine⟨λi m σ H=>m=n-i/\i<=n/\Pv i σ H,⟨n,by simp,Jck _,h0⟩,?_⟩;intro i m σ H e95;refine Zba e95 λe937 hi p=>?_;clear e95;obtain rfl:=e937;by_cases hlt:i<n
 .refine .inr ⟨hlt,Pv (i+1),λσ' H' p'=>⟨n-(i+1),∅,rfl,hlt,p'⟩,λx H' y=>?_⟩;obtain⟨e,y⟩:=y;subst e y;exact hs i σ _ hlt p
 .have e:i=n:=∅
  subst e;exact .inl ⟨Jaj _,hd σ H p⟩
abbrev R2:=V->V->Hp->VK->Prop
def OpR (X:Cx)(f:Value->Value->Sem Value)(r:R2):Prop:=
 ∀ (pins:List (Addr×Obj)) (s:Shared) (σ:St) (H:Hp) (x y:V) (v u:Value) (Q:VK),Inv X pins σ H s->RelV x v->RelV y u->r x y H Q->
  wpAny (model X.prog X.w) X.A (f v u) (EP X pins σ Q) X.xe s
def UnR (X:Cx)(f:Value->Sem Value)(r:V->Hp->VK->Prop):Prop:=
 ∀ (pins:List (Addr×Obj)) (s:Shared) (σ:St) (H:Hp) (x:V) (v:Value) (Q:VK),Inv X pins σ H s->RelV x v->r x H Q->
  wpAny (model X.prog X.w) X.A (f v) (EP X pins σ Q) X.xe s
def Zgi (X:Cx)(f:Value)(r:List V->Hp->VK->Prop):Prop:=
 ∀ (pins:List (Addr×Obj)) (s:Shared) (σ:St) (H:Hp) (xs:List V) (us:List Value) (Q:VK),Inv X pins σ H s->Vals xs us->r xs H Q->
  wpAny (model X.prog X.w) X.A (call f us) (EP X pins σ Q) X.xe s
def TruR (X:Cx)(r:V->Hp->(Bool->Hp->Prop)->Prop):Prop:=
 ∀ (pins:List (Addr×Obj)) (s:Shared) (σ:St) (H:Hp) (x:V) (v:Value) (Q:Bool->Hp->Prop),Inv X pins σ H s->RelV x v->r x H Q->
  wpAny (model X.prog X.w) X.A (truthy v) (TP X pins σ Q) X.xe s
def tOp (r:R2)(ta tb:TE):TE:=λσ H Q=>ta σ H λx H1=>tb σ H1 λy H2=>r x y H2 Q
def tUn (r:V->Hp->VK->Prop)(ta:TE):TE:=λσ H Q=>ta σ H λx H1=>r x H1 Q
def rI (C:Int->Int->Prop)(g:Int->Int->V):R2:=λx y H Q=>∃ i j,x=.int i/\y=.int j/\C i j/\Q (g i j) H
def rI0 (g:Int->Int->V):R2:=λx y H Q=>∃ i j,x=.int i/\y=.int j/\Q (g i j) H
def rU (g:Int->V):V->Hp->VK->Prop:=λx H Q=>∃ i,x=.int i/\Q (g i) H
section
variable {X:Cx}{a b c:Expr}{ta tb tc:TE}{pos:Pos}
theorem binT (ha:PE X a ta)(hb:PE X b tb){pins:List (Addr×Obj)}{s:Shared}{σ:St}{H:Hp}{R:V->V->Hp->Prop}(I:Inv X pins σ H s)(h:ta σ H λx H1=>tb σ H1 λy H2=>R x y H2){Q:Value->Shared->Prop}{f:Value->Value->Sem Value}(hf:∀ v u s2 x y H2,Inv X pins σ H2 s2->RelV x v->RelV y u->R x y H2->wpAny (model X.prog X.w) X.A (f v u) Q X.xe s2):
  wpAny (model X.prog X.w) X.A (eval a X.env) (λv s₁=>wpAny (model X.prog X.w) X.A (eval b X.env) (λu s₂=>wpAny (model X.prog X.w) X.A (f v u) Q X.xe s₂) X.xe s₁) X.xe s:=by
 refine thn (ha pins s σ H _ I h) λv s1 ⟨x,H1,I1,r1,q1⟩=>?_;refine thn (hb pins s1 σ H1 _ I1 q1) λu s2 ⟨y,H2,I2,r2,q2⟩=>?_;exact hf v u s2 x y H2 I2 r1 r2 q2
theorem pe_op {op:Operator}{r:R2}(ho:OpR X (binaryOp op) r)(ha:PE X a ta)(hb:PE X b tb):PE X (.BinOp a op b pos) (tOp r ta tb):=by
 intro pins s σ H Q I h;exact wpAny_BinOp (binT ha hb I h λv u s2 x y H2 I2 rx ry q=>ho pins s2 σ H2 x y v u Q I2 rx ry q)
theorem Zjv {op:UnaryOp}{r:V->Hp->VK->Prop}(ho:UnR X (unaryOp op) r)(ha:PE X a ta):PE X (.UnaryOp op a pos) (tUn r ta):=by
 intro pins s σ H Q I h;exact UnaryOp_ (thn (ha pins s σ H _ I h) λv s1 ⟨x,H1,I1,r1,q1⟩=>ho pins s1 σ H1 x v Q I1 r1 q1)
theorem opI {f:Value->Value->Sem Value}{C:Int->Int->Prop}{g:Int->Int->Int}(rule:∀ (i j:Int) (t u:Tok) (s:Shared) (Q:Value->Shared->Prop) (E:Value->Shared->Prop),C i j->Q (.int (g i j) s.toks) { s with toks:=s.toks+1 }->wpAny (model X.prog X.w) X.A (f (.int i t) (.int j u)) Q E s):
  OpR X f (rI C λi j=>.int (g i j)):=by
 intro pins s σ H x y v u Q I rx ry h;refine Zf2 h λi j e938 e939 hc q=>?_;clear h;obtain rfl:=e938;obtain rfl:=e939;obtain⟨t,rfl⟩:=rx;obtain⟨t',rfl⟩:=ry;exact rule i j t t' s _ _ hc ⟨.int (g i j),H,I.tok _,⟨_,rfl⟩,q⟩
theorem opI0 {f:Value->Value->Sem Value}{g:Int->Int->Int}(rule:∀ (i j:Int) (t u:Tok) (s:Shared) (Q:Value->Shared->Prop) (E:Value->Shared->Prop),Q (.int (g i j) s.toks) { s with toks:=s.toks+1 }->wpAny (model X.prog X.w) X.A (f (.int i t) (.int j u)) Q E s):
  OpR X f (rI0 λi j=>.int (g i j)):=by
 intro pins s σ H x y v u Q I rx ry h;refine Zca h λi j e940 e941 q=>?_;clear h;obtain rfl:=e940;obtain rfl:=e941;obtain⟨t,rfl⟩:=rx;obtain⟨t',rfl⟩:=ry;exact rule i j t t' s _ _ ⟨.int (g i j),H,I.tok _,⟨_,rfl⟩,q⟩
theorem opB0 {f:Value->Value->Sem Value}{g:Int->Int->Bool}(rule:∀ (i j:Int) (t u:Tok) (s:Shared) (Q:Value->Shared->Prop) (E:Value->Shared->Prop),Q (.bool (g i j)) s->wpAny (model X.prog X.w) X.A (f (.int i t) (.int j u)) Q E s):
  OpR X f (rI0 λi j=>.bl (g i j)):=by
 intro pins s σ H x y v u Q I rx ry h;refine Zca h λi j e942 e943 q=>?_;clear h;obtain rfl:=e942;obtain rfl:=e943;obtain⟨t,rfl⟩:=rx;obtain⟨t',rfl⟩:=ry;exact rule i j t t' s _ _ ⟨.bl (g i j),H,I,rfl,q⟩
def CDiv (i j:Int):Prop:=0<j/\j<1073741824
def CPow (i j:Int):Prop:=0<=j/\j<=1000000/\i.natAbs<2 ^ 64
def CMul (i j:Int):Prop:=(-(2 ^ 64)<i/\i<2 ^ 64)\/(-(2 ^ 64)<j/\j<2 ^ 64)
theorem CMul.ok {i j:Int}(h:CMul i j):IntMulOk i j:=by
 rcases h with ⟨h1,h2⟩|⟨h1,h2⟩
 .exact .of_left (intBits_le_64 h1 h2)
 .exact .of_right (intBits_le_64 h1 h2)
theorem two_pow_nn (k:Nat):(0:Int)<=2 ^ k:=by
 rw[two_pow_cast];exact Jeb _
theorem Zc3:OpR X (binaryOp .Add) (rI0 λi j=>.int (i+j)):=opI0 λ_ _ _ _ _ _ _ q=>add_int q
theorem Zgv:OpR X (binaryOp .Sub) (rI0 λi j=>.int (i-j)):=opI0 λ_ _ _ _ _ _ _ q=>sub_int q
theorem Zof:OpR X (binaryOp .Mult) (rI CMul λi j=>.int (i*j)):=opI λ_ _ _ _ _ _ _ hc q=>mul_int q hc.ok
theorem Zk0:OpR X (binaryOp .FloorDiv) (rI CDiv λi j=>.int (i / j)):=opI λi j _ _ _ _ _ hc q=>by
 have h1:(0:Int)<j:=hc.1;have h2:j<1073741824:=hc.2;exact floordiv_int ∅ (by rw[Jbt i ∅];exact q) (.inl (PyProof.noPylong_small ∅))
theorem Zdd:OpR X (binaryOp .Mod) (rI (λ_ j=>0<j) λi j=>.int (i % j)):=opI λi j _ _ _ _ _ hc q=>by
 have h1:(0:Int)<j:=hc;exact mod_int' ∅ (by rw[Int.fmod_eq_emod_of_nonneg i ∅];exact q)
theorem Zq8:OpR X (binaryOp .Mod) (rI (λ_ j=>j≠0) λi j=>.int (i.fmod j)):=opI λ_ _ _ _ _ _ _ hc q=>mod_int' hc q
theorem Zvz:OpR X (binaryOp .Pow) (rI CPow λi j=>.int (i ^ j.toNat)):=opI λ_ _ _ _ _ _ _ hc q=>pow_int_small hc.1 hc.2.1 hc.2.2 q
theorem Zvy:OpR X (binaryOp .RShift) (rI (λ_ j=>0<=j) λi j=>.int (i / 2 ^ j.toNat)):=opI λi j _ _ _ _ _ hc q=>
 rshift_int hc (by rw[Jbt i (two_pow_nn _)];exact q)
theorem unI {f:Value->Sem Value}{g:Int->Int}(rule:∀ (i:Int) (t:Tok) (s:Shared) (Q:Value->Shared->Prop) (E:Value->Shared->Prop),Q (.int (g i) s.toks) { s with toks:=s.toks+1 }->wpAny (model X.prog X.w) X.A (f (.int i t)) Q E s):
  UnR X f (rU λi=>.int (g i)):=by
 intro pins s σ H x v Q I rx h;refine Zae h λi e944 q=>?_;clear h;obtain rfl:=e944;obtain⟨t,rfl⟩:=rx;exact rule i t s _ _ ⟨.int (g i),H,I.tok _,⟨_,rfl⟩,q⟩
theorem Zfu:UnR X (unaryOp .USub) (rU λi=>.int (-i)):=unI λ_ _ _ _ _ q=>neg_int q
end
def scal:V->V->Bool
 | .non,.non=>true | .non,.int _=>true | .int _,.non=>true | .non,.bl _=>true | .bl _,.non=>true | .non,.str _=>true | .str _,.non=>true
 | .int _,.int _=>true | .bl _,.bl _=>true | .str _,.str _=>true | .byt _,.byt _=>true
 | .int _,.str _=>true | .str _,.int _=>true | .bl _,.str _=>true | .str _,.bl _=>true
 | _,_=>false
def rEq:R2:=λx y H Q=>scal x y=true/\Q (.bl (decide (x=y))) H
def rNe:R2:=λx y H Q=>scal x y=true/\Q (.bl (!decide (x=y))) H
theorem Zsc {i j:Int}:decide (V.int i=V.int j)=(i == j):=by
 rw[Jcb];simp
theorem Zwa {i j:Bool}:decide (V.bl i=V.bl j)=(i == j):=by
 rw[Jcb];simp
theorem Zsb {i j:Str}:decide (V.str i=V.str j)=(i == j):=by
 rw[Jcb];simp
theorem Zsd {i j:Array UInt8}:decide (V.byt i=V.byt j)=(i.toList == j.toList):=by
 rw[Jcb];cases i;cases j;simp
section
variable {X:Cx}{a b c:Expr}{ta tb tc:TE}{pos:Pos}
theorem Zbc {pins:List (Addr×Obj)}{σ:St}{H:Hp}{s:Shared}{Q:VK}{k k':Bool}(I:Inv X pins σ H s)(q:Q (.bl k) H)(e:k=k'):EP X pins σ Q (.bool k') s:=by
 subst e;exact Zaq (.bl k) H ⟨I,rfl,q⟩
theorem Zby:OpR X (compareOp .Eq) rEq:=by
 intro pins s σ H x y v u Q I rx ry h;obtain⟨hs,q⟩:=h;cases x with
 | non=>
  cases rx;cases y with
  | non=>cases ry;exact PySem.EqNone.eq_none_none (Zbc I q (by simp))
  | bl j=>cases ry;exact PySem.EqNone.eq_none_bool (Zbc I q (by simp))
  | int j=>obtain⟨t',rfl⟩:=ry;exact PySem.EqNone.eq_none_int (Zbc I q (by simp))
  | str j=>obtain⟨t',rfl⟩:=ry;exact PySem.EqNone.eq_none_str (Zbc I q (by simp))
  | _=>exact absurd (show false=true from hs) Jau
 | bl i=>
  cases rx;cases y with
  | non=>cases ry;exact PySem.EqNone.eq_bool_none (Zbc I q (by simp))
  | bl j=>cases ry;exact eq_bool (Zbc I q Zwa)
  | str j=>obtain⟨t',rfl⟩:=ry;exact PySem.EqMixed.eq_bool_str (Zbc I q (by simp))
  | _=>exact absurd (show false=true from hs) Jau
 | int i=>
  obtain⟨t,rfl⟩:=rx;cases y with
  | non=>cases ry;exact PySem.EqNone.eq_int_none (Zbc I q (by simp))
  | int j=>obtain⟨t',rfl⟩:=ry;exact eq_int (Zbc I q Zsc)
  | str j=>obtain⟨t',rfl⟩:=ry;exact PySem.EqMixed.eq_int_str (Zbc I q (by simp))
  | _=>exact absurd (show false=true from hs) Jau
 | str i=>
  obtain⟨t,rfl⟩:=rx;cases y with
  | non=>cases ry;exact PySem.EqNone.eq_str_none (Zbc I q (by simp))
  | bl j=>cases ry;exact PySem.EqMixed.eq_str_bool (Zbc I q (by simp))
  | int j=>obtain⟨t',rfl⟩:=ry;exact PySem.EqMixed.eq_str_int (Zbc I q (by simp))
  | str j=>obtain⟨t',rfl⟩:=ry;exact eq_str (Zbc I q Zsb)
  | _=>exact absurd (show false=true from hs) Jau
 | byt i=>
  obtain⟨t,rfl⟩:=rx;cases y with
  | byt j=>obtain⟨t',rfl⟩:=ry;exact PySem.W.eq_bytes (Zbc I q Zsd)
  | _=>exact absurd (show false=true from hs) Jau
 | _=>cases y <;> exact absurd (show false=true from hs) Jau
theorem Zft:OpR X (compareOp .NotEq) rNe:=by
 intro pins s σ H x y v u Q I rx ry h;obtain⟨hs,q⟩:=h;cases x with
 | non=>
  cases rx;cases y with
  | non=>cases ry;exact PySem.EqNone.ne_none_none (Zbc I q (by simp))
  | bl j=>cases ry;exact PySem.EqNone.ne_none_bool (Zbc I q (by simp))
  | int j=>obtain⟨t',rfl⟩:=ry;exact PySem.EqNone.ne_none_int (Zbc I q (by simp))
  | str j=>obtain⟨t',rfl⟩:=ry;exact PySem.EqNone.ne_none_str (Zbc I q (by simp))
  | _=>exact absurd (show false=true from hs) Jau
 | bl i=>
  cases rx;cases y with
  | non=>cases ry;exact PySem.EqNone.ne_bool_none (Zbc I q (by simp))
  | bl j=>cases ry;exact ne_bool (Zbc I q (Jdp not Zwa))
  | str j=>obtain⟨t',rfl⟩:=ry;exact PySem.EqMixed.ne_bool_str (Zbc I q (by simp))
  | _=>exact absurd (show false=true from hs) Jau
 | int i=>
  obtain⟨t,rfl⟩:=rx;cases y with
  | non=>cases ry;exact PySem.EqNone.ne_int_none (Zbc I q (by simp))
  | int j=>obtain⟨t',rfl⟩:=ry;exact ne_int (Zbc I q (Jdp not Zsc))
  | str j=>obtain⟨t',rfl⟩:=ry;exact PySem.EqMixed.ne_int_str (Zbc I q (by simp))
  | _=>exact absurd (show false=true from hs) Jau
 | str i=>
  obtain⟨t,rfl⟩:=rx;cases y with
  | non=>cases ry;exact PySem.EqNone.ne_str_none (Zbc I q (by simp))
  | bl j=>cases ry;exact PySem.EqMixed.ne_str_bool (Zbc I q (by simp))
  | int j=>obtain⟨t',rfl⟩:=ry;exact PySem.EqMixed.ne_str_int (Zbc I q (by simp))
  | str j=>obtain⟨t',rfl⟩:=ry;exact ne_str (Zbc I q (Jdp not Zsb))
  | _=>exact absurd (show false=true from hs) Jau
 | byt i=>
  obtain⟨t,rfl⟩:=rx;cases y with
  | byt j=>obtain⟨t',rfl⟩:=ry;exact PySem.W.ne_bytes (Zbc I q (Jdp not Zsd))
  | _=>exact absurd (show false=true from hs) Jau
 | _=>cases y <;> exact absurd (show false=true from hs) Jau
theorem Zjx:OpR X (compareOp .Lt) (rI0 λi j=>.bl (decide (i<j))):=opB0 λ_ _ _ _ _ _ _ q=>lt_int q
theorem Zpa:OpR X (compareOp .LtE) (rI0 λi j=>.bl (decide (i<=j))):=opB0 λ_ _ _ _ _ _ _ q=>le_int q
theorem Ze1:OpR X (compareOp .Gt) (rI0 λi j=>.bl (decide (j<i))):=opB0 λ_ _ _ _ _ _ _ q=>gt_int q
theorem op_ge:OpR X (compareOp .GtE) (rI0 λi j=>.bl (decide (j<=i))):=opB0 λ_ _ _ _ _ _ _ q=>ge_int q
theorem Zah (b:Expr){op:CmpOp}(h:op≠.In:=by decide)(h2:op≠.NotIn:=by decide):behindInMarks op b=false:=by
 have e1:(op == CmpOp.In)=false:=by cases op <;> first|rfl|exact absurd rfl h
 have e2:(op == CmpOp.NotIn)=false:=by cases op <;> first|rfl|exact absurd rfl h2
 cases b <;> simp[behindInMarks,e1,e2]
theorem Zbx {op:CmpOp}{r:R2}(ho:OpR X (compareOp op) r)(ha:PE X a ta)(hb:PE X b tb)(hm:behindInMarks op b=false):PE X (.Compare a [op] [b] pos) (tOp r ta tb):=by
 intro pins s σ H Q I h;exact wpAny_Compare1 (binT ha hb I h λv u s2 x y H2 I2 rx ry q=>ho pins s2 σ H2 x y v u Q I2 rx ry q) hm
def Ztf (t:TE):TT:=λσ H Q=>t σ H λx H'=>∃ k,x=.bl k/\Q k H'
theorem Zeo {op:CmpOp}{r:R2}(ho:OpR X (compareOp op) r)(ha:PE X a ta)(hb:PE X b tb)(hm:behindInMarks op b=false):PT X (.Compare a [op] [b] pos) (Ztf (tOp r ta tb)):=by
 intro pins s σ H Q I h;refine Jds (thn (ha pins s σ H _ I h) λv s1 ⟨x,H1,I1,r1,q1⟩=>thn (hb pins s1 σ H1 _ I1 q1) λu s2 ⟨y,H2,I2,r2,q2⟩=>
  thn (ho pins s2 σ H2 x y v u _ I2 r1 r2 q2) λc s3 ⟨z,H3,I3,r3,k,e,q3⟩=>?_) hm
 subst e;cases r3;exact Jbo ⟨H3,I3,q3⟩
def Zny (r r':R2)(ta tb tc:TE):TE:=λσ H Q=>ta σ H λx H1=>tb σ H1 λy H2=>r x y H2 λz H3=>∃ k,z=.bl k /\
 (if k=true then tc σ H3 λw' H4=>r' y w' H4 Q else Q (.bl false) H3)
theorem Zoe {op op':CmpOp}{r r':R2}(ho:OpR X (compareOp op) r)(ho':OpR X (compareOp op') r')(ha:PE X a ta)(hb:PE X b tb)(hc:PE X c tc)(hm:lastMarks [op,op'] [b,c]=false:=by with_unfolding_all rfl):PE X (.Compare a [op,op'] [b,c] pos) (Zny r r' ta tb tc):=by
 intro pins s σ H Q I h;refine Compare_chain (thn (ha pins s σ H _ I h) λv s1 ⟨x,H1,I1,r1,q1⟩=>chain_link (thn (hb pins s1 σ H1 _ I1 q1) λu s2 ⟨y,H2,I2,r2,q2⟩=>
  thn (ho pins s2 σ H2 x y v u _ I2 r1 r2 q2) λd s3 ⟨z,H3,I3,r3,k,e,q3⟩=>?_)) hm
 subst e;cases r3;refine Jbo ?_;cases k with
 | false=>exact ite_ff ⟨.bl false,H3,I3,rfl,q3⟩
 | true=>exact ite_tt (chain_last (thn (hc pins s3 σ H3 _ I3 q3) λw' s4 ⟨z',H4,I4,r4,q4⟩=>ho' pins s4 σ H4 y z' u w' Q I4 r2 r4 q4))
theorem Zoc {op op':CmpOp}{r r':R2}(ho:OpR X (compareOp op) r)(ho':OpR X (compareOp op') r')(ha:PE X a ta)(hb:PE X b tb)(hc:PE X c tc)(hm:lastMarks [op,op'] [b,c]=false:=by with_unfolding_all rfl):PT X (.Compare a [op,op'] [b,c] pos) (Ztf (Zny r r' ta tb tc)):=by
 intro pins s σ H Q I h;refine isTrue_chain (thn (ha pins s σ H _ I h) λv s1 ⟨x,H1,I1,r1,q1⟩=>test_link (thn (hb pins s1 σ H1 _ I1 q1) λu s2 ⟨y,H2,I2,r2,q2⟩=>
  thn (ho pins s2 σ H2 x y v u _ I2 r1 r2 q2) λd s3 ⟨z,H3,I3,r3,k,e,q3⟩=>?_)) hm
 subst e;cases r3;refine Jbo ?_;cases k with
 | false=>
  refine Zae q3 λk' e' q'=>?_;clear q3;cases e';exact ite_ff ⟨H3,I3,q'⟩
 | true=>
  refine ite_tt (test_last (thn (hc pins s3 σ H3 _ I3 q3) λw' s4 ⟨z',H4,I4,r4,q4⟩=>thn (ho' pins s4 σ H4 y z' u w' _ I4 r2 r4 q4) λd' s5 ⟨z2,H5,I5,r5,k2,e2,q5⟩=>?_));subst e2;cases r5;exact Jbo ⟨H5,I5,q5⟩
def TruV (K:Frag)(x:V)(H:Hp)(k:Bool):Prop:=
 match x with
 | .non=>k=false
 | .bl b=>k=b
 | .int i=>k=(i != 0)
 | .str y=>y.length<=sizeLine/\k=((y.length:Int) != 0)
 | .byt y=>y.size<=sizeLine/\k=((y.size:Int) != 0)
 | .ref p=>(∃ xs,SqL K H p xs/\k=!xs.isEmpty)\/(∃ xs,SqT K H p xs/\k=!xs.isEmpty)\/∃ kvs,H p=some (.dK kvs)/\k=!kvs.isEmpty
 | _=>False
theorem Zph {κ:Type}{kvs:List (κ×V)}{vs:List (κ×Value)}(r:KV kvs vs):(!vs.isEmpty)=!kvs.isEmpty:=by
 cases r <;> rfl
theorem Zkm {xs:List V}{its:List Value}(r:Vals xs its):(!its.toArray.isEmpty)=!xs.isEmpty:=by
 cases r <;> simp
theorem Zl4:(sizeLine:Nat)<2 ^ 63:=by rw[sizeLine_eq];decide
theorem tru_ok:TruR X (λx H Q=>∃ k,TruV X.K x H k/\Q k H):=by
 intro pins s σ H x v Q I rx h;refine Zae h λk e q=>?_;clear h;have hl:=Zl4;have hs:sizeLine=16777216:=sizeLine_eq;cases x with
 | non=>
  cases rx;have e':k=false:=e;subst e';exact truthy_none ⟨H,I,q⟩
 | bl b=>
  cases rx;have e':k=b:=e;subst e';exact Jbo ⟨H,I,q⟩
 | int i=>
  obtain⟨t,rfl⟩:=rx;have e':k=(i != 0):=e;subst e';exact PySem.P.truthy_int ⟨H,I,q⟩
 | str y=>
  obtain⟨t,rfl⟩:=rx;obtain⟨hy,e'⟩:y.length<=sizeLine/\k=((y.length:Int) != 0):=e;subst e';exact PySem.P.truthy_str ∅ ⟨H,I.tok _,q⟩
 | byt y=>
  obtain⟨t,rfl⟩:=rx;obtain⟨hy,e'⟩:y.size<=sizeLine/\k=((y.size:Int) != 0):=e;subst e';exact PySem.W.truthy_bytes ∅ ⟨H,I.tok _,q⟩
 | ref p=>
  cases rx;have e':(∃ xs,SqL X.K H p xs/\k=!xs.isEmpty)\/(∃ xs,SqT X.K H p xs/\k=!xs.isEmpty)\/∃ kvs,H p=some (.dK kvs)/\k=!kvs.isEmpty:=e;rcases e' with ⟨xs,hx,e'⟩|⟨xs,hx,e'⟩|⟨kvs,hx,e'⟩
  .subst e';refine Zas (I.list hx) λits r pl hz=>?_;have hlen:=r.length;exact wpAny_truthy_list pl.isList (by simp only[Jal];omega) ⟨H,I.tok _,by rw[Zkm r];exact q⟩
  .subst e';refine Zas (I.tuple hx) λits r pl hz=>?_;have hlen:=r.length;exact truthy_tuple pl (by simp only[Jal];omega) ⟨H,I.tok _,by rw[Zkm r];exact q⟩
  .subst e';obtain⟨hz,hS,vs,r,m⟩:kvs.length<=sizeLine/\(p == sysModules)=false/\∃ vs,KV kvs vs/\s.heap.DictOf (Zna X.prog X.w) p vs:=I.hok p _ hx;have hlen:kvs.length=vs.length:=Paired.length r;exact wpAny_truthy_dict hS m ∅ ⟨H,I.tok _,by rw[Zph r];exact q⟩
 | _=>exact (show False from e).elim
theorem Zts (ha:PE X a ta)(he:∀ whole,isTrue a X.env whole=(do let v <- whole;standAt a.pos;holding [v] (truthy v))):
  PT X a (λσ H Q=>ta σ H λx H'=>∃ k,TruV X.K x H' k/\Q k H'):=by
 intro pins s σ H Q I h;exact isTrue_plain (thn (ha pins s σ H _ I h) λv s1 ⟨x,H1,I1,r1,q1⟩=>tru_ok pins s1 σ H1 x v Q I1 r1 q1) (he _)
theorem Zll {x:V}{us:List Value}(r:Vals [x] us):∃ u,us=[u]/\RelV x u:=by
 cases r with
 | cons r1 r2=>cases r2;exact⟨_,rfl,r1⟩
theorem vals2 {x y:V}{us:List Value}(r:Vals [x,y] us):∃ u w',us=[u,w']/\RelV x u/\RelV y w':=by
 cases r with
 | cons r1 r2=>
  cases r2 with
  | cons r3 r4=>cases r4;exact⟨_,_,rfl,r1,r3⟩
theorem Zeq:Zgi X (.builtin "abs") (λxs H Q=>∃ i,xs=[.int i]/\Q (.int (if i<0 then -i else i)) H):=by
 intro pins s σ H xs us Q I r h;refine Zae h λi e968 q=>?_;clear h;obtain rfl:=e968;refine Zae (Zll r) λu e969 e970=>?_;obtain rfl:=e969;obtain⟨t,rfl⟩:=e970;exact call_abs_int λu tk=>⟨.int (if i<0 then -i else i),H,I.tok _,⟨_,rfl⟩,q⟩
theorem Zmb (hc:X.calm=true):Zgi X (.builtin "min") (λxs H Q=>∃ i j,xs=[.int i,.int j]/\Q (.int (if j<i then j else i)) H):=by
 intro pins s σ H xs us Q I r h;refine Zbs h λi j e975 q=>?_;clear h;obtain rfl:=e975;refine Zca (vals2 r) λu w' e976 e977 e978=>?_;obtain rfl:=e976;obtain⟨t,rfl⟩:=e977;obtain⟨t',rfl⟩:=e978;refine min_two_ints (I.ok.hd hc) λh' tk k=>⟨_,H,I.kept k,?_,q⟩
 by_cases hj:j<i
 .rw [if_pos hj,if_pos hj];exact⟨_,rfl⟩
 .rw [if_neg hj,if_neg hj];exact⟨_,rfl⟩
theorem Zjr:Zgi X (.type "int") (λxs H Q=>(∃ i,xs=[.int i]/\Q (.int i) H)\/∃ k,xs=[.bl k]/\Q (.int (if k then 1 else 0)) H):=by
 intro pins s σ H xs us Q I r h;rcases h with ⟨i,rfl,q⟩|⟨k,rfl,q⟩
 .refine Zae (Zll r) λu e979 e980=>?_;obtain rfl:=e979;obtain⟨t,rfl⟩:=e980;exact call_int_int ⟨.int i,H,I,⟨_,rfl⟩,q⟩
 .refine Zae (Zll r) λu e981 r1=>?_;obtain rfl:=e981;cases r1;exact call_int_bool ⟨.int (if k then 1 else 0),H,I.tok _,⟨_,rfl⟩,q⟩
end
structure ObjM (h:Heap)(x dx C:Addr)(mA:Str->Option Value):Prop where
 obj:h.get? x=some (PySem.W.instObj C dx)
 ns:h.Ns1 dx mA
 ne:dx≠x
theorem Zrq {h:Heap}{dx:Addr}{mA:Str->Option Value}(n:h.Ns1 dx mA):∃ od,h.get? dx=some od/\∀ name,PySem.W.lookIn name od=some (mA name):=by
 refine Zcx n λo es ep ho hd hk e9101=>?_;clear n;obtain⟨_,hm⟩:=e9101;refine⟨o,ho,λname=>?_⟩;have e:=hm name;unfold nsFind findBy at e;rw[<- Array.find?_toList] at e;unfold PySem.W.lookIn;rw[hd];dsimp only;split
 .rename_i y q
  rw[q] at e;exact Jdp some e
 .rename_i q
  rw[q] at e;have a:es.toList.any (·.refKey)=false:=by
   rw[List.any_eq_false];intro y hy;refine Zfq (hk y (Array.mem_toList_iff.mp hy)) λz t hkey=>?_;simp[DictEntry.refKey,hkey]
  have a':¬ es.toList.any (·.refKey)=true:=by rw[a];exact Jau
  rw[if_neg a'];exact Jdp some e
theorem ObjM.look {h:Heap}{x dx C:Addr}{mA:Str->Option Value}(I:ObjM h x dx C mA):∃ od,PySem.W.InstAt h x (PySem.W.instObj C dx) C (some od)/\∀ name,PySem.W.lookIn name od=some (mA name):=
 let ⟨od,ho,hl⟩:=Zrq I.ns
 ⟨od,⟨I.obj,rfl,rfl,ho⟩,hl⟩
section
variable {prog:Program}{w:World}{A:Around}{E:Value->Shared->Prop}{s:Shared}{K:Frag}{x dx C f:Addr}{mA:Str->Option Value}{name:Str}{v:Value}
theorem get_map {expr:Bool}{Q:Value->Shared->Prop}(X:K.In s.heap)(I:ObjM s.heap x dx C mA)(hg:PySem.W.plainGet K C name=true)(hh:PySem.W.hasDictIn K C=true)(ha:PySem.W.findIn K (.ref C) name=some none)(hv:mA name=some v)(hv':PySem.W.handedIn v=true)(h:Q v { s with toks:=s.toks+1 }):
  wpAny (model prog w) A (getAttr (.ref x) name expr) Q E s:=by
 refine Zae I.look λod J hl=>?_;exact PySem.W.get_value X J (Jd2 hg).1 (PySem.W.findObj_own hh ha rfl (by rw[hl,hv])) hv' h
theorem Zuy {pl:Sem Bool}{Q:Value×List Value->Shared->Prop}(X:K.In s.heap)(I:ObjM s.heap x dx C mA)(hg:PySem.W.plainGet K C name=true)(hf:PySem.W.findIn K (.ref C) name=some (some (.ref f)))(ht:PySem.W.isFn K (.ref f)=true)(hv:mA name=none)(h:Q (.ref f,[.ref x]) s):
  wpAny (model prog w) A (getMethod (.ref x) name pl) Q E s:=by
 refine Zae I.look λod J hl=>?_;exact PySem.W.method_fn X J (Jd2 hg).1 (Jd2 hg).2 hf (Jbu.mp ht) (by show (PySem.W.lookIn name od).map (·.isSome)=some false;rw[hl,hv];rfl) h
theorem set_map {ns:List Str}{Q:Unit->Shared->Prop}(X:K.In s.heap)(I:ObjM s.heap x dx C mA)(hs:PySem.W.findIn K (.ref C) "__setattr__" = some (some (.builtin "object.__setattr__")))(hp:PySem.W.plainOver K C=true)(ht:PySem.W.takerIn K C name=some none)(hh:PySem.W.hasDictIn K C=true)(hw:PySem.Within mA ns)(hsz:ns.length<=sizeLine)(h:∀ h',ObjM h' x dx C (λy=>if y=name then some v else mA y)->Heap.SameBut dx s.heap h'->Q () { s with heap:=h',toks:=s.toks+2 }):
  wpAny (model prog w) A (setAttr (.ref x) name v) Q E s:=by
 refine Zae I.look λod J hl=>?_;refine PySem.W.set_plain X J hs (PySem.W.osa_open (s:={ s with toks:=s.toks+1 }) (r:=none) X J hp ht λb=>?_);refine Zae (PySem.W.any_some hh) λcd hc hd'=>?_;have hx:s.heap.get? x=some ⟨.ref C,some dx,.plain,#[]⟩:=I.obj;refine Jag (Jaw (Jag (Jag (wpAny_loadPart hx (Jag (PySem.W.Looks.here (s:={ s with toks:=s.toks+1 }) (PySem.W.looks_clsIn X hc) ?_))))));rw[hd'];refine Jaw (a:=some dx) (Jag (Jaw (Jag ?_)));refine wpAny_nsSet1 (s:={ s with toks:=s.toks+1 }) I.ns λh' hn2 hs2=>?_;refine Zmk (hn2.count (PySem.Within.cons name v hw)) λoD esD epD hoD hdD hcD=>?_;refine Jag (wpAny_lookBehind hoD (by rw[hdD];exact pastItsLine_dict (Jbh hcD (by rw[Jcl];omega))) ?_);exact Jaw (h _ ⟨(hs2.2 _ (Jen I.ne)).trans I.obj,hn2,I.ne⟩ hs2)
theorem Zuo {R:Result->Shared->Prop}{vs:List Value}{kw:List (Str×Value)}(X:K.In s.heap)(hm:PySem.W.makesIn K C=true)(hi:PySem.W.findIn K (.ref C) "__init__" = some (some (.ref f)))(hf:PySem.W.typeIn K (.ref f)=some (.type "function"))(h:codeAny (model prog w) (A.under (.builtin "type.__call__" ⟨.ref C::vs,kw⟩)) (.call (.ref f) ⟨.ref (s.heap.objs.size+1)::vs,kw⟩) (PySem.W.InitBack (s.heap.objs.size+1) R)
   { s with heap:=(s.heap.push PySem.W.emptyDict).push (PySem.W.instObj C s.heap.objs.size) }):
  codeAny (model prog w) A (.call (.ref C) ⟨vs,kw⟩) R s:=by
 obtain⟨hh,g,d,t,os⟩:=s;exact PySem.W.make_core (PySem.W.makes_of X hm) (PySem.W.looks_findIn X hi) (λself=>PySem.W.bind_fn X self hf) (.inl rfl) h
end
def Zct (f:Str)(v:V):List (Str×V)->List (Str×V)
 | []=>[(f,v)]
 | (g,x)::r=>if g=f then (g,v)::r else (g,x)::Zct f v r
theorem Zaz (f g:Str)(v:V):∀ fs:List (Str×V),(Zct f v fs).lookup g=if g=f then some v else fs.lookup g
 | []=>by
  show List.lookup g [(f,v)]=_;by_cases h:g=f
  .have hb:(g == f)=true:=Jbu.mpr h;simp only[List.lookup,hb,if_pos h]
  .have hb:(g == f)=false:=Jdc.mpr h;simp only[List.lookup,hb,if_neg h]
 | (k,x)::r=>by
  have ih:=Zaz f g v r;rw[show Zct f v ((k,x)::r)=(if k=f then (k,v)::r else (k,x)::Zct f v r) from rfl];by_cases hk:k=f
  .rw [if_pos hk];by_cases h:g=k
   .have hb:(g == k)=true:=Jbu.mpr h;simp only[List.lookup,hb,if_pos (h.trans hk)]
   .have hb:(g == k)=false:=Jdc.mpr h;simp only[List.lookup,hb,if_neg (λe:g=f=>h (e.trans hk.symm))]
  .rw [if_neg hk];by_cases h:g=k
   .have hb:(g == k)=true:=Jbu.mpr h;simp only[List.lookup,hb,if_neg (λe:g=f=>hk (h.symm.trans e))]
   .have hb:(g == k)=false:=Jdc.mpr h;simp only[List.lookup,hb];exact ih
theorem Zjl (f:Str)(v:V):∀ fs:List (Str×V),f∈(Zct f v fs).map (·.1)/\∀ g,g∈fs.map (·.1)->g∈(Zct f v fs).map (·.1)
 | []=>⟨by simp[Zct],λg h=>by simp at h⟩
 | (k,x)::r=>by
  obtain⟨i1,i2⟩:=Zjl f v r;rw[show Zct f v ((k,x)::r)=(if k=f then (k,v)::r else (k,x)::Zct f v r) from rfl];by_cases hk:k=f
  .rw [if_pos hk];subst hk;exact⟨by simp,λg h=>by simpa using h⟩
  .rw [if_neg hk];refine⟨?_,λg h=>?_⟩
   .rw [List.map_cons];exact Jbl _ i1
   .rw [List.map_cons] at h ⊢;rcases Ja5.mp h with e|e
    .exact Ja5.mpr (.inl e)
    .exact Jbl _ (i2 g e)
theorem Zb8 (f:Str)(v:V):∀ fs:List (Str×V),(Zct f v fs).length<=fs.length+1
 | []=>by simp[Zct]
 | (k,x)::r=>by
  have ih:=Zb8 f v r;rw[show Zct f v ((k,x)::r)=(if k=f then (k,v)::r else (k,x)::Zct f v r) from rfl];by_cases hk:k=f
  .rw [if_pos hk,Jcl,Jcl];omega
  .rw [if_neg hk,Jcl,Jcl];omega
theorem RelO.some_of {v:V}{o:Option Value}(r:RelO (some v) o):∃ u,o=some u/\RelV v u:=by
 cases o with
 | none=>exact (show False from r).elim
 | some u=>exact⟨u,rfl,r⟩
theorem RelO.none_of {o:Option Value}(r:RelO none o):o=none:=by
 cases o with
 | none=>rfl
 | some u=>exact (show False from r).elim
theorem Zr7 {v:V}{u:Value}(r:RelV v u):PySem.W.handedIn u=true:=by
 cases v with
 | non=>cases (show u=Value.none from r);rfl
 | bl b=>cases (show u=Value.bool b from r);rfl
 | int i=>obtain⟨t,e⟩:=(show ∃ t,u=Value.int i t from r);cases e;rfl
 | str x=>obtain⟨t,e⟩:=(show ∃ t,u=Value.str x t from r);cases e;rfl
 | byt b=>obtain⟨t,e⟩:=(show ∃ t,u=Value.bytes b t from r);cases e;rfl
 | flt b=>obtain⟨t,e⟩:=(show ∃ t,u=Value.float b t from r);cases e;rfl
 | ref a=>cases (show u=Value.ref a from r);rfl
 | ty n=>cases (show u=Value.type n from r);rfl
section
variable {P:Program}{w:World}{H H':Hp}{h h':Heap}{a C dx:Addr}{fs fs':List (Str×V)}
theorem Zla (hok:HOk P w H h)(e:H a=some (.ins C dx fs)):∃ mA,ObjM h a dx C mA/\(∀ f,RelO (fs.lookup f) (mA f))/\PySem.Within mA (fs.map (·.1))/\fs.length<=1000/\H dx=some (.own a):=by
 refine Zcy (show ObjOk P w H h a (.ins C dx fs) from hok a _ e) λd z ne ob e9102=>?_;obtain⟨mA,n,r,q⟩:=e9102;exact⟨mA,⟨ob,n,ne⟩,r,q,z,d⟩
end
structure Cls (K:Frag)(C:Addr):Prop where
 pg:PySem.W.plainGet K C Str.empty=true
 hd:PySem.W.hasDictIn K C=true
 po:PySem.W.plainOver K C=true
 sa:PySem.W.findIn K (.ref C) "__setattr__" = some (some (.builtin "object.__setattr__"))
theorem Cls.get {K:Frag}{C:Addr}(c:Cls K C)(f:Str):PySem.W.plainGet K C f=true:=c.pg
def NoAttr (K:Frag)(C:Addr)(f:Str):Prop:=PySem.W.findIn K (.ref C) f=some none
theorem NoAttr.taker {K:Frag}{C:Addr}{f:Str}(n:NoAttr K C f):PySem.W.takerIn K C f=some none:=by
 unfold PySem.W.takerIn;rw[show PySem.W.findIn K (.ref C) f=some none from n];rfl
structure Con (K:Frag)(C:Addr)(f:Str)(v:V)(u:Value):Prop where
 at_:PySem.W.findIn K (.ref C) f=some (some u)
 rel:RelV v u
 get:PySem.W.specialIn K u "__get__" = some none
 cp:PySem.W.copiedNames.contains f=false
structure Meth (K:Frag)(C:Addr)(m:Str)(f:Addr):Prop where
 at_:PySem.W.findIn K (.ref C) m=some (some (.ref f))
 fn:PySem.W.isFn K (.ref f)=true
 kp:PySem.W.keepIn K (.ref f)=true
section
variable {X:Cx}{pins:List (Addr×Obj)}{σ:St}{H:Hp}{s:Shared}{a C dx:Addr}{fs:List (Str×V)}{f:Str}{v:V}{A:Around}{E:Value->Shared->Prop}
theorem Zpi {b:Bool}{Q:Value->Shared->Prop}(I:Inv X pins σ H s)(e:H a=some (.ins C dx fs))(c:Cls X.K C)(n:NoAttr X.K C f)(l:fs.lookup f=some v)(h:∀ u s',Inv X pins σ H s'->RelV v u->Q u s'):wpAny (model X.prog X.w) A (getAttr (.ref a) f b) Q E s:=by
 refine Zkr (Zla I.hok e) λmA O r _ _ _=>?_;obtain⟨u,hu,ru⟩:=RelO.some_of (v:=v) (o:=mA f) (by rw[<- l];exact r f);exact get_map I.kIn O (c.get f) c.hd n hu (Zr7 ru) (h u _ (I.tok _) ru)
theorem Zkn {m:Str}{g:Addr}{pl:Sem Bool}{Q:Value×List Value->Shared->Prop}(I:Inv X pins σ H s)(e:H a=some (.ins C dx fs))(c:Cls X.K C)(k:Meth X.K C m g)(l:fs.lookup m=none)(h:Q (.ref g,[.ref a]) s):wpAny (model X.prog X.w) A (getMethod (.ref a) m pl) Q E s:=by
 refine Zkr (Zla I.hok e) λmA O r _ _ _=>?_;have hn:mA m=none:=RelO.none_of (by rw[<- l];exact r m);exact Zuy I.kIn O (c.get m) k.at_ k.fn hn h
theorem Zo5 {y:V}{u:Value}{Q:Unit->Shared->Prop}(I:Inv X pins σ H s)(e:H a=some (.ins C dx fs))(c:Cls X.K C)(n:NoAttr X.K C f)(hl:fs.length<1000)(ry:RelV y u)(h:∀ s',Inv X pins σ (upd H a (.ins C dx (Zct f y fs))) s'->Q () s'):wpAny (model X.prog X.w) A (setAttr (.ref a) f u) Q E s:=by
 refine Zkr (Zla I.hok e) λmA O r wi _ ho=>?_;have hz:(fs.map (·.1)).length<=sizeLine:=by rw[Jab,sizeLine_eq];omega
 refine set_map I.kIn O c.sa c.po n.taker c.hd wi hz λh' O' sb=>h _ ?_;have hd:∃ o,h'.get? dx=some o:=let ⟨o,_,_,e',_⟩:=O'.ns;⟨o,e'⟩;refine I.write (x:=a) (e:=dx) (by rw[e];exact True.intro) (.inr ho) (λb q hb z=>(sb.2 b hb).trans z) hd ?_;refine⟨by rw[Zal O.ne];exact ho,?_,O.ne,O'.obj,_,O'.ns,λg=>?_,λg hg=>?_⟩
 .have:=Zb8 f y fs;omega
 .show RelO ((Zct f y fs).lookup g) (if g=f then some u else mA g);rw[Zaz];by_cases q:g=f
  .rw [if_pos q,if_pos q];exact ry
  .rw [if_neg q,if_neg q];exact r g
 .by_cases q:g=f
  .rw [q];exact (Zjl f y fs).1
  .refine (Zjl f y fs).2 g (wi g λz=>hg ?_);show (if g=f then some u else mA g)=none;rw[if_neg q];exact z
theorem Inv.made (I:Inv X pins σ H s):Inv X pins σ (upd (upd H s.heap.objs.size (.own (s.heap.objs.size+1))) (s.heap.objs.size+1) (.ins C s.heap.objs.size []))
  { s with heap:=(s.heap.push PySem.W.emptyDict).push (PySem.W.instObj C s.heap.objs.size) }:=by
 have e1:(s.heap.push PySem.W.emptyDict).get? s.heap.objs.size=some PySem.W.emptyDict:=Jay s.heap rfl;have e2:((s.heap.push PySem.W.emptyDict).push (PySem.W.instObj C s.heap.objs.size)).get? (s.heap.objs.size+1)=some (PySem.W.instObj C s.heap.objs.size):=by
  have:=Jay (s.heap.push PySem.W.emptyDict) (o:=PySem.W.instObj C s.heap.objs.size) rfl;rwa [Jbv] at this
 have e3:(s.heap.push PySem.W.emptyDict).Ns s.heap.objs.size (λ_=>none):=⟨PySem.W.emptyDict,#[],_,e1,rfl,(λe he=>absurd he (by simp)),λ_=>rfl⟩
 have I1:=I.laid (a:=s.heap.objs.size) (o:=.own (s.heap.objs.size+1)) (h':=s.heap.push PySem.W.emptyDict) (t':=s.toks) (λb u q=>Jak _ q) (Jaj _) ⟨_,e1⟩;refine I1.laid (a:=s.heap.objs.size+1) (o:=.ins C s.heap.objs.size []) (t':=s.toks) (λb u q=>Jak _ q) (Nat.le_of_eq (Jbv _ _)) ?_;have ne:s.heap.objs.size≠s.heap.objs.size+1:=Jbs (Jdv _);refine⟨by rw[Zal ne,Zaa],Jck _,ne,e2,λ_=>none,(Heap.Ns1.of_empty e3).at λo q=>Jak _ q,λ_=>True.intro,λy hy=>absurd rfl hy⟩
theorem attr_of {prog:Program}{w:World}{env:Env}{e:Expr}{f:Str}{pos:Pos}{s:Shared}{Q:Value->Shared->Prop}(hb:attributeBase e f env (eval e env)=eval e env)(h:wpAny (model prog w) A (eval e env) (λo s₁=>wpAny (model prog w) A (getAttr o f true) Q E s₁) E s):wpAny (model prog w) A (eval (.Attribute e f pos) env) Q E s:=
 Attribute_any_ h (by rw[arm_eval_Attribute,hb])
end
def tFld (K:Frag)(ta:TE)(f:Str):TE:=λσ H Q=>ta σ H λx H1=>∃ a C dx fs v,x=.ref a/\H1 a=some (.ins C dx fs)/\Cls K C/\NoAttr K C f/\fs.lookup f=some v/\Q v H1
def sFld (K:Frag)(ta tv:TE)(f:Str):TS:=λD σ H=>tv σ H λy H1=>ta σ H1 λx H2=>∃ a C dx fs,x=.ref a/\H2 a=some (.ins C dx fs)/\Cls K C/\NoAttr K C f/\fs.length<1000 /\
 D.nx σ (upd H2 a (.ins C dx (Zct f y fs)))
section
variable {X:Cx}{o e value:Expr}{f:Str}{pos pos' tpos:Pos}{ta tv:TE}
theorem Zcg (he:PE X e ta)(hb:attributeBase e f X.env (eval e X.env)=eval e X.env):PE X (.Attribute e f pos) (tFld X.K ta f):=by
 intro pins s σ H Q I h;refine attr_of hb (thn (he pins s σ H _ I h) λu s1 ⟨x,H1,I1,rx,a,C,dx,fs,v,ex,ea,c,n,l,q⟩=>?_);subst ex;obtain rfl:u=Value.ref a:=rx;exact Zpi I1 ea c n l λu' s2 I2 ru=>⟨v,H1,I2,ru,q⟩
theorem Zjc (ha:PE X o ta)(hv:PE X value tv)(hs:swapsWith value (some (.Attribute o f pos')) pos.line X.env=pure false):PS X (.Assign [.Attribute o f pos'] value pos) (sFld X.K ta tv f):=by
 intro pins s σ H D I h;refine plainObj_wpAny_Assign_Attribute (thn (hv pins s σ H _ I h) λu s1 ⟨y,H1,I1,ry,q⟩=>thn (ha pins s1 σ H1 _ I1 q) λov s2 ⟨x,H2,I2,rx,a,C,dx,fs,ex,ea,c,n,l,q2⟩=>?_) hs;subst ex;obtain rfl:ov=Value.ref a:=rx;exact Zo5 I2 ea c n l ry λs3 I3=>⟨σ,_,I3,q2⟩
theorem methcall_of {pl:Sem Bool}{m:Str}{apos:Pos}{args:List Expr}{pins:List (Addr×Obj)}{s:Shared}{σ:St}{H:Hp}{Q:Value->Shared->Prop}{te:TE}(he:PE X e te)(I:Inv X pins σ H s)(h:te σ H λx H1=>∃ a C dx fs g,x=.ref a/\H1 a=some (.ins C dx fs)/\Cls X.K C/\Meth X.K C m g/\fs.lookup m=none /\
   ∀ s1,Inv X pins σ H1 s1->wpAny (model X.prog X.w) X.A (callWith pos (.ref g) [.ref a] (backTo pos (starEach args X.env)) (backToKw pos (keywordEach [] X.env))) Q X.xe s1)(ht:eval (.Call (.Attribute e m apos) args [] pos) X.env=(do
   let ov <- eval e X.env
   standAt apos.atName
   let (f,first) <- holding [ov] (getMethod ov m pl)
   callWith pos f first (backTo pos (starEach args X.env)) (backToKw pos (keywordEach [] X.env)))):
  wpAny (model X.prog X.w) X.A (eval (.Call (.Attribute e m apos) args [] pos) X.env) Q X.xe s:=by
 refine PySem.W.methodCall_KW (pl:=pl) (thn (he pins s σ H _ I h) λu s1 ⟨x,H1,I1,rx,a,C,dx,fs,g,ex,ea,c,k,l,q⟩=>?_) ht;subst ex;obtain rfl:u=Value.ref a:=rx;exact Zkn I1 ea c k l (q s1 I1)
end
section
variable {X:Cx}{pins:List (Addr×Obj)}{σ:St}{H:Hp}{s:Shared}{A:Around}{E:Value->Shared->Prop}{Q:Value->Shared->Prop}{c:Value}{b:Bool}
inductive TyOf (K:Frag) (H:Hp):V->Value->Prop where
 | non:TyOf K H .non (.type "NoneType")
 | bl (x:Bool):TyOf K H (.bl x) (.type "bool")
 | int (i:Int):TyOf K H (.int i) (.type "int")
 | str (x:Str):TyOf K H (.str x) (.type "str")
 | flt (x:UInt64):TyOf K H (.flt x) (.type "float")
 | lst {a:Addr} {xs:List V} (e:H a=some (.lst xs)):TyOf K H (.ref a) (.type "list")
 | frz {a:Addr} {o:Obj} {xs:List V} (e:H a=some (.frz o (.lst xs))):TyOf K H (.ref a) (.type "list")
 | tup {a:Addr} {xs:List V} (e:H a=some (.tup xs)):TyOf K H (.ref a) (.type "tuple")
 | dK {a:Addr} {kvs:List (Key×V)} (e:H a=some (.dK kvs)):TyOf K H (.ref a) (.type "dict")
 | dT {a:Addr} {kvs:List (List Key×V)} (e:H a=some (.dT kvs)):TyOf K H (.ref a) (.type "dict")
 | ins {a C dx:Addr} {fs:List (Str×V)} (e:H a=some (.ins C dx fs)) (cl:Cls K C) (ha:PySem.W.findIn K (.ref C) "__class__" = some (some (.builtin "object.__class__")))
   (hn:PySem.W.specialIn K (.builtin "object.__class__") "__get__" = some (some (.builtin "getset_descriptor.__get__"))) (htk:PySem.W.takesIn K (.builtin "object.__class__")=some true)
   (hm:PySem.W.mroIn K C (.type "object")=some true):TyOf K H (.ref a) (.ref C)
theorem Zry {x:V}{u t:Value}(I:Inv X pins σ H s)(rx:RelV x u)(ty:TyOf X.K H x t)(e:PySem.W.kitOne X.K t c=some b)(h:∀ tk,Q (.bool b) { s with toks:=tk }):
  wpAny (model X.prog X.w) A (call (.builtin "isinstance") [u,c]) Q E s:=by
 cases ty with
 | non=>cases (show u=Value.none from rx);exact Jb2 PySem.W.kitx_none I.kIn True.intro e (λz=>nomatch z) h
 | bl y=>cases (show u=Value.bool y from rx);exact Jb2 PySem.W.kitx_bool I.kIn True.intro e (λz=>nomatch z) h
 | int i=>obtain⟨t,q⟩:=(show ∃ t,u=Value.int i t from rx);cases q;exact Jb2 PySem.W.kitx_int I.kIn True.intro e (λz=>nomatch z) h
 | str y=>obtain⟨t,q⟩:=(show ∃ t,u=Value.str y t from rx);cases q;exact Jb2 PySem.W.kitx_str I.kIn True.intro e (λz=>nomatch z) h
 | flt y=>obtain⟨t,q⟩:=(show ∃ t,u=Value.float y t from rx);cases q;exact Jb2 PySem.W.kitx_float I.kIn True.intro e (λz=>nomatch z) h
 | @lst a xs ea=>
  cases (show u=Value.ref a from rx);obtain⟨_,_,n,_,h1⟩:=(show ObjOk X.prog X.w H s.heap a (.lst xs) from I.hok a _ ea)
  exact Jb2 PySem.W.kitx_list I.kIn ⟨_,h1,rfl⟩ e (λz=>nomatch z) h
 | @frz a ob xs ea=>
  cases (show u=Value.ref a from rx);obtain⟨_,_,_,n,_,h1⟩:=(show ObjOk X.prog X.w H s.heap a (.frz ob (.lst xs)) from I.hok a _ ea)
  exact Jb2 PySem.W.kitx_list I.kIn ⟨_,h1,rfl⟩ e (λz=>nomatch z) h
 | @tup a xs ea=>
  cases (show u=Value.ref a from rx);obtain⟨_,_,_,p⟩:=(show ObjOk X.prog X.w H s.heap a (.tup xs) from I.hok a _ ea)
  refine Zas p λo h1 h2 _=>?_;clear p;exact Jb2 PySem.W.kitx_tuple I.kIn ⟨o,h1,h2⟩ e (λz=>nomatch z) h
 | @dK a kvs ea=>
  cases (show u=Value.ref a from rx);refine Zba (show ObjOk X.prog X.w H s.heap a (.dK kvs) from I.hok a _ ea) λ_ _ e9107=>?_;obtain⟨vs,_,p⟩:=e9107;refine Zmk p λo es ep h1 h2 _=>?_;clear p;exact Jb2 PySem.W.kitx_dict I.kIn ⟨o,h1,h2.1⟩ e (λz=>nomatch z) h
 | @dT a kvs ea=>
  cases (show u=Value.ref a from rx);refine Zba (show ObjOk X.prog X.w H s.heap a (.dT kvs) from I.hok a _ ea) λ_ _ e9108=>?_;obtain⟨xs,_,o,es,ep,h1,h2,_⟩:=e9108;exact Jb2 PySem.W.kitx_dict I.kIn ⟨o,h1,h2.1⟩ e (λz=>nomatch z) h
 | @ins a C dx fs ea cl ha hn htk hm=>
  cases (show u=Value.ref a from rx);refine Zae (Zla I.hok ea) λmA O _=>?_;refine Zae O.look λod J _=>?_;exact Jb2 (PySem.W.kitx_own (cl.get _) cl.hd ha hn htk hm) I.kIn J e (λz=>nomatch z) h
end
structure Room (k:Nat)(A:Around):Prop where
 hd:A.handled=none
 dp:A.depth+3*k+205<recursionLimit
 un:A.units+16*k+200<cLine
theorem Room.mono {j k:Nat}{A:Around}(r:Room k A)(h:j<=k):Room j A:=⟨r.hd,by have:=r.dp;omega,by have:=r.un;omega⟩
theorem Room.m {j k:Nat}{A:Around}(r:Room k A)(h:j<=k:=by decide):Room j A:=r.mono h
theorem Room.deeper {k:Nat}{A:Around}(r:Room (k+1) A)(env:Env):Room k (A.deeper env):=
 ⟨r.hd,by have:=r.dp;show A.depth+1+3*k+205<_;omega,by have:=r.un;show A.units+3+16*k+200<_;omega⟩
theorem Zpe {A:Around}{C:Addr}{us:List Value}{kw:List (Str×Value)}:(A.under (.builtin "type.__call__" ⟨.ref C::us,kw⟩)).depth=A.depth+1:=by
 first|rfl|simp[Around.under,Code.weight,Code.isCreation,Code.isGuard,Code.isCaller,Code.frames,Code.isFrame,guardIds]
theorem Zpd {A:Around}{C:Addr}{us:List Value}{kw:List (Str×Value)}:(A.under (.builtin "type.__call__" ⟨.ref C::us,kw⟩)).units=A.units+1:=by
 first|rfl|simp[Around.under,Code.cUnits,Code.frames,Code.isFrame]
theorem Room.make {k:Nat}{A:Around}(r:Room (k+1) A)(C:Addr)(us:List Value)(kw:List (Str×Value)):Room k (A.under (.builtin "type.__call__" ⟨.ref C::us,kw⟩)):=
 ⟨r.hd,by have:=r.dp;rw[Zpe];omega,by have:=r.un;rw[Zpd];omega⟩
theorem Room.depth {k:Nat}{A:Around}(r:Room k A):A.depth<recursionLimit:=by have:=r.dp;omega
theorem Room.units {k:Nat}{A:Around}(r:Room k A):A.units+64<cLine:=by have:=r.un;omega
def Zs1:TA:=λ_ H Q=>Q [] H
def Zf3 (ta:TE)(tr:TA):TA:=λσ H Q=>ta σ H λx H1=>tr σ H1 λxs H2=>Q (x::xs) H2
section
variable {X:Cx}{e:Expr}{es:List Expr}{te:TE}{t:TA}{pos:Pos}
theorem Zab:PA X [] Zs1:=λ_ _ _ _ H Q I h=>Calls.spliced_nil ⟨[],H,I,.nil,h⟩
theorem pa_cons (ha:PE X e te)(hr:PA X es t)(hs:starEach (e::es) X.env=(false,eval e X.env)::starEach es X.env:=by rfl):PA X (e::es) (Zf3 te t):=by
 intro pos pins s σ H Q I h;rw[hs];show wpAny _ _ (spliced ((false,eval e X.env)::backTo pos (starEach es X.env))) _ _ s;refine Calls.spliced_cons (thn (ha pins s σ H _ I h) λu s1 ⟨x,H1,I1,r1,q1⟩=>?_);exact thn (hr pos pins s1 σ H1 _ I1 q1) λus s2 ⟨xs,H2,I2,r2,q2⟩=>⟨x::xs,H2,I2,.cons r1 r2,q2⟩
def tTup (t:TA):TE:=λσ H Q=>t σ H λxs H1=>xs.length<=sizeLine/\∀ p,H1 p=none->Q (.ref p) (upd H1 p (.tup xs))
def tLst (t:TA):TE:=λσ H Q=>t σ H λxs H1=>xs.length<=sizeLine/\∀ p,H1 p=none->Q (.ref p) (upd H1 p (.lst xs))
theorem Zam {x1}(h:PA X es t):PE X (.Tuple es x1 pos) (tTup t):=by
 intro pins s σ H Q I hq;refine wpAny_Tuple_spliced (thn (h pos pins s σ H _ I hq) λus s1 ⟨xs,H1,I1,r,z,q⟩=>⟨by rw[<- r.length];exact z,?_⟩);have hf:H1 s1.heap.objs.size=none:=I1.hok.fresh (Jaj _);refine Zaq (.ref s1.heap.objs.size) (upd H1 s1.heap.objs.size (.tup xs)) ⟨I1.laid (t':=s1.toks) (λb u e=>Jak _ e) (Jaj _) ?_,rfl,q _ hf⟩;exact⟨z,us,r,⟨_,Jay _ rfl,rfl,_,rfl⟩⟩
theorem Zar (h:PA X es t):PE X (.List es pos) (tLst t):=by
 intro pins s σ H Q I hq;refine wpAny_List_spliced (thn (h pos pins s σ H _ I hq) λus s1 ⟨xs,H1,I1,r,z,q⟩=>⟨by rw[<- r.length];exact z,?_⟩);have hf:H1 s1.heap.objs.size=none:=I1.hok.fresh (Jaj _);refine Zaq (.ref s1.heap.objs.size) (upd H1 s1.heap.objs.size (.lst xs)) ⟨I1.laid (t':=s1.toks) (λb u e=>Jak _ e) (Jaj _) ?_,rfl,q _ hf⟩;exact⟨z,us,0,r,Jay _ rfl⟩
end
abbrev Sp:=List V->Hp->VK->XK->Prop
abbrev CXT:=List Env->Hp->Shared->XK->Value->Shared->Prop
structure Env0 (P:Program)(w:World)(K:Frag)(mg:Str->Option Value)(base:Heap)(A:Around)(outer:List Env)(s:Shared)(H:Hp):Prop where
 frames:A.frames=some outer
 mod:Mod K mg base
 bs:∀ b o,base.get? b=some o->s.heap.get? b=some o/\H b=none
 bsz:base.objs.size<=s.heap.objs.size
 funs:s.heap.FunFrames base outer
 frf:∀ b∈frs outer,H b=none
 hok:HOk P w H s.heap
 bare:AllBare s.gens
def CE (outer:List Env)(P:Program)(w:World)(H:Hp)(s:Shared)(Q:VK)(u:Value)(s':Shared):Prop:=
 ∃ v H',s'.os=s.os/\AllBare s'.gens/\Un (frs outer) [] H H' s.heap s'.heap/\HOk P w H' s'.heap/\RelV v u/\Q v H'
def CR (CX:CXT)(outer:List Env)(P:Program)(w:World)(H:Hp)(s:Shared)(Q:VK)(E:XK)(r:Result)(s':Shared):Prop:=
 match r with
 | .ok (.ret u)=>CE outer P w H s Q u s'
 | .ok _=>False
 | .error e=>CX outer H s E e s'
structure FnOk (P:Program)(w:World)(K:Frag)(mg:Str->Option Value)(base:Heap)(CX:CXT)(k:Nat)(f:Addr)(fd:FuncData)(ps:List Str)(sp:Sp):Prop where
 len:∀ vs H Q E,sp vs H Q E->vs.length=ps.length
 run:∀ (A:Around) (outer:List Env) (s:Shared) (H:Hp) (args:Args) (us:List Value) (vs:List V) (Q:VK) (E:XK),Room k A->Env0 P w K mg base A outer s H->BindsTo s fd args (ps.zip us)->Vals vs us->sp vs H Q E->
  codeAny (model P w) A (.call (.ref f) args) (CR CX outer P w H s Q E) s
theorem Env0.make {P:Program}{w:World}{K:Frag}{mg:Str->Option Value}{base:Heap}{A:Around}{outer:List Env}{s:Shared}{H:Hp}(e:Env0 P w K mg base A outer s H)(C:Addr)(us:List Value)(kw:List (Str×Value)):
  Env0 P w K mg base (A.under (.builtin "type.__call__" ⟨.ref C::us,kw⟩)) outer s H:=⟨by first|exact e.frames|(simpa [Around.under,Code.envs,Code.isFrame,pushEnvs] using e.frames),e.mod,e.bs,e.bsz,e.funs,e.frf,e.hok,e.bare⟩
section
variable {X:Cx}{pins:List (Addr×Obj)}{σ:St}{H:Hp}{s s':Shared}
theorem Inv.env0 (I:Inv X pins σ H s):Env0 X.prog X.w X.K X.mg X.base X.A X.stack s H:=
 ⟨I.ok.frames,I.ok.mod,I.bs,Jbh I.ok.bsz I.sz,I.stack,I.stkFree,I.hok,I.bare⟩
theorem Inv.after {Q:VK}{u:Value}(I:Inv X pins σ H s)(h:CE X.stack X.prog X.w H s Q u s'):EP X pins σ Q u s':=by
 refine Zju h λv H' os bare un hok r q=>?_;clear h;obtain⟨hh,g,d,t,os'⟩:=s';obtain rfl:os'=s.os:=os;exact Zaq v H' ⟨I.call (h':=hh) (g':=g) (d':=d) (t':=t) (ch:=[]) un hok bare (λb z=>absurd z (by simp)),r,q⟩
end
def Zo2 (sp:Sp)(dvs:List V)(E:XK)(t:TA):TE:=λσ H Q=>t σ H λvs H1=>sp (vs++dvs) H1 Q E
def Zp8 (C:Addr)(m:Str)(sp:Sp)(dvs:List V)(E:XK)(ta:TE)(t:TA):TE:=λσ H Q=>ta σ H λx H1=>∃ a dx fs,x=.ref a/\H1 a=some (.ins C dx fs)/\fs.lookup m=none /\
 t σ H1 λvs H2=>sp (x::(vs++dvs)) H2 Q E
def Zp9 (C:Addr)(sp:Sp)(dvs:List V)(E:XK)(t:TA):TE:=λσ H Q=>t σ H λvs H1=>∀ x dx,H1 x=none->H1 dx=none->dx≠x->
 sp (.ref x::(vs++dvs)) (upd (upd H1 dx (.own x)) x (.ins C dx [])) (λv H2=>v=.non/\Q (.ref x) H2) E
def Binds (K:Frag)(fd:FuncData)(ps:List Str)(ds:List Value):Prop:=
 ∀ (s:Shared) (us:List Value),K.In s.heap->(us++ds).length=ps.length->BindsTo s fd ⟨us,[]⟩ (ps.zip (us++ds))
theorem Binds.all {K:Frag}{fd:FuncData}{ps:List Str}(h:∀ us:List Value,us.length=ps.length->bindArgs fd ⟨us,[]⟩=pure (ps.zip us)):Binds K fd ps []:=λs us _ hl=>by
 rw[List.append_nil] at hl ⊢;exact .of_eq (h us hl)
def Zkp (CX:CXT)(X:Cx)(E:XK):Prop:=∀ (pins:List (Addr×Obj)) (σ:St) (H:Hp) (s:Shared) (e:Value) (s':Shared),Inv X pins σ H s->CX X.stack H s E e s'->X.xe e s'
section
variable {X:Cx}{CX:CXT}{k:Nat}{f C:Addr}{fd:FuncData}{ps:List Str}{sp:Sp}{dvs:List V}{ds:List Value}{E:XK}{x m:Str}{p pos apos:Pos}{e o:Expr}{es:List Expr}{ta:TE}{t:TA}
theorem Zvs {pins:List (Addr×Obj)}{σ:St}{H:Hp}{s:Shared}{Q:VK}{us:List Value}{vs:List V}(F:FnOk X.prog X.w X.K X.mg X.base CX k f fd ps sp)(hr:Room k X.A)(hb:Binds X.K fd ps ds)(hd:Vals dvs ds)(hx:Zkp CX X E)(I:Inv X pins σ H s)(r:Vals vs us)(h:sp (vs++dvs) H Q E):wpAny (model X.prog X.w) X.A (call (.ref f) us) (EP X pins σ Q) X.xe s:=by
 have r2:Vals (vs++dvs) (us++ds):=r.append hd;have hl:(us++ds).length=ps.length:=by rw[<- r2.length];exact F.len _ _ _ _ h
 refine wpAny_call (codeAny_mono (F.run X.A X.stack s H ⟨us,[]⟩ (us++ds) (vs++dvs) Q E hr I.env0 (hb s us I.kIn hl) r2 h) λr s' hq=>?_);cases r with
 | error e=>exact hx pins σ H s e s' I hq
 | ok fl=>
  cases fl with
  | ret u=>exact I.after hq
  | next=>exact False.elim hq
  | brk=>exact False.elim hq
  | cont=>exact False.elim hq
theorem pe_call (F:FnOk X.prog X.w X.K X.mg X.base CX k f fd ps sp)(hr:Room k X.A)(hg:Gl X x)(hm:X.mg x=some (.ref f))(hk:PySem.W.keepIn X.K (.ref f)=true)(hb:Binds X.K fd ps ds)(hd:Vals dvs ds)(hx:Zkp CX X E)(ha:PA X (e::es) t)(hdb:(x == ("__debug__" : Str))=false:=by decide)(he:starEach (e::es) X.env=(false,eval e X.env)::starEach es X.env:=by rfl)(hpl:(backTo pos (starEach es X.env)).any (·.1)=false:=by rfl):
  PE X (.Call (.Name x p) (e::es) [] pos) (Zo2 sp dvs E t):=by
 intro pins s σ H Q I h;refine Jdg (Znb I hg hm ?_ hdb);refine Jec (h₀:=X.base) I.ok.mod.kin hk (thn (ha pos pins s σ H _ I h) λus s1 ⟨vs,H1,I1,r,q⟩=>⟨I1.kIn,?_⟩) he hpl;exact Zvs F hr hb hd hx I1 r q
theorem Zq2 {pl:Sem Bool}(he:PE X o ta)(c:Cls X.K C)(hm:Meth X.K C m f)(F:FnOk X.prog X.w X.K X.mg X.base CX k f fd ps sp)(hr:Room k X.A)(hb:Binds X.K fd ps ds)(hd:Vals dvs ds)(hx:Zkp CX X E)(ha:PA X (e::es) t)(hst:starEach (e::es) X.env=(false,eval e X.env)::starEach es X.env:=by rfl)(hpl:(backTo pos (starEach es X.env)).any (·.1)=false:=by rfl)(ht:eval (.Call (.Attribute o m apos) (e::es) [] pos) X.env=(do
   let ov <- eval o X.env
   standAt apos.atName
   let (f,first) <- holding [ov] (getMethod ov m pl)
   callWith pos f first (backTo pos (starEach (e::es) X.env)) (backToKw pos (keywordEach [] X.env))):=by rfl):
  PE X (.Call (.Attribute o m apos) (e::es) [] pos) (Zp8 C m sp dvs E ta t):=by
 intro pins s σ H Q I h;refine PySem.W.methodCall_KW (pl:=pl) (thn (he pins s σ H _ I h) λu s1 ⟨x,H1,I1,rx,a,dx,fs,ex,ea,l,q⟩=>?_) ht;subst ex;obtain rfl:u=Value.ref a:=rx;refine Zkn I1 ea c hm l ?_;refine Jec (first:=[.ref a]) (h₀:=X.base) I.ok.mod.kin hm.kp (thn (ha pos pins s1 σ H1 _ I1 q) λus s2 ⟨vs,H2,I2,r,q2⟩=>⟨I2.kIn,?_⟩) hst hpl;exact Zvs (us:=.ref a::us) (vs:=.ref a::vs) F hr hb hd hx I2 (.cons rfl r) q2
structure Mk (K:Frag)(C f:Addr):Prop where
 makes:PySem.W.makesIn K C=true
 init:PySem.W.findIn K (.ref C) "__init__" = some (some (.ref f))
 fn:PySem.W.isFn K (.ref f)=true
 kp:PySem.W.keepIn K (.ref C)=true
theorem Ztn {pins:List (Addr×Obj)}{σ:St}{H:Hp}{s:Shared}{Q:VK}{us:List Value}{vs:List V}(M:Mk X.K C f)(F:FnOk X.prog X.w X.K X.mg X.base CX k f fd ps sp)(hr:Room (k+1) X.A)(hb:Binds X.K fd ps ds)(hd:Vals dvs ds)(hx:Zkp CX X E)(I:Inv X pins σ H s)(r:Vals vs us)(h:∀ x dx,H x=none->H dx=none->dx≠x->sp (.ref x::(vs++dvs)) (upd (upd H dx (.own x)) x (.ins C dx [])) (λv H2=>v=.non/\Q (.ref x) H2) E):
  wpAny (model X.prog X.w) X.A (call (.ref C) us) (EP X pins σ Q) X.xe s:=by
 have hq:=h (s.heap.objs.size+1) s.heap.objs.size (I.hok.fresh (Nat.le_succ _)) (I.hok.fresh (Jaj _)) (Jbs (Jdv _));have I2:=Inv.made (C:=C) I;have r2:Vals (V.ref (s.heap.objs.size+1)::(vs++dvs)) (Value.ref (s.heap.objs.size+1)::(us++ds)):=.cons rfl (r.append hd);have hl:(Value.ref (s.heap.objs.size+1)::us++ds).length=ps.length:=by
  have e:=r2.length;rw[F.len _ _ _ _ hq] at e;exact e.symm
 refine wpAny_call (Zuo (f:=f) I.kIn M.makes M.init (Jbu.mp M.fn) (codeAny_mono (F.run _ X.stack _ _ ⟨Value.ref (s.heap.objs.size+1)::us,[]⟩ (Value.ref (s.heap.objs.size+1)::(us++ds)) _ _ E (hr.make C us [])
  (I2.env0.make C us []) (hb _ (Value.ref (s.heap.objs.size+1)::us) I2.kIn hl) r2 hq) λr s' hq'=>?_))
 cases r with
 | error e=>exact hx pins σ _ _ e s' I2 hq'
 | ok fl=>
  cases fl with
  | ret u=>
   refine Zf2 (I2.after hq') λv H' I3 rv ev q3=>?_;subst ev;exact⟨rv,⟨V.ref (s.heap.objs.size+1),H',I3,rfl,q3⟩⟩
  | next=>exact False.elim hq'
  | brk=>exact False.elim hq'
  | cont=>exact False.elim hq'
theorem pe_make (M:Mk X.K C f)(F:FnOk X.prog X.w X.K X.mg X.base CX k f fd ps sp)(hr:Room (k+1) X.A)(hg:Gl X x)(hm:X.mg x=some (.ref C))(hb:Binds X.K fd ps ds)(hd:Vals dvs ds)(hx:Zkp CX X E)(ha:PA X (e::es) t)(hdb:(x == ("__debug__" : Str))=false:=by decide)(he:starEach (e::es) X.env=(false,eval e X.env)::starEach es X.env:=by rfl)(hpl:(backTo pos (starEach es X.env)).any (·.1)=false:=by rfl):
  PE X (.Call (.Name x p) (e::es) [] pos) (Zp9 C sp dvs E t):=by
 intro pins s σ H Q I h;refine Jdg (Znb I hg hm ?_ hdb);refine Jec (h₀:=X.base) I.ok.mod.kin M.kp (thn (ha pos pins s σ H _ I h) λus s1 ⟨vs,H1,I1,r,q⟩=>⟨I1.kIn,?_⟩) he hpl;exact Ztn M F hr hb hd hx I1 r q
end
section
variable {X:Cx}{CX:CXT}{k:Nat}{f C:Addr}{fd:FuncData}{ps ks:List Str}{sp:Sp}{E:XK}{x m:Str}{p pos apos kpos:Pos}{e o:Expr}{es:List Expr}{kws:List Keyword}{te ta:TE}{t tk:TA}{nm:Option Str}
structure KBinds (K:Frag)(fd:FuncData)(ps ks:List Str)(g:List Value->List Value->List Value)(gV:List V->List V->List V):Prop where
 to:∀ (s:Shared) (us ws:List Value),K.In s.heap->(g us ws).length=ps.length->BindsTo s fd ⟨us,ks.zip ws⟩ (ps.zip (g us ws))
 rel:∀ {vs:List V} {us:List Value} {zs:List V} {ws:List Value},Vals vs us->Vals zs ws->Vals (gV vs zs) (g us ws)
variable {g:List Value->List Value->List Value}{gV:List V->List V->List V}
end
structure FnScope (N P:List Str)(sc:Scope):Prop where
 kind:sc.kind=.function
 co:sc.isCoroutine=false
 gen:sc.isGenerator=false
 nd:N.Nodup
 pre:N.take P.length=P
 par:∀ x∈P,sc.names.lookup x=some .local\/sc.names.lookup x=some .cell
 nofree:∀ y∈sc.names,y.2≠.free
theorem Zmd {kindOf:Str->Option NameKind}{x:Str}:∀ {binds:List (Str×Value)} {m:Str->Option Value},(∀ v,(x,v)∉binds)->bindL kindOf binds m x=m x
 | [],_,_=>rfl
 | (n,v)::r,m,h=>by
  unfold bindL;rw[Zmd λw hw=>h w (Jbl _ hw)];split
  .have:x≠n:=by rintro rfl;exact h v Jcd
   simp[this]
  .rfl
theorem Zmf {kindOf:Str->Option NameKind}{x:Str}:∀ {binds:List (Str×Value)} {m:Str->Option Value},(∀ v,(x,v)∉binds)->bindC kindOf binds m x=m x
 | [],_,_=>rfl
 | (n,v)::r,m,h=>by
  unfold bindC;rw[Zmf λw hw=>h w (Jbl _ hw)];split
  .rfl
  .have:x≠n:=by rintro rfl;exact h v Jcd
   simp[this]
theorem Zme {kindOf:Str->Option NameKind}{x:Str}{v:Value}:∀ {P:List Str} {vs:List Value} {i:Nat} {m:Str->Option Value},P.Nodup->P[i]?=some x->vs[i]?=some v->kindOf x=some .local->
  bindL kindOf (P.zip vs) m x=some v
 | [],_,_,_,_,h,_,_=>by simp at h
 | _::_,[],_,_,_,_,h,_=>by simp at h
 | p::P,w::vs,0,m,nd,h1,h2,hk=>by
  simp at h1 h2;subst h1;subst h2;show bindL kindOf ((p,w)::P.zip vs) m p=_;unfold bindL;rw[Zmd λv hv=>(Jd3.mp nd).1 (List.of_mem_zip hv).1,if_pos hk];simp
 | p::P,w::vs,i+1,m,nd,h1,h2,hk=>by
  show bindL kindOf ((p,w)::P.zip vs) m x=_;unfold bindL;exact Zme (i:=i) (Jd3.mp nd).2 (by simpa using h1) (by simpa using h2) hk
theorem Zmg {kindOf:Str->Option NameKind}{x:Str}{v:Value}:∀ {P:List Str} {vs:List Value} {i:Nat} {m:Str->Option Value},P.Nodup->P[i]?=some x->vs[i]?=some v->kindOf x≠some .local->
  bindC kindOf (P.zip vs) m x=some v
 | [],_,_,_,_,h,_,_=>by simp at h
 | _::_,[],_,_,_,_,h,_=>by simp at h
 | p::P,w::vs,0,m,nd,h1,h2,hk=>by
  simp at h1 h2;subst h1;subst h2;show bindC kindOf ((p,w)::P.zip vs) m p=_;unfold bindC;rw[Zmf λv hv=>(Jd3.mp nd).1 (List.of_mem_zip hv).1,if_neg hk];simp
 | p::P,w::vs,i+1,m,nd,h1,h2,hk=>by
  show bindC kindOf ((p,w)::P.zip vs) m x=_;unfold bindC;exact Zmg (i:=i) (Jd3.mp nd).2 (by simpa using h1) (by simpa using h2) hk
def Zhe (N:List Str)(vs:List V):St:=vs.map some++List.replicate (N.length-vs.length) none
def Zu5 (CX:CXT)(P:Program)(w:World)(K:Frag)(mg:Str->Option Value)(base:Heap)(N:List Str)(qual:Str)(scope:Scope)(f:Addr)(cd:Value)(A:Around)(outer:List Env)(s:Shared)(H:Hp)(E:XK):Cx where
 prog:=P
 w:=w
 K:=K
 mg:=mg
 base:=base
 A:=A.deeper (envOfC qual scope s.heap.objs.size f cd)
 N:=N
 s₀:=s
 H₀:=H
 env:=envOfC qual scope s.heap.objs.size f cd
 outer:=outer
 stack:=envOfC qual scope s.heap.objs.size f cd::outer
 ex:=[]
 calm:=true
 fn:=λ_=>true
 pn:=[]
 xe:=λe s'=>wpAny (model P w) (A.deeper (envOfC qual scope s.heap.objs.size f cd)) (leaving (envOfC qual scope s.heap.objs.size f cd) e) (λ_ s''=>CX outer H s E e s'') (λe' s''=>CX outer H s E e' s'') s'
theorem Zow {sc:Scope}{n:Nat}{x:Str}(h:sc.names.lookup x=some .cell):∃ c,(cellsFrom n sc.names []).lookup x=some c:=by
 have q:=Jc0 sc.names n [] (.inl h);exact Jdf.mp q
theorem Zr1 {CX:CXT}{P:Program}{w:World}{K:Frag}{mg:Str->Option Value}{base:Heap}{N ps:List Str}{qual:Str}{scope:Scope}{f:Addr}{cd:Value}{A:Around}{outer:List Env}{s s1:Shared}{H:Hp}{E:XK}{us:List Value}{vs:List V}(S:FnScope N ps scope)(hd:A.handled=none)(e0:Env0 P w K mg base A outer s H)(hl:vs.length=ps.length)(r:Vals vs us)(x:InCallC s s.heap.objs.size (bindL (envOfC qual scope s.heap.objs.size f cd).kindOf (ps.zip us) λ_=>none) (cellsFrom (s.heap.objs.size+1) scope.names []) (bindC (envOfC qual scope s.heap.objs.size f cd).kindOf (ps.zip us) λ_=>none) s1):
  Inv (Zu5 CX P w K mg base N qual scope f cd A outer s H E) [] (Zhe N vs) H s1:=by
 have hpl:ps.length<=N.length:=by have:=Jdp List.length S.pre;rw[Jb7] at this;omega
 refine Zbs x.done λh1 tk e9109 hk=>?_;obtain rfl:=e9109;have noA:∀ b:Addr,b∉(Zu5 CX P w K mg base N qual scope f cd A outer s H E).ex:=λb z=>absurd (show b∈([]:List Addr) from z) (by simp);refine⟨⟨e0.mod,S.kind,rfl,rfl,Jaj _,λy z c h1 h2=>?_,λy hy=>?_,λy c _ h=>?_,λ_=>hd,Around.frames_deeper e0.frames,.inr ⟨rfl,rfl⟩,λb z=>absurd z (noA b),e0.bs,e0.bsz,λb _ _=>noA b,λb z=>absurd z (noA b),e0.funs,e0.frf,⟨_,_,rfl,S.gen,S.co,rfl,rfl⟩⟩,
  rfl,e0.bare,Un.kept hk,⟨_,x.toInCall.ns,λi y v h1 h2 h3=>?_⟩,λy c h=>⟨_,x.cell y c h⟩,e0.hok.fresh (Jaj _),λy c h=>?_,λp hp=>absurd (show p∈([]:List (Addr×Obj)) from hp) (by simp),e0.hok.kept hk,?_⟩
 .exact name_of_addr x.apart (Jby h1) (Jby h2)
 .have hy:scope.names.lookup y=some .cell\/scope.names.lookup y=some .free:=hy;rcases hy with hy|hy
  .exact Zow hy
  .exact absurd rfl (S.nofree _ (Jby hy))
 .exact Jbd (x.above y c (Jby h))
 .have hi:i<vs.length:=by
   unfold Zhe at h2;by_cases hi:i<vs.length
   .exact hi
   .rw [Jas (by simpa using hi)] at h2;rw[Jb6] at h2;split at h2 <;> cases h2
  have ha:vs[i]?=some v:=by
   unfold Zhe at h2;rw[Jar (by simpa using hi),Jad] at h2;cases e:vs[i]? with
   | none=>rw[e] at h2;cases h2
   | some a=>rw[e] at h2;cases h2;rfl
  refine Zae (r.get ha) λu hu rv=>?_;have hp:ps[i]?=some y:=by
   rw[<- S.pre,List.getElem?_take_of_lt ∅];exact h1
  have ndP:ps.Nodup:=by rw[<- S.pre];exact S.nd.sublist (List.take_sublist _ _)
  refine⟨u,rv,?_⟩;rcases S.par y (Jac hp) with k|k
  .exact .inl ⟨k,Zme ndP hp hu k⟩
  .obtain ⟨c,e⟩:=Zow (n:=s.heap.objs.size+1) k;refine .inr ⟨.inl k,c,e,?_⟩;have q:=x.cell y c e;rw[Zmg ndP hp hu (by show scope.names.lookup y≠_;rw[k];decide)] at q;exact q
 .exact e0.hok.fresh (Jbd (x.above y c (Jby h)))
 .unfold Zhe;show _=N.length;rw[Jai,Jab,Jav];omega
theorem fn_of {CX:CXT}{P:Program}{w:World}{K:Frag}{mg:Str->Option Value}{base:Heap}{k:Nat}{f:Addr}{name qual:Str}{params:Arguments}{body:List Stmt}{scope:Scope}{dV kV doc pm cdv ct oc:Value}{an od:Option Addr}{osl:Array (Option Value)}{N ps:List Str}{sp:Sp}(lk:K.lookup f=some ⟨oc,od,.func (PySem.W.fnOf name qual params body scope dV kV doc pm an cdv ct),osl⟩)(hcd:PySem.W.codeIn K cdv qual=true)(S:FnScope N ps scope)(len:∀ vs H Q E,sp vs H Q E->vs.length=ps.length)(hbody:∀ (A:Around) (outer:List Env) (s:Shared) (H:Hp) (vs:List V) (Q:VK) (E:XK),Room k (A.deeper (envOfC qual scope s.heap.objs.size f cdv))->sp vs H Q E->
   ∃ t,PSs (Zu5 CX P w K mg base N qual scope f cdv A outer s H E) body t/\t { nx:=λ_ H'=>Q .non H',rt:=Q } (Zhe N vs) H):
  FnOk P w K mg base CX (k+1) f (PySem.W.fnOf name qual params body scope dV kV doc pm an cdv ct) ps sp:=by
 refine⟨len,λA outer s H args us vs Q E hr e0 hb r hsp=>?_⟩;have hl:=len _ _ _ _ hsp;have KX:K.In s.heap:=e0.mod.kin.keeps λb o e=>(e0.bs b o e).1;have lim:s.heap.NoLimit:=e0.mod.nolimit.keeps λb o e=>(e0.bs b o e).1;have hkind:∀ y∈ps.zip us,scope.names.lookup y.1=some .local\/(scope.names.lookup y.1=some .cell/\((cellsFrom (s.heap.objs.size+1) scope.names []).lookup y.1).isSome=true):=λ⟨n,v⟩ hy=>by
  rcases S.par n (List.of_mem_zip hy).1 with q|q
  .exact .inl q
  .exact .inr ⟨q,Jc0 _ _ _ (.inl q)⟩
 refine codeAny_call_function hr.depth (KX _ _ lk) rfl S.co S.gen rfl (PySem.W.codeRec_of KX hcd) (hb _ _ _ _ ?_);refine wpAny_newFunctionEnv_cells S.kind hkind λenv he s1 x=>?_;subst he;refine⟨lim.keeps x.toInCall.keep,codeAny_func ?_⟩;refine Zae (hbody A outer s H vs Q E (hr.deeper _) hsp) λt ht hq=>?_;have I:Inv (Zu5 CX P w K mg base N qual scope f cdv A outer s H E) [] (Zhe N vs) H s1:=Zr1 S hr.hd e0 hl r x;refine Jcp (ht [] s1 (Zhe N vs) H _ I hq) (λfl s' hs=>?_) λe s' hs=>hs;have fin:∀ {σ':St} {H':Hp} {v:V} {u:Value},Inv (Zu5 CX P w K mg base N qual scope f cdv A outer s H E) [] σ' H' s'->RelV v u->Q v H'->CE outer P w H s Q u s':=
  λ{σ' H' v u} J rv q=>⟨v,H',J.os,J.bare,J.base,J.hok,rv,q⟩
 cases fl with
 | ret u=>
  refine Zmk hs λv σ' H' J rv q=>?_;clear hs;exact fin J rv q
 | next=>
  refine Zbs hs λσ' H' J q=>?_;clear hs;exact fin (v:=V.non) (u:=Value.none) J rfl q
 | brk=>
  refine Zbs hs λ_ _ _ q=>?_;clear hs;exact False.elim q
 | cont=>
  refine Zbs hs λ_ _ _ q=>?_;clear hs;exact False.elim q
section
variable {X:Cx}{x:Str}{p pos:Pos}{e:Expr}{es:List Expr}{t:TA}{id T:String}{r:List V->Hp->VK->Prop}
def tCB (r:List V->Hp->VK->Prop)(t:TA):TE:=λσ H Q=>t σ H λvs H1=>r vs H1 Q
theorem Ztw (hc:Zgi X (.builtin id) r)(hg:Gl X x)(hm:X.mg x=none)(hv:bootBuiltins x=some (.builtin id))(ha:PA X (e::es) t)(hn:x ≠ "__name__" := by decide)(hdb:(x == ("__debug__" : Str))=false:=by decide)(he:starEach (e::es) X.env=(false,eval e X.env)::starEach es X.env:=by rfl)(hpl:(backTo pos (starEach es X.env)).any (·.1)=false:=by rfl):PE X (.Call (.Name x p) (e::es) [] pos) (tCB r t):=by
 intro pins s σ H Q I h;refine Jdg (Zjk I hg hm hv ?_ hn hdb);exact PyProof.Rows.callWith_builtin1 (thn (ha pos pins s σ H _ I h) λus s1 ⟨vs,H1,I1,r1,q1⟩=>hc pins s1 σ H1 vs us Q I1 r1 q1) he hpl
theorem Zq3 (hc:Zgi X (.type T) r)(hg:Gl X x)(hm:X.mg x=none)(hv:bootBuiltins x=some (.type T))(ha:PA X (e::es) t)(hn:x ≠ "__name__" := by decide)(hdb:(x == ("__debug__" : Str))=false:=by decide)(he:starEach (e::es) X.env=(false,eval e X.env)::starEach es X.env:=by rfl)(hpl:(backTo pos (starEach es X.env)).any (·.1)=false:=by rfl):PE X (.Call (.Name x p) (e::es) [] pos) (tCB r t):=by
 intro pins s σ H Q I h;refine Jdg (Zjk I hg hm hv ?_ hn hdb);exact Jb5 (thn (ha pos pins s σ H _ I h) λus s1 ⟨vs,H1,I1,r1,q1⟩=>hc pins s1 σ H1 vs us Q I1 r1 q1) he hpl
end
end L2
namespace HT
open PySem PyProof.Rows
section
open PySem.SeqAt
open PySem.AutoSeq1 (wpAny_loadPart')
open PySem.MeetsSeq PySem.MeetsSeq2 PySem.MeetsSeq3
end
section
variable {prog:Program}{w:World}{A:Around}{E:Value->Shared->Prop}{s:Shared}
theorem cat_tup {t b:Addr}{vs ws:List Value}{Q:Value->Shared->Prop}(ht:IsTup s.heap t vs.toArray)(hb:IsTup s.heap b ws.toArray)(hv:vs≠[])(h1:ws=[]->Q (.ref t) s)(h2:ws≠[]->Q (.ref s.heap.objs.size) { s with heap:=s.heap.push { cls:=.type "tuple",data:=.seq (vs++ws).toArray } })(hsz:vs.length+ws.length<=sizeLine):wpAny (model prog w) A (binaryOp .Add (.ref t) (.ref b)) Q E s:=by
 obtain⟨⟨cls,dd,data,sl⟩,ho,hc,n,hd⟩:=id ht;obtain⟨⟨cls2,dd2,data2,sl2⟩,ho2,hc2,n2,hd2⟩:=id hb;simp only at hc hd hc2 hd2;subst hc hd hc2 hd2;have e:vs.toArray++ws.toArray=(vs++ws).toArray:=by simp
 by_cases hw:ws=[]
 .exact concat_meets ⟨_,ho,rfl⟩ ⟨_,ho2,rfl⟩ noFill_tuple_add seq_tuple_add PySem.F.slot_tuple_add PySem.F.entry_tuple_add (PySem.F.args_tuple_add_2 _ _)
   (tuple_addW1 t b vs.toArray ws.toArray n n2 dd dd2 sl sl2 (by simpa using hv) (by simp[hw])) ⟨ho,ho2,h1 hw⟩
 .refine concat_meets ⟨_,ho,rfl⟩ ⟨_,ho2,rfl⟩ noFill_tuple_add seq_tuple_add PySem.F.slot_tuple_add PySem.F.entry_tuple_add (PySem.F.args_tuple_add_2 _ _)
   (tuple_addW2 t b vs.toArray ws.toArray n n2 dd dd2 sl sl2 (by simpa using hv) (by simpa using hw) (by rw[Jal,Jal];exact hsz)) ⟨ho,ho2,?_⟩
  rw[e];exact h2 hw
def sIx (n d:Nat):Option Int->Nat
 | none=>d
 | some v=>if v<0 then (v+(n:Int)).toNat else min v.toNat n
theorem sIx_le (n d:Nat)(hd:d<=n)(o:Option Int):sIx n d o<=n:=by
 cases o with
 | none=>exact hd
 | some v=>
  show (if v<0 then (v+(n:Int)).toNat else min v.toNat n)<=n;by_cases hv:v<0
  .rw [if_pos hv];omega
  .rw [if_neg hv];exact Nat.min_le_right _ _
theorem Zsn (v:Int)(n d:Nat):(if v<0 then max (v+(n:Int)) 0 else min v (n:Int))=((sIx n d (some v):Nat):Int):=by
 show (if v<0 then max (v+(n:Int)) 0 else min v (n:Int))=(((if v<0 then (v+(n:Int)).toNat else min v.toNat n):Nat):Int);by_cases hv:v<0
 .simp only [if_pos hv];omega
 .simp only [if_neg hv];omega
theorem Zpn (lo hi:Option Int)(n:Nat):Builtin.Slice.sliceAdjust lo hi 1 (n:Int)=(((sIx n 0 lo:Nat):Int),((sIx n n hi:Nat):Int)):=by
 have h1:¬ ((1:Int)<0):=∅
 unfold Builtin.Slice.sliceAdjust;simp only[h1,if_false];refine Jed ?_ ?_
 .cases lo with
  | none=>rfl
  | some v=>exact Zsn v n 0
 .cases hi with
  | none=>rfl
  | some v=>exact Zsn v n n
theorem Zo6 (i j:Nat):Builtin.Slice.slicePlaces (i:Int) (j:Int) 1=j-i:=by
 unfold Builtin.Slice.slicePlaces;have h1:(1:Int) > 0:=∅
 simp only[h1,Jb9,Int.ediv_one];split <;> omega
theorem Zj3 {v:Value}{o:Option Int}{Q:Option Int->Shared->Prop}(p:IsPart v o)(h:Q o s):wpAny (model prog w) A (Builtin.Slice.slicePartIndex v) Q E s:=by
 cases p with
 | none=>exact slicePart_none h
 | int i t=>exact slicePart_int h
theorem Zh5 {sl:Addr}{vl vu:Value}{lo hi:Option Int}{n:Nat}{Q:Int×Int×Nat->Shared->Prop}(hs:s.heap.IsSliceOf sl vl vu .none)(pl:IsPart vl lo)(pu:IsPart vu hi)(h:Q (((sIx n 0 lo:Nat):Int),1,sIx n n hi-sIx n 0 lo) s):wpAny (model prog w) A (Builtin.Slice.sliceApplied (.ref sl) (pure (n:Int))) Q E s:=by
 obtain⟨os,hos,hcs,hds⟩:=id hs;unfold Builtin.Slice.sliceApplied Builtin.Slice.sliceFields;refine Jag (Jag (Jcm hos hds (x:=vl) rfl (Jag (Jcm hos hds (x:=vu) rfl (Jag (Jcm hos hds (x:=.none) rfl (Jaw ?_)))))));refine Jag (slicePart_none ?_);show wpAny _ _ (if ((1:Int) == 0)=true then _ else _) _ _ s;rw[if_neg ⇑0];refine Jag (Zj3 pl (Jag (Zj3 pu (Jag (Jaw ?_)))));show wpAny _ _ (match Builtin.Slice.sliceAdjust lo hi 1 (n:Int) with|(lo,hi)=>pure (lo,(1:Int),Builtin.Slice.slicePlaces lo hi 1)) _ _ s;rw[Zpn lo hi n];show wpAny _ _ (pure (((sIx n 0 lo:Nat):Int),(1:Int),Builtin.Slice.slicePlaces ((sIx n 0 lo:Nat):Int) ((sIx n n hi:Nat):Int) 1)) _ _ s;rw[Zo6];exact Jaw h
theorem Ztv (xs:Array Value)(i k:Nat):((List.range k).filterMap λ(m:Nat)=>xs[((i:Int)+(m:Int)*1).toNat]?).toArray=((xs.toList.drop i).take k).toArray:=by
 have e:(λ(m:Nat)=>xs[((i:Int)+(m:Int)*1).toNat]?)=λm=>xs[i+m]?:=by
  funext m
  have:((i:Int)+(m:Int)*1).toNat=i+m:=∅
  rw[this]
 rw[e];have:=pick_run xs i k;rw[List.filterMap_map] at this;have e2:((λx=>xs[x]?) ∘ λx=>i+x)=λm=>xs[i+m]?:=rfl;rw[e2] at this;rw[this]
theorem getItem_tuple_cut {t sl:Addr}{items:Array Value}{vl vu:Value}{lo hi:Option Int}{Q:Value->Shared->Prop}(ht:IsTup s.heap t items)(hs:s.heap.IsSliceOf sl vl vu .none)(pl:IsPart vl lo)(pu:IsPart vu hi)(hw:¬ (sIx items.size 0 lo=0/\sIx items.size items.size hi=items.size))(h:Q (.ref s.heap.objs.size) { s with heap:=s.heap.push { cls:=.type "tuple",data:=.seq ((items.toList.drop (sIx items.size 0 lo)).take (sIx items.size items.size hi-sIx items.size 0 lo)).toArray } })(hsz:items.size<=sizeLine):wpAny (model prog w) A (getItem (.ref t) (.ref sl)) Q E s:=by
 have htake:sizeOk (.seq ((items.toList.drop (sIx items.size 0 lo)).take (sIx items.size items.size hi-sIx items.size 0 lo)).toArray):=by
  show ((items.toList.drop (sIx items.size 0 lo)).take (sIx items.size items.size hi-sIx items.size 0 lo)).toArray.size<=sizeLine;rw[Jal,Jb7,Jbz,Jd0];omega
 have hj:sIx items.size items.size hi<=items.size:=sIx_le _ _ (Jaj _) hi;obtain⟨os,hos,hcs,hds⟩:=id hs;have hTs:s.TypeIs (.ref sl) "slice" := ⟨os,hos,hcs⟩
 unfold getItem
 try with_reducible refine Jeo ?_
 first|refine Jag (Jaw ?_)|skip
 refine Jag (wpAny_sequenceKey ht.typeIs ⇑0 ?_);refine Jag (Jdh (name:=Str.ofString "__getitem__") ht.typeIs Jct
  (wpAny_call_entry Jct ht.typeIs entry_tuple_getitem ?_ (args_tuple_getitem _ _)))
 show wpAny _ _ (Builtin.Tuple.tupleItemsOf (.ref t) >>= _) _ _ s;refine Jag (tupleItemsOf_ ht ?_);refine Jag (wpAny_typeOf hTs ?_);rw[if_pos ⇑0];refine Jag (Zh5 hs pl pu ?_);have hno:¬ ((((sIx items.size 0 lo:Nat):Int) == 0 && (1:Int) == 1 && (sIx items.size items.size hi-sIx items.size 0 lo) == items.size)=true):=by
  intro q;rw[Jbm,Jbm] at q;have q1:((sIx items.size 0 lo:Nat):Int)=0:=eq_of_beq q.1.1;have q2:sIx items.size items.size hi-sIx items.size 0 lo=items.size:=eq_of_beq q.2;exact hw ⟨∅,∅⟩
 show wpAny _ _ (if (((sIx items.size 0 lo:Nat):Int) == 0 && (1:Int) == 1 && (sIx items.size items.size hi-sIx items.size 0 lo) == items.size)=true then _ else _) _ _ s;rw[if_neg hno,Ztv]
 first
  | exact Jag (m:=Builtin.Tuple.tupleExact _) (Jcq (Jaw ⟨_,rfl,Jaw h⟩) htake)
  | exact Jag (m:=Builtin.Tuple.tupleExact _) (Jcq (Jag (Jaw (Jaw ⟨_,rfl,Jaw h⟩))) htake)
  | exact Jag (Jag (m:=Builtin.Tuple.tupleExact _) (Jcq (Jaw (Jaw ⟨_,rfl,Jaw h⟩)) htake))
  | exact Jag (Jag (m:=Builtin.Tuple.tupleExact _) (Jcq (Jaw ⟨_,rfl,Jaw h⟩) htake))
end
end HT
namespace L2
open PySem PySem.Spec PyProof.Rows
abbrev TO:=St->Hp->(Option Int->Hp->Prop)->Prop
def PO (X:Cx)(e:Option Expr)(t:TO):Prop:=
 ∀ (pins:List (Addr×Obj)) (s:Shared) (σ:St) (H:Hp) (Q:Option Int->Hp->Prop),Inv X pins σ H s->t σ H Q->
  wpAny (model X.prog X.w) X.A (evalPart e X.env) (λu s'=>∃ o H',Inv X pins σ H' s'/\IsPart u o/\Q o H') X.xe s
def Zmo:TO:=λ_ H Q=>Q none H
def tPart (t:TE):TO:=λσ H Q=>t σ H λx H1=>∃ i,x=.int i/\Q (some i) H1
section
variable {X:Cx}{e:Expr}{te:TE}{lo hi:Option Expr}{tl th:TO}{pos p2:Pos}
theorem Zcn:PO X none Zmo:=by
 intro pins s σ H Q I h;rw[evalPart_none];exact Jaw ⟨none,H,I,.none,h⟩
theorem Zb7 (h:PE X e te):PO X (some e) (tPart te):=by
 intro pins s σ H Q I hw;rw[evalPart_some];refine thn (h pins s σ H _ I hw) λu s1 ⟨x,H1,I1,r1,q1⟩=>?_;refine Zae q1 λi e9110 q=>?_;clear q1;obtain rfl:=e9110;obtain⟨t,rfl⟩:=r1;exact Zaq (some i) H1 ⟨I1,.int i t,q⟩
def SlR (X:Cx)(r:V->Option Int->Option Int->Hp->VK->Prop):Prop:=
 ∀ (pins:List (Addr×Obj)) (s:Shared) (σ:St) (H:Hp) (x:V) (v vl vu:Value) (lo hi:Option Int) (sl:Addr) (Q:VK),Inv X pins σ H s->RelV x v->s.heap.IsSliceOf sl vl vu .none->IsPart vl lo->IsPart vu hi->r x lo hi H Q->
  ∃ T id,typeLookup (.type T) "__getitem__" = pure (some (.builtin id))/\s.TypeIs v T/\wpAny (model X.prog X.w) X.A (getItem v (.ref sl)) (EP X pins σ Q) X.xe s
def tSl (r:V->Option Int->Option Int->Hp->VK->Prop)(te:TE)(tl th:TO):TE:=λσ H Q=>te σ H λx H1=>tl σ H1 λl H2=>th σ H2 λu H3=>r x l u H3 Q
theorem Zbt {r:V->Option Int->Option Int->Hp->VK->Prop}(hr:SlR X r)(he:PE X e te)(hl:PO X lo tl)(hu:PO X hi th):PE X (.Subscript e (.Slice lo hi none p2) pos) (tSl r te tl th):=by
 intro pins s σ H Q I h;refine Subscript_ (thn (he pins s σ H _ I h) λv s1 ⟨x,H1,I1,r1,q1⟩=>?_);refine wpAny_Slice (thn (hl pins s1 σ H1 _ I1 q1) λvl s2 ⟨l,H2,I2,pl,q2⟩=>thn (hu pins s2 σ H2 _ I2 q2) λvu s3 ⟨u,H3,I3,pu,q3⟩=>?_);rw[evalPart_none];refine Jaw ?_;have I4:Inv X pins σ H3 { s3 with heap:=s3.heap.push { cls:=.type "slice",data:=.fields #[vl,vu,.none] } }:=I3.kept (t':=s3.toks) λb ob q=>Jak _ q;refine Zca (hr pins { s3 with heap:=s3.heap.push { cls:=.type "slice",data:=.fields #[vl,vu,.none] } } σ H3 x v vl vu l u s3.heap.objs.size Q I4 r1 (Heap.IsSliceOf.new ..) pl pu q3) λT id hT ht hg=>?_;show wpAny (model X.prog X.w) X.A (subscriptTail e (.Slice lo hi none p2) v (.ref s3.heap.objs.size)) (EP X pins σ Q) X.xe { s3 with heap:=s3.heap.push { cls:=.type "slice",data:=.fields #[vl,vu,.none] } };exact tail_any (ops:=[.ref s3.heap.objs.size,v]) ht hT hg (by with_unfolding_all rfl)
def Zle (xs:List V)(lo hi:Option Int):List V:=(xs.drop (HT.sIx xs.length 0 lo)).take (HT.sIx xs.length xs.length hi-HT.sIx xs.length 0 lo)
theorem Zjp (xs:List V)(lo hi:Option Int):(Zle xs lo hi).length<=xs.length:=by
 unfold Zle;rw[Jb7,Jbz];omega
def rSlT (K:Frag):V->Option Int->Option Int->Hp->VK->Prop:=λx lo hi H Q=>∃ a xs,x=.ref a/\SqT K H a xs /\
 ¬ (HT.sIx xs.length 0 lo=0/\HT.sIx xs.length xs.length hi=xs.length)/\∀ p,H p=none->Q (.ref p) (upd H p (.tup (Zle xs lo hi)))
theorem Zip:SlR X (rSlT X.K):=by
 intro pins s σ H x v vl vu lo hi sl Q I rx hs pl pu h;refine Zf2 h λa xs e9111 hx hw q=>?_;clear h;obtain rfl:=e9111;cases rx;refine Zas (I.tuple hx) λits r ht hz=>?_;have hlen:its.toArray.size=xs.length:=by rw[Jal];exact r.length.symm
 refine Zaq ("tuple") _ ⟨Jct.lookup,ht.typeIs,?_⟩;refine HT.getItem_tuple_cut ht hs pl pu (by rw[hlen];exact hw) ?_ (by rw[hlen];exact hz);rw[hlen];refine Zaq (.ref s.heap.objs.size) _ ⟨I.laid (t':=s.toks) (o:=.tup (Zle xs lo hi)) (λb ob q=>Jak _ q) (Jaj _) ?_,rfl,q _ (I.hok.fresh (Jaj _))⟩;exact⟨Jbh (Zjp xs lo hi) hz,_,(r.drop (HT.sIx xs.length 0 lo)).take (HT.sIx xs.length xs.length hi-HT.sIx xs.length 0 lo),IsTup.new _ _⟩
def rCatT (K:Frag):R2:=λx y H Q=>∃ a b xs ys,x=.ref a/\y=.ref b/\SqT K H a xs/\SqT K H b ys/\xs≠[]/\xs.length+ys.length<=sizeLine /\
 (ys=[]->Q (.ref a) H)/\(ys≠[]->∀ p,H p=none->Q (.ref p) (upd H p (.tup (xs++ys))))
theorem Vals.nil_iff {xs:List V}{us:List Value}(r:Vals xs us):us=[] ↔ xs=[]:=by
 cases r with
 | nil=>simp
 | cons _ _=>simp
theorem Zgf:OpR X (binaryOp .Add) (rCatT X.K):=by
 intro pins s σ H x y v u Q I rx ry h;refine Zc6 h λa b xs ys e9115 e9116 ha e9117=>?_;clear h;obtain rfl:=e9115;obtain rfl:=e9116;refine Zcy e9117 λhb hx hz q1 q2=>?_;clear e9117;cases rx;cases ry;refine Zas (I.tuple ha) λits r1 p1 _=>?_;refine Zas (I.tuple hb) λits2 r2 p2 _=>?_;refine HT.cat_tup p1 p2 (λz=>hx (r1.nil_iff.mp z)) (λz=>⟨.ref a,H,I,rfl,q1 (r2.nil_iff.mp z)⟩) (λz=>?_) (by rw[<- r1.length,<- r2.length];exact hz);refine Zaq (.ref s.heap.objs.size) _ ⟨I.laid (t':=s.toks) (o:=.tup (xs++ys)) (λb ob q=>Jak _ q) (Jaj _) ?_,rfl,q2 (λw=>z (r2.nil_iff.mpr w)) _ (I.hok.fresh (Jaj _))⟩;exact⟨by rw[Jai];exact hz,_,r1.append r2,IsTup.new _ _⟩
end
def ixN (n:Nat)(i:Int):Option Nat:=if 0<=i then (if i<n then some i.toNat else none) else if -(n:Int)<=i then some (i+n).toNat else none
def atI {α:Type}(xs:List α)(i:Int):Option α:=(ixN xs.length i).bind λj=>xs[j]?
theorem Zrv {n:Nat}{i:Int}{j:Nat}(h:ixN n i=some j):seqIndex? i n=some j/\j<n/\-(n:Int)<=i/\i<n:=by
 unfold ixN at h;by_cases h0:0<=i
 .rw [if_pos h0] at h;by_cases h1:i<n
  .rw [if_pos h1] at h;have e:i.toNat=j:=Jbn h;exact⟨by rw[seqIndex_of h0 h1,e],∅,∅,h1⟩
  .rw [if_neg h1] at h;cases h
 .rw [if_neg h0] at h;by_cases h1:-(n:Int)<=i
  .rw [if_pos h1] at h;have e:(i+n).toNat=j:=Jbn h;exact⟨by rw[seqIndex_neg ∅ h1,e],∅,h1,∅⟩
  .rw [if_neg h1] at h;cases h
theorem Zsx {α:Type}{xs:List α}{i:Int}{v:α}(h:atI xs i=some v):∃ j,seqIndex? i xs.length=some j/\xs[j]?=some v/\j<xs.length/\-(xs.length:Int)<=i/\i<xs.length:=by
 unfold atI at h;cases e:ixN xs.length i with
 | none=>rw[e] at h;cases h
 | some j=>
  rw[e] at h;refine Zck (Zrv e) λh1 h2 h3 h4=>?_;exact⟨j,h1,h,h2,h3,h4⟩
theorem atI_nat {α:Type}{xs:List α}{j:Nat}{v:α}(h:xs[j]?=some v):atI xs (j:Int)=some v:=by
 have hj:j<xs.length:=(Jaf.mp h).1;have e:ixN xs.length (j:Int)=some j:=by
  unfold ixN;rw[if_pos ∅,if_pos ∅];simp
 unfold atI;rw[e];exact h
theorem Zvb {α:Type}(xs:List α)(v:α):atI (xs++[v]) (-1)=some v:=by
 have hl:(xs++[v]).length=xs.length+1:=by simp
 have e:ixN (xs++[v]).length (-1)=some xs.length:=by
  unfold ixN;rw[hl,if_neg ⇑0,if_pos ∅];congr 1;omega
 unfold atI;rw[e];show (xs++[v])[xs.length]?=some v;simp
def PlainIx (b:Expr):Prop:=∀ o i,subscripted b false o i=operate [o,i] (getItem o i)
def IxR (X:Cx)(r:R2):Prop:=
 ∀ (value slice:Expr) (pins:List (Addr×Obj)) (s:Shared) (σ:St) (H:Hp) (x y:V) (v u:Value) (Q:VK),Inv X pins σ H s->RelV x v->RelV y u->r x y H Q->
  subscripted slice false v u=operate [v,u] (getItem v u)->wpAny (model X.prog X.w) X.A (subscriptTail value slice v u) (EP X pins σ Q) X.xe s
def MtR (X:Cx)(id:String)(r:V->List V->Hp->VK->Prop):Prop:=
 ∀ (pins:List (Addr×Obj)) (s:Shared) (σ:St) (H:Hp) (x:V) (xs:List V) (v:Value) (us:List Value) (Q:VK),Inv X pins σ H s->RelV x v->Vals xs us->r x xs H Q->
  wpAny (model X.prog X.w) X.A (call (.builtin id) (v::us)) (EP X pins σ Q) X.xe s
section
variable {X:Cx}{a b:Expr}{ta tb:TE}{pos:Pos}
theorem pe_ix {r:R2}(hr:IxR X r)(ha:PE X a ta)(hb:PE X b tb)(hs:PlainIx b):PE X (.Subscript a b pos) (tOp r ta tb):=by
 intro pins s σ H Q I h;exact Subscript_ (binT ha hb I h λv u s2 x y H2 I2 rx ry q=>hr a b pins s2 σ H2 x y v u Q I2 rx ry q (hs _ _))
def rIxL (K:Frag):R2:=λx y H Q=>∃ p xs i v,x=.ref p/\y=.int i/\SqL K H p xs/\atI xs i=some v/\Q v H
def rIxT (K:Frag):R2:=λx y H Q=>∃ p xs i v,x=.ref p/\y=.int i/\SqT K H p xs/\atI xs i=some v/\Q v H
theorem Za7:IxR X (rIxL X.K):=by
 intro value slice pins s σ H x y v u Q I rx ry h hs;refine Zc6 h λp xs i z e9120 e9121 hq e9122=>?_;clear h;obtain rfl:=e9120;obtain rfl:=e9121;obtain⟨he,q⟩:=e9122;cases rx;obtain⟨t,rfl⟩:=ry;refine Zas (I.list hq) λits r pl hz=>?_;refine Zkr (Zsx he) λj h1 h2 h3 h4 h5=>?_;refine Zae (r.get h2) λw ew rw'=>?_;have hl:=r.length;have hn:=Zl4;have fin:EP X pins σ Q w s:=⟨z,H,I,rw',q⟩
 by_cases h0:0<=i
 .have hj:i.toNat=j:=by
   rw[seqIndex_of h0 h5] at h1;exact Jbn h1
  exact item_listR pl.isList h0 ∅ (by rw[hj];simpa using ew) fin hs
 .have hj:(i+(its.toArray.size:Int)).toNat=j:=by
   rw[seqIndex_neg ∅ h4] at h1;rw[Jal,<- hl];exact Jbn h1
  exact subscriptTail_builtinR (x:=w) pl.isList.typeIs slot_list_getitem.lookup
   (wpAny_getItem_list_neg (Q:=λr s'=>r=w/\EP X pins σ Q r s') pl.isList ∅ (by rw[Jal] <;> omega) ∅ (by rw[hj];simpa using ew) ⟨rfl,fin⟩) hs
theorem Za2:IxR X (rIxT X.K):=by
 intro value slice pins s σ H x y v u Q I rx ry h hs;refine Zc6 h λp xs i z e9123 e9124 hq e9125=>?_;clear h;obtain rfl:=e9123;obtain rfl:=e9124;obtain⟨he,q⟩:=e9125;cases rx;obtain⟨t,rfl⟩:=ry;refine Zas (I.tuple hq) λits r pl hz=>?_;refine Zkr (Zsx he) λj h1 h2 h3 h4 h5=>?_;refine Zae (r.get h2) λw ew rw'=>?_;have hl:=r.length;have hn:=Zl4;have fin:EP X pins σ Q w s:=⟨z,H,I,rw',q⟩
 exact subscriptTail_builtinR (x:=w) pl.typeIs slot_tuple_getitem.lookup
  (getItem_tuple (j:=j) (Q:=λr s'=>r=w/\EP X pins σ Q r s') pl ∅ ∅ (by rw[Jal,<- hl];exact h1) (by simpa using ew) ⟨rfl,fin⟩) hs
theorem Zpc (its:List Value)(n j:Nat)(u:Value):Obj.mapSeq (·.setIfInBounds j u) { cls:=.type "list",data:=.seq its.toArray n }={ cls:=.type "list",data:=.seq (its.set j u).toArray n }:=by
 simp[Obj.mapSeq]
theorem Inv.lst {pins:List (Addr×Obj)}{σ:St}{H:Hp}{s:Shared}{p:Addr}{xs:List V}(I:Inv X pins σ H s)(h:H p=some (.lst xs)):
  ∃ (its:List Value) (n:Nat),Vals xs its/\s.heap.get? p=some { cls:=.type "list",data:=.seq its.toArray n }/\xs.length<=sizeLine:=by
 obtain⟨z,its,n,r,e⟩:=I.hok p _ h;exact Zaq its n ⟨r,e,z⟩
theorem Inv.lstUpd {pins:List (Addr×Obj)}{σ:St}{H:Hp}{s:Shared}{p:Addr}{xs ys:List V}{its its':List Value}{n n':Nat}{f:Obj->Obj}(I:Inv X pins σ H s)(h:H p=some (.lst xs))(ho:s.heap.get? p=some { cls:=.type "list",data:=.seq its.toArray n })(hf:f { cls:=.type "list",data:=.seq its.toArray n }={ cls:=.type "list",data:=.seq its'.toArray n' })(r:Vals ys its')(hz:ys.length<=sizeLine)(t:Nat):
  Inv X pins σ (upd H p (.lst ys)) { s with heap:=s.heap.update p f,toks:=t }:=by
 have e:(s.heap.update p f).get? p=some { cls:=.type "list",data:=.seq its'.toArray n' }:=by
  rw[Heap.get?_update_self f ho (by rw[hf] <;> rfl),hf]
 refine I.write (x:=p) (e:=p) (by rw[h];trivial) (.inl rfl) (λb u hb q=>(Heap.get?_update_other _ _ (Jen hb)).trans q) ⟨_,e⟩ ?_;exact⟨hz,its',n',r,e⟩
def rSetL:V->V->V->Hp->(Hp->Prop)->Prop:=λo i v H Q=>∃ p xs k j,o=.ref p/\i=.int k/\H p=some (.lst xs)/\ixN xs.length k=some j/\Q (upd H p (.lst (xs.set j v)))
theorem Zfh:PSet X rSetL:=by
 intro pins s σ H o i v ov iv u Q I ro ri rv h;refine Zc6 h λp xs k j e9129 e9130 hp e9131=>?_;clear h;obtain rfl:=e9129;obtain rfl:=e9130;obtain⟨hj,q⟩:=e9131;cases ro;obtain⟨t,rfl⟩:=ri;refine Zca (I.lst hp) λits n r ho hz=>?_;refine Zck (Zrv hj) λh1 h2 h3 h4=>?_;have hl:=r.length;have hn:=Zl4;have I':Inv X pins σ (upd H p (.lst (xs.set j v))) { s with heap:=s.heap.update p (Obj.mapSeq (·.setIfInBounds j u)) }:=
  I.lstUpd hp ho (Zpc its n j u) (r.set rv j) (by rw[Jcc];exact hz) s.toks
 by_cases h0:0<=k
 .have hk:k.toNat=j:=by
   rw[seqIndex_of h0 h4] at h1;exact Jbn h1
  exact PySem.W.ki_setAt ho h0 ∅ (by rw[Jal,<- hl];exact h4) (by rw[hk];exact⟨_,I',q⟩)
 .have hk:(k+(its.toArray.size:Int)).toNat=j:=by
   rw[seqIndex_neg ∅ h3] at h1;rw[Jal,<- hl];exact Jbn h1
  exact PySem.W.ki_setBack ho ∅ (by rw[Jal,<- hl];exact h3) ∅ (by rw[hk];exact⟨_,I',q⟩)
theorem Zlq (lo hi:Option Int)(n:Nat):(sliceBounds lo hi none n).1=((HT.sIx n 0 lo:Nat):Int)/\(sliceBounds lo hi none n).2.1=((HT.sIx n n hi:Nat):Int)/\(sliceBounds lo hi none n).2.2=1:=by
 refine⟨?_,?_,rfl⟩
 .cases lo with
  | none=>simp[sliceBounds,HT.sIx]
  | some i=>
   simp only[sliceBounds,HT.sIx,Option.getD_none,show (1:Int) > 0 by decide,Jb9];by_cases h:i<0
   .simp only [h,Jb9] <;> omega
   .simp only [h,if_false] <;> omega
 .cases hi with
  | none=>simp[sliceBounds,HT.sIx]
  | some i=>
   simp only[sliceBounds,HT.sIx,Option.getD_none,show (1:Int) > 0 by decide,Jb9];by_cases h:i<0
   .simp only [h,Jb9] <;> omega
   .simp only [h,if_false] <;> omega
theorem Zku (its:List Value)(lo hi:Option Int):slicePick its.toArray lo hi none=((its.drop (HT.sIx its.length 0 lo)).take (HT.sIx its.length its.length hi-HT.sIx its.length 0 lo)).toArray:=by
 refine Zba (Zlq lo hi its.toArray.size) λh1 h2 h3=>?_;unfold slicePick;rw[h1,h2,h3];simp only[sliceRange_one,pick_run,Jal] <;> rfl
def rSlL (K:Frag):V->Option Int->Option Int->Hp->VK->Prop:=λx lo hi H Q=>∃ a xs,x=.ref a/\SqL K H a xs/\∀ p,H p=none->Q (.ref p) (upd H p (.lst (Zle xs lo hi)))
theorem Zf4:SlR X (rSlL X.K):=by
 intro pins s σ H x v vl vu lo hi sl Q I rx hs pl pu h;refine Zca h λa xs e9132 hx q=>?_;clear h;obtain rfl:=e9132;cases rx;refine Zas (I.list hx) λits r ht hz=>?_;have hlen:=r.length;refine Zaq ("list") _ ⟨slot_list_getitem.lookup,ht.isList.typeIs,?_⟩;refine wpAny_getItem_list_slice ht.isList hs pl pu .none (by simp) ?_ (by rw[Jal] <;> omega);rw[Zku,<- hlen];refine Zaq (.ref s.heap.objs.size) _ ⟨I.laid (t':=s.toks) (o:=.lst (Zle xs lo hi)) (λb ob q=>Jak _ q) (Jaj _) ?_,rfl,q _ (I.hok.fresh (Jaj _))⟩;exact⟨Jbh (Zjp xs lo hi) hz,_,0,(r.drop (HT.sIx xs.length 0 lo)).take (HT.sIx xs.length xs.length hi-HT.sIx xs.length 0 lo),Jay _ rfl⟩
def Zpj:V->Bool
 | .non=>true
 | .bl _=>true
 | .int _=>true
 | .str _=>true
 | _=>false
def eqV:V->V->Bool
 | .non,.non=>true
 | .bl a,.bl b=>a == b
 | .bl a,.int b=>(if a then 1 else 0) == b
 | .int a,.bl b=>a == (if b then 1 else 0)
 | .int a,.int b=>a == b
 | .str a,.str b=>a == b
 | _,_=>false
theorem eqAt_V {A:Around}{s:Shared}{y x:V}{u v:Value}(ry:RelV y u)(rx:RelV x v)(fy:Zpj y=true)(fx:Zpj x=true):SeqAt.EqAt A s u v (eqV y x):=by
 cases y with
 | non=>
  cases ry;cases x with
  | non=>cases rx;exact SeqAt.EqAt.same _
  | bl b=>cases rx;exact SeqAt.EqAt.none_bool b
  | int b=>obtain⟨t,rfl⟩:=rx;exact SeqAt.EqAt.none_int b t
  | str b=>obtain⟨t,rfl⟩:=rx;exact SeqAt.EqAt.none_str b t
  | _=>exact absurd (show false=true from fx) Jau
 | bl a=>
  cases ry;cases x with
  | non=>cases rx;exact SeqAt.EqAt.bool_none a
  | bl b=>cases rx;exact SeqAt.EqAt.bool_bool a b
  | int b=>obtain⟨t,rfl⟩:=rx;exact SeqAt.EqAt.bool_int a b t
  | str b=>obtain⟨t,rfl⟩:=rx;exact SeqAt.EqAt.bool_str a b t
  | _=>exact absurd (show false=true from fx) Jau
 | int a=>
  obtain⟨t',rfl⟩:=ry;cases x with
  | non=>cases rx;exact SeqAt.EqAt.int_none a t'
  | bl b=>cases rx;exact SeqAt.EqAt.int_bool a t' b
  | int b=>obtain⟨t,rfl⟩:=rx;exact SeqAt.EqAt.int_int a t' b t
  | str b=>obtain⟨t,rfl⟩:=rx;exact Jea a t' b t
  | _=>exact absurd (show false=true from fx) Jau
 | str a=>
  obtain⟨t',rfl⟩:=ry;cases x with
  | non=>cases rx;exact SeqAt.EqAt.str_none a t'
  | bl b=>cases rx;exact SeqAt.EqAt.str_bool a t' b
  | int b=>obtain⟨t,rfl⟩:=rx;exact SeqAt.EqAt.str_int a t' b t
  | str b=>obtain⟨t,rfl⟩:=rx;exact SeqAt.EqAt.str_str a t' b t
  | _=>exact absurd (show false=true from fx) Jau
 | _=>exact absurd (show false=true from fy) Jau
def inV (x:V)(xs:List V):Bool:=xs.any λy=>eqV y x
def rIn (K:Frag)(neg:Bool):R2:=λx y H Q=>∃ p xs,y=.ref p/\(SqL K H p xs\/SqT K H p xs)/\Zpj x=true/\xs.all Zpj=true/\Q (.bl (if neg then !inV x xs else inV x xs)) H
theorem Zao:Zgi X (.builtin "len") (λxs H Q=>∃ p ys,xs=[.ref p]/\(SqL X.K H p ys\/SqT X.K H p ys)/\Q (.int ys.length) H):=by
 intro pins s σ H xs us Q I r h;refine Zca h λp ys e9137 hq q=>?_;clear h;obtain rfl:=e9137;refine Zae (Zll r) λu e9138 rx=>?_;obtain rfl:=e9138;cases rx;have hn:=Zl4;rcases hq with hq|hq
 .refine Zas (I.list hq) λits r' pl hz=>?_;have hlen:=r'.length;exact Calls.call_len_list pl.isList (by simp only[Jal] <;> omega) ⟨.int ys.length,H,I.tok _,⟨s.toks+1,by rw[Jal,hlen]⟩,q⟩
 .refine Zas (I.tuple hq) λits r' pl hz=>?_;have hlen:=r'.length;exact len_tuple pl (by simp only[Jal] <;> omega) ⟨.int ys.length,H,I.tok _,⟨s.toks+1,by rw[Jal,hlen]⟩,q⟩
theorem Zbk:Zgi X (.type "list") (λxs H Q=>∃ p ys,xs=[.ref p]/\(SqL X.K H p ys\/SqT X.K H p ys)/\∀ l,H l=none->Q (.ref l) (upd H l (.lst ys))):=by
 intro pins s σ H xs us Q I r h;refine Zca h λp ys e9142 hq q=>?_;clear h;obtain rfl:=e9142;refine Zae (Zll r) λu e9143 rx=>?_;obtain rfl:=e9143;cases rx;have fin:∀ (its:List Value),Vals ys its->ys.length<=sizeLine->∀ (h':Heap) (c':Nat),(∀ b o',s.heap.get? b=some o'->h'.get? b=some o')->
   h'.get? s.heap.objs.size=some { cls:=.type "list",dict:=none,data:=.seq its.toArray c',slots:=#[] }->EP X pins σ Q (.ref s.heap.objs.size) { s with heap:=h' }:=λits r' hz h' c' kp e=>
  ⟨.ref s.heap.objs.size,_,I.laid (t':=s.toks) kp (Jaj _) (show ObjOk X.prog X.w _ h' _ (.lst ys) from ⟨hz,its,c',r',e⟩),rfl,q _ (I.hok.fresh (Jaj _))⟩
 rcases hq with hq|hq
 .refine Zas (I.list hq) λits r' pl hz=>?_;have hlen:=r'.length;obtain⟨o,ho,hc,n,hd⟩:=pl.isList;exact call_list_seq p (.inl rfl) ho hc hd (λh' c' kp e=>fin its r' hz h' c' kp e) (by simp only[Jal] <;> omega)
 .obtain ⟨its,r',pl,hz⟩:=I.tuple hq;have hlen:=r'.length;obtain⟨o,ho,hc,n,hd⟩:=pl;exact call_list_seq p (.inr rfl) ho hc hd (λh' c' kp e=>fin its r' hz h' c' kp e) (by simp only[Jal] <;> omega)
theorem Zlg:Zgi X (.type "tuple") (λxs H Q=>∃ p ys,xs=[.ref p]/\((SqL X.K H p ys/\∀ l,H l=none->Q (.ref l) (upd H l (.tup ys)))\/(SqT X.K H p ys/\Q (.ref p) H))):=by
 intro pins s σ H xs us Q I r h;obtain⟨p,ys,rfl,h⟩:=h;obtain⟨u,rfl,rx⟩:=Zll r;cases rx;rcases h with ⟨hq,q⟩|⟨hq,q⟩
 .obtain ⟨its,r',pl,hz⟩:=I.list hq;have hlen:=r'.length;refine call_tuple_list pl.isList (λh' kp=>?_) (by simp only[Jal] <;> omega);have I1:Inv X pins σ H { s with heap:=h' }:=I.kept (t':=s.toks) kp;have I2:Inv X pins σ (upd H h'.objs.size (.tup ys)) { s with heap:=h'.push { cls:=.type "tuple",data:=.seq its.toArray } }:=
   I1.laid (t':=s.toks) (λb o e=>Jak _ e) (Jaj _) (show ObjOk X.prog X.w _ _ _ (.tup ys) from ⟨hz,its,r',IsTup.new _ _⟩)
  exact⟨.ref h'.objs.size,_,I2,rfl,q _ (I1.hok.fresh (Jaj _))⟩
 .obtain ⟨its,r',pl,hz⟩:=I.tuple hq;exact call_tuple_same pl ⟨.ref p,H,I,rfl,q⟩
def tyV (K:Frag)(T:String)(x:V)(H:Hp):Prop:=match x with
 | .str _=>T="str"
 | .int _=>T="int"
 | .ref p=>(T="list" /\ ∃ xs,SqL K H p xs)\/(T="tuple" /\ ∃ o,K.lookup p=some o/\o.cls=.type "tuple" /\ o.dict=none) \/
   (T="dict" /\ ((∃ kvs,H p=some (.dK kvs))\/∃ kvs,H p=some (.dT kvs)))\/(T="set" /\ ∃ S n,H p=some (.set S n))
 | _=>False
theorem Zvn {pins:List (Addr×Obj)}{σ:St}{H:Hp}{s:Shared}{T:String}{x:V}{v:Value}(I:Inv X pins σ H s)(r:RelV x v)(ty:tyV X.K T x H):
  s.TypeIs v T/\∀ a,v=.ref a->∃ ob,s.heap.get? a=some ob/\ob.dict=none:=by
 cases x with
 | str z=>
  obtain⟨t,rfl⟩:=r;cases (show T="str" from ty);exact⟨typeIs_str s z t,λ_ e=>nomatch e⟩
 | int i=>
  obtain⟨t,rfl⟩:=r;cases (show T="int" from ty);exact⟨typeIs_int s i t,λ_ e=>nomatch e⟩
 | ref p=>
  cases r;rcases ty with ⟨rfl,xs,hq⟩|⟨rfl,o,hk,hc,hd⟩|⟨rfl,hk⟩|⟨rfl,S,n,hk⟩
  .refine Zas (I.list hq) λits _ pl _=>?_;refine⟨pl.isList.typeIs,λa e=>?_⟩;cases e;refine Zf2 pl λo n e c hd _=>?_;clear pl;exact⟨o,e,hd⟩
  .refine ⟨⟨o,I.kIn p o hk,hc⟩,λa e=>?_⟩;cases e;exact⟨o,I.kIn _ o hk,hd⟩
  .have z:∃ o,s.heap.get? p=some o/\o.ExactDict:=by
    rcases hk with ⟨kvs,hk⟩|⟨kvs,hk⟩
    .refine Zba (I.hok p _ hk) λ_ _ e9144=>?_;obtain⟨_,_,o,_,_,e,ex,_⟩:=e9144;exact⟨o,e,ex⟩
    .refine Zba (I.hok p _ hk) λ_ _ e9145=>?_;obtain⟨_,_,o,_,_,e,ex,_⟩:=e9145;exact⟨o,e,ex⟩
   refine Zae z λo e ex=>?_;clear z;refine⟨⟨o,e,ex.1⟩,λa e2=>?_⟩;cases e2;exact⟨o,e,ex.2.1⟩
  .refine xE4_3 (I.hok p _ hk) λo _ _ _ e ex _=>?_;refine⟨⟨o,e,ex.1⟩,λa e2=>?_⟩;cases e2;exact⟨o,e,ex.2.1⟩
 | _=>exact False.elim ty
def tBM0 (K:Frag)(T:String)(r:V->List V->Hp->VK->Prop)(to:TE):TE:=λσ H Q=>to σ H λx H1=>tyV K T x H1/\r x [] H1 Q
def tBM (K:Frag)(T:String)(r:V->List V->Hp->VK->Prop)(to:TE)(t:TA):TE:=λσ H Q=>to σ H λx H1=>tyV K T x H1/\t σ H1 λxs H2=>r x xs H2 Q
variable {o e:Expr}{es:List Expr}{to:TE}{t:TA}{name:Str}{apos cpos:Pos}{T id:String}{r:V->List V->Hp->VK->Prop}
theorem Zq4 (pa:PlainAttrs T)(slot:Slot T name id)(hty:typeOf (.builtin id)=pure (.type "method_descriptor"))(hm:MtR X id r)(ho:PE X o to)(hbase:attributeBase o name X.env (eval o X.env)=eval o X.env:=by rfl)(hline:(apos.endLine == cpos.line)=true:=by rfl):PE X (.Call (.Attribute o name apos) [] [] cpos) (tBM0 X.K T r to):=by
 intro pins s σ H Q I h;refine wpAny_Call_method0_late hbase hline (thn (ho pins s σ H _ I h) λv s1 ⟨x,H1,I1,r1,ty,q1⟩=>?_);obtain⟨h1,h2⟩:=Zvn I1 r1 ty;exact Zaq T id ⟨pa,slot,hty,h1,h2,Calls.callWith_builtin rfl (PySem.evalArgs_none (hm pins s1 σ H1 x [] v [] Q I1 r1 .nil q1))⟩
theorem Zm3 (pa:PlainAttrs T)(slot:Slot T name id)(hty:typeOf (.builtin id)=pure (.type "method_descriptor"))(hm:MtR X id r)(ho:PE X o to)(ha:PA X (e::es) t)(hbase:attributeBase o name X.env (eval o X.env)=eval o X.env:=by rfl)(hfew:((backTo cpos (starEach (e::es) X.env)).all (λx=>!x.1) && (backToKw cpos (keywordEach [] X.env)).all (λx=>x.1.isSome)
   && decide ((e::es).length+([]:List Keyword).length+(if ([]:List Keyword).isEmpty then 0 else 1)<30))=true:=by rfl)(hline:(apos.endLine == cpos.line)=true:=by rfl)(hs:starEach (e::es) X.env=(false,eval e X.env)::starEach es X.env:=by rfl)(hplain:(backTo cpos (starEach es X.env)).any (·.1)=false:=by rfl):
  PE X (.Call (.Attribute o name apos) (e::es) [] cpos) (tBM X.K T r to t):=by
 intro pins s σ H Q I h;refine wpAny_Call_method_late hbase hfew hline rfl (thn (ho pins s σ H _ I h) λv s1 ⟨x,H1,I1,r1,ty,q1⟩=>?_);obtain⟨h1,h2⟩:=Zvn I1 r1 ty;refine Zaq T id ⟨pa,slot,hty,h1,h2,?_⟩;have hA:=ha cpos pins s1 σ H1 _ I1 q1;rw[hs] at hA ⊢;refine Calls.callWith_builtin (by show (false || (backTo cpos (starEach es X.env)).any (·.1))=false;rw[hplain] <;> rfl) (Calls.evalArgs_plain ?_);exact thn hA λus s2 ⟨vs,H2,I2,r2,q2⟩=>hm pins s2 σ H2 x vs v us Q I2 r1 r2 q2
end
def MtM (X:Cx)(id:String)(r:V->List V->Hp->VK->Prop):Prop:=
 ∀ (pins:List (Addr×Obj)) (s:Shared) (σ:St) (H:Hp) (x:V) (xs:List V) (v:Value) (us:List Value) (Q:VK),Inv X pins σ H s->RelV x v->Vals xs us->r x xs H Q->
  wpAny (model X.prog X.w) X.A (call (.builtin id) (v::us)) (EP X pins σ Q) X.xe s
theorem Vals.one:∀ {x:V} {us:List Value},Vals [x] us->∃ u,us=[u]/\RelV x u
 | _,_,.cons r .nil=>⟨_,rfl,r⟩
theorem Vals.zero:∀ {us:List Value},Vals [] us->us=[]
 | _,.nil=>rfl
theorem Vals.eraseIdx:∀ {xs:List V} {us:List Value} (i:Nat),Vals xs us->Vals (xs.eraseIdx i) (us.eraseIdx i)
 | _,_,_,.nil=>.nil
 | _,_,0,.cons _ t=>t
 | _,_,i+1,.cons r t=>.cons r (Vals.eraseIdx i t)
theorem Vals.rep {xs:List V}{us:List Value}(h:Vals xs us):∀ k:Nat,Vals (List.replicate k xs).flatten (List.replicate k us).flatten
 | 0=>.nil
 | k+1=>by
  rw[Jb3,Jb3,Jcu,Jcu];exact Vals.append h (Vals.rep h k)
theorem Zl7 (its:List Value):∀ (k:Nat) (acc:List Value),
  List.foldl (λx1 x2=>x1++x2) acc.toArray (List.replicate k its.toArray)=(acc++(List.replicate k its).flatten).toArray
 | 0,acc=>by simp
 | k+1,acc=>by
  have e:acc.toArray++its.toArray=(acc++its).toArray:=by simp
  have e2:(acc++its)++(List.replicate k its).flatten=acc++(List.replicate (k+1) its).flatten:=by
   rw[Jb3,Jcu,List.append_assoc]
  rw[<- e2,<- Zl7 its k (acc++its),<- e,Jb3,List.foldl_cons]
section
variable {X:Cx}{pins:List (Addr×Obj)}{σ:St}{H:Hp}{s:Shared}{l b:Addr}{xs ys zs:List V}
theorem Inv.lset {its its':List Value}{n:Nat}{f:Array Value->Array Value}{t':Nat}(I:Inv X pins σ H s)(hH:H l=some (.lst xs))(e:s.heap.get? l=some { cls:=.type "list",data:=.seq its.toArray n })(hf:f its.toArray=its'.toArray)(hv:Vals ys its')(hz:ys.length<=sizeLine):
  Inv X pins σ (upd H l (.lst ys)) { s with heap:=s.heap.update l (Obj.mapSeq f),toks:=t' }:=by
 have q:=PySem.IsL.update e f;rw[hf] at q;refine I.write (x:=l) (e:=l) (by rw[hH];exact trivial) (.inl rfl) (λb' u hb hu=>(Heap.get?_update_other s.heap (Obj.mapSeq f) (Jen hb)).trans hu) ⟨_,q⟩ ?_;exact⟨hz,its',_,hv,q⟩
theorem Inv.lnew {its:List Value}{t':Nat}(I:Inv X pins σ H s)(hv:Vals ys its)(hz:ys.length<=sizeLine):
  Inv X pins σ (upd H s.heap.objs.size (.lst ys)) { s with heap:=s.heap.push { cls:=.type "list",data:=.seq its.toArray },toks:=t' }:=
 I.laid (λ_ _ q=>Jak _ q) (Jaj _) ⟨hz,its,0,hv,Jay _ rfl⟩
theorem Inv.fresh (I:Inv X pins σ H s):H s.heap.objs.size=none:=I.hok.fresh (Jaj _)
theorem Inv.lstM (I:Inv X pins σ H s)(hH:H l=some (.lst xs)):xs.length<=sizeLine/\∃ (its:List Value) (n:Nat),Vals xs its/\xs.length=its.length/\s.heap.get? l=some { cls:=.type "list",data:=.seq its.toArray n }:=by
 obtain⟨z,its,n,r,e⟩:=I.hok l _ hH;exact⟨z,its,n,r,r.length,e⟩
theorem Zoj {n:Nat}(h:n<=sizeLine):Builtin.List.listTooLong n=false:=by
 unfold Builtin.List.listTooLong;exact Jam ∅
end
section
variable {X:Cx}
def Zja:V->List V->Hp->VK->Prop:=λx vs H Q=>∃ l xs y,x=.ref l/\vs=[y]/\H l=some (.lst xs)/\xs.length<sizeLine/\Q .non (upd H l (.lst (xs++[y])))
theorem Zc4:MtM X "list.append" Zja:=by
 intro pins s σ H x vs v us Q I rx rv h;refine Zcx h λl xs y e9146 e9147 hH e9148=>?_;clear h;obtain rfl:=e9146;obtain rfl:=e9147;obtain⟨hz,q⟩:=e9148;cases rx;refine Zae rv.one λu e9149 ru=>?_;obtain rfl:=e9149;obtain⟨z,its,n,r,hl,e⟩:=I.lstM hH;refine call_meets F.slot_list_append ⟨_,e,rfl⟩ F.entry_list_append (F.args_list_append_2 _ _) (PySem.list_append l its.toArray n u (by rw[Jal];omega)) ⟨e,?_⟩;refine Zaq .non _ ⟨I.lset (its':=its++[u]) hH e (by simp) (r.append (.cons ru .nil)) ?_,rfl,q⟩;rw[Jai,List.length_singleton];omega
def rExtend:V->List V->Hp->VK->Prop:=λx vs H Q=>∃ l b xs zs,x=.ref l/\vs=[.ref b]/\H l=some (.lst xs)/\H b=some (.lst zs)/\xs.length+zs.length<=sizeLine/\Q .non (upd H l (.lst (xs++zs)))
theorem mt_extend:MtM X "list.extend" rExtend:=by
 intro pins s σ H x vs v us Q I rx rv h;refine Zc6 h λl b xs zs e9150 e9151 hH e9152=>?_;clear h;obtain rfl:=e9150;obtain rfl:=e9151;refine Zba e9152 λhB hz q=>?_;clear e9152;cases rx;refine Zae rv.one λu e9153 ru=>?_;obtain rfl:=e9153;cases ru;obtain⟨z,its,n,r,hl,e⟩:=I.lstM hH;obtain⟨z2,its2,n2,r2,hl2,e2⟩:=I.lstM hB;have hsz:its.toArray.size+its2.toArray.size<=sizeLine:=by rw[Jal,Jal];omega
 have hlong:¬ (!its.toArray.isEmpty && Builtin.List.listTooLong (its.toArray.size+its2.toArray.size))=true:=by
  rw[Zoj hsz,Jdq];exact Jau
 refine call_meets F.slot_list_extend ⟨_,e,rfl⟩ F.entry_list_extend (F.args_list_extend_2 _ _)
  (AutoSeq1.list_extend_list_list_0 l its.toArray n b its2.toArray n2 hlong (by rw[Jal];omega) ∅) ⟨e,e2,?_⟩
 refine Zaq .non _ ⟨I.lset (its':=its++its2) hH e (by simp) (r.append r2) ?_,rfl,q⟩;rw[Jai];omega
def Zvu:V->List V->Hp->VK->Prop:=λx vs H Q=>∃ l xs i k y,x=.ref l/\vs=[.int i]/\H l=some (.lst xs)/\-(2 ^ 63)<=i/\i<2 ^ 63/\seqIndex? i xs.length=some k/\xs[k]?=some y/\Q y (upd H l (.lst (xs.eraseIdx k)))
def rCat:R2:=λx y H Q=>∃ l b xs zs,x=.ref l/\y=.ref b/\H l=some (.lst xs)/\H b=some (.lst zs)/\xs.length+zs.length<=sizeLine/\∀ p,H p=none->Q (.ref p) (upd H p (.lst (xs++zs)))
theorem Zfz:OpR X (binaryOp .Add) rCat:=by
 intro pins s σ H x y v u Q I rx ry h;refine Zc6 h λl b xs zs e9165 e9166 hH e9167=>?_;clear h;obtain rfl:=e9165;obtain rfl:=e9166;refine Zba e9167 λhB hz q=>?_;clear e9167;cases rx;cases ry;obtain⟨z,its,n,r,hl,e⟩:=I.lstM hH;obtain⟨z2,its2,n2,r2,hl2,e2⟩:=I.lstM hB;refine PySem.P.add_list e e2 ?_ (by rw[Jal,Jal];omega);have ea:its.toArray++its2.toArray=(its++its2).toArray:=by simp
 rw[ea];exact Zaq (.ref _) _ ⟨I.lnew (t':=s.toks) (r.append r2) (by rw[Jai];omega),rfl,q _ I.fresh⟩
def rRep:R2:=λx y H Q=>∃ l k xs,x=.ref l/\y=.int k/\H l=some (.lst xs)/\-(2 ^ 63)<=k/\k<2 ^ 63/\xs.length*k.toNat<=sizeLine /\
 ∀ p,H p=none->Q (.ref p) (upd H p (.lst (List.replicate k.toNat xs).flatten))
theorem Zrr {α:Type}(xs:List α)(k:Nat):(List.replicate k xs).flatten.length=k*xs.length:=by
 induction k with
 | zero=>simp
 | succ k ih=>rw[Jb3,Jcu,Jai,ih,Nat.succ_mul,Nat.add_comm]
theorem Zlz:OpR X (binaryOp .Mult) rRep:=by
 intro pins s σ H x y v u Q I rx ry h;refine Zcx h λl k xs e9168 e9169 hH e9170=>?_;clear h;obtain rfl:=e9168;obtain rfl:=e9169;refine Zck e9170 λh1 h2 hz q=>?_;clear e9170;cases rx;obtain⟨t,rfl⟩:=ry;obtain⟨z,its,n,r,hl,e⟩:=I.lstM hH;have hlen:its.toArray.size*k.toNat<=sizeLine:=by rw[Jal,<- hl];exact hz
 have hcap:¬ its.toArray.size*k.toNat > (2 ^ 63-1) / 8:=by
  have:(sizeLine:Nat)<=(2 ^ 63-1) / 8:=⇑0
  omega
 have hfit:¬ (!Builtin.List.listFitsIndex k)=true:=by
  rw[fitsIndex_both h1 h2];exact Jau
 have hlong:¬ Builtin.List.listTooLong (its.toArray.size*k.toNat)=true:=by
  rw[Zoj hlen];exact Jau
 have hnew:List.foldl (λx1 x2=>x1++x2) #[] (List.replicate (if its.toArray.isEmpty=true then 0 else k.toNat) its.toArray)=(List.replicate k.toNat its).flatten.toArray:=by
  have f0:∀ m:Nat,List.foldl (λx1 x2=>x1++x2) #[] (List.replicate m its.toArray)=(List.replicate m its).flatten.toArray:=λm=>by
   have:=Zl7 its m [];rw[List.nil_append] at this;exact this
  rw[f0];cases its with
  | nil=>simp
  | cons a r'=>rw[if_neg (by simp)]
 refine wpAny_binaryOp_repeat_ref (T:="list") (U:="int") ⇑0 ⟨_,e,rfl⟩ (λs'=>typeIs_int s' k t) noFill_list_mul F.fills_int_mul F.slot_int_rmul repeat_list F.slot_int_index.lookup
  (call_meets F.slot_int_rmul (typeIs_int s k t) F.entry_int_rmul (F.args_int_rmul_2 _ _) (int___rmul___int_list k t l its.toArray n)
   ⟨e,rfl,⟨_,e,rfl⟩,call_meets F.slot_list_mul ⟨_,e,rfl⟩ F.entry_list_mul (F.args_list_mul_2 _ _) (AutoListH.list___mul___list_int_3 l its.toArray n k t hfit hcap hlong) ⟨e,?_⟩⟩)
 rw[hnew];exact Zaq (.ref _) _ ⟨I.lnew (t':=s.toks) (r.rep k.toNat) (by rw[Zrr,Nat.mul_comm];exact hz),rfl,q _ I.fresh⟩
end
section
variable {prog:Program}{w:World}{A:Around}{E:Value->Shared->Prop}{s:Shared}
end
section
variable {X:Cx}
end
end L2
namespace Att
open PySem PySem.W PySem.Calls PyProof.Rows
theorem Zjm {P:Params}{h:Heap}:∀ (ns:List Int) (vs:List Value),WellAll P h vs (ns.map WData.int)->IntsAre vs ns:=by
 intro ns
 induction ns with
 | nil=>
  intro vs w;rw[List.map_nil] at w;cases w;exact .nil
 | cons n ns ih=>
  intro vs w;rw[List.map_cons] at w;cases w with
  | cons a b=>
   cases a;exact .cons _ _ (ih _ b)
theorem Zqk {l:OpenLaw}{n:Nat}(hn:l.most=some n){P:Params}{h:Heap}{args:List WData}{vals:List Value}(hpre:l.row.toRowW.claim.pre args=true)(hwl:WellAll P h vals args):
  ∃ a vs ns,vals=[Value.ref a]/\args=[WData.list (ns.map WData.int)]/\h.get? a=some { cls:=.type "list",data:=.seq vs.toArray }/\IntsAre vs ns/\ns.length<=n:=by
 have hsh:WShape.hasAll [] args [.list .int]=true:=(pre_splitW hpre).1;have hc:l.pre.holds [] { args:=args }=true:=(pre_splitW hpre).2;obtain⟨d,r,rfl,h1,h2⟩:=hasAllW_cons hsh;obtain rfl:=hasAllW_nil h2;obtain⟨xs,rfl,h3⟩:=hasW_list h1;obtain⟨ns,rfl⟩:=items_int h3;have hlen:ns.length<=n:=by
  unfold OpenLaw.pre at hc;have h4:(WTm.not (.lt (.lit (.int (n:Int))) (.len (.arg 0)))).holds [] { args:=[.list (ns.map .int)] }=true:=by
   have h4:=(holds_andW hc).1;rw[hn] at h4;exact h4
  have h5:=condW_of h4 (w_not (w_lt w_lit (w_len_list (w_arg rfl))));rw[Jab] at h5;refine Nat.le_of_not_lt λq=>?_;have q':(n:Int)<((ns.length:Nat):Int):=∅
  first
   | (rw[Jah q'] at h5;exact absurd h5 ⇑0)
   | (simp at h5;omega)
 cases hwl with
 | cons w1 w2=>
  cases w2;cases w1 with
  | list ho hall=>exact⟨_,_,ns,rfl,rfl,ho,Zjm ns _ hall,hlen⟩
theorem Zqy (l:OpenLaw)(args:List WData):l.row.toRowW.claim.post args (.bool true) args=true:=
 postW_of (r:=l.row.toRowW) (X:=(true == true))
  (show WShape.has [] (.bool true) .bool=true by first|rfl|decide|simp[WShape.has,WShape.arms,WShape.armsAll])
  (show (WTm.eq .res (.lit (.bool true))).value [] { args:=args,res:=some (.bool true),after:=args }=some (.bool (true == true)) from w_eq_bool (w_res rfl) w_lit) rfl
theorem attach_call {l:OpenLaw}{n:Nat}{q:Program}{loose:List Str}{XP:(Str->Option Value)->Heap->Prop}{YP:World->Heap->Prop}{d:DefRec}(hn:l.most=some n)(hdf:d.params.defaults=[])(call:∀ (w:World) (s₀ s₁:Shared) (mg mb:Str->Option Value) (fa:Addr) (o:Obj) (pm cd doc:Value) (a:Addr) (vs:List Value) (ns:List Int),
   Ground q loose [] XP w s₀ mg mb s₁.heap->YP w s₁.heap->
   s₁.heap.get? fa=some o->o.data=.func (docDef d.name d.params d.body d.scope pm cd doc)->s₁.heap.CodeRec cd d.name->mg d.name=some (.ref fa)->
   s₁.heap.get? a=some { cls:=.type "list",data:=.seq vs.toArray }->IntsAre vs ns->ns.length<=n->s₁.gens=#[]->
   codeAny (model l.prog w) callerA (.call (.ref fa) ⟨[.ref a],[]⟩) (λr s'=>r=.ok (.ret (.bool true))/\OldK s₁.heap s'.heap/\s'.os=s₁.os/\AllBare s'.gens) s₁):
  WalkO q loose XP YP l.row.toRowW d [] (λf vs=>PySem.call f vs):=by
 intro w s₀ s₁ mg mb G Y fa o pm cd doc dV kV ho hd hcd hD hmg hg args vals as hpre hlay hrd hwl hlo;obtain rfl:dV=.none:=Dflts.none hD hdf;obtain rfl:kV=.none:=Dflts.noKw hD;obtain⟨a,vs,ns,rfl,rfl,hobj,hints,hlen⟩:=Zqk hn hpre hwl;refine enter_call (codeAny_mono (call w s₀ s₁ mg mb fa o pm cd doc a vs ns G Y ho (fd_plain hd) hcd hmg hobj hints hlen hg) λr s' hq=>?_);obtain⟨rfl,h2,h3,h4⟩:=hq;exact⟨.inl ⟨.bool true,.bool true,[],rfl,λ_=>rfl,.bool true,Zqy l _,λ_=>⟨List.Pairwise.nil,λ_ hm=>(nomatch hm)⟩⟩,h2,h3,h4⟩
section
variable {prog:Program}{w:World}{A:Around}{E:Value->Shared->Prop}{s:Shared}{K:Frag}
end
end Att
namespace L2
open PySem PySem.Spec PyProof.Rows
theorem Zlk:∀ {vs:List Value} {ns:List Int},IntsAre vs ns->Vals (ns.map V.int) vs
 | _,_,.nil=>.nil
 | _,_,.cons n t h=>.cons ⟨t,rfl⟩ (Zlk h)
def Only (H:Hp):Prop:=∀ b,H b=none\/∃ o xs,H b=some (.frz o (.lst xs))
theorem Zus {P:Program}{w:World}{K:Frag}{mg mb:Str->Option Value}{CX:CXT}{k:Nat}{fa a:Addr}{fd:FuncData}{x:Str}{sp:Sp}{s₁:Shared}{vs:List Value}{ns:List Int}(KX:K.In s₁.heap)(hns:s₁.heap.Ns mainGlobals mg)(hb:s₁.heap.Ns builtinsNs mb)(hbb:∀ x:Str,x ≠ "__name__" -> mb x=bootBuiltins x)(hlim:s₁.heap.NoLimit)(hseer:s₁.heap.NoSeer)(hbm:∃ bm ob,mg "__builtins__" = some (.ref bm)/\bm≠builtinsNs/\s₁.heap.get? bm=some ob/\ob.cls=.type "module" /\ ob.dict=some builtinsNs/\ob.data=.plain)(hg:s₁.gens=#[])(ha:s₁.heap.get? a=some { cls:=.type "list",data:=.seq vs.toArray })(hi:IntsAre vs ns)(hl:ns.length<=sizeLine)(hr:Room k callerA)(F:∀ base:Heap,K.In base->base.Ns mainGlobals mg->FnOk P w K mg base CX k fa fd [x] sp)(hbind:∀ (s:Shared) (u:Value),BindsTo s fd ⟨[u],[]⟩ [(x,u)])(hsp:∀ H:Hp,Only H->SqL K H a (ns.map V.int)->sp [.ref a] H (λv _=>v=.bl true) λ_ _ _=>False)(hCX:∀ H e s',CX [] H s₁ (λ_ _ _=>False) e s'->False):
  codeAny (model P w) callerA (.call (.ref fa) ⟨[.ref a],[]⟩) (λr s'=>r=.ok (.ret (.bool true))/\OldK s₁.heap s'.heap/\s'.os=s₁.os/\AllBare s'.gens) s₁:=by
 have rv:=Zlk hi;have lenV:=hi.length
 -- from an abstract heap in which nothing but the script may be tracked
 have core:∀ H:Hp,Only H->SqL K H a (ns.map V.int)->HOk P w H s₁.heap->(∀ b,H b≠none->b=a)->(H a≠none->K.lookup a=none)->
   codeAny (model P w) callerA (.call (.ref fa) ⟨[.ref a],[]⟩) (λr s'=>r=.ok (.ret (.bool true))/\OldK s₁.heap s'.heap/\s'.os=s₁.os/\AllBare s'.gens) s₁:=by
  intro H hO hS hok hA hK;have base_of:∀ {b:Addr} {o:Obj},s₁.heap.get? b=some o->H b=none->(Zs3 s₁.heap H).get? b=some o:=λe n=>Zuw e n;have noA:∀ {b:Addr} {o:Obj} {es:Array DictEntry} {ep:Nat},s₁.heap.get? b=some o->o.data=.dict es ep->H b=none:=λ{b o es ep} e d=>by
   cases q:H b with
   | none=>rfl
   | some u=>
    have e':b=a:=hA b (by rw[q];simp);subst e';rw[ha] at e;cases e;have d':Data.seq vs.toArray _=Data.dict es ep:=d;cases d'
  have nsK:∀ {b:Addr} {m:Str->Option Value},s₁.heap.Ns b m->(Zs3 s₁.heap H).Ns b m:=λ{b m} ⟨o,es,ep,e,d,r⟩=>⟨o,es,ep,base_of e (noA e d),d,r⟩
  have hKb:K.In (Zs3 s₁.heap H):=λb o e=>base_of (KX b o e) (by
   cases q:H b with
   | none=>rfl
   | some u=>
    have e':b=a:=hA b (by rw[q];simp);subst e';rw[hK (by rw[q];simp)] at e;cases e)
  have seerB:(Zs3 s₁.heap H).NoSeer:=⟨let ⟨mc,x,y⟩:=hseer.statics;⟨mc,nsK x,y⟩,let ⟨mc,x,y⟩:=hseer.mods;⟨mc,nsK x,y⟩,let ⟨mc,x,y⟩:=hseer.imp;⟨mc,nsK x,y⟩,let ⟨mg',bm,ob,x,y,z,u,v⟩:=hseer.main;⟨mg',bm,ob,nsK x,y,base_of z (by
   cases q:H bm with
   | none=>rfl
   | some o=>
    have e':bm=a:=hA bm (by rw[q];simp);subst e';rw[ha] at z;cases z;have u':Value.type "list" = Value.type "module" := u
    injection u' with u'
    exact absurd u' ⇑0),u,v⟩⟩
  have hM:Mod K mg (Zs3 s₁.heap H):=⟨hKb,nsK hns,⟨mb,nsK hb,hbb⟩,let ⟨mc,h1,h2⟩:=hlim;⟨mc,nsK h1,h2⟩,seerB,let ⟨bm,ob,x1,x2,x3,x4,x5,x6⟩:=hbm;⟨bm,ob,x1,x2,base_of x3 (by
   cases q:H bm with
   | none=>rfl
   | some o=>
    have e':bm=a:=hA bm (by rw[q];simp);subst e';rw[ha] at x3;cases x3;cases x6),x4,x5,x6⟩⟩
  have e0:Env0 P w K mg (Zs3 s₁.heap H) callerA [] s₁ H:=⟨rfl,hM,λb o e=>of_hidT e,Nat.le_of_eq (Zr6 _ _),trivial,λb hb=>absurd (show b∈([]:List Addr) from hb) (by simp),hok,.of_eq hg⟩
  refine codeAny_mono ((F _ hKb (nsK hns)).run callerA [] s₁ H ⟨[.ref a],[]⟩ [.ref a] [.ref a] _ _ hr e0 (hbind s₁ (.ref a)) (.cons rfl .nil) (hsp H hO hS)) λr s' h=>?_;cases r with
  | error e=>exact (hCX H e s' h).elim
  | ok fl=>
   cases fl with
   | next=>exact False.elim h
   | brk=>exact False.elim h
   | cont=>exact False.elim h
   | ret u=>
    refine Zju h λv H' os bare un hok' r' q=>?_;clear h;have q':v=.bl true:=q;subst q';obtain rfl:u=Value.bool true:=r';refine⟨rfl,OldK.of_keep λb o e=>?_,os,bare⟩;cases q:H b with
    | none=>exact un.keep b o e q (by intro z;exact absurd (show b∈([]:List Addr) from z) (by simp)) (by simp)
    | some u=>
     rcases hO b with z|⟨ob,xs,z⟩
     .rw [q] at z;cases z
     .have z2:=un.frzs b ob _ z;obtain⟨e1,_⟩:=hok b _ z;obtain⟨e2,_⟩:=hok' b _ z2;rw[e] at e1;cases e1;exact e2
 cases hk:K.lookup a with
 | some o=>
  -- the script is one of the module's own objects
  have e:=KX a o hk;rw[ha] at e;cases e;refine core (λ_=>none) (λ_=>.inl rfl) (.inr ⟨_,vs.toArray,_,hk,rfl,rfl,rfl,by rw[Jal,lenV];exact hl,by simpa using rv⟩) (λb u z=>by have z':(none:Option HO)=some u:=z;cases z') (λb z=>absurd rfl z) λz=>absurd rfl z
 | none=>
  refine core (λb=>if b=a then some (.frz { cls:=.type "list",data:=.seq vs.toArray } (.lst (ns.map V.int))) else none) (λb=>?_) (.inl (.inr ⟨{ cls:=.type "list",data:=.seq vs.toArray },if_pos rfl⟩)) (λb u z=>?_) (λb z=>?_) λ_=>hk
  .by_cases hb:b=a
   .exact .inr ⟨_,_,if_pos hb⟩
   .exact .inl (if_neg hb)
  .by_cases hb:b=a
   .have z':=(if_pos hb).symm.trans z;cases z';subst hb;exact⟨ha,by rw[Jab];exact hl,vs,_,rv,ha⟩
   .have z':=(if_neg hb).symm.trans z;cases z'
  .by_cases hb:b=a
   .exact hb
   .exact absurd (if_neg hb) z
theorem walk_of {l:PySem.W.OpenLaw}{n k:Nat}{q:Program}{loose:List Str}{XP:(Str->Option Value)->Heap->Prop}{YP:World->Heap->Prop}{d:DefRec}{K:Params->Frag}{CX:World->CXT}{sp:World->Sp}{x:Str}(hq:importsNone q=true)(hn:l.most=some n)(hn2:n<=sizeLine)(hdf:d.params.defaults=[])(hr:Room k callerA)(hY:∀ (w:World) (h:Heap),YP w h->(K w.params).In h)(F:∀ (w:World) (mg:Str->Option Value) (fa:Addr) (h:Heap),(K w.params).In h->h.Ns mainGlobals mg->mg d.name=some (.ref fa)->
   ∃ fd:FuncData,(∀ (s:Shared) (u:Value),BindsTo s fd ⟨[u],[]⟩ [(x,u)]) /\
    ∀ base:Heap,(K w.params).In base->base.Ns mainGlobals mg->FnOk l.prog w (K w.params) mg base (CX w) k fa fd [x] (sp w))(hsp:∀ (w:World) (H:Hp) (a:Addr) (ns:List Int),ns.length<=n->Only H->SqL (K w.params) H a (ns.map V.int)->sp w [.ref a] H (λv _=>v=.bl true) λ_ _ _=>False)(hCX:∀ (w:World) (H:Hp) (s:Shared) (e:Value) (s':Shared),CX w [] H s (λ_ _ _=>False) e s'->False):
  PySem.W.WalkO q loose XP YP l.row.toRowW d [] (λf vs=>PySem.call f vs):=by
 refine Att.attach_call hn hdf λw s₀ s₁ mg mb fa o pm cd doc a vs ns G Y ho hd hcd hmg hobj hints hlen hg=>?_;have KX:=hY w _ Y;refine Zae (F w mg fa _ KX G.T.g hmg) λfd hb hF=>?_;exact Zus KX G.T.g G.T.b G.T.builtins G.T.nolimit (G.T.seer hq) G.T.bmain hg hobj hints (Jbh hlen hn2) hr hF hb (λH hO hS=>hsp w H a ns hlen hO hS) λH e s'=>hCX w H s₁ e s'
def Zjn (s:Stmt)(j:Nat):Stmt:=match s with
 | .ClassDef _ _ _ body _ _ _ _ _ _ _=>body.getD j (.Pass ⟨0,0,0,0⟩)
 | _=>.Pass ⟨0,0,0,0⟩
def Zd0 (s:Stmt):Arguments:=match s with
 | .FunctionDef _ a _ _ _ _ _ _ _ _=>a
 | _=>{ posonlyargs:=[],args:=[],vararg:=none,kwonlyargs:=[],kw_defaults:=[],kwarg:=none,defaults:=[] }
def Zci (s:Stmt):List Stmt:=match s with
 | .FunctionDef _ _ b _ _ _ _ _ _ _=>b
 | _=>[]
def Zaf (s:Stmt):Scope:=match s with
 | .FunctionDef _ _ _ _ _ _ sc _ _ _=>sc
 | _=>{ kind:=.function,names:=[],isGenerator:=false,isCoroutine:=false }
abbrev CX0:CXT:=λ_ _ _ _ _ _=>False
abbrev E0:XK:=λ_ _ _=>False
theorem Ztx {X:Cx}:Zkp CX0 X E0:=λ_ _ _ _ _ _ _ h=>h.elim
structure Fun (K:Frag)(x qual:Str)(st:Stmt)(f:Addr)(fd:FuncData):Prop where
 ex:∃ (oc:Value) (od:Option Addr) (kV doc pm:Value) (an:Option Addr) (cdv ct:Value) (osl:Array (Option Value)),
  fd=PySem.W.fnOf x qual (Zd0 st) (Zci st) (Zaf st) .none kV doc pm an cdv ct/\K.lookup f=some ⟨oc,od,.func fd,osl⟩/\PySem.W.codeIn K cdv qual=true
 kp:PySem.W.keepIn K (.ref f)=true
section
theorem Fun.ok {x qual:Str}{st:Stmt}{f:Addr}{fd:FuncData}{N ps:List Str}{k:Nat}{sp:Sp}(F:Fun K x qual st f fd)(S:FnScope N ps (Zaf st))(len:∀ vs H Q E,sp vs H Q E->vs.length=ps.length)(hbody:∀ (cdv:Value) (A:Around) (outer:List Env) (s:Shared) (H:Hp) (vs:List V) (Q:VK) (E:XK),Room k (A.deeper (envOfC qual (Zaf st) s.heap.objs.size f cdv))->sp vs H Q E->
   ∃ t,PSs (Zu5 CX0 P w K mg base N qual (Zaf st) f cdv A outer s H E).nox (Zci st) t/\t { nx:=λ_ H'=>Q .non H',rt:=Q } (Zhe N vs) H):FnOk P w K mg base CX0 (k+1) f fd ps sp:=by
 refine xE9_3 F.ex λoc od kV doc pm an cdv ct osl e9171 lk hcd=>?_;obtain rfl:=e9171;refine fn_of lk hcd S len λA outer s H vs Q E hr hsp=>?_;refine Zae (hbody cdv A outer s H vs Q E hr hsp) λt h q=>?_;exact⟨t,h.nox,q⟩
theorem Fun.binds {x qual:Str}{st:Stmt}{f:Addr}{fd:FuncData}{ps:List Str}(F:Fun K x qual st f fd)(h:∀ (kV doc pm:Value) (an:Option Addr) (cdv ct:Value) (us:List Value),us.length=ps.length->bindArgs (PySem.W.fnOf x qual (Zd0 st) (Zci st) (Zaf st) .none kV doc pm an cdv ct) ⟨us,[]⟩=pure (ps.zip us)):Binds K fd ps []:=by
 refine xE9_3 F.ex λoc od kV doc pm an cdv ct osl e9172 lk hcd=>?_;obtain rfl:=e9172;exact .all (h kV doc pm an cdv ct)
theorem fun_mk {x qual:Str}{st:Stmt}{f:Addr}{oc:Value}{od an:Option Addr}{osl:Array (Option Value)}{kV doc pm cdv ct:Value}(l:K.lookup f=some ⟨oc,od,.func (PySem.W.fnOf x qual (Zd0 st) (Zci st) (Zaf st) .none kV doc pm an cdv ct),osl⟩)(c:PySem.W.codeIn K cdv qual=true)(k:PySem.W.keepIn K (.ref f)=true):Fun K x qual st f (PySem.W.fnOf x qual (Zd0 st) (Zci st) (Zaf st) .none kV doc pm an cdv ct):=⟨⟨oc,od,kV,doc,pm,an,cdv,ct,osl,rfl,l,c⟩,k⟩
end
theorem Zan {n:Nat}(h:n<=1000):n<sizeLine:=Jbf h ⇑0
section
variable {X:Cx}
theorem pv (i:Nat){x:Str}{pos:Pos}(hN:X.N[i]?=some x:=by rfl)(hv:Vis X.env.scope x:=by first|exact Or.inl rfl|exact Or.inr (Or.inl rfl)|exact Or.inr (Or.inr rfl))(hd:(x == ("__debug__" : Str))=false:=by decide)(hcd:(x == ("__classdict__" : Str))=false:=by decide):PE X (.Name x pos) (Zhs i):=pe_var hN hv hd hcd
end
theorem Zut {A B:Prop}(h:B):if false=true then A else B:=by
 rw[if_neg Jau];exact h
theorem iteT {A B:Prop}(h:A):if true=true then A else B:=by
 rw[if_pos rfl];exact h
theorem Zb5 {c A B:Prop}[Decidable c](h1:c->A)(h2:¬ c->B):if c then A else B:=by
 by_cases h:c
 .rw [if_pos h];exact h1 h
 .rw [if_neg h];exact h2 h
def Same (H H':Hp):Prop:=∀ b o,H b=some o->H' b=some o
theorem Same.refl (H:Hp):Same H H:=λ_ _ h=>h
theorem Same.trans {H H1 H2:Hp}(a:Same H H1)(b:Same H1 H2):Same H H2:=λc o h=>b c o (a c o h)
theorem Same.free {H H':Hp}(e:Same H H'){l:Addr}(h:H' l=Option.none):H l=Option.none:=by
 cases q:H l with
 | none=>rfl
 | some o=>
  rw[e l o q] at h;cases h
theorem Same.seq {K:Frag}{H H':Hp}{a:Addr}{xs:List V}(e:Same H H')(h:SqL K H a xs):SqL K H' a xs:=by
 rcases h with (h|⟨o,h⟩)|h
 .exact .inl (.inl (e _ _ h))
 .exact .inl (.inr ⟨o,e _ _ h⟩)
 .exact .inr h
theorem Zu9 {x:Str}{c:Addr}:∀ (names:List (Str×NameKind)) (n:Nat) (acc:List (Str×Addr)),(cellsFrom n names acc).lookup x=some c->n<=c\/acc.lookup x=some c
 | [],_,_,h=>.inr h
 | (y,k)::r,n,acc,h=>by
  unfold cellsFrom at h;split at h
  .rcases Zu9 r (n+1) _ h with z|z
   .exact .inl (Jch z)
   .rw [Ja3] at z;cases e:x == y with
    | true=>rw[e] at z;cases z;exact .inl (Jaj _)
    | false=>rw[e] at z;exact .inr z
  .exact Zu9 r n acc h
theorem Zsp {x:Str}{c:Addr}:∀ (names:List (Str×NameKind)) (n:Nat) (acc:List (Str×Addr)),(x,NameKind.cell)∈names->(cellsFrom n names acc).lookup x=some c->n<=c
 | [],_,_,m,_=>nomatch m
 | (y,k)::r,n,acc,m,h=>by
  unfold cellsFrom at h;split at h
  .by_cases m':(x,NameKind.cell)∈r
   .exact Jch (Zsp r (n+1) _ m' h)
   .have e:(x,NameKind.cell)=(y,k):=(Ja5.mp m).resolve_right m';cases e;rcases Zu9 r (n+1) _ h with z|z
    .exact Jch z
    .rw [Ja3,beq_self_eq_true] at z;cases z;exact Jaj _
  .rename_i hk
   have m':(x,NameKind.cell)∈r:=by
    rcases Ja5.mp m with e|m'
    .cases e;exact absurd rfl hk
    .exact m'
   exact Zsp r n acc m' h
theorem Zsq {x:Str}:∀ {names:List (Str×NameKind)} {n:Nat} {acc:List (Str×Addr)},(x,NameKind.cell)∉names->(cellsFrom n names acc).lookup x=acc.lookup x
 | [],_,_,_=>rfl
 | (y,k)::r,n,acc,h=>by
  unfold cellsFrom;have hr:(x,NameKind.cell)∉r:=λm=>h (Jbl _ m);split
  .rename_i hk
   have hy:(x == y)=false:=by
    cases e:x == y with
    | false=>rfl
    | true=>
     exfalso;refine h ?_;rw[Jbu.mp e,Jbu.mp hk];exact Jcd
   rw[Zsq hr,Ja3,hy]
  .exact Zsq hr
theorem Zsr:∀ (names:List (Str×NameKind)) (n:Nat) (acc:List (Str×Addr)),(∀ x c,acc.lookup x=some c->c<n)->(∀ x y c,acc.lookup x=some c->acc.lookup y=some c->x=y)->
  ∀ x y c,(cellsFrom n names acc).lookup x=some c->(cellsFrom n names acc).lookup y=some c->x=y
 | [],_,_,_,hi=>hi
 | (z,k)::r,n,acc,hl,hi=>by
  unfold cellsFrom;split
  .refine Zsr r (n+1) _ (λx c h=>?_) (λx y c h1 h2=>?_)
   .rw [Ja3] at h;cases e:x == z with
    | true=>rw[e] at h;cases h;exact Jdv _
    | false=>rw[e] at h;exact Jek (hl x c h)
   .rw [Ja3] at h1 h2;cases e1:x == z with
    | true=>
     rw[e1] at h1;cases h1;cases e2:y == z with
     | true=>rw[Jbu.mp e1,Jbu.mp e2]
     | false=>rw[e2] at h2;exact absurd (hl y _ h2) (Jb4 _)
    | false=>
     rw[e1] at h1;cases e2:y == z with
     | true=>rw[e2] at h2;cases h2;exact absurd (hl x _ h1) (Jb4 _)
     | false=>rw[e2] at h2;exact hi x y c h1 h2
  .exact Zsr r n acc hl hi
theorem Zni {x:Str}{c:Addr}:∀ (names:List (Str×NameKind)) (h:Heap) (acc:List (Str×Addr)),(cellsFrom h.objs.size names acc).lookup x=some c->(pushCells h names).IsCell c none\/acc.lookup x=some c
 | [],_,_,z=>.inr z
 | (y,k)::r,h,acc,z=>by
  unfold cellsFrom at z;unfold pushCells;split at z
  .rename_i hk
   rw[if_pos hk];have z':(cellsFrom (h.push { cls:=.type "cell",data:=.cell none }).objs.size r ((y,h.objs.size)::acc)).lookup x=some c:=by rw[Jbv];exact z
   rcases Zni r _ _ z' with q|q
   .exact .inl q
   .rw [Ja3] at q;cases e:x == y with
    | true=>
     rw[e] at q;cases q;exact .inl ⟨_,pushCells_keeps _ _ _ _ (Jay _ rfl),rfl⟩
    | false=>rw[e] at q;exact .inr q
  .rename_i hk
   rw[if_neg hk];exact Zni r h acc z
theorem Znh {env:Env}(f:Str×NameKind->List (Str×Addr)->Sem (ForInStep (List (Str×Addr))))(hf:∀ name kind cs,f (name,kind) cs=if kind == .free then (do let a <- cellOf env name;pure (.yield ((name,a)::cs))) else pure (.yield cs)):
  ∀ (names:List (Str×NameKind)) (acc:List (Str×Addr)),(∀ y∈names,y.2=.free->∃ c,env.cells.lookup y.1=some c)->(∀ x c,acc.lookup x=some c->env.cells.lookup x=some c)->
  ∃ cl,forIn names acc f=pure cl/\(∀ x c,cl.lookup x=some c->env.cells.lookup x=some c)/\(∀ y∈names,y.2=.free->∃ c,cl.lookup y.1=some c)/\∀ x c,acc.lookup x=some c->∃ c',cl.lookup x=some c'
 | [],acc,_,ha=>⟨acc,rfl,ha,(λ_ m=>nomatch m),λx c e=>⟨c,e⟩⟩
 | (y,k)::r,acc,h,ha=>by
  rw[List.forIn_cons,hf];have hr:∀ y∈r,y.2=NameKind.free->∃ c,env.cells.lookup y.1=some c:=λz m=>h z (Jbl _ m);by_cases hk:(k == NameKind.free)=true
  .obtain ⟨c,hc⟩:=h (y,k) Jcd (Jbu.mp hk);have e:cellOf env y=pure c:=by unfold cellOf;rw[hc]
   rw[if_pos hk,e,pure_bind,pure_bind];have ha':∀ x d,((y,c)::acc).lookup x=some d->env.cells.lookup x=some d:=λx d e=>by
    rw[Ja3] at e;cases e1:x == y with
    | true=>rw[e1] at e;cases e;rw[Jbu.mp e1];exact hc
    | false=>rw[e1] at e;exact ha x d e
   refine Zpv (Znh f hf r ((y,c)::acc) hr ha') λcl q1 q2 q3 q4=>?_;refine⟨cl,q1,q2,λz m hz=>?_,λx d e=>?_⟩
   .rcases Ja5.mp m with e|m
    .subst e;exact q4 y c (by rw[Ja3,beq_self_eq_true])
    .exact q3 z m hz
   .by_cases e1:(x == y)=true
    .exact q4 x c (by rw[Ja3,e1])
    .exact q4 x d (by rw[Ja3];simp only[e1];exact e)
  .rw [if_neg hk,pure_bind];refine Zpv (Znh f hf r acc hr ha) λcl q1 q2 q3 q4=>?_;refine⟨cl,q1,q2,λz m hz=>?_,q4⟩;rcases Ja5.mp m with e|m
   .subst e;exact absurd (Jbu.mpr hz) hk
   .exact q3 z m hz
theorem Zsm {scope:Scope}{env:Env}(h:∀ y∈scope.names,y.2=.free->∃ c,env.cells.lookup y.1=some c):
  ∃ cl,closureFor scope env=pure cl/\(∀ x c,cl.lookup x=some c->env.cells.lookup x=some c)/\∀ y∈scope.names,y.2=.free->∃ c,cl.lookup y.1=some c:=by
 obtain⟨cl,q1,q2,q3,_⟩:=Znh (env:=env) (λx cs=>if x.2 == .free then (do let a <- cellOf env x.1;pure (.yield ((x.1,a)::cs))) else pure (.yield cs)) (λ_ _ _=>rfl) scope.names [] h (λ_ _ e=>nomatch e);refine⟨cl,?_,q2,q3⟩;unfold closureFor;have e:(λ(x:Str×NameKind) (r:List (Str×Addr))=>(match x with
   | (name,kind)=>if (kind == NameKind.free)=true then (do let __do_lift <- cellOf env name;pure (ForInStep.yield ((name,__do_lift)::r))) else pure (ForInStep.yield r):Sem (ForInStep (List (Str×Addr))))) =
   λx cs=>if x.2 == .free then (do let a <- cellOf env x.1;pure (.yield ((x.1,a)::cs))) else pure (.yield cs):=by
  funext x cs
  rfl
 have q:(forIn scope.names ([]:List (Str×Addr)) λ(x:Str×NameKind) (r:List (Str×Addr))=>(match x with
   | (name,kind)=>if (kind == NameKind.free)=true then (do let __do_lift <- cellOf env name;pure (ForInStep.yield ((name,__do_lift)::r))) else pure (ForInStep.yield r):Sem (ForInStep (List (Str×Addr)))))=pure cl:=by
  rw[e];exact q1
 simpa using q
theorem Zl0 {M:Model}{A:Around}{E:Value->Shared->Prop}{s:Shared}{scope:Scope}{globals:Addr}{cl:List (Str×Addr)}{qual:Str}{env:Env}{Q:Env->Shared->Prop}(hQ:∀ h',h'.Ns s.heap.objs.size (λ_=>none)->(∀ b o,s.heap.get? b=some o->h'.get? b=some o)->
   (∀ x c,(cellsFrom (s.heap.objs.size+1) scope.names cl).lookup x=some c->h'.IsCell c none\/cl.lookup x=some c)->
   Q { scope,locals:=s.heap.objs.size,globals,cells:=cellsFrom (s.heap.objs.size+1) scope.names cl,qual,func:=none,code:=env.code,frame:=env.frame,builtins:=env.builtins } { s with heap:=h' }):
  wpAny M A (newFunctionEnv scope globals cl [] qual none .none (some env)) Q E s:=by
 simp only[newFunctionEnv,Option.isSome_some,Jb9];refine Jag (wpAny_alloc ?_);refine Jag (wpAny_layCells _ (λname kind cells=>by cases hkc:kind == NameKind.cell <;> simp[hkc]) _ _ _ _ ?_);have hsz:(s.heap.push { cls:=.type "dict",data:=.dict #[] }).objs.size=s.heap.objs.size+1:=Jbv ..;have q:=hQ (pushCells (s.heap.push { cls:=.type "dict",data:=.dict #[] }) scope.names) ((Heap.Ns.new s.heap (.type "dict")).keeps (pushCells_keeps _ _)) (λb o e=>pushCells_keeps _ _ b o (Jak _ e))
  (λx c e=>Zni scope.names (s.heap.push { cls:=.type "dict",data:=.dict #[] }) cl (by rw[hsz];exact e))
 show wpAny _ _ _ _ _ _;rw[show ({ s with heap:=s.heap.push { cls:=.type "dict",data:=.dict #[] } }:Shared).heap.objs.size=s.heap.objs.size+1 from hsz];exact Jag (Jaw (Jaw q))
theorem Zh1 {env:Env}{x:Str}:∀ {names:List (Str×NameKind)},names.lookup x=some .free->
  (names.map λ(n,k)=>if (k == NameKind.free && env.scope.kind == .function && env.kindOf n == some .cell) then (n,NameKind.cell) else (n,k)).lookup x=some .cell \/
  (names.map λ(n,k)=>if (k == NameKind.free && env.scope.kind == .function && env.kindOf n == some .cell) then (n,NameKind.cell) else (n,k)).lookup x=some .free
 | [],h=>by simp at h
 | (n,k)::r,h=>by
  have ih:=@Zh1 env x r;show List.lookup x ((if (k == NameKind.free && env.scope.kind == .function && env.kindOf n == some .cell)=true then (n,NameKind.cell) else (n,k))::_)=_\/List.lookup x ((if (k == NameKind.free && env.scope.kind == .function && env.kindOf n == some .cell)=true then (n,NameKind.cell) else (n,k))::_)=_;cases hx:x == n with
  | true=>
   simp only[Ja3,hx] at h;cases h;split <;> simp[Ja3,hx]
  | false=>
   simp only[Ja3,hx] at h;split <;> (simp only[Ja3,hx];exact ih h)
theorem Zfb {env:Env}{x:Str}{kd:NameKind}:∀ {names:List (Str×NameKind)},
  (names.map λ(n,k)=>if (k == NameKind.free && env.scope.kind == .function && env.kindOf n == some .cell) then (n,NameKind.cell) else (n,k)).lookup x=some kd->
  names.lookup x=some kd\/names.lookup x=some .free
 | [],h=>by simp at h
 | (n,k)::r,h=>by
  have ih:=@Zfb env x kd r;have h':List.lookup x ((if (k == NameKind.free && env.scope.kind == .function && env.kindOf n == some .cell)=true then (n,NameKind.cell) else (n,k))::(r.map λ(n,k)=>if (k == NameKind.free && env.scope.kind == .function && env.kindOf n == some .cell) then (n,NameKind.cell) else (n,k)))=some kd:=h;cases hx:x == n with
  | true=>
   by_cases hc:(k == NameKind.free && env.scope.kind == .function && env.kindOf n == some .cell)=true
   .have hk:k=.free:=by
     have:=(Jbm _ _ ▸ (Jbm _ _ ▸ hc).1).1;exact Jbu.mp this
    subst hk;exact .inr (by simp[Ja3,hx])
   .rw [if_neg hc] at h';simp only[Ja3,hx] at h';cases h';exact .inl (by simp[Ja3,hx])
  | false=>
   have h2:List.lookup x (r.map λ(n,k)=>if (k == NameKind.free && env.scope.kind == .function && env.kindOf n == some .cell) then (n,NameKind.cell) else (n,k))=some kd:=by
    split at h' <;> simpa only [Ja3,hx] using h'
   rcases ih h2 with z|z
   .exact .inl (by simp only[Ja3,hx];exact z)
   .exact .inr (by simp only[Ja3,hx];exact z)
def Zlc (X:Cx)(N:List Str)(scope:Scope)(cl:List (Str×Addr))(s:Shared)(H:Hp)(fp:List Addr):Cx where
 prog:=X.prog
 w:=X.w
 K:=X.K
 mg:=X.mg
 base:=X.base
 A:=X.A
 N:=N
 s₀:=s
 H₀:=H
 env:={ scope:=relabel scope X.env,locals:=s.heap.objs.size,globals:=X.env.globals,cells:=cellsFrom (s.heap.objs.size+1) scope.names cl,qual:=X.env.qual,func:=none,code:=X.env.code,frame:=X.env.frame,builtins:=X.env.builtins }
 outer:=X.stack
 stack:=X.stack
 ex:=fp
 fn:=λx=>scope.names.lookup x == some .cell
 calm:=X.calm
 pn:=[]
 xe:=λ_ _=>False
structure BlScope (X:Cx)(scope:Scope)(own:List Str)(fr:List (Str×Nat)):Prop where
 kind:scope.kind=.function
 free:∀ y∈scope.names,y.2=.free->X.env.scope.names.lookup y.1=some .cell\/X.env.scope.names.lookup y.1=some .free
 loc:∀ y∈scope.names,y.2=.local->scope.names.lookup y.1=some .local
 look:∀ y∈scope.names,scope.names.lookup y.1=some y.2
 cap:∀ y∈fr,scope.names.lookup y.1=some .free/\X.N[y.2]?=some y.1
def Zha (k:Nat)(fr:List (Str×Nat))(σ:St):St:=List.replicate k none++fr.map λy=>(σ[y.2]?).getD none
def Zjt (own:List Str)(fr:List (Str×Nat)):List Str:=own++fr.map (·.1)
section
variable {X:Cx}{pins:List (Addr×Obj)}{σ:St}{H:Hp}{s:Shared}
theorem Zr2 {scope:Scope}{own:List Str}{fr:List (Str×Nat)}{cl:List (Str×Addr)}{fp:List Addr}{h':Heap}(I:Inv X pins σ H s)(B:BlScope X scope own fr)(hcl:∀ x c,cl.lookup x=some c->X.env.cells.lookup x=some c)(hcl2:∀ y∈scope.names,y.2=.free->∃ c,cl.lookup y.1=some c)(hfp:∀ b∈fp,Zpo X pins H b)(hfo:∀ b∈fp,∃ o,s.heap.get? b=some o)(hn:h'.Ns s.heap.objs.size (λ_=>none))(hk:∀ b o,s.heap.get? b=some o->h'.get? b=some o)(hc:∀ x c,(cellsFrom (s.heap.objs.size+1) scope.names cl).lookup x=some c->h'.IsCell c none\/cl.lookup x=some c):
  Inv (Zlc X (Zjt own fr) scope cl s H fp) [] (Zha own.length fr σ) H { s with heap:=h' }:=by
 have clt:∀ x c,cl.lookup x=some c->c<s.heap.objs.size:=λx c e=>by
  obtain⟨v,z⟩:=I.cell x c (hcl x c e);exact z.lt
 have ownC:∀ x c,(cellsFrom (s.heap.objs.size+1) scope.names cl).lookup x=some c->s.heap.objs.size+1<=c\/cl.lookup x=some c:=λx c e=>Zu9 _ _ _ e;have bsz:X.base.objs.size<=s.heap.objs.size:=Jbh I.ok.bsz I.sz;refine⟨⟨I.ok.mod,B.kind,I.ok.glob,I.ok.blt,Jaj _,?_,?_,?_,I.ok.hd,I.ok.frames,.inl rfl,?_,I.bs,bsz,?_,?_,I.stack,I.stkFree,I.ok.top⟩,rfl,I.bare,Un.kept hk,⟨_,hn,?_⟩,?_,I.hok.fresh (Jaj _),?_,?_,I.hok.kept hk,?_⟩
 .exact Zsr _ _ _ (λx c e=>Jek (clt x c e)) λx y c e1 e2=>I.ok.inj x y c (hcl x c e1) (hcl y c e2)
 .intro x hx;have hx:(relabel scope X.env).names.lookup x=some .cell\/(relabel scope X.env).names.lookup x=some .free:=hx;have q:scope.names.lookup x=some .cell\/scope.names.lookup x=some .free:=by
   rcases hx with z|z
   .exact Zfb z
   .exact (Zfb z).elim .inr .inr
  refine Jdf.mp (Jc0 scope.names _ _ ?_);rcases q with z|z
  .exact .inl z
  .obtain ⟨c,e⟩:=hcl2 _ (Jby z) rfl;exact .inr (by rw[e];rfl)
 .intro x c hf e;have hf:(scope.names.lookup x == some .cell)=true:=hf;exact Jch (Zsp _ _ _ (Jby (Jbu.mp hf)) e)
 .intro b hb;obtain⟨o,ho⟩:=hfo b hb;refine⟨Jbs (Jan ho),λx c e=>?_⟩;rcases ownC x c e with z|z
  .intro q;subst q;exact absurd (Jaq (Jan ho) (Jch z)) (Jb4 _)
  .exact (hfp b hb).2.2.2.2.1 x c (hcl x c z)
 .intro b o e hb;rcases (hfp b hb).2.2.2.1 with z|z
  .exact I.ok.noex b o e z
  .exact absurd (Jaq (Jan e) (Jbh I.ok.bsz z)) (Jb4 _)
 .intro b hb z;rcases Ja5.mp (I.stkSub b z) with q|q
  .exact (hfp b hb).2.1 q
  .exact (hfp b hb).2.2.1 q
 .intro i x v h1 h2 h3;have h1:(Zjt own fr)[i]?=some x:=h1;unfold Zjt at h1;unfold Zha at h2;by_cases hi:i<own.length
  .rw [Jar (by rw[Jav];exact hi),Jb6,if_pos hi] at h2;cases h2
  .have hi':own.length<=i:=Nat.le_of_not_lt hi;rw[Jas hi',Jad] at h1;rw[Jas (by rw[Jav];exact hi'),Jav,Jad] at h2;cases e:fr[i-own.length]? with
   | none=>rw[e] at h1;cases h1
   | some y=>
    rw[e] at h1 h2;have hy1:y.1=x:=Jbn h1;have hy2:(σ[y.2]?).getD none=some v:=Jbn h2;obtain⟨c1,c2⟩:=B.cap y (Jac e);rw[hy1] at c1 c2;have hs:σ[y.2]?=some (some v):=by
     cases e2:σ[y.2]? with
     | none=>rw[e2] at hy2;cases hy2
     | some o=>rw[e2] at hy2;cases o with
      | none=>cases hy2
      | some w=>cases hy2;rfl
    refine Zae I.loc λm hm hl=>?_;have hfree:=B.free _ (Jby c1) rfl;refine Zae (hl y.2 x v c2 hs (hfree.elim (λz=>.inr (.inl z)) λz=>.inr (.inr z))) λu r l=>?_;refine⟨u,r,?_⟩;obtain⟨k,c,e3,z⟩:(X.env.kindOf x=some .cell\/X.env.kindOf x=some .free)/\∃ c,X.env.cells.lookup x=some c/\s.heap.IsCell c (some u):=by
     rcases l with ⟨k,_⟩|q
     .have k:X.env.scope.names.lookup x=some .local:=k;rcases hfree with z|z <;> (rw[z] at k;cases k)
     .exact q
    obtain⟨d,hd⟩:=hcl2 _ (Jby c1) rfl;have hd':=hcl x d hd;rw[e3] at hd';cases hd';obtain⟨c',hc'⟩:∃ c',(cellsFrom (s.heap.objs.size+1) scope.names cl).lookup x=some c':=Jdf.mp (Jc0 scope.names _ _ (.inr (by rw[hd];rfl)));have hcc:c'=c:=by
     rcases ownC x c' hc' with q|q
     .-- an own cell of that name: it is free,so no
      exfalso;have:(x,NameKind.cell)∉scope.names:=λm=>by
       have:=B.look _ m;rw[c1] at this;cases this
      exact absurd hc' (by
       rw[Zsq this];intro z;rw[hd] at z;cases z;exact absurd (clt x _ hd) (Nat.not_lt.mpr (Jch q)))
     .rw [hd] at q;cases q;rfl
    subst hcc;refine .inr ⟨?_,c',hc',z.keeps hk⟩;exact Zh1 c1
 .intro x c e;rcases hc x c e with z|z
  .exact ⟨_,z⟩
  .obtain ⟨v,q⟩:=I.cell x c (hcl x c z);exact⟨v,q.keeps hk⟩
 .intro x c e;rcases ownC x c e with z|z
  .exact I.hok.fresh (Jch z)
  .exact I.freeC x c (hcl x c z)
 .intro p hp;exact absurd (show p∈([]:List (Addr×Obj)) from hp) (by simp)
 .show (Zha _ _ _).length=(Zjt _ _).length;unfold Zha Zjt;simp
end
def PTs (X:Cx)(ifs:List Expr)(t:TT):Prop:=
 ∀ (pins:List (Addr×Obj)) (s:Shared) (σ:St) (H:Hp) (Q:Bool->Hp->Prop),Inv X pins σ H s->t σ H Q->
  wpAny (model X.prog X.w) X.A (forIn ifs true λc r=>if r=true then do let ok <- isTrue c X.env (eval c X.env);pure (ForInStep.yield ok) else pure (ForInStep.yield r)) (TP X pins σ Q) X.xe s
def Ze0:TT:=λ_ H Q=>Q true H
theorem Zat {X:Cx}:PTs X [] Ze0:=λpins s σ H Q I h=>wpAny_tests_nil ⟨H,I,h⟩
theorem pts_one {X:Cx}{c:Expr}{t:TT}(hc:PT X c t):PTs X [c] t:=λpins s σ H Q I h=>wpAny_tests_one (hc pins s σ H Q I h)
section
variable {prog:Program}{w:World}{A:Around}{R:Result->Shared->Prop}{s:Shared}
theorem Zl9 {elt target iter:Expr}{ifs:List Expr}{scope:Scope}{pos:Pos}{it acc:Value}{env:Env}(I:Nat->Shared->Prop)(turn:∀ n s,I n s->wpAny (model prog w) A (pyNext it) (λr s₁=>match r with
   | none=>R (.ok .next) s₁
   | some v=>wpAny (model prog w) A (letOwnedTupleGo target it v) (λ_ s₁=>wpAny (model prog w) A (assign target env v) (λ_ s₂=>
     wpAny (model prog w) A (forIn ifs true λc r=>if r=true then do let ok <- isTrue c env (eval c env);pure (ForInStep.yield ok) else pure (ForInStep.yield r)) (λok s₃=>
      if ok=true then wpAny (model prog w) A (eval elt env) (λx s₄=>
       wpAny (model prog w) A (call (.builtin "list.append") [acc,x]) (λ_ s₅=>∃ m,m<n/\I m s₅) (λ_ _=>False) s₄) (λ_ _=>False) s₃
      else ∃ m,m<n/\I m s₃) (λ_ _=>False) s₂) (λ_ _=>False) s₁) (λ_ _=>False) s₁) (λ_ _=>False) s)(n:Nat)(h:I n s):
  codeAny (model prog w) A (.compLoop (.ListComp elt [⟨target,iter,ifs,0⟩] scope pos) 0 it acc env) R s:=by
 refine codeAny_loop rfl I (λn s hI=>?_) n h;show wpAny _ A ((compTurn (.ListComp elt [⟨target,iter,ifs,0⟩] scope pos) 0 it acc env).onRaise (λx=>do noteFrame x env;theTreesLotGoes x)) _ _ s;refine wpAny_noted ?_;rw[compTurn_list];refine Jag (Jep (Jag (Jcp (turn n s hI) (λr s₁ h₁=>?_) λ_ _ h'=>h'.elim)));cases r with
 | none=>exact Jaw h₁
 | some v=>
  refine Jag (Jcp h₁ (λ_ s₁' h₁'=>?_) λ_ _ h'=>h'.elim);refine Jag (Jcp h₁' (λ_ s₂ h₂=>Jag (Jcp h₂ (λok s₃ h₃=>?_) λ_ _ h'=>h'.elim)) λ_ _ h'=>h'.elim);cases ok with
  | false=>exact Jaw ⟨rfl,h₃⟩
  | true=>
   exact Jag (Jag (Jcp h₃ (λx s₄ h₄=>Jag (Jcp h₄ (λ_ s₅ h₅=>Jaw (Jaw ⟨rfl,h₅⟩)) λ_ _ h'=>h'.elim)) λ_ _ h'=>h'.elim))
end
def Zbw (g:TG)(tt:TT)(te:TE)(J:It)(D:Addr)(σ0:St)(H1:Hp)(Q:VK):Prop:=
 ∃ W:Nat->Nat->St->Hp->Prop,(∃ m,W 0 m σ0 (upd H1 D (.lst [])))/\∀ i m σ' H2,W i m σ' H2->
  (J.stop i H2/\Q (.ref D) H2)\/(J.go i H2/\∀ x H3,J.yld i H2 x H3->g x σ' H3 λσ4 H4=>tt σ4 H4 λb H5=>
   if b=true then te σ4 H5 λy H6=>∃ vs,H6 D=some (.lst vs)/\vs.length<sizeLine/\∃ m',m'<m/\W (i+1) m' σ4 (upd H6 D (.lst (vs++[y])))
   else ∃ m',m'<m/\W (i+1) m' σ4 H5)
def tComp (k:Nat)(fr:List (Str×Nat))(wi:TI)(g:TG)(tt:TT)(te:TE):TE:=λσ H Q=>wi σ H λJ H1=>∀ D,H1 D=none->Zbw g tt te J D (Zha k fr σ) H1 Q
section
variable {X:Cx}{tg iter elt:Expr}{ifs:List Expr}{scope:Scope}{pos:Pos}{own:List Str}{fr:List (Str×Nat)}{wi:TI}{g:TG}{tt:TT}{te:TE}
theorem Zot {pins:List (Addr×Obj)}{s2:Shared}{σ:St}{H2:Hp}{it:Addr}{fp:List Addr}{tn:Nat->Heap->Prop}{J:It}{Q:VK}{cl:List (Str×Addr)}{RR:Value->Addr->Result->Shared->Prop}{E:Value->Shared->Prop}(hc:X.calm=true)(B:BlScope X scope own fr)(hb:∀ cl s H fp,PG (Zlc X (Zjt own fr) scope cl s H fp) tg g/\PTs (Zlc X (Zjt own fr) scope cl s H fp) ifs tt/\PE (Zlc X (Zjt own fr) scope cl s H fp) elt te)(hcl:∀ x c,cl.lookup x=some c->X.env.cells.lookup x=some c)(hcl2:∀ y∈scope.names,y.2=.free->∃ c,cl.lookup y.1=some c)(I2:Inv X pins σ H2 s2)(T:Turn X.prog X.w X.K tg J fp it tn)(st2:tn 0 s2.heap)(f2:∀ b∈fp,Zpo X pins H2 b)(q:∀ D,H2 D=none->Zbw g tt te J D (Zha own.length fr σ) H2 Q)(hRR:∀ D C s' H',Inv X pins σ H' s'->Q (.ref D) H'->(∃ m,s'.heap.Ns C m)->C≠X.env.locals->(∀ x c,X.env.cells.lookup x=some c->c≠C)->(∀ p∈X.pn++pins,p.1≠C)->X.s₀.heap.objs.size<=C->H' C=none->RR (.ref D) C (.ok .next) s'):
  wpAny (model X.prog X.w) X.A (newList []) (λacc s₃=>wpAny (model X.prog X.w) X.A (newFunctionEnv scope X.env.globals cl [] X.env.qual none .none (some X.env)) (λcenv s₄=>
   codeAny (model X.prog X.w) X.A (.compStart (.ListComp elt [⟨tg,iter,ifs,0⟩] scope pos) 0 (.ref it) acc { cenv with scope:=relabel scope X.env }) (RR acc cenv.locals) s₄) E s₃) E s2:=by
 refine Jcq ?_;have fr0:H2 s2.heap.objs.size=none:=I2.hok.fresh (Jaj _);have I3:=I2.lnew (its:=[]) (ys:=[]) (t':=s2.toks) .nil (Jck _);generalize hs3:({ s2 with heap:=s2.heap.push { cls:=.type "list",data:=.seq ([]:List Value).toArray } }:Shared)=s3 at *;have k23:∀ b o,s2.heap.get? b=some o->s3.heap.get? b=some o:=λb o e=>by rw[<- hs3];exact Jak _ e
 have sz3:s3.heap.objs.size=s2.heap.objs.size+1:=by rw[<- hs3];exact Jbv ..
 have I3':Inv X pins σ (upd H2 s2.heap.objs.size (.lst [])) s3:=I3;have fne:∀ b∈fp,b≠s2.heap.objs.size:=λb hb z=>by
  refine Zae (T.obj 0 _ st2 b hb) λo ho _=>?_;exact absurd (Jan ho) (by rw[z];exact Jb4 _)
 have f3:∀ b∈fp,Zpo X pins (upd H2 s2.heap.objs.size (.lst [])) b:=λb hb=>⟨by rw[Zal (fne b hb)];exact (f2 b hb).1,(f2 b hb).2⟩
 have st3:tn 0 s3.heap:=T.keep 0 _ _ st2 λb _ o e=>k23 b o e;have hfo:∀ b∈fp,∃ o,s3.heap.get? b=some o:=λb hb=>let ⟨o,ho,_⟩:=T.obj 0 _ st3 b hb;⟨o,ho⟩;refine Zl0 λh' hn hk hce=>?_;have I4:=Zr2 (own:=own) I3' B hcl hcl2 f3 hfo hn hk hce;refine Zba (hb cl s3 (upd H2 s2.heap.objs.size (.lst [])) fp) λhg ht he=>?_;have st4:tn 0 h':=T.keep 0 _ _ st3 λb _ o e=>hk b o e;have stat:∀ {H':Hp},(∀ b∈fp,H' b=none)->∀ b∈fp,Zpo (Zlc X (Zjt own fr) scope cl s3 (upd H2 s2.heap.objs.size (.lst [])) fp) [] H' b:=λ{H'} hnn b hb=>
  ⟨hnn b hb,(I4.ok.exf b hb).1,I4.ok.exfs b hb,.inl hb,(I4.ok.exf b hb).2,λp hp=>absurd (show p∈([]:List (Addr×Obj)) from hp) (by simp)⟩
 refine Zae (q s2.heap.objs.size fr0) λW e92 turn=>?_;obtain⟨m0,w0⟩:=e92;have loop:codeAny (model X.prog X.w) X.A (.compLoop (.ListComp elt [⟨tg,iter,ifs,0⟩] scope pos) 0 (.ref it) (.ref s2.heap.objs.size) (Zlc X (Zjt own fr) scope cl s3 (upd H2 s2.heap.objs.size (.lst [])) fp).env)
   (RR (.ref s2.heap.objs.size) s3.heap.objs.size) { s3 with heap:=h' }:=by
  refine Zl9 (λn s'=>∃ i σ' H',Inv (Zlc X (Zjt own fr) scope cl s3 (upd H2 s2.heap.objs.size (.lst [])) fp) [] σ' H' s'/\tn i s'.heap/\(∀ b∈fp,H' b=none)/\W i n σ' H') ?_ m0
   ⟨0,_,_,I4,st4,λb hb=>(f3 b hb).1,w0⟩
  intro n s5 e91;refine Zcx e91 λi σ5 H5 I5 st5 fr5 w5=>?_;clear e91;rcases turn i n σ5 H5 w5 with ⟨stop,qn⟩|⟨go,step⟩
  .refine thn (T.done (Zlc X (Zjt own fr) scope cl s3 (upd H2 s2.heap.objs.size (.lst [])) fp) rfl rfl rfl hc i [] s5 σ5 H5 _ I5 (stat fr5) st5 stop) λr s6 ⟨hr,I6⟩=>?_;subst hr;have I7:Inv X pins σ H5 s6:=I3'.call' (ch:=fp) I6.os I6.base I6.hok I6.bare λb hb=>⟨(f3 b hb).2.2.2.1,(f3 b hb).2.1,(f3 b hb).2.2.2.2.1,(f3 b hb).2.2.2.2.2⟩
   refine Zae I6.loc λm6 hn6 _=>?_;refine hRR _ _ s6 H5 I7 qn ⟨m6,hn6⟩ (Nat.ne_of_gt I3'.lt) (λx c e=>?_) (λp hp=>?_) I3'.sz I6.free
   .obtain ⟨v,z⟩:=I3'.cell x c e;exact Jbs z.lt
   .exact Jbs (Jan (I3'.pin p hp).1)
  .refine thn (T.item (Zlc X (Zjt own fr) scope cl s3 (upd H2 s2.heap.objs.size (.lst [])) fp) rfl rfl rfl hc i [] s5 σ5 H5 _ I5 (stat fr5) st5 go) λr s6 ⟨u,hr,h6⟩=>?_;subst hr;refine thn h6 λ_ s7 ⟨x,H7,I7,r7,y7,st7,fr7⟩=>?_;have I7':=I7.pinned (stat fr7) (T.obj _ _ st7);refine thn (hg _ s7 σ5 H7 x u _ I7' r7 (step x H7 y7)) λ_ s8 ⟨σ8,H8,I8,q8⟩=>?_;refine thn (ht _ s8 σ8 H8 _ I8 q8) λb s9 ⟨H9,I9,q9⟩=>?_;have again:∀ {sA:Shared} {σA:St} {HA:Hp} {m':Nat},Inv (Zlc X (Zjt own fr) scope cl s3 (upd H2 s2.heap.objs.size (.lst [])) fp) ([]++Zlw fp s7.heap) σA HA sA->m'<n->W (i+1) m' σA HA->
     ∃ m,m<n/\∃ i σ' H',Inv (Zlc X (Zjt own fr) scope cl s3 (upd H2 s2.heap.objs.size (.lst [])) fp) [] σ' H' sA/\tn i sA.heap/\(∀ b∈fp,H' b=none)/\W i m σ' H':=λ{sA σA HA m'} IA hm wA=>by
    refine⟨m',hm,i+1,σA,HA,IA.unpinned,T.keep _ _ _ st7 λb hb o e=>(IA.pin (b,o) (Jbi _ (Jbi _ (Zfl hb e)))).1,λb hb=>?_,wA⟩;refine Zae (T.obj _ _ st7 b hb) λo e d=>?_;exact (IA.pin (b,o) (Jbi _ (Jbi _ (Zfl hb e)))).2.1
   cases b with
   | false=>
    refine Zae q9 λm' hm w9=>?_;clear q9;exact again I9 hm w9
   | true=>
    have q9:te σ8 H9 _:=q9;show wpAny _ _ _ _ _ _;refine thn (he _ s9 σ8 H9 _ I9 q9) λy sA ⟨vy,HA,IA,rA,vs,hvs,hlen,m',hm,wA⟩=>?_;refine thn (Zc4 (X:=Zlc X (Zjt own fr) scope cl s3 (upd H2 s2.heap.objs.size (.lst [])) fp) _ sA σ8 HA (.ref s2.heap.objs.size) [vy] (.ref s2.heap.objs.size) [y] (λ_ HB=>W (i+1) m' σ8 HB) IA rfl (.cons rA .nil) ⟨_,vs,vy,rfl,rfl,hvs,hlen,wA⟩) λ_ sB ⟨_,HB,IB,_,wB⟩=>?_;exact again IB hm wB
 exact codeAny_compStart_list loop (T.self _ 0 _ _ _ st4 loop)
theorem SameBut.get {a:Addr}{h h':Heap}(x:Heap.SameBut a h h'):∀ b o,b≠a->h.get? b=some o->h'.get? b=some o:=λb o n e=>(x.2 b n).trans e
theorem Za0 (hc:X.calm=true)(B:BlScope X scope own fr)(hi:PI X tg iter wi)(hb:∀ cl s H fp,PG (Zlc X (Zjt own fr) scope cl s H fp) tg g/\PTs (Zlc X (Zjt own fr) scope cl s H fp) ifs tt/\PE (Zlc X (Zjt own fr) scope cl s H fp) elt te)(hs:∀ x,foldedSetIterable iter X.env x=pure x:=by intro _;rfl):
  PE X (.ListComp elt [⟨tg,iter,ifs,0⟩] scope pos) (tComp own.length fr wi g tt te):=by
 intro pins s σ H Q I h;refine Zas (Zsm (scope:=scope) (env:=X.env) λy hy hf=>I.ok.has y.1 (B.free y hy hf)) λcl hclos hcl hcl2=>?_;rw[eval_ListComp];refine wpAny_comprehension_free (use:=none) rfl hs hclos B.kind B.loc (thn (hi pins s σ H _ I h) λv s1 h1=>thn h1 λitv s2 h2=>?_);refine Zhb h2 λit fp tn J H2 e I2 T e93=>?_;clear h2;refine Zba e93 λst2 f2 q=>?_;clear e93;subst e;refine Zot (RR:=λacc C=>compPost (model X.prog X.w) X.A X.xe none (EP X pins σ Q) acc C) (Q:=Q) hc B hb hcl hcl2 I2 T st2 f2 q ?_;intro D C s' H' I' hq hn n1 n2 n3 n4 n5;obtain⟨m,hn⟩:=hn;refine⟨m,hn,λh' hs'=>⟨.ref D,H',I'.turned (it:=C) (t':=s'.toks) (λb o hb e=>SameBut.get hs' b o hb e) n5 (Jen (Jen n1)) (.inr n4) n2 n3,rfl,hq⟩⟩
theorem Zfc {i:Nat}{x:Str}{pos' spos:Pos}(hc:X.calm=true)(B:BlScope X scope own fr)(hi:PI X tg iter wi)(hb:∀ cl s H fp,PG (Zlc X (Zjt own fr) scope cl s H fp) tg g/\PTs (Zlc X (Zjt own fr) scope cl s H fp) ifs tt/\PE (Zlc X (Zjt own fr) scope cl s H fp) elt te)(hN:X.N.Nodup)(hix:X.N[i]?=some x)(hx:X.env.scope.names.lookup x=some .local)(hsw:swapsWith (.ListComp elt [⟨tg,iter,ifs,0⟩] scope pos) (some (.Name x pos')) spos.line X.env=pure true)(hs:∀ x,foldedSetIterable iter X.env x=pure x:=by intro _;rfl):
  PS X (.Assign [.Name x pos'] (.ListComp elt [⟨tg,iter,ifs,0⟩] scope pos) spos) (tAsg (tComp own.length fr wi g tt te) (Zbp i)):=by
 intro pins s σ H D I h;refine Zas (Zsm (scope:=scope) (env:=X.env) λy hy hf=>I.ok.has y.1 (B.free y hy hf)) λcl hclos hcl hcl2=>?_;rw[exec_Assign_Name_used _ _ _ _ hsw];refine Jag (Jep (Jag ?_));show wpAny _ _ (do let _ <- comprehension (.ListComp elt [⟨tg,iter,ifs,0⟩] scope pos) scope X.env _ (newList []) false (eval iter X.env) (some (assign (.Name x pos') X.env))) _ _ s;refine Jag (Jcp (wpAny_comprehension_free (use:=some (assign (.Name x pos') X.env)) (Q:=λ_ s'=>SP X pins D .next s') rfl hs hclos B.kind B.loc (thn (hi pins s σ H _ I h) λv s1 h1=>thn h1 λitv s2 h2=>?_))
  (λ_ s' hq=>Jaw (Jaw hq)) λ_ _ e=>e)
 refine Zhb h2 λit fp tn J H2 e I2 T e94=>?_;clear h2;refine Zba e94 λst2 f2 q=>?_;clear e94;subst e;refine Zot (RR:=λacc C=>compPost (model X.prog X.w) X.A X.xe (some (assign (.Name x pos') X.env)) (λ_ s'=>SP X pins D .next s') acc C) (Q:=λv H'=>Zbp i v σ H' D.nx) hc B hb hcl hcl2 I2 T st2 f2 q ?_;intro DD C s' H' I' hq hn n1 n2 n3 n4 n5;obtain⟨m,hn⟩:=hn;show wpAny _ _ (assign (.Name x pos') X.env (.ref DD)) _ _ s';refine wpAny_assign_Name (Zln I' hN hix (.inl hx) (v:=.ref DD) rfl (λs3 I3 ⟨a,hsa,ha⟩=>?_) (.inr hx));have hCa:C≠a:=by
  rcases ha with z|z
  .rw [z];exact n1
  .exact (n2 x a z).symm
 refine⟨m,hn.sameBut hsa hCa,λh' hs'=>⟨σ.set i (some (.ref DD)),H',I3.turned (it:=C) (t':=s3.toks) (λb o hb e=>SameBut.get hs' b o hb e) n5 n1 (.inr n4) n2 n3,hq⟩⟩
end
section
variable {X:Cx}
theorem Zbn:OpR X (binaryOp .Mult) (rI IntMulOk λi j=>.int (i*j)):=
 opI λi j t u s Q E c h=>PyProof.Rows.mul_int h c
def cV:V->Option Value
 | .ty n=>some (.type n)
 | .ref a=>some (.ref a)
 | _=>none
theorem Zax:Zgi X (.builtin "isinstance") (λxs H Q=>∃ x y c t b,xs=[x,y]/\cV y=some c/\TyOf X.K H x t/\PySem.W.kitOne X.K t c=some b/\Q (.bl b) H):=by
 intro pins s σ H xs us Q I r h;refine Zhb h λx y c t b e93 hc ty e94=>?_;clear h;obtain rfl:=e93;obtain⟨e,q⟩:=e94;refine Zca (vals2 r) λu v e95 rx ry=>?_;obtain rfl:=e95;have hv:v=c:=by
  cases y <;> first|(cases hc;done)|(cases hc;cases ry;rfl)
 subst hv;exact Zry I rx ty e λtk=>⟨.bl b,H,I.tok _,rfl,q⟩
theorem Zeh (bs:List Bool):(List.range bs.length).all (λi=>(bs[i]?).getD true)=bs.all id:=by
 rw[Jcb,Jbg,Jbg];constructor
 .intro h b hb;obtain⟨i,hi,rfl⟩:=Ja4.mp hb;have:=h i (Ja6.mpr hi);rw[Jaa hi] at this;exact this
 .intro h i hi;have hi:=Ja6.mp hi;rw[Jaa hi];exact h _ (Jat hi)
theorem Znl {A:Around}{prog:Program}{w:World}{bs:List Bool}{its:List Value}(r:Vals (bs.map V.bl) its):TruthOf prog w A (λi v=>its.toArray[i]?=some v) (λi=>(bs[i]?).getD true):=by
 intro i v s Q E hP hQ;have hP:its[i]?=some v:=by simpa using hP
 have hl:=r.length;rw[Jab] at hl;have hi:i<bs.length:=by rw[hl];exact (Jaf.mp hP).1
 obtain⟨u,hu,rv⟩:=r.get (i:=i) (x:=.bl bs[i]) (by rw[Jad,Jaa hi];rfl);rw[hP] at hu;cases hu;cases rv;have hQ:Q ((bs[i]?).getD true) s:=hQ;rw[Jaa hi] at hQ;exact Jbo hQ
theorem Zbu (hc:X.calm=true):Zgi X (.builtin "all") (λxs H Q=>∃ (p:Addr) (bs:List Bool),xs=[.ref p]/\SqL X.K H p (bs.map V.bl)/\Q (.bl (bs.all id)) H):=by
 intro pins s σ H xs us Q I r h;refine Zca h λp bs e96 hq q=>?_;clear h;obtain rfl:=e96;refine Zae (Zll r) λu e97 rx=>?_;obtain rfl:=e97;cases rx;refine Zas (I.list hq) λits rv pl hz=>?_;have hl:=rv.length;rw[Jab] at hl;refine call_all_walk (Jcs pl.isList ?_);have hne:p≠s.heap.objs.size:=λe=>by
  refine Zbs pl λo n ho _=>?_;clear pl;exact absurd (Jan ho) (by rw[e];exact Jb4 _)
 refine xI7_1 s.heap.objs.size _ _ _ _ _ (λi=>(bs[i]?).getD true) ⟨rfl,Walks.list (A:=X.A.in1) (I.ok.hd hc) _ p hne its.toArray,⟨⟨_,Jay _ rfl,rfl,rfl⟩,pl.isList.at λo e=>Jak _ e⟩,Znl rv,λh' tk kp=>?_⟩;have e:(List.range its.toArray.size).all (λi=>(bs[i]?).getD true)=bs.all id:=by
  rw[Jal,<- hl];exact Zeh bs
 rw[e];have f:=I.fpOk (H':=H) (Jaj s.heap.objs.size) (I.hok.fresh (Jaj _));exact Zaq (.bl _) H ⟨(I.kept (h':=s.heap.push { cls:=.type "list_iterator",data:=.fields #[.ref p,.int 0 0] }) (t':=s.toks) λb o e=>Jak _ e).turned (it:=s.heap.objs.size) (t':=tk) (λb o hb e=>kp b o (by simpa using hb) e) f.1 f.2.1 f.2.2.2.1 f.2.2.2.2.1 f.2.2.2.2.2,rfl,q⟩
end
inductive EqD (K:Frag) (H:Hp):Nat->V->V->Bool->Prop where
 | flat {n:Nat} {x y:V} (hx:Zpj x=true) (hy:Zpj y=true):EqD K H n x y (eqV x y)
 | same {n:Nat} {a:Addr}:EqD K H n (.ref a) (.ref a) true
 | list {n:Nat} {a c:Addr} {xs ys:List V} {bs:List Bool} (ne:a≠c) (ha:SqL K H a xs) (hc:SqL K H c ys) (hl:xs.length=ys.length) (hb:bs.length=xs.length)
   (he:∀ (j:Nat) x y b,xs[j]?=some x->ys[j]?=some y->bs[j]?=some b->EqD K H n x y b):EqD K H (n+1) (.ref a) (.ref c) (bs.all id)
 | listL {n:Nat} {a c:Addr} {xs ys:List V} (ne:a≠c) (ha:SqL K H a xs) (hc:SqL K H c ys) (hl:xs.length≠ys.length):EqD K H (n+1) (.ref a) (.ref c) false
 | tuple {n:Nat} {a c:Addr} {xs ys:List V} {bs:List Bool} (ne:a≠c) (ha:SqT K H a xs) (hc:SqT K H c ys) (hl:xs.length=ys.length) (hb:bs.length=xs.length)
   (he:∀ (j:Nat) x y b,xs[j]?=some x->ys[j]?=some y->bs[j]?=some b->EqD K H n x y b):EqD K H (n+1) (.ref a) (.ref c) (bs.all id)
def Zer (K:Frag)(H:Hp)(n:Nat)(xs ys:List V)(bs:List Bool):Prop:=
 xs.length=ys.length/\bs.length=xs.length/\∀ (j:Nat) x y b,xs[j]?=some x->ys[j]?=some y->bs[j]?=some b->EqD K H n x y b
section
variable {X:Cx}{pins:List (Addr×Obj)}{σ:St}{H:Hp}{s:Shared}
theorem Zgw {A:Around}{xs ys:List V}{us vs:List Value}{bs:List Bool}(rx:Vals xs us)(ry:Vals ys vs)(hl:xs.length=ys.length)(hb:bs.length=xs.length)(ih:∀ (j:Nat) x y b,xs[j]?=some x->ys[j]?=some y->bs[j]?=some b->∀ u v,RelV x u->RelV y v->SeqAt.EqAt A s u v b):
  ∀ j (h1:j<us.toArray.size) (h2:j<vs.toArray.size),SeqAt.EqAt A s us.toArray[j] vs.toArray[j] ((bs[j]?).getD true):=by
 intro j h1 h2;have e1:=rx.length;have e2:=ry.length;have h1':j<us.length:=by simpa using h1
 have h2':j<vs.length:=by simpa using h2
 have g1:xs[j]?=some (xs[j]'(by omega)):=Jaa _;have g2:ys[j]?=some (ys[j]'(by omega)):=Jaa _;have g3:bs[j]?=some (bs[j]'(by omega)):=Jaa _;refine Zae (rx.get g1) λu hu ru=>?_;refine Zae (ry.get g2) λv hv rv=>?_;have eu:us.toArray[j]=u:=by
  rw[Jaa h1'] at hu;simpa using hu
 have ev:vs.toArray[j]=v:=by
  rw[Jaa h2'] at hv;simpa using hv
 rw[eu,ev,g3];exact ih j _ _ _ g1 g2 g3 u v ru rv
theorem EqD.at {n:Nat}{x y:V}{b:Bool}(I:Inv X pins σ H s)(e:EqD X.K H n x y b):∀ {A:Around} {u v:Value},A.units+n<cLine->RelV x u->RelV y v->SeqAt.EqAt A s u v b:=by
 induction e with
 | flat hx hy=>intro A u v _ ru rv;exact eqAt_V ru rv hx hy
 | same=>intro A u v _ ru rv;cases ru;cases rv;exact SeqAt.EqAt.same _
 | @list n a c xs ys bs ne ha hc hl hb he ih=>
  intro A u v hA ru rv;cases ru;cases rv;refine Zas (I.list ha) λits r1 p1 _=>?_;refine Zas (I.list hc) λits' r2 p2 _=>?_;have e1:=r1.length;have e2:=r2.length;have q:=SeqAt.RcAt.lists (e:=λj=>(bs[j]?).getD true) p1.isList p2.isList (by simp;omega) ∅ (Zgw (A:=A.in1) r1 r2 hl hb λj x y b h1 h2 h3 u v ru rv=>ih j x y b h1 h2 h3 (show A.units+1+n<cLine by omega) ru rv);rw[show its.toArray.size=bs.length by simp;omega,Zeh] at q;exact Jee ne q
 | @listL n a c xs ys ne ha hc hl=>
  intro A u v hA ru rv;cases ru;cases rv;refine Zas (I.list ha) λits r1 p1 _=>?_;refine Zas (I.list hc) λits' r2 p2 _=>?_;have e1:=r1.length;have e2:=r2.length;exact Jee ne (SeqAt.RcAt.lists_lengths p1.isList p2.isList (by simp;omega) ∅)
 | @tuple n a c xs ys bs ne ha hc hl hb he ih=>
  intro A u v hA ru rv;cases ru;cases rv;refine Zas (I.tuple ha) λits r1 p1 _=>?_;refine Zas (I.tuple hc) λits' r2 p2 _=>?_;have e1:=r1.length;have e2:=r2.length;have q:=SeqAt.RcAt.tuples (e:=λj=>(bs[j]?).getD true) p1 p2 ∅ (Zgw (A:=A.in1) r1 r2 hl hb λj x y b h1 h2 h3 u v ru rv=>ih j x y b h1 h2 h3 (show A.units+1+n<cLine by omega) ru rv);rw[show min its.toArray.size its'.toArray.size=bs.length by simp;omega,Zeh,show (its.toArray.size == its'.toArray.size)=true by simp;omega,Jeq] at q;exact Jee ne q
def rEqL (K:Frag)(neg:Bool):R2:=λx y H Q=>∃ a c xs ys,x=.ref a/\y=.ref c/\SqL K H a xs/\SqL K H c ys /\
 ((xs.length≠ys.length/\Q (.bl neg) H)\/∃ bs,Zer K H 6 xs ys bs/\Q (.bl (if neg then !bs.all id else bs.all id)) H)
def rEqT (K:Frag)(neg:Bool):R2:=λx y H Q=>∃ a c xs ys bs,x=.ref a/\y=.ref c/\SqT K H a xs/\SqT K H c ys/\Zer K H 6 xs ys bs/\Q (.bl (if neg then !bs.all id else bs.all id)) H
theorem op_eqL (hu:X.A.units+8<cLine):OpR X (compareOp .Eq) (rEqL X.K false):=by
 intro pins s σ H x y v u Q I rx ry h;refine Zc6 h λa c xs ys e921 e922 ha e923=>?_;clear h;obtain rfl:=e921;obtain rfl:=e922;obtain⟨hc,h⟩:=e923;cases rx;cases ry;refine Zas (I.list ha) λits r1 p1 _=>?_;refine Zas (I.list hc) λits' r2 p2 _=>?_;have e1:=r1.length;have e2:=r2.length;rcases h with ⟨hne,q⟩|⟨bs,⟨hl,hb,he⟩,q⟩
 .exact SeqAt.eq_list_lengthsAt p1.isList p2.isList (by simp;omega) ∅ ⟨.bl false,H,I,rfl,q⟩
 .refine SeqAt.eq_listAt (e:=λj=>(bs[j]?).getD true) p1.isList p2.isList (by simp;omega) ∅ (Zgw (A:=X.A.in1) r1 r2 hl hb λj x y b h1 h2 h3 u v ru rv=>(he j x y b h1 h2 h3).at I (show X.A.units+1+6<cLine by omega) ru rv) ?_;rw[show its.toArray.size=bs.length by simp;omega,Zeh];exact Zaq (.bl (bs.all id)) H ⟨I,rfl,q⟩
theorem Zq7 (hu:X.A.units+8<cLine):OpR X (compareOp .NotEq) (rEqL X.K true):=by
 intro pins s σ H x y v u Q I rx ry h;refine Zc6 h λa c xs ys e924 e925 ha e926=>?_;clear h;obtain rfl:=e924;obtain rfl:=e925;obtain⟨hc,h⟩:=e926;cases rx;cases ry;refine Zas (I.list ha) λits r1 p1 _=>?_;refine Zas (I.list hc) λits' r2 p2 _=>?_;have e1:=r1.length;have e2:=r2.length;rcases h with ⟨hne,q⟩|⟨bs,⟨hl,hb,he⟩,q⟩
 .exact SeqAt.RcNeAt.lists_lengths p1.isList p2.isList (by simp;omega) ∅ _ _ _ _ ⟨.bl true,H,I,rfl,q⟩
 .refine SeqAt.RcNeAt.lists (e:=λj=>(bs[j]?).getD true) p1.isList p2.isList (by simp;omega) ∅ (Zgw (A:=X.A.in1) r1 r2 hl hb λj x y b h1 h2 h3 u v ru rv=>(he j x y b h1 h2 h3).at I (show X.A.units+1+6<cLine by omega) ru rv) _ _ _ _ ?_;rw[show its.toArray.size=bs.length by simp;omega,Zeh];exact Zaq (.bl (!bs.all id)) H ⟨I,rfl,q⟩
theorem op_eqT (hu:X.A.units+8<cLine):OpR X (compareOp .Eq) (rEqT X.K false):=by
 intro pins s σ H x y v u Q I rx ry h;refine Zhb h λa c xs ys bs e927 e928 ha e929=>?_;clear h;obtain rfl:=e927;obtain rfl:=e928;refine Zba e929 λhc e930 q=>?_;clear e929;obtain⟨hl,hb,he⟩:=e930;cases rx;cases ry;refine Zas (I.tuple ha) λits r1 p1 _=>?_;refine Zas (I.tuple hc) λits' r2 p2 _=>?_;have e1:=r1.length;have e2:=r2.length;refine SeqAt.eq_tupleAt (e:=λj=>(bs[j]?).getD true) p1 p2 ∅ (Zgw (A:=X.A.in1) r1 r2 hl hb λj x y b h1 h2 h3 u v ru rv=>(he j x y b h1 h2 h3).at I (show X.A.units+1+6<cLine by omega) ru rv) ?_;rw[show min its.toArray.size its'.toArray.size=bs.length by simp;omega,Zeh,show (its.toArray.size == its'.toArray.size)=true by simp;omega,Jeq];exact Zaq (.bl (bs.all id)) H ⟨I,rfl,q⟩
end
theorem Zl5 (K:Frag):PySem.W.kitOne K (.type "int") (.type "int")=some true:=by rfl
theorem Zkl (K:Frag):PySem.W.kitOne K (.type "int") (.type "bool")=some false:=by kernel_rfl
theorem Znd (K:Frag):PySem.W.kitOne K (.type "bool") (.type "bool")=some true:=by rfl
theorem Zpg (K:Frag):PySem.W.kitOne K (.type "bool") (.type "int")=some true:=by kernel_rfl
theorem Zdx (K:Frag):PySem.W.kitOne K (.type "tuple") (.type "tuple")=some true:=by rfl
theorem Zb9 (K:Frag):PySem.W.kitOne K (.type "list") (.type "list")=some true:=by rfl
structure Cal (P:Program)(w:World)(K:Frag)(mg:Str->Option Value)(base:Heap)(x:Str)(k:Nat)(sp:Sp):Prop where
 ex:∃ (f:Addr) (fd:FuncData) (ps:List Str),FnOk P w K mg base CX0 k f fd ps sp/\mg x=some (.ref f)/\PySem.W.keepIn K (.ref f)=true/\Binds K fd ps []
theorem pe_cal {X:Cx}{x:Str}{k:Nat}{sp:Sp}{e:Expr}{es:List Expr}{t:TA}{p pos:Pos}(C:Cal X.prog X.w X.K X.mg X.base x k sp)(hr:Room k X.A)(hg:Gl X x)(ha:PA X (e::es) t)(hdb:(x == ("__debug__" : Str))=false:=by decide)(he:starEach (e::es) X.env=(false,eval e X.env)::starEach es X.env:=by rfl)(hpl:(backTo pos (starEach es X.env)).any (·.1)=false:=by rfl):
  PE X (.Call (.Name x p) (e::es) [] pos) (Zo2 sp [] E0 t):=by
 refine Zcx C.ex λf fd ps F hm hk hb=>?_;exact pe_call F hr hg hm hk hb .nil Ztx ha hdb he hpl
structure CalM (P:Program)(w:World)(K:Frag)(mg:Str->Option Value)(base:Heap)(C:Addr)(m:Str)(k:Nat)(sp:Sp):Prop where
 ex:∃ (f:Addr) (fd:FuncData) (ps:List Str),FnOk P w K mg base CX0 k f fd ps sp/\Meth K C m f/\Binds K fd ps []
structure CalI (P:Program)(w:World)(K:Frag)(mg:Str->Option Value)(base:Heap)(x:Str)(C:Addr)(k:Nat)(sp:Sp):Prop where
 ex:∃ (f:Addr) (fd:FuncData) (ps:List Str),FnOk P w K mg base CX0 k f fd ps sp/\Mk K C f/\mg x=some (.ref C)/\Binds K fd ps []
theorem pe_new {X:Cx}{x:Str}{C:Addr}{k:Nat}{sp:Sp}{e:Expr}{es:List Expr}{t:TA}{p pos:Pos}(M:CalI X.prog X.w X.K X.mg X.base x C k sp)(hr:Room (k+1) X.A)(hg:Gl X x)(ha:PA X (e::es) t)(hdb:(x == ("__debug__" : Str))=false:=by decide)(he:starEach (e::es) X.env=(false,eval e X.env)::starEach es X.env:=by rfl)(hpl:(backTo pos (starEach es X.env)).any (·.1)=false:=by rfl):
  PE X (.Call (.Name x p) (e::es) [] pos) (Zp9 C sp [] E0 t):=by
 refine Zcx M.ex λf fd ps F hm hk hb=>?_;exact pe_make hm F hr hg hk hb .nil Ztx ha hdb he hpl
theorem pe_mth {X:Cx}{m:Str}{C:Addr}{k:Nat}{sp:Sp}{o e:Expr}{es:List Expr}{ta:TE}{t:TA}{apos pos:Pos}{pl:Sem Bool}(c:Cls X.K C)(M:CalM X.prog X.w X.K X.mg X.base C m k sp)(hr:Room k X.A)(ho:PE X o ta)(ha:PA X (e::es) t)(hst:starEach (e::es) X.env=(false,eval e X.env)::starEach es X.env:=by rfl)(hpl:(backTo pos (starEach es X.env)).any (·.1)=false:=by rfl)(ht:eval (.Call (.Attribute o m apos) (e::es) [] pos) X.env=(do
   let ov <- eval o X.env
   standAt apos.atName
   let (f,first) <- holding [ov] (getMethod ov m pl)
   callWith pos f first (backTo pos (starEach (e::es) X.env)) (backToKw pos (keywordEach [] X.env))):=by rfl):
  PE X (.Call (.Attribute o m apos) (e::es) [] pos) (Zp8 C m sp [] E0 ta t):=by
 refine Zmk M.ex λf fd ps F hm hb=>?_;exact Zq2 ho c hm F hr hb .nil Ztx ha hst hpl ht
def blOk (outer:List (Str×NameKind))(N:List Str)(scope:Scope)(fr:List (Str×Nat)):Bool:=
 scope.kind == .function && scope.names.all (λy=>y.2 != .free || outer.lookup y.1 == some .cell || outer.lookup y.1 == some .free) && scope.names.all (λy=>scope.names.lookup y.1 == some y.2) &&
 fr.all λy=>scope.names.lookup y.1 == some .free && N[y.2]? == some y.1
theorem Zbi {X:Cx}{scope:Scope}{own:List Str}{fr:List (Str×Nat)}(h:blOk X.env.scope.names X.N scope fr=true):BlScope X scope own fr:=by
 unfold blOk at h;simp only[Jbm,Jbg] at h;obtain⟨⟨⟨h1,h2⟩,h3⟩,h4⟩:=h;refine⟨?_,λy hy hf=>?_,λy hy hl=>?_,λy hy=>?_,λy hy=>?_⟩
 .cases e:scope.kind <;> rw[e] at h1 <;> first|rfl|(exact absurd h1 ⇑0)
 .have:=h2 y hy;rw[hf] at this;simp only[Jdi,Jbu] at this;rcases this with (q|q)|q
  .exact absurd q ⇑0
  .exact .inl q
  .exact .inr q
 .have:=h3 y hy;rw[hl] at this;exact Jbu.mp this
 .exact Jbu.mp (h3 y hy)
 .have:=h4 y hy;exact⟨Jbu.mp this.1,Jbu.mp this.2⟩
def Sh (k:Nat)(cap σ:St):Prop:=∃ o,o.length=k/\σ=o++cap
theorem Sh.mk1 {cap:St}{a:Option V}:Sh 1 cap (a::cap):=⟨[a],rfl,rfl⟩
theorem Sh.mk2 {cap:St}{a b:Option V}:Sh 2 cap (a::b::cap):=⟨[a,b],rfl,rfl⟩
theorem Sh.one {cap σ:St}(h:Sh 1 cap σ):∃ a,σ=a::cap:=by
 refine Zae h λo h1 e92=>?_;clear h;obtain rfl:=e92
 match o,h1 with
 | [a],_=>exact⟨a,rfl⟩
theorem Sh.two {cap σ:St}(h:Sh 2 cap σ):∃ a b,σ=a::b::cap:=by
 refine Zae h λo h1 e93=>?_;clear h;obtain rfl:=e93
 match o,h1 with
 | [a,b],_=>exact⟨a,b,rfl⟩
def Zbq (fr:List (Str×Nat))(σ:St):St:=fr.map λy=>(σ[y.2]?).getD none
def Wv (n k:Nat)(cap:St)(Pv:Nat->List V->Hp->Prop):Nat->Nat->St->Hp->Prop:=λi m σ H=>m=n-i/\i<=n/\Sh k cap σ/\∃ vs,Pv i vs H
def Lf (D:Addr)(n k:Nat)(cap:St)(Pv:Nat->List V->Hp->Prop)(i:Nat)(σ4:St)(y:V)(H6:Hp):Prop:=
 ∃ vs,H6 D=some (.lst vs)/\vs.length<sizeLine/\∃ m',m'<n-i/\Wv n k cap Pv (i+1) m' σ4 (upd H6 D (.lst (vs++[y])))
def Lf0 (n k:Nat)(cap:St)(Pv:Nat->List V->Hp->Prop)(i:Nat)(σ4:St)(H5:Hp):Prop:=∃ m',m'<n-i/\Wv n k cap Pv (i+1) m' σ4 H5
theorem Zk3 {D:Addr}{n k:Nat}{cap:St}{Pv:Nat->List V->Hp->Prop}{i:Nat}{σ4:St}{y:V}{H6:Hp}{vs ws:List V}(hi:i<n)(sh:Sh k cap σ4)(hD:H6 D=some (.lst vs))(hl:vs.length<sizeLine)(p:Pv (i+1) ws (upd H6 D (.lst (vs++[y])))):Lf D n k cap Pv i σ4 y H6:=⟨vs,hD,hl,n-(i+1),∅,rfl,hi,sh,ws,p⟩
theorem leaf0 {n k:Nat}{cap:St}{Pv:Nat->List V->Hp->Prop}{i:Nat}{σ4:St}{H5:Hp}{ws:List V}(hi:i<n)(sh:Sh k cap σ4)(p:Pv (i+1) ws H5):Lf0 n k cap Pv i σ4 H5:=⟨n-(i+1),∅,rfl,hi,sh,ws,p⟩
def Zfr (g:TG)(tt:TT)(te:TE)(D:Addr)(n k:Nat)(cap:St)(Pv:Nat->List V->Hp->Prop)(i:Nat)(x:V)(σ':St)(H:Hp):Prop:=
 g x σ' H λσ4 H4=>tt σ4 H4 λb H5=>if b=true then te σ4 H5 λy H6=>Lf D n k cap Pv i σ4 y H6 else Lf0 n k cap Pv i σ4 H5
section
variable {K:Frag}{a D:Addr}{xs:List V}{g:TG}{tt:TT}{te:TE}{k:Nat}{fr:List (Str×Nat)}{σ:St}{H1:Hp}{Q:VK}
theorem sh0:Sh k (Zbq fr σ) (Zha k fr σ):=⟨List.replicate k none,Jav,rfl⟩
theorem Zlf {J:It}{n:Nat}(it:Nat->V->Prop)(Pv:Nat->List V->Hp->Prop)(h0:Pv 0 [] (upd H1 D (.lst [])))(go:∀ i vs H,i<n->Pv i vs H->J.go i H/\∀ x H',J.yld i H x H'->H'=H/\it i x)(stop:∀ vs H,Pv n vs H->J.stop n H)(hs:∀ i x vs σ' H,i<n->it i x->Sh k (Zbq fr σ) σ'->Pv i vs H->Zfr g tt te D n k (Zbq fr σ) Pv i x σ' H)(hd:∀ vs H,Pv n vs H->Q (.ref D) H):Zbw g tt te J D (Zha k fr σ) H1 Q:=by
 refine⟨Wv n k (Zbq fr σ) Pv,⟨n,by simp,Jck _,sh0,[],h0⟩,?_⟩;intro i m σ' H2 e91;refine Zck e91 λe94 hi sh e95=>?_;clear e91;obtain rfl:=e94;obtain⟨vs,p⟩:=e95;by_cases hlt:i<n
 .obtain ⟨g1,g2⟩:=go i vs H2 hlt p;refine .inr ⟨g1,λx H3 y=>?_⟩;obtain⟨rfl,hx⟩:=g2 x H3 y;exact hs i x vs σ' _ hlt hx sh p
 .have e:i=n:=∅
  subst e;exact .inl ⟨stop vs H2 p,hd vs H2 p⟩
theorem Zd7 (Pv:Nat->List V->Hp->Prop)(h0:Pv 0 [] (upd H1 D (.lst [])))(hl:∀ i vs H,i<=xs.length->Pv i vs H->SqL K H a xs)(hs:∀ i x vs σ' H,i<xs.length->xs[i]?=some x->Sh k (Zbq fr σ) σ'->Pv i vs H->Zfr g tt te D xs.length k (Zbq fr σ) Pv i x σ' H)(hd:∀ vs H,Pv xs.length vs H->Q (.ref D) H):Zbw g tt te (Itl K a) D (Zha k fr σ) H1 Q:=
 Zlf (λi x=>xs[i]?=some x) Pv h0 (λi vs H hi p=>⟨⟨xs,xs[i],hl i vs H (Jbd hi) p,by simp[hi]⟩,λx H' y=>⟨y.1,y.2 xs (hl i vs H (Jbd hi) p)⟩⟩)
  (λvs H p=>⟨xs,hl _ vs H (Jaj _) p,Jaj _⟩) hs hd
theorem Zu8 (Pv:Nat->List V->Hp->Prop)(h0:Pv 0 [] (upd H1 D (.lst [])))(hl:∀ i vs H,i<=xs.length->Pv i vs H->SqT K H a xs)(hs:∀ i x vs σ' H,i<xs.length->xs[i]?=some x->Sh k (Zbq fr σ) σ'->Pv i vs H->Zfr g tt te D xs.length k (Zbq fr σ) Pv i x σ' H)(hd:∀ vs H,Pv xs.length vs H->Q (.ref D) H):Zbw g tt te (Itt K a) D (Zha k fr σ) H1 Q:=
 Zlf (λi x=>xs[i]?=some x) Pv h0 (λi vs H hi p=>⟨⟨xs,xs[i],hl i vs H (Jbd hi) p,by simp[hi]⟩,λx H' y=>⟨y.1,y.2 xs (hl i vs H (Jbd hi) p)⟩⟩)
  (λvs H p=>⟨xs,hl _ vs H (Jaj _) p,Jaj _⟩) hs hd
theorem Zie {lo:Int}{n:Nat}(Pv:Nat->List V->Hp->Prop)(h0:Pv 0 [] (upd H1 D (.lst [])))(hs:∀ i x vs σ' H,i<n->x=.int (lo+i)->Sh k (Zbq fr σ) σ'->Pv i vs H->Zfr g tt te D n k (Zbq fr σ) Pv i x σ' H)(hd:∀ vs H,Pv n vs H->Q (.ref D) H):Zbw g tt te (Itr lo n) D (Zha k fr σ) H1 Q:=
 Zlf (λi x=>x=.int (lo+i)) Pv h0 (λi vs H hi p=>⟨hi,λx H' y=>y⟩) (λvs H p=>Jaj _) hs hd
end
def Ext (l:Addr)(H H':Hp):Prop:=∀ b o,b≠l->H b=some o->H' b=some o
theorem Ext.refl (l:Addr)(H:Hp):Ext l H H:=λ_ _ _ e=>e
theorem Ext.trans {l:Addr}{H H1 H2:Hp}(a:Ext l H H1)(b:Ext l H1 H2):Ext l H H2:=λc o n e=>b c o n (a c o n e)
theorem Ext.new {l p:Addr}{H:Hp}{o:HO}(h:H p=none):Ext l H (upd H p o):=λc u _ e=>by rw[Zal (Zai e h)];exact e
theorem Ext.set {l:Addr}{H:Hp}{o:HO}:Ext l H (upd H l o):=λc u n e=>by rw[Zal n];exact e
theorem Same.ext {l:Addr}{H H':Hp}(s:Same H H'):Ext l H H':=λc o _ e=>s c o e
theorem Same.new {p:Addr}{H:Hp}{o:HO}(h:H p=none):Same H (upd H p o):=λc u e=>by rw[Zal (Zai e h)];exact e
theorem Same.upd {p:Addr}{H H':Hp}{o:HO}(s:Same H H')(h:H p=none):Same H (upd H' p o):=λc u e=>by rw[Zal (Zai e h)];exact s c u e
theorem Ext.upd {l p:Addr}{H H':Hp}{o:HO}(s:Ext l H H')(h:H p=none):Ext l H (upd H' p o):=λc u n e=>by rw[Zal (Zai e h)];exact s c u n e
theorem Ext.free {l p:Addr}{H H':Hp}(s:Ext l H H')(n:p≠l)(h:H' p=none):H p=none:=by
 cases e:H p with
 | none=>rfl
 | some o=>rw[s p o n e] at h;cases h
theorem cx_K {CX:CXT}{P:Program}{w:World}{K:Frag}{mg:Str->Option Value}{base:Heap}{N:List Str}{qual:Str}{scope:Scope}{f:Addr}{cd:Value}{A:Around}{outer:List Env}{s:Shared}{H:Hp}{E:XK}:(Zu5 CX P w K mg base N qual scope f cd A outer s H E).K=K:=rfl
theorem in_K {X:Cx}{N:List Str}{scope:Scope}{cl:List (Str×Addr)}{s:Shared}{H:Hp}{fp:List Addr}:(Zlc X N scope cl s H fp).K=X.K:=rfl
theorem Zvm {X:Cx}{E:Value->Shared->Prop}:(X.wish E).K=X.K:=rfl
theorem Zfk {X:Cx}{x:Str}{i:Int}{pos:Pos}(hg:Gl X x)(hm:∃ t,X.mg x=some (.int i t))(hd:(x == ("__debug__" : Str))=false:=by decide):PE X (.Name x pos) (tC (.int i)):=by
 obtain⟨t,e⟩:=hm;exact Zm2 hg e ⟨t,rfl⟩ hd
theorem Zde {α:Type}{xs:List α}{i:Int}{v:α}(h0:0<=i)(h:xs[i.toNat]?=some v):atI xs i=some v:=by
 have e:((i.toNat:Nat):Int)=i:=Jbj h0;rw[<- e];exact atI_nat h
def Zb2:Expr->Bool
 | .Starred _ _=>true
 | _=>false
theorem Za5 {e:Expr}{es:List Expr}{env:Env}(h:Zb2 e=false):starEach (e::es) env=(false,eval e env)::starEach es env:=by
 cases e <;> first|rfl|cases h
theorem Zfg {pos:Pos}{env:Env}:∀ {es:List Expr},es.all (λx=>!Zb2 x)=true->(backTo pos (starEach es env)).any (·.1)=false
 | [],_=>rfl
 | e::es,h=>by
  rw[Jdj,Jbm] at h;have h1:Zb2 e=false:=by simpa using h.1
  rw[Za5 h1];show ((false,_).1 || (backTo pos (starEach es env)).any (·.1))=false;rw[Zfg h.2];rfl
section
variable {X:Cx}{x:Str}{p pos:Pos}{e:Expr}{es:List Expr}{te:TE}{t:TA}{id T:String}{r:List V->Hp->VK->Prop}
theorem pa_c (ha:PE X e te)(hr:PA X es t)(h:Zb2 e=false:=by rfl):PA X (e::es) (Zf3 te t):=pa_cons ha hr (Za5 h)
theorem Za1 (hc:Zgi X (.builtin id) r)(hg:Gl X x)(hm:X.mg x=none)(hv:bootBuiltins x=some (.builtin id))(ha:PA X (e::es) t)(h:Zb2 e=false:=by rfl)(h2:es.all (λx=>!Zb2 x)=true:=by rfl)(hn:x ≠ "__name__" := by decide)(hdb:(x == ("__debug__" : Str))=false:=by decide):PE X (.Call (.Name x p) (e::es) [] pos) (tCB r t):=Ztw hc hg hm hv ha hn hdb (Za5 h) (Zfg h2)
theorem Zhn (hc:Zgi X (.type T) r)(hg:Gl X x)(hm:X.mg x=none)(hv:bootBuiltins x=some (.type T))(ha:PA X (e::es) t)(h:Zb2 e=false:=by rfl)(h2:es.all (λx=>!Zb2 x)=true:=by rfl)(hn:x ≠ "__name__" := by decide)(hdb:(x == ("__debug__" : Str))=false:=by decide):PE X (.Call (.Name x p) (e::es) [] pos) (tCB r t):=Zq3 hc hg hm hv ha hn hdb (Za5 h) (Zfg h2)
theorem Za4 {k:Nat}{sp:Sp}(C:Cal X.prog X.w X.K X.mg X.base x k sp)(hr:Room k X.A)(hg:Gl X x)(ha:PA X (e::es) t)(h:Zb2 e=false:=by rfl)(h2:es.all (λx=>!Zb2 x)=true:=by rfl)(hdb:(x == ("__debug__" : Str))=false:=by decide):PE X (.Call (.Name x p) (e::es) [] pos) (Zo2 sp [] E0 t):=pe_cal C hr hg ha hdb (Za5 h) (Zfg h2)
theorem Zo7 {C:Addr}{k:Nat}{sp:Sp}(M:CalI X.prog X.w X.K X.mg X.base x C k sp)(hr:Room (k+1) X.A)(hg:Gl X x)(ha:PA X (e::es) t)(h:Zb2 e=false:=by rfl)(h2:es.all (λx=>!Zb2 x)=true:=by rfl)(hdb:(x == ("__debug__" : Str))=false:=by decide):PE X (.Call (.Name x p) (e::es) [] pos) (Zp9 C sp [] E0 t):=pe_new M hr hg ha hdb (Za5 h) (Zfg h2)
theorem Zge {tg a:Expr}{ta:TA}(hg:Gl X "range")(hm:X.mg "range" = none)(ha:PA X [a] ta)(h:Zb2 a=false:=by rfl):PI X tg (.Call (.Name "range" p) [a] [] pos) (Zr4 ta):=Zq1 hg hm ha (Za5 h)
theorem pi_r2 {tg a b:Expr}{ta:TA}(hg:Gl X "range")(hm:X.mg "range" = none)(ha:PA X [a,b] ta)(h:Zb2 a=false:=by rfl)(h2:Zb2 b=false:=by rfl):PI X tg (.Call (.Name "range" p) [a,b] [] pos) (Zuv ta):=
 Zq0 hg hm ha (by rw[Za5 h,Za5 h2];rfl) (Za5 h2)
end
theorem Zqm {i j:Int}:scal (.int i) (.int j)=true:=rfl
theorem Zqn {i j:Bool}:scal (.bl i) (.bl j)=true:=rfl
theorem Zql {i j:Str}:scal (.str i) (.str j)=true:=rfl
theorem Zfs {X:Cx}{x:Str}{n:String}{pos:Pos}(hg:Gl X x)(hm:X.mg x=none)(hv:bootBuiltins x=some (.type n))(hn:x ≠ "__name__" := by decide)(hd:(x == ("__debug__" : Str))=false:=by decide):PE X (.Name x pos) (tC (.ty n)):=pe_bltn (v:=.ty n) hg hm hv rfl hn hd
section
variable {X:Cx}(K:Frag)(hK:X.K=K)
include hK
theorem Zda {pos:Pos}{es:List Expr}{k:Nat}{t:TGs}{n:Nat}(hc:X.calm=true)(h:PGs X es t)(hn:(assignEach es X.env).length=n)(hst:(assignEach es X.env).findIdx? (·.1)=none):PG X (.Tuple es k pos) (Zv7 K n t):=by subst hK;exact Zc2 hc h hn hst
theorem Zg6:Zgi X (.type "list") (λxs H Q=>∃ p ys,xs=[.ref p]/\(SqL K H p ys\/SqT K H p ys)/\∀ l,H l=none->Q (.ref l) (upd H l (.lst ys))):=by subst hK;exact Zbk
theorem Zdh:IxR X (rIxL K):=by subst hK;exact Za7
theorem Zru:IxR X (rIxT K):=by subst hK;exact Za2
theorem Zkz {e:Expr}{f:Str}{pos:Pos}{ta:TE}(he:PE X e ta)(hb:attributeBase e f X.env (eval e X.env)=eval e X.env):PE X (.Attribute e f pos) (tFld K ta f):=by subst hK;exact Zcg he hb
theorem Zgu {tg l:Expr}{tl:TE}(hl:PE X l tl):PI X tg l (Zr5 K tl):=by subst hK;exact Zbd hl
theorem Zq9 (hu:X.A.units+8<cLine):OpR X (compareOp .Eq) (rEqT K false):=by subst hK;exact op_eqT hu
end
theorem cutD {g:TG}{tb:TS}{D:Ends}{x:V}{σ:St}{H:Hp}(h:∀ D':Ends,D'=D->g x σ H λσ2 H2=>tb D' σ2 H2):g x σ H λσ2 H2=>tb D σ2 H2:=h D rfl
theorem cutI {c:TT}{A B:TS}{D:Ends}{σ:St}{H:Hp}(h:∀ A',A'=A->tIfS c A' B D σ H):tIfS c A B D σ H:=h A rfl
theorem atI_n {xs:List V}{k:Nat}{v:V}(h:xs[k]?=some v):atI xs ((k:Nat):Int)=some v:=Zde (Jeb _) (by rw[Jbp];exact h)
theorem atI_r {as:List Addr}{k:Nat}{a:Addr}(h:as[k]?=some a):atI (as.map V.ref) ((k:Nat):Int)=some (.ref a):=atI_n (by rw[Jad,h];rfl)
theorem ixN_n {n k:Nat}(h:k<n):ixN n ((k:Nat):Int)=some k:=by
 unfold ixN;rw[if_pos (Jeb _),if_pos ∅,Jbp]
end L2
set_option maxHeartbeats 1000000
namespace HT
open PySem PySem.Spec PyProof.Rows
section
variable {prog:Program}{w:World}{A:Around}{E:Value->Shared->Prop}{s:Shared}
end
end HT
namespace L2
open PySem PySem.Spec PyProof.Rows
theorem k_own (K:Frag)(C:Addr):PySem.W.kitOne K (.ref C) (.ref C)=some true:=by
 unfold PySem.W.kitOne;rw[if_pos]
 first|exact beq_self_eq_true _|(simp)|rfl
section
variable {X:Cx}{e es:Expr}{te ts:TE}{pos p2:Pos}
end
end L2
namespace L2
open PySem PySem.Spec PyProof.Rows
section
variable {X:Cx}
def rGetL (K:Frag):V->V->Hp->VK->Prop:=λx y H Q=>∃ p xs i v,x=.ref p/\y=.int i/\0<=i/\SqL K H p xs/\xs[i.toNat]?=some v/\Q v H
end
def atZ (ns:List Int)(i:Int):Int:=ns.getD i.toNat 0
theorem atZ_get {ns:List Int}{i:Int}(h:i.toNat<ns.length):(ns.map V.int)[i.toNat]?=some (.int (atZ ns i)):=by
 rw[Jad,Jaa h];simp[atZ,h]
theorem atZ_mem {ns:List Int}{i:Int}(h:i.toNat<ns.length):atZ ns i∈ns:=by
 unfold atZ;rw[Jae,Jaa h];exact Jat h
theorem Zk6 {K:Frag}{H:Hp}(ns:List Int):Zer K H 6 (ns.map V.int) (ns.map V.int) (List.replicate (ns.map V.int).length true):=by
 refine⟨rfl,Jav,λn y z b h1 h2 h3=>?_⟩;have hn:n<(ns.map V.int).length:=(Jaf.mp h1).1;rw[Jb6,if_pos hn] at h3;cases h3;rw[h1] at h2;cases h2;rw[Jad] at h1;rw[Jab] at hn;rw[Jaa hn] at h1;cases h1;have:=EqD.flat (K:=K) (H:=H) (n:=6) (x:=.int ns[n]) (y:=.int ns[n]) rfl rfl;rw[show eqV (.int ns[n]) (.int ns[n])=true from by simp[eqV]] at this;exact this
end L2
namespace L2
open PySem PySem.Spec PyProof.Rows
section
variable {X:Cx}{pins:List (Addr×Obj)}{σ:St}{H:Hp}{s:Shared}{h':Heap}
theorem Inv.turnedL {t':Nat}{fp:List Addr}(I:Inv X pins σ H s)(hf:∀ b∈fp,Zpo X pins H b)(k:∀ b o,b∉fp->s.heap.get? b=some o->h'.get? b=some o):Inv X pins σ H { s with heap:=h',toks:=t' }:=by
 have nit:∀ b u,H b=some u->b∉fp:=λb u e z=>by rw[(hf b z).1] at e;cases e
 refine I.step (g':=s.gens) (d':=s.drawn) (ch:=fp) (λb hb=>?_) (λb o _ _ hc e _=>k b o hc e) (λb o _ _ hc e _=>⟨o.slots,k b o hc e⟩) (λ_ _ _ _ n=>n)
  (λb o hc e=>⟨o,k b o hc e⟩) (λ_ _ e=>e) (λ_ _ _ e=>e) (λb ps e=>⟨#[],by rw[e];simp⟩) (λm hm=>?_) (λb u e=>?_) I.bare
 .refine Zih (hf b hb) λf0 f1 f2 f3 f4 f5=>?_;exact⟨f3,f1,f4,f5⟩
 .refine Zhc hm λo es ep ho r=>?_;clear hm;exact Zbv o es ep ⟨k _ o (λz=>(hf _ z).2.1 rfl) ho,r⟩
 .refine (I.hok b u e).stay (λc v hc q=>k c v ?_ q) (λ_ q=>q) (λ_ _ q=>q) λ_ _ _ q=>q;rcases hc with z|z
  .rw [z];exact nit b u e
  .exact nit c _ z
theorem Inv.turnedT {t':Nat}{fp:List Addr}{p:Addr}{o:HO}(I:Inv X pins σ H s)(hf:∀ b∈fp,Zpo X pins H b)(k:∀ b o,b∉fp->s.heap.get? b=some o->h'.get? b=some o)(hp:s.heap.objs.size<=p)(new:ObjOk X.prog X.w (upd H p o) h' p o):Inv X pins σ (upd H p o) { s with heap:=h',toks:=t' }:=by
 have hn:H p=none:=I.hok.fresh hp;have nit:∀ b u,H b=some u->b∉fp:=λb u e z=>by rw[(hf b z).1] at e;cases e
 have npp:∀ b u,s.heap.get? b=some u->b≠p:=λb u e=>Jbs (Jaq (Jan e) hp);refine I.step (g':=s.gens) (d':=s.drawn) (ch:=fp) (λb hb=>?_) (λb o _ _ hc e _=>k b o hc e) (λb o _ _ hc e _=>⟨o.slots,k b o hc e⟩) (λb o _ e n=>by rw[Zal (npp b o e)];exact n)
  (λb o hc e=>⟨o,k b o hc e⟩) (λb xs e=>by rw[Zal (Zai e hn)];exact e) (λb u xs e=>by rw[Zal (Zai e hn)];exact e) (λb ps e=>⟨#[],by rw[Zal (Zai e hn),e];simp⟩) (λm hm=>?_) (λb u e=>?_) I.bare
 .refine Zih (hf b hb) λf0 f1 f2 f3 f4 f5=>?_;exact⟨f3,f1,f4,f5⟩
 .refine Zhc hm λo es ep ho r=>?_;clear hm;exact Zbv o es ep ⟨k _ o (λz=>(hf _ z).2.1 rfl) ho,r⟩
 .by_cases hb:b=p
  .subst hb;rw[Zaa] at e;cases e;exact new
  .rw [Zal hb] at e;refine (I.hok b u e).stay (λc v hc q=>k c v ?_ q) (λc q=>by rw[Zal (Zai q hn)];exact q) (λc xs q=>by rw[Zal (Zai q hn)];exact q) λc _ _ q=>by rw[Zal (Zai q hn)];exact q
   rcases hc with z|z
   .rw [z];exact nit b u e
   .exact nit c _ z
end
def Itz (K:Frag)(a b:Addr):It:=
 ⟨λi H=>∃ xs ys x y,SqL K H a xs/\SqL K H b ys/\xs[i]?=some x/\ys[i]?=some y,λi H v H'=>∃ x y p,v=.ref p/\H p=none/\H'=upd H p (.tup [x,y])/\(∀ xs,SqL K H a xs->xs[i]?=some x)/\∀ ys,SqL K H b ys->ys[i]?=some y,λi H=>∃ xs ys,SqL K H a xs/\SqL K H b ys/\(xs.length<=i\/ys.length<=i)⟩
theorem Zta {P:Program}{w:World}{K:Frag}{elts:List Expr}{x1:Nat}{pos:Pos}{z TI TO i1 i2 a b:Addr}(D:ZipApart z TI TO i1 i2 a b):
  Turn P w K (.Tuple elts x1 pos) (Itz K a b) [z,TI,TO,i1,i2] z (λi h=>IsZip h z TI TO .none/\IsPair h TI (.ref i1) (.ref i2)/\(∃ u v,IsPair h TO u v)/\h.IsListIter i1 a i/\h.IsListIter i2 b i) where
 mem:=by simp
 obj:=λi h st c hc=>by
  refine Zcy st λhz hTI e92 e93 e94=>?_;clear st;obtain⟨u,v,hTO⟩:=e92;obtain⟨o1,e1,c1,d1⟩:=e93;obtain⟨o2,e2,c2,d2⟩:=e94;simp at hc;rcases hc with rfl|rfl|rfl|rfl|rfl
  .exact ⟨_,hz,λv z=>by have z':Data.fields _=Data.cell v:=z;cases z'⟩
  .exact ⟨_,hTI,λv z=>by have z':Data.seq _ _=Data.cell v:=z;cases z'⟩
  .exact ⟨_,hTO,λv z=>by have z':Data.seq _ _=Data.cell v:=z;cases z'⟩
  .exact ⟨o1,e1,λv z=>by rw[d1] at z;cases z⟩
  .exact ⟨o2,e2,λv z=>by rw[d2] at z;cases z⟩
 keep:=λi h h' st k=>by
  refine Zcy st λhz hTI e95 h1 h2=>?_;clear st;obtain⟨u,v,hTO⟩:=e95;exact⟨k z (by simp) _ hz,k TI (by simp) _ hTI,⟨u,v,k TO (by simp) _ hTO⟩,h1.at λo e=>k i1 (by simp) o e,h2.at λo e=>k i2 (by simp) o e⟩
 item:=by
  intro X hP hw hK hc i pins s σ H E I hf st hg;subst hP hw hK;refine Zc6 hg λxs ys x y hqa hqb hx hy=>?_;clear hg;refine Zas (I.list hqa) λits rv p hz1=>?_;refine Zas (I.list hqb) λits2 rv2 p2 hz2=>?_;refine Zae (rv.get hx) λu hu ru=>?_;refine Zae (rv2.get hy) λu2 hu2 ru2=>?_;refine Zcy st λhz hTI e96 h1 h2=>?_;clear st;obtain⟨c,d,hTO⟩:=e96;refine wpAny_pyNext_zip_item D hz hTI hTO h1 h2 p.isList p2.isList (by simpa using hu) (by simpa using hu2) λh' a1 a2 a3 a4 a5 a6 a7=>?_;refine⟨_,rfl,wpAny_letOwnedTupleGo_zip a1 λh'' b1 b2=>?_⟩;have nz:s.heap.objs.size≠z:=Nat.ne_of_gt (Jan hz);have k2:∀ c o,c∉[z,TI,TO,i1,i2]->s.heap.get? c=some o->h''.get? c=some o:=λc o hc e=>by
   simp at hc;exact b2.extBut _ _ hc.1 (a7 c o hc.1 hc.2.2.1 hc.2.2.2.1 hc.2.2.2.2 e)
  have I2:Inv X pins σ (upd H s.heap.objs.size (.tup [x,y])) { s with heap:=h'' }:=I.turnedT (t':=s.toks) hf k2 (Jaj _)
   ⟨by show 2<=sizeLine;decide,[u,u2],.cons ru (.cons ru2 .nil),_,b2.extBut _ _ nz a5,rfl,_,rfl⟩
  refine Zaq (.ref s.heap.objs.size) _ ⟨I2,rfl,⟨x,y,_,rfl,I.hok.fresh (Jaj _),rfl,λxs' hq=>by rw[I.list_inj hq hqa];exact hx,λys' hq=>by rw[I.list_inj hq hqb];exact hy⟩,⟨b1,b2.extBut _ _ D.TIz (a7 _ _ D.TIz D.TITO D.TIi1 D.TIi2 hTI),⟨_,_,b2.extBut _ _ D.TOz a2⟩,a3.extBut b2.extBut D.i1z,a4.extBut b2.extBut D.i2z⟩,λc hc=>?_⟩;have hlt:∀ c∈[z,TI,TO,i1,i2],c<s.heap.objs.size:=λc hc=>by
   simp at hc;refine Zae h1 λo1 e1 _=>?_;clear h1;refine Zae h2 λo2 e2 _=>?_;clear h2;rcases hc with rfl|rfl|rfl|rfl|rfl
   .exact Jan hz
   .exact Jan hTI
   .exact Jan hTO
   .exact Jan e1
   .exact Jan e2
  rw[Zal (Jbs (hlt c hc))];exact (hf c hc).1
 done:=by
  intro X hP hw hK hc i pins s σ H E I hf st hg;subst hP hw hK;refine Zca hg λxs ys hqa hqb hx=>?_;clear hg;refine Zas (I.list hqa) λits rv p hz1=>?_;refine Zas (I.list hqb) λits2 rv2 p2 hz2=>?_;refine Zcy st λhz hTI e97 h1 h2=>?_;clear st;obtain⟨c,d,hTO⟩:=e97;have l1:=rv.length;have l2:=rv2.length;refine wpAny_pyNext_zip_end (I.ok.hd hc) D hz hTI hTO h1 h2 p.isList p2.isList ?_ λh' kk=>⟨rfl,I.turnedL (t':=s.toks) hf λc o hc e=>?_⟩
  .rcases hx with hx|hx
   .exact .inl (by simp;omega)
   .exact .inr (by simp;omega)
  .simp at hc;exact kk c o hc.1 hc.2.2.1 hc.2.2.2.1 hc.2.2.2.2 e
 self:=λ_ _ _ _ _ st h=>Jdw st.1 h
section
variable {X:Cx}
def iZip (K:Frag)(ta:TA):TI:=λσ H R=>ta σ H λvs H1=>∃ a b,vs=[.ref a,.ref b]/\(∃ xs,SqL K H1 a xs)/\(∃ ys,SqL K H1 b ys)/\R (Itz K a b) H1
theorem Zlx {elts:List Expr}{x1:Nat}{pt p pos:Pos}{a b:Expr}{ta:TA}(hg:Gl X "zip")(hm:X.mg "zip" = none)(ha:PA X [a,b] ta)(h:Zb2 a=false:=by rfl)(h2:Zb2 b=false:=by rfl):
  PI X (.Tuple elts x1 pt) (.Call (.Name "zip" p) [a,b] [] pos) (iZip X.K ta):=by
 intro pins s σ H R I hh;refine Call_ (Zjk I hg hm boot_zip (Jb5 (thn (ha pos pins s σ H _ I hh) λus s1 ⟨vs,H1,I1,r1,q1⟩=>?_) (by rw[Za5 h,Za5 h2]) (by rw[Za5 h2];rfl)));refine Zf2 q1 λc d e e98 e99 q=>?_;clear q1;obtain⟨xs,hq1⟩:=e98;obtain⟨ys,hq2⟩:=e99;subst e;cases r1 with
 | cons r rr=>
  cases rr with
  | cons r' rr=>
   cases rr;cases r;cases r';refine Zas (I1.list hq1) λits rv p1 hz1=>?_;refine Zas (I1.list hq2) λits2 rv2 p2 hz2=>?_;have lt1:c<s1.heap.objs.size:=by obtain⟨o,ho,_⟩:=p1.isList;exact Jan ho
   have lt2:d<s1.heap.objs.size:=by obtain⟨o,ho,_⟩:=p2.isList;exact Jan ho
   refine call_zip_2 p1.isList p2.isList λh' a1 a2 a3 a4 a5 a6 a7=>Jdw (s:={ s1 with heap:=h' }) a1 ?_;refine Zlh _ _ _ _ H1 ⟨rfl,I1.kept (t':=s1.toks) a7,Zta (zipApart_new lt1 lt2),⟨a1,a2,⟨_,_,a3⟩,a4,a5⟩,λb hb=>?_,q⟩;have hb':s1.heap.objs.size<=b:=by
    simp at hb;rcases hb with rfl|rfl|rfl|rfl|rfl
    .exact Jdx _ _
    .exact Jdx _ _
    .exact Jdx _ _
    .exact Jaj _
    .exact Jdx _ _
   have:=(I1.fpOk (H':=H1) hb' (I1.hok.fresh hb'))
   exact this
theorem Zox (hc:X.calm=true):Zgi X (.builtin "sum") (λxs H Q=>∃ (p:Addr) (ns:List Int),xs=[.ref p]/\SqL X.K H p (ns.map V.int)/\Q (.int (preSum (λi=>ns.getD i 0) ns.length)) H):=by
 intro pins s σ H xs us Q I r h;refine Zca h λp ns e910 hq q=>?_;clear h;obtain rfl:=e910;refine Zae (Zll r) λu e911 rx=>?_;obtain rfl:=e911;cases rx;refine Zas (I.list hq) λits rv pl hz=>?_;have hl:=rv.length;rw[Jab] at hl;refine call_sum_walkG (Jcs pl.isList ?_);have hne:p≠s.heap.objs.size:=λe=>by
  refine Zbs pl λo n ho _=>?_;clear pl;exact absurd (Jan ho) (by rw[e];exact Jb4 _)
 refine xI7_1 s.heap.objs.size _ _ _ _ _ (λi=>ns.getD i 0) ⟨rfl,Walks.list (A:=X.A.in1) (I.ok.hd hc) _ p hne its.toArray,⟨⟨_,Jay _ rfl,rfl,rfl⟩,pl.isList.at λo e=>Jak _ e⟩,?_,?_,λh' tk t' kp=>?_⟩
 .intro b hb;simp at hb;rcases hb with rfl|rfl
  .rw [Jbv];exact Jdv _
  .rw [Jbv];refine Zae pl.isList λo ho _=>?_;exact Jek (Jan ho)
 .intro i v hv;have hv:its[i]?=some v:=by simpa using hv
  have hi:i<ns.length:=by rw[hl];exact (Jaf.mp hv).1
  obtain⟨u,hu,ru⟩:=rv.get (i:=i) (x:=.int ns[i]) (by rw[Jad,Jaa hi];rfl);rw[hv] at hu;cases hu;obtain⟨t,rfl⟩:=ru;exact⟨t,by simp[hi]⟩
 .rw [Jal,<- hl];have f:=I.fpOk (H':=H) (Jaj s.heap.objs.size) (I.hok.fresh (Jaj _));exact Zaq (.int _) H ⟨(I.kept (h':=s.heap.push { cls:=.type "list_iterator",data:=.fields #[.ref p,.int 0 0] }) (t':=s.toks) λb o e=>Jak _ e).turned (it:=s.heap.objs.size) (t':=tk) (λb o hb e=>kp b o (by simpa using hb) e) f.1 f.2.1 f.2.2.2.1 f.2.2.2.2.1 f.2.2.2.2.2,⟨t',rfl⟩,q⟩
end
section
variable {K:Frag}{a b D:Addr}{xs ys:List V}{g:TG}{tt:TT}{te:TE}{k:Nat}{fr:List (Str×Nat)}{σ:St}{H1:Hp}{Q:VK}
theorem Zg4 (Pv:Nat->List V->Hp->Prop)(hlen:ys.length=xs.length)(h0:Pv 0 [] (upd H1 D (.lst [])))(hl:∀ i vs H,i<=xs.length->Pv i vs H->SqL K H a xs/\SqL K H b ys)(hs:∀ i x y p vs σ' H,i<xs.length->xs[i]?=some x->ys[i]?=some y->H p=none->Sh k (Zbq fr σ) σ'->Pv i vs H->Zfr g tt te D xs.length k (Zbq fr σ) Pv i (.ref p) σ' (upd H p (.tup [x,y])))(hd:∀ vs H,Pv xs.length vs H->Q (.ref D) H):
  Zbw g tt te (Itz K a b) D (Zha k fr σ) H1 Q:=by
 refine⟨Wv xs.length k (Zbq fr σ) Pv,⟨xs.length,by simp,Jck _,sh0,[],h0⟩,?_⟩;intro i m σ' H2 e91;refine Zck e91 λe912 hi sh e913=>?_;clear e91;obtain rfl:=e912;obtain⟨vs,p⟩:=e913;obtain⟨q1,q2⟩:=hl i vs H2 hi p;by_cases hlt:i<xs.length
 .refine .inr ⟨⟨xs,ys,xs[i],ys[i]'(by omega),q1,q2,by simp[hlt],by simp[hlen,hlt]⟩,λx H3 y=>?_⟩;refine Zcx y λu v pp e914 hp e915 e916=>?_;clear y;obtain rfl:=e914;obtain rfl:=e915;obtain⟨e1,e2⟩:=e916;exact hs i u v pp vs σ' _ hlt (e1 _ q1) (e2 _ q2) hp sh p
 .have e:i=xs.length:=∅
  subst e;exact .inl ⟨⟨xs,ys,q1,q2,.inl (Jaj _)⟩,hd vs H2 p⟩
end
end L2
namespace L2
open PySem PySem.Spec PyProof.Rows
def nrm (a b:Int):Int×Int:=(a / (Int.gcd a b:Int),b / (Int.gcd a b:Int))
def Low (x:Int×Int):Prop:=0<x.2/\Int.gcd x.1 x.2=1
theorem emulR (a b p:Int):a*(b % p) % p=a*b % p:=by rw[Int.mul_emod,Int.emod_emod,<- Int.mul_emod]
theorem Zfn {a b:Int}(hb:0<b):0<(Int.gcd a b:Int):=by
 have:0<Int.gcd a b:=Int.gcd_pos_of_ne_zero_right a ∅;omega
theorem Zro {a b:Int}:(nrm a b).1*(Int.gcd a b:Int)=a:=Jdd (Jb8 ..)
theorem Zm6 {a b:Int}:(nrm a b).2*(Int.gcd a b:Int)=b:=Jdd (Jci ..)
theorem nrm_pos {a b:Int}(hb:0<b):0<(nrm a b).2:=by
 have h2:=@Zm6 a b;have g0:=Zfn (a:=a) hb;rcases Int.lt_trichotomy 0 (nrm a b).2 with h|h|h
 .exact h
 .rw [<- h,Int.zero_mul] at h2;omega
 .have:=Int.mul_neg_of_neg_of_pos h g0;omega
theorem Zrn {a b:Int}(hb:0<b):Low (nrm a b):=by
 refine⟨nrm_pos hb,?_⟩;have h:=Int.gcd_mul_right (nrm a b).1 (Int.gcd a b:Int) (nrm a b).2;rw[Zro,Zm6] at h;have g0:=Zfn (a:=a) hb;have:Int.gcd a b=Int.gcd (nrm a b).1 (nrm a b).2*Int.gcd a b:=by simpa using h
 have g1:0<Int.gcd a b:=∅
 exact (Nat.eq_of_mul_eq_mul_right g1 ∅).symm
theorem Zpf {x y:Int×Int}(hx:Low x)(hy:Low y)(h:x.1*y.2=y.1*x.2):x=y:=by
 obtain⟨x0,gx⟩:=hx;obtain⟨y0,gy⟩:=hy;have d1:x.2.natAbs ∣ y.2.natAbs:=by
  have c:Nat.Coprime x.2.natAbs x.1.natAbs:=by rw[Nat.coprime_comm];exact gx
  refine c.dvd_of_dvd_mul_left ?_;rw[<- Jcn,h,Jcn];exact Nat.dvd_mul_left ..
 have d2:y.2.natAbs ∣ x.2.natAbs:=by
  have c:Nat.Coprime y.2.natAbs y.1.natAbs:=by rw[Nat.coprime_comm];exact gy
  refine c.dvd_of_dvd_mul_left ?_;rw[<- Jcn,<- h,Jcn];exact Nat.dvd_mul_left ..
 have e:=Nat.dvd_antisymm d1 d2;have e2:x.2=y.2:=∅
 have e1:x.1=y.1:=by
  rw[e2] at h;exact Int.eq_of_mul_eq_mul_right ∅ h
 exact Jed e1 e2
theorem Zf1 (a:Int){g:Int}(hg:0<g)(hd:g ∣ a):(a / g).natAbs<=a.natAbs:=by
 obtain⟨k,rfl⟩:=hd;rw[Int.mul_ediv_cancel_left _ ∅,Jcn];exact Nat.le_mul_of_pos_left _ ∅
def Bd (B:Nat)(x:Int×Int):Prop:=x.1.natAbs<=B/\x.2.natAbs<=B
def Isn (p:Int)(x:Int×Int):Prop:=(p=0/\Low x)\/(0<p/\0<=x.1/\x.1<p/\x.2=1)
def Zgt (p:Int)(x y:Int×Int):Int×Int:=if p=0 then nrm (x.1*y.2+y.1*x.2) (x.2*y.2) else ((x.1+y.1) % p,1)
def Zdj (p:Int)(x y:Int×Int):Int×Int:=if p=0 then nrm (x.1*y.1) (x.2*y.2) else (x.1*y.1 % p,1)
def Zk9 (p k:Int):Int×Int:=if p=0 then (k,1) else (k % p,1)
theorem Isn.pos {p:Int}{x:Int×Int}(h:Isn p x):0<x.2:=by
 rcases h with ⟨_,h⟩|⟨_,_,_,h⟩
 .exact h.1
 .omega
theorem Zrw {p a b:Int}(hp:p=0)(hb:0<b):Isn p (nrm a b):=.inl ⟨hp,Zrn hb⟩
theorem Zne {p a:Int}(hp:0<p):Isn p (a % p,1):=.inr ⟨hp,Jbq _ ∅,Ja8 _ hp,rfl⟩
theorem Zid {p:Int}{x y:Int×Int}(h0:0<=p)(hx:Isn p x)(hy:Isn p y):Isn p (Zgt p x y):=by
 unfold Zgt;split
 .rename_i h;exact Zrw h (Jde hx.pos hy.pos)
 .exact Zne ∅
theorem Zgx {p:Int}{x y:Int×Int}(h0:0<=p)(hx:Isn p x)(hy:Isn p y):Isn p (Zdj p x y):=by
 unfold Zdj;split
 .rename_i h;exact Zrw h (Jde hx.pos hy.pos)
 .exact Zne ∅
theorem Zhp {p k:Int}(h0:0<=p):Isn p (Zk9 p k):=by
 unfold Zk9;split
 .rename_i h;exact .inl ⟨h,⟨by show (0:Int)<1;decide,by simp⟩⟩
 .exact Zne ∅
theorem Zop (a b:Int):Int.gcd b (a % b)=Int.gcd a b:=by
 rw[Int.emod_def,Int.sub_eq_add_neg,<- Int.mul_neg,Int.gcd_add_mul_left_right,Jef]
structure FunD (K:Frag)(x qual:Str)(st:Stmt)(f:Addr)(fd:FuncData)(T:Addr):Prop where
 ex:∃ (oc:Value) (od:Option Addr) (kV doc pm:Value) (an:Option Addr) (cdv ct:Value) (osl:Array (Option Value)),
  fd=PySem.W.fnOf x qual (Zd0 st) (Zci st) (Zaf st) (.ref T) kV doc pm an cdv ct/\K.lookup f=some ⟨oc,od,.func fd,osl⟩/\PySem.W.codeIn K cdv qual=true
section
theorem FunD.ok {x qual:Str}{st:Stmt}{f T:Addr}{fd:FuncData}{N ps:List Str}{k:Nat}{sp:Sp}(F:FunD K x qual st f fd T)(S:FnScope N ps (Zaf st))(len:∀ vs H Q E,sp vs H Q E->vs.length=ps.length)(hbody:∀ (cdv:Value) (A:Around) (outer:List Env) (s:Shared) (H:Hp) (vs:List V) (Q:VK) (E:XK),Room k (A.deeper (envOfC qual (Zaf st) s.heap.objs.size f cdv))->sp vs H Q E->
   ∃ t,PSs (Zu5 CX0 P w K mg base N qual (Zaf st) f cdv A outer s H E).nox (Zci st) t/\t { nx:=λ_ H'=>Q .non H',rt:=Q } (Zhe N vs) H):FnOk P w K mg base CX0 (k+1) f fd ps sp:=by
 refine xE9_3 F.ex λoc od kV doc pm an cdv ct osl e91 lk hcd=>?_;obtain rfl:=e91;refine fn_of lk hcd S len λA outer s H vs Q E hr hsp=>?_;refine Zae (hbody cdv A outer s H vs Q E hr hsp) λt h q=>?_;exact⟨t,h.nox,q⟩
end
structure CalD (P:Program)(w:World)(K:Frag)(mg:Str->Option Value)(base:Heap)(C:Addr)(m:Str)(k:Nat)(sp:Sp)(dvs:List V):Prop where
 ex:∃ (f:Addr) (fd:FuncData) (ps:List Str) (ds:List Value),FnOk P w K mg base CX0 k f fd ps sp/\Meth K C m f/\Binds K fd ps ds/\Vals dvs ds
theorem Zm1 {X:Cx}{m:Str}{C:Addr}{k:Nat}{sp:Sp}{dvs:List V}{o e:Expr}{es:List Expr}{ta:TE}{t:TA}{apos pos:Pos}{pl:Sem Bool}(c:Cls X.K C)(M:CalD X.prog X.w X.K X.mg X.base C m k sp dvs)(hr:Room k X.A)(ho:PE X o ta)(ha:PA X (e::es) t)(h:Zb2 e=false:=by rfl)(h2:es.all (λx=>!Zb2 x)=true:=by rfl)(ht:eval (.Call (.Attribute o m apos) (e::es) [] pos) X.env=(do
   let ov <- eval o X.env
   standAt apos.atName
   let (f,first) <- holding [ov] (getMethod ov m pl)
   callWith pos f first (backTo pos (starEach (e::es) X.env)) (backToKw pos (keywordEach [] X.env))):=by rfl):
  PE X (.Call (.Attribute o m apos) (e::es) [] pos) (Zp8 C m sp dvs E0 ta t):=by
 refine Zc6 M.ex λf fd ps ds F hm hb hd=>?_;exact Zq2 ho c hm F hr hb hd Ztx ha (Za5 h) (Zfg h2) ht
theorem Zg7 {K:Frag}{fd:FuncData}{ps:List Str}{T:Addr}{oc:Value}{od:Option Addr}{osl:Array (Option Value)}{items:Array Value}{n:Nat}{ds:List Value}(lk:K.lookup T=some ⟨oc,od,.seq items n,osl⟩)(hd:fd.defaults=.ref T)(h:∀ us:List Value,(us++ds).length=ps.length->∃ k,bindArgs fd ⟨us,[]⟩=seqItems? fd.defaults >>= k/\k (some items)=pure (ps.zip (us++ds))):Binds K fd ps ds:=λs us KX hl=>by
 refine Zae (h us hl) λk h1 h2=>?_;exact .of_defaults hd (KX T _ lk) rfl h1 h2
theorem Zjf {X:Cx}:OpR X (compareOp .IsNot) (λx y H Q=>∃ a b,x=.bl a/\y=.bl b/\Q (.bl (!(a == b))) H):=by
 intro pins s σ H x y v u Q I rx ry h;refine Zca h λa b e94 e95 q=>?_;clear h;obtain rfl:=e94;obtain rfl:=e95;cases rx;cases ry;refine Jaw (a:=Value.bool (!(Value.bool a == Value.bool b))) ⟨.bl (!(a == b)),H,I,?_,q⟩;cases a <;> cases b <;> rfl
def rBits:V->List V->Hp->VK->Prop:=λx vs H Q=>∃ i:Int,x=.int i/\vs=[]/\Q (.int ((Builtin.Int.intBits i:Nat):Int)) H
theorem Zm9 {X:Cx}:MtM X "int.bit_length" rBits:=by
 intro pins s σ H x vs v us Q I rx rv h;refine Zas h λi e91 e92 q=>?_;clear h;obtain rfl:=e91;obtain rfl:=e92;obtain⟨t,rfl⟩:=rx;have hus:=rv.zero;subst hus;exact call_gives F.slot_int_bit_length (typeIs_int s i t) F.entry_int_bit_length (F.args_int_bit_length_1 _) (AutoIntG2.int_bit_length_int_0 i t) ⟨.int ((Builtin.Int.intBits i:Nat):Int),H,I.tok _,⟨_,rfl⟩,q⟩
theorem bits_le {i:Int}{n:Nat}(h:i.natAbs<2 ^ n):Builtin.Int.intBits i<=n:=by
 unfold Builtin.Int.intBits;split
 .exact Jck _
 .rename_i h0
  have h1:i.natAbs≠0:=by
   intro e;exact h0 (by simp[Int.natAbs_eq_zero.mp e])
  exact (Nat.log2_lt h1).mpr h
end L2
namespace L2
open PySem PySem.Spec PyProof.Rows
def Ite (K:Frag)(a:Addr):It:=
 ⟨λi H=>∃ xs x,SqL K H a xs/\xs[i]?=some x,λi H v H'=>∃ x p,v=.ref p/\H p=none/\H'=upd H p (.tup [.int i,x])/\(∀ xs,SqL K H a xs->xs[i]?=some x),λi H=>∃ xs,SqL K H a xs/\xs.length<=i⟩
section
variable {X:Cx}
def iEnm (K:Frag)(ta:TA):TI:=λσ H R=>ta σ H λvs H1=>∃ a,vs=[.ref a]/\(∃ xs,SqL K H1 a xs)/\R (Ite K a) H1
end
section
variable {K:Frag}{a b D:Addr}{xs ys:List V}{g:TG}{tt:TT}{te:TE}{k:Nat}{fr:List (Str×Nat)}{σ:St}{H1:Hp}{Q:VK}
end
end L2
namespace L2
open PySem PySem.Spec PyProof.Rows PySem.W
structure Trk (B:Heap)(fr:List Env)(e:Addr)(cls c0 fl:Value)(h:Heap):Prop where
 st:B.StaysIn h
 nw:B.get? e=none
 ff:h.FunFrames B fr
 ob:∃ (o:Obj) (vs:Array Value) (T:Addr) (oT:Obj) (us:Array Value),h.get? e=some o/\o.cls=cls/\o.data=.fields vs/\vs[2]?=some c0/\vs[1]?=some (.ref T)/\B.get? T=none/\T≠e/\h.get? T=some oT/\oT.data=.fields us/\us[3]?=some fl
section
variable {M:Model}{A:Around}{E:Value->Shared->Prop}{s:Shared}{B:Heap}{fr:List Env}{e L:Addr}{cls c0:Value}{Q:Unit->Shared->Prop}
end
end L2
namespace L2
open PySem PySem.Spec PyProof.Rows PySem.W
structure Fly (P:Program)(w:World)(outer:List Env)(H:Hp)(s:Shared)(a:Addr)(cls c0:Value)(H':Hp)(s':Shared):Prop where
 os:s'.os=s.os
 bare:AllBare s'.gens
 hok:HOk P w H' s'.heap
 un:Un (frs outer) [] H H' s.heap s'.heap
 fly:∃ B,Trk B outer a cls c0 .none s'.heap/\(∀ b o,s.heap.get? b=some o->b∉frs outer->∃ o',B.get? b=some o')/\∀ b u,H' b=some u->∃ o',B.get? b=some o'
 new:∀ o,s.heap.get? a≠some o
 free:H' a=none
def CXe (P:Program)(w:World):CXT:=λouter H s E e s'=>∃ (a:Addr) (cls c0:Value) (H':Hp),e=.ref a/\Fly P w outer H s a cls c0 H' s'/\E cls none H'/\(c0=.none\/E cls (some 0) H')
section
variable {N:List Str}{qual:Str}{scope:Scope}{f:Addr}{cd:Value}{A:Around}{outer:List Env}{s:Shared}{H:Hp}{E:XK}{pins:List (Addr×Obj)}{σ:St}{H1:Hp}{s1 s2:Shared}{e:Addr}{cls:Value}
end
end L2
namespace L2
open PySem PySem.Spec PyProof.Rows PySem.W
def Zvo (t:TA)(R:Hp->Prop):TS:=λ_ σ H=>t σ H λvs H1=>vs.length<=1000/\R H1
section
variable {X:Cx}{x:Str}{C:Addr}{bm bmN:List Value}{B Bn newId nid initId inN:String}{np cpos pos:Pos}{e₀:Expr}{rest:List Expr}{t:TA}{R:Hp->Prop}
end
end L2
namespace L2
open PySem PySem.Spec PyProof.Rows PySem.W
section
end
section
variable {X:Cx}{pins:List (Addr×Obj)}{σ:St}{H H':Hp}{s s':Shared}{a:Addr}{cls:Value}
end
end L2
namespace L2
open PySem PySem.Spec PyProof.Rows PySem.W
section
variable {M:Model}{A:Around}{E:Value->Shared->Prop}
variable {nm q:Str}{C N:Addr}{bs bm:List Value}{hdct:Bool}{sn:List Str}{sub:List Value}{ab:Bool}{col:Option Bool}{dd:Option Addr}{k0 k1 k2 k3 k5:Option Value}{newId:String}
variable {nm' q':Str}{C' N':Addr}{bs' bm':List Value}{hdct':Bool}{sn':List Str}{sub':List Value}{ab':Bool}{col':Option Bool}{dd':Option Addr}{j0 j1 j2 j3 j5:Option Value}{newId':String}
end
end L2
namespace L2
open PySem PySem.Spec PyProof.Rows PySem.W
abbrev Cx.pnx (X:Cx)(pins:List (Addr×Obj)):Cx:={ X with pn:=X.pn++pins }
abbrev Cx.hnd (X:Cx)(pins:List (Addr×Obj))(a:Addr):Cx:={ X with pn:=X.pn++pins,A:=X.A.mark (some (.ref a)),calm:=false,xe:=λ_ _=>False }
section
variable {X:Cx}{pins pins':List (Addr×Obj)}{σ:St}{H:Hp}{s:Shared}{a:Addr}
theorem Inv.pnx (I:Inv X pins σ H s):Inv (X.pnx pins) [] σ H s:=
 ⟨⟨I.ok.mod,I.ok.kind,I.ok.glob,I.ok.blt,I.ok.above,I.ok.inj,I.ok.has,I.ok.cab,I.ok.hd,I.ok.frames,I.ok.stk,I.ok.exf,I.ok.bs,I.ok.bsz,I.ok.noex,I.ok.exfs,I.ok.funs,I.ok.frf,I.ok.top⟩,I.os,I.bare,I.base,I.loc,I.cell,I.free,I.freeC,λp hp=>I.pin p (by simpa using hp),I.hok,I.len⟩
theorem Inv.hnd (I:Inv X pins σ H s)(a:Addr):Inv (X.hnd pins a) [] σ H s:=
 ⟨⟨I.ok.mod,I.ok.kind,I.ok.glob,I.ok.blt,I.ok.above,I.ok.inj,I.ok.has,I.ok.cab,(λz=>nomatch z),I.ok.frames,I.ok.stk,I.ok.exf,I.ok.bs,I.ok.bsz,I.ok.noex,I.ok.exfs,I.ok.funs,I.ok.frf,I.ok.top⟩,I.os,I.bare,I.base,I.loc,I.cell,I.free,I.freeC,λp hp=>I.pin p (by simpa using hp),I.hok,I.len⟩
end
def isExc (a:Addr)(cls:Value):HO:=.ext λh=>∃ ob,h.get? a=some ob/\ob.cls=cls
def hEnds (X:Cx)(D:Ends):Ends:={ nx:=λ_ H=>D.nx (List.replicate X.N.length none) H,rt:=D.rt,bk:=λ_ H=>D.bk (List.replicate X.N.length none) H,ct:=λ_ H=>D.ct (List.replicate X.N.length none) H }
def tTry (X:Cx)(E':XK)(tb:TS)(i:Nat)(th:TS):TS:=λD σ H=>tb D σ H/\∀ (cls:Value) (H':Hp) (a:Addr) (σ':St),E' cls none H'->H' a=none->σ'.length=X.N.length->th (hEnds X D) (σ'.set i (some (.ref a))) (upd H' a (isExc a cls))
section
variable {X:Cx}{x n:Str}{np hpos pos:Pos}{body suite:List Stmt}{b₀:Stmt}{E':XK}{tb th:TS}{i:Nat}{D:Addr}{bmD:List Value}{newD:String}
end
end L2
namespace L2
open PySem PySem.Spec PySem.Calls PyProof.Rows PySem.W Builtin Builtin.ObjectAttr Builtin.Getset_descriptor
structure ExcCls (K:Frag)(C:Addr):Prop where
 ga:findIn K (.ref C) "__getattribute__" = some (some (.builtin "BaseException.__getattribute__"))
 gt:findIn K (.ref C) "__getattr__" = some none
 cl:findIn K (.ref C) "__class__" = some (some (.builtin "object.__class__"))
 so:mroIn K C (.type "object")=some true
 sb:mroIn K C (.type "BaseException")=some true
section
variable {prog:Program}{w:World}{A:Around}{E:Value->Shared->Prop}{h:Heap}{g:Array GenState}{d:Drawn}{t:Nat}{os:OsState}{a C:Addr}{ox:Obj}{K:Frag}
end
end L2
namespace L2
open PySem PySem.Spec PyProof.Rows PySem.W
section
variable {X:Cx}
end
end L2
namespace L2
open PySem PySem.Spec PyProof.Rows PySem.W
structure CalE (P:Program)(w:World)(K:Frag)(mg:Str->Option Value)(base:Heap)(x:Str)(k:Nat)(sp:Sp):Prop where
 ex:∃ (f:Addr) (fd:FuncData) (ps:List Str),FnOk P w K mg base (CXe P w) k f fd ps sp/\mg x=some (.ref f)/\PySem.W.keepIn K (.ref f)=true/\Binds K fd ps []
structure CalME (P:Program)(w:World)(K:Frag)(mg:Str->Option Value)(base:Heap)(C:Addr)(m:Str)(k:Nat)(sp:Sp):Prop where
 ex:∃ (f:Addr) (fd:FuncData) (ps:List Str),FnOk P w K mg base (CXe P w) k f fd ps sp/\Meth K C m f/\Binds K fd ps []
structure CalIE (P:Program)(w:World)(K:Frag)(mg:Str->Option Value)(base:Heap)(x:Str)(C:Addr)(k:Nat)(sp:Sp):Prop where
 ex:∃ (f:Addr) (fd:FuncData) (ps:List Str),FnOk P w K mg base (CXe P w) k f fd ps sp/\Mk K C f/\mg x=some (.ref C)/\Binds K fd ps []
section
variable {X:Cx}{x m:Str}{k:Nat}{sp:Sp}{e o:Expr}{es:List Expr}{ta:TE}{t:TA}{p pos apos:Pos}{E:XK}{C:Addr}
end
theorem hnd_K {X:Cx}{pins:List (Addr×Obj)}{a:Addr}:(X.hnd pins a).K=X.K:=rfl
theorem pnx_K {X:Cx}{pins:List (Addr×Obj)}:(X.pnx pins).K=X.K:=rfl
structure CalDE (P:Program)(w:World)(K:Frag)(mg:Str->Option Value)(base:Heap)(C:Addr)(m:Str)(k:Nat)(sp:Sp)(dvs:List V):Prop where
 ex:∃ (f:Addr) (fd:FuncData) (ps:List Str) (ds:List Value),FnOk P w K mg base (CXe P w) k f fd ps sp/\Meth K C m f/\Binds K fd ps ds/\Vals dvs ds
section
variable {N:List Str}{qual:Str}{scope:Scope}{f:Addr}{cd:Value}{A:Around}{outer:List Env}{s:Shared}{H:Hp}{E:XK}
end
end L2
namespace L2
open PySem PySem.Spec PyProof.Rows
structure RoomH (k:Nat)(A:Around):Prop where
 dp:A.depth+3*k+205<recursionLimit
 un:A.units+16*k+200<cLine
theorem Room.mark {k:Nat}{A:Around}(r:Room k A)(v:Option Value):RoomH k (A.mark v):=⟨r.dp,r.un⟩
theorem RoomH.depth {k:Nat}{A:Around}(r:RoomH k A):A.depth<recursionLimit:=by have:=r.dp;omega
theorem RoomH.deeper {k:Nat}{A:Around}(r:RoomH (k+1) A)(env:Env):RoomH k (A.deeper env):=by
 have h1:=r.dp;have h2:=r.un;constructor
 .show A.depth+1+3*k+205<_;omega
 .show A.units+3+16*k+200<_;omega
structure FnOkH (P:Program)(w:World)(K:Frag)(mg:Str->Option Value)(base:Heap)(CX:CXT)(k:Nat)(f:Addr)(fd:FuncData)(ps:List Str)(sp:Sp):Prop where
 len:∀ vs H Q E,sp vs H Q E->vs.length=ps.length
 run:∀ (A:Around) (outer:List Env) (s:Shared) (H:Hp) (args:Args) (us:List Value) (vs:List V) (Q:VK) (E:XK),RoomH k A->Env0 P w K mg base A outer s H->BindsTo s fd args (ps.zip us)->Vals vs us->sp vs H Q E->
  codeAny (model P w) A (.call (.ref f) args) (CR CX outer P w H s Q E) s
section
structure CalH (P:Program)(w:World)(K:Frag)(mg:Str->Option Value)(base:Heap)(x:Str)(k:Nat)(sp:Sp):Prop where
 ex:∃ (f:Addr) (fd:FuncData) (ps:List Str),FnOkH P w K mg base CX0 k f fd ps sp/\mg x=some (.ref f)/\PySem.W.keepIn K (.ref f)=true/\Binds K fd ps []
end
section
variable {X:Cx}{CX:CXT}{k:Nat}{f C:Addr}{fd:FuncData}{ps:List Str}{sp:Sp}{dvs:List V}{ds:List Value}{E:XK}{x m:Str}{p pos apos:Pos}{e o:Expr}{es:List Expr}{ta:TE}{t:TA}
end
section
variable {X:Cx}
end
end L2
namespace L2
open PySem PySem.Spec PyProof.Rows
end L2
namespace L2
open PySem PySem.Spec PyProof.Rows
section
variable {prog:Program}{w:World}{A:Around}{s:Shared}{E:Value->Shared->Prop}
end
section
variable {X:Cx}
end
def Itv (K:Frag)(a:Addr)(n:Nat):It:=
 ⟨λi H=>∃ xs,SqL K H a xs/\xs.length=n/\i<n,λi H v H'=>H'=H/\∀ xs,SqL K H a xs->xs[n-1-i]?=some v,λi H=>∃ xs,SqL K H a xs/\xs.length=n/\i=n⟩
section
variable {X:Cx}
def iRvl (K:Frag)(ta:TA):TI:=λσ H R=>ta σ H λvs H1=>∃ a xs,vs=[.ref a]/\SqL K H1 a xs/\R (Itv K a xs.length) H1
end
section
variable {K:Frag}{a:Addr}{xs:List V}{g:TG}
end
end L2
namespace L2
open PySem PySem.Spec PyProof.Rows
section
variable {prog:Program}{w:World}{A:Around}{E:Value->Shared->Prop}{s:Shared}
end
end L2
namespace L2
open PySem PySem.Spec PyProof.Rows
section
variable {prog:Program}{w:World}{A:Around}{s:Shared}{E:Value->Shared->Prop}
structure EnG (items:Array Value)(lo:Addr)(h:Heap)(as:List Addr):Prop where
 rise:as.Pairwise (· < ·)
 above:∀ a∈as,lo<a
 pairs:∀ (j:Nat) (a:Addr),as[j]?=some a->∃ t x,items[j]?=some x/\h.get? a=some { cls:=.type "tuple",data:=.seq #[.int j t,x] }
end
section
variable {prog:Program}{w:World}{A:Around}{s:Shared}{R:Result->Shared->Prop}{items:Array Value}
end
section
variable {prog:Program}{w:World}{A:Around}{s:Shared}{E:Value->Shared->Prop}
end
section
variable {X:Cx}{pins:List (Addr×Obj)}{σ:St}
def tLE (K:Frag)(ta:TA):TE:=λσ H Q=>ta σ H λvs H1=>∃ a xs,vs=[.ref a]/\SqL K H1 a xs/\∀ (l:Addr) (ps:List Addr) (H':Hp),Same H1 H'->H1 l=none->(∀ q∈ps,q≠l)->H' l=some (.lst (ps.map V.ref))->ps.length=xs.length->
 (∀ (i:Nat) q x,ps[i]?=some q->xs[i]?=some x->H' q=some (.tup [.int i,x]))->Q (.ref l) H'
end
section
variable {X:Cx}
def gSl0 (to:TE)(th:TO):TG:=λv σ H Q=>to σ H λx H1=>th σ H1 λu H2=>∃ l b xs ys,∃ c:Int,x=.ref l/\v=.ref b/\u=some c/\H2 l=some (.lst xs)/\H2 b=some (.lst ys)/\l≠b/\0<=c/\c<=xs.length/\xs.length+ys.length<=sizeLine/\Q σ (upd H2 l (.lst (ys++xs.drop c.toNat)))
end
section
variable {K:Frag}{a b D:Addr}{xs ys:List V}{g:TG}{tt:TT}{te:TE}{k:Nat}{fr:List (Str×Nat)}{σ:St}{H1:Hp}{Q:VK}
end
end L2
namespace L2
open PySem PySem.Spec PyProof.Rows
def Bt (n:Nat)(z:Int):Prop:=z.natAbs<2 ^ n
theorem Bt.le {n m:Nat}{z:Int}(h:Bt n z)(hm:n<=m):Bt m z:=Jaq h (Jcf ⇑0 hm)
theorem Bt.mul {n m:Nat}{x y:Int}(h:Bt n x)(h':Bt m y):Bt (n+m) (x*y):=by
 unfold Bt at *;rw[Jcn,Nat.pow_add];exact Nat.mul_lt_mul'' h h'
theorem Bt.add {n:Nat}{x y:Int}(h:Bt n x)(h':Bt n y):Bt (n+1) (x+y):=by
 unfold Bt at *;rw[Nat.pow_succ];omega
theorem Bt.neg {n:Nat}{x:Int}(h:Bt n x):Bt n (-x):=by unfold Bt at *;rw[Int.natAbs_neg];exact h
theorem Bt.abs_le {n:Nat}{x y:Int}(h:Bt n x)(hy:y.natAbs<=x.natAbs):Bt n y:=Jbf hy h
theorem Bt.quo {n:Nat}{x y:Int}(h:Bt n x)(hd:y ∣ x):Bt n (x / y):=h.abs_le (by
 rw[Int.natAbs_ediv,if_pos (.inr (.inr hd))];exact Nat.div_le_self _ _)
theorem Znj (n:Nat):Bt n 0:=Nat.two_pow_pos n
theorem Zcv {n:Nat}{z:Int}(hn:7<=n)(h:z.natAbs<128):Bt n z:=Jaq h (Jcf (show 0<2 by decide) hn)
theorem Bt.bits {n:Nat}{z:Int}(h:Bt n z):Builtin.Int.intBits z<=n:=bits_le h
theorem Bt.ok {n m:Nat}{x y:Int}(h:Bt n x)(h':Bt m y)(hs:n+m<=134217728):IntMulOk x y:=mulOk_of_bits h.bits h'.bits hs
theorem Zep {X:Cx}(ht:X.prog.given.tree=none)(hd:X.A.depth+Builtin.pylongFrames<recursionLimit):OpR X (binaryOp .FloorDiv) (rI (λ_ j=>j≠0) λi j=>.int (i.fdiv j)):=by
 intro pins s σ H x y v u Q I rx ry h;refine Zf2 h λi j e91 e92 hc q=>?_;clear h;obtain rfl:=e91;obtain rfl:=e92;obtain⟨t,rfl⟩:=rx;obtain⟨t',rfl⟩:=ry;exact floordiv_int hc ⟨.int (i.fdiv j),H,I.tok _,⟨_,rfl⟩,q⟩ (.inr (I.long ht hd))
theorem Zdu {k:Nat}{A:Around}(hr:Room k A):A.depth+Builtin.pylongFrames<recursionLimit:=by
 have:=hr.dp;have e:Builtin.pylongFrames<=200:=⇑0
 omega
theorem Zg2 {i j:Int}(h:0<j):i.fdiv j=i / j:=Jbt i ∅
theorem Zuz {a b c d x y:Int}(h:a*d-b*c=1\/a*d-b*c=-1):Int.gcd (a*x+b*y) (c*x+d*y)=Int.gcd x y:=by
 apply Nat.dvd_antisymm
 .have h1:((Int.gcd (a*x+b*y) (c*x+d*y):Nat):Int) ∣ a*x+b*y:=Jb8 ..;have h2:((Int.gcd (a*x+b*y) (c*x+d*y):Nat):Int) ∣ c*x+d*y:=Jci ..;generalize Int.gcd (a*x+b*y) (c*x+d*y)=g at *;obtain⟨u,hu⟩:=h1;obtain⟨v,hv⟩:=h2;have dx:(g:Int) ∣ x:=by
   rcases h with h|h
   .exact ⟨d*u-b*v,by grind⟩
   .exact ⟨b*v-d*u,by grind⟩
  have dy:(g:Int) ∣ y:=by
   rcases h with h|h
   .exact ⟨a*v-c*u,by grind⟩
   .exact ⟨c*u-a*v,by grind⟩
  exact Int.ofNat_dvd.mp (Int.dvd_coe_gcd dx dy)
 .have h1:((Int.gcd x y:Nat):Int) ∣ x:=Jb8 ..;have h2:((Int.gcd x y:Nat):Int) ∣ y:=Jci ..;generalize Int.gcd x y=g at *;obtain⟨u,hu⟩:=h1;obtain⟨v,hv⟩:=h2;exact Int.ofNat_dvd.mp (Int.dvd_coe_gcd ⟨a*u+b*v,by grind⟩ ⟨c*u+d*v,by grind⟩)
structure Steps (x0 y0 a b c d x y:Int):Prop where
 hx:a*x0+b*y0=x
 hy:c*x0+d*y0=y
 sg:∃ e:Int,(e=1\/e=-1)/\a*d-b*c=e/\0<=e*a/\0<=-(e*b)/\0<=-(e*c)/\0<=e*d
 x64:18446744073709551616<=x
 yn:0<=y
 yx:y<=x
 ab:a.natAbs<4611686018427387904/\b.natAbs<4611686018427387904
 pr:(a=1/\b=0/\c=0/\d=1)\/(b≠0/\x+y+18446744073709551616<=x0+y0)
theorem Zl1 {u x m:Int}(hu:0<=u)(hx:18446744073709551616<=x)(h:u*x<=m)(hm:m<85070591730234615865843651857942052864):u<4611686018427387904:=by
 apply Jco;intro z;have h1:(4611686018427387904:Int)*18446744073709551616<=u*x:=Int.mul_le_mul ∅ hx ∅ hu;omega
theorem Steps.cd {x0 y0 a b c d x y:Int}(h:Steps x0 y0 a b c d x y)(h0:x0<85070591730234615865843651857942052864)(h1:y0<=x0):c.natAbs<4611686018427387904/\d.natAbs<4611686018427387904:=by
 refine Zs7 h.sg λe he det sa sb sc sd=>?_;have ee:e*e=1:=by rcases he with rfl|rfl <;> rfl
 have ex:(e*d)*x+(-(e*b))*y=x0:=by
  rw[<- h.hx,<- h.hy];have:(e*d)*(a*x0+b*y0)+(-(e*b))*(c*x0+d*y0)=e*(a*d-b*c)*x0:=by grind
  rw[this,det,ee,Int.one_mul]
 have ey:(-(e*c))*x+(e*a)*y=y0:=by
  rw[<- h.hx,<- h.hy];have:(-(e*c))*(a*x0+b*y0)+(e*a)*(c*x0+d*y0)=e*(a*d-b*c)*y0:=by grind
  rw[this,det,ee,Int.one_mul]
 have p1:0<=(-(e*b))*y:=Jcz sb h.yn;have p2:0<=(e*a)*y:=Jcz sa h.yn;have q1:=Zl1 sd h.x64 (show (e*d)*x<=x0 by omega) h0;have q2:=Zl1 sc h.x64 (show (-(e*c))*x<=x0 by omega) h0;constructor
 .rcases he with rfl|rfl <;> omega
 .rcases he with rfl|rfl <;> omega
theorem Steps.next {x0 y0 a b c d x y:Int}(h:Steps x0 y0 a b c d x y)(h0:x0<85070591730234615865843651857942052864)(h1:y0<=x0)(hy:18446744073709551616<=y):Steps x0 y0 c d (a-x / y*c) (b-x / y*d) y (x-x / y*y):=by
 have cd:=h.cd h0 h1;refine Zs7 h.sg λe he det sa sb sc sd=>?_;have m0:0<=x / y:=Jd4 (by have:=h.x64;omega) ∅;have m1:1<=x / y:=by
  have:=h.yx;exact (Int.le_ediv_iff_mul_le ∅).mpr ∅
 have hr:x-x / y*y=x % y:=by
  have:=Jdt x y;rw[Int.mul_comm y] at this;omega
 have r0:=Jbq x (show y≠0 by omega);have r1:=Ja8 x (show 0<y by omega);have e1:=h.hx;have e2:=h.hy;generalize hq:x / y=q at *;have qy:y<=q*y:=by
  have:=Jcx m1 (show 0<=y by omega);omega
 refine⟨h.hy,by rw[<- e1,<- e2];grind,⟨-e,?_,by grind,by grind,by grind,?_,?_⟩,hy,∅,∅,cd,.inr ⟨?_,?_⟩⟩
 .rcases he with rfl|rfl <;> simp
 .have p:=Jcz m0 sc;have:-(-e*(a-q*c))=e*a+q * -(e*c):=by grind
  omega
 .have p:=Jcz m0 sd;have:-e*(b-q*d)=-(e*b)+q*(e*d):=by grind
  omega
 .rcases h.pr with ⟨_,_,_,rfl⟩|⟨hb,_⟩
  .decide
  .intro z;subst z;have hbc:-(b*c)=e:=by rw[<- det];grind
   -- b*c=-e,d=0: then y=c*x0 and x=a*x0+b*y0
   have hc1:c.natAbs=1:=by
    have:b.natAbs*c.natAbs=1:=by rw[<- Jcn];rcases he with rfl|rfl <;> omega
    exact Nat.eq_one_of_mul_eq_one_left this
   have e2':c*x0=y:=by rw[<- e2];grind
   have hc:c=1:=by
    rcases (show c=1\/c=-1 by omega) with z|z
    .exact z
    .subst z;have:=h.x64;have:=h.yx;omega
   subst hc;rcases h.pr with ⟨_,hb0,_⟩|⟨_,hs⟩
   .exact hb hb0
   .have:=h.x64;have:=h.yx;have:=h.yn;omega
 .rcases h.pr with ⟨rfl,rfl,rfl,rfl⟩|⟨_,hs⟩
  .have g1:x0=x:=by rw[<- e1];grind
   have g2:y0=y:=by rw[<- e2];grind
   omega
  .omega
end L2
namespace L2
open PySem PySem.Spec PyProof.Rows PySem.W
structure LamScope (X:Cx)(sc:Scope)(x:Str)(fr:List (Str×Nat)):Prop where
 kind:sc.kind=.function
 co:sc.isCoroutine=false
 gen:sc.isGenerator=false
 nocell:∀ y∈sc.names,y.2≠.cell
 par:sc.names.lookup x=some .local
 free:∀ y∈sc.names,y.2=.free->X.env.scope.names.lookup y.1=some .cell\/X.env.scope.names.lookup y.1=some .free
 cap:∀ y∈fr,sc.names.lookup y.1=some .free/\X.N[y.2]?=some y.1
abbrev lamS (v:V)(fr:List (Str×Nat))(σ:St):St:=some v::fr.map λy=>(σ[y.2]?).getD none
section
variable {X:Cx}{pins:List (Addr×Obj)}{σ:St}{H:Hp}{s:Shared}{A:Around}{sc:Scope}{x:Str}{fr:List (Str×Nat)}{cl:List (Str×Addr)}{f:Addr}{cd:Value}{qual:Str}
end
structure LamAt (X:Cx)(pins:List (Addr×Obj))(sc:Scope)(params:Arguments)(body:Expr)(qual:Str)(P:Addr)(H:Hp)(s:Shared)(f c':Addr)(cl:List (Str×Addr))(ctv pm:Value):Prop where
 fn:s.heap.get? f=some (kla_obj "<lambda>" qual params body sc cl pm c' ctv)
 fp:Zpo X pins H f
 cod:∃ oc vs t,H c'=some (.frz oc (.own P))/\oc.data=.fields vs/\vs[1]?=some (.str qual t)
 hcl:∀ x c,cl.lookup x=some c->X.env.cells.lookup x=some c
 hcl2:∀ y∈sc.names,y.2=.free->∃ c,cl.lookup y.1=some c
section
variable {X:Cx}{pins:List (Addr×Obj)}{σ:St}{H:Hp}{s:Shared}{sc:Scope}{x:Str}{fr:List (Str×Nat)}{P c:Addr}{params:Arguments}{body:Expr}{pos:Pos}
end
def IsMin (kf:Nat->Int)(n i:Nat):Prop:=i<n/\∀ j,j<n->kf i<=kf j/\(j<i->kf i<kf j)
section
variable {X:Cx}{pins:List (Addr×Obj)}{σ:St}{sc:Scope}{x:Str}{fr:List (Str×Nat)}{P:Addr}{params:Arguments}{body:Expr}{qual:Str}{f c' l It S:Addr}{cl:List (Str×Addr)}{ctv pm:Value}{xs:List V}{te:TE}{H0:Hp}{kf:Nat->Int}
end
def tMinL (K:Frag)(P:Addr)(ln co:Int)(q:Str)(fr:List (Str×Nat))(ta te:TE):TE:=λσ H Q=>ta σ H λv H1=>∃ l xs,∃ kf:Nat->Int,v=.ref l/\SqL K H1 l xs/\H1 P=some (.tab ln co q) /\
 (∀ i v H,xs[i]?=some v->Same H1 H->te (lamS v fr σ) H λy H'=>y=.int (kf i)/\Same H H')/\(xs=[]->∀ H',Same H1 H'->Q .non H')/\∀ i v H',IsMin kf xs.length i->xs[i]?=some v->Same H1 H'->Q v H'
section
variable {X:Cx}{sc:Scope}{x:Str}{fr:List (Str×Nat)}{P c:Addr}{params:Arguments}{body e:Expr}{lpos p pos k1 k2 kp:Pos}{ta te:TE}
end
abbrev Tbs:=List (Addr×Int×Int×Str)
def hp0 (K:Frag)(tb:Tbs)(a:Addr)(oa:Obj)(xs:List V):Hp:=λb=>if b=a then (if (K.lookup a).isSome=true then none else some (.frz oa (.lst xs))) else (tb.lookup b).map λt=>.tab t.1 t.2.1 t.2.2
structure FunC (K:Frag)(x qual:Str)(st:Stmt)(f:Addr)(fd:FuncData)(c:Addr):Prop where
 ex:∃ (oc:Value) (od:Option Addr) (kV doc pm:Value) (an:Option Addr) (ct:Value) (osl:Array (Option Value)),
  fd=PySem.W.fnOf x qual (Zd0 st) (Zci st) (Zaf st) .none kV doc pm an (.ref c) ct/\K.lookup f=some ⟨oc,od,.func fd,osl⟩/\PySem.W.codeIn K (.ref c) qual=true
section
theorem FunC.ok {x qual:Str}{st:Stmt}{f c:Addr}{fd:FuncData}{N ps:List Str}{k:Nat}{sp:L2.Sp}(F:FunC K x qual st f fd c)(S:FnScope N ps (Zaf st))(len:∀ vs H Q E,sp vs H Q E->vs.length=ps.length)(hbody:∀ (A:Around) (outer:List Env) (s:Shared) (H:Hp) (vs:List V) (Q:VK) (E:XK),Room k (A.deeper (envOfC qual (Zaf st) s.heap.objs.size f (.ref c)))->sp vs H Q E->
   ∃ t,PSs (Zu5 CX0 P w K mg base N qual (Zaf st) f (.ref c) A outer s H E).nox (Zci st) t/\t { nx:=λ_ H'=>Q .non H',rt:=Q } (Zhe N vs) H):FnOk P w K mg base CX0 (k+1) f fd ps sp:=by
 refine xE8_3 F.ex λoc od kV doc pm an ct osl e98 lk hcd=>?_;obtain rfl:=e98;refine fn_of lk hcd S len λA outer s H vs Q E hr hsp=>?_;refine Zae (hbody A outer s H vs Q E hr hsp) λt h q=>?_;exact⟨t,h.nox,q⟩
end
end L2
namespace L2
open PySem PySem.Spec PyProof.Rows PySem.W
end L2
namespace L2
open PySem PySem.Spec PyProof.Rows
section
variable {prog:Program}{w:World}{A:Around}{R:Result->Shared->Prop}{s:Shared}{elt t1 i1 t2 i2:Expr}{scope:Scope}{pos:Pos}{it acc:Value}{env:Env}
end
section
variable {X:Cx}{tg iter t2 i2 elt:Expr}{scope:Scope}{pos:Pos}{own:List Str}{fr:List (Str×Nat)}{wi wi2:TI}{g g2:TG}{te:TE}
end
end L2
namespace L3
open L2
open Lean.Grind
def Zp (n:Nat):Type:=Fin n
instance {n:Nat}[NeZero n]:CommRing (Zp n):=inferInstanceAs (CommRing (Fin n))
class PrimeN (n:Nat):Prop where
 gt:1<n
 inv:∀ r:Nat,0<r->r<n->∃ k,k<n/\k*r % n=1
instance {n:Nat}[h:PrimeN n]:NeZero n:=⟨by have:=h.gt;omega⟩
section
variable {n:Nat}[hn:PrimeN n]
theorem Zvf (a:Zp n)(h:a≠0):∃ b:Zp n,a*b=1:=by
 have h0:0<(show Fin n from a).val:=by
  rcases Nat.eq_zero_or_pos (show Fin n from a).val with z|z
  .exact absurd (show a=0 from Fin.ext (by rw[z];rfl)) h
  .exact z
 refine Zae (hn.inv _ h0 (show Fin n from a).isLt) λk hk e=>?_;refine⟨(⟨k,hk⟩:Fin n),?_⟩;apply Fin.ext;show ((show Fin n from a).val*k) % n=1 % n;rw[Nat.mul_comm,e,Nat.mod_eq_of_lt hn.gt]
open Classical in
noncomputable def zinv (a:Zp n):Zp n:=if h:a≠0 then Classical.choose (Zvf a h) else 0
theorem Zh8 {a:Zp n}(h:a≠0):a*zinv a=1:=by
 unfold zinv;rw[dif_pos h];exact Jc3 (Zvf a h)
theorem Zig:zinv (0:Zp n)=0:=by
 unfold zinv;rw[dif_neg (by simp)]
theorem Zif:(0:Zp n)≠1:=λz=>by
 have:=Jdp (λx:Fin n=>x.val) z;have h1:(0:Nat) % n=1 % n:=this;rw[Nat.zero_mod,Nat.mod_eq_of_lt hn.gt] at h1;omega
theorem Zpq {a b c:Zp n}(h1:a*b=1)(h2:a*c=1):b=c:=by
 have:b=b*(a*c):=by rw[h2];grind
 rw[this]
 grind
theorem Zpr (a:Zp n):zinv (zinv a)=a:=by
 by_cases h:a=0
 .rw [h,Zig,Zig]
 .have h1:=Zh8 h;have h2:zinv a≠0:=λz=>by
   rw[z] at h1;exact Zif (by rw[<- h1];grind)
  exact Zpq (Zh8 h2) (by rw[<- h1];grind)
theorem Zs4:zinv (1:Zp n)=1:=Zpq (Zh8 (λz=>Zif z.symm)) (by grind)
noncomputable instance:Inv (Zp n):=⟨zinv⟩
noncomputable instance:Div (Zp n):=⟨λa b=>a*zinv b⟩
noncomputable def zpw (a:Zp n):Int->Zp n
 | .ofNat k=>a ^ k
 | .negSucc k=>zinv (a ^ (k+1))
noncomputable instance:HPow (Zp n) Int (Zp n):=⟨zpw⟩
noncomputable instance:Field (Zp n) where
 div_eq_mul_inv:=λa b=>rfl
 zero_ne_one:=Zif
 inv_zero:=Zig
 mul_inv_cancel:=λh=>Zh8 h
 zpow_zero:=λa=>Semiring.pow_zero a
 zpow_succ:=λa k=>Semiring.pow_succ a k
 zpow_neg:=λa k=>by
  match k with
  | .ofNat 0=>exact (show a ^ (0:Nat)=zinv (a ^ (0:Nat)) by rw[Semiring.pow_zero,Zs4])
  | .ofNat (m+1)=>rfl
  | .negSucc m=>exact (Zpr (a ^ (m+1))).symm
end
section
variable {F:Type}[Field F]
def ic (z:Int):F:=(Ring.intCast:IntCast F).intCast z
theorem Zon (x y:Int):(ic (x+y):F)=ic x+ic y:=Ring.intCast_add x y
theorem Zv5 (x y:Int):(ic (x-y):F)=ic x-ic y:=Ring.intCast_sub x y
theorem Zc5 (x y:Int):(ic (x*y):F)=ic x*ic y:=Ring.intCast_mul x y
theorem Zv6 (x:Int):(ic (-x):F)=-ic x:=Ring.intCast_neg x
theorem Zjo:(ic 0:F)=0:=Ring.intCast_zero
theorem Zg0:(ic 1:F)=1:=Ring.intCast_one
end
def Rz (p z:Int):Prop:=p=0\/(0<=z/\z<p)
structure FdOk (p:Int)(F:Type)[Field F]:Prop where
 z0:∀ z:Int,Rz p z->(ic z:F)=0->z=0
 md:p≠0->(ic p:F)=0
theorem fd_zero:FdOk 0 Rat:=⟨λz _ h=>by
 have h2:(z:Rat)=((0:Int):Rat):=h;exact Rat.intCast_inj.mp h2,λh=>absurd rfl h⟩
theorem Zve {n:Nat}[PrimeN n](k:Nat):(show Fin n from (ic ((k:Nat):Int):Zp n)).val=k % n:=by
 have:(ic ((k:Nat):Int):Zp n)=(Semiring.natCast:NatCast (Zp n)).natCast k:=Ring.intCast_natCast k;rw[this];rfl
theorem Zu2 {n:Nat}[hn:PrimeN n]:FdOk n (Zp n):=by
 refine⟨λz hz h=>?_,λ_=>?_⟩
 .have hz:0<=z/\z<n:=hz.resolve_left (by have:=hn.gt;omega);obtain⟨k,rfl⟩:=Ja9 hz.1;have h2:=Zve (n:=n) k;rw[h,Nat.mod_eq_of_lt ∅] at h2;have h3:0 % n=k:=h2;rw[Nat.zero_mod] at h3;rw[<- h3];rfl
 .apply Fin.ext;have h2:=Zve (n:=n) n;rw[Nat.mod_self] at h2;refine h2.trans ?_;show 0=0 % n;rw[Nat.zero_mod]
def nm {F:Type}[Field F](x:Int×Int):F:=ic x.1 / ic x.2
section
variable {p:Int}{F:Type}[Field F]
theorem Zl8 {a b c:F}(h:b≠0)(e:c*b=a):a / b=c:=by grind
theorem FdOk.modF (hF:FdOk p F)(hp:p≠0)(z:Int):(ic (z % p):F)=ic z:=by
 have e:z=z % p+p*(z / p):=(Jdt z p).symm;have e2:(ic z:F)=ic (z % p)+ic p*ic (z / p):=by
  rw[<- Zc5,<- Zon,<- e]
 rw[e2,hF.md hp]
 grind
theorem FdOk.ne0 (hF:FdOk p F){z:Int}(hz:Rz p z)(h:z≠0):(ic z:F)≠0:=λe=>h (hF.z0 z hz e)
theorem FdOk.bot (hF:FdOk p F){x:Int×Int}(h:Isn p x):(ic x.2:F)≠0:=by
 rcases h with ⟨hp,h1,_⟩|⟨_,_,_,h1⟩
 .exact hF.ne0 (.inl hp) ∅
 .rw [h1,Zg0];exact λz=>Field.zero_ne_one (α:=F) z.symm
theorem FdOk.nrmF (hF:FdOk p F)(hp:p=0){a b:Int}(hb:0<b):(nm (nrm a b):F)=ic a / ic b:=by
 have g0:(ic ((Int.gcd a b:Nat):Int):F)≠0:=hF.ne0 (.inl hp) (by have:=Zfn (a:=a) hb;omega);have b0:(ic b:F)≠0:=hF.ne0 (.inl hp) ∅;have e1:(ic (nrm a b).1:F)*ic ((Int.gcd a b:Nat):Int)=ic a:=by rw[<- Zc5,Zro]
 have e2:(ic (nrm a b).2:F)*ic ((Int.gcd a b:Nat):Int)=ic b:=by rw[<- Zc5,Zm6]
 have c0:(ic (nrm a b).2:F)≠0:=λz=>b0 (by rw[<- e2,z];grind);unfold nm;rw[<- e1,<- e2];generalize (ic (nrm a b).1:F)=x at *;generalize (ic (nrm a b).2:F)=y at *;generalize (ic ((Int.gcd a b:Nat):Int):F)=g at *;exact Zl8 c0 (by grind)
theorem FdOk.one (hF:FdOk p F)(z:Int):(nm (z,1):F)=ic z:=by
 unfold nm;rw[Zg0];exact Zl8 (λz=>Field.zero_ne_one (α:=F) z.symm) (by grind)
theorem FdOk.plus (hF:FdOk p F){x y:Int×Int}(hx:Isn p x)(hy:Isn p y):(nm (Zgt p x y):F)=nm x+nm y:=by
 have bx:=hF.bot hx;have by':=hF.bot hy
 unfold Zgt;split
 .rename_i hp
  rw[hF.nrmF hp (Jde hx.pos hy.pos),Zon,Zc5,Zc5,Zc5];unfold nm
  grind
 .rename_i hp
  rw[hF.one,hF.modF hp,Zon];rcases hx with ⟨z,_⟩|⟨_,_,_,h1⟩
  .exact absurd z hp
  .rcases hy with ⟨z,_⟩|⟨_,_,_,h2⟩
   .exact absurd z hp
   .unfold nm;rw[h1,h2,Zg0]
    grind
theorem FdOk.times (hF:FdOk p F){x y:Int×Int}(hx:Isn p x)(hy:Isn p y):(nm (Zdj p x y):F)=nm x*nm y:=by
 have bx:=hF.bot hx;have by':=hF.bot hy
 unfold Zdj;split
 .rename_i hp
  rw[hF.nrmF hp (Jde hx.pos hy.pos),Zc5,Zc5];unfold nm
  grind
 .rename_i hp
  rw[hF.one,hF.modF hp,Zc5];rcases hx with ⟨z,_⟩|⟨_,_,_,h1⟩
  .exact absurd z hp
  .rcases hy with ⟨z,_⟩|⟨_,_,_,h2⟩
   .exact absurd z hp
   .unfold nm;rw[h1,h2,Zg0]
    grind
theorem FdOk.intF (hF:FdOk p F)(k:Int):(nm (Zk9 p k):F)=ic k:=by
 unfold Zk9;split
 .exact hF.one k
 .rename_i hp
  rw[hF.one,hF.modF hp]
theorem FdOk.inj (hF:FdOk p F){x y:Int×Int}(hx:Isn p x)(hy:Isn p y)(e:(nm x:F)=nm y):x=y:=by
 have bx:=hF.bot hx;have by':=hF.bot hy
 have e2:(ic x.1:F)*ic y.2=ic y.1*ic x.2:=by unfold nm at e;grind
 rw[<- Zc5,<- Zc5] at e2;have e3:(ic (x.1*y.2-y.1*x.2):F)=0:=by rw[Zv5,e2];grind
 by_cases hp:p=0
 .have h:=hF.z0 _ (.inl hp) e3;rcases hx with ⟨_,lx⟩|⟨z,_⟩
  .rcases hy with ⟨_,ly⟩|⟨z,_⟩
   .exact Zpf lx ly ∅
   .omega
  .omega
 .rcases hx with ⟨z,_⟩|⟨pp,x0,x1,h1⟩
  .exact absurd z hp
  .rcases hy with ⟨z,_⟩|⟨_,y0,y1,h2⟩
   .exact absurd z hp
   .rw [h1,h2,Int.mul_one,Int.mul_one] at e3;rw[<- hF.modF hp] at e3;have h:=hF.z0 _ (.inr ⟨Jbq _ hp,Ja8 _ pp⟩) e3;have h3:x.1=y.1:=by
     have:=Int.emod_emod_of_dvd (x.1-y.1) (Int.dvd_refl p);by_cases q:y.1<=x.1
     .rw [Jcj ∅ ∅] at h;omega
     .have h4:(x.1-y.1+p) % p=0:=by rw[Int.add_emod_right];exact h
      rw[Jcj ∅ ∅] at h4;omega
    exact Jed h3 (by rw[h1,h2])
end
end L3
namespace L3
open Lean.Grind
section
variable {F:Type}[Field F]
def sm:Nat->(Nat->F)->F
 | 0,_=>0
 | n+1,f=>sm n f+f n
theorem Za8:∀ {n:Nat} {f g:Nat->F},(∀ i,i<n->f i=g i)->sm n f=sm n g
 | 0,_,_,_=>rfl
 | n+1,f,g,h=>by
  show sm n f+f n=sm n g+g n;rw[Za8 (n:=n) λi hi=>h i (Zvw hi),h n Zjw]
theorem Zin:∀ n:Nat,sm n (λ_=>(0:F))=0
 | 0=>rfl
 | n+1=>by
  show sm n (λ_=>(0:F))+0=0;rw[Zin n]
  grind
theorem Zqj:∀ (n:Nat) (f g:Nat->F),sm n (λi=>f i+g i)=sm n f+sm n g
 | 0,_,_=>by show (0:F)=0+0;grind
 | n+1,f,g=>by
  show sm n (λi=>f i+g i)+(f n+g n)=(sm n f+f n)+(sm n g+g n);rw[Zqj n]
  grind
theorem Zio (a:F):∀ (n:Nat) (f:Nat->F),sm n (λi=>a*f i)=a*sm n f
 | 0,_=>by show (0:F)=a*0;grind
 | n+1,f=>by
  show sm n (λi=>a*f i)+a*f n=a*(sm n f+f n);rw[Zio a n]
  grind
theorem Zmx (a:F)(n:Nat)(f:Nat->F):sm n (λi=>f i*a)=sm n f*a:=by
 rw[show (λi=>f i*a)=λi=>a*f i from funext λi=>by grind,Zio]
 grind
theorem Zkt:∀ (n m:Nat) (f:Nat->Nat->F),sm n (λi=>sm m (λj=>f i j))=sm m (λj=>sm n (λi=>f i j))
 | 0,m,f=>(Zin m).symm
 | n+1,m,f=>by
  show sm n (λi=>sm m (λj=>f i j))+sm m (λj=>f n j)=sm m (λj=>sm n (λi=>f i j)+f n j);rw[Zkt n m,Zqj]
theorem Zqi:∀ {n k:Nat} (f:Nat->F),k<n->sm n (λi=>if i=k then f i else 0)=f k
 | 0,_,_,h=>absurd h (Jd5 _)
 | n+1,k,f,h=>by
  show sm n (λi=>if i=k then f i else 0)+(if n=k then f n else 0)=f k;by_cases e:n=k
  .subst e;rw[if_pos rfl,Za8 (g:=λ_=>0) (λi hi=>by rw[if_neg ∅]),Zin]
   grind
  .rw [if_neg e,Zqi f ∅]
   grind
theorem sm_delr {n k:Nat}(f:Nat->F)(h:k<n):sm n (λi=>f i*(if i=k then 1 else 0))=f k:=by
 rw[<- Zqi f h];exact Za8 λi _=>by split <;> grind
theorem Zn6 {n k:Nat}(f:Nat->F)(h:k<n):sm n (λi=>f i*(if k=i then 1 else 0))=f k:=by
 rw[<- Zqi f h];exact Za8 λi _=>by
  by_cases e:i=k
  .rw [if_pos e,if_pos e.symm];grind
  .rw [if_neg e,if_neg (λz=>e z.symm)];grind
def sk (k j:Nat):Nat:=if j<k then j else j+1
theorem Zn5:∀ {n k:Nat} (f:Nat->F),k<=n->sm (n+1) f=f k+sm n (λj=>f (sk k j))
 | n,k,f,h=>by
  by_cases e:k=n
  .subst e;show sm k f+f k=_;rw[Za8 (n:=k) (f:=f) (g:=λj=>f (sk k j)) λi hi=>by unfold sk;rw[if_pos hi]]
   grind
  .cases n with
   | zero=>omega
   | succ n=>
    show sm (n+1) f+f (n+1)=f k+(sm n (λj=>f (sk k j))+f (sk k n));rw[Zn5 (n:=n) (k:=k) f ∅];have:sk k n=n+1:=by unfold sk;rw[if_neg (oz214 h e)]
    rw[this]
    grind
theorem Zrt:∀ (r s:Nat) (Y:Nat->Nat->F),r<s->∃ v:Nat->F,(∃ j,j<s/\v j≠0)/\∀ i,i<r->sm s (λj=>Y i j*v j)=0
 | 0,s,Y,h=>⟨λ_=>1,⟨0,h,λz=>Field.zero_ne_one (α:=F) z.symm⟩,λi hi=>absurd hi (Jd5 _)⟩
 | r+1,s,Y,h=>by
  by_cases hz:∀ j,j<s->Y r j=0
  .obtain ⟨v,hv,he⟩:=Zrt r s Y ∅;refine⟨v,hv,λi hi=>?_⟩;by_cases e:i=r
   .subst e;rw[Za8 (g:=λ_=>0) λj hj=>by rw[hz j hj];grind,Zin]
   .exact he i (oz18 hi e)
  .obtain ⟨k,hk⟩:∃ k,k<s/\Y r k≠0:=by
    apply Jco;intro z;exact hz λj hj=>Jco λq=>z ⟨j,hj,q⟩
   obtain⟨hk,hy⟩:=hk;obtain⟨s',rfl⟩:∃ s',s=s'+1:=⟨s-1,oz120 hk⟩
   obtain⟨v',⟨j0,hj0,hv0⟩,he⟩:=Zrt r s' (λi j=>Y i (sk k j)-Y i k / Y r k*Y r (sk k j)) ∅;obtain⟨v,hvk,hv'⟩:∃ v:Nat->F,v k=-(sm s' (λj=>Y r (sk k j)*v' j)) / Y r k/\∀ j,v (sk k j)=v' j:=by
    refine⟨λi=>if i=k then -(sm s' (λj=>Y r (sk k j)*v' j)) / Y r k else v' (if i<k then i else i-1),if_pos rfl,λj=>?_⟩;have h1:sk k j≠k:=by unfold sk;split <;> omega
    show (if sk k j=k then _ else v' (if sk k j<k then sk k j else sk k j-1))=v' j;rw[if_neg h1];congr 1;unfold sk;by_cases q:j<k
    .rw [if_pos q,if_pos q]
    .rw [if_neg q,if_neg ∅];exact oz100
   refine⟨v,⟨sk k j0,by unfold sk;split <;> omega,by rw[hv'];exact hv0⟩,λi hi=>?_⟩;rw[Zn5 (k:=k) _ ∅,hvk];rw[Za8 (n:=s') (f:=λj=>Y i (sk k j)*v (sk k j)) (g:=λj=>Y i (sk k j)*v' j) λj hj=>by rw[hv']];by_cases e:i=r
   .subst e;generalize sm s' (λj=>Y i (sk k j)*v' j)=S
    grind
   .have h2:=he i (oz18 hi e);have h3:sm s' (λj=>(Y i (sk k j)-Y i k / Y r k*Y r (sk k j))*v' j)=sm s' (λj=>Y i (sk k j)*v' j)-Y i k / Y r k*sm s' (λj=>Y r (sk k j)*v' j):=by
     rw[<- Zio];have:∀ (f g:Nat->F),sm s' (λj=>f j-g j)=sm s' f-sm s' g:=λf g=>by
      have e1:=Zqj s' (λj=>f j-g j) g;rw[show (λj=>f j-g j+g j)=f from funext λj=>by grind] at e1;rw[e1]
      grind
     rw[<- this];exact Za8 λj _=>by grind
    rw[h3] at h2;generalize sm s' (λj=>Y i (sk k j)*v' j)=S1 at *;generalize sm s' (λj=>Y r (sk k j)*v' j)=S2 at *
    grind
abbrev del (i k:Nat):F:=if i=k then 1 else 0
theorem dim_le {r s:Nat}{X Y:Nat->Nat->F}(h:∀ i k,i<s->k<s->sm r (λt=>X i t*Y t k)=del i k):s<=r:=by
 apply Jco;intro z;obtain⟨v,⟨j,hj,hv⟩,he⟩:=Zrt r s Y ∅;apply hv;have h1:sm s (λk=>sm r (λt=>X j t*Y t k)*v k)=v j:=by
  rw[Za8 (g:=λk=>del j k*v k) λk hk=>by rw[h j k hj hk]];rw[show (λk=>del j k*v k)=λk=>v k*(if j=k then 1 else 0) from funext λk=>by grind];exact Zn6 v hj
 rw[<- h1];rw[Za8 (g:=λk=>sm r (λt=>X j t*Y t k*v k)) λk _=>by rw[Zmx],Zkt];rw[Za8 (g:=λ_=>0) λt ht=>?_,Zin];rw[show (λk=>X j t*Y t k*v k)=λk=>X j t*(Y t k*v k) from funext λk=>by grind,Zio,he t ht]
 grind
structure Rk (A:Nat->Nat->F)(m n r:Nat):Prop where
 fac:∃ B C:Nat->Nat->F,∀ i j,i<m->j<n->A i j=sm r λk=>B i k*C k j
 piv:∃ P Q:Nat->Nat->F,∀ i k,i<r->k<r->sm m (λa=>P i a*sm n λb=>A a b*Q b k)=del i k
theorem through {m n r s:Nat}{A B C P Q:Nat->Nat->F}(hf:∀ i j,i<m->j<n->A i j=sm r λk=>B i k*C k j)(hp:∀ i k,i<s->k<s->sm m (λa=>P i a*sm n λb=>A a b*Q b k)=del i k):s<=r:=by
 refine dim_le (X:=λi t=>sm m λa=>P i a*B a t) (Y:=λt k=>sm n λb=>C t b*Q b k) λi k hi hk=>?_;rw[<- hp i k hi hk];have e1:∀ a,a<m->(sm n λb=>A a b*Q b k)=sm r λt=>B a t*sm n λb=>C t b*Q b k:=λa ha=>by
  rw[Za8 (g:=λb=>sm r λt=>B a t*(C t b*Q b k)) λb hb=>?_,Zkt]
  .exact Za8 λt _=>Zio _ _ _
  .rw [hf a b ha hb,<- Zmx];exact Za8 λt _=>by grind
 rw[Za8 (n:=m) (g:=λa=>sm r λt=>P i a*B a t*sm n λb=>C t b*Q b k) λa ha=>?_,Zkt]
 .exact Za8 λt _=>by rw[Zmx]
 .rw [e1 a ha,<- Zio];exact Za8 λt _=>by grind
abbrev zv:Nat->F:=λ_=>0
inductive Sp (S:(Nat->F)->Prop):(Nat->F)->Prop
 | mem {v:Nat->F}:S v->Sp S v
 | zero:Sp S zv
 | comb {u v:Nat->F} (a b:F):Sp S u->Sp S v->Sp S λj=>a*u j+b*v j
abbrev SpL (L:List (Nat->F))(v:Nat->F):Prop:=Sp (· ∈ L) v
structure SpEq (L L':List (Nat->F)):Prop where
 le:∀ v∈L,SpL L' v
 ge:∀ v∈L',SpL L v
theorem SpEq.symm {L L':List (Nat->F)}(h:SpEq L L'):SpEq L' L:=⟨h.ge,h.le⟩
abbrev at' (L:List (Nat->F))(i:Nat):Nat->F:=L.getD i zv
structure RR (L:List (Nat->F))(n r:Nat)(c:Nat->Nat):Prop where
 rl:r<=L.length
 cn:∀ i,i<r->c i<n
 mono:∀ i k,i<k->k<r->c i<c k
 piv:∀ i k,i<r->k<r->at' L i (c k)=del i k
 low:∀ i j,i<r->j<c i->at' L i j=0
 zer:∀ i j,r<=i->i<L.length->j<n->at' L i j=0
end
end L3
namespace L3
open L2 Lean.Grind
def gcdL (zs:List Int):Nat:=zs.foldl (λd z=>Int.gcd z d) 0
def tidyZ (p:Int)(zs:List Int):List Int:=if p=0 then zs.map (· / (gcdL zs:Int)) else zs.map (· % p)
theorem Zr8 {zs:List Int}(j:Nat):zs.getD j 0∈zs\/zs.getD j 0=0:=by
 rw[Jae];cases e:zs[j]? with
 | none=>exact .inr rfl
 | some z=>exact .inl (Jac e)
def Rw (p:Int)(W:Nat)(zs:List Int):Prop:=zs.length=W/\∀ z∈zs,Rz p z
def rawZ (row lead:List Int)(k:Nat):List Int:=List.zipWith (λx y=>lead.getD k 0 / (Int.gcd (row.getD k 0) (lead.getD k 0):Int)*x-row.getD k 0 / (Int.gcd (row.getD k 0) (lead.getD k 0):Int)*y) row lead
def clearZ (p:Int)(row lead:List Int)(k:Nat):List Int:=if row.getD k 0=0 then row else tidyZ p (rawZ row lead k)
section
variable {p:Int}{F:Type}[Field F]
def vz (zs:List Int):Nat->F:=λj=>ic (zs.getD j 0)
theorem fone:(1:F)≠0:=λz=>Field.zero_ne_one (α:=F) z.symm
end
inductive Sw (p:Int) (Z:List (List Int)):Nat->List (List Int)->List (List Int)->List Nat->Prop
 | Zhe:Sw p Z 0 [] Z []
 | skip {k:Nat} {done left:List (List Int)} {pl:List Nat}:Sw p Z k done left pl->(∀ row∈left,row.getD k 0=0)->Sw p Z (k+1) done left pl
 | take {k:Nat} {done left:List (List Int)} {pl:List Nat} (i:Nat) (lead:List Int):Sw p Z k done left pl->left[i]?=some lead->lead.getD k 0≠0->Sw p Z (k+1) (done++[lead]) ((left.eraseIdx i).map λrow=>clearZ p row lead k) (pl++[k])
structure SwI (p:Int)(W:Nat)(Z:List (List Int))(k:Nat)(done left:List (List Int))(pl:List Nat):Prop where
 len:done.length=pl.length
 all:done.length+left.length=Z.length
 rw:∀ row∈done++left,Rw p W row
 asc:∀ i j,i<j->j<pl.length->pl.getD i 0<pl.getD j 0
 lt:∀ i,i<pl.length->pl.getD i 0<k
 piv:∀ i,i<pl.length->(done.getD i []).getD (pl.getD i 0) 0≠0
 low:∀ i j,i<pl.length->j<pl.getD i 0->(done.getD i []).getD j 0=0
 zer:∀ row∈left,∀ j,j<k->row.getD j 0=0
 sp:∀ (F:Type) [Field F],FdOk p F->SpEq (F:=F) ((done++left).map vz) (Z.map vz)
theorem Zec {α:Type}{xs:List α}{i:Nat}{d:α}(h:i<xs.length):xs.getD i d=xs[i]:=by rw[Jae,Jaa h];rfl
structure BkI (p:Int)(W wide:Nat)(Z:List (List Int))(pl:List Nat)(F:Type)[Field F](t:Nat)(R:List (List Int)):Prop where
 len:R.length=Z.length
 rw:∀ row∈R,Rw p W row
 piv:∀ i,i<pl.length->(vz (R.getD i []) (pl.getD i 0):F)≠0
 low:∀ i j,i<pl.length->j<pl.getD i 0->(vz (R.getD i []) j:F)=0
 zer:∀ i j,pl.length<=i->i<R.length->j<wide->(vz (R.getD i []) j:F)=0
 up:∀ i l,i<pl.length->l<pl.length->pl.length-t<=l->l≠i->(vz (R.getD i []) (pl.getD l 0):F)=0
 sp:SpEq (F:=F) (R.map vz) (Z.map vz)
theorem Zco {α:Type}{xs:List α}{i:Nat}{d:α}(h:i<xs.length):xs.getD i d∈xs:=by rw[Zec h];exact Jat h
def SmallR (n:Nat)(row:List Int):Prop:=∀ z∈row,Bt n z
theorem SmallR.le {n m:Nat}{row:List Int}(h:SmallR n row)(hm:n<=m):SmallR m row:=λz hz=>(h z hz).le hm
theorem SmallR.at {n:Nat}{row:List Int}(h:SmallR n row)(j:Nat):Bt n (row.getD j 0):=by
 rcases Zr8 (zs:=row) j with m|e
 .exact h _ m
 .rw [e];exact Znj n
end L3
namespace L2
open PySem PySem.Spec PyProof.Rows
section
variable {H:Hp}{Q:VK}{σ:St}{x:V}{z0 z1 z2 z3 z4 z5 z6 z7 z8 z9 z10 z11 z12:Option V}
theorem Zgk {i:Nat}(h:σ[i]?=some (some x)):Zhs i σ H Q=Q x H:=by
 unfold Zhs;rw[h];exact propext ⟨λ⟨v,e,q⟩=>by cases e;exact q,λq=>⟨x,rfl,q⟩⟩
theorem tv0:Zhs 0 (some x::σ) H Q=Q x H:=Zgk rfl
theorem tv1:Zhs 1 (z0::some x::σ) H Q=Q x H:=Zgk rfl
theorem tv2:Zhs 2 (z0::z1::some x::σ) H Q=Q x H:=Zgk rfl
theorem tv3:Zhs 3 (z0::z1::z2::some x::σ) H Q=Q x H:=Zgk rfl
theorem tv4:Zhs 4 (z0::z1::z2::z3::some x::σ) H Q=Q x H:=Zgk rfl
theorem tv5:Zhs 5 (z0::z1::z2::z3::z4::some x::σ) H Q=Q x H:=Zgk rfl
theorem tv6:Zhs 6 (z0::z1::z2::z3::z4::z5::some x::σ) H Q=Q x H:=Zgk rfl
theorem tv7:Zhs 7 (z0::z1::z2::z3::z4::z5::z6::some x::σ) H Q=Q x H:=Zgk rfl
theorem tv8:Zhs 8 (z0::z1::z2::z3::z4::z5::z6::z7::some x::σ) H Q=Q x H:=Zgk rfl
theorem tv9:Zhs 9 (z0::z1::z2::z3::z4::z5::z6::z7::z8::some x::σ) H Q=Q x H:=Zgk rfl
theorem tv10:Zhs 10 (z0::z1::z2::z3::z4::z5::z6::z7::z8::z9::some x::σ) H Q=Q x H:=Zgk rfl
theorem tv11:Zhs 11 (z0::z1::z2::z3::z4::z5::z6::z7::z8::z9::z10::some x::σ) H Q=Q x H:=Zgk rfl
theorem tv12:Zhs 12 (z0::z1::z2::z3::z4::z5::z6::z7::z8::z9::z10::z11::some x::σ) H Q=Q x H:=Zgk rfl
theorem tv13:Zhs 13 (z0::z1::z2::z3::z4::z5::z6::z7::z8::z9::z10::z11::z12::some x::σ) H Q=Q x H:=Zgk rfl
theorem pI0 {g:Int->Int->V}{i j:Int}:rI0 g (.int i) (.int j) H Q=Q (g i j) H:=propext ⟨λ⟨_,_,e,e',q⟩=>by cases e;cases e';exact q,λq=>⟨i,j,rfl,rfl,q⟩⟩
theorem pI {D:Int->Int->Prop}{g:Int->Int->V}{i j:Int}:rI D g (.int i) (.int j) H Q=(D i j/\Q (g i j) H):=propext ⟨λ⟨_,_,e,e',q⟩=>by cases e;cases e';exact q,λq=>⟨i,j,rfl,rfl,q⟩⟩
theorem pU {g:Int->V}{i:Int}:rU g (.int i) H Q=Q (g i) H:=propext ⟨λ⟨_,e,q⟩=>by cases e;exact q,λq=>⟨i,rfl,q⟩⟩
theorem pIxL {K:Frag}{a:Addr}{k:Int}:rIxL K (.ref a) (.int k) H Q=∃ xs,SqL K H a xs/\∃ v,atI xs k=some v/\Q v H:=propext ⟨λ⟨_,xs,_,v,e,e',h,h',q⟩=>by cases e;cases e';exact⟨xs,h,v,h',q⟩,λ⟨xs,h,v,h',q⟩=>⟨a,xs,k,v,rfl,rfl,h,h',q⟩⟩
theorem pIxT {K:Frag}{a:Addr}{k:Int}:rIxT K (.ref a) (.int k) H Q=∃ xs,SqT K H a xs/\∃ v,atI xs k=some v/\Q v H:=propext ⟨λ⟨_,xs,_,v,e,e',h,h',q⟩=>by cases e;cases e';exact⟨xs,h,v,h',q⟩,λ⟨xs,h,v,h',q⟩=>⟨a,xs,k,v,rfl,rfl,h,h',q⟩⟩
theorem pEb {b:Bool}{p:Bool->Prop}:(∃ k,V.bl b=V.bl k/\p k)=p b:=propext ⟨λ⟨_,e,q⟩=>by cases e;exact q,λq=>⟨b,rfl,q⟩⟩
theorem pEi {b:Int}{p:Int->Prop}:(∃ k,V.int b=V.int k/\p k)=p b:=propext ⟨λ⟨_,e,q⟩=>by cases e;exact q,λq=>⟨b,rfl,q⟩⟩
theorem pEr {b:Addr}{p:Addr->Prop}:(∃ k,V.ref b=V.ref k/\p k)=p b:=propext ⟨λ⟨_,e,q⟩=>by cases e;exact q,λq=>⟨b,rfl,q⟩⟩
theorem pEqT {K:Frag}{b:Bool}{a c:Addr}:rEqT K b (.ref a) (.ref c) H Q=∃ xs,SqT K H a xs/\∃ ys,SqT K H c ys/\∃ bs,Zer K H 6 xs ys bs/\Q (V.bl (if b=true then !bs.all id else bs.all id)) H:=propext ⟨λ⟨_,_,xs,ys,bs,e,e',h,h',h'',q⟩=>by cases e;cases e';exact⟨xs,h,ys,h',bs,h'',q⟩,λ⟨xs,h,ys,h',bs,h'',q⟩=>⟨a,c,xs,ys,bs,rfl,rfl,h,h',h'',q⟩⟩
theorem pEqL {K:Frag}{b:Bool}{a c:Addr}:rEqL K b (.ref a) (.ref c) H Q=∃ xs,SqL K H a xs/\∃ ys,SqL K H c ys/\(xs.length≠ys.length/\Q (V.bl b) H\/∃ bs,Zer K H 6 xs ys bs/\Q (V.bl (if b=true then !bs.all id else bs.all id)) H):=propext ⟨λ⟨_,_,xs,ys,e,e',h,h',q⟩=>by cases e;cases e';exact⟨xs,h,ys,h',q⟩,λ⟨xs,h,ys,h',q⟩=>⟨a,c,xs,ys,rfl,rfl,h,h',q⟩⟩
theorem pSlL {K:Frag}{a:Addr}{lo hi:Option Int}:rSlL K (.ref a) lo hi H Q=∃ xs,SqL K H a xs/\∀ p,H p=none->Q (.ref p) (upd H p (.lst (Zle xs lo hi))):=propext ⟨λ⟨_,xs,e,h,q⟩=>by cases e;exact⟨xs,h,q⟩,λ⟨xs,h,q⟩=>⟨a,xs,rfl,h,q⟩⟩
theorem pCat {a c:Addr}:rCat (.ref a) (.ref c) H Q=∃ xs,H a=some (.lst xs)/\∃ ys,H c=some (.lst ys)/\xs.length+ys.length<=sizeLine/\∀ p,H p=none->Q (.ref p) (upd H p (.lst (xs++ys))):=propext ⟨λ⟨_,_,xs,ys,e,e',h,h',q⟩=>by cases e;cases e';exact⟨xs,h,ys,h',q⟩,λ⟨xs,h,ys,h',q⟩=>⟨a,c,xs,ys,rfl,rfl,h,h',q⟩⟩
theorem pApp {a:Addr}{v:V}:Zja (.ref a) [v] H Q=∃ xs,H a=some (.lst xs)/\xs.length<sizeLine/\Q .non (upd H a (.lst (xs++[v]))):=propext ⟨λ⟨_,xs,_,e,e',q⟩=>by cases e;cases e';exact⟨xs,q⟩,λ⟨xs,q⟩=>⟨a,xs,v,rfl,rfl,q⟩⟩
theorem pTup {K:Frag}{n:Nat}{t:TGs}{a:Addr}{R:St->Hp->Prop}:Zv7 K n t (.ref a) σ H R=∃ xs,SqT K H a xs/\xs.length=n/\t xs σ H R:=propext ⟨λ⟨_,xs,e,q⟩=>by cases e;exact⟨xs,q⟩,λ⟨xs,q⟩=>⟨a,xs,rfl,q⟩⟩
theorem pL1 {α:Type}{a:Addr}{p:Addr->α->Prop}:(∃ b y,[V.ref a]=[V.ref b]/\p b y)=∃ y,p a y:=propext ⟨λ⟨_,y,e,q⟩=>by cases e;exact⟨y,q⟩,λ⟨y,q⟩=>⟨a,y,rfl,q⟩⟩
theorem pL0 {a:Addr}{p:Addr->Prop}:(∃ b,[V.ref a]=[V.ref b]/\p b)=p a:=propext ⟨λ⟨_,e,q⟩=>by cases e;exact q,λq=>⟨a,rfl,q⟩⟩
theorem pLi {a:Int}{p:Int->Prop}:(∃ b,[V.int a]=[V.int b]/\p b)=p a:=propext ⟨λ⟨_,e,q⟩=>by cases e;exact q,λq=>⟨a,rfl,q⟩⟩
theorem pE5 {α β γ δ:Type}{a:Addr}{p:Addr->α->β->γ->δ->Prop}:(∃ b x y z u,V.ref a=V.ref b/\p b x y z u)=∃ x y z u,p a x y z u:=propext ⟨λ⟨_,x,y,z,u,e,q⟩=>by cases e;exact⟨x,y,z,u,q⟩,λ⟨x,y,z,u,q⟩=>⟨a,x,y,z,u,rfl,q⟩⟩
end
def onV:Option (Option V)->(V->Prop)->Prop
 | some (some v),k=>k v
 | _,_=>False
theorem Zog (v:V)(k:V->Prop):onV (some (some v)) k=k v:=rfl
def tVr (i:Nat):TE:=λσ H Q=>onV σ[i]? λv=>Q v H
theorem tVr_old {i:Nat}{σ:St}{H:Hp}{Q:VK}(h:tVr i σ H Q):Zhs i σ H Q:=by
 unfold tVr at h;cases e:σ[i]? with
 | none=>rw[e] at h;exact h.elim
 | some o=>
  rw[e] at h;cases o with
  | none=>exact h.elim
  | some v=>exact⟨v,e,h⟩
theorem pvr {X:Cx}(i:Nat){x:Str}{pos:Pos}(hN:X.N[i]?=some x:=by rfl)(hv:Vis X.env.scope x:=by first|exact Or.inl rfl|exact Or.inr (Or.inl rfl)|exact Or.inr (Or.inr rfl))(hd:(x == ("__debug__" : Str))=false:=by decide)(hcd:(x == ("__classdict__" : Str))=false:=by decide):PE X (.Name x pos) (tVr i):=λpins s σ H Q I h=>pv i hN hv hd hcd pins s σ H Q I (tVr_old h)
def onI:V->(Int->Prop)->Prop
 | .int i,k=>k i
 | _,_=>False
def onR:V->(Addr->Prop)->Prop
 | .ref a,k=>k a
 | _,_=>False
def onB:V->(Bool->Prop)->Prop
 | .bl b,k=>k b
 | _,_=>False
def on1:List V->(V->Prop)->Prop
 | [y],k=>k y
 | _,_=>False
theorem Zrd (i:Int)(k:Int->Prop):onI (.int i) k=k i:=rfl
theorem Zrc (a:Addr)(k:Addr->Prop):onR (.ref a) k=k a:=rfl
theorem Zv0 (b:Bool)(k:Bool->Prop):onB (.bl b) k=k b:=rfl
theorem Zre (y:V)(k:V->Prop):on1 [y] k=k y:=rfl
theorem Zf0 {x:V}{k:Int->Prop}(h:onI x k):∃ i,x=.int i/\k i:=by
 cases x <;> first|exact⟨_,rfl,h⟩|exact False.elim h
theorem Zoh {x:V}{k:Addr->Prop}(h:onR x k):∃ a,x=.ref a/\k a:=by
 cases x <;> first|exact⟨_,rfl,h⟩|exact False.elim h
theorem onB_of {x:V}{k:Bool->Prop}(h:onB x k):∃ b,x=.bl b/\k b:=by
 cases x <;> first|exact⟨_,rfl,h⟩|exact False.elim h
theorem on1_of {vs:List V}{k:V->Prop}(h:on1 vs k):∃ y,vs=[y]/\k y:=by
 match vs,h with
 | [y],h=>exact⟨y,rfl,h⟩
def rJ0 (g:Int->Int->V):R2:=λx y H Q=>onI x λi=>onI y λj=>Q (g i j) H
def rJ (C:Int->Int->Prop)(g:Int->Int->V):R2:=λx y H Q=>onI x λi=>onI y λj=>C i j/\Q (g i j) H
def rEqJ:R2:=λx y H Q=>onI x λi=>onI y λj=>Q (.bl (decide (i=j))) H
def rNeJ:R2:=λx y H Q=>onI x λi=>onI y λj=>Q (.bl (!decide (i=j))) H
section
variable {X:Cx}{f:Value->Value->Sem Value}
theorem Zkj {g:Int->Int->V}(h:OpR X f (rI0 g)):OpR X f (rJ0 g):=λpins s σ H x y v u Q I rx ry q=>h pins s σ H x y v u Q I rx ry (let ⟨i,ei,q⟩:=Zf0 q;let ⟨j,ej,q⟩:=Zf0 q;⟨i,j,ei,ej,q⟩)
theorem opJ {C:Int->Int->Prop}{g:Int->Int->V}(h:OpR X f (rI C g)):OpR X f (rJ C g):=λpins s σ H x y v u Q I rx ry q=>h pins s σ H x y v u Q I rx ry (let ⟨i,ei,q⟩:=Zf0 q;let ⟨j,ej,q⟩:=Zf0 q;⟨i,j,ei,ej,q⟩)
theorem Zv9 {i j:Int}:decide (V.int i=V.int j)=decide (i=j):=by
 by_cases c:i=j
 .rw [Jah c,Jah (by rw[c])]
 .rw [Jam c,Jam λz=>c (V.int.inj z)]
theorem Ze2 (h:OpR X f rEq):OpR X f rEqJ:=λpins s σ H x y v u Q I rx ry q=>h pins s σ H x y v u Q I rx ry (by
 refine Zae (Zf0 q) λi e91 q1=>?_;obtain rfl:=e91;refine Zae (Zf0 q1) λj e92 q2=>?_;obtain rfl:=e92;exact⟨rfl,by rw[Zv9];exact q2⟩)
theorem opNeJ (h:OpR X f rNe):OpR X f rNeJ:=λpins s σ H x y v u Q I rx ry q=>h pins s σ H x y v u Q I rx ry (by
 refine Zae (Zf0 q) λi e93 q1=>?_;obtain rfl:=e93;refine Zae (Zf0 q1) λj e94 q2=>?_;obtain rfl:=e94;exact⟨rfl,by rw[Zv9];exact q2⟩)
def tTst (t:TE):TT:=λσ H Q=>t σ H λx H'=>onB x λk=>Q k H'
theorem Zak {op:CmpOp}{r:R2}{a b:Expr}{ta tb:TE}{pos:Pos}(ho:OpR X (compareOp op) r)(ha:PE X a ta)(hb:PE X b tb)(hm:behindInMarks op b=false):PT X (.Compare a [op] [b] pos) (tTst (tOp r ta tb)):=by
 intro pins s σ H Q I h;refine Jds (thn (ha pins s σ H _ I h) λv s1 ⟨x,H1,I1,r1,q1⟩=>thn (hb pins s1 σ H1 _ I1 q1) λu s2 ⟨y,H2,I2,r2,q2⟩=>
  thn (ho pins s2 σ H2 x y v u _ I2 r1 r2 q2) λc s3 ⟨z,H3,I3,r3,q3⟩=>?_) hm
 refine Zae (onB_of q3) λk e q3=>?_;subst e;cases r3;exact Jbo ⟨H3,I3,q3⟩
def rIxJ (K:Frag):R2:=λx y H Q=>onR x λp=>onI y λi=>∃ xs,SqL K H p xs/\∃ v,atI xs i=some v/\Q v H
def rIxTJ (K:Frag):R2:=λx y H Q=>onR x λp=>onI y λi=>∃ xs,SqT K H p xs/\∃ v,atI xs i=some v/\Q v H
theorem ixJ {K:Frag}(h:IxR X (rIxL K)):IxR X (rIxJ K):=λa b pins s σ H x y v u Q I rx ry q=>h a b pins s σ H x y v u Q I rx ry (by
 refine Zae (Zoh q) λp e95 q1=>?_;obtain rfl:=e95;refine Zae (Zf0 q1) λi e96 e97=>?_;obtain rfl:=e96;obtain⟨xs,h1,v,h2,q2⟩:=e97;exact⟨p,xs,i,v,rfl,rfl,h1,h2,q2⟩)
theorem Zho {K:Frag}(h:IxR X (rIxT K)):IxR X (rIxTJ K):=λa b pins s σ H x y v u Q I rx ry q=>h a b pins s σ H x y v u Q I rx ry (by
 refine Zae (Zoh q) λp e98 q1=>?_;obtain rfl:=e98;refine Zae (Zf0 q1) λi e99 e910=>?_;obtain rfl:=e99;obtain⟨xs,h1,v,h2,q2⟩:=e910;exact⟨p,xs,i,v,rfl,rfl,h1,h2,q2⟩)
def rAppJ:V->List V->Hp->VK->Prop:=λx vs H Q=>onR x λl=>on1 vs λy=>∃ xs,H l=some (.lst xs)/\xs.length<sizeLine/\Q .non (upd H l (.lst (xs++[y])))
theorem mtJ {id:String}(h:MtR X id Zja):MtR X id rAppJ:=λpins s σ H x xs v us Q I rx rv q=>h pins s σ H x xs v us Q I rx rv (by
 refine Zae (Zoh q) λl e911 q1=>?_;obtain rfl:=e911;refine Zae (on1_of q1) λy e912 e913=>?_;obtain rfl:=e912;obtain⟨ys,h1,h2,q2⟩:=e913;exact⟨l,ys,y,rfl,rfl,h1,h2,q2⟩)
def tFldJ (K:Frag)(ta:TE)(f:Str):TE:=λσ H Q=>ta σ H λx H1=>onR x λa=>∃ C dx fs,H1 a=some (.ins C dx fs)/\Cls K C/\NoAttr K C f/\∃ v,fs.lookup f=some v/\Q v H1
theorem Zte {i:Nat}{σ:St}{H:Hp}{Q Q':VK}(h:tVr i σ H Q)(m:∀ x H1,Q x H1->Q' x H1):tVr i σ H Q':=by
 unfold tVr at *;cases e:σ[i]? with
 | none=>rw[e] at h;exact h.elim
 | some o=>
  rw[e] at h;cases o with
  | none=>exact h.elim
  | some v=>exact m _ _ h
theorem Za3 {e:Expr}{i:Nat}{f:Str}{pos:Pos}(he:PE X e (tVr i))(hb:attributeBase e f X.env (eval e X.env)=eval e X.env):PE X (.Attribute e f pos) (tFldJ X.K (tVr i) f):=λpins s σ H Q I h=>Zcg he hb pins s σ H Q I (Zte h λx H1 q=>by
 refine Zae (Zoh q) λa e914 e915=>?_;obtain rfl:=e914;obtain⟨C,dx,fs,h1,h2,h3,v,h4,q⟩:=e915;exact⟨a,C,dx,fs,v,rfl,h1,h2,h3,h4,q⟩)
end
end L2
namespace L2
open PySem PySem.Spec PyProof.Rows
section
variable {prog:Program}{w:World}{A:Around}{E:Value->Shared->Prop}{s:Shared}
abbrev Tri (h:Heap)(T:Addr)(a b c:Value):Prop:=h.get? T=some { cls:=.type "tuple",data:=.seq #[a,b,c] }
theorem Zmm {T:Addr}{a b c x:Value}{k:Nat}{Q:Unit->Shared->Prop}(hT:Tri s.heap T a b c)(h:∀ h',h'.get? T=some { cls:=.type "tuple",data:=.seq ((#[a,b,c]:Array Value).setIfInBounds k x) }->Heap.SameBut T s.heap h'->Q () { s with heap:=h' }):
  wpAny (model prog w) A (updateSeq T (·.setIfInBounds k x)) Q E s:=by
 refine wpAny_updateSeq hT rfl (h _ ?_ (Heap.SameBut.update ..));rw[Heap.get?_update_self _ hT rfl];simp[Obj.mapSeq]
structure Z3 (h:Heap)(n:Nat)(l1 l2 l3:Nat)(k:Nat)(f:Value):Prop where
 z:IsZip h (n+5) (n+3) (n+4) f
 ti:Tri h (n+3) (.ref n) (.ref (n+1)) (.ref (n+2))
 to:∃ a b c,Tri h (n+4) a b c
 i1:h.IsListIter n l1 k
 i2:h.IsListIter (n+1) l2 k
 i3:h.IsListIter (n+2) l3 k
theorem dA {a b:Nat}(h:a≠b):(a:Addr)≠b:=h
theorem z3_item {n:Nat}{l1 l2 l3:Nat}{k:Nat}{xs ys ws:Array Value}{x y u:Value}{Q:Value->Shared->Prop}(m1:l1<n)(m2:l2<n)(m3:l3<n)(Z:Z3 s.heap n l1 l2 l3 k .none)(g1:s.heap.IsList l1 xs)(g2:s.heap.IsList l2 ys)(g3:s.heap.IsList l3 ws)(hx:xs[k]?=some x)(hy:ys[k]?=some y)(hu:ws[k]?=some u)(hQ:∀ h',Z3 h' n l1 l2 l3 (k+1) (rawInt s.heap.objs.size)->Tri h' s.heap.objs.size x y u->h'.objs.size=s.heap.objs.size+1->
   (∀ c o,(c<n\/n+6<=c)->s.heap.get? c=some o->h'.get? c=some o)->Q (.ref s.heap.objs.size) { s with heap:=h' }):
  wpAny (model prog w) A (Builtin.«zip.__next__» ⟨[.ref (n+5)],[]⟩) (λfin s'=>∃ v,fin=.done (.ret v)/\Q v s') E s:=by
 obtain⟨hz,hTI,⟨a,b,c,hTO⟩,h1,h2,h3⟩:=Z;show wpAny _ _ (field (.ref (n+5)) 2 >>= _) _ _ _;refine Jag (Jcm hz rfl (x:=.bool false) rfl ?_);show wpAny _ _ (field (.ref (n+5)) 3 >>= _) _ _ _;refine Jag (Jcm hz rfl (x:=.ref (n+3)) rfl (Jag (Jdb hTI rfl ?_)));show wpAny _ _ (Builtin.SmallTypes.ownedTupleIsFree (.ref (n+5)) >>= _) _ _ _;refine Jag ?_;unfold Builtin.SmallTypes.ownedTupleIsFree;refine Jag (Jcm hz rfl (x:=.none) rfl (Jaw ?_));simp only[Jb9];refine Jag (wpAny_rule (Jag (Jcm hz rfl (x:=.ref (n+4)) rfl (Jag (Jc1 hz (by simp) λq1 hz1 s1=>?_)))))
 replace hz1:IsZip q1 (n+5) (n+3) (n+4) .ellipsis:=hz1
 refine Jag ?_;simp only[List.zipIdx_cons,List.zipIdx_nil,List.forIn_cons,List.forIn_nil];have e1:∀ c,c≠n+5->∀ o,s.heap.get? c=some o->q1.get? c=some o:=λc hc o=>s1.extBut c o hc;refine Jag (Jag (Jer ?_));show wpAny _ _ (Builtin.SmallTypes.nextOf (.ref n) >>= _) _ _ _;refine Jag (Jdl (h1.at (e1 _ ∅)) (g1.at (e1 _ ∅)) hx λq2 j1 s2=>Jaw ?_);have e2:∀ c,c≠n+5->c≠n->∀ o,s.heap.get? c=some o->q2.get? c=some o:=λc c1 c2 o e=>s2.extBut c o c2 (e1 c c1 o e);have t2:=e2 _ ∅ ∅ _ hTO;refine Jag (Jdb t2 rfl (Jag (Zmm t2 λq3 t3 s3=>?_)))
 replace t3:Tri q3 (n+4) x b c:=t3
 refine Jag (wpAny_letGo (Jaw ?_));have e3:∀ c,c≠n+5->c≠n->c≠n+4->∀ o,s.heap.get? c=some o->q3.get? c=some o:=λc c1 c2 c3 o e=>s3.extBut c o c3 (e2 c c1 c2 o e);refine Jag (Jag (Jer ?_));show wpAny _ _ (Builtin.SmallTypes.nextOf (.ref (n+1)) >>= _) _ _ _;refine Jag (Jdl (h2.at (e3 _ ∅ ∅ ∅)) (g2.at (e3 _ ∅ ∅ ∅)) hy λq4 j2 s4=>Jaw ?_);have t4:Tri q4 (n+4) x b c:=s4.extBut _ _ (dA ∅) t3;refine Jag (Jdb t4 rfl (Jag (Zmm t4 λq5 t5 s5=>?_)))
 replace t5:Tri q5 (n+4) x y c:=t5
 refine Jag (wpAny_letGo (Jaw ?_));have e5:∀ c,c≠n+5->c≠n->c≠n+4->c≠n+1->∀ o,s.heap.get? c=some o->q5.get? c=some o:=λc c1 c2 c3 c4 o e=>s5.extBut c o c3 (s4.extBut c o c4 (e3 c c1 c2 c3 o e));refine Jag (Jag (Jer ?_));show wpAny _ _ (Builtin.SmallTypes.nextOf (.ref (n+2)) >>= _) _ _ _;refine Jag (Jdl (h3.at (e5 _ ∅ ∅ ∅ ∅)) (g3.at (e5 _ ∅ ∅ ∅ ∅)) hu λq6 j3 s6=>Jaw ?_);have t6:Tri q6 (n+4) x y c:=s6.extBut _ _ (dA ∅) t5;refine Jag (Jdb t6 rfl (Jag (Zmm t6 λq7 t7 s7=>?_)))
 replace t7:Tri q7 (n+4) x y u:=t7
 refine Jag (wpAny_letGo (Jaw (Jaw ?_)));have e7:∀ c,c≠n+5->c≠n->c≠n+4->c≠n+1->c≠n+2->∀ o,s.heap.get? c=some o->q7.get? c=some o:=λc c1 c2 c3 c4 c5 o e=>s7.extBut c o c3 (s6.extBut c o c5 (e5 c c1 c2 c3 c4 o e));have z7:q7.objs.size=s.heap.objs.size:=by rw[s7.1,s6.1,s5.1,s4.1,s3.1,s2.1,s1.1]
 have j1':q7.IsListIter n l1 (k+1):=((((j1.extBut s3.extBut (dA ∅)).extBut s4.extBut (dA ∅)).extBut s5.extBut (dA ∅)).extBut s6.extBut (dA ∅)).extBut s7.extBut (dA ∅);have j2':q7.IsListIter (n+1) l2 (k+1):=((j2.extBut s5.extBut (dA ∅)).extBut s6.extBut (dA ∅)).extBut s7.extBut (dA ∅);have j3':q7.IsListIter (n+2) l3 (k+1):=j3.extBut s7.extBut (dA ∅);have hz7:IsZip q7 (n+5) (n+3) (n+4) .ellipsis:=s7.extBut _ _ (dA ∅) (s6.extBut _ _ (dA ∅) (s5.extBut _ _ (dA ∅) (s4.extBut _ _ (dA ∅) (s3.extBut _ _ (dA ∅) (s2.extBut _ _ (dA ∅) hz1)))));have lz:n+5<q7.objs.size:=Jan hz7;refine Jag (Jdb t7 rfl (Jag (wpAny_newTuple ?_)));show wpAny _ _ (Builtin.SmallTypes.ownedTupleHandOut (.ref (n+5)) (.ref q7.objs.size) >>= _) _ _ _;refine Jag ?_;unfold Builtin.SmallTypes.ownedTupleHandOut;have hz8:IsZip (q7.push { cls:=.type "tuple",data:=.seq #[x,y,u] }) (n+5) (n+3) (n+4) .ellipsis:=Jak _ hz7;refine Jag (Jc1 hz8 (by simp) λq9 hz9 s9=>?_)
 replace hz9:IsZip q9 (n+5) (n+3) (n+4) (rawInt q7.objs.size):=hz9
 refine Jc1 hz9 (by simp) λqa hza sa=>?_
 replace hza:IsZip qa (n+5) (n+3) (n+4) (rawInt q7.objs.size):=hza
 have up:∀ c,c≠n+5->∀ o,q7.get? c=some o->qa.get? c=some o:=λc c1 o e=>sa.extBut _ _ c1 (s9.extBut _ _ c1 (Jak _ e));have ta:Tri qa q7.objs.size x y u:=sa.extBut _ _ (dA ∅) (s9.extBut _ _ (dA ∅) (Jay _ rfl));have za:qa.objs.size=q7.objs.size+1:=by rw[sa.1,s9.1,Jbv]
 rw[z7] at hza ta za;refine Jaw ⟨_,rfl,?_⟩;show Q (.ref q7.objs.size) _;rw[z7];exact hQ qa ⟨hza,up _ ∅ _ (e7 _ ∅ ∅ ∅ ∅ ∅ _ hTI),⟨_,_,_,up _ ∅ _ t7⟩,j1'.at (up _ ∅),j2'.at (up _ ∅),j3'.at (up _ ∅)⟩ ta za
  λc o hc e=>up c ∅ o (e7 c ∅ ∅ ∅ ∅ ∅ o e)
theorem z3_end {n l1 l2 l3:Nat}{k:Nat}{xs:Array Value}{Q:Fin->Shared->Prop}(hh:A.handled=none)(m1:l1<n)(Z:Z3 s.heap n l1 l2 l3 k .none)(g1:s.heap.IsList l1 xs)(hx:xs[k]?=none)(hE:∀ h' e,(∀ c o,(c<n\/n+6<=c)->s.heap.get? c=some o->h'.get? c=some o)->(∃ o,h'.get? e=some o/\o.cls=.type "StopIteration")->E (.ref e) { s with heap:=h' }):
  wpAny (model prog w) A (Builtin.«zip.__next__» ⟨[.ref (n+5)],[]⟩) Q E s:=by
 obtain⟨hz,hTI,⟨a,b,c,hTO⟩,h1,_,_⟩:=Z;show wpAny _ _ (field (.ref (n+5)) 2 >>= _) _ _ _;refine Jag (Jcm hz rfl (x:=.bool false) rfl ?_);show wpAny _ _ (field (.ref (n+5)) 3 >>= _) _ _ _;refine Jag (Jcm hz rfl (x:=.ref (n+3)) rfl (Jag (Jdb hTI rfl ?_)));show wpAny _ _ (Builtin.SmallTypes.ownedTupleIsFree (.ref (n+5)) >>= _) _ _ _;refine Jag ?_;unfold Builtin.SmallTypes.ownedTupleIsFree;refine Jag (Jcm hz rfl (x:=.none) rfl (Jaw ?_));simp only[Jb9];refine Jag (wpAny_rule (Jag (Jcm hz rfl (x:=.ref (n+4)) rfl (Jag (Jc1 hz (by simp) λq1 hz1 s1=>?_)))))
 replace hz1:IsZip q1 (n+5) (n+3) (n+4) .ellipsis:=hz1
 refine Jag ?_;simp only[List.zipIdx_cons,List.zipIdx_nil,List.forIn_cons,List.forIn_nil];have e1:∀ c,c≠n+5->∀ o,s.heap.get? c=some o->q1.get? c=some o:=λc hc o=>s1.extBut c o hc;refine Jag (Jag (Jer ?_));show wpAny _ _ (Builtin.SmallTypes.nextOf (.ref n) >>= _) _ _ _;refine Jag (wpAny_nextOf_list_end hh (h1.at (e1 _ ∅)) (g1.at (e1 _ ∅)) hx λq2 e s2 he=>?_);refine Zae he λoe hoe hce=>?_;clear he;have hz2:IsZip q2 (n+5) (n+3) (n+4) .ellipsis:=s2 _ _ (dA ∅) hz1;have hez:e≠n+5:=λx=>by subst x;rw[hz2] at hoe;cases hoe;simp at hce
 exact Jc1 hz2 (by simp) λq3 _ s3=>hE q3 e (λc o hc x=>s3.extBut _ _ (dA ∅) (s2 _ _ (dA ∅) (e1 c ∅ o x))) ⟨oe,s3.extBut _ _ hez hoe,hce⟩
theorem z3_next {n l1 l2 l3:Nat}{k:Nat}{xs ys ws:Array Value}{x y u:Value}{Q:Option Value->Shared->Prop}(m1:l1<n)(m2:l2<n)(m3:l3<n)(Z:Z3 s.heap n l1 l2 l3 k .none)(g1:s.heap.IsList l1 xs)(g2:s.heap.IsList l2 ys)(g3:s.heap.IsList l3 ws)(hx:xs[k]?=some x)(hy:ys[k]?=some y)(hu:ws[k]?=some u)(hQ:∀ h',Z3 h' n l1 l2 l3 (k+1) (rawInt s.heap.objs.size)->Tri h' s.heap.objs.size x y u->h'.objs.size=s.heap.objs.size+1->
   (∀ c o,(c<n\/n+6<=c)->s.heap.get? c=some o->h'.get? c=some o)->Q (some (.ref s.heap.objs.size)) { s with heap:=h' }):
  wpAny (model prog w) A (pyNext (.ref (n+5))) Q E s:=by
 have hT:s.TypeIs (.ref (n+5)) "zip" := ⟨_,Z.z,rfl⟩
 unfold pyNext;exact Jag (wpAny_attempt (Jdh (name:=Str.ofString "__next__") hT Jd6
  (wpAny_call_entry Jd6 hT F.entry_zip_next (z3_item m1 m2 m3 Z g1 g2 g3 hx hy hu λh' a1 a2 a3 a4=>Jaw (hQ h' a1 a2 a3 a4)) (F.args_zip_next_1 _))))
theorem z3_stop {n l1 l2 l3:Nat}{k:Nat}{xs:Array Value}{Q:Option Value->Shared->Prop}(hh:A.handled=none)(m1:l1<n)(Z:Z3 s.heap n l1 l2 l3 k .none)(g1:s.heap.IsList l1 xs)(hx:xs[k]?=none)(hQ:∀ h',(∀ c o,(c<n\/n+6<=c)->s.heap.get? c=some o->h'.get? c=some o)->Q none { s with heap:=h' }):wpAny (model prog w) A (pyNext (.ref (n+5))) Q E s:=by
 have hT:s.TypeIs (.ref (n+5)) "zip" := ⟨_,Z.z,rfl⟩
 unfold pyNext;refine Jag (wpAny_attempt (Jdh (name:=Str.ofString "__next__") hT Jd6
  (wpAny_call_entry Jd6 hT F.entry_zip_next (z3_end hh m1 Z g1 hx λh' e hk he=>?_) (F.args_zip_next_1 _))))
 refine Zae he λo ho hc=>?_;clear he;exact Jag (wpAny_isInstance (T:="StopIteration") (b:=true) ⟨o,ho,hc⟩ isSubtype_stop (Jaw (hQ _ hk)))
theorem Zsy (a b c d:Value):argsOk "object.__init__" ⟨[a,b,c,d],[]⟩:=by
 unfold argsOk;rw[signature?_of (id:="object.__init__") (n:=['_','_','t','i','n','i','_','_']) (o:=['t','c','e','j','b','o']) (by kernel_rfl) PySem.F.owner_object]
 kernel_rfl
abbrev zA (h:Heap)(l:Addr):Heap:=h.push { cls:=.type "list_iterator",data:=.fields #[.ref l,.int 0 0] }
abbrev zB (h:Heap)(l1 l2 l3:Addr):Heap:=zA (zA (zA h l1) l2) l3
abbrev zC (h:Heap)(l1 l2 l3:Addr):Heap:=(zB h l1 l2 l3).push { cls:=.type "tuple",data:=.seq #[.ref h.objs.size,.ref (zA h l1).objs.size,.ref (zA (zA h l1) l2).objs.size] }
abbrev zD (h:Heap)(l1 l2 l3:Addr):Heap:=(zC h l1 l2 l3).push { cls:=.type "tuple",data:=.seq #[.none,.none,.none] }
abbrev zE (h:Heap)(l1 l2 l3:Addr):Heap:=(zD h l1 l2 l3).push { cls:=.type "zip",data:=.fields #[.none,.bool false,.bool false,.ref (zB h l1 l2 l3).objs.size,.ref (zC h l1 l2 l3).objs.size] }
theorem Zun (l1 l2 l3:Addr)(xs ys ws:Array Value):
  Meets (Builtin.«zip.__new__» ⟨[.type "zip",.ref l1,.ref l2,.ref l3],[]⟩) (λ_ R s=>s.heap.IsList l1 xs/\s.heap.IsList l2 ys/\s.heap.IsList l3 ws/\R (.ok (.ret (.ref (zD s.heap l1 l2 l3).objs.size))) { s with heap:=zE s.heap l1 l2 l3 }):=
 .of_wp λprog w A R s h=>by
  obtain⟨hp,g,d,tk,os⟩:=s;obtain⟨g1,g2,g3,h⟩:=h;have sub:=sub_zip;have q1:Heap.IsList (Shared.heap ⟨hp,g,d,tk,os⟩) l1 xs:=g1;have q2:Heap.IsList (Shared.heap ⟨zA hp l1,g,d,tk,os⟩) l2 ys:=Heap.IsList.push g2 _;have q3:Heap.IsList (Shared.heap ⟨zA (zA hp l1) l2,g,d,tk,os⟩) l3 ws:=Heap.IsList.push (Heap.IsList.push g3 _) _
  wp_walk using Jcs q1,Jcs q2,Jcs q3
  exact⟨_,rfl,h⟩
theorem call_z3 {l1 l2 l3:Addr}{xs ys ws:Array Value}{Q:Value->Shared->Prop}(g1:s.heap.IsList l1 xs)(g2:s.heap.IsList l2 ys)(g3:s.heap.IsList l3 ws)(h:∀ h',Z3 h' s.heap.objs.size l1 l2 l3 0 .none->h'.objs.size=s.heap.objs.size+6->(∀ c o,s.heap.get? c=some o->h'.get? c=some o)->Q (.ref (s.heap.objs.size+5)) { s with heap:=h' }):
  wpAny (model prog w) A (call (.type "zip") [.ref l1,.ref l2,.ref l3]) Q E s:=by
 refine callType_new F.called_zip ⇑0 (by kernel_rfl) (by kernel_rfl) (λobj=>Zsy obj _ _ _) F.entry_zip_new (Zun l1 l2 l3 xs ys ws) ⟨g1,g2,g3,?_⟩;have z1:(zA s.heap l1).objs.size=s.heap.objs.size+1:=Jbv ..;have z2:(zA (zA s.heap l1) l2).objs.size=s.heap.objs.size+2:=by rw[Jbv,z1]
 have z3:(zB s.heap l1 l2 l3).objs.size=s.heap.objs.size+3:=by rw[Jbv,z2]
 have z4:(zC s.heap l1 l2 l3).objs.size=s.heap.objs.size+4:=by rw[Jbv,z3]
 have z5:(zD s.heap l1 l2 l3).objs.size=s.heap.objs.size+5:=by rw[Jbv,z4]
 have z6:(zE s.heap l1 l2 l3).objs.size=s.heap.objs.size+6:=by rw[Jbv,z5]
 have up:∀ (q:Heap) (o:Obj) c u,q.get? c=some u->(q.push o).get? c=some u:=λq o c u e=>Jak _ e;have a6:(zE s.heap l1 l2 l3).get? (zD s.heap l1 l2 l3).objs.size=some _:=Jay _ rfl;have a5:(zE s.heap l1 l2 l3).get? (zC s.heap l1 l2 l3).objs.size=some _:=up _ _ _ _ (Jay _ rfl);have a4:(zE s.heap l1 l2 l3).get? (zB s.heap l1 l2 l3).objs.size=some _:=up _ _ _ _ (up _ _ _ _ (Jay _ rfl));have a3:(zE s.heap l1 l2 l3).get? (zA (zA s.heap l1) l2).objs.size=some _:=up _ _ _ _ (up _ _ _ _ (up _ _ _ _ (Jay _ rfl)));have a2:(zE s.heap l1 l2 l3).get? (zA s.heap l1).objs.size=some _:=up _ _ _ _ (up _ _ _ _ (up _ _ _ _ (up _ _ _ _ (Jay _ rfl))));have a1:(zE s.heap l1 l2 l3).get? s.heap.objs.size=some _:=up _ _ _ _ (up _ _ _ _ (up _ _ _ _ (up _ _ _ _ (up _ _ _ _ (Jay _ rfl)))));show _/\_;rw[z3,z4,z5] at a6;rw[z1,z2,z3] at a4;rw[z4] at a5;rw[z1] at a2;rw[z2] at a3;rw[z5];exact⟨⟨_,a6,rfl⟩,h _ ⟨a6,a4,⟨_,_,_,a5⟩,⟨_,a1,rfl,rfl⟩,⟨_,a2,rfl,rfl⟩,⟨_,a3,rfl,rfl⟩⟩ z6 λc o x=>up _ _ _ _ (up _ _ _ _ (up _ _ _ _ (up _ _ _ _ (up _ _ _ _ (up _ _ _ _ x)))))⟩
end
end L2
namespace L2
open PySem PySem.Spec PyProof.Rows
def Ity (K:Frag)(a b c:Addr):It:=
 ⟨λi H=>∃ xs ys ws x y u,SqL K H a xs/\SqL K H b ys/\SqL K H c ws/\xs[i]?=some x/\ys[i]?=some y/\ws[i]?=some u,λi H v H'=>∃ x y u p,v=.ref p/\H p=none/\H'=upd H p (.tup [x,y,u])/\(∀ xs,SqL K H a xs->xs[i]?=some x)/\(∀ ys,SqL K H b ys->ys[i]?=some y)/\∀ ws,SqL K H c ws->ws[i]?=some u,λi H=>∃ xs,SqL K H a xs/\xs.length<=i⟩
theorem mem6 {n c:Nat}(h:c∈[n+5,n+3,n+4,n,n+1,n+2]):n<=c/\c<n+6:=by
 simp only[Ja5,Jce,Jeg] at h;omega
theorem out6 {n c:Nat}(h:c∉[n+5,n+3,n+4,n,n+1,n+2]):c<n\/n+6<=c:=by
 simp only[Ja5,Jce,Jeg] at h;omega
theorem Z3.keep {h h':Heap}{n l1 l2 l3 k:Nat}{f:Value}(Z:Z3 h n l1 l2 l3 k f)(e:∀ c∈[n+5,n+3,n+4,n,n+1,n+2],∀ o,h.get? c=some o->h'.get? c=some o):Z3 h' n l1 l2 l3 k f:=by
 obtain⟨hz,hTI,⟨a,b,c,hTO⟩,h1,h2,h3⟩:=Z;exact⟨e _ (by simp) _ hz,e _ (by simp) _ hTI,⟨_,_,_,e _ (by simp) _ hTO⟩,h1.at λo q=>e _ (by simp) o q,h2.at λo q=>e _ (by simp) o q,h3.at λo q=>e _ (by simp) o q⟩
theorem Zp3 {P:Program}{w:World}{K:Frag}{elts:List Expr}{x1:Nat}{pos:Pos}{n a b c:Nat}(m1:a<n)(m2:b<n)(m3:c<n):
  Turn P w K (.Tuple elts x1 pos) (Ity K a b c) [n+5,n+3,n+4,n,n+1,n+2] (n+5) (λi h=>Z3 h n a b c i .none) where
 mem:=by simp
 obj:=λi h st c hc=>by
  obtain⟨hz,hTI,⟨_,_,_,hTO⟩,⟨o1,e1,c1,d1⟩,⟨o2,e2,c2,d2⟩,⟨o3,e3,c3,d3⟩⟩:=st;simp only[Ja5,Jce,Jeg] at hc;rcases hc with rfl|rfl|rfl|rfl|rfl|rfl
  .exact ⟨_,hz,λv z=>by have z':Data.fields _=Data.cell v:=z;cases z'⟩
  .exact ⟨_,hTI,λv z=>by have z':Data.seq _ _=Data.cell v:=z;cases z'⟩
  .exact ⟨_,hTO,λv z=>by have z':Data.seq _ _=Data.cell v:=z;cases z'⟩
  .exact ⟨o1,e1,λv z=>by rw[d1] at z;cases z⟩
  .exact ⟨o2,e2,λv z=>by rw[d2] at z;cases z⟩
  .exact ⟨o3,e3,λv z=>by rw[d3] at z;cases z⟩
 keep:=λi h h' st k=>st.keep λc hc o e=>k c hc o e
 item:=by
  intro X hP hw hK hc i pins s σ H E I hf st hg;subst hP hw hK;refine Zs5 hg λxs ys ws x y u hqa hqb hqc e92=>?_;clear hg;refine Zba e92 λhx hy hu=>?_;clear e92;refine Zas (I.list hqa) λits rv p hz1=>?_;refine Zas (I.list hqb) λits2 rv2 p2 hz2=>?_;refine Zas (I.list hqc) λits3 rv3 p3 hz3=>?_;refine Zae (rv.get hx) λu1 hu1 ru1=>?_;refine Zae (rv2.get hy) λu2 hu2 ru2=>?_;refine Zae (rv3.get hu) λu3 hu3 ru3=>?_;have lz:n+5<s.heap.objs.size:=Jan st.z;refine z3_next m1 m2 m3 st p.isList p2.isList p3.isList (by simpa using hu1) (by simpa using hu2) (by simpa using hu3) λh' a1 a2 a3 a4=>?_;refine⟨_,rfl,wpAny_letOwnedTupleGo_zip a1.z λh'' b1 b2=>?_⟩;have nz:(s.heap.objs.size:Addr)≠n+5:=Nat.ne_of_gt lz;have k2:∀ c o,c∉[n+5,n+3,n+4,n,n+1,n+2]->s.heap.get? c=some o->h''.get? c=some o:=λc o hc e=>b2.extBut _ _ (λz=>hc (by rw[z];simp)) (a4 c o (out6 hc) e);have I2:Inv X pins σ (upd H s.heap.objs.size (.tup [x,y,u])) { s with heap:=h'' }:=I.turnedT (t':=s.toks) hf k2 (Jaj _)
   ⟨by show 3<=sizeLine;decide,[u1,u2,u3],.cons ru1 (.cons ru2 (.cons ru3 .nil)),_,b2.extBut _ _ nz a2,rfl,_,rfl⟩
  refine Zaq (.ref s.heap.objs.size) _ ⟨I2,rfl,⟨x,y,u,_,rfl,I.hok.fresh (Jaj _),rfl,λxs' hq=>by rw[I.list_inj hq hqa];exact hx,λys' hq=>by rw[I.list_inj hq hqb];exact hy,λws' hq=>by rw[I.list_inj hq hqc];exact hu⟩,?_,λc hc=>?_⟩
  .obtain ⟨_,ti,⟨_,_,_,to⟩,j1,j2,j3⟩:=a1;have up:∀ c,c≠n+5->∀ o,h'.get? c=some o->h''.get? c=some o:=λc hc o e=>b2.extBut c o hc e;exact⟨b1,up _ ∅ _ ti,⟨_,_,_,up _ ∅ _ to⟩,j1.at (up _ ∅),j2.at (up _ ∅),j3.at (up _ ∅)⟩
  .have:=mem6 hc;rw[Zal (Jbs (Jaq this.2 lz))];exact (hf c hc).1
 done:=by
  intro X hP hw hK hc i pins s σ H E I hf st hg;subst hP hw hK;refine Zae hg λxs hqa hx=>?_;clear hg;refine Zas (I.list hqa) λits rv p hz1=>?_;have l1:=rv.length;exact z3_stop (I.ok.hd hc) m1 st p.isList (by simp;omega) λh' kk=>⟨rfl,I.turnedL (t':=s.toks) hf λc o hc e=>kk c o (out6 hc) e⟩
 self:=λ_ _ _ _ _ st h=>Jdw st.z h
section
variable {X:Cx}
def iZ3 (K:Frag)(ta:TA):TI:=λσ H R=>ta σ H λvs H1=>∃ a b c,vs=[.ref a,.ref b,.ref c]/\(∃ xs,SqL K H1 a xs)/\(∃ ys,SqL K H1 b ys)/\(∃ ws,SqL K H1 c ws)/\R (Ity K a b c) H1
theorem pi_z3 {elts:List Expr}{x1:Nat}{pt p pos:Pos}{a b c:Expr}{ta:TA}(hg:Gl X "zip")(hm:X.mg "zip" = none)(ha:PA X [a,b,c] ta)(h:Zb2 a=false:=by rfl)(h2:Zb2 b=false:=by rfl)(h3:Zb2 c=false:=by rfl):
  PI X (.Tuple elts x1 pt) (.Call (.Name "zip" p) [a,b,c] [] pos) (iZ3 X.K ta):=by
 intro pins s σ H R I hh;refine Call_ (Zjk I hg hm boot_zip (Jb5 (thn (ha pos pins s σ H _ I hh) λus s1 ⟨vs,H1,I1,r1,q1⟩=>?_) (by rw[Za5 h,Za5 h2,Za5 h3]) (by rw[Za5 h2,Za5 h3];rfl)));refine Zcx q1 λa' b' c' e e93 e94 e95=>?_;clear q1;obtain⟨xs,hq1⟩:=e93;obtain⟨ys,hq2⟩:=e94;obtain⟨⟨ws,hq3⟩,q⟩:=e95;subst e;cases r1 with
 | cons r rr=>
  cases rr with
  | cons r' rr=>
   cases rr with
   | cons r'' rr=>
    cases rr;cases r;cases r';cases r'';refine Zas (I1.list hq1) λits rv p1 hz1=>?_;refine Zas (I1.list hq2) λits2 rv2 p2 hz2=>?_;refine Zas (I1.list hq3) λits3 rv3 p3 hz3=>?_;have lt1:a'<s1.heap.objs.size:=by obtain⟨o,ho,_⟩:=p1.isList;exact Jan ho
    have lt2:b'<s1.heap.objs.size:=by obtain⟨o,ho,_⟩:=p2.isList;exact Jan ho
    have lt3:c'<s1.heap.objs.size:=by obtain⟨o,ho,_⟩:=p3.isList;exact Jan ho
    refine call_z3 p1.isList p2.isList p3.isList λh' a1 a2 a3=>Jdw (s:={ s1 with heap:=h' }) a1.z ?_;refine Zlh _ _ _ _ H1 ⟨rfl,I1.kept (t':=s1.toks) a3,Zp3 lt1 lt2 lt3,a1,λb hb=>?_,q⟩;have hb':s1.heap.objs.size<=b:=(mem6 hb).1;exact I1.fpOk (H':=H1) hb' (I1.hok.fresh hb')
end
section
variable {K:Frag}{a b c D:Addr}{xs ys ws:List V}{g:TG}{tt:TT}{te:TE}{k:Nat}{fr:List (Str×Nat)}{σ:St}{H1:Hp}{Q:VK}
theorem Zou (Pv:Nat->List V->Hp->Prop)(l2:ys.length=xs.length)(l3:ws.length=xs.length)(h0:Pv 0 [] (upd H1 D (.lst [])))(hl:∀ i vs H,i<=xs.length->Pv i vs H->SqL K H a xs/\SqL K H b ys/\SqL K H c ws)(hs:∀ i x y u p vs σ' H,i<xs.length->xs[i]?=some x->ys[i]?=some y->ws[i]?=some u->H p=none->Sh k (Zbq fr σ) σ'->Pv i vs H->Zfr g tt te D xs.length k (Zbq fr σ) Pv i (.ref p) σ' (upd H p (.tup [x,y,u])))(hd:∀ vs H,Pv xs.length vs H->Q (.ref D) H):
  Zbw g tt te (Ity K a b c) D (Zha k fr σ) H1 Q:=by
 refine⟨Wv xs.length k (Zbq fr σ) Pv,⟨xs.length,by simp,Jck _,sh0,[],h0⟩,?_⟩;intro i m σ' H2 e91;refine Zck e91 λe96 hi sh e97=>?_;clear e91;obtain rfl:=e96;obtain⟨vs,p⟩:=e97;refine Zba (hl i vs H2 hi p) λq1 q2 q3=>?_;by_cases hlt:i<xs.length
 .refine .inr ⟨⟨xs,ys,ws,xs[i],ys[i]'(by omega),ws[i]'(by omega),q1,q2,q3,by simp[hlt],by simp[l2,hlt],by simp[l3,hlt]⟩,λx H3 y=>?_⟩;refine Zc6 y λu v r pp e98 hp e99 e910=>?_;clear y;obtain rfl:=e98;obtain rfl:=e99;refine Zba e910 λe1 e2 e3=>?_;clear e910;exact hs i u v r pp vs σ' _ hlt (e1 _ q1) (e2 _ q2) (e3 _ q3) hp sh p
 .have e:i=xs.length:=∅
  subst e;exact .inl ⟨⟨xs,q1,Jaj _⟩,hd vs H2 p⟩
end
def EqG (K:Frag)(H:Hp)(n:Nat)(x y:V)(b:Bool):Prop:=∀ (X:Cx) (pins:List (Addr×Obj)) (σ:St) (s:Shared),X.K=K->Inv X pins σ H s->∀ (A:Around) (u v:Value),A.units+n<cLine->RelV x u->RelV y v->SeqAt.EqAt A s u v b
def RcG (K:Frag)(H:Hp)(n:Nat)(x y:V)(b:Bool):Prop:=∀ (X:Cx) (pins:List (Addr×Obj)) (σ:St) (s:Shared),X.K=K->Inv X pins σ H s->∀ (A:Around) (u v:Value),A.units+n<cLine->RelV x u->RelV y v->SeqAt.RcAt A s u v b
def rEqG (K:Frag):R2:=λx y H Q=>∃ b,RcG K H 8 x y b/\Q (.bl b) H
theorem Zki {X:Cx}(hu:X.A.units+8<cLine):OpR X (compareOp .Eq) (rEqG X.K):=by
 intro pins s σ H x y v u Q I rx ry h;obtain⟨b,hb,q⟩:=h;exact hb X pins σ s rfl I X.A _ _ hu rx ry _ _ _ _ ⟨.bl b,H,I,rfl,q⟩
inductive Kd (K:Frag) (H:Hp):V->Nat->Prop where
 | non:Kd K H .non 0
 | bl (b:Bool):Kd K H (.bl b) 1
 | int (i:Int):Kd K H (.int i) 2
 | str (z:Str):Kd K H (.str z) 3
 | lst {a:Addr} {xs:List V} (h:SqL K H a xs):Kd K H (.ref a) 4
 | tup {a:Addr} {xs:List V} (h:SqT K H a xs):Kd K H (.ref a) 5
theorem rel_int {i:Int}{u:Value}(h:RelV (.int i) u):∃ t,u=.int i t:=by simpa [RelV] using h
theorem Zi9 {i:Str}{u:Value}(h:RelV (.str i) u):∃ t,u=.str i t:=by simpa [RelV] using h
theorem EqG.rel {K:Frag}{H:Hp}{n:Nat}{x y:V}{b:Bool}(h:EqD K H n x y b):EqG K H n x y b:=λX pins σ s hK I A u v hu ru rv=>by
 subst hK;exact h.at I hu ru rv
section
variable {K:Frag}{H:Hp}
inductive KdV (s:Shared):Value->Nat->Prop where
 | non:KdV s .none 0
 | bl (b:Bool):KdV s (.bool b) 1
 | int (i:Int) (t:Tok):KdV s (.int i t) 2
 | str (z:Str) (t:Tok):KdV s (.str z t) 3
 | lst {l:Addr} {items:Array Value} (h:s.heap.IsList l items):KdV s (.ref l) 4
 | tup {l:Addr} {items:Array Value} (h:s.heap.IsTuple l items):KdV s (.ref l) 5
theorem Kd.at {X:Cx}{pins:List (Addr×Obj)}{σ:St}{s:Shared}(I:Inv X pins σ H s){x:V}{i:Nat}{u:Value}(h:Kd X.K H x i)(r:RelV x u):KdV s u i:=by
 cases h with
 | non=>cases r;exact .non
 | bl b=>cases r;exact .bl b
 | int i=>obtain⟨t,rfl⟩:=rel_int r;exact .int i t
 | str z=>obtain⟨t,rfl⟩:=Zi9 r;exact .str z t
 | lst h=>cases r;obtain⟨_,_,p,_⟩:=I.list h;exact .lst p.isList
 | tup h=>cases r;obtain⟨_,_,p,_⟩:=I.tuple h;exact .tup p
theorem kdRc {s:Shared}{A:Around}{u v:Value}{i j:Nat}(a:KdV s u i)(b:KdV s v j)(hu:A.units<cLine)(h:(decide (i≠j) && decide (3<=j))=true):SeqAt.RcAt A s u v false:=by
 cases a with
 | non=>
  cases b with
  | non=>cases h
  | bl b2=>cases h
  | int i2 t2=>cases h
  | str z2 t2=>exact SeqAt.RcAt.none_str _ _
  | lst h2=>exact SeqAt.RcAt.none_list h2 hu
  | tup h2=>exact SeqAt.RcAt.none_tuple h2 hu
 | bl b1=>
  cases b with
  | non=>cases h
  | bl b2=>cases h
  | int i2 t2=>cases h
  | str z2 t2=>exact SeqAt.RcAt.bool_str _ _ _
  | lst h2=>exact SeqAt.RcAt.bool_list _ h2 hu
  | tup h2=>exact SeqAt.RcAt.bool_tuple _ h2 hu
 | int i1 t1=>
  cases b with
  | non=>cases h
  | bl b2=>cases h
  | int i2 t2=>cases h
  | str z2 t2=>exact SeqAt.RcAt.int_str _ _ _ _
  | lst h2=>exact SeqAt.RcAt.int_list _ _ h2 hu
  | tup h2=>exact SeqAt.RcAt.int_tuple _ _ h2 hu
 | str z1 t1=>
  cases b with
  | non=>cases h
  | bl b2=>cases h
  | int i2 t2=>cases h
  | str z2 t2=>cases h
  | lst h2=>exact SeqAt.RcAt.str_list _ _ h2 hu
  | tup h2=>exact SeqAt.RcAt.str_tuple _ _ h2 hu
 | lst h1=>
  cases b with
  | non=>cases h
  | bl b2=>cases h
  | int i2 t2=>cases h
  | str z2 t2=>exact SeqAt.RcAt.list_str _ _ h1 hu
  | lst h2=>cases h
  | tup h2=>exact SeqAt.RcAt.list_tuple h1 h2 hu
 | tup h1=>
  cases b with
  | non=>cases h
  | bl b2=>cases h
  | int i2 t2=>cases h
  | str z2 t2=>exact SeqAt.RcAt.tuple_str _ _ h1 hu
  | lst h2=>exact SeqAt.RcAt.tuple_list h1 h2 hu
  | tup h2=>cases h
theorem RcG.kinds {x y:V}{i j n:Nat}(hx:Kd K H x i)(hy:Kd K H y j)(h:(decide (i≠j) && decide (3<=j))=true):RcG K H n x y false:=λX pins σ s hK I A u v hu ru rv=>by
 subst hK;exact kdRc (hx.at I ru) (hy.at I rv) (oz167 hu) h
theorem kdEq {s:Shared}{A:Around}{u v:Value}{i j:Nat}(a:KdV s u i)(b:KdV s v j)(hu:A.units<cLine)(h:(decide (i≠j) && decide (3<=j))=true):SeqAt.EqAt A s u v false:=by
 cases a with
 | non=>
  cases b with
  | non=>cases h
  | bl b2=>cases h
  | int i2 t2=>cases h
  | str z2 t2=>exact SeqAt.EqAt.none_str _ _
  | lst h2=>exact SeqAt.EqAt.none_list h2 hu
  | tup h2=>exact SeqAt.EqAt.none_tuple h2 hu
 | bl b1=>
  cases b with
  | non=>cases h
  | bl b2=>cases h
  | int i2 t2=>cases h
  | str z2 t2=>exact SeqAt.EqAt.bool_str _ _ _
  | lst h2=>exact SeqAt.EqAt.bool_list _ h2 hu
  | tup h2=>exact SeqAt.EqAt.bool_tuple _ h2 hu
 | int i1 t1=>
  cases b with
  | non=>cases h
  | bl b2=>cases h
  | int i2 t2=>cases h
  | str z2 t2=>exact Jea _ _ _ _
  | lst h2=>exact SeqAt.EqAt.int_list _ _ h2 hu
  | tup h2=>exact SeqAt.EqAt.int_tuple _ _ h2 hu
 | str z1 t1=>
  cases b with
  | non=>cases h
  | bl b2=>cases h
  | int i2 t2=>cases h
  | str z2 t2=>cases h
  | lst h2=>exact SeqAt.EqAt.str_list _ _ h2 hu
  | tup h2=>exact SeqAt.EqAt.str_tuple _ _ h2 hu
 | lst h1=>
  cases b with
  | non=>cases h
  | bl b2=>cases h
  | int i2 t2=>cases h
  | str z2 t2=>exact SeqAt.EqAt.list_str _ _ h1 hu
  | lst h2=>cases h
  | tup h2=>exact SeqAt.EqAt.list_tuple h1 h2 hu
 | tup h1=>
  cases b with
  | non=>cases h
  | bl b2=>cases h
  | int i2 t2=>cases h
  | str z2 t2=>exact SeqAt.EqAt.tuple_str _ _ h1 hu
  | lst h2=>exact SeqAt.EqAt.tuple_list h1 h2 hu
  | tup h2=>cases h
theorem EqG.kinds {x y:V}{i j n:Nat}(hx:Kd K H x i)(hy:Kd K H y j)(h:(decide (i≠j) && decide (3<=j))=true):EqG K H n x y false:=λX pins σ s hK I A u v hu ru rv=>by
 subst hK;exact kdEq (hx.at I ru) (hy.at I rv) (oz167 hu) h
theorem RcG.str {n:Nat}(a b:Str):RcG K H n (.str a) (.str b) (a == b):=λX pins σ s hK I A u v hu ru rv=>by
 obtain⟨t,rfl⟩:=Zi9 ru;obtain⟨t',rfl⟩:=Zi9 rv;exact SeqAt.RcAt.str_str _ _ _ _
theorem EqG.str {n:Nat}(a b:Str):EqG K H n (.str a) (.str b) (a == b):=λX pins σ s hK I A u v hu ru rv=>by
 obtain⟨t,rfl⟩:=Zi9 ru;obtain⟨t',rfl⟩:=Zi9 rv;exact SeqAt.EqAt.str_str _ _ _ _
theorem RcG.listL {n:Nat}{a c:Addr}{xs ys:List V}(ha:SqL K H a xs)(hc:SqL K H c ys)(hl:xs.length≠ys.length):RcG K H n (.ref a) (.ref c) false:=λX pins σ s hK I A u v hu ru rv=>by
 subst hK;cases ru;cases rv;obtain⟨its,r1,p1,_⟩:=I.list ha;obtain⟨its',r2,p2,_⟩:=I.list hc;have e1:=r1.length;have e2:=r2.length;exact SeqAt.RcAt.lists_lengths p1.isList p2.isList (by simp;exact oz142 hl e1 e2) (oz167 hu)
theorem Zv4 {X:Cx}{pins:List (Addr×Obj)}{σ:St}{s:Shared}(I:Inv X pins σ H s){A:Around}{n:Nat}(hu:A.units+n<cLine){e:Nat->Bool}:∀ {xs ys:List V} {us vs:List Value},Vals xs us->Vals ys vs->(∀ (j:Nat) x y,xs[j]?=some x->ys[j]?=some y->EqG X.K H n x y (e j))->∀ j (h1:j<us.toArray.size) (h2:j<vs.toArray.size),SeqAt.EqAt A s us.toArray[j] vs.toArray[j] (e j):=λ{xs ys us vs} r1 r2 he j h1 h2=>by
 have l1:=r1.length;have l2:=r2.length;simp only[Jal] at h1 h2;have e1:xs[j]?=some (xs[j]'(Zly l1 h1)):=Jaa _;have e2:ys[j]?=some (ys[j]'(Zly l2 h2)):=Jaa _;obtain⟨w1,f1,q1⟩:=r1.get e1;obtain⟨w2,f2,q2⟩:=r2.get e2;refine he j _ _ e1 e2 X pins σ s rfl I A _ _ hu ?_ ?_
 .rw [Jaa (oz31 h1)] at f1;cases f1;exact q1
 .rw [Jaa (oz31 h2)] at f2;cases f2;exact q2
theorem RcG.lists {n:Nat}{a c:Addr}{xs ys:List V}{e:Nat->Bool}(ha:SqL K H a xs)(hc:SqL K H c ys)(hl:xs.length=ys.length)(he:∀ (j:Nat) x y,xs[j]?=some x->ys[j]?=some y->EqG K H n x y (e j)):RcG K H (n+1) (.ref a) (.ref c) ((List.range xs.length).all e):=λX pins σ s hK I A u v hu ru rv=>by
 subst hK;cases ru;cases rv;obtain⟨its,r1,p1,_⟩:=I.list ha;obtain⟨its',r2,p2,_⟩:=I.list hc;have e1:=r1.length;have e2:=r2.length;have q:=SeqAt.RcAt.lists (A:=A) (e:=e) p1.isList p2.isList (by simp;exact oz161 hl e1 e2) (oz180 hu) (Zv4 (A:=A.in1) I (show A.units+1+n<cLine by exact oz151 hu) r1 r2 he);rwa [show its.toArray.size=xs.length by simp;exact oz50 e1] at q
theorem RcG.tup1 {n:Nat}{a c:Addr}{x y:V}{xs:List V}{b:Bool}(ha:SqT K H a (x::xs))(hc:SqT K H c [y])(he:EqG K H n x y b):RcG K H (n+1) (.ref a) (.ref c) (b && decide (xs.length=0)):=λX pins σ s hK I A u v hu ru rv=>by
 subst hK;cases ru;cases rv;obtain⟨its,r1,p1,_⟩:=I.tuple ha;obtain⟨its',r2,p2,_⟩:=I.tuple hc;have e1:=r1.length;have e2:=r2.length;simp only[Jcl,Jd7] at e1 e2;have q:=SeqAt.RcAt.tuples (A:=A) (e:=λ_=>b) p1 p2 (oz180 hu) (Zv4 (A:=A.in1) I (show A.units+1+n<cLine by exact oz151 hu) r1 r2 λj x' y' f1 f2=>by
  match j,f1,f2 with
  | 0,f1,f2=>cases f1;cases f2;exact he
  | j+1,_,f2=>cases f2)
 rw[show min its.toArray.size its'.toArray.size=1 by simp;exact oz41 e1 e2,show (its.toArray.size == its'.toArray.size)=decide (xs.length=0) by rw[Jcb,Jbu,Jc2];simp only[Jal];exact oz55 e1 e2] at q;rwa [show (List.range 1).all (λ_=>b)=b by cases b <;> rfl] at q
end
end L2
set_option maxHeartbeats 4000000
open PySem L2 PyProof.Rows
local macro_rules|`($i>>>$n)=>`(@Zad _ _ $i _ $n rfl (Or.inl rfl) (Or.inl rfl))
local macro_rules|`($i<<<$l)=>`(@Zad _ _ $i _ (show (($l) : List Str).Nodup by decide +kernel) rfl (Or.inl rfl) (Or.inr rfl))
local macro_rules|`($i|||$n|||$x)=>`(Zap (i:=$i) $n rfl (Or.inl rfl) $x)
local macro_rules|`($a^^^$b)=>`(@Zag _ _ _ _ _ $a $b (by rfl))
local macro_rules|`($c<$>$h<$>$x)=>`(Za4 $c ($h).m rfl $x)
local macro_rules | `($a<&>$b)=>`(@pa_c _ _ _ _ _ $a $b ⇑1)
local macro_rules | `($a<*>$b)=>`(@Ztt _ _ _ _ _ $a $b)
local macro_rules | `($o<|>$a<&&>$b)=>`(@pe_op _ _ _ _ _ _ _ _ $o $a $b)
local macro_rules | `($o<|>$a<||>$b)=>`(@pe_ix _ _ _ _ _ _ _ $o $a $b (λ_ _=>rfl))
local macro_rules | `(~~~$x)=>`(@Zau _ _ _ (@ps_ret _ _ _ _ $x))
local macro_rules | `(tactic| walk_at "wp")=>do
 let f (s:String):=(s.splitOn " ").toArray.map λx=>Lean.mkIdent x.toName
 let a:=f "tv0 tv1 tv2 tv3 tv4 tv5 tv6 tv7 tv8 tv9 tv10 tv11 tv12 tv13 pI0 pI pU pIxL pIxT pEb pEi pEr pEqT pEqL pSlL pCat pApp pTup pL1 pL0 pLi pE5 Ztg tIfS Ztf tOp tUn tVr Zog Zrd Zrc Zv0 Zre rJ0 rJ rEqJ rNeJ tTst rIxJ rIxTJ rAppJ tFldJ tC tCB Zf3 Zs1 tRet tRetN tNext tDrop tAsg tAug ipI Zbp Zv7 Zjz gNil gSub tTup tLst tSl Zmo tPart Zny Zo2 tBM tBM0 tPar tB tAnd tOr tNot tAndV tOrV tNotV tIf Ze0 Zp9 Zp8 tFld sFld tAugS rGetL rI0 rI rU rIxL rIxT rSetL rSlL Zja rEqG iZ3 Zvu iEnm iRvl tLE gSl0 tMinL rBits tTry hEnds Zvo hnd_K pnx_K rCat rEq rNe rEqL rEqT rIn Zqm Zqn Zql Zr5 iTup Zr4 Zuv cV cx_K in_K Zvm E0 L2.Zhe"
 let b:=f "Zhs List.map List.length List.replicate List.cons_append List.nil_append List.getElem?_cons_zero List.getElem?_cons_succ List.set_cons_zero List.set_cons_succ"
 let c:=f "List.append_nil Option.some.injEq exists_eq_left' exists_eq_left exists_and_left V.int.injEq V.bl.injEq V.ref.injEq V.ty.injEq List.cons.injEq reduceCtorEq false_and and_false exists_false Jeg false_or and_true true_and Nat.reduceSub Nat.reduceAdd Nat.reduceLT Jb9 if_false Bool.false_eq_true"
 `(tactic| ((try dsimp only [$[↓$a:term],*,$[$b:term],*]);(try simp only[$[↓$a:term],*,$[$b:term],*,$[$c:term],*])))
namespace Pf
open PySem L2 PyProof.Rows
def top (i:Nat):Stmt:=PySem.Challenge.pw_limbtables_k67_papers_of_no_form.main.body.getD i (.Pass ⟨0,0,0,0⟩)
abbrev Zfi:Stmt:=top 11
abbrev Zdo:Stmt:=top 20
abbrev Zhl:Stmt:=top 21
abbrev Zeb:Stmt:=Zjn (top 22) 0
abbrev Zc9:Stmt:=top 12
abbrev Zdn:Stmt:=top 13
abbrev Zf7:Stmt:=top 14
abbrev Zdq:Stmt:=top 15
abbrev Zcm:Stmt:=top 16
abbrev Zhj:Stmt:=top 27
abbrev Zkw:Stmt:=top 28
abbrev Zmy:Stmt:=top 29
abbrev Zi0:Stmt:=top 30
abbrev Ziz:Stmt:=top 31
abbrev Zf5:Stmt:=top 32
abbrev Zf8:Stmt:=top 33
abbrev Zd8:Stmt:=top 34
abbrev Zgb:Stmt:=top 42
abbrev Zdf:Stmt:=top 43
abbrev Zfa:Stmt:=top 44
abbrev Zdt:Stmt:=Zjn (top 45) 0
abbrev Zf6:Stmt:=top 46
abbrev Zdg:Stmt:=top 47
abbrev Zix:Stmt:=top 48
abbrev Zds:Stmt:=top 54
abbrev Zem:Stmt:=top 55
abbrev Zib:Stmt:=top 56
abbrev Zbr:Stmt:=top 58
abbrev Zdp:Stmt:=top 59
abbrev Zc7:Stmt:=top 60
abbrev Zi1:Stmt:=top 61
abbrev Zhk:Stmt:=top 64
abbrev Zd9:Stmt:=top 65
abbrev Zhm:Stmt:=top 66
abbrev Zi8:Stmt:=top 67
abbrev Ziy:Stmt:=top 68
abbrev Zel:Stmt:=top 69
abbrev Zen:Stmt:=Zjn (top 70) 0
abbrev Zaw:Stmt:=Zjn (top 70) 1
abbrev Zcd:Stmt:=Zjn (top 70) 6
abbrev Zhi:Stmt:=top 72
abbrev Zi6:Stmt:=top 73
abbrev Zhh:Stmt:=top 74
abbrev Zi5:Stmt:=top 75
abbrev Ze9:Stmt:=top 76
abbrev Zcl:Stmt:=top 77
abbrev Ze8:Stmt:=top 78
abbrev Zi7:Stmt:=top 79
abbrev Zi3:Stmt:=top 80
abbrev Zi4:Stmt:=top 81
abbrev Zhg:Stmt:=top 82
abbrev Zf9:Stmt:=top 83
abbrev Zga:Stmt:=top 84
abbrev Zek:Stmt:=top 85
abbrev Zea:Stmt:=top 86
abbrev Zi2:Stmt:=top 87
abbrev Zcc:Stmt:=top 88
abbrev Zb6:Stmt:=top 89
abbrev Zcb:Stmt:=top 90
abbrev Ze7:Stmt:=top 91
abbrev Zdr:Stmt:=top 92
abbrev Zc8:Stmt:=top 93
abbrev Zkv:Stmt:=top 94
theorem Zej:FnScope ["thing"] ["thing"] (Zaf Zfi):=⟨rfl,rfl,rfl,⋯,rfl,⋯,⋯⟩
theorem Zet:FnScope ["many","arrows"] ["many","arrows"] (Zaf Zdo):=⟨rfl,rfl,rfl,⋯,rfl,⋯,⋯⟩
theorem Ziv:FnScope ["many","thing"] ["many","thing"] (Zaf Zhl):=⟨rfl,rfl,rfl,⋯,rfl,⋯,⋯⟩
theorem Ze6:FnScope ["self","many","arrows"] ["self","many","arrows"] (Zaf Zeb):=⟨rfl,rfl,rfl,⋯,rfl,⋯,⋯⟩
theorem Zef:FnScope ["one","other"] ["one","other"] (Zaf Zc9):=⟨rfl,rfl,rfl,⋯,rfl,⋯,⋯⟩
theorem Zes:FnScope ["one","other"] ["one","other"] (Zaf Zdn):=⟨rfl,rfl,rfl,⋯,rfl,⋯,⋯⟩
theorem Zhw:FnScope ["one","other","shift","a","b","c","d"] ["one","other"] (Zaf Zf7):=⟨rfl,rfl,rfl,⋯,rfl,⋯,⋯⟩
theorem Zev:FnScope ["one","other","a","b","c","d","many"] ["one","other"] (Zaf Zdq):=⟨rfl,rfl,rfl,⋯,rfl,⋯,⋯⟩
theorem Zd5:FnScope ["one","other"] ["one","other"] (Zaf Zcm):=⟨rfl,rfl,rfl,⋯,rfl,⋯,⋯⟩
theorem Zit:FnScope ["ground","thing","high","wide","rows"] ["ground","thing"] (Zaf Zhj):=⟨rfl,rfl,rfl,⋯,rfl,⋯,⋯⟩
theorem Zls:FnScope ["ground","wide","thing"] ["ground","wide","thing"] (Zaf Zkw):=⟨rfl,rfl,rfl,⋯,rfl,⋯,⋯⟩
theorem Zn9:FnScope ["ground","many","high","wide","rows","place"] ["ground","many"] (Zaf Zmy):=⟨rfl,rfl,rfl,⋯,rfl,⋯,⋯⟩
theorem Zj7:FnScope ["ground","high","wide"] ["ground","high","wide"] (Zaf Zi0):=⟨rfl,rfl,rfl,⋯,rfl,⋯,⋯⟩
theorem Zj6:FnScope ["ground","one","other","rows","columns"] ["ground","one","other"] (Zaf Ziz):=⟨rfl,rfl,rfl,⋯,rfl,⋯,⋯⟩
theorem Zhu:FnScope ["ground","row","bottom","number"] ["ground","row"] (Zaf Zf5):=⟨rfl,rfl,rfl,⋯,rfl,⋯,⋯⟩
theorem Zhx:FnScope ["ground","row","column","tops","bottom","other_tops","other_bottom"] ["ground","row","column"] (Zaf Zf8):=⟨rfl,rfl,rfl,⋯,rfl,⋯,⋯⟩
theorem Ze3:FnScope ["table","high","wide","rows"] ["table"] (Zaf Zd8):=⟨rfl,rfl,rfl,⋯,rfl,⋯,⋯⟩
theorem Zh0:FnScope ["drawing","thing"] ["drawing","thing"] (Zaf Zgb):=⟨rfl,rfl,rfl,⋯,rfl,⋯,⋯⟩
theorem Zcr:FnScope ["ground","high","wide","thing"] ["ground","high","wide","thing"] (Zaf Zdf):=⟨rfl,rfl,rfl,⋯,rfl,⋯,⋯⟩
theorem Zgq:FnScope ["ground","drawing","sizes","thing"] ["ground","drawing","sizes","thing"] (Zaf Zfa):=⟨rfl,rfl,rfl,⋯,rfl,⋯,⋯⟩
theorem Zex:FnScope ["self","ground","drawing","sizes","tables"] ["self","ground","drawing","sizes","tables"] (Zaf Zdt):=⟨rfl,rfl,rfl,⋯,rfl,⋯,⋯⟩
theorem Zhv:FnScope ["standing","ground","drawing"] ["standing","ground","drawing"] (Zaf Zf6):=⟨rfl,rfl,rfl,⋯,rfl,⋯,⋯⟩
theorem Zcs:FnScope ["standing","thing"] ["standing","thing"] (Zaf Zdg):=⟨rfl,rfl,rfl,⋯,rfl,⋯,⋯⟩
theorem Zj4:FnScope ["ground","drawing","standings","sizes","tables"] ["ground","drawing","standings"] (Zaf Zix):=⟨rfl,rfl,rfl,⋯,rfl,⋯,⋯⟩
theorem Zd4:FnScope ["standing","thing"] ["standing","thing"] (Zaf Zds):=⟨rfl,rfl,rfl,⋯,rfl,⋯,⋯⟩
theorem Zd6:FnScope ["standing","changes","backs","ground"] ["standing","changes","backs"] (Zaf Zem):=⟨rfl,rfl,rfl,⋯,rfl,⋯,⋯⟩
theorem Zgp:FnScope ["standing","other","changes","backs","ground"] ["standing","other","changes","backs"] (Zaf Zib):=⟨rfl,rfl,rfl,⋯,rfl,⋯,⋯⟩
theorem Zb0:FnScope ["standing","other","changes","backs"] ["standing","other","changes","backs"] (Zaf Zbr):=⟨rfl,rfl,rfl,⋯,rfl,⋯,⋯⟩
theorem Zeu:FnScope ["standing","parts","changes","backs","whole"] ["standing","parts","changes","backs"] (Zaf Zdp):=⟨rfl,rfl,rfl,⋯,rfl,⋯,⋯⟩
theorem Zed:FnScope ["standing","other","part"] ["standing","other","part"] (Zaf Zc7):=⟨rfl,rfl,rfl,⋯,rfl,⋯,⋯⟩
theorem Zj8:FnScope ["standing","paper"] ["standing","paper"] (Zaf Zi1):=⟨rfl,rfl,rfl,⋯,rfl,⋯,⋯⟩
theorem Ziu:FnScope ["number"] ["number"] (Zaf Zhk):=⟨rfl,rfl,rfl,⋯,rfl,⋯,⋯⟩
theorem Ze4:FnScope ["thing"] ["thing"] (Zaf Zd9):=⟨rfl,rfl,rfl,⋯,rfl,⋯,⋯⟩
theorem Ziw:FnScope ["top","bottom","divisor"] ["top","bottom"] (Zaf Zhm):=⟨rfl,rfl,rfl,⋯,rfl,⋯,⋯⟩
theorem Zkf:FnScope ["rest","prime","low","high","low_times","high_times","many"] ["rest","prime"] (Zaf Zi8):=⟨rfl,rfl,rfl,⋯,rfl,⋯,⋯⟩
theorem Zj5:FnScope ["top","bottom","prime","below"] ["top","bottom","prime"] (Zaf Ziy):=⟨rfl,rfl,rfl,⋯,rfl,⋯,⋯⟩
theorem Zfw:FnScope ["thing","top","bottom"] ["thing"] (Zaf Zel):=⟨rfl,rfl,rfl,⋯,rfl,⋯,⋯⟩
theorem Zfx:FnScope ["self","prime"] ["self","prime"] (Zaf Zen):=⟨rfl,rfl,rfl,⋯,rfl,⋯,⋯⟩
theorem Zey:FnScope ["self","top","bottom"] ["self","top","bottom"] (Zaf Zaw):=⟨rfl,rfl,rfl,⋯,rfl,⋯,⋯⟩
theorem Zdm:FnScope ["self","thing"] ["self","thing"] (Zaf Zcd):=⟨rfl,rfl,rfl,⋯,rfl,⋯,⋯⟩
theorem Zis:FnScope ["_law_script","_law_k"] ["_law_script","_law_k"] (Zaf Zhi):=⟨rfl,rfl,rfl,⋯,rfl,⋯,⋯⟩
theorem Zkd:FnScope ["_law_cell_here"] ["_law_cell_here"] (Zaf Zi6):=⟨rfl,rfl,rfl,⋯,rfl,⋯,⋯⟩
theorem Zir:FnScope ["_law_bag_here","_law_many","_law_found"] ["_law_bag_here","_law_many"] (Zaf Zhh):=⟨rfl,rfl,rfl,⋯,rfl,⋯,⋯⟩
theorem Zkc:FnScope ["_law_one","_law_two","_law_rest"] ["_law_one","_law_two"] (Zaf Zi5):=⟨rfl,rfl,rfl,⋯,rfl,⋯,⋯⟩
theorem Zgo:FnScope ["_law_top","_law_bottom","_law_both"] ["_law_top","_law_bottom"] (Zaf Ze9):=⟨rfl,rfl,rfl,⋯,rfl,⋯,⋯⟩
theorem Zd3:FnScope ["_law_bag_here"] ["_law_bag_here"] (Zaf Zcl):=⟨rfl,rfl,rfl,⋯,rfl,⋯,⋯⟩
theorem Zgn:FnScope ["_law_bag_here","_law_p"] ["_law_bag_here","_law_p"] (Zaf Ze8):=⟨rfl,rfl,rfl,⋯,rfl,⋯,⋯⟩
theorem Zke:FnScope ["_law_p","_law_a","_law_b"] ["_law_p","_law_a","_law_b"] (Zaf Zi7):=⟨rfl,rfl,rfl,⋯,rfl,⋯,⋯⟩
theorem Zka:FnScope ["_law_p","_law_a","_law_b"] ["_law_p","_law_a","_law_b"] (Zaf Zi3):=⟨rfl,rfl,rfl,⋯,rfl,⋯,⋯⟩
theorem Zkb:FnScope ["_law_p","_law_k"] ["_law_p","_law_k"] (Zaf Zi4):=⟨rfl,rfl,rfl,⋯,rfl,⋯,⋯⟩
theorem Ziq:FnScope ["_law_bag_here","_law_p","_law_high","_law_wide","_law_thin","_law_rows_here","_law_i","_law_row","_law_j","_law_number_here"] ["_law_bag_here","_law_p","_law_high","_law_wide"] (Zaf Zhg):=⟨rfl,rfl,rfl,⋯,rfl,⋯,⋯⟩
theorem Zhy:FnScope ["_law_bag_here","_law_p","_law_high","_law_wide","_law_rows_here","_law_a"] ["_law_bag_here","_law_p","_law_high","_law_wide"] (Zaf Zf9):=⟨rfl,rfl,rfl,⋯,rfl,⋯,⋯⟩
theorem Zhz:FnScope ["_law_p","_law_many"] ["_law_p","_law_many"] (Zaf Zga):=⟨rfl,rfl,rfl,⋯,rfl,⋯,⋯⟩
theorem Zfv:FnScope ["_law_bag_here","_law_many","_law_way","_law_pairs","_law_k","_law_one","_law_arrows","_law_other","_law_turn"] ["_law_bag_here"] (Zaf Zek):=⟨rfl,rfl,rfl,⋯,rfl,⋯,⋯⟩
theorem Ze5:FnScope ["_law_bag_here","_law_p","_law_many","_law_arrows","_law_sizes","_law_left","_law_k","_law_tables"] ["_law_bag_here","_law_p","_law_many","_law_arrows"] (Zaf Zea):=⟨rfl,rfl,rfl,⋯,rfl,⋯,⋯⟩
theorem Zj9:FnScope ["_law_bag_here","_law_some"] ["_law_bag_here"] (Zaf Zi2):=⟨rfl,rfl,rfl,⋯,rfl,⋯,⋯⟩
theorem Zdl:FnScope ["_law_bag_here","_law_p","_law_many","_law_arrows","_law_standing_here","_law_q","_law_tables"] ["_law_bag_here","_law_p","_law_many","_law_arrows","_law_standing_here"] (Zaf Zcc):=⟨rfl,rfl,rfl,⋯,rfl,⋯,⋯⟩
theorem Zdb:FnScope ["_law_bag_here","_law_p","_law_table_here","_law_high","_law_wide","_law_rows_here","_law_odd_here","_law_made"] ["_law_bag_here","_law_p","_law_table_here"] (Zaf Zb6):=⟨rfl,rfl,rfl,⋯,rfl,⋯,⋯⟩
theorem Zdk:FnScope ["_law_bag_here","_law_p","_law_units","_law_way","_law_k","_law_high","_law_wide","_law_rows_here","_law_others"] ["_law_bag_here","_law_p","_law_units"] (Zaf Zcb):=⟨rfl,rfl,rfl,⋯,rfl,⋯,⋯⟩
theorem Zgm:FnScope ["_law_bag_here","_law_p","_law_good","_law_units","_law_other","_law_way","_law_k"] ["_law_bag_here","_law_p","_law_good","_law_units","_law_other"] (Zaf Ze7):=⟨rfl,rfl,rfl,⋯,rfl,⋯,⋯⟩
theorem Zew:FnScope ["_law_bag_here","_law_k","_law_units","_law_found"] ["_law_bag_here","_law_k","_law_units"] (Zaf Zdr):=⟨rfl,rfl,rfl,⋯,rfl,⋯,⋯⟩
theorem Zee:FnScope ["_law_bag_here","_law_one","_law_other","_law_words"] ["_law_bag_here","_law_one","_law_other"] (Zaf Zc8):=⟨rfl,rfl,rfl,⋯,rfl,⋯,⋯⟩
theorem Zvr:FnScope ["_law_script","_law_cell_here","_law_bag_here","_law_p","_law_many","_law_arrows","_law_standing_here","_law_one","_law_units","_law_other","_law_good","_law_turn","_law_bad","_law_wrong","_law_none"] ["_law_script"] (Zaf Zkv):=⟨rfl,rfl,rfl,⋯,rfl,⋯,⋯⟩
structure Txt (K:Frag)(mg:Str->Option Value)(C G S:Addr):Prop where
 cl_Drawing:Cls K C
 nM:NoAttr K C "many"
 nA:NoAttr K C "arrows"
 cl_Ground:Cls K G
 nP:NoAttr K G "prime"
 cl_Standing:Cls K S
 nSg:NoAttr K S "ground"
 nSd:NoAttr K S "drawing"
 nSs:NoAttr K S "sizes"
 nSt:NoAttr K S "tables"
 n_len:mg "len" = none
 n_range:mg "range" = none
 n_list:mg "list" = none
 n_min:mg "min" = none
 n_int:mg "int" = none
 n_bool:mg "bool" = none
 n_tuple:mg "tuple" = none
 n_all:mg "all" = none
 n_isinstance:mg "isinstance" = none
 n_abs:mg "abs" = none
 n_zip:mg "zip" = none
 n_enumerate:mg "enumerate" = none
 n_reversed:mg "reversed" = none
 n_sum:mg "sum" = none
 n_any:mg "any" = none
 g_MOST_POINTS:∃ t,mg "MOST_POINTS" = some (.int 8 t)
 g_MOST_ARROWS:∃ t,mg "MOST_ARROWS" = some (.int 9 t)
 g_LARGEST_PRIME:∃ t,mg "LARGEST_PRIME" = some (.int 97 t)
 g_LONG:∃ t,mg "LONG" = some (.int 4000 t)
 g_LEADING:∃ t,mg "LEADING" = some (.int 126 t)
 g_Standing:mg "Standing" = some (.ref S)
 ic1:PySem.W.findIn K (.ref S) "__class__" = some (some (.builtin "object.__class__"))
 ic2:PySem.W.specialIn K (.builtin "object.__class__") "__get__" = some (some (.builtin "getset_descriptor.__get__"))
 ic3:PySem.W.takesIn K (.builtin "object.__class__")=some true
 ic4:PySem.W.mroIn K S (.type "object")=some true
 kn0:PySem.W.kitOne K (.type "NoneType") (.ref S)=some false
 kn1:PySem.W.kitOne K (.type "bool") (.ref S)=some false
 kn2:PySem.W.kitOne K (.type "int") (.ref S)=some false
 kn3:PySem.W.kitOne K (.type "str") (.ref S)=some false
 kn4:PySem.W.kitOne K (.type "list") (.ref S)=some false
 kn5:PySem.W.kitOne K (.type "tuple") (.ref S)=some false
def Zwe (a b:Int):HO:=.lst [.int a,.int b]
def Bag (H:Hp)(l:Addr):Prop:=∃ a b:Int,H l=some (Zwe a b)/\0<=b/\b<2147483647
def Zqf (K:Frag):Sp:=λvs H Q _=>∃ (a:Addr) (ns:List Int) (k:Int),vs=[.ref a,.int k]/\SqL K H a (ns.map V.int)/\ns.length<=63/\0<=k/\∀ c,Q (.int c) H
def spBag:Sp:=λvs H Q _=>∃ c:Int,vs=[.int c]/\∀ (l:Addr) (a b:Int),H l=none->0<=b->b<2147483647->Q (.ref l) (upd H l (Zwe a b))
def Zc0:Sp:=λvs H Q _=>∃ (l:Addr) (a b n:Int),vs=[.ref l,.int n]/\H l=some (Zwe a b)/\0<=b/\b<2147483647/\0<n/\n<1000000000 /\
 ∀ (r a' b':Int),0<=r->r<n->0<=b'->b'<2147483647->Q (.int r) (upd H l (Zwe a' b'))
section
variable {C G S:Addr}
theorem ok_cell (F:Fun K "_law_cell" "_law_cell" Zhi f fd)(T:Txt K mg C G S):FnOk P w K mg base CX0 1 f fd ["_law_script","_law_k"] (Zqf K):=by
 have nd:=Zis.nd;refine F.ok Zis (λvs H Q E h=>?_) (λcdv A outer s H vs Q E hr h=>?_)
 .refine Zhc h λa ns k e91 _=>?_;clear h;obtain rfl:=e91;rfl
 .refine Zcx h λa ns k e92 hS hl e93=>?_;clear h;obtain rfl:=e92;obtain⟨h0,q⟩:=e93;refine⟨_,((@Zay _ _ _ _ _ _ _ _ (Zak Zjx (pvr 1) (Za1 Zao rfl T.n_len Jba ((pvr 0)<&>Zab)) (Zah _)) (~~~((ixJ Za7)<|>(pvr 0)<||>(pvr 1))) Zaj)<*>(~~~Zac)),?_⟩;walk_at "wp";refine⟨_,.inl hS,Zb5 (λhc=>?_) (λ_=>q 0)⟩;have hc:=Jaz hc;rw[Jab] at hc;refine⟨_,hS,V.int (ns[k.toNat]'(oz63 h0 hc)),Zde h0 ?_,q _⟩;rw[Jad,Jaa (oz63 h0 hc)];rfl
theorem cpow (k:Int)(h0:0<=k)(h1:k<=1000):CPow 10 k:=⟨h0,∅,⇑0⟩
theorem Zl2 (c n:Int)(h:0<n):0<=c % n:=Jbq _ (Zo8 h)
theorem Zl3 (c n:Int)(h:0<n):c % n<n:=Ja8 _ h
end
end Pf
namespace Pf
open PySem L2 PyProof.Rows
section
variable {C G S:Addr}
theorem Bag.ne {H:Hp}{l p:Addr}(h:Bag H l)(hp:H p=none):p≠l:=by
 refine Zbs h λa b e _=>?_;clear h;exact (Zai e hp).symm
theorem Bag.new {H:Hp}{l p:Addr}{o:HO}(h:Bag H l)(hp:p≠l):Bag (upd H p o) l:=by
 refine Zca h λa b e h1 h2=>?_;clear h;exact Zaq a b ⟨by rw[Zal hp.symm];exact e,h1,h2⟩
theorem Bag.set {H:Hp}{l:Addr}{a b:Int}(h1:0<=b)(h2:b<2147483647):Bag (upd H l (Zwe a b)) l:=⟨a,b,Zaa,h1,h2⟩
def Edge (H:Hp)(m:Int)(x:V):Prop:=∃ (t:Addr) (i j:Int),x=.ref t/\H t=some (.tup [.int i,.int j])/\0<=i/\i<m/\0<=j/\j<m
def Edges (H:Hp)(m:Int)(xs:List V):Prop:=∀ x∈xs,Edge H m x
theorem Edge.same {H H':Hp}{m:Int}{x:V}(e:Edge H m x)(s:Same H H'):Edge H' m x:=by
 refine Zmk e λt i j h1 h2 h3=>?_;clear e;exact Zbv t i j ⟨h1,s _ _ h2,h3⟩
theorem Edges.same {H H':Hp}{m:Int}{xs:List V}(e:Edges H m xs)(s:Same H H'):Edges H' m xs:=λx hx=>(e x hx).same s
theorem Edge.ext {H H':Hp}{m:Int}{l:Addr}{x:V}{ys:List V}(e:Edge H m x)(s:Ext l H H')(hl:H l=some (.lst ys)):Edge H' m x:=by
 refine Zmk e λt i j h1 h2 h3=>?_;clear e;exact Zbv t i j ⟨h1,s _ _ (Zfd h2 hl (by intro z;cases z)) h2,h3⟩
theorem Edges.ext {H H':Hp}{m:Int}{l:Addr}{xs ys:List V}(e:Edges H m xs)(s:Ext l H H')(hl:H l=some (.lst ys)):Edges H' m xs:=λx hx=>(e x hx).ext s hl
theorem Edges.nil {H:Hp}{m:Int}:Edges H m []:=λ_ h=>nomatch h
theorem Edges.snoc {H:Hp}{m:Int}{xs:List V}{x:V}(e:Edges H m xs)(h:Edge H m x):Edges H m (xs++[x]):=λy hy=>by
 rcases Ja1.mp hy with z|z
 .exact e y z
 .rw [Jao.mp z];exact h
theorem Edges.put {H:Hp}{m:Int}{xs ys:List V}{p:Addr}{o:HO}(e:Edges H m xs)(hp:H p=some (.lst ys)):Edges (upd H p o) m xs:=e.ext (l:=p) Ext.set hp
structure Out (l:Addr)(H:Hp)(p e:Addr)(m:Int)(xs:List V)(H':Hp):Prop where
 ext:Ext l H H'
 bag:Bag H' l
 tup:H' p=some (.tup [.int m,.ref e])
 lst:H' e=some (.lst xs)
 new:H e=none
 lo:1<=m
 hi:m<=8
 len:xs.length<=9
 ed:Edges H' m xs
def spOut (K0:List V->Prop):Sp:=λvs H Q _=>∃ (l:Addr) (r:List V),vs=.ref l::r/\K0 r/\Bag H l/\∀ p e m xs H',Out l H p e m xs H'->Q (.ref p) H'
def way0 (r:List V):Prop:=r=[]
theorem Edge.mk {H:Hp}{p:Addr}{i j m:Int}(h1:0<=i)(h2:i<m)(h3:0<=j)(h4:j<m):Edge (upd H p (.tup [.int i,.int j])) m (.ref p):=⟨p,i,j,rfl,Zaa,h1,h2,h3,h4⟩
theorem Edges.add {H:Hp}{p:Addr}{i j m:Int}{xs:List V}(e:Edges H m xs)(hp:H p=none)(h1:0<=i)(h2:i<m)(h3:0<=j)(h4:j<m):Edges (upd H p (.tup [.int i,.int j])) m (xs++[.ref p]):=
 (e.same (Same.new hp)).snoc (Edge.mk h1 h2 h3 h4)
theorem Zpm {fr:List (Str×Nat)}{σ:L2.St}{t1 t2:TE}{lo m:Int}{n:Nat}{D:Addr}{H1:Hp}{Q:VK}(a b:Nat->Int)(hD:H1 D=none)(hn:n<=9)(h1:∀ i H Q,i<n->Q (.int (a i)) H->t1 (some (.int (lo+(i:Nat)))::Zbq fr σ) H Q)(h2:∀ i H Q,i<n->Q (.int (b i)) H->t2 (some (.int (lo+(i:Nat)))::Zbq fr σ) H Q)(hr:∀ i,i<n->0<=a i/\a i<m/\0<=b i/\b i<m)(hQ:∀ xs H',Same H1 H'->H' D=some (.lst xs)->xs.length=n->Edges H' m xs->Q (.ref D) H'):
  Zbw (Zbp 0) Ze0 (tTup (Zf3 t1 (Zf3 t2 Zs1))) (Itr lo n) D (Zha 1 fr σ) H1 Q:=by
 refine Zie (λi vs H=>Same H1 H/\H D=some (.lst vs)/\vs.length=i/\Edges H m vs) ⟨Same.new hD,Zaa,rfl,Edges.nil⟩ ?_ (λvs H ⟨s,e,l,d⟩=>hQ vs H s e l d);intro i x vs σ' H hi e91;obtain rfl:=e91;intro sh e92;refine Zck e92 λs e hl d=>?_;clear e92;obtain⟨z,rfl⟩:=sh.one;simp only[Zfr,Zbp,Ze0,List.set_cons_zero,Jb9,tTup,Zf3,Zs1];refine h1 i H _ hi (h2 i H _ hi ⟨by show 2<=sizeLine;decide,λp hp=>?_⟩);refine Zck (hr i hi) λr1 r2 r3 r4=>?_;have nD:D≠p:=Zai e hp;have e':(upd H p (.tup [.int (a i),.int (b i)])) D=some (.lst vs):=by rw[Zal nD];exact e
 exact Zk3 (ws:=vs++[.ref p]) hi Sh.mk1 e' (Zan ∅) ⟨(s.trans (Same.new hp)).upd hD,Zaa,by rw[Jai,hl];rfl,(d.add hp r1 r2 r3 r4).put e'⟩
theorem Out.fin {l p t:Addr}{m:Int}{xs:List V}{H H2:Hp}(ex:Ext l H H2)(b:Bag H2 l)(hp:H2 p=some (.lst xs))(new:H p=none)(lo:1<=m)(hi:m<=8)(len:xs.length<=9)(d:Edges H2 m xs)(ht:H2 t=none):
  Out l H t p m xs (upd H2 t (.tup [.int m,.ref p])):=
 ⟨ex.trans (Ext.new ht),b.new (b.ne ht),Zaa,by rw[Zal (Zai hp ht)];exact hp,new,lo,hi,len,d.same (Same.new ht)⟩
theorem Bag.draw {H:Hp}{l:Addr}{n:Int}{Q:VK}{E:XK}(b:Bag H l)(h0:0<n)(h1:n<1000000000)(q:∀ (r:Int) (H':Hp),0<=r->r<n->Ext l H H'->Bag H' l->Q (.int r) H'):Zc0 [.ref l,.int n] H Q E:=by
 refine Zca b λx y e y0 y1=>?_;clear b;exact Zkq l x y n ⟨rfl,e,y0,y1,h0,h1,λr a' b' r0 r1 c0 c1=>q r _ r0 r1 Ext.set (Bag.set c0 c1)⟩
theorem Bag.lst {H:Hp}{l:Addr}(b:Bag H l):∃ ys,H l=some (.lst ys):=by
 refine Zbs b λx y e _=>?_;clear b;exact⟨_,e⟩
theorem Edges.bag {H H':Hp}{m:Int}{l:Addr}{xs:List V}(e:Edges H m xs)(s:Ext l H H')(b:Bag H l):Edges H' m xs:=by
 obtain⟨ys,h⟩:=b.lst;exact e.ext s h
theorem Ztr {R:It->Hp->Prop}{l:Addr}{σ:L2.St}{H:Hp}{k:Int}(b:Bag H l)(h0:0<k)(h1:k<1000000000)(q:∀ (n:Int) (H3:Hp),0<=n->n<k->Ext l H H3->Bag H3 l->R (Itr 0 n.toNat) H3):
  Zr4 (Zf3 (Zo2 Zc0 [] E0 (Zf3 (Zhs 0) (Zf3 (tC (.int k)) Zs1))) Zs1) (some (.ref l)::σ) H R:=by
 refine⟨_,rfl,?_⟩;simp only[Zf3,tC,Zs1,List.append_nil];exact b.draw h0 h1 λn H3 n0 n1 e3 b3=>⟨n,rfl,Zm4 n0,∅,q n H3 n0 n1 e3 b3⟩
theorem Bag.same {H H':Hp}{l:Addr}(b:Bag H l)(s:Same H H'):Bag H' l:=by
 refine Zca b λx y e h1 h2=>?_;clear b;exact Zaq x y ⟨s _ _ e,h1,h2⟩
end
end Pf
set_option maxHeartbeats 1000000
namespace Pf
open PySem L2 PyProof.Rows
section
variable {C G S:Addr}
theorem Zgg {c A B:Prop}[Decidable c](hc:c)(h:A):if c then A else B:=by rw[if_pos hc];exact h
theorem Zcj {c A B:Prop}[Decidable c](hc:¬ c)(h:B):if c then A else B:=by rw[if_neg hc];exact h
theorem Zg5 {a D:Addr}{xs:List V}{fr:List (Str×Nat)}{σ:L2.St}{te:TE}{H1:Hp}{Q:VK}(fb:Nat->Bool)(ha:H1 a=some (.lst xs))(hD:H1 D=none)(hn:xs.length<=1000)(h:∀ (i:Nat) x H (Q:VK),xs[i]?=some x->Same H1 H->(∀ H',Same H H'->Q (.bl (fb i)) H')->te (some x::Zbq fr σ) H Q)(hQ:∀ H',Same H1 H'->H' D=some (.lst (((List.range xs.length).map fb).map V.bl))->Q (.ref D) H'):Zbw (Zbp 0) Ze0 te (Itl K a) D (Zha 1 fr σ) H1 Q:=by
 refine Zd7 (xs:=xs) (λi vs H=>Same H1 H/\H D=some (.lst vs)/\vs=((List.range i).map fb).map V.bl) ⟨Same.new hD,Zaa,rfl⟩ (λi vs H _ p=>SqL.of (p.1 _ _ ha)) ?_ (λvs H ⟨s,e,hv⟩=>hQ H s (by rw[e,hv]));intro i x vs σ' H hi hx sh e91;refine Zba e91 λs e e93=>?_;clear e91;obtain rfl:=e93;obtain⟨z,rfl⟩:=sh.one;simp only[Zfr,Zbp,Ze0,List.set_cons_zero,Jb9];refine h i x H _ hx s λH' s'=>?_;exact Zk3 (ws:=((List.range (i+1)).map fb).map V.bl) hi Sh.mk1 (s' _ _ e) (Zan (by rw[Jab,Jab,Jax];exact oz200 hn hi)) ⟨(s.trans s').upd hD,by rw[Zaa,Jcv,Ja7,Ja7];rfl,rfl⟩
theorem Zsj {a D:Addr}{xs:List V}{fr:List (Str×Nat)}{σ:L2.St}{te:TE}{H1:Hp}{Q:VK}(fb:Nat->Bool)(ha:H1 a=some (.tup xs))(hD:H1 D=none)(hn:xs.length<=1000)(h:∀ (i:Nat) x H (Q:VK),xs[i]?=some x->Same H1 H->(∀ H',Same H H'->Q (.bl (fb i)) H')->te (some x::Zbq fr σ) H Q)(hQ:∀ H',Same H1 H'->H' D=some (.lst (((List.range xs.length).map fb).map V.bl))->Q (.ref D) H'):Zbw (Zbp 0) Ze0 te (Itt K a) D (Zha 1 fr σ) H1 Q:=by
 refine Zu8 (xs:=xs) (λi vs H=>Same H1 H/\H D=some (.lst vs)/\vs=((List.range i).map fb).map V.bl) ⟨Same.new hD,Zaa,rfl⟩ (λi vs H _ p=>SqT.of (p.1 _ _ ha)) ?_ (λvs H ⟨s,e,hv⟩=>hQ H s (by rw[e,hv]));intro i x vs σ' H hi hx sh e92;refine Zba e92 λs e e94=>?_;clear e92;obtain rfl:=e94;obtain⟨z,rfl⟩:=sh.one;simp only[Zfr,Zbp,Ze0,List.set_cons_zero,Jb9];refine h i x H _ hx s λH' s'=>?_;exact Zk3 (ws:=((List.range (i+1)).map fb).map V.bl) hi Sh.mk1 (s' _ _ e) (Zan (by rw[Jab,Jab,Jax];exact oz200 hn hi)) ⟨(s.trans s').upd hD,by rw[Zaa,Jcv,Ja7,Ja7];rfl,rfl⟩
theorem Zfp (n:Nat):((List.range n).map λ_=>true).all id=true:=by
 rw[Jbg];intro b hb;refine Zae (Ja2.mp hb) λ_ _ e95=>?_;obtain rfl:=e95;rfl
def Zhf:Sp:=λvs H Q _=>∃ i:Int,vs=[.int i]/\Q (.bl true) H
theorem Zt6 (F:Fun K "is_whole" "is_whole" Zfi f fd)(T:Txt K mg C G S):FnOk P w K mg base CX0 1 f fd ["thing"] Zhf:=by
 have nd:=Zej.nd;refine F.ok Zej (λvs H Q E h=>?_) (λcdv A outer s H vs Q E hr h=>?_)
 .refine Zae h λi e96 _=>?_;clear h;obtain rfl:=e96;rfl
 .refine Zae h λi e97 q=>?_;clear h;obtain rfl:=e97;refine⟨_,(~~~(Zdc (Za1 Zax rfl T.n_isinstance Jbb ((pvr 0)<&>((Zfs rfl T.n_int boot_int)<&>Zab))) (Zdw (Zvv (Za1 Zax rfl T.n_isinstance Jbb ((pvr 0)<&>((Zfs rfl T.n_bool boot_bool)<&>Zab))))))),?_⟩;walk_at "wp";exact Zaq _ _ ⟨⟨rfl,rfl⟩,_,rfl,_,.int i,_,Zl5 K,iteT ⟨_,_,⟨rfl,rfl⟩,_,rfl,_,.int i,_,Zkl K,q⟩⟩
def Zmw:Sp:=λvs H Q _=>∃ (m:Int) (x:V),vs=[.int m,x]/\Edge H m x/\∀ H',Same H H'->Q (.bl true) H'
theorem Zuj (F:Fun K "is_arrow" "is_arrow" Zhl f fd)(T:Txt K mg C G S)(Yab:Cal P w K mg base "is_whole" 1 Zhf):FnOk P w K mg base CX0 2 f fd ["many","thing"] Zmw:=by
 have nd:=Ziv.nd;refine F.ok Ziv (λvs H Q E h=>?_) (λcdv A outer s H vs Q E hr h=>?_)
 .refine Zbs h λm x e98 _=>?_;clear h;obtain rfl:=e98;rfl
 .refine Zca h λm x e99 e910 q=>?_;clear h;obtain rfl:=e99;obtain⟨t,i,j,rfl,ht,i0,i1,j0,j1⟩:=e910;refine⟨_,((@Zay _ _ _ _ _ _ _ _ (PW.pt (Zce (Za9 (Zbb (Za1 Zax rfl T.n_isinstance Jbb ((pvr 1)<&>((Zfs rfl T.n_tuple boot_tuple)<&>Zab))))) (Zbj (Zak Zft (Za1 Zao rfl T.n_len Jba ((pvr 1)<&>Zab)) Zac (Zah _))))) (~~~Zbm) Zaj)<*>(~~~(Za1 (Zbu rfl) rfl T.n_all Jc6 ((Za0 (own:=["end"]) (fr:=[("many",0)]) rfl (Zbi (by kernel_rfl)) (pi_tup (pv 1)) (λ_ _ _ _=>⟨(0<<<["end","many"]),Zat,(Zdc (Yab<$>hr<$>((pv 0)<&>Zab)) (Zdw (Zoe Zpa Zjx Zac (pv 0) (pv 1))))⟩))<&>Zab)))),?_⟩;walk_at "wp";refine Zaq _ _ ⟨⟨rfl,rfl⟩,_,rfl,_,.tup ht,_,Zdx K,Zut ⟨_,.inr (SqT.of ht),Zut ?_⟩⟩;refine⟨_,rfl,t,rfl,⟨_,SqT.of ht⟩,λD hD=>Zsj (λ_=>true) ht hD (by show 2<=1000;decide) (λk x H' Q' hx s' q'=>?_) λH' s' e'=>⟨D,rfl,_,SqL.of e',?_⟩⟩
  .have hx':∃ z:Int,x=.int z/\0<=z/\z<m:=by
    match k,hx with
    | 0,hx=>exact⟨i,(Jbn hx).symm,i0,i1⟩
    | 1,hx=>exact⟨j,(Jbn hx).symm,j0,j1⟩
    | k+2,hx=>cases hx
   refine Zas hx' λz e911 z0 z1=>?_;clear hx';obtain rfl:=e911;refine⟨_,rfl,⟨z,rfl,true,rfl,iteT ⟨_,rfl,_,_,rfl,rfl,_,rfl,?_⟩⟩⟩;refine Zgg (Jah z0) ⟨_,rfl,_,_,rfl,rfl,?_⟩;show Q' (V.bl (decide (z<m))) H';rw[Jah z1];exact q' H' (Same.refl _)
  .rw [Zfp];exact q H' s'
def Zmu:Sp:=λvs H Q _=>∃ (m:Int) (a:Addr) (xs:List V),vs=[.int m,.ref a]/\1<=m/\m<=8/\H a=some (.lst xs)/\xs.length<=9/\Edges H m xs/\∀ H',Same H H'->Q (.bl true) H'
theorem Zud (F:Fun K "makes_drawing" "makes_drawing" Zdo f fd)(T:Txt K mg C G S)(Yab:Cal P w K mg base "is_whole" 1 Zhf)(Ybx:Cal P w K mg base "is_arrow" 2 Zmw):FnOk P w K mg base CX0 3 f fd ["many","arrows"] Zmu:=by
 have nd:=Zet.nd;refine F.ok Zet (λvs H Q E h=>?_) (λcdv A outer s H vs Q E hr h=>?_)
 .refine Zhc h λm a xs e912 _=>?_;clear h;obtain rfl:=e912;rfl
 .refine Zcx h λm a xs e913 m0 m8 e914=>?_;clear h;obtain rfl:=e913;refine Zck e914 λha hl d q=>?_;clear e914;refine⟨_,((@Zay _ _ _ _ _ _ _ _ (PW.pt (Zce (Za9 (Zbb (Yab<$>hr<$>((pvr 0)<&>Zab)))) (Zbj (Za9 (Zoc Zpa Zpa Zac (pvr 0) (Zfk rfl T.g_MOST_POINTS)))))) (~~~Zbm) Zaj)<*>((@Zay _ _ _ _ _ _ _ _ (PW.pt (Zce (Za9 (Zbb (Za1 Zax rfl T.n_isinstance Jbb ((pvr 1)<&>((Zfs rfl T.n_list Jcg)<&>Zab))))) (Zbj (Zak Ze1 (Za1 Zao rfl T.n_len Jba ((pvr 1)<&>Zab)) (Zfk rfl T.g_MOST_ARROWS) (Zah _))))) (~~~Zbm) Zaj)<*>(~~~(Za1 (Zbu rfl) rfl T.n_all Jc6 ((Za0 (own:=["arrow"]) (fr:=[("many",0)]) rfl (Zbi (by kernel_rfl)) (Zbd (pv 1)) (λ_ _ _ _=>⟨(0<<<["arrow","many"]),Zat,(Ybx<$>hr<$>((pv 1)<&>((pv 0)<&>Zab)))⟩))<&>Zab))))),?_⟩;walk_at "wp";refine⟨m,rfl,true,rfl,Zut (Zgg (Jah m0) (Zcj (by rw[Jah m8];decide) ⟨_,_,⟨rfl,rfl⟩,_,rfl,_,.lst ha,_,Zb9 K,Zut ⟨_,.inl (SqL.of ha),Zcj (by rw[Jam ∅];decide) ?_⟩⟩))⟩;refine⟨_,rfl,a,rfl,⟨_,SqL.of ha⟩,λD hD=>Zg5 (λ_=>true) ha hD ∅ (λk x H' Q' hx s' q'=>?_) λH' s' e'=>⟨D,rfl,_,SqL.of e',?_⟩⟩
  .exact ⟨_,rfl,_,rfl,m,x,rfl,(d x (Jac hx)).same s',q'⟩
  .rw [Zfp];exact q H' s'
def flds (m:Int)(lp:Addr):List (Str×V):=Zct "arrows" (.ref lp) (Zct "many" (.int m) [])
theorem Zcq (m:Int)(lp:Addr):(flds m lp).lookup ("arrows" : Str)=some (.ref lp):=by
 unfold flds;rw[Zaz,if_pos rfl]
theorem Zdz (m:Int)(lp:Addr):(flds m lp).lookup ("many" : Str)=some (.int m):=by
 unfold flds;rw[Zaz,if_neg ⋯,Zaz,if_pos rfl]
theorem Zu1 (m:Int):(Zct "many" (.int m) ([]:List (Str×V))).length<1000:=by
 have:=Zb8 "many" (.int m) [];simp at this;omega
def Zlp (C:Addr):Sp:=λvs H Q _=>∃ (p dx:Addr) (m:Int) (a:Addr) (xs:List V),vs=[.ref p,.int m,.ref a]/\H p=some (.ins C dx [])/\1<=m/\m<=8/\H a=some (.lst xs)/\xs.length<=9/\Edges H m xs /\
 ∀ (lp:Addr) (H':Hp),Ext p H H'->H' p=some (.ins C dx (flds m lp))->H lp=none->H' lp=some (.lst xs)->Q .non H'
theorem ok_init (F:Fun K "__init__" "Drawing.__init__" Zeb f fd)(T:Txt K mg C G S)(Ya3:Cal P w K mg base "makes_drawing" 3 Zmu):FnOk P w K mg base CX0 4 f fd ["self","many","arrows"] (Zlp C):=by
 have nd:=Ze6.nd;refine F.ok Ze6 (λvs H Q E h=>?_) (λcdv A outer s H vs Q E hr h=>?_)
 .refine Zpu h λp dx m a xs e92 _=>?_;clear h;obtain rfl:=e92;rfl
 .refine Zhb h λp dx m a xs e93 hp m0 e94=>?_;clear h;obtain rfl:=e93;refine Zcy e94 λm8 ha hl d q=>?_;clear e94;refine⟨_,((@Zay _ _ _ _ _ _ _ _ (Za9 (Zbb (Ya3<$>hr<$>((pvr 1)<&>((pvr 2)<&>Zab))))) (@Zau _ _ _ Zcf) Zaj)<*>((Zjc (pvr 0) (pvr 1) rfl)<*>(@Zau _ _ _ (Zjc (pvr 0) (Zhn Zbk rfl T.n_list Jcg ((pvr 2)<&>Zab)) rfl)))),?_⟩;walk_at "wp";refine Zbv m a xs ⟨rfl,m0,m8,ha,hl,d,λH1 s1=>⟨true,rfl,Zut ?_⟩⟩;have nap:a≠p:=Zfd ha hp (by intro z;cases z);refine Zbv C dx [] ⟨s1 _ _ hp,T.cl_Drawing,T.nM,by show 0<1000;decide,xs,.inl (SqL.of (by rw[Zal nap];exact s1 _ _ ha)),λl hl0=>?_⟩;have npl:p≠l:=Zai Zaa hl0;refine Zbv C dx _ ⟨by rw[Zal npl];exact Zaa,T.cl_Drawing,T.nA,Zu1 m,?_⟩;have fl:H l=none:=by
   rw[Zal npl.symm] at hl0;exact s1.free hl0
  refine q l _ (λb o nb e=>?_) Zaa fl (by rw[Zal npl.symm];exact Zaa);rw[Zal nb,Zal (Zai e fl),Zal nb];exact s1 _ _ e
def Prs (H:Hp)(xs:List V)(ps:List (Int×Int)):Prop:=xs.length=ps.length/\∀ (i:Nat) (x:V) (q:Int×Int),xs[i]?=some x->ps[i]?=some q->∃ t,x=.ref t/\H t=some (.tup [.int q.1,.int q.2])
theorem Prs.same {H H':Hp}{xs:List V}{ps:List (Int×Int)}(h:Prs H xs ps)(s:Same H H'):Prs H' xs ps:=⟨h.1,λi x q h1 h2=>let ⟨t,e1,e2⟩:=h.2 i x q h1 h2;⟨t,e1,s _ _ e2⟩⟩
def Zez (C:Addr)(H:Hp)(p:Addr)(m:Int)(lp:Addr)(xs:List V):Prop:=∃ dx,H p=some (.ins C dx (flds m lp))/\H lp=some (.lst xs)
def InP (m:Int)(ps:List (Int×Int)):Prop:=∀ q∈ps,0<=q.1/\q.1<m/\0<=q.2/\q.2<m
theorem Prs.nil {H:Hp}:Prs H [] []:=⟨rfl,λi x q h=>by simp at h⟩
theorem Zqs {H:Hp}{m:Int}:∀ {xs:List V},Edges H m xs->∃ ps,Prs H xs ps/\InP m ps
 | [],_=>⟨[],Prs.nil,λq h=>by simp at h⟩
 | x::xs,d=>by
  refine Zae (Zqs (xs:=xs) λy hy=>d y (Jbl _ hy)) λps e92 h3=>?_;obtain⟨h1,h2⟩:=e92;refine Zmk (d x Jcd) λt i j e93 ht hb=>?_;obtain rfl:=e93;refine⟨(i,j)::ps,⟨by simp[h1],λk y q e1 e2=>?_⟩,λq hq=>?_⟩
  .cases k with
   | zero=>
    simp at e1 e2;subst e1 e2;exact⟨t,rfl,ht⟩
   | succ k=>exact h2 k y q (by simpa using e1) (by simpa using e2)
  .rcases Ja5.mp hq with rfl|hq
   .exact hb
   .exact h3 q hq
theorem Zu3 {H:Hp}{m:Int}{xs:List V}{ps:List (Int×Int)}(h:Prs H xs ps)(r:InP m ps):Edges H m xs:=by
 intro x hx;obtain⟨i,hi,rfl⟩:=Ja4.mp hx;have hl:=h.1;have hq:ps[i]?=some (ps[i]'(oz79 hi hl)):=Jaa _;refine Zae (h.2 i _ _ (Jaa hi) hq) λt e1 e2=>?_;exact Zbv t _ _ ⟨e1,e2,r _ (Jac hq)⟩
theorem Zh7 {k:Nat}{A:Around}(hr:Room k A):A.units+8<cLine:=by have:=hr.units;omega
theorem Znm (n:Nat):(List.replicate n true).all id=true:=by simp
theorem Same.thru {l:Addr}{H H1 H2:Hp}(s:Same H H1)(h:H l=none)(e:Ext l H1 H2):Same H H2:=λb o eb=>e b o (Zai eb h) (s b o eb)
theorem Zsk {lo:Int}{n:Nat}{D:Addr}{fr:List (Str×Nat)}{σ:L2.St}{te:TE}{H1:Hp}{Q:VK}(fb:Nat->Bool)(hD:H1 D=none)(hn:n<=1000)(h:∀ (i:Nat) H (Q:VK),i<n->Same H1 H->(∀ H',Same H H'->Q (.bl (fb i)) H')->te (some (.int (lo+(i:Nat)))::Zbq fr σ) H Q)(hQ:∀ H',Same H1 H'->H' D=some (.lst (((List.range n).map fb).map V.bl))->Q (.ref D) H'):Zbw (Zbp 0) Ze0 te (Itr lo n) D (Zha 1 fr σ) H1 Q:=by
 refine Zie (λi vs H=>Same H1 H/\H D=some (.lst vs)/\vs=((List.range i).map fb).map V.bl) ⟨Same.new hD,Zaa,rfl⟩ ?_ (λvs H ⟨s,e,hv⟩=>hQ H s (by rw[e,hv]));intro i x vs σ' H hi e91;obtain rfl:=e91;intro sh e92;refine Zba e92 λs e e93=>?_;clear e92;obtain rfl:=e93;obtain⟨z,rfl⟩:=sh.one;simp only[Zfr,Zbp,Ze0,List.set_cons_zero,Jb9];refine h i H _ hi s λH' s'=>?_;exact Zk3 (ws:=((List.range (i+1)).map fb).map V.bl) hi Sh.mk1 (s' _ _ e) (Zan (by rw[Jab,Jab,Jax];exact oz200 hn hi)) ⟨(s.trans s').upd hD,by rw[Zaa,Jcv,Ja7,Ja7];rfl,rfl⟩
abbrev NB1:Nat:=67000002
abbrev NB:Nat:=67000001
def Top (a:Int):Prop:=Bt NB a
def Zg9 (p:Int):Prop:=1<p/\p<=97/\∀ d:Int,2<=d->d<p->p % d≠0
def Zmt:Sp:=λvs H Q _=>∃ p:Int,vs=[.int p]/\Zg9 p/\∀ H',Same H H'->Q (.bl true) H'
theorem Zuc (F:Fun K "is_prime" "is_prime" Zhk f fd)(T:Txt K mg C G S):FnOk P w K mg base CX0 1 f fd ["number"] Zmt:=by
 have nd:=Ziu.nd;refine F.ok Ziu (λvs H Q E h=>?_) (λcdv A outer s H vs Q E hr h=>?_)
 .refine Zae h λp e94 _=>?_;clear h;obtain rfl:=e94;rfl
 .refine Zas h λp e95 e96 q=>?_;clear h;obtain rfl:=e95;obtain⟨p1,p2,p3⟩:=e96;refine⟨_,(~~~(Zdc (Zbx (Zkj Ze1) (pvr 0) Zac (Zah _)) (Zdw (Za1 (Zbu rfl) rfl T.n_all Jc6 ((Za0 (own:=["divisor"]) (fr:=[("number",0)]) rfl (Zbi (by kernel_rfl)) (pi_r2 rfl T.n_range (Zac<&>((pv 0)<&>Zab))) (λ_ _ _ _=>⟨(0<<<["divisor","number"]),Zat,(Zbx Zft (Zdd<|>(pv 1)<&&>(pv 0)) Zac (Zah _))⟩))<&>Zab))))),?_⟩;walk_at "wp";refine Zgg (Jah p1) ⟨_,rfl,2,p,rfl,⟨⇑0,⇑0,∅,∅⟩,λD hD=>Zsk (λ_=>true) hD ∅ (λi H' Q' hi s' q'=>?_) λH' s' e'=>⟨D,rfl,_,SqL.of e',?_⟩⟩
  .have h0:(0:Int)<2+(i:Int):=∅
   have hne:=p3 (2+(i:Int)) ∅ (oz196 hi);refine⟨_,rfl,_,rfl,_,_,rfl,rfl,h0,rfl,?_⟩;have:(!decide (V.int (p % (2+(i:Int)))=V.int 0))=true:=by simp only[V.int.injEq,Jam hne];rfl
   rw[this];exact q' H' (Same.refl _)
  .rw [Zfp];exact q H' s'
def GroundP (p:Int):Prop:=p=0\/Zg9 p
def Zmp:Sp:=λvs H Q _=>∃ p:Int,vs=[.int p]/\GroundP p/\∀ H',Same H H'->Q (.bl true) H'
theorem Zt7 (F:Fun K "tells_ground" "tells_ground" Zd9 f fd)(T:Txt K mg C G S)(Yab:Cal P w K mg base "is_whole" 1 Zhf)(Yaz:Cal P w K mg base "is_prime" 1 Zmt):FnOk P w K mg base CX0 2 f fd ["thing"] Zmp:=by
 have nd:=Ze4.nd;refine F.ok Ze4 (λvs H Q E h=>?_) (λcdv A outer s H vs Q E hr h=>?_)
 .refine Zae h λp e97 _=>?_;clear h;obtain rfl:=e97;rfl
 .refine Zas h λp e98 hp q=>?_;clear h;obtain rfl:=e98;have p0:0<=p:=by rcases hp with rfl|⟨h,_⟩ <;> omega
  have p97:p<=97:=by rcases hp with rfl|⟨_,h,_⟩ <;> omega
  refine⟨_,((@Zay _ _ _ _ _ _ _ _ (PW.pt (Zce (Za9 (Zbb (Yab<$>hr<$>((pvr 0)<&>Zab)))) (Zbj (Za9 (Zoc Zpa Zpa Zac (pvr 0) (Zfk rfl T.g_LARGEST_PRIME)))))) (~~~Zbm) Zaj)<*>(~~~(pe_or (Zbx (Ze2 Zby) (pvr 0) Zac (Zah _)) (Zdw (Yaz<$>hr<$>((pvr 0)<&>Zab)))))),?_⟩;walk_at "wp";refine⟨p,rfl,true,rfl,Zut (Zgg (Jah p0) (Zcj (by rw[Jah p97];decide) (Zb5 (λ_=>q H (Same.refl _)) (λhc=>?_))))⟩;rcases hp with rfl|hp
  .exact absurd (Jah rfl) hc
  .exact ⟨p,rfl,hp,q⟩
def Zng (p:Int):List (Str×V):=Zct "prime" (.int p) []
theorem Zcp (p:Int):(Zng p).lookup ("prime" : Str)=some (.int p):=by
 unfold Zng;rw[Zaz,if_pos rfl]
theorem Zoo (p:Int){x:Str}(h1:¬ x="prime"):(Zng p).lookup x=none:=by
 unfold Zng;rw[Zaz,if_neg h1];rfl
def Zim (G:Addr):Sp:=λvs H Q _=>∃ (g dx:Addr) (p:Int),vs=[.ref g,.int p]/\H g=some (.ins G dx [])/\GroundP p/\∀ (H':Hp),Ext g H H'->H' g=some (.ins G dx (Zng p))->Q .non H'
theorem Zuh (F:Fun K "__init__" "Ground.__init__" Zen f fd)(T:Txt K mg C G S)(Yay:Cal P w K mg base "tells_ground" 2 Zmp):FnOk P w K mg base CX0 3 f fd ["self","prime"] (Zim G):=by
 have nd:=Zfx.nd;refine F.ok Zfx (λvs H Q E h=>?_) (λcdv A outer s H vs Q E hr h=>?_)
 .refine Zhc h λg dx p e99 _=>?_;clear h;obtain rfl:=e99;rfl
 .refine Zcx h λg dx p e910 hg hp q=>?_;clear h;obtain rfl:=e910;refine⟨_,((@Zay _ _ _ _ _ _ _ _ (Za9 (Zbb (Yay<$>hr<$>((pvr 1)<&>Zab)))) (@Zau _ _ _ Zcf) Zaj)<*>(@Zau _ _ _ (Zjc (pvr 0) (pvr 1) rfl))),?_⟩;walk_at "wp";refine⟨p,rfl,hp,λH1 s1=>⟨true,rfl,Zut ⟨G,dx,[],s1 _ _ hg,T.cl_Ground,T.nP,by show 0<1000;decide,?_⟩⟩⟩;exact q _ (λb o nb e=>by rw[Zal nb];exact s1 _ _ e) Zaa
def goodB (p:Int):Bool:=p == 0 || (decide (1<p) && decide (p<=97) && (List.range 98).all λd=>decide ((d:Int)<2) || decide (p<=(d:Int)) || decide (p % (d:Int)≠0))
theorem Zux {p:Int}(h:goodB p=true):GroundP p:=by
 unfold goodB at h;simp only[Jdi,Jbm,Jbu,decide_eq_true_eq,Jbg,Ja6] at h;rcases h with h|⟨⟨h1,h2⟩,h3⟩
 .exact .inl h
 .refine .inr ⟨h1,h2,λd d2 dp=>?_⟩;have:=h3 d.toNat ∅;rw[show ((d.toNat:Nat):Int)=d by omega] at this;rcases this with (h|h)|h
  .omega
  .omega
  .exact h
theorem Zqz {L:List Int}(h:L.all goodB=true){i:Int}(i0:0<=i)(i1:i<L.length):∃ p,atI (L.map V.int) i=some (.int p)/\GroundP p:=by
 have hi:i.toNat<L.length:=by exact oz63 i0 i1
 exact⟨_,Zde i0 (atZ_get hi),Zux (Jbg.mp h _ (atZ_mem hi))⟩
def NumV (H:Hp)(p:Int)(v:V)(x:Int×Int):Prop:=if p=0 then ∃ t,v=.ref t/\H t=some (.tup [.int x.1,.int x.2]) else v=.int x.1
theorem NumV.same {H H':Hp}{p:Int}{v:V}{x:Int×Int}(h:NumV H p v x)(s:Same H H'):NumV H' p v x:=by
 unfold NumV at *;split
 .rename_i hp
  rw[if_pos hp] at h;refine Zae h λt e ht=>?_;clear h;exact⟨t,e,s _ _ ht⟩
 .rename_i hp
  rw[if_neg hp] at h;exact h
theorem NumV.tup {H:Hp}{p:Int}{t:Addr}{x:Int×Int}(hp:p=0)(h:H t=some (.tup [.int x.1,.int x.2])):NumV H p (.ref t) x:=by
 unfold NumV;rw[if_pos hp];exact⟨t,rfl,h⟩
theorem NumV.of {H:Hp}{p:Int}{x:Int×Int}(hp:¬ p=0):NumV H p (.int x.1) x:=by
 unfold NumV;rw[if_neg hp]
theorem NumV.ref {H:Hp}{p:Int}{v:V}{x:Int×Int}(h:NumV H p v x)(hp:p=0):∃ t,v=.ref t/\H t=some (.tup [.int x.1,.int x.2]):=by
 unfold NumV at h;rw[if_pos hp] at h;exact h
theorem NumV.int {H:Hp}{p:Int}{v:V}{x:Int×Int}(h:NumV H p v x)(hp:¬ p=0):v=.int x.1:=by
 unfold NumV at h;rw[if_neg hp] at h;exact h
theorem GroundP.lo {p:Int}(h:GroundP p):0<=p:=by rcases h with rfl|⟨h,_⟩ <;> omega
theorem GroundP.hi {p:Int}(h:GroundP p):p<=97:=by rcases h with rfl|⟨_,h,_⟩ <;> omega
def GAt (G:Addr)(H:Hp)(g:Addr)(p:Int):Prop:=∃ dx,H g=some (.ins G dx (Zng p))
theorem GAt.same {H H':Hp}{g:Addr}{p:Int}(h:GAt G H g p)(s:Same H H'):GAt G H' g p:=let ⟨dx,e⟩:=h;⟨dx,s _ _ e⟩
end
end Pf
namespace Pf
open PySem L2 PyProof.Rows
theorem Zb1 {a b:Int}{A B:Nat}(ha:a.natAbs<=A)(hb:b.natAbs<=B):(a*b).natAbs<=A*B:=by rw[Jcn];exact Jdr ha hb
theorem Zbf {α:Type}{xs:List α}{i:Nat}{x d:α}(h:xs[i]?=some x):xs.getD i d=x:=by rw[Jae,h];rfl
end Pf
namespace Pf
open PySem L2 PyProof.Rows
section
variable {C G S:Addr}
theorem Zb3 {A X:TS}{D:Ends}{σ:L2.St}{H:Hp}(h:∀ X',X'=X->Ztg A X' D σ H):Ztg A X D σ H:=h X rfl
theorem Znk {z:Int}(h:z.natAbs<170141183460469231731687303715884105728):Bt 127 z:=Jaq h ⋯
def Zqc:Sp:=λvs H Q _=>∃ x0 y0:Int,vs=[.int x0,.int y0]/\18446744073709551616<=x0/\x0<85070591730234615865843651857942052864/\0<=y0/\y0<=x0 /\
 ∀ (a b c d x y:Int) (t:Addr) (H':Hp),Same H H'->H' t=some (.tup [.int a,.int b,.int c,.int d])->Steps x0 y0 a b c d x y->Q (.ref t) H'
theorem ok_lead (F:Fun K "leading_steps" "leading_steps" Zdq f fd)(T:Txt K mg C G S)(hpt:P.given.tree=none):FnOk P w K mg base CX0 1 f fd ["one","other"] Zqc:=by
 have nd:=Zev.nd;refine F.ok Zev (λvs H Q E h=>?_) (λcdv A outer s H vs Q E hr h=>?_)
 .refine Zbs h λx0 y0 e94 _=>?_;clear h;obtain rfl:=e94;rfl
 .refine Zju h λx0 y0 e95 hx64 hx hy0 hyx q=>?_;clear h;obtain rfl:=e95;refine⟨_,((Zb4 (@Zam _ _ _ _ _ (Zac<&>(Zac<&>(Zac<&>(Zac<&>Zab))))) (@Zc2 _ _ _ _ _ 4 rfl ((2>>>nd)^^^((3>>>nd)^^^((4>>>nd)^^^((5>>>nd)^^^(@Za6 _))))) ⇑1 ⇑1))<*>((Zgr Jbr (Zeo op_ge (pv 1) (Zvz<|>Zac<&&>Zac) (Zah _)) ((6|||nd|||((Zep hpt (Zdu hr))<|>(pvr 0)<&&>(pvr 1)))<*>((Zkg (i:=0) (j:=1) rfl nd rfl rfl ⇑0 rfl rfl ((pvr 1)<&>((Zgv<|>(pvr 0)<&&>(Zbn<|>(pvr 6)<&&>(pvr 1)))<&>Zab)) rfl)<*>(@Zau _ _ _ (Zb4 (@Zam _ _ _ _ _ ((pvr 4)<&>((pvr 5)<&>((Zgv<|>(pvr 2)<&&>(Zbn<|>(pvr 6)<&&>(pvr 4)))<&>((Zgv<|>(pvr 3)<&&>(Zbn<|>(pvr 6)<&&>(pvr 5)))<&>Zab))))) (@Zc2 _ _ _ _ _ 4 rfl ((2>>>nd)^^^((3>>>nd)^^^((4>>>nd)^^^((5>>>nd)^^^(@Za6 _))))) ⇑1 ⇑1))))))<*>(~~~(@Zam _ _ _ _ _ ((pvr 2)<&>((pvr 3)<&>((pvr 4)<&>((pvr 5)<&>Zab)))))))),?_⟩;walk_at "wp";refine⟨⇑0,λp hp=>⟨_,SqT.of Zaa,rfl,_,_,rfl,_,_,rfl,_,_,rfl,_,_,rfl,rfl,?_⟩⟩;refine⟨λn σ H2=>∃ (a b c d x y:Int) (o:Option V),σ=[some (.int x),some (.int y),some (.int a),some (.int b),some (.int c),some (.int d),o]/\Same H H2/\n=y.natAbs/\Steps x0 y0 a b c d x y,
   ⟨_,1,0,0,1,x0,y0,none,rfl,Same.new hp,rfl,⟨∅,∅,⟨1,⇑0,⇑0,⇑0,⇑0,⇑0,⇑0⟩,hx64,hy0,hyx,⇑0,.inl ⟨rfl,rfl,rfl,rfl⟩⟩⟩,?_⟩
  intro n σ H2 e91;refine xE7_4 e91 λa b c d x y o e96 s2 e97 st=>?_;clear e91;obtain rfl:=e96;obtain rfl:=e97;walk_at "wp";have e64:(2:Int) ^ Int.toNat 64=18446744073709551616:=⋯
  rw[e64];refine⟨⟨⇑0,⇑0,⇑0⟩,Zb5 (λhc=>?_) (λhc=>?_)⟩
  .have hc:=Jaz hc;have nx:=st.next hx hyx hc;obtain⟨c1,c2⟩:=st.cd hx hyx;have hxs:x<=x0+y0:=by
    rcases st.pr with ⟨rfl,rfl,rfl,rfl⟩|⟨_,h⟩
    .have:=st.hx;omega
    .have:=st.yn;omega
   have hyx':=st.yx;have hx0:=st.x64;have q0:0<=x / y:=Jd4 (Zt4 hx0) (Zt4 hc);have q1:x / y<=x:=Int.ediv_le_self _ (Zt4 hx0);have hr0:=nx.yn;have hr1:x-x / y*y<y:=by
    have h1:=Ja8 x (show 0<y by omega);have h2:=Jdt x y;rw[Int.mul_comm y] at h2;exact oz224 h1 h2
   refine⟨_,λ_ _ h=>h,∅,?_⟩;rw[Zg2 ∅];refine⟨(Znk (oz72 hx hyx hxs q0 q1)).ok (Znk (oz188 hx hyx hc hxs hyx')) ⇑0,_,_,⟨rfl,rfl⟩,(Znk (oz72 hx hyx hxs q0 q1)).ok (Znk (oz175 c1)) ⇑0,(Znk (oz72 hx hyx hxs q0 q1)).ok (Znk (oz175 c2)) ⇑0,⇑0,λp2 hp2=>⟨_,SqT.of Zaa,rfl,_,_,rfl,_,_,rfl,_,_,rfl,_,_,rfl,rfl,?_⟩⟩;exact⟨_,oz131 hr0 hr1,_,_,_,_,_,_,_,rfl,s2.trans (Same.new hp2),rfl,nx⟩
  .exact ⟨⇑0,λt ht=>q a b c d x y t _ (s2.trans (Same.new ht)) Zaa st⟩
theorem Zu0 (x:Int){y:Int}(h:y≠0):(x.fmod y).natAbs<y.natAbs:=by
 rcases Int.lt_or_gt_of_ne h with h|h
 .have e:x.fmod y=-((-x).fmod (-y)):=by rw[Int.neg_fmod_neg,Int.neg_neg]
  have h1:=Jdm (-x) (show 0 < -y by exact oz226 h);have h2:=Jeh (-x) (show 0 < -y by exact oz226 h);exact oz129 e h1 h2
 .have h1:=Jdm x (show 0<y by omega);have h2:=Jeh x (show 0<y by omega);exact oz215 h1 h2
theorem Zl6 (a b:Int):Int.gcd b (a.fmod b)=Int.gcd a b:=by
 rw[Int.fmod_def,Int.sub_eq_add_neg,<- Int.mul_neg,Int.gcd_add_mul_left_right,Jef]
theorem Ztm {x y S a b c d X Y:Int}(hS:0<S)(st:Steps (x / S) (y / S) a b c d X Y)(hx:x / S<85070591730234615865843651857942052864)(hyx:y / S<=x / S)(hb:b≠0)(y0:0<=y)(x0:0<=x):(a*x+b*y).natAbs+(c*x+d*y).natAbs<(x+y).natAbs:=by
 obtain⟨c1,d1⟩:=st.cd hx hyx;obtain⟨a1,b1⟩:=st.ab;obtain⟨_,hs⟩:=st.pr.resolve_left λz=>hb z.2.1;have ex:x=S*(x / S)+x % S:=(Int.mul_ediv_add_emod x S).symm;have ey:y=S*(y / S)+y % S:=(Int.mul_ediv_add_emod y S).symm;have rx0:=Jbq x (show S≠0 by exact Zo8 hS);have rx1:=Ja8 x hS;have ry0:=Jbq y (show S≠0 by exact Zo8 hS);have ry1:=Ja8 y hS;have hX:=st.x64;have hY:=st.yn;have e1:a*x+b*y=S*X+(a*(x % S)+b*(y % S)):=by
  rw[<- st.hx]
  grind
 have e2:c*x+d*y=S*Y+(c*(x % S)+d*(y % S)):=by
  rw[<- st.hy]
  grind
 rw[e1,e2];generalize x / S=x' at *;generalize y / S=y' at *;generalize x % S=rx at *;generalize y % S=ry at *;have p1:=Zb1 (show a.natAbs<=4611686018427387903 by exact Zt5 a1) (show rx.natAbs<=S.natAbs by exact oz1 rx0 rx1);have p2:=Zb1 (show b.natAbs<=4611686018427387903 by exact Zt5 b1) (show ry.natAbs<=S.natAbs by exact oz1 ry0 ry1);have p3:=Zb1 (show c.natAbs<=4611686018427387903 by exact Zt5 c1) (show rx.natAbs<=S.natAbs by exact oz1 rx0 rx1);have p4:=Zb1 (show d.natAbs<=4611686018427387903 by exact Zt5 d1) (show ry.natAbs<=S.natAbs by exact oz1 ry0 ry1);have m1:S*(X+Y+18446744073709551616)<=S*(x'+y'):=Int.mul_le_mul_of_nonneg_left hs (oz70 hS);rw[Int.mul_add,Int.mul_add,Int.mul_add] at m1;have m2:0<=S*X:=Jcz (oz70 hS) (Zt4 hX);have m3:0<=S*Y:=Jcz (oz70 hS) hY;have tri:∀ u v z:Int,(u+(v+z)).natAbs<=u.natAbs+(v.natAbs+z.natAbs):=λu v z=>Jbh (Int.natAbs_add_le _ _) (Nat.add_le_add_left (Int.natAbs_add_le _ _) _);have t1:=tri (S*X) (a*rx) (b*ry);have t2:=tri (S*Y) (c*rx) (d*ry);have q1:=Jc8 m2;have q2:=Jc8 m3;have q3:=Jc8 (show 0<=S by exact oz70 hS);have q4:=Jc8 (show 0<=x+y by exact oz84 y0 x0);clear e1 e2 hs st a1 b1 c1 d1 hx hyx hX hY;generalize (S*X+(a*rx+b*ry)).natAbs=N1 at *;generalize (S*Y+(c*rx+d*ry)).natAbs=N2 at *;generalize (a*rx).natAbs=n1 at *;generalize (b*ry).natAbs=n2 at *;generalize (c*rx).natAbs=n3 at *;generalize (d*ry).natAbs=n4 at *;generalize (S*X).natAbs=n5 at *;generalize (S*Y).natAbs=n6 at *;generalize (x+y).natAbs=n7 at *;generalize S.natAbs=n8 at *;generalize S*X=zX at *;generalize S*Y=zY at *;generalize S*x'=zx at *;generalize S*y'=zy at *;exact oz91 rx0 rx1 ry0 t1 t2 q4 q3 p1 p2 p3 p4 q1 q2 ex ey m1
theorem Zva {x:Int}{n:Nat}(h0:0<=x)(h:Builtin.Int.intBits x=n)(hn:126<=n):18446744073709551616<=x / 2 ^ (n-126)/\x / 2 ^ (n-126)<85070591730234615865843651857942052864:=by
 have hp:(0:Int)<2 ^ (n-126):=Int.pow_pos ⇑0;have hu:x.natAbs<2 ^ n:=Jc9.mp (oz24 h);have hl:¬ x.natAbs<2 ^ (n-1):=λz=>by have:=Jc9.mpr z;omega
 constructor
 .refine (Int.le_ediv_iff_mul_le hp).mpr ?_;have e:(18446744073709551616:Int)*2 ^ (n-126)=2 ^ (n-62):=by
   rw[show (18446744073709551616:Int)=2 ^ 64 by decide +kernel,<- Int.pow_add];congr 1;exact oz37 hn
  have e2:(2:Int) ^ (n-62)=((2 ^ (n-62):Nat):Int):=by rw[Int.natCast_pow];rfl
  have e3:(2:Nat) ^ (n-62)<=2 ^ (n-1):=Jcf ⇑0 oz69;rw[e,e2];exact oz121 h0 hl e3
 .refine Int.ediv_lt_of_lt_mul hp ?_;have e:(85070591730234615865843651857942052864:Int)*2 ^ (n-126)=2 ^ n:=by
   rw[show (85070591730234615865843651857942052864:Int)=2 ^ 126 by decide +kernel,<- Int.pow_add];congr 1;exact oz114 hn
  have e2:(2:Int) ^ n=((2 ^ n:Nat):Int):=by rw[Int.natCast_pow];rfl
  rw[e,e2];exact oz122 hu
def Zmr:Sp:=λvs H Q _=>∃ x y:Int,vs=[.int x,.int y]/\0<=x/\0<=y/\4000<Builtin.Int.intBits x/\4000<Builtin.Int.intBits y/\Bt NB1 x/\Bt NB1 y /\
 ∀ (u v:Int) (t:Addr) (H':Hp),Same H H'->H' t=some (.tup [.int u,.int v])->0<=u->0<=v->u+v<x+y->Int.gcd u v=Int.gcd x y->Q (.ref t) H'
theorem Zua (F:Fun K "shortened" "shortened" Zf7 f fd)(T:Txt K mg C G S)(Ybe:Cal P w K mg base "leading_steps" 1 Zqc):FnOk P w K mg base CX0 2 f fd ["one","other"] Zmr:=by
 have nd:=Zhw.nd;refine F.ok Zhw (λvs H Q E h=>?_) (λcdv A outer s H vs Q E hr h=>?_)
 .refine Zbs h λx0 y0 e98 _=>?_;clear h;obtain rfl:=e98;rfl
 .refine Zju h λx y e99 x0 y0 xb yb e910=>?_;clear h;obtain rfl:=e99;refine Zba e910 λbx by' q=>?_
  clear e910;refine⟨_,((@Zay _ _ _ _ _ _ _ _ (Zak Zjx (pvr 0) (pvr 1) (Zah _)) (@Zau _ _ _ (Zkg (i:=0) (j:=1) rfl nd rfl rfl ⇑0 rfl rfl ((pvr 1)<&>((pvr 0)<&>Zab)) rfl)) Zaj)<*>((2|||nd|||(Zgv<|>(Zq4 Jdn Jc4 Jc5 Zm9 (pvr 0))<&&>(Zfk rfl T.g_LEADING)))<*>((Zb4 (Ybe<$>hr<$>((Zvy<|>(pvr 0)<&&>(pvr 2))<&>((Zvy<|>(pvr 1)<&&>(pvr 2))<&>Zab))) (@Zc2 _ _ _ _ _ 4 rfl ((3>>>nd)^^^((4>>>nd)^^^((5>>>nd)^^^((6>>>nd)^^^(@Za6 _))))) ⇑1 ⇑1))<*>((@Zay _ _ _ _ _ _ _ _ (Zak Zby (pvr 4) Zac (Zah _)) (~~~(@Zam _ _ _ _ _ ((pvr 1)<&>((Zq8<|>(pvr 0)<&&>(pvr 1))<&>Zab)))) Zaj)<*>(~~~(@Zam _ _ _ _ _ ((Za1 Zeq rfl T.n_abs boot_abs ((Zc3<|>(Zbn<|>(pvr 3)<&&>(pvr 0))<&&>(Zbn<|>(pvr 4)<&&>(pvr 1)))<&>Zab))<&>((Za1 Zeq rfl T.n_abs boot_abs ((Zc3<|>(Zbn<|>(pvr 5)<&&>(pvr 0))<&&>(Zbn<|>(pvr 6)<&&>(pvr 1)))<&>Zab))<&>Zab)))))))),?_⟩;refine Zb3 λX hX=>?_;walk_at "wp";have aft:∀ x y:Int,0<=y->y<=x->4000<Builtin.Int.intBits x->4000<Builtin.Int.intBits y->Bt NB1 x->Bt NB1 y->(∀ (u v:Int) (t:Addr) (H':Hp),Same H H'->H' t=some (.tup [.int u,.int v])->0<=u->0<=v->u+v<x+y->Int.gcd u v=Int.gcd x y->Q (.ref t) H')->
    X { nx:=λx H'=>Q V.non H',rt:=Q } [some (.int x),some (.int y),none,none,none,none,none] H:=by
   intro x y y0 yx xb yb bx by' q
   subst hX;walk_at "wp";have x0:0<=x:=∅
   obtain⟨b1,b2⟩:=Zva x0 rfl (show 126<=Builtin.Int.intBits x by omega);have en:((Builtin.Int.intBits x:Int)-126).toNat=Builtin.Int.intBits x-126:=by exact oz29
   rw[en];have hS:(0:Int)<2 ^ (Builtin.Int.intBits x-126):=Int.pow_pos ⇑0;generalize (2:Int) ^ (Builtin.Int.intBits x-126)=S at *;have yn:y≠0:=λz=>by
    subst z;have:Builtin.Int.intBits 0=0:=rfl;omega
   have hyx:y / S<=x / S:=Int.ediv_le_ediv hS yx;refine⟨rfl,oz179 xb,oz179 xb,_,_,rfl,b1,b2,Jd4 y0 (oz70 hS),hyx,λa b c d X' Y' t H1 s1 ht st=>?_⟩;refine⟨t,rfl,_,SqT.of ht,rfl,_,_,rfl,_,_,rfl,_,_,rfl,_,_,rfl,rfl,rfl,Zb5 (λhb=>?_) (λhb=>?_)⟩
   .refine ⟨yn,⇑0,λp hp=>?_⟩;have f0:=Jdm x (show 0<y by exact oz123 y0 yn);have f1:=Jeh x (show 0<y by exact oz123 y0 yn);exact q _ _ p _ (s1.trans (Same.new hp)) Zaa y0 f0 (oz197 yx f1) (Zl6 x y)
   .have hb:b≠0:=λz=>hb (Jah (by rw[z]));obtain⟨a1,a2⟩:=st.ab;obtain⟨c1,c2⟩:=st.cd b2 hyx;have sm:∀ z:Int,z.natAbs<4611686018427387904->Bt 127 z:=λz hz=>Znk (oz175 hz);have lt:=Ztm hS st b2 hyx hb y0 x0;refine⟨_,rfl,(sm a a1).ok bx ⇑0,_,rfl,(sm b a2).ok by' ⇑0,_,rfl,(sm c c1).ok bx ⇑0,_,rfl,(sm d c2).ok by' ⇑0,⇑0,λp hp=>?_⟩;have ab:∀ z:Int,(if z<0 then -z else z)=(z.natAbs:Int):=λz=>by split <;> omega
    rw[ab,ab];refine q _ _ p _ (s1.trans (Same.new hp)) Zaa oz8 oz8 (oz6 y0 x0 lt) ?_;refine Zas st.sg λe he det _=>?_;have eg:∀ u v:Int,Int.gcd (u.natAbs:Int) (v.natAbs:Int)=Int.gcd u v:=λu v=>by simp[Int.gcd]
    rw[eg,Zuz (by rcases he with rfl|rfl <;> omega)]
  refine Zb5 (λhc=>?_) (λhc=>?_)
  .have hc:=Jaz hc;exact Zaq _ _ ⟨⟨rfl,rfl⟩,aft y x x0 ∅ yb xb by' bx λu v t H' s' ht u0 v0 huv hg=>q u v t H' s' ht u0 v0 ∅ (by rw[hg,Jef])⟩
  .have hc:¬ x<y:=λz=>hc (Jah z);exact aft x y y0 ∅ xb yb bx by' q
theorem Zmc {x y:Int}(h:x.natAbs<=y.natAbs):Builtin.Int.intBits x<=Builtin.Int.intBits y:=Jc9.mpr (Jbf h (Jc9.mp (Jaj _)))
def spNbl:Sp:=λvs H Q _=>∃ x y:Int,vs=[.int x,.int y]/\0<=x/\0<=y/\Bt NB x/\Bt NB y /\
 ∀ (u v:Int) (t:Addr) (H':Hp),Same H H'->H' t=some (.tup [.int u,.int v])->Int.gcd u v=Int.gcd x y->Q (.ref t) H'
theorem ok_nbl (F:Fun K "not_both_long" "not_both_long" Zdn f fd)(T:Txt K mg C G S)(Ya9:Cal P w K mg base "shortened" 2 Zmr):FnOk P w K mg base CX0 3 f fd ["one","other"] spNbl:=by
 have nd:=Zes.nd;refine F.ok Zes (λvs H Q E h=>?_) (λcdv A outer s H vs Q E hr h=>?_)
 .refine Zbs h λx0 y0 e911 _=>?_;clear h;obtain rfl:=e911;rfl
 .refine Zju h λx y e912 x0 y0 bx by' q=>?_
  clear h;obtain rfl:=e912;refine⟨_,((Zgr Jbr (Zeo Ze1 (Zq4 Jdn Jc4 Jc5 Zm9 (Za1 (Zmb rfl) rfl T.n_min boot_min ((pv 0)<&>((pv 1)<&>Zab)))) (Zfk rfl T.g_LONG) (Zah _)) (@Zau _ _ _ (Zb4 (Ya9<$>hr<$>((pvr 0)<&>((pvr 1)<&>Zab))) (@Zc2 _ _ _ _ _ 2 rfl ((0>>>nd)^^^((1>>>nd)^^^(@Za6 _))) ⇑1 ⇑1))))<*>(~~~(@Zam _ _ _ _ _ ((pvr 0)<&>((pvr 1)<&>Zab))))),?_⟩;walk_at "wp";refine⟨λn σ H2=>∃ u v:Int,σ=[some (.int u),some (.int v)]/\Same H H2/\n=(u+v).toNat/\0<=u/\0<=v/\u+v<=x+y/\Int.gcd u v=Int.gcd x y,⟨_,x,y,rfl,Same.refl _,rfl,x0,y0,Jes _,rfl⟩,?_⟩;intro n σ H2 e92;refine Zju e92 λu v e913 s2 e914 u0 v0 e915=>?_;clear e92;obtain rfl:=e913;obtain rfl:=e914;obtain⟨huv,hg⟩:=e915;walk_at "wp";have hb:∀ z:Int,0<=z->z<=x+y->Bt NB1 z:=λz z0 z1=>(Bt.add bx by').abs_le (oz109 z0 z1);refine Zaq _ _ ⟨⟨rfl,rfl⟩,rfl,Zb5 (λhc=>?_) (λhc=>?_)⟩
  .have hc:=Jaz hc;have bu:4000<Builtin.Int.intBits u:=by
    by_cases h:v<u
    .rw [if_pos h] at hc;exact Jaq (Zt0 hc) (Zmc (show v.natAbs<=u.natAbs by exact oz1 v0 h))
    .rw [if_neg h] at hc;exact Zt0 hc
   have bv:4000<Builtin.Int.intBits v:=by
    by_cases h:v<u
    .rw [if_pos h] at hc;exact Zt0 hc
    .rw [if_neg h] at hc;exact Jaq (Zt0 hc) (Zmc (show u.natAbs<=v.natAbs by exact oz165 u0 h))
   refine⟨_,λ_ _ h=>h,u,v,rfl,u0,v0,bu,bv,hb u u0 ∅,hb v v0 ∅,λu' v' t H3 s3 ht u0' v0' lt hg'=>⟨t,rfl,_,SqT.of ht,rfl,_,_,rfl,_,_,rfl,rfl,(u'+v').toNat,oz80 u0' v0' lt,u',v',rfl,s2.trans s3,rfl,u0',v0',oz191 huv lt,hg'.trans hg⟩⟩
  .exact ⟨⇑0,λt ht=>q u v t _ (s2.trans (Same.new ht)) Zaa hg⟩
def Zqg:Sp:=λvs H Q _=>∃ a b:Int,vs=[.int a,.int b]/\Bt NB a/\Bt NB b/\∀ H',Same H H'->Q (.int (Int.gcd a b:Int)) H'
theorem ok_cdB (F:Fun K "common_divisor" "common_divisor" Zc9 f fd)(T:Txt K mg C G S)(Ybi:Cal P w K mg base "not_both_long" 3 spNbl):FnOk P w K mg base CX0 4 f fd ["one","other"] Zqg:=by
 have nd:=Zef.nd;refine F.ok Zef (λvs H Q E h=>?_) (λcdv A outer s H vs Q E hr h=>?_)
 .refine Zbs h λa b e916 _=>?_;clear h;obtain rfl:=e916;rfl
 .refine Zf2 h λa b e917 ha hb q=>?_;clear h;obtain rfl:=e917;refine⟨_,((@Zay _ _ _ _ _ _ _ _ (Zak Ze1 (Zq4 Jdn Jc4 Jc5 Zm9 (pvr 0)) (Zfk rfl T.g_LONG) (Zah _)) (@Zau _ _ _ (Zb4 (Ybi<$>hr<$>((Za1 Zeq rfl T.n_abs boot_abs ((pvr 0)<&>Zab))<&>((Za1 Zeq rfl T.n_abs boot_abs ((pvr 1)<&>Zab))<&>Zab))) (@Zc2 _ _ _ _ _ 2 rfl ((0>>>nd)^^^((1>>>nd)^^^(@Za6 _))) ⇑1 ⇑1))) Zaj)<*>((Zgr Jbr (Zeo Zft (pv 1) Zac (Zah _)) (@Zau _ _ _ (Zkg (i:=0) (j:=1) rfl nd rfl rfl ⇑0 rfl rfl ((pvr 1)<&>((Zq8<|>(pvr 0)<&&>(pvr 1))<&>Zab)) rfl)))<*>(~~~(Za1 Zeq rfl T.n_abs boot_abs ((pvr 0)<&>Zab))))),?_⟩;refine Zb3 λX hX=>?_;walk_at "wp";have aft:∀ (x y:Int) (H1:Hp),Same H H1->Int.gcd x y=Int.gcd a b->X { nx:=λx H'=>Q V.non H',rt:=Q } [some (.int x),some (.int y)] H1:=by
   intro x y H1 s1 hg;subst hX;walk_at "wp";refine⟨λn σ H2=>∃ x y:Int,σ=[some (.int x),some (.int y)]/\H2=H1/\n=y.natAbs/\Int.gcd x y=Int.gcd a b,⟨_,x,y,rfl,rfl,rfl,hg⟩,?_⟩;intro n σ H2 e93;refine Zf2 e93 λx y e918 e919 e920 hg=>?_;clear e93;obtain rfl:=e918;obtain rfl:=e919;obtain rfl:=e920;walk_at "wp";refine Zb5 (λhc=>?_) (λhc=>?_)
   .have hy0:¬ y=0:=by simpa using hc
    exact⟨_,λ_ _ h=>h,hy0,_,_,⟨rfl,rfl⟩,(x.fmod y).natAbs,Zu0 x hy0,y,x.fmod y,rfl,rfl,rfl,by rw[Zl6];exact hg⟩
   .have hy0:y=0:=by simpa using hc
    subst hy0;have e:(if x<0 then -x else x)=(Int.gcd a b:Int):=by
     rw[<- hg,Int.gcd_zero];split <;> omega
    rw[e];exact q _ s1
  have ab:∀ z:Int,(if z<0 then -z else z)=(z.natAbs:Int):=λz=>by split <;> omega
  refine⟨rfl,Zb5 (λhc=>?_) (λhc=>aft a b H (Same.refl _) rfl)⟩;rw[ab,ab];exact Zaq _ _ ⟨rfl,oz36,oz36,ha.abs_le (by simp),hb.abs_le (by simp),λu v t H1 s1 ht hg=>⟨t,rfl,_,SqT.of ht,rfl,_,_,rfl,_,_,rfl,rfl,aft u v H1 s1 (by rw[hg];simp[Int.gcd])⟩⟩
def Kn (H:Hp)(v:V):Prop:=v=.non\/(∃ b,v=.bl b)\/(∃ i,v=.int i)\/(∃ s,v=.str s)\/(∃ a xs,v=.ref a/\H a=some (.lst xs)/\xs.length<=1000)\/∃ a xs,v=.ref a/\H a=some (.tup xs)/\xs.length<=1000
theorem Kn.same {H H':Hp}{v:V}(h:Kn H v)(s:Same H H'):Kn H' v:=by
 rcases h with h|h|h|h|⟨a,xs,h1,h2,h3⟩|⟨a,xs,h1,h2,h3⟩
 .exact .inl h
 .exact .inr (.inl h)
 .exact .inr (.inr (.inl h))
 .exact .inr (.inr (.inr (.inl h)))
 .exact .inr (.inr (.inr (.inr (.inl ⟨a,xs,h1,s _ _ h2,h3⟩))))
 .exact .inr (.inr (.inr (.inr (.inr ⟨a,xs,h1,s _ _ h2,h3⟩))))
theorem Kn.int {H:Hp}{i:Int}:Kn H (.int i):=.inr (.inr (.inl ⟨i,rfl⟩))
theorem Kn.bl {H:Hp}{i:Bool}:Kn H (.bl i):=.inr (.inl ⟨i,rfl⟩)
theorem Kn.str {H:Hp}{i:Str}:Kn H (.str i):=.inr (.inr (.inr (.inl ⟨i,rfl⟩)))
theorem Kn.lst {H:Hp}{a:Addr}{xs:List V}(h:H a=some (.lst xs))(hl:xs.length<=1000):Kn H (.ref a):=.inr (.inr (.inr (.inr (.inl ⟨a,xs,rfl,h,hl⟩))))
theorem Kn.tup {H:Hp}{a:Addr}{xs:List V}(h:H a=some (.tup xs))(hl:xs.length<=1000):Kn H (.ref a):=.inr (.inr (.inr (.inr (.inr ⟨a,xs,rfl,h,hl⟩))))
def isI:V->Bool
 | .int _=>true
 | .bl _=>true
 | _=>false
def isBl:V->Bool
 | .bl _=>true
 | _=>false
def Zjy (H:Hp):V->Bool
 | .ref a=>match H a with
  | some (.tup _)=>true
  | _=>false
 | _=>false
def Zjs (H:Hp):V->Bool
 | .ref a=>match H a with
  | some (.lst _)=>true
  | _=>false
 | _=>false
def whB:V->Bool
 | .int _=>true
 | _=>false
theorem kn_int {H:Hp}{v:V}(h:Kn H v):∃ t,TyOf K H v t/\PySem.W.kitOne K t (.type "int")=some (isI v):=by
 rcases h with rfl|⟨b,rfl⟩|⟨i,rfl⟩|⟨z,rfl⟩|⟨a,xs,rfl,h2,_⟩|⟨a,xs,rfl,h2,_⟩
 .exact ⟨_,.non,by kernel_rfl⟩
 .exact ⟨_,.bl b,Zpg K⟩
 .exact ⟨_,.int i,Zl5 K⟩
 .exact ⟨_,.str z,by kernel_rfl⟩
 .exact ⟨_,.lst h2,by kernel_rfl⟩
 .exact ⟨_,.tup h2,by kernel_rfl⟩
theorem kn_bool {H:Hp}{v:V}(h:Kn H v):∃ t,TyOf K H v t/\PySem.W.kitOne K t (.type "bool")=some (isBl v):=by
 rcases h with rfl|⟨b,rfl⟩|⟨i,rfl⟩|⟨z,rfl⟩|⟨a,xs,rfl,h2,_⟩|⟨a,xs,rfl,h2,_⟩
 .exact ⟨_,.non,by kernel_rfl⟩
 .exact ⟨_,.bl b,Znd K⟩
 .exact ⟨_,.int i,Zkl K⟩
 .exact ⟨_,.str z,by kernel_rfl⟩
 .exact ⟨_,.lst h2,by kernel_rfl⟩
 .exact ⟨_,.tup h2,by kernel_rfl⟩
theorem Zrs {H:Hp}{v:V}(h:Kn H v):∃ t,TyOf K H v t/\PySem.W.kitOne K t (.type "tuple")=some (Zjy H v):=by
 rcases h with rfl|⟨b,rfl⟩|⟨i,rfl⟩|⟨z,rfl⟩|⟨a,xs,rfl,h2,_⟩|⟨a,xs,rfl,h2,_⟩
 .exact ⟨_,.non,by kernel_rfl⟩
 .exact ⟨_,.bl b,by kernel_rfl⟩
 .exact ⟨_,.int i,by kernel_rfl⟩
 .exact ⟨_,.str z,by kernel_rfl⟩
 .refine ⟨_,.lst h2,?_⟩;simp only[Zjy,h2]
  kernel_rfl
 .refine ⟨_,.tup h2,?_⟩;simp only[Zjy,h2];exact Zdx K
theorem Zk4 {H:Hp}{v:V}(h:Kn H v):∃ t,TyOf K H v t/\PySem.W.kitOne K t (.type "list")=some (Zjs H v):=by
 rcases h with rfl|⟨b,rfl⟩|⟨i,rfl⟩|⟨z,rfl⟩|⟨a,xs,rfl,h2,_⟩|⟨a,xs,rfl,h2,_⟩
 .exact ⟨_,.non,by kernel_rfl⟩
 .exact ⟨_,.bl b,by kernel_rfl⟩
 .exact ⟨_,.int i,by kernel_rfl⟩
 .exact ⟨_,.str z,by kernel_rfl⟩
 .refine ⟨_,.lst h2,?_⟩;simp only[Zjs,h2];exact Zb9 K
 .refine ⟨_,.tup h2,?_⟩;simp only[Zjs,h2]
  kernel_rfl
def Zgl:Sp:=λvs H Q _=>∃ v:V,vs=[v]/\Kn H v/\Q (.bl (whB v)) H
theorem Zrf (F:Fun K "is_whole" "is_whole" Zfi f fd)(T:Txt K mg C G S):FnOk P w K mg base CX0 1 f fd ["thing"] Zgl:=by
 have nd:=Zej.nd;refine F.ok Zej (λvs H Q E h=>?_) (λcdv A outer s H vs Q E hr h=>?_)
 .refine Zae h λi e91 _=>?_;clear h;obtain rfl:=e91;rfl
 .refine Zas h λv e92 hk q=>?_;clear h;obtain rfl:=e92;refine⟨_,(~~~(Zdc (Za1 Zax rfl T.n_isinstance Jbb ((pvr 0)<&>((Zfs rfl T.n_int boot_int)<&>Zab))) (Zdw (Zvv (Za1 Zax rfl T.n_isinstance Jbb ((pvr 0)<&>((Zfs rfl T.n_bool boot_bool)<&>Zab))))))),?_⟩;walk_at "wp";refine Zae (kn_int (K:=K) hk) λt1 h1 h2=>?_;refine Zae (kn_bool (K:=K) hk) λt2 h3 h4=>?_;refine Zaq _ _ ⟨⟨rfl,rfl⟩,_,rfl,_,h1,_,h2,Zb5 (λhc=>⟨_,_,⟨rfl,rfl⟩,_,rfl,_,h3,_,h4,?_⟩) (λhc=>?_)⟩
  .cases v <;> first|exact q|cases hc
  .cases v <;> first|exact q|exact absurd rfl hc
def frB (H:Hp):V->Bool
 | .ref a=>match H a with
  | some (.tup [.int x,.int y])=>decide (1<=y) && decide (Int.gcd x y=1)
  | _=>false
 | _=>false
def Zkk (p:Int)(H:Hp)(v:V):Bool:=if p=0 then frB H v else match v with
 | .int i=>decide (0<=i) && decide (i<p)
 | _=>false
def Zoa (p wd:Int)(H:Hp):V->Bool
 | .ref a=>match H a with
  | some (.lst xs)=>decide ((xs.length:Int)=wd) && xs.all (Zkk p H)
  | _=>false
 | _=>false
def Zgj (p:Int)(H:Hp):V->Bool
 | .ref a=>match H a with
  | some (.tup [.int h,.int wd,.ref r])=>match H r with
   | some (.lst rows)=>decide (0<=h) && decide (0<=wd) && decide ((rows.length:Int)=h) && rows.all (Zoa p wd H)
   | _=>false
  | _=>false
 | _=>false
def TopV (y:V):Prop:=∀ i,y=.int i->Top i
def WfN (H:Hp)(v:V):Prop:=Kn H v/\∀ a xs,v=.ref a->H a=some (.tup xs)->∀ y∈xs,Kn H y/\TopV y
def WfR (H:Hp)(v:V):Prop:=Kn H v/\∀ a xs,v=.ref a->H a=some (.lst xs)->∀ y∈xs,WfN H y
def WfT (H:Hp)(v:V):Prop:=Kn H v/\∀ a xs,v=.ref a->H a=some (.tup xs)->∀ y∈xs,Kn H y/\∀ r rows,y=.ref r->H r=some (.lst rows)->∀ z∈rows,WfR H z
theorem Kn.back {H H':Hp}{a:Addr}{o:HO}(h:Kn H (.ref a))(s:Same H H')(e:H' a=some o):H a=some o:=by
 rcases h with h|⟨_,h⟩|⟨_,h⟩|⟨_,h⟩|⟨b,xs,h1,h2,_⟩|⟨b,xs,h1,h2,_⟩
 .cases h
 .cases h
 .cases h
 .cases h
 .cases h1;rw[s _ _ h2] at e;rw[h2,e]
 .cases h1;rw[s _ _ h2] at e;rw[h2,e]
theorem Kn.at {H H':Hp}{a:Addr}(h:Kn H (.ref a))(s:Same H H'):H' a=H a:=by
 rcases h with h|⟨_,h⟩|⟨_,h⟩|⟨_,h⟩|⟨b,xs,h1,h2,_⟩|⟨b,xs,h1,h2,_⟩
 .cases h
 .cases h
 .cases h
 .cases h
 .cases h1;rw[s _ _ h2,h2]
 .cases h1;rw[s _ _ h2,h2]
theorem WfN.same {H H':Hp}{v:V}(h:WfN H v)(s:Same H H'):WfN H' v:=
 ⟨h.1.same s,λa xs e1 e2 y hy=>by subst e1;exact⟨(h.2 a xs rfl (h.1.back s e2) y hy).1.same s,(h.2 a xs rfl (h.1.back s e2) y hy).2⟩⟩
theorem WfR.same {H H':Hp}{v:V}(h:WfR H v)(s:Same H H'):WfR H' v:=
 ⟨h.1.same s,λa xs e1 e2 y hy=>by subst e1;exact (h.2 a xs rfl (h.1.back s e2) y hy).same s⟩
theorem WfT.same {H H':Hp}{v:V}(h:WfT H v)(s:Same H H'):WfT H' v:=
 ⟨h.1.same s,λa xs e1 e2 y hy=>by
  subst e1;obtain⟨k,hz⟩:=h.2 a xs rfl (h.1.back s e2) y hy;exact⟨k.same s,λr rows e3 e4 z zz=>by subst e3;exact (hz r rows rfl (k.back s e4) z zz).same s⟩⟩
theorem Zjg {H H':Hp}{p:Int}{v:V}(h:WfN H v)(s:Same H H'):Zkk p H' v=Zkk p H v:=by
 unfold Zkk;split
 .cases v <;> try rfl
  simp only[frB,h.1.at s]
 .rfl
theorem Zhr {α:Type}{f g:α->Bool}:∀ {xs:List α},(∀ x∈xs,f x=g x)->xs.all f=xs.all g
 | [],_=>rfl
 | x::xs,h=>by
  rw[Jdj,Jdj,h x Jcd,Zhr λy hy=>h y (Jbl _ hy)]
theorem Zlt {H H':Hp}{p wd:Int}{v:V}(h:WfR H v)(s:Same H H'):Zoa p wd H' v=Zoa p wd H v:=by
 cases v <;> try rfl
 rename_i a
 simp only[Zoa,h.1.at s];split
 .rename_i xs e
  rw[Zhr λy hy=>Zjg (h.2 a xs rfl e y hy) s]
 .rfl
theorem Zij {H H':Hp}{p:Int}{v:V}(h:WfT H v)(s:Same H H'):Zgj p H' v=Zgj p H v:=by
 cases v <;> try rfl
 rename_i a
 simp only[Zgj,h.1.at s];split
 .rename_i hh wd r e
  obtain⟨k,hz⟩:=h.2 a _ rfl e (.ref r) (by simp);rw[k.at s];split
  .rename_i rows e2
   rw[Zhr λy hy=>Zlt (hz r rows rfl e2 y hy) s]
  .rfl
 .rfl
theorem tu_of {H:Hp}{v:V}(h:Kn H v)(ht:Zjy H v=true):∃ a xs,v=.ref a/\H a=some (.tup xs)/\xs.length<=1000:=by
 rcases h with rfl|⟨b,rfl⟩|⟨i,rfl⟩|⟨z,rfl⟩|⟨a,xs,rfl,h2,_⟩|h
 .cases ht
 .cases ht
 .cases ht
 .cases ht
 .simp only [Zjy,h2] at ht;cases ht
 .exact h
theorem Zup {H:Hp}{v:V}(h:Kn H v)(ht:Zjs H v=true):∃ a xs,v=.ref a/\H a=some (.lst xs)/\xs.length<=1000:=by
 rcases h with rfl|⟨b,rfl⟩|⟨i,rfl⟩|⟨z,rfl⟩|h|⟨a,xs,rfl,h2,_⟩
 .cases ht
 .cases ht
 .cases ht
 .cases ht
 .exact h
 .simp only [Zjs,h2] at ht;cases ht
theorem Zpz {v:V}(h:whB v=true):∃ i,v=.int i:=by
 cases v <;> first|exact⟨_,rfl⟩|cases h
theorem frB_noT {H:Hp}{v:V}(h:Zjy H v=false):frB H v=false:=by
 cases v <;> try rfl
 simp only[Zjy] at h;simp only[frB];split
 .rename_i e;rw[e] at h;cases h
 .rfl
theorem frB_len {H:Hp}{a:Addr}{xs:List V}(h:H a=some (.tup xs))(hl:xs.length≠2):frB H (.ref a)=false:=by
 simp only[frB,h];split
 .rename_i e;cases e;exact absurd rfl hl
 .rfl
theorem Zr9 {H:Hp}{a:Addr}{x y:V}(h:H a=some (.tup [x,y]))(hw:whB x=false\/whB y=false):frB H (.ref a)=false:=by
 simp only[frB,h];split
 .rename_i e
  cases e;rcases hw with hw|hw <;> cases hw
 .rfl
theorem Zoq {H:Hp}{a:Addr}{x y:Int}(h:H a=some (.tup [.int x,.int y])):frB H (.ref a)=(decide (1<=y) && decide (Int.gcd x y=1)):=by
 simp only[frB,h]
def spFr:Sp:=λvs H Q _=>∃ v:V,vs=[v]/\WfN H v/\∀ H',Same H H'->Q (.bl (frB H v)) H'
theorem ok_fr (F:Fun K "is_fraction" "is_fraction" Zel f fd)(T:Txt K mg C G S)(Yab:Cal P w K mg base "is_whole" 1 Zgl)(Yaj:Cal P w K mg base "common_divisor" 4 Zqg):FnOk P w K mg base CX0 5 f fd ["thing"] spFr:=by
 have nd:=Zfw.nd;refine F.ok Zfw (λvs H Q E h=>?_) (λcdv A outer s H vs Q E hr h=>?_)
 .refine Zae h λv e91 _=>?_;clear h;obtain rfl:=e91;rfl
 .refine Zas h λv e92 e93 q=>?_;clear h;obtain rfl:=e92;obtain⟨hk,hx⟩:=e93;refine⟨_,((@Zay _ _ _ _ _ _ _ _ (PW.pt (Zce (Za9 (Zbb (Za1 Zax rfl T.n_isinstance Jbb ((pvr 0)<&>((Zfs rfl T.n_tuple boot_tuple)<&>Zab))))) (Zbj (Zak Zft (Za1 Zao rfl T.n_len Jba ((pvr 0)<&>Zab)) Zac (Zah _))))) (~~~Zbm) Zaj)<*>((Zb4 (pvr 0) (@Zc2 _ _ _ _ _ 2 rfl ((1>>>nd)^^^((2>>>nd)^^^(@Za6 _))) ⇑1 ⇑1))<*>((@Zay _ _ _ _ _ _ _ _ (PW.pt (Zce (Za9 (Zbb (Yab<$>hr<$>((pvr 1)<&>Zab)))) (Zce (Za9 (Zbb (Yab<$>hr<$>((pvr 2)<&>Zab)))) (Zbj (Zak Zjx (pvr 2) Zac (Zah _)))))) (~~~Zbm) Zaj)<*>(~~~(Zbx Zby (Yaj<$>hr<$>((pvr 1)<&>((pvr 2)<&>Zab))) Zac (Zah _)))))),?_⟩;walk_at "wp";refine Zae (Zrs (K:=K) hk) λt1 h1 h2=>?_;refine Zaq _ _ ⟨⟨rfl,rfl⟩,_,rfl,_,h1,_,h2,?_⟩;refine Zb5 (λhc=>?_) (λhc=>?_)
  .have hc:Zjy H v=false:=by simpa using hc
   rw[frB_noT hc] at q;exact q _ (Same.refl _)
  .have hc:Zjy H v=true:=by simpa using hc
   refine Zca (tu_of hk hc) λa xs e94 ha hl=>?_;obtain rfl:=e94;refine⟨a,rfl,xs,.inr (SqT.of ha),Zb5 (λhn=>?_) (λhn=>?_)⟩
   .have hn:¬ xs.length=2:=by intro z;rw[z] at hn;exact absurd hn ⇑0
    rw[frB_len ha hn] at q;exact q _ (Same.refl _)
   .have hn:xs.length=2:=by
     have:((xs.length:Nat):Int)=2:=by simpa using hn
     omega
    obtain⟨x,y,rfl⟩:∃ x y,xs=[x,y]:=by
     match xs,hn with
     | [x,y],_=>exact⟨x,y,rfl⟩
    refine⟨a,rfl,_,SqT.of ha,rfl,_,_,rfl,_,_,rfl,rfl,x,rfl,(hx a _ rfl ha x (by simp)).1,_,rfl,Zb5 (λh1=>?_) (λh1=>?_)⟩
    .rw [Zr9 ha (.inl (by simpa using h1))] at q;exact q _ (Same.refl _)
    .obtain ⟨i,rfl⟩:=Zpz (v:=x) (by simpa using h1);refine⟨y,rfl,(hx a _ rfl ha y (by simp)).1,_,rfl,Zb5 (λh2=>?_) (λh2=>?_)⟩
     .rw [Zr9 ha (.inr (by simpa using h2))] at q;exact q _ (Same.refl _)
     .obtain ⟨j,rfl⟩:=Zpz (v:=y) (by simpa using h2);rw[Zoq ha] at q;refine⟨j,rfl,Zb5 (λh3=>?_) (λh3=>?_)⟩
      .have h3:=Jaz h3;rw[Jam (show ¬ 1<=j by omega)] at q;exact q _ (Same.refl _)
      .have h3:¬ j<1:=λz=>h3 (Jah z);refine Zaq i j ⟨rfl,(hx a _ rfl ha _ (by simp)).2 i rfl,(hx a _ rfl ha _ (by simp)).2 j rfl,λH' s'=>⟨rfl,?_⟩⟩;rw[Jah (show 1<=j by omega)] at q;have:decide (V.int (Int.gcd i j:Int)=V.int 1)=decide (Int.gcd i j=1):=by
        simp only[V.int.injEq];by_cases e:Int.gcd i j=1
        .rw [Jah e,Jah ∅]
        .rw [Jam e,Jam ∅]
       rw[this];exact q _ s'
def spIsN (G:Addr):Sp:=λvs H Q _=>∃ (g:Addr) (p:Int) (v:V),vs=[.ref g,v]/\GAt G H g p/\GroundP p/\WfN H v/\∀ H',Same H H'->Q (.bl (Zkk p H v)) H'
theorem numB_pr {p:Int}{H:Hp}{v:V}(hp:¬ p=0)(h:whB v=false):Zkk p H v=false:=by
 unfold Zkk;rw[if_neg hp];cases v <;> first|rfl|cases h
theorem Zoi {p i:Int}{H:Hp}(hp:¬ p=0):Zkk p H (.int i)=(decide (0<=i) && decide (i<p)):=by
 unfold Zkk;rw[if_neg hp]
theorem Zrm {p:Int}{H:Hp}{v:V}(hp:p=0):Zkk p H v=frB H v:=by
 unfold Zkk;rw[if_pos hp]
theorem ok_isn (F:Fun K "is_number" "Ground.is_number" Zcd f fd)(T:Txt K mg C G S)(Yab:Cal P w K mg base "is_whole" 1 Zgl)(Ybj:Cal P w K mg base "is_fraction" 5 spFr):FnOk P w K mg base CX0 6 f fd ["self","thing"] (spIsN G):=by
 have nd:=Zdm.nd;refine F.ok Zdm (λvs H Q E h=>?_) (λcdv A outer s H vs Q E hr h=>?_)
 .refine Zhc h λg p v e95 _=>?_;clear h;obtain rfl:=e95;rfl
 .refine Zcx h λg p v e96 e97 hp e98=>?_;clear h;obtain rfl:=e96;obtain⟨dx,hg⟩:=e97;obtain⟨hw,q⟩:=e98;refine⟨_,((@Zay _ _ _ _ _ _ _ _ (Zak Zby (Za3 (pvr 0) rfl) Zac (Zah _)) (~~~(Ybj<$>hr<$>((pvr 1)<&>Zab))) Zaj)<*>(~~~(Zdc (Yab<$>hr<$>((pvr 1)<&>Zab)) (Zdw (Zoe Zpa Zjx Zac (pvr 1) (Za3 (pvr 0) rfl)))))),?_⟩;walk_at "wp";refine Zbv G dx _ ⟨hg,T.cl_Ground,T.nP,_,Zcp p,rfl,Zb5 (λhc=>?_) (λhc=>?_)⟩
  .have hp0:p=0:=by simpa using hc
   rw[Zrm hp0] at q;exact⟨v,rfl,hw,q⟩
  .have hp0:¬ p=0:=by simpa using hc
   refine⟨v,rfl,hw.1,_,rfl,Zb5 (λh1=>?_) (λh1=>?_)⟩
   .obtain ⟨i,rfl⟩:=Zpz h1;rw[Zoi hp0] at q;refine⟨i,rfl,Zb5 (λh2=>⟨G,dx,_,hg,T.cl_Ground,T.nP,_,Zcp p,i,rfl,p,rfl,?_⟩) (λh2=>?_)⟩
    .rw [h2,Jca] at q;exact q _ (Same.refl _)
    .rw [show decide (0<=i)=false by simpa using h2,Jbe] at q;exact q _ (Same.refl _)
   .rw [numB_pr hp0 (by simpa using h1)] at q;exact q _ (Same.refl _)
theorem Zwd {f:V->Bool}(xs:List V):((List.range xs.length).map λi=>f (xs.getD i .non)).all id=xs.all f:=by
 rw[Jcb,Jbg,Jbg];constructor
 .intro h x hx;obtain⟨i,hi,rfl⟩:=Ja4.mp hx;have:=h (f (xs.getD i .non)) (Ja2.mpr ⟨i,Ja6.mpr hi,rfl⟩);simpa [hi] using this
 .intro h b hb;refine Zae (Ja2.mp hb) λi hi e99=>?_;obtain rfl:=e99;have hi:=Ja6.mp hi;simpa [hi] using h _ (Jat hi)
theorem Zhq {xs:List V}{i:Nat}{x:V}(h:xs[i]?=some x):xs.getD i .non=x:=by rw[Jae,h];rfl
def Zqb (G:Addr):Sp:=λvs H Q _=>∃ (g:Addr) (p wd:Int) (v:V),vs=[.ref g,.int wd,v]/\GAt G H g p/\GroundP p/\WfR H v/\∀ H',Same H H'->Q (.bl (Zoa p wd H v)) H'
theorem Ztq {p wd:Int}{H:Hp}{v:V}(h:Zjs H v=false):Zoa p wd H v=false:=by
 cases v <;> try rfl
 simp only[Zjs] at h;simp only[Zoa];split
 .rename_i e;rw[e] at h;cases h
 .rfl
theorem Zqq {p wd:Int}{H:Hp}{a:Addr}{xs:List V}(h:H a=some (.lst xs)):Zoa p wd H (.ref a)=(decide ((xs.length:Int)=wd) && xs.all (Zkk p H)):=by
 simp only[Zoa,h]
theorem Zug (F:Fun K "is_row" "is_row" Zkw f fd)(T:Txt K mg C G S)(Ya0:CalM P w K mg base G "is_number" 6 (spIsN G)):FnOk P w K mg base CX0 7 f fd ["ground","wide","thing"] (Zqb G):=by
 have nd:=Zls.nd;refine F.ok Zls (λvs H Q E h=>?_) (λcdv A outer s H vs Q E hr h=>?_)
 .refine Zli h λg p wd v e910 _=>?_;clear h;obtain rfl:=e910;rfl
 .refine Zc6 h λg p wd v e911 e912 hp e913=>?_;clear h;obtain rfl:=e911;obtain⟨dx,hg⟩:=e912;obtain⟨⟨hk,hx⟩,q⟩:=e913;refine⟨_,((@Zay _ _ _ _ _ _ _ _ (PW.pt (Zce (Za9 (Zbb (Za1 Zax rfl T.n_isinstance Jbb ((pvr 2)<&>((Zfs rfl T.n_list Jcg)<&>Zab))))) (Zbj (Zak Zft (Za1 Zao rfl T.n_len Jba ((pvr 2)<&>Zab)) (pvr 1) (Zah _))))) (~~~Zbm) Zaj)<*>(~~~(Za1 (Zbu rfl) rfl T.n_all Jc6 ((Za0 (own:=["number"]) (fr:=[("ground",0)]) rfl (Zbi (by kernel_rfl)) (Zbd (pv 2)) (λ_ _ _ _=>⟨(0<<<["number","ground"]),Zat,(pe_mth T.cl_Ground Ya0 hr.m (pv 1) ((pv 0)<&>Zab))⟩))<&>Zab)))),?_⟩;walk_at "wp";refine Zae (Zk4 (K:=K) hk) λt1 h1 h2=>?_;refine Zaq _ _ ⟨⟨rfl,rfl⟩,_,rfl,_,h1,_,h2,Zb5 (λhc=>?_) (λhc=>?_)⟩
  .rw [Ztq (by simpa using hc)] at q;exact q H (Same.refl _)
  .refine Zca (Zup hk (by simpa using hc)) λa xs e914 ha hl=>?_;obtain rfl:=e914;rw[Zqq ha] at q;refine⟨a,rfl,xs,.inl (SqL.of ha),Zb5 (λhn=>?_) (λhn=>?_)⟩
   .rw [show decide ((xs.length:Int)=wd)=false by simpa using hn,Jbe] at q;exact q H (Same.refl _)
   .rw [show decide ((xs.length:Int)=wd)=true by simpa using hn,Jca] at q;refine⟨_,rfl,a,rfl,⟨_,SqL.of ha⟩,λD hD=>Zg5 (λi=>Zkk p H (xs.getD i .non)) ha hD ∅ (λi y H' Q' hy s' q'=>?_) λH' s' e'=>⟨D,rfl,_,SqL.of e',?_⟩⟩
    .have wy:=hx a xs rfl ha y (Jac hy);refine⟨_,rfl,g,dx,_,rfl,s' _ _ hg,Zoo _ ⋯,_,rfl,g,p,y,rfl,⟨dx,s' _ _ hg⟩,hp,wy.same s',?_⟩;rw[Zjg wy s',<- Zhq hy];exact λH2 s2=>q' H2 s2
    .rw [Zwd];exact q H' s'
def Znz (G:Addr):Sp:=λvs H Q _=>∃ (g:Addr) (p:Int) (v:V),vs=[.ref g,v]/\GAt G H g p/\GroundP p/\WfT H v/\∀ H',Same H H'->Q (.bl (Zgj p H v)) H'
theorem Ztc {p:Int}{H:Hp}{v:V}(h:Zjy H v=false):Zgj p H v=false:=by
 cases v <;> try rfl
 simp only[Zjy] at h;simp only[Zgj];split
 .rename_i e;rw[e] at h;cases h
 .rfl
theorem Ztd {p:Int}{H:Hp}{a:Addr}{xs:List V}(h:H a=some (.tup xs))(hl:xs.length≠3):Zgj p H (.ref a)=false:=by
 simp only[Zgj,h];split
 .rename_i e;cases e;exact absurd rfl hl
 .rfl
theorem Zj0 {p:Int}{H:Hp}{a:Addr}{x y z:V}(h:H a=some (.tup [x,y,z]))(hw:whB x=false\/whB y=false):Zgj p H (.ref a)=false:=by
 simp only[Zgj,h];split
 .rename_i e
  cases e;rcases hw with hw|hw <;> cases hw
 .rfl
theorem Zik {p:Int}{H:Hp}{a:Addr}{i j:Int}{z:V}(h:H a=some (.tup [.int i,.int j,z]))(hw:(i<0\/j<0)\/Zjs H z=false):Zgj p H (.ref a)=false:=by
 simp only[Zgj,h];split
 .rename_i e
  cases e;split
  .rename_i rows e2
   rcases hw with (hw|hw)|hw
   .rw [Jam (show ¬ 0<=i by omega)];simp
   .rw [Jam (show ¬ 0<=j by omega)];simp
   .simp only [Zjs,e2] at hw;cases hw
  .rfl
 .rfl
theorem Zlm {p:Int}{H:Hp}{a r:Addr}{i j:Int}{rows:List V}(h:H a=some (.tup [.int i,.int j,.ref r]))(hr:H r=some (.lst rows))(h0:¬ i<0)(h1:¬ j<0):Zgj p H (.ref a)=(decide ((rows.length:Int)=i) && rows.all (Zoa p j H)):=by
 simp only[Zgj,h,hr];rw[Jah (show 0<=i by omega),Jah (show 0<=j by omega)];rfl
theorem Zuf (F:Fun K "is_table" "is_table" Zhj f fd)(T:Txt K mg C G S)(Yab:Cal P w K mg base "is_whole" 1 Zgl)(Ybr:Cal P w K mg base "is_row" 7 (Zqb G)):FnOk P w K mg base CX0 8 f fd ["ground","thing"] (Znz G):=by
 have nd:=Zit.nd;refine F.ok Zit (λvs H Q E h=>?_) (λcdv A outer s H vs Q E hr h=>?_)
 .refine Zhc h λg p v e915 _=>?_;clear h;obtain rfl:=e915;rfl
 .refine Zcx h λg p v e916 e917 hp e918=>?_;clear h;obtain rfl:=e916;obtain⟨dx,hg⟩:=e917;obtain⟨⟨hk,hx⟩,q⟩:=e918;refine⟨_,((@Zay _ _ _ _ _ _ _ _ (PW.pt (Zce (Za9 (Zbb (Za1 Zax rfl T.n_isinstance Jbb ((pvr 1)<&>((Zfs rfl T.n_tuple boot_tuple)<&>Zab))))) (Zbj (Zak Zft (Za1 Zao rfl T.n_len Jba ((pvr 1)<&>Zab)) Zac (Zah _))))) (~~~Zbm) Zaj)<*>((Zb4 (pvr 1) (@Zc2 _ _ _ _ _ 3 rfl ((2>>>nd)^^^((@Zad _ _ 3 _ nd rfl (Or.inr rfl) (Or.inl rfl))^^^((4>>>nd)^^^(@Za6 _)))) ⇑1 ⇑1))<*>((@Zay _ _ _ _ _ _ _ _ (PW.pt (Zce (Za9 (Zbb (Yab<$>hr<$>((pvr 2)<&>Zab)))) (Zce (Za9 (Zbb (Yab<$>hr<$>((pvr 3)<&>Zab)))) (Zce (Zak Zjx (pvr 2) Zac (Zah _)) (Zbj (Zak Zjx (pvr 3) Zac (Zah _))))))) (~~~Zbm) Zaj)<*>((@Zay _ _ _ _ _ _ _ _ (PW.pt (Zce (Za9 (Zbb (Za1 Zax rfl T.n_isinstance Jbb ((pvr 4)<&>((Zfs rfl T.n_list Jcg)<&>Zab))))) (Zbj (Zak Zft (Za1 Zao rfl T.n_len Jba ((pvr 4)<&>Zab)) (pvr 2) (Zah _))))) (~~~Zbm) Zaj)<*>(~~~(Za1 (Zbu rfl) rfl T.n_all Jc6 ((Za0 (own:=["row"]) (fr:=[("ground",0),("wide",3)]) rfl (Zbi (by kernel_rfl)) (Zbd (pv 4)) (λ_ _ _ _=>⟨(0<<<["row","ground","wide"]),Zat,(Ybr<$>hr<$>((pv 1)<&>((pv 2)<&>((pv 0)<&>Zab))))⟩))<&>Zab))))))),?_⟩;walk_at "wp";refine Zae (Zrs (K:=K) hk) λt1 h1 h2=>?_;refine Zaq _ _ ⟨⟨rfl,rfl⟩,_,rfl,_,h1,_,h2,Zb5 (λhc=>?_) (λhc=>?_)⟩
  .rw [Ztc (by simpa using hc)] at q;exact q H (Same.refl _)
  .refine Zca (tu_of hk (by simpa using hc)) λa xs e919 ha hl=>?_;obtain rfl:=e919;refine⟨a,rfl,xs,.inr (SqT.of ha),Zb5 (λhn=>?_) (λhn=>?_)⟩
   .have hn:¬ xs.length=3:=by intro z;rw[z] at hn;exact absurd hn ⇑0
    rw[Ztd ha hn] at q;exact q H (Same.refl _)
   .have hn:xs.length=3:=by
     have:((xs.length:Nat):Int)=3:=by simpa using hn
     omega
    obtain⟨x,y,z,rfl⟩:∃ x y z,xs=[x,y,z]:=by
     match xs,hn with
     | [x,y,z],_=>exact⟨x,y,z,rfl⟩
    have kx:=(hx a _ rfl ha x (by simp)).1;have ky:=(hx a _ rfl ha y (by simp)).1;obtain⟨kz,hz⟩:=hx a _ rfl ha z (by simp);refine⟨a,rfl,_,SqT.of ha,rfl,_,_,rfl,_,_,rfl,_,_,rfl,rfl,x,rfl,kx,_,rfl,Zb5 (λh1=>?_) (λh1=>?_)⟩
    .rw [Zj0 ha (.inl (by simpa using h1))] at q;exact q H (Same.refl _)
    .obtain ⟨i,rfl⟩:=Zpz (v:=x) (by simpa using h1);refine⟨y,rfl,ky,_,rfl,Zb5 (λh2=>?_) (λh2=>?_)⟩
     .rw [Zj0 ha (.inr (by simpa using h2))] at q;exact q H (Same.refl _)
     .obtain ⟨j,rfl⟩:=Zpz (v:=y) (by simpa using h2);refine⟨i,rfl,Zb5 (λh3=>?_) (λh3=>⟨j,rfl,Zb5 (λh4=>?_) (λh4=>?_)⟩)⟩
      .rw [Zik ha (.inl (.inl (Jaz h3)))] at q;exact q H (Same.refl _)
      .rw [Zik ha (.inl (.inr (Jaz h4)))] at q;exact q H (Same.refl _)
      .have h3:¬ i<0:=λz=>h3 (Jah z);have h4:¬ j<0:=λz=>h4 (Jah z);refine Zae (Zk4 (K:=K) kz) λt3 h5 h6=>?_;refine Zaq _ _ ⟨⟨rfl,rfl⟩,_,rfl,_,h5,_,h6,Zb5 (λhc2=>?_) (λhc2=>?_)⟩
       .rw [Zik ha (.inr (by simpa using hc2))] at q;exact q H (Same.refl _)
       .refine Zca (Zup kz (by simpa using hc2)) λr rows e920 hr1 hrl=>?_;obtain rfl:=e920;rw[Zlm ha hr1 h3 h4] at q;have ed:decide (V.int ((rows.length:Nat):Int)=V.int i)=decide ((rows.length:Int)=i):=by simp only[V.int.injEq]
        refine⟨r,rfl,rows,.inl (SqL.of hr1),rfl,Zb5 (λhn2=>?_) (λhn2=>?_)⟩
        .rw [ed] at hn2;rw[show decide ((rows.length:Int)=i)=false by simpa using hn2,Jbe] at q;exact q H (Same.refl _)
        .rw [ed] at hn2;rw[show decide ((rows.length:Int)=i)=true by simpa using hn2,Jca] at q;refine⟨_,rfl,r,rfl,⟨_,SqL.of hr1⟩,λD hD=>Zg5 (λk=>Zoa p j H (rows.getD k .non)) hr1 hD ∅ (λk y H' Q' hy s' q'=>?_) λH' s' e'=>⟨D,rfl,_,SqL.of e',?_⟩⟩
         .have wy:=hz r rows rfl hr1 y (Jac hy);refine⟨_,rfl,_,rfl,_,rfl,g,p,j,y,rfl,⟨dx,s' _ _ hg⟩,hp,wy.same s',λH2 s2=>?_⟩;rw[Zlt wy s',<- Zhq hy];exact q' H2 s2
         .rw [Zwd];exact q H' s'
def NumO (H:Hp)(p:Int)(B:Nat)(v:V):Prop:=∃ x,NumV H p v x/\Isn p x/\Bd B x
theorem NumO.same {H H':Hp}{p:Int}{B:Nat}{v:V}(h:NumO H p B v)(s:Same H H'):NumO H' p B v:=let ⟨x,a,b,c⟩:=h;⟨x,a.same s,b,c⟩
theorem NumO.put {H:Hp}{D:Addr}{l:List V}{o:HO}{p:Int}{B:Nat}{v:V}(h:NumO H p B v)(hD:H D=some (.lst l)):NumO (upd H D o) p B v:=by
 refine Zas h λx a b c=>?_;clear h;refine⟨x,?_,b,c⟩;by_cases hp:p=0
 .refine Zae (a.ref hp) λt e93 ht=>?_;obtain rfl:=e93;exact NumV.tup hp (by rw[Zal (Zfd ht hD (by intro z;cases z))];exact ht)
 .obtain rfl:=a.int hp;exact NumV.of hp
theorem NumV.ext {l:Addr}{H H':Hp}{p:Int}{v:V}{x:Int×Int}(h:NumV H p v x)(b:Bag H l)(e:Ext l H H'):NumV H' p v x:=by
 by_cases hp:p=0
 .refine Zae (h.ref hp) λt e94 ht=>?_;obtain rfl:=e94;refine Zbs b λa c hb _=>?_;clear b;exact NumV.tup hp (e _ _ (Zfd ht hb (by intro z;cases z)) ht)
 .obtain rfl:=h.int hp;exact NumV.of hp
theorem NumO.ext {l:Addr}{H H':Hp}{p:Int}{B:Nat}{v:V}(h:NumO H p B v)(b:Bag H l)(e:Ext l H H'):NumO H' p B v:=let ⟨x,a,c,d⟩:=h;⟨x,a.ext b e,c,d⟩
def RowO (H:Hp)(p:Int)(B:Nat)(wd:Int)(a:Addr):Prop:=∃ xs,H a=some (.lst xs)/\(xs.length:Int)=wd/\∀ x∈xs,NumO H p B x
theorem RowO.same {H H':Hp}{p wd:Int}{B:Nat}{a:Addr}(h:RowO H p B wd a)(s:Same H H'):RowO H' p B wd a:=let ⟨xs,h1,h2,h3⟩:=h;⟨xs,s _ _ h1,h2,λx hx=>(h3 x hx).same s⟩
theorem RowO.ext {l:Addr}{H H':Hp}{p wd:Int}{B:Nat}{a:Addr}(h:RowO H p B wd a)(b:Bag H l)(e:Ext l H H')(n:a≠l):RowO H' p B wd a:=let ⟨xs,h1,h2,h3⟩:=h;⟨xs,e _ _ n h1,h2,λx hx=>(h3 x hx).ext b e⟩
theorem RowO.put {H:Hp}{D:Addr}{l:List V}{o:HO}{p wd:Int}{B:Nat}{a:Addr}(h:RowO H p B wd a)(hD:H D=some (.lst l))(n:a≠D):RowO (upd H D o) p B wd a:=let ⟨xs,h1,h2,h3⟩:=h;⟨xs,by rw[Zal n];exact h1,h2,λx hx=>(h3 x hx).put hD⟩
theorem Zbe (rs:List Addr)(a:Addr):rs.map V.ref++[.ref a]=(rs++[a]).map V.ref:=by rw[Ja7];rfl
theorem Zu7 {a D:Addr}{xs:List V}{fr:List (Str×Nat)}{σ:L2.St}{te:TE}{H1:Hp}{Q:VK}(R:Hp->V->Prop)(hS:∀ {H H' y},R H y->Same H H'->R H' y)(hP:∀ {H y l o},R H y->H D=some (.lst l)->R (upd H D o) y)(ha:H1 a=some (.lst xs))(hD:H1 D=none)(hn:xs.length<=1000)(h:∀ (i:Nat) x H (Q:VK),xs[i]?=some x->Same H1 H->(∀ y H',Same H H'->R H' y->Q y H')->te (some x::Zbq fr σ) H Q)(hQ:∀ ys H',Same H1 H'->H' D=some (.lst ys)->ys.length=xs.length->(∀ y∈ys,R H' y)->Q (.ref D) H'):Zbw (Zbp 0) Ze0 te (Itl K a) D (Zha 1 fr σ) H1 Q:=by
 refine Zd7 (xs:=xs) (λi vs H=>Same H1 H/\H D=some (.lst vs)/\vs.length=i/\∀ y∈vs,R H y) ⟨Same.new hD,Zaa,rfl,by simp⟩ (λi vs H _ p=>SqL.of (p.1 _ _ ha)) ?_ (λvs H ⟨s,e,hl,hr⟩=>hQ vs H s e hl hr);intro i x vs σ' H hi hx sh e91;refine Zck e91 λs e hl hr=>?_;clear e91;obtain⟨z,rfl⟩:=sh.one;simp only[Zfr,Zbp,Ze0,List.set_cons_zero,Jb9];refine h i x H _ hx s λy H' s' ry=>?_;refine Zk3 (ws:=vs++[y]) hi Sh.mk1 (s' _ _ e) (Zan (oz81 hn hi hl)) ⟨(s.trans s').upd hD,Zaa,by rw[Jai,hl];rfl,λu hu=>?_⟩;rcases Ja1.mp hu with hu|hu
 .exact hP (hS (hr u hu) s') (s' _ _ e)
 .rw [Jao.mp hu];exact hP ry (s' _ _ e)
theorem Zpl {a b D:Addr}{xs ys:List V}{fr:List (Str×Nat)}{σ:L2.St}{te:TE}{H1:Hp}{Q:VK}(R:Hp->V->Prop)(hS:∀ {H H' y},R H y->Same H H'->R H' y)(hP:∀ {H y l o},R H y->H D=some (.lst l)->R (upd H D o) y)(ha:H1 a=some (.lst xs))(hb:H1 b=some (.lst ys))(hlen:ys.length=xs.length)(hD:H1 D=none)(hn:xs.length<=1000)(h:∀ (i:Nat) x y H (Q:VK),xs[i]?=some x->ys[i]?=some y->Same H1 H->(∀ u H',Same H H'->R H' u->Q u H')->te (some x::some y::Zbq fr σ) H Q)(hQ:∀ zs H',Same H1 H'->H' D=some (.lst zs)->zs.length=xs.length->(∀ y∈zs,R H' y)->Q (.ref D) H'):Zbw (Zv7 K 2 (Zjz (Zbp 0) (Zjz (Zbp 1) gNil))) Ze0 te (Itz K a b) D (Zha 2 fr σ) H1 Q:=by
 refine Zg4 (xs:=xs) (ys:=ys) (λi vs H=>Same H1 H/\H D=some (.lst vs)/\vs.length=i/\∀ y∈vs,R H y) hlen ⟨Same.new hD,Zaa,rfl,by simp⟩ (λi vs H _ p=>⟨SqL.of (p.1 _ _ ha),SqL.of (p.1 _ _ hb)⟩) ?_ (λvs H ⟨s,e,hl,hr⟩=>hQ vs H s e hl hr);intro i x y p vs σ' H hi hx hy hp sh e92;refine Zck e92 λs e hl hr=>?_;clear e92;refine Zfq sh.two λz1 z2 e95=>?_;obtain rfl:=e95;have s0:=Same.new (o:=.tup [x,y]) hp;refine Zaq p _ ⟨rfl,SqT.of Zaa,rfl,_,_,rfl,_,_,rfl,rfl,?_⟩;simp only[Ze0,List.set_cons_zero,List.set_cons_succ,Jb9];refine h i x y _ _ hx hy (s.trans s0) λu H' s' ru=>?_;have s1:=s0.trans s';refine Zk3 (ws:=vs++[u]) hi Sh.mk2 (s1 _ _ e) (Zan (oz81 hn hi hl)) ⟨(s.trans s1).upd hD,Zaa,by rw[Jai,hl];rfl,λv hv=>?_⟩;rcases Ja1.mp hv with hv|hv
 .exact hP (hS (hr v hv) s1) (s1 _ _ e)
 .rw [Jao.mp hv];exact hP ru (s1 _ _ e)
def BB:Nat:=2 ^ 1000000
theorem pow_lt2 {a b:Nat}(h:a<b):2 ^ a<2 ^ b:=Jda ⇑0 h
theorem pow_le2 {a b:Nat}(h:a<=b):2 ^ a<=2 ^ b:=Jcf ⇑0 h
theorem BB_lt:BB<2 ^ NB:=by
 unfold BB;exact pow_lt2 ⇑0
theorem Znn {n m:Nat}(h:n<2 ^ m)(hm:m<=1000000):n<=BB:=by
 unfold BB;exact Jbd (Jaq h (pow_le2 hm))
theorem BB_of {n:Nat}(h:n<=100000000000000000000000000000000):n<=BB:=Znn (m:=120) (Jbf h ⋯) ⇑0
theorem Zk5 {n:Nat}(h:0<n):ixN n (-1)=some (n-1):=by
 unfold ixN;rw[if_neg ∅,if_pos ∅];congr 1;exact oz54
theorem Zn8 (rs:List Addr)(j:Nat)(a:Addr):(rs.map V.ref).set j (.ref a)=(rs.set j a).map V.ref:=(List.map_set).symm
theorem Zg1 {rs:List Addr}{j:Nat}(h:j<rs.length):(rs.map V.ref)[j]?=some (.ref rs[j]):=by rw[Jad,Jaa h];rfl
theorem Zsw {rs:List Addr}(h:0<rs.length):atI (rs.map V.ref) (-1)=some (.ref (rs[rs.length-1]'(oz216 h))):=by
 unfold atI;rw[Jab,Zk5 h];exact Zg1 (oz216 h)
structure Tab (H:Hp)(p:Int)(hh wd:Int)(t r:Addr)(rs:List Addr):Prop where
 tup:H t=some (.tup [.int hh,.int wd,.ref r])
 lst:H r=some (.lst (rs.map V.ref))
 len:(rs.length:Int)=hh
 row:∀ a∈rs,RowO H p BB wd a
 nin:r∉rs
theorem Tab.same {H H':Hp}{p hh wd:Int}{t r:Addr}{rs:List Addr}(h:Tab H p hh wd t r rs)(s:Same H H'):Tab H' p hh wd t r rs:=⟨s _ _ h.tup,s _ _ h.lst,h.len,λa ha=>(h.row a ha).same s,h.nin⟩
def Fl (v:V):Prop:=v=.non\/(∃ b,v=.bl b)\/(∃ i,v=.int i)\/∃ s,v=.str s
theorem Fl.kn {H:Hp}{v:V}(h:Fl v):Kn H v:=by
 rcases h with h|h|h|h
 .exact .inl h
 .exact .inr (.inl h)
 .exact .inr (.inr (.inl h))
 .exact .inr (.inr (.inr (.inl h)))
theorem Zs8 {H:Hp}{v:V}(h:Kn H v)(hn:∀ a,v≠.ref a):WfN H v:=⟨h,λa xs e=>absurd e (hn a)⟩
theorem wfn_tup {H:Hp}{a:Addr}{xs:List V}(h:H a=some (.tup xs))(hl:xs.length<=1000)(hk:∀ y∈xs,Kn H y/\TopV y):WfN H (.ref a):=⟨.tup h hl,λb ys e1 e2 y hy=>by cases e1;rw[h] at e2;cases e2;exact hk y hy⟩
def Zh4 (H:Hp)(v:V):Prop:=Kn H v/\∀ r rows,v=.ref r->H r=some (.lst rows)->∀ z∈rows,WfR H z
theorem NumO.wf {H:Hp}{p:Int}{B:Nat}{v:V}(h:NumO H p B v)(hB:B<=BB:=by first|exact Jaj _|exact BB_of ⇑0):WfN H v:=by
 refine Zas h λx nv _ bd=>?_;clear h;by_cases hp:p=0
 .refine Zae (nv.ref hp) λt e96 ht=>?_;obtain rfl:=e96;refine wfn_tup ht (by show 2<=1000;decide) λu hu=>?_;simp only[Ja5,Jce,Jeg] at hu;rcases hu with rfl|rfl
  .exact ⟨Kn.int,λj e=>by cases e;exact Jbf (Jbh bd.1 hB) BB_lt⟩
  .exact ⟨Kn.int,λj e=>by cases e;exact Jbf (Jbh bd.2 hB) BB_lt⟩
 .obtain rfl:=nv.int hp;exact Zs8 Kn.int (by intro a z;cases z)
theorem RowO.wf {H:Hp}{p wd:Int}{B:Nat}{a:Addr}(h:RowO H p B wd a)(w24:wd<=24)(hB:B<=BB:=by first|exact Jaj _|exact BB_of ⇑0):WfR H (.ref a):=by
 refine Zas h λxs h1 h2 h3=>?_;clear h;exact⟨.lst h1 (oz51 w24 h2),λb ys e1 e2 y hy=>by cases e1;rw[h1] at e2;cases e2;exact (h3 y hy).wf hB⟩
theorem wfs_lst {H:Hp}{a:Addr}{xs:List V}(h:H a=some (.lst xs))(hl:xs.length<=1000)(hk:∀ y∈xs,WfR H y):Zh4 H (.ref a):=⟨.lst h hl,λb ys e1 e2 y hy=>by cases e1;rw[h] at e2;cases e2;exact hk y hy⟩
theorem wft_tup {H:Hp}{a:Addr}{xs:List V}(h:H a=some (.tup xs))(hl:xs.length<=1000)(hk:∀ y∈xs,Zh4 H y):WfT H (.ref a):=⟨.tup h hl,λb ys e1 e2 y hy=>by cases e1;rw[h] at e2;cases e2;exact hk y hy⟩
theorem Znu {H:Hp}{v:V}(h:Fl v):Zh4 H v:=⟨h.kn,λa xs e=>by subst e;rcases h with h|⟨_,h⟩|⟨_,h⟩|⟨_,h⟩ <;> cases h⟩
theorem fi {i:Int}:Fl (.int i):=.inr (.inr (.inl ⟨_,rfl⟩))
theorem fb {i:Bool}:Fl (.bl i):=.inr (.inl ⟨_,rfl⟩)
theorem Tab.wfs {H:Hp}{p hh wd:Int}{t r:Addr}{rs:List Addr}(h:Tab H p hh wd t r rs)(h24:hh<=24)(w24:wd<=24):Zh4 H (.ref r):=by
 have:=h.len;exact wfs_lst h.lst (by rw[Jab];exact oz51 h24 this) λy hy=>by obtain⟨a,ha,rfl⟩:=Ja2.mp hy;exact (h.row a ha).wf w24
theorem three {H:Hp}{x y z:V}(hx:Zh4 H x)(hy:Zh4 H y)(hz:Zh4 H z):∀ u∈[x,y,z],Zh4 H u:=λu hu=>by
 simp only[Ja5,Jce,Jeg] at hu;rcases hu with rfl|rfl|rfl
 .exact hx
 .exact hy
 .exact hz
theorem Tab.ext {l:Addr}{H H':Hp}{p hh wd:Int}{t r:Addr}{rs:List Addr}(h:Tab H p hh wd t r rs)(b:Bag H l)(e:Ext l H H')(nt:t≠l)(nr:r≠l)(ns:l∉rs):Tab H' p hh wd t r rs:=
 ⟨e _ _ nt h.tup,e _ _ nr h.lst,h.len,λa ha=>(h.row a ha).ext b e (λz=>ns (z ▸ ha)),h.nin⟩
theorem Tab.wft {H:Hp}{p hh wd:Int}{t r:Addr}{rs:List Addr}(h:Tab H p hh wd t r rs)(h24:hh<=24)(w24:wd<=24):WfT H (.ref t):=
 wft_tup h.tup (by show 3<=1000;decide) (three (Znu fi) (Znu fi) (h.wfs h24 w24))
theorem NumO.is {H:Hp}{p:Int}{B:Nat}{v:V}(h:NumO H p B v):Zkk p H v=true:=by
 refine Zas h λx nv ix _=>?_;clear h;by_cases hp:p=0
 .refine Zae (nv.ref hp) λt e97 ht=>?_;obtain rfl:=e97;rw[Zrm hp,Zoq ht];rcases ix with ⟨_,lo⟩|⟨h,_⟩
  .have:=lo.1;rw[Jah (show 1<=x.2 by omega),Jah lo.2];rfl
  .omega
 .obtain rfl:=nv.int hp;rw[Zoi hp];rcases ix with ⟨h,_⟩|⟨_,h1,h2,_⟩
  .exact absurd h hp
  .rw [Jah h1,Jah h2];rfl
theorem RowO.is {H:Hp}{p wd:Int}{B:Nat}{a:Addr}(h:RowO H p B wd a):Zoa p wd H (.ref a)=true:=by
 refine Zas h λxs h1 h2 h3=>?_;clear h;rw[Zqq h1,Jah h2,Jca];exact Jbg.mpr λx hx=>(h3 x hx).is
theorem Tab.is {H:Hp}{p hh wd:Int}{t r:Addr}{rs:List Addr}(h:Tab H p hh wd t r rs)(h0:0<=hh)(w0:0<=wd):Zgj p H (.ref t)=true:=by
 rw[Zlm h.tup h.lst ∅ ∅,Jab,Jah h.len,Jca];exact Jbg.mpr λy hy=>by obtain⟨a,ha,rfl⟩:=Ja2.mp hy;exact (h.row a ha).is
theorem Zgy {H:Hp}{n:Nat}{i:Int}:EqD K H n (.int i) (.int i) true:=by
 have:=EqD.flat (K:=K) (H:=H) (n:=n) (x:=.int i) (y:=.int i) rfl rfl;rwa [show eqV (.int i) (.int i)=true by simp[eqV]] at this
structure TabC (H:Hp)(p hh wd:Int)(t r:Addr)(rs:List Addr)(M:List (List V)):Prop where
 tab:Tab H p hh wd t r rs
 con:∀ (i:Nat) (a:Addr),rs[i]?=some a->H a=some (.lst (M.getD i []))
theorem TabC.same {H H':Hp}{p hh wd:Int}{t r:Addr}{rs:List Addr}{M:List (List V)}(h:TabC H p hh wd t r rs M)(s:Same H H'):TabC H' p hh wd t r rs M:=⟨h.tab.same s,λi a e=>s _ _ (h.con i a e)⟩
def Sizes (H:Hp)(z:Addr)(ns:List Int):Prop:=H z=some (.lst (ns.map V.int))/\ns.length<=8/\∀ n∈ns,0<=n/\n<=24
theorem Sizes.same {H H':Hp}{z:Addr}{ns:List Int}(h:Sizes H z ns)(s:Same H H'):Sizes H' z ns:=⟨s _ _ h.1,h.2⟩
def spSz (C:Addr):Sp:=λvs H Q _=>∃ (d z lp:Addr) (m:Int) (xs:List V) (ns:List Int),vs=[.ref d,.ref z]/\Zez C H d m lp xs/\Sizes H z ns/\(ns.length:Int)=m/\∀ H',Same H H'->Q (.bl true) H'
theorem ok_sz (F:Fun K "are_sizes" "are_sizes" Zgb f fd)(T:Txt K mg C G S)(Yab:Cal P w K mg base "is_whole" 1 Zhf):FnOk P w K mg base CX0 2 f fd ["drawing","thing"] (spSz C):=by
 have nd:=Zh0.nd;refine F.ok Zh0 (λvs H Q E h=>?_) (λcdv A outer s H vs Q E hr h=>?_)
 .refine xE6_2 h λd z lp m xs ns e94 _=>?_;clear h;obtain rfl:=e94;rfl
 .refine Zs5 h λd z lp m xs ns e95 e96 e97 e98=>?_;clear h;obtain rfl:=e95;obtain⟨dx,hd,hlp⟩:=e96;obtain⟨hz,h8,hn⟩:=e97;obtain⟨hm,q⟩:=e98;refine⟨_,((@Zay _ _ _ _ _ _ _ _ (PW.pt (Zce (Za9 (Zbb (Za1 Zax rfl T.n_isinstance Jbb ((pvr 1)<&>((Zfs rfl T.n_list Jcg)<&>Zab))))) (Zbj (Zak Zft (Za1 Zao rfl T.n_len Jba ((pvr 1)<&>Zab)) (Za3 (pvr 0) rfl) (Zah _))))) (~~~Zbm) Zaj)<*>(~~~(Za1 (Zbu rfl) rfl T.n_all Jc6 ((Za0 (own:=["size"]) (fr:=[]) rfl (Zbi (by kernel_rfl)) (Zbd (pv 1)) (λ_ _ _ _=>⟨(0<<<["size"]),Zat,(Zdc (Yab<$>hr<$>((pv 0)<&>Zab)) (Zdw (Zbx op_ge (pv 0) Zac (Zah _))))⟩))<&>Zab)))),?_⟩;walk_at "wp";refine Zaq _ _ ⟨⟨rfl,rfl⟩,_,rfl,_,.lst hz,true,Zb9 K,Zcj ⇑0 ⟨_,.inl (SqL.of hz),C,dx,_,hd,T.cl_Drawing,T.nM,_,Zdz m lp,rfl,Zcj ?_ ⟨_,rfl,z,rfl,⟨_,SqL.of hz⟩,λD hD=>Zg5 (λ_=>true) hz hD (by rw[Jab];omega) (λk x H' Q' hx s' q'=>?_) λH' s' e'=>⟨D,rfl,_,SqL.of e',?_⟩⟩⟩⟩
  .rw [Jah (by rw[Jab,hm])];decide
  .rw [Jad] at hx;cases e:ns[k]? with
   | none=>rw[e] at hx;cases hx
   | some n=>
    rw[e] at hx;cases hx;have n0:=(hn n (Jac e)).1;refine⟨_,rfl,n,rfl,true,rfl,iteT ⟨_,rfl,_,_,rfl,rfl,?_⟩⟩;show Q' (V.bl (decide (0<=n))) H';rw[Jah n0];exact q' H' (Same.refl _)
  .rw [Zfp];exact q H' s'
def spTo (G:Addr):Sp:=λvs H Q _=>∃ (g t r:Addr) (p hh wd:Int) (rs:List Addr),vs=[.ref g,.int hh,.int wd,.ref t]/\GAt G H g p/\GroundP p/\Tab H p hh wd t r rs/\0<=hh/\hh<=24/\0<=wd/\wd<=24/\∀ H',Same H H'->Q (.bl true) H'
theorem ok_to (F:Fun K "is_table_of" "is_table_of" Zdf f fd)(T:Txt K mg C G S)(Yaf:Cal P w K mg base "is_table" 8 (Znz G)):FnOk P w K mg base CX0 9 f fd ["ground","high","wide","thing"] (spTo G):=by
 have nd:=Zcr.nd;refine F.ok Zcr (λvs H Q E h=>?_) (λcdv A outer s H vs Q E hr h=>?_)
 .refine xE7_2 h λg t r p hh wd rs e99 _=>?_;clear h;obtain rfl:=e99;rfl
 .refine xE7_4 h λg t r p hh wd rs e910 hg hp e911=>?_;clear h;obtain rfl:=e910;refine Zih e911 λtb h0 h24 w0 w24 q=>?_;clear e911;refine⟨_,(~~~(Zdc (Yaf<$>hr<$>((pvr 0)<&>((pvr 3)<&>Zab))) (Zdc (Zbx Zby ((Zho Za2)<|>(pvr 3)<||>Zac) (pvr 1) (Zah _)) (Zdw (Zbx Zby ((Zho Za2)<|>(pvr 3)<||>Zac) (pvr 2) (Zah _)))))),?_⟩;walk_at "wp";exact Zbv g p (.ref t) ⟨rfl,hg,hp,tb.wft h24 w24,λH1 s1=>⟨_,rfl,Zgg (tb.is h0 w0) ⟨_,SqT.of (s1 _ _ tb.tup),_,rfl,rfl,Zgg (Jah rfl) ⟨_,SqT.of (s1 _ _ tb.tup),_,rfl,rfl,by rw[Jah rfl];exact q H1 s1⟩⟩⟩⟩
theorem Zvq {cap:L2.St}{a b c:Option V}:Sh 3 cap (a::b::c::cap):=⟨[a,b,c],rfl,rfl⟩
theorem Zn7 {cap σ:L2.St}(h:Sh 3 cap σ):∃ a b c,σ=a::b::c::cap:=by
 refine Zae h λo h1 e912=>?_;clear h;obtain rfl:=e912
 match o,h1 with
 | [a,b,c],_=>exact⟨a,b,c,rfl⟩
theorem Zoz {ns:List Int}{i:Int}(h0:0<=i)(h1:i<ns.length):atI (ns.map V.int) i=some (.int (ns.getD i.toNat 0)):=by
 refine Zde h0 ?_;rw[Jad,Jae,Jaa (show i.toNat<ns.length by exact oz63 h0 h1)];rfl
def spTs (C G:Addr):Sp:=λvs H Q _=>∃ (g d z l lp:Addr) (p m:Int) (xs:List V) (ps:List (Int×Int)) (ns:List Int) (ts:List Addr),vs=[.ref g,.ref d,.ref z,.ref l]/\GAt G H g p/\GroundP p/\Zez C H d m lp xs/\Prs H xs ps/\InP m ps/\ps.length<=9/\Sizes H z ns/\(ns.length:Int)=m /\
 H l=some (.lst (ts.map V.ref))/\ts.length=ps.length/\(∀ (i:Nat) t q,ts[i]?=some t->ps[i]?=some q->∃ r rs,Tab H p (ns.getD q.2.toNat 0) (ns.getD q.1.toNat 0) t r rs)/\∀ H',Same H H'->Q (.bl true) H'
theorem ok_ts (F:Fun K "are_tables" "are_tables" Zfa f fd)(T:Txt K mg C G S)(Yao:Cal P w K mg base "is_table_of" 9 (spTo G)):FnOk P w K mg base CX0 10 f fd ["ground","drawing","sizes","thing"] (spTs C G):=by
 have nd:=Zgq.nd;refine F.ok Zgq (λvs H Q E h=>?_) (λcdv A outer s H vs Q E hr h=>?_)
 .refine xE11_2 h λg d z l lp p m xs ps ns ts e913 _=>?_;clear h;obtain rfl:=e913;rfl
 .refine xE11_4 h λg d z l lp p m xs ps ns ts e914 hg hp e915=>?_;clear h;obtain rfl:=e914;refine Zvl e915 λe916 pr ip p9 hz hm hl hlen tb q=>?_;clear e915;obtain⟨dx,hd,hlp⟩:=e916;refine⟨_,((@Zay _ _ _ _ _ _ _ _ (PW.pt (Zce (Za9 (Zbb (Za1 Zax rfl T.n_isinstance Jbb ((pvr 3)<&>((Zfs rfl T.n_list Jcg)<&>Zab))))) (Zbj (Zak Zft (Za1 Zao rfl T.n_len Jba ((pvr 3)<&>Zab)) (Za1 Zao rfl T.n_len Jba ((Za3 (pvr 1) rfl)<&>Zab)) (Zah _))))) (~~~Zbm) Zaj)<*>(~~~(Za1 (Zbu rfl) rfl T.n_all Jc6 ((Za0 (own:=["tail","head","table"]) (fr:=[("ground",0),("sizes",2)]) rfl (Zbi (by kernel_rfl)) (Zlx rfl T.n_zip ((Zcg (pv 1) rfl)<&>((pv 3)<&>Zab))) (λ_ _ _ _=>⟨(@Zda _ K rfl _ _ _ _ 2 rfl ((@Zda _ K rfl _ _ _ _ 2 rfl ((0<<<["tail","head","table","ground","sizes"])^^^((1<<<["tail","head","table","ground","sizes"])^^^(@Za6 _))) ⇑1 ⇑1)^^^((2<<<["tail","head","table","ground","sizes"])^^^(@Za6 _))) ⇑1 ⇑1),Zat,(Yao<$>hr<$>((pv 3)<&>(((Zdh K rfl)<|>(pv 4)<||>(pv 1))<&>(((Zdh K rfl)<|>(pv 4)<||>(pv 0))<&>((pv 2)<&>Zab)))))⟩))<&>Zab)))),?_⟩;walk_at "wp";have hxl:=pr.1;refine Zaq _ _ ⟨⟨rfl,rfl⟩,_,rfl,_,.lst hl,true,Zb9 K,Zcj ⇑0 ⟨_,.inl (SqL.of hl),C,dx,_,hd,T.cl_Drawing,T.nA,_,Zcq m lp,lp,rfl,_,.inl (SqL.of hlp),Zcj ?_ ?_⟩⟩
  .rw [Jah (by rw[Jab];exact oz218 hlen hxl)];decide
  .refine ⟨_,rfl,d,C,dx,_,_,rfl,hd,T.cl_Drawing,T.nA,Zcq m lp,_,rfl,lp,l,rfl,⟨_,SqL.of hlp⟩,⟨_,SqL.of hl⟩,λD hD=>?_⟩;refine Zg4 (k:=3) (xs:=xs) (ys:=ts.map V.ref) (λi vs H'=>Same H H'/\H' D=some (.lst vs)/\vs=((List.range i).map λ_=>true).map V.bl) (by rw[Jab];exact oz43 hlen hxl) ⟨Same.new hD,Zaa,rfl⟩ (λi vs H' _ pv=>⟨SqL.of (pv.1 _ _ hlp),SqL.of (pv.1 _ _ hl)⟩) ?_ ?_
   .intro i x y pz vs σ' H' hi hx hy hpz sh e91;refine Zba e91 λs' e' e917=>?_;clear e91;obtain rfl:=e917;refine Zs6 (Zn7 sh) λz1 z2 z3 e918=>?_;obtain rfl:=e918;have hi':i<ps.length:=by exact oz3 hxl hi
    have hq:ps[i]?=some ps[i]:=Jaa hi';refine Zae (pr.2 i x _ hx hq) λta e919 hta=>?_;obtain rfl:=e919;have hti:ts[i]?=some (ts[i]'(oz33 hlen hxl hi)):=Jaa (oz33 hlen hxl hi);rw[Jad,hti] at hy;cases hy;refine Zfq (tb i _ _ hti hq) λr rs tb1=>?_;refine Zck (ip _ (Jac hq)) λi0 i1 j0 j1=>?_;have s0:=s'.trans (Same.new (o:=.tup [V.ref ta,V.ref (ts[i]'(Zly hlen hi'))]) hpz);have hz0:=hz.same s0;have a1:=Zoz (ns:=ns) i0 (oz195 hm i1);have a2:=Zoz (ns:=ns) j0 (oz195 hm j1);have b1:=hz.2.2 (ns.getD ps[i].1.toNat 0) (by rw[Jae,Jaa (show ps[i].1.toNat<ns.length by exact oz74 hm i0 i1)];exact Jat _);have b2:=hz.2.2 (ns.getD ps[i].2.toNat 0) (by rw[Jae,Jaa (show ps[i].2.toNat<ns.length by exact oz74 hm j0 j1)];exact Jat _);refine Zaq pz _ ⟨rfl,SqT.of Zaa,rfl,_,_,rfl,ta,_,rfl,SqT.of (s0 _ _ hta),rfl,_,_,rfl,_,_,rfl,rfl,_,_,rfl,rfl,?_⟩;simp only[Ze0,List.set_cons_zero,List.set_cons_succ,Jb9];refine⟨_,rfl,_,rfl,_,rfl,z,_,_,_,rfl,rfl,SqL.of hz0.1,a2,_,rfl,_,rfl,z,_,_,_,rfl,rfl,SqL.of hz0.1,a1,_,rfl,g,_,r,p,_,_,rs,rfl,hg.same s0,hp,tb1.same s0,b2.1,b2.2,b1.1,b1.2,λH'' s''=>?_⟩;have s1:=(Same.new (o:=.tup [V.ref ta,V.ref (ts[i]'(Zly hlen hi'))]) hpz).trans s'';exact Zk3 (ws:=((List.range (i+1)).map λ_=>true).map V.bl) hi Zvq (s1 _ _ e') (Zan (by rw[Jab,Jab,Jax];exact oz162 p9 hi')) ⟨(s'.trans s1).upd hD,by rw[Zaa,Jcv,Ja7,Ja7];rfl,rfl⟩
   .intro vs H' e92;refine Zba e92 λs' e' e920=>?_;clear e92;obtain rfl:=e920;exact⟨D,rfl,_,SqL.of e',by rw[Zfp];exact q H' s'⟩
def TabF (H0 H:Hp)(p hh wd:Int)(t:Addr)(M:List (List V)):Prop:=∃ r rs,TabC H p hh wd t r rs M/\H0 t=none/\H0 r=none/\∀ a∈rs,H0 a=none
def Tbs (H:Hp)(p:Int)(l:Addr)(ts:List Addr)(cs:List (Int×Int×List (List V))):Prop:=H l=some (.lst (ts.map V.ref))/\ts.length=cs.length/\cs.length<=9/\∀ (i:Nat) t c,ts[i]?=some t->cs[i]?=some c->(∃ r rs,TabC H p c.1 c.2.1 t r rs c.2.2)/\0<=c.1/\c.1<=24/\0<=c.2.1/\c.2.1<=24
theorem TabC.put {H:Hp}{p hh wd:Int}{t r D:Addr}{rs:List Addr}{M:List (List V)}{l:List V}{o:HO}(h:TabC H p hh wd t r rs M)(hD:H D=some (.lst l))(nr:r≠D)(ns:D∉rs):TabC (upd H D o) p hh wd t r rs M:=by
 have nt:t≠D:=Zfd h.tab.tup hD (by intro z;cases z);have na:∀ a∈rs,a≠D:=λa ha z=>ns (z ▸ ha);exact⟨⟨by rw[Zal nt];exact h.tab.tup,by rw[Zal nr];exact h.tab.lst,h.tab.len,λa ha=>(h.tab.row a ha).put hD (na a ha),h.tab.nin⟩,λi a e=>by rw[Zal (na a (Jac e))];exact h.con i a e⟩
abbrev teRow (K:Frag):TE:=tCB (λxs H Q=>∃ p,xs=[V.ref p]/\∃ x,(SqL K H p x\/SqT K H p x)/\∀ (l:Addr),H l=none->Q (V.ref l) (upd H l (HO.lst x))) (Zf3 (Zhs 0) Zs1)
abbrev teTab (K:Frag):TE:=tTup (Zf3 (Zhs 0) (Zf3 (Zhs 1) (Zf3 (tComp 1 [] (Zr5 K (Zhs 2)) (Zbp 0) Ze0 (teRow K)) Zs1)))
theorem Zsf {r D:Addr}{rs:List Addr}{M:List (List V)}{fr:List (Str×Nat)}{σ:L2.St}{H1:Hp}{Q:VK}(hr:H1 r=some (.lst (rs.map V.ref)))(hc:∀ (i:Nat) (a:Addr),rs[i]?=some a->H1 a=some (.lst (M.getD i [])))(hn:rs.length<=100)(hD:H1 D=none)(hQ:∀ (rs':List Addr) H',Same H1 H'->H' D=some (.lst (rs'.map V.ref))->rs'.length=rs.length->(∀ (i:Nat) (a:Addr),rs'[i]?=some a->H' a=some (.lst (M.getD i [])))->(∀ a∈rs',H1 a=none/\a≠D)->rs'.Nodup->Q (.ref D) H'):
  Zbw (Zbp 0) Ze0 (teRow K) (Itl K r) D (Zha 1 fr σ) H1 Q:=by
 refine Zd7 (xs:=rs.map V.ref) (λi vs H=>∃ rs':List Addr,vs=rs'.map V.ref/\Same H1 H/\H D=some (.lst vs)/\rs'.length=i/\(∀ (j:Nat) (a:Addr),rs'[j]?=some a->H a=some (.lst (M.getD j [])))/\(∀ a∈rs',H1 a=none/\a≠D)/\rs'.Nodup)
  ⟨[],rfl,Same.new hD,Zaa,rfl,λj a e=>by simp at e,(λa ha=>by simp at ha),List.nodup_nil⟩ (λi vs H _ ⟨_,_,s,_⟩=>SqL.of (s _ _ hr)) ?_ (λvs H ⟨rs',hv,s,e,hl,hc',fr',nd'⟩=>hQ rs' H s (hv ▸ e) (by rw[hl,Jab]) hc' fr' nd')
 intro i x vs σ' H hi hx sh e91;refine Zs7 e91 λrs' e93 s e hl hc' e94=>?_;clear e91;obtain rfl:=e93;obtain⟨fr',nd'⟩:=e94;obtain⟨z,rfl⟩:=sh.one;rw[Jab] at hi;rw[Zg1 hi] at hx;cases hx;have ha:=s _ _ (hc i _ (Jaa hi));simp only[Zfr,Zbp,Ze0,List.set_cons_zero,Jb9];refine⟨_,rfl,_,rfl,_,.inl (SqL.of ha),λc hc0=>?_⟩;have nDc:D≠c:=Zai e hc0;have hDc:(upd H c (.lst (M.getD i []))) D=some (.lst (rs'.map V.ref)):=by rw[Zal nDc];exact e
 have sc:=s.trans (Same.new (o:=.lst (M.getD i [])) hc0);refine Zk3 (ws:=rs'.map V.ref++[.ref c]) (by rw[Jab];exact hi) Sh.mk1 hDc (Zan (by rw[Jab];omega)) ⟨rs'++[c],Zbe _ _,sc.upd hD,by rw[Zaa,Zbe],by rw[Jai,hl];rfl,λj a ej=>?_,λa ha=>?_,?_⟩
 .by_cases hj:j<rs'.length
  .rw [Jar hj] at ej;have:=hc' j a ej;have naD:=(fr' a (Jac ej)).2;rw[Zal naD,Zal (Zai this hc0)];exact this
  .rw [Jas (Zpp hj)] at ej;have hj0:j-rs'.length=0:=by
    by_cases z:j-rs'.length=0
    .exact z
    .rw [Jap (by simp;exact oz4 z)] at ej;cases ej
   rw[hj0] at ej;cases ej;rw[Zal nDc.symm,Zaa,show j=i by exact oz2 hl hj hj0]
 .rcases Ja1.mp ha with ha|ha
  .exact fr' a ha
  .rw [Jao.mp ha];exact⟨s.free hc0,nDc.symm⟩
 .refine Jel.mpr ⟨nd',by simp,λa ha b hb z=>?_⟩;rw[Jao.mp hb] at z;subst z;obtain⟨j,hj,rfl⟩:=Ja4.mp ha;have:=hc' j _ (Jaa hj);rw[hc0] at this;cases this
def Sep (H:Hp)(D:Addr)(ts:List Addr):Prop:=∃ rr:List (Addr×List Addr),rr.length=ts.length/\(∀ (i:Nat) t x,ts[i]?=some t->rr[i]?=some x->(∃ h w:V,H t=some (.tup [h,w,.ref x.1]))/\H x.1=some (.lst (x.2.map V.ref)))/\(∀ x∈rr,x.1≠D/\D∉x.2)/\(∀ x∈rr,∀ y∈rr,x.1∉y.2)/\(rr.map (·.2)).flatten.Nodup
theorem Zse {l D:Addr}{p:Int}{ts:List Addr}{cs:List (Int×Int×List (List V))}{fr:List (Str×Nat)}{σ:L2.St}{H1:Hp}{Q:VK}(hT:Tbs H1 p l ts cs)(hD:H1 D=none)(hQ:∀ (ts':List Addr) H',Same H1 H'->H' D=some (.lst (ts'.map V.ref))->ts'.length=cs.length->(∀ (i:Nat) t c,ts'[i]?=some t->cs[i]?=some c->TabF H1 H' p c.1 c.2.1 t c.2.2)->Sep H' D ts'->Q (.ref D) H'):
  Zbw (Zv7 K 3 (Zjz (Zbp 0) (Zjz (Zbp 1) (Zjz (Zbp 2) gNil)))) Ze0 (teTab K) (Itl K l) D (Zha 3 fr σ) H1 Q:=by
 refine Zck hT λhl hlen h9 hc=>?_;clear hT;refine Zd7 (k:=3) (xs:=ts.map V.ref) (λi vs H=>∃ (ts':List Addr) (rr:List (Addr×List Addr)),vs=ts'.map V.ref/\Same H1 H/\H D=some (.lst vs)/\ts'.length=i/\rr.length=i/\((∀ x∈rr,∀ y∈rr,x.1∉y.2)/\(rr.map (·.2)).flatten.Nodup)/\(∀ x∈rr,x.1≠D/\D∉x.2/\(∃ o,H x.1=some o)/\∀ a∈x.2,∃ o,H a=some o)/\∀ (j:Nat) t c x,ts'[j]?=some t->cs[j]?=some c->rr[j]?=some x->TabC H p c.1 c.2.1 t x.1 x.2 c.2.2/\H1 t=none/\H1 x.1=none/\∀ a∈x.2,H1 a=none)
  ⟨[],[],rfl,Same.new hD,Zaa,rfl,rfl,⟨by simp,by simp⟩,by simp,λj t c x e=>by simp at e⟩ (λi vs H _ ⟨_,_,_,s,_⟩=>SqL.of (s _ _ hl)) ?_ (λvs H ⟨ts',rr,hv,s,e,hl',hrr,sp,sD,hc'⟩=>?_)
 rotate_left
 .have hrl:rr.length=ts'.length:=by exact oz20 hl' hrr
  have htl:ts'.length=cs.length:=by rw[hl',Jab,hlen]
  refine hQ ts' H s (hv ▸ e) htl (λi t c e1 e2=>?_) ⟨rr,hrl,λi t x e1 e2=>?_,λx hx=>⟨(sD x hx).1,(sD x hx).2.1⟩,sp⟩
  .have hi:i<rr.length:=by have:=(Jaf.mp e1).1;exact oz5 hl' hrr this
   refine Zck (hc' i t c _ e1 e2 (Jaa hi)) λa1 a2 a3 a4=>?_;exact Zaq _ _ ⟨a1,a2,a3,a4⟩
  .have hi:i<cs.length:=by have:=(Jaf.mp e1).1;exact oz3 htl this
   obtain⟨a1,_⟩:=hc' i t _ x e1 (Jaa hi) e2;exact⟨⟨_,_,a1.tab.tup⟩,a1.tab.lst⟩
 intro i x vs σ' H hi hx sh e92;refine Zju e92 λts' rr e95 s e hl' hrr e96=>?_;clear e92;obtain rfl:=e95;refine Zba e96 λsp sD hc'=>?_;clear e96;refine Zs6 (Zn7 sh) λz1 z2 z3 e97=>?_;obtain rfl:=e97;rw[Jab] at hi;rw[Zg1 hi] at hx;cases hx;have hci:cs[i]?=some (cs[i]'(oz3 hlen hi)):=Jaa (oz3 hlen hi);refine Zcy (hc i _ _ (Jaa hi) hci) λe98 c0 c24 w0 w24=>?_;obtain⟨r,rs,tc⟩:=e98;have tcH:=tc.same s;have hrl:=tc.tab.len;refine Zaq _ _ ⟨rfl,SqT.of tcH.tab.tup,rfl,_,_,rfl,_,_,rfl,_,_,rfl,rfl,?_⟩;simp only[Ze0,List.set_cons_zero,List.set_cons_succ,Jb9];refine⟨_,rfl,_,rfl,_,rfl,r,rfl,⟨_,SqL.of tcH.tab.lst⟩,λD2 hD2=>Zsf (M:=(cs[i]'(oz3 hlen hi)).2.2) tcH.tab.lst tcH.con (oz206 c24 hrl) hD2 λrs' H' s' hD2' hl2 hc2 fr2 nd2=>?_⟩;refine⟨by show 3<=sizeLine;decide,λpt hpt=>?_⟩;have s0:=Same.new (o:=.tup [V.int (cs[i]'(oz3 hlen hi)).1,V.int (cs[i]'(oz3 hlen hi)).2.1,V.ref D2]) hpt;have s1:=s'.trans s0;have sA:=s.trans s1;have hDpt:=s1 _ _ e;have nDp:D≠pt:=Zai (s' _ _ e) hpt;have nD2:D2≠D:=λz=>by rw[z,e] at hD2;cases hD2
 have nDr:D∉rs':=λz=>by have:=(fr2 D z).1;rw[e] at this;cases this
 have tcN:TabC (upd H' pt (.tup [V.int (cs[i]'(oz3 hlen hi)).1,V.int (cs[i]'(oz3 hlen hi)).2.1,V.ref D2])) p (cs[i]'(oz3 hlen hi)).1 (cs[i]'(oz3 hlen hi)).2.1 pt D2 rs' (cs[i]'(oz3 hlen hi)).2.2:=by
  refine⟨⟨Zaa,s0 _ _ hD2',∅,λa ha=>?_,λz=>(fr2 D2 z).2 rfl⟩,λj a ej=>s0 _ _ (hc2 j a ej)⟩;obtain⟨j,hj,rfl⟩:=Ja4.mp ha;have hj':j<rs.length:=by exact oz3 hl2 hj
  refine Zas (tcH.tab.row rs[j] (Jat hj')) λys hy hyl hyn=>?_;rw[tcH.con j _ (Jaa hj')] at hy;cases hy;exact⟨_,s0 _ _ (hc2 j _ (Jaa hj)),hyl,λy hy=>(hyn y hy).same s1⟩
 have sep':∀ x∈rr++[(D2,rs')],∀ y∈rr++[(D2,rs')],x.1∉y.2:=λx hx y hy z=>by
  rcases Ja1.mp hx with hx|hx <;> rcases Ja1.mp hy with hy|hy
  .exact sp.1 x hx y hy z
  .rw [Jao.mp hy] at z;obtain⟨o,ho⟩:=(sD x hx).2.2.1;have:=(fr2 x.1 z).1;rw[ho] at this;cases this
  .rw [Jao.mp hx] at z;obtain⟨o,ho⟩:=(sD y hy).2.2.2 _ z;rw[hD2] at ho;cases ho
  .rw [Jao.mp hx,Jao.mp hy] at z;exact (fr2 D2 z).2 rfl
 have nodup':((rr++[(D2,rs')]).map (·.2)).flatten.Nodup:=by
  rw[Ja7,List.flatten_append];refine Jel.mpr ⟨sp.2,by simpa using nd2,λa ha b hb z=>?_⟩;subst z;refine Zae (List.mem_flatten.mp ha) λu hu hau=>?_;refine Zae (Ja2.mp hu) λy hy e99=>?_;obtain rfl:=e99;obtain⟨o,ho⟩:=(sD y hy).2.2.2 a hau;have:=(fr2 a (by simpa using hb)).1;rw[ho] at this;cases this
 refine Zk3 (ws:=ts'.map V.ref++[.ref pt]) (by rw[Jab];exact hi) Zvq hDpt (Zan (by rw[Jab];exact oz105 hlen h9 hi hl')) ⟨ts'++[pt],rr++[(D2,rs')],Zbe _ _,sA.upd hD,by rw[Zaa,Zbe],by rw[Jai,hl'];rfl,by rw[Jai,hrr];rfl,⟨sep',nodup'⟩,λx hx=>?_,λj t c x e1 e2 e3=>?_⟩
 .have keep:∀ b o,b≠D->(upd H' pt (.tup [V.int (cs[i]'(oz3 hlen hi)).1,V.int (cs[i]'(oz3 hlen hi)).2.1,V.ref D2])) b=some o->∀ o',(upd (upd H' pt (.tup [V.int (cs[i]'(oz3 hlen hi)).1,V.int (cs[i]'(oz3 hlen hi)).2.1,V.ref D2])) D o') b=some o:=λb o nb h o'=>by rw[Zal nb];exact h
  rcases Ja1.mp hx with hx|hx
  .refine Zck (sD x hx) λx1 x2 e910 x4=>?_;obtain⟨o,ho⟩:=e910;refine⟨x1,x2,⟨o,keep _ _ x1 (s1 _ _ ho) _⟩,λa ha=>?_⟩;obtain⟨o,ho⟩:=x4 a ha;exact⟨o,keep _ _ (λz=>x2 (z ▸ ha)) (s1 _ _ ho) _⟩
  .rw [Jao.mp hx];refine⟨nD2,nDr,⟨_,keep _ _ nD2 tcN.tab.lst _⟩,λa ha=>?_⟩;refine Zae (tcN.tab.row a ha) λys hy _=>?_;exact⟨_,keep _ _ (λz=>nDr (z ▸ ha)) hy _⟩
 by_cases hj:j<ts'.length
 .rw [Jar hj] at e1;rw[Jar (oz5 hl' hrr hj)] at e3;refine Zck (hc' j t c x e1 e2 e3) λa1 a2 a3 a4=>?_;refine Zba (sD x (Jac e3)) λa5 a6 _=>?_;exact⟨(a1.same s1).put hDpt a5 a6,a2,a3,a4⟩
 .rw [Jas (Zpp hj)] at e1;rw[Jas (oz124 hl' hrr hj)] at e3;have hj0:j-ts'.length=0:=by
   by_cases z:j-ts'.length=0
   .exact z
   .rw [Jap (by simp;exact oz4 z)] at e1;cases e1
  rw[show j-rr.length=0 by exact oz47 hl' hrr hj0] at e3;rw[hj0] at e1;cases e1;cases e3;have hji:j=i:=by exact oz2 hl' hj hj0
  subst hji;rw[hci] at e2;cases e2;exact⟨tcN.put hDpt nD2 nDr,(s.trans s').free hpt,s.free hD2,λa ha=>s.free (fr2 a ha).1⟩
theorem NumO.extI {x C0 dx:Addr}{fs:List (Str×V)}{H H':Hp}{p:Int}{B:Nat}{v:V}(h:NumO H p B v)(hx:H x=some (.ins C0 dx fs))(e:Ext x H H'):NumO H' p B v:=by
 refine Zas h λy nv b c=>?_;clear h;refine⟨y,?_,b,c⟩;by_cases hp:p=0
 .refine Zae (nv.ref hp) λt e911 ht=>?_;obtain rfl:=e911;exact NumV.tup hp (e _ _ (Zfd ht hx (by intro z;cases z)) ht)
 .obtain rfl:=nv.int hp;exact NumV.of hp
theorem TabC.extI {x C0 dx:Addr}{fs:List (Str×V)}{H H':Hp}{p hh wd:Int}{t r:Addr}{rs:List Addr}{M:List (List V)}(h:TabC H p hh wd t r rs M)(hx:H x=some (.ins C0 dx fs))(e:Ext x H H'):TabC H' p hh wd t r rs M:=by
 refine⟨⟨e _ _ (Zfd h.tab.tup hx (by intro z;cases z)) h.tab.tup,e _ _ (Zfd h.tab.lst hx (by intro z;cases z)) h.tab.lst,h.tab.len,λa ha=>?_,h.tab.nin⟩,λi a ei=>e _ _ (Zfd (h.con i a ei) hx (by intro z;cases z)) (h.con i a ei)⟩;refine Zas (h.tab.row a ha) λys h1 h2 h3=>?_;exact⟨ys,e _ _ (Zfd h1 hx (by intro z;cases z)) h1,h2,λy hy=>(h3 y hy).extI hx e⟩
theorem Tbs.extI {x C0 dx:Addr}{fs:List (Str×V)}{H H':Hp}{p:Int}{l:Addr}{ts:List Addr}{cs:List (Int×Int×List (List V))}(h:Tbs H p l ts cs)(hx:H x=some (.ins C0 dx fs))(e:Ext x H H'):Tbs H' p l ts cs:=
 ⟨e _ _ (Zfd h.1 hx (by intro z;cases z)) h.1,h.2.1,h.2.2.1,λi t c e1 e2=>let ⟨⟨r,rs,a⟩,b⟩:=h.2.2.2 i t c e1 e2;⟨⟨r,rs,a.extI hx e⟩,b⟩⟩
theorem Tbs.same {H H':Hp}{p:Int}{l:Addr}{ts:List Addr}{cs:List (Int×Int×List (List V))}(h:Tbs H p l ts cs)(s:Same H H'):Tbs H' p l ts cs:=
 ⟨s _ _ h.1,h.2.1,h.2.2.1,λi t c e1 e2=>let ⟨⟨r,rs,a⟩,b⟩:=h.2.2.2 i t c e1 e2;⟨⟨r,rs,a.same s⟩,b⟩⟩
def Zh6 (g d z l:Addr):List (Str×V):=Zct "tables" (.ref l) (Zct "sizes" (.ref z) (Zct "drawing" (.ref d) (Zct "ground" (.ref g) [])))
theorem Zlr (g d z l:Addr):(Zh6 g d z l).lookup ("tables" : Str)=some (.ref l):=by unfold Zh6;rw[Zaz,if_pos rfl]
theorem Zd2 (g d z l:Addr):(Zh6 g d z l).lookup ("sizes" : Str)=some (.ref z):=by unfold Zh6;rw[Zaz,if_neg ⋯,Zaz,if_pos rfl]
theorem Zbz (g d z l:Addr):(Zh6 g d z l).lookup ("drawing" : Str)=some (.ref d):=by unfold Zh6;rw[Zaz,if_neg ⋯,Zaz,if_neg ⋯,Zaz,if_pos rfl]
theorem Zc1 (g d z l:Addr):(Zh6 g d z l).lookup ("ground" : Str)=some (.ref g):=by unfold Zh6;rw[Zaz,if_neg ⋯,Zaz,if_neg ⋯,Zaz,if_neg ⋯,Zaz,if_pos rfl]
def Fits (ns:List Int)(cs:List (Int×Int×List (List V)))(ps:List (Int×Int)):Prop:=cs.length=ps.length/\∀ (i:Nat) c q,cs[i]?=some c->ps[i]?=some q->c.1=ns.getD q.2.toNat 0/\c.2.1=ns.getD q.1.toNat 0
def spSI (S C G:Addr):Sp:=λvs H Q _=>∃ (x dx g d z l lp:Addr) (p m:Int) (xs:List V) (ps:List (Int×Int)) (ns:List Int) (ts:List Addr) (cs:List (Int×Int×List (List V))),vs=[.ref x,.ref g,.ref d,.ref z,.ref l]/\H x=some (.ins S dx [])/\GAt G H g p/\GroundP p /\
 Zez C H d m lp xs/\Prs H xs ps/\InP m ps/\ps.length<=9/\Sizes H z ns/\(ns.length:Int)=m/\Tbs H p l ts cs/\Fits ns cs ps /\
 ∀ (z' l':Addr) (ts':List Addr) (H':Hp),Ext x H H'->H' x=some (.ins S dx (Zh6 g d z' l'))->H z'=none->H l'=none->Sizes H' z' ns->H' l'=some (.lst (ts'.map V.ref))->ts'.length=cs.length->(∀ (i:Nat) t c,ts'[i]?=some t->cs[i]?=some c->TabF H H' p c.1 c.2.1 t c.2.2)->Q .non H'
theorem Zt8 (F:Fun K "__init__" "Standing.__init__" Zdt f fd)(T:Txt K mg C G S)(Ybq:Cal P w K mg base "are_sizes" 2 (spSz C))(Ya6:Cal P w K mg base "are_tables" 10 (spTs C G)):FnOk P w K mg base CX0 11 f fd ["self","ground","drawing","sizes","tables"] (spSI S C G):=by
 have nd:=Zex.nd;refine F.ok Zex (λvs H Q E h=>?_) (λcdv A outer s H vs Q E hr h=>?_)
 .refine Znr h λx dx g d z l lp p m xs ps ns ts cs e912 _=>?_;clear h;obtain rfl:=e912;rfl
 .refine Zvj h λx dx g d z l lp p m xs ps ns ts cs e913 hx hg e914=>?_;clear h;obtain rfl:=e913;refine Zvl e914 λhp hd pr ip p9 hz hm hT ft q=>?_;clear e914;refine⟨_,((@Zay _ _ _ _ _ _ _ _ (PW.pt (Zce (Za9 (Zbb (Ybq<$>hr<$>((pvr 2)<&>((pvr 3)<&>Zab))))) (Zbj (Za9 (Zbb (Ya6<$>hr<$>((pvr 1)<&>((pvr 2)<&>((pvr 3)<&>((pvr 4)<&>Zab)))))))))) (@Zau _ _ _ Zcf) Zaj)<*>((Zjc (pvr 0) (pvr 1) rfl)<*>((Zjc (pvr 0) (pvr 2) rfl)<*>((Zjc (pvr 0) (Zhn Zbk rfl T.n_list Jcg ((pvr 3)<&>Zab)) rfl)<*>(@Zau _ _ _ (Zjc (pvr 0) (Za0 (own:=["high","wide","rows"]) (fr:=[]) rfl (Zbi (by kernel_rfl)) (Zbd (pv 4)) (λ_ _ _ _=>⟨(@Zda _ K rfl _ _ _ _ 3 rfl ((0<<<["high","wide","rows"])^^^((1<<<["high","wide","rows"])^^^((2<<<["high","wide","rows"])^^^(@Za6 _)))) ⇑1 ⇑1),Zat,(@Zam _ _ _ _ _ ((pv 0)<&>((pv 1)<&>((Za0 (own:=["row"]) (fr:=[]) rfl (Zbi (by kernel_rfl)) (Zgu K rfl (pv 2)) (λ_ _ _ _=>⟨(0<<<["row"]),Zat,(Zhn (Zg6 K rfl) rfl T.n_list Jcg ((pv 0)<&>Zab))⟩))<&>Zab))))⟩)) rfl)))))),?_⟩;walk_at "wp";refine xI6_1 d z lp m xs ns ⟨rfl,hd,hz,hm,λH1 s1=>⟨true,rfl,Zcj ⇑0 ?_⟩⟩;have hT1:=hT;refine Zck hT λhl hlen h9 hc=>?_;clear hT;refine Zae hd λdxd hd1 hd2=>?_;clear hd;refine xI11_1 g d z l lp p m xs ps ns ts ⟨rfl,hg.same s1,hp,⟨dxd,s1 _ _ hd1,s1 _ _ hd2⟩,pr.same s1,ip,p9,hz.same s1,hm,s1 _ _ hl,by rw[hlen,ft.1],λi t q' e1 e2=>?_,λH2 s2=>⟨true,rfl,Zcj ⇑0 ?_⟩⟩
  .have hi:i<ps.length:=(Jaf.mp e2).1;have hci:cs[i]?=some (cs[i]'(by have:=ft.1;exact oz7 hi this)):=Jaa _;obtain⟨⟨r,rs,tc⟩,_⟩:=hc i t _ e1 hci;obtain⟨f1,f2⟩:=ft.2 i _ _ hci e2;rw[<- f1,<- f2];exact⟨r,rs,tc.tab.same s1⟩
  .have s12:=s1.trans s2;have hx2:=s12 _ _ hx;have nzx:z≠x:=Zfd hz.1 hx (by intro w;cases w);refine Zbv S dx [] ⟨hx2,T.cl_Standing,T.nSg,by show 0<1000;decide,S,dx,_,Zaa,T.cl_Standing,T.nSd,by have l1:=Zb8 "ground" (.ref g) [];simp at l1;omega,_,.inl (SqL.of (by rw[Zal nzx,Zal nzx];exact s12 _ _ hz.1)),λl1 hl1=>?_⟩;have nxl:x≠l1:=Zai Zaa hl1;have f1:H l1=none:=by
    rw[Zal nxl.symm,Zal nxl.symm] at hl1;exact s12.free hl1
   have g1:=Zb8 "ground" (.ref g) [];have g2:=Zb8 "drawing" (.ref d) (Zct "ground" (.ref g) []);have g3:=Zb8 "sizes" (.ref l1) (Zct "drawing" (.ref d) (Zct "ground" (.ref g) []));simp only[Jd7] at g1;refine Zbv S dx _ ⟨by rw[Zal nxl];exact Zaa,T.cl_Standing,T.nSs,∅,?_⟩;have e6:Ext x H (upd (upd (upd (upd H2 x (.ins S dx (Zct "ground" (.ref g) []))) x (.ins S dx (Zct "drawing" (.ref d) (Zct "ground" (.ref g) [])))) l1 (.lst (ns.map V.int))) x (.ins S dx (Zct "sizes" (.ref l1) (Zct "drawing" (.ref d) (Zct "ground" (.ref g) []))))):=λb o nb eb=>by
    rw[Zal nb,Zal (Zai eb f1),Zal nb,Zal nb];exact s12 _ _ eb
   have hx6:(upd (upd (upd (upd H2 x (.ins S dx (Zct "ground" (.ref g) []))) x (.ins S dx (Zct "drawing" (.ref d) (Zct "ground" (.ref g) [])))) l1 (.lst (ns.map V.int))) x (.ins S dx (Zct "sizes" (.ref l1) (Zct "drawing" (.ref d) (Zct "ground" (.ref g) []))))) x=some (.ins S dx (Zct "sizes" (.ref l1) (Zct "drawing" (.ref d) (Zct "ground" (.ref g) [])))):=Zaa;have hl6:(upd (upd (upd (upd H2 x (.ins S dx (Zct "ground" (.ref g) []))) x (.ins S dx (Zct "drawing" (.ref d) (Zct "ground" (.ref g) [])))) l1 (.lst (ns.map V.int))) x (.ins S dx (Zct "sizes" (.ref l1) (Zct "drawing" (.ref d) (Zct "ground" (.ref g) []))))) l1=some (.lst (ns.map V.int)):=by rw[Zal nxl.symm];exact Zaa
   generalize upd (upd (upd (upd H2 x (.ins S dx (Zct "ground" (.ref g) []))) x (.ins S dx (Zct "drawing" (.ref d) (Zct "ground" (.ref g) [])))) l1 (.lst (ns.map V.int))) x (.ins S dx (Zct "sizes" (.ref l1) (Zct "drawing" (.ref d) (Zct "ground" (.ref g) []))))=H6 at *;have fr6:∀ b,H6 b=none->H b=none:=λb hb=>by
    cases eb:H b with
    | none=>rfl
    | some o=>
     by_cases nb:b=x
     .rw [nb,hx6] at hb;cases hb
     .rw [e6 b o nb eb] at hb;cases hb
   have hT6:=hT1.extI hx e6;refine⟨_,rfl,l,rfl,⟨_,SqL.of hT6.1⟩,λD hD=>Zse hT6 hD λts' H7 s7 hD7 hl7 ht7 _=>?_⟩;have hx7:=s7 _ _ hx6;have nDx:D≠x:=λw=>by rw[w,hx6] at hD;cases hD
   refine Zbv S dx _ ⟨hx7,T.cl_Standing,T.nSt,oz205 g1 g2 g3,?_⟩;refine q l1 D ts' _ (λb o nb eb=>by rw[Zal nb];exact s7 _ _ (e6 b o nb eb)) Zaa f1 (fr6 D hD) ⟨by rw[Zal nxl.symm];exact s7 _ _ hl6,hz.2⟩ (by rw[Zal nDx];exact hD7) hl7 λi t c e1 e2=>?_;refine Zf2 (ht7 i t c e1 e2) λr rs a1 a2 a3 a4=>?_;exact Zaq r rs ⟨a1.extI hx7 (λb o nb eb=>by rw[Zal nb];exact eb),fr6 t a2,fr6 r a3,λa ha=>fr6 a (a4 a ha)⟩
end
end Pf
set_option maxRecDepth 50000
set_option maxHeartbeats 500000
namespace Pf
open PySem L2 PyProof.Rows
section
variable {C G S:Addr}
theorem Tab.ext2 {l:Addr}{H H':Hp}{p hh wd:Int}{t r:Addr}{rs:List Addr}(h:Tab H p hh wd t r rs)(b:Bag H l)(e:Ext l H H')(nr:r≠l)(ns:l∉rs):Tab H' p hh wd t r rs:=
 ⟨by obtain⟨ys,hy⟩:=b.lst;exact e _ _ (Zfd h.tup hy (by intro z;cases z)) h.tup,e _ _ nr h.lst,h.len,λa ha=>(h.row a ha).ext b e (λz=>ns (z ▸ ha)),h.nin⟩
theorem TabC.ext {l:Addr}{H H':Hp}{p hh wd:Int}{t r:Addr}{rs:List Addr}{M:List (List V)}(h:TabC H p hh wd t r rs M)(b:Bag H l)(e:Ext l H H')(nr:r≠l)(ns:l∉rs):TabC H' p hh wd t r rs M:=
 ⟨h.tab.ext2 b e nr ns,λi a ei=>e _ _ (λz=>ns (z ▸ Jac ei)) (h.con i a ei)⟩
def rowOf (H:Hp)(a:Addr):List V:=match H a with
 | some (.lst xs)=>xs
 | _=>[]
theorem Tab.toC {H:Hp}{p hh wd:Int}{t r:Addr}{rs:List Addr}(h:Tab H p hh wd t r rs):∃ M,TabC H p hh wd t r rs M:=by
 refine⟨rs.map (rowOf H),h,λi a e=>?_⟩;rw[Jae,Jad,e];refine Zae (h.row a (Jac e)) λxs hx _=>?_;show H a=some (.lst (rowOf H a));unfold rowOf;rw[hx]
theorem Prs.bag {l:Addr}{H H':Hp}{xs:List V}{ps:List (Int×Int)}(h:Prs H xs ps)(b:Bag H l)(e:Ext l H H'):Prs H' xs ps:=
 ⟨h.1,λi x q h1 h2=>by
  refine Zae (h.2 i x q h1 h2) λt e1 e2=>?_;obtain⟨ys,hy⟩:=b.lst;exact⟨t,e1,e _ _ (Zfd e2 hy (by intro z;cases z)) e2⟩⟩
abbrev Nv:=Int×Int
abbrev Mv:=List (List Nv)
def All2 {α β:Type}(P:α->β->Prop)(xs:List α)(ys:List β):Prop:=xs.length=ys.length/\∀ (i:Nat) x y,xs[i]?=some x->ys[i]?=some y->P x y
theorem All2.nil {α β:Type}{P:α->β->Prop}:All2 P [] []:=⟨rfl,λi x y e=>by simp at e⟩
theorem All2.drop {α β:Type}{P:α->β->Prop}{xs:List α}{ys:List β}(h:All2 P xs ys)(n:Nat):All2 P (xs.drop n) (ys.drop n):=⟨by rw[Jbz,Jbz,h.1],λi x y e1 e2=>by
 rw[List.getElem?_drop] at e1 e2;exact h.2 _ x y e1 e2⟩
theorem All2.app {α β:Type}{P:α->β->Prop}{xs xs':List α}{ys ys':List β}(h:All2 P xs ys)(h':All2 P xs' ys'):All2 P (xs++xs') (ys++ys'):=⟨by rw[Jai,Jai,h.1,h'.1],λi x y e1 e2=>by
 have hl:=h.1;by_cases hi:i<xs.length
 .rw [Jar hi] at e1;rw[Jar (oz3 hl hi)] at e2;exact h.2 i x y e1 e2
 .rw [Jas ∅] at e1 e2;rw[<- hl] at e2;exact h'.2 _ x y e1 e2⟩
theorem All2.one {α β:Type}{P:α->β->Prop}{x:α}{y:β}(h:P x y):All2 P [x] [y]:=⟨rfl,λi a b e1 e2=>by
 cases i with
 | zero=>cases e1;cases e2;exact h
 | succ i=>simp at e1⟩
theorem All2.mono {α β:Type}{P P':α->β->Prop}{xs:List α}{ys:List β}(h:All2 P xs ys)(k:∀ x y,P x y->P' x y):All2 P' xs ys:=⟨h.1,λi x y e1 e2=>k x y (h.2 i x y e1 e2)⟩
theorem All2.monoM {α β:Type}{P P':α->β->Prop}{xs:List α}{ys:List β}(h:All2 P xs ys)(k:∀ x y,x∈xs->P x y->P' x y):All2 P' xs ys:=⟨h.1,λi x y e1 e2=>k x y (Jac e1) (h.2 i x y e1 e2)⟩
theorem All2.set {α β:Type}{P:α->β->Prop}{xs:List α}{ys:List β}(h:All2 P xs ys)(n:Nat){x:α}{y:β}(hp:P x y):All2 P (xs.set n x) (ys.set n y):=⟨by rw[Jcc,Jcc,h.1],λi a b e1 e2=>by
 rw[Jc7] at e1 e2;by_cases hi:n=i
 .rw [if_pos hi] at e1 e2;split at e1
  .split at e2
   .cases e1;cases e2;exact hp
   .cases e2
  .cases e1
 .rw [if_neg hi] at e1 e2;exact h.2 i a b e1 e2⟩
theorem All2.rep {α β:Type}{P:α->β->Prop}{x:α}{y:β}(h:P x y)(n:Nat):All2 P (List.replicate n x) (List.replicate n y):=⟨by simp,λi a b e1 e2=>by
 rw[Jb6] at e1 e2;split at e1
 .rename_i hi
  rw[if_pos hi] at e2;cases e1;cases e2;exact h
 .cases e1⟩
theorem All2.at {α β:Type}{P:α->β->Prop}{xs:List α}{ys:List β}(h:All2 P xs ys){i:Nat}{y:β}(e:ys[i]?=some y):∃ x,xs[i]?=some x/\P x y:=by
 have hi:i<ys.length:=(Jaf.mp e).1;have hx:xs[i]?=some (xs[i]'(by have:=h.1;exact oz7 hi this)):=Jaa _;exact⟨_,hx,h.2 i _ y hx e⟩
theorem All2.at' {α β:Type}{P:α->β->Prop}{xs:List α}{ys:List β}(h:All2 P xs ys){i:Nat}{x:α}(e:xs[i]?=some x):∃ y,ys[i]?=some y/\P x y:=by
 have hi:i<xs.length:=(Jaf.mp e).1;have hy:ys[i]?=some (ys[i]'(by have:=h.1;exact oz79 hi this)):=Jaa _;exact⟨_,hy,h.2 i x _ e hy⟩
theorem All2.pick {α β:Type}{P:α->β->Prop}:∀ {xs:List α},(∀ x∈xs,∃ y,P x y)->∃ ys,All2 P xs ys
 | [],_=>⟨[],All2.nil⟩
 | x::xs,h=>by
  obtain⟨y,hy⟩:=h x (by simp);obtain⟨ys,hys⟩:=All2.pick (xs:=xs) λz hz=>h z (by simp[hz]);exact⟨y::ys,(All2.one hy).app hys⟩
def RowV (H:Hp)(p:Int)(a:Addr)(xs:List Nv):Prop:=∃ vs,H a=some (.lst vs)/\All2 (NumV H p) vs xs
theorem RowV.same {H H':Hp}{p:Int}{a:Addr}{xs:List Nv}(h:RowV H p a xs)(s:Same H H'):RowV H' p a xs:=let ⟨vs,h1,h2⟩:=h;⟨vs,s _ _ h1,h2.mono λ_ _ k=>k.same s⟩
theorem NumV.put {H:Hp}{D:Addr}{l:List V}{o:HO}{p:Int}{v:V}{x:Nv}(h:NumV H p v x)(hD:H D=some (.lst l)):NumV (upd H D o) p v x:=by
 by_cases hp:p=0
 .refine Zae (h.ref hp) λt e94 ht=>?_;obtain rfl:=e94;exact NumV.tup hp (by rw[Zal (Zfd ht hD (by intro z;cases z))];exact ht)
 .obtain rfl:=h.int hp;exact NumV.of hp
theorem RowV.put {H:Hp}{D:Addr}{l:List V}{o:HO}{p:Int}{a:Addr}{xs:List Nv}(h:RowV H p a xs)(hD:H D=some (.lst l))(n:a≠D):RowV (upd H D o) p a xs:=let ⟨vs,h1,h2⟩:=h;⟨vs,by rw[Zal n];exact h1,h2.mono λ_ _ k=>k.put hD⟩
theorem RowV.ext {l:Addr}{H H':Hp}{p:Int}{a:Addr}{xs:List Nv}(h:RowV H p a xs)(b:Bag H l)(e:Ext l H H')(n:a≠l):RowV H' p a xs:=let ⟨vs,h1,h2⟩:=h;⟨vs,e _ _ n h1,h2.mono λ_ _ k=>k.ext b e⟩
structure TabV (H:Hp)(p hh wd:Int)(t r:Addr)(rs:List Addr)(M:Mv):Prop where
 tup:H t=some (.tup [.int hh,.int wd,.ref r])
 lst:H r=some (.lst (rs.map V.ref))
 row:All2 (RowV H p) rs M
 nin:r∉rs
theorem TabV.same {H H':Hp}{p hh wd:Int}{t r:Addr}{rs:List Addr}{M:Mv}(h:TabV H p hh wd t r rs M)(s:Same H H'):TabV H' p hh wd t r rs M:=⟨s _ _ h.tup,s _ _ h.lst,h.row.mono λ_ _ k=>k.same s,h.nin⟩
theorem TabV.put {H:Hp}{D:Addr}{l:List V}{o:HO}{p hh wd:Int}{t r:Addr}{rs:List Addr}{M:Mv}(h:TabV H p hh wd t r rs M)(hD:H D=some (.lst l))(nr:r≠D)(ns:D∉rs):TabV (upd H D o) p hh wd t r rs M:=
 ⟨by rw[Zal (Zfd h.tup hD (by intro z;cases z))];exact h.tup,by rw[Zal nr];exact h.lst,h.row.monoM λa _ ha k=>k.put hD (λz=>ns (z ▸ ha)),h.nin⟩
theorem TabV.ext {l:Addr}{H H':Hp}{p hh wd:Int}{t r:Addr}{rs:List Addr}{M:Mv}(h:TabV H p hh wd t r rs M)(b:Bag H l)(e:Ext l H H')(nr:r≠l)(ns:l∉rs):TabV H' p hh wd t r rs M:=
 ⟨e _ _ (λz=>by obtain⟨x,y,hb,_⟩:=b;rw[<- z,h.tup] at hb;cases hb) h.tup,e _ _ nr h.lst,h.row.monoM λa _ ha k=>k.ext b e (λz=>ns (z ▸ ha)),h.nin⟩
def Shp (hh wd:Int)(M:Mv):Prop:=(M.length:Int)=hh/\∀ row∈M,(row.length:Int)=wd
theorem Zd1 {α:Type}{R:Addr->α->Prop}{rs:List Addr}{xs:List α}(h:All2 R rs xs):All2 (λv x=>∃ a,v=.ref a/\R a x) (rs.map V.ref) xs:=⟨by rw[Jab];exact h.1,λi v x e1 e2=>by
 rw[Jad] at e1;cases e:rs[i]? with
 | none=>rw[e] at e1;cases e1
 | some a=>rw[e] at e1;cases e1;exact⟨a,rfl,h.2 i a x e e2⟩⟩
theorem Zcu {a D:Addr}{xs:List V}{fr:List (Str×Nat)}{σ:L2.St}{te:TE}{H1:Hp}{Q:VK}(R:Nat->Hp->V->Prop)(hS:∀ {i H H' y},R i H y->Same H H'->R i H' y)(hP:∀ {i H y l o},R i H y->H D=some (.lst l)->R i (upd H D o) y)(ha:H1 a=some (.lst xs))(hD:H1 D=none)(hn:xs.length<=1000)(h:∀ (i:Nat) x H (Q:VK),xs[i]?=some x->Same H1 H->(∃ l,H D=some (.lst l))->(∀ y H',Same H H'->R i H' y->Q y H')->te (some x::Zbq fr σ) H Q)(hQ:∀ ys H',Same H1 H'->H' D=some (.lst ys)->ys.length=xs.length->(∀ (i:Nat) y,ys[i]?=some y->R i H' y)->Q (.ref D) H'):Zbw (Zbp 0) Ze0 te (Itl K a) D (Zha 1 fr σ) H1 Q:=by
 refine Zd7 (xs:=xs) (λi vs H=>Same H1 H/\H D=some (.lst vs)/\vs.length=i/\∀ (j:Nat) y,vs[j]?=some y->R j H y) ⟨Same.new hD,Zaa,rfl,λj y e=>by simp at e⟩ (λi vs H _ p=>SqL.of (p.1 _ _ ha)) ?_ (λvs H ⟨s,e,hl,hr⟩=>hQ vs H s e hl hr);intro i x vs σ' H hi hx sh e91;refine Zck e91 λs e hl hr=>?_;clear e91;obtain⟨z,rfl⟩:=sh.one;simp only[Zfr,Zbp,Ze0,List.set_cons_zero,Jb9];refine h i x H _ hx s ⟨_,e⟩ λy H' s' ry=>?_;refine Zk3 (ws:=vs++[y]) hi Sh.mk1 (s' _ _ e) (Zan (oz81 hn hi hl)) ⟨(s.trans s').upd hD,Zaa,by rw[Jai,hl];rfl,λj u hu=>?_⟩;by_cases hj:j<vs.length
 .rw [Jar hj] at hu;exact hP (hS (hr j u hu) s') (s' _ _ e)
 .rw [Jas (Zpp hj)] at hu;have hj0:j-vs.length=0:=by
   by_cases z:j-vs.length=0
   .exact z
   .rw [Jap (by simp;exact oz4 z)] at hu;cases hu
  rw[hj0] at hu;cases hu;rw[show j=i by exact oz2 hl hj hj0];exact hP ry (s' _ _ e)
theorem Zfe {lo:Int}{n:Nat}{D:Addr}{fr:List (Str×Nat)}{σ:L2.St}{te:TE}{H1:Hp}{Q:VK}(R:Nat->Hp->V->Prop)(hS:∀ {i H H' y},R i H y->Same H H'->R i H' y)(hP:∀ {i H y l o},R i H y->H D=some (.lst l)->R i (upd H D o) y)(hD:H1 D=none)(hn:n<=1000)(h:∀ (i:Nat) H (Q:VK),i<n->Same H1 H->(∃ l,H D=some (.lst l))->(∀ y H',Same H H'->R i H' y->Q y H')->te (some (.int (lo+(i:Nat)))::Zbq fr σ) H Q)(hQ:∀ ys H',Same H1 H'->H' D=some (.lst ys)->ys.length=n->(∀ (i:Nat) y,ys[i]?=some y->R i H' y)->Q (.ref D) H'):Zbw (Zbp 0) Ze0 te (Itr lo n) D (Zha 1 fr σ) H1 Q:=by
 refine Zie (n:=n) (λi vs H=>Same H1 H/\H D=some (.lst vs)/\vs.length=i/\∀ (j:Nat) y,vs[j]?=some y->R j H y) ⟨Same.new hD,Zaa,rfl,λj y e=>by simp at e⟩ ?_ (λvs H ⟨s,e,hl,hr⟩=>hQ vs H s e hl hr);intro i x vs σ' H hi e92;obtain rfl:=e92;intro sh e93;refine Zck e93 λs e hl hr=>?_;clear e93;obtain⟨z,rfl⟩:=sh.one;simp only[Zfr,Zbp,Ze0,List.set_cons_zero,Jb9];refine h i H _ hi s ⟨_,e⟩ λy H' s' ry=>?_;refine Zk3 (ws:=vs++[y]) hi Sh.mk1 (s' _ _ e) (Zan (oz81 hn hi hl)) ⟨(s.trans s').upd hD,Zaa,by rw[Jai,hl];rfl,λj u hu=>?_⟩;by_cases hj:j<vs.length
 .rw [Jar hj] at hu;exact hP (hS (hr j u hu) s') (s' _ _ e)
 .rw [Jas (Zpp hj)] at hu;have hj0:j-vs.length=0:=by
   by_cases z:j-vs.length=0
   .exact z
   .rw [Jap (by simp;exact oz4 z)] at hu;cases hu
  rw[hj0] at hu;cases hu;rw[show j=i by exact oz2 hl hj hj0];exact hP ry (s' _ _ e)
theorem Zr3 {ys:List V}{g:Nat->Int}{n:Nat}(hl:ys.length=n)(h:∀ (i:Nat) y,ys[i]?=some y->y=.int (g i)):ys=((List.range n).map g).map V.int:=by
 apply Jcw;intro i;by_cases hi:i<n
 .rw [Jaa (Zly hl hi),h i _ (Jaa (Zly hl hi)),Jad,Jad,Jbc hi];rfl
 .rw [Jap ∅,Jap (by simp;exact Zpp hi)]
theorem Zmz {P:Nat->Addr->Prop}:∀ {ys:List V},(∀ (i:Nat) y,ys[i]?=some y->∃ b,y=.ref b/\P i b)->∃ bs:List Addr,ys=bs.map V.ref/\∀ (i:Nat) b,bs[i]?=some b->P i b:=by
 intro ys
 induction ys generalizing P with
 | nil=>exact λ_=>⟨[],rfl,λi b e=>by simp at e⟩
 | cons y ys ih=>
  intro h;refine Zae (h 0 y rfl) λb e97 hb=>?_;obtain rfl:=e97;refine Zae (ih (P:=λi b=>P (i+1) b) λi u e=>h (i+1) u (by simpa using e)) λbs e98 hbs=>?_;obtain rfl:=e98;exact⟨b::bs,rfl,λi u e=>by
   cases i with
   | zero=>cases e;exact hb
   | succ i=>exact hbs i u (by simpa using e)⟩
theorem Zqo {D:Addr}{H1 H':Hp}{p:Int}{M:Mv}{ys:List V}(hl:ys.length=M.length)(h:∀ (i:Nat) y,ys[i]?=some y->∃ a,y=.ref a/\RowV H' p a (M.getD i [])/\a≠D/\H1 a=none):∃ rs:List Addr,ys=rs.map V.ref/\All2 (RowV H' p) rs M/\D∉rs/\∀ a∈rs,H1 a=none:=by
 refine Zae (Zmz (P:=λi a=>RowV H' p a (M.getD i [])/\a≠D/\H1 a=none) h) λrs e99 hr=>?_;obtain rfl:=e99;rw[Jab] at hl;refine⟨rs,rfl,⟨hl,λi a xs e1 e2=>?_⟩,λz=>?_,λa ha=>?_⟩
 .have:=(hr i a e1).1;rwa [Jae,e2] at this
 .obtain ⟨j,hj,e⟩:=Ja4.mp z;exact (hr j D (by rw[Jaa hj,e])).2.1 rfl
 .obtain ⟨j,hj,rfl⟩:=Ja4.mp ha;exact (hr j _ (Jaa hj)).2.2
structure New (H:Hp)(t r:Addr)(rs:List Addr):Prop where
 t:H t=none
 r:H r=none
 rs:∀ a∈rs,H a=none
abbrev Tv:=Int×Int×Mv
abbrev t0:Tv:=(0,0,[])
abbrev hF (cs:List Tv)(i:Nat):Int:=(cs.getD i t0).1
abbrev wF (cs:List Tv)(i:Nat):Int:=(cs.getD i t0).2.1
abbrev mF (cs:List Tv)(i:Nat):Mv:=(cs.getD i t0).2.2
theorem Zsi {a D:Addr}{xs:List V}{fr:List (Str×Nat)}{σ:L2.St}{te:TE}{H1:Hp}{Q:VK}(g:Nat->Int)(ha:H1 a=some (.lst xs))(hD:H1 D=none)(hn:xs.length<=1000)(h:∀ (i:Nat) x H (Q:VK),xs[i]?=some x->Same H1 H->(∀ H',Same H H'->Q (.int (g i)) H')->te (some x::Zbq fr σ) H Q)(hQ:∀ H',Same H1 H'->H' D=some (.lst (((List.range xs.length).map g).map V.int))->Q (.ref D) H'):Zbw (Zbp 0) Ze0 te (Itl K a) D (Zha 1 fr σ) H1 Q:=
 Zcu (λi _ y=>y=.int (g i)) (λr _=>r) (λr _=>r) ha hD hn (λi x H Q hx s _ k=>h i x H Q hx s λH' s'=>k _ H' s' rfl) (λys H' s e hl hr=>hQ H' s (by rw[e,Zr3 hl hr]))
structure FewC (cs:List Tv):Prop where
 few:cs.length<=9
 bd:∀ i,i<cs.length->0<=hF cs i/\hF cs i<=24/\0<=wF cs i/\wF cs i<=24/\Shp (hF cs i) (wF cs i) (mF cs i)
structure TbsV (H:Hp)(p:Int)(a:Addr)(ts:List Addr)(cs:List Tv):Prop where
 lst:H a=some (.lst (ts.map V.ref))
 tab:All2 (λt c=>∃ r rs,TabV H p c.1 c.2.1 t r rs c.2.2) ts cs
end
end Pf
namespace Pf
open PySem L2 L3 PyProof.Rows
section
variable {C G S:Addr}
def nrS (a b:Int):Int×Int:=if b<0 then nrm (-a) (-b) else nrm a b
theorem nrS_eq {a b:Int}(h:b≠0):((a.fdiv (if b<0 then -(Int.gcd a b:Int) else (Int.gcd a b:Int)),b.fdiv (if b<0 then -(Int.gcd a b:Int) else (Int.gcd a b:Int))):Int×Int)=nrS a b:=by
 unfold nrS nrm;by_cases hb:b<0
 .simp only [if_pos hb];have e1:∀ z g:Int,z.fdiv (-g)=(-z).fdiv g:=λz g=>by rw[<- Int.neg_fdiv_neg (-z) g,Int.neg_neg]
  have e2:Int.gcd (-a) (-b)=Int.gcd a b:=by rw[Int.gcd_neg,Int.neg_gcd]
  rw[e1,e1,e2,Jbt _ Zq6,Jbt _ Zq6]
 .simp only [if_neg hb];rw[Jbt _ Zq6,Jbt _ Zq6]
def Zmv:Sp:=λvs H Q _=>∃ a b:Int,vs=[.int a,.int b]/\Bt NB a/\Bt NB b/\b≠0/\∀ t H',Same H H'->H' t=some (.tup [.int (nrS a b).1,.int (nrS a b).2])->Q (.ref t) H'
theorem Zui (F:Fun K "fraction" "fraction" Zhm f fd)(T:Txt K mg C G S)(hpt:P.given.tree=none)(Yaj:Cal P w K mg base "common_divisor" 4 Zqg):FnOk P w K mg base CX0 5 f fd ["top","bottom"] Zmv:=by
 have nd:=Ziw.nd;refine F.ok Ziw (λvs H Q E h=>?_) (λcdv A outer s H vs Q E hr h=>?_)
 .refine Zbs h λa b e92 _=>?_;clear h;obtain rfl:=e92;rfl
 .refine Zlj h λa b e93 ha hb b0 q=>?_;clear h;obtain rfl:=e93;refine⟨_,((@Zay _ _ _ _ _ _ _ _ (Zak (Ze2 Zby) (pvr 1) Zac (Zah _)) (@Zau _ _ _ Zcf) Zaj)<*>((2|||nd|||(Yaj<$>hr<$>((pvr 0)<&>((pvr 1)<&>Zab))))<*>((@Zay _ _ _ _ _ _ _ _ (Zak (Zkj Zjx) (pvr 1) Zac (Zah _)) (@Zau _ _ _ (2|||nd|||(Zjv Zfu (pvr 2)))) Zaj)<*>(~~~(@Zam _ _ _ _ _ (((Zep hpt (Zdu hr))<|>(pvr 0)<&&>(pvr 2))<&>(((Zep hpt (Zdu hr))<|>(pvr 1)<&&>(pvr 2))<&>Zab))))))),?_⟩;walk_at "wp";have Zcj:∀ {c A B:Prop} [Decidable c],¬ c->B->if c then A else B:=λhc h=>by rw[if_neg hc];exact h
  refine Zcj (by rw[Jam b0];decide) ⟨a,b,rfl,ha,hb,λH1 s1=>?_⟩;have g0:0<Int.gcd a b:=Int.gcd_pos_of_ne_zero_right _ b0;have e:=nrS_eq (a:=a) b0;refine Zb5 (λhc=>?_) (λhc=>?_)
  .have hc:=Jaz hc;rw[if_pos hc] at e;refine⟨_,rfl,∅,∅,⇑0,λt ht=>q t _ (s1.trans (Same.new ht)) ?_⟩;rw[Zaa,<- e]
  .have hc:¬ b<0:=λz=>hc (Jah z);rw[if_neg hc] at e;refine⟨_,rfl,∅,_,rfl,∅,⇑0,λt ht=>q t _ (s1.trans (Same.new ht)) ?_⟩;rw[Zaa,<- e]
theorem Zqv {b p:Int}(hp:Zg9 p)(h0:0<b)(h1:b<p):Int.gcd b p=1:=by
 have hd1:((Int.gcd b p:Nat):Int) ∣ b:=Jb8 b p;have hd2:((Int.gcd b p:Nat):Int) ∣ p:=Jci b p;have hle:=Int.le_of_dvd h0 hd1;have hpos:0<Int.gcd b p:=Int.gcd_pos_of_ne_zero_left _ (Zo8 h0);by_cases h:Int.gcd b p=1
 .exact h
 .exact absurd (Int.emod_eq_zero_of_dvd hd2) (hp.2.2 _ (oz222 hpos h) ∅)
theorem inv_end {p z b c:Int}(h:p ∣ z*b-c):(z % p*b) % p=c % p:=by
 obtain⟨k,hk⟩:=h;have e:z % p*b=c+p*(k-z / p*b):=by rw[Int.emod_def];grind
 rw[e,Int.add_mul_emod_self_left]
theorem Zom {a b:Int}(ha:1<=a)(hb:0<=b):b<=a*b:=by
 have:=Jcx ha hb;omega
theorem Zsv {x:Int}(h:x.natAbs<=97):Bt 7 x:=Jbf h ⇑0
def spInv:Sp:=λvs H Q _=>∃ b p:Int,vs=[.int b,.int p]/\Zg9 p/\0<b/\b<p/\∀ r H',Same H H'->0<=r->r<p->(r*b) % p=1->Q (.int r) H'
theorem ok_inv (F:Fun K "inverse" "inverse" Zi8 f fd)(T:Txt K mg C G S):FnOk P w K mg base CX0 1 f fd ["rest","prime"] spInv:=by
 have nd:=Zkf.nd;refine F.ok Zkf (λvs H Q E h=>?_) (λcdv A outer s H vs Q E hr h=>?_)
 .refine Zbs h λb p e94 _=>?_;clear h;obtain rfl:=e94;rfl
 .refine Zlj h λb p e95 hp b0 b1 q=>?_;clear h;obtain rfl:=e95;have p1:=hp.1;have p97:=hp.2.1;refine⟨_,((Zkg (i:=2) (j:=3) rfl nd rfl rfl ⇑0 rfl rfl ((pvr 0)<&>((pvr 1)<&>Zab)) rfl)<*>((Zb4 (@Zam _ _ _ _ _ (Zac<&>(Zac<&>Zab))) (@Zc2 _ _ _ _ _ 2 rfl ((4>>>nd)^^^((5>>>nd)^^^(@Za6 _))) ⇑1 ⇑1))<*>((Zgr Jbr (Zeo Ze1 (pv 2) Zac (Zah _)) ((6|||nd|||((opJ Zk0)<|>(pvr 3)<&&>(pvr 2)))<*>((Zkg (i:=2) (j:=3) rfl nd rfl rfl ⇑0 rfl rfl (((Zkj Zgv)<|>(pvr 3)<&&>((opJ Zbn)<|>(pvr 6)<&&>(pvr 2)))<&>((pvr 2)<&>Zab)) rfl)<*>(@Zau _ _ _ (Zkg (i:=4) (j:=5) rfl nd rfl rfl ⇑0 rfl rfl (((Zkj Zgv)<|>(pvr 5)<&&>((opJ Zbn)<|>(pvr 6)<&&>(pvr 4)))<&>((pvr 4)<&>Zab)) rfl)))))<*>(~~~((opJ Zdd)<|>(pvr 4)<&&>(pvr 1)))))),?_⟩;walk_at "wp";refine Zaq _ _ ⟨⟨rfl,rfl⟩,⇑0,λt ht=>⟨_,SqT.of Zaa,rfl,_,_,rfl,_,_,rfl,rfl,?_⟩⟩;refine⟨λn σ H2=>∃ (lo hi lt ht':Int) (o:Option V),σ=[some (V.int b),some (V.int p),some (V.int lo),some (V.int hi),some (V.int lt),some (V.int ht'),o]/\H2=upd H t (.tup [V.int 1,V.int 0])/\n=lo.toNat/\1<=lo/\lo<hi/\hi<=p/\Int.gcd lo hi=1/\p ∣ lt*b-lo/\p ∣ ht'*b-hi /\
    ∃ u v:Int,0<=u/\0<=v/\lo*v+hi*u=p/\((lt=u/\ht'=-v)\/(lt=-u/\ht'=v)),
   ⟨_,b,p,1,0,none,rfl,rfl,rfl,∅,b1,Jes _,Zqv hp b0 b1,⟨0,∅⟩,⟨-1,∅⟩,1,0,⇑0,⇑0,∅,.inl ⟨rfl,rfl⟩⟩,?_⟩
  intro n σ H2 e91;refine Zhb e91 λlo hi lt ht' o e96 e97 e98 e99=>?_;clear e91;obtain rfl:=e96;obtain rfl:=e97;obtain rfl:=e98;refine xE0_7 e99 λl1 l2 l3 hg d1 d2 e910=>?_;clear e99;obtain⟨u,v,u0,v0,huv,hs⟩:=e910;walk_at "wp";refine Zb5 (λhc=>?_) (λhc=>?_)
  .have hc:=Jaz hc;have hm:hi-hi / lo*lo=hi % lo:=by rw[Int.emod_def,Int.mul_comm lo]
   have m0:0<=hi / lo:=Jd4 (oz83 l2 hc) (Ztz hc);have m1:hi / lo<=hi:=Int.ediv_le_self _ (oz83 l2 hc);have r0:=Jbq hi (show lo≠0 by exact Zvx hc);have r1:=Ja8 hi (show 0<lo by exact Zq5 hc);have hg':Int.gcd (hi % lo) lo=1:=by rw[Jef,Zop,Jef];exact hg
   have r2:1<=hi % lo:=by
    by_cases z:hi % lo=0
    .rw [z,Int.zero_gcd] at hg';exact oz187 hc hg'
    .exact oz148 r0 z
   have u1:=Zom (a:=hi) (oz147 l2 hc) u0;have v1:=Zom (a:=lo) ∅ v0;have um:u<=97:=by exact oz185 p97 v0 huv u1 v1
   have vm:v<=97:=by exact oz143 p97 u0 huv u1 v1
   have e3:(hi-hi / lo*lo)*u+lo*(v+hi / lo*u)=p:=by rw[<- huv];grind
   have mu:0<=hi / lo*u:=Jcz m0 u0;refine⟨_,λ_ _ h=>h,⟨Zq5 hc,oz49 p97 l2 l3⟩,(Zsv (oz10 p97 l3 m0 m1)).ok (Zsv (oz39 p97 l2 l3 hc)) ⇑0,_,_,⟨rfl,rfl⟩,(Zsv (oz10 p97 l3 m0 m1)).ok (Zsv (by rcases hs with ⟨h,_⟩|⟨h,_⟩ <;> omega)) ⇑0,_,_,⟨rfl,rfl⟩,(hi % lo).toNat,oz95 r1 r2,
    hi-hi / lo*lo,lo,ht'-hi / lo*lt,lt,_,rfl,rfl,by rw[hm],by rw[hm];exact r2,by rw[hm];exact r1,oz23 l2 l3,by rw[hm];exact hg',?_,d1,v+hi / lo*u,oz186 v0 mu,u,u0,e3,?_⟩
   .have e:(ht'-hi / lo*lt)*b-(hi-hi / lo*lo)=(ht'*b-hi)-hi / lo*(lt*b-lo):=by grind
    rw[e];exact Int.dvd_sub d2 (Int.dvd_mul_of_dvd_right d1)
   .rcases hs with ⟨h1,h2⟩|⟨h1,h2⟩
    .subst h1 h2;exact .inr ⟨by grind,rfl⟩
    .subst h1 h2;exact .inl ⟨by grind,rfl⟩
  .have hc:¬ 1<lo:=λz=>hc (Jah z);have hl:lo=1:=∅
   subst hl;refine⟨Zq5 p1,q _ _ (Same.new ht) (Jbq _ (Zvx p1)) (Ja8 _ (Zq5 p1)) ?_⟩;rw[inv_end d1,Jcj ⇑0 p1]
def Zms:Sp:=λvs H Q E=>∃ a b p:Int,vs=[.int a,.int b,.int p]/\Zg9 p/\Bt NB a/\b % p≠0/\∀ r H',Same H H'->0<=r->r<p->(r*b-a) % p=0->Q (.int r) H'
theorem Zub (F:Fun K "rest_of" "rest_of" Ziy f fd)(T:Txt K mg C G S)(Yb1:Cal P w K mg base "inverse" 1 spInv):FnOk P w K mg base CX0 2 f fd ["top","bottom","prime"] Zms:=by
 have nd:=Zj5.nd;refine F.ok Zj5 (λvs H Q E h=>?_) (λcdv A outer s H vs Q E hr h=>?_)
 .refine Zhc h λa b p e911 _=>?_;clear h;obtain rfl:=e911;rfl
 .refine Zcx h λa b p e912 hp ha e913=>?_;clear h;obtain rfl:=e912;obtain⟨hb,q⟩:=e913;have p1:=hp.1;have p97:=hp.2.1;have b0:=Jbq b (show p≠0 by exact Zvx p1);have b1:=Ja8 b (show 0<p by exact Zq5 p1);refine⟨_,((3|||nd|||((opJ Zdd)<|>(pvr 1)<&&>(pvr 2)))<*>((@Zay _ _ _ _ _ _ _ _ (Zak (Ze2 Zby) (pvr 3) Zac (Zah _)) (@Zau _ _ _ Zcf) Zaj)<*>(~~~(Zdd<|>(Zbn<|>(pvr 0)<&&>(Yb1<$>hr<$>((pvr 3)<&>((pvr 2)<&>Zab))))<&&>(pvr 2))))),?_⟩;walk_at "wp";have Zcj:∀ {c A B:Prop} [Decidable c],¬ c->B->if c then A else B:=λhc h=>by rw[if_neg hc];exact h
  refine⟨Zq5 p1,Zcj (by rw[Jam hb];decide) ?_⟩;refine Zaq _ p ⟨rfl,hp,∅,b1,λr H' s' r0 r1 hr1=>⟨r,rfl,ha.ok (Zsv (oz228 p97 r0 r1)) ⇑0,Zq5 p1,q _ H' s' (Jbq _ (Zvx p1)) (Ja8 _ (Zq5 p1)) ?_⟩⟩;have k1:p ∣ r*(b % p)-1:=Int.dvd_of_emod_eq_zero (by rw[Int.sub_emod,hr1,Jcj ⇑0 p1];rfl);obtain⟨k,hk⟩:=k1;have e:(a*r % p)*b-a=p*(a*k+a*r*(b / p)-a*r / p*b):=by
   rw[Int.emod_def] at hk ⊢
   grind
  rw[e,Int.mul_emod_right]
structure IsQ (p a b:Int)(x:Int×Int):Prop where
 is:Isn p x
 fd:∀ (F:Type) [Lean.Grind.Field F],FdOk p F->(nm x:F)=ic a / ic b
 bt:∀ n:Nat,7<=n->Bt n a->Bt n b->Bt n x.1/\Bt n x.2
theorem Zuu {a b:Int}(b0:b≠0):IsQ 0 a b (nrS a b):=by
 have key:∀ a b:Int,0<b->IsQ 0 a b (nrm a b):=λa b h=>by
  refine⟨.inl ⟨rfl,?_⟩,λF _ hF=>hF.nrmF rfl h,λn _ ha hb=>?_⟩
  .exact Zrn h
  .have g0:=Zfn (a:=a) h;exact⟨ha.quo (Jb8 ..),hb.quo (Jci ..)⟩
 unfold nrS;by_cases h:b<0
 .rw [if_pos h];obtain⟨h1,h2,h3⟩:=key (-a) (-b) (oz226 h);refine⟨h1,λF _ hF=>?_,λn h7 ha hb=>h3 n h7 ha.neg hb.neg⟩;rw[h2 F hF,Zv6,Zv6];have:(ic b:F)≠0:=hF.ne0 (.inl rfl) b0
  grind
 .rw [if_neg h];exact key a b ∅
theorem Zrz {p a b r:Int}(hp:Zg9 p)(hb:b % p≠0)(r0:0<=r)(r1:r<p)(h:(r*b-a) % p=0):IsQ p a b (r,1):=by
 have p1:=hp.1;have p97:=hp.2.1;refine⟨.inr ⟨Zq5 p1,r0,r1,rfl⟩,λF _ hF=>?_,λn h7 _ _=>⟨Zcv h7 (by show r.natAbs<128;exact oz138 r0 r1 p97),Zcv h7 (by show (1:Int).natAbs<128;decide)⟩⟩;have e1:(ic b:F)≠0:=by
  rw[<- hF.modF (Zvx p1)];exact hF.ne0 (.inr ⟨Jbq _ (Zvx p1),Ja8 _ (Zq5 p1)⟩) hb
 have e2:(ic (r*b-a):F)=0:=by rw[<- hF.modF (Zvx p1),h,Zjo]
 rw[Zv5,Zc5] at e2;rw[hF.one]
 grind
def Zj1 (G:Addr):Sp:=λvs H Q _=>∃ (g:Addr) (p a b:Int),vs=[.ref g,.int a,.int b]/\GAt G H g p/\GroundP p/\Bt NB a/\Bt NB b/\(p=0->b≠0)/\(p≠0->b % p≠0)/\∀ v x H',Same H H'->NumV H' p v x->IsQ p a b x->Q v H'
theorem Zrg {f D:Addr}{fd:FuncData}(F:FunD K "number" "Ground.number" Zaw f fd D)(T:Txt K mg C G S)(Ybh:Cal P w K mg base "fraction" 5 Zmv)(Ybz:Cal P w K mg base "rest_of" 2 Zms):FnOk P w K mg base CX0 6 f fd ["self","top","bottom"] (Zj1 G):=by
 have nd:=Zey.nd;refine F.ok Zey (λvs H Q E h=>?_) (λcdv A outer s H vs Q E hr h=>?_)
 .refine Zli h λg p a b e914 _=>?_;clear h;obtain rfl:=e914;rfl
 .refine Zc6 h λg p a b e915 e916 hp e917=>?_;clear h;obtain rfl:=e915;obtain⟨dx,hg⟩:=e916;refine Zcy e917 λha hb h0 h1 q=>?_;clear e917;refine⟨_,((@Zay _ _ _ _ _ _ _ _ (Zak Zby (Za3 (pvr 0) rfl) Zac (Zah _)) (~~~(Ybh<$>hr<$>((pvr 1)<&>((pvr 2)<&>Zab)))) Zaj)<*>(~~~(Ybz<$>hr<$>((pvr 1)<&>((pvr 2)<&>((Za3 (pvr 0) rfl)<&>Zab)))))),?_⟩;walk_at "wp";refine Zbv G dx _ ⟨hg,T.cl_Ground,T.nP,_,Zcp p,rfl,Zb5 (λhc=>?_) (λhc=>?_)⟩
  .have hp0:p=0:=by simpa using hc
   subst hp0;exact Zaq a b ⟨rfl,ha,hb,h0 rfl,λt H' s' ht=>q _ _ _ s' (NumV.tup rfl ht) (Zuu (h0 rfl))⟩
  .have hp0:¬ p=0:=by simpa using hc
   have hp1:Zg9 p:=hp.resolve_left hp0;exact Zbv G dx _ ⟨hg,T.cl_Ground,T.nP,_,Zcp p,a,b,p,rfl,hp1,ha,h1 hp0,λr H' s' r0 r1 hr=>q _ (r,1) H' s' (NumV.of (x:=(r,1)) hp0) (Zrz hp1 (h1 hp0) r0 r1 hr)⟩
def spCmB:Sp:=λvs H Q _=>∃ a b:Int,vs=[.int a,.int b]/\0<a/\0<b/\Bt NB a/\Bt NB b/\∀ m H',Same H H'->0<m->a ∣ m->b ∣ m->m<=a*b->Q (.int m) H'
theorem ok_cmB (F:Fun K "common_multiple" "common_multiple" Zcm f fd)(T:Txt K mg C G S)(hpt:P.given.tree=none)(Yaj:Cal P w K mg base "common_divisor" 4 Zqg):FnOk P w K mg base CX0 5 f fd ["one","other"] spCmB:=by
 have nd:=Zd5.nd;refine F.ok Zd5 (λvs H Q E h=>?_) (λcdv A outer s H vs Q E hr h=>?_)
 .refine Zbs h λa b e918 _=>?_;clear h;obtain rfl:=e918;rfl
 .refine Zju h λa b e919 ha hb ta tb q=>?_;clear h;obtain rfl:=e919;refine⟨_,(~~~(Zbn<|>((Zep hpt (Zdu hr))<|>(pvr 0)<&&>(Yaj<$>hr<$>((pvr 0)<&>((pvr 1)<&>Zab))))<&&>(pvr 1))),?_⟩;walk_at "wp";have g0:=Zfn (a:=a) hb;have e1:a / (Int.gcd a b:Int)*(Int.gcd a b:Int)=a:=Jdd (Jb8 ..);obtain⟨k,hk⟩:(Int.gcd a b:Int) ∣ b:=Jci ..;have dpos:0<a / (Int.gcd a b:Int):=by
   rcases Int.lt_trichotomy 0 (a / (Int.gcd a b:Int)) with h|h|h
   .exact h
   .rw [<- h,Int.zero_mul] at e1;omega
   .have:=Int.mul_neg_of_neg_of_pos h g0;omega
  have bd:Bt NB (a / (Int.gcd a b:Int)):=ta.quo (Jb8 ..);have dle:(a / (Int.gcd a b:Int)).natAbs<=a.natAbs:=Zf1 a g0 (Jb8 ..);refine Zaq a b ⟨rfl,ta,tb,λH' s'=>⟨_,rfl,∅,?_⟩⟩;rw[Zg2 g0];refine⟨bd.ok tb ⇑0,q _ _ s' (Jde dpos hb) ⟨k,?_⟩ ⟨_,Int.mul_comm ..⟩ (Jcx (oz134 ha dle) (oz70 hb))⟩;generalize (Int.gcd a b:Int)=g at *;generalize a / g=d at *;rw[hk,<- e1,Int.mul_assoc]
abbrev HB:Nat:=33500000
def RowZ (H:Hp)(a:Addr)(zs:List Int):Prop:=H a=some (.lst (zs.map V.int))
theorem RowZ.put {H:Hp}{D:Addr}{o:HO}{a:Addr}{zs:List Int}(h:RowZ H a zs)(n:a≠D):RowZ (upd H D o) a zs:=by unfold RowZ;rw[Zal n];exact h
theorem Zsg {a b D:Addr}{xs ys:List V}{fr:List (Str×Nat)}{σ:L2.St}{te:TE}{H1:Hp}{Q:VK}(R:Nat->Hp->V->Prop)(hS:∀ {i H H' y},R i H y->Same H H'->R i H' y)(hP:∀ {i H y l o},R i H y->H D=some (.lst l)->R i (upd H D o) y)(ha:H1 a=some (.lst xs))(hb:H1 b=some (.lst ys))(hlen:ys.length=xs.length)(hD:H1 D=none)(hn:xs.length<=1000)(h:∀ (i:Nat) x y H (Q:VK),xs[i]?=some x->ys[i]?=some y->Same H1 H->(∃ l,H D=some (.lst l))->(∀ u H',Same H H'->R i H' u->Q u H')->te (some x::some y::Zbq fr σ) H Q)(hQ:∀ zs H',Same H1 H'->H' D=some (.lst zs)->zs.length=xs.length->(∀ (i:Nat) y,zs[i]?=some y->R i H' y)->Q (.ref D) H'):Zbw (Zv7 K 2 (Zjz (Zbp 0) (Zjz (Zbp 1) gNil))) Ze0 te (Itz K a b) D (Zha 2 fr σ) H1 Q:=by
 refine Zg4 (xs:=xs) (ys:=ys) (λi vs H=>Same H1 H/\H D=some (.lst vs)/\vs.length=i/\∀ (j:Nat) y,vs[j]?=some y->R j H y) hlen ⟨Same.new hD,Zaa,rfl,λj y e=>by simp at e⟩ (λi vs H _ p=>⟨SqL.of (p.1 _ _ ha),SqL.of (p.1 _ _ hb)⟩) ?_ (λvs H ⟨s,e,hl,hr⟩=>hQ vs H s e hl hr);intro i x y p vs σ' H hi hx hy hp sh e91;refine Zck e91 λs e hl hr=>?_;clear e91;refine Zfq sh.two λz1 z2 e94=>?_;obtain rfl:=e94;have s0:=Same.new (o:=.tup [x,y]) hp;refine Zaq p _ ⟨rfl,SqT.of Zaa,rfl,_,_,rfl,_,_,rfl,rfl,?_⟩;simp only[Ze0,List.set_cons_zero,List.set_cons_succ,Jb9];refine h i x y _ _ hx hy (s.trans s0) ⟨_,s0 _ _ e⟩ λu H' s' ru=>?_;have s1:=s0.trans s';refine Zk3 (ws:=vs++[u]) hi Sh.mk2 (s1 _ _ e) (Zan (oz81 hn hi hl)) ⟨(s.trans s1).upd hD,Zaa,by rw[Jai,hl];rfl,λj v hv=>?_⟩;by_cases hj:j<vs.length
 .rw [Jar hj] at hv;exact hP (hS (hr j v hv) s1) (s1 _ _ e)
 .rw [Jas (Zpp hj)] at hv;have hj0:j-vs.length=0:=by
   by_cases z:j-vs.length=0
   .exact z
   .rw [Jap (by simp;exact oz4 z)] at hv;cases hv
  rw[hj0] at hv;cases hv;rw[show j=i by exact oz2 hl hj hj0];exact hP ru (s1 _ _ e)
theorem Ztp {H:Hp}{p:Int}{vs:List V}{xs:List Nv}(hp:p≠0)(h:All2 (NumV H p) vs xs):vs=(xs.map λx=>x.1).map V.int:=by
 apply Jcw;intro i;have hl:=h.1;by_cases hi:i<vs.length
 .have e2:xs[i]?=some (xs[i]'(by omega)):=Jaa _;have:=(h.2 i _ _ (Jaa hi) e2).int hp;rw[Jaa hi,this,Jad,Jad,e2];rfl
 .rw [Jap (Zpp hi),Jap (by simp;omega)]
structure WRz (p:Int)(xs:List Nv)(zs:List Int)(b:Int):Prop where
 len:zs.length=xs.length
 pos:0<b
 one:p≠0->b=1
 eq:∀ i,zs.getD i 0*(xs.getD i (0,1)).2=(xs.getD i (0,1)).1*b
def GoodB (p:Int)(k:Nat)(xs:List Nv):Prop:=∀ x∈xs,Isn p x/\Bt k x.1/\Bt k x.2
def spWrZ (G:Addr):Sp:=λvs H Q _=>∃ (g a:Addr) (p:Int) (xs:List Nv) (k:Nat),vs=[.ref g,.ref a]/\GAt G H g p/\GroundP p/\RowV H p a xs/\xs.length<=900/\GoodB p k xs/\1<=k/\(xs.length+1)*k<=NB /\
 ∀ (t l:Addr) (zs:List Int) (b:Int) H',Same H H'->H l=none->H' t=some (.tup [.ref l,.int b])->RowZ H' l zs->WRz p xs zs b->SmallR ((xs.length+1)*k) zs->Bt ((xs.length+1)*k) b->Q (.ref t) H'
theorem ok_wrZ (F:Fun K "whole_row" "whole_row" Zf5 f fd)(T:Txt K mg C G S)(hpt:P.given.tree=none)(Yba:Cal P w K mg base "common_multiple" 5 spCmB):FnOk P w K mg base CX0 6 f fd ["ground","row"] (spWrZ G):=by
 have nd:=Zhu.nd;refine F.ok Zhu (λvs H Q E h=>?_) (λcdv A outer s H vs Q E hr h=>?_)
 .refine Zpu h λg a p xs k e95 _=>?_;clear h;obtain rfl:=e95;rfl
 .refine Zhb h λg a p xs k e96 e97 hp e98=>?_;clear h;obtain rfl:=e96;obtain⟨dx,hg⟩:=e97;refine Zih e98 λe99 xl gd k1 kb q=>?_;clear e98;obtain⟨vs,hv,al⟩:=e99;have vl:=al.1;refine⟨_,((@Zay _ _ _ _ _ _ _ _ (Zak Zft (Za3 (pvr 0) rfl) Zac (Zah _)) (~~~(@Zam _ _ _ _ _ ((Zhn Zbk rfl T.n_list Jcg ((pvr 1)<&>Zab))<&>(Zac<&>Zab)))) Zaj)<*>((Zap (i:=2) nd rfl (Or.inr rfl) Zac)<*>((Zgs Jbr rfl (Zbd (pv 1)) (3>>>nd) (@Zau _ _ _ (Zap (i:=2) nd rfl (Or.inr rfl) (Yba<$>hr<$>((pvr 2)<&>(((Zho Za2)<|>(pvr 3)<||>Zac)<&>Zab))))))<*>(~~~(@Zam _ _ _ _ _ ((Za0 (own:=["number"]) (fr:=[("bottom",2)]) rfl (Zbi (by kernel_rfl)) (Zbd (pv 1)) (λ_ _ _ _=>⟨(0<<<["number","bottom"]),Zat,(Zbn<|>((Zru K rfl)<|>(pv 0)<||>Zac)<&&>((Zep hpt (Zdu hr))<|>(pv 1)<&&>((Zru K rfl)<|>(pv 0)<||>Zac)))⟩))<&>((pvr 2)<&>Zab))))))),?_⟩;walk_at "wp";refine Zbv G dx _ ⟨hg,T.cl_Ground,T.nP,_,Zcp p,rfl,Zb5 (λhc=>?_) (λhc=>?_)⟩
  .have hp0:¬ p=0:=by simpa using hc
   refine⟨_,.inl (SqL.of hv),λl hl=>⟨⇑0,λt ht=>?_⟩⟩;have s1:=Same.new (o:=.lst vs) hl;have s2:=Same.new (o:=.tup [V.ref l,V.int 1]) ht;have ev:=Ztp hp0 al;refine q t l (xs.map λx=>x.1) 1 _ (s1.trans s2) hl Zaa (by show upd (upd H l (.lst vs)) t _ l=_;rw[s2 _ _ Zaa,ev]) ⟨by rw[Jab],⇑0,λ_=>rfl,λi=>?_⟩ (λz hz=>?_) (by
    show (1:Int).natAbs<2 ^ _;exact Nat.one_lt_two_pow (by rw[Jcy];omega))
   .rw [Jae,Jae,Jad];cases e:xs[i]? with
    | none=>rfl
    | some x=>
     rcases (gd _ (Jac e)).1 with ⟨h,_⟩|⟨_,_,_,h⟩
     .exact absurd h hp0
     .show x.1*x.2=x.1*1;rw[h]
   .refine Zae (Ja2.mp hz) λx hx e910=>?_;obtain rfl:=e910;refine (gd x hx).2.1.le ?_;rw[Jcy];omega
  .have hp0:p=0:=by simpa using hc
   refine⟨_,rfl,a,rfl,⟨_,SqL.of hv⟩,Zlb (xs:=vs) (λi σ H2=>∃ (v3:Option V) (b:Int),σ=[some (.ref g),some (.ref a),some (.int b),v3]/\Same H H2/\0<b/\b.natAbs<=2 ^ (i*k)/\∀ j,j<i->(xs.getD j (0,1)).2 ∣ b)
    ⟨none,1,rfl,Same.refl _,⇑0,by simp,λj hj=>∅⟩ (λi σ H2 _ ⟨_,_,_,e,_⟩=>SqL.of (e _ _ hv)) ?_ ?_⟩
   .intro i x σ H2 hi e92;refine Zlj e92 λv3 b e911 s2 b0 bB dv=>?_;clear e92;obtain rfl:=e911;refine Zae (al.at' hi) λy ey hy=>?_;refine Zae (hy.ref hp0) λty e912 hty=>?_;obtain rfl:=e912;refine Zba (gd y (Jac ey)) λiy by1 by2=>?_;have hil:i<vs.length:=(Jaf.mp hi).1;have kik:i*k+k<=(xs.length+1)*k:=by
     rw[show i*k+k=(i+1)*k by rw[Jcy,Jet]];exact Jdr ∅ (Jaj _)
    have bT:Bt NB b:=Jbf bB (Jda ⇑0 (oz227 k1 kb kik));have yT:Bt NB y.2:=by2.le (oz190 kb kik);walk_at "wp";refine⟨_,SqT.of (s2 _ _ hty),_,rfl,b,y.2,rfl,b0,iy.pos,bT,yT,λm H3 s3 m0 d1 d2 ml=>⟨_,m,⟨rfl,rfl⟩,s2.trans s3,m0,?_,λj hj=>?_⟩⟩
    .have h1:(b*y.2).natAbs<=2 ^ (i*k)*2 ^ k:=Zb1 bB (Jbd by2);rw[Jcy,Jet,Nat.pow_add];exact oz48 m0 ml h1
    .by_cases h:j=i
     .subst h;rw[Zbf ey];exact d2
     .exact Int.dvd_trans (dv j (oz18 hj h)) d1
   .intro σ H2 e93;refine Zlj e93 λv3 b e913 s2 b0 bB dv=>?_;clear e93;obtain rfl:=e913;rw[vl] at bB dv;walk_at "wp";refine⟨_,rfl,a,rfl,⟨_,SqL.of (s2 _ _ hv)⟩,λD hD=>Zsi (λi=>(xs.getD i (0,1)).1*(b / (xs.getD i (0,1)).2)) (s2 _ _ hv) hD ∅ (λi x H' Q' hx s' q'=>?_) λH1 s1 e1=>?_⟩
    .refine Zae (al.at' hx) λy ey hy=>?_;refine Zae (hy.ref hp0) λty e914 hty=>?_;obtain rfl:=e914;refine Zba (gd y (Jac ey)) λiy by1 by2=>?_;have hil:i<vs.length:=(Jaf.mp hx).1;have d2:=dv i (oz3 vl hil);have q2:=q' H' (Same.refl _);rw[Zbf ey] at d2 q2;have hty':=(s2.trans s') _ _ hty;have bT:Bt NB b:=Jbf bB (Jda ⇑0 (by rw[Jcy] at kb;omega));have fe:=Zg2 (i:=b) iy.pos;refine⟨_,rfl,ty,_,_,_,rfl,rfl,SqT.of hty',rfl,_,rfl,_,rfl,ty,_,_,_,rfl,rfl,SqT.of hty',rfl,_,_,rfl,rfl,(by have:=iy.pos;omega),_,_,rfl,rfl,?_,?_⟩
     .rw [fe];exact (by1.le (m:=NB) (by rw[Jcy] at kb;omega)).ok (bT.quo d2) ⇑0
     .rw [fe];exact q2
    .rw [vl] at e1;refine⟨⇑0,λt ht=>?_⟩;have s3:=Same.new (o:=.tup [V.ref D,V.int b]) ht;refine q t D ((List.range xs.length).map λi=>(xs.getD i (0,1)).1*(b / (xs.getD i (0,1)).2)) b _ ((s2.trans s1).trans s3) (s2.free hD) Zaa (s3 _ _ e1) ⟨by rw[Jab,Jax],b0,λh=>absurd hp0 h,λi=>?_⟩ (λz hz=>?_) (Jbf bB (Jda ⇑0 (by rw[Jcy];omega)))
     .rw [Jae,Jad];by_cases hi:i<xs.length
      .have e:xs[i]?=some xs[i]:=Jaa hi;have d2:=dv i hi;rw[Jbc hi];show (xs.getD i (0,1)).1*(b / (xs.getD i (0,1)).2)*(xs.getD i (0,1)).2=_;rw[Int.mul_assoc,Jdd d2]
      .rw [Jap (by simp;exact Zpp hi),Jae,Jap (Zpp hi)];simp
     .refine Zae (Ja2.mp hz) λi hi e915=>?_;obtain rfl:=e915;have hi:=Ja6.mp hi;have e:xs[i]?=some xs[i]:=Jaa hi;have d2:=dv i hi;rw[Zbf e] at d2 ⊢;refine Zba (gd _ (Jat hi)) λiy by1 by2=>?_;have h1:(b / xs[i].2).natAbs<=b.natAbs:=Zf1 b iy.pos d2;have h2:=Zb1 (Jaj xs[i].1.natAbs) (Jbh h1 bB);show (xs[i].1*(b / xs[i].2)).natAbs<2 ^ ((xs.length+1)*k);rw[Jcy,Jet,Nat.pow_add,Nat.mul_comm];exact Jbf h2 (Nat.mul_lt_mul_of_pos_right by1 (Nat.two_pow_pos _))
theorem Zjj {zs:List Int}{i:Nat}{x:V}(h:(zs.map V.int)[i]?=some x):∃ z,zs[i]?=some z/\x=.int z:=by
 rw[Jad] at h;cases e:zs[i]? with
 | none=>rw[e] at h;cases h
 | some z=>rw[e] at h;cases h;exact⟨z,rfl,rfl⟩
end
end Pf
namespace Pf
open PySem L2 L3 PyProof.Rows
section
variable {G PL cL:Addr}
theorem inv_tab:((List.range 98).all λp=>decide (p<2) || (List.range p).any (λd=>decide (2<=d) && p % d == 0) || (List.range p).all λr=>r == 0 || (List.range p).any λk=>k*r % p == 1)=true:=⋯
theorem inv_ex {p b:Int}(hp:Zg9 p)(hb:b % p≠0):∃ k:Nat,1<=k/\(k:Int)<p/\(k:Int)*b % p=1:=by
 refine Zba hp λp1 p97 hd=>?_;clear hp;have h:=Jbg.mp inv_tab p.toNat (Ja6.mpr ∅);have ep:((p.toNat:Nat):Int)=p:=Jbj (Ztz p1);rw[Jdi,Jdi] at h;rcases h with (h|h)|h
 .have:=Jaz h;omega
 .refine Zae (List.any_eq_true.mp h) λd d1 d2=>?_;have d1:=Ja6.mp d1;rw[Jbm] at d2;have d3:=Jaz d2.1;have d4:p.toNat % d=0:=by simpa using d2.2
  refine absurd ?_ (hd d ∅ (oz178 d1));rw[<- ep,<- Int.natCast_emod,d4];rfl
 .have b0:0<=b % p:=Jbq _ (Zvx p1);have b1:b % p<p:=Ja8 _ (Zq5 p1);have h:=Jbg.mp h (b % p).toNat (Ja6.mpr (oz207 p1 b1));rw[Jdi] at h;rcases h with h|h
  .have:(b % p).toNat=0:=by simpa using h
   omega
  .refine Zae (List.any_eq_true.mp h) λk k1 k2=>?_;have k1:=Ja6.mp k1;have k2:k*(b % p).toNat % p.toNat=1:=by simpa using k2
   have k3:(k:Int)*(b % p) % p=1:=by
    have e:(((b % p).toNat:Nat):Int)=b % p:=Jbj b0;have:((k*(b % p).toNat % p.toNat:Nat):Int)=1:=by rw[k2];rfl
    rw[Int.natCast_emod,Int.natCast_mul,e,ep] at this;exact this
   refine⟨k,?_,oz178 k1,by rw[emulR] at k3;exact k3⟩;rcases Nat.eq_zero_or_pos k with rfl|h
   .simp at k2
   .exact h
theorem Zqw {p:Int}(hp:Zg9 p):PrimeN p.toNat:=by
 have p1:=hp.1;have ep:((p.toNat:Nat):Int)=p:=Jbj (Ztz p1);refine⟨∅,λr r0 r1=>?_⟩;obtain⟨k,k1,kp,kr⟩:=inv_ex (b:=(r:Int)) hp (by rw[Jcj Zq6 (oz178 r1)];omega);refine⟨k,∅,?_⟩;rw[<- ep,<- Int.natCast_mul,<- Int.natCast_emod] at kr;omega
theorem Zpk {p:Int}(hp:GroundP p):∃ (F:Type) (_:Lean.Grind.Field F),FdOk p F:=by
 rcases hp with rfl|hp
 .exact ⟨Rat,inferInstance,fd_zero⟩
 .have:PrimeN p.toNat:=Zqw hp;have h:=Zu2 (n:=p.toNat);rw[Jbj (by have:=hp.1;exact Ztz this)] at h;exact⟨Zp p.toNat,inferInstance,h⟩
theorem Zrb {p:Int}(hp:GroundP p)(h:p≠0):(1:Int) % p≠0:=by
 rcases hp with h'|h'
 .exact absurd h' h
 .rw [Jcj ⇑0 h'.1];decide
theorem Zr0 {p k:Int}{x:Int×Int}(hp:GroundP p)(h:IsQ p k 1 x):x=Zk9 p k:=by
 obtain⟨F,_,hF⟩:=Zpk hp;refine hF.inj h.is (Zhp hp.lo) ?_;rw[h.fd F hF,hF.intF,Zg0];have:=fone (F:=F)
 grind
theorem Zk8 {p:Int}(hp:GroundP p):Zk9 p 1=(1,1):=by
 unfold Zk9;split
 .rfl
 .rw [Jcj ⇑0];rcases hp with h|⟨h,_⟩ <;> omega
theorem Zdy (p:Int):(Zng p).lookup ("number" : Str)=none:=Zoo _ ⋯
theorem Zto {H:Hp}{p:Int}{rs:List Addr}{M:Mv}{k:Nat}{a:Addr}{us:List V}{o:HO}{row:List Nv}(h:All2 (RowV H p) rs M)(nds:rs.Nodup)(e:rs[k]?=some a)(ha:H a=some (.lst us))(hr:RowV (upd H a o) p a row):All2 (RowV (upd H a o) p) rs (M.set k row):=by
 have hk:k<rs.length:=(Jaf.mp e).1;have ek:rs[k]=a:=(Jaf.mp e).2;refine⟨by rw[Jcc];exact h.1,λj c y f1 f2=>?_⟩;rw[Jc7] at f2;by_cases hjk:k=j
 .subst hjk;rw[e] at f1;cases f1;rw[if_pos rfl] at f2;split at f2
  .cases f2;exact hr
  .cases f2
 .rw [if_neg hjk] at f2;refine (h.2 j c y f1 f2).put ha λz=>hjk ?_;have hj:j<rs.length:=(Jaf.mp f1).1;have e':rs[j]=rs[k]:=by rw[ek,<- z];exact (Jaf.mp f1).2
  rcases Nat.lt_trichotomy k j with h|h|h
  .exact absurd e'.symm (List.pairwise_iff_getElem.mp nds k j hk hj h)
  .exact h
  .exact absurd e' (List.pairwise_iff_getElem.mp nds j k hj hk h)
theorem Zm8 {lo:Int}{n:Nat}{D:Addr}{fr:List (Str×Nat)}{σ:L2.St}{te:TE}{H1:Hp}{Q:VK}{p:Int}(M:Nat->List Nv)(hD:H1 D=none)(hn:n<=1000)(h:∀ (i:Nat) H (Q:VK),i<n->Same H1 H->(∀ a H',H a=none->Same H H'->RowV H' p a (M i)->Q (.ref a) H')->te (some (.int (lo+(i:Nat)))::Zbq fr σ) H Q)(hQ:∀ (rs:List Addr) H',Same H1 H'->H' D=some (.lst (rs.map V.ref))->All2 (RowV H' p) rs ((List.range n).map M)->D∉rs->rs.Nodup->(∀ a∈rs,H1 a=none)->Q (.ref D) H'):Zbw (Zbp 0) Ze0 te (Itr lo n) D (Zha 1 fr σ) H1 Q:=by
 refine Zie (n:=n) (λi vs H=>∃ rs:List Addr,vs=rs.map V.ref/\Same H1 H/\H D=some (.lst (rs.map V.ref))/\All2 (RowV H p) rs ((List.range i).map M)/\D∉rs/\rs.Nodup/\∀ a∈rs,H1 a=none) ⟨[],rfl,Same.new hD,Zaa,All2.nil,by simp,by simp,by simp⟩ ?_ (λvs H ⟨rs,e,a,b,c,d,f,g⟩=>hQ rs H a b c d f g);intro i x vs σ' H hi e91;obtain rfl:=e91;intro sh e92;refine Zs7 e92 λrs e95 s e al nD e96=>?_;clear e92;obtain rfl:=e95;obtain⟨nd,fr⟩:=e96;obtain⟨z,rfl⟩:=sh.one;simp only[Zfr,Zbp,Ze0,List.set_cons_zero,Jb9];refine h i H _ hi s λa H' ha s' rv=>?_;have nDa:D≠a:=Zai e ha;have na:a∉rs:=λz=>by
  obtain⟨j,hj,ej⟩:=Ja4.mp z;refine Zae (al.at' (Jaa hj)) λ_ _ e97=>?_;obtain⟨us,hu,_⟩:=e97;rw[ej,ha] at hu;cases hu
 have l1:=al.1;rw[Jab,Jax] at l1;refine Zk3 (ws:=rs.map V.ref++[.ref a]) hi Sh.mk1 (s' _ _ e) (Zan (by rw[Jab];exact oz81 hn hi l1)) ⟨rs++[a],Zbe _ _,(s.trans s').upd hD,by rw[Zaa,Zbe],?_,λz=>?_,?_,λb hb=>?_⟩
 .rw [Jcv,Ja7];exact (al.monoM λc x hc k=>(k.same s').put (s' _ _ e) (λz=>nD (z ▸ hc))).app (All2.one (rv.put (s' _ _ e) nDa.symm))
 .rcases Ja1.mp z with h|h
  .exact nD h
  .exact nDa (Jao.mp h)
 .rw [Jel];exact⟨nd,by simp,λx hx y hy e=>na (by rw[<- Jao.mp hy,<- e];exact hx)⟩
 .rcases Ja1.mp hb with h|h
  .exact fr b h
  .rw [Jao.mp h];exact s.free ha
theorem ixN_of {n:Nat}{k:Int}(h0:0<=k)(h1:k.toNat<n):ixN n k=some k.toNat:=by
 unfold ixN;simp[h0];omega
theorem Zgz (p:Int):Zk9 p 0=(0,1):=by
 unfold Zk9;split
 .rfl
 .rw [Int.zero_emod]
theorem rep1 (n:Nat)(v:V):(List.replicate n [v]).flatten=List.replicate n v:=by
 induction n with
 | zero=>rfl
 | succ n ih=>rw[Jb3,Jcu,ih,Jb3];rfl
theorem small24 {n:Nat}(h:n<=24):n<=sizeLine:=Jbd (Zan ∅)
abbrev zR (n:Nat):List Nv:=List.replicate n (0,1)
abbrev zM (h n:Nat):Mv:=(List.range h).map λ_=>zR n
def spNou (G:Addr):L2.Sp:=λvs H Q _=>∃ (g:Addr) (p hh wd:Int),vs=[.ref g,.int hh,.int wd]/\GAt G H g p/\GroundP p/\0<=hh/\hh<=24/\0<=wd/\wd<=24 /\
 ∀ (t r:Addr) (rs:List Addr) H',Same H H'->New H t r rs->rs.Nodup->TabV H' p hh wd t r rs (zM hh.toNat wd.toNat)->Q (.ref t) H'
theorem ok_nou (F:Fun K "noughts" "noughts" Zi0 f fd)(T:Txt K mg C G S)(Yak:CalD P w K mg base G "number" 6 (Zj1 G) [.int 1]):FnOk P w K mg base CX0 7 f fd ["ground","high","wide"] (spNou G):=by
 have nd:=Zj7.nd;refine F.ok Zj7 (λvs H Q E h=>?_) (λcdv A outer s H vs Q E hr h=>?_)
 .refine Zli h λg p hh wd e98 _=>?_;clear h;obtain rfl:=e98;rfl
 .refine Zc6 h λg p hh wd e99 e910 hp e911=>?_;clear h;obtain rfl:=e99;obtain⟨dg,hg0⟩:=e910;refine Zcy e911 λh0 h24 w0 w24 q=>?_;clear e911;refine⟨_,(~~~(@Zam _ _ _ _ _ ((pvr 1)<&>((pvr 2)<&>((Za0 (own:=["row"]) (fr:=[("ground",0),("wide",2)]) rfl (Zbi (by kernel_rfl)) (Zge rfl T.n_range ((pv 1)<&>Zab)) (λ_ _ _ _=>⟨(0<<<["row","ground","wide"]),Zat,(Zlz<|>(@Zar _ _ _ _ ((Zm1 T.cl_Ground Yak hr.m (pv 1) (Zac<&>Zab))<&>Zab))<&&>(pv 2))⟩))<&>Zab))))),?_⟩;walk_at "wp";refine⟨_,rfl,hh,rfl,Zm4 h0,Zo9 h24,λD hD=>Zm8 (p:=p) (λ_=>zR wd.toNat) hD (oz132 h24) (λi H' Q' hi s' q'=>?_) λrs H3 s3 hD3 al3 nD nds fr=>?_⟩
  .have wsz:1*wd.toNat<=sizeLine:=small24 ∅;refine⟨_,rfl,g,dg,_,rfl,s' _ _ hg0,Zdy p,g,p,0,1,rfl,⟨dg,s' _ _ hg0⟩,hp,Zcv ⇑0 ⇑0,Zcv ⇑0 ⇑0,λ_=>⇑0,Zrb hp,λnv nx H2 s2 hnv iq=>⟨by show 1<=sizeLine;decide,λo1 ho1=>?_⟩⟩;rw[Zr0 hp iq,Zgz] at hnv;have s5:=Same.new (o:=.lst [nv]) ho1;refine⟨_,rfl,o1,_,_,rfl,rfl,Zaa,∅,∅,wsz,λo2 ho2=>?_⟩;rw[rep1];have s6:=Same.new (o:=.lst (List.replicate wd.toNat nv)) ho2;have t6:=s5.trans s6;exact q' o2 _ ((s2.trans s5).free ho2) (s2.trans t6) ⟨_,Zaa,All2.rep (hnv.same t6) _⟩
  .refine ⟨⇑0,λt ht=>?_⟩;have s5:=Same.new (o:=.tup [V.int hh,V.int wd,V.ref D]) ht;exact q t D rs _ (s3.trans s5) ⟨s3.free ht,hD,fr⟩ nds ⟨Zaa,s5 _ _ hD3,al3.mono λ_ _ q=>q.same s5,nD⟩
abbrev eR (n i:Nat):List Nv:=(zR n).set i (1,1)
def Zs2 (n k:Nat):Mv:=(List.range n).map λi=>if i<k then eR n i else zR n
abbrev Zei (n:Nat):Mv:=(List.range n).map λi=>eR n i
theorem Zum (n:Nat):Zs2 n n=Zei n:=by
 unfold Zs2;refine Jd8 λj hj=>?_;rw[if_pos (Ja6.mp hj)]
theorem Zrp (n:Nat):Zs2 n 0=zM n n:=by
 unfold Zs2;refine Jd8 λj hj=>?_;rw[if_neg ∅]
theorem Zul (n k:Nat):(Zs2 n k).set k (eR n k)=Zs2 n (k+1):=by
 unfold Zs2;apply Jcw;intro j;rw[Jc7];by_cases hij:k=j
 .subst hij;rw[if_pos rfl];by_cases hn:k<n
  .rw [if_pos (by simpa using hn),Jad,Jbc hn];simp
  .rw [if_neg (by simpa using hn),Jad,Jap (by simpa using hn)];rfl
 .rw [if_neg hij,Jad,Jad];by_cases hn:j<n
  .rw [Jbc hn];show some (if j<k then eR n j else zR n)=some (if j<k+1 then eR n j else zR n);by_cases h1:j<k
   .rw [if_pos h1,if_pos (Zvw h1)]
   .rw [if_neg h1,if_neg (oz116 hij h1)]
  .rw [Jap (by simpa using hn)];rfl
def spPl (G:Addr):L2.Sp:=λvs H Q _=>∃ (g:Addr) (p n:Int),vs=[.ref g,.int n]/\GAt G H g p/\GroundP p/\0<=n/\n<=24 /\
 ∀ (t r:Addr) (rs:List Addr) H',Same H H'->New H t r rs->TabV H' p n n t r rs (Zei n.toNat)->Q (.ref t) H'
theorem ok_pl (F:Fun K "plain" "plain" Zmy f fd)(T:Txt K mg C G S)(Ybw:Cal P w K mg base "noughts" 7 (spNou G))(Yak:CalD P w K mg base G "number" 6 (Zj1 G) [.int 1]):FnOk P w K mg base CX0 8 f fd ["ground","many"] (spPl G):=by
 have nd:=Zn9.nd;refine F.ok Zn9 (λvs H Q E h=>?_) (λcdv A outer s H vs Q E hr h=>?_)
 .refine Zhc h λg p n e912 _=>?_;clear h;obtain rfl:=e912;rfl
 .refine Zcx h λg p n e913 hg hp e914=>?_;clear h;obtain rfl:=e913;refine Zba e914 λn0 n24 q=>?_;clear e914;refine⟨_,((Zb4 (Ybw<$>hr<$>((pvr 0)<&>((pvr 1)<&>((pvr 1)<&>Zab)))) (@Zc2 _ _ _ _ _ 3 rfl ((2>>>nd)^^^((3>>>nd)^^^((4>>>nd)^^^(@Za6 _)))) ⇑1 ⇑1))<*>((Zgs Jbr rfl (Zge rfl T.n_range ((pv 1)<&>Zab)) (5>>>nd) (@Zau _ _ _ (Zb4 (Zm1 T.cl_Ground Yak hr.m (pvr 0) (Zac<&>Zab)) (Zkh ((ixJ Za7)<|>(pvr 4)<||>(pvr 5)) (pvr 5) Zfh))))<*>(~~~(@Zam _ _ _ _ _ ((pvr 2)<&>((pvr 3)<&>((pvr 4)<&>Zab))))))),?_⟩;walk_at "wp";refine Zkq g p n n ⟨rfl,hg,hp,n0,n24,n0,n24,λt r rs H1 s1 nw nds tb=>?_⟩;refine⟨t,rfl,_,SqT.of tb.tup,rfl,_,_,rfl,_,_,rfl,_,_,rfl,rfl,?_⟩;have rl:=tb.row.1;rw[Jab,Jax] at rl;refine⟨_,rfl,n,rfl,Zm4 n0,Zo9 n24,Zeg (λi σ H3=>∃ v5:Option V,σ=[some (.ref g),some (.int n),some (.int n),some (.int n),some (.ref r),v5]/\Same H H3/\H3 r=some (.lst (rs.map V.ref))/\All2 (RowV H3 p) rs (Zs2 n.toNat i)) ⟨none,rfl,s1,tb.lst,by rw[Zrp];exact tb.row⟩ ?_ ?_⟩
  .intro i σ H3 hi e93;refine Zpv e93 λv5 e915 s3 h3 a3=>?_;clear e93;obtain rfl:=e915;walk_at "wp";obtain⟨dg,hg0⟩:=hg.same s3;refine Zaq dg _ ⟨hg0,Zdy p,g,p,1,1,rfl,⟨dg,hg0⟩,hp,Zcv ⇑0 ⇑0,Zcv ⇑0 ⇑0,λ_=>⇑0,Zrb hp,λnv nx H4 s4 hnv iq=>?_⟩;rw[Zr0 hp iq,Zk8 hp] at hnv;have hirs:i<rs.length:=∅
   have e1:rs[i]?=some rs[i]:=Jaa hirs;have a4:All2 (RowV H4 p) rs (Zs2 n.toNat i):=a3.mono λ_ _ k=>k.same s4;refine Zae (a4.at' e1) λrow er e916=>?_;obtain⟨us,hu1,hu2⟩:=e916;have erow:row=zR n.toNat:=by
    unfold Zs2 at er;rw[Jad,Jbc hi] at er;have:(if i<i then eR n.toNat i else zR n.toNat)=row:=by simpa using er
    rw[<- this,if_neg ∅]
   subst erow;have ul:=hu2.1;rw[Jav] at ul;have nri:r≠rs[i]:=λz=>tb.nin (by rw[z];exact Jat hirs);refine⟨_,SqL.of (s4 _ _ h3),_,Zde Zt1 (by rw[show ((0:Int)+(i:Int)).toNat=i by exact oz15,Jad,e1];rfl),_,rfl,us,hu1,i,?_,(s3.trans s4).upd (nw.rs _ (Jat hirs)),by rw[Zal nri];exact s4 _ _ h3,?_⟩
   .rw [ixN_of Zt1 (oz141 hi ul)];congr 1;exact oz15
   .rw [<- Zul];refine Zto a4 nds e1 hu1 ⟨_,Zaa,?_⟩;exact (hu2.mono λ_ _ q=>q.put hu1).set _ (hnv.put hu1)
  .intro σ H3 e94;refine Zpv e94 λv5 e917 s3 h3 a3=>?_;clear e94;obtain rfl:=e917;walk_at "wp";rw[Zum] at a3;refine⟨⇑0,λt' ht'=>?_⟩;have s5:=Same.new (o:=.tup [V.int n,V.int n,V.ref r]) ht';exact q t' r rs _ (s3.trans s5) ⟨s3.free ht',nw.r,nw.rs⟩ ⟨Zaa,s5 _ _ h3,a3.mono λ_ _ q=>q.same s5,tb.nin⟩
end
end Pf
namespace Pf
open PySem L2 L3 PyProof.Rows
section
variable {p:Int}{F:Type}[Lean.Grind.Field F]
def vN (xs:List Nv):Nat->F:=λj=>nm (xs.getD j (0,1))
theorem nm_zero:(nm ((0,1):Nv):F)=0:=by
 unfold nm;rw[Zjo,Zg0];have:=fone (F:=F)
 grind
theorem vN_in {xs:List Nv}{j:Nat}{x:Nv}(h:xs[j]?=some x):(vN xs j:F)=nm x:=by
 unfold vN;rw[Jae,h];rfl
theorem wr_eq (hF:FdOk p F){xs:List Nv}{zs:List Int}{b:Int}(h:WRz p xs zs b)(hx:∀ x∈xs,Isn p x)(j:Nat):(vz zs j:F)=ic b*vN xs j:=by
 have e:=h.eq j;have e2:(ic (zs.getD j 0):F)*ic (xs.getD j (0,1)).2=ic (xs.getD j (0,1)).1*ic b:=by rw[<- Zc5,<- Zc5,e]
 have b2:(ic (xs.getD j (0,1)).2:F)≠0:=by
  by_cases hj:j<xs.length
  .rw [Zec hj];exact hF.bot (hx _ (Jat hj))
  .rw [Jae,Jap (Zpp hj)];show (ic 1:F)≠0;rw[Zg0];exact fone
 unfold vz vN nm;generalize (ic (zs.getD j 0):F)=u at *;generalize (ic (xs.getD j (0,1)).1:F)=v at *;generalize (ic (xs.getD j (0,1)).2:F)=t at *
 grind
theorem wr_b (hF:FdOk p F){xs:List Nv}{zs:List Int}{b:Int}(h:WRz p xs zs b):(ic b:F)≠0:=by
 by_cases hp:p=0
 .exact hF.ne0 (.inl hp) (by have:=h.pos;exact Zo8 this)
 .rw [h.one hp,Zg0];exact fone
end
end Pf
namespace Pf
open PySem L2 L3 PyProof.Rows
section
variable {F:Type}[Lean.Grind.Field F]
theorem nm_one:(nm ((1,1):Nv):F)=1:=by
 unfold nm;rw[Zg0];have:=fone (F:=F)
 grind
theorem Zp2 {n i j:Nat}(hi:i<n)(hj:j<n):(vN ((Zei n).getD i []) j:F)=del i j:=by
 have e:(Zei n).getD i []=eR n i:=by
  rw[Jae,Jad,Jbc hi];rfl
 rw[e];unfold vN;rw[Jae,Jc7];show _=if i=j then (1:F) else 0
 by_cases h:i=j
 .subst h;rw[if_pos rfl,if_pos (by rw[Jav];exact hi),if_pos rfl];exact nm_one
 .rw [if_neg h,if_neg h,Jb6,if_pos hj];exact nm_zero
end
theorem Zrx {p:Int}(hp:GroundP p):Isn p (0,1)/\Isn p (1,1):=by
 have h0:=Zhp (p:=p) (k:=0) hp.lo;have h1:=Zhp (p:=p) (k:=1) hp.lo;rw[Zgz] at h0;rw[Zk8 hp] at h1;exact⟨h0,h1⟩
section
variable {p:Int}{F:Type}[Lean.Grind.Field F]
end
end Pf
namespace Pf
open PySem L2 L3 PyProof.Rows
section
variable {G PL cL:Addr}
structure TabB (H:Hp)(p:Int)(k n wd:Nat)(t r:Addr)(rs:List Addr)(M:Mv):Prop where
 tv:TabV H p n wd t r rs M
 hl:M.length=n
 hw:∀ xs∈M,xs.length=wd
 gd:∀ xs∈M,GoodB p k xs
theorem TabB.same {H H':Hp}{p:Int}{k n wd:Nat}{t r:Addr}{rs:List Addr}{M:Mv}(h:TabB H p k n wd t r rs M)(s:Same H H'):TabB H' p k n wd t r rs M:=⟨h.tv.same s,h.hl,h.hw,h.gd⟩
end
end Pf
namespace Pf
open PySem L2 PyProof.Rows
section
variable {C G S:Addr}
theorem ok_bag (F:Fun K "_law_bag" "_law_bag" Zi6 f fd)(T:Txt K mg C G S):FnOk P w K mg base CX0 1 f fd ["_law_cell_here"] spBag:=by
 have nd:=Zkd.nd;refine F.ok Zkd (λvs H Q E h=>?_) (λcdv A outer s H vs Q E hr h=>?_)
 .refine Zae h λc e92 _=>?_;clear h;obtain rfl:=e92;rfl
 .refine Zae h λc e93 q=>?_;clear h;obtain rfl:=e93;refine⟨_,((@Zay _ _ _ _ _ _ _ _ (Zak op_ge (pvr 0) ((opJ Zvz)<|>Zac<&&>Zac) (Zah _)) (~~~(@Zar _ _ _ _ ((pvr 0)<&>(((opJ Zdd)<|>(pvr 0)<&&>Zac)<&>Zab)))) Zaj)<*>(~~~(@Zar _ _ _ _ (Zac<&>(((opJ Zdd)<|>((Zkj Zc3)<|>((opJ Zof)<|>((opJ Zdd)<|>(pvr 0)<&&>Zac)<&&>Zac)<&&>Zac)<&&>Zac)<&>Zab))))),?_⟩;walk_at "wp";refine⟨cpow _ ⇑0 ⇑0,Zb5 (λ_=>?_) (λ_=>?_)⟩
  .exact ⟨⇑0,⇑0,λp hp=>q p _ _ hp (Zl2 _ _ ⇑0) (Zl3 _ _ ⇑0)⟩
  .exact ⟨⇑0,.inr ⟨⇑0,⇑0⟩,⇑0,⇑0,λp hp=>q p _ _ hp (Zl2 _ _ ⇑0) (Zl3 _ _ ⇑0)⟩
theorem ok_draw (F:Fun K "_law_draw" "_law_draw" Zhh f fd)(T:Txt K mg C G S):FnOk P w K mg base CX0 1 f fd ["_law_bag_here","_law_many"] Zc0:=by
 have nd:=Zir.nd;refine F.ok Zir (λvs H Q E h=>?_) (λcdv A outer s H vs Q E hr h=>?_)
 .refine Zli h λl a b n e94 _=>?_;clear h;obtain rfl:=e94;rfl
 .refine Zc6 h λl a b n e95 hl b0 e96=>?_;clear h;obtain rfl:=e95;refine Zck e96 λb1 n0 n1 q=>?_;clear e96;refine⟨_,((@Zay _ _ _ _ _ _ _ _ (Zak Ze1 ((ixJ Za7)<|>(pvr 0)<||>Zac) Zac (Zah _)) ((2|||nd|||(Zdd<|>((ixJ Za7)<|>(pvr 0)<||>Zac)<&&>(pvr 1)))<*>((Zb4 (Zk0<|>((ixJ Za7)<|>(pvr 0)<||>Zac)<&&>(pvr 1)) (Zkh (pvr 0) Zac Zfh))<*>(~~~(pvr 2)))) Zaj)<*>((Zb4 (Zdd<|>(Zc3<|>(Zof<|>((ixJ Za7)<|>(pvr 0)<||>Zac)<&&>Zac)<&&>Zac)<&&>Zac) (Zkh (pvr 0) Zac Zfh))<*>(~~~(Zdd<|>(Zk0<|>(Zdd<|>(Zof<|>((ixJ Za7)<|>(pvr 0)<||>Zac)<&&>(Zc3<|>(Zk0<|>((ixJ Za7)<|>(pvr 0)<||>Zac)<&&>Zac)<&&>Zac))<&&>Zac)<&&>Zac)<&&>(pvr 1))))),?_⟩;walk_at "wp";refine⟨_,SqL.of hl,_,rfl,_,rfl,Zb5 (λhc=>?_) (λhc=>?_)⟩
  .refine ⟨_,SqL.of hl,_,rfl,_,rfl,n0,_,SqL.of hl,_,rfl,_,rfl,⟨n0,∅⟩,_,hl,_,rfl,?_⟩;exact q _ _ _ (Zl2 _ _ n0) (Zl3 _ _ n0) b0 b1
  .refine ⟨_,SqL.of hl,_,rfl,_,rfl,.inr ⟨⇑0,⇑0⟩,⇑0,_,hl,_,rfl,_,SqL.of Zaa,_,rfl,_,SqL.of Zaa,_,rfl,_,rfl,⟨⇑0,⇑0⟩,_,rfl,?_⟩;have h1:=Zl2 (b*48271+4099) 2147483647 ⇑0;have h2:=Zl3 (b*48271+4099) 2147483647 ⇑0;refine⟨.inl ⟨∅,oz220⟩,⇑0,⟨⇑0,⇑0⟩,n0,?_⟩;exact q _ _ _ (Zl2 _ _ n0) (Zl3 _ _ n0) h1 h2
def spGcd:Sp:=λvs H Q _=>∃ a b:Int,vs=[.int a,.int b]/\Q (.int (Int.gcd a b:Int)) H
theorem ok_gcd (F:Fun K "_law_gcd" "_law_gcd" Zi5 f fd)(T:Txt K mg C G S):FnOk P w K mg base CX0 1 f fd ["_law_one","_law_two"] spGcd:=by
 have nd:=Zkc.nd;refine F.ok Zkc (λvs H Q E h=>?_) (λcdv A outer s H vs Q E hr h=>?_)
 .refine Zbs h λa b e97 _=>?_;clear h;obtain rfl:=e97;rfl
 .refine Zbs h λa b e98 q=>?_;clear h;obtain rfl:=e98;refine⟨_,((0|||nd|||(Za1 Zeq rfl T.n_abs boot_abs ((pvr 0)<&>Zab)))<*>((1|||nd|||(Za1 Zeq rfl T.n_abs boot_abs ((pvr 1)<&>Zab)))<*>((Zgr Jbr (Zeo Ze1 (pv 1) Zac (Zah _)) ((2|||nd|||((opJ Zdd)<|>(pvr 0)<&&>(pvr 1)))<*>((0|||nd|||(pvr 1))<*>(@Zau _ _ _ (1|||nd|||(pvr 2))))))<*>(~~~(pvr 0))))),?_⟩;walk_at "wp";have ea:(if a<0 then -a else a)=(a.natAbs:Int):=by split <;> omega
  have eb:(if b<0 then -b else b)=(b.natAbs:Int):=by split <;> omega
  rw[ea,eb];refine⟨λn σ H2=>∃ (x y:Int) (v:Option V),σ=[some (.int x),some (.int y),v]/\H2=H/\0<=x/\0<=y/\n=y.toNat/\Int.gcd x y=Int.gcd a b,⟨_,_,_,none,rfl,rfl,oz36,oz36,rfl,by unfold Int.gcd;rfl⟩,?_⟩;intro n σ H2 e91;refine Zcx e91 λx y v e99 e910 hx e911=>?_;clear e91;obtain rfl:=e99;obtain rfl:=e910;refine Zba e911 λhy e912 hg=>?_;clear e911;obtain rfl:=e912;walk_at "wp";refine Zb5 (λhc=>?_) (λhc=>?_)
  .have y1:0<y:=Jaz hc;have l1:=Jbq x (show y≠0 by exact Zo8 y1);have l2:=Ja8 x y1;refine⟨_,λ_ _ h=>h,?_⟩;walk_at "wp";exact⟨y1,_,oz104 y1 l2,y,x % y,_,⟨rfl,rfl,rfl⟩,oz70 y1,l1,rfl,by rw[Zop];exact hg⟩
  .have hy0:¬ 0<y:=λz=>hc (Jah z);have hy0:y=0:=by exact oz98 hy hy0
   subst hy0;have e:x=(Int.gcd a b:Int):=by
    rw[<- hg,Int.gcd_zero];exact oz145 hx
   rw[<- e] at q;exact q
def Ztk:Sp:=λvs H Q _=>∃ p k:Int,vs=[.int p,.int k]/\GroundP p/\∀ v H',Same H H'->NumV H' p v (Zk9 p k)->Q v H'
theorem ok_int (F:Fun K "_law_int" "_law_int" Zi4 f fd)(T:Txt K mg C G S):FnOk P w K mg base CX0 1 f fd ["_law_p","_law_k"] Ztk:=by
 have nd:=Zkb.nd;refine F.ok Zkb (λvs H Q E h=>?_) (λcdv A outer s H vs Q E hr h=>?_)
 .refine Zbs h λp k e913 _=>?_;clear h;obtain rfl:=e913;rfl
 .refine Zca h λp k e914 hp q=>?_;clear h;obtain rfl:=e914;have p0:=hp.lo;refine⟨_,((@Zay _ _ _ _ _ _ _ _ (Zak (Zkj Ze1) (pvr 0) Zac (Zah _)) (~~~((opJ Zdd)<|>(pvr 1)<&&>(pvr 0))) Zaj)<*>(~~~(@Zam _ _ _ _ _ ((pvr 1)<&>(Zac<&>Zab))))),?_⟩;walk_at "wp";refine Zb5 (λhc=>?_) (λhc=>?_)
  .have hc:=Jaz hc;refine⟨hc,q _ H (Same.refl _) ?_⟩;have:=NumV.of (H:=H) (x:=Zk9 p k) (show ¬ p=0 by exact Zje hc);rw[Zk9,if_neg (Zje hc)] at this ⊢;exact this
  .have hc:¬ 0<p:=λz=>hc (Jah z);have hp0:p=0:=by exact oz98 p0 hc
   refine⟨⇑0,λt ht=>q _ _ (Same.new ht) ?_⟩;rw[Zk9,if_pos hp0];exact NumV.tup hp0 Zaa
end
end Pf
namespace Pf
open PySem L2 L3 PyProof.Rows
section
variable {p:Int}{F:Type}[Lean.Grind.Field F]
structure LrF (F:Type)[Lean.Grind.Field F](n c:Nat)(M0 M:Mv)(pl:List Nat):Prop where
 ml:M.length=n
 dl:pl.length<=n
 asc:∀ i j,i<j->j<pl.length->pl.getD i 0<pl.getD j 0
 lt:∀ i,i<pl.length->pl.getD i 0<c
 one:∀ i,i<pl.length->(vN (M.getD i []) (pl.getD i 0):F)=1
 col:∀ i k,i<n->k<pl.length->i≠k->(vN (M.getD i []) (pl.getD k 0):F)=0
 low:∀ i j,i<pl.length->j<pl.getD i 0->(vN (M.getD i []) j:F)=0
 zer:∀ i j,pl.length<=i->i<n->j<c->(vN (M.getD i []) j:F)=0
 sp:SpEq (F:=F) (M.map vN) (M0.map vN)
structure LrG (F:Type)[Lean.Grind.Field F](n c k:Nat)(M0 M:Mv)(pl:List Nat):Prop where
 ml:M.length=n
 dl:pl.length<n
 asc:∀ i j,i<j->j<pl.length->pl.getD i 0<pl.getD j 0
 lt:∀ i,i<pl.length->pl.getD i 0<c
 one:∀ i,i<pl.length->(vN (M.getD i []) (pl.getD i 0):F)=1
 col:∀ i k,i<n->k<pl.length->i≠k->(vN (M.getD i []) (pl.getD k 0):F)=0
 low:∀ i j,i<pl.length->j<pl.getD i 0->(vN (M.getD i []) j:F)=0
 zer:∀ i j,pl.length<=i->i<n->j<c->(vN (M.getD i []) j:F)=0
 pv:(vN (M.getD pl.length []) c:F)=1
 cl:∀ i,i<k->i<n->i≠pl.length->(vN (M.getD i []) c:F)=0
 sp:SpEq (F:=F) (M.map vN) (M0.map vN)
end
end Pf
namespace Pf
open PySem L2 L3 PyProof.Rows
section
variable {G PL cL:Addr}
def Zn3:L2.Sp:=λvs H Q _=>∃ a b:Int,vs=[.int a,.int b]/\0<b/\∀ t,H t=none->Q (.ref t) (upd H t (.tup [.int (nrm a b).1,.int (nrm a b).2]))
theorem ok_lowB (F:Fun K "_law_lowest" "_law_lowest" Ze9 f fd)(T:Txt K mg C G S)(hpt:P.given.tree=none)(Ybt:Cal P w K mg base "_law_gcd" 1 spGcd):FnOk P w K mg base CX0 2 f fd ["_law_top","_law_bottom"] Zn3:=by
 have nd:=Zgo.nd;refine F.ok Zgo (λvs H Q E h=>?_) (λcdv A outer s H vs Q E hr h=>?_)
 .refine Zbs h λa b e91 _=>?_;clear h;obtain rfl:=e91;rfl
 .refine Zca h λa b e92 hb q=>?_;clear h;obtain rfl:=e92;have Zcj:∀ {c A B:Prop} [Decidable c],¬ c->B->if c then A else B:=λhc h=>by rw[if_neg hc];exact h
  refine⟨_,((@Zay _ _ _ _ _ _ _ _ (Zeo Zjx (pvr 1) Zac (Zah _)) (@Zau _ _ _ Zcf) Zaj)<*>((2|||nd|||(Ybt<$>hr<$>((pvr 0)<&>((pvr 1)<&>Zab))))<*>(~~~(@Zam _ _ _ _ _ (((Zep hpt (Zdu hr))<|>(pvr 0)<&&>(pvr 2))<&>(((Zep hpt (Zdu hr))<|>(pvr 1)<&&>(pvr 2))<&>Zab)))))),?_⟩;walk_at "wp";have g0:=Zfn (a:=a) hb;refine Zcj (by rw[Jam ∅];decide) ⟨a,b,rfl,_,rfl,∅,_,rfl,∅,⇑0,λt ht=>?_⟩;rw[Zg2 g0,Zg2 g0];exact q t ht
structure TwoB (H:Hp)(p:Int)(va vb:V)(x y:Nv):Prop where
 a:NumV H p va x
 b:NumV H p vb y
 hx:Isn p x
 hy:Isn p y
 bt:∃ n m:Nat,Bt n x.1/\Bt n x.2/\Bt m y.1/\Bt m y.2/\n+m<=134000000
def Zo4 (op:Int->Nv->Nv->Nv):L2.Sp:=λvs H Q _=>∃ (p:Int) (va vb:V) (x y:Nv),vs=[.int p,va,vb]/\GroundP p/\TwoB H p va vb x y/\∀ v H',Same H H'->NumV H' p v (op p x y)->Q v H'
theorem ok_addB (F:Fun K "_law_add" "_law_add" Zi7 f fd)(T:Txt K mg C G S)(Yat:Cal P w K mg base "_law_lowest" 2 Zn3):FnOk P w K mg base CX0 3 f fd ["_law_p","_law_a","_law_b"] (Zo4 Zgt):=by
 have nd:=Zke.nd;refine F.ok Zke (λvs H Q E h=>?_) (λcdv A outer s H vs Q E hr h=>?_)
 .refine Zpu h λp va vb x y e95 _=>?_;clear h;obtain rfl:=e95;rfl
 .refine Zhb h λp va vb x y e96 hp h2 q=>?_;clear h;obtain rfl:=e96;have p0:=hp.lo;refine Zlj h2.bt λn m b1 b2 b3 b4 nm'=>?_;refine⟨_,((@Zay _ _ _ _ _ _ _ _ (Zeo Ze1 (pvr 0) Zac (Zah _)) (~~~(Zdd<|>(Zc3<|>(pvr 1)<&&>(pvr 2))<&&>(pvr 0))) Zaj)<*>(~~~(Yat<$>hr<$>((Zc3<|>(Zbn<|>(Za2<|>(pvr 1)<||>Zac)<&&>(Za2<|>(pvr 2)<||>Zac))<&&>(Zbn<|>(Za2<|>(pvr 2)<||>Zac)<&&>(Za2<|>(pvr 1)<||>Zac)))<&>((Zbn<|>(Za2<|>(pvr 1)<||>Zac)<&&>(Za2<|>(pvr 2)<||>Zac))<&>Zab))))),?_⟩;walk_at "wp";refine Zb5 (λhc=>?_) (λhc=>?_)
  .have hc:=Jaz hc;obtain rfl:=h2.a.int (Zje hc);obtain rfl:=h2.b.int (Zje hc);refine⟨_,rfl,_,rfl,hc,q _ H (Same.refl _) ?_⟩;have:=NumV.of (H:=H) (x:=Zgt p x y) (show ¬ p=0 by exact Zje hc);rw[Zgt,if_neg (Zje hc)] at this ⊢;exact this
  .have hc:¬ 0<p:=λz=>hc (Jah z);have hp0:p=0:=by exact oz98 p0 hc
   refine Zae (h2.a.ref hp0) λta e97 hta=>?_;obtain rfl:=e97;refine Zae (h2.b.ref hp0) λtb e98 htb=>?_;obtain rfl:=e98;walk_at "wp";refine⟨_,SqT.of hta,_,rfl,_,SqT.of htb,_,rfl,_,rfl,_,rfl,b1.ok b4 (Zt2 nm'),_,SqT.of htb,_,rfl,_,SqT.of hta,_,rfl,_,rfl,_,rfl,b3.ok b2 ∅,_,SqT.of hta,_,rfl,_,SqT.of htb,_,rfl,_,rfl,_,rfl,b2.ok b4 (Zt2 nm'),?_⟩;refine Zaq _ _ ⟨rfl,Jde h2.hx.pos h2.hy.pos,λt ht=>q _ _ (Same.new ht) ?_⟩;rw[Zgt,if_pos hp0];exact NumV.tup hp0 Zaa
theorem ok_mulB (F:Fun K "_law_mul" "_law_mul" Zi3 f fd)(T:Txt K mg C G S)(Yat:Cal P w K mg base "_law_lowest" 2 Zn3):FnOk P w K mg base CX0 3 f fd ["_law_p","_law_a","_law_b"] (Zo4 Zdj):=by
 have nd:=Zka.nd;refine F.ok Zka (λvs H Q E h=>?_) (λcdv A outer s H vs Q E hr h=>?_)
 .refine Zpu h λp va vb x y e99 _=>?_;clear h;obtain rfl:=e99;rfl
 .refine Zhb h λp va vb x y e910 hp h2 q=>?_;clear h;obtain rfl:=e910;have p0:=hp.lo;refine Zlj h2.bt λn m b1 b2 b3 b4 nm'=>?_;refine⟨_,((@Zay _ _ _ _ _ _ _ _ (Zeo Ze1 (pvr 0) Zac (Zah _)) (~~~(Zdd<|>(Zof<|>(pvr 1)<&&>(pvr 2))<&&>(pvr 0))) Zaj)<*>(~~~(Yat<$>hr<$>((Zbn<|>(Za2<|>(pvr 1)<||>Zac)<&&>(Za2<|>(pvr 2)<||>Zac))<&>((Zbn<|>(Za2<|>(pvr 1)<||>Zac)<&&>(Za2<|>(pvr 2)<||>Zac))<&>Zab))))),?_⟩;walk_at "wp";refine Zb5 (λhc=>?_) (λhc=>?_)
  .have hc:=Jaz hc;obtain rfl:=h2.a.int (Zje hc);obtain rfl:=h2.b.int (Zje hc);have p97:=hp.hi;have hx:0<=x.1/\x.1<p:=by rcases h2.hx with ⟨h,_⟩|⟨_,h,h',_⟩ <;> omega
   refine⟨_,rfl,_,rfl,.inl ⟨∅,∅⟩,hc,q _ H (Same.refl _) ?_⟩;have:=NumV.of (H:=H) (x:=Zdj p x y) (show ¬ p=0 by exact Zje hc);rw[Zdj,if_neg (Zje hc)] at this ⊢;exact this
  .have hc:¬ 0<p:=λz=>hc (Jah z);have hp0:p=0:=by exact oz98 p0 hc
   refine Zae (h2.a.ref hp0) λta e911 hta=>?_;obtain rfl:=e911;refine Zae (h2.b.ref hp0) λtb e912 htb=>?_;obtain rfl:=e912;walk_at "wp";refine⟨_,SqT.of hta,_,rfl,_,SqT.of htb,_,rfl,_,rfl,_,rfl,b1.ok b3 (Zt2 nm'),_,SqT.of hta,_,rfl,_,SqT.of htb,_,rfl,_,rfl,_,rfl,b2.ok b4 (Zt2 nm'),?_⟩;refine Zaq _ _ ⟨rfl,Jde h2.hx.pos h2.hy.pos,λt ht=>q _ _ (Same.new ht) ?_⟩;rw[Zdj,if_pos hp0];exact NumV.tup hp0 Zaa
abbrev BtN (n:Nat)(x:Nv):Prop:=Bt n x.1/\Bt n x.2
theorem BtN.le {n m:Nat}{x:Nv}(h:BtN n x)(hm:n<=m):BtN m x:=⟨h.1.le hm,h.2.le hm⟩
theorem Zsu {p:Int}{x:Nv}(h0:p≠0)(p97:p<=97)(h:Isn p x):BtN 7 x:=by
 rcases h with ⟨e,_⟩|⟨_,e1,e2,e3⟩
 .exact absurd e h0
 .exact ⟨Zcv (Jaj _) ∅,by rw[e3];exact Zcv (Jaj _) ⇑0⟩
theorem Zst {a b:Int}{n:Nat}(ha:Bt n a)(hb:Bt n b):BtN n (nrm a b):=⟨ha.quo (Jb8 ..),hb.quo (Jci ..)⟩
theorem Zoy {p:Int}{x y:Nv}{n m:Nat}(hp:GroundP p)(hx:Isn p x)(hy:Isn p y)(h1:BtN n x)(h2:BtN m y)(h7:7<=n):BtN (n+m+1) (Zgt p x y):=by
 by_cases h0:p=0
 .unfold Zgt;rw[if_pos h0];refine Zst ?_ ((h1.2.mul h2.2).le ∅);have a:=h1.1.mul h2.2;have b:=h2.1.mul h1.2;rw[Nat.add_comm m n] at b;exact Bt.add a b
 .exact (Zsu h0 hp.hi (Zid hp.lo hx hy)).le ∅
theorem Zss {p:Int}{x y:Nv}{n m:Nat}(hp:GroundP p)(hx:Isn p x)(hy:Isn p y)(h1:BtN n x)(h2:BtN m y)(h7:7<=n+m):BtN (n+m) (Zdj p x y):=by
 by_cases h0:p=0
 .unfold Zdj;rw[if_pos h0];exact Zst (h1.1.mul h2.1) (h1.2.mul h2.2)
 .exact (Zsu h0 hp.hi (Zgx hp.lo hx hy)).le h7
structure IsB (p:Int)(x y:Nv):Prop where
 is:Isn p y
 fd:∀ (F:Type) [Lean.Grind.Field F],FdOk p F->(nm x:F)*nm y=1
 bt:∀ n:Nat,7<=n->BtN n x->BtN n y
def Zu4 (p:Int)(f g:Nat->Nv):Nat->Nv
 | 0=>Zk9 p 0
 | k+1=>Zgt p (Zu4 p f g k) (Zdj p (f k) (g k))
abbrev dotV (p:Int)(xs ys:List Nv):Nv:=Zu4 p (λk=>xs.getD k (0,1)) (λk=>ys.getD k (0,1)) xs.length
abbrev Zmj (B:Mv)(j:Nat):List Nv:=B.map λrow=>row.getD j (0,1)
def Zdv (p:Int)(A B:Mv)(wd:Nat):Mv:=A.map λrow=>(List.range wd).map λj=>dotV p row (Zmj B j)
theorem Znw {p:Int}{x y:Nv}{n m:Nat}(hp:GroundP p)(hx:Isn p x)(hy:Isn p y)(h1:BtN n x)(h2:BtN m y):BtN (n+m+7) (Zdj p x y):=by
 have:=Zss hp hx hy h1 (h2.le (show m<=m+7 by omega)) ∅;rwa [<- Nat.add_assoc] at this
theorem Zv8 {p:Int}(hp:GroundP p){f g:Nat->Nv}{k1 k2:Nat}:∀ {n:Nat},(∀ i,i<n->Isn p (f i)/\BtN k1 (f i))->(∀ i,i<n->Isn p (g i)/\BtN k2 (g i))->Isn p (Zu4 p f g n)/\BtN (7+n*(k1+k2+8)) (Zu4 p f g n)
 | 0,_,_=>⟨Zhp hp.lo,by
   show BtN _ (Zk9 p 0);unfold Zk9;split
   .exact ⟨Znj _,Zcv oz219 ⇑0⟩
   .rw [Int.zero_emod];exact⟨Znj _,Zcv oz219 ⇑0⟩⟩
 | n+1,hf,hg=>by
  obtain⟨i1,b1⟩:=Zv8 hp (k1:=k1) (k2:=k2) (n:=n) (λi hi=>hf i (Zvw hi)) (λi hi=>hg i (Zvw hi));obtain⟨i2,b2⟩:=hf n Zjw;obtain⟨i3,b3⟩:=hg n Zjw;have it:=Zgx hp.lo i2 i3;refine⟨Zid hp.lo i1 it,?_⟩;have:=Zoy hp i1 it b1 (Znw hp i2 i3 b2 b3) ∅;refine this.le ?_;rw[Jcy n 1];omega
theorem Zov {p:Int}{wd k:Nat}{B:Mv}(hw:∀ xs∈B,xs.length=wd)(g:∀ xs∈B,GoodB p k xs){j:Nat}(hj:j<wd):GoodB p k (Zmj B j):=λx hx=>by
 refine Zae (Ja2.mp hx) λrow hr e91=>?_;obtain rfl:=e91;exact g row hr _ (Zco (by rw[hw row hr];exact hj))
theorem Zos {p:Int}{F:Type}[Lean.Grind.Field F](hp:GroundP p)(hF:FdOk p F){f g:Nat->Nv}:∀ {n:Nat},(∀ i,i<n->Isn p (f i))->(∀ i,i<n->Isn p (g i))->Isn p (Zu4 p f g n)/\(nm (Zu4 p f g n):F)=sm n λi=>nm (f i)*nm (g i)
 | 0,_,_=>⟨Zhp hp.lo,by
   show (nm (Zk9 p 0):F)=0;rw[hF.intF,Zjo]⟩
 | n+1,hf,hg=>by
  obtain⟨i1,e1⟩:=Zos hp hF (n:=n) (λi hi=>hf i (Zvw hi)) (λi hi=>hg i (Zvw hi));have it:=Zgx hp.lo (hf n Zjw) (hg n Zjw);refine⟨Zid hp.lo i1 it,?_⟩;show (nm (Zgt p (Zu4 p f g n) (Zdj p (f n) (g n))):F)=sm n (λi=>nm (f i)*nm (g i))+nm (f n)*nm (g n);rw[hF.plus i1 it,e1,hF.times (hf n Zjw) (hg n Zjw)]
theorem cut2 {A B X:TS}{D:Ends}{σ:L2.St}{H:Hp}(h:∀ X',X'=X->Ztg A (Ztg B X') D σ H):Ztg A (Ztg B X) D σ H:=h X rfl
end
end Pf
set_option maxHeartbeats 1000000
namespace Pf
open PySem L2 L3 PyProof.Rows
structure Mat (p:Int)(n wd:Nat)(M:Mv):Prop where
 hl:M.length=n
 hw:∀ xs∈M,xs.length=wd
 is:∀ xs∈M,∀ x∈xs,Isn p x
theorem Zv3 {p:Int}{F:Type}[Lean.Grind.Field F](hF:FdOk p F){n wd:Nat}{A B:Mv}(hA:Mat p n wd A)(hB:Mat p n wd B)(h:∀ i j,i<n->j<wd->(vN (A.getD i []) j:F)=vN (B.getD i []) j):A=B:=by
 have la:=hA.hl;have lb:=hB.hl;refine List.ext_getElem (oz43 la lb) λi h1 h2=>?_;have wa:=hA.hw _ (Jat h1);have wb:=hB.hw _ (Jat h2);refine List.ext_getElem (oz43 wa wb) λj h3 h4=>?_;have:=h i j (oz3 lb h2) (oz3 wa h3);rw[Zec h1,Zec h2,vN_in (Jaa h3),vN_in (Jaa h4)] at this;exact hF.inj (hA.is _ (Jat h1) _ (Jat h3)) (hB.is _ (Jat h2) _ (Jat h4)) this
theorem Zod {p:Int}(hp:GroundP p){n m wd:Nat}{A B:Mv}(hA:Mat p n m A)(hB:Mat p m wd B):Mat p n wd (Zdv p A B wd):=by
 obtain⟨F,_,hF⟩:=Zpk hp;refine⟨by unfold Zdv;rw[Jab];exact hA.hl,λxs hx=>?_,λxs hx x hxx=>?_⟩
 .refine Zae (Ja2.mp hx) λrow _ e91=>?_;obtain rfl:=e91;rw[Jab,Jax]
 .refine Zae (Ja2.mp hx) λrow hr e92=>?_;obtain rfl:=e92;refine Zae (Ja2.mp hxx) λj hj e93=>?_;obtain rfl:=e93;have hj:=Ja6.mp hj;have wr:=hA.hw row hr;have lB:=hB.hl;exact (Zos hp hF (λi hi=>hA.is row hr _ (Zco hi)) (λi hi=>by
   have hi':i<B.length:=by exact oz5 wr lB hi
   rw[Jae,Jad,Jaa hi'];exact hB.is _ (Jat hi') _ (Zco (by rw[hB.hw _ (Jat hi')];exact hj)))).1
theorem Zqu {p:Int}{F:Type}[Lean.Grind.Field F](hp:GroundP p)(hF:FdOk p F){n m wd:Nat}{A B:Mv}(hA:Mat p n m A)(hB:Mat p m wd B){i j:Nat}(hi:i<n)(hj:j<wd):(vN ((Zdv p A B wd).getD i []) j:F)=sm m λl=>vN (A.getD i []) l*vN (B.getD l []) j:=by
 have lA:=hA.hl;have lB:=hB.hl;have hm:A.getD i []∈A:=Zco (oz7 hi lA);have e:(Zdv p A B wd).getD i []=(List.range wd).map λj=>dotV p (A.getD i []) (Zmj B j):=by
  unfold Zdv;rw[Jae,Jad,Jaa (show i<A.length by exact oz7 hi lA),Zec (show i<A.length by exact oz7 hi lA)];rfl
 have wr:=hA.hw _ hm;have col:∀ l,l<m->(Zmj B j).getD l (0,1)=(B.getD l []).getD j (0,1):=λl hl=>by
  rw[Jae,Jad,Jaa (show l<B.length by exact Zly lB hl),Zec (show l<B.length by exact Zly lB hl)];rfl
 rw[e];unfold vN;rw[Jae,Jad,Jbc hj];have:=(Zos hp hF (n:=(A.getD i []).length) (f:=λk=>(A.getD i []).getD k (0,1)) (g:=λk=>(Zmj B j).getD k (0,1)) (λl hl=>hA.is _ hm _ (Zco hl)) (λl hl=>by
  rw[col l (oz3 wr hl)];exact hB.is _ (Zco (oz33 lB wr hl)) _ (Zco (by rw[hB.hw _ (Zco (oz33 lB wr hl))];exact hj)))).2
 show (nm (dotV p (A.getD i []) (Zmj B j)):F)=_;rw[this,wr];exact Za8 λl hl=>by rw[col l hl]
section
variable {G PL cL:Addr}
structure WRh (H:Hp)(p:Int)(t l:Addr)(xs:List Nv)(kb:Nat):Prop where
 ex:∃ (ts:List Int) (b:Int),H t=some (.tup [.ref l,.int b])/\RowZ H l ts/\WRz p xs ts b/\SmallR kb ts/\Bt kb b
theorem WRh.same {H H':Hp}{p:Int}{t l:Addr}{xs:List Nv}{kb:Nat}(h:WRh H p t l xs kb)(s:Same H H'):WRh H' p t l xs kb:=let ⟨ts,b,h1,h2,h3⟩:=h.ex;⟨ts,b,s _ _ h1,s _ _ h2,h3⟩
theorem WRh.put {H:Hp}{D:Addr}{l':List V}{o:HO}{p:Int}{t l:Addr}{xs:List Nv}{kb:Nat}(h:WRh H p t l xs kb)(hD:H D=some (.lst l'))(n:l≠D):WRh (upd H D o) p t l xs kb:=let ⟨ts,b,h1,h2,h3⟩:=h.ex;⟨ts,b,by rw[Zal (Zfd h1 hD (by intro z;cases z))];exact h1,h2.put n,h3⟩
theorem Zh2 {f g:Nat->Int}:∀ {n:Nat},(∀ i,i<n->f i=g i)->preSum f n=preSum g n
 | 0,_=>rfl
 | n+1,h=>by
  show preSum f n+f n=preSum g n+g n;rw[Zh2 (n:=n) λi hi=>h i (Zvw hi),h n Zjw]
theorem Zo3 (g:Nat->Int)(N:Nat):preSum (λi=>((List.range N).map g).getD i 0) N=preSum g N:=Zh2 λi hi=>by
 rw[Jae,Jad,Jbc hi];rfl
theorem Zlu {f:Nat->Int}{B:Nat}:∀ {n:Nat},(∀ i,i<n->(f i).natAbs<=B)->(preSum f n).natAbs<=n*B
 | 0,_=>by show (0:Int).natAbs<=_;simp
 | n+1,h=>by
  have a:=Zlu (f:=f) (B:=B) (n:=n) λi hi=>h i (Zvw hi);have b:=h n Zjw;show (preSum f n+f n).natAbs<=(n+1)*B;rw[Jcy,Jet];exact oz21 a b
theorem Zlv {F:Type}[Lean.Grind.Field F](f:Nat->Int):∀ n:Nat,(ic (preSum f n):F)=sm n λi=>ic (f i)
 | 0=>Zjo
 | n+1=>by
  show (ic (preSum f n+f n):F)=sm n (λi=>ic (f i))+ic (f n);rw[Zon,Zlv f n]
theorem Zqx {f:Nat->Int}{k n:Nat}(hn:n<=24)(h:∀ i,i<n->Bt k (f i)):Bt (k+5) (preSum f n):=by
 have h1:=Zlu (f:=f) (B:=2 ^ k) (n:=n) λi hi=>Jbd (h i hi);have h2:n*2 ^ k<=24*2 ^ k:=Nat.mul_le_mul_right _ hn;have h3:2 ^ (k+5)=32*2 ^ k:=by rw[Nat.pow_add];omega
 have h4:=Nat.two_pow_pos k;show (preSum f n).natAbs<2 ^ (k+5);exact oz225 h1 h2 h3 h4
theorem dot_isQ {p:Int}{xs ys:List Nv}{ts us:List Int}{b c:Int}{x:Nv}(hp:GroundP p)(hl:ys.length=xs.length)(hx:∀ x∈xs,Isn p x)(hy:∀ y∈ys,Isn p y)(w1:WRz p xs ts b)(w2:WRz p ys us c)(iq:IsQ p (preSum (λi=>ts.getD i 0*us.getD i 0) xs.length) (b*c) x):x=dotV p xs ys:=by
 obtain⟨F,_,hF⟩:=Zpk hp;obtain⟨i1,e1⟩:=Zos hp hF (n:=xs.length) (f:=λk=>xs.getD k (0,1)) (g:=λk=>ys.getD k (0,1)) (λi hi=>hx _ (Zco hi)) (λi hi=>hy _ (Zco (Zly hl hi)));refine hF.inj iq.is i1 ?_;rw[iq.fd F hF,e1,Zlv,Zc5];have b0:=wr_b hF w1;have c0:=wr_b hF w2;rw[Za8 (g:=λi=>(ic b*ic c)*(nm (xs.getD i (0,1))*nm (ys.getD i (0,1)))) λi hi=>by
  rw[Zc5];have a1:=wr_eq hF w1 hx i;have a2:=wr_eq hF w2 hy i;unfold vz vN at a1 a2;rw[a1,a2]
  grind]
 rw[Zio];generalize (sm xs.length λi=>(nm (xs.getD i (0,1)):F)*nm (ys.getD i (0,1)))=z;have bc:(ic b*ic c:F)≠0:=by
  intro z
  grind
 grind
theorem bot_ne {p b:Int}{F:Type}[Lean.Grind.Field F](hp:GroundP p)(hF:FdOk p F)(h:(ic b:F)≠0):p≠0->b % p≠0:=λh0 z=>by
 apply h;rw[<- hF.modF h0,z,Zjo]
def spRt (G:Addr):L2.Sp:=λvs H Q _=>∃ (g t l u m:Addr) (p:Int) (xs ys:List Nv) (k1 k2:Nat),vs=[.ref g,.ref t,.ref u]/\GAt G H g p/\GroundP p/\WRh H p t l xs k1/\WRh H p u m ys k2/\xs.length<=24/\ys.length=xs.length/\(∀ x∈xs,Isn p x)/\(∀ y∈ys,Isn p y)/\k1+k2+5<=NB /\
 ∀ v H',Same H H'->NumV H' p v (dotV p xs ys)->Q v H'
theorem ok_rt (F:Fun K "row_times" "row_times" Zf8 f fd)(T:Txt K mg C G S)(Ybs:CalD P w K mg base G "number" 6 (Zj1 G) []):FnOk P w K mg base CX0 7 f fd ["ground","row","column"] (spRt G):=by
 have nd:=Zhx.nd;refine F.ok Zhx (λvs H Q E h=>?_) (λcdv A outer s H vs Q E hr h=>?_)
 .refine xE10_2 h λg t l u m p xs ys k1 k2 e91 _=>?_;clear h;obtain rfl:=e91;rfl
 .refine xE10_4 h λg t l u m p xs ys k1 k2 e92 hg hp e93=>?_;clear h;obtain rfl:=e92;refine xE0_8 e93 λe94 e95 xl yl gx gy kb q=>?_;clear e93;obtain⟨ts,b,ht,hl,w1,b1,bb1⟩:=e94;obtain⟨us,c,hu,hm,w2,b2,bb2⟩:=e95;refine⟨_,((Zb4 (pvr 1) (@Zc2 _ _ _ _ _ 2 rfl ((3>>>nd)^^^((4>>>nd)^^^(@Za6 _))) ⇑1 ⇑1))<*>((Zb4 (pvr 2) (@Zc2 _ _ _ _ _ 2 rfl ((5>>>nd)^^^((6>>>nd)^^^(@Za6 _))) ⇑1 ⇑1))<*>(~~~(Zm1 T.cl_Ground Ybs hr.m (pvr 0) ((Za1 (Zox rfl) rfl T.n_sum boot_sum ((Za0 (own:=["a","b"]) (fr:=[]) rfl (Zbi (by kernel_rfl)) (Zlx rfl T.n_zip ((pv 3)<&>((pv 5)<&>Zab))) (λ_ _ _ _=>⟨(@Zda _ K rfl _ _ _ _ 2 rfl ((0<<<["a","b"])^^^((1<<<["a","b"])^^^(@Za6 _))) ⇑1 ⇑1),Zat,(Zbn<|>(pv 0)<&&>(pv 1))⟩))<&>Zab))<&>((Zbn<|>(pvr 4)<&&>(pvr 6))<&>Zab)))))),?_⟩;walk_at "wp";obtain⟨dx,hg0⟩:=hg;have tl:=w1.len;have ul:=w2.len;refine⟨_,SqT.of ht,rfl,_,_,rfl,_,_,rfl,rfl,_,SqT.of hu,rfl,_,_,rfl,_,_,rfl,rfl,dx,_,hg0,Zdy p,?_⟩;have bt1:∀ i,Bt k1 (ts.getD i 0):=λi=>b1.at i;have bt2:∀ i,Bt k2 (us.getD i 0):=λi=>b2.at i;refine⟨_,rfl,_,rfl,l,m,rfl,⟨_,SqL.of hl⟩,⟨_,SqL.of hm⟩,λD hD=>Zsg (λi _ y=>y=.int (ts.getD i 0*us.getD i 0)) (λr _=>r) (λr _=>r) hl hm (by rw[Jab,Jab];exact oz155 yl tl ul) hD (by rw[Jab];exact oz35 xl tl) (λi x y H' Q' hx hy s' _ q'=>?_) (λzs H1 s1 e1 zl hz=>?_)⟩
  .refine Zae (Zjj hx) λa e e96=>?_;obtain rfl:=e96;refine Zae (Zjj hy) λc' e' e97=>?_;obtain rfl:=e97;have h1:=bt1 i;have h2:=bt2 i;rw[Zbf e] at h1;rw[Zbf e'] at h2;exact⟨_,rfl,_,rfl,_,_,rfl,rfl,h1.ok h2 (Jbh (show k1+k2<=NB by exact oz117 kb) ⇑0),q' _ H' (Same.refl _) (by rw[Zbf e,Zbf e'])⟩
  .rw [Jab,tl] at zl;rw[Zr3 zl hz] at e1;refine⟨D,rfl,_,SqL.of e1,b,rfl,c,rfl,bb1.ok bb2 (Jbh (show k1+k2<=NB by exact oz117 kb) ⇑0),?_⟩;rw[Jab,Jax,Zo3];obtain⟨F',_,hF⟩:=Zpk hp;have bc:(ic (b*c):F')≠0:=by
    have:=wr_b hF w1;have:=wr_b hF w2;rw[Zc5];intro z
    grind
   refine Zkq g p _ _ ⟨rfl,⟨dx,s1 _ _ hg0⟩,hp,(Zqx xl λi _=>(bt1 i).mul (bt2 i)).le ∅,(bb1.mul bb2).le (oz117 kb),λ_=>?_,bot_ne hp hF bc,λv x H2 s2 nv iq=>?_⟩
   .have:=Jde w1.pos w2.pos;omega
   .rw [dot_isQ hp yl gx gy w1 w2 iq] at nv;exact q v H2 (s1.trans s2) nv
abbrev colM (M:Mv)(wd:Nat):Mv:=(List.range wd).map λj=>Zmj M j
theorem col_len {M:Mv}{n wd:Nat}(hl:M.length=n):∀ xs∈colM M wd,xs.length=n:=λxs hx=>by
 refine Zae (Ja2.mp hx) λj _ e98=>?_;obtain rfl:=e98;rw[Jab,hl]
theorem Zsl {p:Int}{M:Mv}{k wd:Nat}(hw:∀ xs∈M,xs.length=wd)(g:∀ xs∈M,GoodB p k xs):∀ xs∈colM M wd,GoodB p k xs:=λxs hx=>by
 refine Zae (Ja2.mp hx) λj hj e99=>?_;obtain rfl:=e99;exact Zov hw g (Ja6.mp hj)
def spTa:L2.Sp:=λvs H Q _=>∃ (p:Int) (k n wd:Nat) (t r:Addr) (rs:List Addr) (M:Mv),vs=[.ref t]/\TabB H p k n wd t r rs M/\n<=200/\wd<=200/\∀ (t' r':Addr) (rs':List Addr) H',Same H H'->New H t' r' rs'->TabB H' p k wd n t' r' rs' (colM M wd)->Q (.ref t') H'
theorem ok_ta (F:Fun K "turned_about" "turned_about" Zd8 f fd)(T:Txt K mg C G S):FnOk P w K mg base CX0 1 f fd ["table"] spTa:=by
 have nd:=Ze3.nd;refine F.ok Ze3 (λvs H Q E h=>?_) (λcdv A outer s H vs Q E hr h=>?_)
 .refine xE8_2 h λp k n wd t r rs M e910 _=>?_;clear h;obtain rfl:=e910;rfl
 .refine xE8_4 h λp k n wd t r rs M e911 tb n24 e912=>?_;clear h;obtain rfl:=e911;obtain⟨w24,q⟩:=e912;have rl:=tb.tv.row.1;have hM:=tb.hl;refine⟨_,((Zb4 (pvr 0) (@Zc2 _ _ _ _ _ 3 rfl ((1>>>nd)^^^((2>>>nd)^^^((@Zad _ _ 3 _ nd rfl (Or.inr rfl) (Or.inl rfl))^^^(@Za6 _)))) ⇑1 ⇑1))<*>(~~~(@Zam _ _ _ _ _ ((pvr 2)<&>((pvr 1)<&>((Za0 (own:=["place"]) (fr:=[("rows",3)]) rfl (Zbi (by kernel_rfl)) (Zge rfl T.n_range ((pv 2)<&>Zab)) (λ_ _ _ _=>⟨(@Zad _ _ 0 _ (show (["place","rows"]:List Str).Nodup by decide +kernel) rfl (Or.inr rfl) (Or.inl rfl)),Zat,(Za0 (own:=["row"]) (fr:=[("place",0)]) rfl (Zbi (by kernel_rfl)) (Zgu K rfl (pv 1)) (λ_ _ _ _=>⟨(0<<<["row","place"]),Zat,((Zdh K rfl)<|>(pv 0)<||>(pv 1))⟩))⟩))<&>Zab)))))),?_⟩;walk_at "wp";refine⟨_,SqT.of tb.tv.tup,rfl,_,_,rfl,_,_,rfl,_,_,rfl,rfl,?_⟩;refine⟨_,rfl,_,rfl,Zt3,∅,λD hD=>Zfe (n:=wd) (λi Hc y=>∃ a,y=.ref a/\RowV Hc p a ((colM M wd).getD i [])/\a≠D/\H a=none) (λ⟨a,e,b,c⟩ s=>⟨a,e,b.same s,c⟩) (λ⟨a,e,b,c,d⟩ hD=>⟨a,e,b.put hD c,c,d⟩) hD ∅ (λi H' Q' hi s' ⟨lD,hlD⟩ q'=>?_) (λys H1 s1 e1 yl hys=>?_)⟩
  .refine ⟨_,rfl,r,rfl,⟨_,SqL.of (s' _ _ tb.tv.lst)⟩,λE1 hE1=>Zcu (λk Hc y=>NumV Hc p y ((M.getD k []).getD i (0,1))) (λk s=>k.same s) (λk hD=>k.put hD) (s' _ _ tb.tv.lst) hE1 (by rw[Jab];omega) (λk x Hc Qc hx sc _ qc=>?_) (λys Hc sc ec yl yn=>?_)⟩
   .refine Zae ((Zd1 tb.tv.row).at' hx) λrow er e913=>?_;obtain⟨a,rfl,vs,hv1,hv2⟩:=e913;have rw':=tb.hw row (Jac er);have ei:row[i]?=some (row[i]'(oz7 hi rw')):=Jaa _;refine Zae (hv2.at ei) λv ev nv=>?_;have nv':=nv.same (s'.trans sc);have qq:=qc v Hc (Same.refl _);rw[Zbf er,Zbf ei] at qq;exact⟨_,rfl,_,rfl,a,vs,((0:Int)+(i:Int)),v,rfl,rfl,SqL.of ((s'.trans sc) _ _ hv1),Zde Zt1 (by rw[show ((0:Int)+(i:Int)).toNat=i by exact oz15];exact ev),qq nv'⟩
   .rw [Jab] at yl;have ecol:(colM M wd).getD i []=Zmj M i:=Zbf (by rw[Jad,Jbc hi];rfl);refine q' _ Hc sc ⟨E1,rfl,⟨ys,ec,?_⟩,(Zai hlD hE1).symm,s'.free hE1⟩;rw[ecol];refine⟨by rw[Jab];exact oz62 rl yl,λk y x f1 f2=>?_⟩;rw[Jad] at f2;cases eM:M[k]? with
    | none=>rw[eM] at f2;cases f2
    | some row=>
     rw[eM] at f2;cases f2;have:=yn k y f1;rwa [Zbf eM] at this
  .obtain ⟨rs',rfl,a2,nD,fr⟩:=Zqo (D:=D) (H1:=H) (p:=p) (M:=colM M wd) (by rw[Jab,Jax];exact yl) hys;refine⟨⇑0,λt' ht'=>?_⟩;have s2:=Same.new (o:=.tup [V.int wd,V.int n,.ref D]) ht';exact q t' D rs' _ (s1.trans s2) ⟨s1.free ht',hD,fr⟩ ⟨⟨Zaa,s2 _ _ e1,a2.mono λ_ _ k=>k.same s2,nD⟩,by rw[Jab,Jax],col_len hM,Zsl tb.hw tb.gd⟩
def Zn0 (G:Addr):L2.Sp:=λvs H Q E=>∃ (g t1 r1 t2 r2:Addr) (rs1 rs2:List Addr) (p:Int) (n m w2 k1 k2:Nat) (A B:Mv),vs=[.ref g,.ref t1,.ref t2]/\GAt G H g p/\GroundP p/\TabB H p k1 n m t1 r1 rs1 A/\TabB H p k2 m w2 t2 r2 rs2 B/\n<=24/\m<=24/\w2<=24/\1<=k1/\1<=k2/\(m+1)*k1+(m+1)*k2+5<=NB /\
 ∀ t r rs H',Same H H'->New H t r rs->TabB H' p (7+m*(k1+k2+8)) n w2 t r rs (Zdv p A B w2)->Q (.ref t) H'
theorem Zqt {p:Int}{n m wd k1 k2:Nat}{A B:Mv}(hp:GroundP p)(hl:A.length=n)(hw:∀ xs∈A,xs.length=m)(hg:∀ xs∈A,GoodB p k1 xs)(hl':B.length=m)(hw':∀ xs∈B,xs.length=wd)(hg':∀ xs∈B,GoodB p k2 xs):(Zdv p A B wd).length=n/\(∀ xs∈Zdv p A B wd,xs.length=wd)/\∀ xs∈Zdv p A B wd,GoodB p (7+m*(k1+k2+8)) xs:=by
 refine⟨by unfold Zdv;rw[Jab];exact hl,λxs hx=>?_,λxs hx x hxx=>?_⟩
 .refine Zae (Ja2.mp hx) λrow _ e914=>?_;obtain rfl:=e914;rw[Jab,Jax]
 .refine Zae (Ja2.mp hx) λrow hr e915=>?_;obtain rfl:=e915;refine Zae (Ja2.mp hxx) λj hj e916=>?_;obtain rfl:=e916;have hj:=Ja6.mp hj;have wr:=hw row hr;have gc:=Zov hw' hg' hj;have:=Zv8 hp (k1:=k1) (k2:=k2) (n:=row.length) (f:=λk=>row.getD k (0,1)) (g:=λk=>(Zmj B j).getD k (0,1)) (λi hi=>hg row hr _ (Zco hi)) (λi hi=>gc _ (Zco (by rw[Jab];exact oz33 hl' wr hi)));rw[wr] at this;refine⟨?_,?_⟩
  .show Isn p (Zu4 p _ _ row.length);rw[wr];exact this.1
  .show BtN _ (Zu4 p _ _ row.length);rw[wr];exact this.2
theorem ok_prod (F:Fun K "product" "product" Ziz f fd)(T:Txt K mg C G S)(Yav:Cal P w K mg base "whole_row" 6 (spWrZ G))(Yax:Cal P w K mg base "turned_about" 1 spTa)(Ybm:Cal P w K mg base "row_times" 7 (spRt G)):FnOk P w K mg base CX0 8 f fd ["ground","one","other"] (Zn0 G):=by
 have nd:=Zj6.nd;refine F.ok Zj6 (λvs H Q E h=>?_) (λcdv A outer s H vs Q E hr h=>?_)
 .refine Znq h λg t1 r1 t2 r2 rs1 rs2 p n m w2 k1 k2 A B e917 _=>?_;clear h;obtain rfl:=e917;rfl
 .refine Znp h λg t1 r1 t2 r2 rs1 rs2 p n m w2 k1 k2 A B e918 hg hp e919=>?_;clear h;obtain rfl:=e918;refine xE0_9 e919 λT1 T2 n24 m24 w24 k11 k21 lim good=>?_;clear e919;have Zcj:∀ {c A B:Prop} [Decidable c],¬ c->B->if c then A else B:=λhc h=>by rw[if_neg hc];exact h
  refine⟨_,((@Zay _ _ _ _ _ _ _ _ (Zak Zft ((Zho Za2)<|>(pvr 1)<||>Zac) ((Zho Za2)<|>(pvr 2)<||>Zac) (Zah _)) (@Zau _ _ _ Zcf) Zaj)<*>((Zfc (i:=3) (own:=["row"]) (fr:=[("ground",0)]) rfl (Zbi (by kernel_rfl)) (Zbd (Za2<|>(pv 1)<||>Zac)) (λ_ _ _ _=>⟨(0<<<["row","ground"]),Zat,(Yav<$>hr<$>((pv 1)<&>((pv 0)<&>Zab)))⟩) nd rfl rfl rfl)<*>((Zap (i:=4) nd rfl (Or.inr rfl) (Za0 (own:=["column"]) (fr:=[("ground",0)]) rfl (Zbi (by kernel_rfl)) (Zbd (Za2<|>(Yax<$>hr<$>((pv 2)<&>Zab))<||>Zac)) (λ_ _ _ _=>⟨(0<<<["column","ground"]),Zat,(Yav<$>hr<$>((pv 1)<&>((pv 0)<&>Zab)))⟩)))<*>(~~~(@Zam _ _ _ _ _ (((Zho Za2)<|>(pvr 1)<||>Zac)<&>(((Zho Za2)<|>(pvr 2)<||>Zac)<&>((Za0 (own:=["row"]) (fr:=[("columns",4),("ground",0)]) rfl (Zbi (by kernel_rfl)) (Zbd (pv 3)) (λ_ _ _ _=>⟨(@Zad _ _ 0 _ (show (["row","columns","ground"]:List Str).Nodup by decide +kernel) rfl (Or.inr rfl) (Or.inl rfl)),Zat,(Za0 (own:=["column"]) (fr:=[("ground",2),("row",0)]) rfl (Zbi (by kernel_rfl)) (Zgu K rfl (pv 1)) (λ_ _ _ _=>⟨(0<<<["column","ground","row"]),Zat,(Ybm<$>hr<$>((pv 1)<&>((pv 2)<&>((pv 0)<&>Zab))))⟩))⟩))<&>Zab)))))))),?_⟩;walk_at "wp";refine⟨_,SqT.of T1.tv.tup,_,rfl,_,SqT.of T2.tv.tup,_,rfl,rfl,Zcj (by simp) ?_⟩;have la:=T1.tv.row.1;have lb:=T2.tv.row.1;have sA:=T1.hl;have sB:=T2.hl
  -- the rows
  refine⟨_,rfl,t1,_,2,_,rfl,rfl,SqT.of T1.tv.tup,rfl,r1,rfl,⟨_,SqL.of T1.tv.lst⟩,λD1 hD1=>Zcu (λi Hc y=>∃ t l,y=.ref t/\WRh Hc p t l (A.getD i []) ((m+1)*k1)/\l≠D1) (λ⟨t,l,e,b,c⟩ s=>⟨t,l,e,b.same s,c⟩) (λ⟨t,l,e,b,c⟩ hD=>⟨t,l,e,b.put hD c,c⟩) T1.tv.lst hD1 (by rw[Jab];omega) (λi x H' Q' hx s' ⟨lD,hlD⟩ q'=>?_) (λys H1 s1 e1 yl hys=>?_)⟩
  .refine Zae ((Zd1 T1.tv.row).at' hx) λrow er e920=>?_;obtain⟨a,rfl,rv⟩:=e920;have hrow:=Jac er;have wr:=T1.hw row hrow;refine⟨_,rfl,_,rfl,g,a,p,row,k1,rfl,hg.same s',hp,rv.same s',oz76 m24 wr,T1.gd row hrow,k11,by rw[wr];omega,λt l zs b H2 s2 fl ht rz wz sz bb=>q' _ H2 s2 ⟨t,l,rfl,?_,(Zai hlD fl).symm⟩⟩;rw[Zbf er];rw[wr] at sz bb;exact⟨zs,b,ht,rz,wz,sz,bb⟩
  rw[Jab] at yl
  -- the columns
  refine⟨_,rfl,p,k2,m,w2,t2,r2,rs2,B,rfl,T2.same s1,oz160 m24,oz160 w24,λt3 r3 rs3 H2 s2 nw3 tb3=>?_⟩;have s02:=s1.trans s2;refine Zkq t3 _ 2 _ ⟨rfl,rfl,SqT.of tb3.tv.tup,rfl,r3,rfl,⟨_,SqL.of tb3.tv.lst⟩,λD2 hD2=>?_⟩;have l3:=tb3.tv.row.1;rw[Jab,Jax] at l3;refine Zcu (λi Hc y=>∃ t l,y=.ref t/\WRh Hc p t l (Zmj B i) ((m+1)*k2)/\l≠D2) (λ⟨t,l,e,b,c⟩ s=>⟨t,l,e,b.same s,c⟩) (λ⟨t,l,e,b,c⟩ hD=>⟨t,l,e,b.put hD c,c⟩) tb3.tv.lst hD2 (by rw[Jab];exact oz35 w24 l3) (λi x H' Q' hx s' ⟨lD,hlD⟩ q'=>?_) (λzs H3 s3 e3 zl hzs=>?_)
  .refine Zae ((Zd1 tb3.tv.row).at' hx) λcol ec e921=>?_;obtain⟨a,rfl,rv⟩:=e921;have hi:i<w2:=by
    have:=(Jaf.mp ec).1;rwa [Jab,Jax] at this
   have ecol:col=Zmj B i:=by
    rw[Jad,Jbc hi] at ec;cases ec;rfl
   subst ecol;have cl:(Zmj B i).length=m:=by rw[Jab];exact sB
   refine⟨_,rfl,_,rfl,g,a,p,Zmj B i,k2,rfl,hg.same (s02.trans s'),hp,rv.same s',oz76 m24 cl,Zov T2.hw T2.gd hi,k21,by rw[cl];omega,λt l zs b H4 s4 fl ht rz wz sz bb=>q' _ H4 s4 ⟨t,l,rfl,?_,(Zai hlD fl).symm⟩⟩;rw[cl] at sz bb;exact⟨zs,b,ht,rz,wz,sz,bb⟩
  rw[Jab] at zl;have s03:=s02.trans s3;have s13:=s2.trans s3;have e13:=s13 _ _ e1;refine⟨_,SqT.of (s03 _ _ T1.tv.tup),_,rfl,_,SqT.of (s03 _ _ T2.tv.tup),_,rfl,?_⟩
  -- the rows of the product
  refine⟨_,rfl,D1,rfl,⟨_,SqL.of e13⟩,λD3 hD3=>Zcu (λi Hc y=>∃ a,y=.ref a/\RowV Hc p a ((Zdv p A B w2).getD i [])/\a≠D3/\H3 a=none) (λ⟨a,e,b,c⟩ s=>⟨a,e,b.same s,c⟩) (λ⟨a,e,b,c,d⟩ hD=>⟨a,e,b.put hD c,c,d⟩) e13 hD3 (oz189 n24 la sA yl) (λi x H' Q' hx s' ⟨lD,hlD⟩ q'=>?_) (λus H4 s4 e4 ul hus=>?_)⟩
  .refine Zca (hys i x hx) λti li e922 wri _=>?_;obtain rfl:=e922;have hi:i<A.length:=by have:=(Jaf.mp hx).1;exact oz17 la yl this
   have eA:A[i]?=some A[i]:=Jaa hi;rw[Zbf eA] at wri;have hrow:=Jat hi;have wr:=T1.hw _ hrow;refine⟨_,rfl,D2,rfl,⟨_,SqL.of (s' _ _ e3)⟩,λD4 hD4=>Zcu (λj Hc y=>NumV Hc p y (dotV p A[i] (Zmj B j))) (λk s=>k.same s) (λk hD=>k.put hD) (s' _ _ e3) hD4 (oz87 w24 l3 zl) (λj y Hc Qc hy sc _ qc=>?_) (λvs Hc sc ec vl vn=>?_)⟩
   .refine Zca (hzs j y hy) λtj lj e923 wrj _=>?_;obtain rfl:=e923;have hj:j<w2:=by have:=(Jaf.mp hy).1;exact oz17 l3 zl this
    exact⟨_,rfl,_,rfl,_,rfl,g,ti,li,tj,lj,p,A[i],Zmj B j,(m+1)*k1,(m+1)*k2,rfl,hg.same ((s03.trans s').trans sc),hp,wri.same ((s13.trans s').trans sc),wrj.same (s'.trans sc),∅,by rw[Jab];omega,λx hx=>(T1.gd _ hrow x hx).1,λx hx=>(Zov T2.hw T2.gd hj x hx).1,lim,λv Hd sd nv=>qc v Hd sd nv⟩
   .refine q' _ Hc sc ⟨D4,rfl,⟨vs,ec,?_⟩,(Zai hlD hD4).symm,s'.free hD4⟩;have ep:(Zdv p A B w2).getD i []=(List.range w2).map λj=>dotV p A[i] (Zmj B j):=Zbf (by unfold Zdv;rw[Jad,eA];rfl);rw[ep];refine⟨by rw[Jab,Jax];exact oz25 l3 zl vl,λj v x f1 f2=>?_⟩;have hj:j<w2:=by have:=(Jaf.mp f1).1;exact oz118 l3 zl vl this
    rw[Jad,Jbc hj] at f2;cases f2;exact vn j v f1
  .obtain ⟨rs',rfl,a2,nD,fr⟩:=Zqo (D:=D3) (H1:=H3) (p:=p) (M:=Zdv p A B w2) (by unfold Zdv;rw[Jab];exact oz25 la yl ul) hus;refine⟨⇑0,λt' ht'=>?_⟩;have s5:=Same.new (o:=.tup [V.int n,V.int w2,.ref D3]) ht';refine Zba (Zqt (wd:=w2) hp T1.hl T1.hw T1.gd T2.hl T2.hw T2.gd) λg1 g2 g3=>?_;exact good t' D3 rs' _ ((s03.trans s4).trans s5) ⟨(s03.trans s4).free ht',s03.free hD3,λb hb=>s03.free (fr b hb)⟩ ⟨⟨Zaa,s5 _ _ e4,a2.mono λ_ _ k=>k.same s5,nD⟩,g1,g2,g3⟩
end
end Pf
namespace Pf
open PySem L2 L3 PyProof.Rows
section
variable {F:Type}[Lean.Grind.Field F]
end
end Pf
namespace Pf
open PySem L2 L3 PyProof.Rows
section
variable {G PL cL:Addr}
theorem Znf {H:Hp}{n:Nat}{i j:Int}:EqD K H n (.int i) (.int j) (decide (i=j)):=by
 have:=EqD.flat (K:=K) (H:=H) (n:=n) (x:=.int i) (y:=.int j) rfl rfl;have e:eqV (.int i) (.int j)=decide (i=j):=by
  show (i == j)=decide (i=j);exact Jcb.mpr (by rw[Jbu,Jc2])
 rwa [e] at this
theorem Zk2 {α:Type}{H:Hp}{n:Nat}{a c:Addr}{R:V->α->Prop}{vs us:List V}{xs ys:List α}(hl:xs.length=ys.length)(ha:H a=some (.lst vs))(hc:H c=some (.lst us))(h:All2 R vs xs)(h':All2 R us ys)(uq:∀ v x y,x∈xs->y∈ys->R v x->R v y->x=y)(k:∀ v u x y,x∈xs->y∈ys->R v x->R u y->∃ b,EqD K H n v u b/\(b=true ↔ x=y)):∃ b,EqD K H (n+1) (.ref a) (.ref c) b/\(b=true ↔ xs=ys):=by
 have l1:=h.1;have l2:=h'.1;have key:∀ i,∃ b,i<vs.length->∃ v u x y,vs[i]?=some v/\us[i]?=some u/\xs[i]?=some x/\ys[i]?=some y/\EqD K H n v u b/\(b=true ↔ x=y):=λi=>by
  by_cases hi:i<vs.length
  .have e1:=Jaa hi;have e2:=Jaa (show i<us.length by omega);have e3:=Jaa (show i<xs.length by exact oz3 l1 hi);have e4:=Jaa (show i<ys.length by exact oz17 hl l1 hi);refine Zae (k _ _ _ _ (Jac e3) (Jac e4) (h.2 i _ _ e1 e3) (h'.2 i _ _ e2 e4)) λb hb hb2=>?_;exact⟨b,λ_=>⟨_,_,_,_,e1,e2,e3,e4,hb,hb2⟩⟩
  .exact ⟨true,λz=>absurd z hi⟩
 by_cases hac:a=c
 .subst hac;rw[ha] at hc;cases hc;refine⟨true,.same,λ_=>?_,λ_=>rfl⟩;refine Jcw λi=>?_;by_cases hi:i<vs.length
  .have e1:=Jaa hi;have e3:=Jaa (show i<xs.length by exact oz3 l1 hi);have e4:=Jaa (show i<ys.length by exact oz17 hl l1 hi);rw[e3,e4,uq _ _ _ (Jac e3) (Jac e4) (h.2 i _ _ e1 e3) (h'.2 i _ _ e1 e4)]
  .rw [Jap (oz101 l1 hi),Jap (oz113 hl l1 hi)]
 .refine ⟨((List.range vs.length).map λi=>Classical.choose (key i)).all id,.list hac (SqL.of ha) (SqL.of hc) (oz103 hl l1 l2) (by rw[Jab,Jax]) λj x y b f1 f2 f3=>?_,?_⟩
  .have hj:j<vs.length:=(Jaf.mp f1).1;rw[Jad,Jbc hj] at f3;cases f3;refine Zc6 (Jc3 (key j) hj) λv u x' y' e1 e2 e3 e91=>?_;refine Zba e91 λe4 hq _=>?_;clear e91;rw[e1] at f1;rw[e2] at f2;cases f1;cases f2;exact hq
  .rw [List.all_map,Jbg];constructor
   .intro hall;refine Jcw λi=>?_;by_cases hi:i<vs.length
    .refine Zc6 (Jc3 (key i) hi) λv u x y e1 e2 e3 e92=>?_;refine Zba e92 λe4 hq hxy=>?_;clear e92;rw[e3,e4,hxy.mp (hall i (Ja6.mpr hi))]
    .rw [Jap (oz101 l1 hi),Jap (oz113 hl l1 hi)]
   .rintro rfl i hi;have hi:=Ja6.mp hi;refine Zc6 (Jc3 (key i) hi) λv u x y e1 e2 e3 e93=>?_;refine Zba e93 λe4 hq hxy=>?_;clear e93;rw[e3] at e4;cases e4;exact hxy.mpr rfl
theorem Zrl {H:Hp}{p:Int}{v:V}{x y:Nv}(hx:Isn p x)(hy:Isn p y)(h:NumV H p v x)(h':NumV H p v y):x=y:=by
 by_cases hp:p=0
 .refine Zae (h.ref hp) λt e94 ht=>?_;obtain rfl:=e94;refine Zae (h'.ref hp) λt' e ht'=>?_;cases e;rw[ht] at ht';simp only[Option.some.injEq,HO.tup.injEq,List.cons.injEq,V.int.injEq,and_true] at ht';exact Jed ht'.1 ht'.2
 .obtain rfl:=h.int hp;have e:=h'.int hp;have e1:x.1=y.1:=by simpa using e
  rcases hx with ⟨h,_⟩|⟨_,_,_,h1⟩
  .exact absurd h hp
  .rcases hy with ⟨h,_⟩|⟨_,_,_,h2⟩
   .exact absurd h hp
   .exact Jed e1 (h1.trans h2.symm)
theorem num_eqB {H:Hp}{n:Nat}{p:Int}{v u:V}{x y:Nv}(hx:Isn p x)(hy:Isn p y)(h:NumV H p v x)(h':NumV H p u y):∃ b,EqD K H (n+1) v u b/\(b=true ↔ x=y):=by
 by_cases hp:p=0
 .refine Zae (h.ref hp) λt e95 ht=>?_;obtain rfl:=e95;refine Zae (h'.ref hp) λt' e96 ht'=>?_;obtain rfl:=e96;by_cases e:t=t'
  .subst e;exact⟨true,.same,λ_=>Zrl hx hy h h',λ_=>rfl⟩
  .refine ⟨[decide (x.1=y.1),decide (x.2=y.2)].all id,.tuple e (SqT.of ht) (SqT.of ht') rfl rfl λj a b c f1 f2 f3=>?_,?_⟩
   .match j,f1,f2,f3 with
    | 0,f1,f2,f3=>cases f1;cases f2;cases f3;exact Znf
    | 1,f1,f2,f3=>cases f1;cases f2;cases f3;exact Znf
    | j+2,f1,_,_=>cases f1
   .simp only [Jdj,List.all_nil,id,Jeq,Jbm,Jc2];exact⟨λz=>Jed z.1 z.2,λz=>by rw[z];exact⟨rfl,rfl⟩⟩
 .have e1:=h.int hp;have e2:=h'.int hp;subst e1;subst e2;refine⟨decide (x.1=y.1),Znf,?_⟩;rw[Jc2];refine⟨λz=>?_,λz=>by rw[z]⟩;rcases hx with ⟨h,_⟩|⟨_,_,_,h1⟩
  .exact absurd h hp
  .rcases hy with ⟨h,_⟩|⟨_,_,_,h2⟩
   .exact absurd h hp
   .exact Jed z (h1.trans h2.symm)
theorem Zvt {H:Hp}{p:Int}{a:Addr}{xs ys:List Nv}(hx:∀ x∈xs,Isn p x)(hy:∀ y∈ys,Isn p y)(h:RowV H p a xs)(h':RowV H p a ys):xs=ys:=by
 refine Zae h λvs h1 h2=>?_;clear h;refine Zae h' λus h3 h4=>?_;clear h';rw[h1] at h3;cases h3;have l1:=h2.1;have l2:=h4.1;refine Jcw λi=>?_;by_cases hi:i<vs.length
 .have e1:=Jaa hi;have e3:=Jaa (show i<xs.length by omega);have e4:=Jaa (show i<ys.length by omega);rw[e3,e4,Zrl (hx _ (Jac e3)) (hy _ (Jac e4)) (h2.2 i _ _ e1 e3) (h4.2 i _ _ e1 e4)]
 .rw [Jap ∅,Jap ∅]
theorem Zqp {H:Hp}{n:Nat}{p:Int}{a c:Addr}{xs ys:List Nv}(hl:xs.length=ys.length)(hx:∀ x∈xs,Isn p x)(hy:∀ y∈ys,Isn p y)(h:RowV H p a xs)(h':RowV H p c ys):∃ b,EqD K H (n+2) (.ref a) (.ref c) b/\(b=true ↔ xs=ys):=by
 refine Zae h λvs h1 h2=>?_;clear h;refine Zae h' λus h3 h4=>?_;clear h';exact Zk2 hl h1 h3 h2 h4 (λv x y m1 m2=>Zrl (hx x m1) (hy y m2)) (λv u x y m1 m2=>num_eqB (hx x m1) (hy y m2))
theorem tab_eqB {H:Hp}{p:Int}{n wd:Nat}{t r t' r':Addr}{rs rs':List Addr}{M N:Mv}(mM:Mat p n wd M)(mN:Mat p n wd N)(h:TabV H p n wd t r rs M)(h':TabV H p n wd t' r' rs' N):∃ bs,Zer K H 6 [.int n,.int wd,.ref r] [.int n,.int wd,.ref r'] bs/\(bs.all id=true ↔ M=N):=by
 obtain⟨b,hb,e⟩:=Zk2 (K:=K) (H:=H) (n:=5) (R:=λv x=>∃ a,v=.ref a/\RowV H p a x) (mM.hl.trans mN.hl.symm) h.lst h'.lst (Zd1 h.row) (Zd1 h'.row)
  (λv x y m1 m2 ⟨a,ea,ha⟩ ⟨c,ec,hc⟩=>by subst ea;cases ec;exact Zvt (mM.is x m1) (mN.is y m2) ha hc)
  (λv u x y m1 m2 ⟨a,ea,ha⟩ ⟨c,ec,hc⟩=>by subst ea;subst ec;exact Zqp (n:=3) ((mM.hw x m1).trans (mN.hw y m2).symm) (mM.is x m1) (mN.is y m2) ha hc)
 refine⟨[true,true,b],⟨rfl,rfl,λj x y c f1 f2 f3=>?_⟩,?_⟩
 .match j,f1,f2,f3 with
  | 0,f1,f2,f3=>cases f1;cases f2;cases f3;exact Zgy
  | 1,f1,f2,f3=>cases f1;cases f2;cases f3;exact Zgy
  | 2,f1,f2,f3=>cases f1;cases f2;cases f3;exact hb
  | j+3,f1,_,_=>cases f1
 .rw [<- e];simp
end
end Pf
namespace Pf
open PySem L2 L3 PyProof.Rows
theorem Zff {p:Int}(hp:GroundP p)(n:Nat):Mat p n n (Zei n):=by
 obtain⟨i0,i1⟩:=Zrx hp;refine⟨by rw[Jab,Jax],λxs hx=>?_,λxs hx x hxx=>?_⟩
 .refine Zae (Ja2.mp hx) λi _ e91=>?_;obtain rfl:=e91;rw[Jcc,Jav]
 .refine Zae (Ja2.mp hx) λi _ e92=>?_;obtain rfl:=e92;rcases Jbk hxx with h|h
  .rw [List.eq_of_mem_replicate h];exact i0
  .rw [h];exact i1
section
variable {p:Int}{k n:Nat}{M S R:Mv}{pl:List Nat}
end
end Pf
namespace Pf
open PySem L2 L3 PyProof.Rows
section
variable {C PL:Addr}
theorem TabB.tab {H:Hp}{p:Int}{k n wd:Nat}{t r:Addr}{rs:List Addr}{M:Mv}(h:TabB H p k n wd t r rs M)(hk:k<=1000000):Tab H p n wd t r rs:=by
 have hl:=h.tv.row.1;have h2:=h.hl;refine⟨h.tv.tup,h.tv.lst,∅,λa ha=>?_,h.tv.nin⟩;obtain⟨i,hi,rfl⟩:=Ja4.mp ha;refine Zae (h.tv.row.at' (Jaa hi)) λxs ex e93=>?_;obtain⟨vs,hv,al⟩:=e93;have hx:=Jac ex;refine⟨vs,hv,by rw[al.1,h.hw xs hx],λv hvm=>?_⟩;obtain⟨j,hj,rfl⟩:=Ja4.mp hvm;refine Zae (al.at' (Jaa hj)) λx e2 nv=>?_;refine Zba (h.gd xs hx x (Jac e2)) λi1 b1 b2=>?_;exact⟨x,nv,i1,Znn b1 hk,Znn b2 hk⟩
def ChL (H:Hp)(p:Int)(k:Nat)(l:Addr)(ts:List Addr)(ns:List Int)(Cs:List Mv):Prop:=H l=some (.lst (ts.map V.ref))/\ts.length=ns.length/\∀ (i:Nat) t n,ts[i]?=some t->ns[i]?=some n->∃ r rs,TabB H p k n.toNat n.toNat t r rs (Cs.getD i [])
theorem ChL.same {H H':Hp}{p:Int}{k:Nat}{l:Addr}{ts:List Addr}{ns:List Int}{Cs:List Mv}(h:ChL H p k l ts ns Cs)(s:Same H H'):ChL H' p k l ts ns Cs:=⟨s _ _ h.1,h.2.1,λi t n e1 e2=>let ⟨r,rs,tb⟩:=h.2.2 i t n e1 e2;⟨r,rs,tb.same s⟩⟩
structure StA (S C G:Addr)(H:Hp)(x:Addr)(p m:Int)(ns:List Int)(dx g d z l lp:Addr)(xs:List V):Prop where
 ins:H x=some (.ins S dx (Zh6 g d z l))
 grd:GAt G H g p
 drw:Zez C H d m lp xs
 szs:Sizes H z ns
 hm:(ns.length:Int)=m
theorem StA.same {S G:Addr}{H H':Hp}{x:Addr}{p m:Int}{ns:List Int}{dx g d z l lp:Addr}{xs:List V}(h:StA S C G H x p m ns dx g d z l lp xs)(s:Same H H'):StA S C G H' x p m ns dx g d z l lp xs:=
 ⟨s _ _ h.ins,h.grd.same s,(let ⟨a,b,c⟩:=h.drw;⟨a,s _ _ b,s _ _ c⟩),h.szs.same s,h.hm⟩
def spAc (S C G:Addr):L2.Sp:=λvs H Q _=>∃ (x c dx g d z l lp:Addr) (p m:Int) (k:Nat) (xs:List V) (ns:List Int) (ts:List Addr) (Cs:List Mv),vs=[.ref x,.ref c]/\StA S C G H x p m ns dx g d z l lp xs/\GroundP p/\ChL H p k c ts ns Cs/\k<=1000000/\∀ H',Same H H'->Q (.bl true) H'
theorem ok_ac (F:Fun K "are_changes" "are_changes" Zdg f fd)(T:Txt K mg C G S)(Yao:Cal P w K mg base "is_table_of" 9 (spTo G)):FnOk P w K mg base CX0 10 f fd ["standing","thing"] (spAc S C G):=by
 have nd:=Zcs.nd;refine F.ok Zcs (λvs H Q E h=>?_) (λcdv A outer s H vs Q E hr h=>?_)
 .refine Znq h λx c dx g d z l lp p m k xs ns ts Cs e94 _=>?_;clear h;obtain rfl:=e94;rfl
 .refine Znp h λx c dx g d z l lp p m k xs ns ts Cs e95 st hp e96=>?_;clear h;obtain rfl:=e95;refine Zba e96 λhc hk q=>?_;clear e96;refine⟨_,((@Zay _ _ _ _ _ _ _ _ (PW.pt (Zce (Za9 (Zbb (Za1 Zax rfl T.n_isinstance Jbb ((pvr 1)<&>((Zfs rfl T.n_list Jcg)<&>Zab))))) (Zbj (Zak Zft (Za1 Zao rfl T.n_len Jba ((pvr 1)<&>Zab)) (Zcg (Za3 (pvr 0) rfl) rfl) (Zah _))))) (~~~Zbm) Zaj)<*>(~~~(Za1 (Zbu rfl) rfl T.n_all Jc6 ((Za0 (own:=["size","table"]) (fr:=[("standing",0)]) rfl (Zbi (by kernel_rfl)) (Zlx rfl T.n_zip ((Zcg (pv 0) rfl)<&>((pv 1)<&>Zab))) (λ_ _ _ _=>⟨(@Zda _ K rfl _ _ _ _ 2 rfl ((0<<<["size","table","standing"])^^^((1<<<["size","table","standing"])^^^(@Za6 _))) ⇑1 ⇑1),Zat,(Yao<$>hr<$>((Zkz K rfl (pv 2) rfl)<&>((pv 0)<&>((pv 0)<&>((pv 1)<&>Zab)))))⟩))<&>Zab)))),?_⟩;walk_at "wp";refine Zae st.drw λdd hd hlp=>?_;have hm:=st.hm;have hcl:=hc.2.1;refine Zaq _ _ ⟨⟨rfl,rfl⟩,_,rfl,_,.lst hc.1,true,Zb9 K,Zcj ⇑0 ⟨_,.inl (SqL.of hc.1),S,dx,_,st.ins,T.cl_Standing,T.nSd,_,Zbz ..,d,rfl,C,dd,_,hd,T.cl_Drawing,T.nM,_,Zdz m lp,rfl,Zcj ?_ ?_⟩⟩
  .rw [Jah (by rw[Jab];congr 1;exact oz12 hm hcl)];decide
  .refine ⟨_,rfl,x,S,dx,_,_,rfl,st.ins,T.cl_Standing,T.nSs,Zd2 ..,_,rfl,z,c,rfl,⟨_,SqL.of st.szs.1⟩,⟨_,SqL.of hc.1⟩,λD hD=>?_⟩;refine Zg4 (k:=2) (xs:=ns.map V.int) (ys:=ts.map V.ref) (λi vs H'=>Same H H'/\H' D=some (.lst vs)/\vs=((List.range i).map λ_=>true).map V.bl) (by rw[Jab,Jab];exact oz30 hcl) ⟨Same.new hD,Zaa,rfl⟩ (λi vs H' _ pv=>⟨SqL.of (pv.1 _ _ st.szs.1),SqL.of (pv.1 _ _ hc.1)⟩) ?_ ?_
   .intro i v y pz vs σ' H' hi hx hy hpz sh e91;refine Zba e91 λs' e' e97=>?_;clear e91;obtain rfl:=e97;refine Zfq sh.two λz1 z2 e98=>?_;obtain rfl:=e98;rw[Jab] at hi;refine Zae (Zjj hx) λn hn e99=>?_;obtain rfl:=e99;have hti:ts[i]?=some (ts[i]'(Zly hcl hi)):=Jaa (Zly hcl hi);rw[Jad,hti] at hy;cases hy;refine Zfq (hc.2.2 i _ n hti hn) λr rs tb=>?_;have n0:=st.szs.2.2 n (Jac hn);have n8:=st.szs.2.1;have tb1:=tb.tab hk;rw[Jbj n0.1] at tb1;have s0:=s'.trans (Same.new (o:=.tup [V.int n,V.ref (ts[i]'(Zly hcl hi))]) hpz);have st0:=st.same s0;refine Zaq pz _ ⟨rfl,SqT.of Zaa,rfl,_,_,rfl,_,_,rfl,rfl,?_⟩;simp only[Ze0,List.set_cons_zero,List.set_cons_succ,Jb9];refine⟨_,rfl,x,S,dx,_,_,rfl,st0.ins,T.cl_Standing,T.nSg,Zc1 ..,_,rfl,_,rfl,_,rfl,g,_,r,p,n,n,rs,rfl,st0.grd,hp,tb1.same s0,n0.1,n0.2,n0.1,n0.2,λH'' s''=>?_⟩;have s1:=(Same.new (o:=.tup [V.int n,V.ref (ts[i]'(Zly hcl hi))]) hpz).trans s'';exact Zk3 (ws:=((List.range (i+1)).map λ_=>true).map V.bl) (by rw[Jab];exact hi) Sh.mk2 (s1 _ _ e') (Zan (by rw[Jab,Jab,Jax];exact oz67 hi n8)) ⟨(s'.trans s1).upd hD,by rw[Zaa,Jcv,Ja7,Ja7];rfl,rfl⟩
   .intro vs H' e92;refine Zba e92 λs' e' e910=>?_;clear e92;obtain rfl:=e910;exact⟨D,rfl,_,SqL.of e',by rw[Zfp];exact q H' s'⟩
end
end Pf
namespace Pf
open PySem L2 PyProof.Rows
theorem Zky {X:Cx}{e:Expr}:PE X e (λ_ _ _=>False):=λ_ _ _ _ _ _ h=>h.elim
section
variable {C G S:Addr}
end
end Pf
namespace Pf
open PySem L2 L3 PyProof.Rows
section
variable {C PL:Addr}
abbrev Tc:=Int×Int×List (List V)
def nz (ns:List Int)(i:Int):Nat:=(ns.getD i.toNat 0).toNat
theorem Zpb {H:Hp}{z:Addr}{ns:List Int}(h:Sizes H z ns)(i:Int):nz ns i<=24/\((nz ns i:Nat):Int)=ns.getD i.toNat 0:=by
 unfold nz;by_cases q:i.toNat<ns.length
 .have:=h.2.2 _ (Zco (d:=0) q);exact oz110 this
 .rw [Jae,Jap ∅];exact⟨⇑0,rfl⟩
def TbL (H:Hp)(p:Int)(k:Nat)(l:Addr)(ts:List Addr)(ps:List (Int×Int))(ns:List Int)(Ms:List Mv):Prop:=H l=some (.lst (ts.map V.ref))/\ts.length=ps.length/\∀ (i:Nat) t q,ts[i]?=some t->ps[i]?=some q->∃ r rs,TabB H p k (nz ns q.2) (nz ns q.1) t r rs (Ms.getD i [])
theorem TbL.same {H H':Hp}{p:Int}{k:Nat}{l:Addr}{ts:List Addr}{ps:List (Int×Int)}{ns:List Int}{Ms:List Mv}(h:TbL H p k l ts ps ns Ms)(s:Same H H'):TbL H' p k l ts ps ns Ms:=⟨s _ _ h.1,h.2.1,λi t n e1 e2=>let ⟨r,rs,tb⟩:=h.2.2 i t n e1 e2;⟨r,rs,tb.same s⟩⟩
structure StB (H0:Hp)(S C G:Addr)(H:Hp)(x:Addr)(p m:Int)(ps:List (Int×Int))(ns:List Int)(k:Nat)(Ms:List Mv)(dx g d z l lp:Addr)(xs:List V)(ts:List Addr):Prop where
 sa:StA S C G H x p m ns dx g d z l lp xs
 prs:Prs H xs ps
 lst:H l=some (.lst (ts.map V.ref))
 len:ts.length=ps.length
 tbs:∀ (i:Nat) t q,ts[i]?=some t->ps[i]?=some q->∃ r rs,TabB H p k (nz ns q.2) (nz ns q.1) t r rs (Ms.getD i [])/\New H0 t r rs
 nz:H0 z=none
 nl:H0 l=none
theorem StB.same {H0:Hp}{S G:Addr}{H H':Hp}{x:Addr}{p m:Int}{ps:List (Int×Int)}{ns:List Int}{k:Nat}{Ms:List Mv}{dx g d z l lp:Addr}{xs:List V}{ts:List Addr}(h:StB H0 S C G H x p m ps ns k Ms dx g d z l lp xs ts)(s:Same H H'):StB H0 S C G H' x p m ps ns k Ms dx g d z l lp xs ts:=
 ⟨h.sa.same s,h.prs.same s,s _ _ h.lst,h.len,λi t q e1 e2=>let ⟨r,rs,tb,nw⟩:=h.tbs i t q e1 e2;⟨r,rs,tb.same s,nw⟩,h.nz,h.nl⟩
theorem tabB_of {H H':Hp}{p:Int}{k n wd:Nat}{t r t' r':Addr}{rs rs':List Addr}{M:Mv}{MV:List (List V)}(tb:TabB H p k n wd t r rs M)(tc:TabC H p n wd t r rs MV)(s:Same H H')(tc':TabC H' p n wd t' r' rs' MV):TabB H' p k n wd t' r' rs' M:=by
 have l1:=tc.tab.len;have l2:=tc'.tab.len;have l3:=tb.tv.row.1;refine⟨⟨tc'.tab.tup,tc'.tab.lst,⟨oz221 l1 l2 l3,λi a xs e1 e2=>?_⟩,tc'.tab.nin⟩,tb.hl,tb.hw,tb.gd⟩;have hi:=(Jaf.mp e2).1;refine Zae (tb.tv.row.at (i:=i) e2) λb eb e91=>?_;obtain⟨vs,hv,al⟩:=e91;have h1:=tc.con i b eb;rw[hv] at h1;have e3:vs=MV.getD i []:=by cases h1;rfl
 refine⟨MV.getD i [],tc'.con i a e1,?_⟩;rw[<- e3];exact al.mono λ_ _ q=>q.same s
theorem Zil {S G:Addr}{H:Hp}{x dx g d z l lp:Addr}{p m:Int}{k:Nat}{xs:List V}{ps:List (Int×Int)}{ns:List Int}{ts:List Addr}{Ms:List Mv}{Q:VK}{E:XK}(hx:H x=none)(hdx:H dx=none)(ndx:dx≠x)(hg:GAt G H g p)(hp:GroundP p)(hd:Zez C H d m lp xs)(pr:Prs H xs ps)(ip:InP m ps)(p9:ps.length<=9)(hz:Sizes H z ns)(hm:(ns.length:Int)=m)(hT:TbL H p k l ts ps ns Ms)(hk:k<=1000000)(q:∀ (dx z' l':Addr) (ts':List Addr) (H':Hp),Same H H'->StB H S C G H' x p m ps ns k Ms dx g d z' l' lp xs ts'->Q .non H'):spSI S C G [.ref x,.ref g,.ref d,.ref z,.ref l] (upd (upd H dx (.own x)) x (.ins S dx [])) Q E:=by
 have fx:(upd H dx (.own x)) x=none:=by rw[Zal ndx.symm];exact hx
 have sx:Same H (upd (upd H dx (.own x)) x (.ins S dx [])):=(Same.new hdx).trans (Same.new fx);refine Zae hd λdd hd1 hd2=>?_;clear hd;have hl:=hT.2.1;obtain⟨cs,hcs⟩:=All2.pick (xs:=List.range ps.length) (P:=λi (c:Tc)=>∃ (t r:Addr) (rs:List Addr) (qq:Int×Int),ts[i]?=some t/\ps[i]?=some qq/\TabB H p k (nz ns qq.2) (nz ns qq.1) t r rs (Ms.getD i [])/\c.1=(nz ns qq.2:Nat)/\c.2.1=(nz ns qq.1:Nat)/\TabC H p c.1 c.2.1 t r rs c.2.2) λi hi=>by
  have hi:=Ja6.mp hi;have e1:ts[i]?=some (ts[i]'(Zly hl hi)):=Jaa _;have e2:ps[i]?=some ps[i]:=Jaa hi;refine Zfq (hT.2.2 i _ _ e1 e2) λr rs tb=>?_;obtain⟨MV,tc⟩:=(tb.tab hk).toC;exact Zlh (_,_,MV) _ r rs _ ⟨e1,e2,tb,rfl,rfl,tc⟩
 have cl:cs.length=ps.length:=by have:=hcs.1;rw[Jax] at this;exact oz50 this
 have at1:∀ (i:Nat) c,cs[i]?=some c->∃ (t r:Addr) (rs:List Addr) (qq:Int×Int),ts[i]?=some t/\ps[i]?=some qq/\TabB H p k (nz ns qq.2) (nz ns qq.1) t r rs (Ms.getD i [])/\c.1=(nz ns qq.2:Nat)/\c.2.1=(nz ns qq.1:Nat)/\TabC H p c.1 c.2.1 t r rs c.2.2:=λi c e=>by
  refine Zae (hcs.at (i:=i) e) λj ej h=>?_;have hi:=(Jaf.mp e).1;rw[Jbc (oz3 cl hi)] at ej;cases ej;exact h
 have tbs:Tbs H p l ts cs:=by
  refine⟨hT.1,∅,∅,λi t c e1 e2=>?_⟩;refine Zc6 (at1 i c e2) λt' r rs qq f1 f2 tb e92=>?_;refine Zba e92 λc1 c2 tc=>?_;clear e92;rw[e1] at f1;cases f1;have n1:=Zpb hz qq.1;have n2:=Zpb hz qq.2;exact⟨⟨r,rs,tc⟩,oz85 c1,oz96 c1 n2,oz85 c2,oz96 c2 n1⟩
 have ft:Fits ns cs ps:=⟨cl,λi c qq e1 e2=>by
  refine Zc6 (at1 i c e1) λt' r rs q' f1 f2 tb e93=>?_;refine Zba e93 λc1 c2 tc=>?_;clear e93;rw[e2] at f2;cases f2;rw[c1,c2,(Zpb hz qq.1).2,(Zpb hz qq.2).2];exact⟨rfl,rfl⟩⟩
 refine Zvg x dx g d z l lp p m xs ps ns ts cs ⟨rfl,Zaa,hg.same sx,hp,⟨dd,sx _ _ hd1,sx _ _ hd2⟩,pr.same sx,ip,p9,hz.same sx,hm,tbs.same sx,ft,λz' l' ts' H' ex hx' fz fl' hz' hl' hn' ht'=>?_⟩;have sH:Same H H':=Same.thru sx hx ex;refine q dx z' l' ts' H' sH ⟨⟨hx',hg.same sH,⟨dd,sH _ _ hd1,sH _ _ hd2⟩,hz',hm⟩,pr.same sH,hl',∅,λi t qq e1 e2=>?_,sx.free fz,sx.free fl'⟩;have hi:=(Jaf.mp e1).1;have ec:cs[i]?=some (cs[i]'(by omega)):=Jaa _;refine Zc6 (at1 i _ ec) λt' r rs q' f1 f2 tb e94=>?_;refine Zba e94 λc1 c2 tc=>?_;clear e94;rw[e2] at f2;cases f2;refine Zf2 (ht' i t _ e1 ec) λr' rs' tc' ft' fr' fs'=>?_;rw[c1,c2] at tc tc';exact Zaq r' rs' ⟨tabB_of tb tc sH tc',sx.free ft',sx.free fr',λa ha=>sx.free (fs' a ha)⟩
theorem TabB.le {H:Hp}{p:Int}{k k' n wd:Nat}{t r:Addr}{rs:List Addr}{M:Mv}(h:TabB H p k n wd t r rs M)(hk:k<=k'):TabB H p k' n wd t r rs M:=⟨h.tv,h.hl,h.hw,λxs hx x hxx=>let ⟨a,b,c⟩:=h.gd xs hx x hxx;⟨a,b.le hk,c.le hk⟩⟩
theorem TabB.put {H:Hp}{D:Addr}{l:List V}{o:HO}{p:Int}{k n wd:Nat}{t r:Addr}{rs:List Addr}{M:Mv}(h:TabB H p k n wd t r rs M)(hD:H D=some (.lst l))(nr:r≠D)(ns:D∉rs):TabB (upd H D o) p k n wd t r rs M:=⟨h.tv.put hD nr ns,h.hl,h.hw,h.gd⟩
theorem cutF {wi:TI}{g:TG}{tb:TS}{D:Ends}{σ:L2.St}{H:Hp}(h:∀ tb',tb'=tb->tFor wi g tb' D σ H):tFor wi g tb D σ H:=h tb rfl
def chM (p:Int)(ns:List Int)(ps:List (Int×Int))(Bs Ms Cs:List Mv)(i:Nat):Mv:=Zdv p (Bs.getD (ps.getD i (0,0)).2.toNat []) (Zdv p (Ms.getD i []) (Cs.getD (ps.getD i (0,0)).1.toNat []) (nz ns (ps.getD i (0,0)).1)) (nz ns (ps.getD i (0,0)).1)
end
end Pf
namespace Pf
open PySem L2 PyProof.Rows
section
variable {C G S:Addr}
theorem Zk7 {H:Hp}{n:Nat}(i j:Int):EqD K H n (.int i) (.int j) (decide (i=j)):=by
 have:=EqD.flat (K:=K) (H:=H) (n:=n) (x:=.int i) (y:=.int j) rfl rfl;rwa [show eqV (.int i) (.int j)=decide (i=j) by simp only[eqV];rw[Jcb];simp] at this
theorem Zty {H:Hp}{n:Nat}{t u:Addr}{q r:Int×Int}(ht:H t=some (.tup [.int q.1,.int q.2]))(hu:H u=some (.tup [.int r.1,.int r.2])):EqD K H (n+1) (.ref t) (.ref u) (decide (q=r)):=by
 by_cases h:t=u
 .subst h;rw[ht] at hu;have:q=r:=by
   injection hu with hu
   injection hu with hu
   injection hu with a b
   injection b with b c
   injection a with a
   injection b with b
   exact Jed a b
  rw[Jah this];exact .same
 .have:=EqD.tuple (n:=n) (bs:=[decide (q.1=r.1),decide (q.2=r.2)]) h (SqT.of (K:=K) ht) (SqT.of hu) rfl rfl λj x y b e1 e2 e3=>by
   match j,e1,e2,e3 with
   | 0,e1,e2,e3=>cases e1;cases e2;cases e3;exact Zk7 _ _
   | 1,e1,e2,e3=>cases e1;cases e2;cases e3;exact Zk7 _ _
   | j+2,e1,_,_=>cases e1
  have e:[decide (q.1=r.1),decide (q.2=r.2)].all id=decide (q=r):=by
   simp only[Jdj,List.all_nil,id,Jeq];rw[<- Bool.decide_and];exact Jdy.mpr ⟨λ⟨a,b⟩=>Jed a b,λh=>h ▸ ⟨rfl,rfl⟩⟩
  rwa [e] at this
theorem Zsz {α:Type}[DecidableEq α]:∀ {xs ys:List α},xs.length=ys.length->(List.zipWith (λa b=>decide (a=b)) xs ys).all id=decide (xs=ys)
 | [],[],_=>rfl
 | x::xs,y::ys,h=>by
  have ih:=Zsz (xs:=xs) (ys:=ys) (by simpa using h);rw[List.zipWith_cons_cons,Jdj,ih];simp only[id];rw[<- Bool.decide_and];exact Jdy.mpr ⟨λ⟨a,b⟩=>by rw[a,b],λh=>by injection h with a b;exact⟨a,b⟩⟩
 | [],_::_,h=>by simp at h
 | _::_,[],h=>by simp at h
theorem prs_eqB {H:Hp}{xs ys:List V}{ps qs:List (Int×Int)}(h:Prs H xs ps)(h':Prs H ys qs)(hl:ps.length=qs.length):Zer K H 6 xs ys (List.zipWith (λa b=>decide (a=b)) ps qs):=by
 have l1:=h.1;have l2:=h'.1;refine⟨oz103 hl l1 l2,by rw[List.length_zipWith];exact oz56 hl l1,λj x y b e1 e2 e3=>?_⟩;have j1:j<ps.length:=by have:=(Jaf.mp e1).1;exact oz3 l1 this
 refine Zae (h.2 j x _ e1 (Jaa j1)) λt e91 ht=>?_;obtain rfl:=e91;refine Zae (h'.2 j y _ e2 (Jaa (oz3 hl j1))) λu e92 hu=>?_;obtain rfl:=e92;rw[List.getElem?_zipWith,Jaa j1,Jaa (show j<qs.length by exact oz3 hl j1)] at e3;cases e3;exact Zty ht hu
def spOn (S C G:Addr):Sp:=λvs H Q _=>∃ (x dx g d z l g' d' lp lp':Addr) (p p' m m':Int) (xs ys:List V) (ps qs:List (Int×Int)),vs=[.ref x,.ref g',.ref d']/\H x=some (.ins S dx (Zh6 g d z l))/\GAt G H g p/\GAt G H g' p'/\Zez C H d m lp xs/\Zez C H d' m' lp' ys/\Prs H xs ps/\Prs H ys qs/\Q (.bl (decide (p=p'/\m=m'/\ps=qs))) H
theorem ok_on (F:Fun K "stands_on" "stands_on" Zf6 f fd)(T:Txt K mg C G S):FnOk P w K mg base CX0 1 f fd ["standing","ground","drawing"] (spOn S C G):=by
 have nd:=Zhv.nd;refine F.ok Zhv (λvs H Q E h=>?_) (λcdv A outer s H vs Q E hr h=>?_)
 .refine Zvi h λx dx g d z l g' d' lp lp' p p' m m' xs ys ps qs e93 _=>?_;clear h;obtain rfl:=e93;rfl
 .refine Zvh h λx dx g d z l g' d' lp lp' p p' m m' xs ys ps qs e94 hx e95 e96=>?_;clear h;obtain rfl:=e94;obtain⟨dg,hg⟩:=e95;refine Zih e96 λe97 e98 e99 pr pr' q=>?_;clear e96;obtain⟨dg',hg'⟩:=e97;obtain⟨dd,hd,hlp⟩:=e98;obtain⟨dd',hd',hlp'⟩:=e99;refine⟨_,((@Zay _ _ _ _ _ _ _ _ (PW.pt (Zce (Zak Zft (Zcg (Za3 (pvr 0) rfl) rfl) (Za3 (pvr 1) rfl) (Zah _)) (Zbj (Zak Zft (Zcg (Za3 (pvr 0) rfl) rfl) (Za3 (pvr 2) rfl) (Zah _))))) (~~~Zbm) Zaj)<*>(~~~(Zbx (op_eqL (Zh7 hr)) (Zcg (Za3 (pvr 0) rfl) rfl) (Za3 (pvr 2) rfl) (Zah _)))),?_⟩;walk_at "wp";refine Zbv S dx _ ⟨hx,T.cl_Standing,T.nSg,_,Zc1 ..,g,rfl,G,dg,_,hg,T.cl_Ground,T.nP,_,Zcp p,G,dg',_,hg',T.cl_Ground,T.nP,_,Zcp p',rfl,Zb5 (λhc=>?_) (λhc=>?_)⟩
  .have:¬ p=p':=by simpa using hc
   rw[Jam (λh=>this h.1)] at q;exact q
  .have e1:p=p':=by simpa using hc
   refine Zbv S dx _ ⟨hx,T.cl_Standing,T.nSd,_,Zbz ..,d,rfl,C,dd,_,hd,T.cl_Drawing,T.nM,_,Zdz m lp,C,dd',_,hd',T.cl_Drawing,T.nM,_,Zdz m' lp',rfl,Zb5 (λhc=>?_) (λhc=>?_)⟩
   .have:¬ m=m':=by simpa using hc
    rw[Jam (λh=>this h.2.1)] at q;exact q
   .have e2:m=m':=by simpa using hc
    refine Zbv S dx _ ⟨hx,T.cl_Standing,T.nSd,_,Zbz ..,d,rfl,C,dd,_,hd,T.cl_Drawing,T.nA,_,Zcq m lp,C,dd',_,hd',T.cl_Drawing,T.nA,_,Zcq m' lp',?_⟩;by_cases hl:ps.length=qs.length
    .refine ⟨lp,rfl,lp',rfl,_,SqL.of hlp,_,SqL.of hlp',.inr ⟨_,prs_eqB pr pr' hl,?_⟩⟩;rw[Zsz hl];have:decide (p=p'/\m=m'/\ps=qs)=decide (ps=qs):=Jdy.mpr ⟨λh=>h.2.2,λh=>⟨e1,e2,h⟩⟩;rw[this] at q;exact q
    .refine ⟨lp,rfl,lp',rfl,_,SqL.of hlp,_,SqL.of hlp',.inl ⟨by rw[pr.1,pr'.1];exact hl,?_⟩⟩;rw[Jam (λh=>hl (by rw[h.2.2]))] at q;exact q
theorem Zue (F:Fun K "_law_drawing" "_law_drawing" Zek f fd)(T:Txt K mg C G S)(Yaa:Cal P w K mg base "_law_draw" 1 Zc0):FnOk P w K mg base CX0 2 f fd ["_law_bag_here"] (spOut way0):=by
 have nd:=Zfv.nd;refine F.ok Zfv (λvs H Q E h=>?_) (λcdv A outer s H vs Q E hr h=>?_)
 .refine Zca h λl r e95 e96 _=>?_;clear h;obtain rfl:=e95;obtain rfl:=e96;rfl
 .refine Zf2 h λl r e97 e98 hb q=>?_;clear h;obtain rfl:=e97;obtain rfl:=e98;refine⟨_,((1|||nd|||(Zc3<|>Zac<&&>(Yaa<$>hr<$>((pvr 0)<&>(Zac<&>Zab)))))<*>((@Zay _ _ _ _ _ _ _ _ (Zak Zby (Yaa<$>hr<$>((pvr 0)<&>(Zac<&>Zab))) Zac (Zah _)) (@Zau _ _ _ (1|||nd|||Zac)) Zaj)<*>((2|||nd|||(Yaa<$>hr<$>((pvr 0)<&>(Zac<&>Zab))))<*>((Zfc (i:=3) (own:=["_law_k"]) (fr:=[]) rfl (Zbi (by kernel_rfl)) (Zge rfl T.n_range ((Zgv<|>(pv 1)<&&>Zac)<&>Zab)) (λ_ _ _ _=>⟨(0<<<["_law_k"]),Zat,(@Zam _ _ _ _ _ ((pv 0)<&>((Zc3<|>(pv 0)<&&>Zac)<&>Zab)))⟩) nd rfl rfl rfl)<*>((@Zay _ _ _ _ _ _ _ _ (Zak (Ze2 Zby) (pvr 2) Zac (Zah _)) ((1|||nd|||Zac)<*>(@Zau _ _ _ (3|||nd|||(@Zar _ _ _ _ ((@Zam _ _ _ _ _ (Zac<&>(Zac<&>Zab)))<&>((@Zam _ _ _ _ _ (Zac<&>(Zac<&>Zab)))<&>((@Zam _ _ _ _ _ (Zac<&>(Zac<&>Zab)))<&>Zab))))))) Zaj)<*>((@Zay _ _ _ _ _ _ _ _ (Zak (Ze2 Zby) (pvr 2) Zac (Zah _)) ((3|||nd|||(@Zar _ _ _ _ Zab))<*>(@Zau _ _ _ (Zgs Jbr rfl (Zge rfl T.n_range ((Yaa<$>hr<$>((pv 0)<&>(Zac<&>Zab)))<&>Zab)) (4>>>nd) ((5|||nd|||(Yaa<$>hr<$>((pvr 0)<&>((pvr 1)<&>Zab))))<*>(@Zau _ _ _ (Zgd (Zm3 Jb0 Jbw Jbx (mtJ Zc4) (pvr 3) ((@Zam _ _ _ _ _ ((pvr 5)<&>((Yaa<$>hr<$>((pvr 0)<&>((pvr 1)<&>Zab)))<&>Zab)))<&>Zab)))))))) Zaj)<*>((6|||nd|||(@Zar _ _ _ _ Zab))<*>((Zgs Jbr rfl (Zbd (pv 3)) (@Zc2 _ _ _ _ _ 2 rfl ((5>>>nd)^^^((7>>>nd)^^^(@Za6 _))) ⇑1 ⇑1) ((8|||nd|||(Yaa<$>hr<$>((pvr 0)<&>(Zac<&>Zab))))<*>(@Zau _ _ _ (Zgd (Zm3 Jb0 Jbw Jbx (mtJ Zc4) (pvr 6) ((Za7<|>(@Zar _ _ _ _ ((@Zam _ _ _ _ _ ((pvr 5)<&>((pvr 7)<&>Zab)))<&>((@Zam _ _ _ _ _ ((pvr 7)<&>((pvr 5)<&>Zab)))<&>Zab)))<||>(pvr 8))<&>Zab))))))<*>(~~~(@Zam _ _ _ _ _ ((pvr 1)<&>((pvr 6)<&>Zab)))))))))))),?_⟩;refine Zb3 λX hX=>?_;walk_at "wp";refine hb.draw ⇑0 ⇑0 λr H1 r0 r1 e1 b1=>⟨r,rfl,?_⟩
  subst hX;refine Zb3 λX2 hX2=>?_;have aft:∀ (m:Int) H2,1<=m->m<=8->Ext l H H2->Bag H2 l->X2 { nx:=λx H'=>Q V.non H',rt:=Q } [some (.ref l),some (.int m),none,none,none,none,none,none,none] H2:=by
   intro m H2 m1 m8 e2 b2;subst hX2;refine cut2 λX3 hX3=>?_;walk_at "wp";refine b2.draw ⇑0 ⇑0 λw0 H3 w1 w2 e3 b3=>⟨_,rfl,_,_,rfl,rfl,_,rfl,∅,∅,λD hD=>Zpm (m:=m) (λi=>0+(i:Int)) (λi=>0+(i:Int)+1) hD ∅ (λi H Q _ h=>⟨_,rfl,h⟩) (λi H Q _ h=>⟨_,rfl,_,_,rfl,rfl,h⟩) (λi hi=>⟨Zt1,oz166 hi,∅,oz159 hi⟩) λxs H4 s4 hD4 hl4 d4=>?_⟩
   subst hX3;refine cut2 λX5 hX5=>?_;have aft5:∀ (m:Int) (p:Addr) (xs:List V) (v4 v5:Option V) H5,1<=m->m<=8->Ext l H H5->Bag H5 l->H p=none->H5 p=some (.lst xs)->xs.length<=9->Edges H5 m xs->X5 { nx:=λx H'=>Q V.non H',rt:=Q } [some (.ref l),some (.int m),some (.int w0),some (.ref p),v4,v5,none,none,none] H5:=by
    intro m p xs v4 v5 H5 m1 m8 e5 b5 fp hp hl d;subst hX5;walk_at "wp";refine⟨Jck _,λpa hpa=>?_⟩;have npl:p≠l:=hb.ne fp;have nal:pa≠l:=b5.ne hpa;have npa:p≠pa:=Zai hp hpa;have fpa:H pa=none:=e5.free nal hpa;refine⟨_,rfl,p,rfl,⟨_,SqL.of (Same.new hpa _ _ hp)⟩,Zlb (xs:=xs) (λi σ H6=>∃ (as:List V) (v5 v7 v8:Option V),σ=[some (.ref l),some (.int m),some (.int w0),some (.ref p),v4,v5,some (.ref pa),v7,v8]/\Ext l H H6/\Bag H6 l/\H6 p=some (.lst xs)/\H6 pa=some (.lst as)/\as.length=i/\Edges H6 m xs/\Edges H6 m as) ⟨[],v5,none,none,rfl,e5.trans (Ext.new hpa),b5.new nal,Same.new hpa _ _ hp,Zaa,rfl,d.same (Same.new hpa),Edges.nil⟩ (λi σ H6 _ ⟨_,_,_,_,_,_,_,hp6,_⟩=>SqL.of hp6) ?_ ?_⟩
    .intro i x σ H6 hx e91;refine Zc6 e91 λas u5 u7 u8 e99 e6 b6 e910=>?_;clear e91;obtain rfl:=e99;refine Zcy e910 λhp6 ha6 hal dx da=>?_;clear e910;have hi:i<xs.length:=(Jaf.mp hx).1;refine Zcx (dx x (Jac hx)) λtx i1 j1 e911 htx i10 e912=>?_;obtain rfl:=e911;refine Zba e912 λi11 j10 j11=>?_;clear e912;walk_at "wp";refine⟨_,SqT.of htx,rfl,_,_,rfl,_,_,rfl,rfl,?_⟩;refine b6.draw ⇑0 ⇑0 λr1 H7 r10 r11 e7 b7=>⟨.inl ⟨rfl,_,SqL.of (e7 _ _ nal ha6)⟩,⇑0,λp1 h1=>⟨⇑0,λp2 h2=>⟨⇑0,λp3 h3=>?_⟩⟩⟩
     have S2:=(Same.new (o:=.tup [V.int i1,V.int j1]) h1).trans (Same.new (o:=.tup [V.int j1,V.int i1]) h2);have S3:=S2.trans (Same.new (o:=.lst [V.ref p1,V.ref p2]) h3);have D1:=(Edges.nil (H:=H7) (m:=m)).add (i:=i1) (j:=j1) h1 i10 i11 j10 j11;have D2:=(D1.add (i:=j1) (j:=i1) h2 j10 j11 i10 i11).same (Same.new (o:=.lst [V.ref p1,V.ref p2]) h3);have q3:(upd (upd (upd H7 p1 (.tup [V.int i1,V.int j1])) p2 (.tup [V.int j1,V.int i1])) p3 (.lst [V.ref p1,V.ref p2])) p3=some (.lst [V.ref p1,V.ref p2]):=Zaa;generalize upd (upd (upd H7 p1 (.tup [V.int i1,V.int j1])) p2 (.tup [V.int j1,V.int i1])) p3 (.lst [V.ref p1,V.ref p2])=H8 at *;have ha8:=S3 _ _ (e7 _ _ nal ha6);have pick:∃ u,atI [V.ref p1,V.ref p2] r1=some u/\Edge H8 m u:=by
      have:r1=0\/r1=1:=by exact oz93 r10 r11
      rcases this with rfl|rfl
      .exact ⟨_,Zde ⇑0 rfl,D2 _ (by simp)⟩
      .exact ⟨_,Zde ⇑0 rfl,D2 _ (by simp)⟩
     refine Zae pick λu hu du=>?_;clear pick;refine Zaq _ r1 ⟨rfl,SqL.of q3,u,hu,as,ha8,Zan (oz202 hl hal hi),as++[u],_,_,_,⟨rfl,rfl,rfl⟩,((e6.trans e7).trans S3.ext).upd fpa,(b7.same S3).new nal,by rw[Zal npa];exact S3 _ _ (e7 _ _ npl hp6),Zaa,by rw[Jai,hal];rfl,((dx.bag e7 b6).same S3).put ha8,(((da.bag e7 b6).same S3).snoc du).put ha8⟩
    .intro σ H6 e92;refine Zc6 e92 λas u5 u7 u8 e913 e6 b6 e914=>?_;clear e92;obtain rfl:=e913;refine Zcy e914 λhp6 ha6 hal dx da=>?_;clear e914;walk_at "wp";exact⟨⇑0,λt ht=>q _ _ _ _ _ (Out.fin e6 b6 ha6 fpa m1 m8 (oz210 hl hal) da ht)⟩
   refine Zb3 λX4 hX4=>?_;have e4:Ext l H H4:=(e2.trans e3).trans s4.ext;have b4:=b3.same s4;have fD:H D=none:=(e2.trans e3).free (b3.ne hD) hD;have aft4:∀ (m:Int) (p:Addr) (xs:List V) H5,1<=m->m<=8->Ext l H H5->Bag H5 l->H p=none->H5 p=some (.lst xs)->xs.length<=9->Edges H5 m xs->X4 { nx:=λx H'=>Q V.non H',rt:=Q } [some (.ref l),some (.int m),some (.int w0),some (.ref p),none,none,none,none,none] H5:=by
    intro m p xs H5 m1 m8 e5 b5 fp hp hl d;subst hX4;walk_at "wp";refine Zb5 (λ_=>⟨Jck _,λpa hpa=>?_⟩) (λ_=>aft5 m p xs none none H5 m1 m8 e5 b5 fp hp hl d);have nal:pa≠l:=b5.ne hpa;have fpa:H pa=none:=e5.free nal hpa;refine Ztr (b5.new nal) ⇑0 ⇑0 λn H6 n0 n1 e6 b6=>?_;refine Zeg (λi σ H7=>∃ (as:List V) (v4 v5:Option V),σ=[some (.ref l),some (.int m),some (.int w0),some (.ref pa),v4,v5,none,none,none]/\Ext l H H7/\Bag H7 l/\H7 pa=some (.lst as)/\as.length<=i/\Edges H7 m as) ⟨[],none,none,rfl,(e5.trans (Ext.new hpa)).trans e6,b6,e6 _ _ nal Zaa,Jaj _,Edges.nil⟩ ?_ ?_
    .intro i σ H7 hi e93;refine Zcx e93 λas u4 u5 e915 e7 b7 e916=>?_;clear e93;obtain rfl:=e915;refine Zba e916 λha7 hal da=>?_;clear e916;walk_at "wp";refine b7.draw (oz130 m1) (oz194 m8) λr1 H8 r10 r11 e8 b8=>?_;refine⟨.inl ⟨rfl,_,SqL.of (e8 _ _ nal ha7)⟩,b8.draw (oz130 m1) (oz194 m8) λr2 H9 r20 r21 e9 b9=>⟨⇑0,λt ht=>?_⟩⟩;have hx4:H9 pa=some (.lst as):=e9 _ _ nal (e8 _ _ nal ha7);have nt:pa≠t:=Zai hx4 ht;have hx5:(upd H9 t (.tup [.int r1,.int r2])) pa=some (.lst as):=by rw[Zal nt];exact hx4
     refine⟨_,hx5,Zan (oz106 n1 hi hal),as++[.ref t],_,_,⟨rfl,rfl⟩,(((e7.trans e8).trans e9).trans (Ext.new ht)).upd fpa,(b9.new (b9.ne ht)).new nal,Zaa,by rw[Jai];show _+1<=_;exact oz211 hal,(((da.bag e8 b7).bag e9 b8).add ht r10 r11 r20 r21).put hx5⟩
    .intro σ H7 e94;refine Zcx e94 λas u4 u5 e917 e7 b7 e918=>?_;clear e94;obtain rfl:=e917;refine Zba e918 λha7 hal da=>?_;clear e918;exact aft5 m pa as u4 u5 H7 m1 m8 e7 b7 fpa ha7 (oz128 n1 hal) da
   walk_at "wp";refine Zb5 (λ_=>⟨⇑0,λp1 h1=>⟨⇑0,λp2 h2=>⟨⇑0,λp3 h3=>⟨⇑0,λp4 h4=>?_⟩⟩⟩⟩) (λ_=>aft4 m D xs H4 m1 m8 e4 b4 fD hD4 (oz204 m8 hl4) d4);have D1:=(Edges.nil (H:=H4) (m:=4)).add (i:=0) (j:=1) h1 ∅ ∅ ∅ ∅;have D2:=D1.add (i:=1) (j:=2) h2 ∅ ∅ ∅ ∅;have D3:=D2.add (i:=3) (j:=1) h3 ∅ ∅ ∅ ∅;have S3:=((Same.new (o:=.tup [V.int 0,V.int 1]) h1).trans (Same.new (o:=.tup [V.int 1,V.int 2]) h2)).trans (Same.new (o:=.tup [V.int 3,V.int 1]) h3);have S4:=S3.trans (Same.new (o:=.lst [.ref p1,.ref p2,.ref p3]) h4);exact aft4 4 p4 [.ref p1,.ref p2,.ref p3] _ ⇑0 ⇑0 (e4.trans S4.ext) (b4.same S4) ((e4.trans S3.ext).free ((b4.same S3).ne h4) h4) Zaa (by show 3<=9;decide) (D3.same (Same.new h4))
  walk_at "wp";refine b1.draw ⇑0 ⇑0 λt H2 t0 t1 e2 b2=>⟨rfl,Zb5 (λ_=>aft 8 H2 ⇑0 ⇑0 (e1.trans e2) b2) (λ_=>aft (1+r) H2 ∅ ∅ (e1.trans e2) b2)⟩
end
end Pf
namespace Pf
open PySem L2 L3 PyProof.Rows
section
variable {C PL:Addr}
def Zks (S C G:Addr):L2.Sp:=λvs H Q _=>∃ (x dx g d z l lp y dy g' d' z' l' lp':Addr) (p m:Int) (xs ys:List V) (ps:List (Int×Int)) (ns ns':List Int),vs=[.ref x,.ref y]/\StA S C G H x p m ns dx g d z l lp xs/\Prs H xs ps/\StA S C G H y p m ns' dy g' d' z' l' lp' ys/\Prs H ys ps/\∀ H',Same H H'->Q (.bl true) H'
theorem Zv1 (F:Fun K "is_beside" "is_beside" Zds f fd)(T:Txt K mg C G S)(Yah:Cal P w K mg base "stands_on" 1 (spOn S C G)):FnOk P w K mg base CX0 2 f fd ["standing","thing"] (Zks S C G):=by
 have nd:=Zd4.nd;refine F.ok Zd4 (λvs H Q E h=>?_) (λcdv A outer s H vs Q E hr h=>?_)
 .obtain ⟨x,dx,g,d,z,l,lp,y,dy,g',d',z',l',lp',p,m,xs,ys,ps,ns,ns',rfl,_⟩:=h;rfl
 .obtain ⟨x,dx,g,d,z,l,lp,y,dy,g',d',z',l',lp',p,m,xs,ys,ps,ns,ns',rfl,sx,px,sy,py,q⟩:=h;refine⟨_,(~~~(Zdc (Za1 Zax rfl T.n_isinstance Jbb ((pvr 1)<&>((Zm2 (v:=.ref S) rfl T.g_Standing rfl)<&>Zab))) (Zdw (Yah<$>hr<$>((pvr 1)<&>((Za3 (pvr 0) rfl)<&>((Za3 (pvr 0) rfl)<&>Zab))))))),?_⟩;walk_at "wp";refine Zaq _ _ ⟨⟨rfl,rfl⟩,_,rfl,_,.ins sy.ins T.cl_Standing T.ic1 T.ic2 T.ic3 T.ic4,_,k_own K S,iteT ?_⟩;refine Zbv S dx _ ⟨sx.ins,T.cl_Standing,T.nSg,_,Zc1 ..,S,dx,_,sx.ins,T.cl_Standing,T.nSd,_,Zbz ..,y,dy,g',d',z',l',g,d,lp',lp,p,p,m,m,ys,xs,ps,ps,rfl,sy.ins,sy.grd,sx.grd,sy.drw,sx.drw,py,px,?_⟩;rw[Jah ⟨rfl,rfl,rfl⟩];exact q H (Same.refl _)
theorem sh3 {cap σ:L2.St}(h:Sh 3 cap σ):∃ a b c,σ=a::b::c::cap:=by
 refine Zae h λo ol e93=>?_;clear h;obtain rfl:=e93
 match o,ol with
 | [a,b,c],_=>exact⟨a,b,c,rfl⟩
theorem sh3m {cap:L2.St}{a b c:Option V}:Sh 3 cap (a::b::c::cap):=⟨[a,b,c],rfl,rfl⟩
theorem Zwc {bs:List Bool}:bs.all id=true ↔ ∀ (j:Nat) c,bs[j]?=some c->c=true:=by
 rw[Jbg];refine⟨λh j c e=>h c (Jac e),λh c m=>?_⟩;obtain⟨j,hj,rfl⟩:=Ja4.mp m;exact h j _ (Jaa hj)
theorem TabB.mat {H:Hp}{p:Int}{k n wd:Nat}{t r:Addr}{rs:List Addr}{M:Mv}(h:TabB H p k n wd t r rs M):Mat p n wd M:=⟨h.hl,h.hw,λxs hx x hxx=>(h.gd xs hx x hxx).1⟩
theorem nb25 {n k k2:Nat}(hn:n<=24)(hk:k<=100000)(h2:k2<=1500000):(n+1)*k+(n+1)*k2+5<=NB:=Jbh (Nat.add_le_add_right (Nat.add_le_add (Jdr (show n+1<=25 by omega) hk) (Jdr (show n+1<=25 by omega) h2)) 5) ⇑0
theorem Zp5 {H:Hp}{p:Int}{k n wd k':Nat}{t r t' r':Addr}{rs rs':List Addr}{M N:Mv}(h:TabB H p k n wd t r rs M)(mN:Mat p n wd N)(h':TabV H p n wd t' r' rs' N):∃ bs,Zer K H 6 [.int n,.int wd,.ref r] [.int n,.int wd,.ref r'] bs/\(bs.all id=true ↔ M=N):=tab_eqB h.mat mN h.tv h'
def Zwf (p:Int)(ns:List Int)(Cs Bs:List Mv):Prop:=∀ (i:Nat) n,ns[i]?=some n->Zdv p (Cs.getD i []) (Bs.getD i []) n.toNat=Zei n.toNat
def spBks (S C G:Addr):L2.Sp:=λvs H Q _=>∃ (x c b dx g d z l lp:Addr) (p m:Int) (k k2:Nat) (xs:List V) (ns:List Int) (cts bts:List Addr) (Cs Bs:List Mv),vs=[.ref x,.ref c,.ref b]/\StA S C G H x p m ns dx g d z l lp xs/\GroundP p/\ChL H p k c cts ns Cs/\ChL H p k2 b bts ns Bs/\1<=k/\k<=50000/\1<=k2/\k2<=50000/\∀ (t:Bool) H',Same H H'->(t=true ↔ Zwf p ns Cs Bs)->Q (.bl t) H'
theorem ok_bks (F:Fun K "are_backs" "are_backs" Zem f fd)(T:Txt K mg C G S)(Yal:Cal P w K mg base "are_changes" 10 (spAc S C G))(Yaq:Cal P w K mg base "product" 8 (Zn0 G))(Ya8:Cal P w K mg base "plain" 8 (spPl G)):FnOk P w K mg base CX0 11 f fd ["standing","changes","backs"] (spBks S C G):=by
 have nd:=Zd6.nd;refine F.ok Zd6 (λvs H Q E h=>?_) (λcdv A outer s H vs Q E hr h=>?_)
 .refine xE19_2 h λx c b dx g d z l lp p m k k2 xs ns cts bts Cs Bs e94 _=>?_;clear h;obtain rfl:=e94;rfl
 .refine xE19_4 h λx c b dx g d z l lp p m k k2 xs ns cts bts Cs Bs e95 st hp e96=>?_;clear h;obtain rfl:=e95;refine xE0_7 e96 λhc hb k1 km k21 k2m q=>?_;clear e96;refine⟨_,((@Zay _ _ _ _ _ _ _ _ (PW.pt (Zce (Za9 (Zbb (Yal<$>hr<$>((pvr 0)<&>((pvr 1)<&>Zab))))) (Zbj (Za9 (Zbb (Yal<$>hr<$>((pvr 0)<&>((pvr 2)<&>Zab)))))))) (~~~Zbm) Zaj)<*>((Zap (i:=3) nd rfl (Or.inr rfl) (Za3 (pvr 0) rfl))<*>(~~~(Za1 (Zbu rfl) rfl T.n_all Jc6 ((Za0 (own:=["change","back","size"]) (fr:=[("ground",3)]) rfl (Zbi (by kernel_rfl)) (pi_z3 rfl T.n_zip ((pv 1)<&>((pv 2)<&>((Zcg (pv 0) rfl)<&>Zab)))) (λ_ _ _ _=>⟨(@Zda _ K rfl _ _ _ _ 3 rfl ((0<<<["change","back","size","ground"])^^^((1<<<["change","back","size","ground"])^^^((2<<<["change","back","size","ground"])^^^(@Za6 _)))) ⇑1 ⇑1),Zat,(Zbx (Zq9 K rfl (Zh7 hr)) (Yaq<$>hr<$>((pv 3)<&>((pv 0)<&>((pv 1)<&>Zab)))) (Ya8<$>hr<$>((pv 3)<&>((pv 2)<&>Zab))) (Zah _))⟩))<&>Zab))))),?_⟩;walk_at "wp";refine Zpt x c dx g d z l lp p m k xs ns cts Cs ⟨rfl,st,hp,hc,∅,λH1 s1=>⟨true,rfl,Zcj ⇑0 ⟨x,b,dx,g,d,z,l,lp,p,m,k2,xs,ns,bts,Bs,rfl,st.same s1,hp,hb.same s1,∅,λH2 s2=>⟨true,rfl,Zcj ⇑0 ?_⟩⟩⟩⟩;have s02:=s1.trans s2;have st2:=st.same s02;have hc2:=hc.same s02;have hb2:=hb.same s02;have cl:=hc.2.1;have bl:=hb.2.1;refine Zbv S dx _ ⟨st2.ins,T.cl_Standing,T.nSg,_,Zc1 ..,_,rfl,_,rfl,_,rfl,x,S,dx,_,_,rfl,st2.ins,T.cl_Standing,T.nSs,Zd2 ..,c,b,z,rfl,⟨_,SqL.of hc2.1⟩,⟨_,SqL.of hb2.1⟩,⟨_,SqL.of st2.szs.1⟩,λD hD=>?_⟩;refine Zou (k:=3) (xs:=cts.map V.ref) (ys:=bts.map V.ref) (ws:=ns.map V.int) (λi vs H'=>Same H2 H'/\∃ bs:List Bool,vs=bs.map V.bl/\H' D=some (.lst vs)/\bs.length=i/\∀ (j:Nat) c n,bs[j]?=some c->ns[j]?=some n->(c=true ↔ Zdv p (Cs.getD j []) (Bs.getD j []) n.toNat=Zei n.toNat)) (by rw[Jab,Jab];exact oz20 cl bl) (by rw[Jab,Jab];exact oz50 cl) ⟨Same.new hD,[],rfl,Zaa,rfl,λj c n e=>by simp at e⟩ (λi vs H' _ pv=>⟨SqL.of (pv.1 _ _ hc2.1),SqL.of (pv.1 _ _ hb2.1),SqL.of (pv.1 _ _ st2.szs.1)⟩) ?_ ?_
  .intro i v1 v2 v3 pz vs σ' H' hi h1 h2 h3 hpz sh e91;obtain⟨s',bs,rfl,e',bsl,hbs⟩:=e91;refine Zs6 (sh3 sh) λz1 z2 z3 e97=>?_;obtain rfl:=e97;rw[Jab] at hi;have hct:cts[i]?=some (cts[i]'(oz31 hi)):=Jaa _;have hbt:bts[i]?=some (bts[i]'(oz5 cl bl hi)):=Jaa _;rw[Jad,hct] at h1;cases h1;rw[Jad,hbt] at h2;cases h2;generalize cts[i]'(oz31 hi)=ct at *;generalize bts[i]'(oz5 cl bl hi)=bt at *;refine Zae (Zjj h3) λn hn e98=>?_;obtain rfl:=e98;refine Zfq (hc2.2.2 i ct n hct hn) λrC rsC tbC=>?_;refine Zfq (hb2.2.2 i bt n hbt hn) λrB rsB tbB=>?_;have n0:=st.szs.2.2 n (Jac hn);have s0:=s'.trans (Same.new (o:=.tup [V.ref ct,V.ref bt,V.int n]) hpz);have e0:=(Same.new (o:=.tup [V.ref ct,V.ref bt,V.int n]) hpz) _ _ e';refine Zaq pz _ ⟨rfl,SqT.of Zaa,rfl,_,_,rfl,_,_,rfl,_,_,rfl,rfl,?_⟩;simp only[Ze0,List.set_cons_zero,List.set_cons_succ,Jb9];have pz3:(upd H' pz (.tup [V.ref ct,V.ref bt,V.int n])) pz=some (.tup [V.ref ct,V.ref bt,V.int n]):=Zaa;generalize upd H' pz (.tup [V.ref ct,V.ref bt,V.int n])=H3 at *;have s3:=(s02.trans s0)
   have nn:=Jbj n0.1;have g3:=st.grd.same s3;have mU:=Zff hp n.toNat;refine⟨_,rfl,_,rfl,_,rfl,g,ct,rC,bt,rB,rsC,rsB,p,n.toNat,n.toNat,n.toNat,k,k2,_,_,rfl,g3,hp,tbC.same s0,tbB.same s0,oz82 n0,oz82 n0,oz82 n0,k1,k21,nb25 (oz82 n0) ∅ ∅,λt r rs H4 s4 nw tb4=>⟨_,rfl,_,rfl,g,p,n,rfl,g3.same s4,hp,n0.1,n0.2,λt2 r2 rs2 H5 s5 nw5 tv5=>?_⟩⟩;rw[<- nn] at tv5;rw[Jbp] at tv5;refine Zae (Zp5 (K:=K) (k':=0) (tb4.same s5) mU tv5) λcs hcs ecs=>?_;have e5:=s5 _ _ (s4 _ _ e0);refine Zlh t t2 _ _ cs ⟨rfl,rfl,SqT.of (tb4.same s5).tv.tup,SqT.of tv5.tup,hcs,Zk3 (ws:=(bs++[cs.all id]).map V.bl) (by rw[Jab];exact hi) sh3m e5 (Zan (by rw[Jab];have:=st.szs.2.1;have:=(Jaf.mp hn).1;omega)) ⟨((s0.trans s4).trans s5).upd hD,bs++[cs.all id],rfl,by rw[Zaa,Ja7];rfl,by rw[Jai,bsl];rfl,λj c n' f1 f2=>?_⟩⟩;by_cases hj:j<bs.length
   .rw [Jar hj] at f1;exact hbs j c n' f1 f2
   .have hj2:j=bs.length:=by
     have:=(Jaf.mp f1).1;rw[Jai] at this;have:j<bs.length+1:=this;exact oz34 hj this
    subst hj2;rw[Jas (Jaj _),Nat.sub_self] at f1;cases f1;rw[bsl,hn] at f2;cases f2;rw[bsl];exact ecs
  .intro vs H' e92;obtain⟨s',bs,rfl,e',bsl,hbs⟩:=e92;rw[Jab] at bsl;refine⟨D,rfl,bs,SqL.of e',q (bs.all id) H' (s02.trans s') ?_⟩;rw[Zwc];refine⟨λh i n hn=>?_,λh j c e=>?_⟩
   .have hi:=(Jaf.mp hn).1;have ei:bs[i]?=some (bs[i]'(oz45 cl bsl hi)):=Jaa _;exact (hbs i _ n ei hn).mp (h i _ ei)
   .have hj:=(Jaf.mp e).1;have ej:ns[j]?=some (ns[j]'(oz17 cl bsl hj)):=Jaa _;exact (hbs j c _ e ej).mpr (h j _ ej)
theorem Zk6 {H:Hp}{ns:List Int}:Zer K H 6 (ns.map V.int) (ns.map V.int) (List.replicate ns.length true):=⟨by simp,by simp,λj x y c e1 e2 e3=>by
 rw[e1] at e2;cases e2;rw[Jad] at e1;have hc:=List.eq_of_mem_replicate (Jac e3);subst hc;cases f1:ns[j]? with
 | none=>rw[f1] at e1;cases e1
 | some t=>rw[f1] at e1;cases e1;exact Zgy⟩
theorem sh4 {cap σ:L2.St}(h:Sh 4 cap σ):∃ a b c d,σ=a::b::c::d::cap:=by
 refine Zae h λo ol e93=>?_;clear h;obtain rfl:=e93
 match o,ol with
 | [a,b,c,d],_=>exact⟨a,b,c,d,rfl⟩
theorem sh4m {cap:L2.St}{a b c d:Option V}:Sh 4 cap (a::b::c::d::cap):=⟨[a,b,c,d],rfl,rfl⟩
theorem k1_le {n a b:Nat}(hn:n<=24)(ha:a<=10000)(hb:b<=50000):7+n*(a+b+8)<=1500000:=Jbh (Nat.add_le_add_left (Jdr hn (show a+b+8<=60008 by omega)) 7) ⇑0
def Zvc (p:Int)(ns:List Int)(ps:List (Int×Int))(Ms Cs Bs Ms':List Mv):Prop:=Zwf p ns Cs Bs/\∀ i,i<ps.length->chM p ns ps Bs Ms Cs i=Ms'.getD i []
def Zj2 (S C G:Addr):L2.Sp:=λvs H Q _=>∃ (H0 H0':Hp) (x c b dx g d z l lp y dy g' d' z' l' lp':Addr) (p m:Int) (k k2 kt kt':Nat) (xs ys:List V) (ps:List (Int×Int)) (ns:List Int) (ts ts' cts bts:List Addr) (Ms Ms' Cs Bs:List Mv),vs=[.ref x,.ref y,.ref c,.ref b]/\StB H0 S C G H x p m ps ns kt Ms dx g d z l lp xs ts/\StB H0' S C G H y p m ps ns kt' Ms' dy g' d' z' l' lp' ys ts'/\GroundP p/\InP m ps/\ps.length<=9/\ChL H p k c cts ns Cs/\ChL H p k2 b bts ns Bs/\1<=k/\k<=50000/\1<=k2/\k2<=50000/\1<=kt/\kt<=10000/\∀ (t:Bool) H',Same H H'->(t=true ↔ Zvc p ns ps Ms Cs Bs Ms')->Q (.bl t) H'
theorem ok_ledt (F:Fun K "is_led" "is_led" Zib f fd)(T:Txt K mg C G S)(Yar:Cal P w K mg base "are_backs" 11 (spBks S C G))(Yaq:Cal P w K mg base "product" 8 (Zn0 G)):FnOk P w K mg base CX0 12 f fd ["standing","other","changes","backs"] (Zj2 S C G):=by
 have nd:=Zgp.nd;refine F.ok Zgp (λvs H Q E h=>?_) (λcdv A outer s H vs Q E hr h=>?_)
 .obtain ⟨H0,H0',x,c,b,dx,g,d,z,l,lp,y,dy,g',d',z',l',lp',p,m,k,k2,kt,kt',xs,ys,ps,ns,ts,ts',cts,bts,Ms,Ms',Cs,Bs,rfl,_⟩:=h;rfl
 .obtain ⟨H0,H0',x,c,b,dx,g,d,z,l,lp,y,dy,g',d',z',l',lp',p,m,k,k2,kt,kt',xs,ys,ps,ns,ts,ts',cts,bts,Ms,Ms',Cs,Bs,rfl,sx,sy,hp,ip,p9,hc,hb,k1,km,k21,k2m,kt1,ktm,q⟩:=h;refine⟨_,((@Zay _ _ _ _ _ _ _ _ (PW.pt (Zce (Zak (Zq7 (Zh7 hr)) (Za3 (pvr 0) rfl) (Za3 (pvr 1) rfl) (Zah _)) (Zbj (Za9 (Zbb (Yar<$>hr<$>((pvr 0)<&>((pvr 2)<&>((pvr 3)<&>Zab))))))))) (~~~Zbm) Zaj)<*>((Zap (i:=4) nd rfl (Or.inr rfl) (Za3 (pvr 0) rfl))<*>(~~~(Za1 (Zbu rfl) rfl T.n_all Jc6 ((Za0 (own:=["tail","head","before","after"]) (fr:=[("ground",4),("backs",3),("changes",2)]) rfl (Zbi (by kernel_rfl)) (pi_z3 rfl T.n_zip ((Zcg (Zcg (pv 0) rfl) rfl)<&>((Zcg (pv 0) rfl)<&>((Zcg (pv 1) rfl)<&>Zab)))) (λ_ _ _ _=>⟨(@Zda _ K rfl _ _ _ _ 3 rfl ((@Zda _ K rfl _ _ _ _ 2 rfl ((0<<<["tail","head","before","after","ground","backs","changes"])^^^((1<<<["tail","head","before","after","ground","backs","changes"])^^^(@Za6 _))) ⇑1 ⇑1)^^^((2<<<["tail","head","before","after","ground","backs","changes"])^^^((3<<<["tail","head","before","after","ground","backs","changes"])^^^(@Za6 _)))) ⇑1 ⇑1),Zat,(Zbx (Zq9 K rfl (Zh7 hr)) (Yaq<$>hr<$>((pv 4)<&>(((Zdh K rfl)<|>(pv 5)<||>(pv 1))<&>((Yaq<$>hr<$>((pv 4)<&>((pv 2)<&>(((Zdh K rfl)<|>(pv 6)<||>(pv 0))<&>Zab))))<&>Zab)))) (pv 3) (Zah _))⟩))<&>Zab))))),?_⟩;walk_at "wp";refine Zbv S dx _ ⟨sx.sa.ins,T.cl_Standing,T.nSs,_,Zd2 ..,S,dy,_,sy.sa.ins,T.cl_Standing,T.nSs,_,Zd2 ..,z,rfl,z',rfl,_,SqL.of sx.sa.szs.1,_,SqL.of sy.sa.szs.1,.inr ⟨_,Zk6,Zcj (by rw[Znm];decide) ⟨x,c,b,dx,g,d,z,l,lp,p,m,k,k2,xs,ns,cts,bts,Cs,Bs,rfl,sx.sa,hp,hc,hb,k1,km,k21,k2m,λt1 H1 s1 ht1=>⟨t1,rfl,?_⟩⟩⟩⟩;cases t1 with
  | false=>exact Zgg ⇑0 (q false H1 s1 ⟨λh=>(by cases h),λh=>ht1.mpr h.1⟩)
  | true=>
   refine Zcj ⇑0 ?_;have bk:=ht1.mp rfl;refine Zae sx.sa.drw λdd hd hlp=>?_;have sx1:=sx.same s1;have sy1:=sy.same s1;have hc1:=hc.same s1;have hb1:=hb.same s1;have hd1:=s1 _ _ hd;have hlp1:=s1 _ _ hlp;have xl:=sx.prs.1;have tl:=sx.len;have tl':=sy.len;have hm:=sx.sa.hm;have cl:=hc.2.1;have bl:=hb.2.1;refine Zbv S dx _ ⟨sx1.sa.ins,T.cl_Standing,T.nSg,_,Zc1 ..,_,rfl,x,S,dx,_,_,rfl,sx1.sa.ins,T.cl_Standing,T.nSd,Zbz ..,d,C,dd,_,_,rfl,hd1,T.cl_Drawing,T.nA,Zcq m lp,_,rfl,x,S,dx,_,_,rfl,sx1.sa.ins,T.cl_Standing,T.nSt,Zlr ..,_,rfl,y,S,dy,_,_,rfl,sy1.sa.ins,T.cl_Standing,T.nSt,Zlr ..,lp,l,l',rfl,⟨_,SqL.of hlp1⟩,⟨_,SqL.of sx1.lst⟩,⟨_,SqL.of sy1.lst⟩,λD hD=>?_⟩;refine Zou (k:=4) (xs:=xs) (ys:=ts.map V.ref) (ws:=ts'.map V.ref) (λi vs H'=>Same H1 H'/\∃ bs:List Bool,vs=bs.map V.bl/\H' D=some (.lst vs)/\bs.length=i/\∀ (j:Nat) c,bs[j]?=some c->(c=true ↔ chM p ns ps Bs Ms Cs j=Ms'.getD j [])) (by rw[Jab];exact oz20 xl tl) (by rw[Jab];exact oz20 xl tl') ⟨Same.new hD,[],rfl,Zaa,rfl,λj c e=>by simp at e⟩ (λi vs H' _ pv=>⟨SqL.of (pv.1 _ _ hlp1),SqL.of (pv.1 _ _ sx1.lst),SqL.of (pv.1 _ _ sy1.lst)⟩) ?_ ?_
   .intro i v1 v2 v3 pz vs σ' H' hi h1 h2 h3 hpz sh e91;obtain⟨s',bs,rfl,e',bsl,hbs⟩:=e91;refine xE4_1 (sh4 sh) λz1 z2 z3 z4 e94=>?_;obtain rfl:=e94;have hti:ts[i]?=some (ts[i]'(oz5 xl tl hi)):=Jaa _;have hti':ts'[i]?=some (ts'[i]'(oz5 xl tl' hi)):=Jaa _;rw[Jad,hti] at h2;cases h2;rw[Jad,hti'] at h3;cases h3;generalize ts[i]'(oz5 xl tl hi)=t at *;generalize ts'[i]'(oz5 xl tl' hi)=t' at *;have hip:i<ps.length:=by exact oz3 xl hi
    have hq:ps[i]?=some (ps.getD i (0,0)):=by rw[Zec hip];exact Jaa _
    refine Zbs (sx1.tbs i _ _ hti hq) λr rs tb _=>?_;refine Zbs (sy1.tbs i _ _ hti' hq) λr' rs' tb' _=>?_;have ec:chM p ns ps Bs Ms Cs i=Zdv p (Bs.getD (ps.getD i (0,0)).2.toNat []) (Zdv p (Ms.getD i []) (Cs.getD (ps.getD i (0,0)).1.toNat []) (nz ns (ps.getD i (0,0)).1)) (nz ns (ps.getD i (0,0)).1):=rfl;generalize ps.getD i (0,0)=qq at *;obtain⟨tl',hd'⟩:=qq;refine Zae (sx1.prs.2 i _ _ h1 hq) λta e95 hta=>?_;obtain rfl:=e95;refine Zck (ip _ (Jac hq)) λi0 i1 j0 j1=>?_;have s0:=s'.trans (Same.new (o:=.tup [V.ref ta,V.ref t,V.ref t']) hpz);have e0:=(Same.new (o:=.tup [V.ref ta,V.ref t,V.ref t']) hpz) _ _ e';have p4:(upd H' pz (.tup [V.ref ta,V.ref t,V.ref t'])) pz=some (.tup [V.ref ta,V.ref t,V.ref t']):=Zaa;generalize upd H' pz (.tup [V.ref ta,V.ref t,V.ref t'])=H3 at *;refine Zaq pz _ ⟨rfl,SqT.of p4,rfl,_,_,rfl,ta,_,rfl,SqT.of (s0 _ _ hta),rfl,_,_,rfl,_,_,rfl,rfl,_,_,rfl,_,_,rfl,rfl,?_⟩;simp only[Ze0,List.set_cons_zero,List.set_cons_succ,Jb9];have hnt:ns[tl'.toNat]?=some (ns.getD tl'.toNat 0):=by rw[Zec ∅];exact Jaa _
    have hnh:ns[hd'.toNat]?=some (ns.getD hd'.toNat 0):=by rw[Zec ∅];exact Jaa _
    have hbt:bts[hd'.toNat]?=some (bts[hd'.toNat]'(by omega)):=Jaa _;have hct:cts[tl'.toNat]?=some (cts[tl'.toNat]'(by omega)):=Jaa _;refine Zfq (hb1.2.2 _ _ _ hbt hnh) λrB rsB tbB=>?_;refine Zfq (hc1.2.2 _ _ _ hct hnt) λrC rsC tbC=>?_;have tbB:TabB H1 p k2 (nz ns hd') (nz ns hd') _ rB rsB _:=tbB;have tbC:TabB H1 p k (nz ns tl') (nz ns tl') _ rC rsC _:=tbC;have m1:=(Zpb sx.sa.szs tl').1;have m2:=(Zpb sx.sa.szs hd').1;walk_at "wp";refine⟨_,rfl,_,rfl,b,rfl,_,SqL.of (s0 _ _ hb1.1),_,Zde j0 (by rw[Jad,hbt];rfl),_,rfl,_,rfl,c,rfl,_,SqL.of (s0 _ _ hc1.1),_,Zde i0 (by rw[Jad,hct];rfl),?_⟩;refine Zpt g t r _ rC rs rsC p (nz ns hd') (nz ns tl') (nz ns tl') kt k _ _ ⟨rfl,sx1.sa.grd.same s0,hp,tb.same s0,tbC.same s0,m2,m1,m1,kt1,k1,nb25 m1 ∅ ∅,λt5 r5 rs5 H5 s5 nw5 tb5=>?_⟩;have e5:=s5 _ _ e0;have s05:=s0.trans s5;refine Zpt g _ rB t5 r5 rsB rs5 p (nz ns hd') (nz ns hd') (nz ns tl') k2 _ _ _ ⟨rfl,sx1.sa.grd.same s05,hp,tbB.same s05,tb5,m2,m2,m1,k21,∅,nb25 m2 ∅ (k1_le m1 ktm km),λt6 r6 rs6 H6 s6 nw6 tb6=>?_⟩;have e6:=s6 _ _ e5;have s06:=s05.trans s6;rw[<- ec] at tb6;refine Zae (Zp5 (K:=K) (k':=0) tb6 tb'.mat (tb'.same s06).tv) λcs hcs ecs=>?_;refine⟨t6,rfl,_,SqT.of tb6.tv.tup,_,SqT.of (tb'.same s06).tv.tup,cs,hcs,Zk3 (ws:=(bs++[cs.all id]).map V.bl) hi sh4m e6 (Zan (by rw[Jab];exact oz14 p9 xl hi bsl)) ⟨s06.upd hD,bs++[cs.all id],rfl,by rw[Zaa,Ja7];rfl,by rw[Jai,bsl];rfl,λj c' f1=>?_⟩⟩;by_cases hj:j<bs.length
    .rw [Jar hj] at f1;exact hbs j c' f1
    .have hj2:j=bs.length:=by
      have:=(Jaf.mp f1).1;rw[Jai] at this;have:j<bs.length+1:=this;exact oz34 hj this
     subst hj2;rw[Jas (Jaj _),Nat.sub_self] at f1;cases f1;rw[bsl];exact ecs
   .intro vs H' e92;obtain⟨s',bs,rfl,e',bsl,hbs⟩:=e92;refine⟨D,rfl,bs,SqL.of e',q (bs.all id) H' (s1.trans s') ?_⟩;rw[Zwc];refine⟨λh=>⟨bk,λi hi=>?_⟩,λh j c e=>?_⟩
    .have ei:bs[i]?=some (bs[i]'(oz45 xl bsl hi)):=Jaa _;exact (hbs i _ ei).mp (h i _ ei)
    .have hj:=(Jaf.mp e).1;exact (hbs j c e).mpr (h.2 j (oz17 xl bsl hj))
def spSmp:L2.Sp:=λvs H Q _=>∃ l:Addr,vs=[.ref l]/\Bag H l/\∀ p H',Ext l H H'->Bag H' l->GroundP p->Q (.int p) H'
theorem ok_smp (F:Fun K "_law_small_prime" "_law_small_prime" Zcl f fd)(T:Txt K mg C G S)(Yaa:Cal P w K mg base "_law_draw" 1 Zc0):FnOk P w K mg base CX0 2 f fd ["_law_bag_here"] spSmp:=by
 have nd:=Zd3.nd;refine F.ok Zd3 (λvs H Q E h=>?_) (λcdv A outer s H vs Q E hr h=>?_)
 .refine Zae h λl e91 _=>?_;clear h;obtain rfl:=e91;rfl
 .refine Zas h λl e92 hb q=>?_;clear h;obtain rfl:=e92;refine⟨_,(~~~(Za7<|>(@Zar _ _ _ _ (Zac<&>(Zac<&>(Zac<&>(Zac<&>(Zac<&>(Zac<&>Zab)))))))<||>(Yaa<$>hr<$>((pvr 0)<&>(Zac<&>Zab))))),?_⟩;walk_at "wp";refine⟨⇑0,λa ha=>?_⟩;have na:=hb.ne ha;refine (hb.new na).draw ⇑0 ⇑0 λz H2 z0 z1 e2 b2=>?_;refine Zae (Zqz (L:=[0,2,3,5,97,2]) ⇑0 z0 z1) λp h1 h2=>?_;exact Zaq _ z ⟨rfl,SqL.of (e2 _ _ na Zaa),_,h1,q p H2 ((Ext.new ha).trans e2) b2 h2⟩
def Zn2 (b:Nat):L2.Sp:=λvs H Q _=>∃ (l:Addr) (p:Int),vs=[.ref l,.int p]/\Bag H l/\GroundP p/\∀ v x H',Ext l H H'->Bag H' l->NumV H' p v x->Isn p x->BtN b x->Q v H'
theorem few_p {p z:Int}(hp:GroundP p)(h0:0<p)(z0:0<=z)(z1:z<p):Isn p (z,1)/\BtN 7 (z,1):=by
 have p97:=hp.hi;refine⟨.inr ⟨h0,z0,z1,rfl⟩,?_,?_⟩
 .show z.natAbs<2 ^ 7;omega
 .show (1:Int).natAbs<2 ^ 7;decide
theorem few_0 {x:Nv}(h:Low x)(h1:x.1.natAbs<128)(h2:x.2.natAbs<128):Isn 0 x/\BtN 7 x:=⟨.inl ⟨rfl,h⟩,h1,h2⟩
theorem Ztu {H:Hp}{l pl:Addr}{as:List Addr}{xs:List Nv}{n:Int}{Q:VK}(b:Bag H l)(hl:H pl=some (.lst (as.map V.ref)))(npl:pl≠l)(hn:n=as.length)(n1:1<=n)(n9:n<=9)(hx:xs.length=as.length)(ht:∀ (i:Nat) a x,as[i]?=some a->xs[i]?=some x->a≠l/\H a=some (.tup [.int x.1,.int x.2]))(q:∀ v x H',Ext l H H'->Bag H' l->NumV H' 0 v x->x∈xs->Q v H'):Zc0 [.ref l,.int n] H (λy H2=>∃ ys i,y=.int i/\SqL K H2 pl ys/\∃ v,atI ys i=some v/\Q v H2) E0:=by
 refine b.draw (oz130 n1) ∅ λz H2 z0 z1 e2 b2=>?_;have hz:z.toNat<as.length:=by exact oz140 hn z0 z1
 have ea:as[z.toNat]?=some (as[z.toNat]'hz):=Jaa _;have ex:xs[z.toNat]?=some (xs[z.toNat]'(by omega)):=Jaa _;obtain⟨na,ta⟩:=ht _ _ _ ea ex;exact Zaq _ z ⟨rfl,SqL.of (e2 _ _ npl hl),_,Zde z0 (by rw[Jad,ea];rfl),q _ _ H2 e2 b2 (NumV.tup rfl (e2 _ _ na ta)) (Jac ex)⟩
theorem ok_numf (F:Fun K "_law_number" "_law_number" Ze8 f fd)(T:Txt K mg C G S)(Yaa:Cal P w K mg base "_law_draw" 1 Zc0):FnOk P w K mg base CX0 2 f fd ["_law_bag_here","_law_p"] (Zn2 7):=by
 have nd:=Zgn.nd;refine F.ok Zgn (λvs H Q E h=>?_) (λcdv A outer s H vs Q E hr h=>?_)
 .refine Zbs h λl p e93 _=>?_;clear h;obtain rfl:=e93;rfl
 .refine Zf2 h λl p e94 hb hp q=>?_;clear h;obtain rfl:=e94;have p0:=hp.lo;have p97:=hp.hi;refine⟨_,((@Zay _ _ _ _ _ _ _ _ (Zak (Zkj Ze1) (pvr 1) Zac (Zah _)) (~~~(Yaa<$>hr<$>((pvr 0)<&>((pvr 1)<&>Zab)))) Zaj)<*>(~~~(Za7<|>(@Zar _ _ _ _ ((@Zam _ _ _ _ _ (Zac<&>(Zac<&>Zab)))<&>((@Zam _ _ _ _ _ (Zac<&>(Zac<&>Zab)))<&>((@Zam _ _ _ _ _ ((Zjv Zfu Zac)<&>(Zac<&>Zab)))<&>((@Zam _ _ _ _ _ (Zac<&>(Zac<&>Zab)))<&>((@Zam _ _ _ _ _ (Zac<&>(Zac<&>Zab)))<&>Zab))))))<||>(Yaa<$>hr<$>((pvr 0)<&>(Zac<&>Zab)))))),?_⟩;walk_at "wp";refine Zb5 (λhc=>?_) (λhc=>?_)
  .have hc:=Jaz hc;refine hb.draw hc ∅ λz H2 z0 z1 e2 b2=>?_;have w:=few_p hp hc z0 z1;exact q (.int z) (z,1) H2 e2 b2 (NumV.of (x:=(z,1)) (Zje hc)) w.1 w.2
  .have hc:¬ 0<p:=λz=>hc (Jah z);have hp0:p=0:=by exact oz98 p0 hc
   subst hp0;refine⟨⇑0,λp1 h1=>⟨⇑0,λp2 h2=>⟨⇑0,λp3 h3=>⟨⇑0,λp4 h4=>⟨⇑0,λp5 h5=>⟨⇑0,λpl hl=>?_⟩⟩⟩⟩⟩⟩;have n1:=hb.ne h1;have b1:=hb.new n1 (o:=.tup [.int 0,.int 1]);have n2:=b1.ne h2;have b2:=b1.new n2 (o:=.tup [.int 1,.int 1]);have n3:=b2.ne h3;have b3:=b2.new n3 (o:=.tup [.int (-1),.int 1]);have n4:=b3.ne h4;have b4:=b3.new n4 (o:=.tup [.int 2,.int 1]);have n5:=b4.ne h5;have b5:=b4.new n5 (o:=.tup [.int 1,.int 2]);have n6:=b5.ne hl;have s6:=Same.new (o:=.lst [.ref p1,.ref p2,.ref p3,.ref p4,.ref p5]) hl;have s5:=(Same.new (o:=.tup [.int 1,.int 2]) h5).trans s6;have s4:=(Same.new (o:=.tup [.int 2,.int 1]) h4).trans s5;have s3:=(Same.new (o:=.tup [.int (-1),.int 1]) h3).trans s4;have s2:=(Same.new (o:=.tup [.int 1,.int 1]) h2).trans s3;have s1:=(Same.new (o:=.tup [.int 0,.int 1]) h1).trans s2;refine Ztu (as:=[p1,p2,p3,p4,p5]) (xs:=[(0,1),(1,1),(-1,1),(2,1),(1,2)]) (b5.new n6) Zaa n6 rfl ⇑0 ⇑0 rfl (λi a x ea ex=>?_) λv x H' e b n m=>?_
   .match i with
    | 0=>cases ea;cases ex;exact⟨n1,s2 _ _ Zaa⟩
    | 1=>cases ea;cases ex;exact⟨n2,s3 _ _ Zaa⟩
    | 2=>cases ea;cases ex;exact⟨n3,s4 _ _ Zaa⟩
    | 3=>cases ea;cases ex;exact⟨n4,s5 _ _ Zaa⟩
    | 4=>cases ea;cases ex;exact⟨n5,s6 _ _ Zaa⟩
    | i+5=>cases ea
   .have w:Low x/\x.1.natAbs<128/\x.2.natAbs<128:=by
     simp only[Ja5,Jce,Jeg] at m;rcases m with rfl|rfl|rfl|rfl|rfl <;> exact⟨⟨⇑0,⇑0⟩,⇑0,⇑0⟩
    have w2:=few_0 w.1 w.2.1 w.2.2;exact q v x H' (s1.ext.trans e) b n w2.1 w2.2
theorem bd_of {x:Nv}(h:BtN 7 x):Bd 127 x:=⟨Nat.le_of_lt_succ h.1,Nat.le_of_lt_succ h.2⟩
theorem of_bd {x:Nv}(h:Bd 127 x):BtN 7 x:=⟨Nat.lt_succ_of_le h.1,Nat.lt_succ_of_le h.2⟩
theorem bd_i0 (p:Int):Bd 127 (Zk9 p 0):=by
 rw[Zgz];exact⟨⇑0,⇑0⟩
def Zqa:Sp:=λvs H Q _=>∃ (l:Addr) (p hh wd:Int),vs=[.ref l,.int p,.int hh,.int wd]/\Bag H l/\GroundP p/\0<=hh/\hh<=24/\0<=wd/\wd<=24 /\
 ∀ (r:Addr) (rs:List Addr) (H':Hp),Ext l H H'->Bag H' l->H r=none->(∀ a∈rs,H a=none)->r∉rs->H' r=some (.lst (rs.map V.ref))->(rs.length:Int)=hh->(∀ a∈rs,RowO H' p 127 wd a)->Q (.ref r) H'
theorem ok_rows (F:Fun K "_law_rows" "_law_rows" Zhg f fd)(T:Txt K mg C G S)(Yaa:Cal P w K mg base "_law_draw" 1 Zc0)(Yam:Cal P w K mg base "_law_number" 2 (Zn2 7))(Yau:Cal P w K mg base "_law_int" 1 Ztk):FnOk P w K mg base CX0 4 f fd ["_law_bag_here","_law_p","_law_high","_law_wide"] Zqa:=by
 have nd:=Ziq.nd;refine F.ok Ziq (λvs H Q E h=>?_) (λcdv A outer s H vs Q E hr h=>?_)
 .refine Zli h λl p hh wd e95 _=>?_;clear h;obtain rfl:=e95;rfl
 .refine Zc6 h λl p hh wd e96 hb hp e97=>?_;clear h;obtain rfl:=e96;refine Zcy e97 λh0 h24 w0 w24 q=>?_;clear e97;refine⟨_,((4|||nd|||(Zc3<|>Zac<&&>(Yaa<$>hr<$>((pvr 0)<&>(Zac<&>Zab)))))<*>((5|||nd|||(@Zar _ _ _ _ Zab))<*>((Zgs Jbr rfl (Zge rfl T.n_range ((pv 2)<&>Zab)) (6>>>nd) ((7|||nd|||(@Zar _ _ _ _ Zab))<*>((Zgs Jbr rfl (Zge rfl T.n_range ((pv 3)<&>Zab)) (8>>>nd) ((9|||nd|||(Yam<$>hr<$>((pvr 0)<&>((pvr 1)<&>Zab))))<*>(@Zau _ _ _ (@Zay _ _ _ _ _ _ _ _ (Zak Zjx (Yaa<$>hr<$>((pvr 0)<&>(Zac<&>Zab))) (pvr 4) (Zah _)) (@Zau _ _ _ (Zgd (Zm3 Jb0 Jbw Jbx (mtJ Zc4) (pvr 7) ((pvr 9)<&>Zab)))) (@Zau _ _ _ (Zgd (Zm3 Jb0 Jbw Jbx (mtJ Zc4) (pvr 7) ((Yau<$>hr<$>((pvr 1)<&>(Zac<&>Zab)))<&>Zab))))))))<*>(@Zau _ _ _ (Zgd (Zm3 Jb0 Jbw Jbx (mtJ Zc4) (pvr 5) ((pvr 7)<&>Zab)))))))<*>(~~~(pvr 5))))),?_⟩;walk_at "wp";refine hb.draw ⇑0 ⇑0 λz H2 z0 z1 e2 b2=>⟨z,rfl,⇑0,λr hr0=>?_⟩
  have nr:r≠l:=b2.ne hr0;have fr:H r=none:=e2.free nr hr0;refine⟨_,rfl,hh,rfl,Zm4 h0,Zo9 h24,Zeg (λi σ H3=>∃ (v6 v7 v8 v9:Option V) (rs:List Addr),σ=[some (.ref l),some (.int p),some (.int hh),some (.int wd),some (.int (1+z)),some (.ref r),v6,v7,v8,v9]/\Ext l H H3/\Bag H3 l/\(∀ a∈rs,H a=none)/\r∉rs/\H3 r=some (.lst (rs.map V.ref))/\rs.length=i/\∀ a∈rs,RowO H3 p 127 wd a)
   ⟨none,none,none,none,[],rfl,e2.trans (Ext.new hr0),b2.new nr,by simp,by simp,Zaa,rfl,by simp⟩ ?_ ?_⟩
  .intro i σ H3 hi e91;refine Zhb e91 λv6 v7 v8 v9 rs e98 e3 b3 e99=>?_;clear e91;obtain rfl:=e98;refine Zcy e99 λhf nm hr3 hln hro=>?_;clear e99;walk_at "wp";refine⟨⇑0,λa ha=>?_⟩;have na:a≠l:=b3.ne ha;have fa:H a=none:=e3.free na ha;have nar:r≠a:=Zai hr3 ha;have nas:a∉rs:=λz=>by obtain⟨xs,h1,_⟩:=hro a z;rw[ha] at h1;cases h1
   refine⟨_,rfl,wd,rfl,Zm4 w0,Zo9 w24,Zeg (λj σ H4=>∃ (v8 v9:Option V) (xs:List V),σ=[some (.ref l),some (.int p),some (.int hh),some (.int wd),some (.int (1+z)),some (.ref r),some (.int (0+(i:Int))),some (.ref a),v8,v9]/\Ext l H H4/\Bag H4 l/\H4 r=some (.lst (rs.map V.ref))/\(∀ a∈rs,RowO H4 p 127 wd a)/\H4 a=some (.lst xs)/\xs.length=j/\∀ x∈xs,NumO H4 p 127 x)
    ⟨v8,v9,[],rfl,e3.trans (Ext.new ha),b3.new na,by rw[Zal nar];exact hr3,λb hb=>(hro b hb).same (Same.new ha),Zaa,rfl,by simp⟩ ?_ ?_⟩
   .intro j σ H4 hj e92;refine Zcx e92 λu8 u9 xs e910 e4 b4 e911=>?_;clear e92;obtain rfl:=e910;refine Zcy e911 λhr4 hro4 ha4 hlx hnx=>?_;clear e911;walk_at "wp";have step:∀ (v:V) (H5:Hp),Ext l H4 H5->Bag H5 l->NumO H5 p 127 v->(Ext l H (upd H5 a (.lst (xs++[v])))/\Bag (upd H5 a (.lst (xs++[v]))) l/\upd H5 a (.lst (xs++[v])) r=some (.lst (rs.map V.ref))/\(∀ b∈rs,RowO (upd H5 a (.lst (xs++[v]))) p 127 wd b) /\
      ∃ ys,upd H5 a (.lst (xs++[v])) a=some (.lst ys)/\ys.length=j+1/\∀ x∈ys,NumO (upd H5 a (.lst (xs++[v]))) p 127 x):=by
     intro v H5 e5 b5 nv;have ha5:=e5 _ _ na ha4;refine⟨(e4.trans e5).upd fa,b5.new na,by rw[Zal nar];exact e5 _ _ nr hr4,λb hbm=>?_,_,Zaa,by rw[Jai,hlx];rfl,λx hx=>?_⟩
     .have nb:b≠l:=hb.ne (hf b hbm);exact ((hro4 b hbm).ext b4 e5 nb).put ha5 (λz=>nas (z ▸ hbm))
     .rcases Ja1.mp hx with hx|hx
      .exact ((hnx x hx).ext b4 e5).put ha5
      .rw [Jao.mp hx];exact nv.put ha5
    have hsz:xs.length<sizeLine:=Zan (oz46 w24 hj hlx);refine Zaq l p ⟨rfl,b4,hp,λv x H5 e5 b5 nv iv bv=>?_⟩;refine b5.draw ⇑0 ⇑0 λy H6 y0 y1 e6 b6=>⟨y,rfl,Zb5 (λ_=>?_) (λ_=>?_)⟩
    .have ha6:=(e5.trans e6) _ _ na ha4;exact⟨.inl ⟨rfl,_,SqL.of ha6⟩,xs,ha6,hsz,_,_,⟨rfl,rfl⟩,step v H6 (e5.trans e6) b6 ⟨x,nv.ext b5 e6,iv,bd_of bv⟩⟩
    .have ha6:=(e5.trans e6) _ _ na ha4;refine⟨.inl ⟨rfl,_,SqL.of ha6⟩,p,0,rfl,hp,λv0 H7 s7 n0=>?_⟩;have ha7:=s7 _ _ ha6;exact⟨xs,ha7,hsz,_,_,⟨rfl,rfl⟩,step v0 H7 ((e5.trans e6).trans s7.ext) (b6.same s7) ⟨_,n0,Zhp hp.lo,bd_i0 p⟩⟩
   .intro σ H4 e93;refine Zcx e93 λu8 u9 xs e912 e4 b4 e913=>?_;clear e93;obtain rfl:=e912;refine Zcy e913 λhr4 hro4 ha4 hlx hnx=>?_;clear e913;walk_at "wp";refine⟨.inl ⟨rfl,_,SqL.of hr4⟩,_,hr4,Zan (by rw[Jab];exact oz46 h24 hi hln),_,_,_,_,⟨rfl,rfl,rfl,rfl⟩,e4.upd fr,b4.new nr,rs++[a],?_,?_,?_,by rw[Jai,hln];rfl,?_⟩
    .intro b hbm;rcases Ja1.mp hbm with h|h
     .exact hf b h
     .rw [Jao.mp h];exact fa
    .intro z;rcases Ja1.mp z with h|h
     .exact nm h
     .exact nar (Jao.mp h)
    .rw [Zaa,Zbe]
    .intro b hbm;rcases Ja1.mp hbm with h|h
     .exact (hro4 b h).put hr4 (λz=>nm (z ▸ h))
     .rw [Jao.mp h];exact RowO.put ⟨xs,ha4,oz40 w0 hlx,hnx⟩ hr4 nar.symm
  .intro σ H3 e94;refine Zhb e94 λv6 v7 v8 v9 rs e914 e3 b3 e915=>?_;clear e94;obtain rfl:=e914;refine Zcy e915 λhf nm hr3 hln hro=>?_;clear e915;exact q r rs H3 e3 b3 fr hf nm hr3 (oz40 h0 hln) hro
def NumG (H:Hp)(p:Int)(B:Nat)(v:V):Prop:=∃ x,NumV H p v x/\Isn p x/\BtN B x
theorem NumG.same {H H':Hp}{p:Int}{B:Nat}{v:V}(h:NumG H p B v)(s:Same H H'):NumG H' p B v:=let ⟨x,a,b,c⟩:=h;⟨x,a.same s,b,c⟩
theorem NumG.weak {H:Hp}{p:Int}{B B':Nat}{v:V}(h:NumG H p B v)(hB:B<=B'):NumG H p B' v:=let ⟨x,a,b,c⟩:=h;⟨x,a,b,c.le hB⟩
theorem NumG.ext {l:Addr}{H H':Hp}{p:Int}{B:Nat}{v:V}(h:NumG H p B v)(b:Bag H l)(e:Ext l H H'):NumG H' p B v:=let ⟨x,a,c,d⟩:=h;⟨x,a.ext b e,c,d⟩
theorem NumG.put {H:Hp}{D:Addr}{l:List V}{o:HO}{p:Int}{B:Nat}{v:V}(h:NumG H p B v)(hD:H D=some (.lst l)):NumG (upd H D o) p B v:=let ⟨x,a,b,c⟩:=h;⟨x,a.put hD,b,c⟩
def RowG (H:Hp)(p:Int)(B:Nat)(wd:Int)(a:Addr):Prop:=∃ xs,H a=some (.lst xs)/\(xs.length:Int)=wd/\∀ x∈xs,NumG H p B x
theorem RowG.same {H H':Hp}{p wd:Int}{B:Nat}{a:Addr}(h:RowG H p B wd a)(s:Same H H'):RowG H' p B wd a:=let ⟨xs,h1,h2,h3⟩:=h;⟨xs,s _ _ h1,h2,λx hx=>(h3 x hx).same s⟩
theorem RowG.weak {H:Hp}{p wd:Int}{B B':Nat}{a:Addr}(h:RowG H p B wd a)(hB:B<=B'):RowG H p B' wd a:=let ⟨xs,h1,h2,h3⟩:=h;⟨xs,h1,h2,λx hx=>(h3 x hx).weak hB⟩
theorem RowG.ext {l:Addr}{H H':Hp}{p wd:Int}{B:Nat}{a:Addr}(h:RowG H p B wd a)(b:Bag H l)(e:Ext l H H')(n:a≠l):RowG H' p B wd a:=let ⟨xs,h1,h2,h3⟩:=h;⟨xs,e _ _ n h1,h2,λx hx=>(h3 x hx).ext b e⟩
theorem RowG.put {H:Hp}{D:Addr}{l:List V}{o:HO}{p wd:Int}{B:Nat}{a:Addr}(h:RowG H p B wd a)(hD:H D=some (.lst l))(n:a≠D):RowG (upd H D o) p B wd a:=let ⟨xs,h1,h2,h3⟩:=h;⟨xs,by rw[Zal n];exact h1,h2,λx hx=>(h3 x hx).put hD⟩
theorem rowG_of {H:Hp}{p wd:Int}{a:Addr}(h:RowO H p 127 wd a):RowG H p 7 wd a:=let ⟨xs,h1,h2,h3⟩:=h;⟨xs,h1,h2,λx hx=>let ⟨y,a,b,c⟩:=h3 x hx;⟨y,a,b,of_bd c⟩⟩
theorem Zp6 {H:Hp}{p hh wd:Int}{k:Nat}{t r:Addr}{rs:List Addr}(hl:(rs.length:Int)=hh)(w0:0<=wd)(ht:H t=some (.tup [.int hh,.int wd,.ref r]))(hr:H r=some (.lst (rs.map V.ref)))(ro:∀ a∈rs,RowG H p k wd a)(nin:r∉rs):∃ M,TabB H p k hh.toNat wd.toNat t r rs M:=by
 obtain⟨M,hM⟩:=All2.pick (xs:=rs) (P:=λa ys=>RowV H p a ys/\(ys.length:Int)=wd/\GoodB p k ys) λa ha=>by
  refine Zas (ro a ha) λxs h1 h2 h3=>?_;obtain⟨ys,hy⟩:=All2.pick (xs:=xs) (P:=λv y=>NumV H p v y/\Isn p y/\BtN k y) λv hv=>h3 v hv;refine⟨ys,⟨xs,h1,hy.mono λ_ _ z=>z.1⟩,by rw[<- hy.1];exact h2,λy m=>?_⟩;obtain⟨i,e⟩:=List.mem_iff_getElem?.mp m;refine Zae (hy.at (i:=i) e) λv _ z=>?_;exact⟨z.2.1,z.2.2⟩
 have row:∀ ys∈M,(ys.length:Int)=wd/\GoodB p k ys:=λys m=>by
  obtain⟨i,e⟩:=List.mem_iff_getElem?.mp m;refine Zae (hM.at (i:=i) e) λa _ z=>?_;exact z.2
 have h1:((hh.toNat:Nat):Int)=hh:=by exact oz144 hl
 have h2:((wd.toNat:Nat):Int)=wd:=by exact oz135 w0
 exact⟨M,⟨by rw[h1,h2];exact ht,hr,hM.mono λ_ _ z=>z.1,nin⟩,by rw[<- hM.1];exact oz107 hl,λys m=>by have:=(row ys m).1;exact oz107 this,λys m=>(row ys m).2⟩
def spTbG:L2.Sp:=λvs H Q _=>∃ (l:Addr) (p hh wd:Int),vs=[.ref l,.int p,.int hh,.int wd]/\Bag H l/\GroundP p/\0<=hh/\hh<=24/\0<=wd/\wd<=24 /\
 ∀ (t r:Addr) (rs:List Addr) (M:Mv) (H':Hp),Ext l H H'->Bag H' l->New H t r rs->TabB H' p 60 hh.toNat wd.toNat t r rs M->Q (.ref t) H'
theorem ok_tb (F:Fun K "_law_table" "_law_table" Zf9 f fd)(T:Txt K mg C G S)(Ybu:Cal P w K mg base "_law_rows" 4 Zqa)(Yaa:Cal P w K mg base "_law_draw" 1 Zc0)(Yam:Cal P w K mg base "_law_number" 2 (Zn2 7))(Ybv:Cal P w K mg base "_law_mul" 3 (Zo4 Zdj))(Ya5:Cal P w K mg base "_law_add" 3 (Zo4 Zgt)):FnOk P w K mg base CX0 5 f fd ["_law_bag_here","_law_p","_law_high","_law_wide"] spTbG:=by
 have nd:=Zhy.nd;refine F.ok Zhy (λvs H Q E h=>?_) (λcdv A outer s H vs Q E hr h=>?_)
 .refine Zli h λl p hh wd e91 _=>?_;clear h;obtain rfl:=e91;rfl
 .refine Zc6 h λl p hh wd e92 hb hp e93=>?_;clear h;obtain rfl:=e92;refine Zcy e93 λh0 h24 w0 w24 q=>?_;clear e93;refine⟨_,((4|||nd|||(Ybu<$>hr<$>((pvr 0)<&>((pvr 1)<&>((pvr 2)<&>((pvr 3)<&>Zab))))))<*>((@Zay _ _ _ _ _ _ _ _ (PW.pt (Zjb (Zak (Zkj Ze1) (pvr 2) Zac (Zah _)) (Zgc (Zak Zby (Yaa<$>hr<$>((pvr 0)<&>(Zac<&>Zab))) Zac (Zah _))))) ((Zap (i:=5) nd rfl (Or.inr rfl) (Yam<$>hr<$>((pvr 0)<&>((pvr 1)<&>Zab))))<*>((Zb4 (Za0 (own:=["_law_number_here"]) (fr:=[("_law_p",1),("_law_a",5)]) rfl (Zbi (by kernel_rfl)) (Zbd (Za7<|>(pv 4)<||>Zac)) (λ_ _ _ _=>⟨(0<<<["_law_number_here","_law_p","_law_a"]),Zat,(Ybv<$>hr<$>((pv 1)<&>((pv 2)<&>((pv 0)<&>Zab))))⟩)) (Zkh (pvr 4) (Zjv Zfu Zac) Zfh))<*>(@Zau _ _ _ (@Zay _ _ _ _ _ _ _ _ (PW.pt (Zjb (Zak (Zkj Ze1) (pvr 2) Zac (Zah _)) (Zgc (Zak Zby (Yaa<$>hr<$>((pvr 0)<&>(Zac<&>Zab))) Zac (Zah _))))) (@Zau _ _ _ (Zb4 (Za0 (own:=["_law_b","_law_c"]) (fr:=[("_law_p",1)]) rfl (Zbi (by kernel_rfl)) (Zlx rfl T.n_zip ((Za7<|>(pv 4)<||>(Zjv Zfu Zac))<&>((Za7<|>(pv 4)<||>Zac)<&>Zab))) (λ_ _ _ _=>⟨(@Zda _ K rfl _ _ _ _ 2 rfl ((0<<<["_law_b","_law_c","_law_p"])^^^((1<<<["_law_b","_law_c","_law_p"])^^^(@Za6 _))) ⇑1 ⇑1),Zat,(Ya5<$>hr<$>((pv 2)<&>((pv 0)<&>((pv 1)<&>Zab))))⟩)) (Zkh (pvr 4) (Zjv Zfu Zac) Zfh))) Zaj)))) Zaj)<*>(~~~(@Zam _ _ _ _ _ ((pvr 2)<&>((pvr 3)<&>((pvr 4)<&>Zab))))))),?_⟩;walk_at "wp";refine Zkq l p hh wd ⟨rfl,hb,hp,h0,h24,w0,w24,λr rs H1 e1 b1 fr hf nin hr1 hln hro=>?_⟩;have nr:r≠l:=hb.ne fr;have fin:∀ (H2:Hp) (rs2:List Addr),Ext l H H2->Bag H2 l->H2 r=some (.lst (rs2.map V.ref))->(rs2.length:Int)=hh->(∀ a∈rs2,RowG H2 p 60 wd a)->r∉rs2->(∀ a∈rs2,H a=none)->
    (3<=sizeLine/\∀ t,H2 t=none->Q (.ref t) (upd H2 t (.tup [.int hh,.int wd,.ref r]))):=by
   intro H2 rs2 e2 b2 hr2 hl2 hro2 nin2 hf2;refine⟨⇑0,λt ht=>?_⟩;have nt:=b2.ne ht;have hr2':(upd H2 t (.tup [.int hh,.int wd,.ref r])) r=some (.lst (rs2.map V.ref)):=by rw[Zal (Zai hr2 ht)];exact hr2
   obtain⟨M,tb⟩:=Zp6 (t:=t) hl2 w0 Zaa hr2' (λa ha=>(hro2 a ha).same (Same.new ht)) nin2;exact q t r rs2 M _ (e2.trans (Ext.new ht)) (b2.new nt) ⟨e2.free nt ht,fr,hf2⟩ tb
  have hroB:∀ H2,Ext l H1 H2->∀ B:Nat,7<=B->∀ a∈rs,RowG H2 p B wd a:=λH2 e2 B hB a ha=>((rowG_of (hro a ha)).ext b1 e2 (hb.ne (hf a ha))).weak hB;refine Zb5 (λhc1=>?_) (λ_=>fin H1 rs e1 b1 hr1 hln (hroB H1 (Ext.refl _ _) 60 ⇑0) nin hf);have hc1:=Jaz hc1;refine b1.draw ⇑0 ⇑0 λz H2 z0 z1 e2 b2=>⟨rfl,Zb5 (λ_=>?_) (λ_=>fin H2 rs (e1.trans e2) b2 (e2 _ _ nr hr1) hln (hroB H2 e2 60 ⇑0) nin hf)⟩
  refine Zaq l p ⟨rfl,b2,hp,λva x H3 e3 b3 na ia ba=>?_⟩;have hr3:=(e2.trans e3) _ _ nr hr1;have hro3:=hroB H3 (e2.trans e3) 7 ⇑0;have hn0:0<rs.length:=∅
  refine Zas (hro3 (rs[0]) (Jat hn0)) λxs0 hx0 lx0 nx0=>?_;refine⟨_,rfl,r,_,0,_,rfl,rfl,SqL.of hr3,Zde ⇑0 (Zg1 hn0),_,rfl,⟨_,SqL.of hx0⟩,λD hD=>Zu7 (λH y=>NumG H p 21 y) (λh s=>h.same s) (λh e=>h.put e) hx0 hD (oz51 w24 lx0) (λi y H' Q' hy s' q'=>?_) λys H4 s4 hD4 ly hys=>?_⟩
  .refine Zas (nx0 y (Jac hy)) λxy ny iy byy=>?_;exact⟨_,rfl,_,rfl,_,rfl,p,va,y,x,xy,rfl,hp,⟨na.same s',ny.same s',ia,iy,7,7,ba.1,ba.2,byy.1,byy.2,⇑0⟩,λv H5 s5 n5=>q' v H5 s5 ⟨_,n5,Zgx hp.lo ia iy,Znw hp ia iy ba byy⟩⟩
  have hr4:=s4 _ _ hr3;have nDl:D≠l:=b3.ne hD;have fD:H D=none:=((e1.trans e2).trans e3).free nDl hD;have nDr:r≠D:=Zai hr3 hD;refine⟨r,rfl,_,hr4,_,Zk5 (by rw[Jab];exact hn0),?_⟩;rw[Jab,Zn8];have b4:=b3.same s4;have e4:Ext l H H4:=((e1.trans e2).trans e3).trans s4.ext;have e5:Ext l H (upd H4 r (.lst ((rs.set (rs.length-1) D).map V.ref))):=e4.upd fr;have b5:Bag (upd H4 r (.lst ((rs.set (rs.length-1) D).map V.ref))) l:=b4.new nr;have ro5:∀ a∈rs.set (rs.length-1) D,RowG (upd H4 r (.lst ((rs.set (rs.length-1) D).map V.ref))) p 21 wd a:=λa ha=>by
   rcases Jbk ha with ha|rfl
   .exact (((hro3 a ha).same s4).weak ⇑0).put hr4 (λz=>nin (z ▸ ha))
   .exact RowG.put ⟨ys,hD4,oz12 lx0 ly,hys⟩ hr4 nDr.symm
  have nin5:r∉rs.set (rs.length-1) D:=λz=>by
   rcases Jbk z with z|z
   .exact nin z
   .exact nDr z
  have hf5:∀ a∈rs.set (rs.length-1) D,H a=none:=λa ha=>by
   rcases Jbk ha with ha|rfl
   .exact hf a ha
   .exact fD
  have ln5:((rs.set (rs.length-1) D).length:Int)=hh:=by rw[Jcc];exact hln
  have r5:(upd H4 r (.lst ((rs.set (rs.length-1) D).map V.ref))) r=some (.lst ((rs.set (rs.length-1) D).map V.ref)):=Zaa;generalize upd H4 r (.lst ((rs.set (rs.length-1) D).map V.ref))=H5 at *;generalize rs.set (rs.length-1) D=rs5 at *;refine Zb5 (λhc2=>?_) (λ_=>fin H5 rs5 e5 b5 r5 ln5 (λa ha=>(ro5 a ha).weak ⇑0) nin5 hf5);have hc2:=Jaz hc2;refine b5.draw ⇑0 ⇑0 λz2 H6 _ _ e6 b6=>⟨rfl,Zb5 (λ_=>?_) (λ_=>fin H6 rs5 (e5.trans e6) b6 (e6 _ _ nr r5) ln5 (λa ha=>((ro5 a ha).ext b5 e6 (hb.ne (hf5 a ha))).weak ⇑0) nin5 hf5)⟩
  have r6:=e6 _ _ nr r5;have ro6:∀ a∈rs5,RowG H6 p 21 wd a:=λa ha=>(ro5 a ha).ext b5 e6 (hb.ne (hf5 a ha));have hn5:0<rs5.length:=by exact oz153 ln5 hc2
  have hn1:1<rs5.length:=by exact oz136 ln5 hc2
  refine Zas (ro6 (rs5[rs5.length-1]'(oz108 ln5 hc2)) (Jat _)) λxa hxa lxa nxa=>?_;refine Zas (ro6 (rs5[1]) (Jat hn1)) λxb hxb lxb nxb=>?_;refine⟨_,rfl,_,rfl,r,_,-1,_,rfl,rfl,SqL.of r6,Zsw hn5,_,rfl,r,_,1,_,rfl,rfl,SqL.of r6,Zde ⇑0 (Zg1 hn1),_,_,rfl,⟨_,SqL.of hxa⟩,⟨_,SqL.of hxb⟩,λD2 hD2=>Zpl (λH y=>NumG H p 60 y) (λh s=>h.same s) (λh e=>h.put e) hxa hxb (oz65 lxa lxb) hD2 (oz51 w24 lxa) (λi y u H' Q' hy hu s' q'=>?_) λys2 H7 s7 hD7 ly2 hys2=>?_⟩
  .refine Zas (nxa y (Jac hy)) λxy ny iy byy=>?_;refine Zas (nxb u (Jac hu)) λxu nu iu bu=>?_;exact⟨_,rfl,_,rfl,_,rfl,p,y,u,xy,xu,rfl,hp,⟨ny.same s',nu.same s',iy,iu,21,21,byy.1,byy.2,bu.1,bu.2,⇑0⟩,λv H8 s8 n8=>q' v H8 s8 ⟨_,n8,Zid hp.lo iy iu,(Zoy hp iy iu byy bu ⇑0).le ⇑0⟩⟩
  have r7:=s7 _ _ r6;have nDl2:D2≠l:=b6.ne hD2;have fD2:H D2=none:=(e5.trans e6).free nDl2 hD2;have nDr2:r≠D2:=Zai r6 hD2;refine⟨r,rfl,_,r7,_,Zk5 (by rw[Jab];exact hn5),?_⟩;rw[Jab,Zn8];refine fin _ (rs5.set (rs5.length-1) D2) (((e5.trans e6).trans s7.ext).upd fr) ((b6.same s7).new nr) Zaa (by rw[Jcc];exact ln5) (λa ha=>?_) (λz=>?_) (λa ha=>?_)
  .rcases Jbk ha with ha|rfl
   .exact (((ro6 a ha).same s7).weak ⇑0).put r7 (λz=>nin5 (z ▸ ha))
   .exact RowG.put ⟨ys2,hD7,oz12 lxa ly2,hys2⟩ r7 nDr2.symm
  .rcases Jbk z with z|z
   .exact nin5 z
   .exact nDr2 z
  .rcases Jbk ha with ha|rfl
   .exact hf5 a ha
   .exact fD2
end
end Pf
namespace Pf
open PySem L2 L3 PyProof.Rows
def InvM (p:Int)(n:Nat)(M:Mv):Prop:=∀ (F:Type) [Lean.Grind.Field F],FdOk p F->∃ U:Nat->Nat->F,∀ i j,i<n->j<n->sm n (λt=>U i t*vN (M.getD t []) j)=del i j
section
variable {p:Int}{n:Nat}{M:Mv}
end
section
variable {C PL:Addr}
def spPlC:L2.Sp:=λvs H Q _=>∃ p n:Int,vs=[.int p,.int n]/\GroundP p/\0<=n/\n<=24/\∀ t r rs H',Same H H'->New H t r rs->TabV H' p n n t r rs (Zei n.toNat)->Q (.ref t) H'
theorem ok_plC (F:Fun K "_law_plain" "_law_plain" Zga f fd)(T:Txt K mg C G S)(Yau:Cal P w K mg base "_law_int" 1 Ztk):FnOk P w K mg base CX0 2 f fd ["_law_p","_law_many"] spPlC:=by
 have nd:=Zhz.nd;refine F.ok Zhz (λvs H Q E h=>?_) (λcdv A outer s H vs Q E hr h=>?_)
 .refine Zbs h λp n e91 _=>?_;clear h;obtain rfl:=e91;rfl
 .refine Zlj h λp n e92 hp n0 n24 q=>?_;clear h;obtain rfl:=e92;refine⟨_,(~~~(@Zam _ _ _ _ _ ((pvr 1)<&>((pvr 1)<&>((Za0 (own:=["_law_i"]) (fr:=[("_law_many",1),("_law_p",0)]) rfl (Zbi (by kernel_rfl)) (Zge rfl T.n_range ((pv 1)<&>Zab)) (λ_ _ _ _=>⟨(@Zad _ _ 0 _ (show (["_law_i","_law_many","_law_p"]:List Str).Nodup by decide +kernel) rfl (Or.inr rfl) (Or.inl rfl)),Zat,(Za0 (own:=["_law_j"]) (fr:=[("_law_p",2),("_law_i",0)]) rfl (Zbi (by kernel_rfl)) (Zge rfl T.n_range ((pv 1)<&>Zab)) (λ_ _ _ _=>⟨(0<<<["_law_j","_law_p","_law_i"]),Zat,(Yau<$>hr<$>((pv 1)<&>((Zhn Zjr rfl T.n_int boot_int ((Zbx Zby (pv 2) (pv 0) (Zah _))<&>Zab))<&>Zab)))⟩))⟩))<&>Zab))))),?_⟩;walk_at "wp";refine⟨_,rfl,n,rfl,Zm4 n0,Zo9 n24,λD hD=>Zm8 (p:=p) (λi=>eR n.toNat i) hD (oz132 n24) (λi H' Q' hi s' q'=>?_) λrs H3 s3 hD3 al3 nD nds fr=>?_⟩
  .refine ⟨_,rfl,n,rfl,Zm4 n0,Zo9 n24,λE1 hE1=>Zfe (λj Hc y=>NumV Hc p y (if i=j then (1,1) else (0,1))) (λk s=>k.same s) (λk hD=>k.put hD) hE1 (oz132 n24) (λj Hc Qc hj sc _ qc=>?_) λys Hc sc ec yl yn=>?_⟩
   .simp only [Zbq];walk_at "wp";refine⟨_,rfl,_,rfl,rfl,p,_,rfl,hp,λv Hd sd nv=>qc v Hd sd ?_⟩;by_cases h:i=j
    .subst h;rw[if_pos rfl];rw[Jah rfl,if_pos rfl] at nv;have e:Zk9 p 1=(1,1):=Zk8 hp;rwa [e] at nv
    .rw [if_neg h];rw[Jam (λz=>h (by have:=V.int.inj z;omega)),if_neg ⇑0] at nv;rwa [Zgz] at nv
   .refine q' E1 Hc hE1 sc ⟨ys,ec,by rw[Jcc,Jav];omega,λk y x f1 f2=>?_⟩;have nk:=yn k y f1;have hk:k<n.toNat:=by have:=(Jaf.mp f1).1;omega
    rw[Jc7,Jb6,if_pos hk] at f2;by_cases h:i=k
    .subst h;rw[if_pos rfl] at nk f2;rw[if_pos (by rw[Jav];exact hk)] at f2;cases f2;exact nk
    .rw [if_neg h] at nk f2;cases f2;exact nk
  .refine ⟨⇑0,λt ht=>?_⟩;have s5:=Same.new (o:=.tup [V.int n,V.int n,V.ref D]) ht;exact q t D rs _ (s3.trans s5) ⟨s3.free ht,hD,fr⟩ ⟨Zaa,s5 _ _ hD3,al3.mono λ_ _ q=>q.same s5,nD⟩
theorem Zol {α:Type}{xs:List α}{k:Nat}{y z:α}(h:z∈xs.set k y):z=y\/z∈xs:=by
 rcases Jbk h with h|h
 .exact .inr h
 .exact .inl h
structure ChG (H0 H:Hp)(p:Int)(n b:Nat)(r:Addr)(rs:List Addr)(M:Mv):Prop where
 lst:H r=some (.lst (rs.map V.ref))
 row:All2 (RowV H p) rs M
 nin:r∉rs
 fr:∀ a∈rs,H0 a=none
 hl:M.length=n
 hw:∀ xs∈M,xs.length=n
 gd:∀ xs∈M,GoodB p b xs
 iv:InvM p n M
theorem GoodB.le {p:Int}{b b':Nat}{xs:List Nv}(h:GoodB p b xs)(hb:b<=b'):GoodB p b' xs:=λx hx=>⟨(h x hx).1,(h x hx).2.1.le hb,(h x hx).2.2.le hb⟩
theorem ChG.le {H0 H:Hp}{p:Int}{n b b':Nat}{r:Addr}{rs:List Addr}{M:Mv}(h:ChG H0 H p n b r rs M)(hb:b<=b'):ChG H0 H p n b' r rs M:=⟨h.lst,h.row,h.nin,h.fr,h.hl,h.hw,λxs hx=>(h.gd xs hx).le hb,h.iv⟩
theorem ChG.ext {l:Addr}{H0 H H':Hp}{p:Int}{n b:Nat}{r:Addr}{rs:List Addr}{M:Mv}(h:ChG H0 H p n b r rs M)(b0:Bag H0 l)(b1:Bag H l)(e:Ext l H H')(nr:r≠l):ChG H0 H' p n b r rs M:=
 ⟨e _ _ nr h.lst,h.row.monoM λa xs ha q=>q.ext b1 e (b0.ne (h.fr a ha)),h.nin,h.fr,h.hl,h.hw,h.gd,h.iv⟩
theorem TabB.ext {l:Addr}{H0 H H':Hp}{p:Int}{k n wd:Nat}{t r:Addr}{rs:List Addr}{M:Mv}(h:TabB H p k n wd t r rs M)(b0:Bag H0 l)(nw:New H0 t r rs)(b:Bag H l)(e:Ext l H H'):TabB H' p k n wd t r rs M:=
 ⟨⟨e _ _ (b0.ne nw.t) h.tv.tup,e _ _ (b0.ne nw.r) h.tv.lst,h.tv.row.monoM λa xs ha q=>q.ext b e (b0.ne (nw.rs a ha)),h.tv.nin⟩,h.hl,h.hw,h.gd⟩
structure GL (H0 H:Hp)(p:Int)(k:Nat)(l:Addr)(ts:List Addr)(ds:List (Nat×Nat))(Ms:List Mv):Prop where
 lst:H l=some (.lst (ts.map V.ref))
 len:ts.length=ds.length
 nl:H0 l=none
 tab:∀ (i:Nat) t d,ts[i]?=some t->ds[i]?=some d->∃ r rs,TabB H p k d.1 d.2 t r rs (Ms.getD i [])/\New H0 t r rs
theorem GL.same {H0 H H':Hp}{p:Int}{k:Nat}{l:Addr}{ts:List Addr}{ds:List (Nat×Nat)}{Ms:List Mv}(h:GL H0 H p k l ts ds Ms)(s:Same H H'):GL H0 H' p k l ts ds Ms:=⟨s _ _ h.lst,h.len,h.nl,λi t d e1 e2=>let ⟨r,rs,a,b⟩:=h.tab i t d e1 e2;⟨r,rs,a.same s,b⟩⟩
theorem GL.le {H0 H:Hp}{p:Int}{k k':Nat}{l:Addr}{ts:List Addr}{ds:List (Nat×Nat)}{Ms:List Mv}(h:GL H0 H p k l ts ds Ms)(hk:k<=k'):GL H0 H p k' l ts ds Ms:=⟨h.lst,h.len,h.nl,λi t d e1 e2=>let ⟨r,rs,a,b⟩:=h.tab i t d e1 e2;⟨r,rs,a.le hk,b⟩⟩
theorem GL.ext {b:Addr}{H0 H H':Hp}{p:Int}{k:Nat}{l:Addr}{ts:List Addr}{ds:List (Nat×Nat)}{Ms:List Mv}(h:GL H0 H p k l ts ds Ms)(b0:Bag H0 b)(b1:Bag H b)(e:Ext b H H'):GL H0 H' p k l ts ds Ms:=⟨e _ _ (b0.ne h.nl) h.lst,h.len,h.nl,λi t d e1 e2=>let ⟨r,rs,a,nw⟩:=h.tab i t d e1 e2;⟨r,rs,a.ext b0 nw b1 e,nw⟩⟩
abbrev tds (ns:List Int)(ps:List (Int×Int)):List (Nat×Nat):=ps.map λq=>(nz ns q.2,nz ns q.1)
abbrev cds (ns:List Int):List (Nat×Nat):=ns.map λn=>(n.toNat,n.toNat)
theorem GL.tbl {H0 H:Hp}{p:Int}{k:Nat}{l:Addr}{ts:List Addr}{ps:List (Int×Int)}{ns:List Int}{Ms:List Mv}(h:GL H0 H p k l ts (tds ns ps) Ms):TbL H p k l ts ps ns Ms:=⟨h.lst,by rw[h.len,Jab],λi t q e1 e2=>let ⟨r,rs,a,_⟩:=h.tab i t (nz ns q.2,nz ns q.1) e1 (by rw[Jad,e2];rfl);⟨r,rs,a⟩⟩
theorem GL.chl {H0 H:Hp}{p:Int}{k:Nat}{l:Addr}{ts:List Addr}{ns:List Int}{Ms:List Mv}(h:GL H0 H p k l ts (cds ns) Ms):ChL H p k l ts ns Ms:=⟨h.lst,by rw[h.len,Jab],λi t n e1 e2=>let ⟨r,rs,a,_⟩:=h.tab i t (n.toNat,n.toNat) e1 (by rw[Jad,e2];rfl);⟨r,rs,a⟩⟩
def spLs6:L2.Sp:=λvs H Q _=>∃ (l a:Addr) (p m:Int) (xs:List V) (ps:List (Int×Int)),vs=[.ref l,.int p,.int m,.ref a]/\Bag H l/\GroundP p/\H a=some (.lst xs)/\Prs H xs ps/\InP m ps/\ps.length<=9/\1<=m/\m<=8/\a≠l /\
 ∀ (t z tl:Addr) (ns:List Int) (ts:List Addr) (Ms:List Mv) (H':Hp),Ext l H H'->Bag H' l->H t=none->H' t=some (.tup [.ref z,.ref tl])->H z=none->H' z=some (.lst (ns.map V.int))->(ns.length:Int)=m->(∀ n∈ns,0<=n/\n<=2)->GL H H' p 60 tl ts (tds ns ps) Ms->Q (.ref t) H'
theorem ok_ls6 (F:Fun K "_law_standing" "_law_standing" Zea f fd)(T:Txt K mg C G S)(Yaa:Cal P w K mg base "_law_draw" 1 Zc0)(Ya1:Cal P w K mg base "_law_table" 5 spTbG):FnOk P w K mg base CX0 6 f fd ["_law_bag_here","_law_p","_law_many","_law_arrows"] spLs6:=by
 have nd:=Ze5.nd;refine F.ok Ze5 (λvs H Q E h=>?_) (λcdv A outer s H vs Q E hr h=>?_)
 .refine xE6_2 h λl a p m xs ps e95 _=>?_;clear h;obtain rfl:=e95;rfl
 .refine Zs5 h λl a p m xs ps e96 hb hp e97=>?_;clear h;obtain rfl:=e96;refine xE0_8 e97 λha pr ip p9 m1 m8 na q=>?_;clear e97;refine⟨_,((Zap (i:=4) nd rfl (Or.inr rfl) (@Zar _ _ _ _ Zab))<*>((5|||nd|||(Za7<|>(@Zar _ _ _ _ (Zac<&>(Zac<&>Zab)))<||>(Zhn Zjr rfl T.n_int boot_int ((Zbx (Zkj Ze1) (pvr 1) Zac (Zah _))<&>Zab))))<*>((Zgs Jbr rfl (Zge rfl T.n_range ((pv 2)<&>Zab)) (6>>>nd) ((Zgd (Zm3 Jb0 Jbw Jbx (mtJ Zc4) (pvr 4) ((Za1 (Zmb rfl) rfl T.n_min boot_min ((pvr 5)<&>((Yaa<$>hr<$>((pvr 0)<&>(Zac<&>Zab)))<&>Zab)))<&>Zab)))<*>(@Zau _ _ _ (5|||nd|||(Zgv<|>(pvr 5)<&&>(Za7<|>(pvr 4)<||>(Zjv Zfu Zac)))))))<*>((Zfc (i:=7) (own:=["_law_tail","_law_head"]) (fr:=[("_law_bag_here",0),("_law_p",1),("_law_sizes",4)]) rfl (Zbi (by kernel_rfl)) (Zbd (pv 3)) (λ_ _ _ _=>⟨(@Zda _ K rfl _ _ _ _ 2 rfl ((0<<<["_law_tail","_law_head","_law_bag_here","_law_p","_law_sizes"])^^^((1<<<["_law_tail","_law_head","_law_bag_here","_law_p","_law_sizes"])^^^(@Za6 _))) ⇑1 ⇑1),Zat,(Ya1<$>hr<$>((pv 2)<&>((pv 3)<&>(((Zdh K rfl)<|>(pv 4)<||>(pv 1))<&>(((Zdh K rfl)<|>(pv 4)<||>(pv 0))<&>Zab)))))⟩) nd rfl rfl rfl)<*>(~~~(@Zam _ _ _ _ _ ((pvr 4)<&>((pvr 7)<&>Zab)))))))),?_⟩;refine cut2 λX hX=>?_;walk_at "wp";have p0:=hp.lo;refine⟨Jck _,λz hz=>?_⟩;have nz:z≠l:=hb.ne hz;have naz:a≠z:=Zai ha hz;have ez:(upd H z (.lst [])) z=some (.lst []):=Zaa;have s1:=Same.new (o:=.lst []) hz;have b1:=hb.new (o:=.lst []) nz;generalize upd H z (.lst [])=H1 at *;refine⟨(show 2<=sizeLine by decide),λp1 hp1=>?_⟩;obtain⟨le0,hle,l0,l7⟩:∃ le0:Int,atI [V.int 4,V.int 7] (if decide (0<p)=true then 1 else 0)=some (.int le0)/\0<=le0/\le0<=7:=by
   by_cases h:0<p
   .exact ⟨7,by rw[Jah h];rfl,⇑0,⇑0⟩
   .exact ⟨4,by rw[Jam h];rfl,⇑0,⇑0⟩
  have s2:=Same.new (o:=.lst [V.int 4,V.int 7]) hp1;refine⟨_,SqL.of Zaa,_,hle,?_⟩;have ez2:=s2 _ _ ez;have b2:=b1.same s2;have s02:=s1.trans s2;generalize upd H1 p1 (.lst [V.int 4,V.int 7])=H2 at *;subst hX;refine Zb3 λX hX=>?_;refine cutF λY hY=>?_;refine⟨_,rfl,m,rfl,∅,∅,Zeg (λi σ H3=>∃ (v6:Option V) (le:Int) (ns:List Int),σ=[some (.ref l),some (.int p),some (.int m),some (.ref a),some (.ref z),some (.int le),v6,none]/\0<=le/\le<=7/\Ext l H H3/\Bag H3 l/\H3 z=some (.lst (ns.map V.int))/\ns.length=i/\∀ n∈ns,0<=n/\n<=2)
   ⟨none,le0,[],rfl,l0,l7,s02.ext,b2,ez2,rfl,by simp⟩ ?_ ?_⟩
  .intro i σ H3 hi e91;refine Zcx e91 λv6 le ns e98 l0 l7 e99=>?_;clear e91;obtain rfl:=e98;refine Zcy e99 λe3 b3 hz3 hln hn=>?_;clear e99;refine cutD λD2 hD2=>?_;simp only[Zbp,List.set_cons_zero,List.set_cons_succ];subst hY;walk_at "wp";refine⟨.inl ⟨rfl,_,SqL.of hz3⟩,b3.draw ⇑0 ⇑0 λy H4 y0 y1 e4 b4=>⟨le,y,⟨rfl,rfl⟩,_,e4 _ _ nz hz3,Zan (by rw[Jab];exact oz171 m8 hi hln),_,SqL.of Zaa,_,Zvb _ _,_,rfl,?_⟩⟩;subst hD2;refine Zbv _ _ (ns++[if y<le then y else le]) ⟨rfl,?_,?_,(e3.trans e4).upd hz,b4.new nz,by rw[Zaa,Ja7];rfl,by rw[Jai,hln];rfl,λn hnn=>?_⟩
   .split <;> omega
   .split <;> omega
   .rcases Ja1.mp hnn with h|h
    .exact hn n h
    .rw [Jao.mp h];split <;> omega
  .intro σ H3 e92;refine Zcx e92 λv6 le ns e910 l0 l7 e911=>?_;clear e92;obtain rfl:=e910;refine Zcy e911 λe3 b3 hz3 hln hn=>?_;clear e911;subst hX;walk_at "wp";have hxl:=pr.1;have ha3:=e3 _ _ na ha;refine⟨_,rfl,a,rfl,⟨_,SqL.of ha3⟩,λD hD=>?_⟩;have nDl:D≠l:=b3.ne hD;have fD:H D=none:=e3.free nDl hD;have nzD:z≠D:=Zai hz3 hD;refine Zd7 (k:=2) (xs:=xs) (λi vs H'=>∃ (ts:List Addr) (Ms:List Mv),vs=ts.map V.ref/\Ext l H3 H'/\Bag H' l/\H' D=some (.lst vs)/\ts.length=i/\Ms.length=i/\∀ (j:Nat) t q,ts[j]?=some t->ps[j]?=some q->∃ r rs,TabB H' p 60 (Pf.nz ns q.2) (Pf.nz ns q.1) t r rs (Ms.getD j [])/\New H t r rs/\r≠D/\D∉rs)
    ⟨[],[],rfl,Ext.new hD,b3.new nDl,Zaa,rfl,rfl,λj t q e=>by simp at e⟩ (λi vs H' _ ⟨_,_,_,e',_⟩=>SqL.of (e' _ _ na ha3)) ?_ ?_
   .intro i x vs σ' H' hi hx sh e93;refine Zju e93 λts Ms e912 e' b' hD' htl e913=>?_;clear e93;obtain rfl:=e912;obtain⟨hml,ht⟩:=e913;refine Zfq sh.two λz1 z2 e914=>?_;obtain rfl:=e914;have hq:ps[i]?=some (ps[i]'(oz3 hxl hi)):=Jaa (oz3 hxl hi);refine Zae ((pr.bag hb (e3.trans e')).2 i x _ hx hq) λta e915 hta=>?_;obtain rfl:=e915;have hz':=e' _ _ nz hz3;refine Zck (ip _ (Jac hq)) λi0 i1 j0 j1=>?_;have a1:=Zoz (ns:=ns) i0 (oz60 hln i1);have a2:=Zoz (ns:=ns) j0 (oz60 hln j1);have c1:=hn (ns.getD ps[i].1.toNat 0) (by rw[Jae,Jaa (show ps[i].1.toNat<ns.length by omega)];exact Jat _);have c2:=hn (ns.getD ps[i].2.toNat 0) (by rw[Jae,Jaa (show ps[i].2.toNat<ns.length by omega)];exact Jat _);refine Zaq ta _ ⟨rfl,SqT.of hta,rfl,_,_,rfl,_,_,rfl,rfl,?_⟩;simp only[Ze0,List.set_cons_zero,List.set_cons_succ,Jb9,Zbq];walk_at "wp";refine⟨_,rfl,_,rfl,_,rfl,z,rfl,_,SqL.of hz',_,a2,_,rfl,z,rfl,_,SqL.of hz',_,a1,l,p,_,_,rfl,b',hp,c2.1,∅,c1.1,∅,λt r rs M H4 e4 b4 nw tb=>?_⟩;have hD4:=e4 _ _ nDl hD';have n3:r≠D:=λz=>by have:=nw.r;rw[z,hD'] at this;cases this
    have n4:D∉rs:=λz=>by have:=nw.rs D z;rw[hD'] at this;cases this
    have e0':=e3.trans e';refine Zk3 (ws:=ts.map V.ref++[.ref t]) hi Sh.mk2 hD4 (Zan (by rw[Jab];exact oz14 p9 hxl hi htl)) ⟨ts++[t],Zbe _ _,(e'.trans e4).upd hD,b4.new nDl,by rw[Zaa],by rw[Jai,htl];rfl,Ms++[M],by rw[Jai,hml];rfl,λj t' q' f1 f2=>?_⟩;by_cases hj:j<ts.length
    .rw [Jar hj] at f1;refine Zf2 (ht j t' q' f1 f2) λr' rs' tb' nw' n1 n2=>?_;refine Zaq r' rs' ⟨?_,nw',n1,n2⟩;rw[Jae,Jar (oz5 htl hml hj),<- Jae];exact (tb'.ext hb nw' b' e4).put hD4 n1 n2
    .rw [Jas (Zpp hj)] at f1;have hj0:j-ts.length=0:=by
      by_cases z:j-ts.length=0
      .exact z
      .rw [Jap (by simp;exact oz4 z)] at f1;cases f1
     rw[hj0] at f1;cases f1;have ji:j=i:=by exact oz2 htl hj hj0
     subst ji;rw[hq] at f2;cases f2;refine Zaq r rs ⟨?_,⟨e0'.free (b'.ne nw.t) nw.t,e0'.free (b'.ne nw.r) nw.r,λx hx=>e0'.free (b'.ne (nw.rs x hx)) (nw.rs x hx)⟩,n3,n4⟩;rw[Jae,Jas (oz24 hml),hml,Nat.sub_self];exact tb.put hD4 n3 n4
   .intro vs H4 e94;refine Zju e94 λts Ms e916 e4 b4 hD4 htl e917=>?_;clear e94;obtain rfl:=e916;obtain⟨hml,ht⟩:=e917;refine⟨⇑0,λt ht'=>?_⟩;have s5:=Same.new (o:=.tup [V.ref z,V.ref D]) ht';have e05:=(e3.trans e4).trans s5.ext;refine q t z D ns ts Ms _ e05 (b4.same s5) ((e3.trans e4).free (b4.ne ht') ht') Zaa hz (s5 _ _ (e4 _ _ nz hz3)) (oz127 m1 hln) hn ⟨s5 _ _ hD4,by rw[Jab];exact oz62 hxl htl,fD,λi t d f1 f2=>?_⟩;rw[Jad] at f2;cases eq':ps[i]? with
    | none=>rw[eq'] at f2;cases f2
    | some q'=>
     rw[eq'] at f2;cases f2;refine Zf2 (ht i t q' f1 eq') λr rs tb nw _ _=>?_;exact Zaq r rs ⟨tb.same s5,nw⟩
def Zqd (S C G:Addr):L2.Sp:=Zj2 S C G
theorem ok_lbc (F:Fun K "lets_by_change" "lets_by_change" Zbr f fd)(T:Txt K mg C G S)(Yad:Cal P w K mg base "is_beside" 2 (Zks S C G))(Yag:Cal P w K mg base "is_led" 12 (Zj2 S C G)):FnOk P w K mg base CX0 13 f fd ["standing","other","changes","backs"] (Zqd S C G):=by
 have nd:=Zb0.nd;refine F.ok Zb0 (λvs H Q E h=>?_) (λcdv A outer s H vs Q E hr h=>?_)
 .obtain ⟨H0,H0',x,c,b,dx,g,d,z,l,lp,y,dy,g',d',z',l',lp',p,m,k,k2,kt,kt',xs,ys,ps,ns,ts,ts',cts,bts,Ms,Ms',Cs,Bs,rfl,_⟩:=h;rfl
 .obtain ⟨H0,H0',x,c,b,dx,g,d,z,l,lp,y,dy,g',d',z',l',lp',p,m,k,k2,kt,kt',xs,ys,ps,ns,ts,ts',cts,bts,Ms,Ms',Cs,Bs,rfl,sx,sy,hp,ip,p9,hc,hb,k1,km,k21,k2m,kt1,ktm,q⟩:=h;refine⟨_,(~~~(Zdc (Yad<$>hr<$>((pvr 0)<&>((pvr 1)<&>Zab))) (Zdw (Yag<$>hr<$>((pvr 0)<&>((pvr 1)<&>((pvr 2)<&>((pvr 3)<&>Zab)))))))),?_⟩;walk_at "wp";refine⟨x,dx,g,d,z,l,lp,y,dy,g',d',z',l',lp',p,m,xs,ys,ps,ns,ns,rfl,sx.sa,sx.prs,sy.sa,sy.prs,λH1 s1=>⟨true,rfl,Zgg rfl ⟨H0,H0',x,c,b,dx,g,d,z,l,lp,y,dy,g',d',z',l',lp',p,m,k,k2,kt,kt',xs,ys,ps,ns,ts,ts',cts,bts,Ms,Ms',Cs,Bs,rfl,sx.same s1,sy.same s1,hp,ip,p9,hc.same s1,hb.same s1,k1,km,k21,k2m,kt1,ktm,λt H2 s2 e=>q t H2 (s1.trans s2) e⟩⟩⟩
def toB (p hh wd:Int)(H:Hp)(v:V):Bool:=Zgj p H v && match v with
 | .ref a=>match H a with
  | some (.tup [.int i,.int j,_])=>decide (i=hh) && decide (j=wd)
  | _=>false
 | _=>false
theorem Znx {p:Int}{H:Hp}{v:V}(h:Zgj p H v=true):∃ a i j z,v=.ref a/\H a=some (.tup [.int i,.int j,z]):=by
 cases v <;> try (cases h)
 rename_i a
 simp only[Zgj] at h;split at h
 .rename_i i j z e
  exact Zkq a i j _ ⟨rfl,e⟩
 .cases h
theorem Zmn {p hh wd i j:Int}{H:Hp}{a:Addr}{z:V}(h:H a=some (.tup [.int i,.int j,z])):toB p hh wd H (.ref a)=(Zgj p H (.ref a) && (decide (i=hh) && decide (j=wd))):=by
 simp only[toB,h]
theorem Znv {p hh wd:Int}{H H':Hp}{v:V}(h:WfT H v)(s:Same H H'):toB p hh wd H' v=toB p hh wd H v:=by
 unfold toB;rw[Zij h s];cases hb:Zgj p H v with
 | false=>rfl
 | true=>
  refine Zli (Znx hb) λa i j z e93 ha=>?_;obtain rfl:=e93;simp only[ha,s _ _ ha]
def spToA (G:Addr):Sp:=λvs H Q _=>∃ (g:Addr) (p hh wd:Int) (v:V),vs=[.ref g,.int hh,.int wd,v]/\GAt G H g p/\GroundP p/\WfT H v/\∀ H',Same H H'->Q (.bl (toB p hh wd H v)) H'
theorem ok_toA (F:Fun K "is_table_of" "is_table_of" Zdf f fd)(T:Txt K mg C G S)(Yaf:Cal P w K mg base "is_table" 8 (Znz G)):FnOk P w K mg base CX0 9 f fd ["ground","high","wide","thing"] (spToA G):=by
 have nd:=Zcr.nd;refine F.ok Zcr (λvs H Q E h=>?_) (λcdv A outer s H vs Q E hr h=>?_)
 .refine Zpu h λg p hh wd v e94 _=>?_;clear h;obtain rfl:=e94;rfl
 .refine Zhb h λg p hh wd v e95 hg hp e96=>?_;clear h;obtain rfl:=e95;obtain⟨wt,q⟩:=e96;refine⟨_,(~~~(Zdc (Yaf<$>hr<$>((pvr 0)<&>((pvr 3)<&>Zab))) (Zdc (Zbx Zby ((Zho Za2)<|>(pvr 3)<||>Zac) (pvr 1) (Zah _)) (Zdw (Zbx Zby ((Zho Za2)<|>(pvr 3)<||>Zac) (pvr 2) (Zah _)))))),?_⟩;walk_at "wp";refine Zbv g p v ⟨rfl,hg,hp,wt,λH1 s1=>⟨_,rfl,?_⟩⟩;cases hb:Zgj p H v with
  | false=>
   refine Zut ?_;have:=q H1 s1;unfold toB at this;rw[hb,Jbe] at this;exact this
  | true=>
   refine Zli (Znx hb) λa i j z e97 ha=>?_;obtain rfl:=e97;rw[Zmn ha,hb,Jca] at q;refine iteT ?_;refine⟨_,SqT.of (s1 _ _ ha),_,rfl,rfl,?_⟩;by_cases hi:i=hh
   .refine Zgg (Jah (by rw[hi])) ⟨_,SqT.of (s1 _ _ ha),_,rfl,rfl,?_⟩;have:=q H1 s1;rw[Jah hi,Jca] at this;rw[show decide (V.int j=V.int wd)=decide (j=wd) by simp];exact this
   .refine Zcj (by simp[hi]) ?_;have:=q H1 s1;rw[Jam hi,Jbe] at this;exact this
def WfTs (H:Hp)(v:V):Prop:=Kn H v/\∀ a xs,v=.ref a->H a=some (.lst xs)->∀ y∈xs,WfT H y
theorem WfTs.same {H H':Hp}{v:V}(h:WfTs H v)(s:Same H H'):WfTs H' v:=⟨h.1.same s,λa xs e1 e2 y hy=>(h.2 a xs e1 (Kn.back (e1 ▸ h.1) s e2) y hy).same s⟩
abbrev acAt (p:Int)(ns:List Int)(H:Hp)(us:List V)(i:Nat):Bool:=toB p (ns.getD i 0) (ns.getD i 0) H (us.getD i .non)
def acB (p:Int)(ns:List Int)(H:Hp):V->Bool
 | .ref a=>match H a with
  | some (.lst us)=>decide (us.length=ns.length) && ((List.range ns.length).map (acAt p ns H us)).all id
  | _=>false
 | _=>false
theorem Zgh {p:Int}{ns:List Int}{H:Hp}{v:V}(h:Zjs H v=false):acB p ns H v=false:=by
 cases v <;> try rfl
 simp only[Zjs] at h;simp only[acB];split
 .rename_i e;rw[e] at h;cases h
 .rfl
theorem Zh3 {p:Int}{ns:List Int}{H:Hp}{a:Addr}{us:List V}(h:H a=some (.lst us)):acB p ns H (.ref a)=(decide (us.length=ns.length) && ((List.range ns.length).map (acAt p ns H us)).all id):=by
 simp only[acB,h]
theorem Zcw {p:Int}{ns:List Int}{H H':Hp}{v:V}(h:WfTs H v)(s:Same H H'):acB p ns H' v=acB p ns H v:=by
 cases hb:Zjs H v with
 | false=>
  rw[Zgh hb];refine Zgh ?_;cases v <;> try rfl
  simp only[Zjs,Kn.at h.1 s] at hb ⊢;exact hb
 | true=>
  refine Zca (Zup h.1 hb) λa us e98 ha _=>?_;obtain rfl:=e98;rw[Zh3 ha,Zh3 (s _ _ ha)];by_cases hl:us.length=ns.length
  .congr 2;refine Jd8 λj hj=>?_;have hj:j<us.length:=by have:=Ja6.mp hj;exact Zly hl this
   have e:us[j]?=some us[j]:=Jaa hj;show toB p _ _ H' (us.getD j .non)=toB p _ _ H (us.getD j .non);rw[Zhq e];exact Znv (h.2 a us rfl ha _ (Jac e)) s
  .rw [Jam hl,Jbe,Jbe]
def spAcA (S C G:Addr):L2.Sp:=λvs H Q _=>∃ (x dx g d z l lp:Addr) (p m:Int) (xs:List V) (ns:List Int) (v:V),vs=[.ref x,v]/\StA S C G H x p m ns dx g d z l lp xs/\GroundP p/\WfTs H v/\∀ H',Same H H'->Q (.bl (acB p ns H v)) H'
theorem ok_acA (F:Fun K "are_changes" "are_changes" Zdg f fd)(T:Txt K mg C G S)(Yao:Cal P w K mg base "is_table_of" 9 (spToA G)):FnOk P w K mg base CX0 10 f fd ["standing","thing"] (spAcA S C G):=by
 have nd:=Zcs.nd;refine F.ok Zcs (λvs H Q E h=>?_) (λcdv A outer s H vs Q E hr h=>?_)
 .refine xE12_2 h λx dx g d z l lp p m xs ns v e99 _=>?_;clear h;obtain rfl:=e99;rfl
 .refine xE12_4 h λx dx g d z l lp p m xs ns v e910 st hp e911=>?_;clear h;obtain rfl:=e910;obtain⟨⟨hk,hx⟩,q⟩:=e911;refine⟨_,((@Zay _ _ _ _ _ _ _ _ (PW.pt (Zce (Za9 (Zbb (Za1 Zax rfl T.n_isinstance Jbb ((pvr 1)<&>((Zfs rfl T.n_list Jcg)<&>Zab))))) (Zbj (Zak Zft (Za1 Zao rfl T.n_len Jba ((pvr 1)<&>Zab)) (Zcg (Za3 (pvr 0) rfl) rfl) (Zah _))))) (~~~Zbm) Zaj)<*>(~~~(Za1 (Zbu rfl) rfl T.n_all Jc6 ((Za0 (own:=["size","table"]) (fr:=[("standing",0)]) rfl (Zbi (by kernel_rfl)) (Zlx rfl T.n_zip ((Zcg (pv 0) rfl)<&>((pv 1)<&>Zab))) (λ_ _ _ _=>⟨(@Zda _ K rfl _ _ _ _ 2 rfl ((0<<<["size","table","standing"])^^^((1<<<["size","table","standing"])^^^(@Za6 _))) ⇑1 ⇑1),Zat,(Yao<$>hr<$>((Zkz K rfl (pv 2) rfl)<&>((pv 0)<&>((pv 0)<&>((pv 1)<&>Zab)))))⟩))<&>Zab)))),?_⟩;walk_at "wp";refine Zae st.drw λdd hd hlp=>?_;have hm:=st.hm;refine Zae (Zk4 (K:=K) hk) λt1 h1 h2=>?_;refine Zaq _ _ ⟨⟨rfl,rfl⟩,_,rfl,_,h1,_,h2,Zb5 (λhc=>?_) (λhc=>?_)⟩
  .rw [Zgh (by simpa using hc)] at q;exact q H (Same.refl _)
  .refine Zca (Zup hk (by simpa using hc)) λc us e912 hc0 hcl=>?_;obtain rfl:=e912;rw[Zh3 hc0] at q;refine⟨c,rfl,_,.inl (SqL.of hc0),S,dx,_,st.ins,T.cl_Standing,T.nSd,_,Zbz ..,d,rfl,C,dd,_,hd,T.cl_Drawing,T.nM,_,Zdz m lp,rfl,Zb5 (λhn=>?_) (λhn=>?_)⟩
   .have hn':¬ us.length=ns.length:=λz=>by simp[z,hm] at hn
    rw[Jam hn',Jbe] at q;exact q H (Same.refl _)
   .have hn':us.length=ns.length:=by
     have:(us.length:Int)=m:=by simpa using hn
     exact oz65 hm this
    rw[Jah hn',Jca] at q;refine⟨_,rfl,x,S,dx,_,_,rfl,st.ins,T.cl_Standing,T.nSs,Zd2 ..,_,rfl,z,c,rfl,⟨_,SqL.of st.szs.1⟩,⟨_,SqL.of hc0⟩,λD hD=>?_⟩;refine Zg4 (k:=2) (xs:=ns.map V.int) (ys:=us) (λi vs H'=>Same H H'/\H' D=some (.lst vs)/\vs=((List.range i).map (acAt p ns H us)).map V.bl) (by rw[Jab];exact oz30 hn') ⟨Same.new hD,Zaa,rfl⟩ (λi vs H' _ pv=>⟨SqL.of (pv.1 _ _ st.szs.1),SqL.of (pv.1 _ _ hc0)⟩) ?_ ?_
    .intro i v y pz vs σ' H' hi hx' hy hpz sh e91;refine Zba e91 λs' e' e913=>?_;clear e91;obtain rfl:=e913;refine Zfq sh.two λz1 z2 e914=>?_;obtain rfl:=e914;rw[Jab] at hi;refine Zae (Zjj hx') λn hn e915=>?_;obtain rfl:=e915;have n0:=st.szs.2.2 n (Jac hn);have n8:=st.szs.2.1;have s0:=s'.trans (Same.new (o:=.tup [V.int n,y]) hpz);have st0:=st.same s0;have wy:=hx c us rfl hc0 y (Jac hy);refine Zaq pz _ ⟨rfl,SqT.of Zaa,rfl,_,_,rfl,_,_,rfl,rfl,?_⟩;simp only[Ze0,List.set_cons_zero,List.set_cons_succ,Jb9];refine⟨_,rfl,x,S,dx,_,_,rfl,st0.ins,T.cl_Standing,T.nSg,Zc1 ..,_,rfl,_,rfl,_,rfl,g,p,n,n,y,rfl,st0.grd,hp,wy.same s0,λH'' s''=>?_⟩;have s1:=(Same.new (o:=.tup [V.int n,y]) hpz).trans s'';have ev:toB p n n (upd H' pz (.tup [V.int n,y])) y=acAt p ns H us i:=by
      rw[Znv wy s0];show _=toB p (ns.getD i 0) (ns.getD i 0) H (us.getD i .non);rw[Jae,hn,Zhq hy];rfl
     rw[ev];exact Zk3 (ws:=((List.range (i+1)).map (acAt p ns H us)).map V.bl) (by rw[Jab];exact hi) Sh.mk2 (s1 _ _ e') (Zan (by rw[Jab,Jab,Jax];exact oz67 hi n8)) ⟨(s'.trans s1).upd hD,by rw[Zaa,Jcv,Ja7,Ja7];rfl,rfl⟩
    .intro vs H' e92;refine Zba e92 λs' e' e916=>?_;clear e92;obtain rfl:=e916;refine⟨D,rfl,_,SqL.of e',?_⟩;rw[Jab];exact q H' s'
theorem ChL.wf {H:Hp}{p:Int}{k:Nat}{l:Addr}{ts:List Addr}{ns:List Int}{Cs:List Mv}(h:ChL H p k l ts ns Cs)(hk:k<=1000000)(hn:∀ n∈ns,0<=n/\n<=24)(h8:ns.length<=8):WfTs H (.ref l)/\acB p ns H (.ref l)=true:=by
 have one:∀ (i:Nat) t,ts[i]?=some t->∃ n r rs,ns[i]?=some n/\0<=n/\n<=24/\Tab H p n n t r rs:=λi t e=>by
  have hl:=h.2.1;have hi:=(Jaf.mp e).1;have en:ns[i]?=some (ns[i]'(oz3 hl hi)):=Jaa _;refine Zfq (h.2.2 i t _ e en) λr rs tb=>?_;have nn:=hn _ (Jac en);have tt:=tb.tab hk;rw[Jbj nn.1] at tt;exact Zbv _ r rs ⟨en,nn.1,nn.2,tt⟩
 refine⟨⟨.lst h.1 (by rw[Jab];have:=h.2.1;exact oz115 h8 this),λa xs e1 e2 y hy=>?_⟩,?_⟩
 .cases e1;rw[h.1] at e2;cases e2;refine Zae (Ja2.mp hy) λt ht e917=>?_;obtain rfl:=e917;obtain⟨j,hj,rfl⟩:=Ja4.mp ht;refine Zcx (one j _ (Jaa hj)) λn r rs _ _ n24 tt=>?_;exact tt.wft n24 n24
 .have hl:=h.2.1;rw[Zh3 h.1,Jah (by rw[Jab];exact oz30 hl),Jca,Jbg];intro b hb;refine Zae (Ja2.mp hb) λj hj e918=>?_;obtain rfl:=e918;have hj:=Ja6.mp hj;have e1:ts[j]?=some (ts[j]'(Zly hl hj)):=Jaa _;refine Zcx (one j _ e1) λn r rs en n0 _ tt=>?_;show toB p (ns.getD j 0) (ns.getD j 0) H ((ts.map V.ref).getD j .non)=true;rw[Zhq (show (ts.map V.ref)[j]?=some (.ref (ts[j]'(Zly hl hj))) by rw[Jad,e1];rfl),Jae,en,Zmn tt.tup,tt.is n0 n0];simp
theorem FnOk.or {k:Nat}{f:Addr}{fd:FuncData}{ps:List Str}{sp sp':L2.Sp}(a:FnOk P w K mg base CX0 k f fd ps sp)(b:FnOk P w K mg base CX0 k f fd ps sp'):FnOk P w K mg base CX0 k f fd ps (λvs H Q E=>sp vs H Q E\/sp' vs H Q E):=
 ⟨λvs H Q E h=>h.elim (a.len vs H Q E) (b.len vs H Q E),λA outer s H args us vs Q E r e bt v h=>h.elim (a.run A outer s H args us vs Q E r e bt v) (b.run A outer s H args us vs Q E r e bt v)⟩
def NBs (S C G:Addr)(H:Hp)(p m:Int)(ps:List (Int×Int))(v:V):Prop:=Kn H v\/∃ (y dy g' d' z' l' lp':Addr) (p' m':Int) (ys:List V) (qs:List (Int×Int)),v=.ref y/\H y=some (.ins S dy (Zh6 g' d' z' l'))/\GAt G H g' p'/\Zez C H d' m' lp' ys/\Prs H ys qs/\¬ (p'=p/\m'=m/\qs=ps)
theorem NBs.same {H H':Hp}{p m:Int}{ps:List (Int×Int)}{v:V}(h:NBs S C G H p m ps v)(s:Same H H'):NBs S C G H' p m ps v:=by
 rcases h with h|⟨y,dy,g',d',z',l',lp',p',m',ys,qs,e,a,b,⟨dd,c1,c2⟩,d,n⟩
 .exact .inl (h.same s)
 .exact .inr ⟨y,dy,g',d',z',l',lp',p',m',ys,qs,e,s _ _ a,b.same s,⟨dd,s _ _ c1,s _ _ c2⟩,d.same s,n⟩
theorem kn_std {H:Hp}{v:V}(T:Txt K mg C G S)(h:Kn H v):∃ t,TyOf K H v t/\PySem.W.kitOne K t (.ref S)=some false:=by
 rcases h with rfl|⟨b,rfl⟩|⟨i,rfl⟩|⟨z,rfl⟩|⟨a,xs,rfl,h2,_⟩|⟨a,xs,rfl,h2,_⟩
 .exact ⟨_,.non,T.kn0⟩
 .exact ⟨_,.bl b,T.kn1⟩
 .exact ⟨_,.int i,T.kn2⟩
 .exact ⟨_,.str z,T.kn3⟩
 .exact ⟨_,.lst h2,T.kn4⟩
 .exact ⟨_,.tup h2,T.kn5⟩
def Zht (S C G:Addr):L2.Sp:=λvs H Q _=>∃ (x dx g d z l lp:Addr) (p m:Int) (xs:List V) (ps:List (Int×Int)) (ns:List Int) (v:V),vs=[.ref x,v]/\StA S C G H x p m ns dx g d z l lp xs/\Prs H xs ps/\NBs S C G H p m ps v/\∀ H',Same H H'->Q (.bl false) H'
theorem Zrh (F:Fun K "is_beside" "is_beside" Zds f fd)(T:Txt K mg C G S)(Yah:Cal P w K mg base "stands_on" 1 (spOn S C G)):FnOk P w K mg base CX0 2 f fd ["standing","thing"] (Zht S C G):=by
 have nd:=Zd4.nd;refine F.ok Zd4 (λvs H Q E h=>?_) (λcdv A outer s H vs Q E hr h=>?_)
 .refine Zpy h λx dx g d z l lp p m xs ps ns v e91 _=>?_;clear h;obtain rfl:=e91;rfl
 .refine Zvk h λx dx g d z l lp p m xs ps ns v e92 sx px e93=>?_;clear h;obtain rfl:=e92;obtain⟨hn,q⟩:=e93;refine⟨_,(~~~(Zdc (Za1 Zax rfl T.n_isinstance Jbb ((pvr 1)<&>((Zm2 (v:=.ref S) rfl T.g_Standing rfl)<&>Zab))) (Zdw (Yah<$>hr<$>((pvr 1)<&>((Za3 (pvr 0) rfl)<&>((Za3 (pvr 0) rfl)<&>Zab))))))),?_⟩;walk_at "wp";rcases hn with hk|⟨y,dy,g',d',z',l',lp',p',m',ys,qs,rfl,hy,hg',hd',py,ne⟩
  .refine Zae (kn_std T hk) λt h1 h2=>?_;exact Zaq _ _ ⟨⟨rfl,rfl⟩,_,rfl,_,h1,_,h2,Zut (q H (Same.refl _))⟩
  .refine Zaq _ _ ⟨⟨rfl,rfl⟩,_,rfl,_,.ins hy T.cl_Standing T.ic1 T.ic2 T.ic3 T.ic4,_,k_own K S,iteT ?_⟩;refine Zbv S dx _ ⟨sx.ins,T.cl_Standing,T.nSg,_,Zc1 ..,S,dx,_,sx.ins,T.cl_Standing,T.nSd,_,Zbz ..,y,dy,g',d',z',l',g,d,lp',lp,p',p,m',m,ys,xs,qs,ps,rfl,hy,hg',sx.grd,hd',sx.drw,py,px,?_⟩;rw[Jam ne];exact q H (Same.refl _)
theorem ok_bsdO (F:Fun K "is_beside" "is_beside" Zds f fd)(T:Txt K mg C G S)(Yah:Cal P w K mg base "stands_on" 1 (spOn S C G)):FnOk P w K mg base CX0 2 f fd ["standing","thing"] (λvs H Q E=>Zks S C G vs H Q E\/Zht S C G vs H Q E):=FnOk.or (Zv1 F T Yah) (Zrh F T Yah)
def Zqh (S C G:Addr):L2.Sp:=λvs H Q _=>∃ (x dx g d z l lp:Addr) (p m:Int) (xs:List V) (ns:List Int) (c b:V),vs=[.ref x,c,b]/\StA S C G H x p m ns dx g d z l lp xs/\GroundP p/\WfTs H c/\WfTs H b/\(acB p ns H c && acB p ns H b)=false/\∀ H',Same H H'->Q (.bl false) H'
theorem ok_bksN (F:Fun K "are_backs" "are_backs" Zem f fd)(T:Txt K mg C G S)(Yal:Cal P w K mg base "are_changes" 10 (spAcA S C G)):FnOk P w K mg base CX0 11 f fd ["standing","changes","backs"] (Zqh S C G):=by
 have nd:=Zd6.nd;refine F.ok Zd6 (λvs H Q E h=>?_) (λcdv A outer s H vs Q E hr h=>?_)
 .refine Zpy h λx dx g d z l lp p m xs ns c b e94 _=>?_;clear h;obtain rfl:=e94;rfl
 .refine Zvk h λx dx g d z l lp p m xs ns c b e95 st hp e96=>?_;clear h;obtain rfl:=e95;refine Zck e96 λwc wb bad q=>?_;clear e96;refine⟨_,((@Zay _ _ _ _ _ _ _ _ (PW.pt (Zce (Za9 (Zbb (Yal<$>hr<$>((pvr 0)<&>((pvr 1)<&>Zab))))) (Zbj (Za9 (Zbb (Yal<$>hr<$>((pvr 0)<&>((pvr 2)<&>Zab)))))))) (~~~Zbm) Zaj)<*>((Zap (i:=3) nd rfl (Or.inr rfl) (Za3 (pvr 0) rfl))<*>(@Zau _ _ _ Zcf))),?_⟩;walk_at "wp";refine xI12_1 x dx g d z l lp p m xs ns c ⟨rfl,st,hp,wc,λH1 s1=>⟨_,rfl,?_⟩⟩;cases hc:acB p ns H c with
  | false=>exact Zgg ⇑0 (q H1 s1)
  | true=>
   rw[hc,Jca] at bad;refine Zcj ⇑0 ⟨x,dx,g,d,z,l,lp,p,m,xs,ns,b,rfl,st.same s1,hp,wb.same s1,λH2 s2=>⟨_,rfl,?_⟩⟩;rw[Zcw wb s1,bad];exact Zgg ⇑0 (q H2 (s1.trans s2))
def Zn4 (S C G:Addr):L2.Sp:=λvs H Q _=>∃ (x dx g d z l lp y dy g' d' z' l' lp':Addr) (p p' m m':Int) (xs ys:List V) (ns:List Int) (c b:V),vs=[.ref x,.ref y,c,b]/\StA S C G H x p m ns dx g d z l lp xs/\StA S C G H y p' m' ns dy g' d' z' l' lp' ys/\GroundP p/\WfTs H c/\WfTs H b/\(acB p ns H c && acB p ns H b)=false/\∀ H',Same H H'->Q (.bl false) H'
theorem ok_ledN (F:Fun K "is_led" "is_led" Zib f fd)(T:Txt K mg C G S)(Yar:Cal P w K mg base "are_backs" 11 (Zqh S C G)):FnOk P w K mg base CX0 12 f fd ["standing","other","changes","backs"] (Zn4 S C G):=by
 have nd:=Zgp.nd;refine F.ok Zgp (λvs H Q E h=>?_) (λcdv A outer s H vs Q E hr h=>?_)
 .obtain ⟨x,dx,g,d,z,l,lp,y,dy,g',d',z',l',lp',p,p',m,m',xs,ys,ns,c,b,rfl,_⟩:=h;rfl
 .obtain ⟨x,dx,g,d,z,l,lp,y,dy,g',d',z',l',lp',p,p',m,m',xs,ys,ns,c,b,rfl,sx,sy,hp,wc,wb,bad,q⟩:=h;refine⟨_,((@Zay _ _ _ _ _ _ _ _ (PW.pt (Zce (Zak (Zq7 (Zh7 hr)) (Za3 (pvr 0) rfl) (Za3 (pvr 1) rfl) (Zah _)) (Zbj (Za9 (Zbb (Yar<$>hr<$>((pvr 0)<&>((pvr 2)<&>((pvr 3)<&>Zab))))))))) (~~~Zbm) Zaj)<*>((Zap (i:=4) nd rfl (Or.inr rfl) (Za3 (pvr 0) rfl))<*>(@Zau _ _ _ Zcf))),?_⟩;walk_at "wp";exact Zbv S dx _ ⟨sx.ins,T.cl_Standing,T.nSs,_,Zd2 ..,S,dy,_,sy.ins,T.cl_Standing,T.nSs,_,Zd2 ..,z,rfl,z',rfl,_,SqL.of sx.szs.1,_,SqL.of sy.szs.1,.inr ⟨_,Zk6,Zcj (by rw[Znm];decide) ⟨x,dx,g,d,z,l,lp,p,m,xs,ns,c,b,rfl,sx,hp,wc,wb,bad,λH1 s1=>⟨false,rfl,Zgg ⇑0 (q H1 s1)⟩⟩⟩⟩
def Zlo (S C G:Addr):L2.Sp:=λvs H Q _=>∃ (x dx g d z l lp:Addr) (p m:Int) (xs:List V) (ps:List (Int×Int)) (ns:List Int) (v c b:V),vs=[.ref x,v,c,b]/\StA S C G H x p m ns dx g d z l lp xs/\Prs H xs ps/\GroundP p/\(NBs S C G H p m ps v\/((∃ (y dy g' d' z' l' lp':Addr) (ys:List V),v=.ref y/\StA S C G H y p m ns dy g' d' z' l' lp' ys/\Prs H ys ps)/\WfTs H c/\WfTs H b/\(acB p ns H c && acB p ns H b)=false))/\∀ H',Same H H'->Q (.bl false) H'
theorem ok_lbcN (F:Fun K "lets_by_change" "lets_by_change" Zbr f fd)(T:Txt K mg C G S)(Yad:Cal P w K mg base "is_beside" 2 (λvs H Q E=>Zks S C G vs H Q E\/Zht S C G vs H Q E))(Yag:Cal P w K mg base "is_led" 12 (Zn4 S C G)):FnOk P w K mg base CX0 13 f fd ["standing","other","changes","backs"] (Zlo S C G):=by
 have nd:=Zb0.nd;refine F.ok Zb0 (λvs H Q E h=>?_) (λcdv A outer s H vs Q E hr h=>?_)
 .refine Znq h λx dx g d z l lp p m xs ps ns v c b e97 _=>?_;clear h;obtain rfl:=e97;rfl
 .refine Znp h λx dx g d z l lp p m xs ps ns v c b e98 st pr e99=>?_;clear h;obtain rfl:=e98;refine Zba e99 λhp hv q=>?_;clear e99;refine⟨_,(~~~(Zdc (Yad<$>hr<$>((pvr 0)<&>((pvr 1)<&>Zab))) (Zdw (Yag<$>hr<$>((pvr 0)<&>((pvr 1)<&>((pvr 2)<&>((pvr 3)<&>Zab)))))))),?_⟩;walk_at "wp";rcases hv with nb|⟨⟨y,dy,g',d',z',l',lp',ys,rfl,sy,py⟩,wc,wb,bad⟩
  .exact .inr ⟨x,dx,g,d,z,l,lp,p,m,xs,ps,ns,v,rfl,st,pr,nb,λH1 s1=>⟨false,rfl,Zcj ⇑0 (q H1 s1)⟩⟩
  .refine .inl ⟨x,dx,g,d,z,l,lp,y,dy,g',d',z',l',lp',p,m,xs,ys,ps,ns,ns,rfl,st,pr,sy,py,λH1 s1=>⟨true,rfl,Zgg rfl ⟨x,dx,g,d,z,l,lp,y,dy,g',d',z',l',lp',p,p,m,m,xs,ys,ns,c,b,rfl,st.same s1,sy.same s1,hp,wc.same s1,wb.same s1,?_,λH2 s2=>q H2 (s1.trans s2)⟩⟩⟩;rw[Zcw wc s1,Zcw wb s1];exact bad
theorem ok_lbcO (F:Fun K "lets_by_change" "lets_by_change" Zbr f fd)(T:Txt K mg C G S)(Yad:Cal P w K mg base "is_beside" 2 (Zks S C G))(Yag:Cal P w K mg base "is_led" 12 (Zj2 S C G))(Ybb:Cal P w K mg base "is_beside" 2 (λvs H Q E=>Zks S C G vs H Q E\/Zht S C G vs H Q E))(Ya7:Cal P w K mg base "is_led" 12 (Zn4 S C G)):FnOk P w K mg base CX0 13 f fd ["standing","other","changes","backs"] (λvs H Q E=>Zqd S C G vs H Q E\/Zlo S C G vs H Q E):=FnOk.or (ok_lbc F T Yad Yag) (ok_lbcN F T Ybb Ya7)
theorem Zma {X:Cx}(K:Frag)(hK:X.K=K)(hc:X.calm=true):Zgi X (.builtin "sum") (λxs H Q=>∃ (p:Addr) (ns:List Int),xs=[.ref p]/\SqL K H p (ns.map V.int)/\Q (.int (preSum (λi=>ns.getD i 0) ns.length)) H):=by subst hK;exact Zox hc
theorem Zg3 {a D:Addr}{fr:List (Str×Nat)}{σ:L2.St}{te:TE}{H1:Hp}{Q:VK}(ha:H1 a=some (.lst []))(hD:H1 D=none)(hQ:∀ H',Same H1 H'->H' D=some (.lst [])->Q (.ref D) H'):Zbw (Zbp 0) Ze0 te (Itl K a) D (Zha 1 fr σ) H1 Q:=
 Zcu (λ_ _ _=>True) (λ_ _=>trivial) (λ_ _=>trivial) ha hD ⇑0 (λi x H Q e=>by cases e) λys H' s e l _=>hQ H' s (by rw[e,List.length_eq_zero_iff.mp l])
abbrev zs (m:Nat):List Int:=List.replicate m 0
theorem Zvd {m:Nat}:(zs m).map V.int=List.replicate m (V.int 0):=by rw[Jei]
theorem all0 {ys:List V}{m:Nat}(l:ys.length=m)(h:∀ (i:Nat) y,ys[i]?=some y->y=.int 0):ys=(zs m).map V.int:=by
 rw[Zvd,<- l];exact List.eq_replicate_iff.mpr ⟨rfl,λb hb=>by obtain⟨i,hi,rfl⟩:=Ja4.mp hb;exact h i _ (Jaa hi)⟩
def Zmq (S C G:Addr):L2.Sp:=λvs H Q _=>∃ (g d pl lp:Addr) (p:Int) (m:Nat),vs=[.ref g,.ref d,.ref pl]/\GAt G H g p/\GroundP p/\Zez C H d m lp []/\m<=8/\H pl=some (.lst [])/\∀ (y dy z' l':Addr) (ts':List Addr) (H0 H':Hp),Same H H'->StB H0 S C G H' y p m [] (zs m) 1 [] dy g d z' l' lp [] ts'->Q (.ref y) H'
theorem Zt9 (F:Fun K "side_of" "side_of" Zix f fd)(T:Txt K mg C G S)(Yah:Cal P w K mg base "stands_on" 1 (spOn S C G))(Yai:CalI P w K mg base "Standing" S 11 (spSI S C G)):FnOk P w K mg base CX0 13 f fd ["ground","drawing","standings"] (Zmq S C G):=by
 have nd:=Zj4.nd;refine F.ok Zj4 (λvs H Q E h=>?_) (λcdv A outer s H vs Q E hr h=>?_)
 .refine xE6_2 h λg d pl lp p m e91 _=>?_;clear h;obtain rfl:=e91;rfl
 .refine Zs5 h λg d pl lp p m e92 hg hp e93=>?_;clear h;obtain rfl:=e92;refine Zck e93 λe94 m8 hpl q=>?_;clear e93;obtain⟨dd,hd,hlp⟩:=e94;refine⟨_,((@Zay _ _ _ _ _ _ _ _ (Za9 (Zbb (Za1 (Zbu rfl) rfl T.n_all Jc6 ((Za0 (own:=["standing"]) (fr:=[("ground",0),("drawing",1)]) rfl (Zbi (by kernel_rfl)) (Zbd (pv 2)) (λ_ _ _ _=>⟨(0<<<["standing","ground","drawing"]),Zat,(Yah<$>hr<$>((pv 0)<&>((pv 1)<&>((pv 2)<&>Zab))))⟩))<&>Zab)))) (@Zau _ _ _ Zcf) Zaj)<*>((Zfc (i:=3) (own:=["point"]) (fr:=[("standings",2)]) rfl (Zbi (by kernel_rfl)) (Zge rfl T.n_range ((Zcg (pv 1) rfl)<&>Zab)) (λ_ _ _ _=>⟨(@Zad _ _ 0 _ (show (["point","standings"]:List Str).Nodup by decide +kernel) rfl (Or.inr rfl) (Or.inl rfl)),Zat,(Za1 (Zma K rfl rfl) rfl T.n_sum boot_sum ((Za0 (own:=["standing"]) (fr:=[("point",0)]) rfl (Zbi (by kernel_rfl)) (Zgu K rfl (pv 1)) (λ_ _ _ _=>⟨(0<<<["standing","point"]),Zat,((Zdh K rfl)<|>(Zkz K rfl (pv 0) rfl)<||>(pv 1))⟩))<&>Zab))⟩) nd rfl rfl rfl)<*>((Zfc (i:=4) (own:=["at"]) (fr:=[("ground",0),("standings",2)]) rfl (Zbi (by kernel_rfl)) (Zge rfl T.n_range ((Za1 Zao rfl T.n_len Jba ((Zcg (pv 1) rfl)<&>Zab))<&>Zab)) (λ_ _ _ _=>⟨(@Zad _ _ 0 _ (show (["at","ground","standings"]:List Str).Nodup by decide +kernel) rfl (Or.inr rfl) (Or.inl rfl)),Zat,Zky⟩) nd rfl rfl rfl)<*>(~~~(Zo7 Yai hr.m rfl ((pvr 0)<&>((pvr 1)<&>((pvr 3)<&>((pvr 4)<&>Zab))))))))),?_⟩;refine Zb3 λX hX=>?_;walk_at "wp";refine⟨_,rfl,pl,rfl,⟨_,SqL.of hpl⟩,λD hD=>Zg3 hpl hD λH1 s1 e1=>⟨D,rfl,[],SqL.of e1,Zcj ⇑0 ?_⟩⟩;subst hX;refine Zb3 λX hX=>?_;walk_at "wp";have hd1:=s1 _ _ hd;have hlp1:=s1 _ _ hlp;have hpl1:=s1 _ _ hpl;refine⟨_,rfl,d,C,dd,_,_,rfl,hd1,T.cl_Drawing,T.nM,Zdz m lp,m,rfl,Zt3,∅,λD1 hD1=>?_⟩;rw[show ((m:Nat):Int).toNat=m from Jbp _];refine Zfe (n:=m) (λ_ _ y=>y=.int 0) (λr _=>r) (λr _=>r) hD1 ∅ (λk H2 Q2 hk s2 _ q2=>?_) λys H2 s2 e2 yl hys=>?_
  .simp only [Zbq];walk_at "wp";refine⟨_,rfl,pl,rfl,⟨_,SqL.of (s2 _ _ hpl1)⟩,λD2 hD2=>Zg3 (s2 _ _ hpl1) hD2 λH3 s3 e3=>⟨D2,rfl,[],SqL.of e3,q2 _ H3 s3 rfl⟩⟩
  .rw [all0 yl hys] at e2;have s12:=s1.trans s2;subst hX;refine Zb3 λX hX=>?_;walk_at "wp";have hd2:=s12 _ _ hd;have hlp2:=s12 _ _ hlp;refine⟨_,rfl,d,C,dd,_,_,rfl,hd2,T.cl_Drawing,T.nA,Zcq m lp,lp,rfl,_,.inl (SqL.of hlp2),0,rfl,⇑0,⇑0,λD3 hD3=>?_⟩;refine Zfe (n:=0) (λ_ _ _=>True) (λ_ _=>trivial) (λ_ _=>trivial) hD3 ⇑0 (λk H3 Q3 hk=>absurd hk (Jd5 k)) λus H3 s3 e3 ul _=>?_;rw[List.length_eq_zero_iff.mp ul] at e3;have s13:=s12.trans s3;subst hX;walk_at "wp";refine λy dy hy hdy ndy=>Zil (p:=p) (m:=m) (k:=1) (ps:=[]) (ns:=zs m) (ts:=[]) (Ms:=[]) hy hdy ndy (hg.same s13) hp ⟨dd,s3 _ _ hd2,s3 _ _ hlp2⟩ ⟨rfl,(λi x q e=>by cases e)⟩ (λq h=>by cases h) ⇑0 ⟨s3 _ _ e2,by rw[Jav];exact m8,λn hn=>by rw[(Jb1.mp hn).2];decide⟩ (by rw[Jav]) ⟨e3,rfl,λi t q e=>by cases e⟩ ⇑0 λdx2 z' l' ts' H4 s4 sb=>⟨rfl,q y dx2 z' l' ts' _ H4 (s13.trans s4) sb⟩
def Zti (S C G:Addr):L2.Sp:=λvs H Q _=>∃ (x dx g d z l lp:Addr) (p:Int) (m:Nat) (xs:List V) (ps:List (Int×Int)) (ns:List Int) (v c b:V),vs=[.ref x,v,c,b]/\StA S C G H x p m ns dx g d z l lp xs/\Prs H xs ps/\GroundP p /\
 (((Kn H v/\Zjs H v=false)\/∃ (pl:Addr) (us:List V),v=.ref pl/\H pl=some (.lst us)/\0<us.length/\us.length<=1000/\∀ u∈us,NBs S C G H p m ps u)/\(∀ H',Same H H'->Q (.bl false) H') \/
 ∃ (H0:Hp) (pl c' b':Addr) (k k2 kt:Nat) (ts cts bts:List Addr) (Cs Bs:List Mv),v=.ref pl/\c=.ref c'/\b=.ref b'/\H pl=some (.lst [])/\m<=8/\ns=zs m/\StB H0 S C G H x p m [] (zs m) kt [] dx g d z l lp [] ts/\ChL H p k c' cts (zs m) Cs/\ChL H p k2 b' bts (zs m) Bs/\1<=k/\k<=50000/\1<=k2/\k2<=50000/\1<=kt/\kt<=10000/\Zvc p (zs m) [] [] Cs Bs []/\∀ H',Same H H'->Q (.bl true) H')
theorem ok_lba (F:Fun K "lets_by_apart" "lets_by_apart" Zdp f fd)(T:Txt K mg C G S)(Yad:Cal P w K mg base "is_beside" 2 (Zht S C G))(Ybf:Cal P w K mg base "side_of" 13 (Zmq S C G))(Yag:Cal P w K mg base "is_led" 12 (Zj2 S C G)):FnOk P w K mg base CX0 14 f fd ["standing","parts","changes","backs"] (Zti S C G):=by
 have nd:=Zeu.nd;refine F.ok Zeu (λvs H Q E h=>?_) (λcdv A outer s H vs Q E hr h=>?_)
 .refine Znq h λx dx g d z l lp p m xs ps ns v c b e95 _=>?_;clear h;obtain rfl:=e95;rfl
 .refine Znp h λx dx g d z l lp p m xs ps ns v c b e96 st pr e97=>?_;clear h;obtain rfl:=e96;obtain⟨hp,hq⟩:=e97;refine⟨_,((@Zay _ _ _ _ _ _ _ _ (PW.pt (Zce (Za9 (Zbb (Za1 Zax rfl T.n_isinstance Jbb ((pvr 1)<&>((Zfs rfl T.n_list Jcg)<&>Zab))))) (Zbj (Za9 (Zbb (Za1 (Zbu rfl) rfl T.n_all Jc6 ((Za0 (own:=["part"]) (fr:=[("standing",0)]) rfl (Zbi (by kernel_rfl)) (Zbd (pv 1)) (λ_ _ _ _=>⟨(0<<<["part","standing"]),Zat,(Yad<$>hr<$>((pv 1)<&>((pv 0)<&>Zab)))⟩))<&>Zab))))))) (~~~Zbm) Zaj)<*>((@Zay _ _ _ _ _ _ _ _ (Zak (Zq7 (Zh7 hr)) (Za3 (pvr 0) rfl) (Za0 (own:=["k"]) (fr:=[("parts",1)]) rfl (Zbi (by kernel_rfl)) (Zge rfl T.n_range ((Zcg (Zcg (pv 0) rfl) rfl)<&>Zab)) (λ_ _ _ _=>⟨(@Zad _ _ 0 _ (show (["k","parts"]:List Str).Nodup by decide +kernel) rfl (Or.inr rfl) (Or.inl rfl)),Zat,(Za1 (Zma K rfl rfl) rfl T.n_sum boot_sum ((Za0 (own:=["part"]) (fr:=[("k",0)]) rfl (Zbi (by kernel_rfl)) (Zgu K rfl (pv 1)) (λ_ _ _ _=>⟨(0<<<["part","k"]),Zat,((Zdh K rfl)<|>(Zkz K rfl (pv 0) rfl)<||>(pv 1))⟩))<&>Zab))⟩)) (Zah _)) (~~~Zbm) Zaj)<*>((4|||nd|||(Ybf<$>hr<$>((Za3 (pvr 0) rfl)<&>((Za3 (pvr 0) rfl)<&>((pvr 1)<&>Zab)))))<*>(~~~(Zdc (Yag<$>hr<$>((pvr 0)<&>((pvr 4)<&>((pvr 2)<&>((pvr 3)<&>Zab))))) (Zdw (Za1 (Zbu rfl) rfl T.n_all Jc6 ((Za0 (own:=["part"]) (fr:=[]) rfl (Zbi (by kernel_rfl)) (Zbd (pv 1)) (λ_ _ _ _=>⟨(0<<<["part"]),Zat,Zky⟩))<&>Zab)))))))),?_⟩;refine Zb3 λX hX=>?_;walk_at "wp";refine Zae st.drw λdd hd hlp=>?_;rcases hq with ⟨⟨hk,hl⟩|⟨pl,us,rfl,hpl,u0,u1,hu⟩,q⟩|⟨H0,pl,c',b',k,k2,kt,ts,cts,bts,Cs,Bs,rfl,rfl,rfl,hpl,m8,rfl,sb,hc,hb,k1,km,k21,k2m,kt1,ktm,ok,q⟩
  .refine Zae (Zk4 (K:=K) hk) λt1 h1 h2=>?_;rw[hl] at h2;exact Zaq _ _ ⟨⟨rfl,rfl⟩,_,rfl,_,h1,_,h2,Zgg ⇑0 (q H (Same.refl _))⟩
  .refine Zaq _ _ ⟨⟨rfl,rfl⟩,_,rfl,_,.lst hpl,_,Zb9 K,Zcj ⇑0 ⟨_,rfl,pl,rfl,⟨_,SqL.of hpl⟩,λD hD=>?_⟩⟩;refine Zcu (λ_ _ y=>y=.bl false) (λr _=>r) (λr _=>r) hpl hD u1 (λi u H1 Q1 hu1 s1 _ q1=>?_) λys H1 s1 e1 yl hys=>?_
   .simp only [Zbq];walk_at "wp";exact⟨_,rfl,x,dx,g,d,z,l,lp,p,m,xs,ps,ns,u,rfl,st.same s1,pr.same s1,(hu u (Jac hu1)).same s1,λH2 s2=>q1 _ H2 s2 rfl⟩
   .have ey:ys=(List.replicate us.length false).map V.bl:=by
     rw[Jei,<- yl];exact List.eq_replicate_iff.mpr ⟨rfl,λb hb=>by obtain⟨i,hi,rfl⟩:=Ja4.mp hb;exact hys i _ (Jaa hi)⟩
    rw[ey] at e1;refine⟨D,rfl,_,SqL.of e1,Zgg ?_ (q H1 s1)⟩;obtain⟨n,hn⟩:∃ n,us.length=n+1:=⟨us.length-1,oz86 u0⟩
    rw[hn];rfl
  .refine Zaq _ _ ⟨⟨rfl,rfl⟩,_,rfl,_,.lst hpl,_,Zb9 K,Zcj ⇑0 ⟨_,rfl,pl,rfl,⟨_,SqL.of hpl⟩,λD hD=>Zg3 hpl hD λH1 s1 e1=>⟨D,rfl,[],SqL.of e1,Zcj ⇑0 ?_⟩⟩⟩;subst hX;refine Zb3 λX hX=>?_;walk_at "wp";refine Zae sb.sa.drw λdd hd' hlp'=>?_;have st1:=st.same s1;have hd1:=s1 _ _ hd;have hlp1:=s1 _ _ hlp;have hpl1:=s1 _ _ hpl;refine Zbv S dx _ ⟨st1.ins,T.cl_Standing,T.nSs,_,Zd2 ..,?_⟩;refine⟨_,rfl,x,S,dx,_,_,rfl,st1.ins,T.cl_Standing,T.nSd,Zbz ..,d,C,_,_,_,rfl,hd1,T.cl_Drawing,T.nM,Zdz _ lp,m,rfl,Zt3,∅,λD1 hD1=>?_⟩;rw[show ((m:Nat):Int).toNat=m from Jbp _];refine Zfe (n:=m) (λ_ _ y=>y=.int 0) (λr _=>r) (λr _=>r) hD1 ∅ (λk H2 Q2 hk s2 _ q2=>?_) λys H2 s2 e2 yl hys=>?_
   .simp only [Zbq];walk_at "wp";refine⟨_,rfl,pl,rfl,⟨_,SqL.of (s2 _ _ hpl1)⟩,λD2 hD2=>Zg3 (s2 _ _ hpl1) hD2 λH3 s3 e3=>⟨D2,rfl,[],SqL.of e3,q2 _ H3 s3 rfl⟩⟩
   .rw [all0 yl hys] at e2;have s12:=s1.trans s2;refine⟨z,rfl,D1,rfl,_,SqL.of (s12 _ _ st.szs.1),_,SqL.of e2,.inr ⟨_,Zk6,Zcj (by rw[Znm];decide) ?_⟩⟩;subst hX;refine Zb3 λX hX=>?_;walk_at "wp";have sb2:=sb.same s12;refine Zbv S dx _ ⟨sb2.sa.ins,T.cl_Standing,T.nSg,_,Zc1 ..,S,dx,_,sb2.sa.ins,T.cl_Standing,T.nSd,_,Zbz ..,g,d,pl,lp,p,m,rfl,sb2.sa.grd,hp,sb2.sa.drw,m8,s12 _ _ hpl,λy dy z' l' ts' Hy H3 s3 sby=>?_⟩;have s13:=s12.trans s3;subst hX;walk_at "wp";refine⟨H0,Hy,x,c',b',dx,g,d,z,l,lp,y,dy,g,d,z',l',lp,p,m,k,k2,kt,1,[],[],[],zs m,ts,ts',cts,bts,[],[],Cs,Bs,rfl,sb.same s13,sby,hp,(λq h=>by cases h),⇑0,hc.same s13,hb.same s13,k1,km,k21,k2m,kt1,ktm,λt H4 s4 ht=>?_⟩;obtain rfl:t=true:=ht.mpr ok;have s14:=s13.trans s4;exact⟨true,rfl,Zgg rfl ⟨_,rfl,pl,rfl,⟨_,SqL.of (s14 _ _ hpl)⟩,λD5 hD5=>Zg3 (s14 _ _ hpl) hD5 λH5 s5 e5=>⟨D5,rfl,[],SqL.of e5,q H5 (s14.trans s5)⟩⟩⟩
def Bs (S C G:Addr)(H:Hp)(p m:Int)(ps:List (Int×Int))(v:V):Prop:=∃ (y dy g' d' z' l' lp':Addr) (ys:List V) (ns:List Int),v=.ref y/\StA S C G H y p m ns dy g' d' z' l' lp' ys/\Prs H ys ps
def Zth (S C G:Addr):L2.Sp:=λvs H Q _=>∃ (x dx g d z l lp:Addr) (p m:Int) (xs:List V) (ps:List (Int×Int)) (ns:List Int) (v u:V),vs=[.ref x,v,u]/\StA S C G H x p m ns dx g d z l lp xs/\Prs H xs ps/\(NBs S C G H p m ps v\/(Bs S C G H p m ps v/\NBs S C G H p m ps u))/\∀ H',Same H H'->Q (.bl false) H'
theorem ok_lbu (F:Fun K "lets_by_unlike" "lets_by_unlike" Zc7 f fd)(T:Txt K mg C G S)(Yad:Cal P w K mg base "is_beside" 2 (λvs H Q E=>Zks S C G vs H Q E\/Zht S C G vs H Q E)):FnOk P w K mg base CX0 3 f fd ["standing","other","part"] (Zth S C G):=by
 have nd:=Zed.nd;refine F.ok Zed (λvs H Q E h=>?_) (λcdv A outer s H vs Q E hr h=>?_)
 .refine Znr h λx dx g d z l lp p m xs ps ns v u e91 _=>?_;clear h;obtain rfl:=e91;rfl
 .refine Zvj h λx dx g d z l lp p m xs ps ns v u e92 st pr e93=>?_;clear h;obtain rfl:=e92;obtain⟨hv,q⟩:=e93;refine⟨_,((@Zay _ _ _ _ _ _ _ _ (PW.pt (Zce (Za9 (Zbb (Yad<$>hr<$>((pvr 0)<&>((pvr 1)<&>Zab))))) (Zbj (Za9 (Zbb (Yad<$>hr<$>((pvr 0)<&>((pvr 2)<&>Zab)))))))) (~~~Zbm) Zaj)<*>(@Zau _ _ _ Zcf)),?_⟩;walk_at "wp";rcases hv with nb|⟨⟨y,dy,g',d',z',l',lp',ys,ns',rfl,sy,py⟩,nb⟩
  .exact .inr ⟨x,dx,g,d,z,l,lp,p,m,xs,ps,ns,v,rfl,st,pr,nb,λH1 s1=>⟨false,rfl,Zgg ⇑0 (q H1 s1)⟩⟩
  .exact .inl ⟨x,dx,g,d,z,l,lp,y,dy,g',d',z',l',lp',p,m,xs,ys,ps,ns,ns',rfl,st,pr,sy,py,λH1 s1=>⟨true,rfl,Zcj ⇑0 (.inr ⟨x,dx,g,d,z,l,lp,p,m,xs,ps,ns,u,rfl,st.same s1,pr.same s1,nb.same s1,λH2 s2=>⟨false,rfl,Zgg ⇑0 (q H2 (s1.trans s2))⟩⟩)⟩⟩
def eqS (x:V)(z:Str):Bool:=match x with
 | .str a=>a == z
 | _=>false
theorem Zqr {H:Hp}{n i:Nat}{x:V}{z:Str}(h:Kd K H x i):RcG K H n x (.str z) (eqS x z):=by
 cases h with
 | str a=>exact RcG.str a z
 | non=>exact RcG.kinds .non (.str z) rfl
 | bl b=>exact RcG.kinds (.bl b) (.str z) rfl
 | int b=>exact RcG.kinds (.int b) (.str z) rfl
 | lst h=>exact RcG.kinds (.lst h) (.str z) rfl
 | tup h=>exact RcG.kinds (.tup h) (.str z) rfl
theorem eq_eqS {H:Hp}{n i:Nat}{x:V}{z:Str}(h:Kd K H x i):EqG K H n x (.str z) (eqS x z):=by
 cases h with
 | str a=>exact EqG.str a z
 | non=>exact EqG.kinds .non (.str z) rfl
 | bl b=>exact EqG.kinds (.bl b) (.str z) rfl
 | int b=>exact EqG.kinds (.int b) (.str z) rfl
 | lst h=>exact EqG.kinds (.lst h) (.str z) rfl
 | tup h=>exact EqG.kinds (.tup h) (.str z) rfl
theorem Zm7 {H:Hp}{pa:Addr}{xs:List V}{b:Bool}{k:Int}{A R:Prop}(h0:H pa=some (.tup xs))(hn:(b && decide ((xs.length:Int)=k))=false)(hR:R):if b=true then ∃ y,(SqL K H pa y\/SqT K H pa y)/\(if decide ((y.length:Int)=k)=true then A else R) else R:=by
 cases b with
 | false=>exact Zcj ⇑0 hR
 | true=>exact Zgg rfl ⟨_,.inr (SqT.of h0),Zcj (by rw[Jca] at hn;rw[hn];decide) hR⟩
theorem seqT {H H':Hp}{a:Addr}{xs:List V}(e:Same H H')(h:SqT K H a xs):SqT K H' a xs:=by
 rcases h with (h|⟨o,h⟩)|h
 .exact .inl (.inl (e _ _ h))
 .exact .inl (.inr ⟨o,e _ _ h⟩)
 .exact .inr h
theorem Znc {H H':Hp}{x:V}{i:Nat}(h:Kd K H x i)(s:Same H H'):Kd K H' x i:=by
 cases h with
 | non=>exact .non
 | bl b=>exact .bl b
 | int b=>exact .int b
 | str b=>exact .str b
 | lst h=>exact .lst (s.seq h)
 | tup h=>exact .tup (seqT s h)
def Zqe (K:Frag)(S C G:Addr):L2.Sp:=λvs H Q E=>∃ (x:Addr) (v:V),vs=[.ref x,v] /\
 ((Kn H v/\Zjy H v=false/\Q (.bl false) H)\/∃ pa,v=.ref pa/\((H pa=some (.tup [])/\Q (.bl false) H) \/
 (∃ v1 v2 v3,H pa=some (.tup [.str "change",v1,v2,v3])/\(Zqd S C G [.ref x,v1,v2,v3] H Q E\/Zlo S C G [.ref x,v1,v2,v3] H Q E)) \/
 (∃ v1 v2 v3,H pa=some (.tup [.str "apart",v1,v2,v3])/\Zti S C G [.ref x,v1,v2,v3] H Q E) \/
 (∃ v1 v2,H pa=some (.tup [.str "unlike",v1,v2])/\Zth S C G [.ref x,v1,v2] H Q E) \/
 ∃ x0 us i,H pa=some (.tup (x0::us))/\Kd K H x0 i/\us.length<=100/\(eqS x0 "change" && decide (us.length=3))=false/\(eqS x0 "apart" && decide (us.length=3))=false/\(eqS x0 "unlike" && decide (us.length=2))=false/\(eqS x0 "fixed" && decide (us.length=0))=false/\∀ H',Same H H'->Q (.bl false) H'))
theorem ok_lbA (F:Fun K "lets_by" "lets_by" Zi1 f fd)(T:Txt K mg C G S)(Ybk:Cal P w K mg base "lets_by_change" 13 (λvs H Q E=>Zqd S C G vs H Q E\/Zlo S C G vs H Q E))(Ybl:Cal P w K mg base "lets_by_apart" 14 (Zti S C G))(Ybg:Cal P w K mg base "lets_by_unlike" 3 (Zth S C G)):FnOk P w K mg base CX0 15 f fd ["standing","paper"] (Zqe K S C G):=by
 have nd:=Zj8.nd;refine F.ok Zj8 (λvs H Q E h=>?_) (λcdv A outer s H vs Q E hr h=>?_)
 .refine Zbs h λx v e94 _=>?_;clear h;obtain rfl:=e94;rfl
 .obtain ⟨x,v,rfl,h⟩:=h;refine⟨_,((@Zay _ _ _ _ _ _ _ _ (PW.pt (Zce (Za9 (Zbb (Za1 Zax rfl T.n_isinstance Jbb ((pvr 1)<&>((Zfs rfl T.n_tuple boot_tuple)<&>Zab))))) (Zbj (Za9 (Zts (pvr 1) (λ_=>rfl)))))) (~~~Zbm) Zaj)<*>((@Zay _ _ _ _ _ _ _ _ (PW.pt (Zjb (Zak (Zki (Zh7 hr)) ((Zho Za2)<|>(pvr 1)<||>Zac) Zbh (Zah _)) (Zgc (Zak Zby (Za1 Zao rfl T.n_len Jba ((pvr 1)<&>Zab)) Zac (Zah _))))) (~~~(Ybk<$>hr<$>((pvr 0)<&>(((Zho Za2)<|>(pvr 1)<||>Zac)<&>(((Zho Za2)<|>(pvr 1)<||>Zac)<&>(((Zho Za2)<|>(pvr 1)<||>Zac)<&>Zab)))))) Zaj)<*>((@Zay _ _ _ _ _ _ _ _ (PW.pt (Zjb (Zak (Zki (Zh7 hr)) ((Zho Za2)<|>(pvr 1)<||>Zac) Zbh (Zah _)) (Zgc (Zak Zby (Za1 Zao rfl T.n_len Jba ((pvr 1)<&>Zab)) Zac (Zah _))))) (~~~(Ybl<$>hr<$>((pvr 0)<&>(((Zho Za2)<|>(pvr 1)<||>Zac)<&>(((Zho Za2)<|>(pvr 1)<||>Zac)<&>(((Zho Za2)<|>(pvr 1)<||>Zac)<&>Zab)))))) Zaj)<*>((@Zay _ _ _ _ _ _ _ _ (PW.pt (Zjb (Zak (Zki (Zh7 hr)) ((Zho Za2)<|>(pvr 1)<||>Zac) Zbh (Zah _)) (Zgc (Zak Zby (Za1 Zao rfl T.n_len Jba ((pvr 1)<&>Zab)) Zac (Zah _))))) (~~~(Ybg<$>hr<$>((pvr 0)<&>(((Zho Za2)<|>(pvr 1)<||>Zac)<&>(((Zho Za2)<|>(pvr 1)<||>Zac)<&>Zab))))) Zaj)<*>(~~~(Zdc (Zbx (Zki (Zh7 hr)) (pvr 1) (@Zam _ _ _ _ _ (Zbh<&>Zab)) (Zah _)) (Zdw (Zbx Zby Zky Zac (Zah _))))))))),?_⟩;refine Zb3 λX hX=>?_;walk_at "wp";rcases h with ⟨hk,hl,q⟩|⟨pa,rfl,h⟩
  .obtain ⟨t1,h1,h2⟩:=Zrs (K:=K) hk;rw[hl] at h2;exact⟨_,_,⟨rfl,rfl⟩,_,rfl,_,h1,_,h2,Zgg ⇑0 q⟩
  .rcases h with ⟨h0,q⟩|⟨v1,v2,v3,h0,q⟩|⟨v1,v2,v3,h0,q⟩|⟨v1,v2,h0,q⟩|⟨x0,us,i,h0,k0,ul,n1,n2,n3,n4,q⟩
   .exact Zaq _ _ ⟨⟨rfl,rfl⟩,_,rfl,_,.tup h0,true,Zdx K,Zcj ⇑0 ⟨false,.inr (.inl ⟨_,SqT.of h0,rfl⟩),Zgg ⇑0 q⟩⟩
   .refine Zaq _ _ ⟨⟨rfl,rfl⟩,_,rfl,_,.tup h0,true,Zdx K,Zcj ⇑0 ⟨true,.inr (.inl ⟨_,SqT.of h0,rfl⟩),Zcj ⇑0 ?_⟩⟩;subst hX;refine Zb3 λX hX=>?_;walk_at "wp";exact⟨_,SqT.of h0,_,rfl,true,RcG.str _ _,Zgg rfl ⟨_,.inr (SqT.of h0),Zgg (Jah rfl) ⟨_,SqT.of h0,_,rfl,_,SqT.of h0,_,rfl,_,SqT.of h0,_,rfl,q⟩⟩⟩
   .refine Zaq _ _ ⟨⟨rfl,rfl⟩,_,rfl,_,.tup h0,true,Zdx K,Zcj ⇑0 ⟨true,.inr (.inl ⟨_,SqT.of h0,rfl⟩),Zcj ⇑0 ?_⟩⟩;subst hX;refine Zb3 λX hX=>?_;walk_at "wp";refine⟨_,SqT.of h0,_,rfl,false,RcG.str _ _,Zcj ⇑0 ?_⟩;subst hX;refine Zb3 λX hX=>?_;walk_at "wp";exact⟨_,SqT.of h0,_,rfl,true,RcG.str _ _,Zgg rfl ⟨_,.inr (SqT.of h0),Zgg (Jah rfl) ⟨_,SqT.of h0,_,rfl,_,SqT.of h0,_,rfl,_,SqT.of h0,_,rfl,q⟩⟩⟩
   .refine Zaq _ _ ⟨⟨rfl,rfl⟩,_,rfl,_,.tup h0,true,Zdx K,Zcj ⇑0 ⟨true,.inr (.inl ⟨_,SqT.of h0,rfl⟩),Zcj ⇑0 ?_⟩⟩;subst hX;refine Zb3 λX hX=>?_;walk_at "wp";refine⟨_,SqT.of h0,_,rfl,false,RcG.str _ _,Zcj ⇑0 ?_⟩;subst hX;refine Zb3 λX hX=>?_;walk_at "wp";refine⟨_,SqT.of h0,_,rfl,false,RcG.str _ _,Zcj ⇑0 ?_⟩;subst hX;refine Zb3 λX hX=>?_;walk_at "wp";exact⟨_,SqT.of h0,_,rfl,true,RcG.str _ _,Zgg rfl ⟨_,.inr (SqT.of h0),Zgg (Jah rfl) ⟨_,SqT.of h0,_,rfl,_,SqT.of h0,_,rfl,q⟩⟩⟩
   .refine Zaq _ _ ⟨⟨rfl,rfl⟩,_,rfl,_,.tup h0,true,Zdx K,Zcj ⇑0 ⟨true,.inr (.inl ⟨_,SqT.of h0,rfl⟩),Zcj ⇑0 ?_⟩⟩;subst hX;refine Zb3 λX hX=>?_;walk_at "wp";have len:∀ (b:Bool) (n:Nat),(b && decide (us.length=n))=false->(b && decide (((x0::us).length:Int)=(n+1:Nat)))=false:=λb n h=>by
     rw[<- h];congr 1;exact Jdy.mpr (by rw[Jcl];exact oz176)
    refine⟨_,SqT.of h0,x0,Zde (Jes 0) rfl,_,Zqr k0,Zm7 h0 (len _ _ n1) ?_⟩;subst hX;refine Zb3 λX hX=>?_;walk_at "wp";refine⟨_,SqT.of h0,x0,Zde (Jes 0) rfl,_,Zqr k0,Zm7 h0 (len _ _ n2) ?_⟩;subst hX;refine Zb3 λX hX=>?_;walk_at "wp";refine⟨_,SqT.of h0,x0,Zde (Jes 0) rfl,_,Zqr k0,Zm7 h0 (len _ _ n3) ?_⟩;subst hX;walk_at "wp";refine⟨⇑0,λpf hpf=>?_⟩;have s1:=Same.new (o:=.tup [V.str "fixed"]) hpf;have k1:Kd K (upd H pf (.tup [V.str "fixed"])) x0 i:=Znc k0 s1;refine⟨_,RcG.tup1 (SqT.of (s1 _ _ h0)) (SqT.of Zaa) (eq_eqS k1),?_⟩;rw[n4];exact Zcj ⇑0 (q _ s1)
def rm (D:Addr)(H:Hp):Hp:=λa=>if a=D then none else H a
theorem Zbl (D:Addr)(H:Hp):Same (rm D H) H:=λb o e=>by
 unfold rm at e;split at e
 .cases e
 .exact e
theorem Zbg {D a:Addr}{H:Hp}{o:HO}(h:H a=some o)(n:a≠D):rm D H a=some o:=by unfold rm;rw[if_neg n];exact h
theorem Zsa {D:Addr}{H:Hp}:Ext D H (rm D H):=λ_ _ n h=>Zbg h n
theorem Zav {D:Addr}{H H':Hp}(e:Ext D H H'):Same (rm D H) (rm D H'):=λb o h=>by
 have n:b≠D:=λz=>by unfold rm at h;rw[if_pos z] at h;cases h
 exact Zbg (e _ _ n (Zbl D H _ _ h)) n
abbrev Zs9 (ns:List Int):List Mv:=ns.map λn=>Zei n.toNat
structure Ctx (S C G:Addr)(R:Hp)(p m:Int)(xs:List V)(ps:List (Int×Int))(ns:List Int)(x dx g d z l' lp gd u y:Addr)(uts:List Addr):Prop where
 st:StA S C G R x p m ns dx g d z l' lp xs
 prs:Prs R xs ps
 hp:GroundP p
 un:ChL R p 7 u uts ns (Zs9 ns)
 gd:R gd=some (.tup [.str "change",.ref x,.ref u,.ref u])
 ot:NBs S C G R p m ps (.ref y)
 lo:1<=m
 n2:∀ n∈ns,0<=n/\n<=2
section
variable {R R':Hp}{p m:Int}{xs:List V}{ps:List (Int×Int)}{ns:List Int}{x dx g d z l' lp gd u y:Addr}{uts:List Addr}
theorem Ctx.same (h:Ctx S C G R p m xs ps ns x dx g d z l' lp gd u y uts)(s:Same R R'):Ctx S C G R' p m xs ps ns x dx g d z l' lp gd u y uts:=
 ⟨h.st.same s,h.prs.same s,h.hp,h.un.same s,s _ _ h.gd,h.ot.same s,h.lo,h.n2⟩
def Bad (K:Frag)(S C G:Addr)(x:Addr)(R:Hp)(v:V):Prop:=∀ (H:Hp) (Q:VK),Same R H->(∀ H',Same H H'->Q (.bl false) H')->Zqe K S C G [.ref x,v] H Q E0
theorem Zko {v:V}(h:Kn R v)(n:Zjy R v=false):Bad K S C G x R v:=λH Q s q=>⟨x,v,rfl,.inl ⟨h.same s,by
 cases v <;> try rfl
 simp only[Zjy,h.at s] at n ⊢;exact n,q H (Same.refl _)⟩⟩
theorem bad_nil {pa:Addr}(h:R pa=some (.tup [])):Bad K S C G x R (.ref pa):=λH Q s q=>⟨x,_,rfl,.inr ⟨pa,rfl,.inl ⟨s _ _ h,q H (Same.refl _)⟩⟩⟩
theorem Zdi {pa:Addr}{x0:V}{us:List V}{i:Nat}(n:Nat)(hl:us.length=n)(h:R pa=some (.tup (x0::us)))(k:Kd K R x0 i)(hb:(decide (n<=100) && !(eqS x0 "change" && decide (n=3)) && !(eqS x0 "apart" && decide (n=3)) && !(eqS x0 "unlike" && decide (n=2)) && !(eqS x0 "fixed" && decide (n=0)))=true):Bad K S C G x R (.ref pa):=by
 subst hl;rw[Jbm,Jbm,Jbm,Jbm,Jc2,Jdo,Jdo,Jdo,Jdo] at hb;exact λH Q s q=>⟨x,_,rfl,.inr ⟨pa,rfl,.inr (.inr (.inr (.inr ⟨x0,us,i,s _ _ h,Znc k s,hb.1.1.1.1,hb.1.1.1.2,hb.1.1.2,hb.1.2,hb.2,q⟩)))⟩⟩
theorem Zmh {pa:Addr}{v c b:V}(X:Ctx S C G R p m xs ps ns x dx g d z l' lp gd u y uts)(h:R pa=some (.tup [.str "change",v,c,b]))(n:NBs S C G R p m ps v):Bad K S C G x R (.ref pa):=
 λH Q s q=>⟨x,_,rfl,.inr ⟨pa,rfl,.inr (.inl ⟨v,c,b,s _ _ h,.inr ⟨x,dx,g,d,z,l',lp,p,m,xs,ps,ns,v,c,b,rfl,X.st.same s,X.prs.same s,X.hp,.inl (n.same s),q⟩⟩)⟩⟩
theorem Zg8 {pa:Addr}{c b:V}(X:Ctx S C G R p m xs ps ns x dx g d z l' lp gd u y uts)(h:R pa=some (.tup [.str "change",.ref x,c,b]))(wc:WfTs R c)(wb:WfTs R b)(n:(acB p ns R c && acB p ns R b)=false):Bad K S C G x R (.ref pa):=
 λH Q s q=>⟨x,_,rfl,.inr ⟨pa,rfl,.inr (.inl ⟨_,c,b,s _ _ h,.inr ⟨x,dx,g,d,z,l',lp,p,m,xs,ps,ns,_,c,b,rfl,X.st.same s,X.prs.same s,X.hp,.inr ⟨⟨x,dx,g,d,z,l',lp,xs,rfl,X.st.same s,X.prs.same s⟩,wc.same s,wb.same s,by rw[Zcw wc s,Zcw wb s];exact n⟩,q⟩⟩)⟩⟩
theorem Zmi {pa:Addr}{v c b:V}(X:Ctx S C G R p m xs ps ns x dx g d z l' lp gd u y uts)(h:R pa=some (.tup [.str "apart",v,c,b]))(n:(Kn R v/\Zjs R v=false)\/∃ (pl:Addr) (us:List V),v=.ref pl/\R pl=some (.lst us)/\0<us.length/\us.length<=1000/\∀ u∈us,NBs S C G R p m ps u):Bad K S C G x R (.ref pa):=
 λH Q s q=>⟨x,_,rfl,.inr ⟨pa,rfl,.inr (.inr (.inl ⟨v,c,b,s _ _ h,x,dx,g,d,z,l',lp,p,m.toNat,xs,ps,ns,v,c,b,rfl,by
  have:=X.lo;rw[Jbj ∅];exact⟨X.st.same s,X.prs.same s,X.hp,.inl ⟨by
   rcases n with ⟨k,nl⟩|⟨pl,us,rfl,h1,h2,h3,h4⟩
   .refine .inl ⟨k.same s,?_⟩;cases v <;> try rfl
    simp only[Zjs,k.at s] at nl ⊢;exact nl
   .exact .inr ⟨pl,us,rfl,s _ _ h1,h2,h3,λw hw=>(h4 w hw).same s⟩,q⟩⟩⟩))⟩⟩
theorem Zfo {pa:Addr}{v w:V}(X:Ctx S C G R p m xs ps ns x dx g d z l' lp gd u y uts)(h:R pa=some (.tup [.str "unlike",v,w]))(n:NBs S C G R p m ps v\/(v=.ref x/\NBs S C G R p m ps w)):Bad K S C G x R (.ref pa):=
 λH Q s q=>⟨x,_,rfl,.inr ⟨pa,rfl,.inr (.inr (.inr (.inl ⟨v,w,s _ _ h,x,dx,g,d,z,l',lp,p,m,xs,ps,ns,v,w,rfl,X.st.same s,X.prs.same s,by
  rcases n with n|⟨rfl,n⟩
  .exact .inl (n.same s)
  .exact .inr ⟨⟨x,dx,g,d,z,l',lp,xs,ns,rfl,X.st.same s,X.prs.same s⟩,n.same s⟩,q⟩)))⟩⟩
end
end
end Pf
namespace Pf
open PySem L2 L3 PyProof.Rows
section
variable {C PL:Addr}
inductive Odd (R:Hp):V->Prop where
 | non:Odd R .non
 | tru:Odd R (.bl true)
 | int (i:Int):Odd R (.int i)
 | str (z:Str):Odd R (.str z)
 | nil {a:Addr} (h:R a=some (.lst [])):Odd R (.ref a)
 | tup0 {a:Addr} (h:R a=some (.tup [])):Odd R (.ref a)
 | lnil {a b:Addr} (h:R a=some (.lst [.ref b])) (h2:R b=some (.lst [])):Odd R (.ref a)
 | ttab {a b c:Addr} (h:R a=some (.tup [.ref b])) (h2:R b=some (.tup [.int 0,.int 0,.ref c])) (h3:R c=some (.lst [])):Odd R (.ref a)
 | ltab {a b c:Addr} (h:R a=some (.lst [.ref b])) (h2:R b=some (.tup [.int 0,.int 0,.ref c])) (h3:R c=some (.lst [])):Odd R (.ref a)
 | lnon {a:Addr} (h:R a=some (.lst [.non])):Odd R (.ref a)
 | ltru {a:Addr} (h:R a=some (.lst [.bl true])):Odd R (.ref a)
 | tnum {a:Addr} (h:R a=some (.tup [.int 1,.int 2])):Odd R (.ref a)
theorem Odd.kn {R:Hp}{v:V}(h:Odd R v):Kn R v:=by
 cases h with
 | non=>exact .inl rfl
 | tru=>exact .bl
 | int=>exact .int
 | str=>exact .str
 | nil h=>exact .lst h ⇑0
 | tup0 h=>exact .tup h ⇑0
 | lnil h=>exact .lst h (show 1<=1000 by decide)
 | ttab h=>exact .tup h (show 1<=1000 by decide)
 | ltab h=>exact .lst h (show 1<=1000 by decide)
 | lnon h=>exact .lst h (show 1<=1000 by decide)
 | ltru h=>exact .lst h (show 1<=1000 by decide)
 | tnum h=>exact .tup h (show 2<=1000 by decide)
def spOdd:L2.Sp:=λvs H Q _=>∃ l:Addr,vs=[.ref l]/\Bag H l/\∀ v H',Ext l H H'->Bag H' l->Odd (rm l H') v->Q v H'
theorem ok_odd (F:Fun K "_law_odd" "_law_odd" Zi2 f fd)(T:Txt K mg C G S)(Yaa:Cal P w K mg base "_law_draw" 1 Zc0):FnOk P w K mg base CX0 2 f fd ["_law_bag_here"] spOdd:=by
 have nd:=Zj9.nd;refine F.ok Zj9 (λvs H Q E h=>?_) (λcdv A outer s H vs Q E hr h=>?_)
 .refine Zae h λl e91 _=>?_;clear h;obtain rfl:=e91;rfl
 .refine Zas h λl e92 hb q=>?_;clear h;obtain rfl:=e92;refine⟨_,((@Zap _ _ 1 _ _ _ _ nd rfl (Or.inl rfl) (@Zar _ _ _ _ (Zfy<&>(Zbm<&>(Zac<&>((Zjv Zfu Zac)<&>(Zbh<&>(Zbh<&>((@Zar _ _ _ _ Zab)<&>((@Zam _ _ _ _ _ Zab)<&>((@Zar _ _ _ _ ((@Zar _ _ _ _ Zab)<&>Zab))<&>((@Zam _ _ _ _ _ ((@Zam _ _ _ _ _ (Zac<&>(Zac<&>((@Zar _ _ _ _ Zab)<&>Zab))))<&>Zab))<&>((@Zar _ _ _ _ ((@Zam _ _ _ _ _ (Zac<&>(Zac<&>((@Zar _ _ _ _ Zab)<&>Zab))))<&>Zab))<&>((@Zar _ _ _ _ (Zfy<&>Zab))<&>((@Zam _ _ _ _ _ (Zac<&>(Zac<&>Zab)))<&>((@Zar _ _ _ _ (Zbm<&>Zab))<&>Zab))))))))))))))) (by kernel_rfl) (Or.inr rfl))<*>(~~~(Za7<|>(pvr 1)<||>(Yaa<$>hr<$>((pvr 0)<&>((Za1 Zao rfl T.n_len Jba ((pvr 1)<&>Zab))<&>Zab)))))),?_⟩;refine Zb3 λX hX=>?_;walk_at "wp";refine⟨⇑0,λp0 f0=>?_⟩;have s0:=Same.new (o:=.lst []) f0;have e0:(upd H p0 (.lst [])) p0=some (.lst []):=Zaa;have m0:p0≠l:=hb.ne f0;have b0:=hb.same s0;clear f0;generalize upd H p0 (.lst [])=H0 at *;refine⟨⇑0,λp1 f1=>?_⟩;have s1:=Same.new (o:=.tup []) f1;have e1:(upd H0 p1 (.tup [])) p1=some (.tup []):=Zaa;have m1:p1≠l:=b0.ne f1;have b1:=b0.same s1;clear f1;generalize upd H0 p1 (.tup [])=H1 at *;refine⟨⇑0,λp2 f2=>?_⟩;have s2:=Same.new (o:=.lst []) f2;have e2:(upd H1 p2 (.lst [])) p2=some (.lst []):=Zaa;have m2:p2≠l:=b1.ne f2;have b2:=b1.same s2;clear f2;generalize upd H1 p2 (.lst [])=H2 at *;refine⟨⇑0,λp3 f3=>?_⟩;have s3:=Same.new (o:=.lst [V.ref p2]) f3;have e3:(upd H2 p3 (.lst [V.ref p2])) p3=some (.lst [V.ref p2]):=Zaa;have m3:p3≠l:=b2.ne f3;have b3:=b2.same s3;clear f3;generalize upd H2 p3 (.lst [V.ref p2])=H3 at *;refine⟨⇑0,λp4 f4=>?_⟩;have s4:=Same.new (o:=.lst []) f4;have e4:(upd H3 p4 (.lst [])) p4=some (.lst []):=Zaa;have m4:p4≠l:=b3.ne f4;have b4:=b3.same s4;clear f4;generalize upd H3 p4 (.lst [])=H4 at *;refine⟨⇑0,λp5 f5=>?_⟩;have s5:=Same.new (o:=.tup [V.int 0,V.int 0,V.ref p4]) f5;have e5:(upd H4 p5 (.tup [V.int 0,V.int 0,V.ref p4])) p5=some (.tup [V.int 0,V.int 0,V.ref p4]):=Zaa;have m5:p5≠l:=b4.ne f5;have b5:=b4.same s5;clear f5;generalize upd H4 p5 (.tup [V.int 0,V.int 0,V.ref p4])=H5 at *;refine⟨⇑0,λp6 f6=>?_⟩;have s6:=Same.new (o:=.tup [V.ref p5]) f6;have e6:(upd H5 p6 (.tup [V.ref p5])) p6=some (.tup [V.ref p5]):=Zaa;have m6:p6≠l:=b5.ne f6;have b6:=b5.same s6;clear f6;generalize upd H5 p6 (.tup [V.ref p5])=H6 at *;refine⟨⇑0,λp7 f7=>?_⟩;have s7:=Same.new (o:=.lst []) f7;have e7:(upd H6 p7 (.lst [])) p7=some (.lst []):=Zaa;have m7:p7≠l:=b6.ne f7;have b7:=b6.same s7;clear f7;generalize upd H6 p7 (.lst [])=H7 at *;refine⟨⇑0,λp8 f8=>?_⟩;have s8:=Same.new (o:=.tup [V.int 0,V.int 0,V.ref p7]) f8;have e8:(upd H7 p8 (.tup [V.int 0,V.int 0,V.ref p7])) p8=some (.tup [V.int 0,V.int 0,V.ref p7]):=Zaa;have m8:p8≠l:=b7.ne f8;have b8:=b7.same s8;clear f8;generalize upd H7 p8 (.tup [V.int 0,V.int 0,V.ref p7])=H8 at *;refine⟨⇑0,λp9 f9=>?_⟩;have s9:=Same.new (o:=.lst [V.ref p8]) f9;have e9:(upd H8 p9 (.lst [V.ref p8])) p9=some (.lst [V.ref p8]):=Zaa;have m9:p9≠l:=b8.ne f9;have b9:=b8.same s9;clear f9;generalize upd H8 p9 (.lst [V.ref p8])=H9 at *;refine⟨⇑0,λp10 f10=>?_⟩;have s10:=Same.new (o:=.lst [V.non]) f10;have e10:(upd H9 p10 (.lst [V.non])) p10=some (.lst [V.non]):=Zaa;have m10:p10≠l:=b9.ne f10;have b10:=b9.same s10;clear f10;generalize upd H9 p10 (.lst [V.non])=H10 at *;refine⟨⇑0,λp11 f11=>?_⟩;have s11:=Same.new (o:=.tup [V.int 1,V.int 2]) f11;have e11:(upd H10 p11 (.tup [V.int 1,V.int 2])) p11=some (.tup [V.int 1,V.int 2]):=Zaa;have m11:p11≠l:=b10.ne f11;have b11:=b10.same s11;clear f11;generalize upd H10 p11 (.tup [V.int 1,V.int 2])=H11 at *;refine⟨⇑0,λp12 f12=>?_⟩;have s12:=Same.new (o:=.lst [V.bl true]) f12;have e12:(upd H11 p12 (.lst [V.bl true])) p12=some (.lst [V.bl true]):=Zaa;have m12:p12≠l:=b11.ne f12;have b12:=b11.same s12;clear f12;generalize upd H11 p12 (.lst [V.bl true])=H12 at *;refine⟨⇑0,λp13 f13=>?_⟩;have s13:=Same.new (o:=.lst [V.non,V.bl true,V.int 0,V.int (-1),V.str "",V.str "change",V.ref p0,V.ref p1,V.ref p3,V.ref p6,V.ref p9,V.ref p10,V.ref p11,V.ref p12]) f13;have e13:(upd H12 p13 (.lst [V.non,V.bl true,V.int 0,V.int (-1),V.str "",V.str "change",V.ref p0,V.ref p1,V.ref p3,V.ref p6,V.ref p9,V.ref p10,V.ref p11,V.ref p12])) p13=some (.lst [V.non,V.bl true,V.int 0,V.int (-1),V.str "",V.str "change",V.ref p0,V.ref p1,V.ref p3,V.ref p6,V.ref p9,V.ref p10,V.ref p11,V.ref p12]):=Zaa;have m13:p13≠l:=b12.ne f13;have b13:=b12.same s13;clear f13;generalize upd H12 p13 (.lst [V.non,V.bl true,V.int 0,V.int (-1),V.str "",V.str "change",V.ref p0,V.ref p1,V.ref p3,V.ref p6,V.ref p9,V.ref p10,V.ref p11,V.ref p12])=H13 at *;have t13:=Same.refl H13;have t12:=s13.trans t13;have t11:=s12.trans t12;have t10:=s11.trans t11;have t9:=s10.trans t10;have t8:=s9.trans t9;have t7:=s8.trans t8;have t6:=s7.trans t7;have t5:=s6.trans t6;have t4:=s5.trans t5;have t3:=s4.trans t4;have t2:=s3.trans t3;have t1:=s2.trans t2;have t0:=s1.trans t1;have tt:=s0.trans t0;subst hX;walk_at "wp";refine⟨_,.inl (SqL.of e13),b13.draw (n:=14) ⇑0 ⇑0 λr H' r0 r1 e' b'=>⟨_,_,rfl,SqL.of (e' _ _ m13 e13),?_⟩⟩;have at':∀ {a:Addr} {o:HO},a≠l->H13 a=some o->rm l H' a=some o:=λn h=>Zbg (e' _ _ n h) n;have ee:=tt.ext.trans e';obtain⟨n,rfl⟩:=Ja9 r0;have hn:n<14:=∅
  match n,hn with
  | 0,_=>exact⟨_,rfl,q _ H' ee b' (.non)⟩
  | 1,_=>exact⟨_,rfl,q _ H' ee b' (.tru)⟩
  | 2,_=>exact⟨_,rfl,q _ H' ee b' (.int _)⟩
  | 3,_=>exact⟨_,rfl,q _ H' ee b' (.int _)⟩
  | 4,_=>exact⟨_,rfl,q _ H' ee b' (.str _)⟩
  | 5,_=>exact⟨_,rfl,q _ H' ee b' (.str _)⟩
  | 6,_=>exact⟨_,rfl,q _ H' ee b' (.nil (at' m0 (t0 _ _ e0)))⟩
  | 7,_=>exact⟨_,rfl,q _ H' ee b' (.tup0 (at' m1 (t1 _ _ e1)))⟩
  | 8,_=>exact⟨_,rfl,q _ H' ee b' (.lnil (at' m3 (t3 _ _ e3)) (at' m2 (t2 _ _ e2)))⟩
  | 9,_=>exact⟨_,rfl,q _ H' ee b' (.ttab (at' m6 (t6 _ _ e6)) (at' m5 (t5 _ _ e5)) (at' m4 (t4 _ _ e4)))⟩
  | 10,_=>exact⟨_,rfl,q _ H' ee b' (.ltab (at' m9 (t9 _ _ e9)) (at' m8 (t8 _ _ e8)) (at' m7 (t7 _ _ e7)))⟩
  | 11,_=>exact⟨_,rfl,q _ H' ee b' (.lnon (at' m10 (t10 _ _ e10)))⟩
  | 12,_=>exact⟨_,rfl,q _ H' ee b' (.tnum (at' m11 (t11 _ _ e11)))⟩
  | 13,_=>exact⟨_,rfl,q _ H' ee b' (.ltru (at' m12 (t12 _ _ e12)))⟩
  | n+14,hn=>exact absurd hn ∅
theorem tab_eqG {H:Hp}{m:Nat}{p:Int}{n wd:Nat}{t r t' r':Addr}{rs rs':List Addr}{M N:Mv}(mM:Mat p n wd M)(mN:Mat p n wd N)(h:TabV H p n wd t r rs M)(h':TabV H p n wd t' r' rs' N):∃ b,EqD K H (m+4) (.ref t) (.ref t') b/\(b=true ↔ M=N):=by
 obtain⟨b,hb,e⟩:=Zk2 (K:=K) (H:=H) (n:=m+2) (R:=λv x=>∃ a,v=.ref a/\RowV H p a x) (mM.hl.trans mN.hl.symm) h.lst h'.lst (Zd1 h.row) (Zd1 h'.row)
  (λv x y m1 m2 ⟨a,ea,ha⟩ ⟨c,ec,hc⟩=>by subst ea;cases ec;exact Zvt (mM.is x m1) (mN.is y m2) ha hc)
  (λv u x y m1 m2 ⟨a,ea,ha⟩ ⟨c,ec,hc⟩=>by subst ea;subst ec;exact Zqp (n:=m) ((mM.hw x m1).trans (mN.hw y m2).symm) (mM.is x m1) (mN.is y m2) ha hc)
 by_cases q:t=t'
 .subst q;have e1:=h.tup.symm.trans h'.tup
  injection e1 with e1
  injection e1 with e1
  injection e1 with _ e1
  injection e1 with _ e1
  injection e1 with e1 _
  injection e1 with e1
  subst e1;have bt:b=true:=by
   cases hb with
   | flat hx _=>cases hx
   | same=>rfl
   | list ne=>exact absurd rfl ne
   | listL ne=>exact absurd rfl ne
   | tuple ne=>exact absurd rfl ne
  exact⟨true,.same,λ_=>e.mp bt,λ_=>rfl⟩
 .refine ⟨[true,true,b].all id,.tuple q (SqT.of h.tup) (SqT.of h'.tup) rfl rfl λj x y c f1 f2 f3=>?_,?_⟩
  .match j,f1,f2,f3 with
   | 0,f1,f2,f3=>cases f1;cases f2;cases f3;exact Zgy
   | 1,f1,f2,f3=>cases f1;cases f2;cases f3;exact Zgy
   | 2,f1,f2,f3=>cases f1;cases f2;cases f3;exact hb
   | j+3,f1,_,_=>cases f1
  .rw [<- e];simp
theorem Odd.same {R R':Hp}{v:V}(h:Odd R v)(s:Same R R'):Odd R' v:=by
 cases h with
 | non=>exact .non
 | tru=>exact .tru
 | int i=>exact .int i
 | str z=>exact .str z
 | nil h=>exact .nil (s _ _ h)
 | tup0 h=>exact .tup0 (s _ _ h)
 | lnil h h2=>exact .lnil (s _ _ h) (s _ _ h2)
 | ttab h h2 h3=>exact .ttab (s _ _ h) (s _ _ h2) (s _ _ h3)
 | ltab h h2 h3=>exact .ltab (s _ _ h) (s _ _ h2) (s _ _ h3)
 | lnon h=>exact .lnon (s _ _ h)
 | ltru h=>exact .ltru (s _ _ h)
 | tnum h=>exact .tnum (s _ _ h)
def NotNil (H:Hp)(v:V):Prop:=∀ a,v=.ref a->H a≠some (.lst [])
theorem Zjh {H:Hp}{a:Addr}{o:HO}(h:H a=some o)(n:o≠.lst []):NotNil H (.ref a):=λb e z=>by cases e;rw[h] at z;injection z with z;exact n z
theorem odd_nil {H:Hp}{v:V}{e:Addr}(h:Odd H v)(he:H e=some (.lst [])):∃ b,RcG K H 8 v (.ref e) b/\(b=false->NotNil H v):=by
 have k:Kd K H (.ref e) 4:=.lst (SqL.of he);cases h with
 | non=>exact⟨false,RcG.kinds .non k rfl,λ_ a e=>by cases e⟩
 | tru=>exact⟨false,RcG.kinds (.bl _) k rfl,λ_ a e=>by cases e⟩
 | int i=>exact⟨false,RcG.kinds (.int _) k rfl,λ_ a e=>by cases e⟩
 | str z=>exact⟨false,RcG.kinds (.str _) k rfl,λ_ a e=>by cases e⟩
 | nil h=>exact⟨true,RcG.lists (n:=7) (e:=λ_=>true) (SqL.of h) (SqL.of he) rfl (λj x y e=>by cases e),(λz=>by cases z)⟩
 | tup0 h=>exact⟨false,RcG.kinds (.tup (SqT.of h)) k rfl,λ_=>Zjh h (by intro z;cases z)⟩
 | lnil h h2=>exact⟨false,RcG.listL (SqL.of h) (SqL.of he) Jd9,λ_=>Zjh h (by intro z;cases z)⟩
 | ttab h h2 h3=>exact⟨false,RcG.kinds (.tup (SqT.of h)) k rfl,λ_=>Zjh h (by intro z;cases z)⟩
 | ltab h h2 h3=>exact⟨false,RcG.listL (SqL.of h) (SqL.of he) Jd9,λ_=>Zjh h (by intro z;cases z)⟩
 | lnon h=>exact⟨false,RcG.listL (SqL.of h) (SqL.of he) Jd9,λ_=>Zjh h (by intro z;cases z)⟩
 | ltru h=>exact⟨false,RcG.listL (SqL.of h) (SqL.of he) Jd9,λ_=>Zjh h (by intro z;cases z)⟩
 | tnum h=>exact⟨false,RcG.kinds (.tup (SqT.of h)) k rfl,λ_=>Zjh h (by intro z;cases z)⟩
theorem Zch {H:Hp}{a:Addr}{xs:List V}(h:H a=some (.tup xs)):Zjs H (.ref a)=false:=by simp only[Zjs,h]
theorem Ztb {p n:Int}{H:Hp}{b c:Addr}(h2:H b=some (.tup [.int 0,.int 0,.ref c]))(hn:n≠0):toB p n n H (.ref b)=false:=by
 rw[Zmn h2,Jam (λz=>hn z.symm),Jbe,Jdq]
theorem Zra {H:Hp}{p n:Int}{w:V}{t r:Addr}{rs:List Addr}(hp:GroundP p)(hw:w=.non\/w=.bl true\/(∃ b,w=.ref b/\H b=some (.lst []))\/∃ b c,w=.ref b/\H b=some (.tup [.int 0,.int 0,.ref c])/\H c=some (.lst []))(n0:0<=n)(tb:TabB H p 7 n.toNat n.toNat t r rs (Zei n.toNat)):∃ b,EqG K H 7 w (.ref t) b/\(b=false->toB p n n H w=false):=by
 have k:Kd K H (.ref t) 5:=.tup (SqT.of tb.tv.tup);rcases hw with rfl|rfl|⟨b,rfl,h2⟩|⟨b,c,rfl,h2,h3⟩
 .exact ⟨false,EqG.kinds .non k rfl,λ_=>rfl⟩
 .exact ⟨false,EqG.kinds (.bl _) k rfl,λ_=>rfl⟩
 .refine ⟨false,EqG.kinds (.lst (SqL.of h2)) k rfl,λ_=>?_⟩;unfold toB;simp only[Zgj,h2,Jbe]
 .by_cases hn:n=0
  .subst hn;refine Zae (tab_eqG (K:=K) (m:=3) (p:=p) (M:=[]) (rs:=[]) (N:=Zei 0) ⟨rfl,(λxs h=>by cases h),(λxs h=>by cases h)⟩ (Zff hp 0) ⟨h2,h3,All2.nil,by simp⟩ tb.tv) λe he e1=>?_;obtain rfl:e=true:=e1.mpr rfl;exact⟨true,EqG.rel he,λz=>by cases z⟩
  .have ht:=tb.tv.tup;have nn:((n.toNat:Nat):Int)=n:=Jbj n0;rw[nn] at ht;have hl:=tb.hl;have rl:=tb.tv.row.1;refine⟨false,?_,λ_=>Ztb h2 hn⟩;have ne:b≠t:=λz=>by rw[z,ht] at h2;injection h2 with h2;injection h2 with h2;injection h2 with h2;injection h2 with h2;exact hn h2
   have ul:(Zei n.toNat).length=n.toNat:=by unfold Zei;rw[Jab,Jax]
   have ne2:c≠r:=λz=>by
    rw[z,tb.tv.lst] at h3
    injection h3 with h3
    injection h3 with h3
    have:=Jdp List.length h3;rw[Jab] at this;simp only[Jd7] at this;omega
   have:=EqD.tuple (K:=K) (n:=6) (bs:=[decide ((0:Int)=n),decide ((0:Int)=n),false]) ne (SqT.of h2) (SqT.of ht) rfl rfl λj x y q f1 f2 f3=>by
    match j,f1,f2,f3 with
    | 0,f1,f2,f3=>cases f1;cases f2;cases f3;exact Zk7 _ _
    | 1,f1,f2,f3=>cases f1;cases f2;cases f3;exact Zk7 _ _
    | 2,f1,f2,f3=>cases f1;cases f2;cases f3;exact .listL ne2 (SqL.of h3) (SqL.of tb.tv.lst) (by rw[Jab];show ¬ 0=rs.length;exact oz154 hn nn hl rl)
    | j+3,f1,_,_=>cases f1
   have e:[decide ((0:Int)=n),decide ((0:Int)=n),false].all id=false:=by rw[Jam (λz=>hn z.symm)];rfl
   rw[e] at this;exact EqG.rel this
theorem Zrj {H:Hp}{p:Int}{ns:List Int}{u:Addr}{uts:List Addr}{v:V}(hp:GroundP p)(h:Odd H v)(un:ChL H p 7 u uts ns (Zs9 ns))(h1:1<=ns.length)(n2:∀ n∈ns,0<=n/\n<=2):∃ b,RcG K H 8 v (.ref u) b/\(b=false->acB p ns H v=false):=by
 have k:Kd K H (.ref u) 4:=.lst (SqL.of un.1);have ul:=un.2.1;have one:∀ {a:Addr} {w:V},H a=some (.lst [w])->(w=.non\/w=.bl true\/(∃ b,w=.ref b/\H b=some (.lst []))\/∃ b c,w=.ref b/\H b=some (.tup [.int 0,.int 0,.ref c])/\H c=some (.lst []))->∃ b,RcG K H 8 (.ref a) (.ref u) b/\(b=false->acB p ns H (.ref a)=false):=λ{a w} ha hw=>by
  rw[Zh3 ha];by_cases hl:ns.length=1
  .obtain ⟨n,rfl⟩:=List.length_eq_one_iff.mp hl;obtain⟨t,rfl⟩:=List.length_eq_one_iff.mp (ul.trans hl);refine Zfq (un.2.2 0 t n rfl rfl) λr rs tb=>?_;refine Zae (Zra (K:=K) hp hw (n2 n (by simp)).1 tb) λb hb e=>?_;refine⟨b,?_,λhz=>?_⟩
   .have:=RcG.lists (K:=K) (n:=7) (e:=λ_=>b) (SqL.of ha) (SqL.of un.1) rfl λj x y f1 f2=>by
     match j,f1,f2 with
     | 0,f1,f2=>cases f1;cases f2;exact hb
     | j+1,f1,_=>cases f1
    rwa [show (List.range [w].length).all (λ_=>b)=b by cases b <;> rfl] at this
   .have:=e hz;show (true && ([acAt p [n] H [w] 0].all id))=false;show (true && (toB p n n H w && true))=false;rw[this];rfl
  .exact ⟨false,RcG.listL (SqL.of ha) (SqL.of un.1) (by rw[Jab];show ¬ 1=uts.length;omega),λ_=>by rw[Jam (λz:[w].length=ns.length=>hl z.symm),Jbe]⟩
 cases h with
 | non=>exact⟨false,RcG.kinds .non k rfl,λ_=>rfl⟩
 | tru=>exact⟨false,RcG.kinds (.bl _) k rfl,λ_=>rfl⟩
 | int i=>exact⟨false,RcG.kinds (.int _) k rfl,λ_=>rfl⟩
 | str z=>exact⟨false,RcG.kinds (.str _) k rfl,λ_=>rfl⟩
 | nil h=>exact⟨false,RcG.listL (SqL.of h) (SqL.of un.1) (by rw[Jab];show ¬ 0=uts.length;omega),λ_=>by rw[Zh3 h,Jam (show ¬ ([]:List V).length=ns.length by rw[Jd7];omega),Jbe]⟩
 | tup0 h=>exact⟨false,RcG.kinds (.tup (SqT.of h)) k rfl,λ_=>Zgh (Zch h)⟩
 | ttab h h2 h3=>exact⟨false,RcG.kinds (.tup (SqT.of h)) k rfl,λ_=>Zgh (Zch h)⟩
 | tnum h=>exact⟨false,RcG.kinds (.tup (SqT.of h)) k rfl,λ_=>Zgh (Zch h)⟩
 | lnil h h2=>exact one h (.inr (.inr (.inl ⟨_,rfl,h2⟩)))
 | ltab h h2 h3=>exact one h (.inr (.inr (.inr ⟨_,_,rfl,h2,h3⟩)))
 | lnon h=>exact one h (.inl rfl)
 | ltru h=>exact one h (.inr (.inl rfl))
theorem Znt {H:Hp}{v:V}(h:Kn H v)(n:Zjy H v=false):WfT H v:=⟨h,λa xs e1 e2=>by cases e1;simp only[Zjy,e2] at n;cases n⟩
theorem Zcz {H:Hp}{v:V}(h:Kn H v)(n:Zjs H v=false):WfTs H v:=⟨h,λa xs e1 e2=>by cases e1;simp only[Zjs,e2] at n;cases n⟩
theorem Zfm {H:Hp}{a:Addr}{xs:List V}(h:H a=some (.lst xs)):Zjy H (.ref a)=false:=by simp only[Zjy,h]
theorem Zns {H:Hp}{b c:Addr}(h2:H b=some (.tup [.int 0,.int 0,.ref c]))(h3:H c=some (.lst [])):WfT H (.ref b):=⟨.tup h2 (show 3<=1000 by decide),λa xs e1 e2 y hy=>by
 cases e1;rw[h2] at e2;cases e2;rcases Ja5.mp hy with rfl|hy
 .exact ⟨.int,λr rows e=>by cases e⟩
 rcases Ja5.mp hy with rfl|hy
 .exact ⟨.int,λr rows e=>by cases e⟩
 rw[Jao.mp hy];exact⟨.lst h3 ⇑0,λr rows e1 e2 z hz=>by cases e1;rw[h3] at e2;cases e2;cases hz⟩⟩
theorem Zh9 {H:Hp}{a:Addr}{w:V}(h:H a=some (.lst [w]))(hw:WfT H w):WfTs H (.ref a):=⟨.lst h (show 1<=1000 by decide),λb xs e1 e2 y hy=>by
 cases e1;rw[h] at e2;cases e2;rw[Jao.mp hy];exact hw⟩
theorem Odd.wf {R:Hp}{v:V}(h:Odd R v):WfTs R v:=by
 have hk:=h.kn;cases h with
 | non=>exact Zcz hk rfl
 | tru=>exact Zcz hk rfl
 | int=>exact Zcz hk rfl
 | str=>exact Zcz hk rfl
 | nil h=>exact⟨hk,λb xs e1 e2 y hy=>by cases e1;rw[h] at e2;cases e2;cases hy⟩
 | tup0 h=>exact Zcz hk (Zch h)
 | ttab h h2 h3=>exact Zcz hk (Zch h)
 | tnum h=>exact Zcz hk (Zch h)
 | lnil h h2=>exact Zh9 h (Znt (.lst h2 ⇑0) (Zfm h2))
 | ltab h h2 h3=>exact Zh9 h (Zns h2 h3)
 | lnon h=>exact Zh9 h (Znt (.inl rfl) rfl)
 | ltru h=>exact Zh9 h (Znt .bl rfl)
def Zn1 (S C G:Addr):L2.Sp:=λvs H Q _=>∃ (l:Addr) (k:Int) (p m:Int) (xs:List V) (ps:List (Int×Int)) (ns:List Int) (x dx g d z l' lp gd u y:Addr) (uts:List Addr),vs=[.ref l,.int k,.ref u]/\Bag H l/\Ctx S C G (rm l H) p m xs ps ns x dx g d z l' lp gd u y uts/\∀ v H',Ext l H H'->Bag H' l->Odd (rm l H') v->(1<k->NotNil (rm l H') v/\acB p ns (rm l H') v=false)->Q v H'
theorem NotNil.non {H:Hp}:NotNil H .non:=λa e=>by cases e
theorem ok_oddT (F:Fun K "_law_odd_there" "_law_odd_there" Zdr f fd)(T:Txt K mg C G S)(Yan:Cal P w K mg base "_law_odd" 2 spOdd):FnOk P w K mg base CX0 3 f fd ["_law_bag_here","_law_k","_law_units"] (Zn1 S C G):=by
 have nd:=Zew.nd;refine F.ok Zew (λvs H Q E h=>?_) (λcdv A outer s H vs Q E hr h=>?_)
 .refine Zvi h λl k p m xs ps ns x dx g d z l' lp gd u y uts e91 _=>?_;clear h;obtain rfl:=e91;rfl
 .refine Zvh h λl k p m xs ps ns x dx g d z l' lp gd u y uts e92 hb X q=>?_;clear h;obtain rfl:=e92;refine⟨_,((3|||nd|||(Yan<$>hr<$>((pvr 0)<&>Zab)))<*>((@Zay _ _ _ _ _ _ _ _ (PW.pt (Zjb (Zak (Zkj Ze1) (pvr 1) Zac (Zah _)) (Zgc (PW.pt (Zce (Zak (Zki (Zh7 hr)) (pvr 3) (@Zar _ _ _ _ Zab) (Zah _)) (Zbj (Zak (Zki (Zh7 hr)) (pvr 3) (pvr 2) (Zah _)))))))) (~~~Zfy) Zaj)<*>(~~~(pvr 3)))),?_⟩;refine Zb3 λZ hZ=>?_;walk_at "wp";refine⟨l,rfl,hb,λv H1 e1 b1 o1=>?_⟩;have X1:=X.same (Zav e1);subst hZ;refine Zb3 λZ hZ=>?_;walk_at "wp";have fin:∀ H2,Same H1 H2->(1<k->NotNil (rm l H2) v/\acB p ns (rm l H2) v=false)->Z { nx:=λx H'=>Q V.non H',rt:=Q } [some (V.ref l),some (V.int k),some (V.ref u),some v] H2:=λH2 s2 hh=>by
   subst hZ;walk_at "wp";exact q v H2 (e1.trans s2.ext) (b1.same s2) (o1.same (Zav s2.ext)) hh
  by_cases hk:1<k
  .refine Zgg (Jah hk) ⟨⇑0,λp1 hp1=>?_⟩;have s2:=Same.new (o:=.lst []) hp1;have q2:(upd H1 p1 (.lst [])) p1=some (.lst []):=Zaa;generalize upd H1 p1 (.lst [])=H2 at *;have R2:=(Zbl l H1).trans s2;have o2:=o1.same R2;have nonq:Q .non H2:=q .non H2 (e1.trans s2.ext) (b1.same s2) .non λ_=>⟨.non,rfl⟩
   have nsl:1<=ns.length:=by have:=X.lo;have:=X.st.hm;omega
   refine Zae (odd_nil (K:=K) o2 q2) λc1 h1 g1=>?_;refine Zae (Zrj (K:=K) X.hp o2 (X1.un.same R2) nsl X.n2) λc2 h2 g2=>?_;refine⟨c1,h1,?_⟩;cases c1 with
   | true=>exact Zgg rfl nonq
   | false=>
    refine Zcj ⇑0 ⟨c2,h2,?_⟩;cases c2 with
    | true=>exact Zgg rfl nonq
    | false=>
     have R3:=Zbl l H2;exact Zcj ⇑0 (fin H2 s2 λ_=>⟨λa e z=>g1 rfl a e (R3 _ _ z),by rw[<- Zcw (o1.same (Zav s2.ext)).wf R3];exact g2 rfl⟩)
  .exact Zcj (by rw[Jam hk];decide) (fin H1 (Same.refl _) λz=>absurd z hk)
def spUnl (K:Frag)(S C G:Addr):L2.Sp:=λvs H Q _=>∃ (l:Addr) (p m:Int) (xs:List V) (ps:List (Int×Int)) (ns:List Int) (x dx g d z l' lp gd u y:Addr) (uts:List Addr),vs=[.ref l,.ref x,.ref y]/\Bag H l/\Ctx S C G (rm l H) p m xs ps ns x dx g d z l' lp gd u y uts/\∀ v H',Ext l H H'->Bag H' l->Bad K S C G x (rm l H') v->Q v H'
theorem ok_unl (F:Fun K "_law_unlike_odd" "_law_unlike_odd" Zc8 f fd)(T:Txt K mg C G S)(Yaa:Cal P w K mg base "_law_draw" 1 Zc0):FnOk P w K mg base CX0 2 f fd ["_law_bag_here","_law_one","_law_other"] (spUnl K S C G):=by
 have nd:=Zee.nd;refine F.ok Zee (λvs H Q E h=>?_) (λcdv A outer s H vs Q E hr h=>?_)
 .refine Zpx h λl p m xs ps ns x dx g d z l' lp gd u y uts e91 _=>?_;clear h;obtain rfl:=e91;rfl
 .refine Zpw h λl p m xs ps ns x dx g d z l' lp gd u y uts e92 hb X q=>?_;clear h;obtain rfl:=e92;refine⟨_,((3|||nd|||(@Zar _ _ _ _ ((@Zam _ _ _ _ _ (Zbh<&>((pvr 1)<&>(Zfy<&>Zab))))<&>((@Zam _ _ _ _ _ (Zbh<&>((pvr 2)<&>((pvr 1)<&>Zab))))<&>((@Zam _ _ _ _ _ (Zbh<&>((pvr 1)<&>((pvr 2)<&>Zab))))<&>((@Zam _ _ _ _ _ (Zbh<&>((@Zar _ _ _ _ Zab)<&>((pvr 1)<&>Zab))))<&>Zab))))))<*>(~~~(Za7<|>(Zfz<|>(pvr 3)<&&>(@Zar _ _ _ _ ((@Zam _ _ _ _ _ (Zbh<&>((pvr 1)<&>Zab)))<&>((@Zam _ _ _ _ _ (Zbh<&>((pvr 1)<&>((pvr 1)<&>((pvr 1)<&>Zab)))))<&>Zab))))<||>(Yaa<$>hr<$>((pvr 0)<&>(Zac<&>Zab)))))),?_⟩;refine Zb3 λZ hZ=>?_;walk_at "wp";refine⟨⇑0,λp0 f0=>?_⟩;have s0:=Same.new (o:=.tup [V.str "unlike",V.ref x,V.non]) f0;have e0:(upd H p0 (.tup [V.str "unlike",V.ref x,V.non])) p0=some (.tup [V.str "unlike",V.ref x,V.non]):=Zaa;have m0:p0≠l:=hb.ne f0;have b0:=hb.same s0;clear f0;generalize upd H p0 (.tup [V.str "unlike",V.ref x,V.non])=H0 at *;refine⟨⇑0,λp1 f1=>?_⟩;have s1:=Same.new (o:=.tup [V.str "unlike",V.ref y,V.ref x]) f1;have e1:(upd H0 p1 (.tup [V.str "unlike",V.ref y,V.ref x])) p1=some (.tup [V.str "unlike",V.ref y,V.ref x]):=Zaa;have m1:p1≠l:=b0.ne f1;have b1:=b0.same s1;clear f1;generalize upd H0 p1 (.tup [V.str "unlike",V.ref y,V.ref x])=H1 at *;refine⟨⇑0,λp2 f2=>?_⟩;have s2:=Same.new (o:=.tup [V.str "unlike",V.ref x,V.ref y]) f2;have e2:(upd H1 p2 (.tup [V.str "unlike",V.ref x,V.ref y])) p2=some (.tup [V.str "unlike",V.ref x,V.ref y]):=Zaa;have m2:p2≠l:=b1.ne f2;have b2:=b1.same s2;clear f2;generalize upd H1 p2 (.tup [V.str "unlike",V.ref x,V.ref y])=H2 at *;refine⟨⇑0,λp3 f3=>?_⟩;have s3:=Same.new (o:=.lst []) f3;have e3:(upd H2 p3 (.lst [])) p3=some (.lst []):=Zaa;have m3:p3≠l:=b2.ne f3;have b3:=b2.same s3;clear f3;generalize upd H2 p3 (.lst [])=H3 at *;refine⟨⇑0,λp4 f4=>?_⟩;have s4:=Same.new (o:=.tup [V.str "unlike",V.ref p3,V.ref x]) f4;have e4:(upd H3 p4 (.tup [V.str "unlike",V.ref p3,V.ref x])) p4=some (.tup [V.str "unlike",V.ref p3,V.ref x]):=Zaa;have m4:p4≠l:=b3.ne f4;have b4:=b3.same s4;clear f4;generalize upd H3 p4 (.tup [V.str "unlike",V.ref p3,V.ref x])=H4 at *;refine⟨⇑0,λp5 f5=>?_⟩;have s5:=Same.new (o:=.lst [V.ref p0,V.ref p1,V.ref p2,V.ref p4]) f5;have e5:(upd H4 p5 (.lst [V.ref p0,V.ref p1,V.ref p2,V.ref p4])) p5=some (.lst [V.ref p0,V.ref p1,V.ref p2,V.ref p4]):=Zaa;have m5:p5≠l:=b4.ne f5;have b5:=b4.same s5;clear f5;generalize upd H4 p5 (.lst [V.ref p0,V.ref p1,V.ref p2,V.ref p4])=H5 at *;have t5:=Same.refl H5;have t4:=s5.trans t5;have t3:=s4.trans t4;have t2:=s3.trans t3;have t1:=s2.trans t2;have t0:=s1.trans t1;have t5a:=s0.trans t0;subst hZ;walk_at "wp";refine⟨⇑0,λa0 af0=>?_⟩;have as0:=Same.new (o:=.tup [V.str "unlike",V.ref x]) af0;have ae0:(upd H5 a0 (.tup [V.str "unlike",V.ref x])) a0=some (.tup [V.str "unlike",V.ref x]):=Zaa;have am0:a0≠l:=b5.ne af0;have ab0:=b5.same as0;clear af0;generalize upd H5 a0 (.tup [V.str "unlike",V.ref x])=A0 at *;refine⟨⇑0,λa1 af1=>?_⟩;have as1:=Same.new (o:=.tup [V.str "unlike",V.ref x,V.ref x,V.ref x]) af1;have ae1:(upd A0 a1 (.tup [V.str "unlike",V.ref x,V.ref x,V.ref x])) a1=some (.tup [V.str "unlike",V.ref x,V.ref x,V.ref x]):=Zaa;have am1:a1≠l:=ab0.ne af1;have ab1:=ab0.same as1;clear af1;generalize upd A0 a1 (.tup [V.str "unlike",V.ref x,V.ref x,V.ref x])=A1 at *;refine⟨⇑0,λa2 af2=>?_⟩;have as2:=Same.new (o:=.lst [V.ref a0,V.ref a1]) af2;have ae2:(upd A1 a2 (.lst [V.ref a0,V.ref a1])) a2=some (.lst [V.ref a0,V.ref a1]):=Zaa;have am2:a2≠l:=ab1.ne af2;have ab2:=ab1.same as2;clear af2;generalize upd A1 a2 (.lst [V.ref a0,V.ref a1])=A2 at *;have at2:=Same.refl A2;have at1:=as2.trans at2;have at0:=as1.trans at1;have t8a:=as0.trans at0;refine⟨_,t8a _ _ e5,_,ae2,(show 6<=sizeLine by decide),λpc hpc=>?_⟩;have sc:=Same.new (o:=.lst ([V.ref p0,V.ref p1,V.ref p2,V.ref p4]++[V.ref a0,V.ref a1])) hpc;have ec:(upd A2 pc (.lst ([V.ref p0,V.ref p1,V.ref p2,V.ref p4]++[V.ref a0,V.ref a1]))) pc=some (.lst ([V.ref p0,V.ref p1,V.ref p2,V.ref p4]++[V.ref a0,V.ref a1])):=Zaa;have mc:=ab2.ne hpc;have bc:=ab2.same sc;clear hpc;generalize upd A2 pc (.lst ([V.ref p0,V.ref p1,V.ref p2,V.ref p4]++[V.ref a0,V.ref a1]))=Hc at *;have u8:=t8a.trans sc;refine bc.draw (n:=6) ⇑0 ⇑0 λr H' r0 r1 e' b'=>⟨_,_,rfl,SqL.of (e' _ _ mc ec),?_⟩
  have ee:=((t5a.trans u8).ext).trans e';have at5:∀ {a:Addr} {o:HO},a≠l->H5 a=some o->rm l H' a=some o:=λn h=>Zbg (e' _ _ n (u8 _ _ h)) n;have at8:∀ {a:Addr} {o:HO},a≠l->A2 a=some o->rm l H' a=some o:=λn h=>Zbg (e' _ _ n (sc _ _ h)) n;have X':=X.same (Zav ee);have knx:NBs S C G (rm l H') p m ps .non:=.inl (.inl rfl);obtain⟨n,rfl⟩:=Ja9 r0;have hn:n<6:=∅
  match n,hn with
  | 0,_=>exact⟨_,rfl,q _ H' ee b' (Zfo X' (at5 m0 (t0 _ _ e0)) (.inr ⟨rfl,knx⟩))⟩
  | 1,_=>exact⟨_,rfl,q _ H' ee b' (Zfo X' (at5 m1 (t1 _ _ e1)) (.inl X'.ot))⟩
  | 2,_=>exact⟨_,rfl,q _ H' ee b' (Zfo X' (at5 m2 (t2 _ _ e2)) (.inr ⟨rfl,X'.ot⟩))⟩
  | 3,_=>exact⟨_,rfl,q _ H' ee b' (Zfo X' (at5 m4 (t4 _ _ e4)) (.inl (.inl (.lst (at5 m3 (t3 _ _ e3)) ⇑0))))⟩
  | 4,_=>exact⟨_,rfl,q _ H' ee b' (Zdi 1 rfl (at8 am0 (at0 _ _ ae0)) (.str _) ⇑0)⟩
  | 5,_=>exact⟨_,rfl,q _ H' ee b' (Zdi 3 rfl (at8 am1 (at1 _ _ ae1)) (.str _) ⇑0)⟩
  | n+6,hn=>exact absurd hn ∅
theorem Zfj {H:Hp}{p:Int}{R:Addr->Hp->Prop}(hp:GroundP p)(k:∀ g H',Same H H'->GAt G H' g p->R g H'):∀ x dx,H x=none->H dx=none->dx≠x->Zim G [.ref x,.int p] (upd (upd H dx (.own x)) x (.ins G dx [])) (λv H2=>v=.non/\R x H2) E0:=by
 intro g dg hg hdg ndg;have fg:(upd H dg (.own g)) g=none:=by rw[Zal ndg.symm];exact hg
 have sg:Same H (upd (upd H dg (.own g)) g (.ins G dg [])):=(Same.new hdg).trans (Same.new fg);exact Zbv g dg p ⟨rfl,Zaa,hp,λH1 ex1 hg1=>⟨rfl,k g H1 (Same.thru sg hg ex1) ⟨dg,hg1⟩⟩⟩
theorem Zic {H:Hp}{m:Int}{e:Addr}{xs:List V}{ps:List (Int×Int)}{R:Addr->Hp->Prop}(m0:1<=m)(m8:m<=8)(he:H e=some (.lst xs))(pr:Prs H xs ps)(ip:InP m ps)(p9:ps.length<=9)(k:∀ d lp H',Same H H'->H lp=none->Zez C H' d m lp xs->R d H'):
  ∀ x dx,H x=none->H dx=none->dx≠x->Zlp C [.ref x,.int m,.ref e] (upd (upd H dx (.own x)) x (.ins C dx [])) (λv H2=>v=.non/\R x H2) E0:=by
 intro d dd hd hdd ndd;have fd0:(upd H dd (.own d)) d=none:=by rw[Zal ndd.symm];exact hd
 have sd:Same H (upd (upd H dd (.own d)) d (.ins C dd [])):=(Same.new hdd).trans (Same.new fd0);have:=pr.1;exact Zlh d dd m e xs ⟨rfl,Zaa,m0,m8,sd _ _ he,oz210 p9 this,(Zu3 pr ip).same sd,λlp H3 ex3 hd3 flp hlp=>⟨rfl,k d lp H3 (Same.thru sd hd ex3) (sd.free flp) ⟨dd,hd3,hlp⟩⟩⟩
theorem nb_rm {H:Hp}{l:Addr}{p p' m m':Int}{ps qs:List (Int×Int)}{ns:List Int}{y dy g d z l' lp:Addr}{xs:List V}(b:Bag H l)(st:StA S C G H y p' m' ns dy g d z l' lp xs)(pr:Prs H xs qs)(nl:lp≠l)(n:¬ (p'=p/\m'=m/\qs=ps)):NBs S C G (rm l H) p m ps (.ref y):=by
 refine Zbs b λxa xb hl _=>?_;clear b;have ne:∀ {a:Addr} {o:HO},H a=some o->(∀ xs,o≠.lst xs)->a≠l:=λh k z=>by rw[z,hl] at h;cases h;exact k _ rfl
 have at':∀ {a:Addr} {o:HO},H a=some o->(∀ xs,o≠.lst xs)->rm l H a=some o:=λh k=>Zbg h (ne h k);obtain⟨dg,hg⟩:=st.grd;refine Zae st.drw λdd hd hlp=>?_;refine .inr ⟨y,dy,g,d,z,l',lp,p',m',xs,qs,rfl,at' st.ins (by intro _ z;cases z),⟨dg,at' hg (by intro _ z;cases z)⟩,⟨dd,at' hd (by intro _ z;cases z),Zbg hlp nl⟩,⟨pr.1,λi x q e1 e2=>?_⟩,n⟩;refine Zae (pr.2 i x q e1 e2) λt e93 ht=>?_;obtain rfl:=e93;exact⟨t,rfl,at' ht (by intro _ z;cases z)⟩
theorem ground2:GroundP 2:=.inr ⟨⇑0,⇑0,λd h1 h2=>∅⟩
theorem ground3:GroundP 3:=.inr ⟨⇑0,⇑0,λd h1 h2=>by
 have:d=2:=∅
 subst this;decide⟩
abbrev zrM (h w:Nat):Mv:=(List.range h).map λ_=>List.replicate w ((0,1):Nv)
theorem nz24 {ns:List Int}(hn:∀ n∈ns,0<=n/\n<=2)(i:Int):nz ns i<=24:=by
 unfold nz;rw[Jae];cases e:ns[i.toNat]? with
 | none=>exact Jck _
 | some n=>have:=hn n (Jac e);show n.toNat<=24;omega
theorem Zji {H:Hp}{a b:Addr}{o:HO}(h:H a=none)(h':H b=some o):a≠b:=λz=>by rw[z,h'] at h;cases h
theorem Zor {H H':Hp}{d lp:Addr}{m:Int}{xs:List V}(h:Zez C H d m lp xs)(s:Same H H'):Zez C H' d m lp xs:=let ⟨a,b,c⟩:=h;⟨a,s _ _ b,s _ _ c⟩
theorem Zv2 {ns:List Int}{i:Int}(h:i.toNat<ns.length):nz (ns++[0]) i=nz ns i:=by
 unfold nz;rw[Jae,Jar h,<- Jae]
def spObe (S C G:Addr):L2.Sp:=λvs H Q _=>∃ (Ha:Hp) (l e st z tl:Addr) (p m:Int) (xs:List V) (ps:List (Int×Int)) (ns:List Int) (ts:List Addr) (Ms:List Mv),vs=[.ref l,.int p,.int m,.ref e,.ref st]/\Bag H l/\Bag Ha l/\GroundP p/\1<=m/\m<=8/\H e=some (.lst xs)/\Prs H xs ps/\InP m ps/\ps.length<=9/\H st=some (.tup [.ref z,.ref tl])/\st≠l/\e≠l/\z≠l/\H z=some (.lst (ns.map V.int))/\(ns.length:Int)=m/\(∀ n∈ns,0<=n/\n<=2)/\GL Ha H p 60 tl ts (tds ns ps) Ms /\
 ∀ y H',Ext l H H'->Bag H' l->NBs S C G (rm l H') p m ps (.ref y)->Q (.ref y) H'
theorem ok_obe (F:Fun K "_law_other_beside" "_law_other_beside" Zcc f fd)(T:Txt K mg C G S)(Yaa:Cal P w K mg base "_law_draw" 1 Zc0)(Yac:CalI P w K mg base "Ground" G 3 (Zim G))(Yap:CalI P w K mg base "Drawing" C 4 (Zlp C))(Yai:CalI P w K mg base "Standing" S 11 (spSI S C G)):FnOk P w K mg base CX0 13 f fd ["_law_bag_here","_law_p","_law_many","_law_arrows","_law_standing_here"] (spObe S C G):=by
 have nd:=Zdl.nd;refine F.ok Zdl (λvs H Q E h=>?_) (λcdv A outer s H vs Q E hr h=>?_)
 .refine Zpy h λHa l e st z tl p m xs ps ns ts Ms e94 _=>?_;clear h;obtain rfl:=e94;rfl
 .obtain ⟨Ha,l,e,st,z,tl,p,m,xs,ps,ns,ts,Ms,rfl,hb,b0,hp,m1,m8,he,pr,ip,p9,hst,nst,nel,nzl,hz,hm,hn,gt,q⟩:=h;refine⟨_,((@Zay _ _ _ _ _ _ _ _ (PW.pt (Zce (Zak (Ze2 Zby) (pvr 2) Zac (Zah _)) (Zbj (Zak Zby (Yaa<$>hr<$>((pvr 0)<&>(Zac<&>Zab))) Zac (Zah _))))) ((5|||nd|||(Za7<|>(@Zar _ _ _ _ (Zac<&>(Zac<&>Zab)))<||>(Zhn Zjr rfl T.n_int boot_int ((Zbx (opNeJ Zft) (pvr 1) Zac (Zah _))<&>Zab))))<*>((Zfc (i:=6) (own:=["_law_high","_law_wide","_law_rows_here"]) (fr:=[]) rfl (Zbi (by kernel_rfl)) (Zbd (Za2<|>(pv 4)<||>Zac)) (λ_ _ _ _=>⟨(@Zda _ K rfl _ _ _ _ 3 rfl ((0<<<["_law_high","_law_wide","_law_rows_here"])^^^((@Zad _ _ 1 _ (show (["_law_high","_law_wide","_law_rows_here"]:List Str).Nodup by decide +kernel) rfl (Or.inr rfl) (Or.inl rfl))^^^((2<<<["_law_high","_law_wide","_law_rows_here"])^^^(@Za6 _)))) ⇑1 ⇑1),Zat,(@Zam _ _ _ _ _ ((pv 0)<&>((pv 1)<&>((Za0 (own:=["_law_k"]) (fr:=[("_law_wide",1)]) rfl (Zbi (by kernel_rfl)) (Zge rfl T.n_range ((pv 0)<&>Zab)) (λ_ _ _ _=>⟨(0<<<["_law_k","_law_wide"]),Zat,(Zlz<|>(@Zar _ _ _ _ (Zac<&>Zab))<&&>(pv 1))⟩))<&>Zab))))⟩) nd rfl rfl rfl)<*>(~~~(Zo7 Yai hr.m rfl ((Zo7 Yac hr.m rfl ((pvr 5)<&>Zab))<&>((Zo7 Yap hr.m rfl ((pvr 2)<&>((Zhn Zbk rfl T.n_list Jcg ((pvr 3)<&>Zab))<&>Zab)))<&>(((Zho Za2)<|>(pvr 4)<||>Zac)<&>((pvr 6)<&>Zab)))))))) Zaj)<*>(~~~(Zo7 Yai hr.m rfl ((Zo7 Yac hr.m rfl ((pvr 1)<&>Zab))<&>((Zo7 Yap hr.m rfl (((Zkj Zc3)<|>(pvr 2)<&&>Zac)<&>((Zhn Zbk rfl T.n_list Jcg ((pvr 3)<&>Zab))<&>Zab)))<&>((Zfz<|>((Zho Za2)<|>(pvr 4)<||>Zac)<&&>(@Zar _ _ _ _ (Zac<&>Zab)))<&>(((Zho Za2)<|>(pvr 4)<||>Zac)<&>Zab))))))),?_⟩;refine cutI λZ hZ=>?_;walk_at "wp";have fs:∀ {H1:Hp},Ext l H H1->H1 e=some (.lst xs)/\Prs H1 xs ps/\H1 st=some (.tup [.ref z,.ref tl])/\H1 z=some (.lst (ns.map V.int))/\GL Ha H1 p 60 tl ts (tds ns ps) Ms:=λe1=>⟨e1 _ _ nel he,pr.bag hb e1,e1 _ _ nst hst,e1 _ _ nzl hz,gt.ext b0 hb e1⟩
  have n8:ns.length<=8:=by exact oz223 m8 hm
  have zero:∀ nx H1,Ext l H H1->Bag H1 l->Z { nx:=nx,rt:=Q } [some (.ref l),some (.int p),some (.int m),some (.ref e),some (.ref st),none,none] H1:=λnx H1 e1 b1=>by
   refine Zcy (fs e1) λhe1 pr1 hst1 hz1 gt1=>?_;subst hZ;refine Zb3 λZ hZ=>?_;walk_at "wp";refine⟨⇑0,λp1 hp1=>?_⟩;obtain⟨qq,hq,gq,nq,nq0⟩:∃ qq:Int,atI [V.int 3,V.int 2] (if (!decide (p=2))=true then 1 else 0)=some (.int qq)/\GroundP qq/\qq≠p/\qq≠0:=by
    by_cases h:p=2
    .exact ⟨3,by rw[Jah h];rfl,ground3,∅,⇑0⟩
    .exact ⟨2,by rw[Jam h];rfl,ground2,(λz=>h z.symm),⇑0⟩
   have s2:=Same.new (o:=.lst [V.int 3,V.int 2]) hp1;refine⟨_,SqL.of Zaa,_,hq,?_⟩;generalize upd H1 p1 (.lst [V.int 3,V.int 2])=H2 at *;subst hZ;refine Zb3 λZ hZ=>?_;walk_at "wp";have g2:=gt1.same s2;have hst2:=s2 _ _ hst1;refine⟨_,rfl,st,_,1,_,rfl,rfl,SqT.of hst2,rfl,tl,rfl,⟨_,SqL.of g2.lst⟩,λD hD=>?_⟩;have tlen:=g2.len;rw[Jab] at tlen;refine Zd7 (k:=3) (xs:=ts.map V.ref) (λi vs H'=>∃ us:List Addr,vs=us.map V.ref/\Same H2 H'/\H' D=some (.lst vs)/\us.length=i/\∀ (j:Nat) u d,us[j]?=some u->(tds ns ps)[j]?=some d->∃ r rs,TabB H' qq 7 d.1 d.2 u r rs (zrM d.1 d.2)/\r≠D/\D∉rs)
    ⟨[],rfl,Same.new hD,Zaa,rfl,λj t q e=>by simp at e⟩ (λi vs H' _ ⟨_,_,s',_⟩=>SqL.of (s' _ _ g2.lst)) ?_ ?_
   .intro i x vs σ' H' hi hx sh e91;refine Zkr e91 λus e95 s' e' ul hu=>?_;clear e91;obtain rfl:=e95;refine Zs6 (sh3 sh) λc1 c2 c3 e96=>?_;obtain rfl:=e96;rw[Jab] at hi;have ht:=Jaa hi;rw[Jad,ht] at hx;cases hx;have ed:(tds ns ps)[i]?=some ((tds ns ps)[i]'(by rw[Jab];exact oz3 tlen hi)):=Jaa _;refine Zbs (g2.tab i _ _ ht ed) λr rs tb _=>?_;have dl:((tds ns ps)[i]'(by rw[Jab];exact oz3 tlen hi)).1<=24/\((tds ns ps)[i]'(by rw[Jab];exact oz3 tlen hi)).2<=24:=by
     rw[List.getElem_map];exact⟨nz24 hn _,nz24 hn _⟩
    generalize (tds ns ps)[i]'(by rw[Jab];exact oz3 tlen hi)=d at *;have tb':=tb.same s';refine Zaq _ _ ⟨rfl,SqT.of tb'.tv.tup,rfl,_,_,rfl,_,_,rfl,_,_,rfl,rfl,?_⟩;simp only[Ze0,List.set_cons_zero,List.set_cons_succ,Jb9,Zbq];walk_at "wp";refine⟨_,rfl,(d.1:Int),rfl,Zt3,∅,λD2 hD2=>?_⟩;rw[show ((d.1:Nat):Int).toNat=d.1 from Jbp _];refine Zm8 (p:=qq) (λ_=>List.replicate d.2 ((0,1):Nv)) hD2 ∅ (λk H4 Q4 hk s4 q4=>?_) λrs2 H4 s4 hD4 al4 nD nds fr=>?_
    .simp only [Zbq];walk_at "wp";refine⟨⇑0,λpz hpz=>⟨_,rfl,?_⟩⟩;have s4z:=Same.new (o:=.lst [V.int 0]) hpz;refine Zbv pz d.2 [V.int 0] ⟨rfl,rfl,Zaa,oz88,∅,?_,λpw hpw=>?_⟩
     .show 1*(d.2:Int).toNat<=sizeLine;rw[Jbp,Jet];exact Jbd (Zan ∅)
     refine q4 pw _ (s4z.free hpw) (s4z.trans (Same.new hpw)) ⟨_,Zaa,?_,λi v x f1 f2=>?_⟩
     .rw [Zrr,Jav,Jbp];exact Nat.mul_one _
     .have hv:=Jac f1;refine Zae (List.mem_flatten.mp hv) λr1 h1 h2=>?_;rw[(Jb1.mp h1).2] at h2;rw[Jao.mp h2,(Jb1.mp (Jac f2)).2];exact NumV.of (x:=(0,1)) nq0
    .refine ⟨⇑0,λt ht'=>?_⟩;have s5:=Same.new (o:=.tup [V.int d.1,V.int d.2,V.ref D2]) ht';have e5:=(s4.trans s5) _ _ e';have n3:D2≠D:=Zji hD2 e';have n4:D∉rs2:=λz=>by have:=fr D z;rw[e'] at this;cases this
     refine Zk3 (ws:=us.map V.ref++[.ref t]) (by rw[Jab];exact hi) sh3m e5 (Zan (by rw[Jab];exact oz14 p9 tlen hi ul)) ⟨us++[t],Zbe _ _,((s'.trans s4).trans s5).upd hD,by rw[Zaa],by rw[Jai,ul];rfl,λj u' d' f1 f2=>?_⟩;have tbN:TabB (upd H4 t (.tup [V.int d.1,V.int d.2,V.ref D2])) qq 7 d.1 d.2 t D2 rs2 (zrM d.1 d.2):=⟨⟨Zaa,s5 _ _ hD4,al4.mono λ_ _ q=>q.same s5,nD⟩,by rw[Jab,Jax],λxs hx=>by obtain⟨_,_,rfl⟩:=Ja2.mp hx;rw[Jav],λxs hx x hxx=>by
      refine Zae (Ja2.mp hx) λ_ _ e97=>?_;obtain rfl:=e97;rw[(Jb1.mp hxx).2];exact⟨(Zrx gq).1,by unfold Bt;decide,by unfold Bt;decide⟩⟩
     by_cases hj:j<us.length
     .rw [Jar hj] at f1;refine Zca (hu j u' d' f1 f2) λr' rs' tb2 n1 n2=>?_;exact Zaq r' rs' ⟨(tb2.same (s4.trans s5)).put e5 n1 n2,n1,n2⟩
     .rw [Jas (Zpp hj)] at f1;have hj0:j-us.length=0:=by
       by_cases z:j-us.length=0
       .exact z
       .rw [Jap (by simp;exact oz4 z)] at f1;cases f1
      rw[hj0] at f1;cases f1;have ji:j=i:=by exact oz2 ul hj hj0
      subst ji;rw[ed] at f2;cases f2;exact Zaq D2 rs2 ⟨tbN.put e5 n3 n4,n3,n4⟩
   .intro vs H3 e92;refine Zkr e92 λus e98 s3 e3 ul hu=>?_;clear e92;obtain rfl:=e98;rw[Jab] at ul;have t3:=s2.trans s3;subst hZ;walk_at "wp";refine Zfj gq λgg H4 s4 hg=>⟨_,.inl (SqL.of ((t3.trans s4) _ _ he1)),λe2 he2=>?_⟩
    have s5:=Same.new (o:=.lst xs) he2;have q5:(upd H4 e2 (.lst xs)) e2=some (.lst xs):=Zaa;generalize upd H4 e2 (.lst xs)=H5 at *;have t5:=(t3.trans s4).trans s5;refine Zic m1 m8 q5 (pr1.same t5) ip p9 λdd lp H6 s6 flp hd=>⟨_,SqT.of ((t5.trans s6) _ _ hst1),_,rfl,?_⟩
    have t6:=t5.trans s6;have s36:=(s4.trans s5).trans s6;have b6:=b1.same t6;intro y dy hy hdy ndy;refine Zil (p:=qq) (m:=m) (k:=7) (ts:=us) (ns:=ns) (Ms:=(tds ns ps).map λd=>zrM d.1 d.2) hy hdy ndy ((hg.same s5).same s6) gq hd (pr1.same t6) ip p9 ⟨t6 _ _ hz1,n8,λn h=>⟨(hn n h).1,Jej (hn n h).2 ⇑0⟩⟩ hm ⟨s36 _ _ e3,oz62 tlen ul,λi t q f1 f2=>?_⟩ ⇑0 λdy2 z' l2 ts2 H7 s7 sb=>⟨rfl,?_⟩
    .have fd:(tds ns ps)[i]?=some (nz ns q.2,nz ns q.1):=by rw[Jad,f2];rfl
     refine Zbs (hu i t _ f1 fd) λr rs tb _=>?_;refine⟨r,rs,?_⟩;rw[Jae,Jad,fd];exact tb.same s36
    .have b7:=b6.same s7;have nlp:lp≠l:=b1.ne ((t5.free flp));exact q y H7 (e1.trans (t6.trans s7).ext) b7 (nb_rm b7 sb.sa sb.prs nlp λh=>nq h.1)
  by_cases h8:m=8
  .exact Zgg (Jah h8) (zero _ H (Ext.refl _ _) hb)
  .refine Zcj (by rw[Jam h8];decide) (hb.draw ⇑0 ⇑0 λr H1 r0 r1 e1 b1=>⟨rfl,Zb5 (λ_=>zero _ H1 e1 b1) λ_=>?_⟩);refine Zcy (fs e1) λhe1 pr1 hst1 hz1 gt1=>?_;refine Zfj hp λgg H4 s4 hg=>⟨_,.inl (SqL.of (s4 _ _ he1)),λe2 he2=>?_⟩
   have s5:=Same.new (o:=.lst xs) he2;have q5:(upd H4 e2 (.lst xs)) e2=some (.lst xs):=Zaa;generalize upd H4 e2 (.lst xs)=H5 at *;have t5:=s4.trans s5;have ip':InP (m+1) ps:=λq h=>by have:=ip q h;exact oz168 this
   refine Zic (m:=m+1) ∅ (oz157 m8 h8) q5 (pr1.same t5) ip' p9 λdd lp H6 s6 flp hd=>⟨_,SqT.of ((t5.trans s6) _ _ hst1),_,rfl,⇑0,λp0 hp0=>?_⟩
   have s7:=Same.new (o:=.lst [V.int 0]) hp0;have q7:(upd H6 p0 (.lst [V.int 0])) p0=some (.lst [V.int 0]):=Zaa;generalize upd H6 p0 (.lst [V.int 0])=H7 at *;have t7:=(t5.trans s6).trans s7;refine⟨z,rfl,_,t7 _ _ hz1,_,q7,Jbd (Zan (by rw[Jab];show ns.length+1<=1000;omega)),λz2 hz2=>?_⟩;have s8:=Same.new (o:=.lst (ns.map V.int++[V.int 0])) hz2;have q8:(upd H7 z2 (.lst (ns.map V.int++[V.int 0]))) z2=some (.lst ((ns++[0]).map V.int)):=by rw[Zaa,Ja7];rfl
   generalize upd H7 z2 (.lst (ns.map V.int++[V.int 0]))=H8 at *;have t8:=t7.trans s8;refine⟨_,SqT.of (t8 _ _ hst1),_,rfl,?_⟩;have s58:=(s6.trans s7).trans s8;intro y dy hy hdy ndy;refine Zil (p:=p) (m:=m+1) (k:=60) (ts:=ts) (ns:=ns++[0]) (Ms:=Ms) hy hdy ndy ((hg.same s5).same s58) hp (Zor hd (s7.trans s8)) (pr1.same t8) ip' p9 ⟨q8,by rw[Jai];show ns.length+1<=8;exact oz170 m8 hm h8,λn h=>?_⟩ (by rw[Jai];show ((ns.length+1:Nat):Int)=m+1;omega) ⟨t8 _ _ gt1.lst,by rw[gt1.len,Jab],λi t q f1 f2=>?_⟩ ⇑0 λdy2 z' l2 ts2 H9 s9 sb=>⟨rfl,?_⟩
   .rcases Ja1.mp h with h|h
    .exact ⟨(hn n h).1,Jej (hn n h).2 ⇑0⟩
    .rw [Jao.mp h];decide
   .have iq:=ip q (Jac f2);obtain⟨r,rs,tb,_⟩:=gt1.tab i t (nz ns q.2,nz ns q.1) f1 (by rw[Jad,f2];rfl);rw[Zv2 (oz172 hm iq),Zv2 (oz183 hm iq)];exact⟨r,rs,tb.same t8⟩
   .have b8:=b1.same t8;have b9:=b8.same s9;have nlp:lp≠l:=b1.ne (t5.free flp);exact q y H9 (e1.trans (t8.trans s9).ext) b9 (nb_rm b9 sb.sa sb.prs nlp λh=>by have:=h.2.1;omega)
def Onum (p:Int)(R:Hp)(v:V):Prop:=WfN R v/\Zkk p R v=false
theorem Onum.same {p:Int}{R R':Hp}{v:V}(h:Onum p R v)(s:Same R R'):Onum p R' v:=⟨h.1.same s,by rw[Zjg h.1 s];exact h.2⟩
theorem Zii {H:Hp}{v:V}(h:Kn H v)(n:Zjy H v=false):WfN H v:=⟨h,λa xs e1 e2=>by cases e1;simp only[Zjy,e2] at n;cases n⟩
theorem Zhd {H:Hp}{a:Addr}{i j:Int}(h:H a=some (.tup [.int i,.int j]))(hi:Top i)(hj:Top j):WfN H (.ref a):=⟨.tup h (show 2<=1000 by decide),λb xs e1 e2 y hy=>by
 cases e1;rw[h] at e2;cases e2;rcases Ja5.mp hy with rfl|hy
 .exact ⟨.int,λk e=>by cases e;exact hi⟩
 .rw [Jao.mp hy];exact⟨.int,λk e=>by cases e;exact hj⟩⟩
theorem Zm5 {p:Int}{R:Hp}{v:V}(h:p≠0)(n:∀ i,v=.int i->¬ (0<=i/\i<p)):Zkk p R v=false:=by
 unfold Zkk;rw[if_neg h];cases v <;> try rfl
 rename_i i
 have:=n i rfl;show (decide (0<=i) && decide (i<p))=false;by_cases h0:0<=i
 .rw [Jah h0,Jam (λz=>this ⟨h0,z⟩)];rfl
 .rw [Jam h0];rfl
theorem Zk1 {R:Hp}{a:Addr}{i j:Int}(h:R a=some (.tup [.int i,.int j]))(n:(decide (1<=j) && decide (Int.gcd i j=1))=false):Zkk 0 R (.ref a)=false:=by
 unfold Zkk;rw[if_pos rfl];simp only[frB,h];exact n
def spNsp:L2.Sp:=λvs H Q _=>∃ (l:Addr) (p:Int) (n:Nat) (t r:Addr) (rs:List Addr) (M:Mv),vs=[.ref l,.int p,.ref t]/\Bag H l/\GroundP p/\0<n/\n<=24/\TabB (rm l H) p 7 n n t r rs M /\
 ∀ t' H',Ext l H H'->Bag H' l->WfT (rm l H') (.ref t')->Zgj p (rm l H') (.ref t')=false->Q (.ref t') H'
theorem ok_nsp (F:Fun K "_law_number_spoilt" "_law_number_spoilt" Zb6 f fd)(T:Txt K mg C G S)(Yaa:Cal P w K mg base "_law_draw" 1 Zc0):FnOk P w K mg base CX0 2 f fd ["_law_bag_here","_law_p","_law_table_here"] spNsp:=by
 have nd:=Zdb.nd;refine F.ok Zdb (λvs H Q E h=>?_) (λcdv A outer s H vs Q E hr h=>?_)
 .refine xE7_2 h λl p n t r rs M e91 _=>?_;clear h;obtain rfl:=e91;rfl
 .refine xE7_4 h λl p n t r rs M e92 hb hp e93=>?_;clear h;obtain rfl:=e92;refine Zck e93 λn0 n24 tb q=>?_;clear e93;refine⟨_,((Zb4 (pvr 2) (@Zc2 _ _ _ _ _ 3 rfl ((3>>>nd)^^^((4>>>nd)^^^((5>>>nd)^^^(@Za6 _)))) ⇑1 ⇑1))<*>((6|||nd|||(@Zar _ _ _ _ (Zbm<&>(Zbm<&>(Zfy<&>(Zbh<&>((pvr 1)<&>((Zjv Zfu Zac)<&>((@Zam _ _ _ _ _ (Zac<&>(Zac<&>Zab)))<&>((@Zam _ _ _ _ _ (Zac<&>(Zac<&>Zab)))<&>((@Zar _ _ _ _ (Zac<&>Zab))<&>Zab)))))))))))<*>((@Zay _ _ _ _ _ _ _ _ (Zak (Ze2 Zby) (pvr 1) Zac (Zah _)) (@Zau _ _ _ (@Zap _ _ 6 _ _ _ _ nd rfl (Or.inl rfl) (@Zar _ _ _ _ (Zac<&>(Zac<&>(Zbm<&>(Zfy<&>(Zbh<&>((@Zam _ _ _ _ _ (Zac<&>(Zac<&>Zab)))<&>((@Zam _ _ _ _ _ (Zac<&>(Zac<&>Zab)))<&>((@Zam _ _ _ _ _ (Zac<&>(Zac<&>Zab)))<&>((@Zam _ _ _ _ _ (Zac<&>((Zjv Zfu Zac)<&>Zab)))<&>((@Zar _ _ _ _ (Zac<&>(Zac<&>Zab)))<&>Zab))))))))))) (by kernel_rfl) (Or.inr rfl))) Zaj)<*>((Zfc (i:=7) (own:=["_law_row"]) (fr:=[]) rfl (Zbi (by kernel_rfl)) (Zbd (pv 5)) (λ_ _ _ _=>⟨(0<<<["_law_row"]),Zat,(Zhn (Zg6 K rfl) rfl T.n_list Jcg ((pv 0)<&>Zab))⟩) nd rfl rfl rfl)<*>((Zb4 (Za7<|>(pvr 6)<||>(Yaa<$>hr<$>((pvr 0)<&>((Za1 Zao rfl T.n_len Jba ((pvr 6)<&>Zab))<&>Zab)))) (Zkh (Za7<|>(pvr 7)<||>(Yaa<$>hr<$>((pvr 0)<&>((pvr 3)<&>Zab)))) (Yaa<$>hr<$>((pvr 0)<&>((pvr 4)<&>Zab))) Zfh))<*>(~~~(@Zam _ _ _ _ _ ((pvr 3)<&>((pvr 4)<&>((pvr 7)<&>Zab)))))))))),?_⟩;refine Zb3 λZ hZ=>?_;walk_at "wp";have tH:=TabB.same tb (Zbl l H);refine⟨_,SqT.of tH.tv.tup,rfl,_,_,rfl,_,_,rfl,_,_,rfl,rfl,?_⟩;subst hZ;refine Zb3 λZ hZ=>?_;walk_at "wp";refine⟨⇑0,λp0 f0=>?_⟩;have s0:=Same.new (o:=.tup [V.int 1,V.int 1]) f0;have e0:(upd H p0 (.tup [V.int 1,V.int 1])) p0=some (.tup [V.int 1,V.int 1]):=Zaa;have m0:p0≠l:=hb.ne f0;have b0:=hb.same s0;clear f0;generalize upd H p0 (.tup [V.int 1,V.int 1])=H0 at *;refine⟨⇑0,λp1 f1=>?_⟩;have s1:=Same.new (o:=.tup [V.int 0,V.int 1]) f1;have e1:(upd H0 p1 (.tup [V.int 0,V.int 1])) p1=some (.tup [V.int 0,V.int 1]):=Zaa;have m1:p1≠l:=b0.ne f1;have b1:=b0.same s1;clear f1;generalize upd H0 p1 (.tup [V.int 0,V.int 1])=H1 at *;refine⟨⇑0,λp2 f2=>?_⟩;have s2:=Same.new (o:=.lst [V.int 0]) f2;have e2:(upd H1 p2 (.lst [V.int 0])) p2=some (.lst [V.int 0]):=Zaa;have m2:p2≠l:=b1.ne f2;have b2:=b1.same s2;clear f2;generalize upd H1 p2 (.lst [V.int 0])=H2 at *;refine⟨⇑0,λp3 f3=>?_⟩;have s3:=Same.new (o:=.lst [V.bl true,V.bl false,V.non,V.str "1",V.int p,V.int (-1),V.ref p0,V.ref p1,V.ref p2]) f3;have e3:(upd H2 p3 (.lst [V.bl true,V.bl false,V.non,V.str "1",V.int p,V.int (-1),V.ref p0,V.ref p1,V.ref p2])) p3=some (.lst [V.bl true,V.bl false,V.non,V.str "1",V.int p,V.int (-1),V.ref p0,V.ref p1,V.ref p2]):=Zaa;have m3:p3≠l:=b2.ne f3;have b3:=b2.same s3;clear f3;generalize upd H2 p3 (.lst [V.bl true,V.bl false,V.non,V.str "1",V.int p,V.int (-1),V.ref p0,V.ref p1,V.ref p2])=H3 at *;have t3:=Same.refl H3;have t2:=s3.trans t3;have t1:=s2.trans t2;have t0:=s1.trans t1;have tt:=s0.trans t0;have n1:∀ {H':Hp},Same H3 H'->Bag H' l->p≠0->∀ u∈[V.bl true,V.bl false,V.non,V.str "1",V.int p,V.int (-1),V.ref p0,V.ref p1,V.ref p2],Onum p (rm l H') u:=λ{H'} s' b' hp0 u hu=>by
   have at':∀ {a:Addr} {o:HO},a≠l->H3 a=some o->rm l H' a=some o:=λn h=>Zbg (s' _ _ h) n;have big:∀ i:Int,i.natAbs<=5->Top i:=λi h=>by unfold Top;exact Jbf h (Jaq (by decide:5<2 ^ 3) (Jcf ⇑0 ⇑0))
   have fl:∀ v,Kn (rm l H') v->Zjy (rm l H') v=false->(∀ i,v=.int i->¬ (0<=i/\i<p))->Onum p (rm l H') v:=λv k1 k2 k3=>⟨Zii k1 k2,Zm5 hp0 k3⟩
   simp only[Ja5,Jce,Jeg] at hu;rcases hu with rfl|rfl|rfl|rfl|rfl|rfl|rfl|rfl|rfl
   .exact fl _ .bl rfl λi e=>by cases e
   .exact fl _ .bl rfl λi e=>by cases e
   .exact fl _ (.inl rfl) rfl λi e=>by cases e
   .exact fl _ .str rfl λi e=>by cases e
   .exact fl _ .int rfl λi e=>by cases e;omega
   .exact fl _ .int rfl λi e=>by cases e;omega
   .exact ⟨Zhd (at' m0 (t0 _ _ e0)) (big _ ⇑0) (big _ ⇑0),Zm5 hp0 λi e=>by cases e⟩
   .exact ⟨Zhd (at' m1 (t1 _ _ e1)) (big _ ⇑0) (big _ ⇑0),Zm5 hp0 λi e=>by cases e⟩
   .exact fl _ (.lst (at' m2 (t2 _ _ e2)) (show 1<=1000 by decide)) (Zfm (at' m2 (t2 _ _ e2))) λi e=>by cases e
  subst hZ;refine Zb3 λZ hZ=>?_;walk_at "wp";have go:∀ {H4:Hp} {o:Addr} {us:List V},Same H H4->Bag H4 l->H4 o=some (.lst us)->o≠l->0<us.length->us.length<=10->(∀ u∈us,Onum p (rm l H4) u)->Z { nx:=λx H'=>Q V.non H',rt:=Q } [some (.ref l),some (.int p),some (.ref t),some (.int n),some (.int n),some (.ref r),some (.ref o),none] H4:=λ{H4 o us} s4 b4 ho no u0 u10 ou=>by
   subst hZ;refine Zb3 λZ hZ=>?_;walk_at "wp";have t4:=TabB.same (TabB.same tb (Zav s4.ext)) (Zbl l H4);have tR:=TabB.same tb (Zav s4.ext);have rl:rs.length=n:=by have:=t4.tv.row.1;have:=t4.hl;omega
   have wr:=(tR.tab ⇑0).wft (show (n:Int)<=24 by exact oz199 n24) (show (n:Int)<=24 by exact oz199 n24);refine⟨_,rfl,r,rfl,⟨_,SqL.of t4.tv.lst⟩,λD hD=>?_⟩;have mD:=b4.ne hD;refine Zcu (λ_ Hc y=>∃ b vs,y=.ref b/\Hc b=some (.lst vs)/\vs.length=n/\(∀ v∈vs,WfN (rm l H4) v)/\b≠D/\H4 b=none) (λ⟨b,vs,a1,a2,a3⟩ s=>⟨b,vs,a1,s _ _ a2,a3⟩) (λ⟨b,vs,a1,a2,a3,a4,a5,a6⟩ hD=>⟨b,vs,a1,by rw[Zal a5];exact a2,a3,a4,a5,a6⟩) t4.tv.lst hD (by rw[Jab];exact oz35 n24 rl) (λi y H5 Q5 hy s5 ⟨lD,hlD⟩ q5=>?_) (λys H5 s5 e5 yl hys=>?_)
   .rw [Jad] at hy;cases er:rs[i]? with
    | none=>rw[er] at hy;cases hy
    | some a=>
     rw[er] at hy;cases hy;refine Zae (tR.tv.row.at' er) λrow erow rv=>?_;refine Zae rv λvs hvs al=>?_;clear rv;have rwl:=tR.hw _ (Jac erow);have vl:vs.length=n:=by rw[al.1,rwl]
     have wv:∀ v∈vs,WfN (rm l H4) v:=((wr.2 t _ rfl tR.tv.tup (.ref r) (by simp)).2 r _ rfl tR.tv.lst (.ref a) (Ja2.mpr ⟨a,Jac er,rfl⟩)).2 a vs rfl hvs;have ha:=s5 _ _ (Zbl l H4 _ _ hvs);simp only[Zbq];walk_at "wp";refine⟨_,.inl (SqL.of ha),λb hb=>q5 _ _ (Same.new hb) ⟨b,vs,rfl,Zaa,vl,wv,Zji hb hlD,s5.free hb⟩⟩
   .obtain ⟨bs,rfl,hbs⟩:=Zmz (P:=λ_ b=>∃ vs,H5 b=some (.lst vs)/\vs.length=n/\(∀ v∈vs,WfN (rm l H4) v)/\b≠D/\H4 b=none) λi y e=>let ⟨b,vs,a,c⟩:=hys i y e;⟨b,a,vs,c⟩;rw[Jab,Jab] at yl;have b5:=b4.same s5;subst hZ;refine Zb3 λZ hZ=>?_;walk_at "wp";have ho5:=s5 _ _ ho;refine⟨_,.inl (SqL.of ho5),b5.draw (oz73 u0) ∅ λk1 H6 k10 k11 e6 b6=>⟨_,_,rfl,SqL.of (e6 _ _ no ho5),?_⟩⟩;obtain⟨i1,rfl⟩:=Ja9 k10;have eu:us[i1]?=some (us[i1]'(oz97 k11)):=Jaa _;have ouu:=ou _ (Jac eu);refine⟨_,atI_n eu,b6.draw (oz73 n0) (oz78 n24) λk2 H7 k20 k21 e7 b7=>⟨_,_,rfl,SqL.of ((e6.trans e7) _ _ mD e5),?_⟩⟩;obtain⟨i2,rfl⟩:=Ja9 k20;have eb:bs[i2]?=some (bs[i2]'(oz112 rl yl k21)):=Jaa _;refine Zkr (hbs i2 _ eb) λvs hvs vl wv nbD fb=>?_;refine⟨_,atI_r eb,b7.draw (oz73 n0) (oz78 n24) λk3 H8 k30 k31 e8 b8=>?_⟩;obtain⟨i3,rfl⟩:=Ja9 k30;have e58:=(e6.trans e7).trans e8;generalize us[i1]'(oz97 k11)=u at *;generalize hbb:bs[i2]'(oz112 rl yl k21)=b at *;have mb:=b4.ne fb;refine⟨b,rfl,vs,_,rfl,e58 _ _ mb hvs,i3,ixN_n (oz90 vl k31),?_⟩;subst hZ;walk_at "wp";refine⟨⇑0,λt' ht'=>?_⟩;have sN:=Same.new (o:=.tup [V.int n,V.int n,V.ref D]) ht';have eb9:(upd H8 b (.lst (vs.set i3 u))) b=some (.lst (vs.set i3 u)):=Zaa;have e49:Ext l H4 (upd H8 b (.lst (vs.set i3 u))):=(s5.ext.trans e58).upd fb;have row9:∀ b'∈bs,∃ vs',(upd H8 b (.lst (vs.set i3 u))) b'=some (.lst vs')/\vs'.length=n/\b'≠l/\∀ v∈vs',WfN (rm l H4) v\/v=u:=λb' hb'=>by
     obtain⟨k,hk,rfl⟩:=Ja4.mp hb';refine Zkr (hbs k _ (Jaa hk)) λvs' h1 h2 h3 h4 h5=>?_;by_cases z:bs[k]=b
     .rw [z];exact⟨_,eb9,by rw[Jcc];exact vl,mb,λv hv=>(Zol hv).symm.imp (wv v) id⟩
     .exact ⟨vs',by rw[Zal z];exact e58 _ _ (b4.ne h5) h1,h2,b4.ne h5,λv hv=>.inl (h3 v hv)⟩
    have D9:(upd H8 b (.lst (vs.set i3 u))) D=some (.lst (bs.map V.ref)):=by rw[Zal nbD.symm];exact e58 _ _ mD e5
    have b9:=b8.new (o:=.lst (vs.set i3 u)) mb;generalize upd H8 b (.lst (vs.set i3 u))=H9 at *;have e4t:=e49.trans sN.ext;have hrm:∀ {a:Addr} {o:HO},a≠l->H9 a=some o->rm l (upd H9 t' (.tup [V.int n,V.int n,V.ref D])) a=some o:=λn h=>Zbg (sN _ _ h) n;have ht9:rm l (upd H9 t' (.tup [V.int n,V.int n,V.ref D])) t'=some (.tup [V.int n,V.int n,V.ref D]):=Zbg Zaa (b9.ne ht');have wu:∀ v,WfN (rm l H4) v\/v=u->WfN (rm l (upd H9 t' (.tup [V.int n,V.int n,V.ref D]))) v:=λv h=>h.elim (λh=>h.same (Zav e4t)) λh=>h ▸ ouu.1.same (Zav e4t);refine q t' _ (s4.ext.trans e4t) (b9.same sN) ⟨.tup ht9 (show 3<=1000 by decide),λa xs e1 e2 y hy=>?_⟩ ?_
    .cases e1;rw[ht9] at e2;cases e2;rcases Ja5.mp hy with rfl|hy
     .exact ⟨.int,λr rows e=>by cases e⟩
     rcases Ja5.mp hy with rfl|hy
     .exact ⟨.int,λr rows e=>by cases e⟩
     rw[Jao.mp hy];refine⟨.lst (hrm mD D9) (by rw[Jab];exact oz87 n24 rl yl),λr rows e1 e2 zz hz=>?_⟩;cases e1;rw[hrm mD D9] at e2;cases e2;refine Zae (Ja2.mp hz) λb' hb' e94=>?_;obtain rfl:=e94;refine Zpv (row9 b' hb') λvs' h1 h2 h3 h4=>?_;refine⟨.lst (hrm h3 h1) (oz35 n24 h2),λa xs e1 e2 y hy=>?_⟩;cases e1;rw[hrm h3 h1] at e2;cases e2;exact wu y (h4 y hy)
    .have hm:b∈bs:=by rw[<- hbb];exact Jat _
     have rowF:Zoa p n (rm l (upd H9 t' (.tup [V.int n,V.int n,V.ref D]))) (.ref b)=false:=by
      simp only[Zoa,hrm mb eb9];rw[Jdu];refine .inr (Jem.mpr ⟨u,Jac (show (vs.set i3 u)[i3]?=some u by rw[Jdk (oz90 vl k31)]),?_⟩);rw[(ouu.same (Zav e4t)).2];decide
     simp only[Zgj,ht9,hrm mD D9];rw[Jdu];exact .inr (Jem.mpr ⟨_,Ja2.mpr ⟨b,hm,rfl⟩,by rw[rowF];decide⟩)
  refine Zb5 (λhc=>?_) (λhc=>?_)
  .obtain rfl:p=0:=Jaz hc;refine⟨⇑0,λa0 af0=>?_⟩;have as0:=Same.new (o:=.tup [V.int 2,V.int 2]) af0;have ae0:(upd H3 a0 (.tup [V.int 2,V.int 2])) a0=some (.tup [V.int 2,V.int 2]):=Zaa;have am0:a0≠l:=b3.ne af0;have ab0:=b3.same as0;clear af0;generalize upd H3 a0 (.tup [V.int 2,V.int 2])=A0 at *;refine⟨⇑0,λa1 af1=>?_⟩;have as1:=Same.new (o:=.tup [V.int 0,V.int 2]) af1;have ae1:(upd A0 a1 (.tup [V.int 0,V.int 2])) a1=some (.tup [V.int 0,V.int 2]):=Zaa;have am1:a1≠l:=ab0.ne af1;have ab1:=ab0.same as1;clear af1;generalize upd A0 a1 (.tup [V.int 0,V.int 2])=A1 at *;refine⟨⇑0,λa2 af2=>?_⟩;have as2:=Same.new (o:=.tup [V.int 1,V.int 0]) af2;have ae2:(upd A1 a2 (.tup [V.int 1,V.int 0])) a2=some (.tup [V.int 1,V.int 0]):=Zaa;have am2:a2≠l:=ab1.ne af2;have ab2:=ab1.same as2;clear af2;generalize upd A1 a2 (.tup [V.int 1,V.int 0])=A2 at *;refine⟨⇑0,λa3 af3=>?_⟩;have as3:=Same.new (o:=.tup [V.int 1,V.int (-1)]) af3;have ae3:(upd A2 a3 (.tup [V.int 1,V.int (-1)])) a3=some (.tup [V.int 1,V.int (-1)]):=Zaa;have am3:a3≠l:=ab2.ne af3;have ab3:=ab2.same as3;clear af3;generalize upd A2 a3 (.tup [V.int 1,V.int (-1)])=A3 at *;refine⟨⇑0,λa4 af4=>?_⟩;have as4:=Same.new (o:=.lst [V.int 1,V.int 1]) af4;have ae4:(upd A3 a4 (.lst [V.int 1,V.int 1])) a4=some (.lst [V.int 1,V.int 1]):=Zaa;have am4:a4≠l:=ab3.ne af4;have ab4:=ab3.same as4;clear af4;generalize upd A3 a4 (.lst [V.int 1,V.int 1])=A4 at *;refine⟨⇑0,λa5 af5=>?_⟩;have as5:=Same.new (o:=.lst [V.int 1,V.int 0,V.bl true,V.non,V.str "1",V.ref a0,V.ref a1,V.ref a2,V.ref a3,V.ref a4]) af5;have ae5:(upd A4 a5 (.lst [V.int 1,V.int 0,V.bl true,V.non,V.str "1",V.ref a0,V.ref a1,V.ref a2,V.ref a3,V.ref a4])) a5=some (.lst [V.int 1,V.int 0,V.bl true,V.non,V.str "1",V.ref a0,V.ref a1,V.ref a2,V.ref a3,V.ref a4]):=Zaa;have am5:a5≠l:=ab4.ne af5;have ab5:=ab4.same as5;clear af5;generalize upd A4 a5 (.lst [V.int 1,V.int 0,V.bl true,V.non,V.str "1",V.ref a0,V.ref a1,V.ref a2,V.ref a3,V.ref a4])=A5 at *;have at5:=Same.refl A5;have at4:=as5.trans at5;have at3:=as4.trans at4;have at2:=as3.trans at3;have at1:=as2.trans at2;have at0:=as1.trans at1;have t5a:=as0.trans at0;have at':∀ {a:Addr} {o:HO},a≠l->A5 a=some o->rm l A5 a=some o:=λn h=>Zbg h n;have big:∀ i:Int,i.natAbs<=5->Top i:=λi h=>by unfold Top;exact Jbf h (Jaq (by decide:5<2 ^ 3) (Jcf ⇑0 ⇑0))
   refine go (tt.trans t5a) ab5 ae5 am5 (show 0<10 by decide) (show 10<=10 by decide) λu hu=>?_;simp only[Ja5,Jce,Jeg] at hu;rcases hu with rfl|rfl|rfl|rfl|rfl|rfl|rfl|rfl|rfl|rfl
   .exact ⟨Zii .int rfl,rfl⟩
   .exact ⟨Zii .int rfl,rfl⟩
   .exact ⟨Zii .bl rfl,rfl⟩
   .exact ⟨Zii (.inl rfl) rfl,rfl⟩
   .exact ⟨Zii .str rfl,rfl⟩
   .exact ⟨Zhd (at' am0 (at0 _ _ ae0)) (big _ ⇑0) (big _ ⇑0),Zk1 (at' am0 (at0 _ _ ae0)) ⇑0⟩
   .exact ⟨Zhd (at' am1 (at1 _ _ ae1)) (big _ ⇑0) (big _ ⇑0),Zk1 (at' am1 (at1 _ _ ae1)) ⇑0⟩
   .exact ⟨Zhd (at' am2 (at2 _ _ ae2)) (big _ ⇑0) (big _ ⇑0),Zk1 (at' am2 (at2 _ _ ae2)) ⇑0⟩
   .exact ⟨Zhd (at' am3 (at3 _ _ ae3)) (big _ ⇑0) (big _ ⇑0),Zk1 (at' am3 (at3 _ _ ae3)) ⇑0⟩
   .exact ⟨Zii (.lst (at' am4 (at4 _ _ ae4)) (show 2<=1000 by decide)) (Zfm (at' am4 (at4 _ _ ae4))),by
     unfold Zkk;rw[if_pos rfl];simp only[frB,at' am4 (at4 _ _ ae4)]⟩
  .have hp0:p≠0:=λz=>hc (Jah z);exact go tt b3 e3 m3 (show 0<9 by decide) (show 9<=10 by decide) (n1 (Same.refl _) b3 hp0)
theorem Zml {R:Hp}{c:Addr}{us:List V}(h:R c=some (.lst us))(hl:us.length<=1000)(hw:∀ y∈us,WfT R y):WfTs R (.ref c):=⟨.lst h hl,λa xs e1 e2 y hy=>by cases e1;rw[h] at e2;cases e2;exact hw y hy⟩
theorem Zs0 {R:Hp}{p:Int}{ns:List Int}{c:Addr}{us:List V}(h:R c=some (.lst us))(hl:us.length≠ns.length):acB p ns R (.ref c)=false:=by
 rw[Zh3 h,Jam hl,Jbe]
theorem acB_at {R:Hp}{p:Int}{ns:List Int}{c:Addr}{us:List V}{k:Nat}{x:V}(h:R c=some (.lst us))(hk:k<ns.length)(hx:us[k]?=some x)(hb:Zgj p R x=false):acB p ns R (.ref c)=false:=by
 rw[Zh3 h,Jdu];refine .inr (Jem.mpr ⟨acAt p ns R us k,Ja2.mpr ⟨k,Ja6.mpr hk,rfl⟩,?_⟩);show ¬ (toB p (ns.getD k 0) (ns.getD k 0) R (us.getD k .non)=true);rw[Zhq hx];unfold toB;rw[hb,Jbe];decide
theorem Zld (xs:List V){a:Nat}(h:a<=xs.length):Zle xs none (some (a:Int))=xs.take a:=by
 unfold Zle;have e2:HT.sIx xs.length xs.length (some (a:Int))=a:=by
  simp only[HT.sIx];rw[if_neg ∅];exact oz13 h
 rw[e2];rfl
theorem Zjq (xs:List V){a:Int}{n:Nat}(e:a=n)(h:n<=xs.length):Zle xs (some a) none=xs.drop n:=by
 subst e;unfold Zle;have e1:HT.sIx xs.length 0 (some (n:Int))=n:=by
  simp only[HT.sIx];rw[if_neg ∅];exact oz13 h
 rw[e1];show (xs.drop n).take (xs.length-n)=xs.drop n;rw[List.take_of_length_le (by rw[Jbz];omega)]
theorem Zvp {H1:Hp}{u p1:Addr}{x:V}{us:List V}{i:Nat}{R:V->Hp->Prop}(h1:H1 p1=some (.lst (us.take i)))(hu:H1 u=some (.lst us))(hi:i<us.length)(l8:us.length<=8)(k:∀ c H',Same H1 H'->H1 c=none->H' c=some (.lst (us.take i++[x]++us.drop (i+1)))->R (.ref c) H'):
  1<=sizeLine/\∀ p,H1 p=none->∃ x1,upd H1 p (.lst [x]) p1=some (.lst x1)/\∃ x2,upd H1 p (.lst [x]) p=some (.lst x2)/\x1.length+x2.length<=sizeLine/\∀ p2,upd H1 p (.lst [x]) p2=none->∃ x3,SqL K (upd (upd H1 p (.lst [x])) p2 (.lst (x1++x2))) u x3/\∀ p3,upd (upd H1 p (.lst [x])) p2 (.lst (x1++x2)) p3=none->
   ∃ x4,upd (upd (upd H1 p (.lst [x])) p2 (.lst (x1++x2))) p3 (.lst (Zle x3 (some ((i:Int)+1)) none)) p2=some (.lst x4)/\∃ x5,upd (upd (upd H1 p (.lst [x])) p2 (.lst (x1++x2))) p3 (.lst (Zle x3 (some ((i:Int)+1)) none)) p3=some (.lst x5)/\x4.length+x5.length<=sizeLine/\∀ p4,upd (upd (upd H1 p (.lst [x])) p2 (.lst (x1++x2))) p3 (.lst (Zle x3 (some ((i:Int)+1)) none)) p4=none->R (.ref p4) (upd (upd (upd (upd H1 p (.lst [x])) p2 (.lst (x1++x2))) p3 (.lst (Zle x3 (some ((i:Int)+1)) none))) p4 (.lst (x4++x5))):=by
 have lt:(us.take i).length=i:=by rw[Jb7];exact oz182 hi
 have ec:Zle us (some ((i:Int)+1)) none=us.drop (i+1):=Zjq us oz61 ∅;refine⟨⇑0,λp hp=>⟨_,(Same.new hp) _ _ h1,_,Zaa,Jbd (Zan (by rw[lt];show i+1<=1000;omega)),λp2 hp2=>?_⟩⟩;have s2:=(Same.new (o:=.lst [x]) hp).trans (Same.new (o:=.lst (us.take i++[x])) hp2);refine⟨_,SqL.of (s2 _ _ hu),λp3 hp3=>⟨_,(Same.new hp3) _ _ Zaa,_,Zaa,?_,λp4 hp4=>?_⟩⟩
 .rw [ec];exact Jbd (Zan (by rw[Jai,lt,Jbz];show i+1+_<=1000;exact oz163 hi l8))
 .refine k p4 _ (s2.trans ((Same.new hp3).trans (Same.new hp4))) (s2.free ((Same.new hp3).free hp4)) ?_;rw[Zaa,ec]
theorem Zp0 {R:Hp}{t r:Addr}{i j:Int}{rows:List V}(ht:R t=some (.tup [.int i,.int j,.ref r]))(hr:R r=some (.lst rows))(hl:rows.length<=1000)(hw:∀ z∈rows,WfR R z):WfT R (.ref t):=⟨.tup ht (show 3<=1000 by decide),λa xs e1 e2 y hy=>by
 cases e1;rw[ht] at e2;cases e2;rcases Ja5.mp hy with rfl|hy
 .exact ⟨.int,λr rows e=>by cases e⟩
 rcases Ja5.mp hy with rfl|hy
 .exact ⟨.int,λr rows e=>by cases e⟩
 rw[Jao.mp hy];exact⟨.lst hr hl,λr rows e1 e2 z hz=>by cases e1;rw[hr] at e2;cases e2;exact hw z hz⟩⟩
theorem Zp7 {R:Hp}{p:Int}{t r:Addr}{i j:Int}{rows:List V}(ht:R t=some (.tup [.int i,.int j,.ref r]))(hr:R r=some (.lst rows))(n:(rows.length:Int)≠i):Zgj p R (.ref t)=false:=by
 simp only[Zgj,ht,hr];rw[Jam n,Jdq,Jbe]
def spUsp (S C G:Addr):L2.Sp:=λvs H Q _=>∃ (l:Addr) (p m:Int) (xs:List V) (ps:List (Int×Int)) (ns:List Int) (x dx g d z l' lp gd u y:Addr) (uts:List Addr),vs=[.ref l,.int p,.ref u]/\Bag H l/\Ctx S C G (rm l H) p m xs ps ns x dx g d z l' lp gd u y uts/\∀ v H',Ext l H H'->Bag H' l->WfTs (rm l H') v->acB p ns (rm l H') v=false->Q v H'
theorem ok_usp (F:Fun K "_law_units_spoilt" "_law_units_spoilt" Zcb f fd)(T:Txt K mg C G S)(Yaa:Cal P w K mg base "_law_draw" 1 Zc0)(Yby:Cal P w K mg base "_law_number_spoilt" 2 spNsp):FnOk P w K mg base CX0 3 f fd ["_law_bag_here","_law_p","_law_units"] (spUsp S C G):=by
 have nd:=Zdk.nd;refine F.ok Zdk (λvs H Q E h=>?_) (λcdv A outer s H vs Q E hr h=>?_)
 .refine Zpx h λl p m xs ps ns x dx g d z l' lp gd u y uts e91 _=>?_;clear h;obtain rfl:=e91;rfl
 .refine Zpw h λl p m xs ps ns x dx g d z l' lp gd u y uts e92 hb X q=>?_;clear h;obtain rfl:=e92;refine⟨_,((3|||nd|||(Yaa<$>hr<$>((pvr 0)<&>(Zac<&>Zab))))<*>((4|||nd|||(Yaa<$>hr<$>((pvr 0)<&>((Za1 Zao rfl T.n_len Jba ((pvr 2)<&>Zab))<&>Zab))))<*>((Zb4 ((ixJ Za7)<|>(pvr 2)<||>(pvr 4)) (@Zc2 _ _ _ _ _ 3 rfl ((5>>>nd)^^^((6>>>nd)^^^((7>>>nd)^^^(@Za6 _)))) ⇑1 ⇑1))<*>((@Zay _ _ _ _ _ _ _ _ (PW.pt (Zjb (Zak (Zkj Ze1) (pvr 3) Zac (Zah _)) (Zgc (Zak (Zkj Ze1) (pvr 5) Zac (Zah _))))) (~~~(Zfz<|>(Zfz<|>(@Zbt _ _ _ _ _ _ _ _ _ _ Zf4 (pvr 2) Zcn (@Zb7 _ _ _ (pvr 4)))<&&>(@Zar _ _ _ _ ((Yby<$>hr<$>((pvr 0)<&>((pvr 1)<&>(((ixJ Za7)<|>(pvr 2)<||>(pvr 4))<&>Zab))))<&>Zab)))<&&>(@Zbt _ _ _ _ _ _ _ _ _ _ Zf4 (pvr 2) (@Zb7 _ _ _ ((Zkj Zc3)<|>(pvr 4)<&&>Zac)) Zcn))) Zaj)<*>((3|||nd|||((opJ Zdd)<|>(pvr 3)<&&>Zac))<*>((@Zay _ _ _ _ _ _ _ _ (Zak (Ze2 Zby) (pvr 3) Zac (Zah _)) (~~~(Zhn Zlg rfl T.n_tuple boot_tuple ((pvr 2)<&>Zab))) Zaj)<*>((@Zay _ _ _ _ _ _ _ _ (Zak (Ze2 Zby) (pvr 3) Zac (Zah _)) (~~~(Zfz<|>(@Zbt _ _ _ _ _ _ _ _ _ _ Zf4 (pvr 2) Zcn (@Zb7 _ _ _ (pvr 4)))<&&>(@Zbt _ _ _ _ _ _ _ _ _ _ Zf4 (pvr 2) (@Zb7 _ _ _ ((Zkj Zc3)<|>(pvr 4)<&&>Zac)) Zcn))) Zaj)<*>((@Zay _ _ _ _ _ _ _ _ (Zak (Ze2 Zby) (pvr 3) Zac (Zah _)) (~~~(Zfz<|>(pvr 2)<&&>(@Zar _ _ _ _ ((@Zam _ _ _ _ _ (Zac<&>(Zac<&>((@Zar _ _ _ _ Zab)<&>Zab))))<&>Zab)))) Zaj)<*>((8|||nd|||(@Zar _ _ _ _ ((@Zam _ _ _ _ _ (((Zkj Zc3)<|>(pvr 5)<&&>Zac)<&>((pvr 6)<&>((pvr 7)<&>Zab))))<&>((@Zam _ _ _ _ _ ((pvr 5)<&>((pvr 6)<&>((Zfz<|>(pvr 7)<&&>(@Zar _ _ _ _ ((@Zar _ _ _ _ Zab)<&>Zab)))<&>Zab))))<&>((@Zar _ _ _ _ ((pvr 5)<&>((pvr 6)<&>((pvr 7)<&>Zab))))<&>Zab)))))<*>(~~~(Zfz<|>(Zfz<|>(@Zbt _ _ _ _ _ _ _ _ _ _ Zf4 (pvr 2) Zcn (@Zb7 _ _ _ (pvr 4)))<&&>(@Zar _ _ _ _ (((ixJ Za7)<|>(pvr 8)<||>((Zkj Zgv)<|>(pvr 3)<&&>Zac))<&>Zab)))<&&>(@Zbt _ _ _ _ _ _ _ _ _ _ Zf4 (pvr 2) (@Zb7 _ _ _ ((Zkj Zc3)<|>(pvr 4)<&&>Zac)) Zcn)))))))))))),?_⟩;refine Zb3 λZ hZ=>?_;walk_at "wp";refine hb.draw ⇑0 ⇑0 λway H1 w0 w8 e1 b1=>?_;have X1:=X.same (Zav e1);have un1:=X1.un.same (Zbl l H1);have ul:=un1.2.1;have hm:=X.st.hm;have n8:=X.st.szs.2.1;have m1:=X.lo;subst hZ;refine Zb3 λZ hZ=>?_;walk_at "wp";refine⟨_,.inl (SqL.of un1.1),b1.draw (by rw[Jab];exact oz231 ul hm m1) (by rw[Jab];exact oz213 ul n8) λk H2 k0 k1 e2 b2=>?_⟩;rw[Jab] at k1;obtain⟨i,rfl⟩:=Ja9 k0;have X2:=X1.same (Zav e2);have un2:=X2.un.same (Zbl l H2);subst hZ;refine Zb3 λZ hZ=>?_;walk_at "wp";have et:uts[i]?=some (uts[i]'(oz97 k1)):=Jaa _;have en:ns[i]?=some (ns[i]'(oz68 ul k1)):=Jaa _;refine Zfq (X2.un.2.2 i _ _ et en) λr rs tb=>?_;have nn:=X.n2 _ (Jac en);generalize uts[i]'(oz97 k1)=t at *;generalize hni:ns[i]'(oz68 ul k1)=n0 at *;obtain⟨n,rfl⟩:=Ja9 nn.1;rw[Jbp] at tb;have tH:=TabB.same tb (Zbl l H2);refine⟨_,SqL.of un2.1,_,atI_r et,_,rfl,_,SqT.of tH.tv.tup,rfl,_,_,rfl,_,_,rfl,_,_,rfl,rfl,?_⟩;subst hZ;refine Zb3 λZ hZ=>?_;walk_at "wp";have wun:=X2.un.wf ⇑0 (λn h=>⟨(X.n2 n h).1,Jej (X.n2 n h).2 ⇑0⟩) n8;have tR:=tb;have hk:i<ns.length:=by exact oz68 ul k1
  have ulen:(uts.map V.ref).length=ns.length:=by rw[Jab];exact oz30 ul
  have went:∀ y∈uts.map V.ref,WfT (rm l H2) y:=wun.1.2 u _ rfl X2.un.1;have put:∀ {H3:Hp} {v:V} {c:Addr},Ext l H2 H3->Bag H3 l->c≠l->WfT (rm l H3) v->Zgj p (rm l H3) v=false->H3 c=some (.lst ((uts.map V.ref).take i++[v]++(uts.map V.ref).drop (i+1)))->Q (.ref c) H3:=λ{H3 v c} e3 b3 mc wv bv hc=>by
   have lt:((uts.map V.ref).take i).length=i:=by rw[Jb7];exact oz59 ul k1 ulen
   have hR:=Zbg hc mc;refine q _ H3 ((e1.trans e2).trans e3) b3 (Zml hR (by rw[Jai,Jai,lt,Jbz];show i+1+_<=1000;exact oz58 ul n8 k1 ulen) λy hy=>?_) (acB_at (k:=i) (x:=v) hR hk ?_ bv)
   .rcases Ja1.mp hy with h|h
    .rcases Ja1.mp h with h|h
     .exact (went y (List.mem_of_mem_take h)).same (Zav e3)
     .rw [Jao.mp h];exact wv
    .exact (went y (List.mem_of_mem_drop h)).same (Zav e3)
   .rw [Jar (by rw[Jai,lt];show i<i+1;exact Zjw),Jas (oz24 lt),lt,Nat.sub_self];rfl
  have go:Z { nx:=λx H'=>Q V.non H',rt:=Q } [some (.ref l),some (.int p),some (.ref u),some (.int way),some (.int i),some (.int n),some (.int n),some (.ref r),none] H2:=by
   subst hZ;refine Zb3 λZ hZ=>?_;walk_at "wp";refine⟨⇑0,?_⟩;have w60:0<=way % 6:=Jbq _ ⇑0;have w6:way % 6<6:=Ja8 _ ⇑0;generalize way % 6=wy at *;subst hZ;refine Zb3 λZ hZ=>?_;walk_at "wp";have nul:u≠l:=λz=>by have:=X2.un.1;rw[z] at this;unfold rm at this;rw[if_pos rfl] at this;cases this
   refine Zb5 (λhc=>?_) (λhc=>?_)
   .refine ⟨_,.inl ⟨SqL.of un2.1,λc hc'=>?_⟩⟩;have s3:=Same.new (o:=.tup (uts.map V.ref)) hc';have hR:rm l (upd H2 c (.tup (uts.map V.ref))) c=some (.tup (uts.map V.ref)):=Zbg Zaa (b2.ne hc');exact q _ _ ((e1.trans e2).trans s3.ext) (b2.same s3) (Zcz (.tup hR (oz115 n8 ulen)) (Zch hR)) (Zgh (Zch hR))
   subst hZ;refine Zb3 λZ hZ=>?_;walk_at "wp";refine Zb5 (λhc1=>?_) (λhc1=>?_)
   .refine ⟨_,SqL.of un2.1,λp1 hp1=>⟨_,SqL.of ((Same.new hp1) _ _ un2.1),λp2 hp2=>⟨_,(Same.new hp2) _ _ Zaa,_,Zaa,?_,λc hc'=>?_⟩⟩⟩
    .rw [Zld _ (oz16 ul k1 ulen),Zjq _ (n:=i+1) oz61 (oz44 ul k1 ulen)];exact Jbd (Zan (by rw[Jb7,Jbz];exact oz11 n8 ulen))
    .rw [Zld _ (oz16 ul k1 ulen),Zjq _ (n:=i+1) oz61 (oz44 ul k1 ulen)] at *;have s3:=(Same.new (o:=.lst ((uts.map V.ref).take i)) hp1).trans ((Same.new (o:=.lst ((uts.map V.ref).drop (i+1))) hp2).trans (Same.new (o:=.lst ((uts.map V.ref).take i++(uts.map V.ref).drop (i+1))) hc'));have fc:=((Same.new (o:=.lst ((uts.map V.ref).take i)) hp1).trans (Same.new (o:=.lst ((uts.map V.ref).drop (i+1))) hp2)).free hc';have hc3:(upd (upd (upd H2 p1 (.lst ((uts.map V.ref).take i))) p2 (.lst ((uts.map V.ref).drop (i+1)))) c (.lst ((uts.map V.ref).take i++(uts.map V.ref).drop (i+1)))) c=some (.lst ((uts.map V.ref).take i++(uts.map V.ref).drop (i+1))):=Zaa;generalize upd (upd (upd H2 p1 (.lst ((uts.map V.ref).take i))) p2 (.lst ((uts.map V.ref).drop (i+1)))) c (.lst ((uts.map V.ref).take i++(uts.map V.ref).drop (i+1)))=H3 at *;have hR:=Zbg hc3 (b2.ne fc);refine q _ H3 ((e1.trans e2).trans s3.ext) (b2.same s3) (Zml hR (by rw[Jai,Jb7,Jbz];exact oz11 n8 ulen) λy hy=>?_) (Zs0 hR (by rw[Jai,Jb7,Jbz];exact oz22 ul k1 ulen));rcases Ja1.mp hy with h|h
     .exact (went y (List.mem_of_mem_take h)).same (Zav s3.ext)
     .exact (went y (List.mem_of_mem_drop h)).same (Zav s3.ext)
   subst hZ;refine Zb3 λZ hZ=>?_;walk_at "wp";refine Zb5 (λhc2=>?_) (λhc2=>?_)
   .refine ⟨⇑0,λa0 af0=>?_⟩;have as0:=Same.new (o:=.lst []) af0;have ae0:(upd H2 a0 (.lst [])) a0=some (.lst []):=Zaa;have am0:a0≠l:=b2.ne af0;have ab0:=b2.same as0;clear af0;generalize upd H2 a0 (.lst [])=A0 at *;refine⟨⇑0,λa1 af1=>?_⟩;have as1:=Same.new (o:=.tup [V.int 0,V.int 0,V.ref a0]) af1;have ae1:(upd A0 a1 (.tup [V.int 0,V.int 0,V.ref a0])) a1=some (.tup [V.int 0,V.int 0,V.ref a0]):=Zaa;have am1:a1≠l:=ab0.ne af1;have ab1:=ab0.same as1;clear af1;generalize upd A0 a1 (.tup [V.int 0,V.int 0,V.ref a0])=A1 at *;refine⟨⇑0,λa2 af2=>?_⟩;have as2:=Same.new (o:=.lst [V.ref a1]) af2;have ae2:(upd A1 a2 (.lst [V.ref a1])) a2=some (.lst [V.ref a1]):=Zaa;have am2:a2≠l:=ab1.ne af2;have ab2:=ab1.same as2;clear af2;generalize upd A1 a2 (.lst [V.ref a1])=A2 at *;have at2:=Same.refl A2;have at1:=as2.trans at2;have at0:=as1.trans at1;have att:=as0.trans at0;refine⟨_,att _ _ un2.1,_,ae2,Jbd (Zan (by rw[ulen];show ns.length+1<=1000;exact oz28 n8)),λc hc'=>?_⟩;have sc:=Same.new (o:=.lst (uts.map V.ref++[V.ref a1])) hc';have hcc:(upd A2 c (.lst (uts.map V.ref++[V.ref a1]))) c=some (.lst (uts.map V.ref++[V.ref a1])):=Zaa;have mc:=ab2.ne hc';have sA:=att.trans sc;generalize upd A2 c (.lst (uts.map V.ref++[V.ref a1]))=H3 at *;have hR:=Zbg hcc mc;refine q _ H3 ((e1.trans e2).trans sA.ext) (b2.same sA) (Zml hR (by rw[Jai,ulen];show ns.length+1<=1000;exact oz28 n8) λy hy=>?_) (Zs0 hR (by rw[Jai,ulen];show ¬ ns.length+1=ns.length;omega));rcases Ja1.mp hy with h|h
    .exact (went y h).same (Zav sA.ext)
    .rw [Jao.mp h];exact Zns (Zbg ((at1.trans sc) _ _ ae1) am1) (Zbg ((at0.trans sc) _ _ ae0) am0)
   subst hZ;refine Zb3 λZ hZ=>?_;walk_at "wp";have rlen:rs.length=n:=by have:=tb.tv.row.1;have:=tb.hl;omega
   refine⟨⇑0,λa0 af0=>?_⟩;have as0:=Same.new (o:=.tup [V.int (n+1),V.int n,V.ref r]) af0;have ae0:(upd H2 a0 (.tup [V.int (n+1),V.int n,V.ref r])) a0=some (.tup [V.int (n+1),V.int n,V.ref r]):=Zaa;have am0:a0≠l:=b2.ne af0;have ab0:=b2.same as0;clear af0;generalize upd H2 a0 (.tup [V.int (n+1),V.int n,V.ref r])=A0 at *;refine⟨⇑0,λa1 af1=>?_⟩;have as1:=Same.new (o:=.lst []) af1;have ae1:(upd A0 a1 (.lst [])) a1=some (.lst []):=Zaa;have am1:a1≠l:=ab0.ne af1;have ab1:=ab0.same as1;clear af1;generalize upd A0 a1 (.lst [])=A1 at *;refine⟨⇑0,λa2 af2=>?_⟩;have as2:=Same.new (o:=.lst [V.ref a1]) af2;have ae2:(upd A1 a2 (.lst [V.ref a1])) a2=some (.lst [V.ref a1]):=Zaa;have am2:a2≠l:=ab1.ne af2;have ab2:=ab1.same as2;clear af2;generalize upd A1 a2 (.lst [V.ref a1])=A2 at *;have at2:=Same.refl A2;have at1:=as2.trans at2;have at0:=as1.trans at1;have att:=as0.trans at0;refine⟨_,att _ _ tH.tv.lst,_,ae2,Jbd (Zan (by rw[Jab];show rs.length+1<=1000;exact oz133 nn rlen)),λc0 cf0=>?_⟩;have cs0:=Same.new (o:=.lst (rs.map V.ref++[V.ref a1])) cf0;have ce0:(upd A2 c0 (.lst (rs.map V.ref++[V.ref a1]))) c0=some (.lst (rs.map V.ref++[V.ref a1])):=Zaa;have cm0:c0≠l:=ab2.ne cf0;have cb0:=ab2.same cs0;clear cf0;generalize upd A2 c0 (.lst (rs.map V.ref++[V.ref a1]))=CC0 at *;have ct0:=Same.refl CC0;have ctt:=cs0.trans ct0;refine⟨⇑0,λd0 df0=>?_⟩;have ds0:=Same.new (o:=.tup [V.int n,V.int n,V.ref c0]) df0;have de0:(upd CC0 d0 (.tup [V.int n,V.int n,V.ref c0])) d0=some (.tup [V.int n,V.int n,V.ref c0]):=Zaa;have dm0:d0≠l:=cb0.ne df0;have db0:=cb0.same ds0;clear df0;generalize upd CC0 d0 (.tup [V.int n,V.int n,V.ref c0])=DD0 at *;refine⟨⇑0,λd1 df1=>?_⟩;have ds1:=Same.new (o:=.lst [V.int n,V.int n,V.ref r]) df1;have de1:(upd DD0 d1 (.lst [V.int n,V.int n,V.ref r])) d1=some (.lst [V.int n,V.int n,V.ref r]):=Zaa;have dm1:d1≠l:=db0.ne df1;have db1:=db0.same ds1;clear df1;generalize upd DD0 d1 (.lst [V.int n,V.int n,V.ref r])=DD1 at *;refine⟨⇑0,λd2 df2=>?_⟩;have ds2:=Same.new (o:=.lst [V.ref a0,V.ref d0,V.ref d1]) df2;have de2:(upd DD1 d2 (.lst [V.ref a0,V.ref d0,V.ref d1])) d2=some (.lst [V.ref a0,V.ref d0,V.ref d1]):=Zaa;have dm2:d2≠l:=db1.ne df2;have db2:=db1.same ds2;clear df2;generalize upd DD1 d2 (.lst [V.ref a0,V.ref d0,V.ref d1])=DD2 at *;have dt2:=Same.refl DD2;have dt1:=ds2.trans dt2;have dt0:=ds1.trans dt1;have dtt:=ds0.trans dt0;have up:=ds0.trans dt0;have u2:=(att.trans cs0).trans up;have uA:=cs0.trans up;subst hZ;walk_at "wp";refine⟨_,SqL.of (u2 _ _ un2.1),λp1 hp1=>?_⟩;rw[Zld _ (oz16 ul k1 ulen)];have sp:=Same.new (o:=.lst ((uts.map V.ref).take i)) hp1;have q3:(upd DD2 p1 (.lst ((uts.map V.ref).take i))) p1=some (.lst ((uts.map V.ref).take i)):=Zaa;have b3:=db2.same sp;generalize upd DD2 p1 (.lst ((uts.map V.ref).take i))=H3 at *;have wt:=went (.ref t) (Ja2.mpr ⟨t,Jac et,rfl⟩);have wrow:∀ z∈rs.map V.ref,WfR (rm l H2) z:=(wt.2 t _ rfl tR.tv.tup (.ref r) (by simp)).2 r _ rfl tR.tv.lst;have mr:r≠l:=λz=>by have:=tR.tv.lst;rw[z] at this;unfold rm at this;rw[if_pos rfl] at this;cases this
   have s23:=u2.trans sp;have rr:=Zav (D:=l) s23.ext;have gA:∀ {a:Addr} {o:HO},a≠l->A2 a=some o->rm l H3 a=some o:=λn h=>Zbg ((uA.trans sp) _ _ h) n;have gD:∀ {a:Addr} {o:HO},a≠l->DD2 a=some o->rm l H3 a=some o:=λn h=>Zbg (sp _ _ h) n;have hr3:rm l H3 r=some (.lst (rs.map V.ref)):=Zbg (s23 _ _ tH.tv.lst) mr;have hc3:rm l H3 c0=some (.lst (rs.map V.ref++[V.ref a1])):=Zbg ((up.trans sp) _ _ ce0) cm0;have ha1:=gA am1 (at1 _ _ ae1);obtain⟨v,hv,wv,bv⟩:∃ v,atI [V.ref a0,V.ref d0,V.ref d1] (wy-3)=some v/\WfT (rm l H3) v/\Zgj p (rm l H3) v=false:=by
    have h0:¬ wy=0:=λz=>hc (Jah z);have h1:¬ wy=1:=λz=>hc1 (Jah z);have h2:¬ wy=2:=λz=>hc2 (Jah z);by_cases h3:wy=3
    .have ha0:=gA am0 (at0 _ _ ae0);exact⟨_,by rw[h3];rfl,Zp0 ha0 hr3 (by rw[Jab];exact oz229 nn rlen) λz hz=>(wrow z hz).same rr,Zp7 ha0 hr3 (by rw[Jab,rlen];omega)⟩
    by_cases h4:wy=4
    .have hd0:=gD dm0 (dt0 _ _ de0);refine⟨_,by rw[h4];rfl,Zp0 hd0 hc3 (by rw[Jai,Jab];show rs.length+1<=1000;exact oz133 nn rlen) λz hz=>?_,Zp7 hd0 hc3 (by rw[Jai,Jab,rlen];show ((n+1:Nat):Int)≠n;omega)⟩;rcases Ja1.mp hz with h|h
     .exact (wrow z h).same rr
     .rw [Jao.mp h];exact⟨.lst ha1 ⇑0,λa xs e1 e2 y hy=>by cases e1;rw[ha1] at e2;cases e2;cases hy⟩
    .have h5:wy=5:=by exact oz38 w60 w6 h0 h1 h2 h3 h4
     have hd1:=gD dm1 (dt1 _ _ de1);exact⟨_,by rw[h5];rfl,Znt (.lst hd1 (show 3<=1000 by decide)) (Zfm hd1),by simp only[Zgj,hd1]⟩
   refine⟨_,SqL.of (sp _ _ de2),v,hv,?_⟩;refine Zvp q3 (s23 _ _ un2.1) (oz94 ul k1 ulen) (oz57 n8 ulen) λc H5 s5 fc hcc=>?_;have rr5:=Zav s5.ext (D:=l);exact put (s23.trans s5).ext (b3.same s5) (b3.ne fc) (wv.same rr5) (by rw[Zij wv rr5];exact bv) hcc
  refine Zb5 (λhw=>Zb5 (λhn=>?_) (λ_=>go)) (λ_=>go);have n1:0<n:=by have:=Jaz hn;omega
  refine⟨_,SqL.of un2.1,λp1 hp1=>?_⟩;rw[Zld _ (oz16 ul k1 ulen)];have s3:=Same.new (o:=.lst ((uts.map V.ref).take i)) hp1;have q3:(upd H2 p1 (.lst ((uts.map V.ref).take i))) p1=some (.lst ((uts.map V.ref).take i)):=Zaa;have m1:=b2.ne hp1;have b3:=b2.same s3;generalize upd H2 p1 (.lst ((uts.map V.ref).take i))=H3 at *;refine⟨_,SqL.of (s3 _ _ un2.1),_,atI_r et,l,p,n,t,r,rs,_,rfl,b3,X.hp,n1,∅,TabB.same tR (Zav s3.ext),λt' H4 e4 b4 wt bt=>?_⟩;have nul:u≠l:=λz=>by have:=X2.un.1;rw[z] at this;unfold rm at this;rw[if_pos rfl] at this;cases this
  have hu4:=e4 _ _ nul (s3 _ _ un2.1);refine Zvp (e4 _ _ m1 q3) hu4 (oz94 ul k1 ulen) (oz57 n8 ulen) λc H5 s5 fc hc=>?_;have rr:=Zav s5.ext (D:=l);exact put ((s3.ext.trans e4).trans s5.ext) (b4.same s5) (b4.ne fc) (wt.same rr) (by rw[Zij wt rr];exact bt) hc
theorem Zwb {H1:Hp}{a b:Addr}{xs ys:List V}{R:V->Hp->Prop}(ha:H1 a=some (.tup xs))(hb:H1 b=some (.tup ys))(nx:xs≠[])(ny:ys≠[])(hl:xs.length+ys.length<=sizeLine)(k:∀ c H',Same H1 H'->H1 c=none->H' c=some (.tup (xs++ys))->R (.ref c) H'):rCatT K (.ref a) (.ref b) H1 R:=
 ⟨a,b,xs,ys,rfl,rfl,SqT.of ha,SqT.of hb,nx,hl,λz=>absurd z ny,λ_ c hc=>k c _ (Same.new hc) hc Zaa⟩
theorem Ztl {H1:Hp}{a:Addr}{xs:List V}{lo hi:Option Int}{R:V->Hp->Prop}(ha:H1 a=some (.tup xs))(n:¬ (HT.sIx xs.length 0 lo=0/\HT.sIx xs.length xs.length hi=xs.length))(k:∀ c H',Same H1 H'->H1 c=none->H' c=some (.tup (Zle xs lo hi))->R (.ref c) H'):rSlT K (.ref a) lo hi H1 R:=
 ⟨a,xs,rfl,SqT.of ha,n,λc hc=>k c _ (Same.new hc) hc Zaa⟩
def spSpo (K:Frag)(S C G:Addr):L2.Sp:=λvs H Q _=>∃ (l:Addr) (p m:Int) (xs:List V) (ps:List (Int×Int)) (ns:List Int) (x dx g d z l' lp gd u y:Addr) (uts:List Addr),vs=[.ref l,.int p,.ref gd,.ref u,.ref y]/\Bag H l/\Ctx S C G (rm l H) p m xs ps ns x dx g d z l' lp gd u y uts/\∀ v H',Ext l H H'->Bag H' l->Bad K S C G x (rm l H') v->Q v H'
theorem ok_spo (F:Fun K "_law_spoilt" "_law_spoilt" Ze7 f fd)(T:Txt K mg C G S)(Yaa:Cal P w K mg base "_law_draw" 1 Zc0)(Yaw:Cal P w K mg base "_law_units_spoilt" 3 (spUsp S C G))(Yas:Cal P w K mg base "_law_odd_there" 3 (Zn1 S C G)):FnOk P w K mg base CX0 4 f fd ["_law_bag_here","_law_p","_law_good","_law_units","_law_other"] (spSpo K S C G):=by
 have nd:=Zgm.nd;refine F.ok Zgm (λvs H Q E h=>?_) (λcdv A outer s H vs Q E hr h=>?_)
 .refine Zpx h λl p m xs ps ns x dx g d z l' lp gd u y uts e91 _=>?_;clear h;obtain rfl:=e91;rfl
 .refine Zpw h λl p m xs ps ns x dx g d z l' lp gd u y uts e92 hb X q=>?_;clear h;obtain rfl:=e92;refine⟨_,((5|||nd|||(Yaa<$>hr<$>((pvr 0)<&>(Zac<&>Zab))))<*>((@Zay _ _ _ _ _ _ _ _ (Zak (Ze2 Zby) (pvr 5) Zac (Zah _)) (~~~(Zhn Zbk rfl T.n_list Jcg ((pvr 2)<&>Zab))) Zaj)<*>((@Zay _ _ _ _ _ _ _ _ (Zak (Ze2 Zby) (pvr 5) Zac (Zah _)) (~~~(@Zbt _ _ _ _ _ _ _ _ _ _ Zip (pvr 2) Zcn (@Zb7 _ _ _ (Zjv Zfu Zac)))) Zaj)<*>((@Zay _ _ _ _ _ _ _ _ (Zak (Ze2 Zby) (pvr 5) Zac (Zah _)) (~~~(Zgf<|>(pvr 2)<&&>(@Zam _ _ _ _ _ (Zfy<&>Zab)))) Zaj)<*>((@Zay _ _ _ _ _ _ _ _ (Zak (Ze2 Zby) (pvr 5) Zac (Zah _)) (~~~(Zgf<|>(@Zam _ _ _ _ _ ((Za7<|>(@Zar _ _ _ _ (Zbh<&>(Zbh<&>(Zbh<&>(Zfy<&>(Zac<&>(Zbh<&>((@Zam _ _ _ _ _ (Zbh<&>Zab))<&>Zab))))))))<||>(Yaa<$>hr<$>((pvr 0)<&>(Zac<&>Zab))))<&>Zab))<&&>(@Zbt _ _ _ _ _ _ _ _ _ _ Zip (pvr 2) (@Zb7 _ _ _ Zac) Zcn))) Zaj)<*>((@Zay _ _ _ _ _ _ _ _ (Zak (Ze2 Zby) (pvr 5) Zac (Zah _)) (~~~(Za7<|>(@Zar _ _ _ _ (Zfy<&>(Zbh<&>(Zac<&>(Zbm<&>((@Zam _ _ _ _ _ Zab)<&>((@Zar _ _ _ _ Zab)<&>((@Zam _ _ _ _ _ (Zbh<&>Zab))<&>((@Zam _ _ _ _ _ (Zbh<&>Zab))<&>((@Zam _ _ _ _ _ (Zbh<&>(((Zho Za2)<|>(pvr 2)<||>Zac)<&>Zab)))<&>Zab))))))))))<||>(Yaa<$>hr<$>((pvr 0)<&>(Zac<&>Zab))))) Zaj)<*>((@Zay _ _ _ _ _ _ _ _ (Zak (Ze2 Zby) (pvr 5) Zac (Zah _)) (~~~(Zgf<|>(@Zam _ _ _ _ _ (((Zho Za2)<|>(pvr 2)<||>Zac)<&>((pvr 4)<&>Zab)))<&&>(@Zbt _ _ _ _ _ _ _ _ _ _ Zip (pvr 2) (@Zb7 _ _ _ Zac) Zcn))) Zaj)<*>((@Zay _ _ _ _ _ _ _ _ (Zak (Ze2 Zby) (pvr 5) Zac (Zah _)) (~~~(Zgf<|>(@Zbt _ _ _ _ _ _ _ _ _ _ Zip (pvr 2) Zcn (@Zb7 _ _ _ Zac))<&&>(@Zam _ _ _ _ _ ((Yaw<$>hr<$>((pvr 0)<&>((pvr 1)<&>((pvr 3)<&>Zab))))<&>((pvr 3)<&>Zab))))) Zaj)<*>((@Zay _ _ _ _ _ _ _ _ (Zak (Ze2 Zby) (pvr 5) Zac (Zah _)) (~~~(Zgf<|>(@Zbt _ _ _ _ _ _ _ _ _ _ Zip (pvr 2) Zcn (@Zb7 _ _ _ Zac))<&&>(@Zam _ _ _ _ _ ((pvr 3)<&>((Yaw<$>hr<$>((pvr 0)<&>((pvr 1)<&>((pvr 3)<&>Zab))))<&>Zab))))) Zaj)<*>((6|||nd|||(Zc3<|>Zac<&&>(Yaa<$>hr<$>((pvr 0)<&>(Zac<&>Zab)))))<*>(~~~(Zgf<|>(Zgf<|>(@Zbt _ _ _ _ _ _ _ _ _ _ Zip (pvr 2) Zcn (@Zb7 _ _ _ (pvr 6)))<&&>(@Zam _ _ _ _ _ ((Yas<$>hr<$>((pvr 0)<&>((pvr 6)<&>((pvr 3)<&>Zab))))<&>Zab)))<&&>(@Zbt _ _ _ _ _ _ _ _ _ _ Zip (pvr 2) (@Zb7 _ _ _ ((Zkj Zc3)<|>(pvr 6)<&&>Zac)) Zcn))))))))))))),?_⟩;refine Zb3 λZ hZ=>?_;walk_at "wp";refine hb.draw ⇑0 ⇑0 λway H1 w0 w8 e1 b1=>?_;have X1:=X.same (Zav e1);have g1:=Zbl l H1 _ _ X1.gd;have q1:∀ v H',Ext l H1 H'->Bag H' l->Bad K S C G x (rm l H') v->Q v H':=λv H' e=>q v H' (e1.trans e);clear q e1 X hb;subst hZ;refine Zb3 λZ hZ=>?_;walk_at "wp";have wun:=λ{R:Hp} (X':Ctx S C G R p m xs ps ns x dx g d z l' lp gd u y uts)=>X'.un.wf ⇑0 (λn h=>⟨(X'.n2 n h).1,Jej (X'.n2 n h).2 ⇑0⟩) X'.st.szs.2.1;refine Zb5 (λhc=>?_) (λhc0=>?_)
  .refine ⟨_,.inr (SqT.of g1),λc hc'=>?_⟩;have hR:rm l (upd H1 c (.lst [V.str "change",V.ref x,V.ref u,V.ref u])) c=some (.lst [V.str "change",V.ref x,V.ref u,V.ref u]):=Zbg Zaa (b1.ne hc');exact q1 _ _ (Same.new hc').ext (b1.same (Same.new hc')) (Zko (.lst hR (show 4<=1000 by decide)) (Zfm hR))
  subst hZ;refine Zb3 λZ hZ=>?_;walk_at "wp";refine Zb5 (λhc=>?_) (λhc1=>?_)
  .refine Zaq gd _ ⟨rfl,SqT.of g1,(show ¬ (HT.sIx 4 0 none=0/\HT.sIx 4 4 (some (-1))=4) by decide),λc hc'=>?_⟩;have hR:rm l (upd H1 c (.tup [V.str "change",V.ref x,V.ref u])) c=some (.tup [V.str "change",V.ref x,V.ref u]):=Zbg Zaa (b1.ne hc');exact q1 _ _ (Same.new hc').ext (b1.same (Same.new hc')) (Zdi 2 rfl hR (.str _) ⇑0)
  subst hZ;refine Zb3 λZ hZ=>?_;walk_at "wp";refine Zb5 (λhc=>?_) (λhc2=>?_)
  .refine ⟨⇑0,λp1 hp1=>⟨gd,p1,_,_,rfl,rfl,SqT.of ((Same.new hp1) _ _ g1),SqT.of Zaa,Ja0 _ _,(show 5<=sizeLine by decide),λz=>absurd z (Ja0 _ _),λ_ c hc'=>?_⟩⟩;have s2:=(Same.new (o:=.tup [V.non]) hp1).trans (Same.new (o:=.tup [V.str "change",V.ref x,V.ref u,V.ref u,V.non]) hc');have hR:rm l (upd (upd H1 p1 (.tup [V.non])) c (.tup [V.str "change",V.ref x,V.ref u,V.ref u,V.non])) c=some (.tup [V.str "change",V.ref x,V.ref u,V.ref u,V.non]):=Zbg Zaa (b1.ne ((Same.new hp1).free hc'));exact q1 _ _ s2.ext (b1.same s2) (Zdi 4 rfl hR (.str _) ⇑0)
  subst hZ;refine Zb3 λZ hZ=>?_;walk_at "wp";refine Zb5 (λhc=>?_) (λhc3=>?_)
  .refine ⟨⇑0,λa0 af0=>?_⟩;have as0:=Same.new (o:=.tup [V.str "change"]) af0;have ae0:(upd H1 a0 (.tup [V.str "change"])) a0=some (.tup [V.str "change"]):=Zaa;have am0:a0≠l:=b1.ne af0;have ab0:=b1.same as0;clear af0;generalize upd H1 a0 (.tup [V.str "change"])=A0 at *;refine⟨⇑0,λa1 af1=>?_⟩;have as1:=Same.new (o:=.lst [V.str "",V.str "Change",V.str "fixed ",V.non,V.int 1,V.str "parts",V.ref a0]) af1;have ae1:(upd A0 a1 (.lst [V.str "",V.str "Change",V.str "fixed ",V.non,V.int 1,V.str "parts",V.ref a0])) a1=some (.lst [V.str "",V.str "Change",V.str "fixed ",V.non,V.int 1,V.str "parts",V.ref a0]):=Zaa;have am1:a1≠l:=ab0.ne af1;have ab1:=ab0.same as1;clear af1;generalize upd A0 a1 (.lst [V.str "",V.str "Change",V.str "fixed ",V.non,V.int 1,V.str "parts",V.ref a0])=A1 at *;have at1:=Same.refl A1;have at0:=as1.trans at1;have att:=as0.trans at0;refine ab1.draw (n:=7) ⇑0 ⇑0 λr H2 r0 r1 e2 b2=>⟨_,_,rfl,SqL.of (e2 _ _ am1 ae1),?_⟩
   have e12:=att.ext.trans e2;have g2:=Zbl l H2 _ _ (X1.same (Zav e12)).gd;obtain⟨x0,i,hx0,kx,bx⟩:∃ (x0:V) (i:Nat),atI [V.str "",V.str "Change",V.str "fixed ",V.non,V.int 1,V.str "parts",V.ref a0] r=some x0/\Kd K (rm l H2) x0 i/\(decide (3<=100) && !(eqS x0 "change" && decide (3=3)) && !(eqS x0 "apart" && decide (3=3)) && !(eqS x0 "unlike" && decide (3=2)) && !(eqS x0 "fixed" && decide (3=0)))=true:=by
    obtain⟨n,rfl⟩:=Ja9 r0;have hn:n<7:=∅
    match n,hn with
    | 0,_=>exact⟨_,_,rfl,.str _,⇑0⟩
    | 1,_=>exact⟨_,_,rfl,.str _,⇑0⟩
    | 2,_=>exact⟨_,_,rfl,.str _,⇑0⟩
    | 3,_=>exact⟨_,_,rfl,.non,⇑0⟩
    | 4,_=>exact⟨_,_,rfl,.int _,⇑0⟩
    | 5,_=>exact⟨_,_,rfl,.str _,⇑0⟩
    | 6,_=>exact⟨_,_,rfl,.tup (SqT.of (Zbg (e2 _ _ am0 (at0 _ _ ae0)) am0)),rfl⟩
    | n+7,hn=>exact absurd hn ∅
   refine⟨x0,hx0,⇑0,λp1 hp1=>⟨gd,_,rfl,SqT.of ((Same.new hp1) _ _ g2),(show ¬ (HT.sIx 4 0 (some 1)=0/\HT.sIx 4 4 none=4) by decide),λp2 hp2=>⟨p1,p2,_,_,rfl,rfl,SqT.of ((Same.new hp2) _ _ Zaa),SqT.of Zaa,Ja0 _ _,(show 4<=sizeLine by decide),λz=>absurd z (Ja0 _ _),λ_ c hc'=>?_⟩⟩⟩;have s3:=(Same.new (o:=.tup [x0]) hp1).trans (Same.new (o:=.tup [V.ref x,V.ref u,V.ref u]) hp2);have s4:=s3.trans (Same.new (o:=.tup [x0,V.ref x,V.ref u,V.ref u]) hc');have fc:=s3.free hc';have hcc:(upd (upd (upd H2 p1 (.tup [x0])) p2 (.tup [V.ref x,V.ref u,V.ref u])) c (.tup [x0,V.ref x,V.ref u,V.ref u])) c=some (.tup [x0,V.ref x,V.ref u,V.ref u]):=Zaa;show Q _ (upd (upd (upd H2 p1 (.tup [x0])) p2 (.tup [V.ref x,V.ref u,V.ref u])) c (.tup [x0,V.ref x,V.ref u,V.ref u]));generalize upd (upd (upd H2 p1 (.tup [x0])) p2 (.tup [V.ref x,V.ref u,V.ref u])) c (.tup [x0,V.ref x,V.ref u,V.ref u])=H3 at *;exact q1 _ _ (e12.trans s4.ext) (b2.same s4) (Zdi 3 rfl (Zbg hcc (b2.ne fc)) (Znc kx (Zav s4.ext)) bx)
  subst hZ;refine Zb3 λZ hZ=>?_;walk_at "wp";refine Zb5 (λhc=>?_) (λhc4=>?_)
  .refine ⟨⇑0,λa0 af0=>?_⟩;have as0:=Same.new (o:=.tup []) af0;have ae0:(upd H1 a0 (.tup [])) a0=some (.tup []):=Zaa;have am0:a0≠l:=b1.ne af0;have ab0:=b1.same as0;clear af0;generalize upd H1 a0 (.tup [])=A0 at *;refine⟨⇑0,λa1 af1=>?_⟩;have as1:=Same.new (o:=.lst []) af1;have ae1:(upd A0 a1 (.lst [])) a1=some (.lst []):=Zaa;have am1:a1≠l:=ab0.ne af1;have ab1:=ab0.same as1;clear af1;generalize upd A0 a1 (.lst [])=A1 at *;refine⟨⇑0,λa2 af2=>?_⟩;have as2:=Same.new (o:=.tup [V.str "apart"]) af2;have ae2:(upd A1 a2 (.tup [V.str "apart"])) a2=some (.tup [V.str "apart"]):=Zaa;have am2:a2≠l:=ab1.ne af2;have ab2:=ab1.same as2;clear af2;generalize upd A1 a2 (.tup [V.str "apart"])=A2 at *;refine⟨⇑0,λa3 af3=>?_⟩;have as3:=Same.new (o:=.tup [V.str "unlike"]) af3;have ae3:(upd A2 a3 (.tup [V.str "unlike"])) a3=some (.tup [V.str "unlike"]):=Zaa;have am3:a3≠l:=ab2.ne af3;have ab3:=ab2.same as3;clear af3;generalize upd A2 a3 (.tup [V.str "unlike"])=A3 at *;have at3:=Same.refl A3;have at2:=as3.trans at3;have at1:=as2.trans at2;have at0:=as1.trans at1;have att:=as0.trans at0;refine⟨_,SqT.of (att _ _ g1),_,rfl,?_⟩;refine⟨⇑0,λc0 cf0=>?_⟩;have cs0:=Same.new (o:=.tup [V.str "change",V.ref x]) cf0;have ce0:(upd A3 c0 (.tup [V.str "change",V.ref x])) c0=some (.tup [V.str "change",V.ref x]):=Zaa;have cm0:c0≠l:=ab3.ne cf0;have cb0:=ab3.same cs0;clear cf0;generalize upd A3 c0 (.tup [V.str "change",V.ref x])=CC0 at *;refine⟨⇑0,λc1 cf1=>?_⟩;have cs1:=Same.new (o:=.lst [V.non,V.str "change",V.int 0,V.bl true,V.ref a0,V.ref a1,V.ref a2,V.ref a3,V.ref c0]) cf1;have ce1:(upd CC0 c1 (.lst [V.non,V.str "change",V.int 0,V.bl true,V.ref a0,V.ref a1,V.ref a2,V.ref a3,V.ref c0])) c1=some (.lst [V.non,V.str "change",V.int 0,V.bl true,V.ref a0,V.ref a1,V.ref a2,V.ref a3,V.ref c0]):=Zaa;have cm1:c1≠l:=cb0.ne cf1;have cb1:=cb0.same cs1;clear cf1;generalize upd CC0 c1 (.lst [V.non,V.str "change",V.int 0,V.bl true,V.ref a0,V.ref a1,V.ref a2,V.ref a3,V.ref c0])=CC1 at *;have ct1:=Same.refl CC1;have ct0:=cs1.trans ct1;have ctt:=cs0.trans ct0;have t8:=att.trans ctt;refine cb1.draw (n:=9) ⇑0 ⇑0 λr H2 r0 r1 e2 b2=>⟨_,_,rfl,SqL.of (e2 _ _ cm1 ce1),?_⟩
   have e12:=t8.ext.trans e2;have gA:∀ {a:Addr} {o:HO},a≠l->A3 a=some o->rm l H2 a=some o:=λn h=>Zbg (e2 _ _ n (ctt _ _ h)) n;have gC:∀ {a:Addr} {o:HO},a≠l->CC1 a=some o->rm l H2 a=some o:=λn h=>Zbg (e2 _ _ n h) n;obtain⟨n,rfl⟩:=Ja9 r0;have hn:n<9:=∅
   match n,hn with
   | 0,_=>exact⟨_,rfl,q1 _ _ e12 b2 (Zko (.inl rfl) rfl)⟩
   | 1,_=>exact⟨_,rfl,q1 _ _ e12 b2 (Zko .str rfl)⟩
   | 2,_=>exact⟨_,rfl,q1 _ _ e12 b2 (Zko .int rfl)⟩
   | 3,_=>exact⟨_,rfl,q1 _ _ e12 b2 (Zko .bl rfl)⟩
   | 4,_=>exact⟨_,rfl,q1 _ _ e12 b2 (bad_nil (gA am0 (at0 _ _ ae0)))⟩
   | 5,_=>exact⟨_,rfl,q1 _ _ e12 b2 (Zko (.lst (gA am1 (at1 _ _ ae1)) ⇑0) (Zfm (gA am1 (at1 _ _ ae1))))⟩
   | 6,_=>exact⟨_,rfl,q1 _ _ e12 b2 (Zdi 0 rfl (gA am2 (at2 _ _ ae2)) (.str _) ⇑0)⟩
   | 7,_=>exact⟨_,rfl,q1 _ _ e12 b2 (Zdi 0 rfl (gA am3 (at3 _ _ ae3)) (.str _) ⇑0)⟩
   | 8,_=>exact⟨_,rfl,q1 _ _ e12 b2 (Zdi 1 rfl (gC cm0 (ct0 _ _ ce0)) (.str _) ⇑0)⟩
   | n+9,hn=>exact absurd hn ∅
  subst hZ;refine Zb3 λZ hZ=>?_;walk_at "wp";refine Zb5 (λhc=>?_) (λhc5=>?_)
  .refine ⟨_,SqT.of g1,_,rfl,⇑0,λp1 hp1=>?_⟩;have s1:=Same.new (o:=.tup [V.str "change",V.ref y]) hp1;refine Ztl (s1 _ _ g1) (show ¬ (HT.sIx 4 0 (some 2)=0/\HT.sIx 4 4 none=4) by decide) λp2 H2 s2 f2 h2=>?_;have h2:H2 p2=some (.tup [V.ref u,V.ref u]):=h2;refine Zwb (s2 _ _ Zaa) h2 (Ja0 _ _) (Ja0 _ _) (show 4<=sizeLine by decide) λc H3 s3 f3 h3=>?_;have t3:=s1.trans (s2.trans s3);have X3:=X1.same (Zav (D:=l) t3.ext);exact q1 _ _ t3.ext (b1.same t3) (Zmh X3 (Zbg h3 (b1.ne ((s1.trans s2).free f3))) X3.ot)
  subst hZ;refine Zb3 λZ hZ=>?_;walk_at "wp";refine Zb5 (λhc=>?_) (λhc6=>?_)
  .refine Ztl g1 (show ¬ (HT.sIx 4 0 none=0/\HT.sIx 4 4 (some 2)=4) by decide) λp1 H2 s2 f2 h2=>?_;have h2:H2 p1=some (.tup [V.str "change",V.ref x]):=h2;have m2:=b1.ne f2;refine Zps l p m xs ps ns x dx g d z l' lp gd u y uts ⟨rfl,b1.same s2,X1.same (Zav s2.ext),λv H3 e3 b3 wv bv=>⟨⇑0,λp2 hp2=>?_⟩⟩;have s4:=Same.new (o:=.tup [v,V.ref u]) hp2;refine Zwb (s4 _ _ (e3 _ _ m2 h2)) Zaa (Ja0 _ _) (Ja0 _ _) (show 4<=sizeLine by decide) λc H5 s5 f5 h5=>?_;have t5:=s4.trans s5;have e15:=(s2.ext.trans e3).trans t5.ext;have X5:=X1.same (Zav e15);have r5:=Zav (D:=l) t5.ext;have bv5:acB p ns (rm l H5) v=false:=by rw[Zcw wv r5];exact bv
   exact q1 _ _ e15 (b3.same t5) (Zg8 X5 (Zbg h5 (b3.ne (s4.free f5))) (wv.same r5) (wun X5).1 (by rw[bv5];exact Jbe _))
  subst hZ;refine Zb3 λZ hZ=>?_;walk_at "wp";refine Zb5 (λhc=>?_) (λhc7=>?_)
  .refine Ztl g1 (show ¬ (HT.sIx 4 0 none=0/\HT.sIx 4 4 (some 2)=4) by decide) λp1 H2 s2 f2 h2=>?_;have h2:H2 p1=some (.tup [V.str "change",V.ref x]):=h2;have m2:=b1.ne f2;refine Zps l p m xs ps ns x dx g d z l' lp gd u y uts ⟨rfl,b1.same s2,X1.same (Zav s2.ext),λv H3 e3 b3 wv bv=>⟨⇑0,λp2 hp2=>?_⟩⟩;have s4:=Same.new (o:=.tup [V.ref u,v]) hp2;refine Zwb (s4 _ _ (e3 _ _ m2 h2)) Zaa (Ja0 _ _) (Ja0 _ _) (show 4<=sizeLine by decide) λc H5 s5 f5 h5=>?_;have t5:=s4.trans s5;have e15:=(s2.ext.trans e3).trans t5.ext;have X5:=X1.same (Zav e15);have r5:=Zav (D:=l) t5.ext;have bv5:acB p ns (rm l H5) v=false:=by rw[Zcw wv r5];exact bv
   exact q1 _ _ e15 (b3.same t5) (Zg8 X5 (Zbg h5 (b3.ne (s4.free f5))) (wun X5).1 (wv.same r5) (by rw[bv5];exact Jdq _))
  subst hZ;refine Zb3 λZ hZ=>?_;walk_at "wp";refine b1.draw (n:=3) ⇑0 ⇑0 λr H2 r0 r1 e2 b2=>⟨_,rfl,?_⟩
  have X2:=X1.same (Zav e2);have g2:=Zbl l H2 _ _ X2.gd;subst hZ;walk_at "wp";rcases (show r=0\/r=1\/r=2 by exact oz164 r0 r1) with rfl|rfl|rfl
  .refine Ztl g2 (show ¬ (HT.sIx 4 0 none=0/\HT.sIx 4 4 (some (1+0))=4) by decide) λp1 H3 s3 f3 h3=>?_;have h3:H3 p1=some (.tup [V.str "change"]):=h3;have m3:=b2.ne f3;refine Zno l (1+0) p m xs ps ns x dx g d z l' lp gd u y uts ⟨rfl,b2.same s3,X2.same (Zav s3.ext),λv H4 e4 b4 ov hv=>⟨⇑0,λp2 hp2=>?_⟩⟩;have s5:=Same.new (o:=.tup [v]) hp2;refine Zwb (s5 _ _ (e4 _ _ m3 h3)) Zaa (Ja0 _ _) (Ja0 _ _) (show 2<=sizeLine by decide) λc1 H6 s6 f6 h6=>?_;have t6:=s5.trans s6;have e16:=(e2.trans s3.ext).trans (e4.trans t6.ext);have X6:=X1.same (Zav e16);have mc1:=b4.ne (s5.free f6);refine Ztl (Zbl l H6 _ _ X6.gd) (show ¬ (HT.sIx 4 0 (some (1+0+1))=0/\HT.sIx 4 4 none=4) by decide) λp3 H7 s7 f7 h7=>?_;have h7:H7 p3=some (.tup [V.ref u,V.ref u]):=h7;refine Zwb (s7 _ _ h6) h7 (Ja0 _ _) (Ja0 _ _) (show 4<=sizeLine by decide) λc H8 s8 f8 h8=>?_;have t8:=t6.trans (s7.trans s8);have e18:=(e2.trans s3.ext).trans (e4.trans t8.ext);have X8:=X1.same (Zav e18);have r8:=Zav (D:=l) t8.ext;have hR:=Zbg h8 (b4.ne ((t6.trans s7).free f8));exact q1 _ _ e18 (b4.same t8) (Zmh X8 hR (.inl (ov.same r8).kn))
  .refine Ztl g2 (show ¬ (HT.sIx 4 0 none=0/\HT.sIx 4 4 (some (1+1))=4) by decide) λp1 H3 s3 f3 h3=>?_;have h3:H3 p1=some (.tup [V.str "change",V.ref x]):=h3;have m3:=b2.ne f3;refine Zno l (1+1) p m xs ps ns x dx g d z l' lp gd u y uts ⟨rfl,b2.same s3,X2.same (Zav s3.ext),λv H4 e4 b4 ov hv=>⟨⇑0,λp2 hp2=>?_⟩⟩;have s5:=Same.new (o:=.tup [v]) hp2;refine Zwb (s5 _ _ (e4 _ _ m3 h3)) Zaa (Ja0 _ _) (Ja0 _ _) (show 3<=sizeLine by decide) λc1 H6 s6 f6 h6=>?_;have t6:=s5.trans s6;have e16:=(e2.trans s3.ext).trans (e4.trans t6.ext);have X6:=X1.same (Zav e16);have mc1:=b4.ne (s5.free f6);refine Ztl (Zbl l H6 _ _ X6.gd) (show ¬ (HT.sIx 4 0 (some (1+1+1))=0/\HT.sIx 4 4 none=4) by decide) λp3 H7 s7 f7 h7=>?_;have h7:H7 p3=some (.tup [V.ref u]):=h7;refine Zwb (s7 _ _ h6) h7 (Ja0 _ _) (Ja0 _ _) (show 4<=sizeLine by decide) λc H8 s8 f8 h8=>?_;have t8:=t6.trans (s7.trans s8);have e18:=(e2.trans s3.ext).trans (e4.trans t8.ext);have X8:=X1.same (Zav e18);have r8:=Zav (D:=l) t8.ext;have hR:=Zbg h8 (b4.ne ((t6.trans s7).free f8));have bv:acB p ns (rm l H8) v=false:=by rw[Zcw ov.wf r8];exact (hv ⇑0).2
   exact q1 _ _ e18 (b4.same t8) (Zg8 X8 hR (ov.wf.same r8) (wun X8).1 (by rw[bv];exact Jbe _))
  .refine Ztl g2 (show ¬ (HT.sIx 4 0 none=0/\HT.sIx 4 4 (some (1+2))=4) by decide) λp1 H3 s3 f3 h3=>?_;have h3:H3 p1=some (.tup [V.str "change",V.ref x,V.ref u]):=h3;have m3:=b2.ne f3;refine Zno l (1+2) p m xs ps ns x dx g d z l' lp gd u y uts ⟨rfl,b2.same s3,X2.same (Zav s3.ext),λv H4 e4 b4 ov hv=>⟨⇑0,λp2 hp2=>?_⟩⟩;have s5:=Same.new (o:=.tup [v]) hp2;refine Zwb (s5 _ _ (e4 _ _ m3 h3)) Zaa (Ja0 _ _) (Ja0 _ _) (show 4<=sizeLine by decide) λc1 H6 s6 f6 h6=>?_;have t6:=s5.trans s6;have e16:=(e2.trans s3.ext).trans (e4.trans t6.ext);have X6:=X1.same (Zav e16);have mc1:=b4.ne (s5.free f6);refine Ztl (Zbl l H6 _ _ X6.gd) (show ¬ (HT.sIx 4 0 (some (1+2+1))=0/\HT.sIx 4 4 none=4) by decide) λp3 H7 s7 f7 h7=>?_;have h7:H7 p3=some (.tup []):=h7;refine Zkq c1 p3 _ [] ⟨rfl,rfl,SqT.of (s7 _ _ h6),SqT.of h7,Ja0 _ _,(show 4<=sizeLine by decide),λ_=>?_,λz=>absurd rfl z⟩;have t8:=t6.trans s7;have e18:=(e2.trans s3.ext).trans (e4.trans t8.ext);have X8:=X1.same (Zav e18);have r8:=Zav (D:=l) t8.ext;have hR:=Zbg (s7 _ _ h6) mc1;have bv:acB p ns (rm l H7) v=false:=by rw[Zcw ov.wf r8];exact (hv ⇑0).2
   exact q1 _ _ e18 (b4.same t8) (Zg8 X8 hR (wun X8).1 (ov.wf.same r8) (by rw[bv];exact Jdq _))
theorem Zu6 (ns:List Int)(lo hi:Option Int):∃ ms:List Int,Zle (ns.map V.int) lo hi=ms.map V.int/\ms.length<=ns.length:=by
 refine⟨(ns.drop (HT.sIx (ns.map V.int).length 0 lo)).take (HT.sIx (ns.map V.int).length (ns.map V.int).length hi-HT.sIx (ns.map V.int).length 0 lo),?_,?_⟩
 .unfold Zle;rw[List.map_take,List.map_drop]
 .rw [Jb7,Jbz];exact oz32
theorem Zjd {p:Int}(hp:GroundP p){n wd:Nat}{M:Mv}(mM:Mat p n wd M):Zdv p M (Zei wd) wd=M:=by
 obtain⟨F,_,hF⟩:=Zpk hp;have mU:=Zff hp wd;refine Zv3 hF (Zod hp mM mU) mM λi j hi hj=>?_;rw[Zqu hp hF mM mU hi hj,Za8 (g:=λl=>vN (M.getD i []) l*(if l=j then (1:F) else 0)) λl hl=>by rw[Zp2 hl hj],sm_delr _ hj]
theorem Zm0 {p:Int}(hp:GroundP p){n wd:Nat}{M:Mv}(mM:Mat p n wd M):Zdv p (Zei n) M wd=M:=by
 obtain⟨F,_,hF⟩:=Zpk hp;have mU:=Zff hp n;refine Zv3 hF (Zod hp mU mM) mM λi j hi hj=>?_;rw[Zqu hp hF mU mM hi hj,Za8 (g:=λl=>vN (M.getD l []) j*(if i=l then (1:F) else 0)) λl hl=>by rw[Zp2 hi hl];grind,Zn6 _ hi]
theorem Zp1 {ns:List Int}{i:Nat}{n:Int}(h:ns[i]?=some n):(Zs9 ns).getD i []=Zei n.toNat:=by
 rw[Jae,Jad,h];rfl
theorem Zur {H0 H:Hp}{p:Int}{k:Nat}{l:Addr}{ts:List Addr}{ns:List Int}{ps:List (Int×Int)}{Ms:List Mv}(hp:GroundP p)(ip:InP (ns.length:Int) ps)(g:GL H0 H p k l ts (tds ns ps) Ms):Zvc p ns ps Ms (Zs9 ns) (Zs9 ns) Ms:=by
 refine⟨λi n h=>?_,λi hi=>?_⟩
 .rw [Zp1 h];exact Zjd hp (Zff hp _)
 .have eq:ps[i]?=some ps[i]:=Jaa hi;have hl:=g.len;rw[Jab] at hl;obtain⟨r,rs,tb,_⟩:=g.tab i _ _ (Jaa (show i<ts.length by exact oz7 hi hl)) (by rw[Jad,eq];rfl);refine Zck (ip _ (Jat hi)) λa0 a1 b0 b1=>?_;have u1:∀ q:Int,0<=q->q<ns.length->(Zs9 ns).getD q.toNat []=Zei (nz ns q):=λq q0 q1=>by
   have hq:q.toNat<ns.length:=by exact oz63 q0 q1
   rw[Zp1 (Jaa hq)];unfold nz;rw[Jae,Jaa hq];rfl
  unfold chM;rw[Zec hi,u1 _ a0 a1,u1 _ b0 b1,Zjd hp tb.mat];exact Zm0 hp tb.mat
theorem stb_rm {H0 H:Hp}{l:Addr}{p m:Int}{ps:List (Int×Int)}{ns:List Int}{k:Nat}{Ms:List Mv}{x dx g d z l' lp:Addr}{xs:List V}{ts:List Addr}(b0:Bag H0 l)(b:Bag H l)(sb:StB H0 S C G H x p m ps ns k Ms dx g d z l' lp xs ts)(nl:lp≠l):StB H0 S C G (rm l H) x p m ps ns k Ms dx g d z l' lp xs ts:=by
 have b':=b;refine Zbs b' λxa xb hl _=>?_;clear b';have at':∀ {a:Addr} {o:HO},H a=some o->(∀ xs,o≠.lst xs)->rm l H a=some o:=λh k=>Zbg h λz=>by rw[z,hl] at h;cases h;exact k _ rfl
 obtain⟨dg,hg⟩:=sb.sa.grd;refine Zae sb.sa.drw λdd hd hlp=>?_;exact⟨⟨at' sb.sa.ins (by intro _ z;cases z),⟨dg,at' hg (by intro _ z;cases z)⟩,⟨dd,at' hd (by intro _ z;cases z),Zbg hlp nl⟩,⟨Zbg sb.sa.szs.1 (b0.ne sb.nz),sb.sa.szs.2⟩,sb.sa.hm⟩,sb.prs.bag b Zsa,Zbg sb.lst (b0.ne sb.nl),sb.len,λi t q e1 e2=>let ⟨r,rs,tb,nw⟩:=sb.tbs i t q e1 e2;⟨r,rs,tb.ext b0 nw b Zsa,nw⟩,sb.nz,sb.nl⟩
theorem tyL {H:Hp}{p:Addr}{xs:List V}(h:H p=some (.lst xs)):tyV K "list" (.ref p) H:=.inl ⟨rfl,_,SqL.of h⟩
theorem Zkx {m:Nat}{v:V}:(List.replicate m [v]).flatten=List.replicate m v:=by
 induction m with
 | zero=>rfl
 | succ n ih=>rw[Jb3,Jcu,ih];rfl
theorem Zso {H:Hp}{p:Int}{m:Nat}{c t r:Addr}(hc:H c=some (.lst (List.replicate m (V.ref t))))(ht:H t=some (.tup [.int 0,.int 0,.ref r]))(hr:H r=some (.lst [])):ChL H p 7 c (List.replicate m t) (zs m) []:=⟨by rw[Jei];exact hc,by rw[Jav,Jav],λi t' n e1 e2=>by
 obtain rfl:=(Jb1.mp (Jac e1)).2;obtain rfl:=(Jb1.mp (Jac e2)).2;exact⟨r,[],⟨ht,hr,All2.nil,by simp⟩,rfl,(λxs h=>by cases h),(λxs h=>by cases h)⟩⟩
theorem Zuq {p:Int}{m:Nat}:Zvc p (zs m) [] [] [] [] []:=⟨λi n e=>by
 obtain rfl:=(Jb1.mp (Jac e)).2;rfl,λi h=>absurd h (Jd5 i)⟩
theorem Zrk {R:Hp}{v:V}(h:Odd R v)(n:NotNil R v):(Kn R v/\Zjs R v=false)\/∃ (pl:Addr) (us:List V),v=.ref pl/\R pl=some (.lst us)/\0<us.length/\us.length<=1000/\∀ u∈us,Kn R u:=by
 have hk:=h.kn;have one:∀ {a:Addr} {w:V},R a=some (.lst [w])->Kn R w->∃ (pl:Addr) (us:List V),V.ref a=.ref pl/\R pl=some (.lst us)/\0<us.length/\us.length<=1000/\∀ u∈us,Kn R u:=λ{a w} ha hw=>⟨a,[w],rfl,ha,Nat.one_pos,(show 1<=1000 by decide),λu hu=>by rw[Jao.mp hu];exact hw⟩
 cases h with
 | non=>exact .inl ⟨hk,rfl⟩
 | tru=>exact .inl ⟨hk,rfl⟩
 | int=>exact .inl ⟨hk,rfl⟩
 | str=>exact .inl ⟨hk,rfl⟩
 | nil h=>exact absurd h (n _ rfl)
 | tup0 h=>exact .inl ⟨hk,Zch h⟩
 | ttab h h2 h3=>exact .inl ⟨hk,Zch h⟩
 | tnum h=>exact .inl ⟨hk,Zch h⟩
 | lnil h h2=>exact .inr (one h (.lst h2 ⇑0))
 | ltab h h2 h3=>exact .inr (one h (.tup h2 (show 3<=1000 by decide)))
 | lnon h=>exact .inr (one h (.inl rfl))
 | ltru h=>exact .inr (one h .bl)
theorem Zsh {a D:Addr}{xs:List V}{fr:List (Str×Nat)}{σ:L2.St}{tt:TT}{te:TE}{H1:Hp}{Q:VK}(ha:H1 a=some (.lst xs))(hD:H1 D=none)(h:∀ (i:Nat) x H (Q:Bool->Hp->Prop),xs[i]?=some x->Same H1 H->(∀ H',Same H H'->Q false H')->tt (some x::Zbq fr σ) H Q)(hQ:∀ H',Same H1 H'->H' D=some (.lst [])->Q (.ref D) H'):Zbw (Zbp 0) tt te (Itl K a) D (Zha 1 fr σ) H1 Q:=by
 refine Zd7 (xs:=xs) (λi vs H=>Same H1 H/\H D=some (.lst [])) ⟨Same.new hD,Zaa⟩ (λi vs H _ p=>SqL.of (p.1 _ _ ha)) ?_ (λvs H ⟨s,e⟩=>hQ H s e);intro i x vs σ' H hi hx sh e91;obtain⟨s,e⟩:=e91;obtain⟨z,rfl⟩:=sh.one;simp only[Zfr,Zbp,List.set_cons_zero];refine h i x H _ hx s λH' s'=>?_;exact Zcj ⇑0 (leaf0 (ws:=[]) hi Sh.mk1 ⟨s.trans s',s' _ _ e⟩)
def Ztj (K:Frag):Sp:=λvs H Q _=>∃ (a:Addr) (ns:List Int),vs=[.ref a]/\SqL K H a (ns.map V.int)/\ns.length<=63/\∀ H',Q (.bl true) H'
theorem ok_law (F:Fun K "law" "law" Zkv f fd)(T:Txt K mg C G S)(Ya2:Cal P w K mg base "_law_cell" 1 (Zqf K))(Ya4:Cal P w K mg base "_law_bag" 1 spBag)(Yb2:Cal P w K mg base "_law_small_prime" 2 spSmp)(Ybp:Cal P w K mg base "_law_drawing" 2 (spOut way0))(Yb0:Cal P w K mg base "_law_standing" 6 spLs6)(Yac:CalI P w K mg base "Ground" G 3 (Zim G))(Yap:CalI P w K mg base "Drawing" C 4 (Zlp C))(Yai:CalI P w K mg base "Standing" S 11 (spSI S C G))(Ybc:Cal P w K mg base "_law_plain" 2 spPlC)(Ybn:Cal P w K mg base "_law_other_beside" 13 (spObe S C G))(Ybo:Cal P w K mg base "_law_spoilt" 4 (spSpo K S C G))(Ybd:Cal P w K mg base "_law_unlike_odd" 2 (spUnl K S C G))(Yas:Cal P w K mg base "_law_odd_there" 3 (Zn1 S C G))(Yae:Cal P w K mg base "lets_by" 15 (Zqe K S C G)):FnOk P w K mg base CX0 16 f fd ["_law_script"] (Ztj K):=by
 have nd:=Zvr.nd;refine F.ok Zvr (λvs H Q E h=>?_) (λcdv A outer s H vs Q E hr h=>?_)
 .refine Zbs h λa ns e96 _=>?_;clear h;obtain rfl:=e96;rfl
 .refine Zf2 h λa ns e97 hS hl q=>?_;clear h;obtain rfl:=e97;refine⟨_,((Zgs Jbr rfl (Zbd (Zfz<|>(@Zar _ _ _ _ ((Ya2<$>hr<$>((pv 0)<&>(Zac<&>Zab)))<&>(Zac<&>Zab)))<&&>(@Zbt _ _ _ _ _ _ _ _ _ _ Zf4 (pv 0) (@Zb7 _ _ _ Zac) (@Zb7 _ _ _ Zac)))) (1>>>nd) ((2|||nd|||(Ya4<$>hr<$>((pvr 1)<&>Zab)))<*>((Zap (i:=3) nd rfl (Or.inr rfl) (Yb2<$>hr<$>((pvr 2)<&>Zab)))<*>((Zb4 (Ybp<$>hr<$>((pvr 2)<&>Zab)) (@Zc2 _ _ _ _ _ 2 rfl ((4>>>nd)^^^((5>>>nd)^^^(@Za6 _))) ⇑1 ⇑1))<*>((6|||nd|||(Yb0<$>hr<$>((pvr 2)<&>((pvr 3)<&>((pvr 4)<&>((pvr 5)<&>Zab))))))<*>((Zap (i:=7) nd rfl (Or.inr rfl) (Zo7 Yai hr.m rfl ((Zo7 Yac hr.m rfl ((pvr 3)<&>Zab))<&>((Zo7 Yap hr.m rfl ((pvr 4)<&>((Zhn Zbk rfl T.n_list Jcg ((pvr 5)<&>Zab))<&>Zab)))<&>(((Zho Za2)<|>(pvr 6)<||>Zac)<&>(((Zho Za2)<|>(pvr 6)<||>Zac)<&>Zab))))))<*>((Zfc (i:=8) (own:=["_law_size"]) (fr:=[("_law_p",3)]) rfl (Zbi (by kernel_rfl)) (Zbd (Za2<|>(pv 6)<||>Zac)) (λ_ _ _ _=>⟨(0<<<["_law_size","_law_p"]),Zat,(Ybc<$>hr<$>((pv 1)<&>((pv 0)<&>Zab)))⟩) nd rfl rfl rfl)<*>((9|||nd|||(Ybn<$>hr<$>((pvr 2)<&>((pvr 3)<&>((pvr 4)<&>((pvr 5)<&>((pvr 6)<&>Zab)))))))<*>((10|||nd|||(@Zam _ _ _ _ _ (Zbh<&>((pvr 7)<&>((pvr 8)<&>((pvr 8)<&>Zab))))))<*>((Zgs Jbr rfl (Zge rfl T.n_range (Zac<&>Zab)) (11>>>nd) ((12|||nd|||(Ybo<$>hr<$>((pvr 2)<&>((pvr 3)<&>((pvr 10)<&>((pvr 8)<&>((pvr 9)<&>Zab)))))))<*>((@Zay _ _ _ _ _ _ _ _ (PW.pt (Zce (Zak Zjf (Yae<$>hr<$>((pvr 7)<&>((pvr 12)<&>Zab))) Zbm (Zah _)) (Zbj (Zak Zjf (Yae<$>hr<$>((pvr 7)<&>((Ybd<$>hr<$>((pvr 2)<&>((pvr 7)<&>((pvr 9)<&>Zab))))<&>Zab))) Zbm (Zah _))))) (~~~Zbm) Zaj)<*>(@Zau _ _ _ (@Zay _ _ _ _ _ _ _ _ (Zak Zjf (Yae<$>hr<$>((pvr 7)<&>((pvr 10)<&>Zab))) Zbm (Zah _)) (~~~Zbm) Zaj)))))<*>((13|||nd|||(@Zar _ _ _ _ ((@Zam _ _ _ _ _ (Zbh<&>((Yas<$>hr<$>((pvr 2)<&>(Zac<&>((pvr 8)<&>Zab))))<&>((pvr 8)<&>((pvr 8)<&>Zab)))))<&>((@Zam _ _ _ _ _ (Zbh<&>(Zfy<&>Zab)))<&>Zab))))<*>((Zgd (Zm3 Jb0 Jbw Jbx (mtJ Zc4) (pvr 13) ((@Zam _ _ _ _ _ (Zbh<&>((@Zar _ _ _ _ ((pvr 9)<&>Zab))<&>((pvr 8)<&>((pvr 8)<&>Zab)))))<&>Zab)))<*>((@Zay _ _ _ _ _ _ _ _ (Zak Ze1 (Za1 Zao rfl T.n_len Jba ((Za0 (own:=["_law_paper"]) (fr:=[("_law_one",7)]) rfl (Zbi (by kernel_rfl)) (Zbd (pv 13)) (λ_ _ _ _=>⟨(0<<<["_law_paper","_law_one"]),(pts_one (Zeo Zjf (Yae<$>hr<$>((pv 1)<&>((pv 0)<&>Zab))) Zbm (Zah _))),(pv 0)⟩))<&>Zab)) Zac (Zah _)) (~~~Zbm) Zaj)<*>((14|||nd|||(Zo7 Yai hr.m rfl ((Zo7 Yac hr.m rfl ((pvr 3)<&>Zab))<&>((Zo7 Yap hr.m rfl ((pvr 4)<&>((@Zar _ _ _ _ Zab)<&>Zab)))<&>((Zlz<|>(@Zar _ _ _ _ (Zac<&>Zab))<&&>(pvr 4))<&>((@Zar _ _ _ _ Zab)<&>Zab))))))<*>(@Zau _ _ _ (@Zay _ _ _ _ _ _ _ _ (Zak Zjf (Yae<$>hr<$>((pvr 14)<&>((@Zam _ _ _ _ _ (Zbh<&>((@Zar _ _ _ _ Zab)<&>((Zlz<|>(@Zar _ _ _ _ ((@Zam _ _ _ _ _ (Zac<&>(Zac<&>((@Zar _ _ _ _ Zab)<&>Zab))))<&>Zab))<&&>(pvr 4))<&>((Zlz<|>(@Zar _ _ _ _ ((@Zam _ _ _ _ _ (Zac<&>(Zac<&>((@Zar _ _ _ _ Zab)<&>Zab))))<&>Zab))<&&>(pvr 4))<&>Zab)))))<&>Zab))) Zbm (Zah _)) (~~~Zbm) Zaj))))))))))))))))<*>(~~~Zbm)),?_⟩;refine Zb3 λXX hXX=>?_;refine cutF λY hY=>?_;refine Zae (Zu6 ns (some 1) (some 8)) λms hms hml=>?_;refine⟨_,rfl,a,ns,0,rfl,hS,hl,⇑0,λc0=>⟨by show 2<=sizeLine;decide,λp1 hp1=>⟨_,rfl,_,rfl,_,rfl,a,_,rfl,(Same.new hp1).seq hS,λp2 hp2=>?_⟩⟩⟩;rw[hms] at *;refine Zkq p1 p2 _ _ ⟨rfl,rfl,by rw[Zal (Zai Zaa hp2)];exact Zaa,Zaa,Jbd (Zan (by rw[Jab];show 2+ms.length<=1000;omega)),λp3 hp3=>?_⟩;have hz:[V.int c0,V.int 5]++ms.map V.int=(c0::5::ms).map V.int:=rfl;rw[hz];have e3:upd (upd (upd H p1 (.lst [V.int c0,V.int 5])) p2 (.lst (ms.map V.int))) p3 (.lst ((c0::5::ms).map V.int)) p3=some (.lst ((c0::5::ms).map V.int)):=Zaa;generalize upd (upd (upd H p1 (.lst [V.int c0,V.int 5])) p2 (.lst (ms.map V.int))) p3 (.lst ((c0::5::ms).map V.int))=H0 at *;refine⟨p3,rfl,⟨_,SqL.of e3⟩,Zlb (xs:=(c0::5::ms).map V.int) (λi σ H2=>∃ v1 v2 v3 v4 v5 v6 v7 v8 v9 v10 v11 v12 v13 v14:Option V,σ=[some (.ref a),v1,v2,v3,v4,v5,v6,v7,v8,v9,v10,v11,v12,v13,v14]/\Same H0 H2)
   ⟨none,none,none,none,none,none,none,none,none,none,none,none,none,none,rfl,Same.refl _⟩ (λi σ H2 _ ⟨_,_,_,_,_,_,_,_,_,_,_,_,_,_,_,sH⟩=>SqL.of (sH _ _ e3)) ?_ ?_⟩
  .intro i x σ H2 hi e92;refine Znr e92 λv1 v2 v3 v4 v5 v6 v7 v8 v9 v10 v11 v12 v13 v14 e98 s2=>?_;clear e92;obtain rfl:=e98;obtain⟨c,rfl⟩:∃ c:Int,x=.int c:=by
    rw[Jad] at hi;cases e:(c0::5::ms)[i]? with
    | none=>rw[e] at hi;cases hi
    | some c=>rw[e] at hi;cases hi;exact⟨c,rfl⟩
   refine cutD λD2 hD2=>?_;simp only[Zbp,List.set_cons_zero,List.set_cons_succ];subst hY;refine Zb3 λX hX=>?_;walk_at "wp";refine⟨c,rfl,λl xa xb hl0 xb0 xb1=>?_⟩;have b3:Bag (upd H2 l (Zwe xa xb)) l:=Bag.set xb0 xb1;have fl:=s2.free hl0;have s3:=s2.trans (Same.new (o:=Zwe xa xb) hl0);generalize upd H2 l (Zwe xa xb)=H3 at *;subst hX;refine Zb3 λX hX=>?_;walk_at "wp";refine⟨l,rfl,b3,λp H4 e4 b4 hp=>?_⟩;have s4:=Same.thru s3 fl e4;subst hX;refine Zb3 λX hX=>?_;walk_at "wp";refine Zaq l [] ⟨rfl,rfl,b4,λpt e m xs H5 O=>⟨pt,rfl,_,SqT.of O.tup,rfl,_,_,rfl,_,_,rfl,rfl,?_⟩⟩;have s5:Same H0 H5:=Same.thru s4 fl O.ext;have b5:=O.bag;have m0:=O.lo;have m8:=O.hi;have x9:=O.len;have nel:e≠l:=b4.ne O.new;have he:=O.lst;refine Zae (Zqs O.ed) λps pr ip=>?_;have pl:=pr.1;have p9:ps.length<=9:=∅
   clear O s4 e4 b4 b3 s3;subst hX;refine Zb3 λX hX=>?_;walk_at "wp";refine xI6_1 l e p m xs ps ⟨rfl,b5,hp,he,pr,ip,p9,m0,m8,nel,λst z tl ns ts Ms H6 e6 b6 fst hst fz hz hm hn gt=>?_⟩;have s6:Same H0 H6:=Same.thru s5 fl e6;have he6:=e6 _ _ nel he;have pr6:=pr.bag b5 e6;have n8:ns.length<=8:=by exact oz223 m8 hm
   have nst:st≠l:=b5.ne fst;have nzl:z≠l:=b5.ne fz;subst hX;refine Zb3 λX hX=>?_;walk_at "wp";have gt6:=gt.ext b5 b6 (Ext.refl _ _);refine Zfj hp λg H7 s7 hg=>⟨_,.inl (SqL.of (s7 _ _ he6)),λe1 he1=>?_⟩
   have s8:=Same.new (o:=.lst xs) he1;have q8:(upd H7 e1 (.lst xs)) e1=some (.lst xs):=Zaa;generalize upd H7 e1 (.lst xs)=H8 at *;have t8:=s7.trans s8;refine Zic m0 m8 q8 (pr6.same t8) ip p9 λd lp H9 s9 flp hd=>⟨_,SqT.of ((t8.trans s9) _ _ hst),_,rfl,_,SqT.of ((t8.trans s9) _ _ hst),_,rfl,?_⟩
   have t9:=t8.trans s9;have b9:=b6.same t9;intro x dx hx hdx ndx;have hm8:(ns.length:Int)=m:=hm;refine Zil hx hdx ndx ((hg.same s8).same s9) hp hd (pr6.same t9) ip p9 ⟨t9 _ _ hz,n8,λn h=>⟨(hn n h).1,Jej (hn n h).2 ⇑0⟩⟩ hm (gt.tbl.same t9) ⇑0 λdx2 z' l' ts' H10 s10 sb=>⟨rfl,?_⟩
   have t10:=t9.trans s10;have b10:=b9.same s10;have nlp:lp≠l:=b6.ne (t8.free flp);have sbR:=stb_rm b9 b10 sb nlp;clear sb hx hdx ndx hd hg;subst hX;refine Zb3 λX hX=>?_;walk_at "wp";have hst10:=t10 _ _ hst;have hz10:=t10 _ _ hz;refine⟨_,rfl,st,_,0,_,rfl,rfl,SqT.of hst10,rfl,z,rfl,⟨_,SqL.of hz10⟩,λD3 hD3=>?_⟩;refine Zcu (λi Hc y=>∃ t n,y=.ref t/\ns[i]?=some n/\∃ r rs,TabB Hc p 7 n.toNat n.toNat t r rs (Zei n.toNat)/\(r≠D3/\D3∉rs)/\New H10 t r rs) (λ⟨t,d,e,ed,r,rs,a,n⟩ s=>⟨t,d,e,ed,r,rs,a.same s,n⟩) (λ⟨t,d,e,ed,r,rs,a,n,n2⟩ hD=>⟨t,d,e,ed,r,rs,a.put hD n.1 n.2,n,n2⟩) hz10 hD3 (by rw[Jab];omega) (λi y H1 Q1 hy s1 ⟨lD,hlD⟩ q1=>?_) (λys H11 s11 hD11 yl hys=>?_)
   .rw [Jad] at hy;cases ed:ns[i]? with
    | none=>rw[ed] at hy;cases hy
    | some n=>
     rw[ed] at hy;cases hy;obtain⟨d0,d2⟩:=hn _ (Jac ed);simp only[Zbq];walk_at "wp";have h01:=Zrx hp;refine⟨_,rfl,p,n,rfl,hp,d0,∅,λt' r' rs' H2 s2 nw tv=>q1 (.ref t') H2 s2 ⟨t',n,rfl,ed,r',rs',?_,⟨λz=>?_,λz=>?_⟩,⟨s1.free nw.t,s1.free nw.r,λx hx=>s1.free (nw.rs x hx)⟩⟩⟩
     .have mU:=Zff hp n.toNat;refine⟨by rw[Jbj d0];exact tv,mU.hl,mU.hw,λxs hx x hxx=>?_⟩;refine Zae (Ja2.mp hx) λj _ e99=>?_;obtain rfl:=e99;rcases Zol hxx with e|e
      .rw [e];exact⟨h01.2,by unfold Bt;decide,by unfold Bt;decide⟩
      .rw [(Jb1.mp e).2];exact⟨h01.1,by unfold Bt;decide,by unfold Bt;decide⟩
     .have:=nw.r;rw[z,hlD] at this;cases this
     .have:=nw.rs _ z;rw[hlD] at this;cases this
   rw[Jab] at yl;obtain⟨uts,rfl,hu⟩:=Zmz (P:=λi t=>∃ n,ns[i]?=some n/\∃ r rs,TabB H11 p 7 n.toNat n.toNat t r rs (Zei n.toNat)/\(r≠D3/\D3∉rs)/\New H10 t r rs) λi y e=>let ⟨t,d,a,b⟩:=hys i y e;⟨t,a,d,b⟩;rw[Jab] at yl;have b11:=b10.same s11;have gu:GL H10 H11 p 7 D3 uts (cds ns) (Zs9 ns):=⟨hD11,by rw[Jab];exact oz30 yl,hD3,λi t d f1 f2=>by
    refine Zae (hu i t f1) λn en e910=>?_;obtain⟨r,rs,tb,_,nw⟩:=e910;rw[Jad,en] at f2;cases f2;rw[Zp1 en];exact⟨r,rs,tb,nw⟩⟩
   have guR:=gu.ext b10 b11 Zsa;clear hys hu yl gu;subst hX;refine Zb3 λX hX=>?_;walk_at "wp";have t11:=t10.trans s11;have nel6:=nel;refine xI13_1 H5 l e st z tl p m xs ps ns ts Ms ⟨rfl,b11,b5,hp,m0,m8,t11 _ _ he6,pr6.same t11,ip,p9,s11 _ _ hst10,nst,nel,nzl,s11 _ _ hz10,hm,hn,gt.same t11,λy H12 e12 b12 nb=>?_⟩;have sb12:=sbR.same (Zav (s11.ext.trans e12));have gu12:=guR.same (Zav e12);have he12:=e12 _ _ nel (t11 _ _ he6);subst hX;refine Zb3 λX hX=>?_;walk_at "wp";refine⟨⇑0,λgd hgd=>?_⟩;have s13:=Same.new (o:=.tup [V.str "change",V.ref x,V.ref D3,V.ref D3]) hgd;have q13:(upd H12 gd (.tup [V.str "change",V.ref x,V.ref D3,V.ref D3])) gd=some (.tup [V.str "change",V.ref x,V.ref D3,V.ref D3]):=Zaa;have b13:=b12.same s13;have mgd:=b12.ne hgd;generalize upd H12 gd (.tup [V.str "change",V.ref x,V.ref D3,V.ref D3])=H13 at *;have r13:=Zav (D:=l) s13.ext;have sb13:=sb12.same r13;have gu13:=gu12.same r13;have CX:Ctx S C G (rm l H13) p m xs ps ns x dx2 g d z' l' lp gd D3 y uts:=⟨sb13.sa,sb13.prs,hp,gu13.chl,Zbg q13 mgd,nb.same r13,m0,hn⟩
   have ip':InP (ns.length:Int) ps:=by rw[hm];exact ip
   have lok:=Zur hp ip' gt;have e613:Ext l H6 H13:=(t11.ext.trans e12).trans s13.ext;have good:∀ {Q2:VK} (Hc:Hp),Same (rm l H13) Hc->(∀ H',Same Hc H'->Q2 (.bl true) H')->Zqe K S C G [.ref x,.ref gd] Hc Q2 E0:=λ{Q2} Hc sc q2=>by
    have sbc:=sb13.same sc;have guc:=(gu13.same sc).chl;exact⟨x,_,rfl,.inr ⟨gd,rfl,.inr (.inl ⟨_,_,_,sc _ _ CX.gd,.inl ⟨_,_,x,D3,D3,dx2,g,d,z',l',lp,x,dx2,g,d,z',l',lp,p,m,7,7,60,60,xs,xs,ps,ns,ts',ts',uts,uts,Ms,Ms,Zs9 ns,Zs9 ns,rfl,sbc,sbc,hp,ip,p9,guc,guc,⇑0,⇑0,⇑0,⇑0,⇑0,⇑0,λt H' s' ht=>by
     obtain rfl:t=true:=ht.mpr lok;exact q2 H' s'⟩⟩)⟩⟩
   subst hX;refine Zb3 λX hX=>?_;refine cutF λY2 hY2=>?_;refine⟨_,rfl,⇑0,⇑0,Zeg (λj σ Hc=>∃ v11 v12 v13 v14:Option V,σ=[some (.ref a),some (.int c),some (.ref l),some (.int p),some (.int m),some (.ref e),some (.ref st),some (.ref x),some (.ref D3),some (.ref y),some (.ref gd),v11,v12,v13,v14]/\Ext l H13 Hc/\Bag Hc l) ⟨v11,v12,v13,v14,rfl,Ext.refl _ _,b13⟩ ?_ ?_⟩
   .intro j σ Hc hj e93;refine xE4_3 e93 λv11 v12 v13 v14 e911 ec bc=>?_;clear e93;obtain rfl:=e911;refine cutD λD5 hD5=>?_;simp only[Zbp,List.set_cons_zero,List.set_cons_succ];subst hY2;refine Zb3 λZ hZ=>?_;walk_at "wp";refine Zps l p m xs ps ns x dx2 g d z' l' lp gd D3 y uts ⟨rfl,bc,CX.same (Zav ec),λv H14 e14 b14 bad=>?_⟩;have ec4:=ec.trans e14;subst hZ;refine Zb3 λZ hZ=>?_;walk_at "wp";refine bad H14 _ (Zbl l H14) λH15 s15=>⟨false,rfl,Zcj ⇑0 ⟨l,p,m,xs,ps,ns,x,dx2,g,d,z',l',lp,gd,D3,y,uts,rfl,b14.same s15,CX.same (Zav (ec4.trans s15.ext)),λu H16 e16 b16 bad2=>bad2 H16 _ (Zbl l H16) λH17 s17=>⟨false,rfl,Zcj ⇑0 ?_⟩⟩⟩
    have ec7:=((ec4.trans s15.ext).trans e16).trans s17.ext;subst hZ;walk_at "wp";refine good H17 ((Zav ec7).trans (Zbl l H17)) λH18 s18=>⟨true,rfl,Zcj ⇑0 ?_⟩
    subst hD5;exact Zkq _ _ _ _ ⟨rfl,ec7.trans s18.ext,(b16.same s17).same s18⟩
   .intro σ Hc e94;refine xE4_3 e94 λv11 v12 v13 v14 e912 ec bc=>?_;clear e94;obtain rfl:=e912;subst hX;dsimp only;refine Zb3 λX hX=>?_;walk_at "wp";refine Zno l 2 p m xs ps ns x dx2 g d z' l' lp gd D3 y uts ⟨rfl,bc,CX.same (Zav ec),λv H14 e14 b14 ov hv=>?_⟩;refine⟨⇑0,λw0 wf0=>?_⟩;have ws0:=Same.new (o:=.tup [V.str "apart",v,V.ref D3,V.ref D3]) wf0;have we0:(upd H14 w0 (.tup [V.str "apart",v,V.ref D3,V.ref D3])) w0=some (.tup [V.str "apart",v,V.ref D3,V.ref D3]):=Zaa;have wm0:w0≠l:=b14.ne wf0;have wb0:=b14.same ws0;clear wf0;generalize upd H14 w0 (.tup [V.str "apart",v,V.ref D3,V.ref D3])=W0 at *;refine⟨⇑0,λw1 wf1=>?_⟩;have ws1:=Same.new (o:=.tup [V.str "fixed",V.non]) wf1;have we1:(upd W0 w1 (.tup [V.str "fixed",V.non])) w1=some (.tup [V.str "fixed",V.non]):=Zaa;have wm1:w1≠l:=wb0.ne wf1;have wb1:=wb0.same ws1;clear wf1;generalize upd W0 w1 (.tup [V.str "fixed",V.non])=W1 at *;refine⟨⇑0,λw2 wf2=>?_⟩;have ws2:=Same.new (o:=.lst [V.ref w0,V.ref w1]) wf2;have we2:(upd W1 w2 (.lst [V.ref w0,V.ref w1])) w2=some (.lst [V.ref w0,V.ref w1]):=Zaa;have wm2:w2≠l:=wb1.ne wf2;have wb2:=wb1.same ws2;have fw2:H14 w2=none:=(ws0.trans ws1).free wf2;clear wf2;generalize upd W1 w2 (.lst [V.ref w0,V.ref w1])=W2 at *;have wt2:=Same.refl W2;have wt1:=ws2.trans wt2;have wt0:=ws1.trans wt1;have wtt:=ws0.trans wt0;subst hX;refine Zb3 λX hX=>?_;walk_at "wp";refine⟨tyL we2,?_⟩;refine⟨⇑0,λu0 uf0=>?_⟩;have us0:=Same.new (o:=.lst [V.ref y]) uf0;have ue0:(upd W2 u0 (.lst [V.ref y])) u0=some (.lst [V.ref y]):=Zaa;have um0:u0≠l:=wb2.ne uf0;have ub0:=wb2.same us0;have nu0:u0≠w2:=λz=>by rw[z,we2] at uf0;cases uf0
    clear uf0;generalize upd W2 u0 (.lst [V.ref y])=U0 at *;refine⟨⇑0,λu1 uf1=>?_⟩;have us1:=Same.new (o:=.tup [V.str "apart",V.ref u0,V.ref D3,V.ref D3]) uf1;have ue1:(upd U0 u1 (.tup [V.str "apart",V.ref u0,V.ref D3,V.ref D3])) u1=some (.tup [V.str "apart",V.ref u0,V.ref D3,V.ref D3]):=Zaa;have um1:u1≠l:=ub0.ne uf1;have ub1:=ub0.same us1;clear uf1;generalize upd U0 u1 (.tup [V.str "apart",V.ref u0,V.ref D3,V.ref D3])=U1 at *;have ut1:=Same.refl U1;have ut0:=us1.trans ut1;have utt:=us0.trans ut0;refine⟨_,utt _ _ we2,(show 2<sizeLine by decide),?_⟩;have nw:∀ {a:Addr} {xs:List V},U1 a=some (.tup xs)->a≠w2:=λh z=>by rw[z,utt _ _ we2] at h;cases h
    have k0:=(wt0.trans utt) _ _ we0;have k1:=(wt1.trans utt) _ _ we1;have h0:(upd U1 w2 (.lst ([V.ref w0,V.ref w1]++[V.ref u1]))) w0=some (.tup [V.str "apart",v,V.ref D3,V.ref D3]):=by rw[Zal (nw k0)];exact k0
    have h1:(upd U1 w2 (.lst ([V.ref w0,V.ref w1]++[V.ref u1]))) w1=some (.tup [V.str "fixed",V.non]):=by rw[Zal (nw k1)];exact k1
    have h2:(upd U1 w2 (.lst ([V.ref w0,V.ref w1]++[V.ref u1]))) u1=some (.tup [V.str "apart",V.ref u0,V.ref D3,V.ref D3]):=by rw[Zal (nw ue1)];exact ue1
    have h3:(upd U1 w2 (.lst ([V.ref w0,V.ref w1]++[V.ref u1]))) u0=some (.lst [V.ref y]):=by rw[Zal nu0];exact ut0 _ _ ue0
    have hw:(upd U1 w2 (.lst ([V.ref w0,V.ref w1]++[V.ref u1]))) w2=some (.lst [V.ref w0,V.ref w1,V.ref u1]):=Zaa;have sU:=(ws0.trans ws1).trans (ws2.trans utt);have eU:Ext l H14 (upd U1 w2 (.lst ([V.ref w0,V.ref w1]++[V.ref u1]))):=sU.ext.upd fw2;have bU:Bag (upd U1 w2 (.lst ([V.ref w0,V.ref w1]++[V.ref u1]))) l:=(b14.same sU).new wm2;generalize upd U1 w2 (.lst ([V.ref w0,V.ref w1]++[V.ref u1]))=H15 at *;have r15:=Zav (D:=l) eU;have ec5:=(ec.trans e14).trans eU;have CX5:=CX.same (Zav ec5);have nv:=(hv ⇑0).1;have bads:∀ (i:Nat) x',[V.ref w0,V.ref w1,V.ref u1][i]?=some x'->Bad K S C G x (rm l H15) x':=λi x' hx'=>by
     match i,hx' with
     | 0,hx'=>
      cases hx';refine Zmi CX5 (Zbg h0 wm0) ?_;rcases Zrk ov nv with ⟨a1,a2⟩|⟨pl,us,rfl,a1,a2,a3,a4⟩
      .refine .inl ⟨a1.same r15,?_⟩;cases v <;> try rfl
       simp only[Zjs,a1.at r15] at a2 ⊢;exact a2
      .exact .inr ⟨pl,us,rfl,r15 _ _ a1,a2,a3,λu hu=>.inl ((a4 u hu).same r15)⟩
     | 1,hx'=>cases hx';exact Zdi 1 rfl (Zbg h1 wm1) (.str _) ⇑0
     | 2,hx'=>
      cases hx';exact Zmi CX5 (Zbg h2 um1) (.inr ⟨u0,[V.ref y],rfl,Zbg h3 um0,Nat.one_pos,(show 1<=1000 by decide),λu hu=>by rw[Jao.mp hu];exact CX5.ot⟩)
     | i+3,hx'=>cases hx'
    subst hX;refine Zb3 λX hX=>?_;walk_at "wp";refine⟨_,rfl,w2,rfl,⟨_,SqL.of hw⟩,λD6 hD6=>Zsh hw hD6 (λi x' H16 Q' hx' s16 q'=>?_) λH17 s17 e17=>⟨D6,rfl,_,.inl (SqL.of e17),Zcj ⇑0 ?_⟩⟩
    .simp only [Zbq];walk_at "wp";exact⟨_,rfl,bads i x' hx' H16 _ ((Zbl l H15).trans s16) λH' s'=>⟨false,rfl,q' H' s'⟩⟩
    .have e617:Ext l H6 H17:=(e613.trans ec5).trans s17.ext;have b17:=bU.same s17;clear bads h0 h1 h2 h3 hw;subst hX;refine Zb3 λX hX=>?_;walk_at "wp";obtain⟨mn,rfl⟩:=Ja9 (show 0<=m by omega);refine Zfj hp λg2 H18 s18 hg2=>⟨⇑0,λq1 hq1=>?_⟩
     have s19:=Same.new (o:=.lst []) hq1;have z19:(upd H18 q1 (.lst [])) q1=some (.lst []):=Zaa;generalize upd H18 q1 (.lst [])=H19 at *;refine Zic (ps:=[]) m0 m8 z19 ⟨rfl,(λi x q e=>by cases e)⟩ (λq h=>by cases h) ⇑0 λd2 lp2 H20 s20 flp2 hd2=>⟨⇑0,λq2 hq2=>?_⟩
     have s21:=Same.new (o:=.lst [V.int 0]) hq2;have z21:(upd H20 q2 (.lst [V.int 0])) q2=some (.lst [V.int 0]):=Zaa;generalize upd H20 q2 (.lst [V.int 0])=H21 at *;refine Zbv q2 mn _ ⟨rfl,rfl,z21,oz88,oz150 m8,(show 1*(mn:Int).toNat<=sizeLine from Jbd (Zan (oz53 m8))),λq3 hq3=>⟨⇑0,λq4 hq4=>?_⟩⟩;rw[Jbp,Zkx] at *;have s22:=(Same.new (o:=.lst (List.replicate mn (V.int 0))) hq3).trans (Same.new (o:=.lst []) hq4);have z22:(upd (upd H21 q3 (.lst (List.replicate mn (V.int 0)))) q4 (.lst [])) q3=some (.lst ((zs mn).map V.int)):=by rw[Zvd];exact (Same.new hq4) _ _ Zaa
     have y22:(upd (upd H21 q3 (.lst (List.replicate mn (V.int 0)))) q4 (.lst [])) q4=some (.lst []):=Zaa;generalize upd (upd H21 q3 (.lst (List.replicate mn (V.int 0)))) q4 (.lst [])=H22 at *;have s2022:=s21.trans s22;have s1922:=s20.trans s2022;intro x2 dx2' hx hdx ndx;refine Zil (p:=p) (m:=mn) (k:=1) (ps:=[]) (ns:=zs mn) (ts:=[]) (Ms:=[]) hx hdx ndx ((hg2.same s19).same s1922) hp (Zor hd2 s2022) ⟨rfl,(λi x q e=>by cases e)⟩ (λq h=>by cases h) ⇑0 ⟨z22,by rw[Jav];exact oz193 m8,λn hn=>by rw[(Jb1.mp hn).2];decide⟩ (by rw[Jav]) ⟨y22,rfl,(λi t q e=>by cases e)⟩ ⇑0 λdx3 z2 l2 ts2 H23 s23 sb2=>⟨rfl,?_⟩
     have t23:=((s18.trans s19).trans s1922).trans s23;subst hX;walk_at "wp";have b23:=b17.same t23;refine⟨⇑0,λk0 kf0=>?_⟩;have ks0:=Same.new (o:=.lst []) kf0;have ke0:(upd H23 k0 (.lst [])) k0=some (.lst []):=Zaa;have km0:k0≠l:=b23.ne kf0;have kb0:=b23.same ks0;clear kf0;generalize upd H23 k0 (.lst [])=KA0 at *;refine⟨⇑0,λk1 kf1=>?_⟩;have ks1:=Same.new (o:=.lst []) kf1;have ke1:(upd KA0 k1 (.lst [])) k1=some (.lst []):=Zaa;have km1:k1≠l:=kb0.ne kf1;have kb1:=kb0.same ks1;clear kf1;generalize upd KA0 k1 (.lst [])=KA1 at *;refine⟨⇑0,λk2 kf2=>?_⟩;have ks2:=Same.new (o:=.tup [V.int 0,V.int 0,V.ref k1]) kf2;have ke2:(upd KA1 k2 (.tup [V.int 0,V.int 0,V.ref k1])) k2=some (.tup [V.int 0,V.int 0,V.ref k1]):=Zaa;have km2:k2≠l:=kb1.ne kf2;have kb2:=kb1.same ks2;clear kf2;generalize upd KA1 k2 (.tup [V.int 0,V.int 0,V.ref k1])=KA2 at *;refine⟨⇑0,λk3 kf3=>?_⟩;have ks3:=Same.new (o:=.lst [V.ref k2]) kf3;have ke3:(upd KA2 k3 (.lst [V.ref k2])) k3=some (.lst [V.ref k2]):=Zaa;have km3:k3≠l:=kb2.ne kf3;have kb3:=kb2.same ks3;clear kf3;generalize upd KA2 k3 (.lst [V.ref k2])=KA3 at *;have kt3:=Same.refl KA3;have kt2:=ks3.trans kt3;have kt1:=ks2.trans kt2;have kt0:=ks1.trans kt1;have ktt:=ks0.trans kt0;refine Zbv k3 mn _ ⟨rfl,rfl,ke3,oz88,oz150 m8,(show 1*(mn:Int).toNat<=sizeLine from Jbd (Zan (oz53 m8))),λkr kf=>?_⟩;rw[Jbp,Zkx];have sk:=Same.new (o:=.lst (List.replicate mn (V.ref k2))) kf;have zk:(upd KA3 kr (.lst (List.replicate mn (V.ref k2)))) kr=some (.lst (List.replicate mn (V.ref k2))):=Zaa;have bk:=kb3.same sk;clear kf;generalize upd KA3 kr (.lst (List.replicate mn (V.ref k2)))=KB at *;refine⟨⇑0,λj0 jf0=>?_⟩;have js0:=Same.new (o:=.lst []) jf0;have je0:(upd KB j0 (.lst [])) j0=some (.lst []):=Zaa;have jm0:j0≠l:=bk.ne jf0;have jb0:=bk.same js0;clear jf0;generalize upd KB j0 (.lst [])=JA0 at *;refine⟨⇑0,λj1 jf1=>?_⟩;have js1:=Same.new (o:=.tup [V.int 0,V.int 0,V.ref j0]) jf1;have je1:(upd JA0 j1 (.tup [V.int 0,V.int 0,V.ref j0])) j1=some (.tup [V.int 0,V.int 0,V.ref j0]):=Zaa;have jm1:j1≠l:=jb0.ne jf1;have jb1:=jb0.same js1;clear jf1;generalize upd JA0 j1 (.tup [V.int 0,V.int 0,V.ref j0])=JA1 at *;refine⟨⇑0,λj2 jf2=>?_⟩;have js2:=Same.new (o:=.lst [V.ref j1]) jf2;have je2:(upd JA1 j2 (.lst [V.ref j1])) j2=some (.lst [V.ref j1]):=Zaa;have jm2:j2≠l:=jb1.ne jf2;have jb2:=jb1.same js2;clear jf2;generalize upd JA1 j2 (.lst [V.ref j1])=JA2 at *;have jt2:=Same.refl JA2;have jt1:=js2.trans jt2;have jt0:=js1.trans jt1;have jtt:=js0.trans jt0;refine Zbv j2 mn _ ⟨rfl,rfl,je2,oz88,oz150 m8,(show 1*(mn:Int).toNat<=sizeLine from Jbd (Zan (oz53 m8))),λjr jf=>?_⟩;rw[Jbp,Zkx];have sj:=Same.new (o:=.lst (List.replicate mn (V.ref j1))) jf;have zj:(upd JA2 jr (.lst (List.replicate mn (V.ref j1)))) jr=some (.lst (List.replicate mn (V.ref j1))):=Zaa;have bj:=jb2.same sj;clear jf;generalize upd JA2 jr (.lst (List.replicate mn (V.ref j1)))=JB at *;refine⟨⇑0,λpa hpa=>?_⟩;have sp:=Same.new (o:=.tup [V.str "apart",V.ref k0,V.ref kr,V.ref jr]) hpa;have zp:(upd JB pa (.tup [V.str "apart",V.ref k0,V.ref kr,V.ref jr])) pa=some (.tup [V.str "apart",V.ref k0,V.ref kr,V.ref jr]):=Zaa;generalize upd JB pa (.tup [V.str "apart",V.ref k0,V.ref kr,V.ref jr])=HZ at *;have sJ:=sj.trans sp;have sK:=(sk.trans jtt).trans sJ;have sb3:=sb2.same (ktt.trans sK);have c1:=Zso (p:=p) ((jtt.trans sJ) _ _ zk) ((kt2.trans sK) _ _ ke2) ((kt1.trans sK) _ _ ke1);have c2:=Zso (p:=p) (sp _ _ zj) ((jt1.trans sJ) _ _ je1) ((jt0.trans sJ) _ _ je0);refine Zaq x2 _ ⟨rfl,.inr ⟨pa,rfl,.inr (.inr (.inl ⟨_,_,_,zp,x2,dx3,g2,d2,z2,l2,lp2,p,mn,[],[],zs mn,_,_,_,rfl,sb3.sa,sb3.prs,hp,.inr ⟨_,k0,kr,jr,7,7,1,ts2,_,_,[],[],rfl,rfl,rfl,(kt0.trans sK) _ _ ke0,oz193 m8,rfl,sb3,c1,c2,⇑0,⇑0,⇑0,⇑0,⇑0,⇑0,Zuq,λH99 s99=>⟨true,rfl,Zcj ⇑0 ?_⟩⟩⟩))⟩⟩;subst hD2;exact Zvg _ _ _ _ _ _ _ _ _ _ _ _ _ _ ⟨rfl,Same.thru s6 fl (e617.trans ((t23.trans ktt).trans (sK.trans s99)).ext)⟩
  .intro σ H2 e95;refine Znr e95 λv1 v2 v3 v4 v5 v6 v7 v8 v9 v10 v11 v12 v13 v14 e913 s2=>?_;clear e95;obtain rfl:=e913;subst hXX;exact q H2
end
end Pf
set_option maxHeartbeats 4000000
namespace Pf
open PySem L2 PyProof.Rows
open PySem.W (nsIn codeIn keepIn fnOf findIn isFn mg_of mg_none_of plainGet hasDictIn plainOver makesIn)
theorem ex1 {us:List Value}(hl:us.length=1):∃ a0,us=[a0]:=match us,hl with|[a0],_=>⟨a0,rfl⟩
theorem ex2 {us:List Value}(hl:us.length=2):∃ a0 a1,us=[a0,a1]:=match us,hl with|[a0,a1],_=>⟨a0,a1,rfl⟩
theorem ex3 {us:List Value}(hl:us.length=3):∃ a0 a1 a2,us=[a0,a1,a2]:=match us,hl with|[a0,a1,a2],_=>⟨a0,a1,a2,rfl⟩
theorem ex4 {us:List Value}(hl:us.length=4):∃ a0 a1 a2 a3,us=[a0,a1,a2,a3]:=match us,hl with|[a0,a1,a2,a3],_=>⟨a0,a1,a2,a3,rfl⟩
theorem ex5 {us:List Value}(hl:us.length=5):∃ a0 a1 a2 a3 a4,us=[a0,a1,a2,a3,a4]:=match us,hl with|[a0,a1,a2,a3,a4],_=>⟨a0,a1,a2,a3,a4,rfl⟩
def Gf (K:Frag)(x:Str)(st:Stmt)(f:Addr):Prop:=nsIn K mainGlobals x=some (some (.ref f))/\∃ fd,Fun K x x st f fd
theorem all_mk {l:PySem.W.OpenLaw}{w:World}{K:Frag}{h:Heap}{mg:Str->Option Value}{fa C Cg Cs:Addr}{t1 t2 t3 t4 t5:Tok}(hpt:l.prog.given.tree=none)(X:K.In h)(G:h.Ns mainGlobals mg)(hfa:mg "law" = some (.ref fa)){f1 f2 f3 f4 f5 f6 f7 f8 f9 f10 f11 f12 f13 f14 f15 f16 f17 f18 f19 f20 f21 f22 f23 f24 f25 f26 f27 f28 f29 f30 f31 f32 f33 f34 f35 f36 f37 f38 f39 f40 f41 f42 f43 f44 f45 f46 f47 f48 f49 f50 f51 f52 f53 f54 f55 f56 f57 f58 f59 f60 f61 f62 f63:Addr}{od58 an58 od61 an61:Option Addr}{sl58 sl61:Array (Option Value)}{oc58 kV58 dc58 pm58 ct58 cd58 oc61 kV61 dc61 pm61 ct61 cd61:Value}{D61:Addr}{doc61:Value}{dod61:Option Addr}{dosl61:Array (Option Value)}{dn61:Nat}{dt61:Tok}(u1:Gf K "is_whole" Zfi f1)(u2:Gf K "makes_drawing" Zdo f2)(u3:Gf K "is_arrow" Zhl f3)(u4:Gf K "common_divisor" Zc9 f4)(u5:Gf K "not_both_long" Zdn f5)(u6:Gf K "shortened" Zf7 f6)(u7:Gf K "leading_steps" Zdq f7)(u8:Gf K "common_multiple" Zcm f8)(u9:Gf K "is_table" Zhj f9)(u10:Gf K "is_row" Zkw f10)(u11:Gf K "plain" Zmy f11)(u12:Gf K "noughts" Zi0 f12)(u13:Gf K "product" Ziz f13)(u14:Gf K "whole_row" Zf5 f14)(u15:Gf K "row_times" Zf8 f15)(u16:Gf K "turned_about" Zd8 f16)(u17:Gf K "are_sizes" Zgb f17)(u18:Gf K "is_table_of" Zdf f18)(u19:Gf K "are_tables" Zfa f19)(u20:Gf K "stands_on" Zf6 f20)(u21:Gf K "are_changes" Zdg f21)(u22:Gf K "side_of" Zix f22)(u23:Gf K "is_beside" Zds f23)(u24:Gf K "are_backs" Zem f24)(u25:Gf K "is_led" Zib f25)(u26:Gf K "lets_by_change" Zbr f26)(u27:Gf K "lets_by_apart" Zdp f27)(u28:Gf K "lets_by_unlike" Zc7 f28)(u29:Gf K "lets_by" Zi1 f29)(u30:Gf K "is_prime" Zhk f30)(u31:Gf K "tells_ground" Zd9 f31)(u32:Gf K "fraction" Zhm f32)(u33:Gf K "inverse" Zi8 f33)(u34:Gf K "rest_of" Ziy f34)(u35:Gf K "is_fraction" Zel f35)(u36:Gf K "_law_cell" Zhi f36)(u37:Gf K "_law_bag" Zi6 f37)(u38:Gf K "_law_draw" Zhh f38)(u39:Gf K "_law_gcd" Zi5 f39)(u40:Gf K "_law_lowest" Ze9 f40)(u41:Gf K "_law_small_prime" Zcl f41)(u42:Gf K "_law_number" Ze8 f42)(u43:Gf K "_law_add" Zi7 f43)(u44:Gf K "_law_mul" Zi3 f44)(u45:Gf K "_law_int" Zi4 f45)(u46:Gf K "_law_rows" Zhg f46)(u47:Gf K "_law_table" Zf9 f47)(u48:Gf K "_law_plain" Zga f48)(u49:Gf K "_law_drawing" Zek f49)(u50:Gf K "_law_standing" Zea f50)(u51:Gf K "_law_odd" Zi2 f51)(u52:Gf K "_law_other_beside" Zcc f52)(u53:Gf K "_law_number_spoilt" Zb6 f53)(u54:Gf K "_law_units_spoilt" Zcb f54)(u55:Gf K "_law_spoilt" Ze7 f55)(u56:Gf K "_law_odd_there" Zdr f56)(u57:Gf K "_law_unlike_odd" Zc8 f57)(a58:nsIn K mainGlobals "law" = some (some (.ref f58)))(l58:K.lookup f58=some ⟨oc58,od58,.func (fnOf "law" "law" (Zd0 Zkv) (Zci Zkv) (Zaf Zkv) .none kV58 dc58 pm58 an58 cd58 ct58),sl58⟩)(c58:codeIn K cd58 "law" = true)(k58:keepIn K (.ref f58)=true)(aC:nsIn K mainGlobals "Drawing" = some (some (.ref C)))(a59:findIn K (.ref C) "__init__" = some (some (.ref f59)))(i59:isFn K (.ref f59)=true)(u59:∃ fd,Fun K "__init__" "Drawing.__init__" Zeb f59 fd)(pg:plainGet K C Str.empty=true)(hd:hasDictIn K C=true)(po:plainOver K C=true)(sa:findIn K (.ref C) "__setattr__" = some (some (.builtin "object.__setattr__")))(mk:makesIn K C=true)(kc:keepIn K (.ref C)=true)(nM:findIn K (.ref C) "many" = some none)(nA:findIn K (.ref C) "arrows" = some none)(aCg:nsIn K mainGlobals "Ground" = some (some (.ref Cg)))(a60:findIn K (.ref Cg) "__init__" = some (some (.ref f60)))(i60:isFn K (.ref f60)=true)(u60:∃ fd,Fun K "__init__" "Ground.__init__" Zen f60 fd)(a61:findIn K (.ref Cg) "number" = some (some (.ref f61)))(i61:isFn K (.ref f61)=true)(l61:K.lookup f61=some ⟨oc61,od61,.func (fnOf "number" "Ground.number" (Zd0 Zaw) (Zci Zaw) (Zaf Zaw) (.ref D61) kV61 dc61 pm61 an61 cd61 ct61),sl61⟩)(dl61:K.lookup D61=some ⟨doc61,dod61,.seq #[.int 1 dt61] dn61,dosl61⟩)(c61:codeIn K cd61 "Ground.number" = true)(k61:keepIn K (.ref f61)=true)(a62:findIn K (.ref Cg) "is_number" = some (some (.ref f62)))(i62:isFn K (.ref f62)=true)(u62:∃ fd,Fun K "is_number" "Ground.is_number" Zcd f62 fd)(pg_Cg:plainGet K Cg Str.empty=true)(hd_Cg:hasDictIn K Cg=true)(po_Cg:plainOver K Cg=true)(sa_Cg:findIn K (.ref Cg) "__setattr__" = some (some (.builtin "object.__setattr__")))(mk_Cg:makesIn K Cg=true)(kc_Cg:keepIn K (.ref Cg)=true)(nP:findIn K (.ref Cg) "prime" = some none)(aCs:nsIn K mainGlobals "Standing" = some (some (.ref Cs)))(a63:findIn K (.ref Cs) "__init__" = some (some (.ref f63)))(i63:isFn K (.ref f63)=true)(u63:∃ fd,Fun K "__init__" "Standing.__init__" Zdt f63 fd)(pg_Cs:plainGet K Cs Str.empty=true)(hd_Cs:hasDictIn K Cs=true)(po_Cs:plainOver K Cs=true)(sa_Cs:findIn K (.ref Cs) "__setattr__" = some (some (.builtin "object.__setattr__")))(mk_Cs:makesIn K Cs=true)(kc_Cs:keepIn K (.ref Cs)=true)(nSg:findIn K (.ref Cs) "ground" = some none)(nSd:findIn K (.ref Cs) "drawing" = some none)(nSs:findIn K (.ref Cs) "sizes" = some none)(nSt:findIn K (.ref Cs) "tables" = some none)(g1:nsIn K mainGlobals "MOST_POINTS" = some (some (.int 8 t1)))(g2:nsIn K mainGlobals "MOST_ARROWS" = some (some (.int 9 t2)))(g3:nsIn K mainGlobals "LARGEST_PRIME" = some (some (.int 97 t3)))(g4:nsIn K mainGlobals "LONG" = some (some (.int 4000 t4)))(g5:nsIn K mainGlobals "LEADING" = some (some (.int 126 t5)))(z0:nsIn K mainGlobals "len" = some none)(z1:nsIn K mainGlobals "range" = some none)(z2:nsIn K mainGlobals "list" = some none)(z3:nsIn K mainGlobals "min" = some none)(z4:nsIn K mainGlobals "int" = some none)(z5:nsIn K mainGlobals "bool" = some none)(z6:nsIn K mainGlobals "tuple" = some none)(z7:nsIn K mainGlobals "all" = some none)(z8:nsIn K mainGlobals "isinstance" = some none)(z9:nsIn K mainGlobals "abs" = some none)(z10:nsIn K mainGlobals "zip" = some none)(z11:nsIn K mainGlobals "enumerate" = some none)(z12:nsIn K mainGlobals "reversed" = some none)(z13:nsIn K mainGlobals "sum" = some none)(z14:nsIn K mainGlobals "any" = some none)(x_ic1:findIn K (.ref Cs) "__class__" = some (some (.builtin "object.__class__")))(x_ic2:PySem.W.specialIn K (.builtin "object.__class__") "__get__" = some (some (.builtin "getset_descriptor.__get__")))(x_ic3:PySem.W.takesIn K (.builtin "object.__class__")=some true)(x_ic4:PySem.W.mroIn K Cs (.type "object")=some true)(x_kn0:PySem.W.kitOne K (.type "NoneType") (.ref Cs)=some false)(x_kn1:PySem.W.kitOne K (.type "bool") (.ref Cs)=some false)(x_kn2:PySem.W.kitOne K (.type "int") (.ref Cs)=some false)(x_kn3:PySem.W.kitOne K (.type "str") (.ref Cs)=some false)(x_kn4:PySem.W.kitOne K (.type "list") (.ref Cs)=some false)(x_kn5:PySem.W.kitOne K (.type "tuple") (.ref Cs)=some false):
  ∃ fd:FuncData,(∀ (s:Shared) (v:Value),BindsTo s fd ⟨[v],[]⟩ [("_law_script",v)])/\∀ base:Heap,K.In base->base.Ns mainGlobals mg->FnOk l.prog w K mg base CX0 16 fa fd ["_law_script"] (Ztj K):=by
 have e:=hfa.symm.trans (mg_of X G a58);cases e;have T:Txt K mg C Cg Cs:=⟨⟨pg,hd,po,sa⟩,nM,nA,⟨pg_Cg,hd_Cg,po_Cg,sa_Cg⟩,nP,⟨pg_Cs,hd_Cs,po_Cs,sa_Cs⟩,nSg,nSd,nSs,nSt,mg_none_of X G z0,mg_none_of X G z1,mg_none_of X G z2,mg_none_of X G z3,mg_none_of X G z4,mg_none_of X G z5,mg_none_of X G z6,mg_none_of X G z7,mg_none_of X G z8,mg_none_of X G z9,mg_none_of X G z10,mg_none_of X G z11,mg_none_of X G z12,mg_none_of X G z13,mg_none_of X G z14,⟨t1,mg_of X G g1⟩,⟨t2,mg_of X G g2⟩,⟨t3,mg_of X G g3⟩,⟨t4,mg_of X G g4⟩,⟨t5,mg_of X G g5⟩,mg_of X G aCs,x_ic1,x_ic2,x_ic3,x_ic4,x_kn0,x_kn1,x_kn2,x_kn3,x_kn4,x_kn5⟩
 obtain⟨a1,_,F1⟩:=u1;have b1:=F1.binds (ps:=["thing"]) λ_ _ _ _ _ _ us hl=>by obtain⟨_,rfl⟩:=ex1 hl;rfl
 obtain⟨a2,_,F2⟩:=u2;have b2:=F2.binds (ps:=["many","arrows"]) λ_ _ _ _ _ _ us hl=>by obtain⟨_,_,rfl⟩:=ex2 hl;rfl
 obtain⟨a3,_,F3⟩:=u3;have b3:=F3.binds (ps:=["many","thing"]) λ_ _ _ _ _ _ us hl=>by obtain⟨_,_,rfl⟩:=ex2 hl;rfl
 obtain⟨a4,_,F4⟩:=u4;have b4:=F4.binds (ps:=["one","other"]) λ_ _ _ _ _ _ us hl=>by obtain⟨_,_,rfl⟩:=ex2 hl;rfl
 obtain⟨a5,_,F5⟩:=u5;have b5:=F5.binds (ps:=["one","other"]) λ_ _ _ _ _ _ us hl=>by obtain⟨_,_,rfl⟩:=ex2 hl;rfl
 obtain⟨a6,_,F6⟩:=u6;have b6:=F6.binds (ps:=["one","other"]) λ_ _ _ _ _ _ us hl=>by obtain⟨_,_,rfl⟩:=ex2 hl;rfl
 obtain⟨a7,_,F7⟩:=u7;have b7:=F7.binds (ps:=["one","other"]) λ_ _ _ _ _ _ us hl=>by obtain⟨_,_,rfl⟩:=ex2 hl;rfl
 obtain⟨a8,_,F8⟩:=u8;have b8:=F8.binds (ps:=["one","other"]) λ_ _ _ _ _ _ us hl=>by obtain⟨_,_,rfl⟩:=ex2 hl;rfl
 obtain⟨a9,_,F9⟩:=u9;have b9:=F9.binds (ps:=["ground","thing"]) λ_ _ _ _ _ _ us hl=>by obtain⟨_,_,rfl⟩:=ex2 hl;rfl
 obtain⟨a10,_,F10⟩:=u10;have b10:=F10.binds (ps:=["ground","wide","thing"]) λ_ _ _ _ _ _ us hl=>by obtain⟨_,_,_,rfl⟩:=ex3 hl;rfl
 obtain⟨a11,_,F11⟩:=u11;have b11:=F11.binds (ps:=["ground","many"]) λ_ _ _ _ _ _ us hl=>by obtain⟨_,_,rfl⟩:=ex2 hl;rfl
 obtain⟨a12,_,F12⟩:=u12;have b12:=F12.binds (ps:=["ground","high","wide"]) λ_ _ _ _ _ _ us hl=>by obtain⟨_,_,_,rfl⟩:=ex3 hl;rfl
 obtain⟨a13,_,F13⟩:=u13;have b13:=F13.binds (ps:=["ground","one","other"]) λ_ _ _ _ _ _ us hl=>by obtain⟨_,_,_,rfl⟩:=ex3 hl;rfl
 obtain⟨a14,_,F14⟩:=u14;have b14:=F14.binds (ps:=["ground","row"]) λ_ _ _ _ _ _ us hl=>by obtain⟨_,_,rfl⟩:=ex2 hl;rfl
 obtain⟨a15,_,F15⟩:=u15;have b15:=F15.binds (ps:=["ground","row","column"]) λ_ _ _ _ _ _ us hl=>by obtain⟨_,_,_,rfl⟩:=ex3 hl;rfl
 obtain⟨a16,_,F16⟩:=u16;have b16:=F16.binds (ps:=["table"]) λ_ _ _ _ _ _ us hl=>by obtain⟨_,rfl⟩:=ex1 hl;rfl
 obtain⟨a17,_,F17⟩:=u17;have b17:=F17.binds (ps:=["drawing","thing"]) λ_ _ _ _ _ _ us hl=>by obtain⟨_,_,rfl⟩:=ex2 hl;rfl
 obtain⟨a18,_,F18⟩:=u18;have b18:=F18.binds (ps:=["ground","high","wide","thing"]) λ_ _ _ _ _ _ us hl=>by obtain⟨_,_,_,_,rfl⟩:=ex4 hl;rfl
 obtain⟨a19,_,F19⟩:=u19;have b19:=F19.binds (ps:=["ground","drawing","sizes","thing"]) λ_ _ _ _ _ _ us hl=>by obtain⟨_,_,_,_,rfl⟩:=ex4 hl;rfl
 obtain⟨a20,_,F20⟩:=u20;have b20:=F20.binds (ps:=["standing","ground","drawing"]) λ_ _ _ _ _ _ us hl=>by obtain⟨_,_,_,rfl⟩:=ex3 hl;rfl
 obtain⟨a21,_,F21⟩:=u21;have b21:=F21.binds (ps:=["standing","thing"]) λ_ _ _ _ _ _ us hl=>by obtain⟨_,_,rfl⟩:=ex2 hl;rfl
 obtain⟨a22,_,F22⟩:=u22;have b22:=F22.binds (ps:=["ground","drawing","standings"]) λ_ _ _ _ _ _ us hl=>by obtain⟨_,_,_,rfl⟩:=ex3 hl;rfl
 obtain⟨a23,_,F23⟩:=u23;have b23:=F23.binds (ps:=["standing","thing"]) λ_ _ _ _ _ _ us hl=>by obtain⟨_,_,rfl⟩:=ex2 hl;rfl
 obtain⟨a24,_,F24⟩:=u24;have b24:=F24.binds (ps:=["standing","changes","backs"]) λ_ _ _ _ _ _ us hl=>by obtain⟨_,_,_,rfl⟩:=ex3 hl;rfl
 obtain⟨a25,_,F25⟩:=u25;have b25:=F25.binds (ps:=["standing","other","changes","backs"]) λ_ _ _ _ _ _ us hl=>by obtain⟨_,_,_,_,rfl⟩:=ex4 hl;rfl
 obtain⟨a26,_,F26⟩:=u26;have b26:=F26.binds (ps:=["standing","other","changes","backs"]) λ_ _ _ _ _ _ us hl=>by obtain⟨_,_,_,_,rfl⟩:=ex4 hl;rfl
 obtain⟨a27,_,F27⟩:=u27;have b27:=F27.binds (ps:=["standing","parts","changes","backs"]) λ_ _ _ _ _ _ us hl=>by obtain⟨_,_,_,_,rfl⟩:=ex4 hl;rfl
 obtain⟨a28,_,F28⟩:=u28;have b28:=F28.binds (ps:=["standing","other","part"]) λ_ _ _ _ _ _ us hl=>by obtain⟨_,_,_,rfl⟩:=ex3 hl;rfl
 obtain⟨a29,_,F29⟩:=u29;have b29:=F29.binds (ps:=["standing","paper"]) λ_ _ _ _ _ _ us hl=>by obtain⟨_,_,rfl⟩:=ex2 hl;rfl
 obtain⟨a30,_,F30⟩:=u30;have b30:=F30.binds (ps:=["number"]) λ_ _ _ _ _ _ us hl=>by obtain⟨_,rfl⟩:=ex1 hl;rfl
 obtain⟨a31,_,F31⟩:=u31;have b31:=F31.binds (ps:=["thing"]) λ_ _ _ _ _ _ us hl=>by obtain⟨_,rfl⟩:=ex1 hl;rfl
 obtain⟨a32,_,F32⟩:=u32;have b32:=F32.binds (ps:=["top","bottom"]) λ_ _ _ _ _ _ us hl=>by obtain⟨_,_,rfl⟩:=ex2 hl;rfl
 obtain⟨a33,_,F33⟩:=u33;have b33:=F33.binds (ps:=["rest","prime"]) λ_ _ _ _ _ _ us hl=>by obtain⟨_,_,rfl⟩:=ex2 hl;rfl
 obtain⟨a34,_,F34⟩:=u34;have b34:=F34.binds (ps:=["top","bottom","prime"]) λ_ _ _ _ _ _ us hl=>by obtain⟨_,_,_,rfl⟩:=ex3 hl;rfl
 obtain⟨a35,_,F35⟩:=u35;have b35:=F35.binds (ps:=["thing"]) λ_ _ _ _ _ _ us hl=>by obtain⟨_,rfl⟩:=ex1 hl;rfl
 obtain⟨a36,_,F36⟩:=u36;have b36:=F36.binds (ps:=["_law_script","_law_k"]) λ_ _ _ _ _ _ us hl=>by obtain⟨_,_,rfl⟩:=ex2 hl;rfl
 obtain⟨a37,_,F37⟩:=u37;have b37:=F37.binds (ps:=["_law_cell_here"]) λ_ _ _ _ _ _ us hl=>by obtain⟨_,rfl⟩:=ex1 hl;rfl
 obtain⟨a38,_,F38⟩:=u38;have b38:=F38.binds (ps:=["_law_bag_here","_law_many"]) λ_ _ _ _ _ _ us hl=>by obtain⟨_,_,rfl⟩:=ex2 hl;rfl
 obtain⟨a39,_,F39⟩:=u39;have b39:=F39.binds (ps:=["_law_one","_law_two"]) λ_ _ _ _ _ _ us hl=>by obtain⟨_,_,rfl⟩:=ex2 hl;rfl
 obtain⟨a40,_,F40⟩:=u40;have b40:=F40.binds (ps:=["_law_top","_law_bottom"]) λ_ _ _ _ _ _ us hl=>by obtain⟨_,_,rfl⟩:=ex2 hl;rfl
 obtain⟨a41,_,F41⟩:=u41;have b41:=F41.binds (ps:=["_law_bag_here"]) λ_ _ _ _ _ _ us hl=>by obtain⟨_,rfl⟩:=ex1 hl;rfl
 obtain⟨a42,_,F42⟩:=u42;have b42:=F42.binds (ps:=["_law_bag_here","_law_p"]) λ_ _ _ _ _ _ us hl=>by obtain⟨_,_,rfl⟩:=ex2 hl;rfl
 obtain⟨a43,_,F43⟩:=u43;have b43:=F43.binds (ps:=["_law_p","_law_a","_law_b"]) λ_ _ _ _ _ _ us hl=>by obtain⟨_,_,_,rfl⟩:=ex3 hl;rfl
 obtain⟨a44,_,F44⟩:=u44;have b44:=F44.binds (ps:=["_law_p","_law_a","_law_b"]) λ_ _ _ _ _ _ us hl=>by obtain⟨_,_,_,rfl⟩:=ex3 hl;rfl
 obtain⟨a45,_,F45⟩:=u45;have b45:=F45.binds (ps:=["_law_p","_law_k"]) λ_ _ _ _ _ _ us hl=>by obtain⟨_,_,rfl⟩:=ex2 hl;rfl
 obtain⟨a46,_,F46⟩:=u46;have b46:=F46.binds (ps:=["_law_bag_here","_law_p","_law_high","_law_wide"]) λ_ _ _ _ _ _ us hl=>by obtain⟨_,_,_,_,rfl⟩:=ex4 hl;rfl
 obtain⟨a47,_,F47⟩:=u47;have b47:=F47.binds (ps:=["_law_bag_here","_law_p","_law_high","_law_wide"]) λ_ _ _ _ _ _ us hl=>by obtain⟨_,_,_,_,rfl⟩:=ex4 hl;rfl
 obtain⟨a48,_,F48⟩:=u48;have b48:=F48.binds (ps:=["_law_p","_law_many"]) λ_ _ _ _ _ _ us hl=>by obtain⟨_,_,rfl⟩:=ex2 hl;rfl
 obtain⟨a49,_,F49⟩:=u49;have b49:=F49.binds (ps:=["_law_bag_here"]) λ_ _ _ _ _ _ us hl=>by obtain⟨_,rfl⟩:=ex1 hl;rfl
 obtain⟨a50,_,F50⟩:=u50;have b50:=F50.binds (ps:=["_law_bag_here","_law_p","_law_many","_law_arrows"]) λ_ _ _ _ _ _ us hl=>by obtain⟨_,_,_,_,rfl⟩:=ex4 hl;rfl
 obtain⟨a51,_,F51⟩:=u51;have b51:=F51.binds (ps:=["_law_bag_here"]) λ_ _ _ _ _ _ us hl=>by obtain⟨_,rfl⟩:=ex1 hl;rfl
 obtain⟨a52,_,F52⟩:=u52;have b52:=F52.binds (ps:=["_law_bag_here","_law_p","_law_many","_law_arrows","_law_standing_here"]) λ_ _ _ _ _ _ us hl=>by obtain⟨_,_,_,_,_,rfl⟩:=ex5 hl;rfl
 obtain⟨a53,_,F53⟩:=u53;have b53:=F53.binds (ps:=["_law_bag_here","_law_p","_law_table_here"]) λ_ _ _ _ _ _ us hl=>by obtain⟨_,_,_,rfl⟩:=ex3 hl;rfl
 obtain⟨a54,_,F54⟩:=u54;have b54:=F54.binds (ps:=["_law_bag_here","_law_p","_law_units"]) λ_ _ _ _ _ _ us hl=>by obtain⟨_,_,_,rfl⟩:=ex3 hl;rfl
 obtain⟨a55,_,F55⟩:=u55;have b55:=F55.binds (ps:=["_law_bag_here","_law_p","_law_good","_law_units","_law_other"]) λ_ _ _ _ _ _ us hl=>by obtain⟨_,_,_,_,_,rfl⟩:=ex5 hl;rfl
 obtain⟨a56,_,F56⟩:=u56;have b56:=F56.binds (ps:=["_law_bag_here","_law_k","_law_units"]) λ_ _ _ _ _ _ us hl=>by obtain⟨_,_,_,rfl⟩:=ex3 hl;rfl
 obtain⟨a57,_,F57⟩:=u57;have b57:=F57.binds (ps:=["_law_bag_here","_law_one","_law_other"]) λ_ _ _ _ _ _ us hl=>by obtain⟨_,_,_,rfl⟩:=ex3 hl;rfl
 have F58:=fun_mk (st:=Zkv) l58 c58 k58;obtain⟨_,F59⟩:=u59;have b59:=F59.binds (ps:=["self","many","arrows"]) λ_ _ _ _ _ _ us hl=>by obtain⟨_,_,_,rfl⟩:=ex3 hl;rfl
 obtain⟨_,F60⟩:=u60;have b60:=F60.binds (ps:=["self","prime"]) λ_ _ _ _ _ _ us hl=>by obtain⟨_,_,rfl⟩:=ex2 hl;rfl
 have F61:FunD K "number" "Ground.number" Zaw f61 _ D61:=⟨⟨oc61,od61,kV61,dc61,pm61,an61,cd61,ct61,sl61,rfl,l61,c61⟩⟩
 have b61:=Zg7 (fd:=fnOf "number" "Ground.number" (Zd0 Zaw) (Zci Zaw) (Zaf Zaw) (.ref D61) kV61 dc61 pm61 an61 cd61 ct61) (ps:=["self","top","bottom"]) (ds:=[.int 1 dt61]) dl61 rfl λus hl=>match us,(show us.length=2 by simpa using hl) with|[_,_],_=>⟨_,rfl,rfl⟩
 have bF61:=Zg7 (fd:=fnOf "number" "Ground.number" (Zd0 Zaw) (Zci Zaw) (Zaf Zaw) (.ref D61) kV61 dc61 pm61 an61 cd61 ct61) (ps:=["self","top","bottom"]) (ds:=[]) dl61 rfl λus hl=>match us,(show us.length=3 by simpa using hl) with|[_,_,_],_=>⟨_,rfl,rfl⟩
 obtain⟨_,F62⟩:=u62;have b62:=F62.binds (ps:=["self","thing"]) λ_ _ _ _ _ _ us hl=>by obtain⟨_,_,rfl⟩:=ex2 hl;rfl
 obtain⟨_,F63⟩:=u63;have b63:=F63.binds (ps:=["self","ground","drawing","sizes","tables"]) λ_ _ _ _ _ _ us hl=>by obtain⟨_,_,_,_,_,rfl⟩:=ex5 hl;rfl
 refine⟨fnOf "law" "law" (Zd0 Zkv) (Zci Zkv) (Zaf Zkv) .none kV58 dc58 pm58 an58 cd58 ct58,λs v=>.of_eq rfl,λbase KB _=>?_⟩;have C1:Cal l.prog w K mg base "is_whole" 1 Zhf:=⟨_,_,_,Zt6 F1 T ,mg_of X G a1,F1.kp,b1⟩
 have C1A:Cal l.prog w K mg base "is_whole" 1 Zgl:=⟨_,_,_,Zrf F1 T ,mg_of X G a1,F1.kp,b1⟩
 have C3:Cal l.prog w K mg base "is_arrow" 2 Zmw:=⟨_,_,_,Zuj F3 T C1,mg_of X G a3,F3.kp,b3⟩
 have C2:Cal l.prog w K mg base "makes_drawing" 3 Zmu:=⟨_,_,_,Zud F2 T C1 C3,mg_of X G a2,F2.kp,b2⟩
 have C59:CalI l.prog w K mg base "Drawing" C 4 (Zlp C):=⟨_,_,_,ok_init F59 T C2,⟨mk,a59,i59,kc⟩,mg_of X G aC,b59⟩
 have C7:Cal l.prog w K mg base "leading_steps" 1 Zqc:=⟨_,_,_,ok_lead F7 T hpt,mg_of X G a7,F7.kp,b7⟩
 have C6:Cal l.prog w K mg base "shortened" 2 Zmr:=⟨_,_,_,Zua F6 T C7,mg_of X G a6,F6.kp,b6⟩
 have C5:Cal l.prog w K mg base "not_both_long" 3 spNbl:=⟨_,_,_,ok_nbl F5 T C6,mg_of X G a5,F5.kp,b5⟩
 have C4:Cal l.prog w K mg base "common_divisor" 4 Zqg:=⟨_,_,_,ok_cdB F4 T C5,mg_of X G a4,F4.kp,b4⟩
 have C30:Cal l.prog w K mg base "is_prime" 1 Zmt:=⟨_,_,_,Zuc F30 T ,mg_of X G a30,F30.kp,b30⟩
 have C31:Cal l.prog w K mg base "tells_ground" 2 Zmp:=⟨_,_,_,Zt7 F31 T C1 C30,mg_of X G a31,F31.kp,b31⟩
 have C32:Cal l.prog w K mg base "fraction" 5 Zmv:=⟨_,_,_,Zui F32 T hpt C4,mg_of X G a32,F32.kp,b32⟩
 have C33:Cal l.prog w K mg base "inverse" 1 spInv:=⟨_,_,_,ok_inv F33 T ,mg_of X G a33,F33.kp,b33⟩
 have C34:Cal l.prog w K mg base "rest_of" 2 Zms:=⟨_,_,_,Zub F34 T C33,mg_of X G a34,F34.kp,b34⟩
 have C35:Cal l.prog w K mg base "is_fraction" 5 spFr:=⟨_,_,_,ok_fr F35 T C1A C4,mg_of X G a35,F35.kp,b35⟩
 have C60:CalI l.prog w K mg base "Ground" Cg 3 (Zim Cg):=⟨_,_,_,Zuh F60 T C31,⟨mk_Cg,a60,i60,kc_Cg⟩,mg_of X G aCg,b60⟩
 have C61:CalD l.prog w K mg base Cg "number" 6 (Zj1 Cg) [.int 1]:=⟨_,_,_,_,Zrg F61 T C32 C34,⟨a61,i61,k61⟩,b61,.cons ⟨_,rfl⟩ .nil⟩
 have C61F:CalD l.prog w K mg base Cg "number" 6 (Zj1 Cg) []:=⟨_,_,_,[],Zrg F61 T C32 C34,⟨a61,i61,k61⟩,bF61,.nil⟩
 have C62:CalM l.prog w K mg base Cg "is_number" 6 (spIsN Cg):=⟨_,_,_,ok_isn F62 T C1A C35,⟨a62,i62,F62.kp⟩,b62⟩
 have C10:Cal l.prog w K mg base "is_row" 7 (Zqb Cg):=⟨_,_,_,Zug F10 T C62,mg_of X G a10,F10.kp,b10⟩
 have C9:Cal l.prog w K mg base "is_table" 8 (Znz Cg):=⟨_,_,_,Zuf F9 T C1A C10,mg_of X G a9,F9.kp,b9⟩
 have C17:Cal l.prog w K mg base "are_sizes" 2 (spSz C):=⟨_,_,_,ok_sz F17 T C1,mg_of X G a17,F17.kp,b17⟩
 have C18:Cal l.prog w K mg base "is_table_of" 9 (spTo Cg):=⟨_,_,_,ok_to F18 T C9,mg_of X G a18,F18.kp,b18⟩
 have C19:Cal l.prog w K mg base "are_tables" 10 (spTs C Cg):=⟨_,_,_,ok_ts F19 T C18,mg_of X G a19,F19.kp,b19⟩
 have C63:CalI l.prog w K mg base "Standing" Cs 11 (spSI Cs C Cg):=⟨_,_,_,Zt8 F63 T C17 C19,⟨mk_Cs,a63,i63,kc_Cs⟩,mg_of X G aCs,b63⟩
 have C8:Cal l.prog w K mg base "common_multiple" 5 spCmB:=⟨_,_,_,ok_cmB F8 T hpt C4,mg_of X G a8,F8.kp,b8⟩
 have C14:Cal l.prog w K mg base "whole_row" 6 (spWrZ Cg):=⟨_,_,_,ok_wrZ F14 T hpt C8,mg_of X G a14,F14.kp,b14⟩
 have C12:Cal l.prog w K mg base "noughts" 7 (spNou Cg):=⟨_,_,_,ok_nou F12 T C61,mg_of X G a12,F12.kp,b12⟩
 have C11:Cal l.prog w K mg base "plain" 8 (spPl Cg):=⟨_,_,_,ok_pl F11 T C12 C61,mg_of X G a11,F11.kp,b11⟩
 have C15:Cal l.prog w K mg base "row_times" 7 (spRt Cg):=⟨_,_,_,ok_rt F15 T C61F,mg_of X G a15,F15.kp,b15⟩
 have C16:Cal l.prog w K mg base "turned_about" 1 spTa:=⟨_,_,_,ok_ta F16 T ,mg_of X G a16,F16.kp,b16⟩
 have C13:Cal l.prog w K mg base "product" 8 (Zn0 Cg):=⟨_,_,_,ok_prod F13 T C14 C16 C15,mg_of X G a13,F13.kp,b13⟩
 have C21:Cal l.prog w K mg base "are_changes" 10 (spAc Cs C Cg):=⟨_,_,_,ok_ac F21 T C18,mg_of X G a21,F21.kp,b21⟩
 have C20:Cal l.prog w K mg base "stands_on" 1 (spOn Cs C Cg):=⟨_,_,_,ok_on F20 T ,mg_of X G a20,F20.kp,b20⟩
 have C23:Cal l.prog w K mg base "is_beside" 2 (Zks Cs C Cg):=⟨_,_,_,Zv1 F23 T C20,mg_of X G a23,F23.kp,b23⟩
 have C24:Cal l.prog w K mg base "are_backs" 11 (spBks Cs C Cg):=⟨_,_,_,ok_bks F24 T C21 C13 C11,mg_of X G a24,F24.kp,b24⟩
 have C25:Cal l.prog w K mg base "is_led" 12 (Zj2 Cs C Cg):=⟨_,_,_,ok_ledt F25 T C24 C13,mg_of X G a25,F25.kp,b25⟩
 have C18A:Cal l.prog w K mg base "is_table_of" 9 (spToA Cg):=⟨_,_,_,ok_toA F18 T C9,mg_of X G a18,F18.kp,b18⟩
 have C21A:Cal l.prog w K mg base "are_changes" 10 (spAcA Cs C Cg):=⟨_,_,_,ok_acA F21 T C18A,mg_of X G a21,F21.kp,b21⟩
 have C23A:Cal l.prog w K mg base "is_beside" 2 (Zht Cs C Cg):=⟨_,_,_,Zrh F23 T C20,mg_of X G a23,F23.kp,b23⟩
 have C23O:Cal l.prog w K mg base "is_beside" 2 (λvs H Q E=>Zks Cs C Cg vs H Q E\/Zht Cs C Cg vs H Q E):=⟨_,_,_,ok_bsdO F23 T C20,mg_of X G a23,F23.kp,b23⟩
 have C24A:Cal l.prog w K mg base "are_backs" 11 (Zqh Cs C Cg):=⟨_,_,_,ok_bksN F24 T C21A,mg_of X G a24,F24.kp,b24⟩
 have C25A:Cal l.prog w K mg base "is_led" 12 (Zn4 Cs C Cg):=⟨_,_,_,ok_ledN F25 T C24A,mg_of X G a25,F25.kp,b25⟩
 have C26O:Cal l.prog w K mg base "lets_by_change" 13 (λvs H Q E=>Zqd Cs C Cg vs H Q E\/Zlo Cs C Cg vs H Q E):=⟨_,_,_,ok_lbcO F26 T C23 C25 C23O C25A,mg_of X G a26,F26.kp,b26⟩
 have C22:Cal l.prog w K mg base "side_of" 13 (Zmq Cs C Cg):=⟨_,_,_,Zt9 F22 T C20 C63,mg_of X G a22,F22.kp,b22⟩
 have C27:Cal l.prog w K mg base "lets_by_apart" 14 (Zti Cs C Cg):=⟨_,_,_,ok_lba F27 T C23A C22 C25,mg_of X G a27,F27.kp,b27⟩
 have C28:Cal l.prog w K mg base "lets_by_unlike" 3 (Zth Cs C Cg):=⟨_,_,_,ok_lbu F28 T C23O,mg_of X G a28,F28.kp,b28⟩
 have C29:Cal l.prog w K mg base "lets_by" 15 (Zqe K Cs C Cg):=⟨_,_,_,ok_lbA F29 T C26O C27 C28,mg_of X G a29,F29.kp,b29⟩
 have C36:Cal l.prog w K mg base "_law_cell" 1 (Zqf K):=⟨_,_,_,ok_cell F36 T ,mg_of X G a36,F36.kp,b36⟩
 have C37:Cal l.prog w K mg base "_law_bag" 1 spBag:=⟨_,_,_,ok_bag F37 T ,mg_of X G a37,F37.kp,b37⟩
 have C38:Cal l.prog w K mg base "_law_draw" 1 Zc0:=⟨_,_,_,ok_draw F38 T ,mg_of X G a38,F38.kp,b38⟩
 have C39:Cal l.prog w K mg base "_law_gcd" 1 spGcd:=⟨_,_,_,ok_gcd F39 T ,mg_of X G a39,F39.kp,b39⟩
 have C40B:Cal l.prog w K mg base "_law_lowest" 2 Zn3:=⟨_,_,_,ok_lowB F40 T hpt C39,mg_of X G a40,F40.kp,b40⟩
 have C43B:Cal l.prog w K mg base "_law_add" 3 (Zo4 Zgt):=⟨_,_,_,ok_addB F43 T C40B,mg_of X G a43,F43.kp,b43⟩
 have C44B:Cal l.prog w K mg base "_law_mul" 3 (Zo4 Zdj):=⟨_,_,_,ok_mulB F44 T C40B,mg_of X G a44,F44.kp,b44⟩
 have C45:Cal l.prog w K mg base "_law_int" 1 Ztk:=⟨_,_,_,ok_int F45 T ,mg_of X G a45,F45.kp,b45⟩
 have C41:Cal l.prog w K mg base "_law_small_prime" 2 spSmp:=⟨_,_,_,ok_smp F41 T C38,mg_of X G a41,F41.kp,b41⟩
 have C42:Cal l.prog w K mg base "_law_number" 2 (Zn2 7):=⟨_,_,_,ok_numf F42 T C38,mg_of X G a42,F42.kp,b42⟩
 have C46:Cal l.prog w K mg base "_law_rows" 4 Zqa:=⟨_,_,_,ok_rows F46 T C38 C42 C45,mg_of X G a46,F46.kp,b46⟩
 have C47:Cal l.prog w K mg base "_law_table" 5 spTbG:=⟨_,_,_,ok_tb F47 T C46 C38 C42 C44B C43B,mg_of X G a47,F47.kp,b47⟩
 have C49:Cal l.prog w K mg base "_law_drawing" 2 (spOut way0):=⟨_,_,_,Zue F49 T C38,mg_of X G a49,F49.kp,b49⟩
 have C48:Cal l.prog w K mg base "_law_plain" 2 spPlC:=⟨_,_,_,ok_plC F48 T C45,mg_of X G a48,F48.kp,b48⟩
 have C50:Cal l.prog w K mg base "_law_standing" 6 spLs6:=⟨_,_,_,ok_ls6 F50 T C38 C47,mg_of X G a50,F50.kp,b50⟩
 have C51:Cal l.prog w K mg base "_law_odd" 2 spOdd:=⟨_,_,_,ok_odd F51 T C38,mg_of X G a51,F51.kp,b51⟩
 have C56:Cal l.prog w K mg base "_law_odd_there" 3 (Zn1 Cs C Cg):=⟨_,_,_,ok_oddT F56 T C51,mg_of X G a56,F56.kp,b56⟩
 have C57:Cal l.prog w K mg base "_law_unlike_odd" 2 (spUnl K Cs C Cg):=⟨_,_,_,ok_unl F57 T C38,mg_of X G a57,F57.kp,b57⟩
 have C52:Cal l.prog w K mg base "_law_other_beside" 13 (spObe Cs C Cg):=⟨_,_,_,ok_obe F52 T C38 C60 C59 C63,mg_of X G a52,F52.kp,b52⟩
 have C53:Cal l.prog w K mg base "_law_number_spoilt" 2 spNsp:=⟨_,_,_,ok_nsp F53 T C38,mg_of X G a53,F53.kp,b53⟩
 have C54:Cal l.prog w K mg base "_law_units_spoilt" 3 (spUsp Cs C Cg):=⟨_,_,_,ok_usp F54 T C38 C53,mg_of X G a54,F54.kp,b54⟩
 have C55:Cal l.prog w K mg base "_law_spoilt" 4 (spSpo K Cs C Cg):=⟨_,_,_,ok_spo F55 T C38 C54 C56,mg_of X G a55,F55.kp,b55⟩
 exact ok_law F58 T C36 C37 C41 C49 C50 C60 C59 C63 C48 C52 C55 C57 C56 C29
theorem walk {l:PySem.W.OpenLaw}{q:Program}{loose:List Str}{XP:(Str->Option Value)->Heap->Prop}{YP:World->Heap->Prop}{d:DefRec}{K:Params->Frag}(hq:importsNone q=true)(hn:l.most=some 63)(hdf:d.params.defaults=[])(hY:∀ (w:World) (h:Heap),YP w h->(K w.params).In h)(F:∀ (w:World) (mg:Str->Option Value) (fa:Addr) (h:Heap),(K w.params).In h->h.Ns mainGlobals mg->mg d.name=some (.ref fa)->
   ∃ fd:FuncData,(∀ (s:Shared) (u:Value),BindsTo s fd ⟨[u],[]⟩ [("_law_script",u)])/\∀ base:Heap,(K w.params).In base->base.Ns mainGlobals mg->FnOk l.prog w (K w.params) mg base CX0 16 fa fd ["_law_script"] (Ztj (K w.params))):
  PySem.W.WalkO q loose XP YP l.row.toRowW d [] (λf vs=>PySem.call f vs):=
 L2.walk_of (n:=63) (k:=16) (x:="_law_script") (CX:=λ_=>CX0) (sp:=λw=>Ztj (K w.params)) hq hn ⇑0 hdf ⟨rfl,⇑0,⇑0⟩ hY F (λ_ _ a ns hl _ hS=>⟨a,ns,rfl,hS,hl,λ_=>rfl⟩) (λ_ _ _ _ _ h=>h)
end Pf
namespace PySem.W.Fast
def tw16515202423051001662:=0
def tw10002886234987237555:=0
def tw9270564679200919561:=0
def tw12207439280050789864:=0
def tw6690098782776860688:=0
def tw6413339749114288846:=0
def tw13802792100859024563:=0
def tw9902215883702394128:=0
def tw6604078893408498847:=0
def tw8605024601152976426:=0
def tw14240273517110728724:=0
def tw218789486029730725:=0
def tw12330586963694592217:=0
def tw9505299048779661176:=0
def tw17137658148249805554:=0
def tw13998691670464524821:=0
def tw8266789389372095701:=0
def tw11587986859694935717:=0
def tw2546476363342733853:=0
def tw10242323505961612075:=0
def tw9433611058309133217:=0
def tw2886605171326129396:=0
def tw11311442757205324560:=0
def tw4891000776028883291:=0
def tw8438628413257456971:=0
def tw15953954637699231640:=0
def tw1119890338456972588:=0
def tw8468397036061197109:=0
def tw9863542783530856515:=0
def tw3472683231189439774:=0
def tw1556403554473524995:=0
def tw3772871804930489474:=0
def tw3215794942886338996:=0
def tw3233783516731042326:=0
def tw7621098798864001148:=0
def tw13019184594713320435:=0
def tw15775998712887742942:=0
def tw12582103192769789938:=0
def tw9036888920530568935:=0
def tw10639286240480888381:=0
def tw15357997960187113374:=0
def tw15660204503280336238:=0
def tw10132617193632731359:=0
def tw3071684948292244497:=0
def tw16631682849897267542:=0
def tw16354839671352705127:=0
def tw18407044140934599974:=0
def tw4172031712004906521:=0
def tw10191585769612915119:=0
def tw2025864099483629176:=0
def tw1696998151048047164:=0
def tw1585026439037604801:=0
def tw4367735780493283059:=0
def tw9093088426859044515:=0
def tw3854608421139460330:=0
def tw15856748570640289970:=0
def tw7491625016359582149:=0
def tw3658552869555457764:=0
def tw14000471320957475869:=0
def tw2853842860793768400:=0
def tw9998533300572551256:=0
def tw7870581353480184618:=0
def tw556810774855545393:=0
def tw16802646194068062510:=0
def tw13109882342108818550:=0
def tw10381292652877779739:=0
def tw8548187509724962171:=0
def tw2871683310370926625:=0
def tw8916505408729519509:=0
def tw879274053815924781:=0
def tw15729564601482608856:=0
def tw7444777676023683795:=0
def tw5828987984103451849:=0
def tw6315403107603659752:=0
def tw4414109057845485081:=0
def tw2816928187187036228:=0
def tw6502196012302491308:=0
def tw6904388548951751434:=0
def tw611780864643112270:=0
def tw16582441235486465298:=0
def tw11046154451632481170:=0
def tw4478733799684756976:=0
def tw8690681244802812751:=0
def tw3812471012243534245:=0
def tw18055377302622133308:=0
def tw5000369053859885450:=0
def tw11754905879677510150:=0
def tw17532976176759405785:=0
def tw4068838440798777643:=0
def tw9439248061960684749:=0
def tw334007125984384920:=0
def tw10326769786336197664:=0
def tw9730365908405647123:=0
def tw3463920408989226111:=0
def tw2434348899459150069:=0
def tw14734723814262849130:=0
def tw16149062255008654090:=0
def tw17325228693638788347:=0
def tw15722467888231875206:=0
def tw1910153693314760835:=0
def tw3251386752654230242:=0
def tw15050001425263352986:=0
def tw16534654911129918942:=0
def tw12353377149145238461:=0
def tw10245800578444961375:=0
def tw14642143604990020257:=0
def tw2815819313284873807:=0
def tw2954249636102389392:=0
def tw15524089759670658948:=0
def tw13055297761680900143:=0
def tw7407328241513221007:=0
def tw13173066474711706648:=0
def tw14099644748237276682:=0
def tw11442939818694178495:=0
def tw16291106863899089963:=0
def tw11675938490595253260:=0
def tw2924280044639165663:=0
def tw14982221366173481015:=0
def tw4057505939122193380:=0
def tw17726033165375433577:=0
def tw17509871100723462044:=0
def tw16381285415300215047:=0
def tw12513425812062842653:=0
def tw104217856360868378:=0
def tw5703662076202589875:=0
def tw18140537982739940016:=0
def tw11497461761459393154:=0
def tw1240023024040323503:=0
def tw9053423225173370232:=0
def tw19115260463592479:=0
def tw690857701499805810:=0
def tw4283359726983563009:=0
def tw13439584217540788051:=0
def tw11040556178745370934:=0
def tw7491195168749963082:=0
def tw8188393086911452552:=0
def tw7715061610409164318:=0
def tw12958501389711406898:=0
def tw14580040167399752444:=0
def tw978801076029194956:=0
def tw11745512509568343890:=0
def tw15287086245145278622:=0
def tw3727912585159120211:=0
def tw3410564356297262478:=0
def tw3368565358243962637:=0
def tw14441758751428385339:=0
def tw4696145190463876184:=0
def tw940563509595996979:=0
def tw5957562782335442793:=0
def tw13804289698626984100:=0
def tw10513370639393518895:=0
def tw9174967737888942434:=0
def tw16851734943398820679:=0
def tw13792600645031658167:=0
def tw4220633644498049389:=0
def tw5608088628214436592:=0
def tw8445919831654252485:=0
def tw13385726911853827668:=0
def tw9156604355454093277:=0
def tw16827656055522894218:=0
def tw10212687996707318119:=0
def tw10269465762625963309:=0
def tw9685797884059503939:=0
def tw3699237200430778443:=0
def tw4530624598645117238:=0
def tw7412929563343227955:=0
def tw11620936714699101655:=0
def tw7132785888566618041:=0
def tw8712634227213034878:=0
def tw15989864364357533068:=0
def tw12014054121662624621:=0
def tw17617296131598478402:=0
def tw6571694048908418324:=0
def tw8440818913164250079:=0
def tw430603412304003009:=0
def tw10461163862199472235:=0
def tw8414546730634866568:=0
def tw773100756857834430:=0
def tw8316257904983638101:=0
def tw3365187368917924928:=0
def tw28688209939835036:=0
def tw6895276439738311797:=0
def tw12201107739680732134:=0
def tw15854083126908774993:=0
def tw15505633052849698332:=0
def tw14219969478676216192:=0
def tw17302464197597288877:=0
def tw17639291347308765312:=0
def tw6632057936900977317:=0
def tw11923392811246437255:=0
def tw5088176608906062125:=0
def tw5088203316889418627:=0
def tw12684249384840713067:=0
def tw13544862474362508484:=0
def tw11546400505943270353:=0
def tw4596638204809428252:=0
def tw17453545969168668679:=0
def tw17989384727969470341:=0
def tw3522345869732071631:=0
def tw5289930264703820388:=0
def tw14064334494329063747:=0
def tw464560429763111811:=0
def tw16915427483243187028:=0
def tw11050023037453805225:=0
def tw12551964679955105343:=0
def tw597335719787264800:=0
def tw8044080269854804836:=0
def tw14396422033828343141:=0
def tw6313353714572894355:=0
def tw15711881878664743865:=0
def tw14805611433895966695:=0
def tw12770329133803218229:=0
def tw11778732044896907750:=0
def tw8839588234543087370:=0
def tw13526322202364904990:=0
def tw17975623994529264593:=0
def tw10097082748139536037:=0
def tw11855176171170691162:=0
def tw9408345283984083238:=0
def tw16820195419861554734:=0
def tw5034479510115051012:=0
def tw1768450013100534642:=0
def tw3386105558405835543:=0
def tw5886916436315871743:=0
def tw3641182354373607385:=0
def tw2999705217783445725:=0
def tw2055672321686267500:=0
def tw12964056256501710396:=0
def tw9411644597807326077:=0
def tw17085085071495618615:=0
def tw6906134036177634399:=0
def tw11376089493111769726:=0
def tw3707486074463424622:=0
def tw5943092860377318078:=0
def tw4648450517846044045:=0
def tw7193829322570837433:=0
def tw9169349684144994074:=0
def tw14209043718011742191:=0
def tw14288739594690008263:=0
end PySem.W.Fast
open PySem PySem.W PyProof.Rows
local macro_rules | `(tactic| walk_at "v")=>`(tactic| exact⟨_,⟨⟨_,_,_,_,_,_,_,_,_,rfl,by k_is,by k_is⟩,by k_is⟩⟩)
local macro_rules | `(tactic| walk_at "u")=>`(tactic| exact⟨by k_is,_,⟨⟨_,_,_,_,_,_,_,_,_,rfl,by k_is,by k_is⟩,by k_is⟩⟩)
set_option maxRecDepth 100000 in
set_option maxHeartbeats 0 in
theorem PySem.Challenge.cw_limbtables_k67_papers_of_no_form_holds : PySem.Challenge.rw_limbtables_k67_papers_of_no_form.Holds := by
 w_on;o_law;k_head;(case hw=>w_witness2)
 k_fill
 refine Pf.walk (l:=PySem.Challenge.rw_limbtables_k67_papers_of_no_form) ⋯ rfl rfl (λw h Y=>by first|exact PySem.W.kIn_of Y|exact PySem.W.km_in_of Y) ?F
 case F=>
  intro w mg fa h KX G hmg;refine' Pf.all_mk rfl KX G hmg ?u1 ?u2 ?u3 ?u4 ?u5 ?u6 ?u7 ?u8 ?u9 ?u10 ?u11 ?u12 ?u13 ?u14 ?u15 ?u16 ?u17 ?u18 ?u19 ?u20 ?u21 ?u22 ?u23 ?u24 ?u25 ?u26 ?u27 ?u28 ?u29 ?u30 ?u31 ?u32 ?u33 ?u34 ?u35 ?u36 ?u37 ?u38 ?u39 ?u40 ?u41 ?u42 ?u43 ?u44 ?u45 ?u46 ?u47 ?u48 ?u49 ?u50 ?u51 ?u52 ?u53 ?u54 ?u55 ?u56 ?u57 ?a58 ?l58 ?c58 ?k58 ?aC ?a59 ?i59 ?u59 ?pg ?hd ?po ?sa ?mk ?kc ?nM ?nA ?aCg ?a60 ?i60 ?u60 ?a61 ?i61 ?l61 ?dl61 ?c61 ?k61 ?a62 ?i62 ?u62 ?pg_Cg ?hd_Cg ?po_Cg ?sa_Cg ?mk_Cg ?kc_Cg ?nP ?aCs ?a63 ?i63 ?u63 ?pg_Cs ?hd_Cs ?po_Cs ?sa_Cs ?mk_Cs ?kc_Cs ?nSg ?nSd ?nSs ?nSt ?g1 ?g2 ?g3 ?g4 ?g5 ?z0 ?z1 ?z2 ?z3 ?z4 ?z5 ?z6 ?z7 ?z8 ?z9 ?z10 ?z11 ?z12 ?z13 ?z14 ?x_ic1 ?x_ic2 ?x_ic3 ?x_ic4 ?x_kn0 ?x_kn1 ?x_kn2 ?x_kn3 ?x_kn4 ?x_kn5
  (case u1|u2|u3|u4|u5|u6|u7|u8|u9|u10|u11|u12|u13|u14|u15|u16|u17|u18|u19|u20|u21|u22|u23|u24|u25|u26|u27|u28|u29|u30|u31|u32|u33|u34|u35|u36|u37|u38|u39|u40|u41|u42|u43|u44|u45|u46|u47|u48|u49|u50|u51|u52|u53|u54|u55|u56|u57=>walk_at "u")
  (case a58|l58|c58|k58|aC|a59|i59=>k_is)
  (case u59=>walk_at "v")
  (case pg|hd|po|sa|mk|kc|nM|nA|aCg|a60|i60=>k_is)
  (case u60=>walk_at "v")
  (case a61|i61|l61|dl61|c61|k61|a62|i62=>k_is)
  (case u62=>walk_at "v")
  (case pg_Cg|hd_Cg|po_Cg|sa_Cg|mk_Cg|kc_Cg|nP|aCs|a63|i63=>k_is)
  (case u63=>walk_at "v")
  (case pg_Cs|hd_Cs|po_Cs|sa_Cs|mk_Cs|kc_Cs|nSg|nSd|nSs|nSt|g1|g2|g3|g4|g5|z0|z1|z2|z3|z4|z5|z6|z7|z8|z9|z10|z11|z12|z13|z14|x_ic1|x_ic2|x_ic3|x_ic4=>k_is)
  (case x_kn0|x_kn1|x_kn2|x_kn3|x_kn4|x_kn5=>kit_is)
#print axioms PySem.Challenge.cw_limbtables_k67_papers_of_no_form_holds