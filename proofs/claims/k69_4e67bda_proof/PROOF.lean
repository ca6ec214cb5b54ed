import PyProof.Rows.All
import Wide.All
import OpenK.AllK
import Wide.FinOn
import Lean
import PyProof.EqAt
import PyProof.EqKinds
import PyProof.TupleCall
import PyProof.ZipIter
import PyProof.Rows.ZipGen
import PyProof.SumWalkG
import PyProof.EnumMake
import PyProof.EnumFor
import PyProof.FactsAll.int_6
import PyProof.AutoIntG2
import PyProof.RulesAs
import PyProof.Rows.TopTwo
import PyProof.ExcArgsOwn
import PyProof.ExcBaseAll.ValueError
import OpenK.KDescr
import KE.RegKIsAll
import PyProof.EqKinds
import KE.KRevIter
import PyProof.ListNew
import KE.KItemsList
import KE.KLam
import KE.KMinKey
import PyProof.MinMaxWalk
import PyProof.NeKinds
import PySem.Challenge.RW_limbtables_k69_whole_every_paper_tried
open PySem.W (Frag)
variable{P:PySem.Program}{w:PySem.World}{K:PySem.W.Frag}{mg:PySem.Str->Option PySem.Value}{base:PySem.Heap}{f:PySem.Addr}{fd:PySem.FuncData}
local macro_rules|`(∅)=>`(by omega)
local macro_rules|`(⋯)=>`(by decide +kernel)
local macro_rules|`(⇑0)=>`(by decide)
local macro_rules|`(⇑1)=>`(by rfl)
noncomputable section
abbrev Jaa:=@List.getElem?_eq_getElem
abbrev Jab:=@List.length_map
abbrev Jac:=@List.getElem?_map
abbrev Jad:=@List.getD_eq_getElem?_getD
abbrev Jae:=@List.mem_of_getElem?
abbrev Jaf:=@List.getElem?_eq_some_iff
abbrev Jag:=@PySem.wpAny_bind
abbrev Jah:=@Nat.le_refl
abbrev Jai:=@List.getElem?_eq_none
abbrev Jaj:=@PySem.Heap.get?_push_of_some
abbrev Jak:=@PySem.Heap.lt_size
abbrev Jal:=@decide_eq_true
abbrev Jam:=@List.length_append
abbrev Jan:=@List.mem_iff_getElem
abbrev Jao:=@Nat.lt_of_lt_of_le
abbrev Jap:=@List.size_toArray
abbrev Jaq:=@List.mem_singleton
abbrev Jar:=@List.mem_append
abbrev Jas:=@PySem.Heap.get?_push_size
abbrev Jat:=@Bool.false_ne_true
abbrev Jau:=@List.mem_map
abbrev Jav:=@List.length_range
abbrev Jaw:=@List.getElem?_append_right
abbrev Jax:=@List.getElem?_append_left
abbrev Jay:=@List.all_eq_true
abbrev Jaz:=@List.map_append
abbrev Ja0:=@decide_eq_true_iff
abbrev Ja1:=@List.lookup_cons
abbrev Ja2:=@PySem.wpAny_pure
abbrev Ja3:=@decide_eq_false
abbrev Ja4:=@List.getElem?_range
abbrev Ja5:=@Bool.and_eq_true
abbrev Ja6:=@Nat.ne_of_lt
abbrev Ja7:=@Option.some.inj
abbrev Ja8:=@List.mem_append_right
abbrev Ja9:=@List.mem_cons
abbrev Jba:=@Int.emod_lt_of_pos
abbrev Jbb:=@PySem.boot_len
abbrev Jbc:=@PySem.mem_of_lookup
abbrev Jbd:=@List.getElem_mem
abbrev Jbe:=@PyProof.Rows.boot_isinstance
abbrev Jbf:=@PySem.PassesOwn.never
abbrev Jbg:=@List.length_take
abbrev Jbh:=@Nat.lt_of_le_of_lt
abbrev Jbi:=@Nat.le_trans
abbrev Jbj:=@beq_iff_eq
abbrev Jbk:=@List.mem_range
abbrev Jbl:=@PySem.wpAny_truthy_bool
abbrev Jbm:=@of_decide_eq_true
abbrev Jbn:=@List.mem_cons_of_mem
abbrev Jbo:=@Int.gcd_dvd_left
abbrev Jbp:=@List.length_replicate
abbrev Jbq:=@Int.fdiv_eq_ediv_of_nonneg
abbrev Jbr:=@Bool.eq_iff_iff
abbrev Jbs:=@Int.emod_nonneg
abbrev Jbt:=@PySem.Heap.size_push
abbrev Jbu:=@Int.toNat_natCast
abbrev Jbv:=@Int.gcd_dvd_right
abbrev Jbw:=@Nat.le_of_lt
abbrev Jbx:=@PyProof.Rows.callWith_type1
abbrev Jby:=@PySem.F.plain_min_loop
abbrev Jbz:=@PySem.W.kia_one
abbrev Jb0:=@Nat.lt_irrefl
abbrev Jb1:=@List.length_cons
abbrev Jb2:=@Int.ediv_mul_cancel
abbrev Jb3:=@List.mem_of_mem_eraseIdx
abbrev Jb4:=@List.ext_getElem?
abbrev Jb5:=@List.mem_cons_self
abbrev Jb6:=@PySem.F.plainAttrs_list
abbrev Jb7:=@List.take_of_length_le
abbrev Jb8:=@List.replicate_succ
abbrev Jb9:=@Int.toNat_of_nonneg
abbrev Jca:=@List.eraseIdx_eq_take_drop_succ
abbrev Jcb:=@Classical.byContradiction
abbrev Jcc:=@PySem.F.slot_list_append
abbrev Jcd:=@PySem.F.type_list_append
abbrev Jce:=@List.getElem?_replicate
abbrev Jcf:=@PySem.wpAny_seqItems
abbrev Jcg:=@PySem.wpAny_pyIter_list
abbrev Jch:=@Nat.le_of_succ_le
abbrev Jci:=@Int.emod_eq_of_lt
abbrev Jcj:=@PySem.wpAny_mono
abbrev Jck:=@Classical.choose_spec
abbrev Jcl:=@Nat.zero_le
abbrev Jcm:=@if_true
abbrev Jcn:=@Int.natAbs_mul
abbrev Jco:=@Nat.mul_le_mul
abbrev Jcp:=@Nat.pow_le_pow_right
abbrev Jcq:=@PySem.wpAny_passesOwn
abbrev Jcr:=@Nat.lt_succ_of_lt
abbrev Jcs:=@List.range_succ
abbrev Jct:=@Int.mul_le_mul_of_nonneg_right
abbrev Jcu:=@Int.eq_ofNat_of_zero_le
abbrev Jcv:=@List.map_congr_left
abbrev Jcw:=@List.length_zipWith
abbrev Jcx:=@Nat.add_mul
abbrev Jcy:=@List.length_drop
abbrev Jcz:=@Nat.le_add_right
abbrev Jc0:=@List.any_eq_true
abbrev Jc1:=@Int.mul_nonneg
abbrev Jc2:=@PySem.wpAny_tryCatch
abbrev Jc3:=@PySem.W.cellsFrom_some
abbrev Jc4:=@PySem.wpAny_Call_Name_kw
abbrev Jc5:=@Int.gcd_pos_of_ne_zero_right
abbrev Jc6:=@PySem.wpAny_setField_rec
abbrev Jc7:=@List.append_nil
abbrev Jc8:=@List.length_nil
abbrev Jc9:=@PySem.F.slot_int_bit_length
abbrev Jda:=@PySem.F.type_int_bit_length
abbrev Jdb:=@congrArg
abbrev Jdc:=@PySem.wpAny_holding
abbrev Jdd:=@List.flatten_cons
abbrev Jde:=@Int.natAbs_of_nonneg
abbrev Jdf:=@PySem.intBits_le_iff
abbrev Jdg:=@Nat.pow_lt_pow_right
abbrev Jdh:=@List.take_succ
abbrev Jdi:=@List.not_mem_nil
abbrev Jdj:=@beq_eq_false_iff_ne
abbrev Jdk:=@List.filterMap_cons
abbrev Jdl:=@Ne.symm
abbrev Jdm:=@PySem.Heap.SameBut.update
abbrev Jdn:=@PySem.wpAny_field
abbrev Jdo:=@Option.isSome_iff_exists
abbrev Jdp:=@List.getElem?_take_of_lt
abbrev Jdq:=@List.map_map
abbrev Jdr:=@List.length_set
abbrev Jds:=@Bool.and_true
abbrev Jdt:=@Bool.or_eq_true
abbrev Jdu:=@List.all_cons
abbrev Jdv:=@PyProof.Rows.boot_list
abbrev Jdw:=@Int.natCast_mul
abbrev Jdx:=@PySem.wpAny_pyNext_list_item
abbrev Jdy:=@PySem.F.entry_min_loop
abbrev Jdz:=@PySem.wpAny_nextOf_list_item
abbrev Jd0:=@Int.fmod_nonneg_of_pos
abbrev Jd1:=@PySem.F.plainAttrs_int
abbrev Jd2:=@PySem.wpAny_letGo
abbrev Jd3:=@List.nodup_append
abbrev Jd4:=@List.getElem?_set
abbrev Jd5:=@PySem.wpAny_isTrue_Compare1
abbrev Jd6:=@Nat.ne_of_gt
abbrev Jd7:=@PySem.wpAny_pyNext_list_end
abbrev Jd8:=@Int.emod_add_mul_ediv
abbrev Jd9:=@Nat.lt_succ_self
abbrev Jea:=@beq_self_eq_true
abbrev Jeb:=@PySem.wpAny_pyIter_zip
abbrev Jec:=@PySem.Around.under_plainId
abbrev Jed:=@Prod.ext
abbrev Jee:=@PyProof.Rows.boot_all
abbrev Jef:=@Bool.true_and
abbrev Jeg:=@PySem.wpAny_execs_nil
abbrev Jeh:=@PySem.W.plainGet_of
abbrev Jei:=@List.nodup_cons
abbrev Jej:=@Int.mul_pos
abbrev Jek:=@Int.ediv_nonneg
abbrev Jel:=@PySem.wpAny_updateSeq
abbrev Jem:=@PySem.F.slot_zip_next
abbrev Jen:=@PySem.W.callWith_K
abbrev Jeo:=@PySem.SeqAt.EqAt.of_refs
abbrev Jep:=@Int.gcd_comm
abbrev Jeq:=@Int.mul_comm
abbrev Jer:=@Int.fmod_lt_of_pos
abbrev Jes:=@Bool.false_and
abbrev Jet:=@List.take_zero
abbrev Jeu:=@Int.lt_trichotomy
abbrev Jev:=@PySem.wpAny_standAt
abbrev Jew:=@PySem.plainId_quiet
abbrev Jex:=@List.map_id
abbrev Jey:=@PySem.wpAny_onRaise
abbrev Jez:=@PySem.call_meets
set_option compiler.postponeCompile true
set_option bootstrap.genMatcherCode false
set_option genSizeOf false
set_option Elab.async false
set_option linter.all false
namespace L2
theorem Zue {p f1 f2 f3 f4 f5 f6 f7 f8 f9:Prop}{G:Prop}(h:p/\f1/\f2/\f3/\f4/\f5/\f6/\f7/\f8/\f9)(f:p->f1->f2->f3->f4->f5->f6->f7->f8->f9->G):G:= f h.1 h.2.1 h.2.2.1 h.2.2.2.1 h.2.2.2.2.1 h.2.2.2.2.2.1 h.2.2.2.2.2.2.1 h.2.2.2.2.2.2.2.1 h.2.2.2.2.2.2.2.2.1 h.2.2.2.2.2.2.2.2.2
theorem Za2 {p f1 f2:Prop}{G:Prop}(h:p/\f1/\f2)(f:p->f1->f2->G):G:= f h.1 h.2.1 h.2.2
theorem Zch {p f1 f2 f3:Prop}{G:Prop}(h:p/\f1/\f2/\f3)(f:p->f1->f2->f3->G):G:= f h.1 h.2.1 h.2.2.1 h.2.2.2
theorem Zdn {p f1 f2 f3 f4:Prop}{G:Prop}(h:p/\f1/\f2/\f3/\f4)(f:p->f1->f2->f3->f4->G):G:= f h.1 h.2.1 h.2.2.1 h.2.2.2.1 h.2.2.2.2
theorem Zfx {p f1 f2 f3 f4 f5:Prop}{G:Prop}(h:p/\f1/\f2/\f3/\f4/\f5)(f:p->f1->f2->f3->f4->f5->G):G:= f h.1 h.2.1 h.2.2.1 h.2.2.2.1 h.2.2.2.2.1 h.2.2.2.2.2
theorem xE0_7 {p f1 f2 f3 f4 f5 f6:Prop}{G:Prop}(h:p/\f1/\f2/\f3/\f4/\f5/\f6)(f:p->f1->f2->f3->f4->f5->f6->G):G:= f h.1 h.2.1 h.2.2.1 h.2.2.2.1 h.2.2.2.2.1 h.2.2.2.2.2.1 h.2.2.2.2.2.2
theorem xE0_8 {p f1 f2 f3 f4 f5 f6 f7:Prop}{G:Prop}(h:p/\f1/\f2/\f3/\f4/\f5/\f6/\f7)(f:p->f1->f2->f3->f4->f5->f6->f7->G):G:= f h.1 h.2.1 h.2.2.1 h.2.2.2.1 h.2.2.2.2.1 h.2.2.2.2.2.1 h.2.2.2.2.2.2.1 h.2.2.2.2.2.2.2
theorem xE0_9 {p f1 f2 f3 f4 f5 f6 f7 f8:Prop}{G:Prop}(h:p/\f1/\f2/\f3/\f4/\f5/\f6/\f7/\f8)(f:p->f1->f2->f3->f4->f5->f6->f7->f8->G):G:= f h.1 h.2.1 h.2.2.1 h.2.2.2.1 h.2.2.2.2.1 h.2.2.2.2.2.1 h.2.2.2.2.2.2.1 h.2.2.2.2.2.2.2.1 h.2.2.2.2.2.2.2.2
theorem Zud {A B C D E F I J K L:Type}{p f1:A->B->C->D->E->F->I->J->K->L->Prop}{G:Prop}(h:∃ a b c d e i j k l m,p a b c d e i j k l m/\f1 a b c d e i j k l m)(f:∀ a b c d e i j k l m,p a b c d e i j k l m->f1 a b c d e i j k l m->G):G:=h.elim λa h=>h.elim λb h=>h.elim λc h=>h.elim λd h=>h.elim λe h=>h.elim λi h=>h.elim λj h=>h.elim λk h=>h.elim λl h=>h.elim λm h=>f a b c d e i j k l m h.1 h.2
theorem Zuc {A B C D E F I J K L:Type}{p f1 f2 f3:A->B->C->D->E->F->I->J->K->L->Prop}{G:Prop}(h:∃ a b c d e i j k l m,p a b c d e i j k l m/\f1 a b c d e i j k l m/\f2 a b c d e i j k l m/\f3 a b c d e i j k l m)(f:∀ a b c d e i j k l m,p a b c d e i j k l m->f1 a b c d e i j k l m->f2 a b c d e i j k l m->f3 a b c d e i j k l m->G):G:=h.elim λa h=>h.elim λb h=>h.elim λc h=>h.elim λd h=>h.elim λe h=>h.elim λi h=>h.elim λj h=>h.elim λk h=>h.elim λl h=>h.elim λm h=>f a b c d e i j k l m h.1 h.2.1 h.2.2.1 h.2.2.2
theorem Zub {A B C D E F I J K L M:Type}{p f1:A->B->C->D->E->F->I->J->K->L->M->Prop}{G:Prop}(h:∃ a b c d e i j k l m n,p a b c d e i j k l m n/\f1 a b c d e i j k l m n)(f:∀ a b c d e i j k l m n,p a b c d e i j k l m n->f1 a b c d e i j k l m n->G):G:=h.elim λa h=>h.elim λb h=>h.elim λc h=>h.elim λd h=>h.elim λe h=>h.elim λi h=>h.elim λj h=>h.elim λk h=>h.elim λl h=>h.elim λm h=>h.elim λn h=>f a b c d e i j k l m n h.1 h.2
theorem Zua {A B C D E F I J K L M:Type}{p f1 f2 f3:A->B->C->D->E->F->I->J->K->L->M->Prop}{G:Prop}(h:∃ a b c d e i j k l m n,p a b c d e i j k l m n/\f1 a b c d e i j k l m n/\f2 a b c d e i j k l m n/\f3 a b c d e i j k l m n)(f:∀ a b c d e i j k l m n,p a b c d e i j k l m n->f1 a b c d e i j k l m n->f2 a b c d e i j k l m n->f3 a b c d e i j k l m n->G):G:=h.elim λa h=>h.elim λb h=>h.elim λc h=>h.elim λd h=>h.elim λe h=>h.elim λi h=>h.elim λj h=>h.elim λk h=>h.elim λl h=>h.elim λm h=>h.elim λn h=>f a b c d e i j k l m n h.1 h.2.1 h.2.2.1 h.2.2.2
theorem xE14_2 {A B C D E F I J K L M N O P:Type}{p f1:A->B->C->D->E->F->I->J->K->L->M->N->O->P->Prop}{G:Prop}(h:∃ a b c d e i j k l m n o q r,p a b c d e i j k l m n o q r/\f1 a b c d e i j k l m n o q r)(f:∀ a b c d e i j k l m n o q r,p a b c d e i j k l m n o q r->f1 a b c d e i j k l m n o q r->G):G:=h.elim λa h=>h.elim λb h=>h.elim λc h=>h.elim λd h=>h.elim λe h=>h.elim λi h=>h.elim λj h=>h.elim λk h=>h.elim λl h=>h.elim λm h=>h.elim λn h=>h.elim λo h=>h.elim λq h=>h.elim λr h=>f a b c d e i j k l m n o q r h.1 h.2
theorem xE14_4 {A B C D E F I J K L M N O P:Type}{p f1 f2 f3:A->B->C->D->E->F->I->J->K->L->M->N->O->P->Prop}{G:Prop}(h:∃ a b c d e i j k l m n o q r,p a b c d e i j k l m n o q r/\f1 a b c d e i j k l m n o q r/\f2 a b c d e i j k l m n o q r/\f3 a b c d e i j k l m n o q r)(f:∀ a b c d e i j k l m n o q r,p a b c d e i j k l m n o q r->f1 a b c d e i j k l m n o q r->f2 a b c d e i j k l m n o q r->f3 a b c d e i j k l m n o q r->G):G:=h.elim λa h=>h.elim λb h=>h.elim λc h=>h.elim λd h=>h.elim λe h=>h.elim λi h=>h.elim λj h=>h.elim λk h=>h.elim λl h=>h.elim λm h=>h.elim λn h=>h.elim λo h=>h.elim λq h=>h.elim λr h=>f a b c d e i j k l m n o q r h.1 h.2.1 h.2.2.1 h.2.2.2
theorem Zt9 {A B C D E F I J K L M N O P Q:Type}{p f1:A->B->C->D->E->F->I->J->K->L->M->N->O->P->Q->Prop}{G:Prop}(h:∃ a b c d e i j k l m n o q r s,p a b c d e i j k l m n o q r s/\f1 a b c d e i j k l m n o q r s)(f:∀ a b c d e i j k l m n o q r s,p a b c d e i j k l m n o q r s->f1 a b c d e i j k l m n o q r s->G):G:=h.elim λa h=>h.elim λb h=>h.elim λc h=>h.elim λd h=>h.elim λe h=>h.elim λi h=>h.elim λj h=>h.elim λk h=>h.elim λl h=>h.elim λm h=>h.elim λn h=>h.elim λo h=>h.elim λq h=>h.elim λr h=>h.elim λs h=>f a b c d e i j k l m n o q r s h.1 h.2
theorem Zt8 {A B C D E F I J K L M N O P Q:Type}{p f1 f2 f3:A->B->C->D->E->F->I->J->K->L->M->N->O->P->Q->Prop}{G:Prop}(h:∃ a b c d e i j k l m n o q r s,p a b c d e i j k l m n o q r s/\f1 a b c d e i j k l m n o q r s/\f2 a b c d e i j k l m n o q r s/\f3 a b c d e i j k l m n o q r s)(f:∀ a b c d e i j k l m n o q r s,p a b c d e i j k l m n o q r s->f1 a b c d e i j k l m n o q r s->f2 a b c d e i j k l m n o q r s->f3 a b c d e i j k l m n o q r s->G):G:=h.elim λa h=>h.elim λb h=>h.elim λc h=>h.elim λd h=>h.elim λe h=>h.elim λi h=>h.elim λj h=>h.elim λk h=>h.elim λl h=>h.elim λm h=>h.elim λn h=>h.elim λo h=>h.elim λq h=>h.elim λr h=>h.elim λs h=>f a b c d e i j k l m n o q r s h.1 h.2.1 h.2.2.1 h.2.2.2
theorem xE18_2 {A B C D E F I J K L M N O P Q R S T:Type}{p f1:A->B->C->D->E->F->I->J->K->L->M->N->O->P->Q->R->S->T->Prop}{G:Prop}(h:∃ a b c d e i j k l m n o q r s t u v,p a b c d e i j k l m n o q r s t u v/\f1 a b c d e i j k l m n o q r s t u v)(f:∀ a b c d e i j k l m n o q r s t u v,p a b c d e i j k l m n o q r s t u v->f1 a b c d e i j k l m n o q r s t u v->G):G:=h.elim λa h=>h.elim λb h=>h.elim λc h=>h.elim λd h=>h.elim λe h=>h.elim λi h=>h.elim λj h=>h.elim λk h=>h.elim λl h=>h.elim λm h=>h.elim λn h=>h.elim λo h=>h.elim λq h=>h.elim λr h=>h.elim λs h=>h.elim λt h=>h.elim λu h=>h.elim λv h=>f a b c d e i j k l m n o q r s t u v h.1 h.2
theorem xE18_4 {A B C D E F I J K L M N O P Q R S T:Type}{p f1 f2 f3:A->B->C->D->E->F->I->J->K->L->M->N->O->P->Q->R->S->T->Prop}{G:Prop}(h:∃ a b c d e i j k l m n o q r s t u v,p a b c d e i j k l m n o q r s t u v/\f1 a b c d e i j k l m n o q r s t u v/\f2 a b c d e i j k l m n o q r s t u v/\f3 a b c d e i j k l m n o q r s t u v)(f:∀ a b c d e i j k l m n o q r s t u v,p a b c d e i j k l m n o q r s t u v->f1 a b c d e i j k l m n o q r s t u v->f2 a b c d e i j k l m n o q r s t u v->f3 a b c d e i j k l m n o q r s t u v->G):G:=h.elim λa h=>h.elim λb h=>h.elim λc h=>h.elim λd h=>h.elim λe h=>h.elim λi h=>h.elim λj h=>h.elim λk h=>h.elim λl h=>h.elim λm h=>h.elim λn h=>h.elim λo h=>h.elim λq h=>h.elim λr h=>h.elim λs h=>h.elim λt h=>h.elim λu h=>h.elim λv h=>f a b c d e i j k l m n o q r s t u v h.1 h.2.1 h.2.2.1 h.2.2.2
theorem xE19_2 {A B C D E F I J K L M N O P Q R S T U:Type}{p f1:A->B->C->D->E->F->I->J->K->L->M->N->O->P->Q->R->S->T->U->Prop}{G:Prop}(h:∃ a b c d e i j k l m n o q r s t u v w,p a b c d e i j k l m n o q r s t u v w/\f1 a b c d e i j k l m n o q r s t u v w)(f:∀ a b c d e i j k l m n o q r s t u v w,p a b c d e i j k l m n o q r s t u v w->f1 a b c d e i j k l m n o q r s t u v w->G):G:=h.elim λa h=>h.elim λb h=>h.elim λc h=>h.elim λd h=>h.elim λe h=>h.elim λi h=>h.elim λj h=>h.elim λk h=>h.elim λl h=>h.elim λm h=>h.elim λn h=>h.elim λo h=>h.elim λq h=>h.elim λr h=>h.elim λs h=>h.elim λt h=>h.elim λu h=>h.elim λv h=>h.elim λw h=>f a b c d e i j k l m n o q r s t u v w h.1 h.2
theorem xE19_4 {A B C D E F I J K L M N O P Q R S T U:Type}{p f1 f2 f3:A->B->C->D->E->F->I->J->K->L->M->N->O->P->Q->R->S->T->U->Prop}{G:Prop}(h:∃ a b c d e i j k l m n o q r s t u v w,p a b c d e i j k l m n o q r s t u v w/\f1 a b c d e i j k l m n o q r s t u v w/\f2 a b c d e i j k l m n o q r s t u v w/\f3 a b c d e i j k l m n o q r s t u v w)(f:∀ a b c d e i j k l m n o q r s t u v w,p a b c d e i j k l m n o q r s t u v w->f1 a b c d e i j k l m n o q r s t u v w->f2 a b c d e i j k l m n o q r s t u v w->f3 a b c d e i j k l m n o q r s t u v w->G):G:=h.elim λa h=>h.elim λb h=>h.elim λc h=>h.elim λd h=>h.elim λe h=>h.elim λi h=>h.elim λj h=>h.elim λk h=>h.elim λl h=>h.elim λm h=>h.elim λn h=>h.elim λo h=>h.elim λq h=>h.elim λr h=>h.elim λs h=>h.elim λt h=>h.elim λu h=>h.elim λv h=>h.elim λw h=>f a b c d e i j k l m n o q r s t u v w h.1 h.2.1 h.2.2.1 h.2.2.2
theorem Zac {A:Type}{p f1:A->Prop}{G:Prop}(h:∃ a,p a/\f1 a)(f:∀ a,p a->f1 a->G):G:=h.elim λa h=>f a h.1 h.2
theorem Zal {A:Type}{p f1 f2:A->Prop}{G:Prop}(h:∃ a,p a/\f1 a/\f2 a)(f:∀ a,p a->f1 a->f2 a->G):G:=h.elim λa h=>f a h.1 h.2.1 h.2.2
theorem Zrr {A:Type}{p f1 f2 f3:A->Prop}{G:Prop}(h:∃ a,p a/\f1 a/\f2 a/\f3 a)(f:∀ a,p a->f1 a->f2 a->f3 a->G):G:=h.elim λa h=>f a h.1 h.2.1 h.2.2.1 h.2.2.2
theorem Zod {A:Type}{p f1 f2 f3 f4:A->Prop}{G:Prop}(h:∃ a,p a/\f1 a/\f2 a/\f3 a/\f4 a)(f:∀ a,p a->f1 a->f2 a->f3 a->f4 a->G):G:=h.elim λa h=>f a h.1 h.2.1 h.2.2.1 h.2.2.2.1 h.2.2.2.2
theorem Zrq {A:Type}{p f1 f2 f3 f4 f5:A->Prop}{G:Prop}(h:∃ a,p a/\f1 a/\f2 a/\f3 a/\f4 a/\f5 a)(f:∀ a,p a->f1 a->f2 a->f3 a->f4 a->f5 a->G):G:=h.elim λa h=>f a h.1 h.2.1 h.2.2.1 h.2.2.2.1 h.2.2.2.2.1 h.2.2.2.2.2
theorem Zfe {A B:Type}{p:A->B->Prop}{G:Prop}(h:∃ a b,p a b)(f:∀ a b,p a b->G):G:=h.elim λa h=>h.elim λb h=>f a b h
theorem Zbd {A B:Type}{p f1:A->B->Prop}{G:Prop}(h:∃ a b,p a b/\f1 a b)(f:∀ a b,p a b->f1 a b->G):G:=h.elim λa h=>h.elim λb h=>f a b h.1 h.2
theorem Zca {A B:Type}{p f1 f2:A->B->Prop}{G:Prop}(h:∃ a b,p a b/\f1 a b/\f2 a b)(f:∀ a b,p a b->f1 a b->f2 a b->G):G:=h.elim λa h=>h.elim λb h=>f a b h.1 h.2.1 h.2.2
theorem Zgs {A B:Type}{p f1 f2 f3:A->B->Prop}{G:Prop}(h:∃ a b,p a b/\f1 a b/\f2 a b/\f3 a b)(f:∀ a b,p a b->f1 a b->f2 a b->f3 a b->G):G:=h.elim λa h=>h.elim λb h=>f a b h.1 h.2.1 h.2.2.1 h.2.2.2
theorem Znj {A B:Type}{p f1 f2 f3 f4:A->B->Prop}{G:Prop}(h:∃ a b,p a b/\f1 a b/\f2 a b/\f3 a b/\f4 a b)(f:∀ a b,p a b->f1 a b->f2 a b->f3 a b->f4 a b->G):G:=h.elim λa h=>h.elim λb h=>f a b h.1 h.2.1 h.2.2.1 h.2.2.2.1 h.2.2.2.2
theorem Zg2 {A B:Type}{p f1 f2 f3 f4 f5:A->B->Prop}{G:Prop}(h:∃ a b,p a b/\f1 a b/\f2 a b/\f3 a b/\f4 a b/\f5 a b)(f:∀ a b,p a b->f1 a b->f2 a b->f3 a b->f4 a b->f5 a b->G):G:=h.elim λa h=>h.elim λb h=>f a b h.1 h.2.1 h.2.2.1 h.2.2.2.1 h.2.2.2.2.1 h.2.2.2.2.2
theorem xE3_1 {A B C:Type}{p:A->B->C->Prop}{G:Prop}(h:∃ a b c,p a b c)(f:∀ a b c,p a b c->G):G:=h.elim λa h=>h.elim λb h=>h.elim λc h=>f a b c h
theorem Zeq {A B C:Type}{p f1:A->B->C->Prop}{G:Prop}(h:∃ a b c,p a b c/\f1 a b c)(f:∀ a b c,p a b c->f1 a b c->G):G:=h.elim λa h=>h.elim λb h=>h.elim λc h=>f a b c h.1 h.2
theorem Ziy {A B C:Type}{p f1 f2:A->B->C->Prop}{G:Prop}(h:∃ a b c,p a b c/\f1 a b c/\f2 a b c)(f:∀ a b c,p a b c->f1 a b c->f2 a b c->G):G:=h.elim λa h=>h.elim λb h=>h.elim λc h=>f a b c h.1 h.2.1 h.2.2
theorem Zda {A B C:Type}{p f1 f2 f3:A->B->C->Prop}{G:Prop}(h:∃ a b c,p a b c/\f1 a b c/\f2 a b c/\f3 a b c)(f:∀ a b c,p a b c->f1 a b c->f2 a b c->f3 a b c->G):G:=h.elim λa h=>h.elim λb h=>h.elim λc h=>f a b c h.1 h.2.1 h.2.2.1 h.2.2.2
theorem xE4_1 {A B C D:Type}{p:A->B->C->D->Prop}{G:Prop}(h:∃ a b c d,p a b c d)(f:∀ a b c d,p a b c d->G):G:=h.elim λa h=>h.elim λb h=>h.elim λc h=>h.elim λd h=>f a b c d h
theorem Zg1 {A B C D:Type}{p f1:A->B->C->D->Prop}{G:Prop}(h:∃ a b c d,p a b c d/\f1 a b c d)(f:∀ a b c d,p a b c d->f1 a b c d->G):G:=h.elim λa h=>h.elim λb h=>h.elim λc h=>h.elim λd h=>f a b c d h.1 h.2
theorem xE4_3 {A B C D:Type}{p f1 f2:A->B->C->D->Prop}{G:Prop}(h:∃ a b c d,p a b c d/\f1 a b c d/\f2 a b c d)(f:∀ a b c d,p a b c d->f1 a b c d->f2 a b c d->G):G:=h.elim λa h=>h.elim λb h=>h.elim λc h=>h.elim λd h=>f a b c d h.1 h.2.1 h.2.2
theorem Zcd {A B C D:Type}{p f1 f2 f3:A->B->C->D->Prop}{G:Prop}(h:∃ a b c d,p a b c d/\f1 a b c d/\f2 a b c d/\f3 a b c d)(f:∀ a b c d,p a b c d->f1 a b c d->f2 a b c d->f3 a b c d->G):G:=h.elim λa h=>h.elim λb h=>h.elim λc h=>h.elim λd h=>f a b c d h.1 h.2.1 h.2.2.1 h.2.2.2
theorem xE5_2 {A B C D E:Type}{p f1:A->B->C->D->E->Prop}{G:Prop}(h:∃ a b c d e,p a b c d e/\f1 a b c d e)(f:∀ a b c d e,p a b c d e->f1 a b c d e->G):G:=h.elim λa h=>h.elim λb h=>h.elim λc h=>h.elim λd h=>h.elim λe h=>f a b c d e h.1 h.2
theorem xE5_3 {A B C D E:Type}{p f1 f2:A->B->C->D->E->Prop}{G:Prop}(h:∃ a b c d e,p a b c d e/\f1 a b c d e/\f2 a b c d e)(f:∀ a b c d e,p a b c d e->f1 a b c d e->f2 a b c d e->G):G:=h.elim λa h=>h.elim λb h=>h.elim λc h=>h.elim λd h=>h.elim λe h=>f a b c d e h.1 h.2.1 h.2.2
theorem Zh7 {A B C D E:Type}{p f1 f2 f3:A->B->C->D->E->Prop}{G:Prop}(h:∃ a b c d e,p a b c d e/\f1 a b c d e/\f2 a b c d e/\f3 a b c d e)(f:∀ a b c d e,p a b c d e->f1 a b c d e->f2 a b c d e->f3 a b c d e->G):G:=h.elim λa h=>h.elim λb h=>h.elim λc h=>h.elim λd h=>h.elim λe h=>f a b c d e h.1 h.2.1 h.2.2.1 h.2.2.2
theorem Zoc {A B C D E F:Type}{p f1:A->B->C->D->E->F->Prop}{G:Prop}(h:∃ a b c d e i,p a b c d e i/\f1 a b c d e i)(f:∀ a b c d e i,p a b c d e i->f1 a b c d e i->G):G:=h.elim λa h=>h.elim λb h=>h.elim λc h=>h.elim λd h=>h.elim λe h=>h.elim λi h=>f a b c d e i h.1 h.2
theorem xE6_4 {A B C D E F:Type}{p f1 f2 f3:A->B->C->D->E->F->Prop}{G:Prop}(h:∃ a b c d e i,p a b c d e i/\f1 a b c d e i/\f2 a b c d e i/\f3 a b c d e i)(f:∀ a b c d e i,p a b c d e i->f1 a b c d e i->f2 a b c d e i->f3 a b c d e i->G):G:=h.elim λa h=>h.elim λb h=>h.elim λc h=>h.elim λd h=>h.elim λe h=>h.elim λi h=>f a b c d e i h.1 h.2.1 h.2.2.1 h.2.2.2
theorem xE7_2 {A B C D E F I:Type}{p f1:A->B->C->D->E->F->I->Prop}{G:Prop}(h:∃ a b c d e i j,p a b c d e i j/\f1 a b c d e i j)(f:∀ a b c d e i j,p a b c d e i j->f1 a b c d e i j->G):G:=h.elim λa h=>h.elim λb h=>h.elim λc h=>h.elim λd h=>h.elim λe h=>h.elim λi h=>h.elim λj h=>f a b c d e i j h.1 h.2
theorem xE7_4 {A B C D E F I:Type}{p f1 f2 f3:A->B->C->D->E->F->I->Prop}{G:Prop}(h:∃ a b c d e i j,p a b c d e i j/\f1 a b c d e i j/\f2 a b c d e i j/\f3 a b c d e i j)(f:∀ a b c d e i j,p a b c d e i j->f1 a b c d e i j->f2 a b c d e i j->f3 a b c d e i j->G):G:=h.elim λa h=>h.elim λb h=>h.elim λc h=>h.elim λd h=>h.elim λe h=>h.elim λi h=>h.elim λj h=>f a b c d e i j h.1 h.2.1 h.2.2.1 h.2.2.2
theorem xE8_2 {A B C D E F I J:Type}{p f1:A->B->C->D->E->F->I->J->Prop}{G:Prop}(h:∃ a b c d e i j k,p a b c d e i j k/\f1 a b c d e i j k)(f:∀ a b c d e i j k,p a b c d e i j k->f1 a b c d e i j k->G):G:=h.elim λa h=>h.elim λb h=>h.elim λc h=>h.elim λd h=>h.elim λe h=>h.elim λi h=>h.elim λj h=>h.elim λk h=>f a b c d e i j k h.1 h.2
theorem xE8_3 {A B C D E F I J:Type}{p f1 f2:A->B->C->D->E->F->I->J->Prop}{G:Prop}(h:∃ a b c d e i j k,p a b c d e i j k/\f1 a b c d e i j k/\f2 a b c d e i j k)(f:∀ a b c d e i j k,p a b c d e i j k->f1 a b c d e i j k->f2 a b c d e i j k->G):G:=h.elim λa h=>h.elim λb h=>h.elim λc h=>h.elim λd h=>h.elim λe h=>h.elim λi h=>h.elim λj h=>h.elim λk h=>f a b c d e i j k h.1 h.2.1 h.2.2
theorem xE8_4 {A B C D E F I J:Type}{p f1 f2 f3:A->B->C->D->E->F->I->J->Prop}{G:Prop}(h:∃ a b c d e i j k,p a b c d e i j k/\f1 a b c d e i j k/\f2 a b c d e i j k/\f3 a b c d e i j k)(f:∀ a b c d e i j k,p a b c d e i j k->f1 a b c d e i j k->f2 a b c d e i j k->f3 a b c d e i j k->G):G:=h.elim λa h=>h.elim λb h=>h.elim λc h=>h.elim λd h=>h.elim λe h=>h.elim λi h=>h.elim λj h=>h.elim λk h=>f a b c d e i j k h.1 h.2.1 h.2.2.1 h.2.2.2
theorem xE9_2 {A B C D E F I J K:Type}{p f1:A->B->C->D->E->F->I->J->K->Prop}{G:Prop}(h:∃ a b c d e i j k l,p a b c d e i j k l/\f1 a b c d e i j k l)(f:∀ a b c d e i j k l,p a b c d e i j k l->f1 a b c d e i j k l->G):G:=h.elim λa h=>h.elim λb h=>h.elim λc h=>h.elim λd h=>h.elim λe h=>h.elim λi h=>h.elim λj h=>h.elim λk h=>h.elim λl h=>f a b c d e i j k l h.1 h.2
theorem Zob {A B C D E F I J K:Type}{p f1 f2:A->B->C->D->E->F->I->J->K->Prop}{G:Prop}(h:∃ a b c d e i j k l,p a b c d e i j k l/\f1 a b c d e i j k l/\f2 a b c d e i j k l)(f:∀ a b c d e i j k l,p a b c d e i j k l->f1 a b c d e i j k l->f2 a b c d e i j k l->G):G:=h.elim λa h=>h.elim λb h=>h.elim λc h=>h.elim λd h=>h.elim λe h=>h.elim λi h=>h.elim λj h=>h.elim λk h=>h.elim λl h=>f a b c d e i j k l h.1 h.2.1 h.2.2
theorem xE9_4 {A B C D E F I J K:Type}{p f1 f2 f3:A->B->C->D->E->F->I->J->K->Prop}{G:Prop}(h:∃ a b c d e i j k l,p a b c d e i j k l/\f1 a b c d e i j k l/\f2 a b c d e i j k l/\f3 a b c d e i j k l)(f:∀ a b c d e i j k l,p a b c d e i j k l->f1 a b c d e i j k l->f2 a b c d e i j k l->f3 a b c d e i j k l->G):G:=h.elim λa h=>h.elim λb h=>h.elim λc h=>h.elim λd h=>h.elim λe h=>h.elim λi h=>h.elim λj h=>h.elim λk h=>h.elim λl h=>f a b c d e i j k l h.1 h.2.1 h.2.2.1 h.2.2.2
theorem xI10_1 {A B C D E F I J K L:Type}{p:A->B->C->D->E->F->I->J->K->L->Prop}(a:A)(b:B)(c:C)(d:D)(e:E)(i:F)(j:I)(k:J)(l:K)(m:L)(h0:p a b c d e i j k l m):∃ a b c d e i j k l m,p a b c d e i j k l m:=⟨a,b,c,d,e,i,j,k,l,m,h0⟩
theorem Zoa {A B C D E F I J K L M:Type}{p:A->B->C->D->E->F->I->J->K->L->M->Prop}(a:A)(b:B)(c:C)(d:D)(e:E)(i:F)(j:I)(k:J)(l:K)(m:L)(n:M)(h0:p a b c d e i j k l m n):∃ a b c d e i j k l m n,p a b c d e i j k l m n:=⟨a,b,c,d,e,i,j,k,l,m,n,h0⟩
theorem xI14_1 {A B C D E F I J K L M N O P:Type}{p:A->B->C->D->E->F->I->J->K->L->M->N->O->P->Prop}(a:A)(b:B)(c:C)(d:D)(e:E)(i:F)(j:I)(k:J)(l:K)(m:L)(n:M)(o:N)(q:O)(r:P)(h0:p a b c d e i j k l m n o q r):∃ a b c d e i j k l m n o q r,p a b c d e i j k l m n o q r:=⟨a,b,c,d,e,i,j,k,l,m,n,o,q,r,h0⟩
theorem Zn9 {A B C D E F I J K L M N O P Q:Type}{p:A->B->C->D->E->F->I->J->K->L->M->N->O->P->Q->Prop}(a:A)(b:B)(c:C)(d:D)(e:E)(i:F)(j:I)(k:J)(l:K)(m:L)(n:M)(o:N)(q:O)(r:P)(s:Q)(h0:p a b c d e i j k l m n o q r s):∃ a b c d e i j k l m n o q r s,p a b c d e i j k l m n o q r s:=⟨a,b,c,d,e,i,j,k,l,m,n,o,q,r,s,h0⟩
theorem Zat {A B:Type}{p:A->B->Prop}(a:A)(b:B)(h0:p a b):∃ a b,p a b:=⟨a,b,h0⟩
theorem Zb4 {A B C:Type}{p:A->B->C->Prop}(a:A)(b:B)(c:C)(h0:p a b c):∃ a b c,p a b c:=⟨a,b,c,h0⟩
theorem Zfw {A B C D:Type}{p:A->B->C->D->Prop}(a:A)(b:B)(c:C)(d:D)(h0:p a b c d):∃ a b c d,p a b c d:=⟨a,b,c,d,h0⟩
theorem Zix {A B C D E:Type}{p:A->B->C->D->E->Prop}(a:A)(b:B)(c:C)(d:D)(e:E)(h0:p a b c d e):∃ a b c d e,p a b c d e:=⟨a,b,c,d,e,h0⟩
theorem xI6_1 {A B C D E F:Type}{p:A->B->C->D->E->F->Prop}(a:A)(b:B)(c:C)(d:D)(e:E)(i:F)(h0:p a b c d e i):∃ a b c d e i,p a b c d e i:=⟨a,b,c,d,e,i,h0⟩
theorem xI7_1 {A B C D E F I:Type}{p:A->B->C->D->E->F->I->Prop}(a:A)(b:B)(c:C)(d:D)(e:E)(i:F)(j:I)(h0:p a b c d e i j):∃ a b c d e i j,p a b c d e i j:=⟨a,b,c,d,e,i,j,h0⟩
theorem Zrp {A B C D E F I J K:Type}{p:A->B->C->D->E->F->I->J->K->Prop}(a:A)(b:B)(c:C)(d:D)(e:E)(i:F)(j:I)(k:J)(l:K)(h0:p a b c d e i j k l):∃ a b c d e i j k l,p a b c d e i j k l:=⟨a,b,c,d,e,i,j,k,l,h0⟩
end L2
theorem oz1 {z y:Int}(h0:(0:Int)<=z)(h1:z<y):z.natAbs<=y.natAbs:=∅
theorem oz2 {a b c:Nat}(h0:a<b)(h1:c=b):a<c:=∅
theorem oz3 {z y x Z Y X:Int}(h0:(0:Int)<=z)(h1:(0:Int)<=y)(h2:(x*y+Z*z).natAbs+(Y*y+X*z).natAbs<(y+z).natAbs):(↑(x*y+Z*z).natAbs:Int)+(↑(Y*y+X*z).natAbs:Int)<y+z:=∅
theorem oz4 {a b c:Nat}(h0:a=b)(h1:c<a):c<b:=∅
theorem oz5 {a b c d:Nat}(h0:a=b)(h1:c=b)(h2:d<a):d<c:=∅
theorem oz6 {z y x Z:Int}:(0:Int)<=(↑(z*y+x*Z).natAbs:Int):=∅
theorem oz7 {a b:Nat}(h0:a<b+1)(h1:¬a<b):a=b:=∅
theorem oz8 {a b c:Nat}(h0:a=b)(h1:¬c<a)(h2:c-a=0):c=b:=∅
theorem oz9 {z y x:Int}(h0:z<=(97:Int))(h1:y<=z)(h2:(0:Int)<=y / x)(h3:y / x<=y):(y / x).natAbs<=97:=∅
theorem oz10 {a b c d:Nat}(h0:a=b)(h1:c=a)(h2:d<c):d<b:=∅
theorem oz11 {a b:Nat}(h0:¬a-b=0):1<=a-b:=∅
theorem Zgm {a b c:Nat}(h0:a=b)(h1:c<b):c<a:=∅
theorem oz13 {a b c d:Nat}(h0:a=b)(h1:c=a)(h2:d=c):d=b:=∅
theorem oz14 {a b c:Nat}(h0:a=b)(h1:c=a):c=b:=∅
theorem oz15 {a:Nat}:((0:Int)+(↑a:Int)).toNat=a:=∅
theorem oz16 {a b:Nat}(h0:a<b+1)(h1:¬a=b):a<b:=∅
theorem oz17 {a b c:Nat}(h0:a=b)(h1:c=b):c=a:=∅
theorem oz18 {a b:Nat}{z y:Int}(h0:z.natAbs<=a*b)(h1:y.natAbs<=b):(z+y).natAbs<=a*b+b:=∅
theorem oz19 {z y x:Int}(h0:z<y)(h1:y<=x):z<=x:=∅
theorem oz21 {a:Nat}:((↑a:Int)-(126:Int)).toNat=a-126:=∅
theorem oz22 {a b c:Nat}:min (a-b) (c-b)<=c:=∅
theorem oz23 {a b c d:Nat}(h0:a=b)(h1:c=b)(h2:d<c):d<a:=∅
theorem oz24 {a b:Nat}(h0:¬a<b)(h1:a<b+1):a=b:=∅
theorem oz25 {a b:Nat}(h0:a<b):a<b:=∅
theorem oz26 {a b:Nat}(h0:a<=b):min (↑a:Int).toNat b=a:=∅
theorem oz27 {a b:Nat}(h0:a=b):b=a:=∅
theorem oz28 {a:Nat}(h0:126<=a):64+(a-126)=a-62:=∅
theorem oz29 {z y x:Int}(h0:z<=(97:Int))(h1:y<x)(h2:x<=z)(h3:(1:Int)<y):y.natAbs<=97:=∅
theorem oz30 {a b c:Nat}(h0:a<b)(h1:c<a):c<b:=∅
theorem oz31 {a b c:Nat}(h0:a=b)(h1:c=b):a=c:=∅
theorem oz32 {a b c d:Nat}(h0:a<3)(h1:b<a)(h2:c=min b d):c<=1000:=∅
theorem oz33 {a b c d:Nat}(h0:a=b)(h1:c=a)(h2:d<b):d<c:=∅
theorem oz34 {a b c d:Nat}(h0:a=b)(h1:c=b)(h2:d-a=0):d-c=0:=∅
theorem oz35 {a b:Nat}{z y x:Int}(h0:(0:Int)<z)(h1:z<=y*x)(h2:(y*x).natAbs<=a*b):z.natAbs<=a*b:=∅
theorem oz36 {z y x:Int}:(z % (2:Int)+y*x % (2:Int)) % (2:Int)=(z+y*x) % (2:Int):=∅
theorem oz37 {a b c:Nat}(h0:a<=b)(h1:b<=c):min (↑a:Int).toNat c=a:=∅
theorem oz38 {z y x:Int}(h0:z<=(97:Int))(h1:y<x)(h2:x<=z):y<(1073741824:Int):=∅
theorem Zmu {a b:Nat}(h0:¬a<b):b<=a:=∅
theorem oz42 {a b c:Nat}(h0:a=b)(h1:c=a):min a b=c:=∅
theorem oz43 {a b c d:Nat}(h0:a<=9)(h1:b=a)(h2:c<b)(h3:d=c):d<=1000:=∅
theorem Zpt {z:Int}(h0:(1:Int)<z):(0:Int)<z:=∅
theorem oz46 {a:Nat}:a-62<=a-1:=∅
theorem oz47 {a b c:Nat}(h0:a<b+1)(h1:c≠a)(h2:¬a<b):c≠b:=∅
theorem oz48 {a b c:Nat}(h0:a<=b)(h1:c<a):c<b:=∅
theorem oz49 {z y x Z:Int}(h0:z<(85070591730234615865843651857942052864:Int))(h1:y<=z)(h2:x<=z+y)(h3:(0:Int)<=x / Z)(h4:x / Z<=x):(x / Z).natAbs<170141183460469231731687303715884105728:=∅
theorem oz50 {z:Int}(h0:(0:Int)<z):(0:Int)<=z:=∅
theorem oz51 {a b:Nat}(h0:a<=900)(h1:b=a):b<=900:=∅
theorem oz52 {a:Nat}{z y:Int}(h0:(↑a:Int)=z)(h1:(0:Int)<=y)(h2:y<z):y.toNat<a:=∅
theorem oz53 {a b c:Nat}(h0:a<b)(h1:b<c+1):a<c:=∅
theorem oz54 {a b:Nat}(h0:a<=24)(h1:b=a):b<=900:=∅
theorem oz55 {a b c:Nat}(h0:a<b)(h1:b=c):a<c:=∅
theorem oz56 {z y x Z:Int}(h0:(0:Int)<=z)(h1:(0:Int)<=y)(h2:z+y<x+Z):(z+y).toNat<(x+Z).toNat:=∅
theorem oz57 {a b c:Nat}(h0:a<=1000)(h1:b<a)(h2:c=b):c<=1000:=∅
theorem oz58 {z:Int}(h0:(0:Int)<=z/\z<=(24:Int)):z.toNat<=24:=∅
theorem oz59 {z y:Int}(h0:z<y)(h1:(1:Int)<z):(0:Int)<=y:=∅
theorem oz60 {a b:Nat}(h0:a<=24)(h1:b=a):b<=1000:=∅
theorem oz61 {z y:Int}(h0:(0:Int)<=z)(h1:(0:Int)<=y):(0:Int)<=y+z:=∅
theorem oz62 {a:Nat}{z:Int}(h0:z=(↑a:Int)):(0:Int)<=z:=∅
theorem oz63 {a:Nat}{z:Int}(h0:(0:Int)<=z)(h1:z<(↑a:Int)):z.toNat<a:=∅
theorem oz64 {a b c d:Nat}(h0:a=b)(h1:c=d)(h2:c<=b)(h3:a<=d):a=c:=∅
theorem oz65 {a b c d e f g i j k:Nat}{z y x Z Y X W V U:Int}(h0:(0:Int)<=z)(h1:z<y)(h2:(0:Int)<=x)(h3:a<=b+(c+d))(h4:e<=f+(g+i))(h5:(↑j:Int)=Z+Y)(h6:(↑k:Int)=y)(h7:c<=4611686018427387903*k)(h8:d<=4611686018427387903*k)(h9:g<=4611686018427387903*k)(h10:i<=4611686018427387903*k)(h11:(↑b:Int)=X)(h12:(↑f:Int)=W)(h13:Z=V+z)(h14:Y=U+x)(h15:X+W+y*(18446744073709551616:Int)<=V+U):a+e<j:=∅
theorem Zup {z:Int}(h0:(1:Int)<z):z≠(0:Int):=∅
theorem oz67 {a:Nat}:-(2:Int) ^ 62<=(↑a:Int):=∅
theorem oz68 {z y:Int}(h0:z % y<y)(h1:(1:Int)<=z % y):(z % y).toNat<y.toNat:=∅
theorem oz69 {a b c d e f g:Nat}(h0:a=b)(h1:b<=900)(h2:c=a)(h3:d=c)(h4:e+f=d)(h5:g<f):(↑g:Int)<(2:Int) ^ 63:=∅
theorem oz70 {a:Nat}{z y:Int}(h0:z=(↑a:Int))(h1:a<=24/\(↑a:Int)=y):z<=(24:Int):=∅
theorem Zuo {a b:Nat}(h0:a<b):a<b+1:=∅
theorem oz72 {a:Nat}:a+1-1=a:=∅
theorem Zsm {a:Nat}:(0:Int)<=(↑a:Int):=∅
theorem oz74 {a b c:Nat}(h0:a=b)(h1:¬c<a):b<=c:=∅
theorem oz75 {a b c d e f:Nat}(h0:a=b)(h1:b<=900)(h2:c=a)(h3:d=c)(h4:e+f=d):f<=900:=∅
theorem oz76 {a b c d:Nat}(h0:a=b)(h1:c=a)(h2:d=b):c=d:=∅
theorem oz77 {a b c d:Nat}(h0:a=b)(h1:b<=9)(h2:c<a)(h3:d=c):d<=1000:=∅
theorem oz78 {z y x:Int}(h0:(0:Int)<=z)(h1:z<=y+x):z.natAbs<=(y+x).natAbs:=∅
theorem oz79 {z:Int}(h0:(0:Int)<=z/\z<=(24:Int)):z.toNat<=24/\(↑z.toNat:Int)=z:=∅
theorem oz80 {a b:Nat}(h0:a<b)(h1:b<=8):a<=1000:=∅
theorem oz81 {a b c d:Nat}(h0:a=b)(h1:c=a)(h2:¬d<c):b<=d:=∅
theorem oz82 {a b:Nat}(h0:a=b):min a b=a:=∅
theorem oz83 {a:Nat}(h0:126<=a):126+(a-126)=a:=∅
theorem oz84 {a:Nat}(h0:a<3):(↑a:Int)<(2:Int) ^ 62:=∅
theorem oz85 {a:Nat}(h0:a<=900):a<=1000:=∅
theorem oz86 {a b:Nat}(h0:¬a=b)(h1:¬b<a):¬b<a+1:=∅
theorem oz87 {a b c:Nat}(h0:a+b+5<=c):a+b<=c:=∅
theorem oz88 {a b c d e:Nat}(h0:a=b)(h1:c=a)(h2:d=c)(h3:e<d):e<b:=∅
theorem oz90 {a b:Nat}(h0:a<b):b=b-1+1:=∅
theorem oz91 {a b:Nat}{z:Int}(h0:(0:Int)<=z)(h1:¬z.natAbs<a)(h2:b<=a):(↑b:Int)<=z:=∅
theorem oz92 {a:Nat}{z:Int}(h0:z.natAbs<a):z<(↑a:Int):=∅
theorem oz93 {a b c d:Nat}(h0:a<=16)(h1:b=c)(h2:c<=min d a):b<=16:=∅
theorem oz94 {a b:Nat}(h0:a<3):min b a<=1000:=∅
theorem oz95 {z:Int}(h0:(0:Int)<=z)(h1:z≠(0:Int)):(0:Int)<z:=∅
theorem oz96 {a b c d:Nat}(h0:a=b)(h1:c=b)(h2:¬d<a):c<=d:=∅
theorem oz98 {z:Int}(h0:z.natAbs<4611686018427387904):z.natAbs<=4611686018427387903:=∅
theorem oz99 {a b c d e f g i:Nat}(h0:a=b)(h1:b<=900)(h2:c=a)(h3:d=c)(h4:e=f)(h5:g=i)(h6:f+i=d):e+g<=1000:=∅
theorem Zsq {a:Nat}(h0:a<3):a<=1000:=∅
theorem oz101 {z y x:Int}(h0:z=-y)(h1:(0:Int)<=y)(h2:y < -x):z.natAbs<x.natAbs:=∅
theorem oz102 {z y:Int}(h0:(0:Int)<=z-z / y*y)(h1:z-z / y*y<y):(z-z / y*y).natAbs<y.natAbs:=∅
theorem oz103 {a:Nat}{z:Int}(h0:(0:Int)<z)(h1:(z / (↑a:Int)).natAbs<=z.natAbs):z / (↑a:Int)<=z:=∅
theorem oz104 {a b c:Nat}(h0:a*b<=4)(h1:c<a*b):c<=4:=∅
theorem Zsp {z:Int}(h0:(18446744073709551616:Int)<=z):(0:Int)<=z:=∅
theorem oz106 {a b c d e:Nat}(h0:a<=1000)(h1:b<a)(h2:c=d)(h3:d<=min b e):c<=1000:=∅
theorem oz107 {a b:Nat}(h0:a+1<=b):a<=b:=∅
theorem oz108 {a b:Nat}{z:Int}(h0:a<z.toNat)(h1:b=z.toNat):((0:Int)+(↑a:Int)).toNat<b:=∅
theorem oz109 {z y x Z Y:Int}(h0:z<=(97:Int))(h1:(0:Int)<=y)(h2:x*Z+Y*y=z)(h3:y<=Y*y)(h4:Z<=x*Z):Z<=(97:Int):=∅
theorem Zjd {a:Nat}:a<a+1:=∅
theorem oz111 {z y:Int}(h0:z<y)(h1:(1:Int)<z):(1:Int)<=y:=∅
theorem oz112 {z y:Int}(h0:(0:Int)<=z % y)(h1:¬z % y=(0:Int)):(1:Int)<=z % y:=∅
theorem oz115 {a b:Nat}(h0:a<=16)(h1:b=a):b<=1000:=∅
theorem oz116 {a b c d:Nat}(h0:a=b)(h1:c=b)(h2:d=a):d=c:=∅
theorem oz117 {a:Nat}(h0:a<=24):a<=200:=∅
theorem oz118 {z:Int}:(0:Int)<=(↑z.natAbs:Int):=∅
theorem oz119 {a b c:Nat}(h0:a=b)(h1:a<=c):b<=c:=∅
theorem oz120 {a b:Nat}(h0:a<=9)(h1:b<a):b<=1000:=∅
theorem oz121 {a b:Nat}(h0:a=b):a=b:=∅
theorem oz122 {a b c:Nat}(h0:a<=16)(h1:b=a)(h2:c=a):b+c<=1000:=∅
theorem oz123 {z y:Int}(h0:(0:Int)<=z)(h1:¬y<z):z.natAbs<=y.natAbs:=∅
theorem oz124 {a:Nat}:-(2:Int) ^ 64<(↑a:Int):=∅
theorem oz125 {a:Nat}(h0:a<3):(0:Int)<=(↑a:Int)/\(↑a:Int)<=(24:Int):=∅
theorem oz126 {z y:Int}(h0:z<=(97:Int))(h1:(0:Int)<=y)(h2:y<z):y.natAbs<128:=∅
theorem oz127 {z:Int}(h0:(0:Int)<=z/\z<(2:Int)):z<(2:Int) ^ 64:=∅
theorem oz128 {a b:Nat}(h0:a<=b)(h1:b<=a):a=b:=∅
theorem oz129 {a:Nat}(h0:a<3):(↑a:Int)<(2:Int) ^ 64:=∅
theorem oz130 {z:Int}(h0:z.natAbs<4611686018427387904):z.natAbs<170141183460469231731687303715884105728:=∅
theorem oz131 {a:Nat}{z:Int}(h0:a<z.toNat):(↑a:Int)<z:=∅
theorem oz132 {a:Nat}(h0:4000<a):(0:Int)<=(↑a:Int)-(126:Int):=∅
theorem oz134 {a b c:Nat}(h0:a<=24)(h1:b=a)(h2:c=b):c<=1000:=∅
theorem oz135 {z y x Z Y:Int}(h0:z<=(97:Int))(h1:(0:Int)<=y)(h2:x*y+Z*Y=z)(h3:Y<=Z*Y)(h4:y<=x*y):Y<=(97:Int):=∅
theorem oz137 {z y x Z:Int}(h0:(0:Int)<=z)(h1:(0:Int)<=y / x*Z):(0:Int)<=z+y / x*Z:=∅
theorem oz139 {z y:Int}(h0:(1:Int)<z)(h1:z.natAbs=1):(1:Int)<=y % z:=∅
theorem oz140 {z y x Z:Int}(h0:z<(85070591730234615865843651857942052864:Int))(h1:y<=z)(h2:(18446744073709551616:Int)<=x)(h3:Z<=z+y)(h4:x<=Z):x.natAbs<170141183460469231731687303715884105728:=∅
theorem oz141 {a b c d:Nat}(h0:a<=24)(h1:b=c)(h2:c=a)(h3:d=b):d<=1000:=∅
theorem oz142 {a b c d:Nat}(h0:(a+1)*b<=c)(h1:d*b+b<=(a+1)*b):b<=c:=∅
theorem oz143 {z y x Z Y X:Int}(h0:z+y<=x+Z)(h1:Y+X<z+y):Y+X<=x+Z:=∅
theorem Zso {a:Nat}(h0:(4000:Int)<(↑a:Int)):4000<a:=∅
theorem oz145 {a:Nat}{z y:Int}(h0:(↑a:Int)=z)(h1:y<z):y<(↑a:Int):=∅
theorem oz146 {a:Nat}{z:Int}(h0:a<(z-(2:Int)).toNat):(2:Int)+(↑a:Int)<z:=∅
theorem oz147 {z y x:Int}(h0:z<=y)(h1:x<z):z+x<y+z:=∅
theorem oz149 {a:Nat}(h0:(↑a:Int)=(1:Int)):a=1:=∅
theorem oz150 {a b:Nat}(h0:a<=1000)(h1:b<a):b<=1000:=∅
theorem oz151 {a b c d:Nat}(h0:a=b)(h1:c<=b)(h2:d<c):d<a:=∅
theorem Zsn {z:Int}(h0:(1:Int)<z):(0:Int)<=z:=∅
theorem oz153 {a b c:Nat}(h0:a<=0+1)(h1:b<=a+1)(h2:c<=b+1):c<1000:=∅
theorem oz154 {a:Nat}{z:Int}(h0:z<=(24:Int))(h1:(↑a:Int)=z):a<=100:=∅
theorem oz155 {z y:Int}(h0:(1:Int)<z)(h1:y % z<z):(y % z).toNat<z.toNat:=∅
theorem oz156 {a b c:Nat}(h0:¬a<b):min b c<=a:=∅
theorem oz158 {a:Nat}:(0:Int)<=(0:Int)+(↑a:Int):=∅
theorem oz159 {z:Int}(h0:(0:Int)<=z/\z<(2:Int)):-(2:Int) ^ 64<z:=∅
theorem oz161 {a b:Nat}(h0:a<=b+1)(h1:¬a=b+1):¬b<a:=∅
theorem oz162 {z y:Int}(h0:(0:Int)<=z)(h1:z<y):z.natAbs<y.natAbs:=∅
theorem oz164 {a b c:Nat}(h0:a=b)(h1:c=b):(↑a:Int)=(↑c:Int):=∅
theorem oz165 {a b:Nat}:7<=7+0*(a+b+8):=∅
theorem oz166 {a:Nat}{z:Int}(h0:a<=z.natAbs):(↑a:Int).natAbs<=z.natAbs:=∅
theorem oz167 {z:Int}:(z*(48271:Int)+(4099:Int)) % (2147483647:Int)<(2:Int) ^ 64:=∅
theorem oz168 {a b c d:Nat}(h0:(↑a:Int)=(↑b:Int))(h1:(↑c:Int)=(↑b:Int))(h2:a=d):c=d:=∅
theorem oz169 {a:Nat}(h0:0<a)(h1:¬a=1):(2:Int)<=(↑a:Int):=∅
theorem oz170 {a b:Nat}:(↑(a*b):Int)+(↑a:Int)=(↑(a*b+a):Int):=∅
theorem oz171 {z y:Int}(h0:z % y<y)(h1:z % y+z / y*y=z):z-z / y*y<y:=∅
theorem oz172 {a b c:Nat}{z:Int}(h0:z.natAbs<=a*b)(h1:a*b<=24*b)(h2:c=32*b)(h3:0<b):z.natAbs<c:=∅
theorem oz173 {a b c d:Nat}(h0:1<=a)(h1:(b+1)*a<=c)(h2:d*a+a<=(b+1)*a):d*a<c:=∅
theorem oz174 {z y:Int}(h0:z<=(97:Int))(h1:(0:Int)<=y)(h2:y<z):y.natAbs<=97:=∅
theorem oz175 {z y:Int}(h0:(0:Int)<=z)(h1:z<y)(h2:y<=(97:Int)):z.natAbs<128:=∅
-- CHANGE: your row's module here,as the last of these rows
set_option Elab.async false
set_option linter.all false
set_option maxRecDepth 100000
namespace L2
open PySem PySem.Spec PyProof.Rows
abbrev Key:=Sum Int Str
def keyIs:Key->Value->Bool
 | .inl k,v=>Value.isInt k v
 | .inr x,v=>Value.isStrOf x v
def keyH (w:World):Key->Int
 | .inl k=>hashInt k
 | .inr x=>hashStr w x
theorem Zbf:∀ {k:Key} {v:Value},keyIs k v=true->(∃ i t,k=Sum.inl i/\v=Value.int i t)\/(∃ x t,k=Sum.inr x/\v=Value.str x t)
 | .inl i,v,h=>by
  obtain⟨t,e⟩:=Value.isInt_shape (k:=i) (v:=v) h;exact .inl ⟨i,t,rfl,e⟩
 | .inr x,v,h=>by
  obtain⟨t,e⟩:=Value.isStrOf_shape (x:=x) (v:=v) h;exact .inr ⟨x,t,rfl,e⟩
theorem key_ll (a b:Int):decide ((Sum.inl a:Key)=Sum.inl b)=(a == b):=by
 by_cases e:a=b
 .subst e;simp
 .have h:¬ (Sum.inl a:Key)=Sum.inl b:=λq=>e (Sum.inl.inj q);rw[Ja3 h];exact (Jdj.mpr e).symm
theorem key_rr (a b:Str):decide ((Sum.inr a:Key)=Sum.inr b)=decide (a=b):=by
 by_cases e:a=b
 .subst e;simp
 .have h:¬ (Sum.inr a:Key)=Sum.inr b:=λq=>e (Sum.inr.inj q);rw[Ja3 h,Ja3 e]
theorem key_lr (a:Int)(b:Str):decide ((Sum.inl a:Key)=Sum.inr b)=false:=Ja3 (λq=>nomatch q)
theorem key_rl (a:Str)(b:Int):decide ((Sum.inr a:Key)=Sum.inl b)=false:=Ja3 (λq=>nomatch q)
def Zls (prog:Program)(w:World):PySem.KeyKind prog w Key where
 is:=keyIs
 hash:=keyH w
 inj:=λv a b ha hb=>by
  rcases Zbf ha with ⟨i,t,rfl,rfl⟩|⟨x,t,rfl,rfl⟩
  .rcases Zbf hb with ⟨j,u,rfl,e⟩|⟨y,u,rfl,e⟩
   .injection e with e1 _;rw[e1]
   .exact nomatch e
  .rcases Zbf hb with ⟨j,u,rfl,e⟩|⟨y,u,rfl,e⟩
   .exact nomatch e
   .injection e with e1 _;rw[e1]
 byValue:=λk v h=>by
  rcases Zbf h with ⟨i,t,rfl,rfl⟩|⟨x,t,rfl,rfl⟩ <;> rfl
 pyHash:=λhv h=>by
  rcases Zbf hv with ⟨i,t,rfl,rfl⟩|⟨x,t,rfl,rfl⟩
  .exact wpAny_pyHash_int h
  .exact wpAny_pyHash_str h
 eqBool:=λhu hv h=>by
  rcases Zbf hu with ⟨i,t,rfl,rfl⟩|⟨x,t,rfl,rfl⟩
  .rcases Zbf hv with ⟨j,u,rfl,rfl⟩|⟨y,u,rfl,rfl⟩
   .rw [key_ll] at h;exact wpAny_eqBool_int h
   .rw [key_lr] at h;exact SeqAt.EqAt.int_str i t y u _ _ _ _ h
  .rcases Zbf hv with ⟨j,u,rfl,rfl⟩|⟨y,u,rfl,rfl⟩
   .rw [key_rl] at h;exact SeqAt.EqAt.str_int x t j u _ _ _ _ h
   .rw [key_rr] at h;exact wpAny_eqBool_str h
 «strs»:=λk x t v h=>by
  rcases Zbf h with ⟨i,u,rfl,e⟩|⟨y,u,rfl,e⟩
  .exact nomatch e
  .injection e with e1 _
   subst e1;cases v <;> rfl
inductive V where
 | non|bl (b:Bool)|int (i:Int)|str (x:Str)|byt (b:Array UInt8)|flt (b:UInt64)|ref (a:Addr)|ty (n:String)
 deriving DecidableEq
def RelV:V->Value->Prop
 | .non,u=>u=Value.none
 | .bl b,u=>u=Value.bool b
 | .int i,u=>∃ t,u=Value.int i t
 | .str x,u=>∃ t,u=Value.str x t
 | .byt b,u=>∃ t,u=Value.bytes b t
 | .flt b,u=>∃ t,u=Value.float b t
 | .ref a,u=>u=Value.ref a
 | .ty n,u=>u=Value.type n
abbrev Vals:List V->List Value->Prop:=Paired RelV
theorem Vals.length {xs:List V}{us:List Value}(r:Vals xs us):xs.length=us.length:=Paired.length r
theorem Vals.get:∀ {xs:List V} {us:List Value} {i:Nat} {x:V},Vals xs us->xs[i]?=some x->∃ u,us[i]?=some u/\RelV x u
 | _,_,_,_,.nil,e=>by simp at e
 | _,_,0,_,.cons r _,e=>by simp at e;subst e;exact⟨_,rfl,r⟩
 | _,_,i+1,x,.cons _ t,e=>by
  refine Zac (Vals.get (i:=i) (x:=x) t (by simpa using e)) λu h1 h2=>?_;exact⟨u,by simpa using h1,h2⟩
theorem Vals.set {x:V}{u:Value}(r:RelV x u):∀ {xs:List V} {us:List Value} (i:Nat),Vals xs us->Vals (xs.set i x) (us.set i u)
 | _,_,_,.nil=>.nil
 | _,_,0,.cons _ t=>.cons r t
 | _,_,i+1,.cons q t=>.cons q (Vals.set r i t)
theorem Vals.append:∀ {xs ys:List V} {us ws:List Value},Vals xs us->Vals ys ws->Vals (xs++ys) (us++ws)
 | _,_,_,_,.nil,s=>s
 | _,_,_,_,.cons r t,s=>.cons r (Vals.append t s)
theorem Vals.take:∀ {xs:List V} {us:List Value} (n:Nat),Vals xs us->Vals (xs.take n) (us.take n)
 | _,_,0,_=>.nil
 | _,_,_+1,.nil=>.nil
 | _,_,n+1,.cons r t=>.cons r (Vals.take n t)
theorem Vals.drop:∀ {xs:List V} {us:List Value} (n:Nat),Vals xs us->Vals (xs.drop n) (us.drop n)
 | _,_,0,r=>r
 | _,_,_+1,.nil=>.nil
 | _,_,n+1,.cons _ t=>Vals.drop n t
def RelO:Option V->Option Value->Prop
 | some v,some u=>RelV v u
 | none,none=>True
 | _,_=>False
def KV {κ:Type}:List (κ×V)->List (κ×Value)->Prop:=Paired λ(p:κ×V) (q:κ×Value)=>p.1=q.1/\RelV p.2 q.2
def kV:Key->V
 | .inl i=>.int i
 | .inr x=>.str x
inductive HO where
  | lst (xs:List V)
  | tup (xs:List V)
  | dK (kvs:List (Key×V))|dT (kvs:List (List Key×V))
  | set (S:Int->Bool) (n:Nat)
  | ins (C dx:Addr) (fs:List (Str×V))
  | own (x:Addr)
  | xd (fs:List (Str×V))
  | met (f x:Addr)
  | rng (lo hi:Int)
  | frz (o:Obj) (u:HO)
  | tbl (ps:Array Value)
  | ext (φ:Heap->Prop)
  | tab (l c:Int) (q:Str)
abbrev Hp:=Addr->Option HO
def upd (H:Hp)(a:Addr)(o:HO):Hp:=λb=>if b=a then some o else H b
theorem Zab {H:Hp}{a:Addr}{o:HO}:upd H a o a=some o:=by unfold upd;rw[if_pos rfl]
theorem Zah {H:Hp}{a b:Addr}{o:HO}(h:b≠a):upd H a o b=H b:=by unfold upd;rw[if_neg h]
theorem Zet {H:Hp}{a b:Addr}{o u:HO}(h:H a=some o)(h':H b=some u)(d:o≠u):a≠b:=by
 intro e;subst e;rw[h] at h';exact d (Ja7 h')
theorem Zai {H:Hp}{a b:Addr}{o:HO}(h:H a=some o)(h':H b=none):a≠b:=by
 intro e;subst e;rw[h] at h';cases h'
section
variable (P:Program)(w:World)
def ObjOk (H:Hp)(h:Heap)(a:Addr):HO->Prop
 | .lst xs=>xs.length<=sizeLine/\∃ (its:List Value) (n:Nat),Vals xs its/\h.get? a=some { cls:=.type "list",data:=.seq its.toArray n }
 | .tup xs=>xs.length<=sizeLine/\∃ its:List Value,Vals xs its/\IsTup h a its.toArray
 | .dK kvs=>kvs.length<=sizeLine/\(a == sysModules)=false/\∃ vs,KV kvs vs/\h.DictOf (Zls P w) a vs
 | .dT kvs=>kvs.length<=sizeLine/\(a == sysModules)=false/\∃ xs:List (List Key×Addr×Value),
   Paired (λ(p:List Key×V) (q:List Key×Addr×Value)=>p.1=q.1/\H q.2.1=some (.tup (p.1.map kV))/\RelV p.2 q.2.2) kvs xs /\
   ∃ o es ep,h.get? a=some o/\o.ExactDict/\o.data=.dict es ep/\es.toList=xs.map (entryOfKey (tupleKind (Zls P w)))/\(xs.map (·.1)).Nodup
 | .set S n=>h.SetOf (intKind P w) a S n
 | .ins C dx fs=>H dx=some (.own a)/\fs.length<=1000/\dx≠a/\h.get? a=some (PySem.W.instObj C dx) /\
   ∃ mA,h.Ns1 dx mA/\(∀ f,RelO (fs.lookup f) (mA f))/\PySem.Within mA (fs.map (·.1))
 | .own _=>∃ o,h.get? a=some o
 | .xd fs=>∃ mA,h.Ns1 a mA/\∀ f,RelO (fs.lookup f) (mA f)
 | .rng lo hi=>∃ t u v,h.get? a=some { cls:=.type "range",data:=.fields #[.int lo t,.int hi u,.int 1 v] }
 | .frz o u=>h.get? a=some o/\ObjOk H h a u
 | .tbl ps=>h.get? a=some { cls:=.none,data:=.fields ps }
 | .met f x=>h.get? a=some (PySem.W.methodObj (.ref f) (.ref x))
 | .ext φ=>φ h/\(∃ o,h.get? a=some o)/\∀ h1 h2:Heap,φ h1->(∀ o,h1.get? a=some o->h2.get? a=some o)->φ h2
 | .tab l c q=>h.get? a=some { cls:=.none,data:=.fields #[] }\/∃ c' oc vs t,h.get? a=some { cls:=.none,data:=.fields #[rawInt l,rawInt c,.ref c'] }/\c'≠a/\H c'=some (.frz oc (.own a))/\oc.data=.fields vs/\vs[1]?=some (.str q t)
def HOk (H:Hp)(h:Heap):Prop:=∀ a o,H a=some o->ObjOk P w H h a o
end
section
variable {P:Program}{w:World}{H H':Hp}{h h':Heap}{a:Addr}{o:HO}
theorem ObjOk.lt (x:ObjOk P w H h a o):a<h.objs.size:=by
 cases o with
 | lst xs=>obtain⟨_,_,_,_,e⟩:=x;exact Jak e
 | tup xs=>obtain⟨_,_,_,p⟩:=x;exact p.lt
 | dK kvs=>obtain⟨_,_,_,_,o,_,_,e,_⟩:=x;exact Jak e
 | dT kvs=>obtain⟨_,_,_,_,o,_,_,e,_⟩:=x;exact Jak e
 | set S n=>obtain⟨o,_,_,_,e,_⟩:=x;exact Jak e
 | ins C dx fs=>obtain⟨_,_,_,e,_⟩:=x;exact Jak e
 | own y=>obtain⟨_,e⟩:=x;exact Jak e
 | xd fs=>obtain⟨_,⟨_,_,_,e,_⟩,_⟩:=x;exact Jak e
 | rng lo hi=>obtain⟨_,_,_,e⟩:=x;exact Jak e
 | frz ob u=>obtain⟨e,_⟩:=x;exact Jak e
 | tbl ps=>exact Jak (show h.get? a=some _ from x)
 | met f y=>exact Jak (show h.get? a=some _ from x)
 | ext φ=>obtain⟨_,⟨_,e⟩,_⟩:=x;exact Jak e
 | tab l c q=>
  rcases x with e|⟨_,_,_,_,e,_⟩
  .exact Jak e
  .exact Jak e
theorem Paired.mapP {α β:Type}{F G:α->β->Prop}:∀ {l₁:List α} {l₂:List β},Paired F l₁ l₂->(∀ a b,F a b->G a b)->Paired G l₁ l₂
 | _,_,.nil,_=>.nil
 | _,_,.cons r t,f=>.cons (f _ _ r) (Paired.mapP t f)
theorem ObjOk.stay (x:ObjOk P w H h a o)(k:∀ b u,(b=a\/H b=some (.own a))->h.get? b=some u->h'.get? b=some u)(ho:∀ b,H b=some (.own a)->H' b=some (.own a))(ht:∀ b xs,H b=some (.tup xs)->H' b=some (.tup xs))(hz:∀ b o' u,H b=some (.frz o' u)->H' b=some (.frz o' u)):ObjOk P w H' h' a o:=by
 induction o with
 | lst xs=>obtain⟨z,its,n,r,e⟩:=x;exact⟨z,its,n,r,k _ _ (.inl rfl) e⟩
 | tup xs=>obtain⟨z,its,r,ob,e,c⟩:=x;exact⟨z,its,r,ob,k _ _ (.inl rfl) e,c⟩
 | dK kvs=>obtain⟨z,y,vs,r,ob,es,ep,e,c⟩:=x;exact⟨z,y,vs,r,ob,es,ep,k _ _ (.inl rfl) e,c⟩
 | dT kvs=>
  refine Za2 x λz y e916=>?_;clear x;obtain⟨xs,r,ob,es,ep,e,c⟩:=e916;exact⟨z,y,xs,Paired.mapP r λp q z=>⟨z.1,ht _ _ z.2.1,z.2.2⟩,ob,es,ep,k _ _ (.inl rfl) e,c⟩
 | set S n=>obtain⟨ob,es,ep,t,e,c⟩:=x;exact⟨ob,es,ep,t,k _ _ (.inl rfl) e,c⟩
 | ins C dx fs=>
  refine Zdn x λd z ne e e917=>?_;clear x;obtain⟨mA,⟨od,es,ep,e2,c⟩,r⟩:=e917;exact⟨ho _ d,z,ne,k _ _ (.inl rfl) e,mA,⟨od,es,ep,k _ _ (.inr d) e2,c⟩,r⟩
 | own y=>obtain⟨ob,e⟩:=x;exact⟨ob,k _ _ (.inl rfl) e⟩
 | xd fs=>obtain⟨mA,⟨od,es,ep,e,c⟩,r⟩:=x;exact⟨mA,⟨od,es,ep,k _ _ (.inl rfl) e,c⟩,r⟩
 | rng lo hi=>obtain⟨t,u,v,e⟩:=x;exact⟨t,u,v,k _ _ (.inl rfl) e⟩
 | frz ob u ih=>obtain⟨e,q⟩:=x;exact⟨k _ _ (.inl rfl) e,ih q⟩
 | tbl ps=>
  have e:h.get? a=some { cls:=.none,data:=.fields ps }:=x;show h'.get? a=some { cls:=.none,data:=.fields ps };exact k a _ (.inl rfl) e
 | met f y=>
  have e:h.get? a=some (PySem.W.methodObj (.ref f) (.ref y)):=x;show h'.get? a=some (PySem.W.methodObj (.ref f) (.ref y));exact k a _ (.inl rfl) e
 | ext φ=>obtain⟨p,⟨o,e⟩,st⟩:=x;exact⟨st _ _ p λo q=>k _ _ (.inl rfl) q,⟨o,k _ _ (.inl rfl) e⟩,st⟩
 | tab l c q=>
  rcases x with e|⟨c',oc,vs,t,e,ne,e2,r⟩
  .exact .inl (k _ _ (.inl rfl) e)
  .exact .inr ⟨c',oc,vs,t,k _ _ (.inl rfl) e,ne,hz _ _ _ e2,r⟩
theorem HOk.lt (x:HOk P w H h)(e:H a=some o):a<h.objs.size:=(x a o e).lt
theorem HOk.fresh (x:HOk P w H h)(e:h.objs.size<=a):H a=none:=by
 cases q:H a with
 | none=>rfl
 | some u=>exact absurd (Jao (x.lt q) e) (Jb0 _)
theorem HOk.kept (x:HOk P w H h)(k:∀ b u,h.get? b=some u->h'.get? b=some u):HOk P w H h':=λa o e=>
 (x a o e).stay (λb u _ q=>k b u q) (λ_ q=>q) (λ_ _ q=>q) λ_ _ _ q=>q
theorem HOk.laid (x:HOk P w H h)(k:∀ b u,h.get? b=some u->h'.get? b=some u)(hp:h.objs.size<=a)(new:ObjOk P w (upd H a o) h' a o):HOk P w (upd H a o) h':=λb u e=>by
 have hn:=x.fresh hp;by_cases hb:b=a
 .subst hb;rw[Zab] at e;cases e;exact new
 .rw [Zah hb] at e;exact (x b u e).stay (λc v _ q=>k c v q) (λc q=>by rw[Zah (Zai q hn)];exact q) (λc xs q=>by rw[Zah (Zai q hn)];exact q) λc _ _ q=>by rw[Zah (Zai q hn)];exact q
end
def Rd (H:Hp)(a:Addr)(u:HO):Prop:=H a=some u\/∃ o,H a=some (.frz o u)
theorem Rd.of {H:Hp}{a:Addr}{u:HO}(h:H a=some u):Rd H a u:=.inl h
theorem Rd.ok {P:Program}{w:World}{H:Hp}{h:Heap}{a:Addr}{u:HO}(r:Rd H a u)(x:HOk P w H h):ObjOk P w H h a u:=by
 rcases r with r|⟨o,r⟩
 .exact x a u r
 .obtain ⟨_,q⟩:=x a _ r;exact q
def Mut:Option HO->Prop
 | some (.lst _)=>True
 | some (.dK _)=>True
 | some (.dT _)=>True
 | some (.set _ _)=>True
 | some (.ins _ _ _)=>True
 | some (.ext _)=>True
 | some (.tab _ _ _)=>True
 | _=>False
section
variable {P:Program}{w:World}{H:Hp}{h h':Heap}{x e:Addr}{o':HO}
theorem HOk.write (ok:HOk P w H h)(mu:Mut (H x))(he:e=x\/H e=some (.own x))(k:∀ b u,b≠e->h.get? b=some u->h'.get? b=some u)(heo:∃ u,h'.get? e=some u)(new:ObjOk P w (upd H x o') h' x o'):HOk P w (upd H x o') h':=λb u q=>by
 have nown:∀ c y,H c=some (.own y)->c≠x:=λc y r z=>by subst z;rw[r] at mu;exact mu
 have ntup:∀ c xs,H c=some (.tup xs)->c≠x:=λc xs r z=>by subst z;rw[r] at mu;exact mu
 have nfrz:∀ c o' u',H c=some (.frz o' u')->c≠x:=λc o' u' r z=>by subst z;rw[r] at mu;exact mu
 by_cases hb:b=x
 .subst hb;rw[Zab] at q;cases q;exact new
 .rw [Zah hb] at q;by_cases hbe:b=e
  .have q':H b=some (.own x):=by
    rcases he with z|z
    .exact absurd (hbe.trans z) hb
    .rw [hbe];exact z
   rw[q] at q';cases q';obtain⟨v,hv⟩:=heo;exact⟨v,by rw[hbe];exact hv⟩
  .refine (ok b u q).stay (λc v hc r=>k c v ?_ r) (λc r=>by rw[Zah (nown c b r)];exact r) (λc xs r=>by rw[Zah (ntup c xs r)];exact r) λc o' u' r=>by rw[Zah (nfrz c o' u' r)];exact r
   rcases hc with rfl|hc
   .exact hbe
   .rintro rfl;rcases he with z|z
    .exact nown c b hc z
    .rw [hc] at z;cases z;exact hb rfl
end
structure Un (fs ex:List Addr)(H H':Hp)(h h':Heap):Prop where
 keep:∀ b o,h.get? b=some o->H b=none->b∉fs->b∉ex->h'.get? b=some o
 slot:∀ b o,h.get? b=some o->H b=none->b∈fs->b∉ex->∃ sl,h'.get? b=some { o with slots:=sl }
 free:∀ b o,h.get? b=some o->H b=none->b∉ex->H' b=none
 there:∀ b o,h.get? b=some o->b∉ex->∃ o',h'.get? b=some o'
 tups:∀ b xs,H b=some (.tup xs)->H' b=some (.tup xs)
 frzs:∀ b o u,H b=some (.frz o u)->H' b=some (.frz o u)
 tbls:∀ b ps,H b=some (.tbl ps)->∃ more,H' b=some (.tbl (ps++more))
section
variable {fs fs' ex ex':List Addr}{H H1 H2:Hp}{h h1 h2 h':Heap}{a x e:Addr}{o:HO}
theorem Un.any (u:Un fs ex H H1 h h1){b:Addr}{ob:Obj}(q:h.get? b=some ob)(n:H b=none)(hx:b∉ex):∃ sl,h1.get? b=some { ob with slots:=sl }:=by
 by_cases hb:b∈fs
 .exact u.slot b ob q n hb hx
 .exact ⟨ob.slots,u.keep b ob q n hb hx⟩
theorem Un.kept (k:∀ b u,h.get? b=some u->h'.get? b=some u):Un fs ex H H h h':=
 ⟨λb ob q _ _ _=>k b ob q,λb ob q _ _ _=>⟨ob.slots,k b ob q⟩,λ_ _ _ n _=>n,λb ob q _=>⟨ob,k b ob q⟩,λ_ _ q=>q,λ_ _ _ q=>q,λ_ ps q=>⟨#[],by rw[q];simp⟩⟩
theorem Un.refl:Un fs ex H H h h:=Un.kept λ_ _ q=>q
theorem Un.laid (k:∀ b u,h.get? b=some u->h'.get? b=some u)(hp:h.objs.size<=a)(hn:H a=none):Un fs ex H (upd H a o) h h' where
 keep:=λb u q _ _ _=>k b u q
 slot:=λb u q _ _ _=>⟨u.slots,k b u q⟩
 free:=λb u q n _=>by rw[Zah (Ja6 (Jao (Jak q) hp))];exact n
 there:=λb u q _=>⟨u,k b u q⟩
 tups:=λb xs q=>by rw[Zah (Zai q hn)];exact q
 frzs:=λb u xs q=>by rw[Zah (Zai q hn)];exact q
 tbls:=λb ps q=>⟨#[],by rw[Zah (Zai q hn),q];simp⟩
theorem Un.write (mu:Mut (H x))(he:e=x\/H e=some (.own x))(k:∀ b u,b≠e->h.get? b=some u->h'.get? b=some u)(heo:∃ u,h'.get? e=some u):Un fs ex H (upd H x o) h h':=by
 have hx:∀ b,H b=none->b≠x:=λb n z=>by subst z;rw[n] at mu;exact mu
 have hb:∀ b,H b=none->b≠e:=λb n z=>by
  subst z;rcases he with r|r
  .exact hx b n r
  .rw [n] at r;cases r
 have hm:∀ b u,H b=some u->¬ Mut (some u)->b≠x:=λb u q nm z=>by subst z;rw[q] at mu;exact nm mu
 refine⟨λb u q n _ _=>k b u (hb b n) q,λb u q n _ _=>⟨u.slots,k b u (hb b n) q⟩,λb u q n _=>by rw[Zah (hx b n)];exact n,λb u q _=>?_,
  λb xs q=>by rw[Zah (hm b _ q λz=>z)];exact q,λb u xs q=>by rw[Zah (hm b _ q λz=>z)];exact q,λb ps q=>⟨#[],by rw[Zah (hm b _ q λz=>z),q];simp⟩⟩
 by_cases hbe:b=e
 .subst hbe;exact heo
 .exact ⟨u,k b u hbe q⟩
theorem Un.mono (u:Un fs ex H H1 h h1)(hs:∀ b∈fs,b∈fs')(hx:∀ b∈ex,b∈ex'):Un fs' ex' H H1 h h1:=
 ⟨λb ob q n hb he=>u.keep b ob q n (λz=>hb (hs b z)) λz=>he (hx b z),λ_ _ q n _ he=>u.any q n λz=>he (hx _ z),λb ob q n he=>u.free b ob q n λz=>he (hx b z),λb ob q he=>u.there b ob q λz=>he (hx b z),u.tups,u.frzs,u.tbls⟩
end
def trk (h:Heap)(H:Hp):List Addr:=(List.range h.objs.size).filter λa=>(H a).isSome
def Zrm (h:Heap)(H:Hp):Heap:=PySem.W.hideAll h (trk h H)
theorem Zqq (h:Heap)(H:Hp):(Zrm h H).objs.size=h.objs.size:=PySem.W.hideAll_size _ _
theorem Ztk {h:Heap}{H:Hp}{b:Addr}{o:Obj}(e:h.get? b=some o)(n:H b=none):(Zrm h H).get? b=some o:=
 PySem.W.hideAll_get _ e λhm=>by
  have q:(H b).isSome=true:=(List.mem_filter.mp hm).2;rw[n] at q;simp at q
theorem of_hidT {h:Heap}{H:Hp}{b:Addr}{o:Obj}(e:(Zrm h H).get? b=some o):h.get? b=some o/\H b=none:=by
 have e':h.get? b=some o:=PySem.W.of_hideAll (trk h H) e;refine⟨e',?_⟩;cases q:H b with
 | none=>rfl
 | some x=>
  have hm:b∈trk h H:=List.mem_filter.mpr ⟨Jbk.mpr (Jak e'),by simp[q]⟩;have z:(Zrm h H).get? b=none:=PySem.W.hideAll_none (trk h H) hm;rw[z] at e;cases e
def allNews (g h:Heap)(L:Addr):List (Addr×Obj):=(List.range h.objs.size).filterMap λa=>if a=L\/(g.get? a).isSome=true then none else (h.get? a).map λo=>(a,o)
def rest (g h:Heap)(L d:Addr):List (Addr×Obj):=(allNews g h L).filter λp=>decide (p.1≠d)
structure Mod (K:Frag)(mg:Str->Option Value)(base:Heap):Prop where
 kin:K.In base
 glob:base.Ns mainGlobals mg
 blt:∃ mb,base.Ns builtinsNs mb/\∀ x:Str,x ≠ "__name__" -> mb x=bootBuiltins x
 nolimit:base.NoLimit
 seer:base.NoSeer
 bmain:∃ bm ob,mg "__builtins__" = some (.ref bm)/\bm≠builtinsNs/\base.get? bm=some ob/\ob.cls=.type "module" /\ ob.dict=some builtinsNs/\ob.data=.plain
def Seen (l:List Env):Prop:=∃ e r,l=e::r/\e.scope.isGenerator=false/\e.scope.isCoroutine=false/\e.builtins=builtinsNs/\e.globals=mainGlobals
structure Cx where
 prog:Program
 w:World
 K:Frag
 mg:Str->Option Value
 base:Heap
 A:Around
 N:List Str
 s₀:Shared
 H₀:Hp
 env:Env
 outer:List Env
 stack:List Env
 ex:List Addr
 fn:Str->Bool
 calm:Bool
 pn:List (Addr×Obj)
 xe:Value->Shared->Prop
def frs (l:List Env):List Addr:=l.filterMap (·.frame)
abbrev Cx.fs (X:Cx):List Addr:=frs X.outer
def Vis (sc:Scope)(x:Str):Prop:=sc.names.lookup x=some .local\/sc.names.lookup x=some .cell\/sc.names.lookup x=some .free
def Loc (sc:Scope)(x:Str):Prop:=sc.names.lookup x=some .local\/sc.names.lookup x=some .cell
def Look (env:Env)(h:Heap)(m:Str->Option Value)(x:Str)(u:Value):Prop:=
 (env.kindOf x=some .local/\m x=some u)\/((env.kindOf x=some .cell\/env.kindOf x=some .free)/\∃ c,env.cells.lookup x=some c/\h.IsCell c (some u))
structure Cx.Ok (X:Cx):Prop where
 mod:Mod X.K X.mg X.base
 kind:X.env.scope.kind=.function
 glob:X.env.globals=mainGlobals
 blt:X.env.builtins=builtinsNs
 above:X.s₀.heap.objs.size<=X.env.locals
 inj:∀ x y c,X.env.cells.lookup x=some c->X.env.cells.lookup y=some c->x=y
 has:∀ x,(X.env.kindOf x=some .cell\/X.env.kindOf x=some .free)->∃ c,X.env.cells.lookup x=some c
 cab:∀ x c,X.fn x=true->X.env.cells.lookup x=some c->X.s₀.heap.objs.size<=c
 hd:X.calm=true->X.A.handled=none
 frames:X.A.frames=some X.stack
 stk:X.stack=X.outer\/(X.stack=X.env::X.outer/\X.env.frame=some X.env.locals)
 exf:∀ b∈X.ex,b≠X.env.locals/\∀ x c,X.env.cells.lookup x=some c->c≠b
 bs:∀ b o,X.base.get? b=some o->X.s₀.heap.get? b=some o/\X.H₀ b=none
 bsz:X.base.objs.size<=X.s₀.heap.objs.size
 noex:∀ b o,X.base.get? b=some o->b∉X.ex
 exfs:∀ b∈X.ex,b∉X.fs
 funs:X.s₀.heap.FunFrames X.base X.outer
 frf:∀ b∈X.fs,X.H₀ b=none
 top:Seen X.stack
structure Inv (X:Cx)(pins:List (Addr×Obj))(σ:List (Option V))(H:Hp)(s:Shared):Prop where
 ok:X.Ok
 os:s.os=X.s₀.os
 bare:AllBare s.gens
 base:Un X.fs X.ex X.H₀ H X.s₀.heap s.heap
 loc:∃ m,s.heap.Ns X.env.locals m/\∀ (i:Nat) (x:Str) (v:V),X.N[i]?=some x->σ[i]?=some (some v)->Vis X.env.scope x->∃ u,RelV v u/\Look X.env s.heap m x u
 cell:∀ x c,X.env.cells.lookup x=some c->∃ v,s.heap.IsCell c v
 free:H X.env.locals=none
 freeC:∀ x c,X.env.cells.lookup x=some c->H c=none
 pin:∀ p∈X.pn++pins,s.heap.get? p.1=some p.2/\H p.1=none/\p.1≠X.env.locals/\p.1∉X.fs/\∀ v,p.2.data≠.cell v
 hok:HOk X.prog X.w H s.heap
 len:σ.length=X.N.length
section
variable {X:Cx}{pins:List (Addr×Obj)}{σ:List (Option V)}{H H':Hp}{s:Shared}{h':Heap}
theorem Cx.Ok.nofr (ok:X.Ok){b:Addr}{o:Obj}(e:X.base.get? b=some o):b∉X.fs:=λhb=>by
 have:=(ok.funs.mem hb).1;rw[e] at this;cases this
theorem Inv.bs (I:Inv X pins σ H s):∀ b o,X.base.get? b=some o->s.heap.get? b=some o/\H b=none:=λb o e=>
 ⟨I.base.keep b o (I.ok.bs b o e).1 (I.ok.bs b o e).2 (I.ok.nofr e) (I.ok.noex b o e),I.base.free b o (I.ok.bs b o e).1 (I.ok.bs b o e).2 (I.ok.noex b o e)⟩
theorem Inv.bk (I:Inv X pins σ H s):∀ b o,X.base.get? b=some o->s.heap.get? b=some o:=λb o e=>(I.bs b o e).1
theorem Inv.mod (I:Inv X pins σ H s):Mod X.K X.mg X.base:=I.ok.mod
theorem Inv.kIn (I:Inv X pins σ H s):X.K.In s.heap:=I.ok.mod.kin.keeps I.bk
theorem Inv.nolimit (I:Inv X pins σ H s):s.heap.NoLimit:=I.ok.mod.nolimit.keeps I.bk
theorem Inv.long (I:Inv X pins σ H s)(ht:X.prog.given.tree=none)(hd:X.A.depth+Builtin.pylongFrames<recursionLimit):PySem.PylongRoom (model X.prog X.w) X.A s:=by
 refine Znj I.ok.top λe r hs h1 h2 h3 h4=>?_;exact PySem.PylongRoom.of I.nolimit hd (PySem.SeerAt.of (I.ok.mod.seer.keeps I.bk) ht (by rw[I.ok.frames,hs]) h1 h2 h3 h4)
theorem Inv.lt (I:Inv X pins σ H s):X.env.locals<s.heap.objs.size:=let ⟨_,hn,_⟩:=I.loc;hn.lt
theorem Inv.sz (I:Inv X pins σ H s):X.s₀.heap.objs.size<=s.heap.objs.size:=Jbi I.ok.above (Jbw I.lt)
theorem Inv.nofs (I:Inv X pins σ H s){a:Addr}(h:s.heap.objs.size<=a):a∉X.fs:=λhb=>by
 obtain⟨_,o,ho,_⟩:=I.ok.funs.mem hb;exact absurd (Jao (Jak ho) (Jbi I.sz h)) (Jb0 _)
theorem Inv.cne (I:Inv X pins σ H s):∀ x c,X.env.cells.lookup x=some c->c≠X.env.locals:=λx c e z=>by
 obtain⟨v,o,ho,hd⟩:=I.cell x c e;refine Zac I.loc λm e918 _=>?_;obtain⟨o',es,ep,ho',hd',_⟩:=e918;rw[z,ho'] at ho;cases ho;rw[hd'] at hd;cases hd
theorem Inv.funs (I:Inv X pins σ H s):s.heap.FunFrames X.base X.outer:=by
 have all:∀ (l:List Env),(∀ b∈frs l,b∈X.fs)->X.s₀.heap.FunFrames X.base l->s.heap.FunFrames X.base l:=by
  intro l
  induction l with
  | nil=>intro _ _;trivial
  | cons env r ih=>
   intro hs hl;refine Za2 hl λhk e919 hr=>?_;clear hl;obtain⟨L,o,hf,hn,ho,hd⟩:=e919;have hL:L∈X.fs:=hs L (by unfold frs;rw[Jdk,hf];exact Jb5);obtain⟨sl,e⟩:=I.base.slot L o ho (I.ok.frf L hL) hL λz=>I.ok.exfs L z hL;exact⟨hk,⟨L,_,hf,hn,e,hd⟩,ih (λb hb=>hs b (by unfold frs;rw[Jdk,hf];exact Jbn _ hb)) hr⟩
 exact all X.outer (λ_ hb=>hb) I.ok.funs
theorem Inv.stack (I:Inv X pins σ H s):s.heap.FunFrames X.base X.stack:=by
 rcases I.ok.stk with e|⟨e,hf⟩
 .rw [e];exact I.funs
 .rw [e];refine Zac I.loc λm hn _=>?_;refine .cons (by rw[I.ok.kind];decide) hf hn ?_ I.funs;exact Heap.get?_none_of_le (Jbi I.ok.bsz I.ok.above)
theorem Inv.stkSub (I:Inv X pins σ H s):∀ b∈frs X.stack,b∈X.env.locals::X.fs:=λb hb=>by
 rcases I.ok.stk with e|⟨e,hf⟩
 .rw [e] at hb;exact Jbn _ hb
 .rw [e] at hb;unfold frs at hb;rw[Jdk,hf] at hb;exact hb
theorem Inv.stkFree (I:Inv X pins σ H s):∀ b∈frs X.stack,H b=none:=λb hb=>by
 rcases Ja9.mp (I.stkSub b hb) with e|hb
 .rw [e];exact I.free
 .obtain ⟨_,o,ho,_⟩:=I.ok.funs.mem hb;exact I.base.free b o ho (I.ok.frf b hb) λz=>I.ok.exfs b z hb
theorem Inv.step {g':Array GenState}{t':Nat}{d':Drawn}{ch:List Addr}(I:Inv X pins σ H s)(hch:∀ b∈ch,(b∈X.ex\/X.s₀.heap.objs.size<=b)/\b≠X.env.locals/\(∀ x c,X.env.cells.lookup x=some c->c≠b)/\∀ p∈X.pn++pins,p.1≠b)(keep:∀ b o,b≠X.env.locals->b∉X.fs->b∉ch->s.heap.get? b=some o->H b=none->h'.get? b=some o)(slot:∀ b o,b≠X.env.locals->b∈X.fs->b∉ch->s.heap.get? b=some o->H b=none->∃ sl,h'.get? b=some { o with slots:=sl })(free:∀ b o,b∉ch->s.heap.get? b=some o->H b=none->H' b=none)(there:∀ b o,b∉ch->s.heap.get? b=some o->∃ o',h'.get? b=some o')(tups:∀ b xs,H b=some (.tup xs)->H' b=some (.tup xs))(frzs:∀ b o u,H b=some (.frz o u)->H' b=some (.frz o u))(tbls:∀ b ps,H b=some (.tbl ps)->∃ more,H' b=some (.tbl (ps++more)))(ns:∀ m,s.heap.Ns X.env.locals m->h'.Ns X.env.locals m)(hok:HOk X.prog X.w H' h')(hg:AllBare g'):
  Inv X pins σ H' { s with heap:=h',gens:=g',drawn:=d',toks:=t' }:=by
 have neL:∀ b o,X.s₀.heap.get? b=some o->b≠X.env.locals:=λb o e=>Ja6 (Jao (Jak e) I.ok.above);have neC:∀ b o,X.s₀.heap.get? b=some o->b∉X.ex->b∉ch:=λb o e hx hb=>by
  rcases (hch b hb).1 with z|z
  .exact hx z
  .exact absurd (Jao (Jak e) z) (Jb0 _)
 have cellK:∀ x c,X.env.cells.lookup x=some c->∀ v,s.heap.IsCell c v->h'.IsCell c v:=λx c e v ⟨o,ho,hd⟩=>by
  have nch:c∉ch:=λz=>(hch c z).2.2.1 x c e rfl;by_cases hc:c∈X.fs
  .obtain ⟨sl,q⟩:=slot c o (I.cne x c e) hc nch ho (I.freeC x c e);exact⟨_,q,hd⟩
  .exact ⟨o,keep c o (I.cne x c e) hc nch ho (I.freeC x c e),hd⟩
 refine⟨I.ok,I.os,hg,⟨λb o e n hb hx=>?_,λb o e n hb hx=>?_,λb o e n hx=>?_,λb o e hx=>?_,λb xs e=>tups b xs (I.base.tups b xs e),λb o xs e=>frzs b o xs (I.base.frzs b o xs e),λb ps e=>?_⟩,?_,λx c e=>?_,?_,λx c e=>?_,λp hp=>?_,hok,I.len⟩
 .exact keep b o (neL b o e) hb (neC b o e hx) (I.base.keep b o e n hb hx) (I.base.free b o e n hx)
 .obtain ⟨sl,e1⟩:=I.base.slot b o e n hb hx;obtain⟨sl',e2⟩:=slot b _ (neL b o e) hb (neC b o e hx) e1 (I.base.free b o e n hx);exact⟨sl',e2⟩
 .obtain ⟨o',e1⟩:=I.base.there b o e hx;exact free b o' (neC b o e hx) e1 (I.base.free b o e n hx)
 .obtain ⟨o',e1⟩:=I.base.there b o e hx;exact there b o' (neC b o e hx) e1
 .obtain ⟨m1,e1⟩:=I.base.tbls b ps e;obtain⟨m2,e2⟩:=tbls b _ e1;exact⟨m1++m2,by rw[e2,Array.append_assoc]⟩
 .refine Zac I.loc λm hn hl=>?_;refine⟨m,ns m hn,λi x v e1 e2 e3=>?_⟩;refine Zac (hl i x v e1 e2 e3) λu r l=>?_;refine⟨u,r,?_⟩;rcases l with l|⟨k,c,e,z⟩
  .exact .inl l
  .exact .inr ⟨k,c,e,cellK x c e _ z⟩
 .obtain ⟨v,z⟩:=I.cell x c e;exact⟨v,cellK x c e v z⟩
 .refine Zac I.loc λm e920 _=>?_;obtain⟨o,_,_,ho,_⟩:=e920;exact free _ o (λz=>(hch _ z).2.1 rfl) ho I.free
 .obtain ⟨v,o,ho,hd⟩:=I.cell x c e;exact free c o (λz=>(hch c z).2.2.1 x c e rfl) ho (I.freeC x c e)
 .refine Zdn (I.pin p hp) λe n ne nf d=>?_;have nch:p.1∉ch:=λz=>(hch p.1 z).2.2.2 p hp rfl;exact⟨keep p.1 p.2 ne nf nch e n,free p.1 p.2 nch e n,ne,nf,d⟩
theorem Inv.un {t':Nat}(I:Inv X pins σ H s)(u:Un X.fs [] H H' s.heap h')(hok:HOk X.prog X.w H' h'):Inv X pins σ H' { s with heap:=h',toks:=t' }:=by
 refine Zac (id I.loc) λm e921 _=>?_;obtain⟨o,es,ep,ho,r⟩:=e921;obtain⟨sl,hL⟩:=u.any ho I.free (by simp);exact I.step (g':=s.gens) (d':=s.drawn) (ch:=[]) (λ_ z=>nomatch z) (λb o _ hb _ e n=>u.keep b o e n hb (by simp)) (λb o _ hb _ e n=>u.slot b o e n hb (by simp)) (λb o _ e n=>u.free b o e n (by simp)) (λb o _ e=>u.there b o e (by simp)) u.tups u.frzs u.tbls (λm' hm=>by
  refine Zeq hm λo' es' ep' ho' r'=>?_;clear hm;rw[ho] at ho';cases ho';exact⟨_,es',ep',hL,r'⟩) hok I.bare
theorem Inv.call {g':Array GenState}{t':Nat}{d':Drawn}{ch:List Addr}(I:Inv X pins σ H s)(u:Un (frs X.stack) ch H H' s.heap h')(hok:HOk X.prog X.w H' h')(hg:AllBare g')(hch:∀ b∈ch,(b∈X.ex\/X.s₀.heap.objs.size<=b)/\b≠X.env.locals/\(∀ x c,X.env.cells.lookup x=some c->c≠b)/\∀ p∈X.pn++pins,p.1≠b):
  Inv X pins σ H' { s with heap:=h',gens:=g',drawn:=d',toks:=t' }:=by
 refine Zac (id I.loc) λm e922 _=>?_;obtain⟨o,es,ep,ho,r⟩:=e922;obtain⟨sl,hL⟩:=u.any ho I.free λz=>(hch _ z).2.1 rfl;exact I.step (ch:=ch) hch (λb o hL hb hc e n=>u.keep b o e n (λz=>(Ja9.mp (I.stkSub b z)).elim hL hb) hc) (λb o _ _ hc e n=>u.any e n hc) (λb o hc e n=>u.free b o e n hc) (λb o hc e=>u.there b o e hc) u.tups u.frzs u.tbls (λm' hm=>by
  refine Zeq hm λo' es' ep' ho' r'=>?_;clear hm;rw[ho] at ho';cases ho';exact⟨_,es',ep',hL,r'⟩) hok hg
theorem Inv.turned {t':Nat}{it:Addr}(I:Inv X pins σ H s)(k:∀ b o,b≠it->s.heap.get? b=some o->h'.get? b=some o)(hn:H it=none)(hL:it≠X.env.locals)(h1:it∈X.ex\/X.s₀.heap.objs.size<=it)(h2:∀ x c,X.env.cells.lookup x=some c->c≠it)(h3:∀ p∈X.pn++pins,p.1≠it):Inv X pins σ H { s with heap:=h',toks:=t' }:=by
 have nit:∀ b u,H b=some u->b≠it:=λb u e z=>by rw[z,hn] at e;cases e
 refine I.step (g':=s.gens) (d':=s.drawn) (ch:=[it]) (λb hb=>?_) (λb o _ _ hc e _=>k b o (λz=>hc (by simp[z])) e) (λb o _ _ hc e _=>⟨o.slots,k b o (λz=>hc (by simp[z])) e⟩) (λ_ _ _ _ n=>n)
  (λb o hc e=>⟨o,k b o (λz=>hc (by simp[z])) e⟩) (λ_ _ e=>e) (λ_ _ _ e=>e) (λb ps e=>⟨#[],by rw[e];simp⟩) (λm hm=>?_) (λb u e=>?_) I.bare
 .have e:b=it:=by simpa using hb
  subst e;exact⟨h1,hL,h2,h3⟩
 .refine Zeq hm λo es ep ho r=>?_;clear hm;exact Zb4 o es ep ⟨k _ o (Jdl hL) ho,r⟩
 .refine (I.hok b u e).stay (λc v hc q=>k c v ?_ q) (λ_ q=>q) (λ_ _ q=>q) λ_ _ _ q=>q;rcases hc with z|z
  .rw [z];exact nit b u e
  .exact nit c _ z
theorem Inv.tok (I:Inv X pins σ H s)(t:Nat):Inv X pins σ H { s with toks:=t }:=I.un (h':=s.heap) (t':=t) Un.refl I.hok
theorem Inv.kept {t':Nat}(I:Inv X pins σ H s)(k:∀ b u,s.heap.get? b=some u->h'.get? b=some u):Inv X pins σ H { s with heap:=h',toks:=t' }:=I.un (Un.kept k) (I.hok.kept k)
theorem Inv.laid {a:Addr}{o:HO}{t':Nat}(I:Inv X pins σ H s)(k:∀ b u,s.heap.get? b=some u->h'.get? b=some u)(hp:s.heap.objs.size<=a)(new:ObjOk X.prog X.w (upd H a o) h' a o):
  Inv X pins σ (upd H a o) { s with heap:=h',toks:=t' }:=I.un (Un.laid k hp (I.hok.fresh hp)) (I.hok.laid k hp new)
theorem Inv.write {x e:Addr}{o:HO}{t':Nat}(I:Inv X pins σ H s)(mu:Mut (H x))(he:e=x\/H e=some (.own x))(k:∀ b u,b≠e->s.heap.get? b=some u->h'.get? b=some u)(heo:∃ u,h'.get? e=some u)(new:ObjOk X.prog X.w (upd H x o) h' x o):Inv X pins σ (upd H x o) { s with heap:=h',toks:=t' }:=I.un (Un.write mu he k heo) (I.hok.write mu he k heo new)
theorem Inv.pins_of {pins':List (Addr×Obj)}(I:Inv X pins σ H s)(h:∀ p∈pins',s.heap.get? p.1=some p.2/\H p.1=none/\p.1≠X.env.locals/\p.1∉X.fs/\∀ v,p.2.data≠.cell v):Inv X pins' σ H s:=
 ⟨I.ok,I.os,I.bare,I.base,I.loc,I.cell,I.free,I.freeC,λp hp=>(Jar.mp hp).elim (λz=>I.pin p (List.mem_append_left _ z)) (h p),I.hok,I.len⟩
theorem Zm0 {N:List Str}(hN:N.Nodup){i j:Nat}{x:Str}(a:N[i]?=some x)(b:N[j]?=some x):i=j:=by
 obtain⟨h1,e1⟩:=Jaf.mp a;obtain⟨h2,e2⟩:=Jaf.mp b;exact (List.getElem_inj hN).mp (e1.trans e2.symm)
theorem Zjt {M:Model}{A:Around}{E:Value->Shared->Prop}{i:Nat}{x:Str}{v:V}{u:Value}{Q:Unit->Shared->Prop}(I:Inv X pins σ H s)(hN:X.N.Nodup)(hi:X.N[i]?=some x)(hx:Loc X.env.scope x)(r:RelV v u)(h:∀ s',Inv X pins (σ.set i (some v)) H s'->(∃ a,Heap.SameBut a s.heap s'.heap/\(a=X.env.locals\/X.env.cells.lookup x=some a))->Q () s')(hf:X.fn x=true\/X.env.scope.names.lookup x=some .local:=by first|exact .inl rfl|exact .inr rfl|assumption):wpAny M A (storeName X.env x u) Q E s:=by
 refine Zac (id I.loc) λm hn hl=>?_;have hcls:(X.env.scope.kind == .class || (X.env.scope.kind == .module && X.env.locals != X.env.globals))=false:=by rw[I.ok.kind];rfl
 have hiσ:i<σ.length:=by rw[I.len];exact (Jaf.mp hi).1
 have cne:=I.cne;have tracked:∀ {a:Addr} {h':Heap},(∃ o,s.heap.get? a=some o/\H a=none)->Heap.SameBut a s.heap h'->HOk X.prog X.w H h':=λ{a h'} ha hs b ob e=>by
  refine Zac ha λ_ _ hfree=>?_;clear ha;refine (I.hok b ob e).stay (λc w' hc q=>(hs.2 c ?_).trans q) (λ_ q=>q) (λ_ _ q=>q) λ_ _ _ q=>q;rintro rfl;rcases hc with rfl|hc
  .rw [hfree] at e;cases e
  .rw [hfree] at hc;cases hc
 rcases hx with hk|hk
 .refine wpAny_storeName_local hk hn (λh' hn' hs=>?_) hcls;refine Zeq (id hn) λoL _ _ hoL _=>?_;refine h _ ⟨I.ok,I.os,I.bare,⟨λb o e n hb hx=>?_,λb o e n hb hx=>?_,I.base.free,λb o e hx=>?_,I.base.tups,I.base.frzs,I.base.tbls⟩,⟨_,hn',λj y v' e1 e2 e3=>?_⟩,λy c e=>?_,I.free,I.freeC,λp hp=>?_,tracked ⟨oL,hoL,I.free⟩ hs,by simpa using I.len⟩ ⟨_,hs,.inl rfl⟩
  .exact (hs.2 b (Ja6 (Jao (Jak e) I.ok.above))).trans (I.base.keep b o e n hb hx)
  .obtain ⟨sl,e1⟩:=I.base.slot b o e n hb hx;exact⟨sl,(hs.2 b (Ja6 (Jao (Jak e) I.ok.above))).trans e1⟩
  .obtain ⟨o',e1⟩:=I.base.there b o e hx;exact⟨o',(hs.2 b (Ja6 (Jao (Jak e) I.ok.above))).trans e1⟩
  .by_cases hj:j=i
   .subst hj;rw[hi] at e1;cases e1;rw[List.getElem?_set_self hiσ] at e2;cases e2;exact⟨u,r,.inl ⟨hk,by simp⟩⟩
   .rw [List.getElem?_set_ne (Jdl hj)] at e2;refine Zac (hl j y v' e1 e2 e3) λu' r' q=>?_;refine⟨u',r',?_⟩;rcases q with ⟨k,e⟩|⟨k,c,e,z⟩
    .refine .inl ⟨k,?_⟩;have:y≠x:=λe=>hj (Zm0 hN e1 (e ▸ hi));simp[this,e]
    .exact .inr ⟨k,c,e,z.sameBut hs (cne y c e)⟩
  .obtain ⟨w',z⟩:=I.cell y c e;exact⟨w',z.sameBut hs (cne y c e)⟩
  .refine Zdn (I.pin p hp) λe n ne nf d=>?_;exact⟨(hs.2 p.1 ne).trans e,n,ne,nf,d⟩
 .have hfn:X.fn x=true:=by
   rcases hf with z|z
   .exact z
   .rw [z] at hk;cases hk
  obtain⟨c,hc⟩:=I.ok.has x (.inl hk);obtain⟨w',z⟩:=I.cell x c hc;refine wpAny_storeName_cell I.ok.kind hk hc z (λh' hc' hs=>?_);refine Zac (id z) λoc hoc hocd=>?_;refine h { s with heap:=h' } ⟨I.ok,I.os,I.bare,⟨λb o e n hb hx=>?_,λb o e n hb hx=>?_,I.base.free,λb o e hx=>?_,I.base.tups,I.base.frzs,I.base.tbls⟩,⟨m,hn.sameBut hs (Jdl (cne x c hc)),λj y v' e1 e2 e3=>?_⟩,λy c' e=>?_,I.free,I.freeC,λp hp=>?_,tracked ⟨oc,hoc,I.freeC x c hc⟩ hs,by simpa using I.len⟩ ⟨c,hs,.inr hc⟩
  .exact (hs.2 b (Ja6 (Jao (Jak e) (I.ok.cab x c hfn hc)))).trans (I.base.keep b o e n hb hx)
  .obtain ⟨sl,e1⟩:=I.base.slot b o e n hb hx;exact⟨sl,(hs.2 b (Ja6 (Jao (Jak e) (I.ok.cab x c hfn hc)))).trans e1⟩
  .obtain ⟨o',e1⟩:=I.base.there b o e hx;exact⟨o',(hs.2 b (Ja6 (Jao (Jak e) (I.ok.cab x c hfn hc)))).trans e1⟩
  .by_cases hj:j=i
   .subst hj;rw[hi] at e1;cases e1;rw[List.getElem?_set_self hiσ] at e2;cases e2;exact⟨u,r,.inr ⟨.inl hk,c,hc,hc'⟩⟩
   .rw [List.getElem?_set_ne (Jdl hj)] at e2;refine Zac (hl j y v' e1 e2 e3) λu' r' q=>?_;refine⟨u',r',?_⟩;rcases q with q|⟨k,c',e,z'⟩
    .exact .inl q
    .refine .inr ⟨k,c',e,z'.sameBut hs ?_⟩;rintro rfl;exact hj (Zm0 hN e1 (I.ok.inj _ _ _ e hc ▸ hi))
  .by_cases hcc:c'=c
   .subst hcc;exact⟨_,hc'⟩
   .obtain ⟨w2,z2⟩:=I.cell y c' e;exact⟨w2,z2.sameBut hs hcc⟩
  .refine Zdn (I.pin p hp) λe n ne nf d=>?_;refine⟨(hs.2 p.1 ?_).trans e,n,ne,nf,d⟩;intro q;rw[q,hoc] at e;have q':oc=p.2:=Ja7 e;exact d w' (by rw[<- q'];exact hocd)
theorem Zgu {M:Model}{A:Around}{E:Value->Shared->Prop}{i:Nat}{x:Str}{v:V}{u:Value}{Q:Unit->Shared->Prop}(I:Inv X pins σ H s)(hN:X.N.Nodup)(hi:X.N[i]?=some x)(hx:Loc X.env.scope x)(r:RelV v u)(h:∀ s',Inv X pins (σ.set i (some v)) H s'->Q () s')(hf:X.fn x=true\/X.env.scope.names.lookup x=some .local:=by first|exact .inl rfl|exact .inr rfl|assumption):wpAny M A (storeName X.env x u) Q E s:=
 Zjt I hN hi hx r (λs' I' _=>h s' I') hf
theorem Inv.call' {s':Shared}{ch:List Addr}(I:Inv X pins σ H s)(ho:s'.os=s.os)(u:Un (frs X.stack) ch H H' s.heap s'.heap)(hok:HOk X.prog X.w H' s'.heap)(hg:AllBare s'.gens)(hch:∀ b∈ch,(b∈X.ex\/X.s₀.heap.objs.size<=b)/\b≠X.env.locals/\(∀ x c,X.env.cells.lookup x=some c->c≠b)/\∀ p∈X.pn++pins,p.1≠b):Inv X pins σ H' s':=by
 obtain⟨h',g',d',t',o'⟩:=s';have e:o'=s.os:=ho;subst e;exact I.call (g':=g') (t':=t') (d':=d') u hok hg hch
end
abbrev XK:=Value->Option Addr->Hp->Prop
abbrev St:=List (Option V)
abbrev VK:=V->Hp->Prop
abbrev TE:=St->Hp->VK->Prop
abbrev TT:=St->Hp->(Bool->Hp->Prop)->Prop
abbrev TA:=St->Hp->(List V->Hp->Prop)->Prop
structure Ends where
 nx:St->Hp->Prop
 rt:VK
 bk:St->Hp->Prop:=λ_ _=>False
 ct:St->Hp->Prop:=λ_ _=>False
abbrev TS:=Ends->St->Hp->Prop
def EP (X:Cx)(pins:List (Addr×Obj))(σ:St)(Q:VK)(u:Value)(s':Shared):Prop:=∃ v H',Inv X pins σ H' s'/\RelV v u/\Q v H'
def TP (X:Cx)(pins:List (Addr×Obj))(σ:St)(Q:Bool->Hp->Prop)(b:Bool)(s':Shared):Prop:=∃ H',Inv X pins σ H' s'/\Q b H'
def AP (X:Cx)(pins:List (Addr×Obj))(σ:St)(Q:List V->Hp->Prop)(us:List Value)(s':Shared):Prop:=∃ vs H',Inv X pins σ H' s'/\Vals vs us/\Q vs H'
def SP (X:Cx)(pins:List (Addr×Obj))(D:Ends)(f:Flow)(s':Shared):Prop:=
 match f with
 | .next=>∃ σ' H',Inv X pins σ' H' s'/\D.nx σ' H'
 | .brk=>∃ σ' H',Inv X pins σ' H' s'/\D.bk σ' H'
 | .cont=>∃ σ' H',Inv X pins σ' H' s'/\D.ct σ' H'
 | .ret u=>∃ v σ' H',Inv X pins σ' H' s'/\RelV v u/\D.rt v H'
def PE (X:Cx)(e:Expr)(t:TE):Prop:=
 ∀ (pins:List (Addr×Obj)) (s:Shared) (σ:St) (H:Hp) (Q:VK),Inv X pins σ H s->t σ H Q->wpAny (model X.prog X.w) X.A (eval e X.env) (EP X pins σ Q) X.xe s
def PT (X:Cx)(e:Expr)(t:TT):Prop:=
 ∀ (pins:List (Addr×Obj)) (s:Shared) (σ:St) (H:Hp) (Q:Bool->Hp->Prop),Inv X pins σ H s->t σ H Q->wpAny (model X.prog X.w) X.A (isTrue e X.env (eval e X.env)) (TP X pins σ Q) X.xe s
def PW (X:Cx)(e:Expr)(t:TT):Prop:=
 ∀ (whole:Sem Value) (pins:List (Addr×Obj)) (s:Shared) (σ:St) (H:Hp) (Q:Bool->Hp->Prop),Inv X pins σ H s->t σ H Q->wpAny (model X.prog X.w) X.A (isTrue e X.env whole) (TP X pins σ Q) X.xe s
theorem PW.pt {X:Cx}{e:Expr}{t:TT}(h:PW X e t):PT X e t:=h _
def PA (X:Cx)(es:List Expr)(t:TA):Prop:=
 ∀ (pos:Pos) (pins:List (Addr×Obj)) (s:Shared) (σ:St) (H:Hp) (Q:List V->Hp->Prop),Inv X pins σ H s->t σ H Q->wpAny (model X.prog X.w) X.A (spliced (backTo pos (starEach es X.env))) (AP X pins σ Q) X.xe s
def PS (X:Cx)(st:Stmt)(t:TS):Prop:=
 ∀ (pins:List (Addr×Obj)) (s:Shared) (σ:St) (H:Hp) (D:Ends),Inv X pins σ H s->t D σ H->wpAny (model X.prog X.w) X.A (exec st X.env) (SP X pins D) X.xe s
def PSs (X:Cx)(st:List Stmt)(t:TS):Prop:=
 ∀ (pins:List (Addr×Obj)) (s:Shared) (σ:St) (H:Hp) (D:Ends),Inv X pins σ H s->t D σ H->wpAny (model X.prog X.w) X.A (execs st X.env) (SP X pins D) X.xe s
theorem thn {α:Type}{t:Sem α}{Q Q':α->Shared->Prop}{M:Model}{A:Around}{E:Value->Shared->Prop}{s:Shared}(h:wpAny M A t Q E s)(hQ:∀ a s,Q a s->Q' a s):wpAny M A t Q' E s:=Jcj h hQ λ_ _ x=>x
section
variable {X:Cx}
theorem bin {a b:Expr}{ta tb:TE}(ha:PE X a ta)(hb:PE X b tb){pins:List (Addr×Obj)}{s:Shared}{σ:St}{H:Hp}{R:V->V->Hp->Prop}(I:Inv X pins σ H s)(h:ta σ H λx H1=>tb σ H1 λy H2=>R x y H2){α:Type}{Q:α->Shared->Prop}{f:Value->Value->Sem α}(hf:∀ v u s2 x y H2,Inv X pins σ H2 s2->RelV x v->RelV y u->R x y H2->wpAny (model X.prog X.w) X.A (f v u) Q X.xe s2):
  wpAny (model X.prog X.w) X.A (eval a X.env) (λv s₁=>wpAny (model X.prog X.w) X.A (eval b X.env) (λu s₂=>wpAny (model X.prog X.w) X.A (f v u) Q X.xe s₂) X.xe s₁) X.xe s:=by
 refine thn (ha pins s σ H _ I h) λv s1 ⟨x,H1,I1,r1,q1⟩=>?_;refine thn (hb pins s1 σ H1 _ I1 q1) λu s2 ⟨y,H2,I2,r2,q2⟩=>?_;exact hf v u s2 x y H2 I2 r1 r2 q2
def Zfy (i:Nat):TE:=λσ H Q=>∃ v,σ[i]?=some (some v)/\Q v H
def tC (v:V):TE:=λ_ H Q=>Q v H
theorem pe_var {i:Nat}{x:Str}{pos:Pos}(hN:X.N[i]?=some x)(hv:Vis X.env.scope x)(hd:(x == ("__debug__" : Str))=false:=by decide)(hcd:(x == ("__classdict__" : Str))=false:=by decide):PE X (.Name x pos) (Zfy i):=by
 intro pins s σ H Q I h;obtain⟨v,e,h⟩:=h;obtain⟨m,hn,hl⟩:=I.loc;obtain⟨u,r,l⟩:=hl i x v hN e hv;have fin:EP X pins σ Q u s:=⟨v,H,I,r,h⟩
 rcases l with ⟨hk,hm⟩|⟨hk,c,hc,hcell⟩
 .exact wpAny_Name (wpAny_loadName_local I.ok.kind hk hn hm fin) hd
 .rcases hk with hk|hk
  .exact wpAny_Name (wpAny_loadName_cell I.ok.kind hk hc hcell fin) hd
  .exact wpAny_Name (wpAny_loadName_free I.ok.kind hk hc hcell fin hcd) hd
theorem Zaf {i j pos}:PE X (.Constant (.int i) j pos) (tC (.int i)):=λ_ _ _ H _ I h=>wpAny_Constant_int ⟨.int i,H,I.tok _,⟨_,rfl⟩,h⟩
theorem Zct {b j pos}:PE X (.Constant (.bool b) j pos) (tC (.bl b)):=λ_ _ _ H _ I h=>Constant_bool ⟨.bl b,H,I,rfl,h⟩
theorem pe_non {j pos}:PE X (.Constant .none j pos) (tC .non):=λ_ _ _ H _ I h=>Constant_none ⟨.non,H,I,rfl,h⟩
theorem Zmr {x j pos}:PE X (.Constant (.str x) j pos) (tC (.str x)):=λ_ _ _ H _ I h=>Calls.Constant_str ⟨.str x,H,I.tok _,⟨_,rfl⟩,h⟩
def Gl (X:Cx)(x:Str):Prop:=X.env.kindOf x=some .globalImplicit
theorem Zlv {E:Value->Shared->Prop}{pins:List (Addr×Obj)}{s:Shared}{σ:St}{H:Hp}{x:Str}{u:Value}{pos:Pos}{Q:Value->Shared->Prop}(I:Inv X pins σ H s)(hg:Gl X x)(hm:X.mg x=some u)(h:Q u s)(hd:(x == ("__debug__" : Str))=false:=by decide):wpAny (model X.prog X.w) X.A (eval (.Name x pos) X.env) Q E s:=
 Calls.Name_function_global I.ok.kind hg (Calls.loadGlobal_global (by rw[I.ok.glob];exact I.mod.glob.keeps I.bk) hm h) hd
theorem Zfk {E:Value->Shared->Prop}{pins:List (Addr×Obj)}{s:Shared}{σ:St}{H:Hp}{x:Str}{u:Value}{pos:Pos}{Q:Value->Shared->Prop}(I:Inv X pins σ H s)(hg:Gl X x)(hm:X.mg x=none)(hv:bootBuiltins x=some u)(h:Q u s)(hn:x ≠ "__name__" := by decide)(hd:(x == ("__debug__" : Str))=false:=by decide):wpAny (model X.prog X.w) X.A (eval (.Name x pos) X.env) Q E s:=by
 refine Zac I.mod.blt λmb h1 h2=>?_;exact Calls.Name_function_global I.ok.kind hg (Calls.loadGlobal_builtin (by rw[I.ok.glob];exact I.mod.glob.keeps I.bk) hm (by rw[I.ok.blt];exact h1.keeps I.bk) ((h2 x hn).trans hv) h) hd
theorem Zpp {x:Str}{v:V}{u:Value}{pos:Pos}(hg:Gl X x)(hm:X.mg x=some u)(r:RelV v u)(hd:(x == ("__debug__" : Str))=false:=by decide):PE X (.Name x pos) (tC v):=
 λ_ _ _ H _ I h=>Zlv I hg hm ⟨v,H,I,r,h⟩ hd
theorem pe_bltn {x:Str}{v:V}{u:Value}{pos:Pos}(hg:Gl X x)(hm:X.mg x=none)(hv:bootBuiltins x=some u)(r:RelV v u)(hn:x ≠ "__name__" := by decide)(hd:(x == ("__debug__" : Str))=false:=by decide):PE X (.Name x pos) (tC v):=
 λ_ _ _ H _ I h=>Zfk I hg hm hv ⟨v,H,I,r,h⟩ hn hd
variable {a b:Expr}{ta tb:TE}{pos:Pos}
def PC (X:Cx)(op:CmpOp)(a b:Expr)(t:TE):Prop:=
 ∀ (pins:List (Addr×Obj)) (s:Shared) (σ:St) (H:Hp) (Q:VK),Inv X pins σ H s->t σ H Q->
  wpAny (model X.prog X.w) X.A (eval a X.env) (λv s₁=>wpAny (model X.prog X.w) X.A (eval b X.env) (λu s₂=>wpAny (model X.prog X.w) X.A (compareOp op v u) (EP X pins σ Q) X.xe s₂) X.xe s₁) X.xe s
theorem Zs6 (b:Expr){op:CmpOp}(h:op≠.In)(h2:op≠.NotIn):behindInMarks op b=false:=by
 have e1:(op == CmpOp.In)=false:=by cases op <;> first|rfl|exact absurd rfl h
 have e2:(op == CmpOp.NotIn)=false:=by cases op <;> first|rfl|exact absurd rfl h2
 cases b <;> simp[behindInMarks,e1,e2]
def tB (t:TE):TT:=λσ H Q=>t σ H λx H1=>∃ c,x=.bl c/\Q c H1
theorem pt_cmp {op:CmpOp}{t:TE}(h:PC X op a b t)(h1:behindInMarks op b=false:=by first|exact Zs6 _ ⇑0 ⇑0|rfl):PT X (.Compare a [op] [b] pos) (tB t):=by
 intro pins s σ H Q I hw;refine Jd5 (thn (h pins s σ H _ I hw) λv s1 h1=>thn h1 λu s2 h2=>thn h2 λc s3 ⟨x,H1,I1,r1,q1⟩=>?_) h1;refine Zac q1 λd e923 q=>?_;clear q1;obtain rfl:=e923;cases r1;exact Jbl ⟨H1,I1,q⟩
theorem Zbb {e:Expr}{t:TE}(h:PE X e t)(he:∀ whole,isTrue e X.env whole=(do let v <- whole;standAt e.pos;holding [v] (truthy v)):=by intro _;rfl):PT X e (tB t):=by
 intro pins s σ H Q I hw;refine isTrue_plain (thn (h pins s σ H _ I hw) λv s1 ⟨x,H1,I1,r1,q1⟩=>?_) (he _);refine Zac q1 λd e924 q=>?_;clear q1;obtain rfl:=e924;cases r1;exact Jbl ⟨H1,I1,q⟩
variable {tA tB':TT}{rest:List Expr}
def tAnd (t u:TT):TT:=λσ H Q=>t σ H λc H1=>if c=true then u σ H1 Q else Q false H1
def tOr (t u:TT):TT:=λσ H Q=>t σ H λc H1=>if c=true then Q true H1 else u σ H1 Q
def tNot (t:TT):TT:=λσ H Q=>t σ H λc H1=>Q (!c) H1
theorem Zlj (ha:PT X a tA):PW X (.BoolOp .And [a] pos) tA:=by
 intro wh pins s σ H Q I h;refine isTrue_and (thn (ha pins s σ H Q I h) λc s1 e=>?_);cases c with
 | true=>exact isTrue_and_nil e
 | false=>exact e
theorem Zby (ha:PT X a tA):PW X (.BoolOp .Or [a] pos) tA:=by
 intro wh pins s σ H Q I h;refine isTrue_or (thn (ha pins s σ H Q I h) λc s1 e=>?_);cases c with
 | false=>exact isTrue_or_nil e
 | true=>exact e
theorem Zpe (ha:PT X a tA)(hb:PW X (.BoolOp .And (b::rest) pos) tB'):PW X (.BoolOp .And (a::b::rest) pos) (tAnd tA tB'):=by
 intro wh pins s σ H Q I h;refine isTrue_and (thn (ha pins s σ H _ I h) λc s1 ⟨H1,I1,q1⟩=>?_);cases c with
 | true=>exact hb wh pins s1 σ H1 Q I1 q1
 | false=>exact⟨H1,I1,q1⟩
theorem Zcq (ha:PT X a tA)(hb:PW X (.BoolOp .Or (b::rest) pos) tB'):PW X (.BoolOp .Or (a::b::rest) pos) (tOr tA tB'):=by
 intro wh pins s σ H Q I h;refine isTrue_or (thn (ha pins s σ H _ I h) λc s1 ⟨H1,I1,q1⟩=>?_);cases c with
 | true=>exact⟨H1,I1,q1⟩
 | false=>exact hb wh pins s1 σ H1 Q I1 q1
theorem Za6 (ha:PT X a tA):PT X (.UnaryOp .Not a pos) (tNot tA):=by
 intro pins s σ H Q I h;exact isTrue_not (ha pins s σ H (λc H1=>Q (!c) H1) I h)
def tAndV (ta tb:TE):TE:=λσ H Q=>ta σ H λx H1=>∃ c,x=.bl c/\if c=true then tb σ H1 Q else Q (.bl false) H1
def tOrV (ta tb:TE):TE:=λσ H Q=>ta σ H λx H1=>∃ c,x=.bl c/\if c=true then Q (.bl true) H1 else tb σ H1 Q
def tNotV (ta:TE):TE:=λσ H Q=>ta σ H λx H1=>∃ c,x=.bl c/\Q (.bl (!c)) H1
theorem Zeh {op}{t:TE}(h:PE X a t):PE X (.BoolOp op [a] pos) t:=λpins s σ H Q I hw=>BoolOp_one (h pins s σ H Q I hw)
theorem Zei (ha:PE X a ta)(hb:PE X (.BoolOp .And (b::rest) pos) tb):PE X (.BoolOp .And (a::b::rest) pos) (tAndV ta tb):=by
 intro pins s σ H Q I h;refine BoolOp_and (thn (ha pins s σ H _ I h) λv s1 ⟨x,H1,I1,r1,q1⟩=>?_);obtain⟨c,rfl,q1⟩:=q1;cases r1;refine Jbl ?_;cases c with
 | true=>exact hb pins s1 σ H1 Q I1 q1
 | false=>exact⟨.bl false,H1,I1,rfl,q1⟩
theorem pe_or (ha:PE X a ta)(hb:PE X (.BoolOp .Or (b::rest) pos) tb):PE X (.BoolOp .Or (a::b::rest) pos) (tOrV ta tb):=by
 intro pins s σ H Q I h;refine BoolOp_or (thn (ha pins s σ H _ I h) λv s1 ⟨x,H1,I1,r1,q1⟩=>?_);obtain⟨c,rfl,q1⟩:=q1;cases r1;refine Jbl ?_;cases c with
 | false=>exact hb pins s1 σ H1 Q I1 q1
 | true=>exact⟨.bl true,H1,I1,rfl,q1⟩
theorem Zum (ha:PE X a ta):PE X (.UnaryOp .Not a pos) (tNotV ta):=by
 intro pins s σ H Q I h;refine UnaryOp_ (thn (ha pins s σ H _ I h) λv s1 ⟨x,H1,I1,r1,q1⟩=>?_);obtain⟨c,rfl,q1⟩:=q1;cases r1;exact not_of (Jbl ⟨.bl (!c),H1,I1,rfl,q1⟩)
def tIf (t:TT)(ta tb:TE):TE:=λσ H Q=>t σ H λc H1=>if c=true then ta σ H1 Q else tb σ H1 Q
end
def SqL (K:Frag)(H:Hp)(a:Addr)(xs:List V):Prop:=
 Rd H a (.lst xs) \/
  ∃ (o:Obj) (its:Array Value) (n:Nat),K.lookup a=some o/\o.cls=.type "list" /\ o.dict=none/\o.data=.seq its n/\its.size<=sizeLine/\Vals xs its.toList
def SqT (K:Frag)(H:Hp)(a:Addr)(xs:List V):Prop:=
 Rd H a (.tup xs) \/
  ∃ (o:Obj) (its:Array Value) (n:Nat),K.lookup a=some o/\o.cls=.type "tuple" /\ o.data=.seq its n/\its.size<=sizeLine/\Vals xs its.toList
def absV:Value->Option V
 | .none=>some .non
 | .bool b=>some (.bl b)
 | .int i _=>some (.int i)
 | .str x _=>some (.str x)
 | .bytes b _=>some (.byt b)
 | .float b _=>some (.flt b)
 | .ref a=>some (.ref a)
 | .type n=>some (.ty n)
 | _=>none
theorem RelV.abs {x:V}{u:Value}(r:RelV x u):absV u=some x:=by
 cases x with
 | non=>cases r;rfl
 | bl _=>cases r;rfl
 | int _=>obtain⟨t,rfl⟩:=r;rfl
 | str _=>obtain⟨t,rfl⟩:=r;rfl
 | byt _=>obtain⟨t,rfl⟩:=r;rfl
 | flt _=>obtain⟨t,rfl⟩:=r;rfl
 | ref _=>cases r;rfl
 | ty _=>cases r;rfl
theorem RelV.inj {x y:V}{u:Value}(r:RelV x u)(q:RelV y u):x=y:=Ja7 (r.abs.symm.trans q.abs)
theorem Vals.inj:∀ {xs ys:List V} {us:List Value},Vals xs us->Vals ys us->xs=ys
 | _,_,_,.nil,.nil=>rfl
 | _,_,_,.cons r t,.cons r' t'=>by rw[r.inj r',Vals.inj t t']
section
variable {X:Cx}{pins:List (Addr×Obj)}{σ:St}{H:Hp}{s:Shared}{a:Addr}{xs ys:List V}
theorem SqL.of {K:Frag}(h:H a=some (.lst xs)):SqL K H a xs:=.inl (.inl h)
theorem SqT.of {K:Frag}(h:H a=some (.tup xs)):SqT K H a xs:=.inl (.inl h)
theorem Inv.list (I:Inv X pins σ H s)(h:SqL X.K H a xs):∃ its:List Value,Vals xs its/\PlainL s.heap a its.toArray/\xs.length<=sizeLine:=by
 rcases h with h|⟨o,its,n,hk,hc,hd,hs,hz,r⟩
 .obtain ⟨z,its,n,r,e⟩:=h.ok I.hok;exact⟨its,r,⟨_,n,e,rfl,rfl,rfl⟩,z⟩
 .refine ⟨its.toList,r,⟨o,n,I.kIn a o hk,hc,hd,by simpa using hs⟩,?_⟩;have e:=r.length;simp only[Array.length_toList] at e;omega
theorem Inv.tuple (I:Inv X pins σ H s)(h:SqT X.K H a xs):∃ its:List Value,Vals xs its/\IsTup s.heap a its.toArray/\xs.length<=sizeLine:=by
 rcases h with h|⟨o,its,n,hk,hc,hs,hz,r⟩
 .obtain ⟨z,its,r,p⟩:=h.ok I.hok;exact⟨its,r,p,z⟩
 .refine ⟨its.toList,r,⟨o,I.kIn a o hk,hc,n,by simpa using hs⟩,?_⟩;have e:=r.length;simp only[Array.length_toList] at e;omega
theorem Inv.list_inj (I:Inv X pins σ H s)(h:SqL X.K H a xs)(h':SqL X.K H a ys):xs=ys:=by
 refine Zal (I.list h) λits r e925 _=>?_;obtain⟨o,n,e,_,_,d⟩:=e925;refine Zal (I.list h') λits' r' e926 _=>?_;obtain⟨o',n',e',_,_,d'⟩:=e926;rw[e] at e';cases e';rw[d] at d'
 injection d' with d1 _
 have:its=its':=by simpa using Jdb Array.toList d1
 subst this;exact r.inj r'
theorem Inv.tuple_inj (I:Inv X pins σ H s)(h:SqT X.K H a xs)(h':SqT X.K H a ys):xs=ys:=by
 refine Zal (I.tuple h) λits r e927 _=>?_;obtain⟨o,e,_,n,d⟩:=e927;refine Zal (I.tuple h') λits' r' e928 _=>?_;obtain⟨o',e',_,n',d'⟩:=e928;rw[e] at e';cases e';rw[d] at d'
 injection d' with d1 _
 have:its=its':=by simpa using Jdb Array.toList d1
 subst this;exact r.inj r'
end
abbrev Cx.wish (X:Cx)(E:Value->Shared->Prop):Cx:={ X with xe:=E }
abbrev Cx.nox (X:Cx):Cx:=X.wish λ_ _=>False
theorem Cx.Ok.wish {X:Cx}(ok:X.Ok)(E:Value->Shared->Prop):(X.wish E).Ok:=
 ⟨ok.mod,ok.kind,ok.glob,ok.blt,ok.above,ok.inj,ok.has,ok.cab,ok.hd,ok.frames,ok.stk,ok.exf,ok.bs,ok.bsz,ok.noex,ok.exfs,ok.funs,ok.frf,ok.top⟩
theorem Cx.Ok.unwish {X:Cx}{E:Value->Shared->Prop}(ok:(X.wish E).Ok):X.Ok:=
 ⟨ok.mod,ok.kind,ok.glob,ok.blt,ok.above,ok.inj,ok.has,ok.cab,ok.hd,ok.frames,ok.stk,ok.exf,ok.bs,ok.bsz,ok.noex,ok.exfs,ok.funs,ok.frf,ok.top⟩
section
variable {X:Cx}{pins:List (Addr×Obj)}{σ:St}{H:Hp}{s:Shared}{E:Value->Shared->Prop}
theorem Inv.wish (I:Inv X pins σ H s)(E:Value->Shared->Prop):Inv (X.wish E) pins σ H s:=⟨I.ok.wish E,I.os,I.bare,I.base,I.loc,I.cell,I.free,I.freeC,I.pin,I.hok,I.len⟩
theorem Inv.unwish (I:Inv (X.wish E) pins σ H s):Inv X pins σ H s:=⟨I.ok.unwish,I.os,I.bare,I.base,I.loc,I.cell,I.free,I.freeC,I.pin,I.hok,I.len⟩
theorem SP.unwish {D:Ends}{f:Flow}{s':Shared}(h:SP (X.wish E) pins D f s'):SP X pins D f s':=by
 cases f with
 | next=>obtain⟨σ',H',I,q⟩:=h;exact⟨σ',H',I.unwish,q⟩
 | brk=>obtain⟨σ',H',I,q⟩:=h;exact⟨σ',H',I.unwish,q⟩
 | cont=>obtain⟨σ',H',I,q⟩:=h;exact⟨σ',H',I.unwish,q⟩
 | ret u=>obtain⟨v,σ',H',I,r,q⟩:=h;exact⟨v,σ',H',I.unwish,r,q⟩
theorem PSs.nox {st:List Stmt}{t:TS}(h:PSs X.nox st t):PSs X st t:=λpins s σ H D I hw=>
 Jcj (h pins s σ H D (I.wish _) hw) (λ_ _ q=>q.unwish) λ_ _ z=>False.elim z
end
section
variable {X:Cx}{st:Stmt}{rest:List Stmt}{t u:TS}{e:Expr}{te:TE}{pos:Pos}
def tNext:TS:=λD σ H=>D.nx σ H
def tSeq (t u:TS):TS:=λD σ H=>t { D with nx:=u D } σ H
theorem Zak:PSs X [] tNext:=λ_ _ σ H _ I h=>Jeg ⟨σ,H,I,h⟩
theorem Zsh (h1:PS X st t)(h2:PSs X rest u):PSs X (st::rest) (tSeq t u):=by
 intro pins s σ H D I h;refine wpAny_execs_cons (thn (h1 pins s σ H { D with nx:=u D } I h) λf s1 q=>?_);cases f with
 | next=>
  obtain⟨σ',H',I',q⟩:=q;exact h2 pins s1 σ' H' D I' q
 | ret v=>exact q
 | brk=>exact q
 | cont=>exact q
theorem Zau (h1:PS X st t):PSs X [st] t:=by
 intro pins s σ H D I h;refine wpAny_execs_cons (thn (h1 pins s σ H D I h) λf s1 q=>?_);cases f with
 | next=>exact Jeg q
 | ret v=>exact q
 | brk=>exact q
 | cont=>exact q
theorem Inv.quiet {pins:List (Addr×Obj)}{σ:St}{H:Hp}{s:Shared}(I:Inv X pins σ H s):interactive X.env=false:=by simp[interactive,I.ok.kind]
def tDrop (te:TE):TS:=λD σ H=>te σ H λ_ H1=>D.nx σ H1
theorem Zhs (he:PE X e te)(hs:swapsWith e none pos.line X.env=pure false:=by rfl):PS X (.Expr e pos) (tDrop te):=by
 intro pins s σ H D I h;exact wpAny_Expr_any (thn (he pins s σ H _ I h) λv s1 ⟨x,H1,I1,r1,q1⟩=>⟨σ,H1,I1,q1⟩) I.quiet hs
def tRet (te:TE):TS:=λD σ H=>te σ H D.rt
theorem ps_ret (he:PE X e te):PS X (.Return (some e) pos) (tRet te):=by
 intro pins s σ H D I h;exact wpAny_Return_some (thn (he pins s σ H _ I h) λv s1 ⟨x,H1,I1,r1,q1⟩=>⟨x,σ,H1,I1,r1,q1⟩)
def tRetN:TS:=λD _ H=>D.rt .non H
def tIfS (c:TT)(t u:TS):TS:=λD σ H=>c σ H λb H1=>if b=true then t D σ H1 else u D σ H1
theorem Za5 {c:Expr}{a b:List Stmt}{tc:TT}(hc:PT X c tc)(ha:PSs X a t)(hb:PSs X b u):PS X (.If c a b pos) (tIfS tc t u):=by
 intro pins s σ H D I h;refine wpAny_If (thn (hc pins s σ H _ I h) λd s1 ⟨H1,I1,q1⟩=>?_);cases d with
 | true=>exact ha pins s1 σ H1 D I1 q1
 | false=>exact hb pins s1 σ H1 D I1 q1
def tNever:TS:=λ_ _ _=>False
theorem Zci:PS X st tNever:=λ_ _ _ _ _ _ h=>h.elim
end
abbrev TG:=V->St->Hp->(St->Hp->Prop)->Prop
abbrev TGs:=List V->St->Hp->(St->Hp->Prop)->Prop
def PG (X:Cx)(target:Expr)(t:TG):Prop:=
 ∀ (pins:List (Addr×Obj)) (s:Shared) (σ:St) (H:Hp) (v:V) (u:Value) (Q:St->Hp->Prop),Inv X pins σ H s->RelV v u->t v σ H Q->
  wpAny (model X.prog X.w) X.A (assign target X.env u) (λ_ s'=>∃ σ' H',Inv X pins σ' H' s'/\Q σ' H') X.xe s
def PGs (X:Cx)(ts:List Expr)(t:TGs):Prop:=
 ∀ (pins:List (Addr×Obj)) (s:Shared) (σ:St) (H:Hp) (vs:List V) (us:List Value) (Q:St->Hp->Prop),Inv X pins σ H s->Vals vs us->t vs σ H Q->
  wpAny (model X.prog X.w) X.A (assignInOrder ((assignEach ts X.env).map (·.2)) us) (λ_ s'=>∃ σ' H',Inv X pins σ' H' s'/\Q σ' H') X.xe s
abbrev TSet:=V->V->V->Hp->(Hp->Prop)->Prop
def PSet (X:Cx)(t:TSet):Prop:=
 ∀ (pins:List (Addr×Obj)) (s:Shared) (σ:St) (H:Hp) (o i v:V) (ov iv u:Value) (Q:Hp->Prop),Inv X pins σ H s->RelV o ov->RelV i iv->RelV v u->t o i v H Q->
  wpAny (model X.prog X.w) X.A (setItem ov iv u) (λ_ s'=>∃ H',Inv X pins σ H' s'/\Q H') X.xe s
abbrev TIp:=V->V->Hp->VK->Prop
section
variable {X:Cx}{pos:Pos}
def Zbh (i:Nat):TG:=λv σ H Q=>Q (σ.set i (some v)) H
theorem Zad {i:Nat}{x:Str}(hN:X.N.Nodup)(hi:X.N[i]?=some x)(hx:Loc X.env.scope x)(hf:X.fn x=true\/X.env.scope.names.lookup x=some .local:=by first|exact .inl rfl|exact .inr rfl|assumption):PG X (.Name x pos) (Zbh i):=by
 intro pins s σ H v u Q I r h;exact wpAny_assign_Name (Zgu I hN hi hx r (λs' I'=>⟨_,H,I',h⟩) hf)
def gNil:TGs:=λvs σ H Q=>vs=[]/\Q σ H
def Zkk (t:TG)(u:TGs):TGs:=λvs σ H Q=>∃ v r,vs=v::r/\t v σ H λσ' H'=>u r σ' H' Q
theorem Za3:PGs X [] gNil:=by
 intro pins s σ H vs us Q I r h;obtain⟨e,h⟩:=h;subst e;cases r;exact assignInOrder_nil ⟨σ,H,I,h⟩
theorem Zag {e:Expr}{es:List Expr}{t:TG}{u:TGs}(h1:PG X e t)(h2:PGs X es u)(hs:(assignEach (e::es) X.env).map (·.2)=assign e X.env::(assignEach es X.env).map (·.2):=by rfl):PGs X (e::es) (Zkk t u):=by
 intro pins s σ H vs us Q I r h;obtain⟨v,vr,e1,h⟩:=h;subst e1;cases r with
 | cons r rr=>
  rw[hs];refine assignInOrder_cons (thn (h1 pins s σ H _ _ _ I r h) λ_ s1 ⟨σ1,H1,I1,q1⟩=>?_);exact h2 pins s1 σ1 H1 _ _ Q I1 rr q1
def gTup (K:Frag)(n:Nat)(t:TGs):TG:=λv σ H Q=>∃ a xs,v=.ref a/\SqT K H a xs/\xs.length=n/\t xs σ H Q
theorem Zcs {es:List Expr}{k:Nat}{t:TGs}{n:Nat}(hc:X.calm=true)(h:PGs X es t)(hn:(assignEach es X.env).length=n:=by rfl)(hst:(assignEach es X.env).findIdx? (·.1)=none:=by rfl):PG X (.Tuple es k pos) (gTup X.K n t):=by
 intro pins s σ H v u Q I r hw;obtain⟨a,xs,e1,hq,hl,hw⟩:=hw;subst e1;cases r;obtain⟨its,rv,ht,hz⟩:=I.tuple hq;refine assign_Tuple_tuple (I.ok.hd hc) ht (by simp[hn,<- hl,rv.length]) hst λh' hx=>?_;have I1:Inv X pins σ H { s with heap:=h' }:=I.kept (t':=s.toks) λb o e=>hx b o (Ja6 (Jak e)) e;exact h pins _ σ H xs _ Q I1 (by simpa using rv) hw
def gSub (to ti:TE)(t:TSet):TG:=λv σ H Q=>to σ H λo H1=>ti σ H1 λi H2=>t o i v H2 λH3=>Q σ H3
theorem Zpn {o i:Expr}{to ti:TE}{t:TSet}(ho:PE X o to)(hi:PE X i ti)(hs:PSet X t)(ha:∀ v,assign (.Subscript o i pos) X.env v=(do
   let ov <- holding [v] (eval o X.env)
   let iv <- holding [v,ov] (eval i X.env)
   standAt pos
   holding [v,ov,iv] (setItem ov iv v)
   release [v,ov,iv] []):=by intro _;rfl):PG X (.Subscript o i pos) (gSub to ti t):=by
 intro pins s σ H v u Q I r h;rw[ha];refine Jag (Jdc (thn (ho pins s σ H _ I h) λov s1 ⟨x,H1,I1,r1,q1⟩=>?_));refine Jag (Jdc (thn (hi pins s1 σ H1 _ I1 q1) λiv s2 ⟨y,H2,I2,r2,q2⟩=>?_));refine Jag (Jev (Jag (Jdc (thn (hs pins s2 σ H2 x y v ov iv u _ I2 r1 r2 r q2) λ_ s3 ⟨H3,I3,q3⟩=>?_))));exact wpAny_release ⟨σ,H3,I3,q3⟩
def tAsg (te:TE)(g:TG):TS:=λD σ H=>te σ H λx H1=>g x σ H1 D.nx
theorem Zcr {tg e:Expr}{te:TE}{g:TG}(he:PE X e te)(hg:PG X tg g)(hs:swapsWithSole [tg] e pos.line X.env=pure false:=by rfl)(hw:swappedStores [tg] e X.env=pure none:=by rfl)(h1:(assignEach [tg] X.env).map (·.2)=[assign tg X.env]:=by rfl):PS X (.Assign [tg] e pos) (tAsg te g):=by
 intro pins s σ H D I h;refine wpAny_Assign_stores (thn (he pins s σ H _ I h) λv s1 ⟨x,H1,I1,r1,q1⟩=>?_) hs hw;rw[h1];exact thn (hg pins s1 σ H1 x v _ I1 r1 q1) λ_ s2 q=>q
theorem Zar {i:Nat}{x:Str}{e:Expr}{te:TE}{pos':Pos}(hN:X.N.Nodup)(hi:X.N[i]?=some x)(hx:Loc X.env.scope x)(he:PE X e te)(hs:swapsWith e (some (.Name x pos')) pos.line X.env=pure false:=by rfl)(hf:X.fn x=true\/X.env.scope.names.lookup x=some .local:=by first|exact .inl rfl|exact .inr rfl|assumption):
  PS X (.Assign [.Name x pos'] e pos) (tAsg te (Zbh i)):=by
 intro pins s σ H D I h;refine wpAny_Assign_Name (thn (he pins s σ H _ I h) λv s1 ⟨y,H1,I1,r1,q1⟩=>?_) hs;exact Zgu I1 hN hi hx r1 (λs2 I2=>⟨_,H1,I2,q1⟩) hf
def tPar (i j:Nat)(ta:TA):TS:=λD σ H=>ta σ H λvs H1=>∃ v w,vs=[v,w]/\D.nx ((σ.set i (some v)).set j (some w)) H1
theorem Zir {i j:Nat}{x y:Str}{a b:Expr}{ta:TA}{px py pt:Pos}{kt k2 pt2}(hc:X.calm=true)(hN:X.N.Nodup)(hi:X.N[i]?=some x)(hj:X.N[j]?=some y)(hij:i≠j)(hx:X.env.scope.names.lookup x=some .local)(hy:X.env.scope.names.lookup y=some .local)(ha:PA X [a,b] ta)(hw:swappedStores [.Tuple [.Name x px,.Name y py] kt pt] (.Tuple [a,b] k2 pt2) X.env=pure (some [x,y]))(hs:swapsWithSole [.Tuple [.Name x px,.Name y py] kt pt] (.Tuple [a,b] k2 pt2) pos.line X.env=pure false:=by rfl):
  PS X (.Assign [.Tuple [.Name x px,.Name y py] kt pt] (.Tuple [a,b] k2 pt2) pos) (tPar i j ta):=by
 intro pins s σ H D I h;rw[exec_Assign_arm];refine Jag (Jev ?_);rw[hs];refine Jag (Ja2 ?_);rw[if_neg ⇑0];refine Jag (Tuple_ (thn (ha _ pins s σ H _ I h) λus s1 ⟨vs,H1,I1,r1,q1⟩=>?_));obtain⟨v,w,e1,q1⟩:=q1;subst e1;obtain⟨u1,u2,rfl,rv,rw'⟩:∃ u1 u2,us=[u1,u2]/\RelV v u1/\RelV w u2:=by
  cases r1 with
  | cons p q=>
   cases q with
   | cons p' q'=>
    cases q';exact⟨_,_,rfl,p,p'⟩
 refine wpAny_newObj_type ?_ (by show 2<=sizeLine;decide);have I2:Inv X pins σ H1 { s1 with heap:=s1.heap.push { cls:=.type "tuple",data:=.seq [u1,u2].toArray } }:=I1.kept (t':=s1.toks) λb o e=>Jaj _ e;rw[hw];refine Jag (Ja2 ?_);show wpAny (model X.prog X.w) X.A (do rule "assign.swapped-stores";let items <- unpackItems (.ref s1.heap.objs.size) 2 none;assignInOrder [λv=>bindName X.env y v,λv=>bindName X.env x v] items.reverse;pure Flow.next) _ _ _;refine Jag (wpAny_rule (Jag (unpackItems_tuple (items:=#[u1,u2]) (I.ok.hd hc) (IsTup.new s1.heap _) λh' hx'=>?_)));have I3:=I2.kept (h':=h') (t':=s1.toks) λb o e=>hx' b o (Ja6 (Jak e)) e;show wpAny _ _ (assignInOrder [λv=>bindName X.env y v,λv=>bindName X.env x v] [u2,u1] >>= λ_=>pure Flow.next) _ _ _;refine Jag (assignInOrder_cons (wpAny_bindName (Zgu I3 hN hj (.inl hy) rw' (λs2 I4=>?_) (.inr hy))));refine assignInOrder_cons (wpAny_bindName (Zgu I4 hN hi (.inl hx) rv (λs3 I5=>assignInOrder_nil (Ja2 ?_)) (.inr hx)));rw[List.set_comm _ _ (Jdl hij)] at I5;exact⟨_,H1,I5,q1⟩
def tAug (i:Nat)(te:TE)(ti:TIp):TS:=λD σ H=>∃ x,σ[i]?=some (some x)/\te σ H λy H1=>ti x y H1 λz H2=>D.nx (σ.set i (some z)) H2
def tAugS (to ti te:TE)(tget:V->V->Hp->VK->Prop)(tip:TIp)(tset:TSet):TS:=λD σ H=>to σ H λo H1=>ti σ H1 λi H2=>tget o i H2 λx H3=>te σ H3 λy H4=>tip x y H4 λz H5=>tset o i z H5 λH6=>D.nx σ H6
def ipI (f:Int->Int->Int):TIp:=λx y H Q=>∃ i j,x=.int i/\y=.int j/\Q (.int (f i j)) H
end
section
variable {X:Cx}{pos:Pos}
def tWhile (c:TT)(tb:TS):TS:=λD σ H=>∃ W:Nat->St->Hp->Prop,(∃ m,W m σ H)/\∀ m σ H,W m σ H->
 c σ H λb H1=>if b=true then ∃ N:St->Hp->Prop,(∀ σ' H',N σ' H'->∃ m',m'<m/\W m' σ' H')/\tb { D with nx:=N,ct:=N,bk:=D.nx } σ H1 else D.nx σ H1
theorem Zgw {c:Expr}{body:List Stmt}{tc:TT}{tb:TS}(hp:PassesOwn (model X.prog X.w) X.A X.env X.xe)(hc:PT X c tc)(hb:PSs X body tb):PS X (.While c body [] pos) (tWhile tc tb):=by
 intro pins s σ H D I h;refine Zac h λW e929 turn=>?_;clear h;obtain⟨m0,w0⟩:=e929;refine wpAny_While (codeAny_whileLoop (λn s'=>∃ σ' H',Inv X pins σ' H' s'/\W n σ' H') ?_ m0 ⟨σ,H,I,w0⟩);intro n s1 e91;refine Zbd e91 λσ1 H1 I1 w1=>?_;clear e91;refine Jcq hp (thn (hc pins s1 σ1 H1 _ I1 (turn n σ1 H1 w1)) λb s2 ⟨H2,I2,q2⟩=>?_);cases b with
 | true=>
  obtain⟨N,hN,q2⟩:=q2;rw[if_pos rfl];refine Jcq hp (thn (hb pins s2 σ1 H2 _ I2 q2) λf s3 q3=>?_);cases f with
  | next=>
   refine Zbd q3 λσ3 H3 I3 n3=>?_;clear q3;refine Zac (hN σ3 H3 n3) λm' hm w3=>?_;exact⟨m',hm,σ3,H3,I3,w3⟩
  | cont=>
   refine Zbd q3 λσ3 H3 I3 n3=>?_;clear q3;refine Zac (hN σ3 H3 n3) λm' hm w3=>?_;exact⟨m',hm,σ3,H3,I3,w3⟩
  | brk=>exact q3
  | ret v=>exact q3
 | false=>
  rw[if_neg Jat];exact Jeg ⟨σ1,H2,I2,q2⟩
end
structure It where
 go:Nat->Hp->Prop
 yld:Nat->Hp->V->Hp->Prop
 stop:Nat->Hp->Prop
def FpOk (X:Cx)(pins:List (Addr×Obj))(H:Hp)(b:Addr):Prop:=
 H b=none/\b≠X.env.locals/\b∉X.fs/\(b∈X.ex\/X.s₀.heap.objs.size<=b)/\(∀ x c,X.env.cells.lookup x=some c->c≠b)/\∀ p∈X.pn++pins,p.1≠b
theorem Inv.fpOk {X:Cx}{pins:List (Addr×Obj)}{σ:St}{H H':Hp}{s:Shared}{b:Addr}(I:Inv X pins σ H s)(hb:s.heap.objs.size<=b)(hn:H' b=none):FpOk X pins H' b:=by
 refine⟨hn,Jd6 (Jao I.lt hb),I.nofs hb,.inr (Jbi I.sz hb),λx c e z=>?_,λp hp z=>?_⟩
 .obtain ⟨v,q⟩:=I.cell x c e;exact absurd (Jao q.lt (by rw[z];exact hb)) (Jb0 _)
 .exact absurd (Jao (Jak (I.pin p hp).1) (by rw[z];exact hb)) (Jb0 _)
structure Turn (P:Program)(w:World)(K:Frag)(tg:Expr)(J:It)(fp:List Addr)(it:Addr)(tn:Nat->Heap->Prop):Prop where
 mem:it∈fp
 obj:∀ i h,tn i h->∀ b∈fp,∃ o,h.get? b=some o/\∀ v,o.data≠.cell v
 keep:∀ i h h',tn i h->(∀ b∈fp,∀ o,h.get? b=some o->h'.get? b=some o)->tn i h'
 item:∀ (X:Cx),X.prog=P->X.w=w->X.K=K->X.calm=true->∀ (i:Nat) (pins:List (Addr×Obj)) (s:Shared) (σ:St) (H:Hp) (E:Value->Shared->Prop),Inv X pins σ H s->(∀ b∈fp,FpOk X pins H b)->tn i s.heap->J.go i H->
  wpAny (model P w) X.A (pyNext (.ref it)) (λr s1=>∃ u,r=some u /\
   wpAny (model P w) X.A (letOwnedTupleGo tg (.ref it) u) (λ_ s2=>∃ x H',Inv X pins σ H' s2/\RelV x u/\J.yld i H x H'/\tn (i+1) s2.heap/\∀ b∈fp,H' b=none) E s1) E s
 done:∀ (X:Cx),X.prog=P->X.w=w->X.K=K->X.calm=true->∀ (i:Nat) (pins:List (Addr×Obj)) (s:Shared) (σ:St) (H:Hp) (E:Value->Shared->Prop),Inv X pins σ H s->(∀ b∈fp,FpOk X pins H b)->tn i s.heap->J.stop i H->
  wpAny (model P w) X.A (pyNext (.ref it)) (λr s1=>r=none/\Inv X pins σ H s1) E s
 self:∀ (A:Around) (i:Nat) (s:Shared) (Q:Value->Shared->Prop) (E:Value->Shared->Prop),tn i s.heap->Q (.ref it) s->wpAny (model P w) A (pyIter (.ref it)) Q E s
abbrev TI:=St->Hp->(It->Hp->Prop)->Prop
def PIE (X:Cx)(pins:List (Addr×Obj))(σ:St)(tg:Expr)(R:It->Hp->Prop)(itv:Value)(s2:Shared):Prop:=
 ∃ (it:Addr) (fp:List Addr) (tn:Nat->Heap->Prop) (J:It) (H':Hp),itv=.ref it/\Inv X pins σ H' s2/\Turn X.prog X.w X.K tg J fp it tn/\tn 0 s2.heap/\(∀ b∈fp,FpOk X pins H' b)/\R J H'
def PI (X:Cx)(tg iter:Expr)(wi:TI):Prop:=
 ∀ (pins:List (Addr×Obj)) (s:Shared) (σ:St) (H:Hp) (R:It->Hp->Prop),Inv X pins σ H s->wi σ H R->
  wpAny (model X.prog X.w) X.A (eval iter X.env) (λv s1=>wpAny (model X.prog X.w) X.A (pyIter v) (PIE X pins σ tg R) X.xe s1) X.xe s
theorem go_of {M:Model}{A:Around}{E:Value->Shared->Prop}{s:Shared}{tg:Expr}{it:Addr}{u:Value}{o:Obj}{n:String}{vs:Array Value}{Q:Unit->Shared->Prop}(ho:s.heap.get? it=some o)(hc:o.cls=.type n)(hd:o.data=.fields vs)(hn:["enumerate","zip","dict_itemiterator","dict_reverseitemiterator","odict_iterator","itertools.zip_longest","itertools.pairwise"].contains n=false)(hQ:Q () s):wpAny M A (letOwnedTupleGo tg (.ref it) u) Q E s:=by
 unfold letOwnedTupleGo;cases tg <;> first
  | exact Ja2 hQ
  | (cases u <;> first
    | exact Ja2 hQ
    | (refine Jag (wpAny_load ho ?_);rw[hc,hd];show wpAny M A (if (["enumerate","zip","dict_itemiterator","dict_reverseitemiterator","odict_iterator","itertools.zip_longest","itertools.pairwise"].contains n && vs[0]? == some (rawInt _))=true then _ else _) Q E s;rw[if_neg (by intro h;rw[hn,Jes] at h;cases h)];exact Ja2 hQ))
def Itl (K:Frag)(a:Addr):It:=
 ⟨λi H=>∃ xs x,SqL K H a xs/\xs[i]?=some x,λi H x H'=>H'=H/\∀ xs,SqL K H a xs->xs[i]?=some x,λi H=>∃ xs,SqL K H a xs/\xs.length<=i⟩
def Itt (K:Frag)(a:Addr):It:=
 ⟨λi H=>∃ xs x,SqT K H a xs/\xs[i]?=some x,λi H x H'=>H'=H/\∀ xs,SqT K H a xs->xs[i]?=some x,λi H=>∃ xs,SqT K H a xs/\xs.length<=i⟩
def Itr (lo:Int)(n:Nat):It:=⟨λi _=>i<n,λi H x H'=>H'=H/\x=.int (lo+i),λi _=>n<=i⟩
theorem Zoh {P:Program}{w:World}{K:Frag}{tg:Expr}(a it:Addr):Turn P w K tg (Itl K a) [it] it (λi h=>h.IsListIter it a i) where
 mem:=by simp
 obj:=λi h st b hb=>by
  have e:b=it:=by simpa using hb
  subst e;refine Zal st λo e c d=>?_;clear st;exact⟨o,e,λv z=>by rw[d] at z;cases z⟩
 keep:=λi h h' st k=>st.at λo e=>k it (by simp) o e
 item:=by
  intro X hP hw hK hc i pins s σ H E I hf st hg;subst hP hw hK;refine Zbd hg λxs x hq hx=>?_;clear hg;refine Zal (I.list hq) λits rv p hz=>?_;refine Zac (rv.get hx) λu hu ru=>?_;refine Zfx (hf it (by simp)) λf0 f1 f2 f3 f4 f5=>?_;refine Jdx st p.isList (x:=u) (by simpa using hu) λh' st' sb=>?_;have I1:Inv X pins σ H { s with heap:=h' }:=I.turned (t':=s.toks) (λb o hb e=>(sb.2 b hb).trans e) f0 f1 f3 f4 f5;refine Zal (id st') λo e c d=>?_;exact⟨u,rfl,go_of (s:={ s with heap:=h' }) e c d ⇑0 ⟨x,H,I1,ru,⟨rfl,λys hy=>by rw[I.list_inj hy hq];exact hx⟩,st',λb hb=>(hf b hb).1⟩⟩
 done:=by
  intro X hP hw hK hc i pins s σ H E I hf st hg;subst hP hw hK;refine Zac hg λxs hq hx=>?_;clear hg;refine Zal (I.list hq) λits rv p hz=>?_;refine Zfx (hf it (by simp)) λf0 f1 f2 f3 f4 f5=>?_;have hl:=rv.length;exact Jd7 (I.ok.hd hc) st p.isList (by simp;omega) λh' eb=>⟨rfl,I.turned (t':=s.toks) (λb o hb e=>eb b o hb e) f0 f1 f3 f4 f5⟩
 self:=λ_ _ _ _ _ st h=>wpAny_pyIter_listiter st h
theorem Znk {P:Program}{w:World}{K:Frag}{tg:Expr}(a it:Addr):Turn P w K tg (Itt K a) [it] it (λi h=>h.IsTupleIter it a i) where
 mem:=by simp
 obj:=λi h st b hb=>by
  have e:b=it:=by simpa using hb
  subst e;refine Zal st λo e c d=>?_;clear st;exact⟨o,e,λv z=>by rw[d] at z;cases z⟩
 keep:=λi h h' st k=>st.at λo e=>k it (by simp) o e
 item:=by
  intro X hP hw hK hc i pins s σ H E I hf st hg;subst hP hw hK;refine Zbd hg λxs x hq hx=>?_;clear hg;refine Zal (I.tuple hq) λits rv p hz=>?_;refine Zac (rv.get hx) λu hu ru=>?_;refine Zfx (hf it (by simp)) λf0 f1 f2 f3 f4 f5=>?_;refine wpAny_pyNext_tuple_item st (show s.heap.IsTuple a its.toArray from p) (x:=u) (by simpa using hu) λh' st' sb=>?_;have I1:Inv X pins σ H { s with heap:=h' }:=I.turned (t':=s.toks) (λb o hb e=>(sb.2 b hb).trans e) f0 f1 f3 f4 f5;refine Zal (id st') λo e c d=>?_;exact⟨u,rfl,go_of (s:={ s with heap:=h' }) e c d ⇑0 ⟨x,H,I1,ru,⟨rfl,λys hy=>by rw[I.tuple_inj hy hq];exact hx⟩,st',λb hb=>(hf b hb).1⟩⟩
 done:=by
  intro X hP hw hK hc i pins s σ H E I hf st hg;subst hP hw hK;refine Zac hg λxs hq hx=>?_;clear hg;refine Zal (I.tuple hq) λits rv p hz=>?_;refine Zfx (hf it (by simp)) λf0 f1 f2 f3 f4 f5=>?_;have hl:=rv.length;exact wpAny_pyNext_tuple_end (I.ok.hd hc) st (show s.heap.IsTuple a its.toArray from p) (by simp;omega) λh' eb=>⟨rfl,I.turned (t':=s.toks) (λb o hb e=>eb b o hb e) f0 f1 f3 f4 f5⟩
 self:=λ_ _ _ _ _ st h=>wpAny_pyIter_tupleiter st h
theorem Znl {P:Program}{w:World}{K:Frag}{tg:Expr}(it:Addr)(lo:Int)(n:Nat):Turn P w K tg (Itr lo n) [it] it (λi h=>IsRangeIter h it (lo+(i:Nat)*1) ((n:Int)-(i:Nat)) 1) where
 mem:=by simp
 obj:=λi h st b hb=>by
  have e:b=it:=by simpa using hb
  subst e;exact⟨_,st,λv z=>by
   have z':Data.fields _=Data.cell v:=z;cases z'⟩
 keep:=λi h h' st k=>k it (by simp) _ st
 item:=by
  intro X hP hw hK hc i pins s σ H E I hf st hg;subst hP hw hK;refine Zfx (hf it (by simp)) λf0 f1 f2 f3 f4 f5=>?_;have W:=Walks.range (prog:=X.prog) (w:=X.w) (I.ok.hd hc) it lo 1 n;refine W.item i s _ _ hg st λv h' tk hv st' kk=>?_;obtain⟨t,rfl⟩:=hv;have I1:Inv X pins σ H { s with heap:=h',toks:=tk }:=I.turned (λb o hb e=>kk b o (by simpa using hb) e) f0 f1 f3 f4 f5;refine⟨_,rfl,go_of (s:={ s with heap:=h',toks:=tk }) (n:="range_iterator") st' rfl rfl ⇑0 ⟨.int (lo+i),H,I1,⟨t,?_⟩,⟨rfl,rfl⟩,st',λb hb=>(hf b hb).1⟩⟩;rw[Int.mul_one]
 done:=by
  intro X hP hw hK hc i pins s σ H E I hf st hg;subst hP hw hK;refine Zfx (hf it (by simp)) λf0 f1 f2 f3 f4 f5=>?_;exact wpAny_pyNext_range_end (I.ok.hd hc) st (by have:n<=i:=hg;omega) λh' eb=>⟨rfl,I.turned (t':=s.toks) (λb o hb e=>eb b o hb e) f0 f1 f3 f4 f5⟩
 self:=λ_ _ _ _ _ st h=>wpAny_pyIter_rangeiter st h
section
variable {X:Cx}{tg:Expr}
def Zqp (K:Frag)(tl:TE):TI:=λσ H R=>tl σ H λx H1=>∃ a,x=.ref a/\(∃ xs,SqL K H1 a xs)/\R (Itl K a) H1
def iTup (K:Frag)(tl:TE):TI:=λσ H R=>tl σ H λx H1=>∃ a,x=.ref a/\(∃ xs,SqT K H1 a xs)/\R (Itt K a) H1
theorem Za0 {l:Expr}{tl:TE}(hl:PE X l tl):PI X tg l (Zqp X.K tl):=by
 intro pins s σ H R I h;refine thn (hl pins s σ H _ I h) λv s1 ⟨x,H1,I1,r1,q1⟩=>?_;refine Zal q1 λa e e930 q=>?_;clear q1;obtain⟨xs,hq⟩:=e930;subst e;cases r1;refine Zal (I1.list hq) λits rv p hz=>?_;refine Jcg p.isList ?_;refine Zix s1.heap.objs.size [s1.heap.objs.size] _ _ H1 ⟨rfl,I1.kept (t':=s1.toks) λb o e=>Jaj _ e,Zoh a _,⟨_,Jas _ rfl,rfl,rfl⟩,λb hb=>?_,q⟩;have e:b=s1.heap.objs.size:=by simpa using hb
 subst e;exact I1.fpOk (Jah _) (I1.hok.fresh (Jah _))
theorem pi_tup {l:Expr}{tl:TE}(hl:PE X l tl):PI X tg l (iTup X.K tl):=by
 intro pins s σ H R I h;refine thn (hl pins s σ H _ I h) λv s1 ⟨x,H1,I1,r1,q1⟩=>?_;refine Zal q1 λa e e931 q=>?_;clear q1;obtain⟨xs,hq⟩:=e931;subst e;cases r1;refine Zal (I1.tuple hq) λits rv p hz=>?_;refine wpAny_pyIter_tuple (show s1.heap.IsTuple a its.toArray from p) ?_;refine Zix s1.heap.objs.size [s1.heap.objs.size] _ _ H1 ⟨rfl,I1.kept (t':=s1.toks) λb o e=>Jaj _ e,Znk a _,⟨_,Jas _ rfl,rfl,rfl⟩,λb hb=>?_,q⟩;have e:b=s1.heap.objs.size:=by simpa using hb
 subst e;exact I1.fpOk (Jah _) (I1.hok.fresh (Jah _))
theorem Zmn {pins:List (Addr×Obj)}{σ:St}{H:Hp}{s:Shared}{R:It->Hp->Prop}{E:Value->Shared->Prop}{lo hi:Int}{t u v:Tok}{tk:Nat}(I:Inv X pins σ H s)(h1:-(2 ^ 62)<=lo)(h2:lo<2 ^ 62)(h3:-(2 ^ 62)<=hi)(h4:hi<2 ^ 62)(q:R (Itr lo (hi-lo).toNat) H):wpAny (model X.prog X.w) X.A (pyIter (.ref s.heap.objs.size)) (PIE X pins σ tg R) E { s with heap:=s.heap.push { cls:=.type "range",data:=.fields #[.int lo t,.int hi u,.int 1 v] },toks:=tk }:=by
 refine wpAny_pyIter_range (IsRange.new ..) (small_one h1 h2 h3 h4) ?_;have I1:Inv X pins σ H { s with heap:=s.heap.push { cls:=.type "range",data:=.fields #[.int lo t,.int hi u,.int 1 v] },toks:=tk }:=I.kept λb o e=>Jaj _ e;refine Zix ((s.heap.push { cls:=.type "range",data:=.fields #[.int lo t,.int hi u,.int 1 v] }).objs.size) [(s.heap.push { cls:=.type "range",data:=.fields #[.int lo t,.int hi u,.int 1 v] }).objs.size] _ _ H ⟨rfl,I1.kept (t':=tk) λb o e=>Jaj _ e,Znl _ lo (hi-lo).toNat,?_,λb hb=>?_,q⟩
 .have e1:lo+((0:Nat):Int)*1=lo:=by simp
  have e2:(((hi-lo).toNat:Nat):Int)-((0:Nat):Int)=Builtin.Range.rangeSize lo hi 1:=by rw[rangeSize_one];split <;> omega
  show IsRangeIter _ _ (lo+((0:Nat):Int)*1) ((((hi-lo).toNat:Nat):Int)-((0:Nat):Int)) 1;rw[e1,e2];exact Jas _ rfl
 .have e:b=(s.heap.push { cls:=.type "range",data:=.fields #[.int lo t,.int hi u,.int 1 v] }).objs.size:=by simpa using hb
  subst e;exact I1.fpOk (Jah _) (I1.hok.fresh (Jah _))
def Ztj (ta:TA):TI:=λσ H R=>ta σ H λvs H1=>∃ j:Int,vs=[.int j]/\-(2 ^ 62)<=j/\j<2 ^ 62/\R (Itr 0 j.toNat) H1
def Zti (ta:TA):TI:=λσ H R=>ta σ H λvs H1=>∃ i j:Int,vs=[.int i,.int j]/\(-(2 ^ 62)<=i/\i<2 ^ 62/\-(2 ^ 62)<=j/\j<2 ^ 62)/\R (Itr i (j-i).toNat) H1
theorem Zpm {a:Expr}{ta:TA}{p pos:Pos}(hg:Gl X "range")(hm:X.mg "range" = none)(ha:PA X [a] ta)(hs:starEach [a] X.env=[(false,eval a X.env)]:=by rfl):PI X tg (.Call (.Name "range" p) [a] [] pos) (Ztj ta):=by
 intro pins s σ H R I h;refine Call_ (Zfk I hg hm boot_range (Jbx (thn (ha pos pins s σ H _ I h) λus s1 ⟨vs,H1,I1,r1,q1⟩=>?_) hs rfl));obtain⟨j,e,q1,q2,q⟩:=q1;subst e;cases r1 with
 | cons r rr=>
  cases rr;obtain⟨t,rfl⟩:=r;exact call_range_1 (Zmn I1 ∅ ∅ q1 q2 (by simpa using q))
theorem Zpl {a b:Expr}{ta:TA}{p pos:Pos}(hg:Gl X "range")(hm:X.mg "range" = none)(ha:PA X [a,b] ta)(hs:starEach [a,b] X.env=[(false,eval a X.env),(false,eval b X.env)]:=by rfl)(hs2:starEach [b] X.env=[(false,eval b X.env)]:=by rfl):
  PI X tg (.Call (.Name "range" p) [a,b] [] pos) (Zti ta):=by
 intro pins s σ H R I h;refine Call_ (Zfk I hg hm boot_range (Jbx (thn (ha pos pins s σ H _ I h) λus s1 ⟨vs,H1,I1,r1,q1⟩=>?_) (by rw[hs,hs2]) (by rw[hs2];rfl)));refine Zca q1 λi j e e932 q=>?_;clear q1;obtain⟨q1,q2,q3,q4⟩:=e932;subst e;cases r1 with
 | cons r rr=>
  cases rr with
  | cons r' rr=>
   cases rr;obtain⟨t,rfl⟩:=r;obtain⟨t',rfl⟩:=r';exact call_range_2 (Zmn I1 q1 q2 q3 q4 q)
def tFor (wi:TI)(g:TG)(tb:TS):TS:=λD σ H=>wi σ H λJ H1=>∃ W:Nat->Nat->St->Hp->Prop,(∃ m,W 0 m σ H1)/\∀ i m σ H,W i m σ H->
 (J.stop i H/\D.nx σ H)\/(J.go i H/\∃ N:St->Hp->Prop,(∀ σ' H',N σ' H'->∃ m',m'<m/\W (i+1) m' σ' H')/\∀ x H',J.yld i H x H'->g x σ H' λσ2 H2=>tb { D with nx:=N,ct:=N,bk:=D.nx } σ2 H2)
def Zj5 (fp:List Addr)(h:Heap):List (Addr×Obj):=fp.filterMap λb=>(h.get? b).map λo=>(b,o)
theorem Zdk {fp:List Addr}{h:Heap}{b:Addr}{o:Obj}(hb:b∈fp)(e:h.get? b=some o):(b,o)∈Zj5 fp h:=List.mem_filterMap.mpr ⟨b,hb,by rw[e];rfl⟩
theorem Zp2 {fp:List Addr}{h:Heap}{p:Addr×Obj}(hp:p∈Zj5 fp h):p.1∈fp/\h.get? p.1=some p.2:=by
 refine Zac (List.mem_filterMap.mp hp) λb hb e=>?_;cases q:h.get? b with
 | none=>rw[q] at e;cases e
 | some o=>
  rw[q] at e;have e':(b,o)=p:=Ja7 e;subst e';exact⟨hb,q⟩
theorem Inv.pinned {pins:List (Addr×Obj)}{σ:St}{H:Hp}{s:Shared}{fp:List Addr}(I:Inv X pins σ H s)(hf:∀ b∈fp,FpOk X pins H b)(ho:∀ b∈fp,∃ o,s.heap.get? b=some o/\∀ v,o.data≠.cell v):Inv X (pins++Zj5 fp s.heap) σ H s:=
 I.pins_of λp hp=>(Jar.mp hp).elim (λz=>I.pin p (Ja8 _ z)) λz=>by
  obtain⟨hb,e⟩:=Zp2 z;refine Zch (hf p.1 hb) λf0 f1 f2 _=>?_;refine Zac (ho p.1 hb) λo e' d=>?_;rw[e] at e';cases e';exact⟨e,f0,f1,f2,d⟩
theorem Inv.unpinned {pins pl:List (Addr×Obj)}{σ:St}{H:Hp}{s:Shared}(I:Inv X (pins++pl) σ H s):Inv X pins σ H s:=I.pins_of λp hp=>I.pin p (Ja8 _ (List.mem_append_left _ hp))
theorem Zdg {iter:Expr}{body:List Stmt}{wi:TI}{g:TG}{tb:TS}{pos:Pos}(hp:PassesOwn (model X.prog X.w) X.A X.env X.xe)(hc:X.calm=true)(hi:PI X tg iter wi)(hg:PG X tg g)(hb:PSs X body tb)(hs:∀ x,foldedSetIterable iter X.env x=pure x:=by intro _;rfl):PS X (.For tg iter body [] pos) (tFor wi g tb):=by
 intro pins s σ H D I h;refine wpAny_For (thn (hi pins s σ H _ I h) λv s1 h1=>thn h1 λitv s2 h2=>?_) hs;refine Zh7 h2 λit fp tn J H2 e I2 T e933=>?_;clear h2;refine Za2 e933 λst2 f2 e934=>?_;clear e933;obtain⟨W,⟨m0,w0⟩,turn⟩:=e934;subst e
 -- what stays true of the iterator's objects Zk4 the loop
 have stat:∀ {H':Hp},(∀ b∈fp,H' b=none)->∀ b∈fp,FpOk X pins H' b:=λhn b hb=>⟨hn b hb,(f2 b hb).2⟩
 refine codeAny_forLoop_any (λn s'=>∃ i σ' H',Inv X pins σ' H' s'/\tn i s'.heap/\(∀ b∈fp,H' b=none)/\W i n σ' H') ?_ m0 ⟨0,σ,H2,I2,st2,λb hb=>(f2 b hb).1,w0⟩;intro n s3 e92;refine Zda e92 λi σ3 H3 I3 st3 fr3 w3=>?_;clear e92;rcases turn i n σ3 H3 w3 with ⟨stop,qn⟩|⟨go,N,hN,step⟩
 .refine Jcq hp (thn (T.done X rfl rfl rfl hc i pins s3 σ3 H3 X.xe I3 (stat fr3) st3 stop) λr s4 ⟨hr,I4⟩=>?_);subst hr;exact Jeg ⟨σ3,H3,I4,qn⟩
 .refine Jcq hp (thn (T.item X rfl rfl rfl hc i pins s3 σ3 H3 X.xe I3 (stat fr3) st3 go) λr s4 ⟨u,hr,h4⟩=>?_);subst hr;refine Jcq hp (thn h4 λ_ s5 ⟨x,H5,I5,r5,y5,st5,fr5⟩=>?_);have I5':=I5.pinned (stat fr5) (T.obj _ _ st5);refine Jcq hp (thn (hg _ s5 σ3 H5 x u _ I5' r5 (step x H5 y5)) λ_ s6 ⟨σ6,H6,I6,q6⟩=>?_);refine Jcq hp (thn (hb _ s6 σ6 H6 _ I6 q6) λf s7 q7=>?_);have again:∀ {σ7:St} {H7:Hp},Inv X (pins++Zj5 fp s5.heap) σ7 H7 s7->N σ7 H7->∃ m,m<n/\∃ i σ' H',Inv X pins σ' H' s7/\tn i s7.heap/\(∀ b∈fp,H' b=none)/\W i m σ' H':=λ{σ7 H7} I7 n7=>by
   refine Zac (hN σ7 H7 n7) λm' hm w7=>?_;refine⟨m',hm,i+1,σ7,H7,I7.unpinned,T.keep _ _ _ st5 λb hb o e=>(I7.pin (b,o) (Ja8 _ (Ja8 _ (Zdk hb e)))).1,λb hb=>?_,w7⟩;refine Zac (T.obj _ _ st5 b hb) λo e d=>?_;exact (I7.pin (b,o) (Ja8 _ (Ja8 _ (Zdk hb e)))).2.1
  cases f with
  | next=>obtain⟨σ7,H7,I7,n7⟩:=q7;exact again I7 n7
  | cont=>obtain⟨σ7,H7,I7,n7⟩:=q7;exact again I7 n7
  | brk=>obtain⟨σ7,H7,I7,q7⟩:=q7;exact⟨σ7,H7,I7.unpinned,q7⟩
  | ret v=>obtain⟨x7,σ7,H7,I7,r7,q7⟩:=q7;exact⟨x7,σ7,H7,I7.unpinned,r7,q7⟩
end
theorem Zcj {K:Frag}{a:Addr}{xs:List V}{g:TG}{tb:TS}{D:Ends}{σ:St}{H:Hp}(Pv:Nat->St->Hp->Prop)(h0:Pv 0 σ H)(hl:∀ i σ H,i<=xs.length->Pv i σ H->SqL K H a xs)(hs:∀ i x σ H,xs[i]?=some x->Pv i σ H->g x σ H λσ2 H2=>tb { D with nx:=Pv (i+1),ct:=Pv (i+1),bk:=D.nx } σ2 H2)(hd:∀ σ H,Pv xs.length σ H->D.nx σ H):
  ∃ W:Nat->Nat->St->Hp->Prop,(∃ m,W 0 m σ H)/\∀ i m σ H,W i m σ H->
   ((Itl K a).stop i H/\D.nx σ H)\/((Itl K a).go i H/\∃ N:St->Hp->Prop,(∀ σ' H',N σ' H'->∃ m',m'<m/\W (i+1) m' σ' H')/\∀ x H',(Itl K a).yld i H x H'->g x σ H' λσ2 H2=>tb { D with nx:=N,ct:=N,bk:=D.nx } σ2 H2):=by
 refine⟨λi m σ H=>m=xs.length-i/\i<=xs.length/\Pv i σ H,⟨xs.length,by simp,Jcl _,h0⟩,?_⟩;intro i m σ H e93;refine Za2 e93 λe935 hi p=>?_;clear e93;obtain rfl:=e935;have q:=hl i σ H hi p;by_cases hlt:i<xs.length
 .refine .inr ⟨⟨xs,xs[i],q,by simp[hlt]⟩,Pv (i+1),λσ' H' p'=>⟨xs.length-(i+1),∅,rfl,hlt,p'⟩,λx H' y=>?_⟩;obtain⟨e,y⟩:=y;subst e;exact hs i x σ _ (y xs q) p
 .have e:i=xs.length:=∅
  subst e;exact .inl ⟨⟨xs,q,Jah _⟩,hd σ H p⟩
theorem Zfn {lo:Int}{n:Nat}{g:TG}{tb:TS}{D:Ends}{σ:St}{H:Hp}(Pv:Nat->St->Hp->Prop)(h0:Pv 0 σ H)(hs:∀ i σ H,i<n->Pv i σ H->g (.int (lo+i)) σ H λσ2 H2=>tb { D with nx:=Pv (i+1),ct:=Pv (i+1),bk:=D.nx } σ2 H2)(hd:∀ σ H,Pv n σ H->D.nx σ H):
  ∃ W:Nat->Nat->St->Hp->Prop,(∃ m,W 0 m σ H)/\∀ i m σ H,W i m σ H->
   ((Itr lo n).stop i H/\D.nx σ H)\/((Itr lo n).go i H/\∃ N:St->Hp->Prop,(∀ σ' H',N σ' H'->∃ m',m'<m/\W (i+1) m' σ' H')/\∀ x H',(Itr lo n).yld i H x H'->g x σ H' λσ2 H2=>tb { D with nx:=N,ct:=N,bk:=D.nx } σ2 H2):=by
 refine⟨λi m σ H=>m=n-i/\i<=n/\Pv i σ H,⟨n,by simp,Jcl _,h0⟩,?_⟩;intro i m σ H e95;refine Za2 e95 λe937 hi p=>?_;clear e95;obtain rfl:=e937;by_cases hlt:i<n
 .refine .inr ⟨hlt,Pv (i+1),λσ' H' p'=>⟨n-(i+1),∅,rfl,hlt,p'⟩,λx H' y=>?_⟩;obtain⟨e,y⟩:=y;subst e y;exact hs i σ _ hlt p
 .have e:i=n:=∅
  subst e;exact .inl ⟨Jah _,hd σ H p⟩
abbrev R2:=V->V->Hp->VK->Prop
def OpR (X:Cx)(f:Value->Value->Sem Value)(r:R2):Prop:=
 ∀ (pins:List (Addr×Obj)) (s:Shared) (σ:St) (H:Hp) (x y:V) (v u:Value) (Q:VK),Inv X pins σ H s->RelV x v->RelV y u->r x y H Q->
  wpAny (model X.prog X.w) X.A (f v u) (EP X pins σ Q) X.xe s
def UnR (X:Cx)(f:Value->Sem Value)(r:V->Hp->VK->Prop):Prop:=
 ∀ (pins:List (Addr×Obj)) (s:Shared) (σ:St) (H:Hp) (x:V) (v:Value) (Q:VK),Inv X pins σ H s->RelV x v->r x H Q->
  wpAny (model X.prog X.w) X.A (f v) (EP X pins σ Q) X.xe s
def Zga (X:Cx)(f:Value)(r:List V->Hp->VK->Prop):Prop:=
 ∀ (pins:List (Addr×Obj)) (s:Shared) (σ:St) (H:Hp) (xs:List V) (us:List Value) (Q:VK),Inv X pins σ H s->Vals xs us->r xs H Q->
  wpAny (model X.prog X.w) X.A (call f us) (EP X pins σ Q) X.xe s
def TruR (X:Cx)(r:V->Hp->(Bool->Hp->Prop)->Prop):Prop:=
 ∀ (pins:List (Addr×Obj)) (s:Shared) (σ:St) (H:Hp) (x:V) (v:Value) (Q:Bool->Hp->Prop),Inv X pins σ H s->RelV x v->r x H Q->
  wpAny (model X.prog X.w) X.A (truthy v) (TP X pins σ Q) X.xe s
def tOp (r:R2)(ta tb:TE):TE:=λσ H Q=>ta σ H λx H1=>tb σ H1 λy H2=>r x y H2 Q
def tUn (r:V->Hp->VK->Prop)(ta:TE):TE:=λσ H Q=>ta σ H λx H1=>r x H1 Q
def rI (C:Int->Int->Prop)(g:Int->Int->V):R2:=λx y H Q=>∃ i j,x=.int i/\y=.int j/\C i j/\Q (g i j) H
def rI0 (g:Int->Int->V):R2:=λx y H Q=>∃ i j,x=.int i/\y=.int j/\Q (g i j) H
def rU (g:Int->V):V->Hp->VK->Prop:=λx H Q=>∃ i,x=.int i/\Q (g i) H
section
variable {X:Cx}{a b c:Expr}{ta tb tc:TE}{pos:Pos}
theorem binT (ha:PE X a ta)(hb:PE X b tb){pins:List (Addr×Obj)}{s:Shared}{σ:St}{H:Hp}{R:V->V->Hp->Prop}(I:Inv X pins σ H s)(h:ta σ H λx H1=>tb σ H1 λy H2=>R x y H2){Q:Value->Shared->Prop}{f:Value->Value->Sem Value}(hf:∀ v u s2 x y H2,Inv X pins σ H2 s2->RelV x v->RelV y u->R x y H2->wpAny (model X.prog X.w) X.A (f v u) Q X.xe s2):
  wpAny (model X.prog X.w) X.A (eval a X.env) (λv s₁=>wpAny (model X.prog X.w) X.A (eval b X.env) (λu s₂=>wpAny (model X.prog X.w) X.A (f v u) Q X.xe s₂) X.xe s₁) X.xe s:=by
 refine thn (ha pins s σ H _ I h) λv s1 ⟨x,H1,I1,r1,q1⟩=>?_;refine thn (hb pins s1 σ H1 _ I1 q1) λu s2 ⟨y,H2,I2,r2,q2⟩=>?_;exact hf v u s2 x y H2 I2 r1 r2 q2
theorem pe_op {op:Operator}{r:R2}(ho:OpR X (binaryOp op) r)(ha:PE X a ta)(hb:PE X b tb):PE X (.BinOp a op b pos) (tOp r ta tb):=by
 intro pins s σ H Q I h;exact wpAny_BinOp (binT ha hb I h λv u s2 x y H2 I2 rx ry q=>ho pins s2 σ H2 x y v u Q I2 rx ry q)
theorem pe_un {op:UnaryOp}{r:V->Hp->VK->Prop}(ho:UnR X (unaryOp op) r)(ha:PE X a ta):PE X (.UnaryOp op a pos) (tUn r ta):=by
 intro pins s σ H Q I h;exact UnaryOp_ (thn (ha pins s σ H _ I h) λv s1 ⟨x,H1,I1,r1,q1⟩=>ho pins s1 σ H1 x v Q I1 r1 q1)
theorem opI {f:Value->Value->Sem Value}{C:Int->Int->Prop}{g:Int->Int->Int}(rule:∀ (i j:Int) (t u:Tok) (s:Shared) (Q:Value->Shared->Prop) (E:Value->Shared->Prop),C i j->Q (.int (g i j) s.toks) { s with toks:=s.toks+1 }->wpAny (model X.prog X.w) X.A (f (.int i t) (.int j u)) Q E s):
  OpR X f (rI C λi j=>.int (g i j)):=by
 intro pins s σ H x y v u Q I rx ry h;refine Zgs h λi j e938 e939 hc q=>?_;clear h;obtain rfl:=e938;obtain rfl:=e939;obtain⟨t,rfl⟩:=rx;obtain⟨t',rfl⟩:=ry;exact rule i j t t' s _ _ hc ⟨.int (g i j),H,I.tok _,⟨_,rfl⟩,q⟩
theorem opI0 {f:Value->Value->Sem Value}{g:Int->Int->Int}(rule:∀ (i j:Int) (t u:Tok) (s:Shared) (Q:Value->Shared->Prop) (E:Value->Shared->Prop),Q (.int (g i j) s.toks) { s with toks:=s.toks+1 }->wpAny (model X.prog X.w) X.A (f (.int i t) (.int j u)) Q E s):
  OpR X f (rI0 λi j=>.int (g i j)):=by
 intro pins s σ H x y v u Q I rx ry h;refine Zca h λi j e940 e941 q=>?_;clear h;obtain rfl:=e940;obtain rfl:=e941;obtain⟨t,rfl⟩:=rx;obtain⟨t',rfl⟩:=ry;exact rule i j t t' s _ _ ⟨.int (g i j),H,I.tok _,⟨_,rfl⟩,q⟩
theorem opB0 {f:Value->Value->Sem Value}{g:Int->Int->Bool}(rule:∀ (i j:Int) (t u:Tok) (s:Shared) (Q:Value->Shared->Prop) (E:Value->Shared->Prop),Q (.bool (g i j)) s->wpAny (model X.prog X.w) X.A (f (.int i t) (.int j u)) Q E s):
  OpR X f (rI0 λi j=>.bl (g i j)):=by
 intro pins s σ H x y v u Q I rx ry h;refine Zca h λi j e942 e943 q=>?_;clear h;obtain rfl:=e942;obtain rfl:=e943;obtain⟨t,rfl⟩:=rx;obtain⟨t',rfl⟩:=ry;exact rule i j t t' s _ _ ⟨.bl (g i j),H,I,rfl,q⟩
def CDiv (i j:Int):Prop:=0<j/\j<1073741824
def CPow (i j:Int):Prop:=0<=j/\j<=1000000/\i.natAbs<2 ^ 64
def CMul (i j:Int):Prop:=(-(2 ^ 64)<i/\i<2 ^ 64)\/(-(2 ^ 64)<j/\j<2 ^ 64)
theorem CMul.ok {i j:Int}(h:CMul i j):IntMulOk i j:=by
 rcases h with ⟨h1,h2⟩|⟨h1,h2⟩
 .exact .of_left (intBits_le_64 h1 h2)
 .exact .of_right (intBits_le_64 h1 h2)
theorem two_pow_nn (k:Nat):(0:Int)<=2 ^ k:=by
 rw[two_pow_cast];exact Int.natCast_nonneg _
theorem Zgo:OpR X (binaryOp .Add) (rI0 λi j=>.int (i+j)):=opI0 λ_ _ _ _ _ _ _ q=>add_int q
theorem Zhu:OpR X (binaryOp .Sub) (rI0 λi j=>.int (i-j)):=opI0 λ_ _ _ _ _ _ _ q=>sub_int q
theorem Zgn:OpR X (binaryOp .Mult) (rI CMul λi j=>.int (i*j)):=opI λ_ _ _ _ _ _ _ hc q=>mul_int q hc.ok
theorem Zje:OpR X (binaryOp .FloorDiv) (rI CDiv λi j=>.int (i / j)):=opI λi j _ _ _ _ _ hc q=>by
 have h1:(0:Int)<j:=hc.1;have h2:j<1073741824:=hc.2;exact floordiv_int ∅ (by rw[Jbq i ∅];exact q) (.inl (PyProof.noPylong_small ∅))
theorem Zdi:OpR X (binaryOp .Mod) (rI (λ_ j=>0<j) λi j=>.int (i % j)):=opI λi j _ _ _ _ _ hc q=>by
 have h1:(0:Int)<j:=hc;exact mod_int' ∅ (by rw[Int.fmod_eq_emod_of_nonneg i ∅];exact q)
theorem Zpu:OpR X (binaryOp .Mod) (rI (λ_ j=>j≠0) λi j=>.int (i.fmod j)):=opI λ_ _ _ _ _ _ _ hc q=>mod_int' hc q
theorem Zur:OpR X (binaryOp .Pow) (rI CPow λi j=>.int (i ^ j.toNat)):=opI λ_ _ _ _ _ _ _ hc q=>pow_int_small hc.1 hc.2.1 hc.2.2 q
theorem Zuq:OpR X (binaryOp .RShift) (rI (λ_ j=>0<=j) λi j=>.int (i / 2 ^ j.toNat)):=opI λi j _ _ _ _ _ hc q=>
 rshift_int hc (by rw[Jbq i (two_pow_nn _)];exact q)
theorem unI {f:Value->Sem Value}{g:Int->Int}(rule:∀ (i:Int) (t:Tok) (s:Shared) (Q:Value->Shared->Prop) (E:Value->Shared->Prop),Q (.int (g i) s.toks) { s with toks:=s.toks+1 }->wpAny (model X.prog X.w) X.A (f (.int i t)) Q E s):
  UnR X f (rU λi=>.int (g i)):=by
 intro pins s σ H x v Q I rx h;refine Zac h λi e944 q=>?_;clear h;obtain rfl:=e944;obtain⟨t,rfl⟩:=rx;exact rule i t s _ _ ⟨.int (g i),H,I.tok _,⟨_,rfl⟩,q⟩
theorem un_neg:UnR X (unaryOp .USub) (rU λi=>.int (-i)):=unI λ_ _ _ _ _ q=>neg_int q
end
def scal:V->V->Bool
 | .non,.non=>true | .non,.int _=>true | .int _,.non=>true | .non,.bl _=>true | .bl _,.non=>true | .non,.str _=>true | .str _,.non=>true
 | .int _,.int _=>true | .bl _,.bl _=>true | .str _,.str _=>true | .byt _,.byt _=>true
 | .int _,.str _=>true | .str _,.int _=>true | .bl _,.str _=>true | .str _,.bl _=>true
 | _,_=>false
def rEq:R2:=λx y H Q=>scal x y=true/\Q (.bl (decide (x=y))) H
def rNe:R2:=λx y H Q=>scal x y=true/\Q (.bl (!decide (x=y))) H
theorem Zqz {i j:Int}:decide (V.int i=V.int j)=(i == j):=by
 rw[Jbr];simp
theorem Zuy {i j:Bool}:decide (V.bl i=V.bl j)=(i == j):=by
 rw[Jbr];simp
theorem Zqy {i j:Str}:decide (V.str i=V.str j)=(i == j):=by
 rw[Jbr];simp
theorem Zq0 {i j:Array UInt8}:decide (V.byt i=V.byt j)=(i.toList == j.toList):=by
 rw[Jbr];cases i;cases j;simp
section
variable {X:Cx}{a b c:Expr}{ta tb tc:TE}{pos:Pos}
theorem Za4 {pins:List (Addr×Obj)}{σ:St}{H:Hp}{s:Shared}{Q:VK}{k k':Bool}(I:Inv X pins σ H s)(q:Q (.bl k) H)(e:k=k'):EP X pins σ Q (.bool k') s:=by
 subst e;exact Zat (.bl k) H ⟨I,rfl,q⟩
theorem Zc8:OpR X (compareOp .Eq) rEq:=by
 intro pins s σ H x y v u Q I rx ry h;obtain⟨hs,q⟩:=h;cases x with
 | non=>
  cases rx;cases y with
  | non=>cases ry;exact PySem.EqNone.eq_none_none (Za4 I q (by simp))
  | bl j=>cases ry;exact PySem.EqNone.eq_none_bool (Za4 I q (by simp))
  | int j=>obtain⟨t',rfl⟩:=ry;exact PySem.EqNone.eq_none_int (Za4 I q (by simp))
  | str j=>obtain⟨t',rfl⟩:=ry;exact PySem.EqNone.eq_none_str (Za4 I q (by simp))
  | _=>exact absurd (show false=true from hs) Jat
 | bl i=>
  cases rx;cases y with
  | non=>cases ry;exact PySem.EqNone.eq_bool_none (Za4 I q (by simp))
  | bl j=>cases ry;exact eq_bool (Za4 I q Zuy)
  | str j=>obtain⟨t',rfl⟩:=ry;exact PySem.EqMixed.eq_bool_str (Za4 I q (by simp))
  | _=>exact absurd (show false=true from hs) Jat
 | int i=>
  obtain⟨t,rfl⟩:=rx;cases y with
  | non=>cases ry;exact PySem.EqNone.eq_int_none (Za4 I q (by simp))
  | int j=>obtain⟨t',rfl⟩:=ry;exact eq_int (Za4 I q Zqz)
  | str j=>obtain⟨t',rfl⟩:=ry;exact PySem.EqMixed.eq_int_str (Za4 I q (by simp))
  | _=>exact absurd (show false=true from hs) Jat
 | str i=>
  obtain⟨t,rfl⟩:=rx;cases y with
  | non=>cases ry;exact PySem.EqNone.eq_str_none (Za4 I q (by simp))
  | bl j=>cases ry;exact PySem.EqMixed.eq_str_bool (Za4 I q (by simp))
  | int j=>obtain⟨t',rfl⟩:=ry;exact PySem.EqMixed.eq_str_int (Za4 I q (by simp))
  | str j=>obtain⟨t',rfl⟩:=ry;exact eq_str (Za4 I q Zqy)
  | _=>exact absurd (show false=true from hs) Jat
 | byt i=>
  obtain⟨t,rfl⟩:=rx;cases y with
  | byt j=>obtain⟨t',rfl⟩:=ry;exact PySem.W.eq_bytes (Za4 I q Zq0)
  | _=>exact absurd (show false=true from hs) Jat
 | _=>cases y <;> exact absurd (show false=true from hs) Jat
theorem Zd7:OpR X (compareOp .NotEq) rNe:=by
 intro pins s σ H x y v u Q I rx ry h;obtain⟨hs,q⟩:=h;cases x with
 | non=>
  cases rx;cases y with
  | non=>cases ry;exact PySem.EqNone.ne_none_none (Za4 I q (by simp))
  | bl j=>cases ry;exact PySem.EqNone.ne_none_bool (Za4 I q (by simp))
  | int j=>obtain⟨t',rfl⟩:=ry;exact PySem.EqNone.ne_none_int (Za4 I q (by simp))
  | str j=>obtain⟨t',rfl⟩:=ry;exact PySem.EqNone.ne_none_str (Za4 I q (by simp))
  | _=>exact absurd (show false=true from hs) Jat
 | bl i=>
  cases rx;cases y with
  | non=>cases ry;exact PySem.EqNone.ne_bool_none (Za4 I q (by simp))
  | bl j=>cases ry;exact ne_bool (Za4 I q (Jdb not Zuy))
  | str j=>obtain⟨t',rfl⟩:=ry;exact PySem.EqMixed.ne_bool_str (Za4 I q (by simp))
  | _=>exact absurd (show false=true from hs) Jat
 | int i=>
  obtain⟨t,rfl⟩:=rx;cases y with
  | non=>cases ry;exact PySem.EqNone.ne_int_none (Za4 I q (by simp))
  | int j=>obtain⟨t',rfl⟩:=ry;exact ne_int (Za4 I q (Jdb not Zqz))
  | str j=>obtain⟨t',rfl⟩:=ry;exact PySem.EqMixed.ne_int_str (Za4 I q (by simp))
  | _=>exact absurd (show false=true from hs) Jat
 | str i=>
  obtain⟨t,rfl⟩:=rx;cases y with
  | non=>cases ry;exact PySem.EqNone.ne_str_none (Za4 I q (by simp))
  | bl j=>cases ry;exact PySem.EqMixed.ne_str_bool (Za4 I q (by simp))
  | int j=>obtain⟨t',rfl⟩:=ry;exact PySem.EqMixed.ne_str_int (Za4 I q (by simp))
  | str j=>obtain⟨t',rfl⟩:=ry;exact ne_str (Za4 I q (Jdb not Zqy))
  | _=>exact absurd (show false=true from hs) Jat
 | byt i=>
  obtain⟨t,rfl⟩:=rx;cases y with
  | byt j=>obtain⟨t',rfl⟩:=ry;exact PySem.W.ne_bytes (Za4 I q (Jdb not Zq0))
  | _=>exact absurd (show false=true from hs) Jat
 | _=>cases y <;> exact absurd (show false=true from hs) Jat
theorem Zj7:OpR X (compareOp .Lt) (rI0 λi j=>.bl (decide (i<j))):=opB0 λ_ _ _ _ _ _ _ q=>lt_int q
theorem Znq:OpR X (compareOp .LtE) (rI0 λi j=>.bl (decide (i<=j))):=opB0 λ_ _ _ _ _ _ _ q=>le_int q
theorem Znr:OpR X (compareOp .Gt) (rI0 λi j=>.bl (decide (j<i))):=opB0 λ_ _ _ _ _ _ _ q=>gt_int q
theorem op_ge:OpR X (compareOp .GtE) (rI0 λi j=>.bl (decide (j<=i))):=opB0 λ_ _ _ _ _ _ _ q=>ge_int q
theorem op_notN:OpR X (compareOp .IsNot) (λx y H Q=>y=.non/\Q (.bl (!decide (x=.non))) H):=by
 intro pins s σ H x y v u Q I rx ry h;obtain⟨rfl,q⟩:=h;cases ry;refine isnot_none_gen (Za4 I q ?_);cases x <;> first
  | (cases rx;rfl)
  | (obtain⟨t,rfl⟩:=rx;rfl)
theorem OpR.or {f:Value->Value->Sem Value}{r r':R2}(h:OpR X f r)(h':OpR X f r'):OpR X f (λx y H Q=>r x y H Q\/r' x y H Q):=by
 intro pins s σ H x y v u Q I rx ry q;rcases q with q|q
 .exact h pins s σ H x y v u Q I rx ry q
 .exact h' pins s σ H x y v u Q I rx ry q
theorem Zaj (b:Expr){op:CmpOp}(h:op≠.In:=by decide)(h2:op≠.NotIn:=by decide):behindInMarks op b=false:=by
 have e1:(op == CmpOp.In)=false:=by cases op <;> first|rfl|exact absurd rfl h
 have e2:(op == CmpOp.NotIn)=false:=by cases op <;> first|rfl|exact absurd rfl h2
 cases b <;> simp[behindInMarks,e1,e2]
theorem Zbr {op:CmpOp}{r:R2}(ho:OpR X (compareOp op) r)(ha:PE X a ta)(hb:PE X b tb)(hm:behindInMarks op b=false):PE X (.Compare a [op] [b] pos) (tOp r ta tb):=by
 intro pins s σ H Q I h;exact wpAny_Compare1 (binT ha hb I h λv u s2 x y H2 I2 rx ry q=>ho pins s2 σ H2 x y v u Q I2 rx ry q) hm
def Zr4 (t:TE):TT:=λσ H Q=>t σ H λx H'=>∃ k,x=.bl k/\Q k H'
theorem Zf6 {op:CmpOp}{r:R2}(ho:OpR X (compareOp op) r)(ha:PE X a ta)(hb:PE X b tb)(hm:behindInMarks op b=false):PT X (.Compare a [op] [b] pos) (Zr4 (tOp r ta tb)):=by
 intro pins s σ H Q I h;refine Jd5 (thn (ha pins s σ H _ I h) λv s1 ⟨x,H1,I1,r1,q1⟩=>thn (hb pins s1 σ H1 _ I1 q1) λu s2 ⟨y,H2,I2,r2,q2⟩=>
  thn (ho pins s2 σ H2 x y v u _ I2 r1 r2 q2) λc s3 ⟨z,H3,I3,r3,k,e,q3⟩=>?_) hm
 subst e;cases r3;exact Jbl ⟨H3,I3,q3⟩
def Zl8 (r r':R2)(ta tb tc:TE):TE:=λσ H Q=>ta σ H λx H1=>tb σ H1 λy H2=>r x y H2 λz H3=>∃ k,z=.bl k /\
 (if k=true then tc σ H3 λw' H4=>r' y w' H4 Q else Q (.bl false) H3)
theorem Zmt {op op':CmpOp}{r r':R2}(ho:OpR X (compareOp op) r)(ho':OpR X (compareOp op') r')(ha:PE X a ta)(hb:PE X b tb)(hc:PE X c tc)(hm:lastMarks [op,op'] [b,c]=false:=by with_unfolding_all rfl):PE X (.Compare a [op,op'] [b,c] pos) (Zl8 r r' ta tb tc):=by
 intro pins s σ H Q I h;refine Compare_chain (thn (ha pins s σ H _ I h) λv s1 ⟨x,H1,I1,r1,q1⟩=>chain_link (thn (hb pins s1 σ H1 _ I1 q1) λu s2 ⟨y,H2,I2,r2,q2⟩=>
  thn (ho pins s2 σ H2 x y v u _ I2 r1 r2 q2) λd s3 ⟨z,H3,I3,r3,k,e,q3⟩=>?_)) hm
 subst e;cases r3;refine Jbl ?_;cases k with
 | false=>exact ite_ff ⟨.bl false,H3,I3,rfl,q3⟩
 | true=>exact ite_tt (chain_last (thn (hc pins s3 σ H3 _ I3 q3) λw' s4 ⟨z',H4,I4,r4,q4⟩=>ho' pins s4 σ H4 y z' u w' Q I4 r2 r4 q4))
theorem Zmo {op op':CmpOp}{r r':R2}(ho:OpR X (compareOp op) r)(ho':OpR X (compareOp op') r')(ha:PE X a ta)(hb:PE X b tb)(hc:PE X c tc)(hm:lastMarks [op,op'] [b,c]=false:=by with_unfolding_all rfl):PT X (.Compare a [op,op'] [b,c] pos) (Zr4 (Zl8 r r' ta tb tc)):=by
 intro pins s σ H Q I h;refine isTrue_chain (thn (ha pins s σ H _ I h) λv s1 ⟨x,H1,I1,r1,q1⟩=>test_link (thn (hb pins s1 σ H1 _ I1 q1) λu s2 ⟨y,H2,I2,r2,q2⟩=>
  thn (ho pins s2 σ H2 x y v u _ I2 r1 r2 q2) λd s3 ⟨z,H3,I3,r3,k,e,q3⟩=>?_)) hm
 subst e;cases r3;refine Jbl ?_;cases k with
 | false=>
  refine Zac q3 λk' e' q'=>?_;clear q3;cases e';exact ite_ff ⟨H3,I3,q'⟩
 | true=>
  refine ite_tt (test_last (thn (hc pins s3 σ H3 _ I3 q3) λw' s4 ⟨z',H4,I4,r4,q4⟩=>thn (ho' pins s4 σ H4 y z' u w' _ I4 r2 r4 q4) λd' s5 ⟨z2,H5,I5,r5,k2,e2,q5⟩=>?_));subst e2;cases r5;exact Jbl ⟨H5,I5,q5⟩
def TruV (K:Frag)(x:V)(H:Hp)(k:Bool):Prop:=
 match x with
 | .non=>k=false
 | .bl b=>k=b
 | .int i=>k=(i != 0)
 | .str y=>y.length<=sizeLine/\k=((y.length:Int) != 0)
 | .byt y=>y.size<=sizeLine/\k=((y.size:Int) != 0)
 | .ref p=>(∃ xs,SqL K H p xs/\k=!xs.isEmpty)\/(∃ xs,SqT K H p xs/\k=!xs.isEmpty)\/∃ kvs,H p=some (.dK kvs)/\k=!kvs.isEmpty
 | _=>False
theorem Zny {κ:Type}{kvs:List (κ×V)}{vs:List (κ×Value)}(r:KV kvs vs):(!vs.isEmpty)=!kvs.isEmpty:=by
 cases r <;> rfl
theorem Zit {xs:List V}{its:List Value}(r:Vals xs its):(!its.toArray.isEmpty)=!xs.isEmpty:=by
 cases r <;> simp
theorem Zke:(sizeLine:Nat)<2 ^ 63:=by rw[sizeLine_eq];decide
theorem tru_ok:TruR X (λx H Q=>∃ k,TruV X.K x H k/\Q k H):=by
 intro pins s σ H x v Q I rx h;refine Zac h λk e q=>?_;clear h;have hl:=Zke;have hs:sizeLine=16777216:=sizeLine_eq;cases x with
 | non=>
  cases rx;have e':k=false:=e;subst e';exact truthy_none ⟨H,I,q⟩
 | bl b=>
  cases rx;have e':k=b:=e;subst e';exact Jbl ⟨H,I,q⟩
 | int i=>
  obtain⟨t,rfl⟩:=rx;have e':k=(i != 0):=e;subst e';exact PySem.P.truthy_int ⟨H,I,q⟩
 | str y=>
  obtain⟨t,rfl⟩:=rx;obtain⟨hy,e'⟩:y.length<=sizeLine/\k=((y.length:Int) != 0):=e;subst e';exact PySem.P.truthy_str ∅ ⟨H,I.tok _,q⟩
 | byt y=>
  obtain⟨t,rfl⟩:=rx;obtain⟨hy,e'⟩:y.size<=sizeLine/\k=((y.size:Int) != 0):=e;subst e';exact PySem.W.truthy_bytes ∅ ⟨H,I.tok _,q⟩
 | ref p=>
  cases rx;have e':(∃ xs,SqL X.K H p xs/\k=!xs.isEmpty)\/(∃ xs,SqT X.K H p xs/\k=!xs.isEmpty)\/∃ kvs,H p=some (.dK kvs)/\k=!kvs.isEmpty:=e;rcases e' with ⟨xs,hx,e'⟩|⟨xs,hx,e'⟩|⟨kvs,hx,e'⟩
  .subst e';refine Zal (I.list hx) λits r pl hz=>?_;have hlen:=r.length;exact wpAny_truthy_list pl.isList (by simp only[Jap];omega) ⟨H,I.tok _,by rw[Zit r];exact q⟩
  .subst e';refine Zal (I.tuple hx) λits r pl hz=>?_;have hlen:=r.length;exact truthy_tuple pl (by simp only[Jap];omega) ⟨H,I.tok _,by rw[Zit r];exact q⟩
  .subst e';obtain⟨hz,hS,vs,r,m⟩:kvs.length<=sizeLine/\(p == sysModules)=false/\∃ vs,KV kvs vs/\s.heap.DictOf (Zls X.prog X.w) p vs:=I.hok p _ hx;have hlen:kvs.length=vs.length:=Paired.length r;exact wpAny_truthy_dict hS m ∅ ⟨H,I.tok _,by rw[Zny r];exact q⟩
 | _=>exact (show False from e).elim
theorem Zsg (ha:PE X a ta)(he:∀ whole,isTrue a X.env whole=(do let v <- whole;standAt a.pos;holding [v] (truthy v))):
  PT X a (λσ H Q=>ta σ H λx H'=>∃ k,TruV X.K x H' k/\Q k H'):=by
 intro pins s σ H Q I h;exact isTrue_plain (thn (ha pins s σ H _ I h) λv s1 ⟨x,H1,I1,r1,q1⟩=>tru_ok pins s1 σ H1 x v Q I1 r1 q1) (he _)
theorem Zk1 {x:V}{us:List Value}(r:Vals [x] us):∃ u,us=[u]/\RelV x u:=by
 cases r with
 | cons r1 r2=>cases r2;exact⟨_,rfl,r1⟩
theorem vals2 {x y:V}{us:List Value}(r:Vals [x,y] us):∃ u w',us=[u,w']/\RelV x u/\RelV y w':=by
 cases r with
 | cons r1 r2=>
  cases r2 with
  | cons r3 r4=>cases r4;exact⟨_,_,rfl,r1,r3⟩
theorem Zeo:Zga X (.builtin "abs") (λxs H Q=>∃ i,xs=[.int i]/\Q (.int (if i<0 then -i else i)) H):=by
 intro pins s σ H xs us Q I r h;refine Zac h λi e968 q=>?_;clear h;obtain rfl:=e968;refine Zac (Zk1 r) λu e969 e970=>?_;obtain rfl:=e969;obtain⟨t,rfl⟩:=e970;exact call_abs_int λu tk=>⟨.int (if i<0 then -i else i),H,I.tok _,⟨_,rfl⟩,q⟩
theorem Zrb (hc:X.calm=true):Zga X (.builtin "min") (λxs H Q=>∃ i j,xs=[.int i,.int j]/\Q (.int (if j<i then j else i)) H):=by
 intro pins s σ H xs us Q I r h;refine Zbd h λi j e975 q=>?_;clear h;obtain rfl:=e975;refine Zca (vals2 r) λu w' e976 e977 e978=>?_;obtain rfl:=e976;obtain⟨t,rfl⟩:=e977;obtain⟨t',rfl⟩:=e978;refine min_two_ints (I.ok.hd hc) λh' tk k=>⟨_,H,I.kept k,?_,q⟩
 by_cases hj:j<i
 .rw [if_pos hj,if_pos hj];exact⟨_,rfl⟩
 .rw [if_neg hj,if_neg hj];exact⟨_,rfl⟩
theorem Zfs:Zga X (.type "int") (λxs H Q=>(∃ i,xs=[.int i]/\Q (.int i) H)\/∃ k,xs=[.bl k]/\Q (.int (if k then 1 else 0)) H):=by
 intro pins s σ H xs us Q I r h;rcases h with ⟨i,rfl,q⟩|⟨k,rfl,q⟩
 .refine Zac (Zk1 r) λu e979 e980=>?_;obtain rfl:=e979;obtain⟨t,rfl⟩:=e980;exact call_int_int ⟨.int i,H,I,⟨_,rfl⟩,q⟩
 .refine Zac (Zk1 r) λu e981 r1=>?_;obtain rfl:=e981;cases r1;exact call_int_bool ⟨.int (if k then 1 else 0),H,I.tok _,⟨_,rfl⟩,q⟩
end
structure ObjM (h:Heap)(x dx C:Addr)(mA:Str->Option Value):Prop where
 obj:h.get? x=some (PySem.W.instObj C dx)
 ns:h.Ns1 dx mA
 ne:dx≠x
theorem Zp9 {h:Heap}{dx:Addr}{mA:Str->Option Value}(n:h.Ns1 dx mA):∃ od,h.get? dx=some od/\∀ name,PySem.W.lookIn name od=some (mA name):=by
 refine Zda n λo es ep ho hd hk e9101=>?_;clear n;obtain⟨_,hm⟩:=e9101;refine⟨o,ho,λname=>?_⟩;have e:=hm name;unfold nsFind findBy at e;rw[<- Array.find?_toList] at e;unfold PySem.W.lookIn;rw[hd];dsimp only;split
 .rename_i y q
  rw[q] at e;exact Jdb some e
 .rename_i q
  rw[q] at e;have a:es.toList.any (·.refKey)=false:=by
   rw[List.any_eq_false];intro y hy;refine Zfe (hk y (Array.mem_toList_iff.mp hy)) λz t hkey=>?_;simp[DictEntry.refKey,hkey]
  have a':¬ es.toList.any (·.refKey)=true:=by rw[a];exact Jat
  rw[if_neg a'];exact Jdb some e
theorem ObjM.look {h:Heap}{x dx C:Addr}{mA:Str->Option Value}(I:ObjM h x dx C mA):∃ od,PySem.W.InstAt h x (PySem.W.instObj C dx) C (some od)/\∀ name,PySem.W.lookIn name od=some (mA name):=
 let ⟨od,ho,hl⟩:=Zp9 I.ns
 ⟨od,⟨I.obj,rfl,rfl,ho⟩,hl⟩
section
variable {prog:Program}{w:World}{A:Around}{E:Value->Shared->Prop}{s:Shared}{K:Frag}{x dx C f:Addr}{mA:Str->Option Value}{name:Str}{v:Value}
theorem get_map {expr:Bool}{Q:Value->Shared->Prop}(X:K.In s.heap)(I:ObjM s.heap x dx C mA)(hg:PySem.W.plainGet K C name=true)(hh:PySem.W.hasDictIn K C=true)(ha:PySem.W.findIn K (.ref C) name=some none)(hv:mA name=some v)(hv':PySem.W.handedIn v=true)(h:Q v { s with toks:=s.toks+1 }):
  wpAny (model prog w) A (getAttr (.ref x) name expr) Q E s:=by
 refine Zac I.look λod J hl=>?_;exact PySem.W.get_value X J (Jeh hg).1 (PySem.W.findObj_own hh ha rfl (by rw[hl,hv])) hv' h
theorem Ztl {pl:Sem Bool}{Q:Value×List Value->Shared->Prop}(X:K.In s.heap)(I:ObjM s.heap x dx C mA)(hg:PySem.W.plainGet K C name=true)(hf:PySem.W.findIn K (.ref C) name=some (some (.ref f)))(ht:PySem.W.isFn K (.ref f)=true)(hv:mA name=none)(h:Q (.ref f,[.ref x]) s):
  wpAny (model prog w) A (getMethod (.ref x) name pl) Q E s:=by
 refine Zac I.look λod J hl=>?_;exact PySem.W.method_fn X J (Jeh hg).1 (Jeh hg).2 hf (Jbj.mp ht) (by show (PySem.W.lookIn name od).map (·.isSome)=some false;rw[hl,hv];rfl) h
theorem set_map {ns:List Str}{Q:Unit->Shared->Prop}(X:K.In s.heap)(I:ObjM s.heap x dx C mA)(hs:PySem.W.findIn K (.ref C) "__setattr__" = some (some (.builtin "object.__setattr__")))(hp:PySem.W.plainOver K C=true)(ht:PySem.W.takerIn K C name=some none)(hh:PySem.W.hasDictIn K C=true)(hw:PySem.Within mA ns)(hsz:ns.length<=sizeLine)(h:∀ h',ObjM h' x dx C (λy=>if y=name then some v else mA y)->Heap.SameBut dx s.heap h'->Q () { s with heap:=h',toks:=s.toks+2 }):
  wpAny (model prog w) A (setAttr (.ref x) name v) Q E s:=by
 refine Zac I.look λod J hl=>?_;refine PySem.W.set_plain X J hs (PySem.W.osa_open (s:={ s with toks:=s.toks+1 }) (r:=none) X J hp ht λb=>?_);refine Zac (PySem.W.any_some hh) λcd hc hd'=>?_;have hx:s.heap.get? x=some ⟨.ref C,some dx,.plain,#[]⟩:=I.obj;refine Jag (Ja2 (Jag (Jag (wpAny_loadPart hx (Jag (PySem.W.Looks.here (s:={ s with toks:=s.toks+1 }) (PySem.W.looks_clsIn X hc) ?_))))));rw[hd'];refine Ja2 (a:=some dx) (Jag (Ja2 (Jag ?_)));refine wpAny_nsSet1 (s:={ s with toks:=s.toks+1 }) I.ns λh' hn2 hs2=>?_;refine Ziy (hn2.count (PySem.Within.cons name v hw)) λoD esD epD hoD hdD hcD=>?_;refine Jag (wpAny_lookBehind hoD (by rw[hdD];exact pastItsLine_dict (Jbi hcD (by rw[Jb1];omega))) ?_);exact Ja2 (h _ ⟨(hs2.2 _ (Jdl I.ne)).trans I.obj,hn2,I.ne⟩ hs2)
theorem Zte {R:Result->Shared->Prop}{vs:List Value}{kw:List (Str×Value)}(X:K.In s.heap)(hm:PySem.W.makesIn K C=true)(hi:PySem.W.findIn K (.ref C) "__init__" = some (some (.ref f)))(hf:PySem.W.typeIn K (.ref f)=some (.type "function"))(h:codeAny (model prog w) (A.under (.builtin "type.__call__" ⟨.ref C::vs,kw⟩)) (.call (.ref f) ⟨.ref (s.heap.objs.size+1)::vs,kw⟩) (PySem.W.InitBack (s.heap.objs.size+1) R)
   { s with heap:=(s.heap.push PySem.W.emptyDict).push (PySem.W.instObj C s.heap.objs.size) }):
  codeAny (model prog w) A (.call (.ref C) ⟨vs,kw⟩) R s:=by
 obtain⟨hh,g,d,t,os⟩:=s;exact PySem.W.make_core (PySem.W.makes_of X hm) (PySem.W.looks_findIn X hi) (λself=>PySem.W.bind_fn X self hf) (.inl rfl) h
end
def Zb7 (f:Str)(v:V):List (Str×V)->List (Str×V)
 | []=>[(f,v)]
 | (g,x)::r=>if g=f then (g,v)::r else (g,x)::Zb7 f v r
theorem Zav (f g:Str)(v:V):∀ fs:List (Str×V),(Zb7 f v fs).lookup g=if g=f then some v else fs.lookup g
 | []=>by
  show List.lookup g [(f,v)]=_;by_cases h:g=f
  .have hb:(g == f)=true:=Jbj.mpr h;simp only[List.lookup,hb,if_pos h]
  .have hb:(g == f)=false:=Jdj.mpr h;simp only[List.lookup,hb,if_neg h]
 | (k,x)::r=>by
  have ih:=Zav f g v r;rw[show Zb7 f v ((k,x)::r)=(if k=f then (k,v)::r else (k,x)::Zb7 f v r) from rfl];by_cases hk:k=f
  .rw [if_pos hk];by_cases h:g=k
   .have hb:(g == k)=true:=Jbj.mpr h;simp only[List.lookup,hb,if_pos (h.trans hk)]
   .have hb:(g == k)=false:=Jdj.mpr h;simp only[List.lookup,hb,if_neg (λe:g=f=>h (e.trans hk.symm))]
  .rw [if_neg hk];by_cases h:g=k
   .have hb:(g == k)=true:=Jbj.mpr h;simp only[List.lookup,hb,if_neg (λe:g=f=>hk (h.symm.trans e))]
   .have hb:(g == k)=false:=Jdj.mpr h;simp only[List.lookup,hb];exact ih
theorem Zhv (f:Str)(v:V):∀ fs:List (Str×V),f∈(Zb7 f v fs).map (·.1)/\∀ g,g∈fs.map (·.1)->g∈(Zb7 f v fs).map (·.1)
 | []=>⟨by simp[Zb7],λg h=>by simp at h⟩
 | (k,x)::r=>by
  obtain⟨i1,i2⟩:=Zhv f v r;rw[show Zb7 f v ((k,x)::r)=(if k=f then (k,v)::r else (k,x)::Zb7 f v r) from rfl];by_cases hk:k=f
  .rw [if_pos hk];subst hk;exact⟨by simp,λg h=>by simpa using h⟩
  .rw [if_neg hk];refine⟨?_,λg h=>?_⟩
   .rw [List.map_cons];exact Jbn _ i1
   .rw [List.map_cons] at h ⊢;rcases Ja9.mp h with e|e
    .exact Ja9.mpr (.inl e)
    .exact Jbn _ (i2 g e)
theorem Zbx (f:Str)(v:V):∀ fs:List (Str×V),(Zb7 f v fs).length<=fs.length+1
 | []=>by simp[Zb7]
 | (k,x)::r=>by
  have ih:=Zbx f v r;rw[show Zb7 f v ((k,x)::r)=(if k=f then (k,v)::r else (k,x)::Zb7 f v r) from rfl];by_cases hk:k=f
  .rw [if_pos hk,Jb1,Jb1];omega
  .rw [if_neg hk,Jb1,Jb1];omega
theorem RelO.some_of {v:V}{o:Option Value}(r:RelO (some v) o):∃ u,o=some u/\RelV v u:=by
 cases o with
 | none=>exact (show False from r).elim
 | some u=>exact⟨u,rfl,r⟩
theorem RelO.none_of {o:Option Value}(r:RelO none o):o=none:=by
 cases o with
 | none=>rfl
 | some u=>exact (show False from r).elim
theorem Zqr {v:V}{u:Value}(r:RelV v u):PySem.W.handedIn u=true:=by
 cases v with
 | non=>cases (show u=Value.none from r);rfl
 | bl b=>cases (show u=Value.bool b from r);rfl
 | int i=>obtain⟨t,e⟩:=(show ∃ t,u=Value.int i t from r);cases e;rfl
 | str x=>obtain⟨t,e⟩:=(show ∃ t,u=Value.str x t from r);cases e;rfl
 | byt b=>obtain⟨t,e⟩:=(show ∃ t,u=Value.bytes b t from r);cases e;rfl
 | flt b=>obtain⟨t,e⟩:=(show ∃ t,u=Value.float b t from r);cases e;rfl
 | ref a=>cases (show u=Value.ref a from r);rfl
 | ty n=>cases (show u=Value.type n from r);rfl
section
variable {P:Program}{w:World}{H H':Hp}{h h':Heap}{a C dx:Addr}{fs fs':List (Str×V)}
theorem Zji (hok:HOk P w H h)(e:H a=some (.ins C dx fs)):∃ mA,ObjM h a dx C mA/\(∀ f,RelO (fs.lookup f) (mA f))/\PySem.Within mA (fs.map (·.1))/\fs.length<=1000/\H dx=some (.own a):=by
 refine Zdn (show ObjOk P w H h a (.ins C dx fs) from hok a _ e) λd z ne ob e9102=>?_;obtain⟨mA,n,r,q⟩:=e9102;exact⟨mA,⟨ob,n,ne⟩,r,q,z,d⟩
end
structure Cls (K:Frag)(C:Addr):Prop where
 pg:PySem.W.plainGet K C Str.empty=true
 hd:PySem.W.hasDictIn K C=true
 po:PySem.W.plainOver K C=true
 sa:PySem.W.findIn K (.ref C) "__setattr__" = some (some (.builtin "object.__setattr__"))
theorem Cls.get {K:Frag}{C:Addr}(c:Cls K C)(f:Str):PySem.W.plainGet K C f=true:=c.pg
def NoAttr (K:Frag)(C:Addr)(f:Str):Prop:=PySem.W.findIn K (.ref C) f=some none
theorem NoAttr.taker {K:Frag}{C:Addr}{f:Str}(n:NoAttr K C f):PySem.W.takerIn K C f=some none:=by
 unfold PySem.W.takerIn;rw[show PySem.W.findIn K (.ref C) f=some none from n];rfl
structure Con (K:Frag)(C:Addr)(f:Str)(v:V)(u:Value):Prop where
 at_:PySem.W.findIn K (.ref C) f=some (some u)
 rel:RelV v u
 get:PySem.W.specialIn K u "__get__" = some none
 cp:PySem.W.copiedNames.contains f=false
structure Meth (K:Frag)(C:Addr)(m:Str)(f:Addr):Prop where
 at_:PySem.W.findIn K (.ref C) m=some (some (.ref f))
 fn:PySem.W.isFn K (.ref f)=true
 kp:PySem.W.keepIn K (.ref f)=true
section
variable {X:Cx}{pins:List (Addr×Obj)}{σ:St}{H:Hp}{s:Shared}{a C dx:Addr}{fs:List (Str×V)}{f:Str}{v:V}{A:Around}{E:Value->Shared->Prop}
theorem Zn0 {b:Bool}{Q:Value->Shared->Prop}(I:Inv X pins σ H s)(e:H a=some (.ins C dx fs))(c:Cls X.K C)(n:NoAttr X.K C f)(l:fs.lookup f=some v)(h:∀ u s',Inv X pins σ H s'->RelV v u->Q u s'):wpAny (model X.prog X.w) A (getAttr (.ref a) f b) Q E s:=by
 refine Zod (Zji I.hok e) λmA O r _ _ _=>?_;obtain⟨u,hu,ru⟩:=RelO.some_of (v:=v) (o:=mA f) (by rw[<- l];exact r f);exact get_map I.kIn O (c.get f) c.hd n hu (Zqr ru) (h u _ (I.tok _) ru)
theorem Ziu {m:Str}{g:Addr}{pl:Sem Bool}{Q:Value×List Value->Shared->Prop}(I:Inv X pins σ H s)(e:H a=some (.ins C dx fs))(c:Cls X.K C)(k:Meth X.K C m g)(l:fs.lookup m=none)(h:Q (.ref g,[.ref a]) s):wpAny (model X.prog X.w) A (getMethod (.ref a) m pl) Q E s:=by
 refine Zod (Zji I.hok e) λmA O r _ _ _=>?_;have hn:mA m=none:=RelO.none_of (by rw[<- l];exact r m);exact Ztl I.kIn O (c.get m) k.at_ k.fn hn h
theorem Znn {y:V}{u:Value}{Q:Unit->Shared->Prop}(I:Inv X pins σ H s)(e:H a=some (.ins C dx fs))(c:Cls X.K C)(n:NoAttr X.K C f)(hl:fs.length<1000)(ry:RelV y u)(h:∀ s',Inv X pins σ (upd H a (.ins C dx (Zb7 f y fs))) s'->Q () s'):wpAny (model X.prog X.w) A (setAttr (.ref a) f u) Q E s:=by
 refine Zod (Zji I.hok e) λmA O r wi _ ho=>?_;have hz:(fs.map (·.1)).length<=sizeLine:=by rw[Jab,sizeLine_eq];omega
 refine set_map I.kIn O c.sa c.po n.taker c.hd wi hz λh' O' sb=>h _ ?_;have hd:∃ o,h'.get? dx=some o:=let ⟨o,_,_,e',_⟩:=O'.ns;⟨o,e'⟩;refine I.write (x:=a) (e:=dx) (by rw[e];exact True.intro) (.inr ho) (λb q hb z=>(sb.2 b hb).trans z) hd ?_;refine⟨by rw[Zah O.ne];exact ho,?_,O.ne,O'.obj,_,O'.ns,λg=>?_,λg hg=>?_⟩
 .have:=Zbx f y fs;omega
 .show RelO ((Zb7 f y fs).lookup g) (if g=f then some u else mA g);rw[Zav];by_cases q:g=f
  .rw [if_pos q,if_pos q];exact ry
  .rw [if_neg q,if_neg q];exact r g
 .by_cases q:g=f
  .rw [q];exact (Zhv f y fs).1
  .refine (Zhv f y fs).2 g (wi g λz=>hg ?_);show (if g=f then some u else mA g)=none;rw[if_neg q];exact z
theorem Inv.made (I:Inv X pins σ H s):Inv X pins σ (upd (upd H s.heap.objs.size (.own (s.heap.objs.size+1))) (s.heap.objs.size+1) (.ins C s.heap.objs.size []))
  { s with heap:=(s.heap.push PySem.W.emptyDict).push (PySem.W.instObj C s.heap.objs.size) }:=by
 have e1:(s.heap.push PySem.W.emptyDict).get? s.heap.objs.size=some PySem.W.emptyDict:=Jas s.heap rfl;have e2:((s.heap.push PySem.W.emptyDict).push (PySem.W.instObj C s.heap.objs.size)).get? (s.heap.objs.size+1)=some (PySem.W.instObj C s.heap.objs.size):=by
  have:=Jas (s.heap.push PySem.W.emptyDict) (o:=PySem.W.instObj C s.heap.objs.size) rfl;rwa [Jbt] at this
 have e3:(s.heap.push PySem.W.emptyDict).Ns s.heap.objs.size (λ_=>none):=⟨PySem.W.emptyDict,#[],_,e1,rfl,(λe he=>absurd he (by simp)),λ_=>rfl⟩
 have I1:=I.laid (a:=s.heap.objs.size) (o:=.own (s.heap.objs.size+1)) (h':=s.heap.push PySem.W.emptyDict) (t':=s.toks) (λb u q=>Jaj _ q) (Jah _) ⟨_,e1⟩;refine I1.laid (a:=s.heap.objs.size+1) (o:=.ins C s.heap.objs.size []) (t':=s.toks) (λb u q=>Jaj _ q) (Nat.le_of_eq (Jbt _ _)) ?_;have ne:s.heap.objs.size≠s.heap.objs.size+1:=Ja6 (Jd9 _);refine⟨by rw[Zah ne,Zab],Jcl _,ne,e2,λ_=>none,(Heap.Ns1.of_empty e3).at λo q=>Jaj _ q,λ_=>True.intro,λy hy=>absurd rfl hy⟩
theorem attr_of {prog:Program}{w:World}{env:Env}{e:Expr}{f:Str}{pos:Pos}{s:Shared}{Q:Value->Shared->Prop}(hb:attributeBase e f env (eval e env)=eval e env)(h:wpAny (model prog w) A (eval e env) (λo s₁=>wpAny (model prog w) A (getAttr o f true) Q E s₁) E s):wpAny (model prog w) A (eval (.Attribute e f pos) env) Q E s:=
 Attribute_any_ h (by rw[arm_eval_Attribute,hb])
end
def tFld (K:Frag)(ta:TE)(f:Str):TE:=λσ H Q=>ta σ H λx H1=>∃ a C dx fs v,x=.ref a/\H1 a=some (.ins C dx fs)/\Cls K C/\NoAttr K C f/\fs.lookup f=some v/\Q v H1
def sFld (K:Frag)(ta tv:TE)(f:Str):TS:=λD σ H=>tv σ H λy H1=>ta σ H1 λx H2=>∃ a C dx fs,x=.ref a/\H2 a=some (.ins C dx fs)/\Cls K C/\NoAttr K C f/\fs.length<1000 /\
 D.nx σ (upd H2 a (.ins C dx (Zb7 f y fs)))
section
variable {X:Cx}{o e value:Expr}{f:Str}{pos pos' tpos:Pos}{ta tv:TE}
theorem Zdh (he:PE X e ta)(hb:attributeBase e f X.env (eval e X.env)=eval e X.env):PE X (.Attribute e f pos) (tFld X.K ta f):=by
 intro pins s σ H Q I h;refine attr_of hb (thn (he pins s σ H _ I h) λu s1 ⟨x,H1,I1,rx,a,C,dx,fs,v,ex,ea,c,n,l,q⟩=>?_);subst ex;obtain rfl:u=Value.ref a:=rx;exact Zn0 I1 ea c n l λu' s2 I2 ru=>⟨v,H1,I2,ru,q⟩
theorem Zhr (ha:PE X o ta)(hv:PE X value tv)(hs:swapsWith value (some (.Attribute o f pos')) pos.line X.env=pure false):PS X (.Assign [.Attribute o f pos'] value pos) (sFld X.K ta tv f):=by
 intro pins s σ H D I h;refine plainObj_wpAny_Assign_Attribute (thn (hv pins s σ H _ I h) λu s1 ⟨y,H1,I1,ry,q⟩=>thn (ha pins s1 σ H1 _ I1 q) λov s2 ⟨x,H2,I2,rx,a,C,dx,fs,ex,ea,c,n,l,q2⟩=>?_) hs;subst ex;obtain rfl:ov=Value.ref a:=rx;exact Znn I2 ea c n l ry λs3 I3=>⟨σ,_,I3,q2⟩
theorem methcall_of {pl:Sem Bool}{m:Str}{apos:Pos}{args:List Expr}{pins:List (Addr×Obj)}{s:Shared}{σ:St}{H:Hp}{Q:Value->Shared->Prop}{te:TE}(he:PE X e te)(I:Inv X pins σ H s)(h:te σ H λx H1=>∃ a C dx fs g,x=.ref a/\H1 a=some (.ins C dx fs)/\Cls X.K C/\Meth X.K C m g/\fs.lookup m=none /\
   ∀ s1,Inv X pins σ H1 s1->wpAny (model X.prog X.w) X.A (callWith pos (.ref g) [.ref a] (backTo pos (starEach args X.env)) (backToKw pos (keywordEach [] X.env))) Q X.xe s1)(ht:eval (.Call (.Attribute e m apos) args [] pos) X.env=(do
   let ov <- eval e X.env
   standAt apos.atName
   let (f,first) <- holding [ov] (getMethod ov m pl)
   callWith pos f first (backTo pos (starEach args X.env)) (backToKw pos (keywordEach [] X.env)))):
  wpAny (model X.prog X.w) X.A (eval (.Call (.Attribute e m apos) args [] pos) X.env) Q X.xe s:=by
 refine PySem.W.methodCall_KW (pl:=pl) (thn (he pins s σ H _ I h) λu s1 ⟨x,H1,I1,rx,a,C,dx,fs,g,ex,ea,c,k,l,q⟩=>?_) ht;subst ex;obtain rfl:u=Value.ref a:=rx;exact Ziu I1 ea c k l (q s1 I1)
end
section
variable {X:Cx}{pins:List (Addr×Obj)}{σ:St}{H:Hp}{s:Shared}{A:Around}{E:Value->Shared->Prop}{Q:Value->Shared->Prop}{c:Value}{b:Bool}
inductive TyOf (K:Frag) (H:Hp):V->Value->Prop where
 | non:TyOf K H .non (.type "NoneType")
 | bl (x:Bool):TyOf K H (.bl x) (.type "bool")
 | int (i:Int):TyOf K H (.int i) (.type "int")
 | str (x:Str):TyOf K H (.str x) (.type "str")
 | flt (x:UInt64):TyOf K H (.flt x) (.type "float")
 | lst {a:Addr} {xs:List V} (e:H a=some (.lst xs)):TyOf K H (.ref a) (.type "list")
 | frz {a:Addr} {o:Obj} {xs:List V} (e:H a=some (.frz o (.lst xs))):TyOf K H (.ref a) (.type "list")
 | tup {a:Addr} {xs:List V} (e:H a=some (.tup xs)):TyOf K H (.ref a) (.type "tuple")
 | dK {a:Addr} {kvs:List (Key×V)} (e:H a=some (.dK kvs)):TyOf K H (.ref a) (.type "dict")
 | dT {a:Addr} {kvs:List (List Key×V)} (e:H a=some (.dT kvs)):TyOf K H (.ref a) (.type "dict")
 | ins {a C dx:Addr} {fs:List (Str×V)} (e:H a=some (.ins C dx fs)) (cl:Cls K C) (ha:PySem.W.findIn K (.ref C) "__class__" = some (some (.builtin "object.__class__")))
   (hn:PySem.W.specialIn K (.builtin "object.__class__") "__get__" = some (some (.builtin "getset_descriptor.__get__"))) (htk:PySem.W.takesIn K (.builtin "object.__class__")=some true)
   (hm:PySem.W.mroIn K C (.type "object")=some true):TyOf K H (.ref a) (.ref C)
theorem Zqg {x:V}{u t:Value}(I:Inv X pins σ H s)(rx:RelV x u)(ty:TyOf X.K H x t)(e:PySem.W.kitOne X.K t c=some b)(h:∀ tk,Q (.bool b) { s with toks:=tk }):
  wpAny (model X.prog X.w) A (call (.builtin "isinstance") [u,c]) Q E s:=by
 cases ty with
 | non=>cases (show u=Value.none from rx);exact Jbz PySem.W.kitx_none I.kIn True.intro e (λz=>nomatch z) h
 | bl y=>cases (show u=Value.bool y from rx);exact Jbz PySem.W.kitx_bool I.kIn True.intro e (λz=>nomatch z) h
 | int i=>obtain⟨t,q⟩:=(show ∃ t,u=Value.int i t from rx);cases q;exact Jbz PySem.W.kitx_int I.kIn True.intro e (λz=>nomatch z) h
 | str y=>obtain⟨t,q⟩:=(show ∃ t,u=Value.str y t from rx);cases q;exact Jbz PySem.W.kitx_str I.kIn True.intro e (λz=>nomatch z) h
 | flt y=>obtain⟨t,q⟩:=(show ∃ t,u=Value.float y t from rx);cases q;exact Jbz PySem.W.kitx_float I.kIn True.intro e (λz=>nomatch z) h
 | @lst a xs ea=>
  cases (show u=Value.ref a from rx);obtain⟨_,_,n,_,h1⟩:=(show ObjOk X.prog X.w H s.heap a (.lst xs) from I.hok a _ ea)
  exact Jbz PySem.W.kitx_list I.kIn ⟨_,h1,rfl⟩ e (λz=>nomatch z) h
 | @frz a ob xs ea=>
  cases (show u=Value.ref a from rx);obtain⟨_,_,_,n,_,h1⟩:=(show ObjOk X.prog X.w H s.heap a (.frz ob (.lst xs)) from I.hok a _ ea)
  exact Jbz PySem.W.kitx_list I.kIn ⟨_,h1,rfl⟩ e (λz=>nomatch z) h
 | @tup a xs ea=>
  cases (show u=Value.ref a from rx);obtain⟨_,_,_,p⟩:=(show ObjOk X.prog X.w H s.heap a (.tup xs) from I.hok a _ ea)
  refine Zal p λo h1 h2 _=>?_;clear p;exact Jbz PySem.W.kitx_tuple I.kIn ⟨o,h1,h2⟩ e (λz=>nomatch z) h
 | @dK a kvs ea=>
  cases (show u=Value.ref a from rx);refine Za2 (show ObjOk X.prog X.w H s.heap a (.dK kvs) from I.hok a _ ea) λ_ _ e9107=>?_;obtain⟨vs,_,p⟩:=e9107;refine Ziy p λo es ep h1 h2 _=>?_;clear p;exact Jbz PySem.W.kitx_dict I.kIn ⟨o,h1,h2.1⟩ e (λz=>nomatch z) h
 | @dT a kvs ea=>
  cases (show u=Value.ref a from rx);refine Za2 (show ObjOk X.prog X.w H s.heap a (.dT kvs) from I.hok a _ ea) λ_ _ e9108=>?_;obtain⟨xs,_,o,es,ep,h1,h2,_⟩:=e9108;exact Jbz PySem.W.kitx_dict I.kIn ⟨o,h1,h2.1⟩ e (λz=>nomatch z) h
 | @ins a C dx fs ea cl ha hn htk hm=>
  cases (show u=Value.ref a from rx);refine Zac (Zji I.hok ea) λmA O _=>?_;refine Zac O.look λod J _=>?_;exact Jbz (PySem.W.kitx_own (cl.get _) cl.hd ha hn htk hm) I.kIn J e (λz=>nomatch z) h
end
structure Room (k:Nat)(A:Around):Prop where
 hd:A.handled=none
 dp:A.depth+3*k+205<recursionLimit
 un:A.units+16*k+200<cLine
theorem Room.mono {j k:Nat}{A:Around}(r:Room k A)(h:j<=k):Room j A:=⟨r.hd,by have:=r.dp;omega,by have:=r.un;omega⟩
theorem Room.m {j k:Nat}{A:Around}(r:Room k A)(h:j<=k:=by decide):Room j A:=r.mono h
theorem Room.deeper {k:Nat}{A:Around}(r:Room (k+1) A)(env:Env):Room k (A.deeper env):=
 ⟨r.hd,by have:=r.dp;show A.depth+1+3*k+205<_;omega,by have:=r.un;show A.units+3+16*k+200<_;omega⟩
theorem Znv {A:Around}{C:Addr}{us:List Value}{kw:List (Str×Value)}:(A.under (.builtin "type.__call__" ⟨.ref C::us,kw⟩)).depth=A.depth+1:=by
 first|rfl|simp[Around.under,Code.weight,Code.isCreation,Code.isGuard,Code.isCaller,Code.frames,Code.isFrame,guardIds]
theorem Znu {A:Around}{C:Addr}{us:List Value}{kw:List (Str×Value)}:(A.under (.builtin "type.__call__" ⟨.ref C::us,kw⟩)).units=A.units+1:=by
 first|rfl|simp[Around.under,Code.cUnits,Code.frames,Code.isFrame]
theorem Room.make {k:Nat}{A:Around}(r:Room (k+1) A)(C:Addr)(us:List Value)(kw:List (Str×Value)):Room k (A.under (.builtin "type.__call__" ⟨.ref C::us,kw⟩)):=
 ⟨r.hd,by have:=r.dp;rw[Znv];omega,by have:=r.un;rw[Znu];omega⟩
theorem Room.depth {k:Nat}{A:Around}(r:Room k A):A.depth<recursionLimit:=by have:=r.dp;omega
theorem Room.units {k:Nat}{A:Around}(r:Room k A):A.units+64<cLine:=by have:=r.un;omega
def tNil:TA:=λ_ H Q=>Q [] H
def Zi1 (ta:TE)(tr:TA):TA:=λσ H Q=>ta σ H λx H1=>tr σ H1 λxs H2=>Q (x::xs) H2
section
variable {X:Cx}{e:Expr}{es:List Expr}{te:TE}{t:TA}{pos:Pos}
theorem Zaa:PA X [] tNil:=λ_ _ _ _ H Q I h=>Calls.spliced_nil ⟨[],H,I,.nil,h⟩
theorem pa_cons (ha:PE X e te)(hr:PA X es t)(hs:starEach (e::es) X.env=(false,eval e X.env)::starEach es X.env:=by rfl):PA X (e::es) (Zi1 te t):=by
 intro pos pins s σ H Q I h;rw[hs];show wpAny _ _ (spliced ((false,eval e X.env)::backTo pos (starEach es X.env))) _ _ s;refine Calls.spliced_cons (thn (ha pins s σ H _ I h) λu s1 ⟨x,H1,I1,r1,q1⟩=>?_);exact thn (hr pos pins s1 σ H1 _ I1 q1) λus s2 ⟨xs,H2,I2,r2,q2⟩=>⟨x::xs,H2,I2,.cons r1 r2,q2⟩
def tTup (t:TA):TE:=λσ H Q=>t σ H λxs H1=>xs.length<=sizeLine/\∀ p,H1 p=none->Q (.ref p) (upd H1 p (.tup xs))
def tLst (t:TA):TE:=λσ H Q=>t σ H λxs H1=>xs.length<=sizeLine/\∀ p,H1 p=none->Q (.ref p) (upd H1 p (.lst xs))
theorem Zbj {x1}(h:PA X es t):PE X (.Tuple es x1 pos) (tTup t):=by
 intro pins s σ H Q I hq;refine wpAny_Tuple_spliced (thn (h pos pins s σ H _ I hq) λus s1 ⟨xs,H1,I1,r,z,q⟩=>⟨by rw[<- r.length];exact z,?_⟩);have hf:H1 s1.heap.objs.size=none:=I1.hok.fresh (Jah _);refine Zat (.ref s1.heap.objs.size) (upd H1 s1.heap.objs.size (.tup xs)) ⟨I1.laid (t':=s1.toks) (λb u e=>Jaj _ e) (Jah _) ?_,rfl,q _ hf⟩;exact⟨z,us,r,⟨_,Jas _ rfl,rfl,_,rfl⟩⟩
theorem Za7 (h:PA X es t):PE X (.List es pos) (tLst t):=by
 intro pins s σ H Q I hq;refine wpAny_List_spliced (thn (h pos pins s σ H _ I hq) λus s1 ⟨xs,H1,I1,r,z,q⟩=>⟨by rw[<- r.length];exact z,?_⟩);have hf:H1 s1.heap.objs.size=none:=I1.hok.fresh (Jah _);refine Zat (.ref s1.heap.objs.size) (upd H1 s1.heap.objs.size (.lst xs)) ⟨I1.laid (t':=s1.toks) (λb u e=>Jaj _ e) (Jah _) ?_,rfl,q _ hf⟩;exact⟨z,us,0,r,Jas _ rfl⟩
end
abbrev Sp:=List V->Hp->VK->XK->Prop
abbrev CXT:=List Env->Hp->Shared->XK->Value->Shared->Prop
structure Env0 (P:Program)(w:World)(K:Frag)(mg:Str->Option Value)(base:Heap)(A:Around)(outer:List Env)(s:Shared)(H:Hp):Prop where
 frames:A.frames=some outer
 mod:Mod K mg base
 bs:∀ b o,base.get? b=some o->s.heap.get? b=some o/\H b=none
 bsz:base.objs.size<=s.heap.objs.size
 funs:s.heap.FunFrames base outer
 frf:∀ b∈frs outer,H b=none
 hok:HOk P w H s.heap
 bare:AllBare s.gens
def CE (outer:List Env)(P:Program)(w:World)(H:Hp)(s:Shared)(Q:VK)(u:Value)(s':Shared):Prop:=
 ∃ v H',s'.os=s.os/\AllBare s'.gens/\Un (frs outer) [] H H' s.heap s'.heap/\HOk P w H' s'.heap/\RelV v u/\Q v H'
def CR (CX:CXT)(outer:List Env)(P:Program)(w:World)(H:Hp)(s:Shared)(Q:VK)(E:XK)(r:Result)(s':Shared):Prop:=
 match r with
 | .ok (.ret u)=>CE outer P w H s Q u s'
 | .ok _=>False
 | .error e=>CX outer H s E e s'
structure FnOk (P:Program)(w:World)(K:Frag)(mg:Str->Option Value)(base:Heap)(CX:CXT)(k:Nat)(f:Addr)(fd:FuncData)(ps:List Str)(sp:Sp):Prop where
 len:∀ vs H Q E,sp vs H Q E->vs.length=ps.length
 run:∀ (A:Around) (outer:List Env) (s:Shared) (H:Hp) (args:Args) (us:List Value) (vs:List V) (Q:VK) (E:XK),Room k A->Env0 P w K mg base A outer s H->BindsTo s fd args (ps.zip us)->Vals vs us->sp vs H Q E->
  codeAny (model P w) A (.call (.ref f) args) (CR CX outer P w H s Q E) s
theorem FnOk.mono {P:Program}{w:World}{K:Frag}{mg:Str->Option Value}{base:Heap}{CX:CXT}{j k:Nat}{f:Addr}{fd:FuncData}{ps:List Str}{sp:Sp}(F:FnOk P w K mg base CX j f fd ps sp)(h:j<=k):
  FnOk P w K mg base CX k f fd ps sp:=⟨F.len,λA outer s H args us vs Q E hr=>F.run A outer s H args us vs Q E (hr.mono h)⟩
theorem Env0.make {P:Program}{w:World}{K:Frag}{mg:Str->Option Value}{base:Heap}{A:Around}{outer:List Env}{s:Shared}{H:Hp}(e:Env0 P w K mg base A outer s H)(C:Addr)(us:List Value)(kw:List (Str×Value)):
  Env0 P w K mg base (A.under (.builtin "type.__call__" ⟨.ref C::us,kw⟩)) outer s H:=⟨by first|exact e.frames|(simpa [Around.under,Code.envs,Code.isFrame,pushEnvs] using e.frames),e.mod,e.bs,e.bsz,e.funs,e.frf,e.hok,e.bare⟩
section
variable {X:Cx}{pins:List (Addr×Obj)}{σ:St}{H:Hp}{s s':Shared}
theorem Inv.env0 (I:Inv X pins σ H s):Env0 X.prog X.w X.K X.mg X.base X.A X.stack s H:=
 ⟨I.ok.frames,I.ok.mod,I.bs,Jbi I.ok.bsz I.sz,I.stack,I.stkFree,I.hok,I.bare⟩
theorem Inv.after {Q:VK}{u:Value}(I:Inv X pins σ H s)(h:CE X.stack X.prog X.w H s Q u s'):EP X pins σ Q u s':=by
 refine Zg2 h λv H' os bare un hok r q=>?_;clear h;obtain⟨hh,g,d,t,os'⟩:=s';obtain rfl:os'=s.os:=os;exact Zat v H' ⟨I.call (h':=hh) (g':=g) (d':=d) (t':=t) (ch:=[]) un hok bare (λb z=>absurd z (by simp)),r,q⟩
end
def Zon (sp:Sp)(dvs:List V)(E:XK)(t:TA):TE:=λσ H Q=>t σ H λvs H1=>sp (vs++dvs) H1 Q E
def Zol (C:Addr)(m:Str)(sp:Sp)(dvs:List V)(E:XK)(ta:TE)(t:TA):TE:=λσ H Q=>ta σ H λx H1=>∃ a dx fs,x=.ref a/\H1 a=some (.ins C dx fs)/\fs.lookup m=none /\
 t σ H1 λvs H2=>sp (x::(vs++dvs)) H2 Q E
def Zom (C:Addr)(sp:Sp)(dvs:List V)(E:XK)(t:TA):TE:=λσ H Q=>t σ H λvs H1=>∀ x dx,H1 x=none->H1 dx=none->dx≠x->
 sp (.ref x::(vs++dvs)) (upd (upd H1 dx (.own x)) x (.ins C dx [])) (λv H2=>v=.non/\Q (.ref x) H2) E
def Binds (K:Frag)(fd:FuncData)(ps:List Str)(ds:List Value):Prop:=
 ∀ (s:Shared) (us:List Value),K.In s.heap->(us++ds).length=ps.length->BindsTo s fd ⟨us,[]⟩ (ps.zip (us++ds))
theorem Binds.all {K:Frag}{fd:FuncData}{ps:List Str}(h:∀ us:List Value,us.length=ps.length->bindArgs fd ⟨us,[]⟩=pure (ps.zip us)):Binds K fd ps []:=λs us _ hl=>by
 rw[Jc7] at hl ⊢;exact .of_eq (h us hl)
def Ziw (CX:CXT)(X:Cx)(E:XK):Prop:=∀ (pins:List (Addr×Obj)) (σ:St) (H:Hp) (s:Shared) (e:Value) (s':Shared),Inv X pins σ H s->CX X.stack H s E e s'->X.xe e s'
section
variable {X:Cx}{CX:CXT}{k:Nat}{f C:Addr}{fd:FuncData}{ps:List Str}{sp:Sp}{dvs:List V}{ds:List Value}{E:XK}{x m:Str}{p pos apos:Pos}{e o:Expr}{es:List Expr}{ta:TE}{t:TA}
theorem Zul {pins:List (Addr×Obj)}{σ:St}{H:Hp}{s:Shared}{Q:VK}{us:List Value}{vs:List V}(F:FnOk X.prog X.w X.K X.mg X.base CX k f fd ps sp)(hr:Room k X.A)(hb:Binds X.K fd ps ds)(hd:Vals dvs ds)(hx:Ziw CX X E)(I:Inv X pins σ H s)(r:Vals vs us)(h:sp (vs++dvs) H Q E):wpAny (model X.prog X.w) X.A (call (.ref f) us) (EP X pins σ Q) X.xe s:=by
 have r2:Vals (vs++dvs) (us++ds):=r.append hd;have hl:(us++ds).length=ps.length:=by rw[<- r2.length];exact F.len _ _ _ _ h
 refine wpAny_call (codeAny_mono (F.run X.A X.stack s H ⟨us,[]⟩ (us++ds) (vs++dvs) Q E hr I.env0 (hb s us I.kIn hl) r2 h) λr s' hq=>?_);cases r with
 | error e=>exact hx pins σ H s e s' I hq
 | ok fl=>
  cases fl with
  | ret u=>exact I.after hq
  | next=>exact False.elim hq
  | brk=>exact False.elim hq
  | cont=>exact False.elim hq
theorem pe_call (F:FnOk X.prog X.w X.K X.mg X.base CX k f fd ps sp)(hr:Room k X.A)(hg:Gl X x)(hm:X.mg x=some (.ref f))(hk:PySem.W.keepIn X.K (.ref f)=true)(hb:Binds X.K fd ps ds)(hd:Vals dvs ds)(hx:Ziw CX X E)(ha:PA X (e::es) t)(hdb:(x == ("__debug__" : Str))=false:=by decide)(he:starEach (e::es) X.env=(false,eval e X.env)::starEach es X.env:=by rfl)(hpl:(backTo pos (starEach es X.env)).any (·.1)=false:=by rfl):
  PE X (.Call (.Name x p) (e::es) [] pos) (Zon sp dvs E t):=by
 intro pins s σ H Q I h;refine Jc4 (Zlv I hg hm ?_ hdb);refine Jen (h₀:=X.base) I.ok.mod.kin hk (thn (ha pos pins s σ H _ I h) λus s1 ⟨vs,H1,I1,r,q⟩=>⟨I1.kIn,?_⟩) he hpl;exact Zul F hr hb hd hx I1 r q
theorem Zpo {pl:Sem Bool}(he:PE X o ta)(c:Cls X.K C)(hm:Meth X.K C m f)(F:FnOk X.prog X.w X.K X.mg X.base CX k f fd ps sp)(hr:Room k X.A)(hb:Binds X.K fd ps ds)(hd:Vals dvs ds)(hx:Ziw CX X E)(ha:PA X (e::es) t)(hst:starEach (e::es) X.env=(false,eval e X.env)::starEach es X.env:=by rfl)(hpl:(backTo pos (starEach es X.env)).any (·.1)=false:=by rfl)(ht:eval (.Call (.Attribute o m apos) (e::es) [] pos) X.env=(do
   let ov <- eval o X.env
   standAt apos.atName
   let (f,first) <- holding [ov] (getMethod ov m pl)
   callWith pos f first (backTo pos (starEach (e::es) X.env)) (backToKw pos (keywordEach [] X.env))):=by rfl):
  PE X (.Call (.Attribute o m apos) (e::es) [] pos) (Zol C m sp dvs E ta t):=by
 intro pins s σ H Q I h;refine PySem.W.methodCall_KW (pl:=pl) (thn (he pins s σ H _ I h) λu s1 ⟨x,H1,I1,rx,a,dx,fs,ex,ea,l,q⟩=>?_) ht;subst ex;obtain rfl:u=Value.ref a:=rx;refine Ziu I1 ea c hm l ?_;refine Jen (first:=[.ref a]) (h₀:=X.base) I.ok.mod.kin hm.kp (thn (ha pos pins s1 σ H1 _ I1 q) λus s2 ⟨vs,H2,I2,r,q2⟩=>⟨I2.kIn,?_⟩) hst hpl;exact Zul (us:=.ref a::us) (vs:=.ref a::vs) F hr hb hd hx I2 (.cons rfl r) q2
structure Mk (K:Frag)(C f:Addr):Prop where
 makes:PySem.W.makesIn K C=true
 init:PySem.W.findIn K (.ref C) "__init__" = some (some (.ref f))
 fn:PySem.W.isFn K (.ref f)=true
 kp:PySem.W.keepIn K (.ref C)=true
theorem Zsc {pins:List (Addr×Obj)}{σ:St}{H:Hp}{s:Shared}{Q:VK}{us:List Value}{vs:List V}(M:Mk X.K C f)(F:FnOk X.prog X.w X.K X.mg X.base CX k f fd ps sp)(hr:Room (k+1) X.A)(hb:Binds X.K fd ps ds)(hd:Vals dvs ds)(hx:Ziw CX X E)(I:Inv X pins σ H s)(r:Vals vs us)(h:∀ x dx,H x=none->H dx=none->dx≠x->sp (.ref x::(vs++dvs)) (upd (upd H dx (.own x)) x (.ins C dx [])) (λv H2=>v=.non/\Q (.ref x) H2) E):
  wpAny (model X.prog X.w) X.A (call (.ref C) us) (EP X pins σ Q) X.xe s:=by
 have hq:=h (s.heap.objs.size+1) s.heap.objs.size (I.hok.fresh (Nat.le_succ _)) (I.hok.fresh (Jah _)) (Ja6 (Jd9 _));have I2:=Inv.made (C:=C) I;have r2:Vals (V.ref (s.heap.objs.size+1)::(vs++dvs)) (Value.ref (s.heap.objs.size+1)::(us++ds)):=.cons rfl (r.append hd);have hl:(Value.ref (s.heap.objs.size+1)::us++ds).length=ps.length:=by
  have e:=r2.length;rw[F.len _ _ _ _ hq] at e;exact e.symm
 refine wpAny_call (Zte (f:=f) I.kIn M.makes M.init (Jbj.mp M.fn) (codeAny_mono (F.run _ X.stack _ _ ⟨Value.ref (s.heap.objs.size+1)::us,[]⟩ (Value.ref (s.heap.objs.size+1)::(us++ds)) _ _ E (hr.make C us [])
  (I2.env0.make C us []) (hb _ (Value.ref (s.heap.objs.size+1)::us) I2.kIn hl) r2 hq) λr s' hq'=>?_))
 cases r with
 | error e=>exact hx pins σ _ _ e s' I2 hq'
 | ok fl=>
  cases fl with
  | ret u=>
   refine Zgs (I2.after hq') λv H' I3 rv ev q3=>?_;subst ev;exact⟨rv,⟨V.ref (s.heap.objs.size+1),H',I3,rfl,q3⟩⟩
  | next=>exact False.elim hq'
  | brk=>exact False.elim hq'
  | cont=>exact False.elim hq'
theorem pe_make (M:Mk X.K C f)(F:FnOk X.prog X.w X.K X.mg X.base CX k f fd ps sp)(hr:Room (k+1) X.A)(hg:Gl X x)(hm:X.mg x=some (.ref C))(hb:Binds X.K fd ps ds)(hd:Vals dvs ds)(hx:Ziw CX X E)(ha:PA X (e::es) t)(hdb:(x == ("__debug__" : Str))=false:=by decide)(he:starEach (e::es) X.env=(false,eval e X.env)::starEach es X.env:=by rfl)(hpl:(backTo pos (starEach es X.env)).any (·.1)=false:=by rfl):
  PE X (.Call (.Name x p) (e::es) [] pos) (Zom C sp dvs E t):=by
 intro pins s σ H Q I h;refine Jc4 (Zlv I hg hm ?_ hdb);refine Jen (h₀:=X.base) I.ok.mod.kin M.kp (thn (ha pos pins s σ H _ I h) λus s1 ⟨vs,H1,I1,r,q⟩=>⟨I1.kIn,?_⟩) he hpl;exact Zsc M F hr hb hd hx I1 r q
end
section
variable {X:Cx}{CX:CXT}{k:Nat}{f C:Addr}{fd:FuncData}{ps ks:List Str}{sp:Sp}{E:XK}{x m:Str}{p pos apos kpos:Pos}{e o:Expr}{es:List Expr}{kws:List Keyword}{te ta:TE}{t tk:TA}{nm:Option Str}
structure KBinds (K:Frag)(fd:FuncData)(ps ks:List Str)(g:List Value->List Value->List Value)(gV:List V->List V->List V):Prop where
 to:∀ (s:Shared) (us ws:List Value),K.In s.heap->(g us ws).length=ps.length->BindsTo s fd ⟨us,ks.zip ws⟩ (ps.zip (g us ws))
 rel:∀ {vs:List V} {us:List Value} {zs:List V} {ws:List Value},Vals vs us->Vals zs ws->Vals (gV vs zs) (g us ws)
variable {g:List Value->List Value->List Value}{gV:List V->List V->List V}
end
structure FnScope (N P:List Str)(sc:Scope):Prop where
 kind:sc.kind=.function
 co:sc.isCoroutine=false
 gen:sc.isGenerator=false
 nd:N.Nodup
 pre:N.take P.length=P
 par:∀ x∈P,sc.names.lookup x=some .local\/sc.names.lookup x=some .cell
 nofree:∀ y∈sc.names,y.2≠.free
theorem Zku {kindOf:Str->Option NameKind}{x:Str}:∀ {binds:List (Str×Value)} {m:Str->Option Value},(∀ v,(x,v)∉binds)->bindL kindOf binds m x=m x
 | [],_,_=>rfl
 | (n,v)::r,m,h=>by
  unfold bindL;rw[Zku λw hw=>h w (Jbn _ hw)];split
  .have:x≠n:=by rintro rfl;exact h v Jb5
   simp[this]
  .rfl
theorem Zkw {kindOf:Str->Option NameKind}{x:Str}:∀ {binds:List (Str×Value)} {m:Str->Option Value},(∀ v,(x,v)∉binds)->bindC kindOf binds m x=m x
 | [],_,_=>rfl
 | (n,v)::r,m,h=>by
  unfold bindC;rw[Zkw λw hw=>h w (Jbn _ hw)];split
  .rfl
  .have:x≠n:=by rintro rfl;exact h v Jb5
   simp[this]
theorem Zkv {kindOf:Str->Option NameKind}{x:Str}{v:Value}:∀ {P:List Str} {vs:List Value} {i:Nat} {m:Str->Option Value},P.Nodup->P[i]?=some x->vs[i]?=some v->kindOf x=some .local->
  bindL kindOf (P.zip vs) m x=some v
 | [],_,_,_,_,h,_,_=>by simp at h
 | _::_,[],_,_,_,_,h,_=>by simp at h
 | p::P,w::vs,0,m,nd,h1,h2,hk=>by
  simp at h1 h2;subst h1;subst h2;show bindL kindOf ((p,w)::P.zip vs) m p=_;unfold bindL;rw[Zku λv hv=>(Jei.mp nd).1 (List.of_mem_zip hv).1,if_pos hk];simp
 | p::P,w::vs,i+1,m,nd,h1,h2,hk=>by
  show bindL kindOf ((p,w)::P.zip vs) m x=_;unfold bindL;exact Zkv (i:=i) (Jei.mp nd).2 (by simpa using h1) (by simpa using h2) hk
theorem Zkx {kindOf:Str->Option NameKind}{x:Str}{v:Value}:∀ {P:List Str} {vs:List Value} {i:Nat} {m:Str->Option Value},P.Nodup->P[i]?=some x->vs[i]?=some v->kindOf x≠some .local->
  bindC kindOf (P.zip vs) m x=some v
 | [],_,_,_,_,h,_,_=>by simp at h
 | _::_,[],_,_,_,_,h,_=>by simp at h
 | p::P,w::vs,0,m,nd,h1,h2,hk=>by
  simp at h1 h2;subst h1;subst h2;show bindC kindOf ((p,w)::P.zip vs) m p=_;unfold bindC;rw[Zkw λv hv=>(Jei.mp nd).1 (List.of_mem_zip hv).1,if_neg hk];simp
 | p::P,w::vs,i+1,m,nd,h1,h2,hk=>by
  show bindC kindOf ((p,w)::P.zip vs) m x=_;unfold bindC;exact Zkx (i:=i) (Jei.mp nd).2 (by simpa using h1) (by simpa using h2) hk
def start (N:List Str)(vs:List V):St:=vs.map some++List.replicate (N.length-vs.length) none
def Ztv (CX:CXT)(P:Program)(w:World)(K:Frag)(mg:Str->Option Value)(base:Heap)(N:List Str)(qual:Str)(scope:Scope)(f:Addr)(cd:Value)(A:Around)(outer:List Env)(s:Shared)(H:Hp)(E:XK):Cx where
 prog:=P
 w:=w
 K:=K
 mg:=mg
 base:=base
 A:=A.deeper (envOfC qual scope s.heap.objs.size f cd)
 N:=N
 s₀:=s
 H₀:=H
 env:=envOfC qual scope s.heap.objs.size f cd
 outer:=outer
 stack:=envOfC qual scope s.heap.objs.size f cd::outer
 ex:=[]
 calm:=true
 fn:=λ_=>true
 pn:=[]
 xe:=λe s'=>wpAny (model P w) (A.deeper (envOfC qual scope s.heap.objs.size f cd)) (leaving (envOfC qual scope s.heap.objs.size f cd) e) (λ_ s''=>CX outer H s E e s'') (λe' s''=>CX outer H s E e' s'') s'
theorem Zne {sc:Scope}{n:Nat}{x:Str}(h:sc.names.lookup x=some .cell):∃ c,(cellsFrom n sc.names []).lookup x=some c:=by
 have q:=Jc3 sc.names n [] (.inl h);exact Jdo.mp q
theorem Zqk {CX:CXT}{P:Program}{w:World}{K:Frag}{mg:Str->Option Value}{base:Heap}{N ps:List Str}{qual:Str}{scope:Scope}{f:Addr}{cd:Value}{A:Around}{outer:List Env}{s s1:Shared}{H:Hp}{E:XK}{us:List Value}{vs:List V}(S:FnScope N ps scope)(hd:A.handled=none)(e0:Env0 P w K mg base A outer s H)(hl:vs.length=ps.length)(r:Vals vs us)(x:InCallC s s.heap.objs.size (bindL (envOfC qual scope s.heap.objs.size f cd).kindOf (ps.zip us) λ_=>none) (cellsFrom (s.heap.objs.size+1) scope.names []) (bindC (envOfC qual scope s.heap.objs.size f cd).kindOf (ps.zip us) λ_=>none) s1):
  Inv (Ztv CX P w K mg base N qual scope f cd A outer s H E) [] (start N vs) H s1:=by
 have hpl:ps.length<=N.length:=by have:=Jdb List.length S.pre;rw[Jbg] at this;omega
 refine Zbd x.done λh1 tk e9109 hk=>?_;obtain rfl:=e9109;have noA:∀ b:Addr,b∉(Ztv CX P w K mg base N qual scope f cd A outer s H E).ex:=λb z=>absurd (show b∈([]:List Addr) from z) (by simp);refine⟨⟨e0.mod,S.kind,rfl,rfl,Jah _,λy z c h1 h2=>?_,λy hy=>?_,λy c _ h=>?_,λ_=>hd,Around.frames_deeper e0.frames,.inr ⟨rfl,rfl⟩,λb z=>absurd z (noA b),e0.bs,e0.bsz,λb _ _=>noA b,λb z=>absurd z (noA b),e0.funs,e0.frf,⟨_,_,rfl,S.gen,S.co,rfl,rfl⟩⟩,
  rfl,e0.bare,Un.kept hk,⟨_,x.toInCall.ns,λi y v h1 h2 h3=>?_⟩,λy c h=>⟨_,x.cell y c h⟩,e0.hok.fresh (Jah _),λy c h=>?_,λp hp=>absurd (show p∈([]:List (Addr×Obj)) from hp) (by simp),e0.hok.kept hk,?_⟩
 .exact name_of_addr x.apart (Jbc h1) (Jbc h2)
 .have hy:scope.names.lookup y=some .cell\/scope.names.lookup y=some .free:=hy;rcases hy with hy|hy
  .exact Zne hy
  .exact absurd rfl (S.nofree _ (Jbc hy))
 .exact Jbw (x.above y c (Jbc h))
 .have hi:i<vs.length:=by
   unfold start at h2;by_cases hi:i<vs.length
   .exact hi
   .rw [Jaw (by simpa using hi)] at h2;rw[Jce] at h2;split at h2 <;> cases h2
  have ha:vs[i]?=some v:=by
   unfold start at h2;rw[Jax (by simpa using hi),Jac] at h2;cases e:vs[i]? with
   | none=>rw[e] at h2;cases h2
   | some a=>rw[e] at h2;cases h2;rfl
  refine Zac (r.get ha) λu hu rv=>?_;have hp:ps[i]?=some y:=by
   rw[<- S.pre,Jdp ∅];exact h1
  have ndP:ps.Nodup:=by rw[<- S.pre];exact S.nd.sublist (List.take_sublist _ _)
  refine⟨u,rv,?_⟩;rcases S.par y (Jae hp) with k|k
  .exact .inl ⟨k,Zkv ndP hp hu k⟩
  .obtain ⟨c,e⟩:=Zne (n:=s.heap.objs.size+1) k;refine .inr ⟨.inl k,c,e,?_⟩;have q:=x.cell y c e;rw[Zkx ndP hp hu (by show scope.names.lookup y≠_;rw[k];decide)] at q;exact q
 .exact e0.hok.fresh (Jbw (x.above y c (Jbc h)))
 .unfold start;show _=N.length;rw[Jam,Jab,Jbp];omega
theorem fn_of {CX:CXT}{P:Program}{w:World}{K:Frag}{mg:Str->Option Value}{base:Heap}{k:Nat}{f:Addr}{name qual:Str}{params:Arguments}{body:List Stmt}{scope:Scope}{dV kV doc pm cdv ct oc:Value}{an od:Option Addr}{osl:Array (Option Value)}{N ps:List Str}{sp:Sp}(lk:K.lookup f=some ⟨oc,od,.func (PySem.W.fnOf name qual params body scope dV kV doc pm an cdv ct),osl⟩)(hcd:PySem.W.codeIn K cdv qual=true)(S:FnScope N ps scope)(len:∀ vs H Q E,sp vs H Q E->vs.length=ps.length)(hbody:∀ (A:Around) (outer:List Env) (s:Shared) (H:Hp) (vs:List V) (Q:VK) (E:XK),Room k (A.deeper (envOfC qual scope s.heap.objs.size f cdv))->sp vs H Q E->
   ∃ t,PSs (Ztv CX P w K mg base N qual scope f cdv A outer s H E) body t/\t { nx:=λ_ H'=>Q .non H',rt:=Q } (start N vs) H):
  FnOk P w K mg base CX (k+1) f (PySem.W.fnOf name qual params body scope dV kV doc pm an cdv ct) ps sp:=by
 refine⟨len,λA outer s H args us vs Q E hr e0 hb r hsp=>?_⟩;have hl:=len _ _ _ _ hsp;have KX:K.In s.heap:=e0.mod.kin.keeps λb o e=>(e0.bs b o e).1;have lim:s.heap.NoLimit:=e0.mod.nolimit.keeps λb o e=>(e0.bs b o e).1;have hkind:∀ y∈ps.zip us,scope.names.lookup y.1=some .local\/(scope.names.lookup y.1=some .cell/\((cellsFrom (s.heap.objs.size+1) scope.names []).lookup y.1).isSome=true):=λ⟨n,v⟩ hy=>by
  rcases S.par n (List.of_mem_zip hy).1 with q|q
  .exact .inl q
  .exact .inr ⟨q,Jc3 _ _ _ (.inl q)⟩
 refine codeAny_call_function hr.depth (KX _ _ lk) rfl S.co S.gen rfl (PySem.W.codeRec_of KX hcd) (hb _ _ _ _ ?_);refine wpAny_newFunctionEnv_cells S.kind hkind λenv he s1 x=>?_;subst he;refine⟨lim.keeps x.toInCall.keep,codeAny_func ?_⟩;refine Zac (hbody A outer s H vs Q E (hr.deeper _) hsp) λt ht hq=>?_;have I:Inv (Ztv CX P w K mg base N qual scope f cdv A outer s H E) [] (start N vs) H s1:=Zqk S hr.hd e0 hl r x;refine Jcj (ht [] s1 (start N vs) H _ I hq) (λfl s' hs=>?_) λe s' hs=>hs;have fin:∀ {σ':St} {H':Hp} {v:V} {u:Value},Inv (Ztv CX P w K mg base N qual scope f cdv A outer s H E) [] σ' H' s'->RelV v u->Q v H'->CE outer P w H s Q u s':=
  λ{σ' H' v u} J rv q=>⟨v,H',J.os,J.bare,J.base,J.hok,rv,q⟩
 cases fl with
 | ret u=>
  refine Ziy hs λv σ' H' J rv q=>?_;clear hs;exact fin J rv q
 | next=>
  refine Zbd hs λσ' H' J q=>?_;clear hs;exact fin (v:=V.non) (u:=Value.none) J rfl q
 | brk=>
  refine Zbd hs λ_ _ _ q=>?_;clear hs;exact False.elim q
 | cont=>
  refine Zbd hs λ_ _ _ q=>?_;clear hs;exact False.elim q
section
variable {X:Cx}{x:Str}{p pos:Pos}{e:Expr}{es:List Expr}{t:TA}{id T:String}{r:List V->Hp->VK->Prop}
def tCB (r:List V->Hp->VK->Prop)(t:TA):TE:=λσ H Q=>t σ H λvs H1=>r vs H1 Q
theorem Zsi (hc:Zga X (.builtin id) r)(hg:Gl X x)(hm:X.mg x=none)(hv:bootBuiltins x=some (.builtin id))(ha:PA X (e::es) t)(hn:x ≠ "__name__" := by decide)(hdb:(x == ("__debug__" : Str))=false:=by decide)(he:starEach (e::es) X.env=(false,eval e X.env)::starEach es X.env:=by rfl)(hpl:(backTo pos (starEach es X.env)).any (·.1)=false:=by rfl):PE X (.Call (.Name x p) (e::es) [] pos) (tCB r t):=by
 intro pins s σ H Q I h;refine Jc4 (Zfk I hg hm hv ?_ hn hdb);exact PyProof.Rows.callWith_builtin1 (thn (ha pos pins s σ H _ I h) λus s1 ⟨vs,H1,I1,r1,q1⟩=>hc pins s1 σ H1 vs us Q I1 r1 q1) he hpl
theorem Zpr (hc:Zga X (.type T) r)(hg:Gl X x)(hm:X.mg x=none)(hv:bootBuiltins x=some (.type T))(ha:PA X (e::es) t)(hn:x ≠ "__name__" := by decide)(hdb:(x == ("__debug__" : Str))=false:=by decide)(he:starEach (e::es) X.env=(false,eval e X.env)::starEach es X.env:=by rfl)(hpl:(backTo pos (starEach es X.env)).any (·.1)=false:=by rfl):PE X (.Call (.Name x p) (e::es) [] pos) (tCB r t):=by
 intro pins s σ H Q I h;refine Jc4 (Zfk I hg hm hv ?_ hn hdb);exact Jbx (thn (ha pos pins s σ H _ I h) λus s1 ⟨vs,H1,I1,r1,q1⟩=>hc pins s1 σ H1 vs us Q I1 r1 q1) he hpl
end
end L2
namespace HT
open PySem PyProof.Rows
section
open PySem.SeqAt
open PySem.AutoSeq1 (wpAny_loadPart')
open PySem.MeetsSeq PySem.MeetsSeq2 PySem.MeetsSeq3
end
section
variable {prog:Program}{w:World}{A:Around}{E:Value->Shared->Prop}{s:Shared}
def sIx (n d:Nat):Option Int->Nat
 | none=>d
 | some v=>if v<0 then (v+(n:Int)).toNat else min v.toNat n
end
end HT
namespace L2
open PySem PySem.Spec PyProof.Rows
abbrev TO:=St->Hp->(Option Int->Hp->Prop)->Prop
def PO (X:Cx)(e:Option Expr)(t:TO):Prop:=
 ∀ (pins:List (Addr×Obj)) (s:Shared) (σ:St) (H:Hp) (Q:Option Int->Hp->Prop),Inv X pins σ H s->t σ H Q->
  wpAny (model X.prog X.w) X.A (evalPart e X.env) (λu s'=>∃ o H',Inv X pins σ H' s'/\IsPart u o/\Q o H') X.xe s
def Zok:TO:=λ_ H Q=>Q none H
def tPart (t:TE):TO:=λσ H Q=>t σ H λx H1=>∃ i,x=.int i/\Q (some i) H1
section
variable {X:Cx}{e:Expr}{te:TE}{lo hi:Option Expr}{tl th:TO}{pos p2:Pos}
theorem Zja (h:PE X e te):PO X (some e) (tPart te):=by
 intro pins s σ H Q I hw;rw[evalPart_some];refine thn (h pins s σ H _ I hw) λu s1 ⟨x,H1,I1,r1,q1⟩=>?_;refine Zac q1 λi e9110 q=>?_;clear q1;obtain rfl:=e9110;obtain⟨t,rfl⟩:=r1;exact Zat (some i) H1 ⟨I1,.int i t,q⟩
def SlR (X:Cx)(r:V->Option Int->Option Int->Hp->VK->Prop):Prop:=
 ∀ (pins:List (Addr×Obj)) (s:Shared) (σ:St) (H:Hp) (x:V) (v vl vu:Value) (lo hi:Option Int) (sl:Addr) (Q:VK),Inv X pins σ H s->RelV x v->s.heap.IsSliceOf sl vl vu .none->IsPart vl lo->IsPart vu hi->r x lo hi H Q->
  ∃ T id,typeLookup (.type T) "__getitem__" = pure (some (.builtin id))/\s.TypeIs v T/\wpAny (model X.prog X.w) X.A (getItem v (.ref sl)) (EP X pins σ Q) X.xe s
def tSl (r:V->Option Int->Option Int->Hp->VK->Prop)(te:TE)(tl th:TO):TE:=λσ H Q=>te σ H λx H1=>tl σ H1 λl H2=>th σ H2 λu H3=>r x l u H3 Q
theorem Zms {r:V->Option Int->Option Int->Hp->VK->Prop}(hr:SlR X r)(he:PE X e te)(hl:PO X lo tl)(hu:PO X hi th):PE X (.Subscript e (.Slice lo hi none p2) pos) (tSl r te tl th):=by
 intro pins s σ H Q I h;refine Subscript_ (thn (he pins s σ H _ I h) λv s1 ⟨x,H1,I1,r1,q1⟩=>?_);refine wpAny_Slice (thn (hl pins s1 σ H1 _ I1 q1) λvl s2 ⟨l,H2,I2,pl,q2⟩=>thn (hu pins s2 σ H2 _ I2 q2) λvu s3 ⟨u,H3,I3,pu,q3⟩=>?_);rw[evalPart_none];refine Ja2 ?_;have I4:Inv X pins σ H3 { s3 with heap:=s3.heap.push { cls:=.type "slice",data:=.fields #[vl,vu,.none] } }:=I3.kept (t':=s3.toks) λb ob q=>Jaj _ q;refine Zca (hr pins { s3 with heap:=s3.heap.push { cls:=.type "slice",data:=.fields #[vl,vu,.none] } } σ H3 x v vl vu l u s3.heap.objs.size Q I4 r1 (Heap.IsSliceOf.new ..) pl pu q3) λT id hT ht hg=>?_;show wpAny (model X.prog X.w) X.A (subscriptTail e (.Slice lo hi none p2) v (.ref s3.heap.objs.size)) (EP X pins σ Q) X.xe { s3 with heap:=s3.heap.push { cls:=.type "slice",data:=.fields #[vl,vu,.none] } };exact tail_any (ops:=[.ref s3.heap.objs.size,v]) ht hT hg (by with_unfolding_all rfl)
def Zty (xs:List V)(lo hi:Option Int):List V:=(xs.drop (HT.sIx xs.length 0 lo)).take (HT.sIx xs.length xs.length hi-HT.sIx xs.length 0 lo)
theorem Zlz (xs:List V)(lo hi:Option Int):(Zty xs lo hi).length<=xs.length:=by
 unfold Zty;rw[Jbg,Jcy];omega
end
def ixN (n:Nat)(i:Int):Option Nat:=if 0<=i then (if i<n then some i.toNat else none) else if -(n:Int)<=i then some (i+n).toNat else none
def atI {α:Type}(xs:List α)(i:Int):Option α:=(ixN xs.length i).bind λj=>xs[j]?
theorem Zqe {n:Nat}{i:Int}{j:Nat}(h:ixN n i=some j):seqIndex? i n=some j/\j<n/\-(n:Int)<=i/\i<n:=by
 unfold ixN at h;by_cases h0:0<=i
 .rw [if_pos h0] at h;by_cases h1:i<n
  .rw [if_pos h1] at h;have e:i.toNat=j:=Ja7 h;exact⟨by rw[seqIndex_of h0 h1,e],∅,∅,h1⟩
  .rw [if_neg h1] at h;cases h
 .rw [if_neg h0] at h;by_cases h1:-(n:Int)<=i
  .rw [if_pos h1] at h;have e:(i+n).toNat=j:=Ja7 h;exact⟨by rw[seqIndex_neg ∅ h1,e],∅,h1,∅⟩
  .rw [if_neg h1] at h;cases h
theorem Zrg {α:Type}{xs:List α}{i:Int}{v:α}(h:atI xs i=some v):∃ j,seqIndex? i xs.length=some j/\xs[j]?=some v/\j<xs.length/\-(xs.length:Int)<=i/\i<xs.length:=by
 unfold atI at h;cases e:ixN xs.length i with
 | none=>rw[e] at h;cases h
 | some j=>
  rw[e] at h;refine Zch (Zqe e) λh1 h2 h3 h4=>?_;exact⟨j,h1,h,h2,h3,h4⟩
theorem atI_nat {α:Type}{xs:List α}{j:Nat}{v:α}(h:xs[j]?=some v):atI xs (j:Int)=some v:=by
 have hj:j<xs.length:=(Jaf.mp h).1;have e:ixN xs.length (j:Int)=some j:=by
  unfold ixN;rw[if_pos ∅,if_pos ∅];simp
 unfold atI;rw[e];exact h
def PlainIx (b:Expr):Prop:=∀ o i,subscripted b false o i=operate [o,i] (getItem o i)
def IxR (X:Cx)(r:R2):Prop:=
 ∀ (value slice:Expr) (pins:List (Addr×Obj)) (s:Shared) (σ:St) (H:Hp) (x y:V) (v u:Value) (Q:VK),Inv X pins σ H s->RelV x v->RelV y u->r x y H Q->
  subscripted slice false v u=operate [v,u] (getItem v u)->wpAny (model X.prog X.w) X.A (subscriptTail value slice v u) (EP X pins σ Q) X.xe s
def MtR (X:Cx)(id:String)(r:V->List V->Hp->VK->Prop):Prop:=
 ∀ (pins:List (Addr×Obj)) (s:Shared) (σ:St) (H:Hp) (x:V) (xs:List V) (v:Value) (us:List Value) (Q:VK),Inv X pins σ H s->RelV x v->Vals xs us->r x xs H Q->
  wpAny (model X.prog X.w) X.A (call (.builtin id) (v::us)) (EP X pins σ Q) X.xe s
section
variable {X:Cx}{a b:Expr}{ta tb:TE}{pos:Pos}
theorem pe_ix {r:R2}(hr:IxR X r)(ha:PE X a ta)(hb:PE X b tb)(hs:PlainIx b):PE X (.Subscript a b pos) (tOp r ta tb):=by
 intro pins s σ H Q I h;exact Subscript_ (binT ha hb I h λv u s2 x y H2 I2 rx ry q=>hr a b pins s2 σ H2 x y v u Q I2 rx ry q (hs _ _))
def rIxL (K:Frag):R2:=λx y H Q=>∃ p xs i v,x=.ref p/\y=.int i/\SqL K H p xs/\atI xs i=some v/\Q v H
def rIxT (K:Frag):R2:=λx y H Q=>∃ p xs i v,x=.ref p/\y=.int i/\SqT K H p xs/\atI xs i=some v/\Q v H
theorem Zbg:IxR X (rIxL X.K):=by
 intro value slice pins s σ H x y v u Q I rx ry h hs;refine Zcd h λp xs i z e9120 e9121 hq e9122=>?_;clear h;obtain rfl:=e9120;obtain rfl:=e9121;obtain⟨he,q⟩:=e9122;cases rx;obtain⟨t,rfl⟩:=ry;refine Zal (I.list hq) λits r pl hz=>?_;refine Zod (Zrg he) λj h1 h2 h3 h4 h5=>?_;refine Zac (r.get h2) λw ew rw'=>?_;have hl:=r.length;have hn:=Zke;have fin:EP X pins σ Q w s:=⟨z,H,I,rw',q⟩
 by_cases h0:0<=i
 .have hj:i.toNat=j:=by
   rw[seqIndex_of h0 h5] at h1;exact Ja7 h1
  exact item_listR pl.isList h0 ∅ (by rw[hj];simpa using ew) fin hs
 .have hj:(i+(its.toArray.size:Int)).toNat=j:=by
   rw[seqIndex_neg ∅ h4] at h1;rw[Jap,<- hl];exact Ja7 h1
  exact subscriptTail_builtinR (x:=w) pl.isList.typeIs slot_list_getitem.lookup
   (wpAny_getItem_list_neg (Q:=λr s'=>r=w/\EP X pins σ Q r s') pl.isList ∅ (by rw[Jap] <;> omega) ∅ (by rw[hj];simpa using ew) ⟨rfl,fin⟩) hs
theorem Zbk:IxR X (rIxT X.K):=by
 intro value slice pins s σ H x y v u Q I rx ry h hs;refine Zcd h λp xs i z e9123 e9124 hq e9125=>?_;clear h;obtain rfl:=e9123;obtain rfl:=e9124;obtain⟨he,q⟩:=e9125;cases rx;obtain⟨t,rfl⟩:=ry;refine Zal (I.tuple hq) λits r pl hz=>?_;refine Zod (Zrg he) λj h1 h2 h3 h4 h5=>?_;refine Zac (r.get h2) λw ew rw'=>?_;have hl:=r.length;have hn:=Zke;have fin:EP X pins σ Q w s:=⟨z,H,I,rw',q⟩
 exact subscriptTail_builtinR (x:=w) pl.typeIs slot_tuple_getitem.lookup
  (getItem_tuple (j:=j) (Q:=λr s'=>r=w/\EP X pins σ Q r s') pl ∅ ∅ (by rw[Jap,<- hl];exact h1) (by simpa using ew) ⟨rfl,fin⟩) hs
theorem Znt (its:List Value)(n j:Nat)(u:Value):Obj.mapSeq (·.setIfInBounds j u) { cls:=.type "list",data:=.seq its.toArray n }={ cls:=.type "list",data:=.seq (its.set j u).toArray n }:=by
 simp[Obj.mapSeq]
theorem Inv.lst {pins:List (Addr×Obj)}{σ:St}{H:Hp}{s:Shared}{p:Addr}{xs:List V}(I:Inv X pins σ H s)(h:H p=some (.lst xs)):
  ∃ (its:List Value) (n:Nat),Vals xs its/\s.heap.get? p=some { cls:=.type "list",data:=.seq its.toArray n }/\xs.length<=sizeLine:=by
 obtain⟨z,its,n,r,e⟩:=I.hok p _ h;exact Zat its n ⟨r,e,z⟩
theorem Inv.lstUpd {pins:List (Addr×Obj)}{σ:St}{H:Hp}{s:Shared}{p:Addr}{xs ys:List V}{its its':List Value}{n n':Nat}{f:Obj->Obj}(I:Inv X pins σ H s)(h:H p=some (.lst xs))(ho:s.heap.get? p=some { cls:=.type "list",data:=.seq its.toArray n })(hf:f { cls:=.type "list",data:=.seq its.toArray n }={ cls:=.type "list",data:=.seq its'.toArray n' })(r:Vals ys its')(hz:ys.length<=sizeLine)(t:Nat):
  Inv X pins σ (upd H p (.lst ys)) { s with heap:=s.heap.update p f,toks:=t }:=by
 have e:(s.heap.update p f).get? p=some { cls:=.type "list",data:=.seq its'.toArray n' }:=by
  rw[Heap.get?_update_self f ho (by rw[hf] <;> rfl),hf]
 refine I.write (x:=p) (e:=p) (by rw[h];trivial) (.inl rfl) (λb u hb q=>(Heap.get?_update_other _ _ (Jdl hb)).trans q) ⟨_,e⟩ ?_;exact⟨hz,its',n',r,e⟩
def rSetL:V->V->V->Hp->(Hp->Prop)->Prop:=λo i v H Q=>∃ p xs k j,o=.ref p/\i=.int k/\H p=some (.lst xs)/\ixN xs.length k=some j/\Q (upd H p (.lst (xs.set j v)))
theorem Zi4:PSet X rSetL:=by
 intro pins s σ H o i v ov iv u Q I ro ri rv h;refine Zcd h λp xs k j e9129 e9130 hp e9131=>?_;clear h;obtain rfl:=e9129;obtain rfl:=e9130;obtain⟨hj,q⟩:=e9131;cases ro;obtain⟨t,rfl⟩:=ri;refine Zca (I.lst hp) λits n r ho hz=>?_;refine Zch (Zqe hj) λh1 h2 h3 h4=>?_;have hl:=r.length;have hn:=Zke;have I':Inv X pins σ (upd H p (.lst (xs.set j v))) { s with heap:=s.heap.update p (Obj.mapSeq (·.setIfInBounds j u)) }:=
  I.lstUpd hp ho (Znt its n j u) (r.set rv j) (by rw[Jdr];exact hz) s.toks
 by_cases h0:0<=k
 .have hk:k.toNat=j:=by
   rw[seqIndex_of h0 h4] at h1;exact Ja7 h1
  exact PySem.W.ki_setAt ho h0 ∅ (by rw[Jap,<- hl];exact h4) (by rw[hk];exact⟨_,I',q⟩)
 .have hk:(k+(its.toArray.size:Int)).toNat=j:=by
   rw[seqIndex_neg ∅ h3] at h1;rw[Jap,<- hl];exact Ja7 h1
  exact PySem.W.ki_setBack ho ∅ (by rw[Jap,<- hl];exact h3) ∅ (by rw[hk];exact⟨_,I',q⟩)
theorem Zjy (lo hi:Option Int)(n:Nat):(sliceBounds lo hi none n).1=((HT.sIx n 0 lo:Nat):Int)/\(sliceBounds lo hi none n).2.1=((HT.sIx n n hi:Nat):Int)/\(sliceBounds lo hi none n).2.2=1:=by
 refine⟨?_,?_,rfl⟩
 .cases lo with
  | none=>simp[sliceBounds,HT.sIx]
  | some i=>
   simp only[sliceBounds,HT.sIx,Option.getD_none,show (1:Int) > 0 by decide,Jcm];by_cases h:i<0
   .simp only [h,Jcm] <;> omega
   .simp only [h,if_false] <;> omega
 .cases hi with
  | none=>simp[sliceBounds,HT.sIx]
  | some i=>
   simp only[sliceBounds,HT.sIx,Option.getD_none,show (1:Int) > 0 by decide,Jcm];by_cases h:i<0
   .simp only [h,Jcm] <;> omega
   .simp only [h,if_false] <;> omega
theorem Zi3 (its:List Value)(lo hi:Option Int):slicePick its.toArray lo hi none=((its.drop (HT.sIx its.length 0 lo)).take (HT.sIx its.length its.length hi-HT.sIx its.length 0 lo)).toArray:=by
 refine Za2 (Zjy lo hi its.toArray.size) λh1 h2 h3=>?_;unfold slicePick;rw[h1,h2,h3];simp only[sliceRange_one,pick_run,Jap] <;> rfl
def rSlL (K:Frag):V->Option Int->Option Int->Hp->VK->Prop:=λx lo hi H Q=>∃ a xs,x=.ref a/\SqL K H a xs/\∀ p,H p=none->Q (.ref p) (upd H p (.lst (Zty xs lo hi)))
theorem Zoz:SlR X (rSlL X.K):=by
 intro pins s σ H x v vl vu lo hi sl Q I rx hs pl pu h;refine Zca h λa xs e9132 hx q=>?_;clear h;obtain rfl:=e9132;cases rx;refine Zal (I.list hx) λits r ht hz=>?_;have hlen:=r.length;refine Zat ("list") _ ⟨slot_list_getitem.lookup,ht.isList.typeIs,?_⟩;refine wpAny_getItem_list_slice ht.isList hs pl pu .none (by simp) ?_ (by rw[Jap] <;> omega);rw[Zi3,<- hlen];refine Zat (.ref s.heap.objs.size) _ ⟨I.laid (t':=s.toks) (o:=.lst (Zty xs lo hi)) (λb ob q=>Jaj _ q) (Jah _) ?_,rfl,q _ (I.hok.fresh (Jah _))⟩;exact⟨Jbi (Zlz xs lo hi) hz,_,0,(r.drop (HT.sIx xs.length 0 lo)).take (HT.sIx xs.length xs.length hi-HT.sIx xs.length 0 lo),Jas _ rfl⟩
def Zn2:V->Bool
 | .non=>true
 | .bl _=>true
 | .int _=>true
 | .str _=>true
 | _=>false
def eqV:V->V->Bool
 | .non,.non=>true
 | .bl a,.bl b=>a == b
 | .bl a,.int b=>(if a then 1 else 0) == b
 | .int a,.bl b=>a == (if b then 1 else 0)
 | .int a,.int b=>a == b
 | .str a,.str b=>a == b
 | _,_=>false
theorem eqAt_V {A:Around}{s:Shared}{y x:V}{u v:Value}(ry:RelV y u)(rx:RelV x v)(fy:Zn2 y=true)(fx:Zn2 x=true):SeqAt.EqAt A s u v (eqV y x):=by
 cases y with
 | non=>
  cases ry;cases x with
  | non=>cases rx;exact SeqAt.EqAt.same _
  | bl b=>cases rx;exact SeqAt.EqAt.none_bool b
  | int b=>obtain⟨t,rfl⟩:=rx;exact SeqAt.EqAt.none_int b t
  | str b=>obtain⟨t,rfl⟩:=rx;exact SeqAt.EqAt.none_str b t
  | _=>exact absurd (show false=true from fx) Jat
 | bl a=>
  cases ry;cases x with
  | non=>cases rx;exact SeqAt.EqAt.bool_none a
  | bl b=>cases rx;exact SeqAt.EqAt.bool_bool a b
  | int b=>obtain⟨t,rfl⟩:=rx;exact SeqAt.EqAt.bool_int a b t
  | str b=>obtain⟨t,rfl⟩:=rx;exact SeqAt.EqAt.bool_str a b t
  | _=>exact absurd (show false=true from fx) Jat
 | int a=>
  obtain⟨t',rfl⟩:=ry;cases x with
  | non=>cases rx;exact SeqAt.EqAt.int_none a t'
  | bl b=>cases rx;exact SeqAt.EqAt.int_bool a t' b
  | int b=>obtain⟨t,rfl⟩:=rx;exact SeqAt.EqAt.int_int a t' b t
  | str b=>obtain⟨t,rfl⟩:=rx;exact SeqAt.EqAt.int_str a t' b t
  | _=>exact absurd (show false=true from fx) Jat
 | str a=>
  obtain⟨t',rfl⟩:=ry;cases x with
  | non=>cases rx;exact SeqAt.EqAt.str_none a t'
  | bl b=>cases rx;exact SeqAt.EqAt.str_bool a t' b
  | int b=>obtain⟨t,rfl⟩:=rx;exact SeqAt.EqAt.str_int a t' b t
  | str b=>obtain⟨t,rfl⟩:=rx;exact SeqAt.EqAt.str_str a t' b t
  | _=>exact absurd (show false=true from fx) Jat
 | _=>exact absurd (show false=true from fy) Jat
def inV (x:V)(xs:List V):Bool:=xs.any λy=>eqV y x
def rIn (K:Frag)(neg:Bool):R2:=λx y H Q=>∃ p xs,y=.ref p/\(SqL K H p xs\/SqT K H p xs)/\Zn2 x=true/\xs.all Zn2=true/\Q (.bl (if neg then !inV x xs else inV x xs)) H
theorem Zam:Zga X (.builtin "len") (λxs H Q=>∃ p ys,xs=[.ref p]/\(SqL X.K H p ys\/SqT X.K H p ys)/\Q (.int ys.length) H):=by
 intro pins s σ H xs us Q I r h;refine Zca h λp ys e9137 hq q=>?_;clear h;obtain rfl:=e9137;refine Zac (Zk1 r) λu e9138 rx=>?_;obtain rfl:=e9138;cases rx;have hn:=Zke;rcases hq with hq|hq
 .refine Zal (I.list hq) λits r' pl hz=>?_;have hlen:=r'.length;exact Calls.call_len_list pl.isList (by simp only[Jap] <;> omega) ⟨.int ys.length,H,I.tok _,⟨s.toks+1,by rw[Jap,hlen]⟩,q⟩
 .refine Zal (I.tuple hq) λits r' pl hz=>?_;have hlen:=r'.length;exact len_tuple pl (by simp only[Jap] <;> omega) ⟨.int ys.length,H,I.tok _,⟨s.toks+1,by rw[Jap,hlen]⟩,q⟩
theorem Zc3:Zga X (.type "list") (λxs H Q=>∃ p ys,xs=[.ref p]/\(SqL X.K H p ys\/SqT X.K H p ys)/\∀ l,H l=none->Q (.ref l) (upd H l (.lst ys))):=by
 intro pins s σ H xs us Q I r h;refine Zca h λp ys e9142 hq q=>?_;clear h;obtain rfl:=e9142;refine Zac (Zk1 r) λu e9143 rx=>?_;obtain rfl:=e9143;cases rx;have fin:∀ (its:List Value),Vals ys its->ys.length<=sizeLine->∀ (h':Heap) (c':Nat),(∀ b o',s.heap.get? b=some o'->h'.get? b=some o')->
   h'.get? s.heap.objs.size=some { cls:=.type "list",dict:=none,data:=.seq its.toArray c',slots:=#[] }->EP X pins σ Q (.ref s.heap.objs.size) { s with heap:=h' }:=λits r' hz h' c' kp e=>
  ⟨.ref s.heap.objs.size,_,I.laid (t':=s.toks) kp (Jah _) (show ObjOk X.prog X.w _ h' _ (.lst ys) from ⟨hz,its,c',r',e⟩),rfl,q _ (I.hok.fresh (Jah _))⟩
 rcases hq with hq|hq
 .refine Zal (I.list hq) λits r' pl hz=>?_;have hlen:=r'.length;obtain⟨o,ho,hc,n,hd⟩:=pl.isList;exact call_list_seq p (.inl rfl) ho hc hd (λh' c' kp e=>fin its r' hz h' c' kp e) (by simp only[Jap] <;> omega)
 .obtain ⟨its,r',pl,hz⟩:=I.tuple hq;have hlen:=r'.length;obtain⟨o,ho,hc,n,hd⟩:=pl;exact call_list_seq p (.inr rfl) ho hc hd (λh' c' kp e=>fin its r' hz h' c' kp e) (by simp only[Jap] <;> omega)
def tyV (K:Frag)(T:String)(x:V)(H:Hp):Prop:=match x with
 | .str _=>T="str"
 | .int _=>T="int"
 | .ref p=>(T="list" /\ ∃ xs,SqL K H p xs)\/(T="tuple" /\ ∃ o,K.lookup p=some o/\o.cls=.type "tuple" /\ o.dict=none) \/
   (T="dict" /\ ((∃ kvs,H p=some (.dK kvs))\/∃ kvs,H p=some (.dT kvs)))\/(T="set" /\ ∃ S n,H p=some (.set S n))
 | _=>False
theorem Zug {pins:List (Addr×Obj)}{σ:St}{H:Hp}{s:Shared}{T:String}{x:V}{v:Value}(I:Inv X pins σ H s)(r:RelV x v)(ty:tyV X.K T x H):
  s.TypeIs v T/\∀ a,v=.ref a->∃ ob,s.heap.get? a=some ob/\ob.dict=none:=by
 cases x with
 | str z=>
  obtain⟨t,rfl⟩:=r;cases (show T="str" from ty);exact⟨typeIs_str s z t,λ_ e=>nomatch e⟩
 | int i=>
  obtain⟨t,rfl⟩:=r;cases (show T="int" from ty);exact⟨typeIs_int s i t,λ_ e=>nomatch e⟩
 | ref p=>
  cases r;rcases ty with ⟨rfl,xs,hq⟩|⟨rfl,o,hk,hc,hd⟩|⟨rfl,hk⟩|⟨rfl,S,n,hk⟩
  .refine Zal (I.list hq) λits _ pl _=>?_;refine⟨pl.isList.typeIs,λa e=>?_⟩;cases e;refine Zgs pl λo n e c hd _=>?_;clear pl;exact⟨o,e,hd⟩
  .refine ⟨⟨o,I.kIn p o hk,hc⟩,λa e=>?_⟩;cases e;exact⟨o,I.kIn _ o hk,hd⟩
  .have z:∃ o,s.heap.get? p=some o/\o.ExactDict:=by
    rcases hk with ⟨kvs,hk⟩|⟨kvs,hk⟩
    .refine Za2 (I.hok p _ hk) λ_ _ e9144=>?_;obtain⟨_,_,o,_,_,e,ex,_⟩:=e9144;exact⟨o,e,ex⟩
    .refine Za2 (I.hok p _ hk) λ_ _ e9145=>?_;obtain⟨_,_,o,_,_,e,ex,_⟩:=e9145;exact⟨o,e,ex⟩
   refine Zac z λo e ex=>?_;clear z;refine⟨⟨o,e,ex.1⟩,λa e2=>?_⟩;cases e2;exact⟨o,e,ex.2.1⟩
  .refine xE4_3 (I.hok p _ hk) λo _ _ _ e ex _=>?_;refine⟨⟨o,e,ex.1⟩,λa e2=>?_⟩;cases e2;exact⟨o,e,ex.2.1⟩
 | _=>exact False.elim ty
def tBM0 (K:Frag)(T:String)(r:V->List V->Hp->VK->Prop)(to:TE):TE:=λσ H Q=>to σ H λx H1=>tyV K T x H1/\r x [] H1 Q
def tBM (K:Frag)(T:String)(r:V->List V->Hp->VK->Prop)(to:TE)(t:TA):TE:=λσ H Q=>to σ H λx H1=>tyV K T x H1/\t σ H1 λxs H2=>r x xs H2 Q
variable {o e:Expr}{es:List Expr}{to:TE}{t:TA}{name:Str}{apos cpos:Pos}{T id:String}{r:V->List V->Hp->VK->Prop}
theorem Zps (pa:PlainAttrs T)(slot:Slot T name id)(hty:typeOf (.builtin id)=pure (.type "method_descriptor"))(hm:MtR X id r)(ho:PE X o to)(hbase:attributeBase o name X.env (eval o X.env)=eval o X.env:=by rfl)(hline:(apos.endLine == cpos.line)=true:=by rfl):PE X (.Call (.Attribute o name apos) [] [] cpos) (tBM0 X.K T r to):=by
 intro pins s σ H Q I h;refine wpAny_Call_method0_late hbase hline (thn (ho pins s σ H _ I h) λv s1 ⟨x,H1,I1,r1,ty,q1⟩=>?_);obtain⟨h1,h2⟩:=Zug I1 r1 ty;exact Zat T id ⟨pa,slot,hty,h1,h2,Calls.callWith_builtin rfl (PySem.evalArgs_none (hm pins s1 σ H1 x [] v [] Q I1 r1 .nil q1))⟩
theorem Znp (pa:PlainAttrs T)(slot:Slot T name id)(hty:typeOf (.builtin id)=pure (.type "method_descriptor"))(hm:MtR X id r)(ho:PE X o to)(ha:PA X (e::es) t)(hbase:attributeBase o name X.env (eval o X.env)=eval o X.env:=by rfl)(hfew:((backTo cpos (starEach (e::es) X.env)).all (λx=>!x.1) && (backToKw cpos (keywordEach [] X.env)).all (λx=>x.1.isSome)
   && decide ((e::es).length+([]:List Keyword).length+(if ([]:List Keyword).isEmpty then 0 else 1)<30))=true:=by rfl)(hline:(apos.endLine == cpos.line)=true:=by rfl)(hs:starEach (e::es) X.env=(false,eval e X.env)::starEach es X.env:=by rfl)(hplain:(backTo cpos (starEach es X.env)).any (·.1)=false:=by rfl):
  PE X (.Call (.Attribute o name apos) (e::es) [] cpos) (tBM X.K T r to t):=by
 intro pins s σ H Q I h;refine wpAny_Call_method_late hbase hfew hline rfl (thn (ho pins s σ H _ I h) λv s1 ⟨x,H1,I1,r1,ty,q1⟩=>?_);obtain⟨h1,h2⟩:=Zug I1 r1 ty;refine Zat T id ⟨pa,slot,hty,h1,h2,?_⟩;have hA:=ha cpos pins s1 σ H1 _ I1 q1;rw[hs] at hA ⊢;refine Calls.callWith_builtin (by show (false || (backTo cpos (starEach es X.env)).any (·.1))=false;rw[hplain] <;> rfl) (Calls.evalArgs_plain ?_);exact thn hA λus s2 ⟨vs,H2,I2,r2,q2⟩=>hm pins s2 σ H2 x vs v us Q I2 r1 r2 q2
end
def MtM (X:Cx)(id:String)(r:V->List V->Hp->VK->Prop):Prop:=
 ∀ (pins:List (Addr×Obj)) (s:Shared) (σ:St) (H:Hp) (x:V) (xs:List V) (v:Value) (us:List Value) (Q:VK),Inv X pins σ H s->RelV x v->Vals xs us->r x xs H Q->
  wpAny (model X.prog X.w) X.A (call (.builtin id) (v::us)) (EP X pins σ Q) X.xe s
theorem Vals.one:∀ {x:V} {us:List Value},Vals [x] us->∃ u,us=[u]/\RelV x u
 | _,_,.cons r .nil=>⟨_,rfl,r⟩
theorem Vals.zero:∀ {us:List Value},Vals [] us->us=[]
 | _,.nil=>rfl
theorem Vals.eraseIdx:∀ {xs:List V} {us:List Value} (i:Nat),Vals xs us->Vals (xs.eraseIdx i) (us.eraseIdx i)
 | _,_,_,.nil=>.nil
 | _,_,0,.cons _ t=>t
 | _,_,i+1,.cons r t=>.cons r (Vals.eraseIdx i t)
theorem Vals.rep {xs:List V}{us:List Value}(h:Vals xs us):∀ k:Nat,Vals (List.replicate k xs).flatten (List.replicate k us).flatten
 | 0=>.nil
 | k+1=>by
  rw[Jb8,Jb8,Jdd,Jdd];exact Vals.append h (Vals.rep h k)
theorem Zkf {α:Type}:∀ (l:List α) (i:Nat),(l.eraseIdx i).length<=l.length
 | [],_=>Jah _
 | _::_,0=>Nat.le_succ _
 | _::r,i+1=>Nat.succ_le_succ (Zkf r i)
theorem Zkl (its:List Value):∀ (k:Nat) (acc:List Value),
  List.foldl (λx1 x2=>x1++x2) acc.toArray (List.replicate k its.toArray)=(acc++(List.replicate k its).flatten).toArray
 | 0,acc=>by simp
 | k+1,acc=>by
  have e:acc.toArray++its.toArray=(acc++its).toArray:=by simp
  have e2:(acc++its)++(List.replicate k its).flatten=acc++(List.replicate (k+1) its).flatten:=by
   rw[Jb8,Jdd,List.append_assoc]
  rw[<- e2,<- Zkl its k (acc++its),<- e,Jb8,List.foldl_cons]
section
variable {X:Cx}{pins:List (Addr×Obj)}{σ:St}{H:Hp}{s:Shared}{l b:Addr}{xs ys zs:List V}
theorem Inv.lset {its its':List Value}{n:Nat}{f:Array Value->Array Value}{t':Nat}(I:Inv X pins σ H s)(hH:H l=some (.lst xs))(e:s.heap.get? l=some { cls:=.type "list",data:=.seq its.toArray n })(hf:f its.toArray=its'.toArray)(hv:Vals ys its')(hz:ys.length<=sizeLine):
  Inv X pins σ (upd H l (.lst ys)) { s with heap:=s.heap.update l (Obj.mapSeq f),toks:=t' }:=by
 have q:=PySem.IsL.update e f;rw[hf] at q;refine I.write (x:=l) (e:=l) (by rw[hH];exact trivial) (.inl rfl) (λb' u hb hu=>(Heap.get?_update_other s.heap (Obj.mapSeq f) (Jdl hb)).trans hu) ⟨_,q⟩ ?_;exact⟨hz,its',_,hv,q⟩
theorem Inv.lnew {its:List Value}{t':Nat}(I:Inv X pins σ H s)(hv:Vals ys its)(hz:ys.length<=sizeLine):
  Inv X pins σ (upd H s.heap.objs.size (.lst ys)) { s with heap:=s.heap.push { cls:=.type "list",data:=.seq its.toArray },toks:=t' }:=
 I.laid (λ_ _ q=>Jaj _ q) (Jah _) ⟨hz,its,0,hv,Jas _ rfl⟩
theorem Inv.fresh (I:Inv X pins σ H s):H s.heap.objs.size=none:=I.hok.fresh (Jah _)
theorem Inv.lstM (I:Inv X pins σ H s)(hH:H l=some (.lst xs)):xs.length<=sizeLine/\∃ (its:List Value) (n:Nat),Vals xs its/\xs.length=its.length/\s.heap.get? l=some { cls:=.type "list",data:=.seq its.toArray n }:=by
 obtain⟨z,its,n,r,e⟩:=I.hok l _ hH;exact⟨z,its,n,r,r.length,e⟩
theorem Zmz {n:Nat}(h:n<=sizeLine):Builtin.List.listTooLong n=false:=by
 unfold Builtin.List.listTooLong;exact Ja3 ∅
end
section
variable {X:Cx}
def Zhq:V->List V->Hp->VK->Prop:=λx vs H Q=>∃ l xs y,x=.ref l/\vs=[y]/\H l=some (.lst xs)/\xs.length<sizeLine/\Q .non (upd H l (.lst (xs++[y])))
theorem Zdj:MtM X "list.append" Zhq:=by
 intro pins s σ H x vs v us Q I rx rv h;refine Zda h λl xs y e9146 e9147 hH e9148=>?_;clear h;obtain rfl:=e9146;obtain rfl:=e9147;obtain⟨hz,q⟩:=e9148;cases rx;refine Zac rv.one λu e9149 ru=>?_;obtain rfl:=e9149;obtain⟨z,its,n,r,hl,e⟩:=I.lstM hH;refine Jez F.slot_list_append ⟨_,e,rfl⟩ F.entry_list_append (F.args_list_append_2 _ _) (PySem.list_append l its.toArray n u (by rw[Jap];omega)) ⟨e,?_⟩;refine Zat .non _ ⟨I.lset (its':=its++[u]) hH e (by simp) (r.append (.cons ru .nil)) ?_,rfl,q⟩;rw[Jam,List.length_singleton];omega
def rExtend:V->List V->Hp->VK->Prop:=λx vs H Q=>∃ l b xs zs,x=.ref l/\vs=[.ref b]/\H l=some (.lst xs)/\H b=some (.lst zs)/\xs.length+zs.length<=sizeLine/\Q .non (upd H l (.lst (xs++zs)))
theorem mt_extend:MtM X "list.extend" rExtend:=by
 intro pins s σ H x vs v us Q I rx rv h;refine Zcd h λl b xs zs e9150 e9151 hH e9152=>?_;clear h;obtain rfl:=e9150;obtain rfl:=e9151;refine Za2 e9152 λhB hz q=>?_;clear e9152;cases rx;refine Zac rv.one λu e9153 ru=>?_;obtain rfl:=e9153;cases ru;obtain⟨z,its,n,r,hl,e⟩:=I.lstM hH;obtain⟨z2,its2,n2,r2,hl2,e2⟩:=I.lstM hB;have hsz:its.toArray.size+its2.toArray.size<=sizeLine:=by rw[Jap,Jap];omega
 have hlong:¬ (!its.toArray.isEmpty && Builtin.List.listTooLong (its.toArray.size+its2.toArray.size))=true:=by
  rw[Zmz hsz,Bool.and_false];exact Jat
 refine Jez F.slot_list_extend ⟨_,e,rfl⟩ F.entry_list_extend (F.args_list_extend_2 _ _)
  (AutoSeq1.list_extend_list_list_0 l its.toArray n b its2.toArray n2 hlong (by rw[Jap];omega) ∅) ⟨e,e2,?_⟩
 refine Zat .non _ ⟨I.lset (its':=its++its2) hH e (by simp) (r.append r2) ?_,rfl,q⟩;rw[Jam];omega
def Zpd:V->List V->Hp->VK->Prop:=λx vs H Q=>∃ l xs i k y,x=.ref l/\vs=[.int i]/\H l=some (.lst xs)/\-(2 ^ 63)<=i/\i<2 ^ 63/\seqIndex? i xs.length=some k/\xs[k]?=some y/\Q y (upd H l (.lst (xs.eraseIdx k)))
theorem Zs7:MtM X "list.pop" Zpd:=by
 intro pins s σ H x vs v us Q I rx rv h;refine Zh7 h λl xs i k y e9157 e9158 hH e9159=>?_;clear h;obtain rfl:=e9157;obtain rfl:=e9158;refine Zdn e9159 λh1 h2 hk hy q=>?_;clear e9159;cases rx;refine Zac rv.one λu e9160 ru=>?_;obtain rfl:=e9160;obtain⟨t,rfl⟩:=ru;obtain⟨z,its,n,r,hl,e⟩:=I.lstM hH;refine Zac (r.get hy) λw hw rw'=>?_;refine Jez F.slot_list_pop ⟨_,e,rfl⟩ F.entry_list_pop (F.args_list_pop_2 _ _)
  (MeetsSeq.list_pop_at l its.toArray n i t k w (fitsIndex_both h1 h2) (by rw[Jap,<- hl];exact hk) (by rw[<- Array.getElem?_toList];exact hw) (by rw[Jap];omega)) ⟨e,?_⟩
 refine Zat y _ ⟨I.lset (its':=its.eraseIdx k) hH e ?_ (r.eraseIdx k) ?_,rw',q⟩
 .show its.toArray.eraseIdxIfInBounds k=(its.eraseIdx k).toArray;rw[List.eraseIdxIfInBounds_toArray]
 .have:=Zkf xs k;omega
def rCat:R2:=λx y H Q=>∃ l b xs zs,x=.ref l/\y=.ref b/\H l=some (.lst xs)/\H b=some (.lst zs)/\xs.length+zs.length<=sizeLine/\∀ p,H p=none->Q (.ref p) (upd H p (.lst (xs++zs)))
theorem Zj8:OpR X (binaryOp .Add) rCat:=by
 intro pins s σ H x y v u Q I rx ry h;refine Zcd h λl b xs zs e9165 e9166 hH e9167=>?_;clear h;obtain rfl:=e9165;obtain rfl:=e9166;refine Za2 e9167 λhB hz q=>?_;clear e9167;cases rx;cases ry;obtain⟨z,its,n,r,hl,e⟩:=I.lstM hH;obtain⟨z2,its2,n2,r2,hl2,e2⟩:=I.lstM hB;refine PySem.P.add_list e e2 ?_ (by rw[Jap,Jap];omega);have ea:its.toArray++its2.toArray=(its++its2).toArray:=by simp
 rw[ea];exact Zat (.ref _) _ ⟨I.lnew (t':=s.toks) (r.append r2) (by rw[Jam];omega),rfl,q _ I.fresh⟩
def rRep:R2:=λx y H Q=>∃ l k xs,x=.ref l/\y=.int k/\H l=some (.lst xs)/\-(2 ^ 63)<=k/\k<2 ^ 63/\xs.length*k.toNat<=sizeLine /\
 ∀ p,H p=none->Q (.ref p) (upd H p (.lst (List.replicate k.toNat xs).flatten))
theorem len_rep {α:Type}(xs:List α)(k:Nat):(List.replicate k xs).flatten.length=k*xs.length:=by
 induction k with
 | zero=>simp
 | succ k ih=>rw[Jb8,Jdd,Jam,ih,Nat.succ_mul,Nat.add_comm]
theorem op_rep:OpR X (binaryOp .Mult) rRep:=by
 intro pins s σ H x y v u Q I rx ry h;refine Zda h λl k xs e9168 e9169 hH e9170=>?_;clear h;obtain rfl:=e9168;obtain rfl:=e9169;refine Zch e9170 λh1 h2 hz q=>?_;clear e9170;cases rx;obtain⟨t,rfl⟩:=ry;obtain⟨z,its,n,r,hl,e⟩:=I.lstM hH;have hlen:its.toArray.size*k.toNat<=sizeLine:=by rw[Jap,<- hl];exact hz
 have hcap:¬ its.toArray.size*k.toNat > (2 ^ 63-1) / 8:=by
  have:(sizeLine:Nat)<=(2 ^ 63-1) / 8:=⇑0
  omega
 have hfit:¬ (!Builtin.List.listFitsIndex k)=true:=by
  rw[fitsIndex_both h1 h2];exact Jat
 have hlong:¬ Builtin.List.listTooLong (its.toArray.size*k.toNat)=true:=by
  rw[Zmz hlen];exact Jat
 have hnew:List.foldl (λx1 x2=>x1++x2) #[] (List.replicate (if its.toArray.isEmpty=true then 0 else k.toNat) its.toArray)=(List.replicate k.toNat its).flatten.toArray:=by
  have f0:∀ m:Nat,List.foldl (λx1 x2=>x1++x2) #[] (List.replicate m its.toArray)=(List.replicate m its).flatten.toArray:=λm=>by
   have:=Zkl its m [];rw[List.nil_append] at this;exact this
  rw[f0];cases its with
  | nil=>simp
  | cons a r'=>rw[if_neg (by simp)]
 refine wpAny_binaryOp_repeat_ref (T:="list") (U:="int") ⇑0 ⟨_,e,rfl⟩ (λs'=>typeIs_int s' k t) noFill_list_mul F.fills_int_mul F.slot_int_rmul repeat_list F.slot_int_index.lookup
  (Jez F.slot_int_rmul (typeIs_int s k t) F.entry_int_rmul (F.args_int_rmul_2 _ _) (int___rmul___int_list k t l its.toArray n)
   ⟨e,rfl,⟨_,e,rfl⟩,Jez F.slot_list_mul ⟨_,e,rfl⟩ F.entry_list_mul (F.args_list_mul_2 _ _) (AutoListH.list___mul___list_int_3 l its.toArray n k t hfit hcap hlong) ⟨e,?_⟩⟩)
 rw[hnew];exact Zat (.ref _) _ ⟨I.lnew (t':=s.toks) (r.rep k.toNat) (by rw[len_rep,Nat.mul_comm];exact hz),rfl,q _ I.fresh⟩
end
section
variable {prog:Program}{w:World}{A:Around}{E:Value->Shared->Prop}{s:Shared}
end
section
variable {X:Cx}
end
end L2
namespace Att
open PySem PySem.W PySem.Calls PyProof.Rows
theorem Zhz {P:Params}{h:Heap}:∀ (ns:List Int) (vs:List Value),WellAll P h vs (ns.map WData.int)->IntsAre vs ns:=by
 intro ns
 induction ns with
 | nil=>
  intro vs w;rw[List.map_nil] at w;cases w;exact .nil
 | cons n ns ih=>
  intro vs w;rw[List.map_cons] at w;cases w with
  | cons a b=>
   cases a;exact .cons _ _ (ih _ b)
theorem Zo0 {l:OpenLaw}{n:Nat}(hn:l.most=some n){P:Params}{h:Heap}{args:List WData}{vals:List Value}(hpre:l.row.toRowW.claim.pre args=true)(hwl:WellAll P h vals args):
  ∃ a vs ns,vals=[Value.ref a]/\args=[WData.list (ns.map WData.int)]/\h.get? a=some { cls:=.type "list",data:=.seq vs.toArray }/\IntsAre vs ns/\ns.length<=n:=by
 have hsh:WShape.hasAll [] args [.list .int]=true:=(pre_splitW hpre).1;have hc:l.pre.holds [] { args:=args }=true:=(pre_splitW hpre).2;obtain⟨d,r,rfl,h1,h2⟩:=hasAllW_cons hsh;obtain rfl:=hasAllW_nil h2;obtain⟨xs,rfl,h3⟩:=hasW_list h1;obtain⟨ns,rfl⟩:=items_int h3;have hlen:ns.length<=n:=by
  unfold OpenLaw.pre at hc;have h4:(WTm.not (.lt (.lit (.int (n:Int))) (.len (.arg 0)))).holds [] { args:=[.list (ns.map .int)] }=true:=by
   have h4:=(holds_andW hc).1;rw[hn] at h4;exact h4
  have h5:=condW_of h4 (w_not (w_lt w_lit (w_len_list (w_arg rfl))));rw[Jab] at h5;refine Nat.le_of_not_lt λq=>?_;have q':(n:Int)<((ns.length:Nat):Int):=∅
  first
   | (rw[Jal q'] at h5;exact absurd h5 ⇑0)
   | (simp at h5;omega)
 cases hwl with
 | cons w1 w2=>
  cases w2;cases w1 with
  | list ho hall=>exact⟨_,_,ns,rfl,rfl,ho,Zhz ns _ hall,hlen⟩
theorem Zpk (l:OpenLaw)(args:List WData):l.row.toRowW.claim.post args (.bool true) args=true:=
 postW_of (r:=l.row.toRowW) (X:=(true == true))
  (show WShape.has [] (.bool true) .bool=true by first|rfl|decide|simp[WShape.has,WShape.arms,WShape.armsAll])
  (show (WTm.eq .res (.lit (.bool true))).value [] { args:=args,res:=some (.bool true),after:=args }=some (.bool (true == true)) from w_eq_bool (w_res rfl) w_lit) rfl
theorem attach_call {l:OpenLaw}{n:Nat}{q:Program}{loose:List Str}{XP:(Str->Option Value)->Heap->Prop}{YP:World->Heap->Prop}{d:DefRec}(hn:l.most=some n)(hdf:d.params.defaults=[])(call:∀ (w:World) (s₀ s₁:Shared) (mg mb:Str->Option Value) (fa:Addr) (o:Obj) (pm cd doc:Value) (a:Addr) (vs:List Value) (ns:List Int),
   Ground q loose [] XP w s₀ mg mb s₁.heap->YP w s₁.heap->
   s₁.heap.get? fa=some o->o.data=.func (docDef d.name d.params d.body d.scope pm cd doc)->s₁.heap.CodeRec cd d.name->mg d.name=some (.ref fa)->
   s₁.heap.get? a=some { cls:=.type "list",data:=.seq vs.toArray }->IntsAre vs ns->ns.length<=n->s₁.gens=#[]->
   codeAny (model l.prog w) callerA (.call (.ref fa) ⟨[.ref a],[]⟩) (λr s'=>r=.ok (.ret (.bool true))/\OldK s₁.heap s'.heap/\s'.os=s₁.os/\AllBare s'.gens) s₁):
  WalkO q loose XP YP l.row.toRowW d [] (λf vs=>PySem.call f vs):=by
 intro w s₀ s₁ mg mb G Y fa o pm cd doc dV kV ho hd hcd hD hmg hg args vals as hpre hlay hrd hwl hlo;obtain rfl:dV=.none:=Dflts.none hD hdf;obtain rfl:kV=.none:=Dflts.noKw hD;obtain⟨a,vs,ns,rfl,rfl,hobj,hints,hlen⟩:=Zo0 hn hpre hwl;refine enter_call (codeAny_mono (call w s₀ s₁ mg mb fa o pm cd doc a vs ns G Y ho (fd_plain hd) hcd hmg hobj hints hlen hg) λr s' hq=>?_);obtain⟨rfl,h2,h3,h4⟩:=hq;exact⟨.inl ⟨.bool true,.bool true,[],rfl,λ_=>rfl,.bool true,Zpk l _,λ_=>⟨List.Pairwise.nil,λ_ hm=>(nomatch hm)⟩⟩,h2,h3,h4⟩
section
variable {prog:Program}{w:World}{A:Around}{E:Value->Shared->Prop}{s:Shared}{K:Frag}
end
end Att
namespace L2
open PySem PySem.Spec PyProof.Rows
theorem Zjq:∀ {vs:List Value} {ns:List Int},IntsAre vs ns->Vals (ns.map V.int) vs
 | _,_,.nil=>.nil
 | _,_,.cons n t h=>.cons ⟨t,rfl⟩ (Zjq h)
end L2
namespace L2
open PySem PySem.Spec PyProof.Rows
def Zh1 (s:Stmt)(j:Nat):Stmt:=match s with
 | .ClassDef _ _ _ body _ _ _ _ _ _ _=>body.getD j (.Pass ⟨0,0,0,0⟩)
 | _=>.Pass ⟨0,0,0,0⟩
def Zb6 (s:Stmt):Arguments:=match s with
 | .FunctionDef _ a _ _ _ _ _ _ _ _=>a
 | _=>{ posonlyargs:=[],args:=[],vararg:=none,kwonlyargs:=[],kw_defaults:=[],kwarg:=none,defaults:=[] }
def Zbu (s:Stmt):List Stmt:=match s with
 | .FunctionDef _ _ b _ _ _ _ _ _ _=>b
 | _=>[]
def Zae (s:Stmt):Scope:=match s with
 | .FunctionDef _ _ _ _ _ _ sc _ _ _=>sc
 | _=>{ kind:=.function,names:=[],isGenerator:=false,isCoroutine:=false }
abbrev CX0:CXT:=λ_ _ _ _ _ _=>False
abbrev E0:XK:=λ_ _ _=>False
theorem Zsj {X:Cx}:Ziw CX0 X E0:=λ_ _ _ _ _ _ _ h=>h.elim
structure Fun (K:Frag)(x qual:Str)(st:Stmt)(f:Addr)(fd:FuncData):Prop where
 ex:∃ (oc:Value) (od:Option Addr) (kV doc pm:Value) (an:Option Addr) (cdv ct:Value) (osl:Array (Option Value)),
  fd=PySem.W.fnOf x qual (Zb6 st) (Zbu st) (Zae st) .none kV doc pm an cdv ct/\K.lookup f=some ⟨oc,od,.func fd,osl⟩/\PySem.W.codeIn K cdv qual=true
 kp:PySem.W.keepIn K (.ref f)=true
section
theorem Fun.ok {x qual:Str}{st:Stmt}{f:Addr}{fd:FuncData}{N ps:List Str}{k:Nat}{sp:Sp}(F:Fun K x qual st f fd)(S:FnScope N ps (Zae st))(len:∀ vs H Q E,sp vs H Q E->vs.length=ps.length)(hbody:∀ (cdv:Value) (A:Around) (outer:List Env) (s:Shared) (H:Hp) (vs:List V) (Q:VK) (E:XK),Room k (A.deeper (envOfC qual (Zae st) s.heap.objs.size f cdv))->sp vs H Q E->
   ∃ t,PSs (Ztv CX0 P w K mg base N qual (Zae st) f cdv A outer s H E).nox (Zbu st) t/\t { nx:=λ_ H'=>Q .non H',rt:=Q } (start N vs) H):FnOk P w K mg base CX0 (k+1) f fd ps sp:=by
 refine Zob F.ex λoc od kV doc pm an cdv ct osl e9171 lk hcd=>?_;obtain rfl:=e9171;refine fn_of lk hcd S len λA outer s H vs Q E hr hsp=>?_;refine Zac (hbody cdv A outer s H vs Q E hr hsp) λt h q=>?_;exact⟨t,h.nox,q⟩
theorem Fun.binds {x qual:Str}{st:Stmt}{f:Addr}{fd:FuncData}{ps:List Str}(F:Fun K x qual st f fd)(h:∀ (kV doc pm:Value) (an:Option Addr) (cdv ct:Value) (us:List Value),us.length=ps.length->bindArgs (PySem.W.fnOf x qual (Zb6 st) (Zbu st) (Zae st) .none kV doc pm an cdv ct) ⟨us,[]⟩=pure (ps.zip us)):Binds K fd ps []:=by
 refine Zob F.ex λoc od kV doc pm an cdv ct osl e9172 lk hcd=>?_;obtain rfl:=e9172;exact .all (h kV doc pm an cdv ct)
theorem fun_mk {x qual:Str}{st:Stmt}{f:Addr}{oc:Value}{od an:Option Addr}{osl:Array (Option Value)}{kV doc pm cdv ct:Value}(l:K.lookup f=some ⟨oc,od,.func (PySem.W.fnOf x qual (Zb6 st) (Zbu st) (Zae st) .none kV doc pm an cdv ct),osl⟩)(c:PySem.W.codeIn K cdv qual=true)(k:PySem.W.keepIn K (.ref f)=true):Fun K x qual st f (PySem.W.fnOf x qual (Zb6 st) (Zbu st) (Zae st) .none kV doc pm an cdv ct):=⟨⟨oc,od,kV,doc,pm,an,cdv,ct,osl,rfl,l,c⟩,k⟩
end
theorem Zap {n:Nat}(h:n<=1000):n<sizeLine:=Jbh h ⇑0
section
variable {X:Cx}
theorem pv (i:Nat){x:Str}{pos:Pos}(hN:X.N[i]?=some x:=by rfl)(hv:Vis X.env.scope x:=by first|exact Or.inl rfl|exact Or.inr (Or.inl rfl)|exact Or.inr (Or.inr rfl))(hd:(x == ("__debug__" : Str))=false:=by decide)(hcd:(x == ("__classdict__" : Str))=false:=by decide):PE X (.Name x pos) (Zfy i):=pe_var hN hv hd hcd
end
theorem iteF {A B:Prop}(h:B):if false=true then A else B:=by
 rw[if_neg Jat];exact h
theorem iteT {A B:Prop}(h:A):if true=true then A else B:=by
 rw[if_pos rfl];exact h
theorem Zdm {c A B:Prop}[Decidable c](h1:c->A)(h2:¬ c->B):if c then A else B:=by
 by_cases h:c
 .rw [if_pos h];exact h1 h
 .rw [if_neg h];exact h2 h
def Same (H H':Hp):Prop:=∀ b o,H b=some o->H' b=some o
theorem Same.refl (H:Hp):Same H H:=λ_ _ h=>h
theorem Same.trans {H H1 H2:Hp}(a:Same H H1)(b:Same H1 H2):Same H H2:=λc o h=>b c o (a c o h)
theorem Same.free {H H':Hp}(e:Same H H'){l:Addr}(h:H' l=Option.none):H l=Option.none:=by
 cases q:H l with
 | none=>rfl
 | some o=>
  rw[e l o q] at h;cases h
theorem Same.seq {K:Frag}{H H':Hp}{a:Addr}{xs:List V}(e:Same H H')(h:SqL K H a xs):SqL K H' a xs:=by
 rcases h with (h|⟨o,h⟩)|h
 .exact .inl (.inl (e _ _ h))
 .exact .inl (.inr ⟨o,e _ _ h⟩)
 .exact .inr h
theorem Zt3 {x:Str}{c:Addr}:∀ (names:List (Str×NameKind)) (n:Nat) (acc:List (Str×Addr)),(cellsFrom n names acc).lookup x=some c->n<=c\/acc.lookup x=some c
 | [],_,_,h=>.inr h
 | (y,k)::r,n,acc,h=>by
  unfold cellsFrom at h;split at h
  .rcases Zt3 r (n+1) _ h with z|z
   .exact .inl (Jch z)
   .rw [Ja1] at z;cases e:x == y with
    | true=>rw[e] at z;cases z;exact .inl (Jah _)
    | false=>rw[e] at z;exact .inr z
  .exact Zt3 r n acc h
theorem Zq8 {x:Str}{c:Addr}:∀ (names:List (Str×NameKind)) (n:Nat) (acc:List (Str×Addr)),(x,NameKind.cell)∈names->(cellsFrom n names acc).lookup x=some c->n<=c
 | [],_,_,m,_=>nomatch m
 | (y,k)::r,n,acc,m,h=>by
  unfold cellsFrom at h;split at h
  .by_cases m':(x,NameKind.cell)∈r
   .exact Jch (Zq8 r (n+1) _ m' h)
   .have e:(x,NameKind.cell)=(y,k):=(Ja9.mp m).resolve_right m';cases e;rcases Zt3 r (n+1) _ h with z|z
    .exact Jch z
    .rw [Ja1,Jea] at z;cases z;exact Jah _
  .rename_i hk
   have m':(x,NameKind.cell)∈r:=by
    rcases Ja9.mp m with e|m'
    .cases e;exact absurd rfl hk
    .exact m'
   exact Zq8 r n acc m' h
theorem Zq9 {x:Str}:∀ {names:List (Str×NameKind)} {n:Nat} {acc:List (Str×Addr)},(x,NameKind.cell)∉names->(cellsFrom n names acc).lookup x=acc.lookup x
 | [],_,_,_=>rfl
 | (y,k)::r,n,acc,h=>by
  unfold cellsFrom;have hr:(x,NameKind.cell)∉r:=λm=>h (Jbn _ m);split
  .rename_i hk
   have hy:(x == y)=false:=by
    cases e:x == y with
    | false=>rfl
    | true=>
     exfalso;refine h ?_;rw[Jbj.mp e,Jbj.mp hk];exact Jb5
   rw[Zq9 hr,Ja1,hy]
  .exact Zq9 hr
theorem Zra:∀ (names:List (Str×NameKind)) (n:Nat) (acc:List (Str×Addr)),(∀ x c,acc.lookup x=some c->c<n)->(∀ x y c,acc.lookup x=some c->acc.lookup y=some c->x=y)->
  ∀ x y c,(cellsFrom n names acc).lookup x=some c->(cellsFrom n names acc).lookup y=some c->x=y
 | [],_,_,_,hi=>hi
 | (z,k)::r,n,acc,hl,hi=>by
  unfold cellsFrom;split
  .refine Zra r (n+1) _ (λx c h=>?_) (λx y c h1 h2=>?_)
   .rw [Ja1] at h;cases e:x == z with
    | true=>rw[e] at h;cases h;exact Jd9 _
    | false=>rw[e] at h;exact Jcr (hl x c h)
   .rw [Ja1] at h1 h2;cases e1:x == z with
    | true=>
     rw[e1] at h1;cases h1;cases e2:y == z with
     | true=>rw[Jbj.mp e1,Jbj.mp e2]
     | false=>rw[e2] at h2;exact absurd (hl y _ h2) (Jb0 _)
    | false=>
     rw[e1] at h1;cases e2:y == z with
     | true=>rw[e2] at h2;cases h2;exact absurd (hl x _ h1) (Jb0 _)
     | false=>rw[e2] at h2;exact hi x y c h1 h2
  .exact Zra r n acc hl hi
theorem Zl2 {x:Str}{c:Addr}:∀ (names:List (Str×NameKind)) (h:Heap) (acc:List (Str×Addr)),(cellsFrom h.objs.size names acc).lookup x=some c->(pushCells h names).IsCell c none\/acc.lookup x=some c
 | [],_,_,z=>.inr z
 | (y,k)::r,h,acc,z=>by
  unfold cellsFrom at z;unfold pushCells;split at z
  .rename_i hk
   rw[if_pos hk];have z':(cellsFrom (h.push { cls:=.type "cell",data:=.cell none }).objs.size r ((y,h.objs.size)::acc)).lookup x=some c:=by rw[Jbt];exact z
   rcases Zl2 r _ _ z' with q|q
   .exact .inl q
   .rw [Ja1] at q;cases e:x == y with
    | true=>
     rw[e] at q;cases q;exact .inl ⟨_,pushCells_keeps _ _ _ _ (Jas _ rfl),rfl⟩
    | false=>rw[e] at q;exact .inr q
  .rename_i hk
   rw[if_neg hk];exact Zl2 r h acc z
theorem Zl1 {env:Env}(f:Str×NameKind->List (Str×Addr)->Sem (ForInStep (List (Str×Addr))))(hf:∀ name kind cs,f (name,kind) cs=if kind == .free then (do let a <- cellOf env name;pure (.yield ((name,a)::cs))) else pure (.yield cs)):
  ∀ (names:List (Str×NameKind)) (acc:List (Str×Addr)),(∀ y∈names,y.2=.free->∃ c,env.cells.lookup y.1=some c)->(∀ x c,acc.lookup x=some c->env.cells.lookup x=some c)->
  ∃ cl,forIn names acc f=pure cl/\(∀ x c,cl.lookup x=some c->env.cells.lookup x=some c)/\(∀ y∈names,y.2=.free->∃ c,cl.lookup y.1=some c)/\∀ x c,acc.lookup x=some c->∃ c',cl.lookup x=some c'
 | [],acc,_,ha=>⟨acc,rfl,ha,(λ_ m=>nomatch m),λx c e=>⟨c,e⟩⟩
 | (y,k)::r,acc,h,ha=>by
  rw[List.forIn_cons,hf];have hr:∀ y∈r,y.2=NameKind.free->∃ c,env.cells.lookup y.1=some c:=λz m=>h z (Jbn _ m);by_cases hk:(k == NameKind.free)=true
  .obtain ⟨c,hc⟩:=h (y,k) Jb5 (Jbj.mp hk);have e:cellOf env y=pure c:=by unfold cellOf;rw[hc]
   rw[if_pos hk,e,pure_bind,pure_bind];have ha':∀ x d,((y,c)::acc).lookup x=some d->env.cells.lookup x=some d:=λx d e=>by
    rw[Ja1] at e;cases e1:x == y with
    | true=>rw[e1] at e;cases e;rw[Jbj.mp e1];exact hc
    | false=>rw[e1] at e;exact ha x d e
   refine Zrr (Zl1 f hf r ((y,c)::acc) hr ha') λcl q1 q2 q3 q4=>?_;refine⟨cl,q1,q2,λz m hz=>?_,λx d e=>?_⟩
   .rcases Ja9.mp m with e|m
    .subst e;exact q4 y c (by rw[Ja1,Jea])
    .exact q3 z m hz
   .by_cases e1:(x == y)=true
    .exact q4 x c (by rw[Ja1,e1])
    .exact q4 x d (by rw[Ja1];simp only[e1];exact e)
  .rw [if_neg hk,pure_bind];refine Zrr (Zl1 f hf r acc hr ha) λcl q1 q2 q3 q4=>?_;refine⟨cl,q1,q2,λz m hz=>?_,q4⟩;rcases Ja9.mp m with e|m
   .subst e;exact absurd (Jbj.mpr hz) hk
   .exact q3 z m hz
theorem Zl0 {scope:Scope}{env:Env}(h:∀ y∈scope.names,y.2=.free->∃ c,env.cells.lookup y.1=some c):
  ∃ cl,closureFor scope env=pure cl/\(∀ x c,cl.lookup x=some c->env.cells.lookup x=some c)/\∀ y∈scope.names,y.2=.free->∃ c,cl.lookup y.1=some c:=by
 obtain⟨cl,q1,q2,q3,_⟩:=Zl1 (env:=env) (λx cs=>if x.2 == .free then (do let a <- cellOf env x.1;pure (.yield ((x.1,a)::cs))) else pure (.yield cs)) (λ_ _ _=>rfl) scope.names [] h (λ_ _ e=>nomatch e);refine⟨cl,?_,q2,q3⟩;unfold closureFor;have e:(λ(x:Str×NameKind) (r:List (Str×Addr))=>(match x with
   | (name,kind)=>if (kind == NameKind.free)=true then (do let __do_lift <- cellOf env name;pure (ForInStep.yield ((name,__do_lift)::r))) else pure (ForInStep.yield r):Sem (ForInStep (List (Str×Addr))))) =
   λx cs=>if x.2 == .free then (do let a <- cellOf env x.1;pure (.yield ((x.1,a)::cs))) else pure (.yield cs):=by
  funext x cs
  rfl
 have q:(forIn scope.names ([]:List (Str×Addr)) λ(x:Str×NameKind) (r:List (Str×Addr))=>(match x with
   | (name,kind)=>if (kind == NameKind.free)=true then (do let __do_lift <- cellOf env name;pure (ForInStep.yield ((name,__do_lift)::r))) else pure (ForInStep.yield r):Sem (ForInStep (List (Str×Addr)))))=pure cl:=by
  rw[e];exact q1
 simpa using q
theorem Zka {M:Model}{A:Around}{E:Value->Shared->Prop}{s:Shared}{scope:Scope}{globals:Addr}{cl:List (Str×Addr)}{qual:Str}{env:Env}{Q:Env->Shared->Prop}(hQ:∀ h',h'.Ns s.heap.objs.size (λ_=>none)->(∀ b o,s.heap.get? b=some o->h'.get? b=some o)->
   (∀ x c,(cellsFrom (s.heap.objs.size+1) scope.names cl).lookup x=some c->h'.IsCell c none\/cl.lookup x=some c)->
   Q { scope,locals:=s.heap.objs.size,globals,cells:=cellsFrom (s.heap.objs.size+1) scope.names cl,qual,func:=none,code:=env.code,frame:=env.frame,builtins:=env.builtins } { s with heap:=h' }):
  wpAny M A (newFunctionEnv scope globals cl [] qual none .none (some env)) Q E s:=by
 simp only[newFunctionEnv,Option.isSome_some,Jcm];refine Jag (wpAny_alloc ?_);refine Jag (wpAny_layCells _ (λname kind cells=>by cases hkc:kind == NameKind.cell <;> simp[hkc]) _ _ _ _ ?_);have hsz:(s.heap.push { cls:=.type "dict",data:=.dict #[] }).objs.size=s.heap.objs.size+1:=Jbt ..;have q:=hQ (pushCells (s.heap.push { cls:=.type "dict",data:=.dict #[] }) scope.names) ((Heap.Ns.new s.heap (.type "dict")).keeps (pushCells_keeps _ _)) (λb o e=>pushCells_keeps _ _ b o (Jaj _ e))
  (λx c e=>Zl2 scope.names (s.heap.push { cls:=.type "dict",data:=.dict #[] }) cl (by rw[hsz];exact e))
 show wpAny _ _ _ _ _ _;rw[show ({ s with heap:=s.heap.push { cls:=.type "dict",data:=.dict #[] } }:Shared).heap.objs.size=s.heap.objs.size+1 from hsz];exact Jag (Ja2 (Ja2 q))
theorem Zgk {env:Env}{x:Str}:∀ {names:List (Str×NameKind)},names.lookup x=some .free->
  (names.map λ(n,k)=>if (k == NameKind.free && env.scope.kind == .function && env.kindOf n == some .cell) then (n,NameKind.cell) else (n,k)).lookup x=some .cell \/
  (names.map λ(n,k)=>if (k == NameKind.free && env.scope.kind == .function && env.kindOf n == some .cell) then (n,NameKind.cell) else (n,k)).lookup x=some .free
 | [],h=>by simp at h
 | (n,k)::r,h=>by
  have ih:=@Zgk env x r;show List.lookup x ((if (k == NameKind.free && env.scope.kind == .function && env.kindOf n == some .cell)=true then (n,NameKind.cell) else (n,k))::_)=_\/List.lookup x ((if (k == NameKind.free && env.scope.kind == .function && env.kindOf n == some .cell)=true then (n,NameKind.cell) else (n,k))::_)=_;cases hx:x == n with
  | true=>
   simp only[Ja1,hx] at h;cases h;split <;> simp[Ja1,hx]
  | false=>
   simp only[Ja1,hx] at h;split <;> (simp only[Ja1,hx];exact ih h)
theorem Zeg {env:Env}{x:Str}{kd:NameKind}:∀ {names:List (Str×NameKind)},
  (names.map λ(n,k)=>if (k == NameKind.free && env.scope.kind == .function && env.kindOf n == some .cell) then (n,NameKind.cell) else (n,k)).lookup x=some kd->
  names.lookup x=some kd\/names.lookup x=some .free
 | [],h=>by simp at h
 | (n,k)::r,h=>by
  have ih:=@Zeg env x kd r;have h':List.lookup x ((if (k == NameKind.free && env.scope.kind == .function && env.kindOf n == some .cell)=true then (n,NameKind.cell) else (n,k))::(r.map λ(n,k)=>if (k == NameKind.free && env.scope.kind == .function && env.kindOf n == some .cell) then (n,NameKind.cell) else (n,k)))=some kd:=h;cases hx:x == n with
  | true=>
   by_cases hc:(k == NameKind.free && env.scope.kind == .function && env.kindOf n == some .cell)=true
   .have hk:k=.free:=by
     have:=(Ja5 _ _ ▸ (Ja5 _ _ ▸ hc).1).1;exact Jbj.mp this
    subst hk;exact .inr (by simp[Ja1,hx])
   .rw [if_neg hc] at h';simp only[Ja1,hx] at h';cases h';exact .inl (by simp[Ja1,hx])
  | false=>
   have h2:List.lookup x (r.map λ(n,k)=>if (k == NameKind.free && env.scope.kind == .function && env.kindOf n == some .cell) then (n,NameKind.cell) else (n,k))=some kd:=by
    split at h' <;> simpa only [Ja1,hx] using h'
   rcases ih h2 with z|z
   .exact .inl (by simp only[Ja1,hx];exact z)
   .exact .inr (by simp only[Ja1,hx];exact z)
def Zjk (X:Cx)(N:List Str)(scope:Scope)(cl:List (Str×Addr))(s:Shared)(H:Hp)(fp:List Addr):Cx where
 prog:=X.prog
 w:=X.w
 K:=X.K
 mg:=X.mg
 base:=X.base
 A:=X.A
 N:=N
 s₀:=s
 H₀:=H
 env:={ scope:=relabel scope X.env,locals:=s.heap.objs.size,globals:=X.env.globals,cells:=cellsFrom (s.heap.objs.size+1) scope.names cl,qual:=X.env.qual,func:=none,code:=X.env.code,frame:=X.env.frame,builtins:=X.env.builtins }
 outer:=X.stack
 stack:=X.stack
 ex:=fp
 fn:=λx=>scope.names.lookup x == some .cell
 calm:=X.calm
 pn:=[]
 xe:=λ_ _=>False
structure BlScope (X:Cx)(scope:Scope)(own:List Str)(fr:List (Str×Nat)):Prop where
 kind:scope.kind=.function
 free:∀ y∈scope.names,y.2=.free->X.env.scope.names.lookup y.1=some .cell\/X.env.scope.names.lookup y.1=some .free
 loc:∀ y∈scope.names,y.2=.local->scope.names.lookup y.1=some .local
 look:∀ y∈scope.names,scope.names.lookup y.1=some y.2
 cap:∀ y∈fr,scope.names.lookup y.1=some .free/\X.N[y.2]?=some y.1
def Zgq (k:Nat)(fr:List (Str×Nat))(σ:St):St:=List.replicate k none++fr.map λy=>(σ[y.2]?).getD none
def Zh6 (own:List Str)(fr:List (Str×Nat)):List Str:=own++fr.map (·.1)
section
variable {X:Cx}{pins:List (Addr×Obj)}{σ:St}{H:Hp}{s:Shared}
theorem Zql {scope:Scope}{own:List Str}{fr:List (Str×Nat)}{cl:List (Str×Addr)}{fp:List Addr}{h':Heap}(I:Inv X pins σ H s)(B:BlScope X scope own fr)(hcl:∀ x c,cl.lookup x=some c->X.env.cells.lookup x=some c)(hcl2:∀ y∈scope.names,y.2=.free->∃ c,cl.lookup y.1=some c)(hfp:∀ b∈fp,FpOk X pins H b)(hfo:∀ b∈fp,∃ o,s.heap.get? b=some o)(hn:h'.Ns s.heap.objs.size (λ_=>none))(hk:∀ b o,s.heap.get? b=some o->h'.get? b=some o)(hc:∀ x c,(cellsFrom (s.heap.objs.size+1) scope.names cl).lookup x=some c->h'.IsCell c none\/cl.lookup x=some c):
  Inv (Zjk X (Zh6 own fr) scope cl s H fp) [] (Zgq own.length fr σ) H { s with heap:=h' }:=by
 have clt:∀ x c,cl.lookup x=some c->c<s.heap.objs.size:=λx c e=>by
  obtain⟨v,z⟩:=I.cell x c (hcl x c e);exact z.lt
 have ownC:∀ x c,(cellsFrom (s.heap.objs.size+1) scope.names cl).lookup x=some c->s.heap.objs.size+1<=c\/cl.lookup x=some c:=λx c e=>Zt3 _ _ _ e;have bsz:X.base.objs.size<=s.heap.objs.size:=Jbi I.ok.bsz I.sz;refine⟨⟨I.ok.mod,B.kind,I.ok.glob,I.ok.blt,Jah _,?_,?_,?_,I.ok.hd,I.ok.frames,.inl rfl,?_,I.bs,bsz,?_,?_,I.stack,I.stkFree,I.ok.top⟩,rfl,I.bare,Un.kept hk,⟨_,hn,?_⟩,?_,I.hok.fresh (Jah _),?_,?_,I.hok.kept hk,?_⟩
 .exact Zra _ _ _ (λx c e=>Jcr (clt x c e)) λx y c e1 e2=>I.ok.inj x y c (hcl x c e1) (hcl y c e2)
 .intro x hx;have hx:(relabel scope X.env).names.lookup x=some .cell\/(relabel scope X.env).names.lookup x=some .free:=hx;have q:scope.names.lookup x=some .cell\/scope.names.lookup x=some .free:=by
   rcases hx with z|z
   .exact Zeg z
   .exact (Zeg z).elim .inr .inr
  refine Jdo.mp (Jc3 scope.names _ _ ?_);rcases q with z|z
  .exact .inl z
  .obtain ⟨c,e⟩:=hcl2 _ (Jbc z) rfl;exact .inr (by rw[e];rfl)
 .intro x c hf e;have hf:(scope.names.lookup x == some .cell)=true:=hf;exact Jch (Zq8 _ _ _ (Jbc (Jbj.mp hf)) e)
 .intro b hb;obtain⟨o,ho⟩:=hfo b hb;refine⟨Ja6 (Jak ho),λx c e=>?_⟩;rcases ownC x c e with z|z
  .intro q;subst q;exact absurd (Jao (Jak ho) (Jch z)) (Jb0 _)
  .exact (hfp b hb).2.2.2.2.1 x c (hcl x c z)
 .intro b o e hb;rcases (hfp b hb).2.2.2.1 with z|z
  .exact I.ok.noex b o e z
  .exact absurd (Jao (Jak e) (Jbi I.ok.bsz z)) (Jb0 _)
 .intro b hb z;rcases Ja9.mp (I.stkSub b z) with q|q
  .exact (hfp b hb).2.1 q
  .exact (hfp b hb).2.2.1 q
 .intro i x v h1 h2 h3;have h1:(Zh6 own fr)[i]?=some x:=h1;unfold Zh6 at h1;unfold Zgq at h2;by_cases hi:i<own.length
  .rw [Jax (by rw[Jbp];exact hi),Jce,if_pos hi] at h2;cases h2
  .have hi':own.length<=i:=Nat.le_of_not_lt hi;rw[Jaw hi',Jac] at h1;rw[Jaw (by rw[Jbp];exact hi'),Jbp,Jac] at h2;cases e:fr[i-own.length]? with
   | none=>rw[e] at h1;cases h1
   | some y=>
    rw[e] at h1 h2;have hy1:y.1=x:=Ja7 h1;have hy2:(σ[y.2]?).getD none=some v:=Ja7 h2;obtain⟨c1,c2⟩:=B.cap y (Jae e);rw[hy1] at c1 c2;have hs:σ[y.2]?=some (some v):=by
     cases e2:σ[y.2]? with
     | none=>rw[e2] at hy2;cases hy2
     | some o=>rw[e2] at hy2;cases o with
      | none=>cases hy2
      | some w=>cases hy2;rfl
    refine Zac I.loc λm hm hl=>?_;have hfree:=B.free _ (Jbc c1) rfl;refine Zac (hl y.2 x v c2 hs (hfree.elim (λz=>.inr (.inl z)) λz=>.inr (.inr z))) λu r l=>?_;refine⟨u,r,?_⟩;obtain⟨k,c,e3,z⟩:(X.env.kindOf x=some .cell\/X.env.kindOf x=some .free)/\∃ c,X.env.cells.lookup x=some c/\s.heap.IsCell c (some u):=by
     rcases l with ⟨k,_⟩|q
     .have k:X.env.scope.names.lookup x=some .local:=k;rcases hfree with z|z <;> (rw[z] at k;cases k)
     .exact q
    obtain⟨d,hd⟩:=hcl2 _ (Jbc c1) rfl;have hd':=hcl x d hd;rw[e3] at hd';cases hd';obtain⟨c',hc'⟩:∃ c',(cellsFrom (s.heap.objs.size+1) scope.names cl).lookup x=some c':=Jdo.mp (Jc3 scope.names _ _ (.inr (by rw[hd];rfl)));have hcc:c'=c:=by
     rcases ownC x c' hc' with q|q
     .-- an own cell of that name: it is free,so no
      exfalso;have:(x,NameKind.cell)∉scope.names:=λm=>by
       have:=B.look _ m;rw[c1] at this;cases this
      exact absurd hc' (by
       rw[Zq9 this];intro z;rw[hd] at z;cases z;exact absurd (clt x _ hd) (Nat.not_lt.mpr (Jch q)))
     .rw [hd] at q;cases q;rfl
    subst hcc;refine .inr ⟨?_,c',hc',z.keeps hk⟩;exact Zgk c1
 .intro x c e;rcases hc x c e with z|z
  .exact ⟨_,z⟩
  .obtain ⟨v,q⟩:=I.cell x c (hcl x c z);exact⟨v,q.keeps hk⟩
 .intro x c e;rcases ownC x c e with z|z
  .exact I.hok.fresh (Jch z)
  .exact I.freeC x c (hcl x c z)
 .intro p hp;exact absurd (show p∈([]:List (Addr×Obj)) from hp) (by simp)
 .show (Zgq _ _ _).length=(Zh6 _ _).length;unfold Zgq Zh6;simp
end
def PTs (X:Cx)(ifs:List Expr)(t:TT):Prop:=
 ∀ (pins:List (Addr×Obj)) (s:Shared) (σ:St) (H:Hp) (Q:Bool->Hp->Prop),Inv X pins σ H s->t σ H Q->
  wpAny (model X.prog X.w) X.A (forIn ifs true λc r=>if r=true then do let ok <- isTrue c X.env (eval c X.env);pure (ForInStep.yield ok) else pure (ForInStep.yield r)) (TP X pins σ Q) X.xe s
def Zfv:TT:=λ_ H Q=>Q true H
theorem Zax {X:Cx}:PTs X [] Zfv:=λpins s σ H Q I h=>wpAny_tests_nil ⟨H,I,h⟩
theorem Zpf {X:Cx}{c:Expr}{t:TT}(hc:PT X c t):PTs X [c] t:=λpins s σ H Q I h=>wpAny_tests_one (hc pins s σ H Q I h)
section
variable {prog:Program}{w:World}{A:Around}{R:Result->Shared->Prop}{s:Shared}
theorem Zkr {elt target iter:Expr}{ifs:List Expr}{scope:Scope}{pos:Pos}{it acc:Value}{env:Env}(I:Nat->Shared->Prop)(turn:∀ n s,I n s->wpAny (model prog w) A (pyNext it) (λr s₁=>match r with
   | none=>R (.ok .next) s₁
   | some v=>wpAny (model prog w) A (letOwnedTupleGo target it v) (λ_ s₁=>wpAny (model prog w) A (assign target env v) (λ_ s₂=>
     wpAny (model prog w) A (forIn ifs true λc r=>if r=true then do let ok <- isTrue c env (eval c env);pure (ForInStep.yield ok) else pure (ForInStep.yield r)) (λok s₃=>
      if ok=true then wpAny (model prog w) A (eval elt env) (λx s₄=>
       wpAny (model prog w) A (call (.builtin "list.append") [acc,x]) (λ_ s₅=>∃ m,m<n/\I m s₅) (λ_ _=>False) s₄) (λ_ _=>False) s₃
      else ∃ m,m<n/\I m s₃) (λ_ _=>False) s₂) (λ_ _=>False) s₁) (λ_ _=>False) s₁) (λ_ _=>False) s)(n:Nat)(h:I n s):
  codeAny (model prog w) A (.compLoop (.ListComp elt [⟨target,iter,ifs,0⟩] scope pos) 0 it acc env) R s:=by
 refine codeAny_loop rfl I (λn s hI=>?_) n h;show wpAny _ A ((compTurn (.ListComp elt [⟨target,iter,ifs,0⟩] scope pos) 0 it acc env).onRaise (λx=>do noteFrame x env;theTreesLotGoes x)) _ _ s;refine wpAny_noted ?_;rw[compTurn_list];refine Jag (Jev (Jag (Jcj (turn n s hI) (λr s₁ h₁=>?_) λ_ _ h'=>h'.elim)));cases r with
 | none=>exact Ja2 h₁
 | some v=>
  refine Jag (Jcj h₁ (λ_ s₁' h₁'=>?_) λ_ _ h'=>h'.elim);refine Jag (Jcj h₁' (λ_ s₂ h₂=>Jag (Jcj h₂ (λok s₃ h₃=>?_) λ_ _ h'=>h'.elim)) λ_ _ h'=>h'.elim);cases ok with
  | false=>exact Ja2 ⟨rfl,h₃⟩
  | true=>
   exact Jag (Jag (Jcj h₃ (λx s₄ h₄=>Jag (Jcj h₄ (λ_ s₅ h₅=>Ja2 (Ja2 ⟨rfl,h₅⟩)) λ_ _ h'=>h'.elim)) λ_ _ h'=>h'.elim))
end
def Zbv (g:TG)(tt:TT)(te:TE)(J:It)(D:Addr)(σ0:St)(H1:Hp)(Q:VK):Prop:=
 ∃ W:Nat->Nat->St->Hp->Prop,(∃ m,W 0 m σ0 (upd H1 D (.lst [])))/\∀ i m σ' H2,W i m σ' H2->
  (J.stop i H2/\Q (.ref D) H2)\/(J.go i H2/\∀ x H3,J.yld i H2 x H3->g x σ' H3 λσ4 H4=>tt σ4 H4 λb H5=>
   if b=true then te σ4 H5 λy H6=>∃ vs,H6 D=some (.lst vs)/\vs.length<sizeLine/\∃ m',m'<m/\W (i+1) m' σ4 (upd H6 D (.lst (vs++[y])))
   else ∃ m',m'<m/\W (i+1) m' σ4 H5)
def tComp (k:Nat)(fr:List (Str×Nat))(wi:TI)(g:TG)(tt:TT)(te:TE):TE:=λσ H Q=>wi σ H λJ H1=>∀ D,H1 D=none->Zbv g tt te J D (Zgq k fr σ) H1 Q
section
variable {X:Cx}{tg iter elt:Expr}{ifs:List Expr}{scope:Scope}{pos:Pos}{own:List Str}{fr:List (Str×Nat)}{wi:TI}{g:TG}{tt:TT}{te:TE}
theorem Zna {pins:List (Addr×Obj)}{s2:Shared}{σ:St}{H2:Hp}{it:Addr}{fp:List Addr}{tn:Nat->Heap->Prop}{J:It}{Q:VK}{cl:List (Str×Addr)}{RR:Value->Addr->Result->Shared->Prop}{E:Value->Shared->Prop}(hc:X.calm=true)(B:BlScope X scope own fr)(hb:∀ cl s H fp,PG (Zjk X (Zh6 own fr) scope cl s H fp) tg g/\PTs (Zjk X (Zh6 own fr) scope cl s H fp) ifs tt/\PE (Zjk X (Zh6 own fr) scope cl s H fp) elt te)(hcl:∀ x c,cl.lookup x=some c->X.env.cells.lookup x=some c)(hcl2:∀ y∈scope.names,y.2=.free->∃ c,cl.lookup y.1=some c)(I2:Inv X pins σ H2 s2)(T:Turn X.prog X.w X.K tg J fp it tn)(st2:tn 0 s2.heap)(f2:∀ b∈fp,FpOk X pins H2 b)(q:∀ D,H2 D=none->Zbv g tt te J D (Zgq own.length fr σ) H2 Q)(hRR:∀ D C s' H',Inv X pins σ H' s'->Q (.ref D) H'->(∃ m,s'.heap.Ns C m)->C≠X.env.locals->(∀ x c,X.env.cells.lookup x=some c->c≠C)->(∀ p∈X.pn++pins,p.1≠C)->X.s₀.heap.objs.size<=C->H' C=none->RR (.ref D) C (.ok .next) s'):
  wpAny (model X.prog X.w) X.A (newList []) (λacc s₃=>wpAny (model X.prog X.w) X.A (newFunctionEnv scope X.env.globals cl [] X.env.qual none .none (some X.env)) (λcenv s₄=>
   codeAny (model X.prog X.w) X.A (.compStart (.ListComp elt [⟨tg,iter,ifs,0⟩] scope pos) 0 (.ref it) acc { cenv with scope:=relabel scope X.env }) (RR acc cenv.locals) s₄) E s₃) E s2:=by
 refine wpAny_newObj_type ?_;have fr0:H2 s2.heap.objs.size=none:=I2.hok.fresh (Jah _);have I3:=I2.lnew (its:=[]) (ys:=[]) (t':=s2.toks) .nil (Jcl _);generalize hs3:({ s2 with heap:=s2.heap.push { cls:=.type "list",data:=.seq ([]:List Value).toArray } }:Shared)=s3 at *;have k23:∀ b o,s2.heap.get? b=some o->s3.heap.get? b=some o:=λb o e=>by rw[<- hs3];exact Jaj _ e
 have sz3:s3.heap.objs.size=s2.heap.objs.size+1:=by rw[<- hs3];exact Jbt ..
 have I3':Inv X pins σ (upd H2 s2.heap.objs.size (.lst [])) s3:=I3;have fne:∀ b∈fp,b≠s2.heap.objs.size:=λb hb z=>by
  refine Zac (T.obj 0 _ st2 b hb) λo ho _=>?_;exact absurd (Jak ho) (by rw[z];exact Jb0 _)
 have f3:∀ b∈fp,FpOk X pins (upd H2 s2.heap.objs.size (.lst [])) b:=λb hb=>⟨by rw[Zah (fne b hb)];exact (f2 b hb).1,(f2 b hb).2⟩
 have st3:tn 0 s3.heap:=T.keep 0 _ _ st2 λb _ o e=>k23 b o e;have hfo:∀ b∈fp,∃ o,s3.heap.get? b=some o:=λb hb=>let ⟨o,ho,_⟩:=T.obj 0 _ st3 b hb;⟨o,ho⟩;refine Zka λh' hn hk hce=>?_;have I4:=Zql (own:=own) I3' B hcl hcl2 f3 hfo hn hk hce;refine Za2 (hb cl s3 (upd H2 s2.heap.objs.size (.lst [])) fp) λhg ht he=>?_;have st4:tn 0 h':=T.keep 0 _ _ st3 λb _ o e=>hk b o e;have stat:∀ {H':Hp},(∀ b∈fp,H' b=none)->∀ b∈fp,FpOk (Zjk X (Zh6 own fr) scope cl s3 (upd H2 s2.heap.objs.size (.lst [])) fp) [] H' b:=λ{H'} hnn b hb=>
  ⟨hnn b hb,(I4.ok.exf b hb).1,I4.ok.exfs b hb,.inl hb,(I4.ok.exf b hb).2,λp hp=>absurd (show p∈([]:List (Addr×Obj)) from hp) (by simp)⟩
 refine Zac (q s2.heap.objs.size fr0) λW e92 turn=>?_;obtain⟨m0,w0⟩:=e92;have loop:codeAny (model X.prog X.w) X.A (.compLoop (.ListComp elt [⟨tg,iter,ifs,0⟩] scope pos) 0 (.ref it) (.ref s2.heap.objs.size) (Zjk X (Zh6 own fr) scope cl s3 (upd H2 s2.heap.objs.size (.lst [])) fp).env)
   (RR (.ref s2.heap.objs.size) s3.heap.objs.size) { s3 with heap:=h' }:=by
  refine Zkr (λn s'=>∃ i σ' H',Inv (Zjk X (Zh6 own fr) scope cl s3 (upd H2 s2.heap.objs.size (.lst [])) fp) [] σ' H' s'/\tn i s'.heap/\(∀ b∈fp,H' b=none)/\W i n σ' H') ?_ m0
   ⟨0,_,_,I4,st4,λb hb=>(f3 b hb).1,w0⟩
  intro n s5 e91;refine Zda e91 λi σ5 H5 I5 st5 fr5 w5=>?_;clear e91;rcases turn i n σ5 H5 w5 with ⟨stop,qn⟩|⟨go,step⟩
  .refine thn (T.done (Zjk X (Zh6 own fr) scope cl s3 (upd H2 s2.heap.objs.size (.lst [])) fp) rfl rfl rfl hc i [] s5 σ5 H5 _ I5 (stat fr5) st5 stop) λr s6 ⟨hr,I6⟩=>?_;subst hr;have I7:Inv X pins σ H5 s6:=I3'.call' (ch:=fp) I6.os I6.base I6.hok I6.bare λb hb=>⟨(f3 b hb).2.2.2.1,(f3 b hb).2.1,(f3 b hb).2.2.2.2.1,(f3 b hb).2.2.2.2.2⟩
   refine Zac I6.loc λm6 hn6 _=>?_;refine hRR _ _ s6 H5 I7 qn ⟨m6,hn6⟩ (Jd6 I3'.lt) (λx c e=>?_) (λp hp=>?_) I3'.sz I6.free
   .obtain ⟨v,z⟩:=I3'.cell x c e;exact Ja6 z.lt
   .exact Ja6 (Jak (I3'.pin p hp).1)
  .refine thn (T.item (Zjk X (Zh6 own fr) scope cl s3 (upd H2 s2.heap.objs.size (.lst [])) fp) rfl rfl rfl hc i [] s5 σ5 H5 _ I5 (stat fr5) st5 go) λr s6 ⟨u,hr,h6⟩=>?_;subst hr;refine thn h6 λ_ s7 ⟨x,H7,I7,r7,y7,st7,fr7⟩=>?_;have I7':=I7.pinned (stat fr7) (T.obj _ _ st7);refine thn (hg _ s7 σ5 H7 x u _ I7' r7 (step x H7 y7)) λ_ s8 ⟨σ8,H8,I8,q8⟩=>?_;refine thn (ht _ s8 σ8 H8 _ I8 q8) λb s9 ⟨H9,I9,q9⟩=>?_;have again:∀ {sA:Shared} {σA:St} {HA:Hp} {m':Nat},Inv (Zjk X (Zh6 own fr) scope cl s3 (upd H2 s2.heap.objs.size (.lst [])) fp) ([]++Zj5 fp s7.heap) σA HA sA->m'<n->W (i+1) m' σA HA->
     ∃ m,m<n/\∃ i σ' H',Inv (Zjk X (Zh6 own fr) scope cl s3 (upd H2 s2.heap.objs.size (.lst [])) fp) [] σ' H' sA/\tn i sA.heap/\(∀ b∈fp,H' b=none)/\W i m σ' H':=λ{sA σA HA m'} IA hm wA=>by
    refine⟨m',hm,i+1,σA,HA,IA.unpinned,T.keep _ _ _ st7 λb hb o e=>(IA.pin (b,o) (Ja8 _ (Ja8 _ (Zdk hb e)))).1,λb hb=>?_,wA⟩;refine Zac (T.obj _ _ st7 b hb) λo e d=>?_;exact (IA.pin (b,o) (Ja8 _ (Ja8 _ (Zdk hb e)))).2.1
   cases b with
   | false=>
    refine Zac q9 λm' hm w9=>?_;clear q9;exact again I9 hm w9
   | true=>
    have q9:te σ8 H9 _:=q9;show wpAny _ _ _ _ _ _;refine thn (he _ s9 σ8 H9 _ I9 q9) λy sA ⟨vy,HA,IA,rA,vs,hvs,hlen,m',hm,wA⟩=>?_;refine thn (Zdj (X:=Zjk X (Zh6 own fr) scope cl s3 (upd H2 s2.heap.objs.size (.lst [])) fp) _ sA σ8 HA (.ref s2.heap.objs.size) [vy] (.ref s2.heap.objs.size) [y] (λ_ HB=>W (i+1) m' σ8 HB) IA rfl (.cons rA .nil) ⟨_,vs,vy,rfl,rfl,hvs,hlen,wA⟩) λ_ sB ⟨_,HB,IB,_,wB⟩=>?_;exact again IB hm wB
 exact codeAny_compStart_list loop (T.self _ 0 _ _ _ st4 loop)
theorem SameBut.get {a:Addr}{h h':Heap}(x:Heap.SameBut a h h'):∀ b o,b≠a->h.get? b=some o->h'.get? b=some o:=λb o n e=>(x.2 b n).trans e
theorem Zaz (hc:X.calm=true)(B:BlScope X scope own fr)(hi:PI X tg iter wi)(hb:∀ cl s H fp,PG (Zjk X (Zh6 own fr) scope cl s H fp) tg g/\PTs (Zjk X (Zh6 own fr) scope cl s H fp) ifs tt/\PE (Zjk X (Zh6 own fr) scope cl s H fp) elt te)(hs:∀ x,foldedSetIterable iter X.env x=pure x:=by intro _;rfl):
  PE X (.ListComp elt [⟨tg,iter,ifs,0⟩] scope pos) (tComp own.length fr wi g tt te):=by
 intro pins s σ H Q I h;refine Zal (Zl0 (scope:=scope) (env:=X.env) λy hy hf=>I.ok.has y.1 (B.free y hy hf)) λcl hclos hcl hcl2=>?_;rw[eval_ListComp];refine wpAny_comprehension_free (use:=none) rfl hs hclos B.kind B.loc (thn (hi pins s σ H _ I h) λv s1 h1=>thn h1 λitv s2 h2=>?_);refine Zh7 h2 λit fp tn J H2 e I2 T e93=>?_;clear h2;refine Za2 e93 λst2 f2 q=>?_;clear e93;subst e;refine Zna (RR:=λacc C=>compPost (model X.prog X.w) X.A X.xe none (EP X pins σ Q) acc C) (Q:=Q) hc B hb hcl hcl2 I2 T st2 f2 q ?_;intro D C s' H' I' hq hn n1 n2 n3 n4 n5;obtain⟨m,hn⟩:=hn;refine⟨m,hn,λh' hs'=>⟨.ref D,H',I'.turned (it:=C) (t':=s'.toks) (λb o hb e=>SameBut.get hs' b o hb e) n5 (Jdl (Jdl n1)) (.inr n4) n2 n3,rfl,hq⟩⟩
theorem Zht {i:Nat}{x:Str}{pos' spos:Pos}(hc:X.calm=true)(B:BlScope X scope own fr)(hi:PI X tg iter wi)(hb:∀ cl s H fp,PG (Zjk X (Zh6 own fr) scope cl s H fp) tg g/\PTs (Zjk X (Zh6 own fr) scope cl s H fp) ifs tt/\PE (Zjk X (Zh6 own fr) scope cl s H fp) elt te)(hN:X.N.Nodup)(hix:X.N[i]?=some x)(hx:X.env.scope.names.lookup x=some .local)(hsw:swapsWith (.ListComp elt [⟨tg,iter,ifs,0⟩] scope pos) (some (.Name x pos')) spos.line X.env=pure true)(hs:∀ x,foldedSetIterable iter X.env x=pure x:=by intro _;rfl):
  PS X (.Assign [.Name x pos'] (.ListComp elt [⟨tg,iter,ifs,0⟩] scope pos) spos) (tAsg (tComp own.length fr wi g tt te) (Zbh i)):=by
 intro pins s σ H D I h;refine Zal (Zl0 (scope:=scope) (env:=X.env) λy hy hf=>I.ok.has y.1 (B.free y hy hf)) λcl hclos hcl hcl2=>?_;rw[exec_Assign_Name_used _ _ _ _ hsw];refine Jag (Jev (Jag ?_));show wpAny _ _ (do let _ <- comprehension (.ListComp elt [⟨tg,iter,ifs,0⟩] scope pos) scope X.env _ (newList []) false (eval iter X.env) (some (assign (.Name x pos') X.env))) _ _ s;refine Jag (Jcj (wpAny_comprehension_free (use:=some (assign (.Name x pos') X.env)) (Q:=λ_ s'=>SP X pins D .next s') rfl hs hclos B.kind B.loc (thn (hi pins s σ H _ I h) λv s1 h1=>thn h1 λitv s2 h2=>?_))
  (λ_ s' hq=>Ja2 (Ja2 hq)) λ_ _ e=>e)
 refine Zh7 h2 λit fp tn J H2 e I2 T e94=>?_;clear h2;refine Za2 e94 λst2 f2 q=>?_;clear e94;subst e;refine Zna (RR:=λacc C=>compPost (model X.prog X.w) X.A X.xe (some (assign (.Name x pos') X.env)) (λ_ s'=>SP X pins D .next s') acc C) (Q:=λv H'=>Zbh i v σ H' D.nx) hc B hb hcl hcl2 I2 T st2 f2 q ?_;intro DD C s' H' I' hq hn n1 n2 n3 n4 n5;obtain⟨m,hn⟩:=hn;show wpAny _ _ (assign (.Name x pos') X.env (.ref DD)) _ _ s';refine wpAny_assign_Name (Zjt I' hN hix (.inl hx) (v:=.ref DD) rfl (λs3 I3 ⟨a,hsa,ha⟩=>?_) (.inr hx));have hCa:C≠a:=by
  rcases ha with z|z
  .rw [z];exact n1
  .exact (n2 x a z).symm
 refine⟨m,hn.sameBut hsa hCa,λh' hs'=>⟨σ.set i (some (.ref DD)),H',I3.turned (it:=C) (t':=s3.toks) (λb o hb e=>SameBut.get hs' b o hb e) n5 n1 (.inr n4) n2 n3,hq⟩⟩
end
section
variable {X:Cx}
theorem Zbs:OpR X (binaryOp .Mult) (rI IntMulOk λi j=>.int (i*j)):=
 opI λi j t u s Q E c h=>PyProof.Rows.mul_int h c
def cV:V->Option Value
 | .ty n=>some (.type n)
 | .ref a=>some (.ref a)
 | _=>none
theorem Zaw:Zga X (.builtin "isinstance") (λxs H Q=>∃ x y c t b,xs=[x,y]/\cV y=some c/\TyOf X.K H x t/\PySem.W.kitOne X.K t c=some b/\Q (.bl b) H):=by
 intro pins s σ H xs us Q I r h;refine Zh7 h λx y c t b e93 hc ty e94=>?_;clear h;obtain rfl:=e93;obtain⟨e,q⟩:=e94;refine Zca (vals2 r) λu v e95 rx ry=>?_;obtain rfl:=e95;have hv:v=c:=by
  cases y <;> first|(cases hc;done)|(cases hc;cases ry;rfl)
 subst hv;exact Zqg I rx ty e λtk=>⟨.bl b,H,I.tok _,rfl,q⟩
theorem Zcy (bs:List Bool):(List.range bs.length).all (λi=>(bs[i]?).getD true)=bs.all id:=by
 rw[Jbr,Jay,Jay];constructor
 .intro h b hb;obtain⟨i,hi,rfl⟩:=Jan.mp hb;have:=h i (Jbk.mpr hi);rw[Jaa hi] at this;exact this
 .intro h i hi;have hi:=Jbk.mp hi;rw[Jaa hi];exact h _ (Jbd hi)
theorem Zl4 {A:Around}{prog:Program}{w:World}{bs:List Bool}{its:List Value}(r:Vals (bs.map V.bl) its):TruthOf prog w A (λi v=>its.toArray[i]?=some v) (λi=>(bs[i]?).getD true):=by
 intro i v s Q E hP hQ;have hP:its[i]?=some v:=by simpa using hP
 have hl:=r.length;rw[Jab] at hl;have hi:i<bs.length:=by rw[hl];exact (Jaf.mp hP).1
 obtain⟨u,hu,rv⟩:=r.get (i:=i) (x:=.bl bs[i]) (by rw[Jac,Jaa hi];rfl);rw[hP] at hu;cases hu;cases rv;have hQ:Q ((bs[i]?).getD true) s:=hQ;rw[Jaa hi] at hQ;exact Jbl hQ
theorem Zb9 (hc:X.calm=true):Zga X (.builtin "all") (λxs H Q=>∃ (p:Addr) (bs:List Bool),xs=[.ref p]/\SqL X.K H p (bs.map V.bl)/\Q (.bl (bs.all id)) H):=by
 intro pins s σ H xs us Q I r h;refine Zca h λp bs e96 hq q=>?_;clear h;obtain rfl:=e96;refine Zac (Zk1 r) λu e97 rx=>?_;obtain rfl:=e97;cases rx;refine Zal (I.list hq) λits rv pl hz=>?_;have hl:=rv.length;rw[Jab] at hl;refine call_all_walk (Jcg pl.isList ?_);have hne:p≠s.heap.objs.size:=λe=>by
  refine Zbd pl λo n ho _=>?_;clear pl;exact absurd (Jak ho) (by rw[e];exact Jb0 _)
 refine xI7_1 s.heap.objs.size _ _ _ _ _ (λi=>(bs[i]?).getD true) ⟨rfl,Walks.list (A:=X.A.in1) (I.ok.hd hc) _ p hne its.toArray,⟨⟨_,Jas _ rfl,rfl,rfl⟩,pl.isList.at λo e=>Jaj _ e⟩,Zl4 rv,λh' tk kp=>?_⟩;have e:(List.range its.toArray.size).all (λi=>(bs[i]?).getD true)=bs.all id:=by
  rw[Jap,<- hl];exact Zcy bs
 rw[e];have f:=I.fpOk (H':=H) (Jah s.heap.objs.size) (I.hok.fresh (Jah _));exact Zat (.bl _) H ⟨(I.kept (h':=s.heap.push { cls:=.type "list_iterator",data:=.fields #[.ref p,.int 0 0] }) (t':=s.toks) λb o e=>Jaj _ e).turned (it:=s.heap.objs.size) (t':=tk) (λb o hb e=>kp b o (by simpa using hb) e) f.1 f.2.1 f.2.2.2.1 f.2.2.2.2.1 f.2.2.2.2.2,rfl,q⟩
end
inductive EqD (K:Frag) (H:Hp):Nat->V->V->Bool->Prop where
 | flat {n:Nat} {x y:V} (hx:Zn2 x=true) (hy:Zn2 y=true):EqD K H n x y (eqV x y)
 | same {n:Nat} {a:Addr}:EqD K H n (.ref a) (.ref a) true
 | list {n:Nat} {a c:Addr} {xs ys:List V} {bs:List Bool} (ne:a≠c) (ha:SqL K H a xs) (hc:SqL K H c ys) (hl:xs.length=ys.length) (hb:bs.length=xs.length)
   (he:∀ (j:Nat) x y b,xs[j]?=some x->ys[j]?=some y->bs[j]?=some b->EqD K H n x y b):EqD K H (n+1) (.ref a) (.ref c) (bs.all id)
 | listL {n:Nat} {a c:Addr} {xs ys:List V} (ne:a≠c) (ha:SqL K H a xs) (hc:SqL K H c ys) (hl:xs.length≠ys.length):EqD K H (n+1) (.ref a) (.ref c) false
 | tuple {n:Nat} {a c:Addr} {xs ys:List V} {bs:List Bool} (ne:a≠c) (ha:SqT K H a xs) (hc:SqT K H c ys) (hl:xs.length=ys.length) (hb:bs.length=xs.length)
   (he:∀ (j:Nat) x y b,xs[j]?=some x->ys[j]?=some y->bs[j]?=some b->EqD K H n x y b):EqD K H (n+1) (.ref a) (.ref c) (bs.all id)
def Zdx (K:Frag)(H:Hp)(n:Nat)(xs ys:List V)(bs:List Bool):Prop:=
 xs.length=ys.length/\bs.length=xs.length/\∀ (j:Nat) x y b,xs[j]?=some x->ys[j]?=some y->bs[j]?=some b->EqD K H n x y b
section
variable {X:Cx}{pins:List (Addr×Obj)}{σ:St}{H:Hp}{s:Shared}
theorem Zem {A:Around}{xs ys:List V}{us vs:List Value}{bs:List Bool}(rx:Vals xs us)(ry:Vals ys vs)(hl:xs.length=ys.length)(hb:bs.length=xs.length)(ih:∀ (j:Nat) x y b,xs[j]?=some x->ys[j]?=some y->bs[j]?=some b->∀ u v,RelV x u->RelV y v->SeqAt.EqAt A s u v b):
  ∀ j (h1:j<us.toArray.size) (h2:j<vs.toArray.size),SeqAt.EqAt A s us.toArray[j] vs.toArray[j] ((bs[j]?).getD true):=by
 intro j h1 h2;have e1:=rx.length;have e2:=ry.length;have h1':j<us.length:=by simpa using h1
 have h2':j<vs.length:=by simpa using h2
 have g1:xs[j]?=some (xs[j]'(by omega)):=Jaa _;have g2:ys[j]?=some (ys[j]'(by omega)):=Jaa _;have g3:bs[j]?=some (bs[j]'(by omega)):=Jaa _;refine Zac (rx.get g1) λu hu ru=>?_;refine Zac (ry.get g2) λv hv rv=>?_;have eu:us.toArray[j]=u:=by
  rw[Jaa h1'] at hu;simpa using hu
 have ev:vs.toArray[j]=v:=by
  rw[Jaa h2'] at hv;simpa using hv
 rw[eu,ev,g3];exact ih j _ _ _ g1 g2 g3 u v ru rv
theorem EqD.at {n:Nat}{x y:V}{b:Bool}(I:Inv X pins σ H s)(e:EqD X.K H n x y b):∀ {A:Around} {u v:Value},A.units+n<cLine->RelV x u->RelV y v->SeqAt.EqAt A s u v b:=by
 induction e with
 | flat hx hy=>intro A u v _ ru rv;exact eqAt_V ru rv hx hy
 | same=>intro A u v _ ru rv;cases ru;cases rv;exact SeqAt.EqAt.same _
 | @list n a c xs ys bs ne ha hc hl hb he ih=>
  intro A u v hA ru rv;cases ru;cases rv;refine Zal (I.list ha) λits r1 p1 _=>?_;refine Zal (I.list hc) λits' r2 p2 _=>?_;have e1:=r1.length;have e2:=r2.length;have q:=SeqAt.RcAt.lists (e:=λj=>(bs[j]?).getD true) p1.isList p2.isList (by simp;omega) ∅ (Zem (A:=A.in1) r1 r2 hl hb λj x y b h1 h2 h3 u v ru rv=>ih j x y b h1 h2 h3 (show A.units+1+n<cLine by omega) ru rv);rw[show its.toArray.size=bs.length by simp;omega,Zcy] at q;exact Jeo ne q
 | @listL n a c xs ys ne ha hc hl=>
  intro A u v hA ru rv;cases ru;cases rv;refine Zal (I.list ha) λits r1 p1 _=>?_;refine Zal (I.list hc) λits' r2 p2 _=>?_;have e1:=r1.length;have e2:=r2.length;exact Jeo ne (SeqAt.RcAt.lists_lengths p1.isList p2.isList (by simp;omega) ∅)
 | @tuple n a c xs ys bs ne ha hc hl hb he ih=>
  intro A u v hA ru rv;cases ru;cases rv;refine Zal (I.tuple ha) λits r1 p1 _=>?_;refine Zal (I.tuple hc) λits' r2 p2 _=>?_;have e1:=r1.length;have e2:=r2.length;have q:=SeqAt.RcAt.tuples (e:=λj=>(bs[j]?).getD true) p1 p2 ∅ (Zem (A:=A.in1) r1 r2 hl hb λj x y b h1 h2 h3 u v ru rv=>ih j x y b h1 h2 h3 (show A.units+1+n<cLine by omega) ru rv);rw[show min its.toArray.size its'.toArray.size=bs.length by simp;omega,Zcy,show (its.toArray.size == its'.toArray.size)=true by simp;omega,Jds] at q;exact Jeo ne q
def rEqL (K:Frag)(neg:Bool):R2:=λx y H Q=>∃ a c xs ys,x=.ref a/\y=.ref c/\SqL K H a xs/\SqL K H c ys /\
 ((xs.length≠ys.length/\Q (.bl neg) H)\/∃ bs,Zdx K H 6 xs ys bs/\Q (.bl (if neg then !bs.all id else bs.all id)) H)
def rEqT (K:Frag)(neg:Bool):R2:=λx y H Q=>∃ a c xs ys bs,x=.ref a/\y=.ref c/\SqT K H a xs/\SqT K H c ys/\Zdx K H 6 xs ys bs/\Q (.bl (if neg then !bs.all id else bs.all id)) H
theorem op_eqL (hu:X.A.units+8<cLine):OpR X (compareOp .Eq) (rEqL X.K false):=by
 intro pins s σ H x y v u Q I rx ry h;refine Zcd h λa c xs ys e921 e922 ha e923=>?_;clear h;obtain rfl:=e921;obtain rfl:=e922;obtain⟨hc,h⟩:=e923;cases rx;cases ry;refine Zal (I.list ha) λits r1 p1 _=>?_;refine Zal (I.list hc) λits' r2 p2 _=>?_;have e1:=r1.length;have e2:=r2.length;rcases h with ⟨hne,q⟩|⟨bs,⟨hl,hb,he⟩,q⟩
 .exact SeqAt.eq_list_lengthsAt p1.isList p2.isList (by simp;omega) ∅ ⟨.bl false,H,I,rfl,q⟩
 .refine SeqAt.eq_listAt (e:=λj=>(bs[j]?).getD true) p1.isList p2.isList (by simp;omega) ∅ (Zem (A:=X.A.in1) r1 r2 hl hb λj x y b h1 h2 h3 u v ru rv=>(he j x y b h1 h2 h3).at I (show X.A.units+1+6<cLine by omega) ru rv) ?_;rw[show its.toArray.size=bs.length by simp;omega,Zcy];exact Zat (.bl (bs.all id)) H ⟨I,rfl,q⟩
theorem Zus (hu:X.A.units+8<cLine):OpR X (compareOp .NotEq) (rEqL X.K true):=by
 intro pins s σ H x y v u Q I rx ry h;refine Zcd h λa c xs ys e924 e925 ha e926=>?_;clear h;obtain rfl:=e924;obtain rfl:=e925;obtain⟨hc,h⟩:=e926;cases rx;cases ry;refine Zal (I.list ha) λits r1 p1 _=>?_;refine Zal (I.list hc) λits' r2 p2 _=>?_;have e1:=r1.length;have e2:=r2.length;rcases h with ⟨hne,q⟩|⟨bs,⟨hl,hb,he⟩,q⟩
 .exact SeqAt.RcNeAt.lists_lengths p1.isList p2.isList (by simp;omega) ∅ _ _ _ _ ⟨.bl true,H,I,rfl,q⟩
 .refine SeqAt.RcNeAt.lists (e:=λj=>(bs[j]?).getD true) p1.isList p2.isList (by simp;omega) ∅ (Zem (A:=X.A.in1) r1 r2 hl hb λj x y b h1 h2 h3 u v ru rv=>(he j x y b h1 h2 h3).at I (show X.A.units+1+6<cLine by omega) ru rv) _ _ _ _ ?_;rw[show its.toArray.size=bs.length by simp;omega,Zcy];exact Zat (.bl (!bs.all id)) H ⟨I,rfl,q⟩
theorem Zpv (hu:X.A.units+8<cLine):OpR X (compareOp .Eq) (rEqT X.K false):=by
 intro pins s σ H x y v u Q I rx ry h;refine Zh7 h λa c xs ys bs e927 e928 ha e929=>?_;clear h;obtain rfl:=e927;obtain rfl:=e928;refine Za2 e929 λhc e930 q=>?_;clear e929;obtain⟨hl,hb,he⟩:=e930;cases rx;cases ry;refine Zal (I.tuple ha) λits r1 p1 _=>?_;refine Zal (I.tuple hc) λits' r2 p2 _=>?_;have e1:=r1.length;have e2:=r2.length;refine SeqAt.eq_tupleAt (e:=λj=>(bs[j]?).getD true) p1 p2 ∅ (Zem (A:=X.A.in1) r1 r2 hl hb λj x y b h1 h2 h3 u v ru rv=>(he j x y b h1 h2 h3).at I (show X.A.units+1+6<cLine by omega) ru rv) ?_;rw[show min its.toArray.size its'.toArray.size=bs.length by simp;omega,Zcy,show (its.toArray.size == its'.toArray.size)=true by simp;omega,Jds];exact Zat (.bl (bs.all id)) H ⟨I,rfl,q⟩
theorem op_neT (hu:X.A.units+8<cLine):OpR X (compareOp .NotEq) (rEqT X.K true):=by
 intro pins s σ H x y v u Q I rx ry h;refine Zh7 h λa c xs ys bs e931 e932 ha e933=>?_;clear h;obtain rfl:=e931;obtain rfl:=e932;refine Za2 e933 λhc e934 q=>?_;clear e933;obtain⟨hl,hb,he⟩:=e934;cases rx;cases ry;refine Zal (I.tuple ha) λits r1 p1 _=>?_;refine Zal (I.tuple hc) λits' r2 p2 _=>?_;have e1:=r1.length;have e2:=r2.length;refine SeqAt.RcNeAt.tuples (e:=λj=>(bs[j]?).getD true) p1 p2 ∅ (Zem (A:=X.A.in1) r1 r2 hl hb λj x y b h1 h2 h3 u v ru rv=>(he j x y b h1 h2 h3).at I (show X.A.units+1+6<cLine by omega) ru rv) _ _ _ _ ?_;rw[show min its.toArray.size its'.toArray.size=bs.length by simp;omega,Zcy,show (its.toArray.size == its'.toArray.size)=true by simp;omega,Jds];exact Zat (.bl (!bs.all id)) H ⟨I,rfl,q⟩
end
theorem Zkg (K:Frag):PySem.W.kitOne K (.type "int") (.type "int")=some true:=by rfl
theorem Zis (K:Frag):PySem.W.kitOne K (.type "int") (.type "bool")=some false:=by kernel_rfl
theorem Zfc (K:Frag):PySem.W.kitOne K (.type "bool") (.type "bool")=some true:=by rfl
theorem Znx (K:Frag):PySem.W.kitOne K (.type "bool") (.type "int")=some true:=by kernel_rfl
theorem Zhw (K:Frag):PySem.W.kitOne K (.type "tuple") (.type "tuple")=some true:=by rfl
theorem Zcu (K:Frag):PySem.W.kitOne K (.type "list") (.type "list")=some true:=by rfl
structure Cal (P:Program)(w:World)(K:Frag)(mg:Str->Option Value)(base:Heap)(x:Str)(k:Nat)(sp:Sp):Prop where
 ex:∃ (f:Addr) (fd:FuncData) (ps:List Str),FnOk P w K mg base CX0 k f fd ps sp/\mg x=some (.ref f)/\PySem.W.keepIn K (.ref f)=true/\Binds K fd ps []
theorem pe_cal {X:Cx}{x:Str}{k:Nat}{sp:Sp}{e:Expr}{es:List Expr}{t:TA}{p pos:Pos}(C:Cal X.prog X.w X.K X.mg X.base x k sp)(hr:Room k X.A)(hg:Gl X x)(ha:PA X (e::es) t)(hdb:(x == ("__debug__" : Str))=false:=by decide)(he:starEach (e::es) X.env=(false,eval e X.env)::starEach es X.env:=by rfl)(hpl:(backTo pos (starEach es X.env)).any (·.1)=false:=by rfl):
  PE X (.Call (.Name x p) (e::es) [] pos) (Zon sp [] E0 t):=by
 refine Zda C.ex λf fd ps F hm hk hb=>?_;exact pe_call F hr hg hm hk hb .nil Zsj ha hdb he hpl
structure CalM (P:Program)(w:World)(K:Frag)(mg:Str->Option Value)(base:Heap)(C:Addr)(m:Str)(k:Nat)(sp:Sp):Prop where
 ex:∃ (f:Addr) (fd:FuncData) (ps:List Str),FnOk P w K mg base CX0 k f fd ps sp/\Meth K C m f/\Binds K fd ps []
structure CalI (P:Program)(w:World)(K:Frag)(mg:Str->Option Value)(base:Heap)(x:Str)(C:Addr)(k:Nat)(sp:Sp):Prop where
 ex:∃ (f:Addr) (fd:FuncData) (ps:List Str),FnOk P w K mg base CX0 k f fd ps sp/\Mk K C f/\mg x=some (.ref C)/\Binds K fd ps []
theorem pe_new {X:Cx}{x:Str}{C:Addr}{k:Nat}{sp:Sp}{e:Expr}{es:List Expr}{t:TA}{p pos:Pos}(M:CalI X.prog X.w X.K X.mg X.base x C k sp)(hr:Room (k+1) X.A)(hg:Gl X x)(ha:PA X (e::es) t)(hdb:(x == ("__debug__" : Str))=false:=by decide)(he:starEach (e::es) X.env=(false,eval e X.env)::starEach es X.env:=by rfl)(hpl:(backTo pos (starEach es X.env)).any (·.1)=false:=by rfl):
  PE X (.Call (.Name x p) (e::es) [] pos) (Zom C sp [] E0 t):=by
 refine Zda M.ex λf fd ps F hm hk hb=>?_;exact pe_make hm F hr hg hk hb .nil Zsj ha hdb he hpl
theorem pe_mth {X:Cx}{m:Str}{C:Addr}{k:Nat}{sp:Sp}{o e:Expr}{es:List Expr}{ta:TE}{t:TA}{apos pos:Pos}{pl:Sem Bool}(c:Cls X.K C)(M:CalM X.prog X.w X.K X.mg X.base C m k sp)(hr:Room k X.A)(ho:PE X o ta)(ha:PA X (e::es) t)(hst:starEach (e::es) X.env=(false,eval e X.env)::starEach es X.env:=by rfl)(hpl:(backTo pos (starEach es X.env)).any (·.1)=false:=by rfl)(ht:eval (.Call (.Attribute o m apos) (e::es) [] pos) X.env=(do
   let ov <- eval o X.env
   standAt apos.atName
   let (f,first) <- holding [ov] (getMethod ov m pl)
   callWith pos f first (backTo pos (starEach (e::es) X.env)) (backToKw pos (keywordEach [] X.env))):=by rfl):
  PE X (.Call (.Attribute o m apos) (e::es) [] pos) (Zol C m sp [] E0 ta t):=by
 refine Ziy M.ex λf fd ps F hm hb=>?_;exact Zpo ho c hm F hr hb .nil Zsj ha hst hpl ht
def blOk (outer:List (Str×NameKind))(N:List Str)(scope:Scope)(fr:List (Str×Nat)):Bool:=
 scope.kind == .function && scope.names.all (λy=>y.2 != .free || outer.lookup y.1 == some .cell || outer.lookup y.1 == some .free) && scope.names.all (λy=>scope.names.lookup y.1 == some y.2) &&
 fr.all λy=>scope.names.lookup y.1 == some .free && N[y.2]? == some y.1
theorem Zbo {X:Cx}{scope:Scope}{own:List Str}{fr:List (Str×Nat)}(h:blOk X.env.scope.names X.N scope fr=true):BlScope X scope own fr:=by
 unfold blOk at h;simp only[Ja5,Jay] at h;obtain⟨⟨⟨h1,h2⟩,h3⟩,h4⟩:=h;refine⟨?_,λy hy hf=>?_,λy hy hl=>?_,λy hy=>?_,λy hy=>?_⟩
 .cases e:scope.kind <;> rw[e] at h1 <;> first|rfl|(exact absurd h1 ⇑0)
 .have:=h2 y hy;rw[hf] at this;simp only[Jdt,Jbj] at this;rcases this with (q|q)|q
  .exact absurd q ⇑0
  .exact .inl q
  .exact .inr q
 .have:=h3 y hy;rw[hl] at this;exact Jbj.mp this
 .exact Jbj.mp (h3 y hy)
 .have:=h4 y hy;exact⟨Jbj.mp this.1,Jbj.mp this.2⟩
def Sh (k:Nat)(cap σ:St):Prop:=∃ o,o.length=k/\σ=o++cap
theorem Sh.mk1 {cap:St}{a:Option V}:Sh 1 cap (a::cap):=⟨[a],rfl,rfl⟩
theorem Sh.mk2 {cap:St}{a b:Option V}:Sh 2 cap (a::b::cap):=⟨[a,b],rfl,rfl⟩
theorem Sh.one {cap σ:St}(h:Sh 1 cap σ):∃ a,σ=a::cap:=by
 refine Zac h λo h1 e92=>?_;clear h;obtain rfl:=e92
 match o,h1 with
 | [a],_=>exact⟨a,rfl⟩
theorem Sh.two {cap σ:St}(h:Sh 2 cap σ):∃ a b,σ=a::b::cap:=by
 refine Zac h λo h1 e93=>?_;clear h;obtain rfl:=e93
 match o,h1 with
 | [a,b],_=>exact⟨a,b,rfl⟩
def Zbi (fr:List (Str×Nat))(σ:St):St:=fr.map λy=>(σ[y.2]?).getD none
def Wv (n k:Nat)(cap:St)(Pv:Nat->List V->Hp->Prop):Nat->Nat->St->Hp->Prop:=λi m σ H=>m=n-i/\i<=n/\Sh k cap σ/\∃ vs,Pv i vs H
def Lf (D:Addr)(n k:Nat)(cap:St)(Pv:Nat->List V->Hp->Prop)(i:Nat)(σ4:St)(y:V)(H6:Hp):Prop:=
 ∃ vs,H6 D=some (.lst vs)/\vs.length<sizeLine/\∃ m',m'<n-i/\Wv n k cap Pv (i+1) m' σ4 (upd H6 D (.lst (vs++[y])))
def Lf0 (n k:Nat)(cap:St)(Pv:Nat->List V->Hp->Prop)(i:Nat)(σ4:St)(H5:Hp):Prop:=∃ m',m'<n-i/\Wv n k cap Pv (i+1) m' σ4 H5
theorem Zlu {D:Addr}{n k:Nat}{cap:St}{Pv:Nat->List V->Hp->Prop}{i:Nat}{σ4:St}{y:V}{H6:Hp}{vs ws:List V}(hi:i<n)(sh:Sh k cap σ4)(hD:H6 D=some (.lst vs))(hl:vs.length<sizeLine)(p:Pv (i+1) ws (upd H6 D (.lst (vs++[y])))):Lf D n k cap Pv i σ4 y H6:=⟨vs,hD,hl,n-(i+1),∅,rfl,hi,sh,ws,p⟩
theorem leaf0 {n k:Nat}{cap:St}{Pv:Nat->List V->Hp->Prop}{i:Nat}{σ4:St}{H5:Hp}{ws:List V}(hi:i<n)(sh:Sh k cap σ4)(p:Pv (i+1) ws H5):Lf0 n k cap Pv i σ4 H5:=⟨n-(i+1),∅,rfl,hi,sh,ws,p⟩
def Zer (g:TG)(tt:TT)(te:TE)(D:Addr)(n k:Nat)(cap:St)(Pv:Nat->List V->Hp->Prop)(i:Nat)(x:V)(σ':St)(H:Hp):Prop:=
 g x σ' H λσ4 H4=>tt σ4 H4 λb H5=>if b=true then te σ4 H5 λy H6=>Lf D n k cap Pv i σ4 y H6 else Lf0 n k cap Pv i σ4 H5
section
variable {K:Frag}{a D:Addr}{xs:List V}{g:TG}{tt:TT}{te:TE}{k:Nat}{fr:List (Str×Nat)}{σ:St}{H1:Hp}{Q:VK}
theorem sh0:Sh k (Zbi fr σ) (Zgq k fr σ):=⟨List.replicate k none,Jbp,rfl⟩
theorem Zjn {J:It}{n:Nat}(it:Nat->V->Prop)(Pv:Nat->List V->Hp->Prop)(h0:Pv 0 [] (upd H1 D (.lst [])))(go:∀ i vs H,i<n->Pv i vs H->J.go i H/\∀ x H',J.yld i H x H'->H'=H/\it i x)(stop:∀ vs H,Pv n vs H->J.stop n H)(hs:∀ i x vs σ' H,i<n->it i x->Sh k (Zbi fr σ) σ'->Pv i vs H->Zer g tt te D n k (Zbi fr σ) Pv i x σ' H)(hd:∀ vs H,Pv n vs H->Q (.ref D) H):Zbv g tt te J D (Zgq k fr σ) H1 Q:=by
 refine⟨Wv n k (Zbi fr σ) Pv,⟨n,by simp,Jcl _,sh0,[],h0⟩,?_⟩;intro i m σ' H2 e91;refine Zch e91 λe94 hi sh e95=>?_;clear e91;obtain rfl:=e94;obtain⟨vs,p⟩:=e95;by_cases hlt:i<n
 .obtain ⟨g1,g2⟩:=go i vs H2 hlt p;refine .inr ⟨g1,λx H3 y=>?_⟩;obtain⟨rfl,hx⟩:=g2 x H3 y;exact hs i x vs σ' _ hlt hx sh p
 .have e:i=n:=∅
  subst e;exact .inl ⟨stop vs H2 p,hd vs H2 p⟩
theorem Zfp (Pv:Nat->List V->Hp->Prop)(h0:Pv 0 [] (upd H1 D (.lst [])))(hl:∀ i vs H,i<=xs.length->Pv i vs H->SqL K H a xs)(hs:∀ i x vs σ' H,i<xs.length->xs[i]?=some x->Sh k (Zbi fr σ) σ'->Pv i vs H->Zer g tt te D xs.length k (Zbi fr σ) Pv i x σ' H)(hd:∀ vs H,Pv xs.length vs H->Q (.ref D) H):Zbv g tt te (Itl K a) D (Zgq k fr σ) H1 Q:=
 Zjn (λi x=>xs[i]?=some x) Pv h0 (λi vs H hi p=>⟨⟨xs,xs[i],hl i vs H (Jbw hi) p,by simp[hi]⟩,λx H' y=>⟨y.1,y.2 xs (hl i vs H (Jbw hi) p)⟩⟩)
  (λvs H p=>⟨xs,hl _ vs H (Jah _) p,Jah _⟩) hs hd
theorem Zt0 (Pv:Nat->List V->Hp->Prop)(h0:Pv 0 [] (upd H1 D (.lst [])))(hl:∀ i vs H,i<=xs.length->Pv i vs H->SqT K H a xs)(hs:∀ i x vs σ' H,i<xs.length->xs[i]?=some x->Sh k (Zbi fr σ) σ'->Pv i vs H->Zer g tt te D xs.length k (Zbi fr σ) Pv i x σ' H)(hd:∀ vs H,Pv xs.length vs H->Q (.ref D) H):Zbv g tt te (Itt K a) D (Zgq k fr σ) H1 Q:=
 Zjn (λi x=>xs[i]?=some x) Pv h0 (λi vs H hi p=>⟨⟨xs,xs[i],hl i vs H (Jbw hi) p,by simp[hi]⟩,λx H' y=>⟨y.1,y.2 xs (hl i vs H (Jbw hi) p)⟩⟩)
  (λvs H p=>⟨xs,hl _ vs H (Jah _) p,Jah _⟩) hs hd
theorem Zjm {lo:Int}{n:Nat}(Pv:Nat->List V->Hp->Prop)(h0:Pv 0 [] (upd H1 D (.lst [])))(hs:∀ i x vs σ' H,i<n->x=.int (lo+i)->Sh k (Zbi fr σ) σ'->Pv i vs H->Zer g tt te D n k (Zbi fr σ) Pv i x σ' H)(hd:∀ vs H,Pv n vs H->Q (.ref D) H):Zbv g tt te (Itr lo n) D (Zgq k fr σ) H1 Q:=
 Zjn (λi x=>x=.int (lo+i)) Pv h0 (λi vs H hi p=>⟨hi,λx H' y=>y⟩) (λvs H p=>Jah _) hs hd
end
def Ext (l:Addr)(H H':Hp):Prop:=∀ b o,b≠l->H b=some o->H' b=some o
theorem Ext.refl (l:Addr)(H:Hp):Ext l H H:=λ_ _ _ e=>e
theorem Ext.trans {l:Addr}{H H1 H2:Hp}(a:Ext l H H1)(b:Ext l H1 H2):Ext l H H2:=λc o n e=>b c o n (a c o n e)
theorem Ext.set {l:Addr}{H:Hp}{o:HO}:Ext l H (upd H l o):=λc u n e=>by rw[Zah n];exact e
theorem Same.ext {l:Addr}{H H':Hp}(s:Same H H'):Ext l H H':=λc o _ e=>s c o e
theorem Same.new {p:Addr}{H:Hp}{o:HO}(h:H p=none):Same H (upd H p o):=λc u e=>by rw[Zah (Zai e h)];exact e
theorem Same.upd {p:Addr}{H H':Hp}{o:HO}(s:Same H H')(h:H p=none):Same H (upd H' p o):=λc u e=>by rw[Zah (Zai e h)];exact s c u e
theorem Ext.free {l p:Addr}{H H':Hp}(s:Ext l H H')(n:p≠l)(h:H' p=none):H p=none:=by
 cases e:H p with
 | none=>rfl
 | some o=>rw[s p o n e] at h;cases h
theorem cx_K {CX:CXT}{P:Program}{w:World}{K:Frag}{mg:Str->Option Value}{base:Heap}{N:List Str}{qual:Str}{scope:Scope}{f:Addr}{cd:Value}{A:Around}{outer:List Env}{s:Shared}{H:Hp}{E:XK}:(Ztv CX P w K mg base N qual scope f cd A outer s H E).K=K:=rfl
theorem in_K {X:Cx}{N:List Str}{scope:Scope}{cl:List (Str×Addr)}{s:Shared}{H:Hp}{fp:List Addr}:(Zjk X N scope cl s H fp).K=X.K:=rfl
theorem Zuf {X:Cx}{E:Value->Shared->Prop}:(X.wish E).K=X.K:=rfl
theorem Zel {X:Cx}{x:Str}{i:Int}{pos:Pos}(hg:Gl X x)(hm:∃ t,X.mg x=some (.int i t))(hd:(x == ("__debug__" : Str))=false:=by decide):PE X (.Name x pos) (tC (.int i)):=by
 obtain⟨t,e⟩:=hm;exact Zpp hg e ⟨t,rfl⟩ hd
theorem Zd5 {α:Type}{xs:List α}{i:Int}{v:α}(h0:0<=i)(h:xs[i.toNat]?=some v):atI xs i=some v:=by
 have e:((i.toNat:Nat):Int)=i:=Jb9 h0;rw[<- e];exact atI_nat h
def Zbl:Expr->Bool
 | .Starred _ _=>true
 | _=>false
theorem Zay {e:Expr}{es:List Expr}{env:Env}(h:Zbl e=false):starEach (e::es) env=(false,eval e env)::starEach es env:=by
 cases e <;> first|rfl|cases h
theorem Zej {pos:Pos}{env:Env}:∀ {es:List Expr},es.all (λx=>!Zbl x)=true->(backTo pos (starEach es env)).any (·.1)=false
 | [],_=>rfl
 | e::es,h=>by
  rw[Jdu,Ja5] at h;have h1:Zbl e=false:=by simpa using h.1
  rw[Zay h1];show ((false,_).1 || (backTo pos (starEach es env)).any (·.1))=false;rw[Zej h.2];rfl
section
variable {X:Cx}{x:Str}{p pos:Pos}{e:Expr}{es:List Expr}{te:TE}{t:TA}{id T:String}{r:List V->Hp->VK->Prop}
theorem pa_c (ha:PE X e te)(hr:PA X es t)(h:Zbl e=false:=by rfl):PA X (e::es) (Zi1 te t):=pa_cons ha hr (Zay h)
theorem Za1 (hc:Zga X (.builtin id) r)(hg:Gl X x)(hm:X.mg x=none)(hv:bootBuiltins x=some (.builtin id))(ha:PA X (e::es) t)(h:Zbl e=false:=by rfl)(h2:es.all (λx=>!Zbl x)=true:=by rfl)(hn:x ≠ "__name__" := by decide)(hdb:(x == ("__debug__" : Str))=false:=by decide):PE X (.Call (.Name x p) (e::es) [] pos) (tCB r t):=Zsi hc hg hm hv ha hn hdb (Zay h) (Zej h2)
theorem Zj6 (hc:Zga X (.type T) r)(hg:Gl X x)(hm:X.mg x=none)(hv:bootBuiltins x=some (.type T))(ha:PA X (e::es) t)(h:Zbl e=false:=by rfl)(h2:es.all (λx=>!Zbl x)=true:=by rfl)(hn:x ≠ "__name__" := by decide)(hdb:(x == ("__debug__" : Str))=false:=by decide):PE X (.Call (.Name x p) (e::es) [] pos) (tCB r t):=Zpr hc hg hm hv ha hn hdb (Zay h) (Zej h2)
theorem Za9 {k:Nat}{sp:Sp}(C:Cal X.prog X.w X.K X.mg X.base x k sp)(hr:Room k X.A)(hg:Gl X x)(ha:PA X (e::es) t)(h:Zbl e=false:=by rfl)(h2:es.all (λx=>!Zbl x)=true:=by rfl)(hdb:(x == ("__debug__" : Str))=false:=by decide):PE X (.Call (.Name x p) (e::es) [] pos) (Zon sp [] E0 t):=pe_cal C hr hg ha hdb (Zay h) (Zej h2)
theorem Zun {C:Addr}{k:Nat}{sp:Sp}(M:CalI X.prog X.w X.K X.mg X.base x C k sp)(hr:Room (k+1) X.A)(hg:Gl X x)(ha:PA X (e::es) t)(h:Zbl e=false:=by rfl)(h2:es.all (λx=>!Zbl x)=true:=by rfl)(hdb:(x == ("__debug__" : Str))=false:=by decide):PE X (.Call (.Name x p) (e::es) [] pos) (Zom C sp [] E0 t):=pe_new M hr hg ha hdb (Zay h) (Zej h2)
theorem Zia {tg a:Expr}{ta:TA}(hg:Gl X "range")(hm:X.mg "range" = none)(ha:PA X [a] ta)(h:Zbl a=false:=by rfl):PI X tg (.Call (.Name "range" p) [a] [] pos) (Ztj ta):=Zpm hg hm ha (Zay h)
theorem pi_r2 {tg a b:Expr}{ta:TA}(hg:Gl X "range")(hm:X.mg "range" = none)(ha:PA X [a,b] ta)(h:Zbl a=false:=by rfl)(h2:Zbl b=false:=by rfl):PI X tg (.Call (.Name "range" p) [a,b] [] pos) (Zti ta):=
 Zpl hg hm ha (by rw[Zay h,Zay h2];rfl) (Zay h2)
end
theorem Zo2 {i j:Int}:scal (.int i) (.int j)=true:=rfl
theorem Zo3 {i j:Bool}:scal (.bl i) (.bl j)=true:=rfl
theorem Zo1 {i j:Str}:scal (.str i) (.str j)=true:=rfl
theorem Zes {X:Cx}{x:Str}{n:String}{pos:Pos}(hg:Gl X x)(hm:X.mg x=none)(hv:bootBuiltins x=some (.type n))(hn:x ≠ "__name__" := by decide)(hd:(x == ("__debug__" : Str))=false:=by decide):PE X (.Name x pos) (tC (.ty n)):=pe_bltn (v:=.ty n) hg hm hv rfl hn hd
section
variable {X:Cx}(K:Frag)(hK:X.K=K)
include hK
theorem Zc7 {pos:Pos}{es:List Expr}{k:Nat}{t:TGs}{n:Nat}(hc:X.calm=true)(h:PGs X es t)(hn:(assignEach es X.env).length=n)(hst:(assignEach es X.env).findIdx? (·.1)=none):PG X (.Tuple es k pos) (gTup K n t):=by subst hK;exact Zcs hc h hn hst
theorem Zjo:Zga X (.type "list") (λxs H Q=>∃ p ys,xs=[.ref p]/\(SqL K H p ys\/SqT K H p ys)/\∀ l,H l=none->Q (.ref l) (upd H l (.lst ys))):=by subst hK;exact Zc3
theorem Zb0:IxR X (rIxL K):=by subst hK;exact Zbg
theorem Zjg:IxR X (rIxT K):=by subst hK;exact Zbk
theorem Zsa:SlR X (rSlL K):=by subst hK;exact Zoz
theorem Zpq {e:Expr}{f:Str}{pos:Pos}{ta:TE}(he:PE X e ta)(hb:attributeBase e f X.env (eval e X.env)=eval e X.env):PE X (.Attribute e f pos) (tFld K ta f):=by subst hK;exact Zdh he hb
theorem Zjc {tg l:Expr}{tl:TE}(hl:PE X l tl):PI X tg l (Zqp K tl):=by subst hK;exact Za0 hl
theorem Zlm (hu:X.A.units+8<cLine):OpR X (compareOp .Eq) (rEqT K false):=by subst hK;exact Zpv hu
end
theorem Zrn {g:TG}{tb:TS}{D:Ends}{x:V}{σ:St}{H:Hp}(h:∀ D':Ends,D'=D->g x σ H λσ2 H2=>tb D' σ2 H2):g x σ H λσ2 H2=>tb D σ2 H2:=h D rfl
theorem cutI {c:TT}{A B:TS}{D:Ends}{σ:St}{H:Hp}(h:∀ A',A'=A->tIfS c A' B D σ H):tIfS c A B D σ H:=h A rfl
theorem atI_n {xs:List V}{k:Nat}{v:V}(h:xs[k]?=some v):atI xs ((k:Nat):Int)=some v:=Zd5 (Int.natCast_nonneg _) (by rw[Jbu];exact h)
theorem atI_z {xs:List V}{k:Nat}{v:V}(h:xs[k]?=some v):atI xs (0+((k:Nat):Int))=some v:=by rw[Int.zero_add];exact atI_n h
theorem atI_r {as:List Addr}{k:Nat}{a:Addr}(h:as[k]?=some a):atI (as.map V.ref) ((k:Nat):Int)=some (.ref a):=atI_n (by rw[Jac,h];rfl)
theorem atI_rz {as:List Addr}{k:Nat}{a:Addr}(h:as[k]?=some a):atI (as.map V.ref) (0+((k:Nat):Int))=some (.ref a):=by rw[Int.zero_add];exact atI_r h
end L2
set_option maxHeartbeats 1000000
namespace HT
open PySem PySem.Spec PyProof.Rows
section
variable {prog:Program}{w:World}{A:Around}{E:Value->Shared->Prop}{s:Shared}
end
end HT
namespace L2
open PySem PySem.Spec PyProof.Rows
theorem k_own (K:Frag)(C:Addr):PySem.W.kitOne K (.ref C) (.ref C)=some true:=by
 unfold PySem.W.kitOne;rw[if_pos]
 first|exact Jea _|(simp)|rfl
section
variable {X:Cx}{e es:Expr}{te ts:TE}{pos p2:Pos}
end
end L2
namespace L2
open PySem PySem.Spec PyProof.Rows
section
variable {X:Cx}
def rGetL (K:Frag):V->V->Hp->VK->Prop:=λx y H Q=>∃ p xs i v,x=.ref p/\y=.int i/\0<=i/\SqL K H p xs/\xs[i.toNat]?=some v/\Q v H
end
theorem Zqm {K:Frag}{H:Hp}(ns:List Int):Zdx K H 6 (ns.map V.int) (ns.map V.int) (List.replicate (ns.map V.int).length true):=by
 refine⟨rfl,Jbp,λn y z b h1 h2 h3=>?_⟩;have hn:n<(ns.map V.int).length:=(Jaf.mp h1).1;rw[Jce,if_pos hn] at h3;cases h3;rw[h1] at h2;cases h2;rw[Jac] at h1;rw[Jab] at hn;rw[Jaa hn] at h1;cases h1;have:=EqD.flat (K:=K) (H:=H) (n:=6) (x:=.int ns[n]) (y:=.int ns[n]) rfl rfl;rw[show eqV (.int ns[n]) (.int ns[n])=true from by simp[eqV]] at this;exact this
end L2
namespace L2
open PySem PySem.Spec PyProof.Rows
section
variable {X:Cx}{pins:List (Addr×Obj)}{σ:St}{H:Hp}{s:Shared}{h':Heap}
theorem Inv.turnedL {t':Nat}{fp:List Addr}(I:Inv X pins σ H s)(hf:∀ b∈fp,FpOk X pins H b)(k:∀ b o,b∉fp->s.heap.get? b=some o->h'.get? b=some o):Inv X pins σ H { s with heap:=h',toks:=t' }:=by
 have nit:∀ b u,H b=some u->b∉fp:=λb u e z=>by rw[(hf b z).1] at e;cases e
 refine I.step (g':=s.gens) (d':=s.drawn) (ch:=fp) (λb hb=>?_) (λb o _ _ hc e _=>k b o hc e) (λb o _ _ hc e _=>⟨o.slots,k b o hc e⟩) (λ_ _ _ _ n=>n)
  (λb o hc e=>⟨o,k b o hc e⟩) (λ_ _ e=>e) (λ_ _ _ e=>e) (λb ps e=>⟨#[],by rw[e];simp⟩) (λm hm=>?_) (λb u e=>?_) I.bare
 .refine Zfx (hf b hb) λf0 f1 f2 f3 f4 f5=>?_;exact⟨f3,f1,f4,f5⟩
 .refine Zeq hm λo es ep ho r=>?_;clear hm;exact Zb4 o es ep ⟨k _ o (λz=>(hf _ z).2.1 rfl) ho,r⟩
 .refine (I.hok b u e).stay (λc v hc q=>k c v ?_ q) (λ_ q=>q) (λ_ _ q=>q) λ_ _ _ q=>q;rcases hc with z|z
  .rw [z];exact nit b u e
  .exact nit c _ z
theorem Inv.turnedT {t':Nat}{fp:List Addr}{p:Addr}{o:HO}(I:Inv X pins σ H s)(hf:∀ b∈fp,FpOk X pins H b)(k:∀ b o,b∉fp->s.heap.get? b=some o->h'.get? b=some o)(hp:s.heap.objs.size<=p)(new:ObjOk X.prog X.w (upd H p o) h' p o):Inv X pins σ (upd H p o) { s with heap:=h',toks:=t' }:=by
 have hn:H p=none:=I.hok.fresh hp;have nit:∀ b u,H b=some u->b∉fp:=λb u e z=>by rw[(hf b z).1] at e;cases e
 have npp:∀ b u,s.heap.get? b=some u->b≠p:=λb u e=>Ja6 (Jao (Jak e) hp);refine I.step (g':=s.gens) (d':=s.drawn) (ch:=fp) (λb hb=>?_) (λb o _ _ hc e _=>k b o hc e) (λb o _ _ hc e _=>⟨o.slots,k b o hc e⟩) (λb o _ e n=>by rw[Zah (npp b o e)];exact n)
  (λb o hc e=>⟨o,k b o hc e⟩) (λb xs e=>by rw[Zah (Zai e hn)];exact e) (λb u xs e=>by rw[Zah (Zai e hn)];exact e) (λb ps e=>⟨#[],by rw[Zah (Zai e hn),e];simp⟩) (λm hm=>?_) (λb u e=>?_) I.bare
 .refine Zfx (hf b hb) λf0 f1 f2 f3 f4 f5=>?_;exact⟨f3,f1,f4,f5⟩
 .refine Zeq hm λo es ep ho r=>?_;clear hm;exact Zb4 o es ep ⟨k _ o (λz=>(hf _ z).2.1 rfl) ho,r⟩
 .by_cases hb:b=p
  .subst hb;rw[Zab] at e;cases e;exact new
  .rw [Zah hb] at e;refine (I.hok b u e).stay (λc v hc q=>k c v ?_ q) (λc q=>by rw[Zah (Zai q hn)];exact q) (λc xs q=>by rw[Zah (Zai q hn)];exact q) λc _ _ q=>by rw[Zah (Zai q hn)];exact q
   rcases hc with z|z
   .rw [z];exact nit b u e
   .exact nit c _ z
end
def Itz (K:Frag)(a b:Addr):It:=
 ⟨λi H=>∃ xs ys x y,SqL K H a xs/\SqL K H b ys/\xs[i]?=some x/\ys[i]?=some y,λi H v H'=>∃ x y p,v=.ref p/\H p=none/\H'=upd H p (.tup [x,y])/\(∀ xs,SqL K H a xs->xs[i]?=some x)/\∀ ys,SqL K H b ys->ys[i]?=some y,λi H=>∃ xs ys,SqL K H a xs/\SqL K H b ys/\(xs.length<=i\/ys.length<=i)⟩
theorem Zrw {P:Program}{w:World}{K:Frag}{elts:List Expr}{x1:Nat}{pos:Pos}{z TI TO i1 i2 a b:Addr}(D:ZipApart z TI TO i1 i2 a b):
  Turn P w K (.Tuple elts x1 pos) (Itz K a b) [z,TI,TO,i1,i2] z (λi h=>IsZip h z TI TO .none/\IsPair h TI (.ref i1) (.ref i2)/\(∃ u v,IsPair h TO u v)/\h.IsListIter i1 a i/\h.IsListIter i2 b i) where
 mem:=by simp
 obj:=λi h st c hc=>by
  refine Zdn st λhz hTI e92 e93 e94=>?_;clear st;obtain⟨u,v,hTO⟩:=e92;obtain⟨o1,e1,c1,d1⟩:=e93;obtain⟨o2,e2,c2,d2⟩:=e94;simp at hc;rcases hc with rfl|rfl|rfl|rfl|rfl
  .exact ⟨_,hz,λv z=>by have z':Data.fields _=Data.cell v:=z;cases z'⟩
  .exact ⟨_,hTI,λv z=>by have z':Data.seq _ _=Data.cell v:=z;cases z'⟩
  .exact ⟨_,hTO,λv z=>by have z':Data.seq _ _=Data.cell v:=z;cases z'⟩
  .exact ⟨o1,e1,λv z=>by rw[d1] at z;cases z⟩
  .exact ⟨o2,e2,λv z=>by rw[d2] at z;cases z⟩
 keep:=λi h h' st k=>by
  refine Zdn st λhz hTI e95 h1 h2=>?_;clear st;obtain⟨u,v,hTO⟩:=e95;exact⟨k z (by simp) _ hz,k TI (by simp) _ hTI,⟨u,v,k TO (by simp) _ hTO⟩,h1.at λo e=>k i1 (by simp) o e,h2.at λo e=>k i2 (by simp) o e⟩
 item:=by
  intro X hP hw hK hc i pins s σ H E I hf st hg;subst hP hw hK;refine Zcd hg λxs ys x y hqa hqb hx hy=>?_;clear hg;refine Zal (I.list hqa) λits rv p hz1=>?_;refine Zal (I.list hqb) λits2 rv2 p2 hz2=>?_;refine Zac (rv.get hx) λu hu ru=>?_;refine Zac (rv2.get hy) λu2 hu2 ru2=>?_;refine Zdn st λhz hTI e96 h1 h2=>?_;clear st;obtain⟨c,d,hTO⟩:=e96;refine wpAny_pyNext_zip_item D hz hTI hTO h1 h2 p.isList p2.isList (by simpa using hu) (by simpa using hu2) λh' a1 a2 a3 a4 a5 a6 a7=>?_;refine⟨_,rfl,wpAny_letOwnedTupleGo_zip a1 λh'' b1 b2=>?_⟩;have nz:s.heap.objs.size≠z:=Jd6 (Jak hz);have k2:∀ c o,c∉[z,TI,TO,i1,i2]->s.heap.get? c=some o->h''.get? c=some o:=λc o hc e=>by
   simp at hc;exact b2.extBut _ _ hc.1 (a7 c o hc.1 hc.2.2.1 hc.2.2.2.1 hc.2.2.2.2 e)
  have I2:Inv X pins σ (upd H s.heap.objs.size (.tup [x,y])) { s with heap:=h'' }:=I.turnedT (t':=s.toks) hf k2 (Jah _)
   ⟨by show 2<=sizeLine;decide,[u,u2],.cons ru (.cons ru2 .nil),_,b2.extBut _ _ nz a5,rfl,_,rfl⟩
  refine Zat (.ref s.heap.objs.size) _ ⟨I2,rfl,⟨x,y,_,rfl,I.hok.fresh (Jah _),rfl,λxs' hq=>by rw[I.list_inj hq hqa];exact hx,λys' hq=>by rw[I.list_inj hq hqb];exact hy⟩,⟨b1,b2.extBut _ _ D.TIz (a7 _ _ D.TIz D.TITO D.TIi1 D.TIi2 hTI),⟨_,_,b2.extBut _ _ D.TOz a2⟩,a3.extBut b2.extBut D.i1z,a4.extBut b2.extBut D.i2z⟩,λc hc=>?_⟩;have hlt:∀ c∈[z,TI,TO,i1,i2],c<s.heap.objs.size:=λc hc=>by
   simp at hc;refine Zac h1 λo1 e1 _=>?_;clear h1;refine Zac h2 λo2 e2 _=>?_;clear h2;rcases hc with rfl|rfl|rfl|rfl|rfl
   .exact Jak hz
   .exact Jak hTI
   .exact Jak hTO
   .exact Jak e1
   .exact Jak e2
  rw[Zah (Ja6 (hlt c hc))];exact (hf c hc).1
 done:=by
  intro X hP hw hK hc i pins s σ H E I hf st hg;subst hP hw hK;refine Zca hg λxs ys hqa hqb hx=>?_;clear hg;refine Zal (I.list hqa) λits rv p hz1=>?_;refine Zal (I.list hqb) λits2 rv2 p2 hz2=>?_;refine Zdn st λhz hTI e97 h1 h2=>?_;clear st;obtain⟨c,d,hTO⟩:=e97;have l1:=rv.length;have l2:=rv2.length;refine wpAny_pyNext_zip_end (I.ok.hd hc) D hz hTI hTO h1 h2 p.isList p2.isList ?_ λh' kk=>⟨rfl,I.turnedL (t':=s.toks) hf λc o hc e=>?_⟩
  .rcases hx with hx|hx
   .exact .inl (by simp;omega)
   .exact .inr (by simp;omega)
  .simp at hc;exact kk c o hc.1 hc.2.2.1 hc.2.2.2.1 hc.2.2.2.2 e
 self:=λ_ _ _ _ _ st h=>Jeb st.1 h
section
variable {X:Cx}
def iZip (K:Frag)(ta:TA):TI:=λσ H R=>ta σ H λvs H1=>∃ a b,vs=[.ref a,.ref b]/\(∃ xs,SqL K H1 a xs)/\(∃ ys,SqL K H1 b ys)/\R (Itz K a b) H1
theorem Zmq {elts:List Expr}{x1:Nat}{pt p pos:Pos}{a b:Expr}{ta:TA}(hg:Gl X "zip")(hm:X.mg "zip" = none)(ha:PA X [a,b] ta)(h:Zbl a=false:=by rfl)(h2:Zbl b=false:=by rfl):
  PI X (.Tuple elts x1 pt) (.Call (.Name "zip" p) [a,b] [] pos) (iZip X.K ta):=by
 intro pins s σ H R I hh;refine Call_ (Zfk I hg hm boot_zip (Jbx (thn (ha pos pins s σ H _ I hh) λus s1 ⟨vs,H1,I1,r1,q1⟩=>?_) (by rw[Zay h,Zay h2]) (by rw[Zay h2];rfl)));refine Zgs q1 λc d e e98 e99 q=>?_;clear q1;obtain⟨xs,hq1⟩:=e98;obtain⟨ys,hq2⟩:=e99;subst e;cases r1 with
 | cons r rr=>
  cases rr with
  | cons r' rr=>
   cases rr;cases r;cases r';refine Zal (I1.list hq1) λits rv p1 hz1=>?_;refine Zal (I1.list hq2) λits2 rv2 p2 hz2=>?_;have lt1:c<s1.heap.objs.size:=by obtain⟨o,ho,_⟩:=p1.isList;exact Jak ho
   have lt2:d<s1.heap.objs.size:=by obtain⟨o,ho,_⟩:=p2.isList;exact Jak ho
   refine call_zip_2 p1.isList p2.isList λh' a1 a2 a3 a4 a5 a6 a7=>Jeb (s:={ s1 with heap:=h' }) a1 ?_;refine Zix _ _ _ _ H1 ⟨rfl,I1.kept (t':=s1.toks) a7,Zrw (zipApart_new lt1 lt2),⟨a1,a2,⟨_,_,a3⟩,a4,a5⟩,λb hb=>?_,q⟩;have hb':s1.heap.objs.size<=b:=by
    simp at hb;rcases hb with rfl|rfl|rfl|rfl|rfl
    .exact Jcz _ _
    .exact Jcz _ _
    .exact Jcz _ _
    .exact Jah _
    .exact Jcz _ _
   have:=(I1.fpOk (H':=H1) hb' (I1.hok.fresh hb'))
   exact this
theorem Znf (hc:X.calm=true):Zga X (.builtin "sum") (λxs H Q=>∃ (p:Addr) (ns:List Int),xs=[.ref p]/\SqL X.K H p (ns.map V.int)/\Q (.int (preSum (λi=>ns.getD i 0) ns.length)) H):=by
 intro pins s σ H xs us Q I r h;refine Zca h λp ns e910 hq q=>?_;clear h;obtain rfl:=e910;refine Zac (Zk1 r) λu e911 rx=>?_;obtain rfl:=e911;cases rx;refine Zal (I.list hq) λits rv pl hz=>?_;have hl:=rv.length;rw[Jab] at hl;refine call_sum_walkG (Jcg pl.isList ?_);have hne:p≠s.heap.objs.size:=λe=>by
  refine Zbd pl λo n ho _=>?_;clear pl;exact absurd (Jak ho) (by rw[e];exact Jb0 _)
 refine xI7_1 s.heap.objs.size _ _ _ _ _ (λi=>ns.getD i 0) ⟨rfl,Walks.list (A:=X.A.in1) (I.ok.hd hc) _ p hne its.toArray,⟨⟨_,Jas _ rfl,rfl,rfl⟩,pl.isList.at λo e=>Jaj _ e⟩,?_,?_,λh' tk t' kp=>?_⟩
 .intro b hb;simp at hb;rcases hb with rfl|rfl
  .rw [Jbt];exact Jd9 _
  .rw [Jbt];refine Zac pl.isList λo ho _=>?_;exact Jcr (Jak ho)
 .intro i v hv;have hv:its[i]?=some v:=by simpa using hv
  have hi:i<ns.length:=by rw[hl];exact (Jaf.mp hv).1
  obtain⟨u,hu,ru⟩:=rv.get (i:=i) (x:=.int ns[i]) (by rw[Jac,Jaa hi];rfl);rw[hv] at hu;cases hu;obtain⟨t,rfl⟩:=ru;exact⟨t,by simp[hi]⟩
 .rw [Jap,<- hl];have f:=I.fpOk (H':=H) (Jah s.heap.objs.size) (I.hok.fresh (Jah _));exact Zat (.int _) H ⟨(I.kept (h':=s.heap.push { cls:=.type "list_iterator",data:=.fields #[.ref p,.int 0 0] }) (t':=s.toks) λb o e=>Jaj _ e).turned (it:=s.heap.objs.size) (t':=tk) (λb o hb e=>kp b o (by simpa using hb) e) f.1 f.2.1 f.2.2.2.1 f.2.2.2.2.1 f.2.2.2.2.2,⟨t',rfl⟩,q⟩
end
section
variable {K:Frag}{a b D:Addr}{xs ys:List V}{g:TG}{tt:TT}{te:TE}{k:Nat}{fr:List (Str×Nat)}{σ:St}{H1:Hp}{Q:VK}
theorem Zjl (Pv:Nat->List V->Hp->Prop)(hlen:ys.length=xs.length)(h0:Pv 0 [] (upd H1 D (.lst [])))(hl:∀ i vs H,i<=xs.length->Pv i vs H->SqL K H a xs/\SqL K H b ys)(hs:∀ i x y p vs σ' H,i<xs.length->xs[i]?=some x->ys[i]?=some y->H p=none->Sh k (Zbi fr σ) σ'->Pv i vs H->Zer g tt te D xs.length k (Zbi fr σ) Pv i (.ref p) σ' (upd H p (.tup [x,y])))(hd:∀ vs H,Pv xs.length vs H->Q (.ref D) H):
  Zbv g tt te (Itz K a b) D (Zgq k fr σ) H1 Q:=by
 refine⟨Wv xs.length k (Zbi fr σ) Pv,⟨xs.length,by simp,Jcl _,sh0,[],h0⟩,?_⟩;intro i m σ' H2 e91;refine Zch e91 λe912 hi sh e913=>?_;clear e91;obtain rfl:=e912;obtain⟨vs,p⟩:=e913;obtain⟨q1,q2⟩:=hl i vs H2 hi p;by_cases hlt:i<xs.length
 .refine .inr ⟨⟨xs,ys,xs[i],ys[i]'(by omega),q1,q2,by simp[hlt],by simp[hlen,hlt]⟩,λx H3 y=>?_⟩;refine Zda y λu v pp e914 hp e915 e916=>?_;clear y;obtain rfl:=e914;obtain rfl:=e915;obtain⟨e1,e2⟩:=e916;exact hs i u v pp vs σ' _ hlt (e1 _ q1) (e2 _ q2) hp sh p
 .have e:i=xs.length:=∅
  subst e;exact .inl ⟨⟨xs,ys,q1,q2,.inl (Jah _)⟩,hd vs H2 p⟩
end
end L2
namespace L2
open PySem PySem.Spec PyProof.Rows
def nrm (a b:Int):Int×Int:=(a / (Int.gcd a b:Int),b / (Int.gcd a b:Int))
def Low (x:Int×Int):Prop:=0<x.2/\Int.gcd x.1 x.2=1
theorem emulR (a b p:Int):a*(b % p) % p=a*b % p:=by rw[Int.mul_emod,Int.emod_emod,<- Int.mul_emod]
theorem Zfm {a b:Int}(hb:0<b):0<(Int.gcd a b:Int):=by
 have:0<Int.gcd a b:=Jc5 a ∅;omega
theorem Zp6 {a b:Int}:(nrm a b).1*(Int.gcd a b:Int)=a:=Jb2 (Jbo ..)
theorem Zlo {a b:Int}:(nrm a b).2*(Int.gcd a b:Int)=b:=Jb2 (Jbv ..)
theorem nrm_pos {a b:Int}(hb:0<b):0<(nrm a b).2:=by
 have h2:=@Zlo a b;have g0:=Zfm (a:=a) hb;rcases Jeu 0 (nrm a b).2 with h|h|h
 .exact h
 .rw [<- h,Int.zero_mul] at h2;omega
 .have:=Int.mul_neg_of_neg_of_pos h g0;omega
theorem Zp5 {a b:Int}(hb:0<b):Low (nrm a b):=by
 refine⟨nrm_pos hb,?_⟩;have h:=Int.gcd_mul_right (nrm a b).1 (Int.gcd a b:Int) (nrm a b).2;rw[Zp6,Zlo] at h;have g0:=Zfm (a:=a) hb;have:Int.gcd a b=Int.gcd (nrm a b).1 (nrm a b).2*Int.gcd a b:=by simpa using h
 have g1:0<Int.gcd a b:=∅
 exact (Nat.eq_of_mul_eq_mul_right g1 ∅).symm
theorem Znw {x y:Int×Int}(hx:Low x)(hy:Low y)(h:x.1*y.2=y.1*x.2):x=y:=by
 obtain⟨x0,gx⟩:=hx;obtain⟨y0,gy⟩:=hy;have d1:x.2.natAbs ∣ y.2.natAbs:=by
  have c:Nat.Coprime x.2.natAbs x.1.natAbs:=by rw[Nat.coprime_comm];exact gx
  refine c.dvd_of_dvd_mul_left ?_;rw[<- Jcn,h,Jcn];exact Nat.dvd_mul_left ..
 have d2:y.2.natAbs ∣ x.2.natAbs:=by
  have c:Nat.Coprime y.2.natAbs y.1.natAbs:=by rw[Nat.coprime_comm];exact gy
  refine c.dvd_of_dvd_mul_left ?_;rw[<- Jcn,<- h,Jcn];exact Nat.dvd_mul_left ..
 have e:=Nat.dvd_antisymm d1 d2;have e2:x.2=y.2:=∅
 have e1:x.1=y.1:=by
  rw[e2] at h;exact Int.eq_of_mul_eq_mul_right ∅ h
 exact Jed e1 e2
theorem Ze1 (a:Int){g:Int}(hg:0<g)(hd:g ∣ a):(a / g).natAbs<=a.natAbs:=by
 obtain⟨k,rfl⟩:=hd;rw[Int.mul_ediv_cancel_left _ ∅,Jcn];exact Nat.le_mul_of_pos_left _ ∅
def Bd (B:Nat)(x:Int×Int):Prop:=x.1.natAbs<=B/\x.2.natAbs<=B
def Isn (p:Int)(x:Int×Int):Prop:=(p=0/\Low x)\/(0<p/\0<=x.1/\x.1<p/\x.2=1)
def Zjb (p:Int)(x y:Int×Int):Int×Int:=if p=0 then nrm (x.1*y.2+y.1*x.2) (x.2*y.2) else ((x.1+y.1) % p,1)
def Zeu (p:Int)(x y:Int×Int):Int×Int:=if p=0 then nrm (x.1*y.1) (x.2*y.2) else (x.1*y.1 % p,1)
def Znz (p k:Int):Int×Int:=if p=0 then (k,1) else (k % p,1)
theorem Isn.pos {p:Int}{x:Int×Int}(h:Isn p x):0<x.2:=by
 rcases h with ⟨_,h⟩|⟨_,_,_,h⟩
 .exact h.1
 .omega
theorem Zqf {p a b:Int}(hp:p=0)(hb:0<b):Isn p (nrm a b):=.inl ⟨hp,Zp5 hb⟩
theorem Zlw {p a:Int}(hp:0<p):Isn p (a % p,1):=.inr ⟨hp,Jbs _ ∅,Jba _ hp,rfl⟩
theorem Zjh {p:Int}{x y:Int×Int}(h0:0<=p)(hx:Isn p x)(hy:Isn p y):Isn p (Zjb p x y):=by
 unfold Zjb;split
 .rename_i h;exact Zqf h (Jej hx.pos hy.pos)
 .exact Zlw ∅
theorem Zhx {p:Int}{x y:Int×Int}(h0:0<=p)(hx:Isn p x)(hy:Isn p y):Isn p (Zeu p x y):=by
 unfold Zeu;split
 .rename_i h;exact Zqf h (Jej hx.pos hy.pos)
 .exact Zlw ∅
theorem Zhy {p k:Int}(h0:0<=p):Isn p (Znz p k):=by
 unfold Znz;split
 .rename_i h;exact .inl ⟨h,⟨by show (0:Int)<1;decide,by simp⟩⟩
 .exact Zlw ∅
theorem Zto (a b:Int):Int.gcd b (a % b)=Int.gcd a b:=by
 rw[Int.emod_def,Int.sub_eq_add_neg,<- Int.mul_neg,Int.gcd_add_mul_left_right,Jep]
structure FunD (K:Frag)(x qual:Str)(st:Stmt)(f:Addr)(fd:FuncData)(T:Addr):Prop where
 ex:∃ (oc:Value) (od:Option Addr) (kV doc pm:Value) (an:Option Addr) (cdv ct:Value) (osl:Array (Option Value)),
  fd=PySem.W.fnOf x qual (Zb6 st) (Zbu st) (Zae st) (.ref T) kV doc pm an cdv ct/\K.lookup f=some ⟨oc,od,.func fd,osl⟩/\PySem.W.codeIn K cdv qual=true
section
theorem FunD.ok {x qual:Str}{st:Stmt}{f T:Addr}{fd:FuncData}{N ps:List Str}{k:Nat}{sp:Sp}(F:FunD K x qual st f fd T)(S:FnScope N ps (Zae st))(len:∀ vs H Q E,sp vs H Q E->vs.length=ps.length)(hbody:∀ (cdv:Value) (A:Around) (outer:List Env) (s:Shared) (H:Hp) (vs:List V) (Q:VK) (E:XK),Room k (A.deeper (envOfC qual (Zae st) s.heap.objs.size f cdv))->sp vs H Q E->
   ∃ t,PSs (Ztv CX0 P w K mg base N qual (Zae st) f cdv A outer s H E).nox (Zbu st) t/\t { nx:=λ_ H'=>Q .non H',rt:=Q } (start N vs) H):FnOk P w K mg base CX0 (k+1) f fd ps sp:=by
 refine Zob F.ex λoc od kV doc pm an cdv ct osl e91 lk hcd=>?_;obtain rfl:=e91;refine fn_of lk hcd S len λA outer s H vs Q E hr hsp=>?_;refine Zac (hbody cdv A outer s H vs Q E hr hsp) λt h q=>?_;exact⟨t,h.nox,q⟩
end
structure CalD (P:Program)(w:World)(K:Frag)(mg:Str->Option Value)(base:Heap)(C:Addr)(m:Str)(k:Nat)(sp:Sp)(dvs:List V):Prop where
 ex:∃ (f:Addr) (fd:FuncData) (ps:List Str) (ds:List Value),FnOk P w K mg base CX0 k f fd ps sp/\Meth K C m f/\Binds K fd ps ds/\Vals dvs ds
theorem Zll {X:Cx}{m:Str}{C:Addr}{k:Nat}{sp:Sp}{dvs:List V}{o e:Expr}{es:List Expr}{ta:TE}{t:TA}{apos pos:Pos}{pl:Sem Bool}(c:Cls X.K C)(M:CalD X.prog X.w X.K X.mg X.base C m k sp dvs)(hr:Room k X.A)(ho:PE X o ta)(ha:PA X (e::es) t)(h:Zbl e=false:=by rfl)(h2:es.all (λx=>!Zbl x)=true:=by rfl)(ht:eval (.Call (.Attribute o m apos) (e::es) [] pos) X.env=(do
   let ov <- eval o X.env
   standAt apos.atName
   let (f,first) <- holding [ov] (getMethod ov m pl)
   callWith pos f first (backTo pos (starEach (e::es) X.env)) (backToKw pos (keywordEach [] X.env))):=by rfl):
  PE X (.Call (.Attribute o m apos) (e::es) [] pos) (Zol C m sp dvs E0 ta t):=by
 refine Zcd M.ex λf fd ps ds F hm hb hd=>?_;exact Zpo ho c hm F hr hb hd Zsj ha (Zay h) (Zej h2) ht
theorem Zft {K:Frag}{fd:FuncData}{ps:List Str}{T:Addr}{oc:Value}{od:Option Addr}{osl:Array (Option Value)}{items:Array Value}{n:Nat}{ds:List Value}(lk:K.lookup T=some ⟨oc,od,.seq items n,osl⟩)(hd:fd.defaults=.ref T)(h:∀ us:List Value,(us++ds).length=ps.length->∃ k,bindArgs fd ⟨us,[]⟩=seqItems? fd.defaults >>= k/\k (some items)=pure (ps.zip (us++ds))):Binds K fd ps ds:=λs us KX hl=>by
 refine Zac (h us hl) λk h1 h2=>?_;exact .of_defaults hd (KX T _ lk) rfl h1 h2
def rBits:V->List V->Hp->VK->Prop:=λx vs H Q=>∃ i:Int,x=.int i/\vs=[]/\Q (.int ((Builtin.Int.intBits i:Nat):Int)) H
theorem Zlr {X:Cx}:MtM X "int.bit_length" rBits:=by
 intro pins s σ H x vs v us Q I rx rv h;refine Zal h λi e91 e92 q=>?_;clear h;obtain rfl:=e91;obtain rfl:=e92;obtain⟨t,rfl⟩:=rx;have hus:=rv.zero;subst hus;exact call_gives F.slot_int_bit_length (typeIs_int s i t) F.entry_int_bit_length (F.args_int_bit_length_1 _) (AutoIntG2.int_bit_length_int_0 i t) ⟨.int ((Builtin.Int.intBits i:Nat):Int),H,I.tok _,⟨_,rfl⟩,q⟩
theorem bits_le {i:Int}{n:Nat}(h:i.natAbs<2 ^ n):Builtin.Int.intBits i<=n:=by
 unfold Builtin.Int.intBits;split
 .exact Jcl _
 .rename_i h0
  have h1:i.natAbs≠0:=by
   intro e;exact h0 (by simp[Int.natAbs_eq_zero.mp e])
  exact (Nat.log2_lt h1).mpr h
end L2
namespace L2
open PySem PySem.Spec PyProof.Rows
def Ite (K:Frag)(a:Addr):It:=
 ⟨λi H=>∃ xs x,SqL K H a xs/\xs[i]?=some x,λi H v H'=>∃ x p,v=.ref p/\H p=none/\H'=upd H p (.tup [.int i,x])/\(∀ xs,SqL K H a xs->xs[i]?=some x),λi H=>∃ xs,SqL K H a xs/\xs.length<=i⟩
theorem Zrx {P:Program}{w:World}{K:Frag}{elts:List Expr}{x1:Nat}{pos:Pos}{e i1 a:Addr}(hne:e≠i1):
  Turn P w K (.Tuple elts x1 pos) (Ite K a) [e,i1] e (λi h=>(∃ old,IsEnum h e i1 (i:Int) old)/\h.IsListIter i1 a i) where
 mem:=by simp
 obj:=λi h st c hc=>by
  obtain⟨⟨old,hz⟩,⟨o1,e1,c1,d1⟩⟩:=st;simp at hc;rcases hc with rfl|rfl
  .exact ⟨_,hz,λv z=>by have z':Data.fields _=Data.cell v:=z;cases z'⟩
  .exact ⟨o1,e1,λv z=>by rw[d1] at z;cases z⟩
 keep:=λi h h' st k=>by
  obtain⟨⟨old,hz⟩,h1⟩:=st;exact⟨⟨old,k e (by simp) _ hz⟩,h1.at λo e=>k i1 (by simp) o e⟩
 item:=by
  intro X hP hw hK hc i pins s σ H E I hf st hg;subst hP hw hK;refine Zbd hg λxs x hqa hx=>?_;clear hg;refine Zal (I.list hqa) λits rv p hz1=>?_;refine Zac (rv.get hx) λu hu ru=>?_;obtain⟨⟨old,hz⟩,h1⟩:=st;refine wpAny_pyNext_enum_item hz h1 p.isList (by simpa using hu) hne λh' a1 a2 a3 a4 a5=>?_;refine⟨_,rfl,wpAny_letOwnedTupleGo_enum a1 λh'' b1 b2=>?_⟩;have nz:s.heap.objs.size≠e:=Jd6 (Jak hz);have k2:∀ c o,c∉[e,i1]->s.heap.get? c=some o->h''.get? c=some o:=λc o hc q=>by
   simp at hc;exact b2.extBut _ _ hc.1 (a5 c o hc.1 hc.2 q)
  have I2:Inv X pins σ (upd H s.heap.objs.size (.tup [.int i,x])) { s with heap:=h'',toks:=s.toks+1 }:=I.turnedT (t':=s.toks+1) hf k2 (Jah _)
   ⟨by show 2<=sizeLine;decide,[.int i s.toks,u],.cons ⟨_,rfl⟩ (.cons ru .nil),_,b2.extBut _ _ nz a3,rfl,_,rfl⟩
  refine Zat (.ref s.heap.objs.size) _ ⟨I2,rfl,⟨x,_,rfl,I.hok.fresh (Jah _),rfl,λxs' hq=>by rw[I.list_inj hq hqa];exact hx⟩,⟨⟨x |> λ_=>u,by simpa using b1⟩,a2.extBut b2.extBut hne.symm⟩,λc hc=>?_⟩;have hlt:∀ c∈[e,i1],c<s.heap.objs.size:=λc hc=>by
   simp at hc;refine Zac h1 λo1 e1 _=>?_;clear h1;rcases hc with rfl|rfl
   .exact Jak hz
   .exact Jak e1
  rw[Zah (Ja6 (hlt c hc))];exact (hf c hc).1
 done:=by
  intro X hP hw hK hc i pins s σ H E I hf st hg;subst hP hw hK;refine Zac hg λxs hqa hx=>?_;clear hg;refine Zal (I.list hqa) λits rv p hz1=>?_;obtain⟨⟨old,hz⟩,h1⟩:=st;have l1:=rv.length;refine wpAny_pyNext_enum_end (I.ok.hd hc) hz h1 p.isList (by simp;omega) λh' kk=>⟨rfl,I.turnedL (t':=s.toks) hf λc o hc q=>?_⟩
  simp at hc;exact kk c o hc.2 q
 self:=λ_ _ _ _ _ st h=>by
  obtain⟨⟨old,hz⟩,h1⟩:=st;exact wpAny_pyIter_enum hz h
section
variable {X:Cx}
def iEnm (K:Frag)(ta:TA):TI:=λσ H R=>ta σ H λvs H1=>∃ a,vs=[.ref a]/\(∃ xs,SqL K H1 a xs)/\R (Ite K a) H1
theorem pi_enm {elts:List Expr}{x1:Nat}{pt p pos:Pos}{a:Expr}{ta:TA}(hg:Gl X "enumerate")(hm:X.mg "enumerate" = none)(ha:PA X [a] ta)(h:Zbl a=false:=by rfl):
  PI X (.Tuple elts x1 pt) (.Call (.Name "enumerate" p) [a] [] pos) (iEnm X.K ta):=by
 intro pins s σ H R I hh;refine Call_ (Zfk I hg hm boot_enumerate (Jbx (thn (ha pos pins s σ H _ I hh) λus s1 ⟨vs,H1,I1,r1,q1⟩=>?_) (by rw[Zay h]) ⇑1));refine Zal q1 λc e e93 q=>?_;clear q1;obtain⟨xs,hq1⟩:=e93;subst e;cases r1 with
 | cons r rr=>
   cases rr;cases r;refine Zal (I1.list hq1) λits rv p1 hz1=>?_;refine call_enumerate_list p1.isList λh' a1 a2 a3 a4=>wpAny_pyIter_enum (s:={ s1 with heap:=h' }) a1 ?_;refine Zix _ _ _ _ H1 ⟨rfl,I1.kept (t':=s1.toks) a4,Zrx (Nat.succ_ne_self _),⟨⟨_,a1⟩,a2⟩,λb hb=>?_,q⟩;have hb':s1.heap.objs.size<=b:=by
    simp at hb;rcases hb with rfl|rfl
    .exact Jcz _ _
    .exact Jah _
   have:=(I1.fpOk (H':=H1) hb' (I1.hok.fresh hb'))
   exact this
end
section
variable {K:Frag}{a b D:Addr}{xs ys:List V}{g:TG}{tt:TT}{te:TE}{k:Nat}{fr:List (Str×Nat)}{σ:St}{H1:Hp}{Q:VK}
theorem for_enm {tb:TS}{Dn:Ends}{σ:St}{H:Hp}(Pv:Nat->St->Hp->Prop)(h0:Pv 0 σ H)(hl:∀ i σ H,i<=xs.length->Pv i σ H->SqL K H a xs)(hs:∀ (i:Nat) x p σ H,xs[i]?=some x->H p=none->Pv i σ H->g (.ref p) σ (upd H p (.tup [.int i,x])) λσ2 H2=>tb { Dn with nx:=Pv (i+1),ct:=Pv (i+1),bk:=Dn.nx } σ2 H2)(hd:∀ σ H,Pv xs.length σ H->Dn.nx σ H):
  ∃ W:Nat->Nat->St->Hp->Prop,(∃ m,W 0 m σ H)/\∀ i m σ H,W i m σ H->
   ((Ite K a).stop i H/\Dn.nx σ H)\/((Ite K a).go i H/\∃ N:St->Hp->Prop,(∀ σ' H',N σ' H'->∃ m',m'<m/\W (i+1) m' σ' H')/\∀ x H',(Ite K a).yld i H x H'->g x σ H' λσ2 H2=>tb { Dn with nx:=N,ct:=N,bk:=Dn.nx } σ2 H2):=by
 refine⟨λi m σ H=>m=xs.length-i/\i<=xs.length/\Pv i σ H,⟨xs.length,by simp,Jcl _,h0⟩,?_⟩;intro i m σ H e91;refine Za2 e91 λe94 hi p=>?_;clear e91;obtain rfl:=e94;have q:=hl i σ H hi p;by_cases hlt:i<xs.length
 .refine .inr ⟨⟨xs,xs[i],q,by simp[hlt]⟩,Pv (i+1),λσ' H' p'=>⟨xs.length-(i+1),∅,rfl,hlt,p'⟩,λx H' y=>?_⟩;refine Zgs y λu pp e95 hp e96 e1=>?_;clear y;obtain rfl:=e95;obtain rfl:=e96;exact hs i u pp σ _ (e1 xs q) hp p
 .have e:i=xs.length:=∅
  subst e;exact .inl ⟨⟨xs,q,Jah _⟩,hd σ H p⟩
theorem Zt1 (Pv:Nat->List V->Hp->Prop)(h0:Pv 0 [] (upd H1 D (.lst [])))(hl:∀ i vs H,i<=xs.length->Pv i vs H->SqL K H a xs)(hs:∀ (i:Nat) x p vs σ' H,i<xs.length->xs[i]?=some x->H p=none->Sh k (Zbi fr σ) σ'->Pv i vs H->Zer g tt te D xs.length k (Zbi fr σ) Pv i (.ref p) σ' (upd H p (.tup [.int i,x])))(hd:∀ vs H,Pv xs.length vs H->Q (.ref D) H):
  Zbv g tt te (Ite K a) D (Zgq k fr σ) H1 Q:=by
 refine⟨Wv xs.length k (Zbi fr σ) Pv,⟨xs.length,by simp,Jcl _,sh0,[],h0⟩,?_⟩;intro i m σ' H2 e92;refine Zch e92 λe97 hi sh e98=>?_;clear e92;obtain rfl:=e97;obtain⟨vs,p⟩:=e98;have q1:=hl i vs H2 hi p;by_cases hlt:i<xs.length
 .refine .inr ⟨⟨xs,xs[i],q1,by simp[hlt]⟩,λx H3 y=>?_⟩;refine Zgs y λu pp e99 hp e910 e1=>?_;clear y;obtain rfl:=e99;obtain rfl:=e910;exact hs i u pp vs σ' _ hlt (e1 _ q1) hp sh p
 .have e:i=xs.length:=∅
  subst e;exact .inl ⟨⟨xs,q1,Jah _⟩,hd vs H2 p⟩
end
end L2
namespace L2
open PySem PySem.Spec PyProof.Rows PySem.W
structure Trk (B:Heap)(fr:List Env)(e:Addr)(cls c0 fl:Value)(h:Heap):Prop where
 st:B.StaysIn h
 nw:B.get? e=none
 ff:h.FunFrames B fr
 ob:∃ (o:Obj) (vs:Array Value) (T:Addr) (oT:Obj) (us:Array Value),h.get? e=some o/\o.cls=cls/\o.data=.fields vs/\vs[2]?=some c0/\vs[1]?=some (.ref T)/\B.get? T=none/\T≠e/\h.get? T=some oT/\oT.data=.fields us/\us[3]?=some fl
theorem Trk.there {B h:Heap}{fr:List Env}{e:Addr}{cls c0 fl:Value}(x:Trk B fr e cls c0 fl h):∃ o,h.get? e=some o/\o.cls=cls:=
 let ⟨o,_,_,_,_,a,b,_⟩:=x.ob;⟨o,a,b⟩
section
variable {M:Model}{A:Around}{E:Value->Shared->Prop}{s:Shared}{B:Heap}{fr:List Env}{e L:Addr}{cls c0:Value}{Q:Unit->Shared->Prop}
end
end L2
namespace L2
open PySem PySem.Spec PyProof.Rows PySem.W
theorem ObjOk.there {P:Program}{w:World}{H:Hp}{h:Heap}{a:Addr}{o:HO}(x:ObjOk P w H h a o):∃ u,h.get? a=some u:=by
 cases o with
 | lst xs=>obtain⟨_,_,_,_,e⟩:=x;exact⟨_,e⟩
 | tup xs=>obtain⟨_,_,_,p⟩:=x;obtain⟨o,e,_⟩:=p;exact⟨_,e⟩
 | dK kvs=>obtain⟨_,_,_,_,o,_,_,e,_⟩:=x;exact⟨_,e⟩
 | dT kvs=>obtain⟨_,_,_,_,o,_,_,e,_⟩:=x;exact⟨_,e⟩
 | set S n=>obtain⟨o,_,_,_,e,_⟩:=x;exact⟨_,e⟩
 | ins C dx fs=>obtain⟨_,_,_,e,_⟩:=x;exact⟨_,e⟩
 | own y=>obtain⟨_,e⟩:=x;exact⟨_,e⟩
 | xd fs=>obtain⟨_,⟨_,_,_,e,_⟩,_⟩:=x;exact⟨_,e⟩
 | rng lo hi=>obtain⟨_,_,_,e⟩:=x;exact⟨_,e⟩
 | frz ob u=>obtain⟨e,_⟩:=x;exact⟨_,e⟩
 | tbl ps=>exact⟨_,(show h.get? a=some _ from x)⟩
 | met f y=>exact⟨_,(show h.get? a=some _ from x)⟩
 | ext φ=>obtain⟨_,⟨_,e⟩,_⟩:=x;exact⟨_,e⟩
 | tab l c q=>
  rcases x with e|⟨_,_,_,_,e,_⟩
  .exact ⟨_,e⟩
  .exact ⟨_,e⟩
structure Fly (P:Program)(w:World)(outer:List Env)(H:Hp)(s:Shared)(a:Addr)(cls c0:Value)(H':Hp)(s':Shared):Prop where
 os:s'.os=s.os
 bare:AllBare s'.gens
 hok:HOk P w H' s'.heap
 un:Un (frs outer) [] H H' s.heap s'.heap
 fly:∃ B,Trk B outer a cls c0 .none s'.heap/\(∀ b o,s.heap.get? b=some o->b∉frs outer->∃ o',B.get? b=some o')/\∀ b u,H' b=some u->∃ o',B.get? b=some o'
 new:∀ o,s.heap.get? a≠some o
 free:H' a=none
def CXe (P:Program)(w:World):CXT:=λouter H s E e s'=>∃ (a:Addr) (cls c0:Value) (H':Hp),e=.ref a/\Fly P w outer H s a cls c0 H' s'/\E cls none H'/\(c0=.none\/E cls (some 0) H')
section
variable {N:List Str}{qual:Str}{scope:Scope}{f:Addr}{cd:Value}{A:Around}{outer:List Env}{s:Shared}{H:Hp}{E:XK}{pins:List (Addr×Obj)}{σ:St}{H1:Hp}{s1 s2:Shared}{e:Addr}{cls:Value}
end
end L2
namespace L2
open PySem PySem.Spec PyProof.Rows PySem.W
def Zuh (t:TA)(R:Hp->Prop):TS:=λ_ σ H=>t σ H λvs H1=>vs.length<=1000/\R H1
section
variable {X:Cx}{x:Str}{C:Addr}{bm bmN:List Value}{B Bn newId nid initId inN:String}{np cpos pos:Pos}{e₀:Expr}{rest:List Expr}{t:TA}{R:Hp->Prop}
end
end L2
namespace L2
open PySem PySem.Spec PyProof.Rows PySem.W
section
end
section
variable {X:Cx}{pins:List (Addr×Obj)}{σ:St}{H H':Hp}{s s':Shared}{a:Addr}{cls:Value}
end
end L2
namespace L2
open PySem PySem.Spec PyProof.Rows PySem.W
section
variable {M:Model}{A:Around}{E:Value->Shared->Prop}
variable {nm q:Str}{C N:Addr}{bs bm:List Value}{hdct:Bool}{sn:List Str}{sub:List Value}{ab:Bool}{col:Option Bool}{dd:Option Addr}{k0 k1 k2 k3 k5:Option Value}{newId:String}
variable {nm' q':Str}{C' N':Addr}{bs' bm':List Value}{hdct':Bool}{sn':List Str}{sub':List Value}{ab':Bool}{col':Option Bool}{dd':Option Addr}{j0 j1 j2 j3 j5:Option Value}{newId':String}
end
end L2
namespace L2
open PySem PySem.Spec PyProof.Rows PySem.W
abbrev Cx.pnx (X:Cx)(pins:List (Addr×Obj)):Cx:={ X with pn:=X.pn++pins }
abbrev Cx.hnd (X:Cx)(pins:List (Addr×Obj))(a:Addr):Cx:={ X with pn:=X.pn++pins,A:=X.A.mark (some (.ref a)),calm:=false,xe:=λ_ _=>False }
section
variable {X:Cx}{pins pins':List (Addr×Obj)}{σ:St}{H:Hp}{s:Shared}{a:Addr}
theorem Inv.pnx (I:Inv X pins σ H s):Inv (X.pnx pins) [] σ H s:=
 ⟨⟨I.ok.mod,I.ok.kind,I.ok.glob,I.ok.blt,I.ok.above,I.ok.inj,I.ok.has,I.ok.cab,I.ok.hd,I.ok.frames,I.ok.stk,I.ok.exf,I.ok.bs,I.ok.bsz,I.ok.noex,I.ok.exfs,I.ok.funs,I.ok.frf,I.ok.top⟩,I.os,I.bare,I.base,I.loc,I.cell,I.free,I.freeC,λp hp=>I.pin p (by simpa using hp),I.hok,I.len⟩
theorem Inv.hnd (I:Inv X pins σ H s)(a:Addr):Inv (X.hnd pins a) [] σ H s:=
 ⟨⟨I.ok.mod,I.ok.kind,I.ok.glob,I.ok.blt,I.ok.above,I.ok.inj,I.ok.has,I.ok.cab,(λz=>nomatch z),I.ok.frames,I.ok.stk,I.ok.exf,I.ok.bs,I.ok.bsz,I.ok.noex,I.ok.exfs,I.ok.funs,I.ok.frf,I.ok.top⟩,I.os,I.bare,I.base,I.loc,I.cell,I.free,I.freeC,λp hp=>I.pin p (by simpa using hp),I.hok,I.len⟩
end
def isExc (a:Addr)(cls:Value):HO:=.ext λh=>∃ ob,h.get? a=some ob/\ob.cls=cls
def hEnds (X:Cx)(D:Ends):Ends:={ nx:=λ_ H=>D.nx (List.replicate X.N.length none) H,rt:=D.rt,bk:=λ_ H=>D.bk (List.replicate X.N.length none) H,ct:=λ_ H=>D.ct (List.replicate X.N.length none) H }
def tTry (X:Cx)(E':XK)(tb:TS)(i:Nat)(th:TS):TS:=λD σ H=>tb D σ H/\∀ (cls:Value) (H':Hp) (a:Addr) (σ':St),E' cls none H'->H' a=none->σ'.length=X.N.length->th (hEnds X D) (σ'.set i (some (.ref a))) (upd H' a (isExc a cls))
section
variable {X:Cx}{x n:Str}{np hpos pos:Pos}{body suite:List Stmt}{b₀:Stmt}{E':XK}{tb th:TS}{i:Nat}{D:Addr}{bmD:List Value}{newD:String}
end
end L2
namespace L2
open PySem PySem.Spec PySem.Calls PyProof.Rows PySem.W Builtin Builtin.ObjectAttr Builtin.Getset_descriptor
structure ExcCls (K:Frag)(C:Addr):Prop where
 ga:findIn K (.ref C) "__getattribute__" = some (some (.builtin "BaseException.__getattribute__"))
 gt:findIn K (.ref C) "__getattr__" = some none
 cl:findIn K (.ref C) "__class__" = some (some (.builtin "object.__class__"))
 so:mroIn K C (.type "object")=some true
 sb:mroIn K C (.type "BaseException")=some true
section
variable {prog:Program}{w:World}{A:Around}{E:Value->Shared->Prop}{h:Heap}{g:Array GenState}{d:Drawn}{t:Nat}{os:OsState}{a C:Addr}{ox:Obj}{K:Frag}
end
end L2
namespace L2
open PySem PySem.Spec PyProof.Rows PySem.W
section
variable {X:Cx}
end
end L2
namespace L2
open PySem PySem.Spec PyProof.Rows PySem.W
structure CalE (P:Program)(w:World)(K:Frag)(mg:Str->Option Value)(base:Heap)(x:Str)(k:Nat)(sp:Sp):Prop where
 ex:∃ (f:Addr) (fd:FuncData) (ps:List Str),FnOk P w K mg base (CXe P w) k f fd ps sp/\mg x=some (.ref f)/\PySem.W.keepIn K (.ref f)=true/\Binds K fd ps []
structure CalME (P:Program)(w:World)(K:Frag)(mg:Str->Option Value)(base:Heap)(C:Addr)(m:Str)(k:Nat)(sp:Sp):Prop where
 ex:∃ (f:Addr) (fd:FuncData) (ps:List Str),FnOk P w K mg base (CXe P w) k f fd ps sp/\Meth K C m f/\Binds K fd ps []
structure CalIE (P:Program)(w:World)(K:Frag)(mg:Str->Option Value)(base:Heap)(x:Str)(C:Addr)(k:Nat)(sp:Sp):Prop where
 ex:∃ (f:Addr) (fd:FuncData) (ps:List Str),FnOk P w K mg base (CXe P w) k f fd ps sp/\Mk K C f/\mg x=some (.ref C)/\Binds K fd ps []
section
variable {X:Cx}{x m:Str}{k:Nat}{sp:Sp}{e o:Expr}{es:List Expr}{ta:TE}{t:TA}{p pos apos:Pos}{E:XK}{C:Addr}
end
theorem hnd_K {X:Cx}{pins:List (Addr×Obj)}{a:Addr}:(X.hnd pins a).K=X.K:=rfl
theorem pnx_K {X:Cx}{pins:List (Addr×Obj)}:(X.pnx pins).K=X.K:=rfl
structure CalDE (P:Program)(w:World)(K:Frag)(mg:Str->Option Value)(base:Heap)(C:Addr)(m:Str)(k:Nat)(sp:Sp)(dvs:List V):Prop where
 ex:∃ (f:Addr) (fd:FuncData) (ps:List Str) (ds:List Value),FnOk P w K mg base (CXe P w) k f fd ps sp/\Meth K C m f/\Binds K fd ps ds/\Vals dvs ds
section
variable {N:List Str}{qual:Str}{scope:Scope}{f:Addr}{cd:Value}{A:Around}{outer:List Env}{s:Shared}{H:Hp}{E:XK}
end
end L2
namespace L2
open PySem PySem.Spec PyProof.Rows
structure RoomH (k:Nat)(A:Around):Prop where
 dp:A.depth+3*k+205<recursionLimit
 un:A.units+16*k+200<cLine
theorem Room.mark {k:Nat}{A:Around}(r:Room k A)(v:Option Value):RoomH k (A.mark v):=⟨r.dp,r.un⟩
theorem RoomH.mono {j k:Nat}{A:Around}(r:RoomH k A)(h:j<=k):RoomH j A:=⟨by have:=r.dp;omega,by have:=r.un;omega⟩
structure FnOkH (P:Program)(w:World)(K:Frag)(mg:Str->Option Value)(base:Heap)(CX:CXT)(k:Nat)(f:Addr)(fd:FuncData)(ps:List Str)(sp:Sp):Prop where
 len:∀ vs H Q E,sp vs H Q E->vs.length=ps.length
 run:∀ (A:Around) (outer:List Env) (s:Shared) (H:Hp) (args:Args) (us:List Value) (vs:List V) (Q:VK) (E:XK),RoomH k A->Env0 P w K mg base A outer s H->BindsTo s fd args (ps.zip us)->Vals vs us->sp vs H Q E->
  codeAny (model P w) A (.call (.ref f) args) (CR CX outer P w H s Q E) s
section
structure CalH (P:Program)(w:World)(K:Frag)(mg:Str->Option Value)(base:Heap)(x:Str)(k:Nat)(sp:Sp):Prop where
 ex:∃ (f:Addr) (fd:FuncData) (ps:List Str),FnOkH P w K mg base CX0 k f fd ps sp/\mg x=some (.ref f)/\PySem.W.keepIn K (.ref f)=true/\Binds K fd ps []
end
section
variable {X:Cx}{CX:CXT}{k:Nat}{f C:Addr}{fd:FuncData}{ps:List Str}{sp:Sp}{dvs:List V}{ds:List Value}{E:XK}{x m:Str}{p pos apos:Pos}{e o:Expr}{es:List Expr}{ta:TE}{t:TA}
end
section
variable {X:Cx}
def rNeTs (K:Frag):R2:=λx y H Q=>rNe x y H Q\/rEqT K true x y H Q
theorem op_neTs (hu:X.A.units+8<cLine):OpR X (compareOp .NotEq) (rNeTs X.K):=Zd7.or (op_neT hu)
end
end L2
namespace L2
open PySem PySem.Spec PyProof.Rows
end L2
namespace L2
open PySem PySem.Spec PyProof.Rows
section
variable {prog:Program}{w:World}{A:Around}{s:Shared}{E:Value->Shared->Prop}
end
section
variable {X:Cx}
end
def Itv (K:Frag)(a:Addr)(n:Nat):It:=
 ⟨λi H=>∃ xs,SqL K H a xs/\xs.length=n/\i<n,λi H v H'=>H'=H/\∀ xs,SqL K H a xs->xs[n-1-i]?=some v,λi H=>∃ xs,SqL K H a xs/\xs.length=n/\i=n⟩
section
variable {X:Cx}
def iRvl (K:Frag)(ta:TA):TI:=λσ H R=>ta σ H λvs H1=>∃ a xs,vs=[.ref a]/\SqL K H1 a xs/\R (Itv K a xs.length) H1
end
section
variable {K:Frag}{a:Addr}{xs:List V}{g:TG}
end
end L2
namespace L2
open PySem PySem.Spec PyProof.Rows
section
variable {prog:Program}{w:World}{A:Around}{E:Value->Shared->Prop}{s:Shared}
end
end L2
namespace L2
open PySem PySem.Spec PyProof.Rows
section
variable {prog:Program}{w:World}{A:Around}{s:Shared}{E:Value->Shared->Prop}
structure EnG (items:Array Value)(lo:Addr)(h:Heap)(as:List Addr):Prop where
 rise:as.Pairwise (· < ·)
 above:∀ a∈as,lo<a
 pairs:∀ (j:Nat) (a:Addr),as[j]?=some a->∃ t x,items[j]?=some x/\h.get? a=some { cls:=.type "tuple",data:=.seq #[.int j t,x] }
end
section
variable {prog:Program}{w:World}{A:Around}{s:Shared}{R:Result->Shared->Prop}{items:Array Value}
end
section
variable {prog:Program}{w:World}{A:Around}{s:Shared}{E:Value->Shared->Prop}
end
section
variable {X:Cx}{pins:List (Addr×Obj)}{σ:St}
def tLE (K:Frag)(ta:TA):TE:=λσ H Q=>ta σ H λvs H1=>∃ a xs,vs=[.ref a]/\SqL K H1 a xs/\∀ (l:Addr) (ps:List Addr) (H':Hp),Same H1 H'->H1 l=none->(∀ q∈ps,q≠l)->H' l=some (.lst (ps.map V.ref))->ps.length=xs.length->
 (∀ (i:Nat) q x,ps[i]?=some q->xs[i]?=some x->H' q=some (.tup [.int i,x]))->Q (.ref l) H'
end
section
variable {X:Cx}
def gSl0 (to:TE)(th:TO):TG:=λv σ H Q=>to σ H λx H1=>th σ H1 λu H2=>∃ l b xs ys,∃ c:Int,x=.ref l/\v=.ref b/\u=some c/\H2 l=some (.lst xs)/\H2 b=some (.lst ys)/\l≠b/\0<=c/\c<=xs.length/\xs.length+ys.length<=sizeLine/\Q σ (upd H2 l (.lst (ys++xs.drop c.toNat)))
end
section
variable {K:Frag}{a b D:Addr}{xs ys:List V}{g:TG}{tt:TT}{te:TE}{k:Nat}{fr:List (Str×Nat)}{σ:St}{H1:Hp}{Q:VK}
end
end L2
namespace L2
open PySem PySem.Spec PyProof.Rows
def Bt (n:Nat)(z:Int):Prop:=z.natAbs<2 ^ n
theorem Bt.le {n m:Nat}{z:Int}(h:Bt n z)(hm:n<=m):Bt m z:=Jao h (Jcp ⇑0 hm)
theorem Bt.mul {n m:Nat}{x y:Int}(h:Bt n x)(h':Bt m y):Bt (n+m) (x*y):=by
 unfold Bt at *;rw[Jcn,Nat.pow_add];exact Nat.mul_lt_mul'' h h'
theorem Bt.add {n:Nat}{x y:Int}(h:Bt n x)(h':Bt n y):Bt (n+1) (x+y):=by
 unfold Bt at *;rw[Nat.pow_succ];omega
theorem Bt.sub {n:Nat}{x y:Int}(h:Bt n x)(h':Bt n y):Bt (n+1) (x-y):=by
 unfold Bt at *;rw[Nat.pow_succ];omega
theorem Bt.neg {n:Nat}{x:Int}(h:Bt n x):Bt n (-x):=by unfold Bt at *;rw[Int.natAbs_neg];exact h
theorem Bt.abs_le {n:Nat}{x y:Int}(h:Bt n x)(hy:y.natAbs<=x.natAbs):Bt n y:=Jbh hy h
theorem Bt.quo {n:Nat}{x y:Int}(h:Bt n x)(hd:y ∣ x):Bt n (x / y):=h.abs_le (by
 rw[Int.natAbs_ediv,if_pos (.inr (.inr hd))];exact Nat.div_le_self _ _)
theorem Zjp (n:Nat):Bt n 0:=Nat.two_pow_pos n
theorem Zb1 {n:Nat}{z:Int}(hn:7<=n)(h:z.natAbs<128):Bt n z:=Jao h (Jcp (show 0<2 by decide) hn)
theorem Bt.bits {n:Nat}{z:Int}(h:Bt n z):Builtin.Int.intBits z<=n:=bits_le h
theorem Bt.ok {n m:Nat}{x y:Int}(h:Bt n x)(h':Bt m y)(hs:n+m<=134217728):IntMulOk x y:=mulOk_of_bits h.bits h'.bits hs
theorem Zc1 {X:Cx}(ht:X.prog.given.tree=none)(hd:X.A.depth+Builtin.pylongFrames<recursionLimit):OpR X (binaryOp .FloorDiv) (rI (λ_ j=>j≠0) λi j=>.int (i.fdiv j)):=by
 intro pins s σ H x y v u Q I rx ry h;refine Zgs h λi j e91 e92 hc q=>?_;clear h;obtain rfl:=e91;obtain rfl:=e92;obtain⟨t,rfl⟩:=rx;obtain⟨t',rfl⟩:=ry;exact floordiv_int hc ⟨.int (i.fdiv j),H,I.tok _,⟨_,rfl⟩,q⟩ (.inr (I.long ht hd))
theorem Zcb {k:Nat}{A:Around}(hr:Room k A):A.depth+Builtin.pylongFrames<recursionLimit:=by
 have:=hr.dp;have e:Builtin.pylongFrames<=200:=⇑0
 omega
theorem Zen {i j:Int}(h:0<j):i.fdiv j=i / j:=Jbq i ∅
theorem Ztn {a b c d x y:Int}(h:a*d-b*c=1\/a*d-b*c=-1):Int.gcd (a*x+b*y) (c*x+d*y)=Int.gcd x y:=by
 apply Nat.dvd_antisymm
 .have h1:((Int.gcd (a*x+b*y) (c*x+d*y):Nat):Int) ∣ a*x+b*y:=Jbo ..;have h2:((Int.gcd (a*x+b*y) (c*x+d*y):Nat):Int) ∣ c*x+d*y:=Jbv ..;generalize Int.gcd (a*x+b*y) (c*x+d*y)=g at *;obtain⟨u,hu⟩:=h1;obtain⟨v,hv⟩:=h2;have dx:(g:Int) ∣ x:=by
   rcases h with h|h
   .exact ⟨d*u-b*v,by grind⟩
   .exact ⟨b*v-d*u,by grind⟩
  have dy:(g:Int) ∣ y:=by
   rcases h with h|h
   .exact ⟨a*v-c*u,by grind⟩
   .exact ⟨c*u-a*v,by grind⟩
  exact Int.ofNat_dvd.mp (Int.dvd_coe_gcd dx dy)
 .have h1:((Int.gcd x y:Nat):Int) ∣ x:=Jbo ..;have h2:((Int.gcd x y:Nat):Int) ∣ y:=Jbv ..;generalize Int.gcd x y=g at *;obtain⟨u,hu⟩:=h1;obtain⟨v,hv⟩:=h2;exact Int.ofNat_dvd.mp (Int.dvd_coe_gcd ⟨a*u+b*v,by grind⟩ ⟨c*u+d*v,by grind⟩)
structure Steps (x0 y0 a b c d x y:Int):Prop where
 hx:a*x0+b*y0=x
 hy:c*x0+d*y0=y
 sg:∃ e:Int,(e=1\/e=-1)/\a*d-b*c=e/\0<=e*a/\0<=-(e*b)/\0<=-(e*c)/\0<=e*d
 x64:18446744073709551616<=x
 yn:0<=y
 yx:y<=x
 ab:a.natAbs<4611686018427387904/\b.natAbs<4611686018427387904
 pr:(a=1/\b=0/\c=0/\d=1)\/(b≠0/\x+y+18446744073709551616<=x0+y0)
theorem Zkb {u x m:Int}(hu:0<=u)(hx:18446744073709551616<=x)(h:u*x<=m)(hm:m<85070591730234615865843651857942052864):u<4611686018427387904:=by
 apply Jcb;intro z;have h1:(4611686018427387904:Int)*18446744073709551616<=u*x:=Int.mul_le_mul ∅ hx ∅ hu;omega
theorem Steps.cd {x0 y0 a b c d x y:Int}(h:Steps x0 y0 a b c d x y)(h0:x0<85070591730234615865843651857942052864)(h1:y0<=x0):c.natAbs<4611686018427387904/\d.natAbs<4611686018427387904:=by
 refine Zrq h.sg λe he det sa sb sc sd=>?_;have ee:e*e=1:=by rcases he with rfl|rfl <;> rfl
 have ex:(e*d)*x+(-(e*b))*y=x0:=by
  rw[<- h.hx,<- h.hy];have:(e*d)*(a*x0+b*y0)+(-(e*b))*(c*x0+d*y0)=e*(a*d-b*c)*x0:=by grind
  rw[this,det,ee,Int.one_mul]
 have ey:(-(e*c))*x+(e*a)*y=y0:=by
  rw[<- h.hx,<- h.hy];have:(-(e*c))*(a*x0+b*y0)+(e*a)*(c*x0+d*y0)=e*(a*d-b*c)*y0:=by grind
  rw[this,det,ee,Int.one_mul]
 have p1:0<=(-(e*b))*y:=Jc1 sb h.yn;have p2:0<=(e*a)*y:=Jc1 sa h.yn;have q1:=Zkb sd h.x64 (show (e*d)*x<=x0 by omega) h0;have q2:=Zkb sc h.x64 (show (-(e*c))*x<=x0 by omega) h0;constructor
 .rcases he with rfl|rfl <;> omega
 .rcases he with rfl|rfl <;> omega
theorem Steps.next {x0 y0 a b c d x y:Int}(h:Steps x0 y0 a b c d x y)(h0:x0<85070591730234615865843651857942052864)(h1:y0<=x0)(hy:18446744073709551616<=y):Steps x0 y0 c d (a-x / y*c) (b-x / y*d) y (x-x / y*y):=by
 have cd:=h.cd h0 h1;refine Zrq h.sg λe he det sa sb sc sd=>?_;have m0:0<=x / y:=Jek (by have:=h.x64;omega) ∅;have m1:1<=x / y:=by
  have:=h.yx;exact (Int.le_ediv_iff_mul_le ∅).mpr ∅
 have hr:x-x / y*y=x % y:=by
  have:=Jd8 x y;rw[Jeq y] at this;omega
 have r0:=Jbs x (show y≠0 by omega);have r1:=Jba x (show 0<y by omega);have e1:=h.hx;have e2:=h.hy;generalize hq:x / y=q at *;have qy:y<=q*y:=by
  have:=Jct m1 (show 0<=y by omega);omega
 refine⟨h.hy,by rw[<- e1,<- e2];grind,⟨-e,?_,by grind,by grind,by grind,?_,?_⟩,hy,∅,∅,cd,.inr ⟨?_,?_⟩⟩
 .rcases he with rfl|rfl <;> simp
 .have p:=Jc1 m0 sc;have:-(-e*(a-q*c))=e*a+q * -(e*c):=by grind
  omega
 .have p:=Jc1 m0 sd;have:-e*(b-q*d)=-(e*b)+q*(e*d):=by grind
  omega
 .rcases h.pr with ⟨_,_,_,rfl⟩|⟨hb,_⟩
  .decide
  .intro z;subst z;have hbc:-(b*c)=e:=by rw[<- det];grind
   -- b*c=-e,d=0: then y=c*x0 and x=a*x0+b*y0
   have hc1:c.natAbs=1:=by
    have:b.natAbs*c.natAbs=1:=by rw[<- Jcn];rcases he with rfl|rfl <;> omega
    exact Nat.eq_one_of_mul_eq_one_left this
   have e2':c*x0=y:=by rw[<- e2];grind
   have hc:c=1:=by
    rcases (show c=1\/c=-1 by omega) with z|z
    .exact z
    .subst z;have:=h.x64;have:=h.yx;omega
   subst hc;rcases h.pr with ⟨_,hb0,_⟩|⟨_,hs⟩
   .exact hb hb0
   .have:=h.x64;have:=h.yx;have:=h.yn;omega
 .rcases h.pr with ⟨rfl,rfl,rfl,rfl⟩|⟨_,hs⟩
  .have g1:x0=x:=by rw[<- e1];grind
   have g2:y0=y:=by rw[<- e2];grind
   omega
  .omega
end L2
namespace L2
open PySem PySem.Spec PyProof.Rows PySem.W
def Zko (X:Cx)(N:List Str)(qual:Str)(scope:Scope)(cl:List (Str×Addr))(f:Addr)(cd:Value)(A:Around)(s:Shared)(H:Hp):Cx where
 prog:=X.prog
 w:=X.w
 K:=X.K
 mg:=X.mg
 base:=X.base
 A:=A.deeper (envX qual scope s.heap.objs.size f cd cl)
 N:=N
 s₀:=s
 H₀:=H
 env:=envX qual scope s.heap.objs.size f cd cl
 outer:=X.stack
 stack:=envX qual scope s.heap.objs.size f cd cl::X.stack
 ex:=[]
 fn:=λ_=>false
 calm:=true
 pn:=[]
 xe:=λ_ _=>False
structure LamScope (X:Cx)(sc:Scope)(x:Str)(fr:List (Str×Nat)):Prop where
 kind:sc.kind=.function
 co:sc.isCoroutine=false
 gen:sc.isGenerator=false
 nocell:∀ y∈sc.names,y.2≠.cell
 par:sc.names.lookup x=some .local
 free:∀ y∈sc.names,y.2=.free->X.env.scope.names.lookup y.1=some .cell\/X.env.scope.names.lookup y.1=some .free
 cap:∀ y∈fr,sc.names.lookup y.1=some .free/\X.N[y.2]?=some y.1
abbrev Zrk (x:Str)(fr:List (Str×Nat)):List Str:=x::fr.map (·.1)
abbrev Zuu (v:V)(fr:List (Str×Nat))(σ:St):St:=some v::fr.map λy=>(σ[y.2]?).getD none
section
variable {X:Cx}{pins:List (Addr×Obj)}{σ:St}{H:Hp}{s:Shared}{A:Around}{sc:Scope}{x:Str}{fr:List (Str×Nat)}{cl:List (Str×Addr)}{f:Addr}{cd:Value}{qual:Str}
theorem inv_lam {h':Heap}{v:V}{u:Value}(I:Inv X pins σ H s)(B:LamScope X sc x fr)(hfr:A.frames=some X.stack)(hd:A.handled=none)(hcl:∀ x c,cl.lookup x=some c->X.env.cells.lookup x=some c)(hcl2:∀ y∈sc.names,y.2=.free->∃ c,cl.lookup y.1=some c)(rv:RelV v u)(hn:h'.Ns s.heap.objs.size (λy=>[(x,u)].reverse.lookup y))(hk:∀ b o,s.heap.get? b=some o->h'.get? b=some o):
  Inv (Zko X (Zrk x fr) qual sc cl f cd A s H) [] (Zuu v fr σ) H { s with heap:=h',toks:=s.toks+1 }:=by
 have bsz:X.base.objs.size<=s.heap.objs.size:=Jbi I.ok.bsz I.sz;have noA:∀ b:Addr,b∉(Zko X (Zrk x fr) qual sc cl f cd A s H).ex:=λb z=>absurd (show b∈([]:List Addr) from z) (by simp);refine⟨⟨I.ok.mod,B.kind,rfl,rfl,Jah _,λy z c h1 h2=>I.ok.inj y z c (hcl y c h1) (hcl z c h2),λy hy=>?_,λy c hf _=>absurd (show false=true from hf) Jat,λ_=>hd,Around.frames_deeper hfr,.inr ⟨rfl,rfl⟩,λb z=>absurd z (noA b),I.bs,bsz,λb _ _=>noA b,λb z=>absurd z (noA b),I.stack,I.stkFree,⟨_,_,rfl,B.gen,B.co,rfl,rfl⟩⟩,
  rfl,I.bare,Un.kept hk,⟨_,hn,λi y w h1 h2 h3=>?_⟩,λy c e=>?_,I.hok.fresh (Jah _),λy c e=>I.freeC y c (hcl y c e),λp hp=>absurd (show p∈([]:List (Addr×Obj)) from hp) (by simp),I.hok.kept hk,by show (Zuu v fr σ).length=(Zrk x fr).length;simp⟩
 .have hy:sc.names.lookup y=some .cell\/sc.names.lookup y=some .free:=hy;rcases hy with z|z
  .exact absurd rfl (B.nocell _ (Jbc z))
  .exact hcl2 _ (Jbc z) rfl
 .have h1:(Zrk x fr)[i]?=some y:=h1;cases i with
  | zero=>
   have e1:x=y:=Ja7 h1;have e2:some v=some w:=Ja7 h2;cases e2;subst e1;exact⟨u,rv,.inl ⟨B.par,by simp⟩⟩
  | succ i=>
   rw[List.getElem?_cons_succ,Jac] at h1 h2;cases e:fr[i]? with
   | none=>rw[e] at h1;cases h1
   | some z=>
    rw[e] at h1 h2;have hy1:z.1=y:=Ja7 h1;have hy2:(σ[z.2]?).getD none=some w:=Ja7 h2;obtain⟨c1,c2⟩:=B.cap z (Jae e);rw[hy1] at c1 c2;have hs:σ[z.2]?=some (some w):=by
     cases e2:σ[z.2]? with
     | none=>rw[e2] at hy2;cases hy2
     | some o=>rw[e2] at hy2;cases o with
      | none=>cases hy2
      | some w=>cases hy2;rfl
    refine Zac I.loc λm hm hl=>?_;have hfree:=B.free _ (Jbc c1) rfl;refine Zac (hl z.2 y w c2 hs (hfree.elim (λz=>.inr (.inl z)) λz=>.inr (.inr z))) λu' r l=>?_;refine⟨u',r,?_⟩;obtain⟨k,c,e3,ce⟩:(X.env.kindOf y=some .cell\/X.env.kindOf y=some .free)/\∃ c,X.env.cells.lookup y=some c/\s.heap.IsCell c (some u'):=by
     rcases l with ⟨k,_⟩|q
     .have k:X.env.scope.names.lookup y=some .local:=k;rcases hfree with z|z <;> (rw[z] at k;cases k)
     .exact q
    obtain⟨d,hd'⟩:=hcl2 _ (Jbc c1) rfl;have hd2:=hcl y d hd';rw[e3] at hd2;cases hd2;exact .inr ⟨.inr c1,c,hd',ce.keeps hk⟩
 .obtain ⟨w,q⟩:=I.cell y c (hcl y c e);exact⟨w,q.keeps hk⟩
theorem run_lam {c':Addr}{params:Arguments}{body:Expr}{name:Str}{pm ctv:Value}{v:V}{u:Value}{te:TE}{Q:VK}(I:Inv X pins σ H s)(B:LamScope X sc x fr)(hfr:A.frames=some X.stack)(hd:A.handled=none)(hroom:A.depth<recursionLimit)(hcl:∀ x c,cl.lookup x=some c->X.env.cells.lookup x=some c)(hcl2:∀ y∈sc.names,y.2=.free->∃ c,cl.lookup y.1=some c)(rv:RelV v u)(hf:s.heap.get? f=some (kla_obj name qual params body sc cl pm c' ctv))(hcd:s.heap.CodeRec (.ref c') qual)(hb:bindArgs (kla_fn name qual params body sc cl pm (.ref c') ctv) ⟨[u],[]⟩=pure [(x,u)])(he:PE (Zko X (Zrk x fr) qual sc cl f (.ref c') A.in1 s H) body te)(q:te (Zuu v fr σ) H Q):
  wpAny (model X.prog X.w) A.in1 (call (.ref f) [u]) (EP X pins σ Q) (λ_ _=>False) s:=by
 refine wpAny_call (kla_callFunE (A:=A.in1) hroom hf rfl B.co B.gen rfl hcd ?_);rw[hb];refine Ja2 (wpAny_newFunctionEnv B.nocell (λy hy=>?_) (λh₁ hns hsb=>⟨I.nolimit.fresh _ hsb,?_⟩) B.kind)
 .rw [Jaq.mp hy];exact B.par
 .show codeAny _ _ (.expr body (envX qual sc s.heap.objs.size f (.ref c') cl)) _ _;have hk₁:∀ b o,s.heap.get? b=some o->h₁.get? b=some o:=λb o e=>hsb.extBut b o (Ja6 (Jak e)) (Jaj _ e);have I1:Inv (Zko X (Zrk x fr) qual sc cl f (.ref c') A.in1 s H) [] (Zuu v fr σ) H { s with heap:=h₁,toks:=s.toks+1 }:=inv_lam (A:=A.in1) I B hfr hd hcl hcl2 rv hns hk₁;refine kla_codeExpr (Jcj (he [] _ _ _ _ I1 q) (λy s' h=>?_) λ_ _ h=>h.elim);refine Zca h λv' H' J r' q'=>?_;clear h;exact I.after ⟨v',H',J.os,J.bare,J.base,J.hok,r',q'⟩
end
structure LamAt (X:Cx)(pins:List (Addr×Obj))(sc:Scope)(params:Arguments)(body:Expr)(qual:Str)(P:Addr)(H:Hp)(s:Shared)(f c':Addr)(cl:List (Str×Addr))(ctv pm:Value):Prop where
 fn:s.heap.get? f=some (kla_obj "<lambda>" qual params body sc cl pm c' ctv)
 fp:FpOk X pins H f
 cod:∃ oc vs t,H c'=some (.frz oc (.own P))/\oc.data=.fields vs/\vs[1]?=some (.str qual t)
 hcl:∀ x c,cl.lookup x=some c->X.env.cells.lookup x=some c
 hcl2:∀ y∈sc.names,y.2=.free->∃ c,cl.lookup y.1=some c
section
variable {X:Cx}{pins:List (Addr×Obj)}{σ:St}{H:Hp}{s:Shared}{sc:Scope}{x:Str}{fr:List (Str×Nat)}{P c:Addr}{params:Arguments}{body:Expr}{pos:Pos}
theorem LamAt.code {H:Hp}{s:Shared}{f c':Addr}{cl:List (Str×Addr)}{ctv pm:Value}{qual:Str}(L:LamAt X pins sc params body qual P H s f c' cl ctv pm)(I:Inv X pins σ H s):s.heap.CodeRec (.ref c') qual:=by
 refine Ziy L.cod λoc vs t e d v=>?_;obtain⟨e1,_⟩:=I.hok c' _ e;exact Zfw c' oc vs t ⟨rfl,e1,d,v⟩
theorem mk_lam {Q:Value->Shared->Prop}(I:Inv X pins σ H s)(B:LamScope X sc x fr)(hcode:X.env.code=.ref c)(C:CodeHd X.base c P)(hP:H P=some (.tab (pos.line:Int) (pos.col:Int) (X.env.qual ++ "<lambda>")))(hdef:defaultsOf params X.env=([],[]))(h:∀ s' H' f c' cl ctv pm,Inv X pins σ H' s'->Same H H'->LamAt X pins sc params body (X.env.qual ++ "<lambda>") P H' s' f c' cl ctv pm->Q (.ref f) s'):
  wpAny (model X.prog X.w) X.A (eval (.Lambda params body sc pos) X.env) Q X.xe s:=by
 refine Zal (Zl0 (scope:=sc) (env:=X.env) λy hy hf=>I.ok.has y.1 ((B.free y hy hf).elim .inl .inr)) λcl hcl q1 q2=>?_;have hg:s.heap.Ns mainGlobals X.mg:=I.mod.glob.keeps I.bk;have CH:CodeHd s.heap c P:=by
  refine xE9_2 C λo vs file tf flags tg inF text tt e1 r=>?_;clear C;exact Zrp o vs file tf flags tg inF text tt ⟨I.bk _ _ e1,r⟩
 refine Zg2 I.mod.bmain λbm ob b1 b2 b3 b4 b5 b6=>?_;have b3':=I.bs _ _ b3;have hgP:mainGlobals≠P:=λq=>by
  refine Ziy I.mod.glob λo es ep e hd _=>?_;have:=(I.bs _ _ e).2;rw[q,hP] at this;cases this
 have hbP:bm≠P:=λq=>by
  have:=b3'.2;rw[q,hP] at this;cases this
 have hbG:bm≠mainGlobals:=λq=>by
  refine Ziy I.mod.glob λo es ep e hd _=>?_;rw[q,e] at b3;cases b3;rw[hd] at b6;cases b6
 have BA:s.heap.BuiltinsAt X.mg P:=⟨bm,ob,b1,b2,hbG,hbP,b3'.1,b4,b5,b6⟩
 have ok:=I.hok P _ hP;refine kla_eval hdef ?_;rcases ok with e0|⟨c',oc,vs,t,e0,ne,e2,d2,v2⟩
 .-- the first one
  refine kla_makeFunction (mg:=X.mg) hcl I.ok.glob hg hcode CH e0 (by exact True.intro) rfl hgP BA λc' ctv h' tk hx hge hlt hrec htb=>?_;refine Zcd hrec λc2 oc vs t ec hoc hd hv=>?_;clear hrec;cases ec;have hcn:H c'=none:=I.hok.fresh hge;have hcP:c'≠P:=λz=>by rw[z,hP] at hcn;cases hcn
  have hxk:∀ b o,b≠P->s.heap.get? b=some o->(h'.push (kla_obj "<lambda>" (X.env.qual ++ "<lambda>") params body sc cl ((X.mg "__name__").getD .none) c' ctv)).get? b=some o:=λb o hb e=>Jaj _ (hx b o hb e);have gP:(h'.push (kla_obj "<lambda>" (X.env.qual ++ "<lambda>") params body sc cl ((X.mg "__name__").getD .none) c' ctv)).get? P=some (tabObj (#[] ++ #[rawInt pos.line,rawInt pos.col,.ref c'])):=Jaj _ htb;have gc:(h'.push (kla_obj "<lambda>" (X.env.qual ++ "<lambda>") params body sc cl ((X.mg "__name__").getD .none) c' ctv)).get? c'=some oc:=Jaj _ hoc;have sm:Same H (upd H c' (.frz oc (.own P))):=λb u e=>by rw[Zah (Zai e hcn)];exact e
  have nP:∀ {b:Addr},H b=none->b≠P:=λe z=>by rw[z,hP] at e;cases e
  have U:Un X.fs [] H (upd H c' (.frz oc (.own P))) s.heap (h'.push (kla_obj "<lambda>" (X.env.qual ++ "<lambda>") params body sc cl ((X.mg "__name__").getD .none) c' ctv)):=by
   refine⟨λb o e n _ _=>hxk b o (nP n) e,λb o e n _ _=>⟨o.slots,hxk b o (nP n) e⟩,λb o e n _=>?_,λb o e _=>?_,λb xs e=>sm _ _ e,λb o u e=>sm _ _ e,λb ps e=>⟨#[],by rw[sm _ _ e];simp⟩⟩
   .rw [Zah (Ja6 (Jao (Jak e) hge))];exact n
   .by_cases z:b=P
    .exact ⟨_,by rw[z];exact gP⟩
    .exact ⟨o,hxk b o z e⟩
  have O:HOk X.prog X.w (upd H c' (.frz oc (.own P))) (h'.push (kla_obj "<lambda>" (X.env.qual ++ "<lambda>") params body sc cl ((X.mg "__name__").getD .none) c' ctv)):=λb u e=>by
   by_cases hb:b=c'
   .subst hb;rw[Zab] at e;cases e;exact⟨gc,⟨oc,gc⟩⟩
   .rw [Zah hb] at e;by_cases hbP':b=P
    .subst hbP';rw[hP] at e;cases e;exact .inr ⟨c',oc,vs,t,gP,hcP,Zab,hd,hv⟩
    .refine (I.hok b u e).stay (λa v ha q=>hxk a v ?_ q) (λa z=>sm _ _ z) (λa xs z=>sm _ _ z) λa o' u' z=>sm _ _ z;rcases ha with rfl|ha
     .exact hbP'
     .intro z;rw[z,hP] at ha;cases ha
  have I':Inv X pins σ (upd H c' (.frz oc (.own P))) { s with heap:=h'.push (kla_obj "<lambda>" (X.env.qual ++ "<lambda>") params body sc cl ((X.mg "__name__").getD .none) c' ctv),toks:=tk }:=I.un U O;have hsz:s.heap.objs.size<=h'.objs.size:=Jbw (Jbh hge hlt);refine h _ _ h'.objs.size c' cl ctv _ I' sm ⟨Jas _ rfl,I.fpOk hsz ?_,⟨oc,vs,t,Zab,hd,hv⟩,q1,q2⟩;rw[Zah (Jd6 hlt)];exact I.hok.fresh hsz
 .-- the code is there
  refine kla_makeFunctionHit (cv:=.ref c') (mg:=X.mg) hcl I.ok.glob hg hcode CH e0 (by simp[TriplesOk,rawInt]) (by simp[codeAmong,rawInt]) BA λctv h' tk hk hsz=>?_;have I':Inv X pins σ H { s with heap:=h'.push (kla_obj "<lambda>" (X.env.qual ++ "<lambda>") params body sc cl ((X.mg "__name__").getD .none) c' ctv),toks:=tk }:=I.kept λb o e=>Jaj _ (hk b o e);exact h _ _ h'.objs.size c' cl ctv _ I' (Same.refl _) ⟨Jas _ rfl,I.fpOk hsz (I.hok.fresh hsz),⟨oc,vs,t,e2,d2,v2⟩,q1,q2⟩
end
theorem Same.sqL {K:Frag}{H H':Hp}{a:Addr}{xs:List V}(s:Same H H')(h:SqL K H a xs):SqL K H' a xs:=s.seq h
def IsMin (kf:Nat->Int)(n i:Nat):Prop:=i<n/\∀ j,j<n->kf i<=kf j/\(j<i->kf i<kf j)
section
variable {X:Cx}{pins:List (Addr×Obj)}{σ:St}{sc:Scope}{x:Str}{fr:List (Str×Nat)}{P:Addr}{params:Arguments}{body:Expr}{qual:Str}{f c' l It S:Addr}{cl:List (Str×Addr)}{ctv pm:Value}{xs:List V}{te:TE}{H0:Hp}{kf:Nat->Int}
abbrev KWd:List (Str×Value):=[("default",Value.none)]
theorem FpOk.same {pins:List (Addr×Obj)}{H H':Hp}{b:Addr}(h:FpOk X pins H b)(e:H' b=none):FpOk X pins H' b:=⟨e,h.2⟩
theorem Zqc {H:Hp}{s:Shared}{i:Nat}{v:V}{u:Value}{b₁:Addr}{o₁:Obj}{b₂:Addr}{o₂:Obj}(hc:X.calm=true)(hroom:X.A.depth<recursionLimit)(B:LamScope X sc x fr)(hbd:∀ u pm c' ctv cl,bindArgs (kla_fn "<lambda>" qual params body sc cl pm (.ref c') ctv) ⟨[u],[]⟩=pure [(x,u)])(he:∀ cl f c' s H,PE (Zko X (Zrk x fr) qual sc cl f (.ref c') X.A.in1 s H) body te)(I:Inv X pins σ H s)(L:LamAt X pins sc params body qual P H s f c' cl ctv pm)(ht:te (Zuu v fr σ) H λy H'=>y=.int (kf i)/\Same H H')(rv:RelV v u)(f1:FpOk X pins H b₁)(g1:s.heap.get? b₁=some o₁)(d1:∀ v,o₁.data≠.cell v)(f2:FpOk X pins H b₂)(g2:s.heap.get? b₂=some o₂)(d2:∀ v,o₂.data≠.cell v):
  wpAny (model X.prog X.w) X.A.in1 (call (.ref f) [u]) (λy s'=>∃ t H',y=.int (kf i) t/\Same H H'/\Inv X pins σ H' s'/\LamAt X pins sc params body qual P H' s' f c' cl ctv pm/\s'.heap.get? b₁=some o₁/\H' b₁=none/\s'.heap.get? b₂=some o₂/\H' b₂=none) (λ_ _=>False) s:=by
 have Ip:=I.pinned (fp:=[b₁,b₂,f]) (λb hb=>by
  rcases Ja9.mp hb with rfl|hb
  .exact f1
  .rcases Ja9.mp hb with rfl|hb
   .exact f2
   .rw [Jaq.mp hb];exact L.fp) (λb hb=>by
  rcases Ja9.mp hb with rfl|hb
  .exact ⟨_,g1,d1⟩
  .rcases Ja9.mp hb with rfl|hb
   .exact ⟨_,g2,d2⟩
   .rw [Jaq.mp hb];exact⟨_,L.fn,λv z=>by cases z⟩)
 refine thn (run_lam Ip B I.ok.frames (I.ok.hd hc) hroom L.hcl L.hcl2 rv L.fn (L.code I) (hbd _ _ _ _ _) (he _ _ _ _ _) ht) λy s' h=>?_;refine Zgs h λw H' I' r e91 sm=>?_;clear h;obtain rfl:=e91;obtain⟨t,rfl⟩:=r;have pn:∀ b∈[b₁,b₂,f],∀ o,s.heap.get? b=some o->s'.heap.get? b=some o/\H' b=none:=λb hb o e=>by
  have:=I'.pin (b,o) (Ja8 _ (Ja8 _ (Zdk hb e)));exact⟨this.1,this.2.1⟩
 refine Zeq L.cod λoc vs tk e r=>?_;obtain⟨p1,p1'⟩:=pn b₁ (by simp) _ g1;obtain⟨p2,p2'⟩:=pn b₂ (by simp) _ g2;obtain⟨p3,p3'⟩:=pn f (by simp) _ L.fn;exact Zat t H' ⟨rfl,sm,I'.unpinned,⟨p3,L.fp.same p3',⟨oc,vs,tk,sm _ _ e,r⟩,L.hcl,L.hcl2⟩,p1,p1',p2,p2'⟩
theorem Zs8 (hc:X.calm=true)(hroom:X.A.depth<recursionLimit)(B:LamScope X sc x fr)(hbd:∀ u pm c' ctv cl,bindArgs (kla_fn "<lambda>" qual params body sc cl pm (.ref c') ctv) ⟨[u],[]⟩=pure [(x,u)])(he:∀ cl f c' s H,PE (Zko X (Zrk x fr) qual sc cl f (.ref c') X.A.in1 s H) body te)(hlI:l≠It)(hSI:S≠It)(hfI:f≠It)(hfS:f≠S)(ht:∀ i v H,xs[i]?=some v->Same H0 H->te (Zuu v fr σ) H λy H'=>y=.int (kf i)/\Same H H')(hl0:SqL X.K H0 l xs){R:Result->Shared->Prop}(hR:∀ i v u s' H',IsMin kf xs.length i->xs[i]?=some v->RelV v u->Same H0 H'->Inv X pins σ H' s'->R (.ok (.ret u)) s'):
  ∀ (r j i:Nat) (s:Shared) (H:Hp) (vb:V) (ub:Value) (tb:Tok) (n:Nat),xs.length-(j+1)=r->j+1<=xs.length->Same H0 H->Inv X pins σ H s->LamAt X pins sc params body qual P H s f c' cl ctv pm->FpOk X pins H S->FpOk X pins H It->
   s.heap.get? S=some (seqObj "list" #[ub,.int (kf i) tb] n)->s.heap.IsListIter It l (j+1)->xs[i]?=some vb->RelV vb ub->i<=j->(∀ j',j'<=j->kf i<=kf j'/\(j'<i->kf i<kf j'))->
   codeAny (model X.prog X.w) X.A (.builtin "min.loop" ⟨[.ref It,.ref f,.ref S],KWd⟩) R s:=by
 have hname:(toString "min" ++ toString ".loop" : String)="min.loop" := by decide
 intro r
 induction r with
 | zero=>
  intro j i s H vb ub tb n hr hj sm I L fS fI gS hit hvb rvb hij hbest;have hin:j+1=xs.length:=∅
  refine Zal (I.list (sm.sqL hl0)) λits rv p hz=>?_;have hlen:=rv.length;refine codeAny_builtin Jdy ?_;rw[Jec Jby _];show wpAny _ X.A.in1 (seqItems? (.ref S) >>= _) _ _ _;refine Jag (Jcf gS rfl ?_);show wpAny _ X.A.in1 (tryCatch (pyNext (.ref It)) _ >>= _) _ _ _;refine Jag (Jc2 (Jd7 (A:=X.A.in1) (I.ok.hd hc) hit p.isList (by simp;omega) λh' eb=>?_));have I1:Inv X pins σ H { s with heap:=h' }:=I.turned (t':=s.toks) (λb o hb e=>eb b o hb e) fI.1 fI.2.1 fI.2.2.2.1 fI.2.2.2.2.1 fI.2.2.2.2.2;have gS':h'.get? S=some (seqObj "list" #[ub,.int (kf i) tb] n):=eb S _ hSI gS;show wpAny _ X.A.in1 (updateSeq S (λ_=>#[]) >>= _) _ _ _;refine Jag ?_;refine Jel gS' rfl (Jag (Jd2 (Ja2 ?_)));have s1:=Jdm h' S (Obj.mapSeq λ_=>(#[]:Array Value));have I2:=I1.turned (t':=s.toks) (h':=h'.update S (Obj.mapSeq λ_=>(#[]:Array Value))) (λb o hb e=>(s1.2 b hb).trans e) fS.1 fS.2.1 fS.2.2.2.1 fS.2.2.2.2.1 fS.2.2.2.2.2;exact hR i vb ub _ H ⟨∅,λj' hj'=>hbest j' ∅⟩ hvb rvb sm I2
 | succ r ih=>
  intro j i s H vb ub tb n hr hj sm I L fS fI gS hit hvb rvb hij hbest;have hlt:j+1<xs.length:=∅
  refine Zal (I.list (sm.sqL hl0)) λits rv p hz=>?_;have hlen:=rv.length;have hx:xs[j+1]?=some (xs[j+1]'hlt):=Jaa hlt;refine Zac (rv.get hx) λu hu ru=>?_;refine codeAny_builtin Jdy ?_;rw[Jec Jby _];show wpAny _ X.A.in1 (seqItems? (.ref S) >>= _) _ _ _;refine Jag (Jcf gS rfl ?_);show wpAny _ X.A.in1 (tryCatch (pyNext (.ref It)) _ >>= _) _ _ _;refine Jag (Jc2 (Jdx (A:=X.A.in1) hit p.isList (x:=u) (by simpa using hu) λh' hit' sb=>?_));have I1:Inv X pins σ H { s with heap:=h' }:=I.turned (t':=s.toks) (λb o hb e=>(sb.2 b hb).trans e) fI.1 fI.2.1 fI.2.2.2.1 fI.2.2.2.2.1 fI.2.2.2.2.2;have gS':h'.get? S=some (seqObj "list" #[ub,.int (kf i) tb] n):=(sb.2 S hSI).trans gS;refine Zal (id hit') λoI goI hoc hod=>?_;have L1:LamAt X pins sc params body qual P H { s with heap:=h' } f c' cl ctv pm:=⟨(sb.2 f hfI).trans L.fn,L.fp,L.cod,L.hcl,L.hcl2⟩
  show wpAny _ X.A.in1 (tryCatch (holding [u] (call (.ref f) [u])) _ >>= _) _ _ _;refine Jag (Jc2 (Jdc (Jcj (Zqc (i:=j+1) hc hroom B hbd he I1 L1 (ht (j+1) _ H hx sm) ru fS gS' (λv z=>by cases z) fI goI (λv z=>by rw[hod] at z;cases z)) (λy s2 hy=>?_) λ_ _ hF=>hF.elim)));refine Zg2 hy λt2 H2 e92 sm2 I2 L2' gS2 e93=>?_;clear hy;obtain rfl:=e92;refine Za2 e93 λnS2 gI2 nI2=>?_;clear e93;have hit2:s2.heap.IsListIter It l (j+1+1):=⟨oI,gI2,hoc,hod⟩
  show wpAny _ X.A.in1 (tryCatch (holding [u,.int (kf (j+1)) t2] (richCompare .Lt (.int (kf (j+1)) t2) (.int (kf i) tb) >>= _)) _ >>= _) _ _ _;refine Jag (Jc2 (Jdc (Jag (CmpOf.ints_lt (prog:=X.prog) (w:=X.w) (A:=X.A.in1) (P:=λi v=>∃ t,v=.int (kf i) t) kf (λi v h=>h) (j+1) i _ _ _ _ _ ⟨t2,rfl⟩ ⟨tb,rfl⟩ ?_))));refine Jag (Jdc (Jbl ?_));refine Jag (Jd2 (Ja2 ?_));by_cases hb':kf (j+1)<kf i
  .have s1:=Jdm s2.heap S (Obj.mapSeq λ_=>#[u,.int (kf (j+1)) t2]);obtain⟨c2,hc2⟩:∃ c2,(s2.heap.update S (Obj.mapSeq λ_=>#[u,.int (kf (j+1)) t2])).get? S=some (seqObj "list" #[u,.int (kf (j+1)) t2] c2):=⟨_,get?_update_seq gS2 λ_=>#[u,.int (kf (j+1)) t2]⟩
   simp only[hb',decide_true,Jcm];refine Jag ?_;refine Jel gS2 rfl (Jag (Jd2 ?_));rw[hname];have I3:=I2.turned (t':=s2.toks) (h':=s2.heap.update S (Obj.mapSeq λ_=>#[u,.int (kf (j+1)) t2])) (λb o hb e=>(s1.2 b hb).trans e) nS2 fS.2.1 fS.2.2.2.1 fS.2.2.2.2.1 fS.2.2.2.2.2;have L3:LamAt X pins sc params body qual P H2 { s2 with heap:=s2.heap.update S (Obj.mapSeq λ_=>#[u,.int (kf (j+1)) t2]) } f c' cl ctv pm:=⟨(s1.2 f hfS).trans L2'.fn,L2'.fp,L2'.cod,L2'.hcl,L2'.hcl2⟩
   refine Ja2 ⟨Jew Jby _,ih (j+1) (j+1) _ H2 _ u t2 c2 ∅ hlt (sm.trans sm2) I3 L3 (fS.same nS2) (fI.same nI2) hc2 ⟨oI,(s1.2 It hSI.symm).trans gI2,hoc,hod⟩ hx ru (Jah _) λj' hj'=>?_⟩;by_cases e:j'=j+1
   .subst e;exact⟨∅,λ_=>∅⟩
   .have hb1:=hbest j' ∅;have hb2:=hb1.1;exact⟨∅,λ_=>∅⟩
  .simp only [hb',decide_false,Bool.false_eq_true,if_false];refine Jag (Jd2 ?_);rw[hname];refine Ja2 ⟨Jew Jby _,ih (j+1) i s2 H2 vb ub tb n ∅ hlt (sm.trans sm2) I2 L2' (fS.same nS2) (fI.same nI2) gS2 hit2 hvb rvb ∅ λj' hj'=>?_⟩;by_cases e:j'=j+1
   .subst e;exact⟨∅,λ_=>∅⟩
   .exact hbest j' ∅
theorem Zta (a v d:Value):argsOk "min" ⟨[a],[(Str.ofString "key",v),(Str.ofString "default",d)]⟩:=by unfold argsOk;kernel_rfl
theorem Zs9 {s:Shared}{Q:Value->Shared->Prop}(hc:X.calm=true)(hroom:X.A.depth<recursionLimit)(B:LamScope X sc x fr)(hbd:∀ u pm c' ctv cl,bindArgs (kla_fn "<lambda>" qual params body sc cl pm (.ref c') ctv) ⟨[u],[]⟩=pure [(x,u)])(he:∀ cl f c' s H,PE (Zko X (Zrk x fr) qual sc cl f (.ref c') X.A.in1 s H) body te)(I:Inv X pins σ H0 s)(L:LamAt X pins sc params body qual P H0 s f c' cl ctv pm)(ht:∀ i v H,xs[i]?=some v->Same H0 H->te (Zuu v fr σ) H λy H'=>y=.int (kf i)/\Same H H')(hl0:SqL X.K H0 l xs)(q0:xs=[]->∀ s' H',Same H0 H'->Inv X pins σ H' s'->Q .none s')(q1:∀ i v u s' H',IsMin kf xs.length i->xs[i]?=some v->RelV v u->Same H0 H'->Inv X pins σ H' s'->Q u s'):
  wpAny (model X.prog X.w) X.A (call (.builtin "min") [.ref l] [(Str.ofString "key",.ref f),(Str.ofString "default",.none)]) Q X.xe s:=by
 have hname:(toString "min" ++ toString ".loop" : String)="min.loop" := by decide
 refine Zal (I.list hl0) λits rv p hz=>?_;have hlen:=rv.length;refine Zac (id p.isList) λol hol _=>?_;have hll:l<s.heap.objs.size:=Jak hol;have hfl:f<s.heap.objs.size:=Jak L.fn;refine kmk_tree PySem.F.kind_min PySem.F.plain_min PySem.F.entry_min (Zta _ _ _) ?_;show wpAny _ X.A.in1 (Builtin.Builtins.bindParams "min" ["key","default"] 0 ⟨[],[(Str.ofString "key",.ref f),(Str.ofString "default",.none)]⟩ >>= _) _ _ s;refine Jag (wpAny_of_eq (show Builtin.Builtins.bindParams "min" ["key","default"] 0 ⟨[],[(Str.ofString "key",.ref f),(Str.ofString "default",.none)]⟩=pure [some (.ref f),some .none] from rfl) ?_);refine Jag (Ja2 ?_);refine Jag (Jcg p.isList ?_);refine Jag (wpAny_newList ?_ (Jcl _));rw[hname];have hS:(s.heap.push { cls:=.type "list_iterator",data:=.fields #[.ref l,.int 0 0] }).objs.size=s.heap.objs.size+1:=size_push' ..;have gI:((s.heap.push { cls:=.type "list_iterator",data:=.fields #[.ref l,.int 0 0] }).push (seqObj "list" #[] 0)).get? s.heap.objs.size=some { cls:=.type "list_iterator",data:=.fields #[.ref l,.int 0 0] }:=
  Jaj _ (Jas _ rfl)
 have gS:((s.heap.push { cls:=.type "list_iterator",data:=.fields #[.ref l,.int 0 0] }).push (seqObj "list" #[] 0)).get? (s.heap.push { cls:=.type "list_iterator",data:=.fields #[.ref l,.int 0 0] }).objs.size=some (seqObj "list" #[] 0):=Jas _ rfl;rw[hS] at gS;have hk:∀ b o,s.heap.get? b=some o->((s.heap.push { cls:=.type "list_iterator",data:=.fields #[.ref l,.int 0 0] }).push (seqObj "list" #[] 0)).get? b=some o:=λb o e=>Jaj _ (Jaj _ e);have I0:Inv X pins σ H0 { s with heap:=(s.heap.push { cls:=.type "list_iterator",data:=.fields #[.ref l,.int 0 0] }).push (seqObj "list" #[] 0) }:=I.kept (t':=s.toks) hk;have fI:FpOk X pins H0 s.heap.objs.size:=I.fpOk (Jah _) (I.hok.fresh (Jah _));have fS:FpOk X pins H0 (s.heap.objs.size+1):=I.fpOk (Nat.le_succ _) (I.hok.fresh (Nat.le_succ _));have L0:LamAt X pins sc params body qual P H0 { s with heap:=(s.heap.push { cls:=.type "list_iterator",data:=.fields #[.ref l,.int 0 0] }).push (seqObj "list" #[] 0) } f c' cl ctv pm:=⟨hk _ _ L.fn,L.fp,L.cod,L.hcl,L.hcl2⟩
 have hSI:s.heap.objs.size+1≠s.heap.objs.size:=∅
 have p0:PlainL ((s.heap.push { cls:=.type "list_iterator",data:=.fields #[.ref l,.int 0 0] }).push (seqObj "list" #[] 0)) l its.toArray:=by
  refine Zbd p λo n e r=>?_;clear p;exact Zat o n ⟨hk _ _ e,r⟩
 have hit:Heap.IsListIter ((s.heap.push { cls:=.type "list_iterator",data:=.fields #[.ref l,.int 0 0] }).push (seqObj "list" #[] 0)) s.heap.objs.size l 0:=⟨_,gI,rfl,rfl⟩
 refine Ja2 ⟨Jew Jby _,?_⟩;rw[hS];refine codeAny_builtin Jdy ?_;rw[Jec Jby _];show wpAny _ X.A.in1 (seqItems? (.ref _) >>= _) _ _ _;refine Jag (Jcf gS rfl ?_);show wpAny _ X.A.in1 (tryCatch (pyNext (.ref s.heap.objs.size)) _ >>= _) _ _ _;cases hxs:xs with
 | nil=>
  subst hxs;have e0:its=[]:=List.length_eq_zero_iff.mp (by simpa using hlen.symm);refine Jag (Jc2 (Jd7 (A:=X.A.in1) (I.ok.hd hc) hit p0.isList (by rw[e0];rfl) λh' eb=>?_));have I1:Inv X pins σ H0 { s with heap:=h' }:=I0.turned (t':=s.toks) (λb o hb e=>eb b o hb e) fI.1 fI.2.1 fI.2.2.2.1 fI.2.2.2.2.1 (λp hp=>fI.2.2.2.2.2 p hp);show wpAny _ X.A.in1 (rule _ >>= _) _ _ _;exact Jag (wpAny_rule (Ja2 (q0 rfl _ H0 (Same.refl _) I1)))
 | cons v0 r0=>
  have hne:0<xs.length:=by rw[hxs];exact Nat.zero_lt_succ _
  have hx:xs[0]?=some v0:=by rw[hxs];rfl
  rw[<- hxs] at *;refine Zac (rv.get hx) λu hu ru=>?_;refine Jag (Jc2 (Jdx (A:=X.A.in1) hit p0.isList (x:=u) (by simpa using hu) λh' hit' sb=>?_));have I1:Inv X pins σ H0 { s with heap:=h' }:=I0.turned (t':=s.toks) (λb o hb e=>(sb.2 b hb).trans e) fI.1 fI.2.1 fI.2.2.2.1 fI.2.2.2.2.1 fI.2.2.2.2.2;have gS':h'.get? (s.heap.objs.size+1)=some (seqObj "list" #[] 0):=(sb.2 _ hSI).trans gS;refine Zal (id hit') λoI goI hoc hod=>?_;have L1:LamAt X pins sc params body qual P H0 { s with heap:=h' } f c' cl ctv pm:=⟨(sb.2 f (Ja6 hfl)).trans L0.fn,L.fp,L.cod,L.hcl,L.hcl2⟩
  show wpAny _ X.A.in1 (tryCatch (holding [u] (call (.ref f) [u])) _ >>= _) _ _ _;refine Jag (Jc2 (Jdc (Jcj (Zqc (i:=0) hc hroom B hbd he I1 L1 (ht 0 _ H0 hx (Same.refl _)) ru fS gS' (λv z=>by cases z) fI goI (λv z=>by rw[hod] at z;cases z)) (λy s2 hy=>?_) λ_ _ hF=>hF.elim)));refine Zg2 hy λt2 H2 e94 sm2 I2 L2' gS2 e95=>?_;clear hy;obtain rfl:=e94;refine Za2 e95 λnS2 gI2 nI2=>?_;clear e95;have s1:=Jdm s2.heap (s.heap.objs.size+1) (Obj.mapSeq λ_=>#[u,.int (kf 0) t2]);obtain⟨c2,hc2⟩:∃ c2,(s2.heap.update (s.heap.objs.size+1) (Obj.mapSeq λ_=>#[u,.int (kf 0) t2])).get? (s.heap.objs.size+1)=some (seqObj "list" #[u,.int (kf 0) t2] c2):=⟨_,get?_update_seq gS2 λ_=>#[u,.int (kf 0) t2]⟩
  show wpAny _ X.A.in1 (updateSeq (s.heap.objs.size+1) (λ_=>#[u,.int (kf 0) t2]) >>= _) _ _ _;refine Jag ?_;refine Jel gS2 rfl ?_;rw[hname];have I3:=I2.turned (t':=s2.toks) (h':=s2.heap.update (s.heap.objs.size+1) (Obj.mapSeq λ_=>#[u,.int (kf 0) t2])) (λb o hb e=>(s1.2 b hb).trans e) nS2 fS.2.1 fS.2.2.2.1 fS.2.2.2.2.1 fS.2.2.2.2.2;have hfS:f≠s.heap.objs.size+1:=Ja6 (Jcr hfl);have L3:LamAt X pins sc params body qual P H2 { s2 with heap:=s2.heap.update (s.heap.objs.size+1) (Obj.mapSeq λ_=>#[u,.int (kf 0) t2]) } f c' cl ctv pm:=⟨(s1.2 f hfS).trans L2'.fn,L2'.fp,L2'.cod,L2'.hcl,L2'.hcl2⟩
  refine Ja2 ⟨Jew Jby _,Zs8 (H0:=H0) hc hroom B hbd he (Ja6 hll) hSI (Ja6 hfl) hfS ht hl0 (λi v u s' H' a b c d e=>q1 i v u s' H' a b c d e) _ 0 0 _ H2 v0 u t2 c2 rfl hne sm2 I3 L3 (fS.same nS2) (fI.same nI2) hc2 ⟨oI,(s1.2 _ hSI.symm).trans gI2,hoc,hod⟩ hx ru (Jah _) λj' hj'=>?_⟩;have e:j'=0:=∅
  subst e;exact⟨∅,λh=>absurd h (Jb0 _)⟩
end
def tMinL (K:Frag)(P:Addr)(ln co:Int)(q:Str)(fr:List (Str×Nat))(ta te:TE):TE:=λσ H Q=>ta σ H λv H1=>∃ l xs,∃ kf:Nat->Int,v=.ref l/\SqL K H1 l xs/\H1 P=some (.tab ln co q) /\
 (∀ i v H,xs[i]?=some v->Same H1 H->te (Zuu v fr σ) H λy H'=>y=.int (kf i)/\Same H H')/\(xs=[]->∀ H',Same H1 H'->Q .non H')/\∀ i v H',IsMin kf xs.length i->xs[i]?=some v->Same H1 H'->Q v H'
section
variable {X:Cx}{sc:Scope}{x:Str}{fr:List (Str×Nat)}{P c:Addr}{params:Arguments}{body e:Expr}{lpos p pos k1 k2 kp:Pos}{ta te:TE}
theorem pe_minL {i0:Nat}(hc:X.calm=true)(hroom:X.A.depth<recursionLimit)(hg:Gl X "min")(hm:X.mg "min" = none)(B:LamScope X sc x fr)(hcode:X.env.code=.ref c)(C:CodeHd X.base c P)(hdef:defaultsOf params X.env=([],[]))(hbd:∀ u pm c' ctv cl,bindArgs (kla_fn "<lambda>" (X.env.qual ++ "<lambda>") params body sc cl pm (.ref c') ctv) ⟨[u],[]⟩=pure [(x,u)])(ha:PE X e ta)(he:∀ cl f c' s H,PE (Zko X (Zrk x fr) (X.env.qual ++ "<lambda>") sc cl f (.ref c') X.A.in1 s H) body te)(hs:Zbl e=false:=by rfl):
  PE X (.Call (.Name "min" p) [e] [⟨some "key",.Lambda params body sc lpos,k1⟩,⟨some "default",.Constant .none i0 kp,k2⟩] pos) (tMinL X.K P (lpos.line:Int) (lpos.col:Int) (X.env.qual ++ "<lambda>") fr ta te):=by
 intro pins s σ H Q I h;refine Jc4 (Zfk I hg hm boot_min ?_ ⇑0 ⇑0);have hst:backTo pos (starEach [e] X.env)=(false,eval e X.env)::backTo pos (starEach [] X.env):=by rw[Zay hs];rfl
 refine callWith_kw (id:="min") (e:=e) (rest:=[]) ?_ hst (by rw[hst];rfl) ⇑1 (by rfl);rw[hst];refine Calls.spliced_cons (thn (ha pins s σ H _ I h) λu s1 ⟨v,H1,I1,r1,h1⟩=>?_);refine Zda h1 λl xs kf e96 hl hP e97=>?_;clear h1;obtain rfl:=e96;refine Za2 e97 λht q0 q1=>?_;clear e97;cases r1;refine Calls.spliced_nil ?_;refine kws_cons (mk_lam I1 B hcode C hP hdef λs2 H2 f c' cl ctv pm I2 sm L=>?_);refine kws_cons (Constant_none (kws_nil ?_));show wpAny _ _ (call (.builtin "min") [.ref l] [(Str.ofString "key",.ref f),(Str.ofString "default",.none)]) _ _ s2;refine Zs9 (kf:=kf) hc hroom B hbd he I2 L (λi v H hi sm2=>ht i v H hi (sm.trans sm2)) (sm.sqL hl) (λe0 s' H' sm2 I'=>?_) λi v u s' H' hmn hi ru sm2 I'=>?_
 .exact Zat .non H' ⟨I',rfl,q0 e0 H' (sm.trans sm2)⟩
 .exact Zat v H' ⟨I',ru,q1 i v H' hmn hi (sm.trans sm2)⟩
end
abbrev Tbs:=List (Addr×Int×Int×Str)
def Zkz (tb:Tbs)(H:Hp):Prop:=∀ b t,tb.lookup b=some t->H b=some (.tab t.1 t.2.1 t.2.2)
def hp0 (K:Frag)(tb:Tbs)(a:Addr)(oa:Obj)(xs:List V):Hp:=λb=>if b=a then (if (K.lookup a).isSome=true then none else some (.frz oa (.lst xs))) else (tb.lookup b).map λt=>.tab t.1 t.2.1 t.2.2
theorem Zqa {P:Program}{w:World}{K:Frag}{mg mb:Str->Option Value}{CX:CXT}{k:Nat}{fa a:Addr}{fd:FuncData}{x:Str}{sp:Sp}{s₁:Shared}{vs:List Value}{ns:List Int}{tb:Tbs}(KX:K.In s₁.heap)(hns:s₁.heap.Ns mainGlobals mg)(hb:s₁.heap.Ns builtinsNs mb)(hbb:∀ x:Str,x ≠ "__name__" -> mb x=bootBuiltins x)(hlim:s₁.heap.NoLimit)(hseer:s₁.heap.NoSeer)(hbm:∃ bm ob,mg "__builtins__" = some (.ref bm)/\bm≠builtinsNs/\s₁.heap.get? bm=some ob/\ob.cls=.type "module" /\ ob.dict=some builtinsNs/\ob.data=.plain)(hg:s₁.gens=#[])(htb:∀ b t,tb.lookup b=some t->s₁.heap.get? b=some (tabObj #[])/\K.lookup b=none/\isCodeTable s₁.heap b)(ha:s₁.heap.get? a=some { cls:=.type "list",data:=.seq vs.toArray })(hi:IntsAre vs ns)(hl:ns.length<=sizeLine)(hr:Room k callerA)(F:∀ base:Heap,K.In base->base.Ns mainGlobals mg->FnOk P w K mg base CX k fa fd [x] sp)(hbind:∀ (s:Shared) (u:Value),BindsTo s fd ⟨[u],[]⟩ [(x,u)])(hsp:∀ H:Hp,SqL K H a (ns.map V.int)->Zkz tb H->sp [.ref a] H (λv H'=>v=.bl true/\Zkz tb H') λ_ _ _=>False)(hCX:∀ H e s',CX [] H s₁ (λ_ _ _=>False) e s'->False):
  codeAny (model P w) callerA (.call (.ref fa) ⟨[.ref a],[]⟩) (λr s'=>r=.ok (.ret (.bool true))/\OldK s₁.heap s'.heap/\s'.os=s₁.os/\AllBare s'.gens) s₁:=by
 have rv:=Zjq hi;have lenV:=hi.length;generalize hH:hp0 K tb a { cls:=.type "list",data:=.seq vs.toArray } (ns.map V.int)=H;have tne:∀ b t,tb.lookup b=some t->b≠a:=λb t e z=>by
  have:=(htb b t e).1;rw[z,ha] at this;cases this
 have hT:Zkz tb H:=λb t e=>by
  rw[<- hH];unfold hp0;rw[if_neg (tne b t e),e];rfl
 have cases3:∀ b,H b=none\/(b=a/\K.lookup a=none/\H b=some (.frz { cls:=.type "list",data:=.seq vs.toArray } (.lst (ns.map V.int))))\/∃ t,tb.lookup b=some t/\H b=some (.tab t.1 t.2.1 t.2.2):=λb=>by
  rw[<- hH];unfold hp0;by_cases hba:b=a
  .rw [if_pos hba];cases hk:K.lookup a with
   | none=>exact .inr (.inl ⟨hba,rfl,rfl⟩)
   | some o=>exact .inl rfl
  .rw [if_neg hba];cases ht:tb.lookup b with
   | none=>exact .inl rfl
   | some t=>exact .inr (.inr ⟨t,rfl,rfl⟩)
 have free:∀ {b:Addr} {o:Obj},s₁.heap.get? b=some o->(∀ xs n,o.data≠.seq xs n)->(∀ xs,o.data≠.fields xs)->H b=none:=λ{b o} e d1 d2=>by
  rcases cases3 b with h|⟨rfl,_,_⟩|⟨t,h,_⟩
  .exact h
  .rw [ha] at e;cases e;exact absurd rfl (d1 _ _)
  .rw [(htb b t h).1] at e;cases e;exact absurd rfl (d2 _)
 have base_of:∀ {b:Addr} {o:Obj},s₁.heap.get? b=some o->H b=none->(Zrm s₁.heap H).get? b=some o:=λe n=>Ztk e n;have nsK:∀ {b:Addr} {m:Str->Option Value},s₁.heap.Ns b m->(Zrm s₁.heap H).Ns b m:=λ{b m} ⟨o,es,ep,e,d,r⟩=>⟨o,es,ep,base_of e (free e (λxs n z=>by rw[d] at z;cases z) λxs z=>by rw[d] at z;cases z),d,r⟩
 have hKb:K.In (Zrm s₁.heap H):=λb o e=>base_of (KX b o e) (by
  rcases cases3 b with h|⟨rfl,h,_⟩|⟨t,h,_⟩
  .exact h
  .rw [h] at e;cases e
  .rw [(htb b t h).2.1] at e;cases e)
 have seerB:(Zrm s₁.heap H).NoSeer:=⟨let ⟨mc,x,y⟩:=hseer.statics;⟨mc,nsK x,y⟩,let ⟨mc,x,y⟩:=hseer.mods;⟨mc,nsK x,y⟩,let ⟨mc,x,y⟩:=hseer.imp;⟨mc,nsK x,y⟩,let ⟨mg',bm,ob,x,y,z,u,v⟩:=hseer.main;⟨mg',bm,ob,nsK x,y,base_of z (by
   rcases cases3 bm with h|⟨rfl,_,_⟩|⟨t,h,_⟩
   .exact h
   .rw [ha] at z;cases z;have u':Value.type "list" = Value.type "module" := u
    injection u' with u'
    exact absurd u' ⇑0
   .rw [(htb bm t h).1] at z;cases z;cases u),u,v⟩⟩
 have hM:Mod K mg (Zrm s₁.heap H):=⟨hKb,nsK hns,⟨mb,nsK hb,hbb⟩,let ⟨mc,h1,h2⟩:=hlim;⟨mc,nsK h1,h2⟩,seerB,let ⟨bm,ob,x1,x2,x3,x4,x5,x6⟩:=hbm;⟨bm,ob,x1,x2,base_of x3 (free x3 (λxs n z=>by rw[x6] at z;cases z) λxs z=>by rw[x6] at z;cases z),x4,x5,x6⟩⟩
 have hS:SqL K H a (ns.map V.int):=by
  rcases hk:K.lookup a with _|o
  .refine .inl (.inr ⟨{ cls:=.type "list",data:=.seq vs.toArray },?_⟩);rw[<- hH];unfold hp0;rw[if_pos rfl,hk];rfl
  .have e:=KX a o hk;rw[ha] at e;cases e;exact .inr ⟨_,vs.toArray,_,hk,rfl,rfl,rfl,by rw[Jap,lenV];exact hl,by simpa using rv⟩
 have hok:HOk P w H s₁.heap:=λb u e=>by
  rcases cases3 b with h|⟨rfl,_,h⟩|⟨t,h0,h⟩
  .rw [h] at e;cases e
  .rw [h] at e;cases e;exact⟨ha,by rw[Jab];exact hl,vs,_,rv,ha⟩
  .rw [h] at e;cases e;exact .inl (htb b t h0).1
 have e0:Env0 P w K mg (Zrm s₁.heap H) callerA [] s₁ H:=⟨rfl,hM,λb o e=>of_hidT e,Nat.le_of_eq (Zqq _ _),trivial,λb hb=>absurd (show b∈([]:List Addr) from hb) (by simp),hok,.of_eq hg⟩
 refine codeAny_mono ((F _ hKb (nsK hns)).run callerA [] s₁ H ⟨[.ref a],[]⟩ [.ref a] [.ref a] _ _ hr e0 (hbind s₁ (.ref a)) (.cons rfl .nil) (hsp H hS hT)) λr s' h=>?_;cases r with
 | error e=>exact (hCX H e s' h).elim
 | ok fl=>
  cases fl with
  | next=>exact False.elim h
  | brk=>exact False.elim h
  | cont=>exact False.elim h
  | ret u=>
   refine Zg2 h λv H' os bare un hok' r' q=>?_;clear h;obtain⟨q',hT'⟩:=q;subst q';obtain rfl:u=Value.bool true:=r';have noF:∀ b:Addr,b∉frs ([]:List Env):=λb z=>absurd (show b∈([]:List Addr) from z) (by simp);refine⟨rfl,⟨λb o e=>?_,λb o e=>un.there b o e (by simp)⟩,os,bare⟩;rcases cases3 b with h|⟨rfl,_,h⟩|⟨t,h0,h⟩
   .exact .inl (un.keep b o e h (noF b) (by simp))
   .have z2:=un.frzs _ _ _ h;obtain⟨e1,_⟩:=hok _ _ h;obtain⟨e2,_⟩:=hok' _ _ z2;rw[e] at e1;cases e1;exact .inl e2
   .rw [(htb b t h0).1] at e;cases e;rcases hok' b _ (hT' b t h0) with e2|⟨c',oc,ws,tk,e2,_⟩
    .exact .inl e2
    .exact .inr (.inl ⟨(htb b t h0).2.2,rfl,#[],_,rfl,by rw[e2,Array.empty_append]⟩)
theorem Zrt {l:PySem.W.OpenLaw}{n k:Nat}{q:Program}{loose:List Str}{XP:(Str->Option Value)->Heap->Prop}{YP:World->Heap->Prop}{d:DefRec}{K:Params->Frag}{CX:World->CXT}{sp:World->Sp}{x:Str}{tb:Tbs}(hq:importsNone q=true)(hn:l.most=some n)(hn2:n<=sizeLine)(hdf:d.params.defaults=[])(hr:Room k callerA)(hY:∀ (w:World) (h:Heap),YP w h->(K w.params).In h)(htb:∀ (w:World) (h:Heap),YP w h->∀ b t,tb.lookup b=some t->h.get? b=some (tabObj #[])/\(K w.params).lookup b=none/\isCodeTable h b)(F:∀ (w:World) (mg:Str->Option Value) (fa:Addr) (h:Heap),(K w.params).In h->h.Ns mainGlobals mg->mg d.name=some (.ref fa)->
   ∃ fd:FuncData,(∀ (s:Shared) (u:Value),BindsTo s fd ⟨[u],[]⟩ [(x,u)]) /\
    ∀ base:Heap,(K w.params).In base->base.Ns mainGlobals mg->FnOk l.prog w (K w.params) mg base (CX w) k fa fd [x] (sp w))(hsp:∀ (w:World) (H:Hp) (a:Addr) (ns:List Int),ns.length<=n->SqL (K w.params) H a (ns.map V.int)->Zkz tb H->sp w [.ref a] H (λv H'=>v=.bl true/\Zkz tb H') λ_ _ _=>False)(hCX:∀ (w:World) (H:Hp) (s:Shared) (e:Value) (s':Shared),CX w [] H s (λ_ _ _=>False) e s'->False):
  PySem.W.WalkO q loose XP YP l.row.toRowW d [] (λf vs=>PySem.call f vs):=by
 refine Att.attach_call hn hdf λw s₀ s₁ mg mb fa o pm cd doc a vs ns G Y ho hd hcd hmg hobj hints hlen hg=>?_;have KX:=hY w _ Y;refine Zac (F w mg fa _ KX G.T.g hmg) λfd hb hF=>?_;exact Zqa KX G.T.g G.T.b G.T.builtins G.T.nolimit (G.T.seer hq) G.T.bmain hg (htb w _ Y) hobj hints (Jbi hlen hn2) hr hF hb (λH hS hT=>hsp w H a ns hlen hS hT) λH e s'=>hCX w H s₁ e s'
def lamOk (outer:List (Str×NameKind))(N:List Str)(sc:Scope)(x:Str)(fr:List (Str×Nat)):Bool:=
 sc.kind == .function && !sc.isCoroutine && !sc.isGenerator && sc.names.all (λy=>y.2 != .cell) && sc.names.lookup x == some .local &&
 sc.names.all (λy=>y.2 != .free || outer.lookup y.1 == some .cell || outer.lookup y.1 == some .free) &&
 fr.all λy=>sc.names.lookup y.1 == some .free && N[y.2]? == some y.1
theorem lam_of {X:Cx}{sc:Scope}{x:Str}{fr:List (Str×Nat)}(h:lamOk X.env.scope.names X.N sc x fr=true):LamScope X sc x fr:=by
 unfold lamOk at h;simp only[Ja5,Jay] at h;obtain⟨⟨⟨⟨⟨⟨h1,h2⟩,h3⟩,h4⟩,h5⟩,h6⟩,h7⟩:=h;refine⟨?_,?_,?_,λy hy z=>?_,Jbj.mp h5,λy hy hf=>?_,λy hy=>?_⟩
 .cases e:sc.kind <;> rw[e] at h1 <;> first|rfl|(exact absurd h1 ⇑0)
 .simpa using h2
 .simpa using h3
 .have:=h4 y hy;rw[z] at this;exact absurd this ⇑0
 .have:=h6 y hy;rw[hf] at this;simp only[Jdt,Jbj] at this;rcases this with (q|q)|q
  .exact absurd q ⇑0
  .exact .inl q
  .exact .inr q
 .have:=h7 y hy;exact⟨Jbj.mp this.1,Jbj.mp this.2⟩
structure FunC (K:Frag)(x qual:Str)(st:Stmt)(f:Addr)(fd:FuncData)(c:Addr):Prop where
 ex:∃ (oc:Value) (od:Option Addr) (kV doc pm:Value) (an:Option Addr) (ct:Value) (osl:Array (Option Value)),
  fd=PySem.W.fnOf x qual (Zb6 st) (Zbu st) (Zae st) .none kV doc pm an (.ref c) ct/\K.lookup f=some ⟨oc,od,.func fd,osl⟩/\PySem.W.codeIn K (.ref c) qual=true
section
theorem FunC.ok {x qual:Str}{st:Stmt}{f c:Addr}{fd:FuncData}{N ps:List Str}{k:Nat}{sp:L2.Sp}(F:FunC K x qual st f fd c)(S:FnScope N ps (Zae st))(len:∀ vs H Q E,sp vs H Q E->vs.length=ps.length)(hbody:∀ (A:Around) (outer:List Env) (s:Shared) (H:Hp) (vs:List V) (Q:VK) (E:XK),Room k (A.deeper (envOfC qual (Zae st) s.heap.objs.size f (.ref c)))->sp vs H Q E->
   ∃ t,PSs (Ztv CX0 P w K mg base N qual (Zae st) f (.ref c) A outer s H E).nox (Zbu st) t/\t { nx:=λ_ H'=>Q .non H',rt:=Q } (start N vs) H):FnOk P w K mg base CX0 (k+1) f fd ps sp:=by
 refine xE8_3 F.ex λoc od kV doc pm an ct osl e98 lk hcd=>?_;obtain rfl:=e98;refine fn_of lk hcd S len λA outer s H vs Q E hr hsp=>?_;refine Zac (hbody A outer s H vs Q E hr hsp) λt h q=>?_;exact⟨t,h.nox,q⟩
theorem FunC.binds {x qual:Str}{st:Stmt}{f c:Addr}{fd:FuncData}{ps:List Str}(F:FunC K x qual st f fd c)(h:∀ (kV doc pm:Value) (an:Option Addr) (cdv ct:Value) (us:List Value),us.length=ps.length->bindArgs (PySem.W.fnOf x qual (Zb6 st) (Zbu st) (Zae st) .none kV doc pm an cdv ct) ⟨us,[]⟩=pure (ps.zip us)):Binds K fd ps []:=by
 refine xE8_3 F.ex λoc od kV doc pm an ct osl e99 lk hcd=>?_;obtain rfl:=e99;exact .all (h kV doc pm an (.ref c) ct)
end
end L2
namespace L2
open PySem PySem.Spec PyProof.Rows PySem.W
def hdIn (K:Frag)(c P:Addr):Bool:=
 match List.lookup c K with
 | some ⟨.type t,_,.fields (vs:Array Value),_⟩=>t == "code" && (match (vs[11]?:Option Value) with|some (Value.ref q)=>q == P|_=>false) && (match vs.getD 11 .none with | .ref q=>q == P|_=>false) && (match vs.getD 18 .none with | .str _ _=>true|_=>false) && (match vs.getD 7 .none with | .int _ _=>true|_=>false) && (match vs.getD 9 .none with | .bool _=>true|_=>false) && (match vs.getD 10 .none with | .int _ _=>true|_=>false) && c != P
 | _=>false
theorem hd_of {K:Frag}{h:Heap}{c P:Addr}(X:K.In h)(e:hdIn K c P=true):PySem.W.CodeHd h c P:=by
 unfold hdIn at e;split at e
 .rename_i t d vs sl hl
  simp only[Ja5] at e;obtain⟨⟨⟨⟨⟨⟨⟨e1,e2⟩,e3⟩,e4⟩,e5⟩,e6⟩,e7⟩,e8⟩:=e;have e1:=eq_of_beq e1;subst e1;have h2:vs[11]?=some (.ref P):=by
   split at e2
   .rename_i q hq
    rw[hq,eq_of_beq e2]
   .cases e2
  have h3:vs.getD 11 .none=.ref P:=by
   split at e3
   .rename_i q hq
    rw[hq,eq_of_beq e3]
   .cases e3
  have h4:∃ f t,vs.getD 18 .none=.str f t:=by
   split at e4
   .rename_i f t hq
    exact⟨f,t,hq⟩
   .cases e4
  have h5:∃ f t,vs.getD 7 .none=.int f t:=by
   split at e5
   .rename_i f t hq
    exact⟨f,t,hq⟩
   .cases e5
  have h6:∃ f,vs.getD 9 .none=.bool f:=by
   split at e6
   .rename_i f hq
    exact⟨f,hq⟩
   .cases e6
  have h7:∃ f t,vs.getD 10 .none=.int f t:=by
   split at e7
   .rename_i f t hq
    exact⟨f,t,hq⟩
   .cases e7
  obtain⟨f1,t1,h4⟩:=h4;obtain⟨f2,t2,h5⟩:=h5;obtain⟨f3,h6⟩:=h6;obtain⟨f4,t4,h7⟩:=h7;exact⟨_,vs,f1,t1,f2,t2,f3,f4,t4,X c _ hl,rfl,rfl,h2,h3,h4,h5,h6,h7,by simpa using e8⟩
 .cases e
theorem Zru {l:PySem.W.OpenLaw}{n k:Nat}{q:Program}{loose:List Str}{XP:(Str->Option Value)->Heap->Prop}{YP:World->Heap->Prop}{d:DefRec}{K:Params->Frag}{sp:World->Sp}{x:Str}(cL PL:Addr)(ln co:Int)(qu:Str)(hq:importsNone q=true)(hn:l.most=some n)(hn2:n<=sizeLine)(hdf:d.params.defaults=[])(hr:Room k callerA)(hY:∀ (w:World) (h:Heap),YP w h->(K w.params).In h)(hP:∀ (w:World) (h:Heap),YP w h->h.get? PL=some (PySem.W.tabObj #[]))(hN:∀ p,(K p).lookup PL=none)(hC:∀ p,hdIn (K p) cL PL=true)(F:∀ (w:World) (mg:Str->Option Value) (fa:Addr) (h:Heap),(K w.params).In h->h.Ns mainGlobals mg->mg d.name=some (.ref fa)->
   ∃ fd:FuncData,(∀ (s:Shared) (u:Value),BindsTo s fd ⟨[u],[]⟩ [(x,u)]) /\
    ∀ base:Heap,(K w.params).In base->base.Ns mainGlobals mg->FnOk l.prog w (K w.params) mg base CX0 k fa fd [x] (sp w))(hsp:∀ (w:World) (H:Hp) (a:Addr) (ns:List Int) (Q:VK) (E:XK),ns.length<=n->SqL (K w.params) H a (ns.map V.int)->H PL=some (.tab ln co qu)->(∀ H',H' PL=some (.tab ln co qu)->Q (.bl true) H')->sp w [.ref a] H Q E):
  PySem.W.WalkO q loose XP YP l.row.toRowW d [] (λf vs=>PySem.call f vs):=by
 have one:∀ b t,([(PL,ln,co,qu)]:Tbs).lookup b=some t->b=PL/\t=(ln,co,qu):=λb t e=>by
  rw[Ja1] at e;split at e
  .rename_i hb
   cases e;exact⟨eq_of_beq hb,rfl⟩
  .cases e
 have two:([(PL,ln,co,qu)]:Tbs).lookup PL=some (ln,co,qu):=by rw[Ja1];simp
 refine Zrt (l:=l) (n:=n) (k:=k) (K:=K) (CX:=λ_=>CX0) (sp:=sp) (x:=x) (tb:=[(PL,ln,co,qu)]) hq hn hn2 hdf hr hY (λw h Y b t e=>?_) F (λw H a ns hl hS hT=>?_) (λ_ _ _ _ _ h=>h)
 .obtain ⟨rfl,_⟩:=one b t e;have g:=hP w h Y;exact⟨g,hN _,((hd_of (hY w h Y) (hC _)).tab g).isCodeTable⟩
 .refine hsp w H a ns _ _ hl hS (hT PL _ two) λH' h'=>⟨rfl,λb t e=>?_⟩
  obtain⟨rfl,rfl⟩:=one b t e;exact h'
end L2
namespace L2
open PySem PySem.Spec PyProof.Rows
abbrev two (elt t1 i1 t2 i2:Expr)(scope:Scope)(pos:Pos):Expr:=.ListComp elt [⟨t1,i1,[],0⟩,⟨t2,i2,[],0⟩] scope pos
section
variable {prog:Program}{w:World}{A:Around}{R:Result->Shared->Prop}{s:Shared}{elt t1 i1 t2 i2:Expr}{scope:Scope}{pos:Pos}{it acc:Value}{env:Env}
end
section
variable {X:Cx}{tg iter t2 i2 elt:Expr}{scope:Scope}{pos:Pos}{own:List Str}{fr:List (Str×Nat)}{wi wi2:TI}{g g2:TG}{te:TE}
end
end L2
namespace L3
open L2
open Lean.Grind
def Zp (n:Nat):Type:=Fin n
instance {n:Nat}[NeZero n]:CommRing (Zp n):=inferInstanceAs (CommRing (Fin n))
class PrimeN (n:Nat):Prop where
 gt:1<n
 inv:∀ r:Nat,0<r->r<n->∃ k,k<n/\k*r % n=1
instance {n:Nat}[h:PrimeN n]:NeZero n:=⟨by have:=h.gt;omega⟩
section
variable {n:Nat}[hn:PrimeN n]
theorem Zt7 (a:Zp n)(h:a≠0):∃ b:Zp n,a*b=1:=by
 have h0:0<(show Fin n from a).val:=by
  rcases Nat.eq_zero_or_pos (show Fin n from a).val with z|z
  .exact absurd (show a=0 from Fin.ext (by rw[z];rfl)) h
  .exact z
 refine Zac (hn.inv _ h0 (show Fin n from a).isLt) λk hk e=>?_;refine⟨(⟨k,hk⟩:Fin n),?_⟩;apply Fin.ext;show ((show Fin n from a).val*k) % n=1 % n;rw[Nat.mul_comm,e,Nat.mod_eq_of_lt hn.gt]
open Classical in
noncomputable def zinv (a:Zp n):Zp n:=if h:a≠0 then Classical.choose (Zt7 a h) else 0
theorem Zgt {a:Zp n}(h:a≠0):a*zinv a=1:=by
 unfold zinv;rw[dif_pos h];exact Jck (Zt7 a h)
theorem Zg0:zinv (0:Zp n)=0:=by
 unfold zinv;rw[dif_neg (by simp)]
theorem Zgz:(0:Zp n)≠1:=λz=>by
 have:=Jdb (λx:Fin n=>x.val) z;have h1:(0:Nat) % n=1 % n:=this;rw[Nat.zero_mod,Nat.mod_eq_of_lt hn.gt] at h1;omega
theorem Zn7 {a b c:Zp n}(h1:a*b=1)(h2:a*c=1):b=c:=by
 have:b=b*(a*c):=by rw[h2];grind
 rw[this]
 grind
theorem Zn8 (a:Zp n):zinv (zinv a)=a:=by
 by_cases h:a=0
 .rw [h,Zg0,Zg0]
 .have h1:=Zgt h;have h2:zinv a≠0:=λz=>by
   rw[z] at h1;exact Zgz (by rw[<- h1];grind)
  exact Zn7 (Zgt h2) (by rw[<- h1];grind)
theorem Zro:zinv (1:Zp n)=1:=Zn7 (Zgt (λz=>Zgz z.symm)) (by grind)
noncomputable instance:Inv (Zp n):=⟨zinv⟩
noncomputable instance:Div (Zp n):=⟨λa b=>a*zinv b⟩
noncomputable def zpw (a:Zp n):Int->Zp n
 | .ofNat k=>a ^ k
 | .negSucc k=>zinv (a ^ (k+1))
noncomputable instance:HPow (Zp n) Int (Zp n):=⟨zpw⟩
noncomputable instance:Field (Zp n) where
 div_eq_mul_inv:=λa b=>rfl
 zero_ne_one:=Zgz
 inv_zero:=Zg0
 mul_inv_cancel:=λh=>Zgt h
 zpow_zero:=λa=>Semiring.pow_zero a
 zpow_succ:=λa k=>Semiring.pow_succ a k
 zpow_neg:=λa k=>by
  match k with
  | .ofNat 0=>exact (show a ^ (0:Nat)=zinv (a ^ (0:Nat)) by rw[Semiring.pow_zero,Zro])
  | .ofNat (m+1)=>rfl
  | .negSucc m=>exact (Zn8 (a ^ (m+1))).symm
end
section
variable {F:Type}[Field F]
def ic (z:Int):F:=(Ring.intCast:IntCast F).intCast z
theorem Zm4 (x y:Int):(ic (x+y):F)=ic x+ic y:=Ring.intCast_add x y
theorem Zqo (x y:Int):(ic (x-y):F)=ic x-ic y:=Ring.intCast_sub x y
theorem Zbw (x y:Int):(ic (x*y):F)=ic x*ic y:=Ring.intCast_mul x y
theorem Zuw (x:Int):(ic (-x):F)=-ic x:=Ring.intCast_neg x
theorem Zf8:(ic 0:F)=0:=Ring.intCast_zero
theorem Ze2:(ic 1:F)=1:=Ring.intCast_one
end
def Rz (p z:Int):Prop:=p=0\/(0<=z/\z<p)
structure FdOk (p:Int)(F:Type)[Field F]:Prop where
 z0:∀ z:Int,Rz p z->(ic z:F)=0->z=0
 md:p≠0->(ic p:F)=0
theorem fd_zero:FdOk 0 Rat:=⟨λz _ h=>by
 have h2:(z:Rat)=((0:Int):Rat):=h;exact Rat.intCast_inj.mp h2,λh=>absurd rfl h⟩
theorem Zt6 {n:Nat}[PrimeN n](k:Nat):(show Fin n from (ic ((k:Nat):Int):Zp n)).val=k % n:=by
 have:(ic ((k:Nat):Int):Zp n)=(Semiring.natCast:NatCast (Zp n)).natCast k:=Ring.intCast_natCast k;rw[this];rfl
theorem Zts {n:Nat}[hn:PrimeN n]:FdOk n (Zp n):=by
 refine⟨λz hz h=>?_,λ_=>?_⟩
 .have hz:0<=z/\z<n:=hz.resolve_left (by have:=hn.gt;omega);obtain⟨k,rfl⟩:=Jcu hz.1;have h2:=Zt6 (n:=n) k;rw[h,Nat.mod_eq_of_lt ∅] at h2;have h3:0 % n=k:=h2;rw[Nat.zero_mod] at h3;rw[<- h3];rfl
 .apply Fin.ext;have h2:=Zt6 (n:=n) n;rw[Nat.mod_self] at h2;refine h2.trans ?_;show 0=0 % n;rw[Nat.zero_mod]
def nm {F:Type}[Field F](x:Int×Int):F:=ic x.1 / ic x.2
section
variable {p:Int}{F:Type}[Field F]
theorem Zkn {a b c:F}(h:b≠0)(e:c*b=a):a / b=c:=by grind
theorem FdOk.modF (hF:FdOk p F)(hp:p≠0)(z:Int):(ic (z % p):F)=ic z:=by
 have e:z=z % p+p*(z / p):=(Jd8 z p).symm;have e2:(ic z:F)=ic (z % p)+ic p*ic (z / p):=by
  rw[<- Zbw,<- Zm4,<- e]
 rw[e2,hF.md hp]
 grind
theorem FdOk.ne0 (hF:FdOk p F){z:Int}(hz:Rz p z)(h:z≠0):(ic z:F)≠0:=λe=>h (hF.z0 z hz e)
theorem FdOk.bot (hF:FdOk p F){x:Int×Int}(h:Isn p x):(ic x.2:F)≠0:=by
 rcases h with ⟨hp,h1,_⟩|⟨_,_,_,h1⟩
 .exact hF.ne0 (.inl hp) ∅
 .rw [h1,Ze2];exact λz=>Field.zero_ne_one (α:=F) z.symm
theorem FdOk.nrmF (hF:FdOk p F)(hp:p=0){a b:Int}(hb:0<b):(nm (nrm a b):F)=ic a / ic b:=by
 have g0:(ic ((Int.gcd a b:Nat):Int):F)≠0:=hF.ne0 (.inl hp) (by have:=Zfm (a:=a) hb;omega);have b0:(ic b:F)≠0:=hF.ne0 (.inl hp) ∅;have e1:(ic (nrm a b).1:F)*ic ((Int.gcd a b:Nat):Int)=ic a:=by rw[<- Zbw,Zp6]
 have e2:(ic (nrm a b).2:F)*ic ((Int.gcd a b:Nat):Int)=ic b:=by rw[<- Zbw,Zlo]
 have c0:(ic (nrm a b).2:F)≠0:=λz=>b0 (by rw[<- e2,z];grind);unfold nm;rw[<- e1,<- e2];generalize (ic (nrm a b).1:F)=x at *;generalize (ic (nrm a b).2:F)=y at *;generalize (ic ((Int.gcd a b:Nat):Int):F)=g at *;exact Zkn c0 (by grind)
theorem FdOk.one (hF:FdOk p F)(z:Int):(nm (z,1):F)=ic z:=by
 unfold nm;rw[Ze2];exact Zkn (λz=>Field.zero_ne_one (α:=F) z.symm) (by grind)
theorem FdOk.plus (hF:FdOk p F){x y:Int×Int}(hx:Isn p x)(hy:Isn p y):(nm (Zjb p x y):F)=nm x+nm y:=by
 have bx:=hF.bot hx;have by':=hF.bot hy
 unfold Zjb;split
 .rename_i hp
  rw[hF.nrmF hp (Jej hx.pos hy.pos),Zm4,Zbw,Zbw,Zbw];unfold nm
  grind
 .rename_i hp
  rw[hF.one,hF.modF hp,Zm4];rcases hx with ⟨z,_⟩|⟨_,_,_,h1⟩
  .exact absurd z hp
  .rcases hy with ⟨z,_⟩|⟨_,_,_,h2⟩
   .exact absurd z hp
   .unfold nm;rw[h1,h2,Ze2]
    grind
theorem FdOk.times (hF:FdOk p F){x y:Int×Int}(hx:Isn p x)(hy:Isn p y):(nm (Zeu p x y):F)=nm x*nm y:=by
 have bx:=hF.bot hx;have by':=hF.bot hy
 unfold Zeu;split
 .rename_i hp
  rw[hF.nrmF hp (Jej hx.pos hy.pos),Zbw,Zbw];unfold nm
  grind
 .rename_i hp
  rw[hF.one,hF.modF hp,Zbw];rcases hx with ⟨z,_⟩|⟨_,_,_,h1⟩
  .exact absurd z hp
  .rcases hy with ⟨z,_⟩|⟨_,_,_,h2⟩
   .exact absurd z hp
   .unfold nm;rw[h1,h2,Ze2]
    grind
theorem FdOk.intF (hF:FdOk p F)(k:Int):(nm (Znz p k):F)=ic k:=by
 unfold Znz;split
 .exact hF.one k
 .rename_i hp
  rw[hF.one,hF.modF hp]
theorem FdOk.inj (hF:FdOk p F){x y:Int×Int}(hx:Isn p x)(hy:Isn p y)(e:(nm x:F)=nm y):x=y:=by
 have bx:=hF.bot hx;have by':=hF.bot hy
 have e2:(ic x.1:F)*ic y.2=ic y.1*ic x.2:=by unfold nm at e;grind
 rw[<- Zbw,<- Zbw] at e2;have e3:(ic (x.1*y.2-y.1*x.2):F)=0:=by rw[Zqo,e2];grind
 by_cases hp:p=0
 .have h:=hF.z0 _ (.inl hp) e3;rcases hx with ⟨_,lx⟩|⟨z,_⟩
  .rcases hy with ⟨_,ly⟩|⟨z,_⟩
   .exact Znw lx ly ∅
   .omega
  .omega
 .rcases hx with ⟨z,_⟩|⟨pp,x0,x1,h1⟩
  .exact absurd z hp
  .rcases hy with ⟨z,_⟩|⟨_,y0,y1,h2⟩
   .exact absurd z hp
   .rw [h1,h2,Int.mul_one,Int.mul_one] at e3;rw[<- hF.modF hp] at e3;have h:=hF.z0 _ (.inr ⟨Jbs _ hp,Jba _ pp⟩) e3;have h3:x.1=y.1:=by
     have:=Int.emod_emod_of_dvd (x.1-y.1) (Int.dvd_refl p);by_cases q:y.1<=x.1
     .rw [Jci ∅ ∅] at h;omega
     .have h4:(x.1-y.1+p) % p=0:=by rw[Int.add_emod_right];exact h
      rw[Jci ∅ ∅] at h4;omega
    exact Jed h3 (by rw[h1,h2])
end
end L3
namespace L3
open Lean.Grind
section
variable {F:Type}[Field F]
def sm:Nat->(Nat->F)->F
 | 0,_=>0
 | n+1,f=>sm n f+f n
theorem Zas:∀ {n:Nat} {f g:Nat->F},(∀ i,i<n->f i=g i)->sm n f=sm n g
 | 0,_,_,_=>rfl
 | n+1,f,g,h=>by
  show sm n f+f n=sm n g+g n;rw[Zas (n:=n) λi hi=>h i (Zuo hi),h n Zjd]
theorem Zd8:∀ n:Nat,sm n (λ_=>(0:F))=0
 | 0=>rfl
 | n+1=>by
  show sm n (λ_=>(0:F))+0=0;rw[Zd8 n]
  grind
theorem Zjx:∀ (n:Nat) (f g:Nat->F),sm n (λi=>f i+g i)=sm n f+sm n g
 | 0,_,_=>by show (0:F)=0+0;grind
 | n+1,f,g=>by
  show sm n (λi=>f i+g i)+(f n+g n)=(sm n f+f n)+(sm n g+g n);rw[Zjx n]
  grind
theorem Zd9 (a:F):∀ (n:Nat) (f:Nat->F),sm n (λi=>a*f i)=a*sm n f
 | 0,_=>by show (0:F)=a*0;grind
 | n+1,f=>by
  show sm n (λi=>a*f i)+a*f n=a*(sm n f+f n);rw[Zd9 a n]
  grind
theorem Zlg (a:F)(n:Nat)(f:Nat->F):sm n (λi=>f i*a)=sm n f*a:=by
 rw[show (λi=>f i*a)=λi=>a*f i from funext λi=>by grind,Zd9]
 grind
theorem Zi2:∀ (n m:Nat) (f:Nat->Nat->F),sm n (λi=>sm m (λj=>f i j))=sm m (λj=>sm n (λi=>f i j))
 | 0,m,f=>(Zd8 m).symm
 | n+1,m,f=>by
  show sm n (λi=>sm m (λj=>f i j))+sm m (λj=>f n j)=sm m (λj=>sm n (λi=>f i j)+f n j);rw[Zi2 n m,Zjx]
theorem Zmf:∀ {n k:Nat} (f:Nat->F),k<n->sm n (λi=>if i=k then f i else 0)=f k
 | 0,_,_,h=>absurd h (Nat.not_lt_zero _)
 | n+1,k,f,h=>by
  show sm n (λi=>if i=k then f i else 0)+(if n=k then f n else 0)=f k;by_cases e:n=k
  .subst e;rw[if_pos rfl,Zas (g:=λ_=>0) (λi hi=>by rw[if_neg ∅]),Zd8]
   grind
  .rw [if_neg e,Zmf f ∅]
   grind
theorem sm_del {n k:Nat}(f:Nat->F)(h:k<n):sm n (λi=>(if i=k then 1 else 0)*f i)=f k:=by
 rw[<- Zmf f h];exact Zas λi _=>by split <;> grind
theorem sm_delr {n k:Nat}(f:Nat->F)(h:k<n):sm n (λi=>f i*(if i=k then 1 else 0))=f k:=by
 rw[<- Zmf f h];exact Zas λi _=>by split <;> grind
theorem Zmg {n k:Nat}(f:Nat->F)(h:k<n):sm n (λi=>f i*(if k=i then 1 else 0))=f k:=by
 rw[<- Zmf f h];exact Zas λi _=>by
  by_cases e:i=k
  .rw [if_pos e,if_pos e.symm];grind
  .rw [if_neg e,if_neg (λz=>e z.symm)];grind
def sk (k j:Nat):Nat:=if j<k then j else j+1
theorem Zme:∀ {n k:Nat} (f:Nat->F),k<=n->sm (n+1) f=f k+sm n (λj=>f (sk k j))
 | n,k,f,h=>by
  by_cases e:k=n
  .subst e;show sm k f+f k=_;rw[Zas (n:=k) (f:=f) (g:=λj=>f (sk k j)) λi hi=>by unfold sk;rw[if_pos hi]]
   grind
  .cases n with
   | zero=>omega
   | succ n=>
    show sm (n+1) f+f (n+1)=f k+(sm n (λj=>f (sk k j))+f (sk k n));rw[Zme (n:=n) (k:=k) f ∅];have:sk k n=n+1:=by unfold sk;rw[if_neg (oz161 h e)]
    rw[this]
    grind
theorem Zqd:∀ (r s:Nat) (Y:Nat->Nat->F),r<s->∃ v:Nat->F,(∃ j,j<s/\v j≠0)/\∀ i,i<r->sm s (λj=>Y i j*v j)=0
 | 0,s,Y,h=>⟨λ_=>1,⟨0,h,λz=>Field.zero_ne_one (α:=F) z.symm⟩,λi hi=>absurd hi (Nat.not_lt_zero _)⟩
 | r+1,s,Y,h=>by
  by_cases hz:∀ j,j<s->Y r j=0
  .obtain ⟨v,hv,he⟩:=Zqd r s Y ∅;refine⟨v,hv,λi hi=>?_⟩;by_cases e:i=r
   .subst e;rw[Zas (g:=λ_=>0) λj hj=>by rw[hz j hj];grind,Zd8]
   .exact he i (oz16 hi e)
  .obtain ⟨k,hk⟩:∃ k,k<s/\Y r k≠0:=by
    apply Jcb;intro z;exact hz λj hj=>Jcb λq=>z ⟨j,hj,q⟩
   obtain⟨hk,hy⟩:=hk;obtain⟨s',rfl⟩:∃ s',s=s'+1:=⟨s-1,oz90 hk⟩
   obtain⟨v',⟨j0,hj0,hv0⟩,he⟩:=Zqd r s' (λi j=>Y i (sk k j)-Y i k / Y r k*Y r (sk k j)) ∅;obtain⟨v,hvk,hv'⟩:∃ v:Nat->F,v k=-(sm s' (λj=>Y r (sk k j)*v' j)) / Y r k/\∀ j,v (sk k j)=v' j:=by
    refine⟨λi=>if i=k then -(sm s' (λj=>Y r (sk k j)*v' j)) / Y r k else v' (if i<k then i else i-1),if_pos rfl,λj=>?_⟩;have h1:sk k j≠k:=by unfold sk;split <;> omega
    show (if sk k j=k then _ else v' (if sk k j<k then sk k j else sk k j-1))=v' j;rw[if_neg h1];congr 1;unfold sk;by_cases q:j<k
    .rw [if_pos q,if_pos q]
    .rw [if_neg q,if_neg ∅];exact oz72
   refine⟨v,⟨sk k j0,by unfold sk;split <;> omega,by rw[hv'];exact hv0⟩,λi hi=>?_⟩;rw[Zme (k:=k) _ ∅,hvk];rw[Zas (n:=s') (f:=λj=>Y i (sk k j)*v (sk k j)) (g:=λj=>Y i (sk k j)*v' j) λj hj=>by rw[hv']];by_cases e:i=r
   .subst e;generalize sm s' (λj=>Y i (sk k j)*v' j)=S
    grind
   .have h2:=he i (oz16 hi e);have h3:sm s' (λj=>(Y i (sk k j)-Y i k / Y r k*Y r (sk k j))*v' j)=sm s' (λj=>Y i (sk k j)*v' j)-Y i k / Y r k*sm s' (λj=>Y r (sk k j)*v' j):=by
     rw[<- Zd9];have:∀ (f g:Nat->F),sm s' (λj=>f j-g j)=sm s' f-sm s' g:=λf g=>by
      have e1:=Zjx s' (λj=>f j-g j) g;rw[show (λj=>f j-g j+g j)=f from funext λj=>by grind] at e1;rw[e1]
      grind
     rw[<- this];exact Zas λj _=>by grind
    rw[h3] at h2;generalize sm s' (λj=>Y i (sk k j)*v' j)=S1 at *;generalize sm s' (λj=>Y r (sk k j)*v' j)=S2 at *
    grind
abbrev del (i k:Nat):F:=if i=k then 1 else 0
theorem dim_le {r s:Nat}{X Y:Nat->Nat->F}(h:∀ i k,i<s->k<s->sm r (λt=>X i t*Y t k)=del i k):s<=r:=by
 apply Jcb;intro z;obtain⟨v,⟨j,hj,hv⟩,he⟩:=Zqd r s Y ∅;apply hv;have h1:sm s (λk=>sm r (λt=>X j t*Y t k)*v k)=v j:=by
  rw[Zas (g:=λk=>del j k*v k) λk hk=>by rw[h j k hj hk]];rw[show (λk=>del j k*v k)=λk=>v k*(if j=k then 1 else 0) from funext λk=>by grind];exact Zmg v hj
 rw[<- h1];rw[Zas (g:=λk=>sm r (λt=>X j t*Y t k*v k)) λk _=>by rw[Zlg],Zi2];rw[Zas (g:=λ_=>0) λt ht=>?_,Zd8];rw[show (λk=>X j t*Y t k*v k)=λk=>X j t*(Y t k*v k) from funext λk=>by grind,Zd9,he t ht]
 grind
structure Rk (A:Nat->Nat->F)(m n r:Nat):Prop where
 fac:∃ B C:Nat->Nat->F,∀ i j,i<m->j<n->A i j=sm r λk=>B i k*C k j
 piv:∃ P Q:Nat->Nat->F,∀ i k,i<r->k<r->sm m (λa=>P i a*sm n λb=>A a b*Q b k)=del i k
theorem Zk4 {m n r s:Nat}{A B C P Q:Nat->Nat->F}(hf:∀ i j,i<m->j<n->A i j=sm r λk=>B i k*C k j)(hp:∀ i k,i<s->k<s->sm m (λa=>P i a*sm n λb=>A a b*Q b k)=del i k):s<=r:=by
 refine dim_le (X:=λi t=>sm m λa=>P i a*B a t) (Y:=λt k=>sm n λb=>C t b*Q b k) λi k hi hk=>?_;rw[<- hp i k hi hk];have e1:∀ a,a<m->(sm n λb=>A a b*Q b k)=sm r λt=>B a t*sm n λb=>C t b*Q b k:=λa ha=>by
  rw[Zas (g:=λb=>sm r λt=>B a t*(C t b*Q b k)) λb hb=>?_,Zi2]
  .exact Zas λt _=>Zd9 _ _ _
  .rw [hf a b ha hb,<- Zlg];exact Zas λt _=>by grind
 rw[Zas (n:=m) (g:=λa=>sm r λt=>P i a*B a t*sm n λb=>C t b*Q b k) λa ha=>?_,Zi2]
 .exact Zas λt _=>by rw[Zlg]
 .rw [e1 a ha,<- Zd9];exact Zas λt _=>by grind
theorem Rk.uniq {A:Nat->Nat->F}{m n r s:Nat}(h:Rk A m n r)(h':Rk A m n s):r=s:=by
 obtain⟨B,C,hf⟩:=h.fac;obtain⟨P,Q,hp⟩:=h.piv;obtain⟨B',C',hf'⟩:=h'.fac;obtain⟨P',Q',hp'⟩:=h'.piv;have:=Zk4 hf hp';have:=Zk4 hf' hp;omega
theorem Rk.congr {A B:Nat->Nat->F}{m n r:Nat}(h:Rk A m n r)(e:∀ i j,i<m->j<n->A i j=B i j):Rk B m n r:=by
 obtain⟨X,Y,hf⟩:=h.fac;obtain⟨P,Q,hp⟩:=h.piv;refine⟨⟨X,Y,λi j hi hj=>by rw[<- e i j hi hj];exact hf i j hi hj⟩,⟨P,Q,λi k hi hk=>?_⟩⟩;rw[<- hp i k hi hk];exact Zas λa ha=>by rw[Zas (n:=n) λb hb=>by rw[<- e a b ha hb]]
abbrev zv:Nat->F:=λ_=>0
inductive Sp (S:(Nat->F)->Prop):(Nat->F)->Prop
 | mem {v:Nat->F}:S v->Sp S v
 | zero:Sp S zv
 | comb {u v:Nat->F} (a b:F):Sp S u->Sp S v->Sp S λj=>a*u j+b*v j
theorem Sp.trans {S T:(Nat->F)->Prop}{v:Nat->F}(h:Sp S v)(k:∀ u,S u->Sp T u):Sp T v:=by
 induction h with
 | mem h=>exact k _ h
 | zero=>exact .zero
 | comb a b _ _ h1 h2=>exact .comb a b h1 h2
theorem Sp.smul {S:(Nat->F)->Prop}{v:Nat->F}(a:F)(h:Sp S v):Sp S λj=>a*v j:=by
 have:=Sp.comb a 0 h Sp.zero;rwa [show (λj=>a*v j+0*(zv j:F))=λj=>a*v j from funext λj=>by grind] at this
abbrev SpL (L:List (Nat->F))(v:Nat->F):Prop:=Sp (· ∈ L) v
structure SpEq (L L':List (Nat->F)):Prop where
 le:∀ v∈L,SpL L' v
 ge:∀ v∈L',SpL L v
theorem SpEq.refl (L:List (Nat->F)):SpEq L L:=⟨λ_ h=>.mem h,λ_ h=>.mem h⟩
theorem SpEq.symm {L L':List (Nat->F)}(h:SpEq L L'):SpEq L' L:=⟨h.ge,h.le⟩
theorem SpEq.trans {L L' L'':List (Nat->F)}(h:SpEq L L')(h':SpEq L' L''):SpEq L L'':=⟨λv hv=>(h.le v hv).trans λu hu=>h'.le u hu,λv hv=>(h'.ge v hv).trans λu hu=>h.ge u hu⟩
theorem SpEq.mems {L L':List (Nat->F)}(h:∀ v,v∈L ↔ v∈L'):SpEq L L':=⟨λv hv=>.mem ((h v).mp hv),λv hv=>.mem ((h v).mpr hv)⟩
abbrev at' (L:List (Nat->F))(i:Nat):Nat->F:=L.getD i zv
theorem Zky {L:List (Nat->F)}{i:Nat}(h:i<L.length):at' L i∈L:=by
 unfold at';rw[Jad,Jaa h];exact Jbd h
theorem Sp.coef {L:List (Nat->F)}{v:Nat->F}(h:SpL L v):∃ c:Nat->F,∀ j,v j=sm L.length λi=>c i*at' L i j:=by
 induction h with
 | mem h=>
  obtain⟨i,hi,rfl⟩:=Jan.mp h;refine⟨λk=>del k i,λj=>?_⟩;rw[sm_del (λk=>at' L k j) hi];unfold at';rw[Jad,Jaa hi];rfl
 | zero=>exact⟨λ_=>0,λj=>by rw[Zas (g:=λ_=>0) λi _=>by grind,Zd8]⟩
 | comb a b _ _ h1 h2=>
  obtain⟨c,hc⟩:=h1;obtain⟨d,hd⟩:=h2;refine⟨λi=>a*c i+b*d i,λj=>?_⟩;show a*_+b*_=_;rw[hc j,hd j,<- Zd9,<- Zd9,<- Zjx];exact Zas λi _=>by grind
structure RR (L:List (Nat->F))(n r:Nat)(c:Nat->Nat):Prop where
 rl:r<=L.length
 cn:∀ i,i<r->c i<n
 mono:∀ i k,i<k->k<r->c i<c k
 piv:∀ i k,i<r->k<r->at' L i (c k)=del i k
 low:∀ i j,i<r->j<c i->at' L i j=0
 zer:∀ i j,r<=i->i<L.length->j<n->at' L i j=0
theorem RR.expand {L:List (Nat->F)}{n r:Nat}{c:Nat->Nat}(R:RR L n r c){v:Nat->F}(h:SpL L v):∀ j,j<n->v j=sm r λi=>v (c i)*at' L i j:=by
 induction h with
 | mem h=>
  obtain⟨i,hi,rfl⟩:=Jan.mp h;have e:L[i]=at' L i:=by unfold at';rw[Jad,Jaa hi];rfl
  rw[e];intro j hj;by_cases hr:i<r
  .rw [Zas (g:=λk=>at' L k j*(if i=k then 1 else 0)) λk hk=>by rw[R.piv i k hr hk];grind,Zmg _ hr]
  .rw [R.zer i j (Zmu hr) hi hj,Zas (g:=λ_=>0) λk hk=>by rw[R.zer i (c k) (Zmu hr) hi (R.cn k hk)];grind,Zd8]
 | zero=>exact λj _=>by rw[Zas (g:=λ_=>0) λi _=>by grind,Zd8]
 | comb a b _ _ h1 h2=>
  intro j hj;show a*_+b*_=_;rw[h1 j hj,h2 j hj,<- Zd9,<- Zd9,<- Zjx];exact Zas λi _=>by grind
theorem RR.rk {L L':List (Nat->F)}{n r:Nat}{c:Nat->Nat}(R:RR L n r c)(h:SpEq L' L):Rk (λi j=>at' L' i j) L'.length n r:=by
 refine⟨⟨λi k=>at' L' i (c k),λk j=>at' L k j,λi j hi hj=>R.expand (h.le _ (Zky hi)) j hj⟩,?_⟩;have hc:∀ k,k<r->∃ d:Nat->F,∀ j,at' L k j=sm L'.length λi=>d i*at' L' i j:=λk hk=>(h.ge _ (Zky (Jao hk R.rl))).coef;refine⟨λk=>if hk:k<r then Classical.choose (hc k hk) else zv,λb k=>del b (c k),λi k hi hk=>?_⟩;rw[Zas (g:=λa=>Classical.choose (hc i hi) a*at' L' a (c k)) λa _=>by
  show (if hk:i<r then Classical.choose (hc i hk) else zv) a*sm n (λb=>at' L' a b*(if b=c k then 1 else 0))=_;rw[dif_pos hi,sm_delr _ (R.cn k hk)]]
 rw[<- Jck (hc i hi) (c k)];exact R.piv i k hi hk
end
end L3
namespace L3
open L2 Lean.Grind
def gcdL (zs:List Int):Nat:=zs.foldl (λd z=>Int.gcd z d) 0
theorem Zjj:∀ (zs:List Int) (d:Nat),(zs.foldl (λd z=>Int.gcd z d) d) ∣ d/\∀ z∈zs,((zs.foldl (λd z=>Int.gcd z d) d:Nat):Int) ∣ z
 | [],d=>⟨Nat.dvd_refl _,λz h=>by simp at h⟩
 | y::zs,d=>by
  obtain⟨h1,h2⟩:=Zjj zs (Int.gcd y d);have h3:Int.gcd y d ∣ d:=by have:=Int.gcd_dvd_natAbs_right y d;simpa using this
  refine⟨Nat.dvd_trans h1 h3,λz hz=>?_⟩;rcases Ja9.mp hz with rfl|hz
  .exact Int.dvd_trans (Int.ofNat_dvd.mpr h1) (Jbo z d)
  .exact h2 z hz
theorem Zm8 {zs:List Int}{z:Int}(h:z∈zs):(gcdL zs:Int) ∣ z:=(Zjj zs 0).2 z h
theorem Zqu (zs:List Int)(i:Nat):gcdL zs ∣ gcdL (zs.take i):=by
 have e:gcdL zs=(zs.drop i).foldl (λd z=>Int.gcd z d) (gcdL (zs.take i)):=by
  unfold gcdL;rw[<- List.foldl_append,List.take_append_drop]
 rw[e];exact (Zjj _ _).1
theorem Zqv {zs:List Int}{i:Nat}{z:Int}(h:zs[i]?=some z):gcdL (zs.take (i+1))=Int.gcd z (gcdL (zs.take i)):=by
 rw[List.take_add_one,h];unfold gcdL;rw[List.foldl_append];rfl
theorem Zqt {zs:List Int}(h:gcdL zs=0){z:Int}(hz:z∈zs):z=0:=by
 have:=Zm8 hz;rw[h] at this;exact Int.zero_dvd.mp this
def Zdb (p:Int)(zs:List Int):List Int:=if p=0 then zs.map (· / (gcdL zs:Int)) else zs.map (· % p)
theorem Zrz {zs:List Int}(h:gcdL zs=1):Zdb 0 zs=zs:=by
 unfold Zdb;rw[if_pos rfl,h];have:(λz:Int=>z / ((1:Nat):Int))=id:=by funext z;simp
 rw[this,Jex]
theorem Zg4 {zs:List Int}(h:gcdL zs=0):Zdb 0 zs=zs:=by
 unfold Zdb;rw[if_pos rfl];have:∀ z∈zs,z / (gcdL zs:Int)=id z:=λz hz=>by rw[Zqt h hz];simp
 rw[Jcv this,Jex]
theorem Zr0 {p:Int}{zs:List Int}:(Zdb p zs).length=zs.length:=by unfold Zdb;split <;> simp
theorem Zm7 {f:Int->Int}(h:f 0=0)(zs:List Int)(j:Nat):(zs.map f).getD j 0=f (zs.getD j 0):=by
 rw[Jad,Jad,Jac];cases zs[j]? with
 | none=>exact h.symm
 | some z=>rfl
theorem Ztm {f:Int->Int->Int}(h:f 0 0=0){xs ys:List Int}(hl:xs.length=ys.length)(j:Nat):(List.zipWith f xs ys).getD j 0=f (xs.getD j 0) (ys.getD j 0):=by
 rw[Jad,Jad,Jad,List.getElem?_zipWith];by_cases hj:j<xs.length
 .rw [Jaa hj,Jaa (show j<ys.length by omega)];rfl
 .rw [Jai ∅,Jai ∅];exact h.symm
theorem Zh2 {zs:List Int}(j:Nat):zs.getD j 0∈zs\/zs.getD j 0=0:=by
 rw[Jad];cases e:zs[j]? with
 | none=>exact .inr rfl
 | some z=>exact .inl (Jae e)
theorem Zk3 {p:Int}(zs:List Int)(j:Nat):(Zdb p zs).getD j 0=if p=0 then zs.getD j 0 / (gcdL zs:Int) else zs.getD j 0 % p:=by
 unfold Zdb;split
 .exact Zm7 (f:=(· / (gcdL zs:Int))) (by simp) zs j
 .exact Zm7 (f:=(· % p)) (by simp) zs j
theorem Zjr {p:Int}{zs:List Int}{j:Nat}(h:zs.getD j 0=0):(Zdb p zs).getD j 0=0:=by
 rw[Zk3,h];split <;> simp
def Rw (p:Int)(W:Nat)(zs:List Int):Prop:=zs.length=W/\∀ z∈zs,Rz p z
theorem Rw.at {p:Int}{W:Nat}{zs:List Int}(h:Rw p W zs)(h0:0<=p)(j:Nat):Rz p (zs.getD j 0):=by
 rcases Zh2 (zs:=zs) j with m|e
 .exact h.2 _ m
 .rw [e];rcases Jeu p 0 with h|h|h
  .omega
  .exact .inl h
  .exact .inr ⟨∅,h⟩
theorem Zo6 {p:Int}{W:Nat}{zs:List Int}(h0:0<=p)(h:zs.length=W):Rw p W (Zdb p zs):=by
 refine⟨by rw[Zr0];exact h,λz hz=>?_⟩;unfold Zdb at hz;split at hz
 .exact .inl (by assumption)
 .refine Zac (Jau.mp hz) λy _ e93=>?_;obtain rfl:=e93;exact .inr ⟨Jbs _ (by assumption),Jba _ ∅⟩
def Ziq (row lead:List Int)(k:Nat):List Int:=List.zipWith (λx y=>lead.getD k 0 / (Int.gcd (row.getD k 0) (lead.getD k 0):Int)*x-row.getD k 0 / (Int.gcd (row.getD k 0) (lead.getD k 0):Int)*y) row lead
def Zbm (p:Int)(row lead:List Int)(k:Nat):List Int:=if row.getD k 0=0 then row else Zdb p (Ziq row lead k)
theorem Zmk {p:Int}{W:Nat}{row lead:List Int}{k:Nat}(h0:0<=p)(h:Rw p W row)(h':Rw p W lead):Rw p W (Zbm p row lead k):=by
 unfold Zbm;split
 .exact h
 .exact Zo6 h0 (by unfold Ziq;rw[Jcw,h.1,h'.1];omega)
theorem Zmm {row lead:List Int}(hl:row.length=lead.length)(k j:Nat):(Ziq row lead k).getD j 0=lead.getD k 0 / (Int.gcd (row.getD k 0) (lead.getD k 0):Int)*row.getD j 0-row.getD k 0 / (Int.gcd (row.getD k 0) (lead.getD k 0):Int)*lead.getD j 0:=by
 unfold Ziq;exact Ztm (by simp) hl j
theorem Zn3 {p:Int}{row lead:List Int}{k j:Nat}(hl:row.length=lead.length)(h:row.getD j 0=0)(h':lead.getD j 0=0):(Zbm p row lead k).getD j 0=0:=by
 unfold Zbm;split
 .exact h
 .exact Zjr (by rw[Zmm hl,h,h'];simp)
theorem Znd {p:Int}{row lead:List Int}{k:Nat}(hl:row.length=lead.length):(Zbm p row lead k).getD k 0=0:=by
 unfold Zbm;split
 .assumption
 .refine Zjr ?_;rw[Zmm hl];have d1:(Int.gcd (row.getD k 0) (lead.getD k 0):Int) ∣ row.getD k 0:=Jbo ..;have d2:(Int.gcd (row.getD k 0) (lead.getD k 0):Int) ∣ lead.getD k 0:=Jbv ..;generalize (Int.gcd (row.getD k 0) (lead.getD k 0):Int)=g at *;have e1:=Jb2 d1;have e2:=Jb2 d2;generalize row.getD k 0 / g=u at *;generalize lead.getD k 0 / g=v at *;rw[<- e1,<- e2]
  grind
section
variable {p:Int}{F:Type}[Field F]
def vz (zs:List Int):Nat->F:=λj=>ic (zs.getD j 0)
theorem Ztp:(1:F)≠0:=λz=>Field.zero_ne_one (α:=F) z.symm
theorem Zoi (hF:FdOk p F)(zs:List Int):∃ c:F,c≠0/\∀ j,c*vz (Zdb p zs) j=vz zs j:=by
 by_cases hp:p=0
 .by_cases hg:gcdL zs=0
  .subst hp;rw[Zg4 hg];exact⟨1,Ztp,λj=>by grind⟩
  .refine ⟨ic (gcdL zs:Int),hF.ne0 (.inl hp) ∅,λj=>?_⟩;unfold vz;rw[Zk3,if_pos hp,<- Zbw,Jeq,Jb2];rcases Zh2 (zs:=zs) j with m|e
   .exact Zm8 m
   .rw [e];exact Int.dvd_zero _
 .refine ⟨1,Ztp,λj=>?_⟩;unfold vz;rw[Zk3,if_neg hp,hF.modF hp]
  grind
theorem Zfr {W:Nat}{row lead:List Int}{k:Nat}(h0:0<=p)(hF:FdOk p F)(h:Rw p W row)(h':Rw p W lead)(hk:lead.getD k 0≠0):∃ a b:F,a≠0/\∀ j,vz (Zbm p row lead k) j=a*vz row j+b*vz lead j:=by
 unfold Zbm;split
 .exact Zat 1 0 ⟨Ztp,λj=>by grind⟩
 .have hl:row.length=lead.length:=h.1.trans h'.1.symm;refine Zac (Zoi hF (Ziq row lead k)) λc hc e=>?_;have d2:(Int.gcd (row.getD k 0) (lead.getD k 0):Int) ∣ lead.getD k 0:=Jbv ..;have e2:=Jb2 d2;have l0:(ic (lead.getD k 0):F)≠0:=hF.ne0 (h'.at h0 k) hk;have ek:∀ j,(vz (Ziq row lead k) j:F)=ic (lead.getD k 0 / (Int.gcd (row.getD k 0) (lead.getD k 0):Int))*vz row j-ic (row.getD k 0 / (Int.gcd (row.getD k 0) (lead.getD k 0):Int))*vz lead j:=λj=>by
   unfold vz;rw[Zmm hl,Zqo,Zbw,Zbw]
  generalize (Int.gcd (row.getD k 0) (lead.getD k 0):Int)=g at *;have k0:(ic (lead.getD k 0 / g):F)≠0:=λz=>l0 (by rw[<- e2,Zbw,z];grind);generalize (ic (lead.getD k 0 / g):F)=u at *;generalize (ic (row.getD k 0 / g):F)=v at *;refine Zat (u / c) (-(v / c)) ⟨by grind,λj=>?_⟩;have e3:=e j;rw[ek j] at e3;generalize (vz (Zdb p (Ziq row lead k)) j:F)=y at *
  grind
theorem Zlt {Z:List (List Int)}{v:Nat->F}(h:v∈Z.map vz):∃ row∈Z,v=vz row:=by
 refine Zac (Jau.mp h) λrow h1 h2=>?_;exact⟨row,h1,h2.symm⟩
theorem Zif {W k:Nat}{A B:List (List Int)}{lead:List Int}(h0:0<=p)(hF:FdOk p F)(hA:∀ row∈A,Rw p W row)(hB:lead∈B)(hL:Rw p W lead)(hk:lead.getD k 0≠0):
  SpEq (F:=F) ((A.map (λrow=>Zbm p row lead k)++B).map vz) ((A++B).map vz):=by
 refine⟨λv hv=>?_,λv hv=>?_⟩
 .refine Zac (Zlt hv) λrow hr e94=>?_;obtain rfl:=e94;rcases Jar.mp hr with hr|hr
  .refine Zac (Jau.mp hr) λrow' hr' e95=>?_;obtain rfl:=e95;refine Zbd (Zfr (k:=k) h0 hF (hA _ hr') hL hk) λa b _ e=>?_;rw[show vz (Zbm p row' lead k)=λj=>a*vz row' j+b*vz lead j from funext e];exact .comb a b (.mem (Jau.mpr ⟨row',Jar.mpr (.inl hr'),rfl⟩)) (.mem (Jau.mpr ⟨lead,Jar.mpr (.inr hB),rfl⟩))
  .exact .mem (Jau.mpr ⟨row,Jar.mpr (.inr hr),rfl⟩)
 .refine Zac (Zlt hv) λrow hr e96=>?_;obtain rfl:=e96;rcases Jar.mp hr with hr|hr
  .refine Zbd (Zfr (k:=k) h0 hF (hA _ hr) hL hk) λa b ha e=>?_;rw[show (vz row:Nat->F)=λj=>(1 / a)*vz (Zbm p row lead k) j+(-(b / a))*vz lead j from funext λj=>by rw[e j];grind];exact .comb _ _ (.mem (Jau.mpr ⟨_,Jar.mpr (.inl (Jau.mpr ⟨row,hr,rfl⟩)),rfl⟩)) (.mem (Jau.mpr ⟨lead,Jar.mpr (.inr hB),rfl⟩))
  .exact .mem (Jau.mpr ⟨row,Jar.mpr (.inr hr),rfl⟩)
end
inductive Sw (p:Int) (Z:List (List Int)):Nat->List (List Int)->List (List Int)->List Nat->Prop
 | start:Sw p Z 0 [] Z []
 | skip {k:Nat} {done left:List (List Int)} {pl:List Nat}:Sw p Z k done left pl->(∀ row∈left,row.getD k 0=0)->Sw p Z (k+1) done left pl
 | take {k:Nat} {done left:List (List Int)} {pl:List Nat} (i:Nat) (lead:List Int):Sw p Z k done left pl->left[i]?=some lead->lead.getD k 0≠0->Sw p Z (k+1) (done++[lead]) ((left.eraseIdx i).map λrow=>Zbm p row lead k) (pl++[k])
structure SwI (p:Int)(W:Nat)(Z:List (List Int))(k:Nat)(done left:List (List Int))(pl:List Nat):Prop where
 len:done.length=pl.length
 all:done.length+left.length=Z.length
 rw:∀ row∈done++left,Rw p W row
 asc:∀ i j,i<j->j<pl.length->pl.getD i 0<pl.getD j 0
 lt:∀ i,i<pl.length->pl.getD i 0<k
 piv:∀ i,i<pl.length->(done.getD i []).getD (pl.getD i 0) 0≠0
 low:∀ i j,i<pl.length->j<pl.getD i 0->(done.getD i []).getD j 0=0
 zer:∀ row∈left,∀ j,j<k->row.getD j 0=0
 sp:∀ (F:Type) [Field F],FdOk p F->SpEq (F:=F) ((done++left).map vz) (Z.map vz)
theorem Zp8 {α:Type}{xs:List α}{i:Nat}{x y:α}(h:xs[i]?=some x)(hy:y∈xs):y=x\/y∈xs.eraseIdx i:=by
 obtain⟨j,hj,rfl⟩:=Jan.mp hy;by_cases e:j=i
 .subst e;rw[Jaa hj] at h;cases h;exact .inl rfl
 .refine .inr ?_;rw[List.mem_eraseIdx_iff_getElem?];exact⟨j,e,Jaa hj⟩
theorem Zdl {α:Type}{xs:List α}{x d:α}{i:Nat}:(xs++[x]).getD i d=if i<xs.length then xs.getD i d else if i=xs.length then x else d:=by
 rw[Jad,Jad];by_cases h:i<xs.length
 .rw [if_pos h,Jax h]
 .rw [if_neg h,Jaw ∅];by_cases e:i=xs.length
  .rw [if_pos e,e,Nat.sub_self];rfl
  .rw [if_neg e,Jai (by simp;omega)];rfl
theorem Sw.inv {p:Int}{W:Nat}{Z:List (List Int)}{k:Nat}{done left:List (List Int)}{pl:List Nat}(h0:0<=p)(hZ:∀ row∈Z,Rw p W row)(h:Sw p Z k done left pl):SwI p W Z k done left pl:=by
 induction h with
 | start=>exact⟨rfl,by simp,by simpa using hZ,λi j _ h=>by simp at h,λi h=>by simp at h,λi h=>by simp at h,λi j h=>by simp at h,λ_ _ j h=>∅,λF _ _=>SpEq.refl _⟩
 | @skip k done left pl h hz ih=>
  refine⟨ih.len,ih.all,ih.rw,ih.asc,λi hi=>Jcr (ih.lt i hi),ih.piv,ih.low,λrow hr j hj=>?_,ih.sp⟩;by_cases e:j=k
  .subst e;exact hz row hr
  .exact ih.zer row hr j ∅
 | @take k done left pl i lead h hi hk ih=>
  have hlm:lead∈left:=Jae hi;have hil:i<left.length:=(Jaf.mp hi).1;have rl:Rw p W lead:=ih.rw _ (Jar.mpr (.inr hlm));have re:∀ row∈left.eraseIdx i,Rw p W row:=λrow hr=>ih.rw _ (Jar.mpr (.inr (Jb3 hr)));have hlen:=ih.len;refine⟨by rw[Jam,Jam,hlen];rfl,?_,λrow hr=>?_,λa b hab hb=>?_,λa ha=>?_,λa ha=>?_,λa b ha hb=>?_,λrow hr j hj=>?_,λF _ hF=>?_⟩
  .rw [Jam,Jab,List.length_eraseIdx_of_lt hil];have:=ih.all;simp only[Jb1,Jc8];omega
  .rcases Jar.mp hr with hr|hr
   .rcases Jar.mp hr with hr|hr
    .exact ih.rw _ (Jar.mpr (.inl hr))
    .rw [Jaq.mp hr];exact rl
   .refine Zac (Jau.mp hr) λrow' hr' e97=>?_;obtain rfl:=e97;exact Zmk h0 (re _ hr') rl
  .rw [Jam] at hb;simp only[Jb1,Jc8] at hb;rw[Zdl,Zdl,if_pos ∅];by_cases e:b<pl.length
   .rw [if_pos e];exact ih.asc a b hab e
   .rw [if_neg e,if_pos ∅];exact ih.lt a ∅
  .rw [Jam] at ha;simp only[Jb1,Jc8] at ha;rw[Zdl];by_cases e:a<pl.length
   .rw [if_pos e];exact Jcr (ih.lt a e)
   .rw [if_neg e,if_pos ∅];omega
  .rw [Jam] at ha;simp only[Jb1,Jc8] at ha;rw[Zdl,Zdl];by_cases e:a<pl.length
   .rw [if_pos e,if_pos ∅];exact ih.piv a e
   .rw [if_neg e,if_neg ∅,if_pos ∅,if_pos ∅];exact hk
  .rw [Jam] at ha;simp only[Jb1,Jc8] at ha;rw[Zdl] at hb ⊢;by_cases e:a<pl.length
   .rw [if_pos e] at hb;rw[if_pos ∅];exact ih.low a b e hb
   .rw [if_neg e,if_pos ∅] at hb;rw[if_neg ∅,if_pos ∅];exact ih.zer _ hlm b hb
  .refine Zac (Jau.mp hr) λrow' hr' e98=>?_;obtain rfl:=e98;have hl:row'.length=lead.length:=(re _ hr').1.trans rl.1.symm;by_cases e:j=k
   .subst e;exact Znd hl
   .exact Zn3 hl (ih.zer _ (Jb3 hr') j ∅) (ih.zer _ hlm j ∅)
  .refine SpEq.trans ?_ (ih.sp F hF);refine SpEq.trans (SpEq.mems (L':=((left.eraseIdx i).map (λrow=>Zbm p row lead k)++(done++[lead])).map vz) λv=>?_) (SpEq.trans (Zif (k:=k) h0 hF re (by simp) rl hk) (SpEq.mems λv=>?_))
   .simp only [Jau,Jar];exact⟨λ⟨a,b,c⟩=>⟨a,b.symm,c⟩,λ⟨a,b,c⟩=>⟨a,b.symm,c⟩⟩
   .simp only [Jau,Jar,Jaq];constructor
    .intro e91;refine Zac e91 λa b c=>?_;clear e91;refine⟨a,?_,c⟩;rcases b with b|b|b
     .exact .inr (Jb3 b)
     .exact .inl b
     .rw [b];exact .inr hlm
    .intro e92;refine Zac e92 λa b c=>?_;clear e92;refine⟨a,?_,c⟩;rcases b with b|b
     .exact .inr (.inl b)
     .rcases Zp8 hi b with b|b
      .exact .inr (.inr b)
      .exact .inl b
def Zcz (p:Int)(pl:List Nat)(R0:List (List Int)):Nat->List (List Int)
 | 0=>R0
 | t+1=>((Zcz p pl R0 t).take (pl.length-1-t)).map (λrow=>Zbm p row ((Zcz p pl R0 t).getD (pl.length-1-t) []) (pl.getD (pl.length-1-t) 0))++(Zcz p pl R0 t).drop (pl.length-1-t)
theorem Zbn {α:Type}{xs:List α}{i:Nat}{d:α}(h:i<xs.length):xs.getD i d=xs[i]:=by rw[Jad,Jaa h];rfl
theorem back_at {p:Int}{pl:List Nat}{R0:List (List Int)}{t i:Nat}:(Zcz p pl R0 (t+1)).getD i [] =
  if i<pl.length-1-t/\i<(Zcz p pl R0 t).length then Zbm p ((Zcz p pl R0 t).getD i []) ((Zcz p pl R0 t).getD (pl.length-1-t) []) (pl.getD (pl.length-1-t) 0) else (Zcz p pl R0 t).getD i []:=by
 show (((Zcz p pl R0 t).take (pl.length-1-t)).map (λrow=>Zbm p row ((Zcz p pl R0 t).getD (pl.length-1-t) []) (pl.getD (pl.length-1-t) 0))++(Zcz p pl R0 t).drop (pl.length-1-t)).getD i []=_;generalize Zcz p pl R0 t=R;generalize pl.length-1-t=a;rw[Jad];by_cases h:i<a/\i<R.length
 .rw [if_pos h,Jax (by rw[Jab,Jbg];omega),Jac,Jdp h.1,Jaa h.2,Zbn h.2];rfl
 .rw [if_neg h,Jaw (by rw[Jab,Jbg];omega),Jab,Jbg,List.getElem?_drop,Jad];by_cases h2:i<R.length
  .congr 2;omega
  .rw [Jai ∅,Jai ∅]
structure BkI (p:Int)(W wide:Nat)(Z:List (List Int))(pl:List Nat)(F:Type)[Field F](t:Nat)(R:List (List Int)):Prop where
 len:R.length=Z.length
 rw:∀ row∈R,Rw p W row
 piv:∀ i,i<pl.length->(vz (R.getD i []) (pl.getD i 0):F)≠0
 low:∀ i j,i<pl.length->j<pl.getD i 0->(vz (R.getD i []) j:F)=0
 zer:∀ i j,pl.length<=i->i<R.length->j<wide->(vz (R.getD i []) j:F)=0
 up:∀ i l,i<pl.length->l<pl.length->pl.length-t<=l->l≠i->(vz (R.getD i []) (pl.getD l 0):F)=0
 sp:SpEq (F:=F) (R.map vz) (Z.map vz)
theorem Ziz {F:Type}[Field F]{zs:List Int}{j:Nat}(h:zs.getD j 0=0):(vz zs j:F)=0:=by unfold vz;rw[h,Zf8]
theorem Zfj {α:Type}{xs:List α}{x:α}(h:x∈xs)(d:α):∃ i,i<xs.length/\xs.getD i d=x:=by
 obtain⟨i,hi,rfl⟩:=Jan.mp h;exact⟨i,hi,Zbn hi⟩
theorem Zbt {α:Type}{xs:List α}{i:Nat}{d:α}(h:i<xs.length):xs.getD i d∈xs:=by rw[Zbn h];exact Jbd h
theorem Sw.back {p:Int}{W wide:Nat}{Z:List (List Int)}{done left:List (List Int)}{pl:List Nat}(h0:0<=p)(I:SwI p W Z wide done left pl){F:Type}[Field F](hF:FdOk p F):
  ∀ t,t<=pl.length->BkI p W wide Z pl F t (Zcz p pl (done++left) t)
 | 0,_=>by
  have hlen:=I.len;have e:∀ i,i<pl.length->(done++left).getD i []=done.getD i []:=λi hi=>by
   rw[Jad,Jax ∅,Jad]
  refine⟨by show (done++left).length=_;rw[Jam];exact I.all,I.rw,λi hi=>?_,λi j hi hj=>?_,λi j hi hi2 hj=>?_,λi l hi hl h=>∅,I.sp F hF⟩
  .show (ic (((done++left).getD i []).getD (pl.getD i 0) 0):F)≠0;have hr:(done++left).getD i []∈done++left:=Zbt (by rw[Jam];omega);exact hF.ne0 ((I.rw _ hr).at h0 _) (by rw[e i hi];exact I.piv i hi)
  .exact Ziz (by show ((done++left).getD i []).getD j 0=0;rw[e i hi];exact I.low i j hi hj)
  .have hi2':i<done.length+left.length:=by rw[<- Jam];exact hi2
   refine Ziz (I.zer _ ?_ j hj);show (done++left).getD i []∈left;rw[Jad,Jaw ∅,<- Jad];exact Zbt ∅
 | t+1,ht=>by
  have B:=Sw.back h0 I hF t ∅;have hlen:=I.len;have hall:=I.all;have bat:∀ i,(Zcz p pl (done++left) (t+1)).getD i []=_:=λi=>back_at (p:=p) (pl:=pl) (R0:=done++left) (t:=t) (i:=i);have bdef:Zcz p pl (done++left) (t+1)=((Zcz p pl (done++left) t).take (pl.length-1-t)).map (λrow=>Zbm p row ((Zcz p pl (done++left) t).getD (pl.length-1-t) []) (pl.getD (pl.length-1-t) 0))++(Zcz p pl (done++left) t).drop (pl.length-1-t):=rfl;generalize Zcz p pl (done++left) (t+1)=R' at *;generalize Zcz p pl (done++left) t=R at *;have bl:=B.len;have ha:pl.length-1-t<R.length:=∅
  have hap:pl.length-1-t<pl.length:=∅
  have hla:R.getD (pl.length-1-t) []∈R:=Zbt ha;have rl:=B.rw _ hla;have pa:=B.piv _ hap;have ka:(R.getD (pl.length-1-t) []).getD (pl.getD (pl.length-1-t) 0) 0≠0:=λz=>pa (Ziz z)
  -- the place of each
  have lowA:=B.low (pl.length-1-t);have upA:=B.up (pl.length-1-t);generalize hla':R.getD (pl.length-1-t) []=lead at *;have ascA:∀ i,i<pl.length-1-t->pl.getD i 0<pl.getD (pl.length-1-t) 0:=λi hi=>I.asc i _ hi hap;have ri:∀ i,i<R.length->Rw p W (R.getD i []):=λi hi=>B.rw _ (Zbt hi);refine⟨?_,λrow hr=>?_,λi hi=>?_,λi j hi hj=>?_,λi j hi hi2 hj=>?_,λi l hi hl h hne=>?_,?_⟩
  .rw [bdef,Jam,Jab,Jbg,Jcy];omega
  .rw [bdef] at hr;rcases Jar.mp hr with hr|hr
   .refine Zac (Jau.mp hr) λrow' hr' e99=>?_;obtain rfl:=e99;exact Zmk h0 (B.rw _ (List.mem_of_mem_take hr')) rl
   .exact B.rw _ (List.mem_of_mem_drop hr)
  .rw [bat];split
   .rename_i hc
    refine Zbd (Zfr (k:=pl.getD (pl.length-1-t) 0) h0 hF (ri i hc.2) rl ka) λa b ha0 e=>?_;rw[e,lowA _ hap (ascA i hc.1)];have:=B.piv i hi
    grind
   .exact B.piv i hi
  .rw [bat];split
   .rename_i hc
    refine Zbd (Zfr (k:=pl.getD (pl.length-1-t) 0) h0 hF (ri i hc.2) rl ka) λa b ha0 e=>?_;have:=ascA i hc.1;rw[e,lowA j hap ∅,B.low i j hi hj]
    grind
   .exact B.low i j hi hj
  .rw [bat,if_neg ∅];refine B.zer i j hi ?_ hj;have:R'.length=R.length:=by
    rw[bdef,Jam,Jab,Jbg,Jcy];omega
   omega
  .rw [bat];by_cases hla2:l=pl.length-1-t
   .subst hla2;by_cases hc:i<pl.length-1-t
    .rw [if_pos ⟨hc,∅⟩];exact Ziz (Znd ((ri i ∅).1.trans rl.1.symm))
    .rw [if_neg ∅];exact B.low i _ hi (I.asc _ _ ∅ hi)
   .have hu:=B.up i l hi hl ∅ hne;split
    .rename_i hc
     refine Zbd (Zfr (k:=pl.getD (pl.length-1-t) 0) h0 hF (ri i hc.2) rl ka) λa b ha0 e=>?_;rw[e,hu,upA l hap hl ∅ ∅]
     grind
    .exact hu
  .refine SpEq.trans ?_ B.sp;rw[bdef];have hm:lead∈R.drop (pl.length-1-t):=by
    rw[<- hla',Zbn ha,List.drop_eq_getElem_cons ha];exact Jb5
   have:=Zif (A:=R.take (pl.length-1-t)) (B:=R.drop (pl.length-1-t)) (k:=pl.getD (pl.length-1-t) 0) h0 hF (λrow hr=>B.rw _ (List.mem_of_mem_take hr)) hm rl ka;rwa [List.take_append_drop] at this
def Zc2 (pl:List Nat)(R:List (List Int))(i:Nat):Int:=if i<pl.length then (R.getD i []).getD (pl.getD i 0) 0 else 1
theorem BkI.lead {p:Int}{W wide:Nat}{Z:List (List Int)}{pl:List Nat}{F:Type}[Field F]{R:List (List Int)}(B:BkI p W wide Z pl F pl.length R)(i:Nat):(ic (Zc2 pl R i):F)≠0:=by
 unfold Zc2;split
 .exact B.piv i (by assumption)
 .rw [Ze2];exact Ztp
theorem BkI.rr {p:Int}{W wide:Nat}{Z:List (List Int)}{pl:List Nat}{F:Type}[Field F]{R:List (List Int)}(B:BkI p W wide Z pl F pl.length R)(asc:∀ i j,i<j->j<pl.length->pl.getD i 0<pl.getD j 0)(lt:∀ i,i<pl.length->pl.getD i 0<wide)(hr:pl.length<=Z.length){L:List (Nat->F)}(hl:L.length=Z.length)(he:∀ i,i<Z.length->at' L i=λj=>vz (R.getD i []) j / ic (Zc2 pl R i)):RR L wide pl.length (λi=>pl.getD i 0)/\SpEq L (Z.map vz):=by
 have bl:=B.len;refine⟨⟨∅,lt,λi k h1 h2=>asc i k h1 h2,λi k hi hk=>?_,λi j hi hj=>?_,λi j hi hi2 hj=>?_⟩,?_⟩
 .rw [he i ∅];show (vz (R.getD i []) (pl.getD k 0):F) / ic (Zc2 pl R i)=if i=k then 1 else 0
  by_cases e:i=k
  .subst e;rw[if_pos rfl];have:=B.piv i hi;have e2:(ic (Zc2 pl R i):F)=vz (R.getD i []) (pl.getD i 0):=by unfold Zc2 vz;rw[if_pos hi]
   rw[e2]
   grind
  .rw [if_neg e,B.up i k hi hk ∅ (λz=>e z.symm)];have:=B.lead i
   grind
 .rw [he i ∅];show (vz (R.getD i []) j:F) / ic (Zc2 pl R i)=0;rw[B.low i j hi hj];have:=B.lead i
  grind
 .rw [he i ∅];show (vz (R.getD i []) j:F) / ic (Zc2 pl R i)=0;rw[B.zer i j hi ∅ hj];have:=B.lead i
  grind
 .refine SpEq.trans ⟨λv hv=>?_,λv hv=>?_⟩ B.sp
  .refine Zac (Zfj hv zv) λi hi e=>?_;have e':v=at' L i:=e.symm;rw[e',he i ∅];have hm:SpL (R.map vz) (vz (R.getD i []):Nat->F):=.mem (Jau.mpr ⟨_,Zbt ∅,rfl⟩);have:=hm.smul (1 / ic (Zc2 pl R i));rwa [show (λj=>1 / ic (Zc2 pl R i)*vz (R.getD i []) j:Nat->F)=λj=>vz (R.getD i []) j / ic (Zc2 pl R i) from funext λj=>by have:=B.lead i;grind] at this
  .refine Zac (Zlt hv) λrow hr e910=>?_;obtain rfl:=e910;refine Zac (Zfj hr []) λi hi e911=>?_;obtain rfl:=e911;have hm:SpL L (at' L i):=.mem (Zky ∅);have:=hm.smul (ic (Zc2 pl R i));rwa [show (λj=>ic (Zc2 pl R i)*at' L i j:Nat->F)=vz (R.getD i []) from funext λj=>by rw[he i ∅];have:=B.lead i;grind] at this
def SmallR (n:Nat)(row:List Int):Prop:=∀ z∈row,Bt n z
theorem SmallR.le {n m:Nat}{row:List Int}(h:SmallR n row)(hm:n<=m):SmallR m row:=λz hz=>(h z hz).le hm
theorem SmallR.at {n:Nat}{row:List Int}(h:SmallR n row)(j:Nat):Bt n (row.getD j 0):=by
 rcases Zh2 (zs:=row) j with m|e
 .exact h _ m
 .rw [e];exact Zjp n
theorem Zoy {n:Nat}{row lead:List Int}{k:Nat}(h:SmallR n row)(h':SmallR n lead):SmallR (2*n+1) (Ziq row lead k):=λz hz=>by
 obtain⟨j,hj0,rfl⟩:=Jan.mp hz;have hj:j<min row.length lead.length:=by have:=hj0;unfold Ziq at this;rwa [Jcw] at this
 have e:(Ziq row lead k)[j]'(by unfold Ziq;rw[Jcw];exact hj)=lead.getD k 0 / (Int.gcd (row.getD k 0) (lead.getD k 0):Int)*row[j]'(by omega)-row.getD k 0 / (Int.gcd (row.getD k 0) (lead.getD k 0):Int)*lead[j]'(by omega):=by
  unfold Ziq;rw[List.getElem_zipWith]
 rw[e];have b1:=((h'.at k).quo (Jbv (row.getD k 0) (lead.getD k 0))).mul (h _ (Jbd (show j<row.length by omega)));have b2:=((h.at k).quo (Jbo (row.getD k 0) (lead.getD k 0))).mul (h' _ (Jbd (show j<lead.length by omega)));have:=Bt.sub b1 b2;rwa [show n+n+1=2*n+1 by omega] at this
end L3
namespace L2
open PySem PySem.Spec PyProof.Rows
section
variable {H:Hp}{Q:VK}{σ:St}{x:V}{z0 z1 z2 z3 z4 z5 z6 z7 z8 z9 z10 z11 z12:Option V}
theorem Zff {i:Nat}(h:σ[i]?=some (some x)):Zfy i σ H Q=Q x H:=by
 unfold Zfy;rw[h];exact propext ⟨λ⟨v,e,q⟩=>by cases e;exact q,λq=>⟨x,rfl,q⟩⟩
theorem tv0:Zfy 0 (some x::σ) H Q=Q x H:=Zff rfl
theorem tv1:Zfy 1 (z0::some x::σ) H Q=Q x H:=Zff rfl
theorem tv2:Zfy 2 (z0::z1::some x::σ) H Q=Q x H:=Zff rfl
theorem tv3:Zfy 3 (z0::z1::z2::some x::σ) H Q=Q x H:=Zff rfl
theorem tv4:Zfy 4 (z0::z1::z2::z3::some x::σ) H Q=Q x H:=Zff rfl
theorem tv5:Zfy 5 (z0::z1::z2::z3::z4::some x::σ) H Q=Q x H:=Zff rfl
theorem tv6:Zfy 6 (z0::z1::z2::z3::z4::z5::some x::σ) H Q=Q x H:=Zff rfl
theorem tv7:Zfy 7 (z0::z1::z2::z3::z4::z5::z6::some x::σ) H Q=Q x H:=Zff rfl
theorem tv8:Zfy 8 (z0::z1::z2::z3::z4::z5::z6::z7::some x::σ) H Q=Q x H:=Zff rfl
theorem tv9:Zfy 9 (z0::z1::z2::z3::z4::z5::z6::z7::z8::some x::σ) H Q=Q x H:=Zff rfl
theorem tv10:Zfy 10 (z0::z1::z2::z3::z4::z5::z6::z7::z8::z9::some x::σ) H Q=Q x H:=Zff rfl
theorem tv11:Zfy 11 (z0::z1::z2::z3::z4::z5::z6::z7::z8::z9::z10::some x::σ) H Q=Q x H:=Zff rfl
theorem tv12:Zfy 12 (z0::z1::z2::z3::z4::z5::z6::z7::z8::z9::z10::z11::some x::σ) H Q=Q x H:=Zff rfl
theorem tv13:Zfy 13 (z0::z1::z2::z3::z4::z5::z6::z7::z8::z9::z10::z11::z12::some x::σ) H Q=Q x H:=Zff rfl
theorem pI0 {g:Int->Int->V}{i j:Int}:rI0 g (.int i) (.int j) H Q=Q (g i j) H:=propext ⟨λ⟨_,_,e,e',q⟩=>by cases e;cases e';exact q,λq=>⟨i,j,rfl,rfl,q⟩⟩
theorem pI {D:Int->Int->Prop}{g:Int->Int->V}{i j:Int}:rI D g (.int i) (.int j) H Q=(D i j/\Q (g i j) H):=propext ⟨λ⟨_,_,e,e',q⟩=>by cases e;cases e';exact q,λq=>⟨i,j,rfl,rfl,q⟩⟩
theorem pU {g:Int->V}{i:Int}:rU g (.int i) H Q=Q (g i) H:=propext ⟨λ⟨_,e,q⟩=>by cases e;exact q,λq=>⟨i,rfl,q⟩⟩
theorem pIxL {K:Frag}{a:Addr}{k:Int}:rIxL K (.ref a) (.int k) H Q=∃ xs,SqL K H a xs/\∃ v,atI xs k=some v/\Q v H:=propext ⟨λ⟨_,xs,_,v,e,e',h,h',q⟩=>by cases e;cases e';exact⟨xs,h,v,h',q⟩,λ⟨xs,h,v,h',q⟩=>⟨a,xs,k,v,rfl,rfl,h,h',q⟩⟩
theorem pIxT {K:Frag}{a:Addr}{k:Int}:rIxT K (.ref a) (.int k) H Q=∃ xs,SqT K H a xs/\∃ v,atI xs k=some v/\Q v H:=propext ⟨λ⟨_,xs,_,v,e,e',h,h',q⟩=>by cases e;cases e';exact⟨xs,h,v,h',q⟩,λ⟨xs,h,v,h',q⟩=>⟨a,xs,k,v,rfl,rfl,h,h',q⟩⟩
theorem pEb {b:Bool}{p:Bool->Prop}:(∃ k,V.bl b=V.bl k/\p k)=p b:=propext ⟨λ⟨_,e,q⟩=>by cases e;exact q,λq=>⟨b,rfl,q⟩⟩
theorem pEi {b:Int}{p:Int->Prop}:(∃ k,V.int b=V.int k/\p k)=p b:=propext ⟨λ⟨_,e,q⟩=>by cases e;exact q,λq=>⟨b,rfl,q⟩⟩
theorem pEr {b:Addr}{p:Addr->Prop}:(∃ k,V.ref b=V.ref k/\p k)=p b:=propext ⟨λ⟨_,e,q⟩=>by cases e;exact q,λq=>⟨b,rfl,q⟩⟩
theorem pEqT {K:Frag}{b:Bool}{a c:Addr}:rEqT K b (.ref a) (.ref c) H Q=∃ xs,SqT K H a xs/\∃ ys,SqT K H c ys/\∃ bs,Zdx K H 6 xs ys bs/\Q (V.bl (if b=true then !bs.all id else bs.all id)) H:=propext ⟨λ⟨_,_,xs,ys,bs,e,e',h,h',h'',q⟩=>by cases e;cases e';exact⟨xs,h,ys,h',bs,h'',q⟩,λ⟨xs,h,ys,h',bs,h'',q⟩=>⟨a,c,xs,ys,bs,rfl,rfl,h,h',h'',q⟩⟩
theorem pEqL {K:Frag}{b:Bool}{a c:Addr}:rEqL K b (.ref a) (.ref c) H Q=∃ xs,SqL K H a xs/\∃ ys,SqL K H c ys/\(xs.length≠ys.length/\Q (V.bl b) H\/∃ bs,Zdx K H 6 xs ys bs/\Q (V.bl (if b=true then !bs.all id else bs.all id)) H):=propext ⟨λ⟨_,_,xs,ys,e,e',h,h',q⟩=>by cases e;cases e';exact⟨xs,h,ys,h',q⟩,λ⟨xs,h,ys,h',q⟩=>⟨a,c,xs,ys,rfl,rfl,h,h',q⟩⟩
theorem pSlL {K:Frag}{a:Addr}{lo hi:Option Int}:rSlL K (.ref a) lo hi H Q=∃ xs,SqL K H a xs/\∀ p,H p=none->Q (.ref p) (upd H p (.lst (Zty xs lo hi))):=propext ⟨λ⟨_,xs,e,h,q⟩=>by cases e;exact⟨xs,h,q⟩,λ⟨xs,h,q⟩=>⟨a,xs,rfl,h,q⟩⟩
theorem pCat {a c:Addr}:rCat (.ref a) (.ref c) H Q=∃ xs,H a=some (.lst xs)/\∃ ys,H c=some (.lst ys)/\xs.length+ys.length<=sizeLine/\∀ p,H p=none->Q (.ref p) (upd H p (.lst (xs++ys))):=propext ⟨λ⟨_,_,xs,ys,e,e',h,h',q⟩=>by cases e;cases e';exact⟨xs,h,ys,h',q⟩,λ⟨xs,h,ys,h',q⟩=>⟨a,c,xs,ys,rfl,rfl,h,h',q⟩⟩
theorem pApp {a:Addr}{v:V}:Zhq (.ref a) [v] H Q=∃ xs,H a=some (.lst xs)/\xs.length<sizeLine/\Q .non (upd H a (.lst (xs++[v]))):=propext ⟨λ⟨_,xs,_,e,e',q⟩=>by cases e;cases e';exact⟨xs,q⟩,λ⟨xs,q⟩=>⟨a,xs,v,rfl,rfl,q⟩⟩
theorem pTup {K:Frag}{n:Nat}{t:TGs}{a:Addr}{R:St->Hp->Prop}:gTup K n t (.ref a) σ H R=∃ xs,SqT K H a xs/\xs.length=n/\t xs σ H R:=propext ⟨λ⟨_,xs,e,q⟩=>by cases e;exact⟨xs,q⟩,λ⟨xs,q⟩=>⟨a,xs,rfl,q⟩⟩
theorem pL1 {α:Type}{a:Addr}{p:Addr->α->Prop}:(∃ b y,[V.ref a]=[V.ref b]/\p b y)=∃ y,p a y:=propext ⟨λ⟨_,y,e,q⟩=>by cases e;exact⟨y,q⟩,λ⟨y,q⟩=>⟨a,y,rfl,q⟩⟩
theorem pL0 {a:Addr}{p:Addr->Prop}:(∃ b,[V.ref a]=[V.ref b]/\p b)=p a:=propext ⟨λ⟨_,e,q⟩=>by cases e;exact q,λq=>⟨a,rfl,q⟩⟩
theorem pLi {a:Int}{p:Int->Prop}:(∃ b,[V.int a]=[V.int b]/\p b)=p a:=propext ⟨λ⟨_,e,q⟩=>by cases e;exact q,λq=>⟨a,rfl,q⟩⟩
theorem pE5 {α β γ δ:Type}{a:Addr}{p:Addr->α->β->γ->δ->Prop}:(∃ b x y z u,V.ref a=V.ref b/\p b x y z u)=∃ x y z u,p a x y z u:=propext ⟨λ⟨_,x,y,z,u,e,q⟩=>by cases e;exact⟨x,y,z,u,q⟩,λ⟨x,y,z,u,q⟩=>⟨a,x,y,z,u,rfl,q⟩⟩
end
def onV:Option (Option V)->(V->Prop)->Prop
 | some (some v),k=>k v
 | _,_=>False
theorem Zmv (v:V)(k:V->Prop):onV (some (some v)) k=k v:=rfl
def tVr (i:Nat):TE:=λσ H Q=>onV σ[i]? λv=>Q v H
theorem tVr_old {i:Nat}{σ:St}{H:Hp}{Q:VK}(h:tVr i σ H Q):Zfy i σ H Q:=by
 unfold tVr at h;cases e:σ[i]? with
 | none=>rw[e] at h;exact h.elim
 | some o=>
  rw[e] at h;cases o with
  | none=>exact h.elim
  | some v=>exact⟨v,e,h⟩
theorem pvr {X:Cx}(i:Nat){x:Str}{pos:Pos}(hN:X.N[i]?=some x:=by rfl)(hv:Vis X.env.scope x:=by first|exact Or.inl rfl|exact Or.inr (Or.inl rfl)|exact Or.inr (Or.inr rfl))(hd:(x == ("__debug__" : Str))=false:=by decide)(hcd:(x == ("__classdict__" : Str))=false:=by decide):PE X (.Name x pos) (tVr i):=λpins s σ H Q I h=>pv i hN hv hd hcd pins s σ H Q I (tVr_old h)
def onI:V->(Int->Prop)->Prop
 | .int i,k=>k i
 | _,_=>False
def onR:V->(Addr->Prop)->Prop
 | .ref a,k=>k a
 | _,_=>False
def onB:V->(Bool->Prop)->Prop
 | .bl b,k=>k b
 | _,_=>False
def on1:List V->(V->Prop)->Prop
 | [y],k=>k y
 | _,_=>False
theorem Zpy (i:Int)(k:Int->Prop):onI (.int i) k=k i:=rfl
theorem Zpx (a:Addr)(k:Addr->Prop):onR (.ref a) k=k a:=rfl
theorem Zut (b:Bool)(k:Bool->Prop):onB (.bl b) k=k b:=rfl
theorem Zpz (y:V)(k:V->Prop):on1 [y] k=k y:=rfl
theorem Zgp {x:V}{k:Int->Prop}(h:onI x k):∃ i,x=.int i/\k i:=by
 cases x <;> first|exact⟨_,rfl,h⟩|exact False.elim h
theorem Zmw {x:V}{k:Addr->Prop}(h:onR x k):∃ a,x=.ref a/\k a:=by
 cases x <;> first|exact⟨_,rfl,h⟩|exact False.elim h
theorem onB_of {x:V}{k:Bool->Prop}(h:onB x k):∃ b,x=.bl b/\k b:=by
 cases x <;> first|exact⟨_,rfl,h⟩|exact False.elim h
theorem on1_of {vs:List V}{k:V->Prop}(h:on1 vs k):∃ y,vs=[y]/\k y:=by
 match vs,h with
 | [y],h=>exact⟨y,rfl,h⟩
def rJ0 (g:Int->Int->V):R2:=λx y H Q=>onI x λi=>onI y λj=>Q (g i j) H
def rJ (C:Int->Int->Prop)(g:Int->Int->V):R2:=λx y H Q=>onI x λi=>onI y λj=>C i j/\Q (g i j) H
def rEqJ:R2:=λx y H Q=>onI x λi=>onI y λj=>Q (.bl (decide (i=j))) H
def rNeJ:R2:=λx y H Q=>onI x λi=>onI y λj=>Q (.bl (!decide (i=j))) H
section
variable {X:Cx}{f:Value->Value->Sem Value}
theorem opJ0 {g:Int->Int->V}(h:OpR X f (rI0 g)):OpR X f (rJ0 g):=λpins s σ H x y v u Q I rx ry q=>h pins s σ H x y v u Q I rx ry (let ⟨i,ei,q⟩:=Zgp q;let ⟨j,ej,q⟩:=Zgp q;⟨i,j,ei,ej,q⟩)
theorem opJ {C:Int->Int->Prop}{g:Int->Int->V}(h:OpR X f (rI C g)):OpR X f (rJ C g):=λpins s σ H x y v u Q I rx ry q=>h pins s σ H x y v u Q I rx ry (let ⟨i,ei,q⟩:=Zgp q;let ⟨j,ej,q⟩:=Zgp q;⟨i,j,ei,ej,q⟩)
theorem dec_ij {i j:Int}:decide (V.int i=V.int j)=decide (i=j):=by
 by_cases c:i=j
 .rw [Jal c,Jal (by rw[c])]
 .rw [Ja3 c,Ja3 λz=>c (V.int.inj z)]
theorem opEqJ (h:OpR X f rEq):OpR X f rEqJ:=λpins s σ H x y v u Q I rx ry q=>h pins s σ H x y v u Q I rx ry (by
 refine Zac (Zgp q) λi e91 q1=>?_;obtain rfl:=e91;refine Zac (Zgp q1) λj e92 q2=>?_;obtain rfl:=e92;exact⟨rfl,by rw[dec_ij];exact q2⟩)
def tTst (t:TE):TT:=λσ H Q=>t σ H λx H'=>onB x λk=>Q k H'
theorem Zao {op:CmpOp}{r:R2}{a b:Expr}{ta tb:TE}{pos:Pos}(ho:OpR X (compareOp op) r)(ha:PE X a ta)(hb:PE X b tb)(hm:behindInMarks op b=false):PT X (.Compare a [op] [b] pos) (tTst (tOp r ta tb)):=by
 intro pins s σ H Q I h;refine Jd5 (thn (ha pins s σ H _ I h) λv s1 ⟨x,H1,I1,r1,q1⟩=>thn (hb pins s1 σ H1 _ I1 q1) λu s2 ⟨y,H2,I2,r2,q2⟩=>
  thn (ho pins s2 σ H2 x y v u _ I2 r1 r2 q2) λc s3 ⟨z,H3,I3,r3,q3⟩=>?_) hm
 refine Zac (onB_of q3) λk e q3=>?_;subst e;cases r3;exact Jbl ⟨H3,I3,q3⟩
def rIxJ (K:Frag):R2:=λx y H Q=>onR x λp=>onI y λi=>∃ xs,SqL K H p xs/\∃ v,atI xs i=some v/\Q v H
def rIxTJ (K:Frag):R2:=λx y H Q=>onR x λp=>onI y λi=>∃ xs,SqT K H p xs/\∃ v,atI xs i=some v/\Q v H
theorem ixJ {K:Frag}(h:IxR X (rIxL K)):IxR X (rIxJ K):=λa b pins s σ H x y v u Q I rx ry q=>h a b pins s σ H x y v u Q I rx ry (by
 refine Zac (Zmw q) λp e95 q1=>?_;obtain rfl:=e95;refine Zac (Zgp q1) λi e96 e97=>?_;obtain rfl:=e96;obtain⟨xs,h1,v,h2,q2⟩:=e97;exact⟨p,xs,i,v,rfl,rfl,h1,h2,q2⟩)
theorem Zkh {K:Frag}(h:IxR X (rIxT K)):IxR X (rIxTJ K):=λa b pins s σ H x y v u Q I rx ry q=>h a b pins s σ H x y v u Q I rx ry (by
 refine Zac (Zmw q) λp e98 q1=>?_;obtain rfl:=e98;refine Zac (Zgp q1) λi e99 e910=>?_;obtain rfl:=e99;obtain⟨xs,h1,v,h2,q2⟩:=e910;exact⟨p,xs,i,v,rfl,rfl,h1,h2,q2⟩)
def rAppJ:V->List V->Hp->VK->Prop:=λx vs H Q=>onR x λl=>on1 vs λy=>∃ xs,H l=some (.lst xs)/\xs.length<sizeLine/\Q .non (upd H l (.lst (xs++[y])))
theorem mtJ {id:String}(h:MtR X id Zhq):MtR X id rAppJ:=λpins s σ H x xs v us Q I rx rv q=>h pins s σ H x xs v us Q I rx rv (by
 refine Zac (Zmw q) λl e911 q1=>?_;obtain rfl:=e911;refine Zac (on1_of q1) λy e912 e913=>?_;obtain rfl:=e912;obtain⟨ys,h1,h2,q2⟩:=e913;exact⟨l,ys,y,rfl,rfl,h1,h2,q2⟩)
def tFldJ (K:Frag)(ta:TE)(f:Str):TE:=λσ H Q=>ta σ H λx H1=>onR x λa=>∃ C dx fs,H1 a=some (.ins C dx fs)/\Cls K C/\NoAttr K C f/\∃ v,fs.lookup f=some v/\Q v H1
theorem Zr3 {i:Nat}{σ:St}{H:Hp}{Q Q':VK}(h:tVr i σ H Q)(m:∀ x H1,Q x H1->Q' x H1):tVr i σ H Q':=by
 unfold tVr at *;cases e:σ[i]? with
 | none=>rw[e] at h;exact h.elim
 | some o=>
  rw[e] at h;cases o with
  | none=>exact h.elim
  | some v=>exact m _ _ h
theorem Za8 {e:Expr}{i:Nat}{f:Str}{pos:Pos}(he:PE X e (tVr i))(hb:attributeBase e f X.env (eval e X.env)=eval e X.env):PE X (.Attribute e f pos) (tFldJ X.K (tVr i) f):=λpins s σ H Q I h=>Zdh he hb pins s σ H Q I (Zr3 h λx H1 q=>by
 refine Zac (Zmw q) λa e914 e915=>?_;obtain rfl:=e914;obtain⟨C,dx,fs,h1,h2,h3,v,h4,q⟩:=e915;exact⟨a,C,dx,fs,v,rfl,h1,h2,h3,h4,q⟩)
end
end L2
namespace L2
open PySem PySem.Spec PyProof.Rows
section
variable {prog:Program}{w:World}{A:Around}{E:Value->Shared->Prop}{s:Shared}
abbrev Tri (h:Heap)(T:Addr)(a b c:Value):Prop:=h.get? T=some { cls:=.type "tuple",data:=.seq #[a,b,c] }
theorem Zk2 {T:Addr}{a b c x:Value}{k:Nat}{Q:Unit->Shared->Prop}(hT:Tri s.heap T a b c)(h:∀ h',h'.get? T=some { cls:=.type "tuple",data:=.seq ((#[a,b,c]:Array Value).setIfInBounds k x) }->Heap.SameBut T s.heap h'->Q () { s with heap:=h' }):
  wpAny (model prog w) A (updateSeq T (·.setIfInBounds k x)) Q E s:=by
 refine Jel hT rfl (h _ ?_ (Jdm ..));rw[Heap.get?_update_self _ hT rfl];simp[Obj.mapSeq]
structure Z3 (h:Heap)(n:Nat)(l1 l2 l3:Nat)(k:Nat)(f:Value):Prop where
 z:IsZip h (n+5) (n+3) (n+4) f
 ti:Tri h (n+3) (.ref n) (.ref (n+1)) (.ref (n+2))
 to:∃ a b c,Tri h (n+4) a b c
 i1:h.IsListIter n l1 k
 i2:h.IsListIter (n+1) l2 k
 i3:h.IsListIter (n+2) l3 k
theorem dA {a b:Nat}(h:a≠b):(a:Addr)≠b:=h
theorem z3_item {n:Nat}{l1 l2 l3:Nat}{k:Nat}{xs ys ws:Array Value}{x y u:Value}{Q:Value->Shared->Prop}(m1:l1<n)(m2:l2<n)(m3:l3<n)(Z:Z3 s.heap n l1 l2 l3 k .none)(g1:s.heap.IsList l1 xs)(g2:s.heap.IsList l2 ys)(g3:s.heap.IsList l3 ws)(hx:xs[k]?=some x)(hy:ys[k]?=some y)(hu:ws[k]?=some u)(hQ:∀ h',Z3 h' n l1 l2 l3 (k+1) (rawInt s.heap.objs.size)->Tri h' s.heap.objs.size x y u->h'.objs.size=s.heap.objs.size+1->
   (∀ c o,(c<n\/n+6<=c)->s.heap.get? c=some o->h'.get? c=some o)->Q (.ref s.heap.objs.size) { s with heap:=h' }):
  wpAny (model prog w) A (Builtin.«zip.__next__» ⟨[.ref (n+5)],[]⟩) (λfin s'=>∃ v,fin=.done (.ret v)/\Q v s') E s:=by
 obtain⟨hz,hTI,⟨a,b,c,hTO⟩,h1,h2,h3⟩:=Z;show wpAny _ _ (field (.ref (n+5)) 2 >>= _) _ _ _;refine Jag (Jdn hz rfl (x:=.bool false) rfl ?_);show wpAny _ _ (field (.ref (n+5)) 3 >>= _) _ _ _;refine Jag (Jdn hz rfl (x:=.ref (n+3)) rfl (Jag (Jcf hTI rfl ?_)));show wpAny _ _ (Builtin.SmallTypes.ownedTupleIsFree (.ref (n+5)) >>= _) _ _ _;refine Jag ?_;unfold Builtin.SmallTypes.ownedTupleIsFree;refine Jag (Jdn hz rfl (x:=.none) rfl (Ja2 ?_));simp only[Jcm];refine Jag (wpAny_rule (Jag (Jdn hz rfl (x:=.ref (n+4)) rfl (Jag (Jc6 hz (by simp) λq1 hz1 s1=>?_)))))
 replace hz1:IsZip q1 (n+5) (n+3) (n+4) .ellipsis:=hz1
 refine Jag ?_;simp only[List.zipIdx_cons,List.zipIdx_nil,List.forIn_cons,List.forIn_nil];have e1:∀ c,c≠n+5->∀ o,s.heap.get? c=some o->q1.get? c=some o:=λc hc o=>s1.extBut c o hc;refine Jag (Jag (Jey ?_));show wpAny _ _ (Builtin.SmallTypes.nextOf (.ref n) >>= _) _ _ _;refine Jag (Jdz (h1.at (e1 _ ∅)) (g1.at (e1 _ ∅)) hx λq2 j1 s2=>Ja2 ?_);have e2:∀ c,c≠n+5->c≠n->∀ o,s.heap.get? c=some o->q2.get? c=some o:=λc c1 c2 o e=>s2.extBut c o c2 (e1 c c1 o e);have t2:=e2 _ ∅ ∅ _ hTO;refine Jag (Jcf t2 rfl (Jag (Zk2 t2 λq3 t3 s3=>?_)))
 replace t3:Tri q3 (n+4) x b c:=t3
 refine Jag (Jd2 (Ja2 ?_));have e3:∀ c,c≠n+5->c≠n->c≠n+4->∀ o,s.heap.get? c=some o->q3.get? c=some o:=λc c1 c2 c3 o e=>s3.extBut c o c3 (e2 c c1 c2 o e);refine Jag (Jag (Jey ?_));show wpAny _ _ (Builtin.SmallTypes.nextOf (.ref (n+1)) >>= _) _ _ _;refine Jag (Jdz (h2.at (e3 _ ∅ ∅ ∅)) (g2.at (e3 _ ∅ ∅ ∅)) hy λq4 j2 s4=>Ja2 ?_);have t4:Tri q4 (n+4) x b c:=s4.extBut _ _ (dA ∅) t3;refine Jag (Jcf t4 rfl (Jag (Zk2 t4 λq5 t5 s5=>?_)))
 replace t5:Tri q5 (n+4) x y c:=t5
 refine Jag (Jd2 (Ja2 ?_));have e5:∀ c,c≠n+5->c≠n->c≠n+4->c≠n+1->∀ o,s.heap.get? c=some o->q5.get? c=some o:=λc c1 c2 c3 c4 o e=>s5.extBut c o c3 (s4.extBut c o c4 (e3 c c1 c2 c3 o e));refine Jag (Jag (Jey ?_));show wpAny _ _ (Builtin.SmallTypes.nextOf (.ref (n+2)) >>= _) _ _ _;refine Jag (Jdz (h3.at (e5 _ ∅ ∅ ∅ ∅)) (g3.at (e5 _ ∅ ∅ ∅ ∅)) hu λq6 j3 s6=>Ja2 ?_);have t6:Tri q6 (n+4) x y c:=s6.extBut _ _ (dA ∅) t5;refine Jag (Jcf t6 rfl (Jag (Zk2 t6 λq7 t7 s7=>?_)))
 replace t7:Tri q7 (n+4) x y u:=t7
 refine Jag (Jd2 (Ja2 (Ja2 ?_)));have e7:∀ c,c≠n+5->c≠n->c≠n+4->c≠n+1->c≠n+2->∀ o,s.heap.get? c=some o->q7.get? c=some o:=λc c1 c2 c3 c4 c5 o e=>s7.extBut c o c3 (s6.extBut c o c5 (e5 c c1 c2 c3 c4 o e));have z7:q7.objs.size=s.heap.objs.size:=by rw[s7.1,s6.1,s5.1,s4.1,s3.1,s2.1,s1.1]
 have j1':q7.IsListIter n l1 (k+1):=((((j1.extBut s3.extBut (dA ∅)).extBut s4.extBut (dA ∅)).extBut s5.extBut (dA ∅)).extBut s6.extBut (dA ∅)).extBut s7.extBut (dA ∅);have j2':q7.IsListIter (n+1) l2 (k+1):=((j2.extBut s5.extBut (dA ∅)).extBut s6.extBut (dA ∅)).extBut s7.extBut (dA ∅);have j3':q7.IsListIter (n+2) l3 (k+1):=j3.extBut s7.extBut (dA ∅);have hz7:IsZip q7 (n+5) (n+3) (n+4) .ellipsis:=s7.extBut _ _ (dA ∅) (s6.extBut _ _ (dA ∅) (s5.extBut _ _ (dA ∅) (s4.extBut _ _ (dA ∅) (s3.extBut _ _ (dA ∅) (s2.extBut _ _ (dA ∅) hz1)))));have lz:n+5<q7.objs.size:=Jak hz7;refine Jag (Jcf t7 rfl (Jag (wpAny_newTuple ?_)));show wpAny _ _ (Builtin.SmallTypes.ownedTupleHandOut (.ref (n+5)) (.ref q7.objs.size) >>= _) _ _ _;refine Jag ?_;unfold Builtin.SmallTypes.ownedTupleHandOut;have hz8:IsZip (q7.push { cls:=.type "tuple",data:=.seq #[x,y,u] }) (n+5) (n+3) (n+4) .ellipsis:=Jaj _ hz7;refine Jag (Jc6 hz8 (by simp) λq9 hz9 s9=>?_)
 replace hz9:IsZip q9 (n+5) (n+3) (n+4) (rawInt q7.objs.size):=hz9
 refine Jc6 hz9 (by simp) λqa hza sa=>?_
 replace hza:IsZip qa (n+5) (n+3) (n+4) (rawInt q7.objs.size):=hza
 have up:∀ c,c≠n+5->∀ o,q7.get? c=some o->qa.get? c=some o:=λc c1 o e=>sa.extBut _ _ c1 (s9.extBut _ _ c1 (Jaj _ e));have ta:Tri qa q7.objs.size x y u:=sa.extBut _ _ (dA ∅) (s9.extBut _ _ (dA ∅) (Jas _ rfl));have za:qa.objs.size=q7.objs.size+1:=by rw[sa.1,s9.1,Jbt]
 rw[z7] at hza ta za;refine Ja2 ⟨_,rfl,?_⟩;show Q (.ref q7.objs.size) _;rw[z7];exact hQ qa ⟨hza,up _ ∅ _ (e7 _ ∅ ∅ ∅ ∅ ∅ _ hTI),⟨_,_,_,up _ ∅ _ t7⟩,j1'.at (up _ ∅),j2'.at (up _ ∅),j3'.at (up _ ∅)⟩ ta za
  λc o hc e=>up c ∅ o (e7 c ∅ ∅ ∅ ∅ ∅ o e)
theorem z3_end {n l1 l2 l3:Nat}{k:Nat}{xs:Array Value}{Q:Fin->Shared->Prop}(hh:A.handled=none)(m1:l1<n)(Z:Z3 s.heap n l1 l2 l3 k .none)(g1:s.heap.IsList l1 xs)(hx:xs[k]?=none)(hE:∀ h' e,(∀ c o,(c<n\/n+6<=c)->s.heap.get? c=some o->h'.get? c=some o)->(∃ o,h'.get? e=some o/\o.cls=.type "StopIteration")->E (.ref e) { s with heap:=h' }):
  wpAny (model prog w) A (Builtin.«zip.__next__» ⟨[.ref (n+5)],[]⟩) Q E s:=by
 obtain⟨hz,hTI,⟨a,b,c,hTO⟩,h1,_,_⟩:=Z;show wpAny _ _ (field (.ref (n+5)) 2 >>= _) _ _ _;refine Jag (Jdn hz rfl (x:=.bool false) rfl ?_);show wpAny _ _ (field (.ref (n+5)) 3 >>= _) _ _ _;refine Jag (Jdn hz rfl (x:=.ref (n+3)) rfl (Jag (Jcf hTI rfl ?_)));show wpAny _ _ (Builtin.SmallTypes.ownedTupleIsFree (.ref (n+5)) >>= _) _ _ _;refine Jag ?_;unfold Builtin.SmallTypes.ownedTupleIsFree;refine Jag (Jdn hz rfl (x:=.none) rfl (Ja2 ?_));simp only[Jcm];refine Jag (wpAny_rule (Jag (Jdn hz rfl (x:=.ref (n+4)) rfl (Jag (Jc6 hz (by simp) λq1 hz1 s1=>?_)))))
 replace hz1:IsZip q1 (n+5) (n+3) (n+4) .ellipsis:=hz1
 refine Jag ?_;simp only[List.zipIdx_cons,List.zipIdx_nil,List.forIn_cons,List.forIn_nil];have e1:∀ c,c≠n+5->∀ o,s.heap.get? c=some o->q1.get? c=some o:=λc hc o=>s1.extBut c o hc;refine Jag (Jag (Jey ?_));show wpAny _ _ (Builtin.SmallTypes.nextOf (.ref n) >>= _) _ _ _;refine Jag (wpAny_nextOf_list_end hh (h1.at (e1 _ ∅)) (g1.at (e1 _ ∅)) hx λq2 e s2 he=>?_);refine Zac he λoe hoe hce=>?_;clear he;have hz2:IsZip q2 (n+5) (n+3) (n+4) .ellipsis:=s2 _ _ (dA ∅) hz1;have hez:e≠n+5:=λx=>by subst x;rw[hz2] at hoe;cases hoe;simp at hce
 exact Jc6 hz2 (by simp) λq3 _ s3=>hE q3 e (λc o hc x=>s3.extBut _ _ (dA ∅) (s2 _ _ (dA ∅) (e1 c ∅ o x))) ⟨oe,s3.extBut _ _ hez hoe,hce⟩
theorem z3_next {n l1 l2 l3:Nat}{k:Nat}{xs ys ws:Array Value}{x y u:Value}{Q:Option Value->Shared->Prop}(m1:l1<n)(m2:l2<n)(m3:l3<n)(Z:Z3 s.heap n l1 l2 l3 k .none)(g1:s.heap.IsList l1 xs)(g2:s.heap.IsList l2 ys)(g3:s.heap.IsList l3 ws)(hx:xs[k]?=some x)(hy:ys[k]?=some y)(hu:ws[k]?=some u)(hQ:∀ h',Z3 h' n l1 l2 l3 (k+1) (rawInt s.heap.objs.size)->Tri h' s.heap.objs.size x y u->h'.objs.size=s.heap.objs.size+1->
   (∀ c o,(c<n\/n+6<=c)->s.heap.get? c=some o->h'.get? c=some o)->Q (some (.ref s.heap.objs.size)) { s with heap:=h' }):
  wpAny (model prog w) A (pyNext (.ref (n+5))) Q E s:=by
 have hT:s.TypeIs (.ref (n+5)) "zip" := ⟨_,Z.z,rfl⟩
 unfold pyNext;exact Jag (wpAny_attempt (wpAny_callSpecial?_slot (name:=Str.ofString "__next__") hT Jem
  (wpAny_call_entry Jem hT F.entry_zip_next (z3_item m1 m2 m3 Z g1 g2 g3 hx hy hu λh' a1 a2 a3 a4=>Ja2 (hQ h' a1 a2 a3 a4)) (F.args_zip_next_1 _))))
theorem z3_stop {n l1 l2 l3:Nat}{k:Nat}{xs:Array Value}{Q:Option Value->Shared->Prop}(hh:A.handled=none)(m1:l1<n)(Z:Z3 s.heap n l1 l2 l3 k .none)(g1:s.heap.IsList l1 xs)(hx:xs[k]?=none)(hQ:∀ h',(∀ c o,(c<n\/n+6<=c)->s.heap.get? c=some o->h'.get? c=some o)->Q none { s with heap:=h' }):wpAny (model prog w) A (pyNext (.ref (n+5))) Q E s:=by
 have hT:s.TypeIs (.ref (n+5)) "zip" := ⟨_,Z.z,rfl⟩
 unfold pyNext;refine Jag (wpAny_attempt (wpAny_callSpecial?_slot (name:=Str.ofString "__next__") hT Jem
  (wpAny_call_entry Jem hT F.entry_zip_next (z3_end hh m1 Z g1 hx λh' e hk he=>?_) (F.args_zip_next_1 _))))
 refine Zac he λo ho hc=>?_;clear he;exact Jag (wpAny_isInstance (T:="StopIteration") (b:=true) ⟨o,ho,hc⟩ isSubtype_stop (Ja2 (hQ _ hk)))
theorem Zrh (a b c d:Value):argsOk "object.__init__" ⟨[a,b,c,d],[]⟩:=by
 unfold argsOk;rw[signature?_of (id:="object.__init__") (n:=['_','_','t','i','n','i','_','_']) (o:=['t','c','e','j','b','o']) (by kernel_rfl) PySem.F.owner_object]
 kernel_rfl
abbrev zA (h:Heap)(l:Addr):Heap:=h.push { cls:=.type "list_iterator",data:=.fields #[.ref l,.int 0 0] }
abbrev zB (h:Heap)(l1 l2 l3:Addr):Heap:=zA (zA (zA h l1) l2) l3
abbrev zC (h:Heap)(l1 l2 l3:Addr):Heap:=(zB h l1 l2 l3).push { cls:=.type "tuple",data:=.seq #[.ref h.objs.size,.ref (zA h l1).objs.size,.ref (zA (zA h l1) l2).objs.size] }
abbrev zD (h:Heap)(l1 l2 l3:Addr):Heap:=(zC h l1 l2 l3).push { cls:=.type "tuple",data:=.seq #[.none,.none,.none] }
abbrev zE (h:Heap)(l1 l2 l3:Addr):Heap:=(zD h l1 l2 l3).push { cls:=.type "zip",data:=.fields #[.none,.bool false,.bool false,.ref (zB h l1 l2 l3).objs.size,.ref (zC h l1 l2 l3).objs.size] }
theorem Ztd (l1 l2 l3:Addr)(xs ys ws:Array Value):
  Meets (Builtin.«zip.__new__» ⟨[.type "zip",.ref l1,.ref l2,.ref l3],[]⟩) (λ_ R s=>s.heap.IsList l1 xs/\s.heap.IsList l2 ys/\s.heap.IsList l3 ws/\R (.ok (.ret (.ref (zD s.heap l1 l2 l3).objs.size))) { s with heap:=zE s.heap l1 l2 l3 }):=
 .of_wp λprog w A R s h=>by
  obtain⟨hp,g,d,tk,os⟩:=s;obtain⟨g1,g2,g3,h⟩:=h;have sub:=sub_zip;have q1:Heap.IsList (Shared.heap ⟨hp,g,d,tk,os⟩) l1 xs:=g1;have q2:Heap.IsList (Shared.heap ⟨zA hp l1,g,d,tk,os⟩) l2 ys:=Heap.IsList.push g2 _;have q3:Heap.IsList (Shared.heap ⟨zA (zA hp l1) l2,g,d,tk,os⟩) l3 ws:=Heap.IsList.push (Heap.IsList.push g3 _) _
  wp_walk using Jcg q1,Jcg q2,Jcg q3
  exact⟨_,rfl,h⟩
theorem call_z3 {l1 l2 l3:Addr}{xs ys ws:Array Value}{Q:Value->Shared->Prop}(g1:s.heap.IsList l1 xs)(g2:s.heap.IsList l2 ys)(g3:s.heap.IsList l3 ws)(h:∀ h',Z3 h' s.heap.objs.size l1 l2 l3 0 .none->h'.objs.size=s.heap.objs.size+6->(∀ c o,s.heap.get? c=some o->h'.get? c=some o)->Q (.ref (s.heap.objs.size+5)) { s with heap:=h' }):
  wpAny (model prog w) A (call (.type "zip") [.ref l1,.ref l2,.ref l3]) Q E s:=by
 refine callType_new F.called_zip ⇑0 (by kernel_rfl) (by kernel_rfl) (λobj=>Zrh obj _ _ _) F.entry_zip_new (Ztd l1 l2 l3 xs ys ws) ⟨g1,g2,g3,?_⟩;have z1:(zA s.heap l1).objs.size=s.heap.objs.size+1:=Jbt ..;have z2:(zA (zA s.heap l1) l2).objs.size=s.heap.objs.size+2:=by rw[Jbt,z1]
 have z3:(zB s.heap l1 l2 l3).objs.size=s.heap.objs.size+3:=by rw[Jbt,z2]
 have z4:(zC s.heap l1 l2 l3).objs.size=s.heap.objs.size+4:=by rw[Jbt,z3]
 have z5:(zD s.heap l1 l2 l3).objs.size=s.heap.objs.size+5:=by rw[Jbt,z4]
 have z6:(zE s.heap l1 l2 l3).objs.size=s.heap.objs.size+6:=by rw[Jbt,z5]
 have up:∀ (q:Heap) (o:Obj) c u,q.get? c=some u->(q.push o).get? c=some u:=λq o c u e=>Jaj _ e;have a6:(zE s.heap l1 l2 l3).get? (zD s.heap l1 l2 l3).objs.size=some _:=Jas _ rfl;have a5:(zE s.heap l1 l2 l3).get? (zC s.heap l1 l2 l3).objs.size=some _:=up _ _ _ _ (Jas _ rfl);have a4:(zE s.heap l1 l2 l3).get? (zB s.heap l1 l2 l3).objs.size=some _:=up _ _ _ _ (up _ _ _ _ (Jas _ rfl));have a3:(zE s.heap l1 l2 l3).get? (zA (zA s.heap l1) l2).objs.size=some _:=up _ _ _ _ (up _ _ _ _ (up _ _ _ _ (Jas _ rfl)));have a2:(zE s.heap l1 l2 l3).get? (zA s.heap l1).objs.size=some _:=up _ _ _ _ (up _ _ _ _ (up _ _ _ _ (up _ _ _ _ (Jas _ rfl))));have a1:(zE s.heap l1 l2 l3).get? s.heap.objs.size=some _:=up _ _ _ _ (up _ _ _ _ (up _ _ _ _ (up _ _ _ _ (up _ _ _ _ (Jas _ rfl)))));show _/\_;rw[z3,z4,z5] at a6;rw[z1,z2,z3] at a4;rw[z4] at a5;rw[z1] at a2;rw[z2] at a3;rw[z5];exact⟨⟨_,a6,rfl⟩,h _ ⟨a6,a4,⟨_,_,_,a5⟩,⟨_,a1,rfl,rfl⟩,⟨_,a2,rfl,rfl⟩,⟨_,a3,rfl,rfl⟩⟩ z6 λc o x=>up _ _ _ _ (up _ _ _ _ (up _ _ _ _ (up _ _ _ _ (up _ _ _ _ (up _ _ _ _ x)))))⟩
end
end L2
namespace L2
open PySem PySem.Spec PyProof.Rows
def Ity (K:Frag)(a b c:Addr):It:=
 ⟨λi H=>∃ xs ys ws x y u,SqL K H a xs/\SqL K H b ys/\SqL K H c ws/\xs[i]?=some x/\ys[i]?=some y/\ws[i]?=some u,λi H v H'=>∃ x y u p,v=.ref p/\H p=none/\H'=upd H p (.tup [x,y,u])/\(∀ xs,SqL K H a xs->xs[i]?=some x)/\(∀ ys,SqL K H b ys->ys[i]?=some y)/\∀ ws,SqL K H c ws->ws[i]?=some u,λi H=>∃ xs,SqL K H a xs/\xs.length<=i⟩
theorem mem6 {n c:Nat}(h:c∈[n+5,n+3,n+4,n,n+1,n+2]):n<=c/\c<n+6:=by
 simp only[Ja9,Jdi,or_false] at h;omega
theorem out6 {n c:Nat}(h:c∉[n+5,n+3,n+4,n,n+1,n+2]):c<n\/n+6<=c:=by
 simp only[Ja9,Jdi,or_false] at h;omega
theorem Z3.keep {h h':Heap}{n l1 l2 l3 k:Nat}{f:Value}(Z:Z3 h n l1 l2 l3 k f)(e:∀ c∈[n+5,n+3,n+4,n,n+1,n+2],∀ o,h.get? c=some o->h'.get? c=some o):Z3 h' n l1 l2 l3 k f:=by
 obtain⟨hz,hTI,⟨a,b,c,hTO⟩,h1,h2,h3⟩:=Z;exact⟨e _ (by simp) _ hz,e _ (by simp) _ hTI,⟨_,_,_,e _ (by simp) _ hTO⟩,h1.at λo q=>e _ (by simp) o q,h2.at λo q=>e _ (by simp) o q,h3.at λo q=>e _ (by simp) o q⟩
theorem Zog {P:Program}{w:World}{K:Frag}{elts:List Expr}{x1:Nat}{pos:Pos}{n a b c:Nat}(m1:a<n)(m2:b<n)(m3:c<n):
  Turn P w K (.Tuple elts x1 pos) (Ity K a b c) [n+5,n+3,n+4,n,n+1,n+2] (n+5) (λi h=>Z3 h n a b c i .none) where
 mem:=by simp
 obj:=λi h st c hc=>by
  obtain⟨hz,hTI,⟨_,_,_,hTO⟩,⟨o1,e1,c1,d1⟩,⟨o2,e2,c2,d2⟩,⟨o3,e3,c3,d3⟩⟩:=st;simp only[Ja9,Jdi,or_false] at hc;rcases hc with rfl|rfl|rfl|rfl|rfl|rfl
  .exact ⟨_,hz,λv z=>by have z':Data.fields _=Data.cell v:=z;cases z'⟩
  .exact ⟨_,hTI,λv z=>by have z':Data.seq _ _=Data.cell v:=z;cases z'⟩
  .exact ⟨_,hTO,λv z=>by have z':Data.seq _ _=Data.cell v:=z;cases z'⟩
  .exact ⟨o1,e1,λv z=>by rw[d1] at z;cases z⟩
  .exact ⟨o2,e2,λv z=>by rw[d2] at z;cases z⟩
  .exact ⟨o3,e3,λv z=>by rw[d3] at z;cases z⟩
 keep:=λi h h' st k=>st.keep λc hc o e=>k c hc o e
 item:=by
  intro X hP hw hK hc i pins s σ H E I hf st hg;subst hP hw hK;refine xE6_4 hg λxs ys ws x y u hqa hqb hqc e92=>?_;clear hg;refine Za2 e92 λhx hy hu=>?_;clear e92;refine Zal (I.list hqa) λits rv p hz1=>?_;refine Zal (I.list hqb) λits2 rv2 p2 hz2=>?_;refine Zal (I.list hqc) λits3 rv3 p3 hz3=>?_;refine Zac (rv.get hx) λu1 hu1 ru1=>?_;refine Zac (rv2.get hy) λu2 hu2 ru2=>?_;refine Zac (rv3.get hu) λu3 hu3 ru3=>?_;have lz:n+5<s.heap.objs.size:=Jak st.z;refine z3_next m1 m2 m3 st p.isList p2.isList p3.isList (by simpa using hu1) (by simpa using hu2) (by simpa using hu3) λh' a1 a2 a3 a4=>?_;refine⟨_,rfl,wpAny_letOwnedTupleGo_zip a1.z λh'' b1 b2=>?_⟩;have nz:(s.heap.objs.size:Addr)≠n+5:=Jd6 lz;have k2:∀ c o,c∉[n+5,n+3,n+4,n,n+1,n+2]->s.heap.get? c=some o->h''.get? c=some o:=λc o hc e=>b2.extBut _ _ (λz=>hc (by rw[z];simp)) (a4 c o (out6 hc) e);have I2:Inv X pins σ (upd H s.heap.objs.size (.tup [x,y,u])) { s with heap:=h'' }:=I.turnedT (t':=s.toks) hf k2 (Jah _)
   ⟨by show 3<=sizeLine;decide,[u1,u2,u3],.cons ru1 (.cons ru2 (.cons ru3 .nil)),_,b2.extBut _ _ nz a2,rfl,_,rfl⟩
  refine Zat (.ref s.heap.objs.size) _ ⟨I2,rfl,⟨x,y,u,_,rfl,I.hok.fresh (Jah _),rfl,λxs' hq=>by rw[I.list_inj hq hqa];exact hx,λys' hq=>by rw[I.list_inj hq hqb];exact hy,λws' hq=>by rw[I.list_inj hq hqc];exact hu⟩,?_,λc hc=>?_⟩
  .obtain ⟨_,ti,⟨_,_,_,to⟩,j1,j2,j3⟩:=a1;have up:∀ c,c≠n+5->∀ o,h'.get? c=some o->h''.get? c=some o:=λc hc o e=>b2.extBut c o hc e;exact⟨b1,up _ ∅ _ ti,⟨_,_,_,up _ ∅ _ to⟩,j1.at (up _ ∅),j2.at (up _ ∅),j3.at (up _ ∅)⟩
  .have:=mem6 hc;rw[Zah (Ja6 (Jao this.2 lz))];exact (hf c hc).1
 done:=by
  intro X hP hw hK hc i pins s σ H E I hf st hg;subst hP hw hK;refine Zac hg λxs hqa hx=>?_;clear hg;refine Zal (I.list hqa) λits rv p hz1=>?_;have l1:=rv.length;exact z3_stop (I.ok.hd hc) m1 st p.isList (by simp;omega) λh' kk=>⟨rfl,I.turnedL (t':=s.toks) hf λc o hc e=>kk c o (out6 hc) e⟩
 self:=λ_ _ _ _ _ st h=>Jeb st.z h
section
variable {X:Cx}
def iZ3 (K:Frag)(ta:TA):TI:=λσ H R=>ta σ H λvs H1=>∃ a b c,vs=[.ref a,.ref b,.ref c]/\(∃ xs,SqL K H1 a xs)/\(∃ ys,SqL K H1 b ys)/\(∃ ws,SqL K H1 c ws)/\R (Ity K a b c) H1
theorem pi_z3 {elts:List Expr}{x1:Nat}{pt p pos:Pos}{a b c:Expr}{ta:TA}(hg:Gl X "zip")(hm:X.mg "zip" = none)(ha:PA X [a,b,c] ta)(h:Zbl a=false:=by rfl)(h2:Zbl b=false:=by rfl)(h3:Zbl c=false:=by rfl):
  PI X (.Tuple elts x1 pt) (.Call (.Name "zip" p) [a,b,c] [] pos) (iZ3 X.K ta):=by
 intro pins s σ H R I hh;refine Call_ (Zfk I hg hm boot_zip (Jbx (thn (ha pos pins s σ H _ I hh) λus s1 ⟨vs,H1,I1,r1,q1⟩=>?_) (by rw[Zay h,Zay h2,Zay h3]) (by rw[Zay h2,Zay h3];rfl)));refine Zda q1 λa' b' c' e e93 e94 e95=>?_;clear q1;obtain⟨xs,hq1⟩:=e93;obtain⟨ys,hq2⟩:=e94;obtain⟨⟨ws,hq3⟩,q⟩:=e95;subst e;cases r1 with
 | cons r rr=>
  cases rr with
  | cons r' rr=>
   cases rr with
   | cons r'' rr=>
    cases rr;cases r;cases r';cases r'';refine Zal (I1.list hq1) λits rv p1 hz1=>?_;refine Zal (I1.list hq2) λits2 rv2 p2 hz2=>?_;refine Zal (I1.list hq3) λits3 rv3 p3 hz3=>?_;have lt1:a'<s1.heap.objs.size:=by obtain⟨o,ho,_⟩:=p1.isList;exact Jak ho
    have lt2:b'<s1.heap.objs.size:=by obtain⟨o,ho,_⟩:=p2.isList;exact Jak ho
    have lt3:c'<s1.heap.objs.size:=by obtain⟨o,ho,_⟩:=p3.isList;exact Jak ho
    refine call_z3 p1.isList p2.isList p3.isList λh' a1 a2 a3=>Jeb (s:={ s1 with heap:=h' }) a1.z ?_;refine Zix _ _ _ _ H1 ⟨rfl,I1.kept (t':=s1.toks) a3,Zog lt1 lt2 lt3,a1,λb hb=>?_,q⟩;have hb':s1.heap.objs.size<=b:=(mem6 hb).1;exact I1.fpOk (H':=H1) hb' (I1.hok.fresh hb')
end
section
variable {K:Frag}{a b c D:Addr}{xs ys ws:List V}{g:TG}{tt:TT}{te:TE}{k:Nat}{fr:List (Str×Nat)}{σ:St}{H1:Hp}{Q:VK}
theorem Znb (Pv:Nat->List V->Hp->Prop)(l2:ys.length=xs.length)(l3:ws.length=xs.length)(h0:Pv 0 [] (upd H1 D (.lst [])))(hl:∀ i vs H,i<=xs.length->Pv i vs H->SqL K H a xs/\SqL K H b ys/\SqL K H c ws)(hs:∀ i x y u p vs σ' H,i<xs.length->xs[i]?=some x->ys[i]?=some y->ws[i]?=some u->H p=none->Sh k (Zbi fr σ) σ'->Pv i vs H->Zer g tt te D xs.length k (Zbi fr σ) Pv i (.ref p) σ' (upd H p (.tup [x,y,u])))(hd:∀ vs H,Pv xs.length vs H->Q (.ref D) H):
  Zbv g tt te (Ity K a b c) D (Zgq k fr σ) H1 Q:=by
 refine⟨Wv xs.length k (Zbi fr σ) Pv,⟨xs.length,by simp,Jcl _,sh0,[],h0⟩,?_⟩;intro i m σ' H2 e91;refine Zch e91 λe96 hi sh e97=>?_;clear e91;obtain rfl:=e96;obtain⟨vs,p⟩:=e97;refine Za2 (hl i vs H2 hi p) λq1 q2 q3=>?_;by_cases hlt:i<xs.length
 .refine .inr ⟨⟨xs,ys,ws,xs[i],ys[i]'(by omega),ws[i]'(by omega),q1,q2,q3,by simp[hlt],by simp[l2,hlt],by simp[l3,hlt]⟩,λx H3 y=>?_⟩;refine Zcd y λu v r pp e98 hp e99 e910=>?_;clear y;obtain rfl:=e98;obtain rfl:=e99;refine Za2 e910 λe1 e2 e3=>?_;clear e910;exact hs i u v r pp vs σ' _ hlt (e1 _ q1) (e2 _ q2) (e3 _ q3) hp sh p
 .have e:i=xs.length:=∅
  subst e;exact .inl ⟨⟨xs,q1,Jah _⟩,hd vs H2 p⟩
end
section
variable {X:Cx}
def rInE (K:Frag):R2:=λx y H Q=>∃ (p:Addr) (as:List Addr) (g:Addr->Bool),y=.ref p/\SqL K H p (as.map V.ref)/\(∀ a,a∈as->EqD K H 6 (.ref a) x (g a))/\Q (.bl (as.any g)) H
def refU (g:Addr->Bool):Value->Bool
 | .ref a=>g a
 | _=>false
theorem Zni {g:Addr->Bool}:∀ {as:List Addr} {us:List Value},Vals (as.map V.ref) us->us.any (refU g)=as.any g
 | [],_,.nil=>rfl
 | a::as,_,.cons r t=>by
  cases r;rw[List.any_cons,List.any_cons,Zni t];rfl
theorem Zm1 {pins:List (Addr×Obj)}{σ:St}{H:Hp}{s:Shared}{x:V}{v:Value}{g:Addr->Bool}(I:Inv X pins σ H s){A:Around}(hu:A.units+6<cLine)(rx:RelV x v):∀ {as:List Addr} {us:List Value},Vals (as.map V.ref) us->(∀ a,a∈as->EqD X.K H 6 (.ref a) x (g a))->∀ u,u∈us->SeqAt.EqAt A s u v (refU g u)
 | [],_,.nil,_=>λu hu=>by cases hu
 | a::as,_,.cons r t,f=>λu' hm=>by
  rcases Ja9.mp hm with rfl|hm
  .have:=(f a (Jb5 ..)).at I hu r rx;cases r;exact this
  .exact Zm1 I hu rx t (λz hz=>f z (Jbn _ hz)) u' hm
theorem op_inE (hu:X.A.units+8<cLine):OpR X (compareOp .In) (rInE X.K):=by
 intro pins s σ H x y v u Q I rx ry h;refine Zda h λp as g e91 hq hx q=>?_;clear h;obtain rfl:=e91;cases ry;refine Zal (I.list hq) λits r pl hz=>?_;refine SeqAt.in_listAt (refU g) pl.isList (λw hw=>Zm1 I (A:=X.A.in1) (show X.A.units+1+6<cLine by omega) rx r hx w (by simpa using hw)) ⟨.bl _,H,I,rfl,?_⟩;rw[show its.toArray.any (refU g)=its.any (refU g) by simp,Zni r];exact q
end
end L2
set_option maxHeartbeats 4000000
open PySem L2 PyProof.Rows
local macro_rules|`($i>>>$n)=>`(@Zad _ _ $i _ $n rfl (Or.inl rfl) (Or.inl rfl))
local macro_rules|`($i<<<$l)=>`(@Zad _ _ $i _ (show (($l) : List Str).Nodup by decide +kernel) rfl (Or.inl rfl) (Or.inr rfl))
local macro_rules|`($i|||$n|||$x)=>`(Zar (i:=$i) $n rfl (Or.inl rfl) $x)
local macro_rules|`($a^^^$b)=>`(@Zag _ _ _ _ _ $a $b (by rfl))
local macro_rules|`($c<$>$h<$>$x)=>`(Za9 $c ($h).m rfl $x)
local macro_rules | `($a<&>$b)=>`(@pa_c _ _ _ _ _ $a $b ⇑1)
local macro_rules | `($a<*>$b)=>`(@Zsh _ _ _ _ _ $a $b)
local macro_rules | `($o<|>$a<&&>$b)=>`(@pe_op _ _ _ _ _ _ _ _ $o $a $b)
local macro_rules | `($o<|>$a<||>$b)=>`(@pe_ix _ _ _ _ _ _ _ $o $a $b (λ_ _=>rfl))
local macro_rules | `(~~~$x)=>`(@Zau _ _ _ (@ps_ret _ _ _ _ $x))
local macro_rules | `(tactic| walk_at "wp")=>do
 let f (s:String):=(s.splitOn " ").toArray.map λx=>Lean.mkIdent x.toName
 let a:=f "tv0 tv1 tv2 tv3 tv4 tv5 tv6 tv7 tv8 tv9 tv10 tv11 tv12 tv13 pI0 pI pU pIxL pIxT pEb pEi pEr pEqT pEqL pSlL pCat pApp pTup pL1 pL0 pLi pE5 tSeq tIfS Zr4 tOp tUn tVr Zmv Zpy Zpx Zut Zpz rJ0 rJ rEqJ rNeJ tTst rIxJ rIxTJ rAppJ tFldJ tC tCB Zi1 tNil tRet tRetN tNext tDrop tAsg tAug ipI Zbh gTup Zkk gNil gSub tTup tLst tSl Zok tPart Zl8 Zon tBM tBM0 tPar tB tAnd tOr tNot tAndV tOrV tNotV tIf Zfv Zom Zol tFld sFld tAugS rGetL rI0 rI rU rIxL rIxT rSetL rSlL Zhq rInE iZ3 Zpd iEnm iRvl tLE gSl0 tMinL rBits tTry hEnds Zuh hnd_K pnx_K rCat rEq rNe rEqL rEqT rIn Zo2 Zo3 Zo1 Zqp iTup Ztj Zti cV cx_K in_K Zuf E0 L2.start"
 let b:=f "Zfy List.map List.length List.replicate List.cons_append List.nil_append List.getElem?_cons_zero List.getElem?_cons_succ List.set_cons_zero List.set_cons_succ"
 let c:=f "Jc7 Option.some.injEq exists_eq_left' exists_eq_left exists_and_left V.int.injEq V.bl.injEq V.ref.injEq V.ty.injEq List.cons.injEq reduceCtorEq false_and and_false exists_false or_false false_or and_true true_and Nat.reduceSub Nat.reduceAdd Nat.reduceLT Jcm if_false Bool.false_eq_true"
 `(tactic| ((try dsimp only [$[↓$a:term],*,$[$b:term],*]);(try simp only[$[↓$a:term],*,$[$b:term],*,$[$c:term],*])))
namespace Pf
open PySem L2 PyProof.Rows
def top (i:Nat):Stmt:=PySem.Challenge.pw_limbtables_k69_whole_every_paper_tried.main.body.getD i (.Pass ⟨0,0,0,0⟩)
abbrev Zek:Stmt:=top 11
abbrev Zcm:Stmt:=top 20
abbrev Zf4:Stmt:=top 21
abbrev Zc6:Stmt:=Zh1 (top 22) 0
abbrev Zcg:Stmt:=top 12
abbrev Zcl:Stmt:=top 13
abbrev Ze5:Stmt:=top 14
abbrev Zcn:Stmt:=top 15
abbrev Zb5:Stmt:=top 16
abbrev Zf2:Stmt:=top 27
abbrev Zi7:Stmt:=top 28
abbrev Zli:Stmt:=top 29
abbrev Zhh:Stmt:=top 30
abbrev Zhg:Stmt:=top 31
abbrev Ze3:Stmt:=top 32
abbrev Ze6:Stmt:=top 33
abbrev Zc4:Stmt:=top 34
abbrev Zi5:Stmt:=top 36
abbrev Zhm:Stmt:=top 37
abbrev Zbe:Stmt:=top 38
abbrev Zlh:Stmt:=top 39
abbrev Zo5:Stmt:=top 40
abbrev Zfa:Stmt:=top 42
abbrev Zdr:Stmt:=top 43
abbrev Zef:Stmt:=top 44
abbrev Zcp:Stmt:=Zh1 (top 45) 0
abbrev Ze4:Stmt:=top 46
abbrev Zdt:Stmt:=top 47
abbrev Ze9:Stmt:=top 54
abbrev Zfb:Stmt:=top 55
abbrev Zi8:Stmt:=top 56
abbrev Zce:Stmt:=top 58
abbrev Zhi:Stmt:=top 61
abbrev Zf3:Stmt:=top 64
abbrev Zc5:Stmt:=top 65
abbrev Zf5:Stmt:=top 66
abbrev Zhl:Stmt:=top 67
abbrev Zhf:Stmt:=top 68
abbrev Zds:Stmt:=top 69
abbrev Zdu:Stmt:=Zh1 (top 70) 0
abbrev Zaq:Stmt:=Zh1 (top 70) 1
abbrev Zbz:Stmt:=Zh1 (top 70) 6
abbrev Zf1:Stmt:=top 72
abbrev Zhk:Stmt:=top 73
abbrev Zf0:Stmt:=top 74
abbrev Zee:Stmt:=top 75
abbrev Zdq:Stmt:=top 76
abbrev Ze7:Stmt:=top 77
abbrev Ze8:Stmt:=top 78
abbrev Zhj:Stmt:=top 79
abbrev Zco:Stmt:=top 80
abbrev Zcf:Stmt:=top 81
abbrev Zi6:Stmt:=top 82
theorem Zdp:FnScope ["thing"] ["thing"] (Zae Zek):=⟨rfl,rfl,rfl,⋯,rfl,⋯,⋯⟩
theorem Zdz:FnScope ["many","arrows"] ["many","arrows"] (Zae Zcm):=⟨rfl,rfl,rfl,⋯,rfl,⋯,⋯⟩
theorem Zhd:FnScope ["many","thing"] ["many","thing"] (Zae Zf4):=⟨rfl,rfl,rfl,⋯,rfl,⋯,⋯⟩
theorem Zed:FnScope ["self","many","arrows"] ["self","many","arrows"] (Zae Zc6):=⟨rfl,rfl,rfl,⋯,rfl,⋯,⋯⟩
theorem Zdf:FnScope ["one","other"] ["one","other"] (Zae Zcg):=⟨rfl,rfl,rfl,⋯,rfl,⋯,⋯⟩
theorem Zdy:FnScope ["one","other"] ["one","other"] (Zae Zcl):=⟨rfl,rfl,rfl,⋯,rfl,⋯,⋯⟩
theorem Zgd:FnScope ["one","other","shift","a","b","c","d"] ["one","other"] (Zae Ze5):=⟨rfl,rfl,rfl,⋯,rfl,⋯,⋯⟩
theorem Zd0:FnScope ["one","other","a","b","c","d","many"] ["one","other"] (Zae Zcn):=⟨rfl,rfl,rfl,⋯,rfl,⋯,⋯⟩
theorem Zc0:FnScope ["one","other"] ["one","other"] (Zae Zb5):=⟨rfl,rfl,rfl,⋯,rfl,⋯,⋯⟩
theorem Zhb:FnScope ["ground","thing","high","wide","rows"] ["ground","thing"] (Zae Zf2):=⟨rfl,rfl,rfl,⋯,rfl,⋯,⋯⟩
theorem Zj1:FnScope ["ground","wide","thing"] ["ground","wide","thing"] (Zae Zi7):=⟨rfl,rfl,rfl,⋯,rfl,⋯,⋯⟩
theorem Zmj:FnScope ["ground","many","high","wide","rows","place"] ["ground","many"] (Zae Zli):=⟨rfl,rfl,rfl,⋯,rfl,⋯,⋯⟩
theorem Zij:FnScope ["ground","high","wide"] ["ground","high","wide"] (Zae Zhh):=⟨rfl,rfl,rfl,⋯,rfl,⋯,⋯⟩
theorem Zii:FnScope ["ground","one","other","rows","columns"] ["ground","one","other"] (Zae Zhg):=⟨rfl,rfl,rfl,⋯,rfl,⋯,⋯⟩
theorem Zgb:FnScope ["ground","row","bottom","number"] ["ground","row"] (Zae Ze3):=⟨rfl,rfl,rfl,⋯,rfl,⋯,⋯⟩
theorem Zge:FnScope ["ground","row","column","tops","bottom","other_tops","other_bottom"] ["ground","row","column"] (Zae Ze6):=⟨rfl,rfl,rfl,⋯,rfl,⋯,⋯⟩
theorem Zeb:FnScope ["table","high","wide","rows"] ["table"] (Zae Zc4):=⟨rfl,rfl,rfl,⋯,rfl,⋯,⋯⟩
theorem Zj0:FnScope ["ground","row","divisor","number"] ["ground","row"] (Zae Zi5):=⟨rfl,rfl,rfl,⋯,rfl,⋯,⋯⟩
theorem Zio:FnScope ["ground","row","lead","place","divisor","keep","take"] ["ground","row","lead","place"] (Zae Zhm):=⟨rfl,rfl,rfl,⋯,rfl,⋯,⋯⟩
theorem Zev:FnScope ["rows","place","found"] ["rows","place"] (Zae Zbe):=⟨rfl,rfl,rfl,⋯,rfl,⋯,⋯⟩
theorem Zmi:FnScope ["ground","rows","wide","done","left","places","place","at","lead"] ["ground","rows","wide"] (Zae Zlh):=⟨rfl,rfl,rfl,⋯,rfl,⋯,⋯⟩
theorem Zo4:FnScope ["ground","table"] ["ground","table"] (Zae Zo5):=⟨rfl,rfl,rfl,⋯,rfl,⋯,⋯⟩
theorem Zgi:FnScope ["drawing","thing"] ["drawing","thing"] (Zae Zfa):=⟨rfl,rfl,rfl,⋯,rfl,⋯,⋯⟩
theorem Zex:FnScope ["ground","high","wide","thing"] ["ground","high","wide","thing"] (Zae Zdr):=⟨rfl,rfl,rfl,⋯,rfl,⋯,⋯⟩
theorem Zfi:FnScope ["ground","drawing","sizes","thing"] ["ground","drawing","sizes","thing"] (Zae Zef):=⟨rfl,rfl,rfl,⋯,rfl,⋯,⋯⟩
theorem Zd2:FnScope ["self","ground","drawing","sizes","tables"] ["self","ground","drawing","sizes","tables"] (Zae Zcp):=⟨rfl,rfl,rfl,⋯,rfl,⋯,⋯⟩
theorem Zgc:FnScope ["standing","ground","drawing"] ["standing","ground","drawing"] (Zae Ze4):=⟨rfl,rfl,rfl,⋯,rfl,⋯,⋯⟩
theorem Zez:FnScope ["standing","thing"] ["standing","thing"] (Zae Zdt):=⟨rfl,rfl,rfl,⋯,rfl,⋯,⋯⟩
theorem Zgh:FnScope ["standing","thing"] ["standing","thing"] (Zae Ze9):=⟨rfl,rfl,rfl,⋯,rfl,⋯,⋯⟩
theorem Zgj:FnScope ["standing","changes","backs","ground"] ["standing","changes","backs"] (Zae Zfb):=⟨rfl,rfl,rfl,⋯,rfl,⋯,⋯⟩
theorem Zj2:FnScope ["standing","other","changes","backs","ground"] ["standing","other","changes","backs"] (Zae Zi8):=⟨rfl,rfl,rfl,⋯,rfl,⋯,⋯⟩
theorem Zdd:FnScope ["standing","other","changes","backs"] ["standing","other","changes","backs"] (Zae Zce):=⟨rfl,rfl,rfl,⋯,rfl,⋯,⋯⟩
theorem Zik:FnScope ["standing","paper"] ["standing","paper"] (Zae Zhi):=⟨rfl,rfl,rfl,⋯,rfl,⋯,⋯⟩
theorem Zhc:FnScope ["number"] ["number"] (Zae Zf3):=⟨rfl,rfl,rfl,⋯,rfl,⋯,⋯⟩
theorem Zec:FnScope ["thing"] ["thing"] (Zae Zc5):=⟨rfl,rfl,rfl,⋯,rfl,⋯,⋯⟩
theorem Zhe:FnScope ["top","bottom","divisor"] ["top","bottom"] (Zae Zf5):=⟨rfl,rfl,rfl,⋯,rfl,⋯,⋯⟩
theorem Zin:FnScope ["rest","prime","low","high","low_times","high_times","many"] ["rest","prime"] (Zae Zhl):=⟨rfl,rfl,rfl,⋯,rfl,⋯,⋯⟩
theorem Zih:FnScope ["top","bottom","prime","below"] ["top","bottom","prime"] (Zae Zhf):=⟨rfl,rfl,rfl,⋯,rfl,⋯,⋯⟩
theorem Zey:FnScope ["thing","top","bottom"] ["thing"] (Zae Zds):=⟨rfl,rfl,rfl,⋯,rfl,⋯,⋯⟩
theorem Ze0:FnScope ["self","prime"] ["self","prime"] (Zae Zdu):=⟨rfl,rfl,rfl,⋯,rfl,⋯,⋯⟩
theorem Zd3:FnScope ["self","top","bottom"] ["self","top","bottom"] (Zae Zaq):=⟨rfl,rfl,rfl,⋯,rfl,⋯,⋯⟩
theorem Zck:FnScope ["self","thing"] ["self","thing"] (Zae Zbz):=⟨rfl,rfl,rfl,⋯,rfl,⋯,⋯⟩
theorem Zha:FnScope ["_law_script","_law_k"] ["_law_script","_law_k"] (Zae Zf1):=⟨rfl,rfl,rfl,⋯,rfl,⋯,⋯⟩
theorem Zim:FnScope ["_law_cell_here"] ["_law_cell_here"] (Zae Zhk):=⟨rfl,rfl,rfl,⋯,rfl,⋯,⋯⟩
theorem Zg9:FnScope ["_law_bag_here","_law_many","_law_found"] ["_law_bag_here","_law_many"] (Zae Zf0):=⟨rfl,rfl,rfl,⋯,rfl,⋯,⋯⟩
theorem Zfh:FnScope ["_law_high","_law_wide","_law_rows","_law_k"] ["_law_high","_law_wide"] (Zae Zee):=⟨rfl,rfl,rfl,⋯,rfl,⋯,⋯⟩
theorem Zew:FnScope ["_law_one","_law_other","_law_rows","_law_row","_law_made","_law_j"] ["_law_one","_law_other"] (Zae Zdq):=⟨rfl,rfl,rfl,⋯,rfl,⋯,⋯⟩
theorem Zgf:FnScope ["_law_many"] ["_law_many"] (Zae Ze7):=⟨rfl,rfl,rfl,⋯,rfl,⋯,⋯⟩
theorem Zgg:FnScope ["_law_size","_law_found","_law_some","_law_one","_law_backs"] ["_law_size"] (Zae Ze8):=⟨rfl,rfl,rfl,⋯,rfl,⋯,⋯⟩
theorem Zil:FnScope ["_law_one","_law_other","_law_changes","_law_backs"] ["_law_one","_law_other","_law_changes","_law_backs"] (Zae Zhj):=⟨rfl,rfl,rfl,⋯,rfl,⋯,⋯⟩
theorem Zd1:FnScope ["_law_a","_law_b","_law_table","_law_more","_law_ground","_law_drawing","_law_one","_law_other","_law_many","_law_home","_law_near","_law_near_back","_law_far","_law_far_back","_law_led","_law_found"] ["_law_a","_law_b","_law_table","_law_more"] (Zae Zco):=⟨rfl,rfl,rfl,⋯,rfl,⋯,⋯⟩
theorem Zde:FnScope ["_law_size","_law_table","_law_more","_law_ground","_law_drawing","_law_one","_law_other","_law_pairs_here","_law_change","_law_back","_law_due","_law_found"] ["_law_size","_law_table","_law_more"] (Zae Zcf):=⟨rfl,rfl,rfl,⋯,rfl,⋯,⋯⟩
theorem Zuk:FnScope ["_law_script","_law_cell_here","_law_bag_here","_law_a","_law_b","_law_some","_law_table"] ["_law_script"] (Zae Zi6):=⟨rfl,rfl,rfl,⋯,rfl,⋯,⋯⟩
structure Txt (K:Frag)(mg:Str->Option Value)(C G S:Addr):Prop where
 cl_Drawing:Cls K C
 nM:NoAttr K C "many"
 nA:NoAttr K C "arrows"
 cl_Ground:Cls K G
 nP:NoAttr K G "prime"
 cl_Standing:Cls K S
 nSg:NoAttr K S "ground"
 nSd:NoAttr K S "drawing"
 nSs:NoAttr K S "sizes"
 nSt:NoAttr K S "tables"
 n_len:mg "len" = none
 n_range:mg "range" = none
 n_list:mg "list" = none
 n_min:mg "min" = none
 n_int:mg "int" = none
 n_bool:mg "bool" = none
 n_tuple:mg "tuple" = none
 n_all:mg "all" = none
 n_isinstance:mg "isinstance" = none
 n_abs:mg "abs" = none
 n_zip:mg "zip" = none
 n_enumerate:mg "enumerate" = none
 n_reversed:mg "reversed" = none
 n_sum:mg "sum" = none
 n_any:mg "any" = none
 g_MOST_POINTS:∃ t,mg "MOST_POINTS" = some (.int 8 t)
 g_MOST_ARROWS:∃ t,mg "MOST_ARROWS" = some (.int 9 t)
 g_LARGEST_PRIME:∃ t,mg "LARGEST_PRIME" = some (.int 97 t)
 g_LONG:∃ t,mg "LONG" = some (.int 4000 t)
 g_LEADING:∃ t,mg "LEADING" = some (.int 126 t)
 g_Standing:mg "Standing" = some (.ref S)
 ic1:PySem.W.findIn K (.ref S) "__class__" = some (some (.builtin "object.__class__"))
 ic2:PySem.W.specialIn K (.builtin "object.__class__") "__get__" = some (some (.builtin "getset_descriptor.__get__"))
 ic3:PySem.W.takesIn K (.builtin "object.__class__")=some true
 ic4:PySem.W.mroIn K S (.type "object")=some true
def Zu5 (a b:Int):HO:=.lst [.int a,.int b]
def Bag (H:Hp)(l:Addr):Prop:=∃ a b:Int,H l=some (Zu5 a b)/\0<=b/\b<2147483647
def Zox (K:Frag):Sp:=λvs H Q _=>∃ (a:Addr) (ns:List Int) (k:Int),vs=[.ref a,.int k]/\SqL K H a (ns.map V.int)/\ns.length<=63/\0<=k/\∀ c,Q (.int c) H
def spBag:Sp:=λvs H Q _=>∃ c:Int,vs=[.int c]/\∀ (l:Addr) (a b:Int),H l=none->0<=b->b<2147483647->Q (.ref l) (upd H l (Zu5 a b))
def Zjw:Sp:=λvs H Q _=>∃ (l:Addr) (a b n:Int),vs=[.ref l,.int n]/\H l=some (Zu5 a b)/\0<=b/\b<2147483647/\0<n/\n<1000000000 /\
 ∀ (r a' b':Int),0<=r->r<n->0<=b'->b'<2147483647->Q (.int r) (upd H l (Zu5 a' b'))
section
variable {C G S:Addr}
theorem ok_cell (F:Fun K "_law_cell" "_law_cell" Zf1 f fd)(T:Txt K mg C G S):FnOk P w K mg base CX0 1 f fd ["_law_script","_law_k"] (Zox K):=by
 have nd:=Zha.nd;refine F.ok Zha (λvs H Q E h=>?_) (λcdv A outer s H vs Q E hr h=>?_)
 .refine Zeq h λa ns k e91 _=>?_;clear h;obtain rfl:=e91;rfl
 .refine Zda h λa ns k e92 hS hl e93=>?_;clear h;obtain rfl:=e92;obtain⟨h0,q⟩:=e93;refine⟨_,((@Za5 _ _ _ _ _ _ _ _ (Zao Zj7 (pvr 1) (Za1 Zam rfl T.n_len Jbb ((pvr 0)<&>Zaa)) (Zaj _)) (~~~((ixJ Zbg)<|>(pvr 0)<||>(pvr 1))) Zak)<*>(~~~Zaf)),?_⟩;walk_at "wp";refine⟨_,.inl hS,Zdm (λhc=>?_) (λ_=>q 0)⟩;have hc:=Jbm hc;rw[Jab] at hc;refine⟨_,hS,V.int (ns[k.toNat]'(oz63 h0 hc)),Zd5 h0 ?_,q _⟩;rw[Jac,Jaa (oz63 h0 hc)];rfl
theorem cpow (k:Int)(h0:0<=k)(h1:k<=1000):CPow 10 k:=⟨h0,∅,⇑0⟩
theorem Zkc (c n:Int)(h:0<n):0<=c % n:=Jbs _ ∅
theorem Zkd (c n:Int)(h:0<n):c % n<n:=Jba _ h
end
end Pf
namespace Pf
open PySem L2 PyProof.Rows
section
variable {C G S:Addr}
theorem Bag.ne {H:Hp}{l p:Addr}(h:Bag H l)(hp:H p=none):p≠l:=by
 refine Zbd h λa b e _=>?_;clear h;exact (Zai e hp).symm
theorem Bag.set {H:Hp}{l:Addr}{a b:Int}(h1:0<=b)(h2:b<2147483647):Bag (upd H l (Zu5 a b)) l:=⟨a,b,Zab,h1,h2⟩
def Edge (H:Hp)(m:Int)(x:V):Prop:=∃ (t:Addr) (i j:Int),x=.ref t/\H t=some (.tup [.int i,.int j])/\0<=i/\i<m/\0<=j/\j<m
def Edges (H:Hp)(m:Int)(xs:List V):Prop:=∀ x∈xs,Edge H m x
theorem Edge.same {H H':Hp}{m:Int}{x:V}(e:Edge H m x)(s:Same H H'):Edge H' m x:=by
 refine Ziy e λt i j h1 h2 h3=>?_;clear e;exact Zb4 t i j ⟨h1,s _ _ h2,h3⟩
theorem Edges.same {H H':Hp}{m:Int}{xs:List V}(e:Edges H m xs)(s:Same H H'):Edges H' m xs:=λx hx=>(e x hx).same s
theorem Edge.ext {H H':Hp}{m:Int}{l:Addr}{x:V}{ys:List V}(e:Edge H m x)(s:Ext l H H')(hl:H l=some (.lst ys)):Edge H' m x:=by
 refine Ziy e λt i j h1 h2 h3=>?_;clear e;exact Zb4 t i j ⟨h1,s _ _ (Zet h2 hl (by intro z;cases z)) h2,h3⟩
theorem Edges.ext {H H':Hp}{m:Int}{l:Addr}{xs ys:List V}(e:Edges H m xs)(s:Ext l H H')(hl:H l=some (.lst ys)):Edges H' m xs:=λx hx=>(e x hx).ext s hl
structure Out (l:Addr)(H:Hp)(p e:Addr)(m:Int)(xs:List V)(H':Hp):Prop where
 ext:Ext l H H'
 bag:Bag H' l
 tup:H' p=some (.tup [.int m,.ref e])
 lst:H' e=some (.lst xs)
 new:H e=none
 lo:1<=m
 hi:m<=8
 len:xs.length<=9
 ed:Edges H' m xs
theorem Bag.draw {H:Hp}{l:Addr}{n:Int}{Q:VK}{E:XK}(b:Bag H l)(h0:0<n)(h1:n<1000000000)(q:∀ (r:Int) (H':Hp),0<=r->r<n->Ext l H H'->Bag H' l->Q (.int r) H'):Zjw [.ref l,.int n] H Q E:=by
 refine Zca b λx y e y0 y1=>?_;clear b;exact Zfw l x y n ⟨rfl,e,y0,y1,h0,h1,λr a' b' r0 r1 c0 c1=>q r _ r0 r1 Ext.set (Bag.set c0 c1)⟩
theorem Bag.lst {H:Hp}{l:Addr}(b:Bag H l):∃ ys,H l=some (.lst ys):=by
 refine Zbd b λx y e _=>?_;clear b;exact⟨_,e⟩
theorem Bag.same {H H':Hp}{l:Addr}(b:Bag H l)(s:Same H H'):Bag H' l:=by
 refine Zca b λx y e h1 h2=>?_;clear b;exact Zat x y ⟨s _ _ e,h1,h2⟩
end
end Pf
set_option maxHeartbeats 1000000
namespace Pf
open PySem L2 PyProof.Rows
section
variable {C G S:Addr}
theorem Zrl {c A B:Prop}[Decidable c](hc:c)(h:A):if c then A else B:=by rw[if_pos hc];exact h
theorem Zfd {c A B:Prop}[Decidable c](hc:¬ c)(h:B):if c then A else B:=by rw[if_neg hc];exact h
theorem Zfq {a D:Addr}{xs:List V}{fr:List (Str×Nat)}{σ:L2.St}{te:TE}{H1:Hp}{Q:VK}(fb:Nat->Bool)(ha:H1 a=some (.lst xs))(hD:H1 D=none)(hn:xs.length<=1000)(h:∀ (i:Nat) x H (Q:VK),xs[i]?=some x->Same H1 H->(∀ H',Same H H'->Q (.bl (fb i)) H')->te (some x::Zbi fr σ) H Q)(hQ:∀ H',Same H1 H'->H' D=some (.lst (((List.range xs.length).map fb).map V.bl))->Q (.ref D) H'):Zbv (Zbh 0) Zfv te (Itl K a) D (Zgq 1 fr σ) H1 Q:=by
 refine Zfp (xs:=xs) (λi vs H=>Same H1 H/\H D=some (.lst vs)/\vs=((List.range i).map fb).map V.bl) ⟨Same.new hD,Zab,rfl⟩ (λi vs H _ p=>SqL.of (p.1 _ _ ha)) ?_ (λvs H ⟨s,e,hv⟩=>hQ H s (by rw[e,hv]));intro i x vs σ' H hi hx sh e91;refine Za2 e91 λs e e93=>?_;clear e91;obtain rfl:=e93;obtain⟨z,rfl⟩:=sh.one;simp only[Zer,Zbh,Zfv,List.set_cons_zero,Jcm];refine h i x H _ hx s λH' s'=>?_;exact Zlu (ws:=((List.range (i+1)).map fb).map V.bl) hi Sh.mk1 (s' _ _ e) (Zap (by rw[Jab,Jab,Jav];exact oz150 hn hi)) ⟨(s.trans s').upd hD,by rw[Zab,Jcs,Jaz,Jaz];rfl,rfl⟩
theorem Zq4 {a D:Addr}{xs:List V}{fr:List (Str×Nat)}{σ:L2.St}{te:TE}{H1:Hp}{Q:VK}(fb:Nat->Bool)(ha:H1 a=some (.tup xs))(hD:H1 D=none)(hn:xs.length<=1000)(h:∀ (i:Nat) x H (Q:VK),xs[i]?=some x->Same H1 H->(∀ H',Same H H'->Q (.bl (fb i)) H')->te (some x::Zbi fr σ) H Q)(hQ:∀ H',Same H1 H'->H' D=some (.lst (((List.range xs.length).map fb).map V.bl))->Q (.ref D) H'):Zbv (Zbh 0) Zfv te (Itt K a) D (Zgq 1 fr σ) H1 Q:=by
 refine Zt0 (xs:=xs) (λi vs H=>Same H1 H/\H D=some (.lst vs)/\vs=((List.range i).map fb).map V.bl) ⟨Same.new hD,Zab,rfl⟩ (λi vs H _ p=>SqT.of (p.1 _ _ ha)) ?_ (λvs H ⟨s,e,hv⟩=>hQ H s (by rw[e,hv]));intro i x vs σ' H hi hx sh e92;refine Za2 e92 λs e e94=>?_;clear e92;obtain rfl:=e94;obtain⟨z,rfl⟩:=sh.one;simp only[Zer,Zbh,Zfv,List.set_cons_zero,Jcm];refine h i x H _ hx s λH' s'=>?_;exact Zlu (ws:=((List.range (i+1)).map fb).map V.bl) hi Sh.mk1 (s' _ _ e) (Zap (by rw[Jab,Jab,Jav];exact oz150 hn hi)) ⟨(s.trans s').upd hD,by rw[Zab,Jcs,Jaz,Jaz];rfl,rfl⟩
theorem Zep (n:Nat):((List.range n).map λ_=>true).all id=true:=by
 rw[Jay];intro b hb;refine Zac (Jau.mp hb) λ_ _ e95=>?_;obtain rfl:=e95;rfl
def Zfz:Sp:=λvs H Q _=>∃ i:Int,vs=[.int i]/\Q (.bl true) H
theorem Zsr (F:Fun K "is_whole" "is_whole" Zek f fd)(T:Txt K mg C G S):FnOk P w K mg base CX0 1 f fd ["thing"] Zfz:=by
 have nd:=Zdp.nd;refine F.ok Zdp (λvs H Q E h=>?_) (λcdv A outer s H vs Q E hr h=>?_)
 .refine Zac h λi e96 _=>?_;clear h;obtain rfl:=e96;rfl
 .refine Zac h λi e97 q=>?_;clear h;obtain rfl:=e97;refine⟨_,(~~~(Zei (Za1 Zaw rfl T.n_isinstance Jbe ((pvr 0)<&>((Zes rfl T.n_int boot_int)<&>Zaa))) (Zeh (Zum (Za1 Zaw rfl T.n_isinstance Jbe ((pvr 0)<&>((Zes rfl T.n_bool boot_bool)<&>Zaa))))))),?_⟩;walk_at "wp";exact Zat _ _ ⟨⟨rfl,rfl⟩,_,rfl,_,.int i,_,Zkg K,iteT ⟨_,_,⟨rfl,rfl⟩,_,rfl,_,.int i,_,Zis K,q⟩⟩
def Zlf:Sp:=λvs H Q _=>∃ (m:Int) (x:V),vs=[.int m,x]/\Edge H m x/\∀ H',Same H H'->Q (.bl true) H'
theorem Zs4 (F:Fun K "is_arrow" "is_arrow" Zf4 f fd)(T:Txt K mg C G S)(Yaa:Cal P w K mg base "is_whole" 1 Zfz):FnOk P w K mg base CX0 2 f fd ["many","thing"] Zlf:=by
 have nd:=Zhd.nd;refine F.ok Zhd (λvs H Q E h=>?_) (λcdv A outer s H vs Q E hr h=>?_)
 .refine Zbd h λm x e98 _=>?_;clear h;obtain rfl:=e98;rfl
 .refine Zca h λm x e99 e910 q=>?_;clear h;obtain rfl:=e99;obtain⟨t,i,j,rfl,ht,i0,i1,j0,j1⟩:=e910;refine⟨_,((@Za5 _ _ _ _ _ _ _ _ (PW.pt (Zcq (Za6 (Zbb (Za1 Zaw rfl T.n_isinstance Jbe ((pvr 1)<&>((Zes rfl T.n_tuple boot_tuple)<&>Zaa))))) (Zby (Zao Zd7 (Za1 Zam rfl T.n_len Jbb ((pvr 1)<&>Zaa)) Zaf (Zaj _))))) (~~~Zct) Zak)<*>(~~~(Za1 (Zb9 rfl) rfl T.n_all Jee ((Zaz (own:=["end"]) (fr:=[("many",0)]) rfl (Zbo (by kernel_rfl)) (pi_tup (pv 1)) (λ_ _ _ _=>⟨(0<<<["end","many"]),Zax,(Zei (Yaa<$>hr<$>((pv 0)<&>Zaa)) (Zeh (Zmt Znq Zj7 Zaf (pv 0) (pv 1))))⟩))<&>Zaa)))),?_⟩;walk_at "wp";refine Zat _ _ ⟨⟨rfl,rfl⟩,_,rfl,_,.tup ht,_,Zhw K,iteF ⟨_,.inr (SqT.of ht),iteF ?_⟩⟩;refine⟨_,rfl,t,rfl,⟨_,SqT.of ht⟩,λD hD=>Zq4 (λ_=>true) ht hD (by show 2<=1000;decide) (λk x H' Q' hx s' q'=>?_) λH' s' e'=>⟨D,rfl,_,SqL.of e',?_⟩⟩
  .have hx':∃ z:Int,x=.int z/\0<=z/\z<m:=by
    match k,hx with
    | 0,hx=>exact⟨i,(Ja7 hx).symm,i0,i1⟩
    | 1,hx=>exact⟨j,(Ja7 hx).symm,j0,j1⟩
    | k+2,hx=>cases hx
   refine Zal hx' λz e911 z0 z1=>?_;clear hx';obtain rfl:=e911;refine⟨_,rfl,⟨z,rfl,true,rfl,iteT ⟨_,rfl,_,_,rfl,rfl,_,rfl,?_⟩⟩⟩;refine Zrl (Jal z0) ⟨_,rfl,_,_,rfl,rfl,?_⟩;show Q' (V.bl (decide (z<m))) H';rw[Jal z1];exact q' H' (Same.refl _)
  .rw [Zep];exact q H' s'
def Zla:Sp:=λvs H Q _=>∃ (m:Int) (a:Addr) (xs:List V),vs=[.int m,.ref a]/\1<=m/\m<=8/\H a=some (.lst xs)/\xs.length<=9/\Edges H m xs/\∀ H',Same H H'->Q (.bl true) H'
theorem Zsy (F:Fun K "makes_drawing" "makes_drawing" Zcm f fd)(T:Txt K mg C G S)(Yaa:Cal P w K mg base "is_whole" 1 Zfz)(Yay:Cal P w K mg base "is_arrow" 2 Zlf):FnOk P w K mg base CX0 3 f fd ["many","arrows"] Zla:=by
 have nd:=Zdz.nd;refine F.ok Zdz (λvs H Q E h=>?_) (λcdv A outer s H vs Q E hr h=>?_)
 .refine Zeq h λm a xs e912 _=>?_;clear h;obtain rfl:=e912;rfl
 .refine Zda h λm a xs e913 m0 m8 e914=>?_;clear h;obtain rfl:=e913;refine Zch e914 λha hl d q=>?_;clear e914;refine⟨_,((@Za5 _ _ _ _ _ _ _ _ (PW.pt (Zcq (Za6 (Zbb (Yaa<$>hr<$>((pvr 0)<&>Zaa)))) (Zby (Za6 (Zmo Znq Znq Zaf (pvr 0) (Zel rfl T.g_MOST_POINTS)))))) (~~~Zct) Zak)<*>((@Za5 _ _ _ _ _ _ _ _ (PW.pt (Zcq (Za6 (Zbb (Za1 Zaw rfl T.n_isinstance Jbe ((pvr 1)<&>((Zes rfl T.n_list Jdv)<&>Zaa))))) (Zby (Zao Znr (Za1 Zam rfl T.n_len Jbb ((pvr 1)<&>Zaa)) (Zel rfl T.g_MOST_ARROWS) (Zaj _))))) (~~~Zct) Zak)<*>(~~~(Za1 (Zb9 rfl) rfl T.n_all Jee ((Zaz (own:=["arrow"]) (fr:=[("many",0)]) rfl (Zbo (by kernel_rfl)) (Za0 (pv 1)) (λ_ _ _ _=>⟨(0<<<["arrow","many"]),Zax,(Yay<$>hr<$>((pv 1)<&>((pv 0)<&>Zaa)))⟩))<&>Zaa))))),?_⟩;walk_at "wp";refine⟨m,rfl,true,rfl,iteF (Zrl (Jal m0) (Zfd (by rw[Jal m8];decide) ⟨_,_,⟨rfl,rfl⟩,_,rfl,_,.lst ha,_,Zcu K,iteF ⟨_,.inl (SqL.of ha),Zfd (by rw[Ja3 ∅];decide) ?_⟩⟩))⟩;refine⟨_,rfl,a,rfl,⟨_,SqL.of ha⟩,λD hD=>Zfq (λ_=>true) ha hD ∅ (λk x H' Q' hx s' q'=>?_) λH' s' e'=>⟨D,rfl,_,SqL.of e',?_⟩⟩
  .exact ⟨_,rfl,_,rfl,m,x,rfl,(d x (Jae hx)).same s',q'⟩
  .rw [Zep];exact q H' s'
def flds (m:Int)(lp:Addr):List (Str×V):=Zb7 "arrows" (.ref lp) (Zb7 "many" (.int m) [])
theorem Zcx (m:Int)(lp:Addr):(flds m lp).lookup ("arrows" : Str)=some (.ref lp):=by
 unfold flds;rw[Zav,if_pos rfl]
theorem Zfo (m:Int)(lp:Addr):(flds m lp).lookup ("many" : Str)=some (.int m):=by
 unfold flds;rw[Zav,if_neg ⋯,Zav,if_pos rfl]
theorem Ztr (m:Int):(Zb7 "many" (.int m) ([]:List (Str×V))).length<1000:=by
 have:=Zbx "many" (.int m) [];simp at this;omega
def Zjv (C:Addr):Sp:=λvs H Q _=>∃ (p dx:Addr) (m:Int) (a:Addr) (xs:List V),vs=[.ref p,.int m,.ref a]/\H p=some (.ins C dx [])/\1<=m/\m<=8/\H a=some (.lst xs)/\xs.length<=9/\Edges H m xs /\
 ∀ (lp:Addr) (H':Hp),Ext p H H'->H' p=some (.ins C dx (flds m lp))->H lp=none->H' lp=some (.lst xs)->Q .non H'
theorem ok_init (F:Fun K "__init__" "Drawing.__init__" Zc6 f fd)(T:Txt K mg C G S)(Ybi:Cal P w K mg base "makes_drawing" 3 Zla):FnOk P w K mg base CX0 4 f fd ["self","many","arrows"] (Zjv C):=by
 have nd:=Zed.nd;refine F.ok Zed (λvs H Q E h=>?_) (λcdv A outer s H vs Q E hr h=>?_)
 .refine xE5_2 h λp dx m a xs e92 _=>?_;clear h;obtain rfl:=e92;rfl
 .refine Zh7 h λp dx m a xs e93 hp m0 e94=>?_;clear h;obtain rfl:=e93;refine Zdn e94 λm8 ha hl d q=>?_;clear e94;refine⟨_,((@Za5 _ _ _ _ _ _ _ _ (Za6 (Zbb (Ybi<$>hr<$>((pvr 1)<&>((pvr 2)<&>Zaa))))) (@Zau _ _ _ Zci) Zak)<*>((Zhr (pvr 0) (pvr 1) rfl)<*>(@Zau _ _ _ (Zhr (pvr 0) (Zj6 Zc3 rfl T.n_list Jdv ((pvr 2)<&>Zaa)) rfl)))),?_⟩;walk_at "wp";refine Zb4 m a xs ⟨rfl,m0,m8,ha,hl,d,λH1 s1=>⟨true,rfl,iteF ?_⟩⟩;have nap:a≠p:=Zet ha hp (by intro z;cases z);refine Zb4 C dx [] ⟨s1 _ _ hp,T.cl_Drawing,T.nM,by show 0<1000;decide,xs,.inl (SqL.of (by rw[Zah nap];exact s1 _ _ ha)),λl hl0=>?_⟩;have npl:p≠l:=Zai Zab hl0;refine Zb4 C dx _ ⟨by rw[Zah npl];exact Zab,T.cl_Drawing,T.nA,Ztr m,?_⟩;have fl:H l=none:=by
   rw[Zah npl.symm] at hl0;exact s1.free hl0
  refine q l _ (λb o nb e=>?_) Zab fl (by rw[Zah npl.symm];exact Zab);rw[Zah nb,Zah (Zai e fl),Zah nb];exact s1 _ _ e
def Prs (H:Hp)(xs:List V)(ps:List (Int×Int)):Prop:=xs.length=ps.length/\∀ (i:Nat) (x:V) (q:Int×Int),xs[i]?=some x->ps[i]?=some q->∃ t,x=.ref t/\H t=some (.tup [.int q.1,.int q.2])
theorem Prs.same {H H':Hp}{xs:List V}{ps:List (Int×Int)}(h:Prs H xs ps)(s:Same H H'):Prs H' xs ps:=⟨h.1,λi x q h1 h2=>let ⟨t,e1,e2⟩:=h.2 i x q h1 h2;⟨t,e1,s _ _ e2⟩⟩
def Zd6 (C:Addr)(H:Hp)(p:Addr)(m:Int)(lp:Addr)(xs:List V):Prop:=∃ dx,H p=some (.ins C dx (flds m lp))/\H lp=some (.lst xs)
def InP (m:Int)(ps:List (Int×Int)):Prop:=∀ q∈ps,0<=q.1/\q.1<m/\0<=q.2/\q.2<m
theorem Ztu {H:Hp}{m:Int}{xs:List V}{ps:List (Int×Int)}(h:Prs H xs ps)(r:InP m ps):Edges H m xs:=by
 intro x hx;obtain⟨i,hi,rfl⟩:=Jan.mp hx;have hl:=h.1;have hq:ps[i]?=some (ps[i]'(oz55 hi hl)):=Jaa _;refine Zac (h.2 i _ _ (Jaa hi) hq) λt e1 e2=>?_;exact Zb4 t _ _ ⟨e1,e2,r _ (Jae hq)⟩
theorem Zh8 {k:Nat}{A:Around}(hr:Room k A):A.units+8<cLine:=by have:=hr.units;omega
theorem all_rep (n:Nat):(List.replicate n true).all id=true:=by simp
theorem Same.thru {l:Addr}{H H1 H2:Hp}(s:Same H H1)(h:H l=none)(e:Ext l H1 H2):Same H H2:=λb o eb=>e b o (Zai eb h) (s b o eb)
theorem Zq5 {lo:Int}{n:Nat}{D:Addr}{fr:List (Str×Nat)}{σ:L2.St}{te:TE}{H1:Hp}{Q:VK}(fb:Nat->Bool)(hD:H1 D=none)(hn:n<=1000)(h:∀ (i:Nat) H (Q:VK),i<n->Same H1 H->(∀ H',Same H H'->Q (.bl (fb i)) H')->te (some (.int (lo+(i:Nat)))::Zbi fr σ) H Q)(hQ:∀ H',Same H1 H'->H' D=some (.lst (((List.range n).map fb).map V.bl))->Q (.ref D) H'):Zbv (Zbh 0) Zfv te (Itr lo n) D (Zgq 1 fr σ) H1 Q:=by
 refine Zjm (λi vs H=>Same H1 H/\H D=some (.lst vs)/\vs=((List.range i).map fb).map V.bl) ⟨Same.new hD,Zab,rfl⟩ ?_ (λvs H ⟨s,e,hv⟩=>hQ H s (by rw[e,hv]));intro i x vs σ' H hi e91;obtain rfl:=e91;intro sh e92;refine Za2 e92 λs e e93=>?_;clear e92;obtain rfl:=e93;obtain⟨z,rfl⟩:=sh.one;simp only[Zer,Zbh,Zfv,List.set_cons_zero,Jcm];refine h i H _ hi s λH' s'=>?_;exact Zlu (ws:=((List.range (i+1)).map fb).map V.bl) hi Sh.mk1 (s' _ _ e) (Zap (by rw[Jab,Jab,Jav];exact oz150 hn hi)) ⟨(s.trans s').upd hD,by rw[Zab,Jcs,Jaz,Jaz];rfl,rfl⟩
abbrev NB1:Nat:=67000002
abbrev NB:Nat:=67000001
def Top (a:Int):Prop:=Bt NB a
theorem Top.of {a:Int}(h:a.natAbs<=100000000000000000000000000000000000000000000000000000000000000000000000000000000):Top a:=Jbh h (Jao (show _<2 ^ 300 by decide +kernel) (Jcp ⇑0 ⇑0))
def Zfu (p:Int):Prop:=1<p/\p<=97/\∀ d:Int,2<=d->d<p->p % d≠0
def Zk9:Sp:=λvs H Q _=>∃ p:Int,vs=[.int p]/\Zfu p/\∀ H',Same H H'->Q (.bl true) H'
theorem Zsx (F:Fun K "is_prime" "is_prime" Zf3 f fd)(T:Txt K mg C G S):FnOk P w K mg base CX0 1 f fd ["number"] Zk9:=by
 have nd:=Zhc.nd;refine F.ok Zhc (λvs H Q E h=>?_) (λcdv A outer s H vs Q E hr h=>?_)
 .refine Zac h λp e94 _=>?_;clear h;obtain rfl:=e94;rfl
 .refine Zal h λp e95 e96 q=>?_;clear h;obtain rfl:=e95;obtain⟨p1,p2,p3⟩:=e96;refine⟨_,(~~~(Zei (Zbr (opJ0 Znr) (pvr 0) Zaf (Zaj _)) (Zeh (Za1 (Zb9 rfl) rfl T.n_all Jee ((Zaz (own:=["divisor"]) (fr:=[("number",0)]) rfl (Zbo (by kernel_rfl)) (pi_r2 rfl T.n_range (Zaf<&>((pv 0)<&>Zaa))) (λ_ _ _ _=>⟨(0<<<["divisor","number"]),Zax,(Zbr Zd7 (Zdi<|>(pv 1)<&&>(pv 0)) Zaf (Zaj _))⟩))<&>Zaa))))),?_⟩;walk_at "wp";refine Zrl (Jal p1) ⟨_,rfl,2,p,rfl,⟨⇑0,⇑0,∅,∅⟩,λD hD=>Zq5 (λ_=>true) hD ∅ (λi H' Q' hi s' q'=>?_) λH' s' e'=>⟨D,rfl,_,SqL.of e',?_⟩⟩
  .have h0:(0:Int)<2+(i:Int):=∅
   have hne:=p3 (2+(i:Int)) ∅ (oz146 hi);refine⟨_,rfl,_,rfl,_,_,rfl,rfl,h0,rfl,?_⟩;have:(!decide (V.int (p % (2+(i:Int)))=V.int 0))=true:=by simp only[V.int.injEq,Ja3 hne];rfl
   rw[this];exact q' H' (Same.refl _)
  .rw [Zep];exact q H' s'
def GroundP (p:Int):Prop:=p=0\/Zfu p
def Zk5:Sp:=λvs H Q _=>∃ p:Int,vs=[.int p]/\GroundP p/\∀ H',Same H H'->Q (.bl true) H'
theorem Zss (F:Fun K "tells_ground" "tells_ground" Zc5 f fd)(T:Txt K mg C G S)(Yaa:Cal P w K mg base "is_whole" 1 Zfz)(Yau:Cal P w K mg base "is_prime" 1 Zk9):FnOk P w K mg base CX0 2 f fd ["thing"] Zk5:=by
 have nd:=Zec.nd;refine F.ok Zec (λvs H Q E h=>?_) (λcdv A outer s H vs Q E hr h=>?_)
 .refine Zac h λp e97 _=>?_;clear h;obtain rfl:=e97;rfl
 .refine Zal h λp e98 hp q=>?_;clear h;obtain rfl:=e98;have p0:0<=p:=by rcases hp with rfl|⟨h,_⟩ <;> omega
  have p97:p<=97:=by rcases hp with rfl|⟨_,h,_⟩ <;> omega
  refine⟨_,((@Za5 _ _ _ _ _ _ _ _ (PW.pt (Zcq (Za6 (Zbb (Yaa<$>hr<$>((pvr 0)<&>Zaa)))) (Zby (Za6 (Zmo Znq Znq Zaf (pvr 0) (Zel rfl T.g_LARGEST_PRIME)))))) (~~~Zct) Zak)<*>(~~~(pe_or (Zbr (opEqJ Zc8) (pvr 0) Zaf (Zaj _)) (Zeh (Yau<$>hr<$>((pvr 0)<&>Zaa)))))),?_⟩;walk_at "wp";refine⟨p,rfl,true,rfl,iteF (Zrl (Jal p0) (Zfd (by rw[Jal p97];decide) (Zdm (λ_=>q H (Same.refl _)) (λhc=>?_))))⟩;rcases hp with rfl|hp
  .exact absurd (Jal rfl) hc
  .exact ⟨p,rfl,hp,q⟩
def Zly (p:Int):List (Str×V):=Zb7 "prime" (.int p) []
theorem Zbq (p:Int):(Zly p).lookup ("prime" : Str)=some (.int p):=by
 unfold Zly;rw[Zav,if_pos rfl]
theorem Zm5 (p:Int){x:Str}(h1:¬ x="prime"):(Zly p).lookup x=none:=by
 unfold Zly;rw[Zav,if_neg h1];rfl
def Zg7 (G:Addr):Sp:=λvs H Q _=>∃ (g dx:Addr) (p:Int),vs=[.ref g,.int p]/\H g=some (.ins G dx [])/\GroundP p/\∀ (H':Hp),Ext g H H'->H' g=some (.ins G dx (Zly p))->Q .non H'
theorem Zs1 (F:Fun K "__init__" "Ground.__init__" Zdu f fd)(T:Txt K mg C G S)(Ya6:Cal P w K mg base "tells_ground" 2 Zk5):FnOk P w K mg base CX0 3 f fd ["self","prime"] (Zg7 G):=by
 have nd:=Ze0.nd;refine F.ok Ze0 (λvs H Q E h=>?_) (λcdv A outer s H vs Q E hr h=>?_)
 .refine Zeq h λg dx p e99 _=>?_;clear h;obtain rfl:=e99;rfl
 .refine Zda h λg dx p e910 hg hp q=>?_;clear h;obtain rfl:=e910;refine⟨_,((@Za5 _ _ _ _ _ _ _ _ (Za6 (Zbb (Ya6<$>hr<$>((pvr 1)<&>Zaa)))) (@Zau _ _ _ Zci) Zak)<*>(@Zau _ _ _ (Zhr (pvr 0) (pvr 1) rfl))),?_⟩;walk_at "wp";refine⟨p,rfl,hp,λH1 s1=>⟨true,rfl,iteF ⟨G,dx,[],s1 _ _ hg,T.cl_Ground,T.nP,by show 0<1000;decide,?_⟩⟩⟩;exact q _ (λb o nb e=>by rw[Zah nb];exact s1 _ _ e) Zab
def NumV (H:Hp)(p:Int)(v:V)(x:Int×Int):Prop:=if p=0 then ∃ t,v=.ref t/\H t=some (.tup [.int x.1,.int x.2]) else v=.int x.1
theorem NumV.same {H H':Hp}{p:Int}{v:V}{x:Int×Int}(h:NumV H p v x)(s:Same H H'):NumV H' p v x:=by
 unfold NumV at *;split
 .rename_i hp
  rw[if_pos hp] at h;refine Zac h λt e ht=>?_;clear h;exact⟨t,e,s _ _ ht⟩
 .rename_i hp
  rw[if_neg hp] at h;exact h
theorem NumV.tup {H:Hp}{p:Int}{t:Addr}{x:Int×Int}(hp:p=0)(h:H t=some (.tup [.int x.1,.int x.2])):NumV H p (.ref t) x:=by
 unfold NumV;rw[if_pos hp];exact⟨t,rfl,h⟩
theorem NumV.of {H:Hp}{p:Int}{x:Int×Int}(hp:¬ p=0):NumV H p (.int x.1) x:=by
 unfold NumV;rw[if_neg hp]
theorem NumV.ref {H:Hp}{p:Int}{v:V}{x:Int×Int}(h:NumV H p v x)(hp:p=0):∃ t,v=.ref t/\H t=some (.tup [.int x.1,.int x.2]):=by
 unfold NumV at h;rw[if_pos hp] at h;exact h
theorem NumV.int {H:Hp}{p:Int}{v:V}{x:Int×Int}(h:NumV H p v x)(hp:¬ p=0):v=.int x.1:=by
 unfold NumV at h;rw[if_neg hp] at h;exact h
theorem GroundP.lo {p:Int}(h:GroundP p):0<=p:=by rcases h with rfl|⟨h,_⟩ <;> omega
theorem GroundP.hi {p:Int}(h:GroundP p):p<=97:=by rcases h with rfl|⟨_,h,_⟩ <;> omega
def GAt (G:Addr)(H:Hp)(g:Addr)(p:Int):Prop:=∃ dx,H g=some (.ins G dx (Zly p))
theorem GAt.same {H H':Hp}{g:Addr}{p:Int}(h:GAt G H g p)(s:Same H H'):GAt G H' g p:=let ⟨dx,e⟩:=h;⟨dx,s _ _ e⟩
end
end Pf
namespace Pf
open PySem L2 PyProof.Rows
theorem Zbp {a b:Int}{A B:Nat}(ha:a.natAbs<=A)(hb:b.natAbs<=B):(a*b).natAbs<=A*B:=by rw[Jcn];exact Jco ha hb
theorem Zan {α:Type}{xs:List α}{i:Nat}{x d:α}(h:xs[i]?=some x):xs.getD i d=x:=by rw[Jad,h];rfl
end Pf
namespace Pf
open PySem L2 PyProof.Rows
section
variable {C G S:Addr}
theorem Zc9 {A X:TS}{D:Ends}{σ:L2.St}{H:Hp}(h:∀ X',X'=X->tSeq A X' D σ H):tSeq A X D σ H:=h X rfl
theorem Zl3 {z:Int}(h:z.natAbs<170141183460469231731687303715884105728):Bt 127 z:=Jao h ⋯
def Zow:Sp:=λvs H Q _=>∃ x0 y0:Int,vs=[.int x0,.int y0]/\18446744073709551616<=x0/\x0<85070591730234615865843651857942052864/\0<=y0/\y0<=x0 /\
 ∀ (a b c d x y:Int) (t:Addr) (H':Hp),Same H H'->H' t=some (.tup [.int a,.int b,.int c,.int d])->Steps x0 y0 a b c d x y->Q (.ref t) H'
theorem ok_lead (F:Fun K "leading_steps" "leading_steps" Zcn f fd)(T:Txt K mg C G S)(hpt:P.given.tree=none):FnOk P w K mg base CX0 1 f fd ["one","other"] Zow:=by
 have nd:=Zd0.nd;refine F.ok Zd0 (λvs H Q E h=>?_) (λcdv A outer s H vs Q E hr h=>?_)
 .refine Zbd h λx0 y0 e94 _=>?_;clear h;obtain rfl:=e94;rfl
 .refine Zg2 h λx0 y0 e95 hx64 hx hy0 hyx q=>?_;clear h;obtain rfl:=e95;refine⟨_,((Zcr (@Zbj _ _ _ _ _ (Zaf<&>(Zaf<&>(Zaf<&>(Zaf<&>Zaa))))) (@Zcs _ _ _ _ _ 4 rfl ((2>>>nd)^^^((3>>>nd)^^^((4>>>nd)^^^((5>>>nd)^^^(@Za3 _))))) ⇑1 ⇑1))<*>((Zgw Jbf (Zf6 op_ge (pv 1) (Zur<|>Zaf<&&>Zaf) (Zaj _)) ((6|||nd|||((Zc1 hpt (Zcb hr))<|>(pvr 0)<&&>(pvr 1)))<*>((Zir (i:=0) (j:=1) rfl nd rfl rfl ⇑0 rfl rfl ((pvr 1)<&>((Zhu<|>(pvr 0)<&&>(Zbs<|>(pvr 6)<&&>(pvr 1)))<&>Zaa)) rfl)<*>(@Zau _ _ _ (Zcr (@Zbj _ _ _ _ _ ((pvr 4)<&>((pvr 5)<&>((Zhu<|>(pvr 2)<&&>(Zbs<|>(pvr 6)<&&>(pvr 4)))<&>((Zhu<|>(pvr 3)<&&>(Zbs<|>(pvr 6)<&&>(pvr 5)))<&>Zaa))))) (@Zcs _ _ _ _ _ 4 rfl ((2>>>nd)^^^((3>>>nd)^^^((4>>>nd)^^^((5>>>nd)^^^(@Za3 _))))) ⇑1 ⇑1))))))<*>(~~~(@Zbj _ _ _ _ _ ((pvr 2)<&>((pvr 3)<&>((pvr 4)<&>((pvr 5)<&>Zaa)))))))),?_⟩;walk_at "wp";refine⟨⇑0,λp hp=>⟨_,SqT.of Zab,rfl,_,_,rfl,_,_,rfl,_,_,rfl,_,_,rfl,rfl,?_⟩⟩;refine⟨λn σ H2=>∃ (a b c d x y:Int) (o:Option V),σ=[some (.int x),some (.int y),some (.int a),some (.int b),some (.int c),some (.int d),o]/\Same H H2/\n=y.natAbs/\Steps x0 y0 a b c d x y,
   ⟨_,1,0,0,1,x0,y0,none,rfl,Same.new hp,rfl,⟨∅,∅,⟨1,⇑0,⇑0,⇑0,⇑0,⇑0,⇑0⟩,hx64,hy0,hyx,⇑0,.inl ⟨rfl,rfl,rfl,rfl⟩⟩⟩,?_⟩
  intro n σ H2 e91;refine xE7_4 e91 λa b c d x y o e96 s2 e97 st=>?_;clear e91;obtain rfl:=e96;obtain rfl:=e97;walk_at "wp";have e64:(2:Int) ^ Int.toNat 64=18446744073709551616:=⋯
  rw[e64];refine⟨⟨⇑0,⇑0,⇑0⟩,Zdm (λhc=>?_) (λhc=>?_)⟩
  .have hc:=Jbm hc;have nx:=st.next hx hyx hc;obtain⟨c1,c2⟩:=st.cd hx hyx;have hxs:x<=x0+y0:=by
    rcases st.pr with ⟨rfl,rfl,rfl,rfl⟩|⟨_,h⟩
    .have:=st.hx;omega
    .have:=st.yn;omega
   have hyx':=st.yx;have hx0:=st.x64;have q0:0<=x / y:=Jek (Zsp hx0) (Zsp hc);have q1:x / y<=x:=Int.ediv_le_self _ (Zsp hx0);have hr0:=nx.yn;have hr1:x-x / y*y<y:=by
    have h1:=Jba x (show 0<y by omega);have h2:=Jd8 x y;rw[Jeq y] at h2;exact oz171 h1 h2
   refine⟨_,λ_ _ h=>h,∅,?_⟩;rw[Zen ∅];refine⟨(Zl3 (oz49 hx hyx hxs q0 q1)).ok (Zl3 (oz140 hx hyx hc hxs hyx')) ⇑0,_,_,⟨rfl,rfl⟩,(Zl3 (oz49 hx hyx hxs q0 q1)).ok (Zl3 (oz130 c1)) ⇑0,(Zl3 (oz49 hx hyx hxs q0 q1)).ok (Zl3 (oz130 c2)) ⇑0,⇑0,λp2 hp2=>⟨_,SqT.of Zab,rfl,_,_,rfl,_,_,rfl,_,_,rfl,_,_,rfl,rfl,?_⟩⟩;exact⟨_,oz102 hr0 hr1,_,_,_,_,_,_,_,rfl,s2.trans (Same.new hp2),rfl,nx⟩
  .exact ⟨⇑0,λt ht=>q a b c d x y t _ (s2.trans (Same.new ht)) Zab st⟩
theorem Ztq (x:Int){y:Int}(h:y≠0):(x.fmod y).natAbs<y.natAbs:=by
 rcases Int.lt_or_gt_of_ne h with h|h
 .have e:x.fmod y=-((-x).fmod (-y)):=by rw[Int.neg_fmod_neg,Int.neg_neg]
  have h1:=Jd0 (-x) (show 0 < -y by omega);have h2:=Jer (-x) (show 0 < -y by omega);exact oz101 e h1 h2
 .have h1:=Jd0 x (show 0<y by omega);have h2:=Jer x (show 0<y by omega);exact oz162 h1 h2
theorem Zkj (a b:Int):Int.gcd b (a.fmod b)=Int.gcd a b:=by
 rw[Int.fmod_def,Int.sub_eq_add_neg,<- Int.mul_neg,Int.gcd_add_mul_left_right,Jep]
theorem Zsb {x y S a b c d X Y:Int}(hS:0<S)(st:Steps (x / S) (y / S) a b c d X Y)(hx:x / S<85070591730234615865843651857942052864)(hyx:y / S<=x / S)(hb:b≠0)(y0:0<=y)(x0:0<=x):(a*x+b*y).natAbs+(c*x+d*y).natAbs<(x+y).natAbs:=by
 obtain⟨c1,d1⟩:=st.cd hx hyx;obtain⟨a1,b1⟩:=st.ab;obtain⟨_,hs⟩:=st.pr.resolve_left λz=>hb z.2.1;have ex:x=S*(x / S)+x % S:=(Int.mul_ediv_add_emod x S).symm;have ey:y=S*(y / S)+y % S:=(Int.mul_ediv_add_emod y S).symm;have rx0:=Jbs x (show S≠0 by omega);have rx1:=Jba x hS;have ry0:=Jbs y (show S≠0 by omega);have ry1:=Jba y hS;have hX:=st.x64;have hY:=st.yn;have e1:a*x+b*y=S*X+(a*(x % S)+b*(y % S)):=by
  rw[<- st.hx]
  grind
 have e2:c*x+d*y=S*Y+(c*(x % S)+d*(y % S)):=by
  rw[<- st.hy]
  grind
 rw[e1,e2];generalize x / S=x' at *;generalize y / S=y' at *;generalize x % S=rx at *;generalize y % S=ry at *;have p1:=Zbp (show a.natAbs<=4611686018427387903 by exact oz98 a1) (show rx.natAbs<=S.natAbs by exact oz1 rx0 rx1);have p2:=Zbp (show b.natAbs<=4611686018427387903 by exact oz98 b1) (show ry.natAbs<=S.natAbs by exact oz1 ry0 ry1);have p3:=Zbp (show c.natAbs<=4611686018427387903 by exact oz98 c1) (show rx.natAbs<=S.natAbs by exact oz1 rx0 rx1);have p4:=Zbp (show d.natAbs<=4611686018427387903 by exact oz98 d1) (show ry.natAbs<=S.natAbs by exact oz1 ry0 ry1);have m1:S*(X+Y+18446744073709551616)<=S*(x'+y'):=Int.mul_le_mul_of_nonneg_left hs (oz50 hS);rw[Int.mul_add,Int.mul_add,Int.mul_add] at m1;have m2:0<=S*X:=Jc1 (oz50 hS) (Zsp hX);have m3:0<=S*Y:=Jc1 (oz50 hS) hY;have tri:∀ u v z:Int,(u+(v+z)).natAbs<=u.natAbs+(v.natAbs+z.natAbs):=λu v z=>Jbi (Int.natAbs_add_le _ _) (Nat.add_le_add_left (Int.natAbs_add_le _ _) _);have t1:=tri (S*X) (a*rx) (b*ry);have t2:=tri (S*Y) (c*rx) (d*ry);have q1:=Jde m2;have q2:=Jde m3;have q3:=Jde (show 0<=S by exact oz50 hS);have q4:=Jde (show 0<=x+y by exact oz61 y0 x0);clear e1 e2 hs st a1 b1 c1 d1 hx hyx hX hY;generalize (S*X+(a*rx+b*ry)).natAbs=N1 at *;generalize (S*Y+(c*rx+d*ry)).natAbs=N2 at *;generalize (a*rx).natAbs=n1 at *;generalize (b*ry).natAbs=n2 at *;generalize (c*rx).natAbs=n3 at *;generalize (d*ry).natAbs=n4 at *;generalize (S*X).natAbs=n5 at *;generalize (S*Y).natAbs=n6 at *;generalize (x+y).natAbs=n7 at *;generalize S.natAbs=n8 at *;generalize S*X=zX at *;generalize S*Y=zY at *;generalize S*x'=zx at *;generalize S*y'=zy at *;exact oz65 rx0 rx1 ry0 t1 t2 q4 q3 p1 p2 p3 p4 q1 q2 ex ey m1
theorem Zt5 {x:Int}{n:Nat}(h0:0<=x)(h:Builtin.Int.intBits x=n)(hn:126<=n):18446744073709551616<=x / 2 ^ (n-126)/\x / 2 ^ (n-126)<85070591730234615865843651857942052864:=by
 have hp:(0:Int)<2 ^ (n-126):=Int.pow_pos ⇑0;have hu:x.natAbs<2 ^ n:=Jdf.mp ∅;have hl:¬ x.natAbs<2 ^ (n-1):=λz=>by have:=Jdf.mpr z;omega
 constructor
 .refine (Int.le_ediv_iff_mul_le hp).mpr ?_;have e:(18446744073709551616:Int)*2 ^ (n-126)=2 ^ (n-62):=by
   rw[show (18446744073709551616:Int)=2 ^ 64 by decide +kernel,<- Int.pow_add];congr 1;exact oz28 hn
  have e2:(2:Int) ^ (n-62)=((2 ^ (n-62):Nat):Int):=by rw[Int.natCast_pow];rfl
  have e3:(2:Nat) ^ (n-62)<=2 ^ (n-1):=Jcp ⇑0 oz46;rw[e,e2];exact oz91 h0 hl e3
 .refine Int.ediv_lt_of_lt_mul hp ?_;have e:(85070591730234615865843651857942052864:Int)*2 ^ (n-126)=2 ^ n:=by
   rw[show (85070591730234615865843651857942052864:Int)=2 ^ 126 by decide +kernel,<- Int.pow_add];congr 1;exact oz83 hn
  have e2:(2:Int) ^ n=((2 ^ n:Nat):Int):=by rw[Int.natCast_pow];rfl
  rw[e,e2];exact oz92 hu
def Zk7:Sp:=λvs H Q _=>∃ x y:Int,vs=[.int x,.int y]/\0<=x/\0<=y/\4000<Builtin.Int.intBits x/\4000<Builtin.Int.intBits y/\Bt NB1 x/\Bt NB1 y /\
 ∀ (u v:Int) (t:Addr) (H':Hp),Same H H'->H' t=some (.tup [.int u,.int v])->0<=u->0<=v->u+v<x+y->Int.gcd u v=Int.gcd x y->Q (.ref t) H'
theorem Zsv (F:Fun K "shortened" "shortened" Ze5 f fd)(T:Txt K mg C G S)(Ybq:Cal P w K mg base "leading_steps" 1 Zow):FnOk P w K mg base CX0 2 f fd ["one","other"] Zk7:=by
 have nd:=Zgd.nd;refine F.ok Zgd (λvs H Q E h=>?_) (λcdv A outer s H vs Q E hr h=>?_)
 .refine Zbd h λx0 y0 e98 _=>?_;clear h;obtain rfl:=e98;rfl
 .refine Zg2 h λx y e99 x0 y0 xb yb e910=>?_;clear h;obtain rfl:=e99;refine Za2 e910 λbx by' q=>?_
  clear e910;refine⟨_,((@Za5 _ _ _ _ _ _ _ _ (Zao Zj7 (pvr 0) (pvr 1) (Zaj _)) (@Zau _ _ _ (Zir (i:=0) (j:=1) rfl nd rfl rfl ⇑0 rfl rfl ((pvr 1)<&>((pvr 0)<&>Zaa)) rfl)) Zak)<*>((2|||nd|||(Zhu<|>(Zps Jd1 Jc9 Jda Zlr (pvr 0))<&&>(Zel rfl T.g_LEADING)))<*>((Zcr (Ybq<$>hr<$>((Zuq<|>(pvr 0)<&&>(pvr 2))<&>((Zuq<|>(pvr 1)<&&>(pvr 2))<&>Zaa))) (@Zcs _ _ _ _ _ 4 rfl ((3>>>nd)^^^((4>>>nd)^^^((5>>>nd)^^^((6>>>nd)^^^(@Za3 _))))) ⇑1 ⇑1))<*>((@Za5 _ _ _ _ _ _ _ _ (Zao Zc8 (pvr 4) Zaf (Zaj _)) (~~~(@Zbj _ _ _ _ _ ((pvr 1)<&>((Zpu<|>(pvr 0)<&&>(pvr 1))<&>Zaa)))) Zak)<*>(~~~(@Zbj _ _ _ _ _ ((Za1 Zeo rfl T.n_abs boot_abs ((Zgo<|>(Zbs<|>(pvr 3)<&&>(pvr 0))<&&>(Zbs<|>(pvr 4)<&&>(pvr 1)))<&>Zaa))<&>((Za1 Zeo rfl T.n_abs boot_abs ((Zgo<|>(Zbs<|>(pvr 5)<&&>(pvr 0))<&&>(Zbs<|>(pvr 6)<&&>(pvr 1)))<&>Zaa))<&>Zaa)))))))),?_⟩;refine Zc9 λX hX=>?_;walk_at "wp";have aft:∀ x y:Int,0<=y->y<=x->4000<Builtin.Int.intBits x->4000<Builtin.Int.intBits y->Bt NB1 x->Bt NB1 y->(∀ (u v:Int) (t:Addr) (H':Hp),Same H H'->H' t=some (.tup [.int u,.int v])->0<=u->0<=v->u+v<x+y->Int.gcd u v=Int.gcd x y->Q (.ref t) H')->
    X { nx:=λx H'=>Q V.non H',rt:=Q } [some (.int x),some (.int y),none,none,none,none,none] H:=by
   intro x y y0 yx xb yb bx by' q
   subst hX;walk_at "wp";have x0:0<=x:=∅
   obtain⟨b1,b2⟩:=Zt5 x0 rfl (show 126<=Builtin.Int.intBits x by omega);have en:((Builtin.Int.intBits x:Int)-126).toNat=Builtin.Int.intBits x-126:=by exact oz21
   rw[en];have hS:(0:Int)<2 ^ (Builtin.Int.intBits x-126):=Int.pow_pos ⇑0;generalize (2:Int) ^ (Builtin.Int.intBits x-126)=S at *;have yn:y≠0:=λz=>by
    subst z;have:Builtin.Int.intBits 0=0:=rfl;omega
   have hyx:y / S<=x / S:=Int.ediv_le_ediv hS yx;refine⟨rfl,oz132 xb,oz132 xb,_,_,rfl,b1,b2,Jek y0 (oz50 hS),hyx,λa b c d X' Y' t H1 s1 ht st=>?_⟩;refine⟨t,rfl,_,SqT.of ht,rfl,_,_,rfl,_,_,rfl,_,_,rfl,_,_,rfl,rfl,rfl,Zdm (λhb=>?_) (λhb=>?_)⟩
   .refine ⟨yn,⇑0,λp hp=>?_⟩;have f0:=Jd0 x (show 0<y by exact oz95 y0 yn);have f1:=Jer x (show 0<y by exact oz95 y0 yn);exact q _ _ p _ (s1.trans (Same.new hp)) Zab y0 f0 (oz147 yx f1) (Zkj x y)
   .have hb:b≠0:=λz=>hb (Jal (by rw[z]));obtain⟨a1,a2⟩:=st.ab;obtain⟨c1,c2⟩:=st.cd b2 hyx;have sm:∀ z:Int,z.natAbs<4611686018427387904->Bt 127 z:=λz hz=>Zl3 (oz130 hz);have lt:=Zsb hS st b2 hyx hb y0 x0;refine⟨_,rfl,(sm a a1).ok bx ⇑0,_,rfl,(sm b a2).ok by' ⇑0,_,rfl,(sm c c1).ok bx ⇑0,_,rfl,(sm d c2).ok by' ⇑0,⇑0,λp hp=>?_⟩;have ab:∀ z:Int,(if z<0 then -z else z)=(z.natAbs:Int):=λz=>by split <;> omega
    rw[ab,ab];refine q _ _ p _ (s1.trans (Same.new hp)) Zab oz6 oz6 (oz3 y0 x0 lt) ?_;refine Zal st.sg λe he det _=>?_;have eg:∀ u v:Int,Int.gcd (u.natAbs:Int) (v.natAbs:Int)=Int.gcd u v:=λu v=>by simp[Int.gcd]
    rw[eg,Ztn (by rcases he with rfl|rfl <;> omega)]
  refine Zdm (λhc=>?_) (λhc=>?_)
  .have hc:=Jbm hc;exact Zat _ _ ⟨⟨rfl,rfl⟩,aft y x x0 ∅ yb xb by' bx λu v t H' s' ht u0 v0 huv hg=>q u v t H' s' ht u0 v0 ∅ (by rw[hg,Jep])⟩
  .have hc:¬ x<y:=λz=>hc (Jal z);exact aft x y y0 ∅ xb yb bx by' q
theorem Zkt {x y:Int}(h:x.natAbs<=y.natAbs):Builtin.Int.intBits x<=Builtin.Int.intBits y:=Jdf.mpr (Jbh h (Jdf.mp (Jah _)))
def spNbl:Sp:=λvs H Q _=>∃ x y:Int,vs=[.int x,.int y]/\0<=x/\0<=y/\Bt NB x/\Bt NB y /\
 ∀ (u v:Int) (t:Addr) (H':Hp),Same H H'->H' t=some (.tup [.int u,.int v])->Int.gcd u v=Int.gcd x y->Q (.ref t) H'
theorem ok_nbl (F:Fun K "not_both_long" "not_both_long" Zcl f fd)(T:Txt K mg C G S)(Ybc:Cal P w K mg base "shortened" 2 Zk7):FnOk P w K mg base CX0 3 f fd ["one","other"] spNbl:=by
 have nd:=Zdy.nd;refine F.ok Zdy (λvs H Q E h=>?_) (λcdv A outer s H vs Q E hr h=>?_)
 .refine Zbd h λx0 y0 e911 _=>?_;clear h;obtain rfl:=e911;rfl
 .refine Zg2 h λx y e912 x0 y0 bx by' q=>?_
  clear h;obtain rfl:=e912;refine⟨_,((Zgw Jbf (Zf6 Znr (Zps Jd1 Jc9 Jda Zlr (Za1 (Zrb rfl) rfl T.n_min boot_min ((pv 0)<&>((pv 1)<&>Zaa)))) (Zel rfl T.g_LONG) (Zaj _)) (@Zau _ _ _ (Zcr (Ybc<$>hr<$>((pvr 0)<&>((pvr 1)<&>Zaa))) (@Zcs _ _ _ _ _ 2 rfl ((0>>>nd)^^^((1>>>nd)^^^(@Za3 _))) ⇑1 ⇑1))))<*>(~~~(@Zbj _ _ _ _ _ ((pvr 0)<&>((pvr 1)<&>Zaa))))),?_⟩;walk_at "wp";refine⟨λn σ H2=>∃ u v:Int,σ=[some (.int u),some (.int v)]/\Same H H2/\n=(u+v).toNat/\0<=u/\0<=v/\u+v<=x+y/\Int.gcd u v=Int.gcd x y,⟨_,x,y,rfl,Same.refl _,rfl,x0,y0,Int.le_refl _,rfl⟩,?_⟩;intro n σ H2 e92;refine Zg2 e92 λu v e913 s2 e914 u0 v0 e915=>?_;clear e92;obtain rfl:=e913;obtain rfl:=e914;obtain⟨huv,hg⟩:=e915;walk_at "wp";have hb:∀ z:Int,0<=z->z<=x+y->Bt NB1 z:=λz z0 z1=>(Bt.add bx by').abs_le (oz78 z0 z1);refine Zat _ _ ⟨⟨rfl,rfl⟩,rfl,Zdm (λhc=>?_) (λhc=>?_)⟩
  .have hc:=Jbm hc;have bu:4000<Builtin.Int.intBits u:=by
    by_cases h:v<u
    .rw [if_pos h] at hc;exact Jao (Zso hc) (Zkt (show v.natAbs<=u.natAbs by exact oz1 v0 h))
    .rw [if_neg h] at hc;exact Zso hc
   have bv:4000<Builtin.Int.intBits v:=by
    by_cases h:v<u
    .rw [if_pos h] at hc;exact Zso hc
    .rw [if_neg h] at hc;exact Jao (Zso hc) (Zkt (show u.natAbs<=v.natAbs by exact oz123 u0 h))
   refine⟨_,λ_ _ h=>h,u,v,rfl,u0,v0,bu,bv,hb u u0 ∅,hb v v0 ∅,λu' v' t H3 s3 ht u0' v0' lt hg'=>⟨t,rfl,_,SqT.of ht,rfl,_,_,rfl,_,_,rfl,rfl,(u'+v').toNat,oz56 u0' v0' lt,u',v',rfl,s2.trans s3,rfl,u0',v0',oz143 huv lt,hg'.trans hg⟩⟩
  .exact ⟨⇑0,λt ht=>q u v t _ (s2.trans (Same.new ht)) Zab hg⟩
def Zle:Sp:=λvs H Q _=>∃ a b:Int,vs=[.int a,.int b]/\Bt NB a/\Bt NB b/\∀ H',Same H H'->Q (.int (Int.gcd a b:Int)) H'
theorem ok_cdB (F:Fun K "common_divisor" "common_divisor" Zcg f fd)(T:Txt K mg C G S)(Ya7:Cal P w K mg base "not_both_long" 3 spNbl):FnOk P w K mg base CX0 4 f fd ["one","other"] Zle:=by
 have nd:=Zdf.nd;refine F.ok Zdf (λvs H Q E h=>?_) (λcdv A outer s H vs Q E hr h=>?_)
 .refine Zbd h λa b e916 _=>?_;clear h;obtain rfl:=e916;rfl
 .refine Zgs h λa b e917 ha hb q=>?_;clear h;obtain rfl:=e917;refine⟨_,((@Za5 _ _ _ _ _ _ _ _ (Zao Znr (Zps Jd1 Jc9 Jda Zlr (pvr 0)) (Zel rfl T.g_LONG) (Zaj _)) (@Zau _ _ _ (Zcr (Ya7<$>hr<$>((Za1 Zeo rfl T.n_abs boot_abs ((pvr 0)<&>Zaa))<&>((Za1 Zeo rfl T.n_abs boot_abs ((pvr 1)<&>Zaa))<&>Zaa))) (@Zcs _ _ _ _ _ 2 rfl ((0>>>nd)^^^((1>>>nd)^^^(@Za3 _))) ⇑1 ⇑1))) Zak)<*>((Zgw Jbf (Zf6 Zd7 (pv 1) Zaf (Zaj _)) (@Zau _ _ _ (Zir (i:=0) (j:=1) rfl nd rfl rfl ⇑0 rfl rfl ((pvr 1)<&>((Zpu<|>(pvr 0)<&&>(pvr 1))<&>Zaa)) rfl)))<*>(~~~(Za1 Zeo rfl T.n_abs boot_abs ((pvr 0)<&>Zaa))))),?_⟩;refine Zc9 λX hX=>?_;walk_at "wp";have aft:∀ (x y:Int) (H1:Hp),Same H H1->Int.gcd x y=Int.gcd a b->X { nx:=λx H'=>Q V.non H',rt:=Q } [some (.int x),some (.int y)] H1:=by
   intro x y H1 s1 hg;subst hX;walk_at "wp";refine⟨λn σ H2=>∃ x y:Int,σ=[some (.int x),some (.int y)]/\H2=H1/\n=y.natAbs/\Int.gcd x y=Int.gcd a b,⟨_,x,y,rfl,rfl,rfl,hg⟩,?_⟩;intro n σ H2 e93;refine Zgs e93 λx y e918 e919 e920 hg=>?_;clear e93;obtain rfl:=e918;obtain rfl:=e919;obtain rfl:=e920;walk_at "wp";refine Zdm (λhc=>?_) (λhc=>?_)
   .have hy0:¬ y=0:=by simpa using hc
    exact⟨_,λ_ _ h=>h,hy0,_,_,⟨rfl,rfl⟩,(x.fmod y).natAbs,Ztq x hy0,y,x.fmod y,rfl,rfl,rfl,by rw[Zkj];exact hg⟩
   .have hy0:y=0:=by simpa using hc
    subst hy0;have e:(if x<0 then -x else x)=(Int.gcd a b:Int):=by
     rw[<- hg,Int.gcd_zero];split <;> omega
    rw[e];exact q _ s1
  have ab:∀ z:Int,(if z<0 then -z else z)=(z.natAbs:Int):=λz=>by split <;> omega
  refine⟨rfl,Zdm (λhc=>?_) (λhc=>aft a b H (Same.refl _) rfl)⟩;rw[ab,ab];exact Zat _ _ ⟨rfl,oz118,oz118,ha.abs_le (by simp),hb.abs_le (by simp),λu v t H1 s1 ht hg=>⟨t,rfl,_,SqT.of ht,rfl,_,_,rfl,_,_,rfl,rfl,aft u v H1 s1 (by rw[hg];simp[Int.gcd])⟩⟩
def Kn (H:Hp)(v:V):Prop:=v=.non\/(∃ b,v=.bl b)\/(∃ i,v=.int i)\/(∃ s,v=.str s)\/(∃ a xs,v=.ref a/\H a=some (.lst xs)/\xs.length<=1000)\/∃ a xs,v=.ref a/\H a=some (.tup xs)/\xs.length<=1000
theorem Kn.same {H H':Hp}{v:V}(h:Kn H v)(s:Same H H'):Kn H' v:=by
 rcases h with h|h|h|h|⟨a,xs,h1,h2,h3⟩|⟨a,xs,h1,h2,h3⟩
 .exact .inl h
 .exact .inr (.inl h)
 .exact .inr (.inr (.inl h))
 .exact .inr (.inr (.inr (.inl h)))
 .exact .inr (.inr (.inr (.inr (.inl ⟨a,xs,h1,s _ _ h2,h3⟩))))
 .exact .inr (.inr (.inr (.inr (.inr ⟨a,xs,h1,s _ _ h2,h3⟩))))
theorem Kn.int {H:Hp}{i:Int}:Kn H (.int i):=.inr (.inr (.inl ⟨i,rfl⟩))
theorem Kn.bl {H:Hp}{i:Bool}:Kn H (.bl i):=.inr (.inl ⟨i,rfl⟩)
theorem Kn.str {H:Hp}{i:Str}:Kn H (.str i):=.inr (.inr (.inr (.inl ⟨i,rfl⟩)))
theorem Kn.lst {H:Hp}{a:Addr}{xs:List V}(h:H a=some (.lst xs))(hl:xs.length<=1000):Kn H (.ref a):=.inr (.inr (.inr (.inr (.inl ⟨a,xs,rfl,h,hl⟩))))
theorem Kn.tup {H:Hp}{a:Addr}{xs:List V}(h:H a=some (.tup xs))(hl:xs.length<=1000):Kn H (.ref a):=.inr (.inr (.inr (.inr (.inr ⟨a,xs,rfl,h,hl⟩))))
def isI:V->Bool
 | .int _=>true
 | .bl _=>true
 | _=>false
def isBl:V->Bool
 | .bl _=>true
 | _=>false
def Zqh (H:Hp):V->Bool
 | .ref a=>match H a with
  | some (.tup _)=>true
  | _=>false
 | _=>false
def Zth (H:Hp):V->Bool
 | .ref a=>match H a with
  | some (.lst _)=>true
  | _=>false
 | _=>false
def whB:V->Bool
 | .int _=>true
 | _=>false
theorem kn_int {H:Hp}{v:V}(h:Kn H v):∃ t,TyOf K H v t/\PySem.W.kitOne K t (.type "int")=some (isI v):=by
 rcases h with rfl|⟨b,rfl⟩|⟨i,rfl⟩|⟨z,rfl⟩|⟨a,xs,rfl,h2,_⟩|⟨a,xs,rfl,h2,_⟩
 .exact ⟨_,.non,by kernel_rfl⟩
 .exact ⟨_,.bl b,Znx K⟩
 .exact ⟨_,.int i,Zkg K⟩
 .exact ⟨_,.str z,by kernel_rfl⟩
 .exact ⟨_,.lst h2,by kernel_rfl⟩
 .exact ⟨_,.tup h2,by kernel_rfl⟩
theorem kn_bool {H:Hp}{v:V}(h:Kn H v):∃ t,TyOf K H v t/\PySem.W.kitOne K t (.type "bool")=some (isBl v):=by
 rcases h with rfl|⟨b,rfl⟩|⟨i,rfl⟩|⟨z,rfl⟩|⟨a,xs,rfl,h2,_⟩|⟨a,xs,rfl,h2,_⟩
 .exact ⟨_,.non,by kernel_rfl⟩
 .exact ⟨_,.bl b,Zfc K⟩
 .exact ⟨_,.int i,Zis K⟩
 .exact ⟨_,.str z,by kernel_rfl⟩
 .exact ⟨_,.lst h2,by kernel_rfl⟩
 .exact ⟨_,.tup h2,by kernel_rfl⟩
theorem Zuv {H:Hp}{v:V}(h:Kn H v):∃ t,TyOf K H v t/\PySem.W.kitOne K t (.type "tuple")=some (Zqh H v):=by
 rcases h with rfl|⟨b,rfl⟩|⟨i,rfl⟩|⟨z,rfl⟩|⟨a,xs,rfl,h2,_⟩|⟨a,xs,rfl,h2,_⟩
 .exact ⟨_,.non,by kernel_rfl⟩
 .exact ⟨_,.bl b,by kernel_rfl⟩
 .exact ⟨_,.int i,by kernel_rfl⟩
 .exact ⟨_,.str z,by kernel_rfl⟩
 .refine ⟨_,.lst h2,?_⟩;simp only[Zqh,h2]
  kernel_rfl
 .refine ⟨_,.tup h2,?_⟩;simp only[Zqh,h2];exact Zhw K
theorem Zqb {H:Hp}{v:V}(h:Kn H v):∃ t,TyOf K H v t/\PySem.W.kitOne K t (.type "list")=some (Zth H v):=by
 rcases h with rfl|⟨b,rfl⟩|⟨i,rfl⟩|⟨z,rfl⟩|⟨a,xs,rfl,h2,_⟩|⟨a,xs,rfl,h2,_⟩
 .exact ⟨_,.non,by kernel_rfl⟩
 .exact ⟨_,.bl b,by kernel_rfl⟩
 .exact ⟨_,.int i,by kernel_rfl⟩
 .exact ⟨_,.str z,by kernel_rfl⟩
 .refine ⟨_,.lst h2,?_⟩;simp only[Zth,h2];exact Zcu K
 .refine ⟨_,.tup h2,?_⟩;simp only[Zth,h2]
  kernel_rfl
def Zfg:Sp:=λvs H Q _=>∃ v:V,vs=[v]/\Kn H v/\Q (.bl (whB v)) H
theorem Zp0 (F:Fun K "is_whole" "is_whole" Zek f fd)(T:Txt K mg C G S):FnOk P w K mg base CX0 1 f fd ["thing"] Zfg:=by
 have nd:=Zdp.nd;refine F.ok Zdp (λvs H Q E h=>?_) (λcdv A outer s H vs Q E hr h=>?_)
 .refine Zac h λi e91 _=>?_;clear h;obtain rfl:=e91;rfl
 .refine Zal h λv e92 hk q=>?_;clear h;obtain rfl:=e92;refine⟨_,(~~~(Zei (Za1 Zaw rfl T.n_isinstance Jbe ((pvr 0)<&>((Zes rfl T.n_int boot_int)<&>Zaa))) (Zeh (Zum (Za1 Zaw rfl T.n_isinstance Jbe ((pvr 0)<&>((Zes rfl T.n_bool boot_bool)<&>Zaa))))))),?_⟩;walk_at "wp";refine Zac (kn_int (K:=K) hk) λt1 h1 h2=>?_;refine Zac (kn_bool (K:=K) hk) λt2 h3 h4=>?_;refine Zat _ _ ⟨⟨rfl,rfl⟩,_,rfl,_,h1,_,h2,Zdm (λhc=>⟨_,_,⟨rfl,rfl⟩,_,rfl,_,h3,_,h4,?_⟩) (λhc=>?_)⟩
  .cases v <;> first|exact q|cases hc
  .cases v <;> first|exact q|exact absurd rfl hc
def frB (H:Hp):V->Bool
 | .ref a=>match H a with
  | some (.tup [.int x,.int y])=>decide (1<=y) && decide (Int.gcd x y=1)
  | _=>false
 | _=>false
def Zmy (p:Int)(H:Hp)(v:V):Bool:=if p=0 then frB H v else match v with
 | .int i=>decide (0<=i) && decide (i<p)
 | _=>false
def Zn5 (p wd:Int)(H:Hp):V->Bool
 | .ref a=>match H a with
  | some (.lst xs)=>decide ((xs.length:Int)=wd) && xs.all (Zmy p H)
  | _=>false
 | _=>false
def Zn4 (p:Int)(H:Hp):V->Bool
 | .ref a=>match H a with
  | some (.tup [.int h,.int wd,.ref r])=>match H r with
   | some (.lst rows)=>decide (0<=h) && decide (0<=wd) && decide ((rows.length:Int)=h) && rows.all (Zn5 p wd H)
   | _=>false
  | _=>false
 | _=>false
def TopV (y:V):Prop:=∀ i,y=.int i->Top i
def WfN (H:Hp)(v:V):Prop:=Kn H v/\∀ a xs,v=.ref a->H a=some (.tup xs)->∀ y∈xs,Kn H y/\TopV y
def WfR (H:Hp)(v:V):Prop:=Kn H v/\∀ a xs,v=.ref a->H a=some (.lst xs)->∀ y∈xs,WfN H y
def WfT (H:Hp)(v:V):Prop:=Kn H v/\∀ a xs,v=.ref a->H a=some (.tup xs)->∀ y∈xs,Kn H y/\∀ r rows,y=.ref r->H r=some (.lst rows)->∀ z∈rows,WfR H z
theorem Kn.back {H H':Hp}{a:Addr}{o:HO}(h:Kn H (.ref a))(s:Same H H')(e:H' a=some o):H a=some o:=by
 rcases h with h|⟨_,h⟩|⟨_,h⟩|⟨_,h⟩|⟨b,xs,h1,h2,_⟩|⟨b,xs,h1,h2,_⟩
 .cases h
 .cases h
 .cases h
 .cases h
 .cases h1;rw[s _ _ h2] at e;rw[h2,e]
 .cases h1;rw[s _ _ h2] at e;rw[h2,e]
theorem Kn.at {H H':Hp}{a:Addr}(h:Kn H (.ref a))(s:Same H H'):H' a=H a:=by
 rcases h with h|⟨_,h⟩|⟨_,h⟩|⟨_,h⟩|⟨b,xs,h1,h2,_⟩|⟨b,xs,h1,h2,_⟩
 .cases h
 .cases h
 .cases h
 .cases h
 .cases h1;rw[s _ _ h2,h2]
 .cases h1;rw[s _ _ h2,h2]
theorem WfN.same {H H':Hp}{v:V}(h:WfN H v)(s:Same H H'):WfN H' v:=
 ⟨h.1.same s,λa xs e1 e2 y hy=>by subst e1;exact⟨(h.2 a xs rfl (h.1.back s e2) y hy).1.same s,(h.2 a xs rfl (h.1.back s e2) y hy).2⟩⟩
theorem WfR.same {H H':Hp}{v:V}(h:WfR H v)(s:Same H H'):WfR H' v:=
 ⟨h.1.same s,λa xs e1 e2 y hy=>by subst e1;exact (h.2 a xs rfl (h.1.back s e2) y hy).same s⟩
theorem Zj9 {H H':Hp}{p:Int}{v:V}(h:WfN H v)(s:Same H H'):Zmy p H' v=Zmy p H v:=by
 unfold Zmy;split
 .cases v <;> try rfl
  simp only[frB,h.1.at s]
 .rfl
theorem Ziv {α:Type}{f g:α->Bool}:∀ {xs:List α},(∀ x∈xs,f x=g x)->xs.all f=xs.all g
 | [],_=>rfl
 | x::xs,h=>by
  rw[Jdu,Jdu,h x Jb5,Ziv λy hy=>h y (Jbn _ hy)]
theorem Zpa {H H':Hp}{p wd:Int}{v:V}(h:WfR H v)(s:Same H H'):Zn5 p wd H' v=Zn5 p wd H v:=by
 cases v <;> try rfl
 rename_i a
 simp only[Zn5,h.1.at s];split
 .rename_i xs e
  rw[Ziv λy hy=>Zj9 (h.2 a xs rfl e y hy) s]
 .rfl
theorem tu_of {H:Hp}{v:V}(h:Kn H v)(ht:Zqh H v=true):∃ a xs,v=.ref a/\H a=some (.tup xs)/\xs.length<=1000:=by
 rcases h with rfl|⟨b,rfl⟩|⟨i,rfl⟩|⟨z,rfl⟩|⟨a,xs,rfl,h2,_⟩|h
 .cases ht
 .cases ht
 .cases ht
 .cases ht
 .simp only [Zqh,h2] at ht;cases ht
 .exact h
theorem li_of {H:Hp}{v:V}(h:Kn H v)(ht:Zth H v=true):∃ a xs,v=.ref a/\H a=some (.lst xs)/\xs.length<=1000:=by
 rcases h with rfl|⟨b,rfl⟩|⟨i,rfl⟩|⟨z,rfl⟩|h|⟨a,xs,rfl,h2,_⟩
 .cases ht
 .cases ht
 .cases ht
 .cases ht
 .exact h
 .simp only [Zth,h2] at ht;cases ht
theorem Zoe {v:V}(h:whB v=true):∃ i,v=.int i:=by
 cases v <;> first|exact⟨_,rfl⟩|cases h
theorem frB_noT {H:Hp}{v:V}(h:Zqh H v=false):frB H v=false:=by
 cases v <;> try rfl
 simp only[Zqh] at h;simp only[frB];split
 .rename_i e;rw[e] at h;cases h
 .rfl
theorem frB_len {H:Hp}{a:Addr}{xs:List V}(h:H a=some (.tup xs))(hl:xs.length≠2):frB H (.ref a)=false:=by
 simp only[frB,h];split
 .rename_i e;cases e;exact absurd rfl hl
 .rfl
theorem Zqw {H:Hp}{a:Addr}{x y:V}(h:H a=some (.tup [x,y]))(hw:whB x=false\/whB y=false):frB H (.ref a)=false:=by
 simp only[frB,h];split
 .rename_i e
  cases e;rcases hw with hw|hw <;> cases hw
 .rfl
theorem Zm9 {H:Hp}{a:Addr}{x y:Int}(h:H a=some (.tup [.int x,.int y])):frB H (.ref a)=(decide (1<=y) && decide (Int.gcd x y=1)):=by
 simp only[frB,h]
def spFr:Sp:=λvs H Q _=>∃ v:V,vs=[v]/\WfN H v/\∀ H',Same H H'->Q (.bl (frB H v)) H'
theorem ok_fr (F:Fun K "is_fraction" "is_fraction" Zds f fd)(T:Txt K mg C G S)(Yaa:Cal P w K mg base "is_whole" 1 Zfg)(Yac:Cal P w K mg base "common_divisor" 4 Zle):FnOk P w K mg base CX0 5 f fd ["thing"] spFr:=by
 have nd:=Zey.nd;refine F.ok Zey (λvs H Q E h=>?_) (λcdv A outer s H vs Q E hr h=>?_)
 .refine Zac h λv e91 _=>?_;clear h;obtain rfl:=e91;rfl
 .refine Zal h λv e92 e93 q=>?_;clear h;obtain rfl:=e92;obtain⟨hk,hx⟩:=e93;refine⟨_,((@Za5 _ _ _ _ _ _ _ _ (PW.pt (Zcq (Za6 (Zbb (Za1 Zaw rfl T.n_isinstance Jbe ((pvr 0)<&>((Zes rfl T.n_tuple boot_tuple)<&>Zaa))))) (Zby (Zao Zd7 (Za1 Zam rfl T.n_len Jbb ((pvr 0)<&>Zaa)) Zaf (Zaj _))))) (~~~Zct) Zak)<*>((Zcr (pvr 0) (@Zcs _ _ _ _ _ 2 rfl ((1>>>nd)^^^((2>>>nd)^^^(@Za3 _))) ⇑1 ⇑1))<*>((@Za5 _ _ _ _ _ _ _ _ (PW.pt (Zcq (Za6 (Zbb (Yaa<$>hr<$>((pvr 1)<&>Zaa)))) (Zcq (Za6 (Zbb (Yaa<$>hr<$>((pvr 2)<&>Zaa)))) (Zby (Zao Zj7 (pvr 2) Zaf (Zaj _)))))) (~~~Zct) Zak)<*>(~~~(Zbr Zc8 (Yac<$>hr<$>((pvr 1)<&>((pvr 2)<&>Zaa))) Zaf (Zaj _)))))),?_⟩;walk_at "wp";refine Zac (Zuv (K:=K) hk) λt1 h1 h2=>?_;refine Zat _ _ ⟨⟨rfl,rfl⟩,_,rfl,_,h1,_,h2,?_⟩;refine Zdm (λhc=>?_) (λhc=>?_)
  .have hc:Zqh H v=false:=by simpa using hc
   rw[frB_noT hc] at q;exact q _ (Same.refl _)
  .have hc:Zqh H v=true:=by simpa using hc
   refine Zca (tu_of hk hc) λa xs e94 ha hl=>?_;obtain rfl:=e94;refine⟨a,rfl,xs,.inr (SqT.of ha),Zdm (λhn=>?_) (λhn=>?_)⟩
   .have hn:¬ xs.length=2:=by intro z;rw[z] at hn;exact absurd hn ⇑0
    rw[frB_len ha hn] at q;exact q _ (Same.refl _)
   .have hn:xs.length=2:=by
     have:((xs.length:Nat):Int)=2:=by simpa using hn
     omega
    obtain⟨x,y,rfl⟩:∃ x y,xs=[x,y]:=by
     match xs,hn with
     | [x,y],_=>exact⟨x,y,rfl⟩
    refine⟨a,rfl,_,SqT.of ha,rfl,_,_,rfl,_,_,rfl,rfl,x,rfl,(hx a _ rfl ha x (by simp)).1,_,rfl,Zdm (λh1=>?_) (λh1=>?_)⟩
    .rw [Zqw ha (.inl (by simpa using h1))] at q;exact q _ (Same.refl _)
    .obtain ⟨i,rfl⟩:=Zoe (v:=x) (by simpa using h1);refine⟨y,rfl,(hx a _ rfl ha y (by simp)).1,_,rfl,Zdm (λh2=>?_) (λh2=>?_)⟩
     .rw [Zqw ha (.inr (by simpa using h2))] at q;exact q _ (Same.refl _)
     .obtain ⟨j,rfl⟩:=Zoe (v:=y) (by simpa using h2);rw[Zm9 ha] at q;refine⟨j,rfl,Zdm (λh3=>?_) (λh3=>?_)⟩
      .have h3:=Jbm h3;rw[Ja3 (show ¬ 1<=j by omega)] at q;exact q _ (Same.refl _)
      .have h3:¬ j<1:=λz=>h3 (Jal z);refine Zat i j ⟨rfl,(hx a _ rfl ha _ (by simp)).2 i rfl,(hx a _ rfl ha _ (by simp)).2 j rfl,λH' s'=>⟨rfl,?_⟩⟩;rw[Jal (show 1<=j by omega)] at q;have:decide (V.int (Int.gcd i j:Int)=V.int 1)=decide (Int.gcd i j=1):=by
        simp only[V.int.injEq];by_cases e:Int.gcd i j=1
        .rw [Jal e,Jal ∅]
        .rw [Ja3 e,Ja3 ∅]
       rw[this];exact q _ s'
def spIsN (G:Addr):Sp:=λvs H Q _=>∃ (g:Addr) (p:Int) (v:V),vs=[.ref g,v]/\GAt G H g p/\GroundP p/\WfN H v/\∀ H',Same H H'->Q (.bl (Zmy p H v)) H'
theorem numB_pr {p:Int}{H:Hp}{v:V}(hp:¬ p=0)(h:whB v=false):Zmy p H v=false:=by
 unfold Zmy;rw[if_neg hp];cases v <;> first|rfl|cases h
theorem Zmx {p i:Int}{H:Hp}(hp:¬ p=0):Zmy p H (.int i)=(decide (0<=i) && decide (i<p)):=by
 unfold Zmy;rw[if_neg hp]
theorem Zp4 {p:Int}{H:Hp}{v:V}(hp:p=0):Zmy p H v=frB H v:=by
 unfold Zmy;rw[if_pos hp]
theorem ok_isn (F:Fun K "is_number" "Ground.is_number" Zbz f fd)(T:Txt K mg C G S)(Yaa:Cal P w K mg base "is_whole" 1 Zfg)(Ya5:Cal P w K mg base "is_fraction" 5 spFr):FnOk P w K mg base CX0 6 f fd ["self","thing"] (spIsN G):=by
 have nd:=Zck.nd;refine F.ok Zck (λvs H Q E h=>?_) (λcdv A outer s H vs Q E hr h=>?_)
 .refine Zeq h λg p v e95 _=>?_;clear h;obtain rfl:=e95;rfl
 .refine Zda h λg p v e96 e97 hp e98=>?_;clear h;obtain rfl:=e96;obtain⟨dx,hg⟩:=e97;obtain⟨hw,q⟩:=e98;refine⟨_,((@Za5 _ _ _ _ _ _ _ _ (Zao Zc8 (Za8 (pvr 0) rfl) Zaf (Zaj _)) (~~~(Ya5<$>hr<$>((pvr 1)<&>Zaa))) Zak)<*>(~~~(Zei (Yaa<$>hr<$>((pvr 1)<&>Zaa)) (Zeh (Zmt Znq Zj7 Zaf (pvr 1) (Za8 (pvr 0) rfl)))))),?_⟩;walk_at "wp";refine Zb4 G dx _ ⟨hg,T.cl_Ground,T.nP,_,Zbq p,rfl,Zdm (λhc=>?_) (λhc=>?_)⟩
  .have hp0:p=0:=by simpa using hc
   rw[Zp4 hp0] at q;exact⟨v,rfl,hw,q⟩
  .have hp0:¬ p=0:=by simpa using hc
   refine⟨v,rfl,hw.1,_,rfl,Zdm (λh1=>?_) (λh1=>?_)⟩
   .obtain ⟨i,rfl⟩:=Zoe h1;rw[Zmx hp0] at q;refine⟨i,rfl,Zdm (λh2=>⟨G,dx,_,hg,T.cl_Ground,T.nP,_,Zbq p,i,rfl,p,rfl,?_⟩) (λh2=>?_)⟩
    .rw [h2,Jef] at q;exact q _ (Same.refl _)
    .rw [show decide (0<=i)=false by simpa using h2,Jes] at q;exact q _ (Same.refl _)
   .rw [numB_pr hp0 (by simpa using h1)] at q;exact q _ (Same.refl _)
theorem Zu4 {f:V->Bool}(xs:List V):((List.range xs.length).map λi=>f (xs.getD i .non)).all id=xs.all f:=by
 rw[Jbr,Jay,Jay];constructor
 .intro h x hx;obtain⟨i,hi,rfl⟩:=Jan.mp hx;have:=h (f (xs.getD i .non)) (Jau.mpr ⟨i,Jbk.mpr hi,rfl⟩);simpa [hi] using this
 .intro h b hb;refine Zac (Jau.mp hb) λi hi e99=>?_;obtain rfl:=e99;have hi:=Jbk.mp hi;simpa [hi] using h _ (Jbd hi)
theorem Zqs {xs:List V}{i:Nat}{x:V}(h:xs[i]?=some x):xs.getD i .non=x:=by rw[Jad,h];rfl
def Zot (G:Addr):Sp:=λvs H Q _=>∃ (g:Addr) (p wd:Int) (v:V),vs=[.ref g,.int wd,v]/\GAt G H g p/\GroundP p/\WfR H v/\∀ H',Same H H'->Q (.bl (Zn5 p wd H v)) H'
theorem Zsf {p wd:Int}{H:Hp}{v:V}(h:Zth H v=false):Zn5 p wd H v=false:=by
 cases v <;> try rfl
 simp only[Zth] at h;simp only[Zn5];split
 .rename_i e;rw[e] at h;cases h
 .rfl
theorem Zpb {p wd:Int}{H:Hp}{a:Addr}{xs:List V}(h:H a=some (.lst xs)):Zn5 p wd H (.ref a)=(decide ((xs.length:Int)=wd) && xs.all (Zmy p H)):=by
 simp only[Zn5,h]
theorem Zs0 (F:Fun K "is_row" "is_row" Zi7 f fd)(T:Txt K mg C G S)(Ybj:CalM P w K mg base G "is_number" 6 (spIsN G)):FnOk P w K mg base CX0 7 f fd ["ground","wide","thing"] (Zot G):=by
 have nd:=Zj1.nd;refine F.ok Zj1 (λvs H Q E h=>?_) (λcdv A outer s H vs Q E hr h=>?_)
 .refine Zg1 h λg p wd v e910 _=>?_;clear h;obtain rfl:=e910;rfl
 .refine Zcd h λg p wd v e911 e912 hp e913=>?_;clear h;obtain rfl:=e911;obtain⟨dx,hg⟩:=e912;obtain⟨⟨hk,hx⟩,q⟩:=e913;refine⟨_,((@Za5 _ _ _ _ _ _ _ _ (PW.pt (Zcq (Za6 (Zbb (Za1 Zaw rfl T.n_isinstance Jbe ((pvr 2)<&>((Zes rfl T.n_list Jdv)<&>Zaa))))) (Zby (Zao Zd7 (Za1 Zam rfl T.n_len Jbb ((pvr 2)<&>Zaa)) (pvr 1) (Zaj _))))) (~~~Zct) Zak)<*>(~~~(Za1 (Zb9 rfl) rfl T.n_all Jee ((Zaz (own:=["number"]) (fr:=[("ground",0)]) rfl (Zbo (by kernel_rfl)) (Za0 (pv 2)) (λ_ _ _ _=>⟨(0<<<["number","ground"]),Zax,(pe_mth T.cl_Ground Ybj hr.m (pv 1) ((pv 0)<&>Zaa))⟩))<&>Zaa)))),?_⟩;walk_at "wp";refine Zac (Zqb (K:=K) hk) λt1 h1 h2=>?_;refine Zat _ _ ⟨⟨rfl,rfl⟩,_,rfl,_,h1,_,h2,Zdm (λhc=>?_) (λhc=>?_)⟩
  .rw [Zsf (by simpa using hc)] at q;exact q H (Same.refl _)
  .refine Zca (li_of hk (by simpa using hc)) λa xs e914 ha hl=>?_;obtain rfl:=e914;rw[Zpb ha] at q;refine⟨a,rfl,xs,.inl (SqL.of ha),Zdm (λhn=>?_) (λhn=>?_)⟩
   .rw [show decide ((xs.length:Int)=wd)=false by simpa using hn,Jes] at q;exact q H (Same.refl _)
   .rw [show decide ((xs.length:Int)=wd)=true by simpa using hn,Jef] at q;refine⟨_,rfl,a,rfl,⟨_,SqL.of ha⟩,λD hD=>Zfq (λi=>Zmy p H (xs.getD i .non)) ha hD ∅ (λi y H' Q' hy s' q'=>?_) λH' s' e'=>⟨D,rfl,_,SqL.of e',?_⟩⟩
    .have wy:=hx a xs rfl ha y (Jae hy);refine⟨_,rfl,g,dx,_,rfl,s' _ _ hg,Zm5 _ ⋯,_,rfl,g,p,y,rfl,⟨dx,s' _ _ hg⟩,hp,wy.same s',?_⟩;rw[Zj9 wy s',<- Zqs hy];exact λH2 s2=>q' H2 s2
    .rw [Zu4];exact q H' s'
def Zos (G:Addr):Sp:=λvs H Q _=>∃ (g:Addr) (p:Int) (v:V),vs=[.ref g,v]/\GAt G H g p/\GroundP p/\WfT H v/\∀ H',Same H H'->Q (.bl (Zn4 p H v)) H'
theorem Zr1 {p:Int}{H:Hp}{v:V}(h:Zqh H v=false):Zn4 p H v=false:=by
 cases v <;> try rfl
 simp only[Zqh] at h;simp only[Zn4];split
 .rename_i e;rw[e] at h;cases h
 .rfl
theorem Zr2 {p:Int}{H:Hp}{a:Addr}{xs:List V}(h:H a=some (.tup xs))(hl:xs.length≠3):Zn4 p H (.ref a)=false:=by
 simp only[Zn4,h];split
 .rename_i e;cases e;exact absurd rfl hl
 .rfl
theorem Zid {p:Int}{H:Hp}{a:Addr}{x y z:V}(h:H a=some (.tup [x,y,z]))(hw:whB x=false\/whB y=false):Zn4 p H (.ref a)=false:=by
 simp only[Zn4,h];split
 .rename_i e
  cases e;rcases hw with hw|hw <;> cases hw
 .rfl
theorem Zg6 {p:Int}{H:Hp}{a:Addr}{i j:Int}{z:V}(h:H a=some (.tup [.int i,.int j,z]))(hw:(i<0\/j<0)\/Zth H z=false):Zn4 p H (.ref a)=false:=by
 simp only[Zn4,h];split
 .rename_i e
  cases e;split
  .rename_i rows e2
   rcases hw with (hw|hw)|hw
   .rw [Ja3 (show ¬ 0<=i by omega)];simp
   .rw [Ja3 (show ¬ 0<=j by omega)];simp
   .simp only [Zth,e2] at hw;cases hw
  .rfl
 .rfl
theorem Zjs {p:Int}{H:Hp}{a r:Addr}{i j:Int}{rows:List V}(h:H a=some (.tup [.int i,.int j,.ref r]))(hr:H r=some (.lst rows))(h0:¬ i<0)(h1:¬ j<0):Zn4 p H (.ref a)=(decide ((rows.length:Int)=i) && rows.all (Zn5 p j H)):=by
 simp only[Zn4,h,hr];rw[Jal (show 0<=i by omega),Jal (show 0<=j by omega)];rfl
theorem Zsz (F:Fun K "is_table" "is_table" Zf2 f fd)(T:Txt K mg C G S)(Yaa:Cal P w K mg base "is_whole" 1 Zfg)(Ybd:Cal P w K mg base "is_row" 7 (Zot G)):FnOk P w K mg base CX0 8 f fd ["ground","thing"] (Zos G):=by
 have nd:=Zhb.nd;refine F.ok Zhb (λvs H Q E h=>?_) (λcdv A outer s H vs Q E hr h=>?_)
 .refine Zeq h λg p v e915 _=>?_;clear h;obtain rfl:=e915;rfl
 .refine Zda h λg p v e916 e917 hp e918=>?_;clear h;obtain rfl:=e916;obtain⟨dx,hg⟩:=e917;obtain⟨⟨hk,hx⟩,q⟩:=e918;refine⟨_,((@Za5 _ _ _ _ _ _ _ _ (PW.pt (Zcq (Za6 (Zbb (Za1 Zaw rfl T.n_isinstance Jbe ((pvr 1)<&>((Zes rfl T.n_tuple boot_tuple)<&>Zaa))))) (Zby (Zao Zd7 (Za1 Zam rfl T.n_len Jbb ((pvr 1)<&>Zaa)) Zaf (Zaj _))))) (~~~Zct) Zak)<*>((Zcr (pvr 1) (@Zcs _ _ _ _ _ 3 rfl ((2>>>nd)^^^((@Zad _ _ 3 _ nd rfl (Or.inr rfl) (Or.inl rfl))^^^((4>>>nd)^^^(@Za3 _)))) ⇑1 ⇑1))<*>((@Za5 _ _ _ _ _ _ _ _ (PW.pt (Zcq (Za6 (Zbb (Yaa<$>hr<$>((pvr 2)<&>Zaa)))) (Zcq (Za6 (Zbb (Yaa<$>hr<$>((pvr 3)<&>Zaa)))) (Zcq (Zao Zj7 (pvr 2) Zaf (Zaj _)) (Zby (Zao Zj7 (pvr 3) Zaf (Zaj _))))))) (~~~Zct) Zak)<*>((@Za5 _ _ _ _ _ _ _ _ (PW.pt (Zcq (Za6 (Zbb (Za1 Zaw rfl T.n_isinstance Jbe ((pvr 4)<&>((Zes rfl T.n_list Jdv)<&>Zaa))))) (Zby (Zao Zd7 (Za1 Zam rfl T.n_len Jbb ((pvr 4)<&>Zaa)) (pvr 2) (Zaj _))))) (~~~Zct) Zak)<*>(~~~(Za1 (Zb9 rfl) rfl T.n_all Jee ((Zaz (own:=["row"]) (fr:=[("ground",0),("wide",3)]) rfl (Zbo (by kernel_rfl)) (Za0 (pv 4)) (λ_ _ _ _=>⟨(0<<<["row","ground","wide"]),Zax,(Ybd<$>hr<$>((pv 1)<&>((pv 2)<&>((pv 0)<&>Zaa))))⟩))<&>Zaa))))))),?_⟩;walk_at "wp";refine Zac (Zuv (K:=K) hk) λt1 h1 h2=>?_;refine Zat _ _ ⟨⟨rfl,rfl⟩,_,rfl,_,h1,_,h2,Zdm (λhc=>?_) (λhc=>?_)⟩
  .rw [Zr1 (by simpa using hc)] at q;exact q H (Same.refl _)
  .refine Zca (tu_of hk (by simpa using hc)) λa xs e919 ha hl=>?_;obtain rfl:=e919;refine⟨a,rfl,xs,.inr (SqT.of ha),Zdm (λhn=>?_) (λhn=>?_)⟩
   .have hn:¬ xs.length=3:=by intro z;rw[z] at hn;exact absurd hn ⇑0
    rw[Zr2 ha hn] at q;exact q H (Same.refl _)
   .have hn:xs.length=3:=by
     have:((xs.length:Nat):Int)=3:=by simpa using hn
     omega
    obtain⟨x,y,z,rfl⟩:∃ x y z,xs=[x,y,z]:=by
     match xs,hn with
     | [x,y,z],_=>exact⟨x,y,z,rfl⟩
    have kx:=(hx a _ rfl ha x (by simp)).1;have ky:=(hx a _ rfl ha y (by simp)).1;obtain⟨kz,hz⟩:=hx a _ rfl ha z (by simp);refine⟨a,rfl,_,SqT.of ha,rfl,_,_,rfl,_,_,rfl,_,_,rfl,rfl,x,rfl,kx,_,rfl,Zdm (λh1=>?_) (λh1=>?_)⟩
    .rw [Zid ha (.inl (by simpa using h1))] at q;exact q H (Same.refl _)
    .obtain ⟨i,rfl⟩:=Zoe (v:=x) (by simpa using h1);refine⟨y,rfl,ky,_,rfl,Zdm (λh2=>?_) (λh2=>?_)⟩
     .rw [Zid ha (.inr (by simpa using h2))] at q;exact q H (Same.refl _)
     .obtain ⟨j,rfl⟩:=Zoe (v:=y) (by simpa using h2);refine⟨i,rfl,Zdm (λh3=>?_) (λh3=>⟨j,rfl,Zdm (λh4=>?_) (λh4=>?_)⟩)⟩
      .rw [Zg6 ha (.inl (.inl (Jbm h3)))] at q;exact q H (Same.refl _)
      .rw [Zg6 ha (.inl (.inr (Jbm h4)))] at q;exact q H (Same.refl _)
      .have h3:¬ i<0:=λz=>h3 (Jal z);have h4:¬ j<0:=λz=>h4 (Jal z);refine Zac (Zqb (K:=K) kz) λt3 h5 h6=>?_;refine Zat _ _ ⟨⟨rfl,rfl⟩,_,rfl,_,h5,_,h6,Zdm (λhc2=>?_) (λhc2=>?_)⟩
       .rw [Zg6 ha (.inr (by simpa using hc2))] at q;exact q H (Same.refl _)
       .refine Zca (li_of kz (by simpa using hc2)) λr rows e920 hr1 hrl=>?_;obtain rfl:=e920;rw[Zjs ha hr1 h3 h4] at q;have ed:decide (V.int ((rows.length:Nat):Int)=V.int i)=decide ((rows.length:Int)=i):=by simp only[V.int.injEq]
        refine⟨r,rfl,rows,.inl (SqL.of hr1),rfl,Zdm (λhn2=>?_) (λhn2=>?_)⟩
        .rw [ed] at hn2;rw[show decide ((rows.length:Int)=i)=false by simpa using hn2,Jes] at q;exact q H (Same.refl _)
        .rw [ed] at hn2;rw[show decide ((rows.length:Int)=i)=true by simpa using hn2,Jef] at q;refine⟨_,rfl,r,rfl,⟨_,SqL.of hr1⟩,λD hD=>Zfq (λk=>Zn5 p j H (rows.getD k .non)) hr1 hD ∅ (λk y H' Q' hy s' q'=>?_) λH' s' e'=>⟨D,rfl,_,SqL.of e',?_⟩⟩
         .have wy:=hz r rows rfl hr1 y (Jae hy);refine⟨_,rfl,_,rfl,_,rfl,g,p,j,y,rfl,⟨dx,s' _ _ hg⟩,hp,wy.same s',λH2 s2=>?_⟩;rw[Zpa wy s',<- Zqs hy];exact q' H2 s2
         .rw [Zu4];exact q H' s'
def NumO (H:Hp)(p:Int)(B:Nat)(v:V):Prop:=∃ x,NumV H p v x/\Isn p x/\Bd B x
theorem NumO.same {H H':Hp}{p:Int}{B:Nat}{v:V}(h:NumO H p B v)(s:Same H H'):NumO H' p B v:=let ⟨x,a,b,c⟩:=h;⟨x,a.same s,b,c⟩
theorem NumO.put {H:Hp}{D:Addr}{l:List V}{o:HO}{p:Int}{B:Nat}{v:V}(h:NumO H p B v)(hD:H D=some (.lst l)):NumO (upd H D o) p B v:=by
 refine Zal h λx a b c=>?_;clear h;refine⟨x,?_,b,c⟩;by_cases hp:p=0
 .refine Zac (a.ref hp) λt e93 ht=>?_;obtain rfl:=e93;exact NumV.tup hp (by rw[Zah (Zet ht hD (by intro z;cases z))];exact ht)
 .obtain rfl:=a.int hp;exact NumV.of hp
theorem NumV.ext {l:Addr}{H H':Hp}{p:Int}{v:V}{x:Int×Int}(h:NumV H p v x)(b:Bag H l)(e:Ext l H H'):NumV H' p v x:=by
 by_cases hp:p=0
 .refine Zac (h.ref hp) λt e94 ht=>?_;obtain rfl:=e94;refine Zbd b λa c hb _=>?_;clear b;exact NumV.tup hp (e _ _ (Zet ht hb (by intro z;cases z)) ht)
 .obtain rfl:=h.int hp;exact NumV.of hp
theorem NumO.ext {l:Addr}{H H':Hp}{p:Int}{B:Nat}{v:V}(h:NumO H p B v)(b:Bag H l)(e:Ext l H H'):NumO H' p B v:=let ⟨x,a,c,d⟩:=h;⟨x,a.ext b e,c,d⟩
def RowO (H:Hp)(p:Int)(B:Nat)(wd:Int)(a:Addr):Prop:=∃ xs,H a=some (.lst xs)/\(xs.length:Int)=wd/\∀ x∈xs,NumO H p B x
theorem RowO.same {H H':Hp}{p wd:Int}{B:Nat}{a:Addr}(h:RowO H p B wd a)(s:Same H H'):RowO H' p B wd a:=let ⟨xs,h1,h2,h3⟩:=h;⟨xs,s _ _ h1,h2,λx hx=>(h3 x hx).same s⟩
theorem RowO.ext {l:Addr}{H H':Hp}{p wd:Int}{B:Nat}{a:Addr}(h:RowO H p B wd a)(b:Bag H l)(e:Ext l H H')(n:a≠l):RowO H' p B wd a:=let ⟨xs,h1,h2,h3⟩:=h;⟨xs,e _ _ n h1,h2,λx hx=>(h3 x hx).ext b e⟩
theorem RowO.put {H:Hp}{D:Addr}{l:List V}{o:HO}{p wd:Int}{B:Nat}{a:Addr}(h:RowO H p B wd a)(hD:H D=some (.lst l))(n:a≠D):RowO (upd H D o) p B wd a:=let ⟨xs,h1,h2,h3⟩:=h;⟨xs,by rw[Zah n];exact h1,h2,λx hx=>(h3 x hx).put hD⟩
theorem Zbc (rs:List Addr)(a:Addr):rs.map V.ref++[.ref a]=(rs++[a]).map V.ref:=by rw[Jaz];rfl
def BB:Nat:=2 ^ 1000000
theorem pow_lt2 {a b:Nat}(h:a<b):2 ^ a<2 ^ b:=Jdg ⇑0 h
theorem pow_le2 {a b:Nat}(h:a<=b):2 ^ a<=2 ^ b:=Jcp ⇑0 h
theorem BB_lt:BB<2 ^ NB:=by
 unfold BB;exact pow_lt2 ⇑0
theorem Zl6 {n m:Nat}(h:n<2 ^ m)(hm:m<=1000000):n<=BB:=by
 unfold BB;exact Jbw (Jao h (pow_le2 hm))
theorem BB_of {n:Nat}(h:n<=100000000000000000000000000000000):n<=BB:=Zl6 (m:=120) (Jbh h ⋯) ⇑0
theorem Zm6 {rs:List Addr}{j:Nat}(h:j<rs.length):(rs.map V.ref)[j]?=some (.ref rs[j]):=by rw[Jac,Jaa h];rfl
structure Tab (H:Hp)(p:Int)(hh wd:Int)(t r:Addr)(rs:List Addr):Prop where
 tup:H t=some (.tup [.int hh,.int wd,.ref r])
 lst:H r=some (.lst (rs.map V.ref))
 len:(rs.length:Int)=hh
 row:∀ a∈rs,RowO H p BB wd a
 nin:r∉rs
theorem Tab.same {H H':Hp}{p hh wd:Int}{t r:Addr}{rs:List Addr}(h:Tab H p hh wd t r rs)(s:Same H H'):Tab H' p hh wd t r rs:=⟨s _ _ h.tup,s _ _ h.lst,h.len,λa ha=>(h.row a ha).same s,h.nin⟩
def Fl (v:V):Prop:=v=.non\/(∃ b,v=.bl b)\/(∃ i,v=.int i)\/∃ s,v=.str s
theorem Fl.kn {H:Hp}{v:V}(h:Fl v):Kn H v:=by
 rcases h with h|h|h|h
 .exact .inl h
 .exact .inr (.inl h)
 .exact .inr (.inr (.inl h))
 .exact .inr (.inr (.inr (.inl h)))
theorem Zrs {H:Hp}{v:V}(h:Kn H v)(hn:∀ a,v≠.ref a):WfN H v:=⟨h,λa xs e=>absurd e (hn a)⟩
theorem wfn_tup {H:Hp}{a:Addr}{xs:List V}(h:H a=some (.tup xs))(hl:xs.length<=1000)(hk:∀ y∈xs,Kn H y/\TopV y):WfN H (.ref a):=⟨.tup h hl,λb ys e1 e2 y hy=>by cases e1;rw[h] at e2;cases e2;exact hk y hy⟩
def Zgr (H:Hp)(v:V):Prop:=Kn H v/\∀ r rows,v=.ref r->H r=some (.lst rows)->∀ z∈rows,WfR H z
theorem NumO.wf {H:Hp}{p:Int}{B:Nat}{v:V}(h:NumO H p B v)(hB:B<=BB:=by first|exact Jah _|exact BB_of ⇑0):WfN H v:=by
 refine Zal h λx nv _ bd=>?_;clear h;by_cases hp:p=0
 .refine Zac (nv.ref hp) λt e96 ht=>?_;obtain rfl:=e96;refine wfn_tup ht (by show 2<=1000;decide) λu hu=>?_;simp only[Ja9,Jdi,or_false] at hu;rcases hu with rfl|rfl
  .exact ⟨Kn.int,λj e=>by cases e;exact Jbh (Jbi bd.1 hB) BB_lt⟩
  .exact ⟨Kn.int,λj e=>by cases e;exact Jbh (Jbi bd.2 hB) BB_lt⟩
 .obtain rfl:=nv.int hp;exact Zrs Kn.int (by intro a z;cases z)
theorem RowO.wf {H:Hp}{p wd:Int}{B:Nat}{a:Addr}(h:RowO H p B wd a)(w24:wd<=24)(hB:B<=BB:=by first|exact Jah _|exact BB_of ⇑0):WfR H (.ref a):=by
 refine Zal h λxs h1 h2 h3=>?_;clear h;exact⟨.lst h1 ∅,λb ys e1 e2 y hy=>by cases e1;rw[h1] at e2;cases e2;exact (h3 y hy).wf hB⟩
theorem wfs_lst {H:Hp}{a:Addr}{xs:List V}(h:H a=some (.lst xs))(hl:xs.length<=1000)(hk:∀ y∈xs,WfR H y):Zgr H (.ref a):=⟨.lst h hl,λb ys e1 e2 y hy=>by cases e1;rw[h] at e2;cases e2;exact hk y hy⟩
theorem wft_tup {H:Hp}{a:Addr}{xs:List V}(h:H a=some (.tup xs))(hl:xs.length<=1000)(hk:∀ y∈xs,Zgr H y):WfT H (.ref a):=⟨.tup h hl,λb ys e1 e2 y hy=>by cases e1;rw[h] at e2;cases e2;exact hk y hy⟩
theorem Zl7 {H:Hp}{v:V}(h:Fl v):Zgr H v:=⟨h.kn,λa xs e=>by subst e;rcases h with h|⟨_,h⟩|⟨_,h⟩|⟨_,h⟩ <;> cases h⟩
theorem fi {i:Int}:Fl (.int i):=.inr (.inr (.inl ⟨_,rfl⟩))
theorem fb {i:Bool}:Fl (.bl i):=.inr (.inl ⟨_,rfl⟩)
theorem Tab.wfs {H:Hp}{p hh wd:Int}{t r:Addr}{rs:List Addr}(h:Tab H p hh wd t r rs)(h24:hh<=24)(w24:wd<=24):Zgr H (.ref r):=by
 have:=h.len;exact wfs_lst h.lst (by rw[Jab];omega) λy hy=>by obtain⟨a,ha,rfl⟩:=Jau.mp hy;exact (h.row a ha).wf w24
theorem three {H:Hp}{x y z:V}(hx:Zgr H x)(hy:Zgr H y)(hz:Zgr H z):∀ u∈[x,y,z],Zgr H u:=λu hu=>by
 simp only[Ja9,Jdi,or_false] at hu;rcases hu with rfl|rfl|rfl
 .exact hx
 .exact hy
 .exact hz
theorem Tab.ext {l:Addr}{H H':Hp}{p hh wd:Int}{t r:Addr}{rs:List Addr}(h:Tab H p hh wd t r rs)(b:Bag H l)(e:Ext l H H')(nt:t≠l)(nr:r≠l)(ns:l∉rs):Tab H' p hh wd t r rs:=
 ⟨e _ _ nt h.tup,e _ _ nr h.lst,h.len,λa ha=>(h.row a ha).ext b e (λz=>ns (z ▸ ha)),h.nin⟩
theorem Tab.wft {H:Hp}{p hh wd:Int}{t r:Addr}{rs:List Addr}(h:Tab H p hh wd t r rs)(h24:hh<=24)(w24:wd<=24):WfT H (.ref t):=
 wft_tup h.tup (by show 3<=1000;decide) (three (Zl7 fi) (Zl7 fi) (h.wfs h24 w24))
theorem NumO.is {H:Hp}{p:Int}{B:Nat}{v:V}(h:NumO H p B v):Zmy p H v=true:=by
 refine Zal h λx nv ix _=>?_;clear h;by_cases hp:p=0
 .refine Zac (nv.ref hp) λt e97 ht=>?_;obtain rfl:=e97;rw[Zp4 hp,Zm9 ht];rcases ix with ⟨_,lo⟩|⟨h,_⟩
  .have:=lo.1;rw[Jal (show 1<=x.2 by omega),Jal lo.2];rfl
  .omega
 .obtain rfl:=nv.int hp;rw[Zmx hp];rcases ix with ⟨h,_⟩|⟨_,h1,h2,_⟩
  .exact absurd h hp
  .rw [Jal h1,Jal h2];rfl
theorem RowO.is {H:Hp}{p wd:Int}{B:Nat}{a:Addr}(h:RowO H p B wd a):Zn5 p wd H (.ref a)=true:=by
 refine Zal h λxs h1 h2 h3=>?_;clear h;rw[Zpb h1,Jal h2,Jef];exact Jay.mpr λx hx=>(h3 x hx).is
theorem Tab.is {H:Hp}{p hh wd:Int}{t r:Addr}{rs:List Addr}(h:Tab H p hh wd t r rs)(h0:0<=hh)(w0:0<=wd):Zn4 p H (.ref t)=true:=by
 rw[Zjs h.tup h.lst ∅ ∅,Jab,Jal h.len,Jef];exact Jay.mpr λy hy=>by obtain⟨a,ha,rfl⟩:=Jau.mp hy;exact (h.row a ha).is
theorem Zfl {H:Hp}{n:Nat}{i:Int}:EqD K H n (.int i) (.int i) true:=by
 have:=EqD.flat (K:=K) (H:=H) (n:=n) (x:=.int i) (y:=.int i) rfl rfl;rwa [show eqV (.int i) (.int i)=true by simp[eqV]] at this
structure TabC (H:Hp)(p hh wd:Int)(t r:Addr)(rs:List Addr)(M:List (List V)):Prop where
 tab:Tab H p hh wd t r rs
 con:∀ (i:Nat) (a:Addr),rs[i]?=some a->H a=some (.lst (M.getD i []))
theorem TabC.same {H H':Hp}{p hh wd:Int}{t r:Addr}{rs:List Addr}{M:List (List V)}(h:TabC H p hh wd t r rs M)(s:Same H H'):TabC H' p hh wd t r rs M:=⟨h.tab.same s,λi a e=>s _ _ (h.con i a e)⟩
def Sizes (H:Hp)(z:Addr)(ns:List Int):Prop:=H z=some (.lst (ns.map V.int))/\ns.length<=8/\∀ n∈ns,0<=n/\n<=24
theorem Sizes.same {H H':Hp}{z:Addr}{ns:List Int}(h:Sizes H z ns)(s:Same H H'):Sizes H' z ns:=⟨s _ _ h.1,h.2⟩
def spSz (C:Addr):Sp:=λvs H Q _=>∃ (d z lp:Addr) (m:Int) (xs:List V) (ns:List Int),vs=[.ref d,.ref z]/\Zd6 C H d m lp xs/\Sizes H z ns/\(ns.length:Int)=m/\∀ H',Same H H'->Q (.bl true) H'
theorem ok_sz (F:Fun K "are_sizes" "are_sizes" Zfa f fd)(T:Txt K mg C G S)(Yaa:Cal P w K mg base "is_whole" 1 Zfz):FnOk P w K mg base CX0 2 f fd ["drawing","thing"] (spSz C):=by
 have nd:=Zgi.nd;refine F.ok Zgi (λvs H Q E h=>?_) (λcdv A outer s H vs Q E hr h=>?_)
 .refine Zoc h λd z lp m xs ns e94 _=>?_;clear h;obtain rfl:=e94;rfl
 .refine xE6_4 h λd z lp m xs ns e95 e96 e97 e98=>?_;clear h;obtain rfl:=e95;obtain⟨dx,hd,hlp⟩:=e96;obtain⟨hz,h8,hn⟩:=e97;obtain⟨hm,q⟩:=e98;refine⟨_,((@Za5 _ _ _ _ _ _ _ _ (PW.pt (Zcq (Za6 (Zbb (Za1 Zaw rfl T.n_isinstance Jbe ((pvr 1)<&>((Zes rfl T.n_list Jdv)<&>Zaa))))) (Zby (Zao Zd7 (Za1 Zam rfl T.n_len Jbb ((pvr 1)<&>Zaa)) (Za8 (pvr 0) rfl) (Zaj _))))) (~~~Zct) Zak)<*>(~~~(Za1 (Zb9 rfl) rfl T.n_all Jee ((Zaz (own:=["size"]) (fr:=[]) rfl (Zbo (by kernel_rfl)) (Za0 (pv 1)) (λ_ _ _ _=>⟨(0<<<["size"]),Zax,(Zei (Yaa<$>hr<$>((pv 0)<&>Zaa)) (Zeh (Zbr op_ge (pv 0) Zaf (Zaj _))))⟩))<&>Zaa)))),?_⟩;walk_at "wp";refine Zat _ _ ⟨⟨rfl,rfl⟩,_,rfl,_,.lst hz,true,Zcu K,Zfd ⇑0 ⟨_,.inl (SqL.of hz),C,dx,_,hd,T.cl_Drawing,T.nM,_,Zfo m lp,rfl,Zfd ?_ ⟨_,rfl,z,rfl,⟨_,SqL.of hz⟩,λD hD=>Zfq (λ_=>true) hz hD (by rw[Jab];omega) (λk x H' Q' hx s' q'=>?_) λH' s' e'=>⟨D,rfl,_,SqL.of e',?_⟩⟩⟩⟩
  .rw [Jal (by rw[Jab,hm])];decide
  .rw [Jac] at hx;cases e:ns[k]? with
   | none=>rw[e] at hx;cases hx
   | some n=>
    rw[e] at hx;cases hx;have n0:=(hn n (Jae e)).1;refine⟨_,rfl,n,rfl,true,rfl,iteT ⟨_,rfl,_,_,rfl,rfl,?_⟩⟩;show Q' (V.bl (decide (0<=n))) H';rw[Jal n0];exact q' H' (Same.refl _)
  .rw [Zep];exact q H' s'
def spTo (G:Addr):Sp:=λvs H Q _=>∃ (g t r:Addr) (p hh wd:Int) (rs:List Addr),vs=[.ref g,.int hh,.int wd,.ref t]/\GAt G H g p/\GroundP p/\Tab H p hh wd t r rs/\0<=hh/\hh<=24/\0<=wd/\wd<=24/\∀ H',Same H H'->Q (.bl true) H'
theorem ok_to (F:Fun K "is_table_of" "is_table_of" Zdr f fd)(T:Txt K mg C G S)(Yai:Cal P w K mg base "is_table" 8 (Zos G)):FnOk P w K mg base CX0 9 f fd ["ground","high","wide","thing"] (spTo G):=by
 have nd:=Zex.nd;refine F.ok Zex (λvs H Q E h=>?_) (λcdv A outer s H vs Q E hr h=>?_)
 .refine xE7_2 h λg t r p hh wd rs e99 _=>?_;clear h;obtain rfl:=e99;rfl
 .refine xE7_4 h λg t r p hh wd rs e910 hg hp e911=>?_;clear h;obtain rfl:=e910;refine Zfx e911 λtb h0 h24 w0 w24 q=>?_;clear e911;refine⟨_,(~~~(Zei (Yai<$>hr<$>((pvr 0)<&>((pvr 3)<&>Zaa))) (Zei (Zbr Zc8 ((Zkh Zbk)<|>(pvr 3)<||>Zaf) (pvr 1) (Zaj _)) (Zeh (Zbr Zc8 ((Zkh Zbk)<|>(pvr 3)<||>Zaf) (pvr 2) (Zaj _)))))),?_⟩;walk_at "wp";exact Zb4 g p (.ref t) ⟨rfl,hg,hp,tb.wft h24 w24,λH1 s1=>⟨_,rfl,Zrl (tb.is h0 w0) ⟨_,SqT.of (s1 _ _ tb.tup),_,rfl,rfl,Zrl (Jal rfl) ⟨_,SqT.of (s1 _ _ tb.tup),_,rfl,rfl,by rw[Jal rfl];exact q H1 s1⟩⟩⟩⟩
theorem Zuj {cap:L2.St}{a b c:Option V}:Sh 3 cap (a::b::c::cap):=⟨[a,b,c],rfl,rfl⟩
theorem Zmh {cap σ:L2.St}(h:Sh 3 cap σ):∃ a b c,σ=a::b::c::cap:=by
 refine Zac h λo h1 e912=>?_;clear h;obtain rfl:=e912
 match o,h1 with
 | [a,b,c],_=>exact⟨a,b,c,rfl⟩
theorem Zu2 {ns:List Int}{i:Int}(h0:0<=i)(h1:i<ns.length):atI (ns.map V.int) i=some (.int (ns.getD i.toNat 0)):=by
 refine Zd5 h0 ?_;rw[Jac,Jad,Jaa (show i.toNat<ns.length by exact oz63 h0 h1)];rfl
def spTs (C G:Addr):Sp:=λvs H Q _=>∃ (g d z l lp:Addr) (p m:Int) (xs:List V) (ps:List (Int×Int)) (ns:List Int) (ts:List Addr),vs=[.ref g,.ref d,.ref z,.ref l]/\GAt G H g p/\GroundP p/\Zd6 C H d m lp xs/\Prs H xs ps/\InP m ps/\ps.length<=9/\Sizes H z ns/\(ns.length:Int)=m /\
 H l=some (.lst (ts.map V.ref))/\ts.length=ps.length/\(∀ (i:Nat) t q,ts[i]?=some t->ps[i]?=some q->∃ r rs,Tab H p (ns.getD q.2.toNat 0) (ns.getD q.1.toNat 0) t r rs)/\∀ H',Same H H'->Q (.bl true) H'
theorem ok_ts (F:Fun K "are_tables" "are_tables" Zef f fd)(T:Txt K mg C G S)(Yan:Cal P w K mg base "is_table_of" 9 (spTo G)):FnOk P w K mg base CX0 10 f fd ["ground","drawing","sizes","thing"] (spTs C G):=by
 have nd:=Zfi.nd;refine F.ok Zfi (λvs H Q E h=>?_) (λcdv A outer s H vs Q E hr h=>?_)
 .refine Zub h λg d z l lp p m xs ps ns ts e913 _=>?_;clear h;obtain rfl:=e913;rfl
 .refine Zua h λg d z l lp p m xs ps ns ts e914 hg hp e915=>?_;clear h;obtain rfl:=e914;refine Zue e915 λe916 pr ip p9 hz hm hl hlen tb q=>?_;clear e915;obtain⟨dx,hd,hlp⟩:=e916;refine⟨_,((@Za5 _ _ _ _ _ _ _ _ (PW.pt (Zcq (Za6 (Zbb (Za1 Zaw rfl T.n_isinstance Jbe ((pvr 3)<&>((Zes rfl T.n_list Jdv)<&>Zaa))))) (Zby (Zao Zd7 (Za1 Zam rfl T.n_len Jbb ((pvr 3)<&>Zaa)) (Za1 Zam rfl T.n_len Jbb ((Za8 (pvr 1) rfl)<&>Zaa)) (Zaj _))))) (~~~Zct) Zak)<*>(~~~(Za1 (Zb9 rfl) rfl T.n_all Jee ((Zaz (own:=["tail","head","table"]) (fr:=[("ground",0),("sizes",2)]) rfl (Zbo (by kernel_rfl)) (Zmq rfl T.n_zip ((Zdh (pv 1) rfl)<&>((pv 3)<&>Zaa))) (λ_ _ _ _=>⟨(@Zc7 _ K rfl _ _ _ _ 2 rfl ((@Zc7 _ K rfl _ _ _ _ 2 rfl ((0<<<["tail","head","table","ground","sizes"])^^^((1<<<["tail","head","table","ground","sizes"])^^^(@Za3 _))) ⇑1 ⇑1)^^^((2<<<["tail","head","table","ground","sizes"])^^^(@Za3 _))) ⇑1 ⇑1),Zax,(Yan<$>hr<$>((pv 3)<&>(((Zb0 K rfl)<|>(pv 4)<||>(pv 1))<&>(((Zb0 K rfl)<|>(pv 4)<||>(pv 0))<&>((pv 2)<&>Zaa)))))⟩))<&>Zaa)))),?_⟩;walk_at "wp";have hxl:=pr.1;refine Zat _ _ ⟨⟨rfl,rfl⟩,_,rfl,_,.lst hl,true,Zcu K,Zfd ⇑0 ⟨_,.inl (SqL.of hl),C,dx,_,hd,T.cl_Drawing,T.nA,_,Zcx m lp,lp,rfl,_,.inl (SqL.of hlp),Zfd ?_ ?_⟩⟩
  .rw [Jal (by rw[Jab];exact oz164 hlen hxl)];decide
  .refine ⟨_,rfl,d,C,dx,_,_,rfl,hd,T.cl_Drawing,T.nA,Zcx m lp,_,rfl,lp,l,rfl,⟨_,SqL.of hlp⟩,⟨_,SqL.of hl⟩,λD hD=>?_⟩;refine Zjl (k:=3) (xs:=xs) (ys:=ts.map V.ref) (λi vs H'=>Same H H'/\H' D=some (.lst vs)/\vs=((List.range i).map λ_=>true).map V.bl) (by rw[Jab];exact oz31 hlen hxl) ⟨Same.new hD,Zab,rfl⟩ (λi vs H' _ pv=>⟨SqL.of (pv.1 _ _ hlp),SqL.of (pv.1 _ _ hl)⟩) ?_ ?_
   .intro i x y pz vs σ' H' hi hx hy hpz sh e91;refine Za2 e91 λs' e' e917=>?_;clear e91;obtain rfl:=e917;refine xE3_1 (Zmh sh) λz1 z2 z3 e918=>?_;obtain rfl:=e918;have hi':i<ps.length:=by exact oz4 hxl hi
    have hq:ps[i]?=some ps[i]:=Jaa hi';refine Zac (pr.2 i x _ hx hq) λta e919 hta=>?_;obtain rfl:=e919;have hti:ts[i]?=some (ts[i]'(oz23 hlen hxl hi)):=Jaa (oz23 hlen hxl hi);rw[Jac,hti] at hy;cases hy;refine Zfe (tb i _ _ hti hq) λr rs tb1=>?_;refine Zch (ip _ (Jae hq)) λi0 i1 j0 j1=>?_;have s0:=s'.trans (Same.new (o:=.tup [V.ref ta,V.ref (ts[i]'(Zgm hlen hi'))]) hpz);have hz0:=hz.same s0;have a1:=Zu2 (ns:=ns) i0 (oz145 hm i1);have a2:=Zu2 (ns:=ns) j0 (oz145 hm j1);have b1:=hz.2.2 (ns.getD ps[i].1.toNat 0) (by rw[Jad,Jaa (show ps[i].1.toNat<ns.length by exact oz52 hm i0 i1)];exact Jbd _);have b2:=hz.2.2 (ns.getD ps[i].2.toNat 0) (by rw[Jad,Jaa (show ps[i].2.toNat<ns.length by exact oz52 hm j0 j1)];exact Jbd _);refine Zat pz _ ⟨rfl,SqT.of Zab,rfl,_,_,rfl,ta,_,rfl,SqT.of (s0 _ _ hta),rfl,_,_,rfl,_,_,rfl,rfl,_,_,rfl,rfl,?_⟩;simp only[Zfv,List.set_cons_zero,List.set_cons_succ,Jcm];refine⟨_,rfl,_,rfl,_,rfl,z,_,_,_,rfl,rfl,SqL.of hz0.1,a2,_,rfl,_,rfl,z,_,_,_,rfl,rfl,SqL.of hz0.1,a1,_,rfl,g,_,r,p,_,_,rs,rfl,hg.same s0,hp,tb1.same s0,b2.1,b2.2,b1.1,b1.2,λH'' s''=>?_⟩;have s1:=(Same.new (o:=.tup [V.ref ta,V.ref (ts[i]'(Zgm hlen hi'))]) hpz).trans s'';exact Zlu (ws:=((List.range (i+1)).map λ_=>true).map V.bl) hi Zuj (s1 _ _ e') (Zap (by rw[Jab,Jab,Jav];exact oz120 p9 hi')) ⟨(s'.trans s1).upd hD,by rw[Zab,Jcs,Jaz,Jaz];rfl,rfl⟩
   .intro vs H' e92;refine Za2 e92 λs' e' e920=>?_;clear e92;obtain rfl:=e920;exact⟨D,rfl,_,SqL.of e',by rw[Zep];exact q H' s'⟩
def TabF (H0 H:Hp)(p hh wd:Int)(t:Addr)(M:List (List V)):Prop:=∃ r rs,TabC H p hh wd t r rs M/\H0 t=none/\H0 r=none/\∀ a∈rs,H0 a=none
def Tbs (H:Hp)(p:Int)(l:Addr)(ts:List Addr)(cs:List (Int×Int×List (List V))):Prop:=H l=some (.lst (ts.map V.ref))/\ts.length=cs.length/\cs.length<=9/\∀ (i:Nat) t c,ts[i]?=some t->cs[i]?=some c->(∃ r rs,TabC H p c.1 c.2.1 t r rs c.2.2)/\0<=c.1/\c.1<=24/\0<=c.2.1/\c.2.1<=24
theorem TabC.put {H:Hp}{p hh wd:Int}{t r D:Addr}{rs:List Addr}{M:List (List V)}{l:List V}{o:HO}(h:TabC H p hh wd t r rs M)(hD:H D=some (.lst l))(nr:r≠D)(ns:D∉rs):TabC (upd H D o) p hh wd t r rs M:=by
 have nt:t≠D:=Zet h.tab.tup hD (by intro z;cases z);have na:∀ a∈rs,a≠D:=λa ha z=>ns (z ▸ ha);exact⟨⟨by rw[Zah nt];exact h.tab.tup,by rw[Zah nr];exact h.tab.lst,h.tab.len,λa ha=>(h.tab.row a ha).put hD (na a ha),h.tab.nin⟩,λi a e=>by rw[Zah (na a (Jae e))];exact h.con i a e⟩
abbrev teRow (K:Frag):TE:=tCB (λxs H Q=>∃ p,xs=[V.ref p]/\∃ x,(SqL K H p x\/SqT K H p x)/\∀ (l:Addr),H l=none->Q (V.ref l) (upd H l (HO.lst x))) (Zi1 (Zfy 0) tNil)
abbrev teTab (K:Frag):TE:=tTup (Zi1 (Zfy 0) (Zi1 (Zfy 1) (Zi1 (tComp 1 [] (Zqp K (Zfy 2)) (Zbh 0) Zfv (teRow K)) tNil)))
theorem Zq2 {r D:Addr}{rs:List Addr}{M:List (List V)}{fr:List (Str×Nat)}{σ:L2.St}{H1:Hp}{Q:VK}(hr:H1 r=some (.lst (rs.map V.ref)))(hc:∀ (i:Nat) (a:Addr),rs[i]?=some a->H1 a=some (.lst (M.getD i [])))(hn:rs.length<=100)(hD:H1 D=none)(hQ:∀ (rs':List Addr) H',Same H1 H'->H' D=some (.lst (rs'.map V.ref))->rs'.length=rs.length->(∀ (i:Nat) (a:Addr),rs'[i]?=some a->H' a=some (.lst (M.getD i [])))->(∀ a∈rs',H1 a=none/\a≠D)->rs'.Nodup->Q (.ref D) H'):
  Zbv (Zbh 0) Zfv (teRow K) (Itl K r) D (Zgq 1 fr σ) H1 Q:=by
 refine Zfp (xs:=rs.map V.ref) (λi vs H=>∃ rs':List Addr,vs=rs'.map V.ref/\Same H1 H/\H D=some (.lst vs)/\rs'.length=i/\(∀ (j:Nat) (a:Addr),rs'[j]?=some a->H a=some (.lst (M.getD j [])))/\(∀ a∈rs',H1 a=none/\a≠D)/\rs'.Nodup)
  ⟨[],rfl,Same.new hD,Zab,rfl,λj a e=>by simp at e,(λa ha=>by simp at ha),List.nodup_nil⟩ (λi vs H _ ⟨_,_,s,_⟩=>SqL.of (s _ _ hr)) ?_ (λvs H ⟨rs',hv,s,e,hl,hc',fr',nd'⟩=>hQ rs' H s (hv ▸ e) (by rw[hl,Jab]) hc' fr' nd')
 intro i x vs σ' H hi hx sh e91;refine Zrq e91 λrs' e93 s e hl hc' e94=>?_;clear e91;obtain rfl:=e93;obtain⟨fr',nd'⟩:=e94;obtain⟨z,rfl⟩:=sh.one;rw[Jab] at hi;rw[Zm6 hi] at hx;cases hx;have ha:=s _ _ (hc i _ (Jaa hi));simp only[Zer,Zbh,Zfv,List.set_cons_zero,Jcm];refine⟨_,rfl,_,rfl,_,.inl (SqL.of ha),λc hc0=>?_⟩;have nDc:D≠c:=Zai e hc0;have hDc:(upd H c (.lst (M.getD i []))) D=some (.lst (rs'.map V.ref)):=by rw[Zah nDc];exact e
 have sc:=s.trans (Same.new (o:=.lst (M.getD i [])) hc0);refine Zlu (ws:=rs'.map V.ref++[.ref c]) (by rw[Jab];exact hi) Sh.mk1 hDc (Zap (by rw[Jab];omega)) ⟨rs'++[c],Zbc _ _,sc.upd hD,by rw[Zab,Zbc],by rw[Jam,hl];rfl,λj a ej=>?_,λa ha=>?_,?_⟩
 .by_cases hj:j<rs'.length
  .rw [Jax hj] at ej;have:=hc' j a ej;have naD:=(fr' a (Jae ej)).2;rw[Zah naD,Zah (Zai this hc0)];exact this
  .rw [Jaw (Zmu hj)] at ej;have hj0:j-rs'.length=0:=by
    by_cases z:j-rs'.length=0
    .exact z
    .rw [Jai (by simp;exact oz11 z)] at ej;cases ej
   rw[hj0] at ej;cases ej;rw[Zah nDc.symm,Zab,show j=i by exact oz8 hl hj hj0]
 .rcases Jar.mp ha with ha|ha
  .exact fr' a ha
  .rw [Jaq.mp ha];exact⟨s.free hc0,nDc.symm⟩
 .refine Jd3.mpr ⟨nd',by simp,λa ha b hb z=>?_⟩;rw[Jaq.mp hb] at z;subst z;obtain⟨j,hj,rfl⟩:=Jan.mp ha;have:=hc' j _ (Jaa hj);rw[hc0] at this;cases this
def Sep (H:Hp)(D:Addr)(ts:List Addr):Prop:=∃ rr:List (Addr×List Addr),rr.length=ts.length/\(∀ (i:Nat) t x,ts[i]?=some t->rr[i]?=some x->(∃ h w:V,H t=some (.tup [h,w,.ref x.1]))/\H x.1=some (.lst (x.2.map V.ref)))/\(∀ x∈rr,x.1≠D/\D∉x.2)/\(∀ x∈rr,∀ y∈rr,x.1∉y.2)/\(rr.map (·.2)).flatten.Nodup
theorem Zq1 {l D:Addr}{p:Int}{ts:List Addr}{cs:List (Int×Int×List (List V))}{fr:List (Str×Nat)}{σ:L2.St}{H1:Hp}{Q:VK}(hT:Tbs H1 p l ts cs)(hD:H1 D=none)(hQ:∀ (ts':List Addr) H',Same H1 H'->H' D=some (.lst (ts'.map V.ref))->ts'.length=cs.length->(∀ (i:Nat) t c,ts'[i]?=some t->cs[i]?=some c->TabF H1 H' p c.1 c.2.1 t c.2.2)->Sep H' D ts'->Q (.ref D) H'):
  Zbv (gTup K 3 (Zkk (Zbh 0) (Zkk (Zbh 1) (Zkk (Zbh 2) gNil)))) Zfv (teTab K) (Itl K l) D (Zgq 3 fr σ) H1 Q:=by
 refine Zch hT λhl hlen h9 hc=>?_;clear hT;refine Zfp (k:=3) (xs:=ts.map V.ref) (λi vs H=>∃ (ts':List Addr) (rr:List (Addr×List Addr)),vs=ts'.map V.ref/\Same H1 H/\H D=some (.lst vs)/\ts'.length=i/\rr.length=i/\((∀ x∈rr,∀ y∈rr,x.1∉y.2)/\(rr.map (·.2)).flatten.Nodup)/\(∀ x∈rr,x.1≠D/\D∉x.2/\(∃ o,H x.1=some o)/\∀ a∈x.2,∃ o,H a=some o)/\∀ (j:Nat) t c x,ts'[j]?=some t->cs[j]?=some c->rr[j]?=some x->TabC H p c.1 c.2.1 t x.1 x.2 c.2.2/\H1 t=none/\H1 x.1=none/\∀ a∈x.2,H1 a=none)
  ⟨[],[],rfl,Same.new hD,Zab,rfl,rfl,⟨by simp,by simp⟩,by simp,λj t c x e=>by simp at e⟩ (λi vs H _ ⟨_,_,_,s,_⟩=>SqL.of (s _ _ hl)) ?_ (λvs H ⟨ts',rr,hv,s,e,hl',hrr,sp,sD,hc'⟩=>?_)
 rotate_left
 .have hrl:rr.length=ts'.length:=by exact oz17 hl' hrr
  have htl:ts'.length=cs.length:=by rw[hl',Jab,hlen]
  refine hQ ts' H s (hv ▸ e) htl (λi t c e1 e2=>?_) ⟨rr,hrl,λi t x e1 e2=>?_,λx hx=>⟨(sD x hx).1,(sD x hx).2.1⟩,sp⟩
  .have hi:i<rr.length:=by have:=(Jaf.mp e1).1;exact oz5 hl' hrr this
   refine Zch (hc' i t c _ e1 e2 (Jaa hi)) λa1 a2 a3 a4=>?_;exact Zat _ _ ⟨a1,a2,a3,a4⟩
  .have hi:i<cs.length:=by have:=(Jaf.mp e1).1;exact oz4 htl this
   obtain⟨a1,_⟩:=hc' i t _ x e1 (Jaa hi) e2;exact⟨⟨_,_,a1.tab.tup⟩,a1.tab.lst⟩
 intro i x vs σ' H hi hx sh e92;refine Zg2 e92 λts' rr e95 s e hl' hrr e96=>?_;clear e92;obtain rfl:=e95;refine Za2 e96 λsp sD hc'=>?_;clear e96;refine xE3_1 (Zmh sh) λz1 z2 z3 e97=>?_;obtain rfl:=e97;rw[Jab] at hi;rw[Zm6 hi] at hx;cases hx;have hci:cs[i]?=some (cs[i]'(oz4 hlen hi)):=Jaa (oz4 hlen hi);refine Zdn (hc i _ _ (Jaa hi) hci) λe98 c0 c24 w0 w24=>?_;obtain⟨r,rs,tc⟩:=e98;have tcH:=tc.same s;have hrl:=tc.tab.len;refine Zat _ _ ⟨rfl,SqT.of tcH.tab.tup,rfl,_,_,rfl,_,_,rfl,_,_,rfl,rfl,?_⟩;simp only[Zfv,List.set_cons_zero,List.set_cons_succ,Jcm];refine⟨_,rfl,_,rfl,_,rfl,r,rfl,⟨_,SqL.of tcH.tab.lst⟩,λD2 hD2=>Zq2 (M:=(cs[i]'(oz4 hlen hi)).2.2) tcH.tab.lst tcH.con (oz154 c24 hrl) hD2 λrs' H' s' hD2' hl2 hc2 fr2 nd2=>?_⟩;refine⟨by show 3<=sizeLine;decide,λpt hpt=>?_⟩;have s0:=Same.new (o:=.tup [V.int (cs[i]'(oz4 hlen hi)).1,V.int (cs[i]'(oz4 hlen hi)).2.1,V.ref D2]) hpt;have s1:=s'.trans s0;have sA:=s.trans s1;have hDpt:=s1 _ _ e;have nDp:D≠pt:=Zai (s' _ _ e) hpt;have nD2:D2≠D:=λz=>by rw[z,e] at hD2;cases hD2
 have nDr:D∉rs':=λz=>by have:=(fr2 D z).1;rw[e] at this;cases this
 have tcN:TabC (upd H' pt (.tup [V.int (cs[i]'(oz4 hlen hi)).1,V.int (cs[i]'(oz4 hlen hi)).2.1,V.ref D2])) p (cs[i]'(oz4 hlen hi)).1 (cs[i]'(oz4 hlen hi)).2.1 pt D2 rs' (cs[i]'(oz4 hlen hi)).2.2:=by
  refine⟨⟨Zab,s0 _ _ hD2',∅,λa ha=>?_,λz=>(fr2 D2 z).2 rfl⟩,λj a ej=>s0 _ _ (hc2 j a ej)⟩;obtain⟨j,hj,rfl⟩:=Jan.mp ha;have hj':j<rs.length:=by exact oz4 hl2 hj
  refine Zal (tcH.tab.row rs[j] (Jbd hj')) λys hy hyl hyn=>?_;rw[tcH.con j _ (Jaa hj')] at hy;cases hy;exact⟨_,s0 _ _ (hc2 j _ (Jaa hj)),hyl,λy hy=>(hyn y hy).same s1⟩
 have sep':∀ x∈rr++[(D2,rs')],∀ y∈rr++[(D2,rs')],x.1∉y.2:=λx hx y hy z=>by
  rcases Jar.mp hx with hx|hx <;> rcases Jar.mp hy with hy|hy
  .exact sp.1 x hx y hy z
  .rw [Jaq.mp hy] at z;obtain⟨o,ho⟩:=(sD x hx).2.2.1;have:=(fr2 x.1 z).1;rw[ho] at this;cases this
  .rw [Jaq.mp hx] at z;obtain⟨o,ho⟩:=(sD y hy).2.2.2 _ z;rw[hD2] at ho;cases ho
  .rw [Jaq.mp hx,Jaq.mp hy] at z;exact (fr2 D2 z).2 rfl
 have nodup':((rr++[(D2,rs')]).map (·.2)).flatten.Nodup:=by
  rw[Jaz,List.flatten_append];refine Jd3.mpr ⟨sp.2,by simpa using nd2,λa ha b hb z=>?_⟩;subst z;refine Zac (List.mem_flatten.mp ha) λu hu hau=>?_;refine Zac (Jau.mp hu) λy hy e99=>?_;obtain rfl:=e99;obtain⟨o,ho⟩:=(sD y hy).2.2.2 a hau;have:=(fr2 a (by simpa using hb)).1;rw[ho] at this;cases this
 refine Zlu (ws:=ts'.map V.ref++[.ref pt]) (by rw[Jab];exact hi) Zuj hDpt (Zap (by rw[Jab];exact oz77 hlen h9 hi hl')) ⟨ts'++[pt],rr++[(D2,rs')],Zbc _ _,sA.upd hD,by rw[Zab,Zbc],by rw[Jam,hl'];rfl,by rw[Jam,hrr];rfl,⟨sep',nodup'⟩,λx hx=>?_,λj t c x e1 e2 e3=>?_⟩
 .have keep:∀ b o,b≠D->(upd H' pt (.tup [V.int (cs[i]'(oz4 hlen hi)).1,V.int (cs[i]'(oz4 hlen hi)).2.1,V.ref D2])) b=some o->∀ o',(upd (upd H' pt (.tup [V.int (cs[i]'(oz4 hlen hi)).1,V.int (cs[i]'(oz4 hlen hi)).2.1,V.ref D2])) D o') b=some o:=λb o nb h o'=>by rw[Zah nb];exact h
  rcases Jar.mp hx with hx|hx
  .refine Zch (sD x hx) λx1 x2 e910 x4=>?_;obtain⟨o,ho⟩:=e910;refine⟨x1,x2,⟨o,keep _ _ x1 (s1 _ _ ho) _⟩,λa ha=>?_⟩;obtain⟨o,ho⟩:=x4 a ha;exact⟨o,keep _ _ (λz=>x2 (z ▸ ha)) (s1 _ _ ho) _⟩
  .rw [Jaq.mp hx];refine⟨nD2,nDr,⟨_,keep _ _ nD2 tcN.tab.lst _⟩,λa ha=>?_⟩;refine Zac (tcN.tab.row a ha) λys hy _=>?_;exact⟨_,keep _ _ (λz=>nDr (z ▸ ha)) hy _⟩
 by_cases hj:j<ts'.length
 .rw [Jax hj] at e1;rw[Jax (oz5 hl' hrr hj)] at e3;refine Zch (hc' j t c x e1 e2 e3) λa1 a2 a3 a4=>?_;refine Za2 (sD x (Jae e3)) λa5 a6 _=>?_;exact⟨(a1.same s1).put hDpt a5 a6,a2,a3,a4⟩
 .rw [Jaw (Zmu hj)] at e1;rw[Jaw (oz96 hl' hrr hj)] at e3;have hj0:j-ts'.length=0:=by
   by_cases z:j-ts'.length=0
   .exact z
   .rw [Jai (by simp;exact oz11 z)] at e1;cases e1
  rw[show j-rr.length=0 by exact oz34 hl' hrr hj0] at e3;rw[hj0] at e1;cases e1;cases e3;have hji:j=i:=by exact oz8 hl' hj hj0
  subst hji;rw[hci] at e2;cases e2;exact⟨tcN.put hDpt nD2 nDr,(s.trans s').free hpt,s.free hD2,λa ha=>s.free (fr2 a ha).1⟩
theorem NumO.extI {x C0 dx:Addr}{fs:List (Str×V)}{H H':Hp}{p:Int}{B:Nat}{v:V}(h:NumO H p B v)(hx:H x=some (.ins C0 dx fs))(e:Ext x H H'):NumO H' p B v:=by
 refine Zal h λy nv b c=>?_;clear h;refine⟨y,?_,b,c⟩;by_cases hp:p=0
 .refine Zac (nv.ref hp) λt e911 ht=>?_;obtain rfl:=e911;exact NumV.tup hp (e _ _ (Zet ht hx (by intro z;cases z)) ht)
 .obtain rfl:=nv.int hp;exact NumV.of hp
theorem TabC.extI {x C0 dx:Addr}{fs:List (Str×V)}{H H':Hp}{p hh wd:Int}{t r:Addr}{rs:List Addr}{M:List (List V)}(h:TabC H p hh wd t r rs M)(hx:H x=some (.ins C0 dx fs))(e:Ext x H H'):TabC H' p hh wd t r rs M:=by
 refine⟨⟨e _ _ (Zet h.tab.tup hx (by intro z;cases z)) h.tab.tup,e _ _ (Zet h.tab.lst hx (by intro z;cases z)) h.tab.lst,h.tab.len,λa ha=>?_,h.tab.nin⟩,λi a ei=>e _ _ (Zet (h.con i a ei) hx (by intro z;cases z)) (h.con i a ei)⟩;refine Zal (h.tab.row a ha) λys h1 h2 h3=>?_;exact⟨ys,e _ _ (Zet h1 hx (by intro z;cases z)) h1,h2,λy hy=>(h3 y hy).extI hx e⟩
theorem Tbs.extI {x C0 dx:Addr}{fs:List (Str×V)}{H H':Hp}{p:Int}{l:Addr}{ts:List Addr}{cs:List (Int×Int×List (List V))}(h:Tbs H p l ts cs)(hx:H x=some (.ins C0 dx fs))(e:Ext x H H'):Tbs H' p l ts cs:=
 ⟨e _ _ (Zet h.1 hx (by intro z;cases z)) h.1,h.2.1,h.2.2.1,λi t c e1 e2=>let ⟨⟨r,rs,a⟩,b⟩:=h.2.2.2 i t c e1 e2;⟨⟨r,rs,a.extI hx e⟩,b⟩⟩
theorem Tbs.same {H H':Hp}{p:Int}{l:Addr}{ts:List Addr}{cs:List (Int×Int×List (List V))}(h:Tbs H p l ts cs)(s:Same H H'):Tbs H' p l ts cs:=
 ⟨s _ _ h.1,h.2.1,h.2.2.1,λi t c e1 e2=>let ⟨⟨r,rs,a⟩,b⟩:=h.2.2.2 i t c e1 e2;⟨⟨r,rs,a.same s⟩,b⟩⟩
def Zg8 (g d z l:Addr):List (Str×V):=Zb7 "tables" (.ref l) (Zb7 "sizes" (.ref z) (Zb7 "drawing" (.ref d) (Zb7 "ground" (.ref g) [])))
theorem Zjz (g d z l:Addr):(Zg8 g d z l).lookup ("tables" : Str)=some (.ref l):=by unfold Zg8;rw[Zav,if_pos rfl]
theorem Zgv (g d z l:Addr):(Zg8 g d z l).lookup ("sizes" : Str)=some (.ref z):=by unfold Zg8;rw[Zav,if_neg ⋯,Zav,if_pos rfl]
theorem Zdc (g d z l:Addr):(Zg8 g d z l).lookup ("drawing" : Str)=some (.ref d):=by unfold Zg8;rw[Zav,if_neg ⋯,Zav,if_neg ⋯,Zav,if_pos rfl]
theorem Zea (g d z l:Addr):(Zg8 g d z l).lookup ("ground" : Str)=some (.ref g):=by unfold Zg8;rw[Zav,if_neg ⋯,Zav,if_neg ⋯,Zav,if_neg ⋯,Zav,if_pos rfl]
def Fits (ns:List Int)(cs:List (Int×Int×List (List V)))(ps:List (Int×Int)):Prop:=cs.length=ps.length/\∀ (i:Nat) c q,cs[i]?=some c->ps[i]?=some q->c.1=ns.getD q.2.toNat 0/\c.2.1=ns.getD q.1.toNat 0
def spSI (S C G:Addr):Sp:=λvs H Q _=>∃ (x dx g d z l lp:Addr) (p m:Int) (xs:List V) (ps:List (Int×Int)) (ns:List Int) (ts:List Addr) (cs:List (Int×Int×List (List V))),vs=[.ref x,.ref g,.ref d,.ref z,.ref l]/\H x=some (.ins S dx [])/\GAt G H g p/\GroundP p /\
 Zd6 C H d m lp xs/\Prs H xs ps/\InP m ps/\ps.length<=9/\Sizes H z ns/\(ns.length:Int)=m/\Tbs H p l ts cs/\Fits ns cs ps /\
 ∀ (z' l':Addr) (ts':List Addr) (H':Hp),Ext x H H'->H' x=some (.ins S dx (Zg8 g d z' l'))->H z'=none->H l'=none->Sizes H' z' ns->H' l'=some (.lst (ts'.map V.ref))->ts'.length=cs.length->(∀ (i:Nat) t c,ts'[i]?=some t->cs[i]?=some c->TabF H H' p c.1 c.2.1 t c.2.2)->Q .non H'
theorem Zsu (F:Fun K "__init__" "Standing.__init__" Zcp f fd)(T:Txt K mg C G S)(Ybm:Cal P w K mg base "are_sizes" 2 (spSz C))(Yba:Cal P w K mg base "are_tables" 10 (spTs C G)):FnOk P w K mg base CX0 11 f fd ["self","ground","drawing","sizes","tables"] (spSI S C G):=by
 have nd:=Zd2.nd;refine F.ok Zd2 (λvs H Q E h=>?_) (λcdv A outer s H vs Q E hr h=>?_)
 .refine xE14_2 h λx dx g d z l lp p m xs ps ns ts cs e912 _=>?_;clear h;obtain rfl:=e912;rfl
 .refine xE14_4 h λx dx g d z l lp p m xs ps ns ts cs e913 hx hg e914=>?_;clear h;obtain rfl:=e913;refine Zue e914 λhp hd pr ip p9 hz hm hT ft q=>?_;clear e914;refine⟨_,((@Za5 _ _ _ _ _ _ _ _ (PW.pt (Zcq (Za6 (Zbb (Ybm<$>hr<$>((pvr 2)<&>((pvr 3)<&>Zaa))))) (Zby (Za6 (Zbb (Yba<$>hr<$>((pvr 1)<&>((pvr 2)<&>((pvr 3)<&>((pvr 4)<&>Zaa)))))))))) (@Zau _ _ _ Zci) Zak)<*>((Zhr (pvr 0) (pvr 1) rfl)<*>((Zhr (pvr 0) (pvr 2) rfl)<*>((Zhr (pvr 0) (Zj6 Zc3 rfl T.n_list Jdv ((pvr 3)<&>Zaa)) rfl)<*>(@Zau _ _ _ (Zhr (pvr 0) (Zaz (own:=["high","wide","rows"]) (fr:=[]) rfl (Zbo (by kernel_rfl)) (Za0 (pv 4)) (λ_ _ _ _=>⟨(@Zc7 _ K rfl _ _ _ _ 3 rfl ((0<<<["high","wide","rows"])^^^((1<<<["high","wide","rows"])^^^((2<<<["high","wide","rows"])^^^(@Za3 _)))) ⇑1 ⇑1),Zax,(@Zbj _ _ _ _ _ ((pv 0)<&>((pv 1)<&>((Zaz (own:=["row"]) (fr:=[]) rfl (Zbo (by kernel_rfl)) (Zjc K rfl (pv 2)) (λ_ _ _ _=>⟨(0<<<["row"]),Zax,(Zj6 (Zjo K rfl) rfl T.n_list Jdv ((pv 0)<&>Zaa))⟩))<&>Zaa))))⟩)) rfl)))))),?_⟩;walk_at "wp";refine xI6_1 d z lp m xs ns ⟨rfl,hd,hz,hm,λH1 s1=>⟨true,rfl,Zfd ⇑0 ?_⟩⟩;have hT1:=hT;refine Zch hT λhl hlen h9 hc=>?_;clear hT;refine Zac hd λdxd hd1 hd2=>?_;clear hd;refine Zoa g d z l lp p m xs ps ns ts ⟨rfl,hg.same s1,hp,⟨dxd,s1 _ _ hd1,s1 _ _ hd2⟩,pr.same s1,ip,p9,hz.same s1,hm,s1 _ _ hl,by rw[hlen,ft.1],λi t q' e1 e2=>?_,λH2 s2=>⟨true,rfl,Zfd ⇑0 ?_⟩⟩
  .have hi:i<ps.length:=(Jaf.mp e2).1;have hci:cs[i]?=some (cs[i]'(by have:=ft.1;exact oz2 hi this)):=Jaa _;obtain⟨⟨r,rs,tc⟩,_⟩:=hc i t _ e1 hci;obtain⟨f1,f2⟩:=ft.2 i _ _ hci e2;rw[<- f1,<- f2];exact⟨r,rs,tc.tab.same s1⟩
  .have s12:=s1.trans s2;have hx2:=s12 _ _ hx;have nzx:z≠x:=Zet hz.1 hx (by intro w;cases w);refine Zb4 S dx [] ⟨hx2,T.cl_Standing,T.nSg,by show 0<1000;decide,S,dx,_,Zab,T.cl_Standing,T.nSd,by have l1:=Zbx "ground" (.ref g) [];simp at l1;omega,_,.inl (SqL.of (by rw[Zah nzx,Zah nzx];exact s12 _ _ hz.1)),λl1 hl1=>?_⟩;have nxl:x≠l1:=Zai Zab hl1;have f1:H l1=none:=by
    rw[Zah nxl.symm,Zah nxl.symm] at hl1;exact s12.free hl1
   have g1:=Zbx "ground" (.ref g) [];have g2:=Zbx "drawing" (.ref d) (Zb7 "ground" (.ref g) []);have g3:=Zbx "sizes" (.ref l1) (Zb7 "drawing" (.ref d) (Zb7 "ground" (.ref g) []));simp only[Jc8] at g1;refine Zb4 S dx _ ⟨by rw[Zah nxl];exact Zab,T.cl_Standing,T.nSs,∅,?_⟩;have e6:Ext x H (upd (upd (upd (upd H2 x (.ins S dx (Zb7 "ground" (.ref g) []))) x (.ins S dx (Zb7 "drawing" (.ref d) (Zb7 "ground" (.ref g) [])))) l1 (.lst (ns.map V.int))) x (.ins S dx (Zb7 "sizes" (.ref l1) (Zb7 "drawing" (.ref d) (Zb7 "ground" (.ref g) []))))):=λb o nb eb=>by
    rw[Zah nb,Zah (Zai eb f1),Zah nb,Zah nb];exact s12 _ _ eb
   have hx6:(upd (upd (upd (upd H2 x (.ins S dx (Zb7 "ground" (.ref g) []))) x (.ins S dx (Zb7 "drawing" (.ref d) (Zb7 "ground" (.ref g) [])))) l1 (.lst (ns.map V.int))) x (.ins S dx (Zb7 "sizes" (.ref l1) (Zb7 "drawing" (.ref d) (Zb7 "ground" (.ref g) []))))) x=some (.ins S dx (Zb7 "sizes" (.ref l1) (Zb7 "drawing" (.ref d) (Zb7 "ground" (.ref g) [])))):=Zab;have hl6:(upd (upd (upd (upd H2 x (.ins S dx (Zb7 "ground" (.ref g) []))) x (.ins S dx (Zb7 "drawing" (.ref d) (Zb7 "ground" (.ref g) [])))) l1 (.lst (ns.map V.int))) x (.ins S dx (Zb7 "sizes" (.ref l1) (Zb7 "drawing" (.ref d) (Zb7 "ground" (.ref g) []))))) l1=some (.lst (ns.map V.int)):=by rw[Zah nxl.symm];exact Zab
   generalize upd (upd (upd (upd H2 x (.ins S dx (Zb7 "ground" (.ref g) []))) x (.ins S dx (Zb7 "drawing" (.ref d) (Zb7 "ground" (.ref g) [])))) l1 (.lst (ns.map V.int))) x (.ins S dx (Zb7 "sizes" (.ref l1) (Zb7 "drawing" (.ref d) (Zb7 "ground" (.ref g) []))))=H6 at *;have fr6:∀ b,H6 b=none->H b=none:=λb hb=>by
    cases eb:H b with
    | none=>rfl
    | some o=>
     by_cases nb:b=x
     .rw [nb,hx6] at hb;cases hb
     .rw [e6 b o nb eb] at hb;cases hb
   have hT6:=hT1.extI hx e6;refine⟨_,rfl,l,rfl,⟨_,SqL.of hT6.1⟩,λD hD=>Zq1 hT6 hD λts' H7 s7 hD7 hl7 ht7 _=>?_⟩;have hx7:=s7 _ _ hx6;have nDx:D≠x:=λw=>by rw[w,hx6] at hD;cases hD
   refine Zb4 S dx _ ⟨hx7,T.cl_Standing,T.nSt,oz153 g1 g2 g3,?_⟩;refine q l1 D ts' _ (λb o nb eb=>by rw[Zah nb];exact s7 _ _ (e6 b o nb eb)) Zab f1 (fr6 D hD) ⟨by rw[Zah nxl.symm];exact s7 _ _ hl6,hz.2⟩ (by rw[Zah nDx];exact hD7) hl7 λi t c e1 e2=>?_;refine Zgs (ht7 i t c e1 e2) λr rs a1 a2 a3 a4=>?_;exact Zat r rs ⟨a1.extI hx7 (λb o nb eb=>by rw[Zah nb];exact eb),fr6 t a2,fr6 r a3,λa ha=>fr6 a (a4 a ha)⟩
end
end Pf
set_option maxRecDepth 50000
set_option maxHeartbeats 500000
namespace Pf
open PySem L2 PyProof.Rows
section
variable {C G S:Addr}
theorem Tab.ext2 {l:Addr}{H H':Hp}{p hh wd:Int}{t r:Addr}{rs:List Addr}(h:Tab H p hh wd t r rs)(b:Bag H l)(e:Ext l H H')(nr:r≠l)(ns:l∉rs):Tab H' p hh wd t r rs:=
 ⟨by obtain⟨ys,hy⟩:=b.lst;exact e _ _ (Zet h.tup hy (by intro z;cases z)) h.tup,e _ _ nr h.lst,h.len,λa ha=>(h.row a ha).ext b e (λz=>ns (z ▸ ha)),h.nin⟩
theorem TabC.ext {l:Addr}{H H':Hp}{p hh wd:Int}{t r:Addr}{rs:List Addr}{M:List (List V)}(h:TabC H p hh wd t r rs M)(b:Bag H l)(e:Ext l H H')(nr:r≠l)(ns:l∉rs):TabC H' p hh wd t r rs M:=
 ⟨h.tab.ext2 b e nr ns,λi a ei=>e _ _ (λz=>ns (z ▸ Jae ei)) (h.con i a ei)⟩
def rowOf (H:Hp)(a:Addr):List V:=match H a with
 | some (.lst xs)=>xs
 | _=>[]
theorem Tab.toC {H:Hp}{p hh wd:Int}{t r:Addr}{rs:List Addr}(h:Tab H p hh wd t r rs):∃ M,TabC H p hh wd t r rs M:=by
 refine⟨rs.map (rowOf H),h,λi a e=>?_⟩;rw[Jad,Jac,e];refine Zac (h.row a (Jae e)) λxs hx _=>?_;show H a=some (.lst (rowOf H a));unfold rowOf;rw[hx]
abbrev Nv:=Int×Int
abbrev Mv:=List (List Nv)
def All2 {α β:Type}(P:α->β->Prop)(xs:List α)(ys:List β):Prop:=xs.length=ys.length/\∀ (i:Nat) x y,xs[i]?=some x->ys[i]?=some y->P x y
theorem All2.nil {α β:Type}{P:α->β->Prop}:All2 P [] []:=⟨rfl,λi x y e=>by simp at e⟩
theorem All2.take {α β:Type}{P:α->β->Prop}{xs:List α}{ys:List β}(h:All2 P xs ys)(n:Nat):All2 P (xs.take n) (ys.take n):=⟨by rw[Jbg,Jbg,h.1],λi x y e1 e2=>by
 by_cases hi:i<n
 .rw [Jdp hi] at e1 e2;exact h.2 i x y e1 e2
 .rw [Jai (by rw[Jbg];exact oz156 hi)] at e1;cases e1⟩
theorem All2.drop {α β:Type}{P:α->β->Prop}{xs:List α}{ys:List β}(h:All2 P xs ys)(n:Nat):All2 P (xs.drop n) (ys.drop n):=⟨by rw[Jcy,Jcy,h.1],λi x y e1 e2=>by
 rw[List.getElem?_drop] at e1 e2;exact h.2 _ x y e1 e2⟩
theorem All2.app {α β:Type}{P:α->β->Prop}{xs xs':List α}{ys ys':List β}(h:All2 P xs ys)(h':All2 P xs' ys'):All2 P (xs++xs') (ys++ys'):=⟨by rw[Jam,Jam,h.1,h'.1],λi x y e1 e2=>by
 have hl:=h.1;by_cases hi:i<xs.length
 .rw [Jax hi] at e1;rw[Jax (oz4 hl hi)] at e2;exact h.2 i x y e1 e2
 .rw [Jaw ∅] at e1 e2;rw[<- hl] at e2;exact h'.2 _ x y e1 e2⟩
theorem All2.one {α β:Type}{P:α->β->Prop}{x:α}{y:β}(h:P x y):All2 P [x] [y]:=⟨rfl,λi a b e1 e2=>by
 cases i with
 | zero=>cases e1;cases e2;exact h
 | succ i=>simp at e1⟩
theorem All2.mono {α β:Type}{P P':α->β->Prop}{xs:List α}{ys:List β}(h:All2 P xs ys)(k:∀ x y,P x y->P' x y):All2 P' xs ys:=⟨h.1,λi x y e1 e2=>k x y (h.2 i x y e1 e2)⟩
theorem All2.monoM {α β:Type}{P P':α->β->Prop}{xs:List α}{ys:List β}(h:All2 P xs ys)(k:∀ x y,x∈xs->P x y->P' x y):All2 P' xs ys:=⟨h.1,λi x y e1 e2=>k x y (Jae e1) (h.2 i x y e1 e2)⟩
theorem All2.set {α β:Type}{P:α->β->Prop}{xs:List α}{ys:List β}(h:All2 P xs ys)(n:Nat){x:α}{y:β}(hp:P x y):All2 P (xs.set n x) (ys.set n y):=⟨by rw[Jdr,Jdr,h.1],λi a b e1 e2=>by
 rw[Jd4] at e1 e2;by_cases hi:n=i
 .rw [if_pos hi] at e1 e2;split at e1
  .split at e2
   .cases e1;cases e2;exact hp
   .cases e2
  .cases e1
 .rw [if_neg hi] at e1 e2;exact h.2 i a b e1 e2⟩
theorem All2.rep {α β:Type}{P:α->β->Prop}{x:α}{y:β}(h:P x y)(n:Nat):All2 P (List.replicate n x) (List.replicate n y):=⟨by simp,λi a b e1 e2=>by
 rw[Jce] at e1 e2;split at e1
 .rename_i hi
  rw[if_pos hi] at e2;cases e1;cases e2;exact h
 .cases e1⟩
theorem All2.at {α β:Type}{P:α->β->Prop}{xs:List α}{ys:List β}(h:All2 P xs ys){i:Nat}{y:β}(e:ys[i]?=some y):∃ x,xs[i]?=some x/\P x y:=by
 have hi:i<ys.length:=(Jaf.mp e).1;have hx:xs[i]?=some (xs[i]'(by have:=h.1;exact oz2 hi this)):=Jaa _;exact⟨_,hx,h.2 i _ y hx e⟩
theorem All2.at' {α β:Type}{P:α->β->Prop}{xs:List α}{ys:List β}(h:All2 P xs ys){i:Nat}{x:α}(e:xs[i]?=some x):∃ y,ys[i]?=some y/\P x y:=by
 have hi:i<xs.length:=(Jaf.mp e).1;have hy:ys[i]?=some (ys[i]'(by have:=h.1;exact oz55 hi this)):=Jaa _;exact⟨_,hy,h.2 i x _ e hy⟩
theorem All2.pick {α β:Type}{P:α->β->Prop}:∀ {xs:List α},(∀ x∈xs,∃ y,P x y)->∃ ys,All2 P xs ys
 | [],_=>⟨[],All2.nil⟩
 | x::xs,h=>by
  obtain⟨y,hy⟩:=h x (by simp);obtain⟨ys,hys⟩:=All2.pick (xs:=xs) λz hz=>h z (by simp[hz]);exact⟨y::ys,(All2.one hy).app hys⟩
def RowV (H:Hp)(p:Int)(a:Addr)(xs:List Nv):Prop:=∃ vs,H a=some (.lst vs)/\All2 (NumV H p) vs xs
theorem RowV.same {H H':Hp}{p:Int}{a:Addr}{xs:List Nv}(h:RowV H p a xs)(s:Same H H'):RowV H' p a xs:=let ⟨vs,h1,h2⟩:=h;⟨vs,s _ _ h1,h2.mono λ_ _ k=>k.same s⟩
theorem NumV.put {H:Hp}{D:Addr}{l:List V}{o:HO}{p:Int}{v:V}{x:Nv}(h:NumV H p v x)(hD:H D=some (.lst l)):NumV (upd H D o) p v x:=by
 by_cases hp:p=0
 .refine Zac (h.ref hp) λt e94 ht=>?_;obtain rfl:=e94;exact NumV.tup hp (by rw[Zah (Zet ht hD (by intro z;cases z))];exact ht)
 .obtain rfl:=h.int hp;exact NumV.of hp
theorem RowV.put {H:Hp}{D:Addr}{l:List V}{o:HO}{p:Int}{a:Addr}{xs:List Nv}(h:RowV H p a xs)(hD:H D=some (.lst l))(n:a≠D):RowV (upd H D o) p a xs:=let ⟨vs,h1,h2⟩:=h;⟨vs,by rw[Zah n];exact h1,h2.mono λ_ _ k=>k.put hD⟩
theorem RowV.ext {l:Addr}{H H':Hp}{p:Int}{a:Addr}{xs:List Nv}(h:RowV H p a xs)(b:Bag H l)(e:Ext l H H')(n:a≠l):RowV H' p a xs:=let ⟨vs,h1,h2⟩:=h;⟨vs,e _ _ n h1,h2.mono λ_ _ k=>k.ext b e⟩
structure TabV (H:Hp)(p hh wd:Int)(t r:Addr)(rs:List Addr)(M:Mv):Prop where
 tup:H t=some (.tup [.int hh,.int wd,.ref r])
 lst:H r=some (.lst (rs.map V.ref))
 row:All2 (RowV H p) rs M
 nin:r∉rs
theorem TabV.same {H H':Hp}{p hh wd:Int}{t r:Addr}{rs:List Addr}{M:Mv}(h:TabV H p hh wd t r rs M)(s:Same H H'):TabV H' p hh wd t r rs M:=⟨s _ _ h.tup,s _ _ h.lst,h.row.mono λ_ _ k=>k.same s,h.nin⟩
theorem TabV.put {H:Hp}{D:Addr}{l:List V}{o:HO}{p hh wd:Int}{t r:Addr}{rs:List Addr}{M:Mv}(h:TabV H p hh wd t r rs M)(hD:H D=some (.lst l))(nr:r≠D)(ns:D∉rs):TabV (upd H D o) p hh wd t r rs M:=
 ⟨by rw[Zah (Zet h.tup hD (by intro z;cases z))];exact h.tup,by rw[Zah nr];exact h.lst,h.row.monoM λa _ ha k=>k.put hD (λz=>ns (z ▸ ha)),h.nin⟩
theorem TabV.ext {l:Addr}{H H':Hp}{p hh wd:Int}{t r:Addr}{rs:List Addr}{M:Mv}(h:TabV H p hh wd t r rs M)(b:Bag H l)(e:Ext l H H')(nr:r≠l)(ns:l∉rs):TabV H' p hh wd t r rs M:=
 ⟨e _ _ (λz=>by obtain⟨x,y,hb,_⟩:=b;rw[<- z,h.tup] at hb;cases hb) h.tup,e _ _ nr h.lst,h.row.monoM λa _ ha k=>k.ext b e (λz=>ns (z ▸ ha)),h.nin⟩
def Shp (hh wd:Int)(M:Mv):Prop:=(M.length:Int)=hh/\∀ row∈M,(row.length:Int)=wd
theorem Zb2 {α:Type}{R:Addr->α->Prop}{rs:List Addr}{xs:List α}(h:All2 R rs xs):All2 (λv x=>∃ a,v=.ref a/\R a x) (rs.map V.ref) xs:=⟨by rw[Jab];exact h.1,λi v x e1 e2=>by
 rw[Jac] at e1;cases e:rs[i]? with
 | none=>rw[e] at e1;cases e1
 | some a=>rw[e] at e1;cases e1;exact⟨a,rfl,h.2 i a x e e2⟩⟩
theorem Zb8 {a D:Addr}{xs:List V}{fr:List (Str×Nat)}{σ:L2.St}{te:TE}{H1:Hp}{Q:VK}(R:Nat->Hp->V->Prop)(hS:∀ {i H H' y},R i H y->Same H H'->R i H' y)(hP:∀ {i H y l o},R i H y->H D=some (.lst l)->R i (upd H D o) y)(ha:H1 a=some (.lst xs))(hD:H1 D=none)(hn:xs.length<=1000)(h:∀ (i:Nat) x H (Q:VK),xs[i]?=some x->Same H1 H->(∃ l,H D=some (.lst l))->(∀ y H',Same H H'->R i H' y->Q y H')->te (some x::Zbi fr σ) H Q)(hQ:∀ ys H',Same H1 H'->H' D=some (.lst ys)->ys.length=xs.length->(∀ (i:Nat) y,ys[i]?=some y->R i H' y)->Q (.ref D) H'):Zbv (Zbh 0) Zfv te (Itl K a) D (Zgq 1 fr σ) H1 Q:=by
 refine Zfp (xs:=xs) (λi vs H=>Same H1 H/\H D=some (.lst vs)/\vs.length=i/\∀ (j:Nat) y,vs[j]?=some y->R j H y) ⟨Same.new hD,Zab,rfl,λj y e=>by simp at e⟩ (λi vs H _ p=>SqL.of (p.1 _ _ ha)) ?_ (λvs H ⟨s,e,hl,hr⟩=>hQ vs H s e hl hr);intro i x vs σ' H hi hx sh e91;refine Zch e91 λs e hl hr=>?_;clear e91;obtain⟨z,rfl⟩:=sh.one;simp only[Zer,Zbh,Zfv,List.set_cons_zero,Jcm];refine h i x H _ hx s ⟨_,e⟩ λy H' s' ry=>?_;refine Zlu (ws:=vs++[y]) hi Sh.mk1 (s' _ _ e) (Zap (oz57 hn hi hl)) ⟨(s.trans s').upd hD,Zab,by rw[Jam,hl];rfl,λj u hu=>?_⟩;by_cases hj:j<vs.length
 .rw [Jax hj] at hu;exact hP (hS (hr j u hu) s') (s' _ _ e)
 .rw [Jaw (Zmu hj)] at hu;have hj0:j-vs.length=0:=by
   by_cases z:j-vs.length=0
   .exact z
   .rw [Jai (by simp;exact oz11 z)] at hu;cases hu
  rw[hj0] at hu;cases hu;rw[show j=i by exact oz8 hl hj hj0];exact hP ry (s' _ _ e)
theorem Zh3 {lo:Int}{n:Nat}{D:Addr}{fr:List (Str×Nat)}{σ:L2.St}{te:TE}{H1:Hp}{Q:VK}(R:Nat->Hp->V->Prop)(hS:∀ {i H H' y},R i H y->Same H H'->R i H' y)(hP:∀ {i H y l o},R i H y->H D=some (.lst l)->R i (upd H D o) y)(hD:H1 D=none)(hn:n<=1000)(h:∀ (i:Nat) H (Q:VK),i<n->Same H1 H->(∃ l,H D=some (.lst l))->(∀ y H',Same H H'->R i H' y->Q y H')->te (some (.int (lo+(i:Nat)))::Zbi fr σ) H Q)(hQ:∀ ys H',Same H1 H'->H' D=some (.lst ys)->ys.length=n->(∀ (i:Nat) y,ys[i]?=some y->R i H' y)->Q (.ref D) H'):Zbv (Zbh 0) Zfv te (Itr lo n) D (Zgq 1 fr σ) H1 Q:=by
 refine Zjm (n:=n) (λi vs H=>Same H1 H/\H D=some (.lst vs)/\vs.length=i/\∀ (j:Nat) y,vs[j]?=some y->R j H y) ⟨Same.new hD,Zab,rfl,λj y e=>by simp at e⟩ ?_ (λvs H ⟨s,e,hl,hr⟩=>hQ vs H s e hl hr);intro i x vs σ' H hi e92;obtain rfl:=e92;intro sh e93;refine Zch e93 λs e hl hr=>?_;clear e93;obtain⟨z,rfl⟩:=sh.one;simp only[Zer,Zbh,Zfv,List.set_cons_zero,Jcm];refine h i H _ hi s ⟨_,e⟩ λy H' s' ry=>?_;refine Zlu (ws:=vs++[y]) hi Sh.mk1 (s' _ _ e) (Zap (oz57 hn hi hl)) ⟨(s.trans s').upd hD,Zab,by rw[Jam,hl];rfl,λj u hu=>?_⟩;by_cases hj:j<vs.length
 .rw [Jax hj] at hu;exact hP (hS (hr j u hu) s') (s' _ _ e)
 .rw [Jaw (Zmu hj)] at hu;have hj0:j-vs.length=0:=by
   by_cases z:j-vs.length=0
   .exact z
   .rw [Jai (by simp;exact oz11 z)] at hu;cases hu
  rw[hj0] at hu;cases hu;rw[show j=i by exact oz8 hl hj hj0];exact hP ry (s' _ _ e)
theorem Zh0 {ys:List V}{g:Nat->Int}{n:Nat}(hl:ys.length=n)(h:∀ (i:Nat) y,ys[i]?=some y->y=.int (g i)):ys=((List.range n).map g).map V.int:=by
 apply Jb4;intro i;by_cases hi:i<n
 .rw [Jaa (Zgm hl hi),h i _ (Jaa (Zgm hl hi)),Jac,Jac,Ja4 hi];rfl
 .rw [Jai ∅,Jai (by simp;exact Zmu hi)]
theorem Zho {P:Nat->Addr->Prop}:∀ {ys:List V},(∀ (i:Nat) y,ys[i]?=some y->∃ b,y=.ref b/\P i b)->∃ bs:List Addr,ys=bs.map V.ref/\∀ (i:Nat) b,bs[i]?=some b->P i b:=by
 intro ys
 induction ys generalizing P with
 | nil=>exact λ_=>⟨[],rfl,λi b e=>by simp at e⟩
 | cons y ys ih=>
  intro h;refine Zac (h 0 y rfl) λb e97 hb=>?_;obtain rfl:=e97;refine Zac (ih (P:=λi b=>P (i+1) b) λi u e=>h (i+1) u (by simpa using e)) λbs e98 hbs=>?_;obtain rfl:=e98;exact⟨b::bs,rfl,λi u e=>by
   cases i with
   | zero=>cases e;exact hb
   | succ i=>exact hbs i u (by simpa using e)⟩
theorem Zo7 {D:Addr}{H1 H':Hp}{p:Int}{M:Mv}{ys:List V}(hl:ys.length=M.length)(h:∀ (i:Nat) y,ys[i]?=some y->∃ a,y=.ref a/\RowV H' p a (M.getD i [])/\a≠D/\H1 a=none):∃ rs:List Addr,ys=rs.map V.ref/\All2 (RowV H' p) rs M/\D∉rs/\∀ a∈rs,H1 a=none:=by
 refine Zac (Zho (P:=λi a=>RowV H' p a (M.getD i [])/\a≠D/\H1 a=none) h) λrs e99 hr=>?_;obtain rfl:=e99;rw[Jab] at hl;refine⟨rs,rfl,⟨hl,λi a xs e1 e2=>?_⟩,λz=>?_,λa ha=>?_⟩
 .have:=(hr i a e1).1;rwa [Jad,e2] at this
 .obtain ⟨j,hj,e⟩:=Jan.mp z;exact (hr j D (by rw[Jaa hj,e])).2.1 rfl
 .obtain ⟨j,hj,rfl⟩:=Jan.mp ha;exact (hr j _ (Jaa hj)).2.2
structure New (H:Hp)(t r:Addr)(rs:List Addr):Prop where
 t:H t=none
 r:H r=none
 rs:∀ a∈rs,H a=none
abbrev Tv:=Int×Int×Mv
abbrev t0:Tv:=(0,0,[])
abbrev hF (cs:List Tv)(i:Nat):Int:=(cs.getD i t0).1
abbrev wF (cs:List Tv)(i:Nat):Int:=(cs.getD i t0).2.1
abbrev mF (cs:List Tv)(i:Nat):Mv:=(cs.getD i t0).2.2
theorem Zh4 {a D:Addr}{xs:List V}{fr:List (Str×Nat)}{σ:L2.St}{te:TE}{H1:Hp}{Q:VK}(g:Nat->Int)(ha:H1 a=some (.lst xs))(hD:H1 D=none)(hn:xs.length<=1000)(h:∀ (i:Nat) x H (Q:VK),xs[i]?=some x->Same H1 H->(∀ H',Same H H'->Q (.int (g i)) H')->te (some x::Zbi fr σ) H Q)(hQ:∀ H',Same H1 H'->H' D=some (.lst (((List.range xs.length).map g).map V.int))->Q (.ref D) H'):Zbv (Zbh 0) Zfv te (Itl K a) D (Zgq 1 fr σ) H1 Q:=
 Zb8 (λi _ y=>y=.int (g i)) (λr _=>r) (λr _=>r) ha hD hn (λi x H Q hx s _ k=>h i x H Q hx s λH' s'=>k _ H' s' rfl) (λys H' s e hl hr=>hQ H' s (by rw[e,Zh0 hl hr]))
structure FewC (cs:List Tv):Prop where
 few:cs.length<=9
 bd:∀ i,i<cs.length->0<=hF cs i/\hF cs i<=24/\0<=wF cs i/\wF cs i<=24/\Shp (hF cs i) (wF cs i) (mF cs i)
structure TbsV (H:Hp)(p:Int)(a:Addr)(ts:List Addr)(cs:List Tv):Prop where
 lst:H a=some (.lst (ts.map V.ref))
 tab:All2 (λt c=>∃ r rs,TabV H p c.1 c.2.1 t r rs c.2.2) ts cs
end
end Pf
namespace Pf
open PySem L2 L3 PyProof.Rows
section
variable {C G S:Addr}
def nrS (a b:Int):Int×Int:=if b<0 then nrm (-a) (-b) else nrm a b
theorem nrS_eq {a b:Int}(h:b≠0):((a.fdiv (if b<0 then -(Int.gcd a b:Int) else (Int.gcd a b:Int)),b.fdiv (if b<0 then -(Int.gcd a b:Int) else (Int.gcd a b:Int))):Int×Int)=nrS a b:=by
 unfold nrS nrm;by_cases hb:b<0
 .simp only [if_pos hb];have e1:∀ z g:Int,z.fdiv (-g)=(-z).fdiv g:=λz g=>by rw[<- Int.neg_fdiv_neg (-z) g,Int.neg_neg]
  have e2:Int.gcd (-a) (-b)=Int.gcd a b:=by rw[Int.gcd_neg,Int.neg_gcd]
  rw[e1,e1,e2,Jbq _ Zsm,Jbq _ Zsm]
 .simp only [if_neg hb];rw[Jbq _ Zsm,Jbq _ Zsm]
def Zlc:Sp:=λvs H Q _=>∃ a b:Int,vs=[.int a,.int b]/\Bt NB a/\Bt NB b/\b≠0/\∀ t H',Same H H'->H' t=some (.tup [.int (nrS a b).1,.int (nrS a b).2])->Q (.ref t) H'
theorem Zs2 (F:Fun K "fraction" "fraction" Zf5 f fd)(T:Txt K mg C G S)(hpt:P.given.tree=none)(Yac:Cal P w K mg base "common_divisor" 4 Zle):FnOk P w K mg base CX0 5 f fd ["top","bottom"] Zlc:=by
 have nd:=Zhe.nd;refine F.ok Zhe (λvs H Q E h=>?_) (λcdv A outer s H vs Q E hr h=>?_)
 .refine Zbd h λa b e92 _=>?_;clear h;obtain rfl:=e92;rfl
 .refine Znj h λa b e93 ha hb b0 q=>?_;clear h;obtain rfl:=e93;refine⟨_,((@Za5 _ _ _ _ _ _ _ _ (Zao (opEqJ Zc8) (pvr 1) Zaf (Zaj _)) (@Zau _ _ _ Zci) Zak)<*>((2|||nd|||(Yac<$>hr<$>((pvr 0)<&>((pvr 1)<&>Zaa))))<*>((@Za5 _ _ _ _ _ _ _ _ (Zao (opJ0 Zj7) (pvr 1) Zaf (Zaj _)) (@Zau _ _ _ (2|||nd|||(pe_un un_neg (pvr 2)))) Zak)<*>(~~~(@Zbj _ _ _ _ _ (((Zc1 hpt (Zcb hr))<|>(pvr 0)<&&>(pvr 2))<&>(((Zc1 hpt (Zcb hr))<|>(pvr 1)<&&>(pvr 2))<&>Zaa))))))),?_⟩;walk_at "wp";have Zfd:∀ {c A B:Prop} [Decidable c],¬ c->B->if c then A else B:=λhc h=>by rw[if_neg hc];exact h
  refine Zfd (by rw[Ja3 b0];decide) ⟨a,b,rfl,ha,hb,λH1 s1=>?_⟩;have g0:0<Int.gcd a b:=Jc5 _ b0;have e:=nrS_eq (a:=a) b0;refine Zdm (λhc=>?_) (λhc=>?_)
  .have hc:=Jbm hc;rw[if_pos hc] at e;refine⟨_,rfl,∅,∅,⇑0,λt ht=>q t _ (s1.trans (Same.new ht)) ?_⟩;rw[Zab,<- e]
  .have hc:¬ b<0:=λz=>hc (Jal z);rw[if_neg hc] at e;refine⟨_,rfl,∅,_,rfl,∅,⇑0,λt ht=>q t _ (s1.trans (Same.new ht)) ?_⟩;rw[Zab,<- e]
theorem Zph {b p:Int}(hp:Zfu p)(h0:0<b)(h1:b<p):Int.gcd b p=1:=by
 have hd1:((Int.gcd b p:Nat):Int) ∣ b:=Jbo b p;have hd2:((Int.gcd b p:Nat):Int) ∣ p:=Jbv b p;have hle:=Int.le_of_dvd h0 hd1;have hpos:0<Int.gcd b p:=Int.gcd_pos_of_ne_zero_left _ ∅;by_cases h:Int.gcd b p=1
 .exact h
 .exact absurd (Int.emod_eq_zero_of_dvd hd2) (hp.2.2 _ (oz169 hpos h) ∅)
theorem inv_end {p z b c:Int}(h:p ∣ z*b-c):(z % p*b) % p=c % p:=by
 obtain⟨k,hk⟩:=h;have e:z % p*b=c+p*(k-z / p*b):=by rw[Int.emod_def];grind
 rw[e,Int.add_mul_emod_self_left]
theorem Zm2 {a b:Int}(ha:1<=a)(hb:0<=b):b<=a*b:=by
 have:=Jct ha hb;omega
theorem Zrf {x:Int}(h:x.natAbs<=97):Bt 7 x:=Jbh h ⇑0
def spInv:Sp:=λvs H Q _=>∃ b p:Int,vs=[.int b,.int p]/\Zfu p/\0<b/\b<p/\∀ r H',Same H H'->0<=r->r<p->(r*b) % p=1->Q (.int r) H'
theorem ok_inv (F:Fun K "inverse" "inverse" Zhl f fd)(T:Txt K mg C G S):FnOk P w K mg base CX0 1 f fd ["rest","prime"] spInv:=by
 have nd:=Zin.nd;refine F.ok Zin (λvs H Q E h=>?_) (λcdv A outer s H vs Q E hr h=>?_)
 .refine Zbd h λb p e94 _=>?_;clear h;obtain rfl:=e94;rfl
 .refine Znj h λb p e95 hp b0 b1 q=>?_;clear h;obtain rfl:=e95;have p1:=hp.1;have p97:=hp.2.1;refine⟨_,((Zir (i:=2) (j:=3) rfl nd rfl rfl ⇑0 rfl rfl ((pvr 0)<&>((pvr 1)<&>Zaa)) rfl)<*>((Zcr (@Zbj _ _ _ _ _ (Zaf<&>(Zaf<&>Zaa))) (@Zcs _ _ _ _ _ 2 rfl ((4>>>nd)^^^((5>>>nd)^^^(@Za3 _))) ⇑1 ⇑1))<*>((Zgw Jbf (Zf6 Znr (pv 2) Zaf (Zaj _)) ((6|||nd|||((opJ Zje)<|>(pvr 3)<&&>(pvr 2)))<*>((Zir (i:=2) (j:=3) rfl nd rfl rfl ⇑0 rfl rfl (((opJ0 Zhu)<|>(pvr 3)<&&>((opJ Zbs)<|>(pvr 6)<&&>(pvr 2)))<&>((pvr 2)<&>Zaa)) rfl)<*>(@Zau _ _ _ (Zir (i:=4) (j:=5) rfl nd rfl rfl ⇑0 rfl rfl (((opJ0 Zhu)<|>(pvr 5)<&&>((opJ Zbs)<|>(pvr 6)<&&>(pvr 4)))<&>((pvr 4)<&>Zaa)) rfl)))))<*>(~~~((opJ Zdi)<|>(pvr 4)<&&>(pvr 1)))))),?_⟩;walk_at "wp";refine Zat _ _ ⟨⟨rfl,rfl⟩,⇑0,λt ht=>⟨_,SqT.of Zab,rfl,_,_,rfl,_,_,rfl,rfl,?_⟩⟩;refine⟨λn σ H2=>∃ (lo hi lt ht':Int) (o:Option V),σ=[some (V.int b),some (V.int p),some (V.int lo),some (V.int hi),some (V.int lt),some (V.int ht'),o]/\H2=upd H t (.tup [V.int 1,V.int 0])/\n=lo.toNat/\1<=lo/\lo<hi/\hi<=p/\Int.gcd lo hi=1/\p ∣ lt*b-lo/\p ∣ ht'*b-hi /\
    ∃ u v:Int,0<=u/\0<=v/\lo*v+hi*u=p/\((lt=u/\ht'=-v)\/(lt=-u/\ht'=v)),
   ⟨_,b,p,1,0,none,rfl,rfl,rfl,∅,b1,Int.le_refl _,Zph hp b0 b1,⟨0,∅⟩,⟨-1,∅⟩,1,0,⇑0,⇑0,∅,.inl ⟨rfl,rfl⟩⟩,?_⟩
  intro n σ H2 e91;refine Zh7 e91 λlo hi lt ht' o e96 e97 e98 e99=>?_;clear e91;obtain rfl:=e96;obtain rfl:=e97;obtain rfl:=e98;refine xE0_7 e99 λl1 l2 l3 hg d1 d2 e910=>?_;clear e99;obtain⟨u,v,u0,v0,huv,hs⟩:=e910;walk_at "wp";refine Zdm (λhc=>?_) (λhc=>?_)
  .have hc:=Jbm hc;have hm:hi-hi / lo*lo=hi % lo:=by rw[Int.emod_def,Jeq lo]
   have m0:0<=hi / lo:=Jek (oz59 l2 hc) (Zsn hc);have m1:hi / lo<=hi:=Int.ediv_le_self _ (oz59 l2 hc);have r0:=Jbs hi (show lo≠0 by exact Zup hc);have r1:=Jba hi (show 0<lo by exact Zpt hc);have hg':Int.gcd (hi % lo) lo=1:=by rw[Jep,Zto,Jep];exact hg
   have r2:1<=hi % lo:=by
    by_cases z:hi % lo=0
    .rw [z,Int.zero_gcd] at hg';exact oz139 hc hg'
    .exact oz112 r0 z
   have u1:=Zm2 (a:=hi) (oz111 l2 hc) u0;have v1:=Zm2 (a:=lo) ∅ v0;have um:u<=97:=by exact oz135 p97 v0 huv u1 v1
   have vm:v<=97:=by exact oz109 p97 u0 huv u1 v1
   have e3:(hi-hi / lo*lo)*u+lo*(v+hi / lo*u)=p:=by rw[<- huv];grind
   have mu:0<=hi / lo*u:=Jc1 m0 u0;refine⟨_,λ_ _ h=>h,⟨Zpt hc,oz38 p97 l2 l3⟩,(Zrf (oz9 p97 l3 m0 m1)).ok (Zrf (oz29 p97 l2 l3 hc)) ⇑0,_,_,⟨rfl,rfl⟩,(Zrf (oz9 p97 l3 m0 m1)).ok (Zrf (by rcases hs with ⟨h,_⟩|⟨h,_⟩ <;> omega)) ⇑0,_,_,⟨rfl,rfl⟩,(hi % lo).toNat,oz68 r1 r2,
    hi-hi / lo*lo,lo,ht'-hi / lo*lt,lt,_,rfl,rfl,by rw[hm],by rw[hm];exact r2,by rw[hm];exact r1,oz19 l2 l3,by rw[hm];exact hg',?_,d1,v+hi / lo*u,oz137 v0 mu,u,u0,e3,?_⟩
   .have e:(ht'-hi / lo*lt)*b-(hi-hi / lo*lo)=(ht'*b-hi)-hi / lo*(lt*b-lo):=by grind
    rw[e];exact Int.dvd_sub d2 (Int.dvd_mul_of_dvd_right d1)
   .rcases hs with ⟨h1,h2⟩|⟨h1,h2⟩
    .subst h1 h2;exact .inr ⟨by grind,rfl⟩
    .subst h1 h2;exact .inl ⟨by grind,rfl⟩
  .have hc:¬ 1<lo:=λz=>hc (Jal z);have hl:lo=1:=∅
   subst hl;refine⟨Zpt p1,q _ _ (Same.new ht) (Jbs _ (Zup p1)) (Jba _ (Zpt p1)) ?_⟩;rw[inv_end d1,Jci ⇑0 p1]
def Zk8:Sp:=λvs H Q E=>∃ a b p:Int,vs=[.int a,.int b,.int p]/\Zfu p/\Bt NB a/\b % p≠0/\∀ r H',Same H H'->0<=r->r<p->(r*b-a) % p=0->Q (.int r) H'
theorem Zsw (F:Fun K "rest_of" "rest_of" Zhf f fd)(T:Txt K mg C G S)(Ybg:Cal P w K mg base "inverse" 1 spInv):FnOk P w K mg base CX0 2 f fd ["top","bottom","prime"] Zk8:=by
 have nd:=Zih.nd;refine F.ok Zih (λvs H Q E h=>?_) (λcdv A outer s H vs Q E hr h=>?_)
 .refine Zeq h λa b p e911 _=>?_;clear h;obtain rfl:=e911;rfl
 .refine Zda h λa b p e912 hp ha e913=>?_;clear h;obtain rfl:=e912;obtain⟨hb,q⟩:=e913;have p1:=hp.1;have p97:=hp.2.1;have b0:=Jbs b (show p≠0 by exact Zup p1);have b1:=Jba b (show 0<p by exact Zpt p1);refine⟨_,((3|||nd|||((opJ Zdi)<|>(pvr 1)<&&>(pvr 2)))<*>((@Za5 _ _ _ _ _ _ _ _ (Zao (opEqJ Zc8) (pvr 3) Zaf (Zaj _)) (@Zau _ _ _ Zci) Zak)<*>(~~~(Zdi<|>(Zbs<|>(pvr 0)<&&>(Ybg<$>hr<$>((pvr 3)<&>((pvr 2)<&>Zaa))))<&&>(pvr 2))))),?_⟩;walk_at "wp";have Zfd:∀ {c A B:Prop} [Decidable c],¬ c->B->if c then A else B:=λhc h=>by rw[if_neg hc];exact h
  refine⟨Zpt p1,Zfd (by rw[Ja3 hb];decide) ?_⟩;refine Zat _ p ⟨rfl,hp,∅,b1,λr H' s' r0 r1 hr1=>⟨r,rfl,ha.ok (Zrf (oz174 p97 r0 r1)) ⇑0,Zpt p1,q _ H' s' (Jbs _ (Zup p1)) (Jba _ (Zpt p1)) ?_⟩⟩;have k1:p ∣ r*(b % p)-1:=Int.dvd_of_emod_eq_zero (by rw[Int.sub_emod,hr1,Jci ⇑0 p1];rfl);obtain⟨k,hk⟩:=k1;have e:(a*r % p)*b-a=p*(a*k+a*r*(b / p)-a*r / p*b):=by
   rw[Int.emod_def] at hk ⊢
   grind
  rw[e,Int.mul_emod_right]
structure IsQ (p a b:Int)(x:Int×Int):Prop where
 is:Isn p x
 fd:∀ (F:Type) [Lean.Grind.Field F],FdOk p F->(nm x:F)=ic a / ic b
 bt:∀ n:Nat,7<=n->Bt n a->Bt n b->Bt n x.1/\Bt n x.2
theorem Ztg {a b:Int}(b0:b≠0):IsQ 0 a b (nrS a b):=by
 have key:∀ a b:Int,0<b->IsQ 0 a b (nrm a b):=λa b h=>by
  refine⟨.inl ⟨rfl,?_⟩,λF _ hF=>hF.nrmF rfl h,λn _ ha hb=>?_⟩
  .exact Zp5 h
  .have g0:=Zfm (a:=a) h;exact⟨ha.quo (Jbo ..),hb.quo (Jbv ..)⟩
 unfold nrS;by_cases h:b<0
 .rw [if_pos h];obtain⟨h1,h2,h3⟩:=key (-a) (-b) ∅;refine⟨h1,λF _ hF=>?_,λn h7 ha hb=>h3 n h7 ha.neg hb.neg⟩;rw[h2 F hF,Zuw,Zuw];have:(ic b:F)≠0:=hF.ne0 (.inl rfl) b0
  grind
 .rw [if_neg h];exact key a b ∅
theorem Zqi {p a b r:Int}(hp:Zfu p)(hb:b % p≠0)(r0:0<=r)(r1:r<p)(h:(r*b-a) % p=0):IsQ p a b (r,1):=by
 have p1:=hp.1;have p97:=hp.2.1;refine⟨.inr ⟨Zpt p1,r0,r1,rfl⟩,λF _ hF=>?_,λn h7 _ _=>⟨Zb1 h7 (by show r.natAbs<128;exact oz175 r0 r1 p97),Zb1 h7 (by show (1:Int).natAbs<128;decide)⟩⟩;have e1:(ic b:F)≠0:=by
  rw[<- hF.modF (Zup p1)];exact hF.ne0 (.inr ⟨Jbs _ (Zup p1),Jba _ (Zpt p1)⟩) hb
 have e2:(ic (r*b-a):F)=0:=by rw[<- hF.modF (Zup p1),h,Zf8]
 rw[Zqo,Zbw] at e2;rw[hF.one]
 grind
def Zig (G:Addr):Sp:=λvs H Q _=>∃ (g:Addr) (p a b:Int),vs=[.ref g,.int a,.int b]/\GAt G H g p/\GroundP p/\Bt NB a/\Bt NB b/\(p=0->b≠0)/\(p≠0->b % p≠0)/\∀ v x H',Same H H'->NumV H' p v x->IsQ p a b x->Q v H'
theorem Zp1 {f D:Addr}{fd:FuncData}(F:FunD K "number" "Ground.number" Zaq f fd D)(T:Txt K mg C G S)(Ya2:Cal P w K mg base "fraction" 5 Zlc)(Yav:Cal P w K mg base "rest_of" 2 Zk8):FnOk P w K mg base CX0 6 f fd ["self","top","bottom"] (Zig G):=by
 have nd:=Zd3.nd;refine F.ok Zd3 (λvs H Q E h=>?_) (λcdv A outer s H vs Q E hr h=>?_)
 .refine Zg1 h λg p a b e914 _=>?_;clear h;obtain rfl:=e914;rfl
 .refine Zcd h λg p a b e915 e916 hp e917=>?_;clear h;obtain rfl:=e915;obtain⟨dx,hg⟩:=e916;refine Zdn e917 λha hb h0 h1 q=>?_;clear e917;refine⟨_,((@Za5 _ _ _ _ _ _ _ _ (Zao Zc8 (Za8 (pvr 0) rfl) Zaf (Zaj _)) (~~~(Ya2<$>hr<$>((pvr 1)<&>((pvr 2)<&>Zaa)))) Zak)<*>(~~~(Yav<$>hr<$>((pvr 1)<&>((pvr 2)<&>((Za8 (pvr 0) rfl)<&>Zaa)))))),?_⟩;walk_at "wp";refine Zb4 G dx _ ⟨hg,T.cl_Ground,T.nP,_,Zbq p,rfl,Zdm (λhc=>?_) (λhc=>?_)⟩
  .have hp0:p=0:=by simpa using hc
   subst hp0;exact Zat a b ⟨rfl,ha,hb,h0 rfl,λt H' s' ht=>q _ _ _ s' (NumV.tup rfl ht) (Ztg (h0 rfl))⟩
  .have hp0:¬ p=0:=by simpa using hc
   have hp1:Zfu p:=hp.resolve_left hp0;exact Zb4 G dx _ ⟨hg,T.cl_Ground,T.nP,_,Zbq p,a,b,p,rfl,hp1,ha,h1 hp0,λr H' s' r0 r1 hr=>q _ (r,1) H' s' (NumV.of (x:=(r,1)) hp0) (Zqi hp1 (h1 hp0) r0 r1 hr)⟩
def spCmB:Sp:=λvs H Q _=>∃ a b:Int,vs=[.int a,.int b]/\0<a/\0<b/\Bt NB a/\Bt NB b/\∀ m H',Same H H'->0<m->a ∣ m->b ∣ m->m<=a*b->Q (.int m) H'
theorem ok_cmB (F:Fun K "common_multiple" "common_multiple" Zb5 f fd)(T:Txt K mg C G S)(hpt:P.given.tree=none)(Yac:Cal P w K mg base "common_divisor" 4 Zle):FnOk P w K mg base CX0 5 f fd ["one","other"] spCmB:=by
 have nd:=Zc0.nd;refine F.ok Zc0 (λvs H Q E h=>?_) (λcdv A outer s H vs Q E hr h=>?_)
 .refine Zbd h λa b e918 _=>?_;clear h;obtain rfl:=e918;rfl
 .refine Zg2 h λa b e919 ha hb ta tb q=>?_;clear h;obtain rfl:=e919;refine⟨_,(~~~(Zbs<|>((Zc1 hpt (Zcb hr))<|>(pvr 0)<&&>(Yac<$>hr<$>((pvr 0)<&>((pvr 1)<&>Zaa))))<&&>(pvr 1))),?_⟩;walk_at "wp";have g0:=Zfm (a:=a) hb;have e1:a / (Int.gcd a b:Int)*(Int.gcd a b:Int)=a:=Jb2 (Jbo ..);obtain⟨k,hk⟩:(Int.gcd a b:Int) ∣ b:=Jbv ..;have dpos:0<a / (Int.gcd a b:Int):=by
   rcases Jeu 0 (a / (Int.gcd a b:Int)) with h|h|h
   .exact h
   .rw [<- h,Int.zero_mul] at e1;omega
   .have:=Int.mul_neg_of_neg_of_pos h g0;omega
  have bd:Bt NB (a / (Int.gcd a b:Int)):=ta.quo (Jbo ..);have dle:(a / (Int.gcd a b:Int)).natAbs<=a.natAbs:=Ze1 a g0 (Jbo ..);refine Zat a b ⟨rfl,ta,tb,λH' s'=>⟨_,rfl,∅,?_⟩⟩;rw[Zen g0];refine⟨bd.ok tb ⇑0,q _ _ s' (Jej dpos hb) ⟨k,?_⟩ ⟨_,Jeq ..⟩ (Jct (oz103 ha dle) (oz50 hb))⟩;generalize (Int.gcd a b:Int)=g at *;generalize a / g=d at *;rw[hk,<- e1,Int.mul_assoc]
abbrev HB:Nat:=33500000
def RowZ (H:Hp)(a:Addr)(zs:List Int):Prop:=H a=some (.lst (zs.map V.int))
theorem RowZ.same {H H':Hp}{a:Addr}{zs:List Int}(h:RowZ H a zs)(s:Same H H'):RowZ H' a zs:=s _ _ h
theorem RowZ.put {H:Hp}{D:Addr}{o:HO}{a:Addr}{zs:List Int}(h:RowZ H a zs)(n:a≠D):RowZ (upd H D o) a zs:=by unfold RowZ;rw[Zah n];exact h
theorem Zkq {a b D:Addr}{xs ys:List V}{fr:List (Str×Nat)}{σ:L2.St}{te:TE}{H1:Hp}{Q:VK}(R:Nat->Hp->V->Prop)(hS:∀ {i H H' y},R i H y->Same H H'->R i H' y)(hP:∀ {i H y l o},R i H y->H D=some (.lst l)->R i (upd H D o) y)(ha:H1 a=some (.lst xs))(hb:H1 b=some (.lst ys))(hlen:ys.length=xs.length)(hD:H1 D=none)(hn:xs.length<=1000)(h:∀ (i:Nat) x y H (Q:VK),xs[i]?=some x->ys[i]?=some y->Same H1 H->(∃ l,H D=some (.lst l))->(∀ u H',Same H H'->R i H' u->Q u H')->te (some x::some y::Zbi fr σ) H Q)(hQ:∀ zs H',Same H1 H'->H' D=some (.lst zs)->zs.length=xs.length->(∀ (i:Nat) y,zs[i]?=some y->R i H' y)->Q (.ref D) H'):Zbv (gTup K 2 (Zkk (Zbh 0) (Zkk (Zbh 1) gNil))) Zfv te (Itz K a b) D (Zgq 2 fr σ) H1 Q:=by
 refine Zjl (xs:=xs) (ys:=ys) (λi vs H=>Same H1 H/\H D=some (.lst vs)/\vs.length=i/\∀ (j:Nat) y,vs[j]?=some y->R j H y) hlen ⟨Same.new hD,Zab,rfl,λj y e=>by simp at e⟩ (λi vs H _ p=>⟨SqL.of (p.1 _ _ ha),SqL.of (p.1 _ _ hb)⟩) ?_ (λvs H ⟨s,e,hl,hr⟩=>hQ vs H s e hl hr);intro i x y p vs σ' H hi hx hy hp sh e91;refine Zch e91 λs e hl hr=>?_;clear e91;refine Zfe sh.two λz1 z2 e96=>?_;obtain rfl:=e96;have s0:=Same.new (o:=.tup [x,y]) hp;refine Zat p _ ⟨rfl,SqT.of Zab,rfl,_,_,rfl,_,_,rfl,rfl,?_⟩;simp only[Zfv,List.set_cons_zero,List.set_cons_succ,Jcm];refine h i x y _ _ hx hy (s.trans s0) ⟨_,s0 _ _ e⟩ λu H' s' ru=>?_;have s1:=s0.trans s';refine Zlu (ws:=vs++[u]) hi Sh.mk2 (s1 _ _ e) (Zap (oz57 hn hi hl)) ⟨(s.trans s1).upd hD,Zab,by rw[Jam,hl];rfl,λj v hv=>?_⟩;by_cases hj:j<vs.length
 .rw [Jax hj] at hv;exact hP (hS (hr j v hv) s1) (s1 _ _ e)
 .rw [Jaw (Zmu hj)] at hv;have hj0:j-vs.length=0:=by
   by_cases z:j-vs.length=0
   .exact z
   .rw [Jai (by simp;exact oz11 z)] at hv;cases hv
  rw[hj0] at hv;cases hv;rw[show j=i by exact oz8 hl hj hj0];exact hP ru (s1 _ _ e)
theorem Zse {H:Hp}{p:Int}{vs:List V}{xs:List Nv}(hp:p≠0)(h:All2 (NumV H p) vs xs):vs=(xs.map λx=>x.1).map V.int:=by
 apply Jb4;intro i;have hl:=h.1;by_cases hi:i<vs.length
 .have e2:xs[i]?=some (xs[i]'(by omega)):=Jaa _;have:=(h.2 i _ _ (Jaa hi) e2).int hp;rw[Jaa hi,this,Jac,Jac,e2];rfl
 .rw [Jai (Zmu hi),Jai (by simp;omega)]
structure WRz (p:Int)(xs:List Nv)(zs:List Int)(b:Int):Prop where
 len:zs.length=xs.length
 pos:0<b
 one:p≠0->b=1
 eq:∀ i,zs.getD i 0*(xs.getD i (0,1)).2=(xs.getD i (0,1)).1*b
def Zic (p:Int)(k:Nat)(xs:List Nv):Prop:=∀ x∈xs,Isn p x/\Bt k x.1/\Bt k x.2
def Zr7 (G:Addr):Sp:=λvs H Q _=>∃ (g a:Addr) (p:Int) (xs:List Nv) (k:Nat),vs=[.ref g,.ref a]/\GAt G H g p/\GroundP p/\RowV H p a xs/\xs.length<=900/\Zic p k xs/\1<=k/\(xs.length+1)*k<=NB /\
 ∀ (t l:Addr) (zs:List Int) (b:Int) H',Same H H'->H l=none->H' t=some (.tup [.ref l,.int b])->RowZ H' l zs->WRz p xs zs b->SmallR ((xs.length+1)*k) zs->Bt ((xs.length+1)*k) b->Q (.ref t) H'
theorem ok_wrZ (F:Fun K "whole_row" "whole_row" Ze3 f fd)(T:Txt K mg C G S)(hpt:P.given.tree=none)(Ya1:Cal P w K mg base "common_multiple" 5 spCmB):FnOk P w K mg base CX0 6 f fd ["ground","row"] (Zr7 G):=by
 have nd:=Zgb.nd;refine F.ok Zgb (λvs H Q E h=>?_) (λcdv A outer s H vs Q E hr h=>?_)
 .refine xE5_2 h λg a p xs k e97 _=>?_;clear h;obtain rfl:=e97;rfl
 .refine Zh7 h λg a p xs k e98 e99 hp e910=>?_;clear h;obtain rfl:=e98;obtain⟨dx,hg⟩:=e99;refine Zfx e910 λe911 xl gd k1 kb q=>?_;clear e910;obtain⟨vs,hv,al⟩:=e911;have vl:=al.1;refine⟨_,((@Za5 _ _ _ _ _ _ _ _ (Zao Zd7 (Za8 (pvr 0) rfl) Zaf (Zaj _)) (~~~(@Zbj _ _ _ _ _ ((Zj6 Zc3 rfl T.n_list Jdv ((pvr 1)<&>Zaa))<&>(Zaf<&>Zaa)))) Zak)<*>((Zar (i:=2) nd rfl (Or.inr rfl) Zaf)<*>((Zdg Jbf rfl (Za0 (pv 1)) (3>>>nd) (@Zau _ _ _ (Zar (i:=2) nd rfl (Or.inr rfl) (Ya1<$>hr<$>((pvr 2)<&>(((Zkh Zbk)<|>(pvr 3)<||>Zaf)<&>Zaa))))))<*>(~~~(@Zbj _ _ _ _ _ ((Zaz (own:=["number"]) (fr:=[("bottom",2)]) rfl (Zbo (by kernel_rfl)) (Za0 (pv 1)) (λ_ _ _ _=>⟨(0<<<["number","bottom"]),Zax,(Zbs<|>((Zjg K rfl)<|>(pv 0)<||>Zaf)<&&>((Zc1 hpt (Zcb hr))<|>(pv 1)<&&>((Zjg K rfl)<|>(pv 0)<||>Zaf)))⟩))<&>((pvr 2)<&>Zaa))))))),?_⟩;walk_at "wp";refine Zb4 G dx _ ⟨hg,T.cl_Ground,T.nP,_,Zbq p,rfl,Zdm (λhc=>?_) (λhc=>?_)⟩
  .have hp0:¬ p=0:=by simpa using hc
   refine⟨_,.inl (SqL.of hv),λl hl=>⟨⇑0,λt ht=>?_⟩⟩;have s1:=Same.new (o:=.lst vs) hl;have s2:=Same.new (o:=.tup [V.ref l,V.int 1]) ht;have ev:=Zse hp0 al;refine q t l (xs.map λx=>x.1) 1 _ (s1.trans s2) hl Zab (by show upd (upd H l (.lst vs)) t _ l=_;rw[s2 _ _ Zab,ev]) ⟨by rw[Jab],⇑0,λ_=>rfl,λi=>?_⟩ (λz hz=>?_) (by
    show (1:Int).natAbs<2 ^ _;exact Nat.one_lt_two_pow (by rw[Jcx];omega))
   .rw [Jad,Jad,Jac];cases e:xs[i]? with
    | none=>rfl
    | some x=>
     rcases (gd _ (Jae e)).1 with ⟨h,_⟩|⟨_,_,_,h⟩
     .exact absurd h hp0
     .show x.1*x.2=x.1*1;rw[h]
   .refine Zac (Jau.mp hz) λx hx e912=>?_;obtain rfl:=e912;refine (gd x hx).2.1.le ?_;rw[Jcx];omega
  .have hp0:p=0:=by simpa using hc
   refine⟨_,rfl,a,rfl,⟨_,SqL.of hv⟩,Zcj (xs:=vs) (λi σ H2=>∃ (v3:Option V) (b:Int),σ=[some (.ref g),some (.ref a),some (.int b),v3]/\Same H H2/\0<b/\b.natAbs<=2 ^ (i*k)/\∀ j,j<i->(xs.getD j (0,1)).2 ∣ b)
    ⟨none,1,rfl,Same.refl _,⇑0,by simp,λj hj=>∅⟩ (λi σ H2 _ ⟨_,_,_,e,_⟩=>SqL.of (e _ _ hv)) ?_ ?_⟩
   .intro i x σ H2 hi e92;refine Znj e92 λv3 b e913 s2 b0 bB dv=>?_;clear e92;obtain rfl:=e913;refine Zac (al.at' hi) λy ey hy=>?_;refine Zac (hy.ref hp0) λty e914 hty=>?_;obtain rfl:=e914;refine Za2 (gd y (Jae ey)) λiy by1 by2=>?_;have hil:i<vs.length:=(Jaf.mp hi).1;have kik:i*k+k<=(xs.length+1)*k:=by
     rw[show i*k+k=(i+1)*k by rw[Jcx,Nat.one_mul]];exact Jco ∅ (Jah _)
    have bT:Bt NB b:=Jbh bB (Jdg ⇑0 (oz173 k1 kb kik));have yT:Bt NB y.2:=by2.le (oz142 kb kik);walk_at "wp";refine⟨_,SqT.of (s2 _ _ hty),_,rfl,b,y.2,rfl,b0,iy.pos,bT,yT,λm H3 s3 m0 d1 d2 ml=>⟨_,m,⟨rfl,rfl⟩,s2.trans s3,m0,?_,λj hj=>?_⟩⟩
    .have h1:(b*y.2).natAbs<=2 ^ (i*k)*2 ^ k:=Zbp bB (Jbw by2);rw[Jcx,Nat.one_mul,Nat.pow_add];exact oz35 m0 ml h1
    .by_cases h:j=i
     .subst h;rw[Zan ey];exact d2
     .exact Int.dvd_trans (dv j (oz16 hj h)) d1
   .intro σ H2 e93;refine Znj e93 λv3 b e915 s2 b0 bB dv=>?_;clear e93;obtain rfl:=e915;rw[vl] at bB dv;walk_at "wp";refine⟨_,rfl,a,rfl,⟨_,SqL.of (s2 _ _ hv)⟩,λD hD=>Zh4 (λi=>(xs.getD i (0,1)).1*(b / (xs.getD i (0,1)).2)) (s2 _ _ hv) hD ∅ (λi x H' Q' hx s' q'=>?_) λH1 s1 e1=>?_⟩
    .refine Zac (al.at' hx) λy ey hy=>?_;refine Zac (hy.ref hp0) λty e916 hty=>?_;obtain rfl:=e916;refine Za2 (gd y (Jae ey)) λiy by1 by2=>?_;have hil:i<vs.length:=(Jaf.mp hx).1;have d2:=dv i (oz4 vl hil);have q2:=q' H' (Same.refl _);rw[Zan ey] at d2 q2;have hty':=(s2.trans s') _ _ hty;have bT:Bt NB b:=Jbh bB (Jdg ⇑0 (by rw[Jcx] at kb;omega));have fe:=Zen (i:=b) iy.pos;refine⟨_,rfl,ty,_,_,_,rfl,rfl,SqT.of hty',rfl,_,rfl,_,rfl,ty,_,_,_,rfl,rfl,SqT.of hty',rfl,_,_,rfl,rfl,(by have:=iy.pos;omega),_,_,rfl,rfl,?_,?_⟩
     .rw [fe];exact (by1.le (m:=NB) (by rw[Jcx] at kb;omega)).ok (bT.quo d2) ⇑0
     .rw [fe];exact q2
    .rw [vl] at e1;refine⟨⇑0,λt ht=>?_⟩;have s3:=Same.new (o:=.tup [V.ref D,V.int b]) ht;refine q t D ((List.range xs.length).map λi=>(xs.getD i (0,1)).1*(b / (xs.getD i (0,1)).2)) b _ ((s2.trans s1).trans s3) (s2.free hD) Zab (s3 _ _ e1) ⟨by rw[Jab,Jav],b0,λh=>absurd hp0 h,λi=>?_⟩ (λz hz=>?_) (Jbh bB (Jdg ⇑0 (by rw[Jcx];omega)))
     .rw [Jad,Jac];by_cases hi:i<xs.length
      .have e:xs[i]?=some xs[i]:=Jaa hi;have d2:=dv i hi;rw[Ja4 hi];show (xs.getD i (0,1)).1*(b / (xs.getD i (0,1)).2)*(xs.getD i (0,1)).2=_;rw[Int.mul_assoc,Jb2 d2]
      .rw [Jai (by simp;exact Zmu hi),Jad,Jai (Zmu hi)];simp
     .refine Zac (Jau.mp hz) λi hi e917=>?_;obtain rfl:=e917;have hi:=Jbk.mp hi;have e:xs[i]?=some xs[i]:=Jaa hi;have d2:=dv i hi;rw[Zan e] at d2 ⊢;refine Za2 (gd _ (Jbd hi)) λiy by1 by2=>?_;have h1:(b / xs[i].2).natAbs<=b.natAbs:=Ze1 b iy.pos d2;have h2:=Zbp (Jah xs[i].1.natAbs) (Jbi h1 bB);show (xs[i].1*(b / xs[i].2)).natAbs<2 ^ ((xs.length+1)*k);rw[Jcx,Nat.one_mul,Nat.pow_add,Nat.mul_comm];exact Jbh h2 (Nat.mul_lt_mul_of_pos_right by1 (Nat.two_pow_pos _))
theorem Zdw {zs:List Int}{i:Nat}{x:V}(h:(zs.map V.int)[i]?=some x):∃ z,zs[i]?=some z/\x=.int z:=by
 rw[Jac] at h;cases e:zs[i]? with
 | none=>rw[e] at h;cases h
 | some z=>rw[e] at h;cases h;exact⟨z,rfl,rfl⟩
theorem Zhp {zs:List Int}(f:Int->Int):(List.range zs.length).map (λi=>f (zs.getD i 0))=zs.map f:=by
 apply Jb4;intro i;rw[Jac,Jac];by_cases hi:i<zs.length
 .rw [Ja4 hi,Jaa hi];show some (f (zs.getD i 0))=some (f zs[i]);rw[Zan (Jaa hi)]
 .rw [Jai (by simp;exact Zmu hi),Jai (Zmu hi)];rfl
def Zl9 (G:Addr):Sp:=λvs H Q _=>∃ (g a:Addr) (p:Int) (zs:List Int),vs=[.ref g,.ref a]/\GAt G H g p/\GroundP p/\RowZ H a zs/\zs.length<=900/\(p=0->SmallR NB zs) /\
 ∀ (a':Addr) H',Same H H'->RowZ H' a' (Zdb p zs)->(a'=a\/H a'=none)->Q (.ref a') H'
theorem ok_tidy (F:Fun K "tidied" "tidied" Zi5 f fd)(T:Txt K mg C G S)(hpt:P.given.tree=none)(Yac:Cal P w K mg base "common_divisor" 4 Zle):FnOk P w K mg base CX0 5 f fd ["ground","row"] (Zl9 G):=by
 have nd:=Zj0.nd;refine F.ok Zj0 (λvs H Q E h=>?_) (λcdv A outer s H vs Q E hr h=>?_)
 .refine Zg1 h λg a p zs e918 _=>?_;clear h;obtain rfl:=e918;rfl
 .refine Zcd h λg a p zs e919 e920 hp e921=>?_;clear h;obtain rfl:=e919;obtain⟨dx,hg⟩:=e920;refine Zch e921 λrz zl sm q=>?_;clear e921;refine⟨_,((@Za5 _ _ _ _ _ _ _ _ (Zao Zd7 (Za8 (pvr 0) rfl) Zaf (Zaj _)) (~~~(Zaz (own:=["number"]) (fr:=[("ground",0)]) rfl (Zbo (by kernel_rfl)) (Za0 (pv 1)) (λ_ _ _ _=>⟨(0<<<["number","ground"]),Zax,(Zdi<|>(pv 0)<&&>(Zpq K rfl (pv 1) rfl))⟩))) Zak)<*>((Zar (i:=2) nd rfl (Or.inr rfl) Zaf)<*>((Zdg Jbf rfl (Za0 (pv 1)) (3>>>nd) ((Zar (i:=2) nd rfl (Or.inr rfl) (Yac<$>hr<$>((pvr 3)<&>((pvr 2)<&>Zaa))))<*>(@Zau _ _ _ (@Za5 _ _ _ _ _ _ _ _ (Zao Zc8 (pvr 2) Zaf (Zaj _)) (~~~(pvr 1)) Zak))))<*>((@Za5 _ _ _ _ _ _ _ _ (Zao Zc8 (pvr 2) Zaf (Zaj _)) (~~~(pvr 1)) Zak)<*>(~~~(Zaz (own:=["number"]) (fr:=[("divisor",2)]) rfl (Zbo (by kernel_rfl)) (Za0 (pv 1)) (λ_ _ _ _=>⟨(0<<<["number","divisor"]),Zax,((Zc1 hpt (Zcb hr))<|>(pv 0)<&&>(pv 1))⟩))))))),?_⟩;walk_at "wp";refine Zb4 G dx _ ⟨hg,T.cl_Ground,T.nP,_,Zbq p,rfl,Zdm (λhc=>?_) (λhc=>?_)⟩
  .have hp0:¬ p=0:=by simpa using hc
   have p0:=hp.lo;refine⟨_,rfl,a,rfl,⟨_,SqL.of rz⟩,λD hD=>Zh4 (λi=>zs.getD i 0 % p) rz hD (by rw[Jab];exact oz85 zl) (λi x H' Q' hx s' q'=>?_) λH1 s1 e1=>?_⟩
   .refine Zac (Zdw hx) λz ez e922=>?_;obtain rfl:=e922;have q2:=q' H' (Same.refl _);rw[Zan ez] at q2;simp only[Zbi];walk_at "wp";exact⟨_,rfl,_,rfl,G,dx,_,s' _ _ hg,T.cl_Ground,T.nP,_,Zbq p,_,rfl,∅,q2⟩
   .rw [Jab,Zhp (· % p)] at e1;refine q D H1 s1 ?_ (.inr hD);unfold Zdb;rw[if_neg hp0];exact e1
  .have hp0:p=0:=by simpa using hc
   have sm:=sm hp0;refine⟨_,rfl,a,rfl,⟨_,SqL.of rz⟩,Zcj (xs:=zs.map V.int) (λi σ H2=>∃ (v3:Option V),σ=[some (.ref g),some (.ref a),some (.int (gcdL (zs.take i):Nat)),v3]/\Same H H2/\Bt NB (gcdL (zs.take i):Nat))
    ⟨none,rfl,Same.refl _,Zjp _⟩ (λi σ H2 _ ⟨_,_,e,_⟩=>SqL.of (e _ _ rz)) ?_ ?_⟩
   .intro i x σ H2 hi e94;refine Zal e94 λv3 e923 s2 bg=>?_;clear e94;obtain rfl:=e923;refine Zac (Zdw hi) λz ez e924=>?_;obtain rfl:=e924;walk_at "wp";have eg:=Zqv ez;have bz:=sm z (Jae ez);refine Zat z _ ⟨rfl,bz,bg,λH3 s3=>?_⟩;rw[<- eg];refine⟨rfl,Zdm (λhc=>?_) (λhc=>?_)⟩
    .have hc:(gcdL (zs.take (i+1)):Int)=1:=by simpa using hc
     have h1:gcdL zs=1:=Nat.dvd_one.mp (by have:=Zqu zs (i+1);rwa [show gcdL (zs.take (i+1))=1 by exact oz149 hc] at this);refine q a H3 (s2.trans s3) ?_ (.inl rfl);subst hp0;rw[Zrz h1];exact rz.same (s2.trans s3)
    .refine ⟨_,⟨rfl,rfl⟩,s2.trans s3,?_⟩;rw[eg];by_cases z0:z=0
     .subst z0;refine bg.abs_le ?_;simp[Int.gcd]
     .refine bz.abs_le ?_;have:=Int.gcd_le_natAbs_left (gcdL (zs.take i):Int) z0;exact oz166 this
   .intro σ H2 e95;refine Zal e95 λv3 e925 s2 bg=>?_;clear e95;obtain rfl:=e925;rw[Jab,List.take_length] at *;walk_at "wp";refine Zdm (λhc=>?_) (λhc=>?_)
    .have hc:(gcdL zs:Int)=0:=by simpa using hc
     refine q a H2 s2 ?_ (.inl rfl);subst hp0;rw[Zg4 ∅];exact rz.same s2
    .have hc:¬ (gcdL zs:Int)=0:=by simpa using hc
     refine⟨_,rfl,a,rfl,⟨_,SqL.of (s2 _ _ rz)⟩,λD hD=>Zh4 (λi=>zs.getD i 0 / (gcdL zs:Int)) (s2 _ _ rz) hD (by rw[Jab];exact oz85 zl) (λi x H' Q' hx s' q'=>?_) λH1 s1 e1=>?_⟩
     .refine Zac (Zdw hx) λz ez e926=>?_;obtain rfl:=e926;have q2:=q' H' (Same.refl _);rw[Zan ez,<- Zen ∅] at q2;exact⟨_,rfl,_,rfl,z,_,rfl,rfl,hc,q2⟩
     .rw [Jab,Zhp (· / (gcdL zs:Int))] at e1;refine q D H1 (s2.trans s1) ?_ (.inr (s2.free hD));unfold Zdb;rw[if_pos hp0];exact e1
def Zld (G:Addr):Sp:=λvs H Q _=>∃ (g a l:Addr) (p:Int) (row lead:List Int) (k:Nat),vs=[.ref g,.ref a,.ref l,.int k]/\GAt G H g p/\GroundP p/\RowZ H a row/\RowZ H l lead/\row.length=lead.length/\row.length<=900/\k<row.length/\lead.getD k 0≠0/\SmallR HB row/\SmallR HB lead /\
 ∀ (a':Addr) H',Same H H'->RowZ H' a' (Zbm p row lead k)->(a'=a\/H a'=none)->Q (.ref a') H'
theorem Zs3 (F:Fun K "cleared" "cleared" Zhm f fd)(T:Txt K mg C G S)(hpt:P.given.tree=none)(Yac:Cal P w K mg base "common_divisor" 4 Zle)(Yap:Cal P w K mg base "tidied" 5 (Zl9 G)):FnOk P w K mg base CX0 6 f fd ["ground","row","lead","place"] (Zld G):=by
 have nd:=Zio.nd;refine F.ok Zio (λvs H Q E h=>?_) (λcdv A outer s H vs Q E hr h=>?_)
 .refine xE7_2 h λg a l p row lead k e927 _=>?_;clear h;obtain rfl:=e927;rfl
 .refine xE7_4 h λg a l p row lead k e928 hg hp e929=>?_;clear h;obtain rfl:=e928;refine xE0_9 e929 λra rl hl wl kl k0 s1 s2 q=>?_;clear e929;refine⟨_,((@Za5 _ _ _ _ _ _ _ _ (Zao Zc8 ((ixJ Zbg)<|>(pvr 1)<||>(pvr 3)) Zaf (Zaj _)) (~~~(pvr 1)) Zak)<*>((4|||nd|||(Yac<$>hr<$>(((ixJ Zbg)<|>(pvr 1)<||>(pvr 3))<&>(((ixJ Zbg)<|>(pvr 2)<||>(pvr 3))<&>Zaa))))<*>((Zar (i:=5) nd rfl (Or.inr rfl) ((Zc1 hpt (Zcb hr))<|>((ixJ Zbg)<|>(pvr 2)<||>(pvr 3))<&&>(pvr 4)))<*>((Zar (i:=6) nd rfl (Or.inr rfl) ((Zc1 hpt (Zcb hr))<|>((ixJ Zbg)<|>(pvr 1)<||>(pvr 3))<&&>(pvr 4)))<*>(~~~(Yap<$>hr<$>((pvr 0)<&>((Zaz (own:=["number","other"]) (fr:=[("keep",5),("take",6)]) rfl (Zbo (by kernel_rfl)) (Zmq rfl T.n_zip ((pv 1)<&>((pv 2)<&>Zaa))) (λ_ _ _ _=>⟨(@Zc7 _ K rfl _ _ _ _ 2 rfl ((0<<<["number","other","keep","take"])^^^((1<<<["number","other","keep","take"])^^^(@Za3 _))) ⇑1 ⇑1),Zax,(Zhu<|>(Zbs<|>(pv 2)<&&>(pv 0))<&&>(Zbs<|>(pv 3)<&&>(pv 1)))⟩))<&>Zaa)))))))),?_⟩;walk_at "wp";have at_:∀ {zs:List Int},k<zs.length->atI (zs.map V.int) (k:Int)=some (.int (zs.getD k 0)):=λ{zs} h=>by
   refine Zd5 Zsm ?_;rw[Jbu,Jac,Jaa h,Zbn h];rfl
  refine⟨_,SqL.of ra,_,at_ kl,rfl,Zdm (λhc=>?_) (λhc=>?_)⟩
  .have hc:row.getD k 0=0:=by simpa using hc
   refine q a H (Same.refl _) ?_ (.inl rfl);unfold Zbm;rw[if_pos hc];exact ra
  .have hc:¬ row.getD k 0=0:=by simpa using hc
   have cz:Zbm p row lead k=Zdb p (Ziq row lead k):=by unfold Zbm;rw[if_neg hc]
   refine⟨_,SqL.of ra,_,at_ kl,_,SqL.of rl,_,at_ (oz4 hl kl),_,_,rfl,(s1.at k).le ⇑0,(s2.at k).le ⇑0,λH1 t1=>?_⟩;have g0:(0:Int)<(Int.gcd (row.getD k 0) (lead.getD k 0):Int):=by have:=Jc5 (row.getD k 0) k0;omega
   refine⟨_,SqL.of (t1 _ _ rl),_,at_ (oz4 hl kl),_,rfl,_,rfl,∅,_,SqL.of (t1 _ _ ra),_,at_ kl,_,rfl,_,rfl,∅,?_⟩;rw[Zen g0,Zen g0];have bl:=(s2.at k).quo (Jbv (row.getD k 0) (lead.getD k 0));have br:=(s1.at k).quo (Jbo (row.getD k 0) (lead.getD k 0));have rlen:(Ziq row lead k).length=row.length:=by unfold Ziq;rw[Jcw];exact oz82 hl
   refine⟨_,rfl,_,rfl,a,l,rfl,⟨_,SqL.of (t1 _ _ ra)⟩,⟨_,SqL.of (t1 _ _ rl)⟩,λD hD=>Zkq (λi _ y=>y=.int ((Ziq row lead k).getD i 0)) (λr _=>r) (λr _=>r) (t1 _ _ ra) (t1 _ _ rl) (by rw[Jab,Jab];exact oz27 hl) hD (by rw[Jab];exact oz85 wl) (λi x y H' Q' hx hy s' _ q'=>?_) λys H2 t2 e2 hyl hys=>?_⟩
   .refine Zac (Zdw hx) λz ez e930=>?_;obtain rfl:=e930;refine Zac (Zdw hy) λu eu e931=>?_;obtain rfl:=e931;simp only[Zbi];walk_at "wp";refine⟨_,rfl,_,rfl,bl.ok (s1 z (Jae ez)) ⇑0,_,rfl,_,rfl,br.ok (s2 u (Jae eu)) ⇑0,q' _ H' (Same.refl _) ?_⟩;rw[Zmm hl,Zan ez,Zan eu]
   .rw [Jab] at hyl;have e3:ys=(Ziq row lead k).map V.int:=by
     have e4:=Zhp (zs:=Ziq row lead k) id;rw[Jex] at e4;rw[Zh0 hyl hys,<- rlen];exact Jdb (List.map V.int) e4
    rw[e3] at e2;have sr:SmallR NB (Ziq row lead k):=(Zoy s1 s2).le ⇑0;have t12:=t1.trans t2;refine Zfw g D p (Ziq row lead k) ⟨rfl,hg.same t12,hp,e2,oz51 wl rlen,λ_=>sr,λa' H3 t3 r3 fr=>q a' H3 (t12.trans t3) (by rw[cz];exact r3) ?_⟩;rcases fr with rfl|fr
    .exact .inr (t1.free hD)
    .exact .inr (t12.free fr)
end
end Pf
namespace Pf
open PySem L2 L3 PyProof.Rows
section
variable {G PL cL:Addr}
abbrev lamO:HO:=(HO.tab 161 26 ("leading_row.<locals>." ++ "<lambda>"))
def nzs (Z:List (List Int))(k n:Nat):List Nat:=(List.range n).filter λj=>decide ((Z.getD j []).getD k 0≠0)
theorem Zln {Z:List (List Int)}{k n j:Nat}:j∈nzs Z k n ↔ j<n/\(Z.getD j []).getD k 0≠0:=by
 unfold nzs;rw[List.mem_filter,Jbk,Ja0]
theorem Zs5 {Z:List (List Int)}{k n:Nat}:nzs Z k (n+1)=nzs Z k n++(if (Z.getD n []).getD k 0≠0 then [n] else []):=by
 unfold nzs;rw[Jcs,List.filter_append];congr 1;by_cases h:(Z.getD n []).getD k 0≠0
 .rw [if_pos h,List.filter_cons,if_pos (by simpa using h)];rfl
 .rw [if_neg h,List.filter_cons,if_neg (by simpa using h)];rfl
def spLr (PL:Addr):L2.Sp:=λvs H Q _=>∃ (L:Addr) (as:List Addr) (Z:List (List Int)) (k:Nat),vs=[.ref L,.int k]/\H L=some (.lst (as.map V.ref))/\All2 (RowZ H) as Z/\(∀ row∈Z,k<row.length)/\Z.length<=900/\H PL=some lamO /\
 (∀ H',Same H H'->(∀ row∈Z,row.getD k 0=0)->Q .non H')/\(∀ (i:Nat) row H',Same H H'->Z[i]?=some row->row.getD k 0≠0->Q (.int i) H')
theorem ok_lr (F:FunC K "leading_row" "leading_row" Zbe f fd cL)(T:Txt K mg C G S)(hcb:PySem.W.CodeHd base cL PL):FnOk P w K mg base CX0 1 f fd ["rows","place"] (spLr PL):=by
 have nd:=Zev.nd;refine F.ok Zev (λvs H Q E h=>?_) (λA outer s H vs Q E hr h=>?_)
 .refine Zg1 h λL as Z k e92 _=>?_;clear h;obtain rfl:=e92;rfl
 .refine Zcd h λL as Z k e93 hL al e94=>?_;clear h;obtain rfl:=e93;refine Zdn e94 λwd zl hP q0 q1=>?_;clear e94;have hdep:(A.deeper (envOfC "leading_row" (Zae Zbe) s.heap.objs.size f (.ref cL))).depth<recursionLimit:=by have:=hr.dp;omega
  refine⟨_,((Zht (i:=2) (own:=["at","row"]) (fr:=[("place",1)]) rfl (Zbo (by kernel_rfl)) (pi_enm rfl T.n_enumerate ((pv 0)<&>Zaa)) (λ_ _ _ _=>⟨(@Zc7 _ K rfl _ _ _ _ 2 rfl ((0<<<["at","row","place"])^^^((1<<<["at","row","place"])^^^(@Za3 _))) ⇑1 ⇑1),(Zpf (Zf6 Zd7 ((Zb0 K rfl)<|>(pv 1)<||>(pv 2)) Zaf (Zaj _))),(pv 0)⟩) nd rfl rfl rfl)<*>(~~~(pe_minL (x:="at") (fr:=[("rows",0),("place",1)]) rfl hdep rfl T.n_min (lam_of (by kernel_rfl)) rfl hcb rfl (λ_ _ _ _ _=>rfl) (pvr 2) (λ_ _ _ _ _=>(Za1 Zeo rfl T.n_abs boot_abs (((Zb0 K rfl)<|>((Zb0 K rfl)<|>(pv 1)<||>(pv 0))<||>(pv 2))<&>Zaa)))))),?_⟩;refine Zc9 λX hX=>?_;walk_at "wp";have zal:=al.1;have aft:∀ (D:Addr) (H1:Hp),Same H H1->H1 D=some (.lst ((nzs Z k as.length).map λ(j:Nat)=>V.int j))->X { nx:=λx H'=>Q V.non H',rt:=Q } [some (.ref L),some (.int k),some (.ref D)] H1:=by
   intro D H1 t1 hD;subst hX;walk_at "wp";refine⟨_,SqL.of hD,t1 _ _ hP,λi=>((((Z.getD ((nzs Z k as.length).getD i 0) []).getD k 0).natAbs:Nat):Int),λi v H2 hi t2=>?_,λe H2 t2=>?_,λi v H2 _ hi t2=>?_⟩
   .rw [Jac] at hi;cases e:(nzs Z k as.length)[i]? with
    | none=>rw[e] at hi;cases hi
    | some j=>
     rw[e] at hi;cases hi;obtain⟨h1,h2⟩:=Zln.mp (Jae e);have ea:as[j]?=some as[j]:=Jaa h1;refine Zac (al.at' ea) λrow er ha=>?_;have kr:=wd row (Jae er);have t12:=t1.trans t2;have ew:(nzs Z k as.length).getD i 0=j:=by rw[Jad,e];rfl
     have ez:Z.getD j []=row:=by rw[Jad,er];rfl
     refine⟨_,rfl,L,rfl,_,_,rfl,SqL.of (t12 _ _ hL),_,Zd5 Zsm (by rw[Jbu,Jac,ea];rfl),_,rfl,as[j],rfl,_,_,rfl,SqL.of (t12 _ _ ha),_,Zd5 Zsm (by rw[Jbu,Jac,Jaa kr];rfl),row[k],rfl,?_,Same.refl _⟩;show _=((((Z.getD ((nzs Z k as.length).getD i 0) []).getD k 0).natAbs:Nat):Int);rw[ew,ez,Zbn kr];split <;> omega
   .have e0:nzs Z k as.length=[]:=List.map_eq_nil_iff.mp e;refine q0 H2 (t1.trans t2) λrow hr=>?_;refine Zac (Zfj hr []) λj hj e95=>?_;obtain rfl:=e95;apply Jcb;intro z;have:j∈nzs Z k as.length:=Zln.mpr ⟨Zgm zal hj,z⟩;rw[e0] at this;simp at this
   .rw [Jac] at hi;cases e:(nzs Z k as.length)[i]? with
    | none=>rw[e] at hi;cases hi
    | some j=>
     rw[e] at hi;cases hi;obtain⟨h1,h2⟩:=Zln.mp (Jae e);exact q1 j (Z.getD j []) H2 (t1.trans t2) (by rw[Zbn (oz4 zal h1)];exact Jaa _) h2
  refine⟨_,rfl,L,rfl,⟨_,SqL.of hL⟩,λD hD=>Zt1 (xs:=as.map V.ref) (λi vs H2=>Same H H2/\H2 D=some (.lst vs)/\vs=(nzs Z k i).map λ(j:Nat)=>V.int j) ⟨Same.new hD,Zab,rfl⟩ (λi vs H2 _ p=>SqL.of (p.1 _ _ hL)) ?_ λvs H2 ⟨t2,e2,e3⟩=>?_⟩
  .intro i x q' vs σ' H2 hi hx hq sh e91;refine Za2 e91 λt2 e2 e3=>?_;clear e91;refine Zfe sh.two λz1 z2 e96=>?_;obtain rfl:=e96;have s0:=Same.new (o:=.tup [.int i,x]) hq;rw[Jac] at hx;cases ea:as[i]? with
   | none=>rw[ea] at hx;cases hx
   | some a=>
    rw[ea] at hx;cases hx;refine Zac (al.at' ea) λrow er ha=>?_;have kr:=wd row (Jae er);have ez:Z.getD i []=row:=by rw[Jad,er];rfl
    have hln:vs.length<=900:=by
     rw[e3,Jab];refine Jbi (List.length_filter_le _ _) ?_;rw[Jav];rw[Jab] at hi;omega
    simp only[Zer];refine Zat q' _ ⟨rfl,SqT.of Zab,rfl,_,_,rfl,_,_,rfl,rfl,?_⟩;simp only[List.set_cons_zero,List.set_cons_succ,Zbi];walk_at "wp";refine⟨_,rfl,_,_,rfl,SqL.of ((t2.trans s0) _ _ ha),_,Zd5 Zsm (by rw[Jbu,Jac,Jaa kr];rfl),rfl,?_⟩;have nx:=Zs5 (Z:=Z) (k:=k) (n:=i);rw[ez,Zbn kr] at nx;refine Zdm (λhc=>?_) (λhc=>?_)
    .have hc:row[k]≠0:=by simpa using hc
     rw[if_pos hc] at nx;refine Zlu (ws:=vs++[V.int i]) hi Sh.mk2 (s0 _ _ e2) (Zap (oz85 hln)) ⟨(t2.trans s0).upd hD,Zab,?_⟩;rw[e3,nx,Jaz];rfl
    .have hc:¬ row[k]≠0:=by simpa using hc
     rw[if_neg hc,Jc7] at nx;exact leaf0 (ws:=vs) hi Sh.mk2 ⟨t2.trans s0,s0 _ _ e2,by rw[e3,nx]⟩
  .rw [Jab] at e3;rw[e3] at e2;exact aft D H2 t2 e2
def Zk0 (p:Int)(k:Nat)(zs:List Int)(xs:List Nv):Prop:=∃ ws b,WRz p xs ws b/\SmallR ((xs.length+1)*k) ws/\zs=Zdb p ws
def Zf9 (p:Int)(k:Nat)(Z:List (List Int))(M:Mv):Prop:=All2 (Zk0 p k) Z M
def Zl5 (p:Int)(k wide:Nat)(M:Mv):Prop:=∀ Z,Zf9 p k Z M->∀ j done left pl,j<=wide->Sw p Z j done left pl->∀ row∈done++left,SmallR HB row
structure RowsB (H:Hp)(p:Int)(k W:Nat)(L:Addr)(as:List Addr)(M:Mv):Prop where
 lst:H L=some (.lst (as.map V.ref))
 row:All2 (RowV H p) as M
 wd:∀ xs∈M,xs.length=W
 gd:∀ xs∈M,Zic p k xs
 h900:M.length<=900
 w900:W<=900
 k1:1<=k
 kb:(W+1)*k<=NB
structure SwH (H H2:Hp)(dA lA pA:Addr)(ds ls:List Addr)(done left:List (List Int))(pl:List Nat):Prop where
 sm:Same H H2
 fd:H dA=none
 fl:H lA=none
 fp:H pA=none
 ne1:dA≠lA
 ne2:dA≠pA
 ne3:lA≠pA
 hd:H2 dA=some (.lst (ds.map V.ref))
 hl:H2 lA=some (.lst (ls.map V.ref))
 hp:H2 pA=some (.lst (pl.map λ(j:Nat)=>V.int j))
 rd:All2 (RowZ H2) ds done
 rl:All2 (RowZ H2) ls left
 nd:∀ a∈ds,H a=none/\a≠dA/\a≠lA/\a≠pA
 nl:∀ a∈ls,H a=none/\a≠dA/\a≠lA/\a≠pA
theorem SwH.same {H H2 H3:Hp}{dA lA pA:Addr}{ds ls:List Addr}{done left:List (List Int)}{pl:List Nat}(h:SwH H H2 dA lA pA ds ls done left pl)(s:Same H2 H3):SwH H H3 dA lA pA ds ls done left pl:=
 ⟨h.sm.trans s,h.fd,h.fl,h.fp,h.ne1,h.ne2,h.ne3,s _ _ h.hd,s _ _ h.hl,s _ _ h.hp,h.rd.mono λ_ _ k=>k.same s,h.rl.mono λ_ _ k=>k.same s,h.nd,h.nl⟩
theorem All2.eraseIdx {α β:Type}{P:α->β->Prop}{xs:List α}{ys:List β}(h:All2 P xs ys)(n:Nat):All2 P (xs.eraseIdx n) (ys.eraseIdx n):=by
 rw[Jca,Jca];exact (h.take n).app (h.drop (n+1))
theorem All2.of_get {α β:Type}{P:α->β->Prop}{xs:List α}{ys:List β}{d:β}(hl:xs.length=ys.length)(h:∀ (i:Nat) x,xs[i]?=some x->P x (ys.getD i d)):All2 P xs ys:=⟨hl,λi x y e1 e2=>by
 have:=h i x e1;rwa [Jad,e2] at this⟩
theorem Zf7 {p:Int}{k W:Nat}{Z:List (List Int)}{M:Mv}(h0:0<=p)(h:Zf9 p k Z M)(wd:∀ xs∈M,xs.length=W):∀ row∈Z,Rw p W row:=λrow hr=>by
 obtain⟨i,hi,e⟩:=Jan.mp hr;refine Zac (h.at' (i:=i) (x:=row) (by rw[Jaa hi,e])) λxs ex e93=>?_;obtain⟨ws,b,w1,_,rfl⟩:=e93;exact Zo6 h0 (w1.len.trans (wd xs (Jae ex)))
theorem tyL {H:Hp}{p:Addr}{xs:List V}(h:H p=some (.lst xs)):tyV K "list" (.ref p) H:=.inl ⟨rfl,_,SqL.of h⟩
theorem seqIx {j n:Nat}(h:j<n):PySem.seqIndex? (j:Int) n=some j:=by
 unfold PySem.seqIndex?;simp only[show ¬ ((j:Int)<0) by omega,if_false];rw[if_pos (by simp;exact oz25 h)];rfl
theorem Zkm {α β:Type}(f:α->β)(xs:List α)(n:Nat):(xs.map f).eraseIdx n=(xs.eraseIdx n).map f:=by
 rw[Jca,Jca,Jaz,List.map_take,List.map_drop]
def Zk6 (G PL:Addr):L2.Sp:=λvs H Q _=>∃ (g L:Addr) (p:Int) (as:List Addr) (M:Mv) (k W wide:Nat),vs=[.ref g,.ref L,.int wide]/\GAt G H g p/\GroundP p/\RowsB H p k W L as M/\wide<=W/\H PL=some lamO/\Zl5 p k wide M /\
 ∀ (t F pA:Addr) (rs:List Addr) (Z done left:List (List Int)) (pl:List Nat) H',Same H H'->H' t=some (.tup [.ref F,.ref pA])->H F=none->H pA=none->F≠pA->H' pA=some (.lst (pl.map λ(j:Nat)=>V.int j))->H' F=some (.lst (rs.map V.ref))->All2 (RowZ H') rs (done++left)->(∀ a∈rs,H a=none/\a≠F/\a≠pA)->
  Zf9 p k Z M->Sw p Z wide done left pl->Q (.ref t) H'
theorem Zst (F:Fun K "swept" "swept" Zlh f fd)(T:Txt K mg C G S)(Yal:Cal P w K mg base "whole_row" 6 (Zr7 G))(Yap:Cal P w K mg base "tidied" 5 (Zl9 G))(Ya8:Cal P w K mg base "cleared" 6 (Zld G))(Ybn:Cal P w K mg base "leading_row" 1 (spLr PL)):FnOk P w K mg base CX0 7 f fd ["ground","rows","wide"] (Zk6 G PL):=by
 have nd:=Zmi.nd;refine F.ok Zmi (λvs H Q E h=>?_) (λcdv A outer s H vs Q E hr h=>?_)
 .refine xE8_2 h λg L p as M k W wide e94 _=>?_;clear h;obtain rfl:=e94;rfl
 .refine xE8_4 h λg L p as M k W wide e95 hg hp e96=>?_;clear h;obtain rfl:=e95;refine Zdn e96 λR hw hPL sw q=>?_;clear e96;refine⟨_,((3|||nd|||(@Za7 _ _ _ _ Zaa))<*>((Zht (i:=4) (own:=["row"]) (fr:=[("ground",0)]) rfl (Zbo (by kernel_rfl)) (Za0 (pv 1)) (λ_ _ _ _=>⟨(0<<<["row","ground"]),Zax,(Yap<$>hr<$>((pv 1)<&>(((Zjg K rfl)<|>(Yal<$>hr<$>((pv 1)<&>((pv 0)<&>Zaa)))<||>Zaf)<&>Zaa)))⟩) nd rfl rfl rfl)<*>((5|||nd|||(@Za7 _ _ _ _ Zaa))<*>((Zdg Jbf rfl (Zia rfl T.n_range ((pv 2)<&>Zaa)) (@Zad _ _ 6 _ nd rfl (Or.inr rfl) (Or.inl rfl)) ((7|||nd|||(Ybn<$>hr<$>((pvr 4)<&>((pvr 6)<&>Zaa))))<*>(@Zau _ _ _ (@Za5 _ _ _ _ _ _ _ _ (Zao op_notN (pvr 7) pe_non (Zaj _)) ((Zar (i:=8) nd rfl (Or.inr rfl) (Znp Jb6 PySem.F.slot_list_pop PySem.F.type_list_pop Zs7 (pvr 4) ((pvr 7)<&>Zaa)))<*>((Zht (i:=4) (own:=["row"]) (fr:=[("ground",0),("lead",8),("place",6)]) rfl (Zbo (by kernel_rfl)) (Za0 (pv 4)) (λ_ _ _ _=>⟨(0<<<["row","ground","lead","place"]),Zax,(Ya8<$>hr<$>((pv 1)<&>((pv 0)<&>((pv 2)<&>((pv 3)<&>Zaa)))))⟩) nd rfl rfl rfl)<*>((Zhs (Znp Jb6 Jcc Jcd (mtJ Zdj) (pvr 3) ((pvr 8)<&>Zaa)))<*>(@Zau _ _ _ (Zhs (Znp Jb6 Jcc Jcd (mtJ Zdj) (pvr 5) ((pvr 6)<&>Zaa))))))) Zak))))<*>(~~~(@Zbj _ _ _ _ _ ((Zj8<|>(pvr 3)<&&>(pvr 4))<&>((pvr 5)<&>Zaa)))))))),?_⟩;walk_at "wp";have p0:=hp.lo;have ml:=R.row.1;have h9:=R.h900;have w9:=R.w900;have k1:=R.k1;have kb:=R.kb;refine⟨⇑0,λdA hdA=>?_⟩;have s1:=Same.new (o:=.lst []) hdA;refine⟨_,rfl,L,rfl,⟨_,SqL.of (s1 _ _ R.lst)⟩,λlA hlA=>Zb8 (λi Hc y=>∃ (a:Addr) (zs:List Int),y=.ref a/\RowZ Hc a zs/\Zk0 p k zs (M.getD i [])/\H a=none/\a≠dA/\a≠lA) (λ⟨a,zs,e,b,c⟩ s=>⟨a,zs,e,b.same s,c⟩) (λ⟨a,zs,e,b,c,d,e',f⟩ hD=>⟨a,zs,e,b.put f,c,d,e',f⟩) (s1 _ _ R.lst) hlA (by rw[Jab];omega) (λi x H' Q' hx s' ⟨lD,hlD⟩ q'=>?_) (λys H1 s2 e2 hyl hys=>?_)⟩
  .refine Zac ((Zb2 R.row).at' hx) λrow er e97=>?_;obtain⟨a,rfl,rv⟩:=e97;have hrow:=Jae er;have wr:=R.wd row hrow;have t1:=s1.trans s';refine⟨_,rfl,_,rfl,_,rfl,g,a,p,row,k,rfl,hg.same t1,hp,rv.same t1,oz51 w9 wr,R.gd row hrow,k1,by rw[wr];exact kb,λt l zs b H2 s3 fl ht rz wz sz _=>?_⟩;refine Zfw t _ 0 _ ⟨rfl,rfl,SqT.of ht,rfl,g,l,p,zs,rfl,hg.same (t1.trans s3),hp,rz,by rw[wz.len];exact oz51 w9 wr,λ_=>sz.le (by rw[wr];exact kb),λa' H3 s4 rz' fr=>?_⟩;have hn:H' a'=none:=by
    rcases fr with rfl|fr
    .exact fl
    .exact s3.free fr
   refine q' _ H3 (s3.trans s4) ⟨a',_,rfl,rz',⟨zs,b,?_,?_,rfl⟩,t1.free hn,λz=>?_,λz=>?_⟩
   .rw [Zan er];exact wz
   .rw [Zan er];exact sz
   .rw [z,s' _ _ Zab] at hn;cases hn
   .rw [z,hlD] at hn;cases hn
  rw[Jab] at hyl;obtain⟨ls,rfl,hls⟩:=Zho (P:=λi a=>∃ zs,RowZ H1 a zs/\Zk0 p k zs (M.getD i [])/\H a=none/\a≠dA/\a≠lA) λi y e=>let ⟨a,zs,h1,h2⟩:=hys i y e;⟨a,h1,zs,h2⟩;rw[Jab] at hyl;obtain⟨Z,hZ⟩:=All2.pick (P:=λ(ai:Addr×Nat) zs=>RowZ H1 ai.1 zs/\Zk0 p k zs (M.getD ai.2 [])/\H ai.1=none/\ai.1≠dA/\ai.1≠lA) (xs:=ls.zipIdx) λai hai=>by
   obtain⟨a,i⟩:=ai;have hi:=List.mk_mem_zipIdx_iff_getElem?.mp hai;exact hls i a hi
  have zlen:Z.length=ls.length:=by have:=hZ.1;rw[List.length_zipIdx] at this;exact oz27 this
  have zat:∀ (i:Nat) (a:Addr) (zs:List Int),ls[i]?=some a->Z[i]?=some zs->RowZ H1 a zs/\Zk0 p k zs (M.getD i [])/\H a=none/\a≠dA/\a≠lA:=λi a zs e1 e2=>by
   have:=hZ.2 i (a,i) zs (by rw[List.getElem?_zipIdx,e1];simp) e2;exact this
  have IR:Zf9 p k Z M:=⟨oz13 ml hyl zlen,λi zs xs e1 e2=>by
   have hi:i<ls.length:=by have:=(Jaf.mp e1).1;exact oz4 zlen this
   have:=(zat i _ zs (Jaa hi) e1).2.1;rwa [Zan e2] at this⟩
  have rlZ:All2 (RowZ H1) ls Z:=⟨oz27 zlen,λi a zs e1 e2=>(zat i a zs e1 e2).1⟩
  have nlZ:∀ a∈ls,H a=none/\a≠dA/\a≠lA:=λa ha=>by
   obtain⟨i,hi,rfl⟩:=Jan.mp ha;exact (zat i _ _ (Jaa hi) (Jaa (show i<Z.length by exact Zgm zlen hi))).2.2
  have rwZ:=Zf7 p0 IR R.wd;refine⟨⇑0,λpA hpA=>?_⟩;have s3:=Same.new (o:=.lst []) hpA;have t1:=s1.trans s2;have t13:=t1.trans s3;have nel:dA≠lA:=λz=>by rw[<- z,Zab] at hlA;cases hlA
  have H1d:H1 dA=some (.lst []):=s2 _ _ Zab;have nep:∀ {b:Addr} {o:HO},H1 b=some o->b≠pA:=λ{b o} e z=>by rw[z,hpA] at e;cases e
  have S0:SwH H (upd H1 pA (.lst [])) dA lA pA [] ls [] Z []:=⟨t13,hdA,s1.free hlA,t1.free hpA,nel,nep H1d,nep e2,by rw[Zah (nep H1d)];exact H1d,by rw[Zah (nep e2)];exact e2,Zab,All2.nil,rlZ.mono λ_ _ r=>r.same s3,λa ha=>by simp at ha,λa ha=>⟨(nlZ a ha).1,(nlZ a ha).2.1,(nlZ a ha).2.2,by
   obtain⟨i,hi,rfl⟩:=Jan.mp ha;refine Zac (rlZ.at' (Jaa hi)) λzs _ hz=>?_;exact nep hz⟩⟩
  refine⟨_,rfl,_,rfl,oz67,∅,Zfn (n:=wide) (λi σ H2=>∃ (lA:Addr) (ds ls:List Addr) (done left:List (List Int)) (pl:List Nat) (v6 v7 v8:Option V),σ=[some (.ref g),some (.ref L),some (.int wide),some (.ref dA),some (.ref lA),some (.ref pA),v6,v7,v8]/\SwH H H2 dA lA pA ds ls done left pl/\Sw p Z i done left pl)
   ⟨lA,[],ls,[],Z,[],none,none,none,rfl,S0,Sw.start⟩ ?_ ?_⟩
  .intro i σ H2 hi e91;refine Zob e91 λlA ds ls done left pl v6 v7 v8 e98 S sw1=>?_;clear e91;obtain rfl:=e98;have I:=sw1.inv p0 rwZ;have rwl:∀ row∈left,Rw p W row:=λrow hr=>I.rw row (Jar.mpr (.inr hr));have zl:=zlen;have ill:=I.all;have idl:=I.len;have smA:=sw Z IR i done left pl ∅ sw1;refine Zrn λD1 hD1=>?_;simp only[Zbh,List.set_cons_zero,List.set_cons_succ];refine Zc9 λX hX=>?_;walk_at "wp";have ei:(0:Int)+(i:Int)=(i:Int):=∅
   rw[ei];refine Zfw lA ls left i ⟨rfl,S.hl,S.rl,λrow hr=>by rw[(rwl row hr).1];exact oz48 hw hi,oz75 ml h9 hyl zlen ill,S.sm _ _ hPL,λH3 s3 hz=>?_,λj lead H3 s3 hj hk=>?_⟩
   .subst hX;refine cutI λY hY=>?_;walk_at "wp";rw[if_neg ⇑0];subst hD1;exact Zrp _ _ _ _ _ _ _ _ _ ⟨rfl,S.same s3,Sw.skip sw1 hz⟩
   .have S3:=S.same s3;subst hX;dsimp only;refine cutI λY hY=>?_;walk_at "wp";rw[if_pos ⇑0];subst hY;refine Zc9 λX hX=>?_;walk_at "wp";have hjl:j<left.length:=(Jaf.mp hj).1;have hjs:j<ls.length:=by have:=S3.rl.1;exact oz2 hjl this
    have ej:ls[j]?=some ls[j]:=Jaa hjs;have rlead:=S3.rl.2 j _ _ ej hj;have nlead:=S3.nl _ (Jae ej);generalize ls[j]=aL at *;have hlm:lead∈left:=Jae hj;refine⟨tyL S3.hl,_,S3.hl,∅,oz69 ml h9 hyl zlen ill hjl,j,by rw[Jab];exact seqIx hjs,.ref aL,by rw[Jac,ej];rfl,?_⟩;rw[Zkm];have hlp:upd H3 lA (.lst ((ls.eraseIdx j).map V.ref)) lA=some (.lst ((ls.eraseIdx j).map V.ref)):=Zab;have keep:∀ {b:Addr} {o:HO},b≠lA->H3 b=some o->upd H3 lA (.lst ((ls.eraseIdx j).map V.ref)) b=some o:=λn e=>by rw[Zah n];exact e
    have sm4:Same H (upd H3 lA (.lst ((ls.eraseIdx j).map V.ref))):=S3.sm.upd S3.fl;have re:All2 (RowZ (upd H3 lA (.lst ((ls.eraseIdx j).map V.ref)))) (ls.eraseIdx j) (left.eraseIdx j):=(S3.rl.eraseIdx j).monoM λa _ ha r=>keep (S3.nl a (Jb3 ha)).2.2.1 r;have hd4:=keep S3.ne1 S3.hd;have hp4:=keep (Jdl S3.ne3) S3.hp;have rl4:RowZ (upd H3 lA (.lst ((ls.eraseIdx j).map V.ref))) aL lead:=keep nlead.2.2.1 rlead;have rd4:All2 (RowZ (upd H3 lA (.lst ((ls.eraseIdx j).map V.ref)))) ds done:=S3.rd.monoM λa _ ha r=>keep (S3.nd a ha).2.2.1 r;generalize upd H3 lA (.lst ((ls.eraseIdx j).map V.ref))=H4 at *;have elen:(ls.eraseIdx j).length=(left.eraseIdx j).length:=re.1;subst hX;refine Zc9 λX hX=>?_;refine⟨_,rfl,lA,rfl,⟨_,SqL.of hlp⟩,λD hD=>Zb8 (λi' Hc y=>∃ a:Addr,y=.ref a/\RowZ Hc a (Zbm p ((left.eraseIdx j).getD i' []) lead i)/\H a=none/\a≠dA/\a≠D/\a≠pA) (λ⟨a,e,b,c⟩ s=>⟨a,e,b.same s,c⟩) (λ⟨a,e,b,c,d,e',f⟩ hD=>⟨a,e,b.put e',c,d,e',f⟩) hlp hD (by rw[Jab];have:=List.length_eraseIdx_le ls j;have:=S3.rl.1;omega) (λi' x H' Q' hx s' ⟨lD,hlD⟩ q'=>?_) (λys H5 s5 e5 hyl hys=>?_)⟩
    .refine Zac ((Zb2 re).at' hx) λrow er e99=>?_;obtain⟨a,rfl,rz⟩:=e99;have hm:row∈left:=Jb3 (Jae er);have ha:a∈ls.eraseIdx j:=by
      have:=Jae hx;refine Zac (Jau.mp this) λb hb e=>?_;cases e;exact hb
     have nla:=S3.nl a (Jb3 ha);have rw1:=rwl row hm;have rw2:=rwl lead hlm;refine⟨_,rfl,_,rfl,_,rfl,_,rfl,g,a,aL,p,row,lead,i,rfl,hg.same (sm4.trans s'),hp,rz.same s',rl4.same s',rw1.1.trans rw2.1.symm,by rw[rw1.1];omega,by rw[rw1.1];exact oz48 hw hi,hk,smA row (Jar.mpr (.inr hm)),smA lead (Jar.mpr (.inr hlm)),λa' H6 s6 rz' fr=>q' _ H6 s6 ⟨a',rfl,?_,?_⟩⟩
     .rw [Zan er];exact rz'
     .rcases fr with rfl|fr
      .exact ⟨nla.1,nla.2.1,λz=>(by have e1:H4 a'=some _:=rz;rw[z,hD] at e1;cases e1),nla.2.2.2⟩
      .exact ⟨(sm4.trans s').free fr,λz=>(by rw[z,s' _ _ hd4] at fr;cases fr),λz=>(by rw[z,hlD] at fr;cases fr),λz=>(by rw[z,s' _ _ hp4] at fr;cases fr)⟩
    .rw [Jab] at hyl;refine Zac (Zho (P:=λi' a=>RowZ H5 a (Zbm p ((left.eraseIdx j).getD i' []) lead i)/\H a=none/\a≠dA/\a≠D/\a≠pA) hys) λbs e910 hbs=>?_;obtain rfl:=e910;rw[Jab] at hyl;have neD:∀ {b:Addr} {o:HO},H4 b=some o->b≠D:=λ{b o} e z=>by rw[z,hD] at e;cases e
     have hd5:=s5 _ _ hd4;have hp5:=s5 _ _ hp4;have dlen:=S3.rd.1;have hp6:upd H5 dA (.lst (ds.map V.ref++[V.ref aL])) pA=some (.lst (pl.map λ(j:Nat)=>V.int j)):=by rw[Zah (Jdl S3.ne2)];exact hp5
     subst hX;walk_at "wp";refine⟨tyL hd5,_,hd5,by rw[Jab];exact Zap ∅,tyL hp6,_,hp6,by rw[Jab];exact Zap ∅,?_⟩;subst hD1;refine Zrp D (ds++[aL]) bs (done++[lead]) ((left.eraseIdx j).map (λrow=>Zbm p row lead i)) (pl++[i]) _ _ _ ⟨rfl,⟨?_,hdA,sm4.free hD,S3.fp,neD hd4,S3.ne2,Jdl (neD hp4),?_,?_,?_,?_,?_,?_,?_⟩,Sw.take j lead sw1 hj hk⟩
     .exact ((sm4.trans s5).upd hdA).upd S3.fp
     .rw [Zah S3.ne2,Zab,Jaz];rfl
     .rw [Zah (Jdl (neD hp4)),Zah (Jdl (neD hd4))];exact e5
     .rw [Zab,Jaz];rfl
     .refine All2.app (rd4.monoM λa _ ha r=>?_) (All2.one ?_)
      .exact ((r.same s5).put (S3.nd a ha).2.1).put (S3.nd a ha).2.2.2
      .exact ((rl4.same s5).put nlead.2.1).put nlead.2.2.2
     .refine All2.of_get (d:=[]) (by rw[Jab];exact oz14 elen hyl) λi' b e=>?_;have hi':i'<(left.eraseIdx j).length:=by have:=(Jaf.mp e).1;exact oz10 elen hyl this
      refine Zdn (hbs i' b e) λh1 h2 h3 h4 h5=>?_;rw[Zan (show _=some _ by rw[Jac,Jaa hi'];rfl)];rw[Zbn hi'] at h1;exact (h1.put h3).put h5
     .intro a ha;rcases Jar.mp ha with ha|ha
      .have hn:=S3.nd a ha;refine⟨hn.1,hn.2.1,?_,hn.2.2.2⟩;obtain⟨i',hi',rfl⟩:=Jan.mp ha;refine Zac (rd4.at' (Jaa hi')) λzs _ hz=>?_;exact neD hz
      .rw [Jaq.mp ha];exact⟨nlead.1,nlead.2.1,neD rl4,nlead.2.2.2⟩
     .intro a ha;obtain⟨i',hi',rfl⟩:=Jan.mp ha;refine Zdn (hbs i' _ (Jaa hi')) λh1 h2 h3 h4 h5=>?_;exact⟨h2,h3,h4,h5⟩
  .intro σ H2 e92;refine Zob e92 λlA ds ls done left pl v6 v7 v8 e911 S sw1=>?_;clear e92;obtain rfl:=e911;have I:=sw1.inv p0 rwZ;have d1:=S.rd.1;have d2:=S.rl.1;have ill:=I.all;have zl:=zlen;walk_at "wp";refine⟨_,S.hd,_,S.hl,by rw[Jab,Jab];exact Jbw (Zap (oz99 ml h9 hyl zlen d1 d2 ill)),λF hF=>⟨⇑0,λt ht=>?_⟩⟩;have s4:=Same.new (o:=.lst (ds.map V.ref++ls.map V.ref)) hF;have s5:=Same.new (o:=.tup [V.ref F,V.ref pA]) ht;have s45:=s4.trans s5;have neF:∀ {b:Addr} {o:HO},H2 b=some o->b≠F:=λ{b o} e z=>by rw[z,hF] at e;cases e
   refine q t F pA (ds++ls) Z done left pl _ (S.sm.trans s45) Zab (S.sm.free hF) S.fp (Jdl (neF S.hp)) (s45 _ _ S.hp) (s5 _ _ (by rw[Zab,Jaz])) ((S.rd.app S.rl).mono λ_ _ r=>r.same s45) (λa ha=>?_) IR sw1;have hn:H a=none/\a≠dA/\a≠lA/\a≠pA:=by
    rcases Jar.mp ha with ha|ha
    .exact S.nd a ha
    .exact S.nl a ha
   obtain⟨i',hi',e'⟩:=Jan.mp ha;refine Zac ((S.rd.app S.rl).at' (Jaa hi')) λzs _ hz=>?_;rw[e'] at hz;exact⟨hn.1,neF hz,hn.2.2.2⟩
theorem inv_tab:((List.range 98).all λp=>decide (p<2) || (List.range p).any (λd=>decide (2<=d) && p % d == 0) || (List.range p).all λr=>r == 0 || (List.range p).any λk=>k*r % p == 1)=true:=⋯
theorem inv_ex {p b:Int}(hp:Zfu p)(hb:b % p≠0):∃ k:Nat,1<=k/\(k:Int)<p/\(k:Int)*b % p=1:=by
 refine Za2 hp λp1 p97 hd=>?_;clear hp;have h:=Jay.mp inv_tab p.toNat (Jbk.mpr ∅);have ep:((p.toNat:Nat):Int)=p:=Jb9 (Zsn p1);rw[Jdt,Jdt] at h;rcases h with (h|h)|h
 .have:=Jbm h;omega
 .refine Zac (Jc0.mp h) λd d1 d2=>?_;have d1:=Jbk.mp d1;rw[Ja5] at d2;have d3:=Jbm d2.1;have d4:p.toNat % d=0:=by simpa using d2.2
  refine absurd ?_ (hd d ∅ (oz131 d1));rw[<- ep,<- Int.natCast_emod,d4];rfl
 .have b0:0<=b % p:=Jbs _ (Zup p1);have b1:b % p<p:=Jba _ (Zpt p1);have h:=Jay.mp h (b % p).toNat (Jbk.mpr (oz155 p1 b1));rw[Jdt] at h;rcases h with h|h
  .have:(b % p).toNat=0:=by simpa using h
   omega
  .refine Zac (Jc0.mp h) λk k1 k2=>?_;have k1:=Jbk.mp k1;have k2:k*(b % p).toNat % p.toNat=1:=by simpa using k2
   have k3:(k:Int)*(b % p) % p=1:=by
    have e:(((b % p).toNat:Nat):Int)=b % p:=Jb9 b0;have:((k*(b % p).toNat % p.toNat:Nat):Int)=1:=by rw[k2];rfl
    rw[Int.natCast_emod,Jdw,e,ep] at this;exact this
   refine⟨k,?_,oz131 k1,by rw[emulR] at k3;exact k3⟩;rcases Nat.eq_zero_or_pos k with rfl|h
   .simp at k2
   .exact h
theorem Zpi {p:Int}(hp:Zfu p):PrimeN p.toNat:=by
 have p1:=hp.1;have ep:((p.toNat:Nat):Int)=p:=Jb9 (Zsn p1);refine⟨∅,λr r0 r1=>?_⟩;obtain⟨k,k1,kp,kr⟩:=inv_ex (b:=(r:Int)) hp (by rw[Jci Zsm (oz131 r1)];omega);refine⟨k,∅,?_⟩;rw[<- ep,<- Jdw,<- Int.natCast_emod] at kr;omega
theorem Ztt {p:Int}(hp:GroundP p):∃ (F:Type) (_:Lean.Grind.Field F),FdOk p F:=by
 rcases hp with rfl|hp
 .exact ⟨Rat,inferInstance,fd_zero⟩
 .have:PrimeN p.toNat:=Zpi hp;have h:=Zts (n:=p.toNat);rw[Jb9 (by have:=hp.1;exact Zsn this)] at h;exact⟨Zp p.toNat,inferInstance,h⟩
theorem Zpw {p:Int}(hp:GroundP p)(h:p≠0):(1:Int) % p≠0:=by
 rcases hp with h'|h'
 .exact absurd h' h
 .rw [Jci ⇑0 h'.1];decide
theorem Zqj {p k:Int}{x:Int×Int}(hp:GroundP p)(h:IsQ p k 1 x):x=Znz p k:=by
 obtain⟨F,_,hF⟩:=Ztt hp;refine hF.inj h.is (Zhy hp.lo) ?_;rw[h.fd F hF,hF.intF,Ze2];have:=Ztp (F:=F)
 grind
theorem Zm3 {p:Int}(hp:GroundP p):Znz p 1=(1,1):=by
 unfold Znz;split
 .rfl
 .rw [Jci ⇑0];rcases hp with h|⟨h,_⟩ <;> omega
theorem Zcw (p:Int):(Zly p).lookup ("number" : Str)=none:=Zm5 _ ⋯
theorem Zsd {H:Hp}{p:Int}{rs:List Addr}{M:Mv}{k:Nat}{a:Addr}{us:List V}{o:HO}{row:List Nv}(h:All2 (RowV H p) rs M)(nds:rs.Nodup)(e:rs[k]?=some a)(ha:H a=some (.lst us))(hr:RowV (upd H a o) p a row):All2 (RowV (upd H a o) p) rs (M.set k row):=by
 have hk:k<rs.length:=(Jaf.mp e).1;have ek:rs[k]=a:=(Jaf.mp e).2;refine⟨by rw[Jdr];exact h.1,λj c y f1 f2=>?_⟩;rw[Jd4] at f2;by_cases hjk:k=j
 .subst hjk;rw[e] at f1;cases f1;rw[if_pos rfl] at f2;split at f2
  .cases f2;exact hr
  .cases f2
 .rw [if_neg hjk] at f2;refine (h.2 j c y f1 f2).put ha λz=>hjk ?_;have hj:j<rs.length:=(Jaf.mp f1).1;have e':rs[j]=rs[k]:=by rw[ek,<- z];exact (Jaf.mp f1).2
  rcases Nat.lt_trichotomy k j with h|h|h
  .exact absurd e'.symm (List.pairwise_iff_getElem.mp nds k j hk hj h)
  .exact h
  .exact absurd e' (List.pairwise_iff_getElem.mp nds j k hj hk h)
theorem Zlp {lo:Int}{n:Nat}{D:Addr}{fr:List (Str×Nat)}{σ:L2.St}{te:TE}{H1:Hp}{Q:VK}{p:Int}(M:Nat->List Nv)(hD:H1 D=none)(hn:n<=1000)(h:∀ (i:Nat) H (Q:VK),i<n->Same H1 H->(∀ a H',H a=none->Same H H'->RowV H' p a (M i)->Q (.ref a) H')->te (some (.int (lo+(i:Nat)))::Zbi fr σ) H Q)(hQ:∀ (rs:List Addr) H',Same H1 H'->H' D=some (.lst (rs.map V.ref))->All2 (RowV H' p) rs ((List.range n).map M)->D∉rs->rs.Nodup->(∀ a∈rs,H1 a=none)->Q (.ref D) H'):Zbv (Zbh 0) Zfv te (Itr lo n) D (Zgq 1 fr σ) H1 Q:=by
 refine Zjm (n:=n) (λi vs H=>∃ rs:List Addr,vs=rs.map V.ref/\Same H1 H/\H D=some (.lst (rs.map V.ref))/\All2 (RowV H p) rs ((List.range i).map M)/\D∉rs/\rs.Nodup/\∀ a∈rs,H1 a=none) ⟨[],rfl,Same.new hD,Zab,All2.nil,by simp,by simp,by simp⟩ ?_ (λvs H ⟨rs,e,a,b,c,d,f,g⟩=>hQ rs H a b c d f g);intro i x vs σ' H hi e91;obtain rfl:=e91;intro sh e92;refine Zrq e92 λrs e95 s e al nD e96=>?_;clear e92;obtain rfl:=e95;obtain⟨nd,fr⟩:=e96;obtain⟨z,rfl⟩:=sh.one;simp only[Zer,Zbh,Zfv,List.set_cons_zero,Jcm];refine h i H _ hi s λa H' ha s' rv=>?_;have nDa:D≠a:=Zai e ha;have na:a∉rs:=λz=>by
  obtain⟨j,hj,ej⟩:=Jan.mp z;refine Zac (al.at' (Jaa hj)) λ_ _ e97=>?_;obtain⟨us,hu,_⟩:=e97;rw[ej,ha] at hu;cases hu
 have l1:=al.1;rw[Jab,Jav] at l1;refine Zlu (ws:=rs.map V.ref++[.ref a]) hi Sh.mk1 (s' _ _ e) (Zap (by rw[Jab];exact oz57 hn hi l1)) ⟨rs++[a],Zbc _ _,(s.trans s').upd hD,by rw[Zab,Zbc],?_,λz=>?_,?_,λb hb=>?_⟩
 .rw [Jcs,Jaz];exact (al.monoM λc x hc k=>(k.same s').put (s' _ _ e) (λz=>nD (z ▸ hc))).app (All2.one (rv.put (s' _ _ e) nDa.symm))
 .rcases Jar.mp z with h|h
  .exact nD h
  .exact nDa (Jaq.mp h)
 .rw [Jd3];exact⟨nd,by simp,λx hx y hy e=>na (by rw[<- Jaq.mp hy,<- e];exact hx)⟩
 .rcases Jar.mp hb with h|h
  .exact fr b h
  .rw [Jaq.mp h];exact s.free ha
theorem ixN_of {n:Nat}{k:Int}(h0:0<=k)(h1:k.toNat<n):ixN n k=some k.toNat:=by
 unfold ixN;simp[h0];omega
theorem Zki (p:Int):Znz p 0=(0,1):=by
 unfold Znz;split
 .rfl
 .rw [Int.zero_emod]
theorem rep1 (n:Nat)(v:V):(List.replicate n [v]).flatten=List.replicate n v:=by
 induction n with
 | zero=>rfl
 | succ n ih=>rw[Jb8,Jdd,ih,Jb8];rfl
theorem small24 {n:Nat}(h:n<=24):n<=sizeLine:=Jbw (Zap ∅)
abbrev zR (n:Nat):List Nv:=List.replicate n (0,1)
abbrev zM (h n:Nat):Mv:=(List.range h).map λ_=>zR n
def spNou (G:Addr):L2.Sp:=λvs H Q _=>∃ (g:Addr) (p hh wd:Int),vs=[.ref g,.int hh,.int wd]/\GAt G H g p/\GroundP p/\0<=hh/\hh<=24/\0<=wd/\wd<=24 /\
 ∀ (t r:Addr) (rs:List Addr) H',Same H H'->New H t r rs->rs.Nodup->TabV H' p hh wd t r rs (zM hh.toNat wd.toNat)->Q (.ref t) H'
theorem ok_nou (F:Fun K "noughts" "noughts" Zhh f fd)(T:Txt K mg C G S)(Yag:CalD P w K mg base G "number" 6 (Zig G) [.int 1]):FnOk P w K mg base CX0 7 f fd ["ground","high","wide"] (spNou G):=by
 have nd:=Zij.nd;refine F.ok Zij (λvs H Q E h=>?_) (λcdv A outer s H vs Q E hr h=>?_)
 .refine Zg1 h λg p hh wd e98 _=>?_;clear h;obtain rfl:=e98;rfl
 .refine Zcd h λg p hh wd e99 e910 hp e911=>?_;clear h;obtain rfl:=e99;obtain⟨dg,hg0⟩:=e910;refine Zdn e911 λh0 h24 w0 w24 q=>?_;clear e911;refine⟨_,(~~~(@Zbj _ _ _ _ _ ((pvr 1)<&>((pvr 2)<&>((Zaz (own:=["row"]) (fr:=[("ground",0),("wide",2)]) rfl (Zbo (by kernel_rfl)) (Zia rfl T.n_range ((pv 1)<&>Zaa)) (λ_ _ _ _=>⟨(0<<<["row","ground","wide"]),Zax,(op_rep<|>(@Za7 _ _ _ _ ((Zll T.cl_Ground Yag hr.m (pv 1) (Zaf<&>Zaa))<&>Zaa))<&&>(pv 2))⟩))<&>Zaa))))),?_⟩;walk_at "wp";refine⟨_,rfl,hh,rfl,∅,∅,λD hD=>Zlp (p:=p) (λ_=>zR wd.toNat) hD ∅ (λi H' Q' hi s' q'=>?_) λrs H3 s3 hD3 al3 nD nds fr=>?_⟩
  .have wsz:1*wd.toNat<=sizeLine:=small24 ∅;refine⟨_,rfl,g,dg,_,rfl,s' _ _ hg0,Zcw p,g,p,0,1,rfl,⟨dg,s' _ _ hg0⟩,hp,Zb1 ⇑0 ⇑0,Zb1 ⇑0 ⇑0,λ_=>⇑0,Zpw hp,λnv nx H2 s2 hnv iq=>⟨by show 1<=sizeLine;decide,λo1 ho1=>?_⟩⟩;rw[Zqj hp iq,Zki] at hnv;have s5:=Same.new (o:=.lst [nv]) ho1;refine⟨_,rfl,o1,_,_,rfl,rfl,Zab,∅,∅,wsz,λo2 ho2=>?_⟩;rw[rep1];have s6:=Same.new (o:=.lst (List.replicate wd.toNat nv)) ho2;have t6:=s5.trans s6;exact q' o2 _ ((s2.trans s5).free ho2) (s2.trans t6) ⟨_,Zab,All2.rep (hnv.same t6) _⟩
  .refine ⟨⇑0,λt ht=>?_⟩;have s5:=Same.new (o:=.tup [V.int hh,V.int wd,V.ref D]) ht;exact q t D rs _ (s3.trans s5) ⟨s3.free ht,hD,fr⟩ nds ⟨Zab,s5 _ _ hD3,al3.mono λ_ _ q=>q.same s5,nD⟩
abbrev eR (n i:Nat):List Nv:=(zR n).set i (1,1)
def Zrj (n k:Nat):Mv:=(List.range n).map λi=>if i<k then eR n i else zR n
abbrev Zg3 (n:Nat):Mv:=(List.range n).map λi=>eR n i
theorem Ztc (n:Nat):Zrj n n=Zg3 n:=by
 unfold Zrj;refine Jcv λj hj=>?_;rw[if_pos (Jbk.mp hj)]
theorem Zp7 (n:Nat):Zrj n 0=zM n n:=by
 unfold Zrj;refine Jcv λj hj=>?_;rw[if_neg ∅]
theorem Ztb (n k:Nat):(Zrj n k).set k (eR n k)=Zrj n (k+1):=by
 unfold Zrj;apply Jb4;intro j;rw[Jd4];by_cases hij:k=j
 .subst hij;rw[if_pos rfl];by_cases hn:k<n
  .rw [if_pos (by simpa using hn),Jac,Ja4 hn];simp
  .rw [if_neg (by simpa using hn),Jac,Jai (by simpa using hn)];rfl
 .rw [if_neg hij,Jac,Jac];by_cases hn:j<n
  .rw [Ja4 hn];show some (if j<k then eR n j else zR n)=some (if j<k+1 then eR n j else zR n);by_cases h1:j<k
   .rw [if_pos h1,if_pos (Zuo h1)]
   .rw [if_neg h1,if_neg (oz86 hij h1)]
  .rw [Jai (by simpa using hn)];rfl
def spPl (G:Addr):L2.Sp:=λvs H Q _=>∃ (g:Addr) (p n:Int),vs=[.ref g,.int n]/\GAt G H g p/\GroundP p/\0<=n/\n<=24 /\
 ∀ (t r:Addr) (rs:List Addr) H',Same H H'->New H t r rs->TabV H' p n n t r rs (Zg3 n.toNat)->Q (.ref t) H'
theorem ok_pl (F:Fun K "plain" "plain" Zli f fd)(T:Txt K mg C G S)(Ybp:Cal P w K mg base "noughts" 7 (spNou G))(Yag:CalD P w K mg base G "number" 6 (Zig G) [.int 1]):FnOk P w K mg base CX0 8 f fd ["ground","many"] (spPl G):=by
 have nd:=Zmj.nd;refine F.ok Zmj (λvs H Q E h=>?_) (λcdv A outer s H vs Q E hr h=>?_)
 .refine Zeq h λg p n e912 _=>?_;clear h;obtain rfl:=e912;rfl
 .refine Zda h λg p n e913 hg hp e914=>?_;clear h;obtain rfl:=e913;refine Za2 e914 λn0 n24 q=>?_;clear e914;refine⟨_,((Zcr (Ybp<$>hr<$>((pvr 0)<&>((pvr 1)<&>((pvr 1)<&>Zaa)))) (@Zcs _ _ _ _ _ 3 rfl ((2>>>nd)^^^((3>>>nd)^^^((4>>>nd)^^^(@Za3 _)))) ⇑1 ⇑1))<*>((Zdg Jbf rfl (Zia rfl T.n_range ((pv 1)<&>Zaa)) (5>>>nd) (@Zau _ _ _ (Zcr (Zll T.cl_Ground Yag hr.m (pvr 0) (Zaf<&>Zaa)) (Zpn ((ixJ Zbg)<|>(pvr 4)<||>(pvr 5)) (pvr 5) Zi4))))<*>(~~~(@Zbj _ _ _ _ _ ((pvr 2)<&>((pvr 3)<&>((pvr 4)<&>Zaa))))))),?_⟩;walk_at "wp";refine Zfw g p n n ⟨rfl,hg,hp,n0,n24,n0,n24,λt r rs H1 s1 nw nds tb=>?_⟩;refine⟨t,rfl,_,SqT.of tb.tup,rfl,_,_,rfl,_,_,rfl,_,_,rfl,rfl,?_⟩;have rl:=tb.row.1;rw[Jab,Jav] at rl;refine⟨_,rfl,n,rfl,∅,∅,Zfn (λi σ H3=>∃ v5:Option V,σ=[some (.ref g),some (.int n),some (.int n),some (.int n),some (.ref r),v5]/\Same H H3/\H3 r=some (.lst (rs.map V.ref))/\All2 (RowV H3 p) rs (Zrj n.toNat i)) ⟨none,rfl,s1,tb.lst,by rw[Zp7];exact tb.row⟩ ?_ ?_⟩
  .intro i σ H3 hi e93;refine Zrr e93 λv5 e915 s3 h3 a3=>?_;clear e93;obtain rfl:=e915;walk_at "wp";obtain⟨dg,hg0⟩:=hg.same s3;refine Zat dg _ ⟨hg0,Zcw p,g,p,1,1,rfl,⟨dg,hg0⟩,hp,Zb1 ⇑0 ⇑0,Zb1 ⇑0 ⇑0,λ_=>⇑0,Zpw hp,λnv nx H4 s4 hnv iq=>?_⟩;rw[Zqj hp iq,Zm3 hp] at hnv;have hirs:i<rs.length:=∅
   have e1:rs[i]?=some rs[i]:=Jaa hirs;have a4:All2 (RowV H4 p) rs (Zrj n.toNat i):=a3.mono λ_ _ k=>k.same s4;refine Zac (a4.at' e1) λrow er e916=>?_;obtain⟨us,hu1,hu2⟩:=e916;have erow:row=zR n.toNat:=by
    unfold Zrj at er;rw[Jac,Ja4 hi] at er;have:(if i<i then eR n.toNat i else zR n.toNat)=row:=by simpa using er
    rw[<- this,if_neg ∅]
   subst erow;have ul:=hu2.1;rw[Jbp] at ul;have nri:r≠rs[i]:=λz=>tb.nin (by rw[z];exact Jbd hirs);refine⟨_,SqL.of (s4 _ _ h3),_,Zd5 oz158 (by rw[show ((0:Int)+(i:Int)).toNat=i by exact oz15,Jac,e1];rfl),_,rfl,us,hu1,i,?_,(s3.trans s4).upd (nw.rs _ (Jbd hirs)),by rw[Zah nri];exact s4 _ _ h3,?_⟩
   .rw [ixN_of oz158 (oz108 hi ul)];congr 1;exact oz15
   .rw [<- Ztb];refine Zsd a4 nds e1 hu1 ⟨_,Zab,?_⟩;exact (hu2.mono λ_ _ q=>q.put hu1).set _ (hnv.put hu1)
  .intro σ H3 e94;refine Zrr e94 λv5 e917 s3 h3 a3=>?_;clear e94;obtain rfl:=e917;walk_at "wp";rw[Ztc] at a3;refine⟨⇑0,λt' ht'=>?_⟩;have s5:=Same.new (o:=.tup [V.int n,V.int n,V.ref r]) ht';exact q t' r rs _ (s3.trans s5) ⟨s3.free ht',nw.r,nw.rs⟩ ⟨Zab,s5 _ _ h3,a3.mono λ_ _ q=>q.same s5,tb.nin⟩
end
end Pf
namespace Pf
open PySem L2 L3 PyProof.Rows
section
variable {p:Int}{F:Type}[Lean.Grind.Field F]
def vN (xs:List Nv):Nat->F:=λj=>nm (xs.getD j (0,1))
theorem nm_zero:(nm ((0,1):Nv):F)=0:=by
 unfold nm;rw[Zf8,Ze2];have:=Ztp (F:=F)
 grind
theorem Znh {α:Type}{f:α->Nat->F}{Z:List α}{i:Nat}{d:α}(h:i<Z.length):at' (Z.map f) i=f (Z.getD i d):=by
 show (Z.map f).getD i zv=_;rw[Jad,Jac,Jaa h,Jad,Jaa h];rfl
theorem Znm {L L':List (Nat->F)}(hl:L.length=L'.length)(h:∀ i,i<L.length->∃ c:F,c≠0/\∀ j,at' L i j=c*at' L' i j):SpEq L L':=by
 refine⟨λv hv=>?_,λv hv=>?_⟩
 .refine Zac (Zfj hv zv) λi hi e=>?_;refine Zac (h i hi) λc _ hc=>?_;have e1:v=λj=>c*at' L' i j:=by rw[<- e];exact funext hc
  rw[e1];exact Sp.smul c (.mem (Zky (oz4 hl hi)))
 .refine Zac (Zfj hv zv) λi hi e=>?_;refine Zac (h i (Zgm hl hi)) λc c0 hc=>?_;have e1:v=λj=>(1 / c)*at' L i j:=by
   rw[<- e];refine funext λj=>?_;rw[hc j];show at' L' i j=_
   grind
  rw[e1];exact Sp.smul _ (.mem (Zky (Zgm hl hi)))
theorem wr_eq (hF:FdOk p F){xs:List Nv}{zs:List Int}{b:Int}(h:WRz p xs zs b)(hx:∀ x∈xs,Isn p x)(j:Nat):(vz zs j:F)=ic b*vN xs j:=by
 have e:=h.eq j;have e2:(ic (zs.getD j 0):F)*ic (xs.getD j (0,1)).2=ic (xs.getD j (0,1)).1*ic b:=by rw[<- Zbw,<- Zbw,e]
 have b2:(ic (xs.getD j (0,1)).2:F)≠0:=by
  by_cases hj:j<xs.length
  .rw [Zbn hj];exact hF.bot (hx _ (Jbd hj))
  .rw [Jad,Jai (Zmu hj)];show (ic 1:F)≠0;rw[Ze2];exact Ztp
 unfold vz vN nm;generalize (ic (zs.getD j 0):F)=u at *;generalize (ic (xs.getD j (0,1)).1:F)=v at *;generalize (ic (xs.getD j (0,1)).2:F)=t at *
 grind
theorem wr_b (hF:FdOk p F){xs:List Nv}{zs:List Int}{b:Int}(h:WRz p xs zs b):(ic b:F)≠0:=by
 by_cases hp:p=0
 .exact hF.ne0 (.inl hp) (by have:=h.pos;omega)
 .rw [h.one hp,Ze2];exact Ztp
theorem int_sp (hF:FdOk p F){k:Nat}{Z:List (List Int)}{M:Mv}(h:Zf9 p k Z M)(hM:∀ xs∈M,∀ x∈xs,Isn p x):SpEq (F:=F) (Z.map vz) (M.map vN):=by
 have hl:=h.1;refine Znm (by rw[Jab,Jab];exact hl) λi hi=>?_;rw[Jab] at hi;refine Zca (h.2 i _ _ (Jaa hi) (Jaa (show i<M.length by exact oz4 hl hi))) λws b w1 _ e=>?_;rw[Znh (d:=[]) hi,Znh (d:=[]) (show i<M.length by exact oz4 hl hi),Zbn hi,Zbn (show i<M.length by exact oz4 hl hi),e];refine Zac (Zoi hF ws) λc c0 hc=>?_;refine⟨ic b / c,?_,λj=>?_⟩
 .have:=wr_b hF w1
  grind
 .have e1:=hc j;rw[wr_eq hF w1 (hM _ (Jbd _)) j] at e1;generalize (vz (Zdb p ws) j:F)=y at *
  grind
end
theorem Zr9 {p:Int}{W:Nat}{row:List Int}(h0:p≠0)(p97:p<=97)(h:Rw p W row):SmallR 7 row:=λz hz=>by
 rcases h.2 z hz with e|⟨e1,e2⟩
 .exact absurd e h0
 .exact Zb1 (Jah _) (oz126 p97 e1 e2)
end Pf
set_option maxHeartbeats 1000000
namespace Pf
open PySem L2 L3 PyProof.Rows
section
variable {F:Type}[Lean.Grind.Field F]
theorem nm_one:(nm ((1,1):Nv):F)=1:=by
 unfold nm;rw[Ze2];have:=Ztp (F:=F)
 grind
theorem unit_at {n i j:Nat}(hi:i<n)(hj:j<n):(vN ((Zg3 n).getD i []) j:F)=del i j:=by
 have e:(Zg3 n).getD i []=eR n i:=by
  rw[Jad,Jac,Ja4 hi];rfl
 rw[e];unfold vN;rw[Jad,Jd4];show _=if i=j then (1:F) else 0
 by_cases h:i=j
 .subst h;rw[if_pos rfl,if_pos (by rw[Jbp];exact hi),if_pos rfl];exact nm_one
 .rw [if_neg h,if_neg h,Jce,if_pos hj];exact nm_zero
end
theorem isn_01 {p:Int}(hp:GroundP p):Isn p (0,1)/\Isn p (1,1):=by
 have h0:=Zhy (p:=p) (k:=0) hp.lo;have h1:=Zhy (p:=p) (k:=1) hp.lo;rw[Zki] at h0;rw[Zm3 hp] at h1;exact⟨h0,h1⟩
section
variable {p:Int}{F:Type}[Lean.Grind.Field F]
end
end Pf
namespace Pf
open PySem L2 L3 PyProof.Rows
section
variable {G PL cL:Addr}
structure TabB (H:Hp)(p:Int)(k n wd:Nat)(t r:Addr)(rs:List Addr)(M:Mv):Prop where
 tv:TabV H p n wd t r rs M
 hl:M.length=n
 hw:∀ xs∈M,xs.length=wd
 gd:∀ xs∈M,Zic p k xs
theorem TabB.same {H H':Hp}{p:Int}{k n wd:Nat}{t r:Addr}{rs:List Addr}{M:Mv}(h:TabB H p k n wd t r rs M)(s:Same H H'):TabB H' p k n wd t r rs M:=⟨h.tv.same s,h.hl,h.hw,h.gd⟩
end
end Pf
namespace Pf
open PySem L2 PyProof.Rows
section
variable {C G S:Addr}
theorem ok_bag (F:Fun K "_law_bag" "_law_bag" Zhk f fd)(T:Txt K mg C G S):FnOk P w K mg base CX0 1 f fd ["_law_cell_here"] spBag:=by
 have nd:=Zim.nd;refine F.ok Zim (λvs H Q E h=>?_) (λcdv A outer s H vs Q E hr h=>?_)
 .refine Zac h λc e91 _=>?_;clear h;obtain rfl:=e91;rfl
 .refine Zac h λc e92 q=>?_;clear h;obtain rfl:=e92;refine⟨_,((@Za5 _ _ _ _ _ _ _ _ (Zao op_ge (pvr 0) ((opJ Zur)<|>Zaf<&&>Zaf) (Zaj _)) (~~~(@Za7 _ _ _ _ ((pvr 0)<&>(((opJ Zdi)<|>(pvr 0)<&&>Zaf)<&>Zaa)))) Zak)<*>(~~~(@Za7 _ _ _ _ (Zaf<&>(((opJ Zdi)<|>((opJ0 Zgo)<|>((opJ Zgn)<|>((opJ Zdi)<|>(pvr 0)<&&>Zaf)<&&>Zaf)<&&>Zaf)<&&>Zaf)<&>Zaa))))),?_⟩;walk_at "wp";refine⟨cpow _ ⇑0 ⇑0,Zdm (λ_=>?_) (λ_=>?_)⟩
  .exact ⟨⇑0,⇑0,λp hp=>q p _ _ hp (Zkc _ _ ⇑0) (Zkd _ _ ⇑0)⟩
  .exact ⟨⇑0,.inr ⟨⇑0,⇑0⟩,⇑0,⇑0,λp hp=>q p _ _ hp (Zkc _ _ ⇑0) (Zkd _ _ ⇑0)⟩
theorem ok_draw (F:Fun K "_law_draw" "_law_draw" Zf0 f fd)(T:Txt K mg C G S):FnOk P w K mg base CX0 1 f fd ["_law_bag_here","_law_many"] Zjw:=by
 have nd:=Zg9.nd;refine F.ok Zg9 (λvs H Q E h=>?_) (λcdv A outer s H vs Q E hr h=>?_)
 .refine Zg1 h λl a b n e93 _=>?_;clear h;obtain rfl:=e93;rfl
 .refine Zcd h λl a b n e94 hl b0 e95=>?_;clear h;obtain rfl:=e94;refine Zch e95 λb1 n0 n1 q=>?_;clear e95;refine⟨_,((@Za5 _ _ _ _ _ _ _ _ (Zao Znr ((ixJ Zbg)<|>(pvr 0)<||>Zaf) Zaf (Zaj _)) ((2|||nd|||(Zdi<|>((ixJ Zbg)<|>(pvr 0)<||>Zaf)<&&>(pvr 1)))<*>((Zcr (Zje<|>((ixJ Zbg)<|>(pvr 0)<||>Zaf)<&&>(pvr 1)) (Zpn (pvr 0) Zaf Zi4))<*>(~~~(pvr 2)))) Zak)<*>((Zcr (Zdi<|>(Zgo<|>(Zgn<|>((ixJ Zbg)<|>(pvr 0)<||>Zaf)<&&>Zaf)<&&>Zaf)<&&>Zaf) (Zpn (pvr 0) Zaf Zi4))<*>(~~~(Zdi<|>(Zje<|>(Zdi<|>(Zgn<|>((ixJ Zbg)<|>(pvr 0)<||>Zaf)<&&>(Zgo<|>(Zje<|>((ixJ Zbg)<|>(pvr 0)<||>Zaf)<&&>Zaf)<&&>Zaf))<&&>Zaf)<&&>Zaf)<&&>(pvr 1))))),?_⟩;walk_at "wp";refine⟨_,SqL.of hl,_,rfl,_,rfl,Zdm (λhc=>?_) (λhc=>?_)⟩
  .refine ⟨_,SqL.of hl,_,rfl,_,rfl,n0,_,SqL.of hl,_,rfl,_,rfl,⟨n0,∅⟩,_,hl,_,rfl,?_⟩;exact q _ _ _ (Zkc _ _ n0) (Zkd _ _ n0) b0 b1
  .refine ⟨_,SqL.of hl,_,rfl,_,rfl,.inr ⟨⇑0,⇑0⟩,⇑0,_,hl,_,rfl,_,SqL.of Zab,_,rfl,_,SqL.of Zab,_,rfl,_,rfl,⟨⇑0,⇑0⟩,_,rfl,?_⟩;have h1:=Zkc (b*48271+4099) 2147483647 ⇑0;have h2:=Zkd (b*48271+4099) 2147483647 ⇑0;refine⟨.inl ⟨∅,oz167⟩,⇑0,⟨⇑0,⇑0⟩,n0,?_⟩;exact q _ _ _ (Zkc _ _ n0) (Zkd _ _ n0) h1 h2
end
end Pf
namespace Pf
open PySem L2 L3 PyProof.Rows
section
variable {p:Int}{F:Type}[Lean.Grind.Field F]
structure LrF (F:Type)[Lean.Grind.Field F](n c:Nat)(M0 M:Mv)(pl:List Nat):Prop where
 ml:M.length=n
 dl:pl.length<=n
 asc:∀ i j,i<j->j<pl.length->pl.getD i 0<pl.getD j 0
 lt:∀ i,i<pl.length->pl.getD i 0<c
 one:∀ i,i<pl.length->(vN (M.getD i []) (pl.getD i 0):F)=1
 col:∀ i k,i<n->k<pl.length->i≠k->(vN (M.getD i []) (pl.getD k 0):F)=0
 low:∀ i j,i<pl.length->j<pl.getD i 0->(vN (M.getD i []) j:F)=0
 zer:∀ i j,pl.length<=i->i<n->j<c->(vN (M.getD i []) j:F)=0
 sp:SpEq (F:=F) (M.map vN) (M0.map vN)
structure LrG (F:Type)[Lean.Grind.Field F](n c k:Nat)(M0 M:Mv)(pl:List Nat):Prop where
 ml:M.length=n
 dl:pl.length<n
 asc:∀ i j,i<j->j<pl.length->pl.getD i 0<pl.getD j 0
 lt:∀ i,i<pl.length->pl.getD i 0<c
 one:∀ i,i<pl.length->(vN (M.getD i []) (pl.getD i 0):F)=1
 col:∀ i k,i<n->k<pl.length->i≠k->(vN (M.getD i []) (pl.getD k 0):F)=0
 low:∀ i j,i<pl.length->j<pl.getD i 0->(vN (M.getD i []) j:F)=0
 zer:∀ i j,pl.length<=i->i<n->j<c->(vN (M.getD i []) j:F)=0
 pv:(vN (M.getD pl.length []) c:F)=1
 cl:∀ i,i<k->i<n->i≠pl.length->(vN (M.getD i []) c:F)=0
 sp:SpEq (F:=F) (M.map vN) (M0.map vN)
theorem at_vN {M:Mv}{i:Nat}(h:i<M.length):at' (M.map (vN (F:=F))) i=vN (M.getD i []):=Znh h
end
end Pf
namespace Pf
open PySem L2 L3 PyProof.Rows
def IsRk (p:Int)(n wd:Nat)(M:Mv)(r:Nat):Prop:=∀ (F:Type) [Lean.Grind.Field F],FdOk p F->Rk (λi j=>(vN (M.getD i []) j:F)) n wd r
theorem sw_rk {p:Int}{k n wd:Nat}{Z done left:List (List Int)}{M:Mv}{pl:List Nat}(hp:GroundP p)(IR:Zf9 p k Z M)(sw:Sw p Z wd done left pl)(hl:M.length=n)(hw:∀ xs∈M,xs.length=wd)(hM:∀ xs∈M,∀ x∈xs,Isn p x):IsRk p n wd M pl.length:=λF _ hF=>by
 have p0:=hp.lo;have I:=sw.inv p0 (Zf7 p0 IR hw);have B:=Sw.back p0 I hF pl.length (Jah _);have bl:=B.len;have zM:=IR.1;have h1:=I.all;have h2:=I.len;obtain⟨r1,r2⟩:=B.rr I.asc I.lt ∅ (L:=(List.range Z.length).map λi=>λj=>vz ((Zcz p pl (done++left) pl.length).getD i []) j / ic (Zc2 pl (Zcz p pl (done++left) pl.length) i)) (by rw[Jab,Jav]) λi hi=>by
  have e:(List.range Z.length).getD i 0=i:=by rw[Jad,Ja4 hi];rfl
  rw[Znh (d:=0) (by rw[Jav];exact hi),e]
 have rk:=r1.rk ((int_sp hF IR hM).symm.trans r2.symm);rw[Jab,hl] at rk;exact rk.congr λi j hi hj=>by rw[at_vN (Zgm hl hi)]
theorem IsRk.uniq {p:Int}{n wd r s:Nat}{M:Mv}(hp:GroundP p)(h:IsRk p n wd M r)(h':IsRk p n wd M s):r=s:=by
 obtain⟨F,_,hF⟩:=Ztt hp;exact (h F hF).uniq (h' F hF)
section
variable {G PL cL:Addr}
def Zma (G PL:Addr):L2.Sp:=λvs H Q _=>∃ (g t r:Addr) (rs:List Addr) (p hh:Int) (k wd:Nat) (M:Mv),vs=[.ref g,.ref t]/\GAt G H g p/\GroundP p/\H t=some (.tup [.int hh,.int wd,.ref r])/\RowsB H p k wd r rs M/\Zl5 p k wd M/\H PL=some lamO /\
 ∀ (rk:Nat) H',Same H H'->IsRk p M.length wd M rk->Q (.int (rk:Nat)) H'
theorem ok_rank (F:Fun K "rank" "rank" Zo5 f fd)(T:Txt K mg C G S)(Ybh:Cal P w K mg base "swept" 7 (Zk6 G PL)):FnOk P w K mg base CX0 8 f fd ["ground","table"] (Zma G PL):=by
 have nd:=Zo4.nd;refine F.ok Zo4 (λvs H Q E h=>?_) (λcdv A outer s H vs Q E hr h=>?_)
 .refine xE9_2 h λg t r rs p hh k wd M e91 _=>?_;clear h;obtain rfl:=e91;rfl
 .refine xE9_4 h λg t r rs p hh k wd M e92 hg hp e93=>?_;clear h;obtain rfl:=e92;refine Zdn e93 λht rb sm hPL q=>?_;clear e93;refine⟨_,(~~~(Za1 Zam rfl T.n_len Jbb ((Zbk<|>(Ybh<$>hr<$>((pvr 0)<&>(((Zkh Zbk)<|>(pvr 1)<||>Zaf)<&>(((Zkh Zbk)<|>(pvr 1)<||>Zaf)<&>Zaa))))<||>Zaf)<&>Zaa))),?_⟩;walk_at "wp";refine⟨_,SqT.of ht,_,rfl,_,SqT.of ht,_,rfl,g,r,p,rs,M,k,wd,wd,rfl,hg,hp,rb,Jah _,hPL,sm,λt' F' pA rs' Z done left pl H1 s1 ht hF hpA nFp ep eF rz nrs IR sw=>?_⟩;refine⟨t',rfl,_,SqT.of ht,_,rfl,pA,rfl,_,.inl (SqL.of ep),?_⟩;rw[Jab];exact q pl.length H1 s1 (sw_rk hp IR sw rfl rb.wd λxs hx x hxx=>(rb.gd xs hx x hxx).1)
structure TwoB (H:Hp)(p:Int)(va vb:V)(x y:Nv):Prop where
 a:NumV H p va x
 b:NumV H p vb y
 hx:Isn p x
 hy:Isn p y
 bt:∃ n m:Nat,Bt n x.1/\Bt n x.2/\Bt m y.1/\Bt m y.2/\n+m<=134000000
abbrev BtN (n:Nat)(x:Nv):Prop:=Bt n x.1/\Bt n x.2
theorem BtN.le {n m:Nat}{x:Nv}(h:BtN n x)(hm:n<=m):BtN m x:=⟨h.1.le hm,h.2.le hm⟩
theorem Zre {p:Int}{x:Nv}(h0:p≠0)(p97:p<=97)(h:Isn p x):BtN 7 x:=by
 rcases h with ⟨e,_⟩|⟨_,e1,e2,e3⟩
 .exact absurd e h0
 .exact ⟨Zb1 (Jah _) (oz126 p97 e1 e2),by rw[e3];exact Zb1 (Jah _) ⇑0⟩
theorem Zrd {a b:Int}{n:Nat}(ha:Bt n a)(hb:Bt n b):BtN n (nrm a b):=⟨ha.quo (Jbo ..),hb.quo (Jbv ..)⟩
theorem Zt4 {p:Int}{x y:Nv}{n m:Nat}(hp:GroundP p)(hx:Isn p x)(hy:Isn p y)(h1:BtN n x)(h2:BtN m y)(h7:7<=n):BtN (n+m+1) (Zjb p x y):=by
 by_cases h0:p=0
 .unfold Zjb;rw[if_pos h0];refine Zrd ?_ ((h1.2.mul h2.2).le ∅);have a:=h1.1.mul h2.2;have b:=h2.1.mul h1.2;rw[Nat.add_comm m n] at b;exact Bt.add a b
 .exact (Zre h0 hp.hi (Zjh hp.lo hx hy)).le ∅
theorem Zrc {p:Int}{x y:Nv}{n m:Nat}(hp:GroundP p)(hx:Isn p x)(hy:Isn p y)(h1:BtN n x)(h2:BtN m y)(h7:7<=n+m):BtN (n+m) (Zeu p x y):=by
 by_cases h0:p=0
 .unfold Zeu;rw[if_pos h0];exact Zrd (h1.1.mul h2.1) (h1.2.mul h2.2)
 .exact (Zre h0 hp.hi (Zhx hp.lo hx hy)).le h7
def Zn6 (p:Int)(f g:Nat->Nv):Nat->Nv
 | 0=>Znz p 0
 | k+1=>Zjb p (Zn6 p f g k) (Zeu p (f k) (g k))
abbrev dotV (p:Int)(xs ys:List Nv):Nv:=Zn6 p (λk=>xs.getD k (0,1)) (λk=>ys.getD k (0,1)) xs.length
abbrev Zks (B:Mv)(j:Nat):List Nv:=B.map λrow=>row.getD j (0,1)
def Zb3 (p:Int)(A B:Mv)(wd:Nat):Mv:=A.map λrow=>(List.range wd).map λj=>dotV p row (Zks B j)
theorem Zry {p:Int}{x y:Nv}{n m:Nat}(hp:GroundP p)(hx:Isn p x)(hy:Isn p y)(h1:BtN n x)(h2:BtN m y):BtN (n+m+7) (Zeu p x y):=by
 have:=Zrc hp hx hy h1 (h2.le (show m<=m+7 by omega)) ∅;rwa [<- Nat.add_assoc] at this
theorem Zux {p:Int}(hp:GroundP p){f g:Nat->Nv}{k1 k2:Nat}:∀ {n:Nat},(∀ i,i<n->Isn p (f i)/\BtN k1 (f i))->(∀ i,i<n->Isn p (g i)/\BtN k2 (g i))->Isn p (Zn6 p f g n)/\BtN (7+n*(k1+k2+8)) (Zn6 p f g n)
 | 0,_,_=>⟨Zhy hp.lo,by
   show BtN _ (Znz p 0);unfold Znz;split
   .exact ⟨Zjp _,Zb1 oz165 ⇑0⟩
   .rw [Int.zero_emod];exact⟨Zjp _,Zb1 oz165 ⇑0⟩⟩
 | n+1,hf,hg=>by
  obtain⟨i1,b1⟩:=Zux hp (k1:=k1) (k2:=k2) (n:=n) (λi hi=>hf i (Zuo hi)) (λi hi=>hg i (Zuo hi));obtain⟨i2,b2⟩:=hf n Zjd;obtain⟨i3,b3⟩:=hg n Zjd;have it:=Zhx hp.lo i2 i3;refine⟨Zjh hp.lo i1 it,?_⟩;have:=Zt4 hp i1 it b1 (Zry hp i2 i3 b2 b3) ∅;refine this.le ?_;rw[Jcx n 1];omega
theorem Znc {p:Int}{wd k:Nat}{B:Mv}(hw:∀ xs∈B,xs.length=wd)(g:∀ xs∈B,Zic p k xs){j:Nat}(hj:j<wd):Zic p k (Zks B j):=λx hx=>by
 refine Zac (Jau.mp hx) λrow hr e91=>?_;obtain rfl:=e91;exact g row hr _ (Zbt (by rw[hw row hr];exact hj))
theorem Zqx {p:Int}{F:Type}[Lean.Grind.Field F](hp:GroundP p)(hF:FdOk p F){f g:Nat->Nv}:∀ {n:Nat},(∀ i,i<n->Isn p (f i))->(∀ i,i<n->Isn p (g i))->Isn p (Zn6 p f g n)/\(nm (Zn6 p f g n):F)=sm n λi=>nm (f i)*nm (g i)
 | 0,_,_=>⟨Zhy hp.lo,by
   show (nm (Znz p 0):F)=0;rw[hF.intF,Zf8]⟩
 | n+1,hf,hg=>by
  obtain⟨i1,e1⟩:=Zqx hp hF (n:=n) (λi hi=>hf i (Zuo hi)) (λi hi=>hg i (Zuo hi));have it:=Zhx hp.lo (hf n Zjd) (hg n Zjd);refine⟨Zjh hp.lo i1 it,?_⟩;show (nm (Zjb p (Zn6 p f g n) (Zeu p (f n) (g n))):F)=sm n (λi=>nm (f i)*nm (g i))+nm (f n)*nm (g n);rw[hF.plus i1 it,e1,hF.times (hf n Zjd) (hg n Zjd)]
end
end Pf
namespace Pf
open PySem L2 L3 PyProof.Rows
structure Mat (p:Int)(n wd:Nat)(M:Mv):Prop where
 hl:M.length=n
 hw:∀ xs∈M,xs.length=wd
 is:∀ xs∈M,∀ x∈xs,Isn p x
theorem Zlk {p:Int}{F:Type}[Lean.Grind.Field F](hp:GroundP p)(hF:FdOk p F){n m wd:Nat}{A B:Mv}(hA:Mat p n m A)(hB:Mat p m wd B){i j:Nat}(hi:i<n)(hj:j<wd):(vN ((Zb3 p A B wd).getD i []) j:F)=sm m λl=>vN (A.getD i []) l*vN (B.getD l []) j:=by
 have lA:=hA.hl;have lB:=hB.hl;have hm:A.getD i []∈A:=Zbt (oz2 hi lA);have e:(Zb3 p A B wd).getD i []=(List.range wd).map λj=>dotV p (A.getD i []) (Zks B j):=by
  unfold Zb3;rw[Jad,Jac,Jaa (show i<A.length by exact oz2 hi lA),Zbn (show i<A.length by exact oz2 hi lA)];rfl
 have wr:=hA.hw _ hm;have col:∀ l,l<m->(Zks B j).getD l (0,1)=(B.getD l []).getD j (0,1):=λl hl=>by
  rw[Jad,Jac,Jaa (show l<B.length by exact Zgm lB hl),Zbn (show l<B.length by exact Zgm lB hl)];rfl
 rw[e];unfold vN;rw[Jad,Jac,Ja4 hj];have:=(Zqx hp hF (n:=(A.getD i []).length) (f:=λk=>(A.getD i []).getD k (0,1)) (g:=λk=>(Zks B j).getD k (0,1)) (λl hl=>hA.is _ hm _ (Zbt hl)) (λl hl=>by
  rw[col l (oz4 wr hl)];exact hB.is _ (Zbt (oz23 lB wr hl)) _ (Zbt (by rw[hB.hw _ (Zbt (oz23 lB wr hl))];exact hj)))).2
 show (nm (dotV p (A.getD i []) (Zks B j)):F)=_;rw[this,wr];exact Zas λl hl=>by rw[col l hl]
section
variable {G PL cL:Addr}
structure WRh (H:Hp)(p:Int)(t l:Addr)(xs:List Nv)(kb:Nat):Prop where
 ex:∃ (ts:List Int) (b:Int),H t=some (.tup [.ref l,.int b])/\RowZ H l ts/\WRz p xs ts b/\SmallR kb ts/\Bt kb b
theorem WRh.same {H H':Hp}{p:Int}{t l:Addr}{xs:List Nv}{kb:Nat}(h:WRh H p t l xs kb)(s:Same H H'):WRh H' p t l xs kb:=let ⟨ts,b,h1,h2,h3⟩:=h.ex;⟨ts,b,s _ _ h1,s _ _ h2,h3⟩
theorem WRh.put {H:Hp}{D:Addr}{l':List V}{o:HO}{p:Int}{t l:Addr}{xs:List Nv}{kb:Nat}(h:WRh H p t l xs kb)(hD:H D=some (.lst l'))(n:l≠D):WRh (upd H D o) p t l xs kb:=let ⟨ts,b,h1,h2,h3⟩:=h.ex;⟨ts,b,by rw[Zah (Zet h1 hD (by intro z;cases z))];exact h1,h2.put n,h3⟩
theorem Zgl {f g:Nat->Int}:∀ {n:Nat},(∀ i,i<n->f i=g i)->preSum f n=preSum g n
 | 0,_=>rfl
 | n+1,h=>by
  show preSum f n+f n=preSum g n+g n;rw[Zgl (n:=n) λi hi=>h i (Zuo hi),h n Zjd]
theorem Zie (g:Nat->Int)(N:Nat):preSum (λi=>((List.range N).map g).getD i 0) N=preSum g N:=Zgl λi hi=>by
 rw[Jad,Jac,Ja4 hi];rfl
theorem Zj3 {f:Nat->Int}{B:Nat}:∀ {n:Nat},(∀ i,i<n->(f i).natAbs<=B)->(preSum f n).natAbs<=n*B
 | 0,_=>by show (0:Int).natAbs<=_;simp
 | n+1,h=>by
  have a:=Zj3 (f:=f) (B:=B) (n:=n) λi hi=>h i (Zuo hi);have b:=h n Zjd;show (preSum f n+f n).natAbs<=(n+1)*B;rw[Jcx,Nat.one_mul];exact oz18 a b
theorem Zj4 {F:Type}[Lean.Grind.Field F](f:Nat->Int):∀ n:Nat,(ic (preSum f n):F)=sm n λi=>ic (f i)
 | 0=>Zf8
 | n+1=>by
  show (ic (preSum f n+f n):F)=sm n (λi=>ic (f i))+ic (f n);rw[Zm4,Zj4 f n]
theorem Zpj {f:Nat->Int}{k n:Nat}(hn:n<=24)(h:∀ i,i<n->Bt k (f i)):Bt (k+5) (preSum f n):=by
 have h1:=Zj3 (f:=f) (B:=2 ^ k) (n:=n) λi hi=>Jbw (h i hi);have h2:n*2 ^ k<=24*2 ^ k:=Nat.mul_le_mul_right _ hn;have h3:2 ^ (k+5)=32*2 ^ k:=by rw[Nat.pow_add];omega
 have h4:=Nat.two_pow_pos k;show (preSum f n).natAbs<2 ^ (k+5);exact oz172 h1 h2 h3 h4
theorem dot_isQ {p:Int}{xs ys:List Nv}{ts us:List Int}{b c:Int}{x:Nv}(hp:GroundP p)(hl:ys.length=xs.length)(hx:∀ x∈xs,Isn p x)(hy:∀ y∈ys,Isn p y)(w1:WRz p xs ts b)(w2:WRz p ys us c)(iq:IsQ p (preSum (λi=>ts.getD i 0*us.getD i 0) xs.length) (b*c) x):x=dotV p xs ys:=by
 obtain⟨F,_,hF⟩:=Ztt hp;obtain⟨i1,e1⟩:=Zqx hp hF (n:=xs.length) (f:=λk=>xs.getD k (0,1)) (g:=λk=>ys.getD k (0,1)) (λi hi=>hx _ (Zbt hi)) (λi hi=>hy _ (Zbt (Zgm hl hi)));refine hF.inj iq.is i1 ?_;rw[iq.fd F hF,e1,Zj4,Zbw];have b0:=wr_b hF w1;have c0:=wr_b hF w2;rw[Zas (g:=λi=>(ic b*ic c)*(nm (xs.getD i (0,1))*nm (ys.getD i (0,1)))) λi hi=>by
  rw[Zbw];have a1:=wr_eq hF w1 hx i;have a2:=wr_eq hF w2 hy i;unfold vz vN at a1 a2;rw[a1,a2]
  grind]
 rw[Zd9];generalize (sm xs.length λi=>(nm (xs.getD i (0,1)):F)*nm (ys.getD i (0,1)))=z;have bc:(ic b*ic c:F)≠0:=by
  intro z
  grind
 grind
theorem bot_ne {p b:Int}{F:Type}[Lean.Grind.Field F](hp:GroundP p)(hF:FdOk p F)(h:(ic b:F)≠0):p≠0->b % p≠0:=λh0 z=>by
 apply h;rw[<- hF.modF h0,z,Zf8]
def spRt (G:Addr):L2.Sp:=λvs H Q _=>∃ (g t l u m:Addr) (p:Int) (xs ys:List Nv) (k1 k2:Nat),vs=[.ref g,.ref t,.ref u]/\GAt G H g p/\GroundP p/\WRh H p t l xs k1/\WRh H p u m ys k2/\xs.length<=24/\ys.length=xs.length/\(∀ x∈xs,Isn p x)/\(∀ y∈ys,Isn p y)/\k1+k2+5<=NB /\
 ∀ v H',Same H H'->NumV H' p v (dotV p xs ys)->Q v H'
theorem ok_rt (F:Fun K "row_times" "row_times" Ze6 f fd)(T:Txt K mg C G S)(Ya3:CalD P w K mg base G "number" 6 (Zig G) []):FnOk P w K mg base CX0 7 f fd ["ground","row","column"] (spRt G):=by
 have nd:=Zge.nd;refine F.ok Zge (λvs H Q E h=>?_) (λcdv A outer s H vs Q E hr h=>?_)
 .refine Zud h λg t l u m p xs ys k1 k2 e91 _=>?_;clear h;obtain rfl:=e91;rfl
 .refine Zuc h λg t l u m p xs ys k1 k2 e92 hg hp e93=>?_;clear h;obtain rfl:=e92;refine xE0_8 e93 λe94 e95 xl yl gx gy kb q=>?_;clear e93;obtain⟨ts,b,ht,hl,w1,b1,bb1⟩:=e94;obtain⟨us,c,hu,hm,w2,b2,bb2⟩:=e95;refine⟨_,((Zcr (pvr 1) (@Zcs _ _ _ _ _ 2 rfl ((3>>>nd)^^^((4>>>nd)^^^(@Za3 _))) ⇑1 ⇑1))<*>((Zcr (pvr 2) (@Zcs _ _ _ _ _ 2 rfl ((5>>>nd)^^^((6>>>nd)^^^(@Za3 _))) ⇑1 ⇑1))<*>(~~~(Zll T.cl_Ground Ya3 hr.m (pvr 0) ((Za1 (Znf rfl) rfl T.n_sum boot_sum ((Zaz (own:=["a","b"]) (fr:=[]) rfl (Zbo (by kernel_rfl)) (Zmq rfl T.n_zip ((pv 3)<&>((pv 5)<&>Zaa))) (λ_ _ _ _=>⟨(@Zc7 _ K rfl _ _ _ _ 2 rfl ((0<<<["a","b"])^^^((1<<<["a","b"])^^^(@Za3 _))) ⇑1 ⇑1),Zax,(Zbs<|>(pv 0)<&&>(pv 1))⟩))<&>Zaa))<&>((Zbs<|>(pvr 4)<&&>(pvr 6))<&>Zaa)))))),?_⟩;walk_at "wp";obtain⟨dx,hg0⟩:=hg;have tl:=w1.len;have ul:=w2.len;refine⟨_,SqT.of ht,rfl,_,_,rfl,_,_,rfl,rfl,_,SqT.of hu,rfl,_,_,rfl,_,_,rfl,rfl,dx,_,hg0,Zcw p,?_⟩;have bt1:∀ i,Bt k1 (ts.getD i 0):=λi=>b1.at i;have bt2:∀ i,Bt k2 (us.getD i 0):=λi=>b2.at i;refine⟨_,rfl,_,rfl,l,m,rfl,⟨_,SqL.of hl⟩,⟨_,SqL.of hm⟩,λD hD=>Zkq (λi _ y=>y=.int (ts.getD i 0*us.getD i 0)) (λr _=>r) (λr _=>r) hl hm (by rw[Jab,Jab];exact oz116 yl tl ul) hD (by rw[Jab];exact oz60 xl tl) (λi x y H' Q' hx hy s' _ q'=>?_) (λzs H1 s1 e1 zl hz=>?_)⟩
  .refine Zac (Zdw hx) λa e e96=>?_;obtain rfl:=e96;refine Zac (Zdw hy) λc' e' e97=>?_;obtain rfl:=e97;have h1:=bt1 i;have h2:=bt2 i;rw[Zan e] at h1;rw[Zan e'] at h2;exact⟨_,rfl,_,rfl,_,_,rfl,rfl,h1.ok h2 (Jbi (show k1+k2<=NB by exact oz87 kb) ⇑0),q' _ H' (Same.refl _) (by rw[Zan e,Zan e'])⟩
  .rw [Jab,tl] at zl;rw[Zh0 zl hz] at e1;refine⟨D,rfl,_,SqL.of e1,b,rfl,c,rfl,bb1.ok bb2 (Jbi (show k1+k2<=NB by exact oz87 kb) ⇑0),?_⟩;rw[Jab,Jav,Zie];obtain⟨F',_,hF⟩:=Ztt hp;have bc:(ic (b*c):F')≠0:=by
    have:=wr_b hF w1;have:=wr_b hF w2;rw[Zbw];intro z
    grind
   refine Zfw g p _ _ ⟨rfl,⟨dx,s1 _ _ hg0⟩,hp,(Zpj xl λi _=>(bt1 i).mul (bt2 i)).le ∅,(bb1.mul bb2).le (oz87 kb),λ_=>?_,bot_ne hp hF bc,λv x H2 s2 nv iq=>?_⟩
   .have:=Jej w1.pos w2.pos;omega
   .rw [dot_isQ hp yl gx gy w1 w2 iq] at nv;exact q v H2 (s1.trans s2) nv
abbrev colM (M:Mv)(wd:Nat):Mv:=(List.range wd).map λj=>Zks M j
theorem col_len {M:Mv}{n wd:Nat}(hl:M.length=n):∀ xs∈colM M wd,xs.length=n:=λxs hx=>by
 refine Zac (Jau.mp hx) λj _ e98=>?_;obtain rfl:=e98;rw[Jab,hl]
theorem Zq6 {p:Int}{M:Mv}{k wd:Nat}(hw:∀ xs∈M,xs.length=wd)(g:∀ xs∈M,Zic p k xs):∀ xs∈colM M wd,Zic p k xs:=λxs hx=>by
 refine Zac (Jau.mp hx) λj hj e99=>?_;obtain rfl:=e99;exact Znc hw g (Jbk.mp hj)
def spTa:L2.Sp:=λvs H Q _=>∃ (p:Int) (k n wd:Nat) (t r:Addr) (rs:List Addr) (M:Mv),vs=[.ref t]/\TabB H p k n wd t r rs M/\n<=200/\wd<=200/\∀ (t' r':Addr) (rs':List Addr) H',Same H H'->New H t' r' rs'->TabB H' p k wd n t' r' rs' (colM M wd)->Q (.ref t') H'
theorem ok_ta (F:Fun K "turned_about" "turned_about" Zc4 f fd)(T:Txt K mg C G S):FnOk P w K mg base CX0 1 f fd ["table"] spTa:=by
 have nd:=Zeb.nd;refine F.ok Zeb (λvs H Q E h=>?_) (λcdv A outer s H vs Q E hr h=>?_)
 .refine xE8_2 h λp k n wd t r rs M e910 _=>?_;clear h;obtain rfl:=e910;rfl
 .refine xE8_4 h λp k n wd t r rs M e911 tb n24 e912=>?_;clear h;obtain rfl:=e911;obtain⟨w24,q⟩:=e912;have rl:=tb.tv.row.1;have hM:=tb.hl;refine⟨_,((Zcr (pvr 0) (@Zcs _ _ _ _ _ 3 rfl ((1>>>nd)^^^((2>>>nd)^^^((@Zad _ _ 3 _ nd rfl (Or.inr rfl) (Or.inl rfl))^^^(@Za3 _)))) ⇑1 ⇑1))<*>(~~~(@Zbj _ _ _ _ _ ((pvr 2)<&>((pvr 1)<&>((Zaz (own:=["place"]) (fr:=[("rows",3)]) rfl (Zbo (by kernel_rfl)) (Zia rfl T.n_range ((pv 2)<&>Zaa)) (λ_ _ _ _=>⟨(@Zad _ _ 0 _ (show (["place","rows"]:List Str).Nodup by decide +kernel) rfl (Or.inr rfl) (Or.inl rfl)),Zax,(Zaz (own:=["row"]) (fr:=[("place",0)]) rfl (Zbo (by kernel_rfl)) (Zjc K rfl (pv 1)) (λ_ _ _ _=>⟨(0<<<["row","place"]),Zax,((Zb0 K rfl)<|>(pv 0)<||>(pv 1))⟩))⟩))<&>Zaa)))))),?_⟩;walk_at "wp";refine⟨_,SqT.of tb.tv.tup,rfl,_,_,rfl,_,_,rfl,_,_,rfl,rfl,?_⟩;refine⟨_,rfl,_,rfl,oz67,∅,λD hD=>Zh3 (n:=wd) (λi Hc y=>∃ a,y=.ref a/\RowV Hc p a ((colM M wd).getD i [])/\a≠D/\H a=none) (λ⟨a,e,b,c⟩ s=>⟨a,e,b.same s,c⟩) (λ⟨a,e,b,c,d⟩ hD=>⟨a,e,b.put hD c,c,d⟩) hD ∅ (λi H' Q' hi s' ⟨lD,hlD⟩ q'=>?_) (λys H1 s1 e1 yl hys=>?_)⟩
  .refine ⟨_,rfl,r,rfl,⟨_,SqL.of (s' _ _ tb.tv.lst)⟩,λE1 hE1=>Zb8 (λk Hc y=>NumV Hc p y ((M.getD k []).getD i (0,1))) (λk s=>k.same s) (λk hD=>k.put hD) (s' _ _ tb.tv.lst) hE1 (by rw[Jab];omega) (λk x Hc Qc hx sc _ qc=>?_) (λys Hc sc ec yl yn=>?_)⟩
   .refine Zac ((Zb2 tb.tv.row).at' hx) λrow er e913=>?_;obtain⟨a,rfl,vs,hv1,hv2⟩:=e913;have rw':=tb.hw row (Jae er);have ei:row[i]?=some (row[i]'(oz2 hi rw')):=Jaa _;refine Zac (hv2.at ei) λv ev nv=>?_;have nv':=nv.same (s'.trans sc);have qq:=qc v Hc (Same.refl _);rw[Zan er,Zan ei] at qq;exact⟨_,rfl,_,rfl,a,vs,((0:Int)+(i:Int)),v,rfl,rfl,SqL.of ((s'.trans sc) _ _ hv1),Zd5 oz158 (by rw[show ((0:Int)+(i:Int)).toNat=i by exact oz15];exact ev),qq nv'⟩
   .rw [Jab] at yl;have ecol:(colM M wd).getD i []=Zks M i:=Zan (by rw[Jac,Ja4 hi];rfl);refine q' _ Hc sc ⟨E1,rfl,⟨ys,ec,?_⟩,(Zai hlD hE1).symm,s'.free hE1⟩;rw[ecol];refine⟨by rw[Jab];exact oz14 rl yl,λk y x f1 f2=>?_⟩;rw[Jac] at f2;cases eM:M[k]? with
    | none=>rw[eM] at f2;cases f2
    | some row=>
     rw[eM] at f2;cases f2;have:=yn k y f1;rwa [Zan eM] at this
  .obtain ⟨rs',rfl,a2,nD,fr⟩:=Zo7 (D:=D) (H1:=H) (p:=p) (M:=colM M wd) (by rw[Jab,Jav];exact yl) hys;refine⟨⇑0,λt' ht'=>?_⟩;have s2:=Same.new (o:=.tup [V.int wd,V.int n,.ref D]) ht';exact q t' D rs' _ (s1.trans s2) ⟨s1.free ht',hD,fr⟩ ⟨⟨Zab,s2 _ _ e1,a2.mono λ_ _ k=>k.same s2,nD⟩,by rw[Jab,Jav],col_len hM,Zq6 tb.hw tb.gd⟩
def Zmc (G:Addr):L2.Sp:=λvs H Q E=>∃ (g t1 r1 t2 r2:Addr) (rs1 rs2:List Addr) (p:Int) (n m w2 k1 k2:Nat) (A B:Mv),vs=[.ref g,.ref t1,.ref t2]/\GAt G H g p/\GroundP p/\TabB H p k1 n m t1 r1 rs1 A/\TabB H p k2 m w2 t2 r2 rs2 B/\n<=24/\m<=24/\w2<=24/\1<=k1/\1<=k2/\(m+1)*k1+(m+1)*k2+5<=NB /\
 ∀ t r rs H',Same H H'->New H t r rs->TabB H' p (7+m*(k1+k2+8)) n w2 t r rs (Zb3 p A B w2)->Q (.ref t) H'
theorem Zpg {p:Int}{n m wd k1 k2:Nat}{A B:Mv}(hp:GroundP p)(hl:A.length=n)(hw:∀ xs∈A,xs.length=m)(hg:∀ xs∈A,Zic p k1 xs)(hl':B.length=m)(hw':∀ xs∈B,xs.length=wd)(hg':∀ xs∈B,Zic p k2 xs):(Zb3 p A B wd).length=n/\(∀ xs∈Zb3 p A B wd,xs.length=wd)/\∀ xs∈Zb3 p A B wd,Zic p (7+m*(k1+k2+8)) xs:=by
 refine⟨by unfold Zb3;rw[Jab];exact hl,λxs hx=>?_,λxs hx x hxx=>?_⟩
 .refine Zac (Jau.mp hx) λrow _ e914=>?_;obtain rfl:=e914;rw[Jab,Jav]
 .refine Zac (Jau.mp hx) λrow hr e915=>?_;obtain rfl:=e915;refine Zac (Jau.mp hxx) λj hj e916=>?_;obtain rfl:=e916;have hj:=Jbk.mp hj;have wr:=hw row hr;have gc:=Znc hw' hg' hj;have:=Zux hp (k1:=k1) (k2:=k2) (n:=row.length) (f:=λk=>row.getD k (0,1)) (g:=λk=>(Zks B j).getD k (0,1)) (λi hi=>hg row hr _ (Zbt hi)) (λi hi=>gc _ (Zbt (by rw[Jab];exact oz23 hl' wr hi)));rw[wr] at this;refine⟨?_,?_⟩
  .show Isn p (Zn6 p _ _ row.length);rw[wr];exact this.1
  .show BtN _ (Zn6 p _ _ row.length);rw[wr];exact this.2
theorem ok_prod (F:Fun K "product" "product" Zhg f fd)(T:Txt K mg C G S)(Yal:Cal P w K mg base "whole_row" 6 (Zr7 G))(Ybe:Cal P w K mg base "turned_about" 1 spTa)(Ya0:Cal P w K mg base "row_times" 7 (spRt G)):FnOk P w K mg base CX0 8 f fd ["ground","one","other"] (Zmc G):=by
 have nd:=Zii.nd;refine F.ok Zii (λvs H Q E h=>?_) (λcdv A outer s H vs Q E hr h=>?_)
 .refine Zt9 h λg t1 r1 t2 r2 rs1 rs2 p n m w2 k1 k2 A B e917 _=>?_;clear h;obtain rfl:=e917;rfl
 .refine Zt8 h λg t1 r1 t2 r2 rs1 rs2 p n m w2 k1 k2 A B e918 hg hp e919=>?_;clear h;obtain rfl:=e918;refine xE0_9 e919 λT1 T2 n24 m24 w24 k11 k21 lim good=>?_;clear e919;have Zfd:∀ {c A B:Prop} [Decidable c],¬ c->B->if c then A else B:=λhc h=>by rw[if_neg hc];exact h
  refine⟨_,((@Za5 _ _ _ _ _ _ _ _ (Zao Zd7 ((Zkh Zbk)<|>(pvr 1)<||>Zaf) ((Zkh Zbk)<|>(pvr 2)<||>Zaf) (Zaj _)) (@Zau _ _ _ Zci) Zak)<*>((Zht (i:=3) (own:=["row"]) (fr:=[("ground",0)]) rfl (Zbo (by kernel_rfl)) (Za0 (Zbk<|>(pv 1)<||>Zaf)) (λ_ _ _ _=>⟨(0<<<["row","ground"]),Zax,(Yal<$>hr<$>((pv 1)<&>((pv 0)<&>Zaa)))⟩) nd rfl rfl rfl)<*>((Zar (i:=4) nd rfl (Or.inr rfl) (Zaz (own:=["column"]) (fr:=[("ground",0)]) rfl (Zbo (by kernel_rfl)) (Za0 (Zbk<|>(Ybe<$>hr<$>((pv 2)<&>Zaa))<||>Zaf)) (λ_ _ _ _=>⟨(0<<<["column","ground"]),Zax,(Yal<$>hr<$>((pv 1)<&>((pv 0)<&>Zaa)))⟩)))<*>(~~~(@Zbj _ _ _ _ _ (((Zkh Zbk)<|>(pvr 1)<||>Zaf)<&>(((Zkh Zbk)<|>(pvr 2)<||>Zaf)<&>((Zaz (own:=["row"]) (fr:=[("columns",4),("ground",0)]) rfl (Zbo (by kernel_rfl)) (Za0 (pv 3)) (λ_ _ _ _=>⟨(@Zad _ _ 0 _ (show (["row","columns","ground"]:List Str).Nodup by decide +kernel) rfl (Or.inr rfl) (Or.inl rfl)),Zax,(Zaz (own:=["column"]) (fr:=[("ground",2),("row",0)]) rfl (Zbo (by kernel_rfl)) (Zjc K rfl (pv 1)) (λ_ _ _ _=>⟨(0<<<["column","ground","row"]),Zax,(Ya0<$>hr<$>((pv 1)<&>((pv 2)<&>((pv 0)<&>Zaa))))⟩))⟩))<&>Zaa)))))))),?_⟩;walk_at "wp";refine⟨_,SqT.of T1.tv.tup,_,rfl,_,SqT.of T2.tv.tup,_,rfl,rfl,Zfd (by simp) ?_⟩;have la:=T1.tv.row.1;have lb:=T2.tv.row.1;have sA:=T1.hl;have sB:=T2.hl
  -- the rows
  refine⟨_,rfl,t1,_,2,_,rfl,rfl,SqT.of T1.tv.tup,rfl,r1,rfl,⟨_,SqL.of T1.tv.lst⟩,λD1 hD1=>Zb8 (λi Hc y=>∃ t l,y=.ref t/\WRh Hc p t l (A.getD i []) ((m+1)*k1)/\l≠D1) (λ⟨t,l,e,b,c⟩ s=>⟨t,l,e,b.same s,c⟩) (λ⟨t,l,e,b,c⟩ hD=>⟨t,l,e,b.put hD c,c⟩) T1.tv.lst hD1 (by rw[Jab];omega) (λi x H' Q' hx s' ⟨lD,hlD⟩ q'=>?_) (λys H1 s1 e1 yl hys=>?_)⟩
  .refine Zac ((Zb2 T1.tv.row).at' hx) λrow er e920=>?_;obtain⟨a,rfl,rv⟩:=e920;have hrow:=Jae er;have wr:=T1.hw row hrow;refine⟨_,rfl,_,rfl,g,a,p,row,k1,rfl,hg.same s',hp,rv.same s',oz54 m24 wr,T1.gd row hrow,k11,by rw[wr];omega,λt l zs b H2 s2 fl ht rz wz sz bb=>q' _ H2 s2 ⟨t,l,rfl,?_,(Zai hlD fl).symm⟩⟩;rw[Zan er];rw[wr] at sz bb;exact⟨zs,b,ht,rz,wz,sz,bb⟩
  rw[Jab] at yl
  -- the columns
  refine⟨_,rfl,p,k2,m,w2,t2,r2,rs2,B,rfl,T2.same s1,oz117 m24,oz117 w24,λt3 r3 rs3 H2 s2 nw3 tb3=>?_⟩;have s02:=s1.trans s2;refine Zfw t3 _ 2 _ ⟨rfl,rfl,SqT.of tb3.tv.tup,rfl,r3,rfl,⟨_,SqL.of tb3.tv.lst⟩,λD2 hD2=>?_⟩;have l3:=tb3.tv.row.1;rw[Jab,Jav] at l3;refine Zb8 (λi Hc y=>∃ t l,y=.ref t/\WRh Hc p t l (Zks B i) ((m+1)*k2)/\l≠D2) (λ⟨t,l,e,b,c⟩ s=>⟨t,l,e,b.same s,c⟩) (λ⟨t,l,e,b,c⟩ hD=>⟨t,l,e,b.put hD c,c⟩) tb3.tv.lst hD2 (by rw[Jab];exact oz60 w24 l3) (λi x H' Q' hx s' ⟨lD,hlD⟩ q'=>?_) (λzs H3 s3 e3 zl hzs=>?_)
  .refine Zac ((Zb2 tb3.tv.row).at' hx) λcol ec e921=>?_;obtain⟨a,rfl,rv⟩:=e921;have hi:i<w2:=by
    have:=(Jaf.mp ec).1;rwa [Jab,Jav] at this
   have ecol:col=Zks B i:=by
    rw[Jac,Ja4 hi] at ec;cases ec;rfl
   subst ecol;have cl:(Zks B i).length=m:=by rw[Jab];exact sB
   refine⟨_,rfl,_,rfl,g,a,p,Zks B i,k2,rfl,hg.same (s02.trans s'),hp,rv.same s',oz54 m24 cl,Znc T2.hw T2.gd hi,k21,by rw[cl];omega,λt l zs b H4 s4 fl ht rz wz sz bb=>q' _ H4 s4 ⟨t,l,rfl,?_,(Zai hlD fl).symm⟩⟩;rw[cl] at sz bb;exact⟨zs,b,ht,rz,wz,sz,bb⟩
  rw[Jab] at zl;have s03:=s02.trans s3;have s13:=s2.trans s3;have e13:=s13 _ _ e1;refine⟨_,SqT.of (s03 _ _ T1.tv.tup),_,rfl,_,SqT.of (s03 _ _ T2.tv.tup),_,rfl,?_⟩
  -- the rows of the product
  refine⟨_,rfl,D1,rfl,⟨_,SqL.of e13⟩,λD3 hD3=>Zb8 (λi Hc y=>∃ a,y=.ref a/\RowV Hc p a ((Zb3 p A B w2).getD i [])/\a≠D3/\H3 a=none) (λ⟨a,e,b,c⟩ s=>⟨a,e,b.same s,c⟩) (λ⟨a,e,b,c,d⟩ hD=>⟨a,e,b.put hD c,c,d⟩) e13 hD3 (oz141 n24 la sA yl) (λi x H' Q' hx s' ⟨lD,hlD⟩ q'=>?_) (λus H4 s4 e4 ul hus=>?_)⟩
  .refine Zca (hys i x hx) λti li e922 wri _=>?_;obtain rfl:=e922;have hi:i<A.length:=by have:=(Jaf.mp hx).1;exact oz10 la yl this
   have eA:A[i]?=some A[i]:=Jaa hi;rw[Zan eA] at wri;have hrow:=Jbd hi;have wr:=T1.hw _ hrow;refine⟨_,rfl,D2,rfl,⟨_,SqL.of (s' _ _ e3)⟩,λD4 hD4=>Zb8 (λj Hc y=>NumV Hc p y (dotV p A[i] (Zks B j))) (λk s=>k.same s) (λk hD=>k.put hD) (s' _ _ e3) hD4 (oz134 w24 l3 zl) (λj y Hc Qc hy sc _ qc=>?_) (λvs Hc sc ec vl vn=>?_)⟩
   .refine Zca (hzs j y hy) λtj lj e923 wrj _=>?_;obtain rfl:=e923;have hj:j<w2:=by have:=(Jaf.mp hy).1;exact oz10 l3 zl this
    exact⟨_,rfl,_,rfl,_,rfl,g,ti,li,tj,lj,p,A[i],Zks B j,(m+1)*k1,(m+1)*k2,rfl,hg.same ((s03.trans s').trans sc),hp,wri.same ((s13.trans s').trans sc),wrj.same (s'.trans sc),∅,by rw[Jab];omega,λx hx=>(T1.gd _ hrow x hx).1,λx hx=>(Znc T2.hw T2.gd hj x hx).1,lim,λv Hd sd nv=>qc v Hd sd nv⟩
   .refine q' _ Hc sc ⟨D4,rfl,⟨vs,ec,?_⟩,(Zai hlD hD4).symm,s'.free hD4⟩;have ep:(Zb3 p A B w2).getD i []=(List.range w2).map λj=>dotV p A[i] (Zks B j):=Zan (by unfold Zb3;rw[Jac,eA];rfl);rw[ep];refine⟨by rw[Jab,Jav];exact oz13 l3 zl vl,λj v x f1 f2=>?_⟩;have hj:j<w2:=by have:=(Jaf.mp f1).1;exact oz88 l3 zl vl this
    rw[Jac,Ja4 hj] at f2;cases f2;exact vn j v f1
  .obtain ⟨rs',rfl,a2,nD,fr⟩:=Zo7 (D:=D3) (H1:=H3) (p:=p) (M:=Zb3 p A B w2) (by unfold Zb3;rw[Jab];exact oz13 la yl ul) hus;refine⟨⇑0,λt' ht'=>?_⟩;have s5:=Same.new (o:=.tup [V.int n,V.int w2,.ref D3]) ht';refine Za2 (Zpg (wd:=w2) hp T1.hl T1.hw T1.gd T2.hl T2.hw T2.gd) λg1 g2 g3=>?_;exact good t' D3 rs' _ ((s03.trans s4).trans s5) ⟨(s03.trans s4).free ht',s03.free hD3,λb hb=>s03.free (fr b hb)⟩ ⟨⟨Zab,s5 _ _ e4,a2.mono λ_ _ k=>k.same s5,nD⟩,g1,g2,g3⟩
end
end Pf
namespace Pf
open PySem L2 L3 PyProof.Rows
section
variable {F:Type}[Lean.Grind.Field F]
end
end Pf
namespace Pf
open PySem L2 L3 PyProof.Rows
section
variable {G PL cL:Addr}
theorem Zlx {H:Hp}{n:Nat}{i j:Int}:EqD K H n (.int i) (.int j) (decide (i=j)):=by
 have:=EqD.flat (K:=K) (H:=H) (n:=n) (x:=.int i) (y:=.int j) rfl rfl;have e:eqV (.int i) (.int j)=decide (i=j):=by
  show (i == j)=decide (i=j);exact Jbr.mpr (by rw[Jbj,Ja0])
 rwa [e] at this
theorem Zjf {α:Type}{H:Hp}{n:Nat}{a c:Addr}{R:V->α->Prop}{vs us:List V}{xs ys:List α}(hl:xs.length=ys.length)(ha:H a=some (.lst vs))(hc:H c=some (.lst us))(h:All2 R vs xs)(h':All2 R us ys)(uq:∀ v x y,x∈xs->y∈ys->R v x->R v y->x=y)(k:∀ v u x y,x∈xs->y∈ys->R v x->R u y->∃ b,EqD K H n v u b/\(b=true ↔ x=y)):∃ b,EqD K H (n+1) (.ref a) (.ref c) b/\(b=true ↔ xs=ys):=by
 have l1:=h.1;have l2:=h'.1;have key:∀ i,∃ b,i<vs.length->∃ v u x y,vs[i]?=some v/\us[i]?=some u/\xs[i]?=some x/\ys[i]?=some y/\EqD K H n v u b/\(b=true ↔ x=y):=λi=>by
  by_cases hi:i<vs.length
  .have e1:=Jaa hi;have e2:=Jaa (show i<us.length by omega);have e3:=Jaa (show i<xs.length by exact oz4 l1 hi);have e4:=Jaa (show i<ys.length by exact oz10 hl l1 hi);refine Zac (k _ _ _ _ (Jae e3) (Jae e4) (h.2 i _ _ e1 e3) (h'.2 i _ _ e2 e4)) λb hb hb2=>?_;exact⟨b,λ_=>⟨_,_,_,_,e1,e2,e3,e4,hb,hb2⟩⟩
  .exact ⟨true,λz=>absurd z hi⟩
 by_cases hac:a=c
 .subst hac;rw[ha] at hc;cases hc;refine⟨true,.same,λ_=>?_,λ_=>rfl⟩;refine Jb4 λi=>?_;by_cases hi:i<vs.length
  .have e1:=Jaa hi;have e3:=Jaa (show i<xs.length by exact oz4 l1 hi);have e4:=Jaa (show i<ys.length by exact oz10 hl l1 hi);rw[e3,e4,uq _ _ _ (Jae e3) (Jae e4) (h.2 i _ _ e1 e3) (h'.2 i _ _ e1 e4)]
  .rw [Jai (oz74 l1 hi),Jai (oz81 hl l1 hi)]
 .refine ⟨((List.range vs.length).map λi=>Classical.choose (key i)).all id,.list hac (SqL.of ha) (SqL.of hc) (oz76 hl l1 l2) (by rw[Jab,Jav]) λj x y b f1 f2 f3=>?_,?_⟩
  .have hj:j<vs.length:=(Jaf.mp f1).1;rw[Jac,Ja4 hj] at f3;cases f3;refine Zcd (Jck (key j) hj) λv u x' y' e1 e2 e3 e91=>?_;refine Za2 e91 λe4 hq _=>?_;clear e91;rw[e1] at f1;rw[e2] at f2;cases f1;cases f2;exact hq
  .rw [List.all_map,Jay];constructor
   .intro hall;refine Jb4 λi=>?_;by_cases hi:i<vs.length
    .refine Zcd (Jck (key i) hi) λv u x y e1 e2 e3 e92=>?_;refine Za2 e92 λe4 hq hxy=>?_;clear e92;rw[e3,e4,hxy.mp (hall i (Jbk.mpr hi))]
    .rw [Jai (oz74 l1 hi),Jai (oz81 hl l1 hi)]
   .rintro rfl i hi;have hi:=Jbk.mp hi;refine Zcd (Jck (key i) hi) λv u x y e1 e2 e3 e93=>?_;refine Za2 e93 λe4 hq hxy=>?_;clear e93;rw[e3] at e4;cases e4;exact hxy.mpr rfl
theorem Zp3 {H:Hp}{p:Int}{v:V}{x y:Nv}(hx:Isn p x)(hy:Isn p y)(h:NumV H p v x)(h':NumV H p v y):x=y:=by
 by_cases hp:p=0
 .refine Zac (h.ref hp) λt e94 ht=>?_;obtain rfl:=e94;refine Zac (h'.ref hp) λt' e ht'=>?_;cases e;rw[ht] at ht';simp only[Option.some.injEq,HO.tup.injEq,List.cons.injEq,V.int.injEq,and_true] at ht';exact Jed ht'.1 ht'.2
 .obtain rfl:=h.int hp;have e:=h'.int hp;have e1:x.1=y.1:=by simpa using e
  rcases hx with ⟨h,_⟩|⟨_,_,_,h1⟩
  .exact absurd h hp
  .rcases hy with ⟨h,_⟩|⟨_,_,_,h2⟩
   .exact absurd h hp
   .exact Jed e1 (h1.trans h2.symm)
theorem num_eqB {H:Hp}{n:Nat}{p:Int}{v u:V}{x y:Nv}(hx:Isn p x)(hy:Isn p y)(h:NumV H p v x)(h':NumV H p u y):∃ b,EqD K H (n+1) v u b/\(b=true ↔ x=y):=by
 by_cases hp:p=0
 .refine Zac (h.ref hp) λt e95 ht=>?_;obtain rfl:=e95;refine Zac (h'.ref hp) λt' e96 ht'=>?_;obtain rfl:=e96;by_cases e:t=t'
  .subst e;exact⟨true,.same,λ_=>Zp3 hx hy h h',λ_=>rfl⟩
  .refine ⟨[decide (x.1=y.1),decide (x.2=y.2)].all id,.tuple e (SqT.of ht) (SqT.of ht') rfl rfl λj a b c f1 f2 f3=>?_,?_⟩
   .match j,f1,f2,f3 with
    | 0,f1,f2,f3=>cases f1;cases f2;cases f3;exact Zlx
    | 1,f1,f2,f3=>cases f1;cases f2;cases f3;exact Zlx
    | j+2,f1,_,_=>cases f1
   .simp only [Jdu,List.all_nil,id,Jds,Ja5,Ja0];exact⟨λz=>Jed z.1 z.2,λz=>by rw[z];exact⟨rfl,rfl⟩⟩
 .have e1:=h.int hp;have e2:=h'.int hp;subst e1;subst e2;refine⟨decide (x.1=y.1),Zlx,?_⟩;rw[Ja0];refine⟨λz=>?_,λz=>by rw[z]⟩;rcases hx with ⟨h,_⟩|⟨_,_,_,h1⟩
  .exact absurd h hp
  .rcases hy with ⟨h,_⟩|⟨_,_,_,h2⟩
   .exact absurd h hp
   .exact Jed z (h1.trans h2.symm)
theorem Zo8 {H:Hp}{p:Int}{a:Addr}{xs ys:List Nv}(hx:∀ x∈xs,Isn p x)(hy:∀ y∈ys,Isn p y)(h:RowV H p a xs)(h':RowV H p a ys):xs=ys:=by
 refine Zac h λvs h1 h2=>?_;clear h;refine Zac h' λus h3 h4=>?_;clear h';rw[h1] at h3;cases h3;have l1:=h2.1;have l2:=h4.1;refine Jb4 λi=>?_;by_cases hi:i<vs.length
 .have e1:=Jaa hi;have e3:=Jaa (show i<xs.length by omega);have e4:=Jaa (show i<ys.length by omega);rw[e3,e4,Zp3 (hx _ (Jae e3)) (hy _ (Jae e4)) (h2.2 i _ _ e1 e3) (h4.2 i _ _ e1 e4)]
 .rw [Jai ∅,Jai ∅]
theorem Zo9 {H:Hp}{n:Nat}{p:Int}{a c:Addr}{xs ys:List Nv}(hl:xs.length=ys.length)(hx:∀ x∈xs,Isn p x)(hy:∀ y∈ys,Isn p y)(h:RowV H p a xs)(h':RowV H p c ys):∃ b,EqD K H (n+2) (.ref a) (.ref c) b/\(b=true ↔ xs=ys):=by
 refine Zac h λvs h1 h2=>?_;clear h;refine Zac h' λus h3 h4=>?_;clear h';exact Zjf hl h1 h3 h2 h4 (λv x y m1 m2=>Zp3 (hx x m1) (hy y m2)) (λv u x y m1 m2=>num_eqB (hx x m1) (hy y m2))
theorem tab_eqB {H:Hp}{p:Int}{n wd:Nat}{t r t' r':Addr}{rs rs':List Addr}{M N:Mv}(mM:Mat p n wd M)(mN:Mat p n wd N)(h:TabV H p n wd t r rs M)(h':TabV H p n wd t' r' rs' N):∃ bs,Zdx K H 6 [.int n,.int wd,.ref r] [.int n,.int wd,.ref r'] bs/\(bs.all id=true ↔ M=N):=by
 obtain⟨b,hb,e⟩:=Zjf (K:=K) (H:=H) (n:=5) (R:=λv x=>∃ a,v=.ref a/\RowV H p a x) (mM.hl.trans mN.hl.symm) h.lst h'.lst (Zb2 h.row) (Zb2 h'.row)
  (λv x y m1 m2 ⟨a,ea,ha⟩ ⟨c,ec,hc⟩=>by subst ea;cases ec;exact Zo8 (mM.is x m1) (mN.is y m2) ha hc)
  (λv u x y m1 m2 ⟨a,ea,ha⟩ ⟨c,ec,hc⟩=>by subst ea;subst ec;exact Zo9 (n:=3) ((mM.hw x m1).trans (mN.hw y m2).symm) (mM.is x m1) (mN.is y m2) ha hc)
 refine⟨[true,true,b],⟨rfl,rfl,λj x y c f1 f2 f3=>?_⟩,?_⟩
 .match j,f1,f2,f3 with
  | 0,f1,f2,f3=>cases f1;cases f2;cases f3;exact Zfl
  | 1,f1,f2,f3=>cases f1;cases f2;cases f3;exact Zfl
  | 2,f1,f2,f3=>cases f1;cases f2;cases f3;exact hb
  | j+3,f1,_,_=>cases f1
 .rw [<- e];simp
end
end Pf
namespace Pf
open PySem L2 L3 PyProof.Rows
theorem Zrv {p:Int}(hp:GroundP p)(n:Nat):Mat p n n (Zg3 n):=by
 obtain⟨i0,i1⟩:=isn_01 hp;refine⟨by rw[Jab,Jav],λxs hx=>?_,λxs hx x hxx=>?_⟩
 .refine Zac (Jau.mp hx) λi _ e91=>?_;obtain rfl:=e91;rw[Jdr,Jbp]
 .refine Zac (Jau.mp hx) λi _ e92=>?_;obtain rfl:=e92;rcases List.mem_or_eq_of_mem_set hxx with h|h
  .rw [List.eq_of_mem_replicate h];exact i0
  .rw [h];exact i1
section
variable {p:Int}{k n:Nat}{M S R:Mv}{pl:List Nat}
end
end Pf
namespace Pf
open PySem L2 L3 PyProof.Rows
section
variable {C PL:Addr}
theorem TabB.tab {H:Hp}{p:Int}{k n wd:Nat}{t r:Addr}{rs:List Addr}{M:Mv}(h:TabB H p k n wd t r rs M)(hk:k<=1000000):Tab H p n wd t r rs:=by
 have hl:=h.tv.row.1;have h2:=h.hl;refine⟨h.tv.tup,h.tv.lst,∅,λa ha=>?_,h.tv.nin⟩;obtain⟨i,hi,rfl⟩:=Jan.mp ha;refine Zac (h.tv.row.at' (Jaa hi)) λxs ex e93=>?_;obtain⟨vs,hv,al⟩:=e93;have hx:=Jae ex;refine⟨vs,hv,by rw[al.1,h.hw xs hx],λv hvm=>?_⟩;obtain⟨j,hj,rfl⟩:=Jan.mp hvm;refine Zac (al.at' (Jaa hj)) λx e2 nv=>?_;refine Za2 (h.gd xs hx x (Jae e2)) λi1 b1 b2=>?_;exact⟨x,nv,i1,Zl6 b1 hk,Zl6 b2 hk⟩
def ChL (H:Hp)(p:Int)(k:Nat)(l:Addr)(ts:List Addr)(ns:List Int)(Cs:List Mv):Prop:=H l=some (.lst (ts.map V.ref))/\ts.length=ns.length/\∀ (i:Nat) t n,ts[i]?=some t->ns[i]?=some n->∃ r rs,TabB H p k n.toNat n.toNat t r rs (Cs.getD i [])
theorem ChL.same {H H':Hp}{p:Int}{k:Nat}{l:Addr}{ts:List Addr}{ns:List Int}{Cs:List Mv}(h:ChL H p k l ts ns Cs)(s:Same H H'):ChL H' p k l ts ns Cs:=⟨s _ _ h.1,h.2.1,λi t n e1 e2=>let ⟨r,rs,tb⟩:=h.2.2 i t n e1 e2;⟨r,rs,tb.same s⟩⟩
structure StA (S C G:Addr)(H:Hp)(x:Addr)(p m:Int)(ns:List Int)(dx g d z l lp:Addr)(xs:List V):Prop where
 ins:H x=some (.ins S dx (Zg8 g d z l))
 grd:GAt G H g p
 drw:Zd6 C H d m lp xs
 szs:Sizes H z ns
 hm:(ns.length:Int)=m
theorem StA.same {S G:Addr}{H H':Hp}{x:Addr}{p m:Int}{ns:List Int}{dx g d z l lp:Addr}{xs:List V}(h:StA S C G H x p m ns dx g d z l lp xs)(s:Same H H'):StA S C G H' x p m ns dx g d z l lp xs:=
 ⟨s _ _ h.ins,h.grd.same s,(let ⟨a,b,c⟩:=h.drw;⟨a,s _ _ b,s _ _ c⟩),h.szs.same s,h.hm⟩
def spAc (S C G:Addr):L2.Sp:=λvs H Q _=>∃ (x c dx g d z l lp:Addr) (p m:Int) (k:Nat) (xs:List V) (ns:List Int) (ts:List Addr) (Cs:List Mv),vs=[.ref x,.ref c]/\StA S C G H x p m ns dx g d z l lp xs/\GroundP p/\ChL H p k c ts ns Cs/\k<=1000000/\∀ H',Same H H'->Q (.bl true) H'
theorem ok_ac (F:Fun K "are_changes" "are_changes" Zdt f fd)(T:Txt K mg C G S)(Yan:Cal P w K mg base "is_table_of" 9 (spTo G)):FnOk P w K mg base CX0 10 f fd ["standing","thing"] (spAc S C G):=by
 have nd:=Zez.nd;refine F.ok Zez (λvs H Q E h=>?_) (λcdv A outer s H vs Q E hr h=>?_)
 .refine Zt9 h λx c dx g d z l lp p m k xs ns ts Cs e94 _=>?_;clear h;obtain rfl:=e94;rfl
 .refine Zt8 h λx c dx g d z l lp p m k xs ns ts Cs e95 st hp e96=>?_;clear h;obtain rfl:=e95;refine Za2 e96 λhc hk q=>?_;clear e96;refine⟨_,((@Za5 _ _ _ _ _ _ _ _ (PW.pt (Zcq (Za6 (Zbb (Za1 Zaw rfl T.n_isinstance Jbe ((pvr 1)<&>((Zes rfl T.n_list Jdv)<&>Zaa))))) (Zby (Zao Zd7 (Za1 Zam rfl T.n_len Jbb ((pvr 1)<&>Zaa)) (Zdh (Za8 (pvr 0) rfl) rfl) (Zaj _))))) (~~~Zct) Zak)<*>(~~~(Za1 (Zb9 rfl) rfl T.n_all Jee ((Zaz (own:=["size","table"]) (fr:=[("standing",0)]) rfl (Zbo (by kernel_rfl)) (Zmq rfl T.n_zip ((Zdh (pv 0) rfl)<&>((pv 1)<&>Zaa))) (λ_ _ _ _=>⟨(@Zc7 _ K rfl _ _ _ _ 2 rfl ((0<<<["size","table","standing"])^^^((1<<<["size","table","standing"])^^^(@Za3 _))) ⇑1 ⇑1),Zax,(Yan<$>hr<$>((Zpq K rfl (pv 2) rfl)<&>((pv 0)<&>((pv 0)<&>((pv 1)<&>Zaa)))))⟩))<&>Zaa)))),?_⟩;walk_at "wp";refine Zac st.drw λdd hd hlp=>?_;have hm:=st.hm;have hcl:=hc.2.1;refine Zat _ _ ⟨⟨rfl,rfl⟩,_,rfl,_,.lst hc.1,true,Zcu K,Zfd ⇑0 ⟨_,.inl (SqL.of hc.1),S,dx,_,st.ins,T.cl_Standing,T.nSd,_,Zdc ..,d,rfl,C,dd,_,hd,T.cl_Drawing,T.nM,_,Zfo m lp,rfl,Zfd ?_ ?_⟩⟩
  .rw [Jal (by rw[Jab];congr 1;omega)];decide
  .refine ⟨_,rfl,x,S,dx,_,_,rfl,st.ins,T.cl_Standing,T.nSs,Zgv ..,_,rfl,z,c,rfl,⟨_,SqL.of st.szs.1⟩,⟨_,SqL.of hc.1⟩,λD hD=>?_⟩;refine Zjl (k:=2) (xs:=ns.map V.int) (ys:=ts.map V.ref) (λi vs H'=>Same H H'/\H' D=some (.lst vs)/\vs=((List.range i).map λ_=>true).map V.bl) (by rw[Jab,Jab];exact oz121 hcl) ⟨Same.new hD,Zab,rfl⟩ (λi vs H' _ pv=>⟨SqL.of (pv.1 _ _ st.szs.1),SqL.of (pv.1 _ _ hc.1)⟩) ?_ ?_
   .intro i v y pz vs σ' H' hi hx hy hpz sh e91;refine Za2 e91 λs' e' e97=>?_;clear e91;obtain rfl:=e97;refine Zfe sh.two λz1 z2 e98=>?_;obtain rfl:=e98;rw[Jab] at hi;refine Zac (Zdw hx) λn hn e99=>?_;obtain rfl:=e99;have hti:ts[i]?=some (ts[i]'(Zgm hcl hi)):=Jaa (Zgm hcl hi);rw[Jac,hti] at hy;cases hy;refine Zfe (hc.2.2 i _ n hti hn) λr rs tb=>?_;have n0:=st.szs.2.2 n (Jae hn);have n8:=st.szs.2.1;have tb1:=tb.tab hk;rw[Jb9 n0.1] at tb1;have s0:=s'.trans (Same.new (o:=.tup [V.int n,V.ref (ts[i]'(Zgm hcl hi))]) hpz);have st0:=st.same s0;refine Zat pz _ ⟨rfl,SqT.of Zab,rfl,_,_,rfl,_,_,rfl,rfl,?_⟩;simp only[Zfv,List.set_cons_zero,List.set_cons_succ,Jcm];refine⟨_,rfl,x,S,dx,_,_,rfl,st0.ins,T.cl_Standing,T.nSg,Zea ..,_,rfl,_,rfl,_,rfl,g,_,r,p,n,n,rs,rfl,st0.grd,hp,tb1.same s0,n0.1,n0.2,n0.1,n0.2,λH'' s''=>?_⟩;have s1:=(Same.new (o:=.tup [V.int n,V.ref (ts[i]'(Zgm hcl hi))]) hpz).trans s'';exact Zlu (ws:=((List.range (i+1)).map λ_=>true).map V.bl) (by rw[Jab];exact hi) Sh.mk2 (s1 _ _ e') (Zap (by rw[Jab,Jab,Jav];exact oz80 hi n8)) ⟨(s'.trans s1).upd hD,by rw[Zab,Jcs,Jaz,Jaz];rfl,rfl⟩
   .intro vs H' e92;refine Za2 e92 λs' e' e910=>?_;clear e92;obtain rfl:=e910;exact⟨D,rfl,_,SqL.of e',by rw[Zep];exact q H' s'⟩
end
end Pf
namespace Pf
open PySem L2 PyProof.Rows
section
variable {C G S:Addr}
end
end Pf
namespace Pf
open PySem L2 L3 PyProof.Rows
section
variable {C PL:Addr}
abbrev Tc:=Int×Int×List (List V)
def nz (ns:List Int)(i:Int):Nat:=(ns.getD i.toNat 0).toNat
theorem Zns {H:Hp}{z:Addr}{ns:List Int}(h:Sizes H z ns)(i:Int):nz ns i<=24/\((nz ns i:Nat):Int)=ns.getD i.toNat 0:=by
 unfold nz;by_cases q:i.toNat<ns.length
 .have:=h.2.2 _ (Zbt (d:=0) q);exact oz79 this
 .rw [Jad,Jai ∅];exact⟨⇑0,rfl⟩
def TbL (H:Hp)(p:Int)(k:Nat)(l:Addr)(ts:List Addr)(ps:List (Int×Int))(ns:List Int)(Ms:List Mv):Prop:=H l=some (.lst (ts.map V.ref))/\ts.length=ps.length/\∀ (i:Nat) t q,ts[i]?=some t->ps[i]?=some q->∃ r rs,TabB H p k (nz ns q.2) (nz ns q.1) t r rs (Ms.getD i [])
structure StB (H0:Hp)(S C G:Addr)(H:Hp)(x:Addr)(p m:Int)(ps:List (Int×Int))(ns:List Int)(k:Nat)(Ms:List Mv)(dx g d z l lp:Addr)(xs:List V)(ts:List Addr):Prop where
 sa:StA S C G H x p m ns dx g d z l lp xs
 prs:Prs H xs ps
 lst:H l=some (.lst (ts.map V.ref))
 len:ts.length=ps.length
 tbs:∀ (i:Nat) t q,ts[i]?=some t->ps[i]?=some q->∃ r rs,TabB H p k (nz ns q.2) (nz ns q.1) t r rs (Ms.getD i [])/\New H0 t r rs
 nz:H0 z=none
 nl:H0 l=none
theorem StB.same {H0:Hp}{S G:Addr}{H H':Hp}{x:Addr}{p m:Int}{ps:List (Int×Int)}{ns:List Int}{k:Nat}{Ms:List Mv}{dx g d z l lp:Addr}{xs:List V}{ts:List Addr}(h:StB H0 S C G H x p m ps ns k Ms dx g d z l lp xs ts)(s:Same H H'):StB H0 S C G H' x p m ps ns k Ms dx g d z l lp xs ts:=
 ⟨h.sa.same s,h.prs.same s,s _ _ h.lst,h.len,λi t q e1 e2=>let ⟨r,rs,tb,nw⟩:=h.tbs i t q e1 e2;⟨r,rs,tb.same s,nw⟩,h.nz,h.nl⟩
theorem tabB_of {H H':Hp}{p:Int}{k n wd:Nat}{t r t' r':Addr}{rs rs':List Addr}{M:Mv}{MV:List (List V)}(tb:TabB H p k n wd t r rs M)(tc:TabC H p n wd t r rs MV)(s:Same H H')(tc':TabC H' p n wd t' r' rs' MV):TabB H' p k n wd t' r' rs' M:=by
 have l1:=tc.tab.len;have l2:=tc'.tab.len;have l3:=tb.tv.row.1;refine⟨⟨tc'.tab.tup,tc'.tab.lst,⟨oz168 l1 l2 l3,λi a xs e1 e2=>?_⟩,tc'.tab.nin⟩,tb.hl,tb.hw,tb.gd⟩;have hi:=(Jaf.mp e2).1;refine Zac (tb.tv.row.at (i:=i) e2) λb eb e91=>?_;obtain⟨vs,hv,al⟩:=e91;have h1:=tc.con i b eb;rw[hv] at h1;have e3:vs=MV.getD i []:=by cases h1;rfl
 refine⟨MV.getD i [],tc'.con i a e1,?_⟩;rw[<- e3];exact al.mono λ_ _ q=>q.same s
theorem Zoo {S G:Addr}{H:Hp}{x dx g d z l lp:Addr}{p m:Int}{k:Nat}{xs:List V}{ps:List (Int×Int)}{ns:List Int}{ts:List Addr}{Ms:List Mv}{Q:VK}{E:XK}(hx:H x=none)(hdx:H dx=none)(ndx:dx≠x)(hg:GAt G H g p)(hp:GroundP p)(hd:Zd6 C H d m lp xs)(pr:Prs H xs ps)(ip:InP m ps)(p9:ps.length<=9)(hz:Sizes H z ns)(hm:(ns.length:Int)=m)(hT:TbL H p k l ts ps ns Ms)(hk:k<=1000000)(q:∀ (dx z' l':Addr) (ts':List Addr) (H':Hp),Same H H'->StB H S C G H' x p m ps ns k Ms dx g d z' l' lp xs ts'->Q .non H'):spSI S C G [.ref x,.ref g,.ref d,.ref z,.ref l] (upd (upd H dx (.own x)) x (.ins S dx [])) Q E:=by
 have fx:(upd H dx (.own x)) x=none:=by rw[Zah ndx.symm];exact hx
 have sx:Same H (upd (upd H dx (.own x)) x (.ins S dx [])):=(Same.new hdx).trans (Same.new fx);refine Zac hd λdd hd1 hd2=>?_;clear hd;have hl:=hT.2.1;obtain⟨cs,hcs⟩:=All2.pick (xs:=List.range ps.length) (P:=λi (c:Tc)=>∃ (t r:Addr) (rs:List Addr) (qq:Int×Int),ts[i]?=some t/\ps[i]?=some qq/\TabB H p k (nz ns qq.2) (nz ns qq.1) t r rs (Ms.getD i [])/\c.1=(nz ns qq.2:Nat)/\c.2.1=(nz ns qq.1:Nat)/\TabC H p c.1 c.2.1 t r rs c.2.2) λi hi=>by
  have hi:=Jbk.mp hi;have e1:ts[i]?=some (ts[i]'(Zgm hl hi)):=Jaa _;have e2:ps[i]?=some ps[i]:=Jaa hi;refine Zfe (hT.2.2 i _ _ e1 e2) λr rs tb=>?_;obtain⟨MV,tc⟩:=(tb.tab hk).toC;exact Zix (_,_,MV) _ r rs _ ⟨e1,e2,tb,rfl,rfl,tc⟩
 have cl:cs.length=ps.length:=by have:=hcs.1;rw[Jav] at this;exact oz27 this
 have at1:∀ (i:Nat) c,cs[i]?=some c->∃ (t r:Addr) (rs:List Addr) (qq:Int×Int),ts[i]?=some t/\ps[i]?=some qq/\TabB H p k (nz ns qq.2) (nz ns qq.1) t r rs (Ms.getD i [])/\c.1=(nz ns qq.2:Nat)/\c.2.1=(nz ns qq.1:Nat)/\TabC H p c.1 c.2.1 t r rs c.2.2:=λi c e=>by
  refine Zac (hcs.at (i:=i) e) λj ej h=>?_;have hi:=(Jaf.mp e).1;rw[Ja4 (oz4 cl hi)] at ej;cases ej;exact h
 have tbs:Tbs H p l ts cs:=by
  refine⟨hT.1,∅,∅,λi t c e1 e2=>?_⟩;refine Zcd (at1 i c e2) λt' r rs qq f1 f2 tb e92=>?_;refine Za2 e92 λc1 c2 tc=>?_;clear e92;rw[e1] at f1;cases f1;have n1:=Zns hz qq.1;have n2:=Zns hz qq.2;exact⟨⟨r,rs,tc⟩,oz62 c1,oz70 c1 n2,oz62 c2,oz70 c2 n1⟩
 have ft:Fits ns cs ps:=⟨cl,λi c qq e1 e2=>by
  refine Zcd (at1 i c e1) λt' r rs q' f1 f2 tb e93=>?_;refine Za2 e93 λc1 c2 tc=>?_;clear e93;rw[e2] at f2;cases f2;rw[c1,c2,(Zns hz qq.1).2,(Zns hz qq.2).2];exact⟨rfl,rfl⟩⟩
 refine xI14_1 x dx g d z l lp p m xs ps ns ts cs ⟨rfl,Zab,hg.same sx,hp,⟨dd,sx _ _ hd1,sx _ _ hd2⟩,pr.same sx,ip,p9,hz.same sx,hm,tbs.same sx,ft,λz' l' ts' H' ex hx' fz fl' hz' hl' hn' ht'=>?_⟩;have sH:Same H H':=Same.thru sx hx ex;refine q dx z' l' ts' H' sH ⟨⟨hx',hg.same sH,⟨dd,sH _ _ hd1,sH _ _ hd2⟩,hz',hm⟩,pr.same sH,hl',∅,λi t qq e1 e2=>?_,sx.free fz,sx.free fl'⟩;have hi:=(Jaf.mp e1).1;have ec:cs[i]?=some (cs[i]'(by omega)):=Jaa _;refine Zcd (at1 i _ ec) λt' r rs q' f1 f2 tb e94=>?_;refine Za2 e94 λc1 c2 tc=>?_;clear e94;rw[e2] at f2;cases f2;refine Zgs (ht' i t _ e1 ec) λr' rs' tc' ft' fr' fs'=>?_;rw[c1,c2] at tc tc';exact Zat r' rs' ⟨tabB_of tb tc sH tc',sx.free ft',sx.free fr',λa ha=>sx.free (fs' a ha)⟩
theorem TabB.put {H:Hp}{D:Addr}{l:List V}{o:HO}{p:Int}{k n wd:Nat}{t r:Addr}{rs:List Addr}{M:Mv}(h:TabB H p k n wd t r rs M)(hD:H D=some (.lst l))(nr:r≠D)(ns:D∉rs):TabB (upd H D o) p k n wd t r rs M:=⟨h.tv.put hD nr ns,h.hl,h.hw,h.gd⟩
theorem Ztz {wi:TI}{g:TG}{tb:TS}{D:Ends}{σ:L2.St}{H:Hp}(h:∀ tb',tb'=tb->tFor wi g tb' D σ H):tFor wi g tb D σ H:=h tb rfl
def chM (p:Int)(ns:List Int)(ps:List (Int×Int))(Bs Ms Cs:List Mv)(i:Nat):Mv:=Zb3 p (Bs.getD (ps.getD i (0,0)).2.toNat []) (Zb3 p (Ms.getD i []) (Cs.getD (ps.getD i (0,0)).1.toNat []) (nz ns (ps.getD i (0,0)).1)) (nz ns (ps.getD i (0,0)).1)
end
end Pf
namespace Pf
open PySem L2 PyProof.Rows
section
variable {C G S:Addr}
theorem Zqn {H:Hp}{n:Nat}(i j:Int):EqD K H n (.int i) (.int j) (decide (i=j)):=by
 have:=EqD.flat (K:=K) (H:=H) (n:=n) (x:=.int i) (y:=.int j) rfl rfl;rwa [show eqV (.int i) (.int j)=decide (i=j) by simp only[eqV];rw[Jbr];simp] at this
theorem Zsl {H:Hp}{n:Nat}{t u:Addr}{q r:Int×Int}(ht:H t=some (.tup [.int q.1,.int q.2]))(hu:H u=some (.tup [.int r.1,.int r.2])):EqD K H (n+1) (.ref t) (.ref u) (decide (q=r)):=by
 by_cases h:t=u
 .subst h;rw[ht] at hu;have:q=r:=by
   injection hu with hu
   injection hu with hu
   injection hu with a b
   injection b with b c
   injection a with a
   injection b with b
   exact Jed a b
  rw[Jal this];exact .same
 .have:=EqD.tuple (n:=n) (bs:=[decide (q.1=r.1),decide (q.2=r.2)]) h (SqT.of (K:=K) ht) (SqT.of hu) rfl rfl λj x y b e1 e2 e3=>by
   match j,e1,e2,e3 with
   | 0,e1,e2,e3=>cases e1;cases e2;cases e3;exact Zqn _ _
   | 1,e1,e2,e3=>cases e1;cases e2;cases e3;exact Zqn _ _
   | j+2,e1,_,_=>cases e1
  have e:[decide (q.1=r.1),decide (q.2=r.2)].all id=decide (q=r):=by
   simp only[Jdu,List.all_nil,id,Jds];rw[<- Bool.decide_and];exact decide_eq_decide.mpr ⟨λ⟨a,b⟩=>Jed a b,λh=>h ▸ ⟨rfl,rfl⟩⟩
  rwa [e] at this
theorem Zri {α:Type}[DecidableEq α]:∀ {xs ys:List α},xs.length=ys.length->(List.zipWith (λa b=>decide (a=b)) xs ys).all id=decide (xs=ys)
 | [],[],_=>rfl
 | x::xs,y::ys,h=>by
  have ih:=Zri (xs:=xs) (ys:=ys) (by simpa using h);rw[List.zipWith_cons_cons,Jdu,ih];simp only[id];rw[<- Bool.decide_and];exact decide_eq_decide.mpr ⟨λ⟨a,b⟩=>by rw[a,b],λh=>by injection h with a b;exact⟨a,b⟩⟩
 | [],_::_,h=>by simp at h
 | _::_,[],h=>by simp at h
theorem prs_eqB {H:Hp}{xs ys:List V}{ps qs:List (Int×Int)}(h:Prs H xs ps)(h':Prs H ys qs)(hl:ps.length=qs.length):Zdx K H 6 xs ys (List.zipWith (λa b=>decide (a=b)) ps qs):=by
 have l1:=h.1;have l2:=h'.1;refine⟨oz76 hl l1 l2,by rw[Jcw];exact oz42 hl l1,λj x y b e1 e2 e3=>?_⟩;have j1:j<ps.length:=by have:=(Jaf.mp e1).1;exact oz4 l1 this
 refine Zac (h.2 j x _ e1 (Jaa j1)) λt e91 ht=>?_;obtain rfl:=e91;refine Zac (h'.2 j y _ e2 (Jaa (oz4 hl j1))) λu e92 hu=>?_;obtain rfl:=e92;rw[List.getElem?_zipWith,Jaa j1,Jaa (show j<qs.length by exact oz4 hl j1)] at e3;cases e3;exact Zsl ht hu
def spOn (S C G:Addr):Sp:=λvs H Q _=>∃ (x dx g d z l g' d' lp lp':Addr) (p p' m m':Int) (xs ys:List V) (ps qs:List (Int×Int)),vs=[.ref x,.ref g',.ref d']/\H x=some (.ins S dx (Zg8 g d z l))/\GAt G H g p/\GAt G H g' p'/\Zd6 C H d m lp xs/\Zd6 C H d' m' lp' ys/\Prs H xs ps/\Prs H ys qs/\Q (.bl (decide (p=p'/\m=m'/\ps=qs))) H
theorem ok_on (F:Fun K "stands_on" "stands_on" Ze4 f fd)(T:Txt K mg C G S):FnOk P w K mg base CX0 1 f fd ["standing","ground","drawing"] (spOn S C G):=by
 have nd:=Zgc.nd;refine F.ok Zgc (λvs H Q E h=>?_) (λcdv A outer s H vs Q E hr h=>?_)
 .refine xE18_2 h λx dx g d z l g' d' lp lp' p p' m m' xs ys ps qs e93 _=>?_;clear h;obtain rfl:=e93;rfl
 .refine xE18_4 h λx dx g d z l g' d' lp lp' p p' m m' xs ys ps qs e94 hx e95 e96=>?_;clear h;obtain rfl:=e94;obtain⟨dg,hg⟩:=e95;refine Zfx e96 λe97 e98 e99 pr pr' q=>?_;clear e96;obtain⟨dg',hg'⟩:=e97;obtain⟨dd,hd,hlp⟩:=e98;obtain⟨dd',hd',hlp'⟩:=e99;refine⟨_,((@Za5 _ _ _ _ _ _ _ _ (PW.pt (Zcq (Zao Zd7 (Zdh (Za8 (pvr 0) rfl) rfl) (Za8 (pvr 1) rfl) (Zaj _)) (Zby (Zao Zd7 (Zdh (Za8 (pvr 0) rfl) rfl) (Za8 (pvr 2) rfl) (Zaj _))))) (~~~Zct) Zak)<*>(~~~(Zbr (op_eqL (Zh8 hr)) (Zdh (Za8 (pvr 0) rfl) rfl) (Za8 (pvr 2) rfl) (Zaj _)))),?_⟩;walk_at "wp";refine Zb4 S dx _ ⟨hx,T.cl_Standing,T.nSg,_,Zea ..,g,rfl,G,dg,_,hg,T.cl_Ground,T.nP,_,Zbq p,G,dg',_,hg',T.cl_Ground,T.nP,_,Zbq p',rfl,Zdm (λhc=>?_) (λhc=>?_)⟩
  .have:¬ p=p':=by simpa using hc
   rw[Ja3 (λh=>this h.1)] at q;exact q
  .have e1:p=p':=by simpa using hc
   refine Zb4 S dx _ ⟨hx,T.cl_Standing,T.nSd,_,Zdc ..,d,rfl,C,dd,_,hd,T.cl_Drawing,T.nM,_,Zfo m lp,C,dd',_,hd',T.cl_Drawing,T.nM,_,Zfo m' lp',rfl,Zdm (λhc=>?_) (λhc=>?_)⟩
   .have:¬ m=m':=by simpa using hc
    rw[Ja3 (λh=>this h.2.1)] at q;exact q
   .have e2:m=m':=by simpa using hc
    refine Zb4 S dx _ ⟨hx,T.cl_Standing,T.nSd,_,Zdc ..,d,rfl,C,dd,_,hd,T.cl_Drawing,T.nA,_,Zcx m lp,C,dd',_,hd',T.cl_Drawing,T.nA,_,Zcx m' lp',?_⟩;by_cases hl:ps.length=qs.length
    .refine ⟨lp,rfl,lp',rfl,_,SqL.of hlp,_,SqL.of hlp',.inr ⟨_,prs_eqB pr pr' hl,?_⟩⟩;rw[Zri hl];have:decide (p=p'/\m=m'/\ps=qs)=decide (ps=qs):=decide_eq_decide.mpr ⟨λh=>h.2.2,λh=>⟨e1,e2,h⟩⟩;rw[this] at q;exact q
    .refine ⟨lp,rfl,lp',rfl,_,SqL.of hlp,_,SqL.of hlp',.inl ⟨by rw[pr.1,pr'.1];exact hl,?_⟩⟩;rw[Ja3 (λh=>hl (by rw[h.2.2]))] at q;exact q
end
end Pf
namespace Pf
open PySem L2 L3 PyProof.Rows
section
variable {C PL:Addr}
def spBsd (S C G:Addr):L2.Sp:=λvs H Q _=>∃ (x dx g d z l lp y dy g' d' z' l' lp':Addr) (p m:Int) (xs ys:List V) (ps:List (Int×Int)) (ns ns':List Int),vs=[.ref x,.ref y]/\StA S C G H x p m ns dx g d z l lp xs/\Prs H xs ps/\StA S C G H y p m ns' dy g' d' z' l' lp' ys/\Prs H ys ps/\∀ H',Same H H'->Q (.bl true) H'
theorem ok_bsd (F:Fun K "is_beside" "is_beside" Ze9 f fd)(T:Txt K mg C G S)(Ybl:Cal P w K mg base "stands_on" 1 (spOn S C G)):FnOk P w K mg base CX0 2 f fd ["standing","thing"] (spBsd S C G):=by
 have nd:=Zgh.nd;refine F.ok Zgh (λvs H Q E h=>?_) (λcdv A outer s H vs Q E hr h=>?_)
 .obtain ⟨x,dx,g,d,z,l,lp,y,dy,g',d',z',l',lp',p,m,xs,ys,ps,ns,ns',rfl,_⟩:=h;rfl
 .obtain ⟨x,dx,g,d,z,l,lp,y,dy,g',d',z',l',lp',p,m,xs,ys,ps,ns,ns',rfl,sx,px,sy,py,q⟩:=h;refine⟨_,(~~~(Zei (Za1 Zaw rfl T.n_isinstance Jbe ((pvr 1)<&>((Zpp (v:=.ref S) rfl T.g_Standing rfl)<&>Zaa))) (Zeh (Ybl<$>hr<$>((pvr 1)<&>((Za8 (pvr 0) rfl)<&>((Za8 (pvr 0) rfl)<&>Zaa))))))),?_⟩;walk_at "wp";refine Zat _ _ ⟨⟨rfl,rfl⟩,_,rfl,_,.ins sy.ins T.cl_Standing T.ic1 T.ic2 T.ic3 T.ic4,_,k_own K S,iteT ?_⟩;refine Zb4 S dx _ ⟨sx.ins,T.cl_Standing,T.nSg,_,Zea ..,S,dx,_,sx.ins,T.cl_Standing,T.nSd,_,Zdc ..,y,dy,g',d',z',l',g,d,lp',lp,p,p,m,m,ys,xs,ps,ps,rfl,sy.ins,sy.grd,sx.grd,sy.drw,sx.drw,py,px,?_⟩;rw[Jal ⟨rfl,rfl,rfl⟩];exact q H (Same.refl _)
theorem sh3 {cap σ:L2.St}(h:Sh 3 cap σ):∃ a b c,σ=a::b::c::cap:=by
 refine Zac h λo ol e93=>?_;clear h;obtain rfl:=e93
 match o,ol with
 | [a,b,c],_=>exact⟨a,b,c,rfl⟩
theorem sh3m {cap:L2.St}{a b c:Option V}:Sh 3 cap (a::b::c::cap):=⟨[a,b,c],rfl,rfl⟩
theorem Zu3 {bs:List Bool}:bs.all id=true ↔ ∀ (j:Nat) c,bs[j]?=some c->c=true:=by
 rw[Jay];refine⟨λh j c e=>h c (Jae e),λh c m=>?_⟩;obtain⟨j,hj,rfl⟩:=Jan.mp m;exact h j _ (Jaa hj)
theorem TabB.mat {H:Hp}{p:Int}{k n wd:Nat}{t r:Addr}{rs:List Addr}{M:Mv}(h:TabB H p k n wd t r rs M):Mat p n wd M:=⟨h.hl,h.hw,λxs hx x hxx=>(h.gd xs hx x hxx).1⟩
theorem nb25 {n k k2:Nat}(hn:n<=24)(hk:k<=100000)(h2:k2<=1500000):(n+1)*k+(n+1)*k2+5<=NB:=Jbi (Nat.add_le_add_right (Nat.add_le_add (Jco (show n+1<=25 by omega) hk) (Jco (show n+1<=25 by omega) h2)) 5) ⇑0
theorem Zg5 {H:Hp}{p:Int}{k n wd k':Nat}{t r t' r':Addr}{rs rs':List Addr}{M N:Mv}(h:TabB H p k n wd t r rs M)(mN:Mat p n wd N)(h':TabV H p n wd t' r' rs' N):∃ bs,Zdx K H 6 [.int n,.int wd,.ref r] [.int n,.int wd,.ref r'] bs/\(bs.all id=true ↔ M=N):=tab_eqB h.mat mN h.tv h'
def Zu6 (p:Int)(ns:List Int)(Cs Bs:List Mv):Prop:=∀ (i:Nat) n,ns[i]?=some n->Zb3 p (Cs.getD i []) (Bs.getD i []) n.toNat=Zg3 n.toNat
def spBks (S C G:Addr):L2.Sp:=λvs H Q _=>∃ (x c b dx g d z l lp:Addr) (p m:Int) (k k2:Nat) (xs:List V) (ns:List Int) (cts bts:List Addr) (Cs Bs:List Mv),vs=[.ref x,.ref c,.ref b]/\StA S C G H x p m ns dx g d z l lp xs/\GroundP p/\ChL H p k c cts ns Cs/\ChL H p k2 b bts ns Bs/\1<=k/\k<=50000/\1<=k2/\k2<=50000/\∀ (t:Bool) H',Same H H'->(t=true ↔ Zu6 p ns Cs Bs)->Q (.bl t) H'
theorem ok_bks (F:Fun K "are_backs" "are_backs" Zfb f fd)(T:Txt K mg C G S)(Yas:Cal P w K mg base "are_changes" 10 (spAc S C G))(Yak:Cal P w K mg base "product" 8 (Zmc G))(Ybb:Cal P w K mg base "plain" 8 (spPl G)):FnOk P w K mg base CX0 11 f fd ["standing","changes","backs"] (spBks S C G):=by
 have nd:=Zgj.nd;refine F.ok Zgj (λvs H Q E h=>?_) (λcdv A outer s H vs Q E hr h=>?_)
 .refine xE19_2 h λx c b dx g d z l lp p m k k2 xs ns cts bts Cs Bs e94 _=>?_;clear h;obtain rfl:=e94;rfl
 .refine xE19_4 h λx c b dx g d z l lp p m k k2 xs ns cts bts Cs Bs e95 st hp e96=>?_;clear h;obtain rfl:=e95;refine xE0_7 e96 λhc hb k1 km k21 k2m q=>?_;clear e96;refine⟨_,((@Za5 _ _ _ _ _ _ _ _ (PW.pt (Zcq (Za6 (Zbb (Yas<$>hr<$>((pvr 0)<&>((pvr 1)<&>Zaa))))) (Zby (Za6 (Zbb (Yas<$>hr<$>((pvr 0)<&>((pvr 2)<&>Zaa)))))))) (~~~Zct) Zak)<*>((Zar (i:=3) nd rfl (Or.inr rfl) (Za8 (pvr 0) rfl))<*>(~~~(Za1 (Zb9 rfl) rfl T.n_all Jee ((Zaz (own:=["change","back","size"]) (fr:=[("ground",3)]) rfl (Zbo (by kernel_rfl)) (pi_z3 rfl T.n_zip ((pv 1)<&>((pv 2)<&>((Zdh (pv 0) rfl)<&>Zaa)))) (λ_ _ _ _=>⟨(@Zc7 _ K rfl _ _ _ _ 3 rfl ((0<<<["change","back","size","ground"])^^^((1<<<["change","back","size","ground"])^^^((2<<<["change","back","size","ground"])^^^(@Za3 _)))) ⇑1 ⇑1),Zax,(Zbr (Zlm K rfl (Zh8 hr)) (Yak<$>hr<$>((pv 3)<&>((pv 0)<&>((pv 1)<&>Zaa)))) (Ybb<$>hr<$>((pv 3)<&>((pv 2)<&>Zaa))) (Zaj _))⟩))<&>Zaa))))),?_⟩;walk_at "wp";refine Zn9 x c dx g d z l lp p m k xs ns cts Cs ⟨rfl,st,hp,hc,∅,λH1 s1=>⟨true,rfl,Zfd ⇑0 ⟨x,b,dx,g,d,z,l,lp,p,m,k2,xs,ns,bts,Bs,rfl,st.same s1,hp,hb.same s1,∅,λH2 s2=>⟨true,rfl,Zfd ⇑0 ?_⟩⟩⟩⟩;have s02:=s1.trans s2;have st2:=st.same s02;have hc2:=hc.same s02;have hb2:=hb.same s02;have cl:=hc.2.1;have bl:=hb.2.1;refine Zb4 S dx _ ⟨st2.ins,T.cl_Standing,T.nSg,_,Zea ..,_,rfl,_,rfl,_,rfl,x,S,dx,_,_,rfl,st2.ins,T.cl_Standing,T.nSs,Zgv ..,c,b,z,rfl,⟨_,SqL.of hc2.1⟩,⟨_,SqL.of hb2.1⟩,⟨_,SqL.of st2.szs.1⟩,λD hD=>?_⟩;refine Znb (k:=3) (xs:=cts.map V.ref) (ys:=bts.map V.ref) (ws:=ns.map V.int) (λi vs H'=>Same H2 H'/\∃ bs:List Bool,vs=bs.map V.bl/\H' D=some (.lst vs)/\bs.length=i/\∀ (j:Nat) c n,bs[j]?=some c->ns[j]?=some n->(c=true ↔ Zb3 p (Cs.getD j []) (Bs.getD j []) n.toNat=Zg3 n.toNat)) (by rw[Jab,Jab];exact oz17 cl bl) (by rw[Jab,Jab];exact oz27 cl) ⟨Same.new hD,[],rfl,Zab,rfl,λj c n e=>by simp at e⟩ (λi vs H' _ pv=>⟨SqL.of (pv.1 _ _ hc2.1),SqL.of (pv.1 _ _ hb2.1),SqL.of (pv.1 _ _ st2.szs.1)⟩) ?_ ?_
  .intro i v1 v2 v3 pz vs σ' H' hi h1 h2 h3 hpz sh e91;obtain⟨s',bs,rfl,e',bsl,hbs⟩:=e91;refine xE3_1 (sh3 sh) λz1 z2 z3 e97=>?_;obtain rfl:=e97;rw[Jab] at hi;have hct:cts[i]?=some (cts[i]'(oz25 hi)):=Jaa _;have hbt:bts[i]?=some (bts[i]'(oz5 cl bl hi)):=Jaa _;rw[Jac,hct] at h1;cases h1;rw[Jac,hbt] at h2;cases h2;generalize cts[i]'(oz25 hi)=ct at *;generalize bts[i]'(oz5 cl bl hi)=bt at *;refine Zac (Zdw h3) λn hn e98=>?_;obtain rfl:=e98;refine Zfe (hc2.2.2 i ct n hct hn) λrC rsC tbC=>?_;refine Zfe (hb2.2.2 i bt n hbt hn) λrB rsB tbB=>?_;have n0:=st.szs.2.2 n (Jae hn);have s0:=s'.trans (Same.new (o:=.tup [V.ref ct,V.ref bt,V.int n]) hpz);have e0:=(Same.new (o:=.tup [V.ref ct,V.ref bt,V.int n]) hpz) _ _ e';refine Zat pz _ ⟨rfl,SqT.of Zab,rfl,_,_,rfl,_,_,rfl,_,_,rfl,rfl,?_⟩;simp only[Zfv,List.set_cons_zero,List.set_cons_succ,Jcm];have pz3:(upd H' pz (.tup [V.ref ct,V.ref bt,V.int n])) pz=some (.tup [V.ref ct,V.ref bt,V.int n]):=Zab;generalize upd H' pz (.tup [V.ref ct,V.ref bt,V.int n])=H3 at *;have s3:=(s02.trans s0)
   have nn:=Jb9 n0.1;have g3:=st.grd.same s3;have mU:=Zrv hp n.toNat;refine⟨_,rfl,_,rfl,_,rfl,g,ct,rC,bt,rB,rsC,rsB,p,n.toNat,n.toNat,n.toNat,k,k2,_,_,rfl,g3,hp,tbC.same s0,tbB.same s0,oz58 n0,oz58 n0,oz58 n0,k1,k21,nb25 (oz58 n0) ∅ ∅,λt r rs H4 s4 nw tb4=>⟨_,rfl,_,rfl,g,p,n,rfl,g3.same s4,hp,n0.1,n0.2,λt2 r2 rs2 H5 s5 nw5 tv5=>?_⟩⟩;rw[<- nn] at tv5;rw[Jbu] at tv5;refine Zac (Zg5 (K:=K) (k':=0) (tb4.same s5) mU tv5) λcs hcs ecs=>?_;have e5:=s5 _ _ (s4 _ _ e0);refine Zix t t2 _ _ cs ⟨rfl,rfl,SqT.of (tb4.same s5).tv.tup,SqT.of tv5.tup,hcs,Zlu (ws:=(bs++[cs.all id]).map V.bl) (by rw[Jab];exact hi) sh3m e5 (Zap (by rw[Jab];have:=st.szs.2.1;have:=(Jaf.mp hn).1;omega)) ⟨((s0.trans s4).trans s5).upd hD,bs++[cs.all id],rfl,by rw[Zab,Jaz];rfl,by rw[Jam,bsl];rfl,λj c n' f1 f2=>?_⟩⟩;by_cases hj:j<bs.length
   .rw [Jax hj] at f1;exact hbs j c n' f1 f2
   .have hj2:j=bs.length:=by
     have:=(Jaf.mp f1).1;rw[Jam] at this;have:j<bs.length+1:=this;exact oz24 hj this
    subst hj2;rw[Jaw (Jah _),Nat.sub_self] at f1;cases f1;rw[bsl,hn] at f2;cases f2;rw[bsl];exact ecs
  .intro vs H' e92;obtain⟨s',bs,rfl,e',bsl,hbs⟩:=e92;rw[Jab] at bsl;refine⟨D,rfl,bs,SqL.of e',q (bs.all id) H' (s02.trans s') ?_⟩;rw[Zu3];refine⟨λh i n hn=>?_,λh j c e=>?_⟩
   .have hi:=(Jaf.mp hn).1;have ei:bs[i]?=some (bs[i]'(oz33 cl bsl hi)):=Jaa _;exact (hbs i _ n ei hn).mp (h i _ ei)
   .have hj:=(Jaf.mp e).1;have ej:ns[j]?=some (ns[j]'(oz10 cl bsl hj)):=Jaa _;exact (hbs j c _ e ej).mpr (h j _ ej)
theorem Zqm {H:Hp}{ns:List Int}:Zdx K H 6 (ns.map V.int) (ns.map V.int) (List.replicate ns.length true):=⟨by simp,by simp,λj x y c e1 e2 e3=>by
 rw[e1] at e2;cases e2;rw[Jac] at e1;have hc:=List.eq_of_mem_replicate (Jae e3);subst hc;cases f1:ns[j]? with
 | none=>rw[f1] at e1;cases e1
 | some t=>rw[f1] at e1;cases e1;exact Zfl⟩
theorem sh4 {cap σ:L2.St}(h:Sh 4 cap σ):∃ a b c d,σ=a::b::c::d::cap:=by
 refine Zac h λo ol e93=>?_;clear h;obtain rfl:=e93
 match o,ol with
 | [a,b,c,d],_=>exact⟨a,b,c,d,rfl⟩
theorem sh4m {cap:L2.St}{a b c d:Option V}:Sh 4 cap (a::b::c::d::cap):=⟨[a,b,c,d],rfl,rfl⟩
theorem k1_le {n a b:Nat}(hn:n<=24)(ha:a<=10000)(hb:b<=50000):7+n*(a+b+8)<=1500000:=Jbi (Nat.add_le_add_left (Jco hn (show a+b+8<=60008 by omega)) 7) ⇑0
def LedOK (p:Int)(ns:List Int)(ps:List (Int×Int))(Ms Cs Bs Ms':List Mv):Prop:=Zu6 p ns Cs Bs/\∀ i,i<ps.length->chM p ns ps Bs Ms Cs i=Ms'.getD i []
def Zmd (S C G:Addr):L2.Sp:=λvs H Q _=>∃ (H0 H0':Hp) (x c b dx g d z l lp y dy g' d' z' l' lp':Addr) (p m:Int) (k k2 kt kt':Nat) (xs ys:List V) (ps:List (Int×Int)) (ns:List Int) (ts ts' cts bts:List Addr) (Ms Ms' Cs Bs:List Mv),vs=[.ref x,.ref y,.ref c,.ref b]/\StB H0 S C G H x p m ps ns kt Ms dx g d z l lp xs ts/\StB H0' S C G H y p m ps ns kt' Ms' dy g' d' z' l' lp' ys ts'/\GroundP p/\InP m ps/\ps.length<=9/\ChL H p k c cts ns Cs/\ChL H p k2 b bts ns Bs/\1<=k/\k<=50000/\1<=k2/\k2<=50000/\1<=kt/\kt<=10000/\∀ (t:Bool) H',Same H H'->(t=true ↔ LedOK p ns ps Ms Cs Bs Ms')->Q (.bl t) H'
theorem ok_ledt (F:Fun K "is_led" "is_led" Zi8 f fd)(T:Txt K mg C G S)(Yat:Cal P w K mg base "are_backs" 11 (spBks S C G))(Yak:Cal P w K mg base "product" 8 (Zmc G)):FnOk P w K mg base CX0 12 f fd ["standing","other","changes","backs"] (Zmd S C G):=by
 have nd:=Zj2.nd;refine F.ok Zj2 (λvs H Q E h=>?_) (λcdv A outer s H vs Q E hr h=>?_)
 .obtain ⟨H0,H0',x,c,b,dx,g,d,z,l,lp,y,dy,g',d',z',l',lp',p,m,k,k2,kt,kt',xs,ys,ps,ns,ts,ts',cts,bts,Ms,Ms',Cs,Bs,rfl,_⟩:=h;rfl
 .obtain ⟨H0,H0',x,c,b,dx,g,d,z,l,lp,y,dy,g',d',z',l',lp',p,m,k,k2,kt,kt',xs,ys,ps,ns,ts,ts',cts,bts,Ms,Ms',Cs,Bs,rfl,sx,sy,hp,ip,p9,hc,hb,k1,km,k21,k2m,kt1,ktm,q⟩:=h;refine⟨_,((@Za5 _ _ _ _ _ _ _ _ (PW.pt (Zcq (Zao (Zus (Zh8 hr)) (Za8 (pvr 0) rfl) (Za8 (pvr 1) rfl) (Zaj _)) (Zby (Za6 (Zbb (Yat<$>hr<$>((pvr 0)<&>((pvr 2)<&>((pvr 3)<&>Zaa))))))))) (~~~Zct) Zak)<*>((Zar (i:=4) nd rfl (Or.inr rfl) (Za8 (pvr 0) rfl))<*>(~~~(Za1 (Zb9 rfl) rfl T.n_all Jee ((Zaz (own:=["tail","head","before","after"]) (fr:=[("ground",4),("backs",3),("changes",2)]) rfl (Zbo (by kernel_rfl)) (pi_z3 rfl T.n_zip ((Zdh (Zdh (pv 0) rfl) rfl)<&>((Zdh (pv 0) rfl)<&>((Zdh (pv 1) rfl)<&>Zaa)))) (λ_ _ _ _=>⟨(@Zc7 _ K rfl _ _ _ _ 3 rfl ((@Zc7 _ K rfl _ _ _ _ 2 rfl ((0<<<["tail","head","before","after","ground","backs","changes"])^^^((1<<<["tail","head","before","after","ground","backs","changes"])^^^(@Za3 _))) ⇑1 ⇑1)^^^((2<<<["tail","head","before","after","ground","backs","changes"])^^^((3<<<["tail","head","before","after","ground","backs","changes"])^^^(@Za3 _)))) ⇑1 ⇑1),Zax,(Zbr (Zlm K rfl (Zh8 hr)) (Yak<$>hr<$>((pv 4)<&>(((Zb0 K rfl)<|>(pv 5)<||>(pv 1))<&>((Yak<$>hr<$>((pv 4)<&>((pv 2)<&>(((Zb0 K rfl)<|>(pv 6)<||>(pv 0))<&>Zaa))))<&>Zaa)))) (pv 3) (Zaj _))⟩))<&>Zaa))))),?_⟩;walk_at "wp";refine Zb4 S dx _ ⟨sx.sa.ins,T.cl_Standing,T.nSs,_,Zgv ..,S,dy,_,sy.sa.ins,T.cl_Standing,T.nSs,_,Zgv ..,z,rfl,z',rfl,_,SqL.of sx.sa.szs.1,_,SqL.of sy.sa.szs.1,.inr ⟨_,Zqm,Zfd (by rw[all_rep];decide) ⟨x,c,b,dx,g,d,z,l,lp,p,m,k,k2,xs,ns,cts,bts,Cs,Bs,rfl,sx.sa,hp,hc,hb,k1,km,k21,k2m,λt1 H1 s1 ht1=>⟨t1,rfl,?_⟩⟩⟩⟩;cases t1 with
  | false=>exact Zrl ⇑0 (q false H1 s1 ⟨λh=>(by cases h),λh=>ht1.mpr h.1⟩)
  | true=>
   refine Zfd ⇑0 ?_;have bk:=ht1.mp rfl;refine Zac sx.sa.drw λdd hd hlp=>?_;have sx1:=sx.same s1;have sy1:=sy.same s1;have hc1:=hc.same s1;have hb1:=hb.same s1;have hd1:=s1 _ _ hd;have hlp1:=s1 _ _ hlp;have xl:=sx.prs.1;have tl:=sx.len;have tl':=sy.len;have hm:=sx.sa.hm;have cl:=hc.2.1;have bl:=hb.2.1;refine Zb4 S dx _ ⟨sx1.sa.ins,T.cl_Standing,T.nSg,_,Zea ..,_,rfl,x,S,dx,_,_,rfl,sx1.sa.ins,T.cl_Standing,T.nSd,Zdc ..,d,C,dd,_,_,rfl,hd1,T.cl_Drawing,T.nA,Zcx m lp,_,rfl,x,S,dx,_,_,rfl,sx1.sa.ins,T.cl_Standing,T.nSt,Zjz ..,_,rfl,y,S,dy,_,_,rfl,sy1.sa.ins,T.cl_Standing,T.nSt,Zjz ..,lp,l,l',rfl,⟨_,SqL.of hlp1⟩,⟨_,SqL.of sx1.lst⟩,⟨_,SqL.of sy1.lst⟩,λD hD=>?_⟩;refine Znb (k:=4) (xs:=xs) (ys:=ts.map V.ref) (ws:=ts'.map V.ref) (λi vs H'=>Same H1 H'/\∃ bs:List Bool,vs=bs.map V.bl/\H' D=some (.lst vs)/\bs.length=i/\∀ (j:Nat) c,bs[j]?=some c->(c=true ↔ chM p ns ps Bs Ms Cs j=Ms'.getD j [])) (by rw[Jab];exact oz17 xl tl) (by rw[Jab];exact oz17 xl tl') ⟨Same.new hD,[],rfl,Zab,rfl,λj c e=>by simp at e⟩ (λi vs H' _ pv=>⟨SqL.of (pv.1 _ _ hlp1),SqL.of (pv.1 _ _ sx1.lst),SqL.of (pv.1 _ _ sy1.lst)⟩) ?_ ?_
   .intro i v1 v2 v3 pz vs σ' H' hi h1 h2 h3 hpz sh e91;obtain⟨s',bs,rfl,e',bsl,hbs⟩:=e91;refine xE4_1 (sh4 sh) λz1 z2 z3 z4 e94=>?_;obtain rfl:=e94;have hti:ts[i]?=some (ts[i]'(oz5 xl tl hi)):=Jaa _;have hti':ts'[i]?=some (ts'[i]'(oz5 xl tl' hi)):=Jaa _;rw[Jac,hti] at h2;cases h2;rw[Jac,hti'] at h3;cases h3;generalize ts[i]'(oz5 xl tl hi)=t at *;generalize ts'[i]'(oz5 xl tl' hi)=t' at *;have hip:i<ps.length:=by exact oz4 xl hi
    have hq:ps[i]?=some (ps.getD i (0,0)):=by rw[Zbn hip];exact Jaa _
    refine Zbd (sx1.tbs i _ _ hti hq) λr rs tb _=>?_;refine Zbd (sy1.tbs i _ _ hti' hq) λr' rs' tb' _=>?_;have ec:chM p ns ps Bs Ms Cs i=Zb3 p (Bs.getD (ps.getD i (0,0)).2.toNat []) (Zb3 p (Ms.getD i []) (Cs.getD (ps.getD i (0,0)).1.toNat []) (nz ns (ps.getD i (0,0)).1)) (nz ns (ps.getD i (0,0)).1):=rfl;generalize ps.getD i (0,0)=qq at *;obtain⟨tl',hd'⟩:=qq;refine Zac (sx1.prs.2 i _ _ h1 hq) λta e95 hta=>?_;obtain rfl:=e95;refine Zch (ip _ (Jae hq)) λi0 i1 j0 j1=>?_;have s0:=s'.trans (Same.new (o:=.tup [V.ref ta,V.ref t,V.ref t']) hpz);have e0:=(Same.new (o:=.tup [V.ref ta,V.ref t,V.ref t']) hpz) _ _ e';have p4:(upd H' pz (.tup [V.ref ta,V.ref t,V.ref t'])) pz=some (.tup [V.ref ta,V.ref t,V.ref t']):=Zab;generalize upd H' pz (.tup [V.ref ta,V.ref t,V.ref t'])=H3 at *;refine Zat pz _ ⟨rfl,SqT.of p4,rfl,_,_,rfl,ta,_,rfl,SqT.of (s0 _ _ hta),rfl,_,_,rfl,_,_,rfl,rfl,_,_,rfl,_,_,rfl,rfl,?_⟩;simp only[Zfv,List.set_cons_zero,List.set_cons_succ,Jcm];have hnt:ns[tl'.toNat]?=some (ns.getD tl'.toNat 0):=by rw[Zbn ∅];exact Jaa _
    have hnh:ns[hd'.toNat]?=some (ns.getD hd'.toNat 0):=by rw[Zbn ∅];exact Jaa _
    have hbt:bts[hd'.toNat]?=some (bts[hd'.toNat]'(by omega)):=Jaa _;have hct:cts[tl'.toNat]?=some (cts[tl'.toNat]'(by omega)):=Jaa _;refine Zfe (hb1.2.2 _ _ _ hbt hnh) λrB rsB tbB=>?_;refine Zfe (hc1.2.2 _ _ _ hct hnt) λrC rsC tbC=>?_;have tbB:TabB H1 p k2 (nz ns hd') (nz ns hd') _ rB rsB _:=tbB;have tbC:TabB H1 p k (nz ns tl') (nz ns tl') _ rC rsC _:=tbC;have m1:=(Zns sx.sa.szs tl').1;have m2:=(Zns sx.sa.szs hd').1;walk_at "wp";refine⟨_,rfl,_,rfl,b,rfl,_,SqL.of (s0 _ _ hb1.1),_,Zd5 j0 (by rw[Jac,hbt];rfl),_,rfl,_,rfl,c,rfl,_,SqL.of (s0 _ _ hc1.1),_,Zd5 i0 (by rw[Jac,hct];rfl),?_⟩;refine Zn9 g t r _ rC rs rsC p (nz ns hd') (nz ns tl') (nz ns tl') kt k _ _ ⟨rfl,sx1.sa.grd.same s0,hp,tb.same s0,tbC.same s0,m2,m1,m1,kt1,k1,nb25 m1 ∅ ∅,λt5 r5 rs5 H5 s5 nw5 tb5=>?_⟩;have e5:=s5 _ _ e0;have s05:=s0.trans s5;refine Zn9 g _ rB t5 r5 rsB rs5 p (nz ns hd') (nz ns hd') (nz ns tl') k2 _ _ _ ⟨rfl,sx1.sa.grd.same s05,hp,tbB.same s05,tb5,m2,m2,m1,k21,∅,nb25 m2 ∅ (k1_le m1 ktm km),λt6 r6 rs6 H6 s6 nw6 tb6=>?_⟩;have e6:=s6 _ _ e5;have s06:=s05.trans s6;rw[<- ec] at tb6;refine Zac (Zg5 (K:=K) (k':=0) tb6 tb'.mat (tb'.same s06).tv) λcs hcs ecs=>?_;refine⟨t6,rfl,_,SqT.of tb6.tv.tup,_,SqT.of (tb'.same s06).tv.tup,cs,hcs,Zlu (ws:=(bs++[cs.all id]).map V.bl) hi sh4m e6 (Zap (by rw[Jab];exact oz43 p9 xl hi bsl)) ⟨s06.upd hD,bs++[cs.all id],rfl,by rw[Zab,Jaz];rfl,by rw[Jam,bsl];rfl,λj c' f1=>?_⟩⟩;by_cases hj:j<bs.length
    .rw [Jax hj] at f1;exact hbs j c' f1
    .have hj2:j=bs.length:=by
      have:=(Jaf.mp f1).1;rw[Jam] at this;have:j<bs.length+1:=this;exact oz24 hj this
     subst hj2;rw[Jaw (Jah _),Nat.sub_self] at f1;cases f1;rw[bsl];exact ecs
   .intro vs H' e92;obtain⟨s',bs,rfl,e',bsl,hbs⟩:=e92;refine⟨D,rfl,bs,SqL.of e',q (bs.all id) H' (s1.trans s') ?_⟩;rw[Zu3];refine⟨λh=>⟨bk,λi hi=>?_⟩,λh j c e=>?_⟩
    .have ei:bs[i]?=some (bs[i]'(oz33 xl bsl hi)):=Jaa _;exact (hbs i _ ei).mp (h i _ ei)
    .have hj:=(Jaf.mp e).1;exact (hbs j c e).mpr (h.2 j (oz10 xl bsl hj))
def Zlb (S C G:Addr):L2.Sp:=Zmd S C G
theorem ok_lbc (F:Fun K "lets_by_change" "lets_by_change" Zce f fd)(T:Txt K mg C G S)(Yaw:Cal P w K mg base "is_beside" 2 (spBsd S C G))(Yaz:Cal P w K mg base "is_led" 12 (Zmd S C G)):FnOk P w K mg base CX0 13 f fd ["standing","other","changes","backs"] (Zlb S C G):=by
 have nd:=Zdd.nd;refine F.ok Zdd (λvs H Q E h=>?_) (λcdv A outer s H vs Q E hr h=>?_)
 .obtain ⟨H0,H0',x,c,b,dx,g,d,z,l,lp,y,dy,g',d',z',l',lp',p,m,k,k2,kt,kt',xs,ys,ps,ns,ts,ts',cts,bts,Ms,Ms',Cs,Bs,rfl,_⟩:=h;rfl
 .obtain ⟨H0,H0',x,c,b,dx,g,d,z,l,lp,y,dy,g',d',z',l',lp',p,m,k,k2,kt,kt',xs,ys,ps,ns,ts,ts',cts,bts,Ms,Ms',Cs,Bs,rfl,sx,sy,hp,ip,p9,hc,hb,k1,km,k21,k2m,kt1,ktm,q⟩:=h;refine⟨_,(~~~(Zei (Yaw<$>hr<$>((pvr 0)<&>((pvr 1)<&>Zaa))) (Zeh (Yaz<$>hr<$>((pvr 0)<&>((pvr 1)<&>((pvr 2)<&>((pvr 3)<&>Zaa)))))))),?_⟩;walk_at "wp";refine⟨x,dx,g,d,z,l,lp,y,dy,g',d',z',l',lp',p,m,xs,ys,ps,ns,ns,rfl,sx.sa,sx.prs,sy.sa,sy.prs,λH1 s1=>⟨true,rfl,Zrl rfl ⟨H0,H0',x,c,b,dx,g,d,z,l,lp,y,dy,g',d',z',l',lp',p,m,k,k2,kt,kt',xs,ys,ps,ns,ts,ts',cts,bts,Ms,Ms',Cs,Bs,rfl,sx.same s1,sy.same s1,hp,ip,p9,hc.same s1,hb.same s1,k1,km,k21,k2m,kt1,ktm,λt H2 s2 e=>q t H2 (s1.trans s2) e⟩⟩⟩
def spLb (S C G:Addr):L2.Sp:=λvs H Q E=>∃ (x pa y c b:Addr),vs=[.ref x,.ref pa]/\H pa=some (.tup [.str "change",.ref y,.ref c,.ref b])/\Zlb S C G [.ref x,.ref y,.ref c,.ref b] H Q E
theorem ok_lb (F:Fun K "lets_by" "lets_by" Zhi f fd)(T:Txt K mg C G S)(Ybk:Cal P w K mg base "lets_by_change" 13 (Zlb S C G)):FnOk P w K mg base CX0 14 f fd ["standing","paper"] (spLb S C G):=by
 have nd:=Zik.nd;refine F.ok Zik (λvs H Q E h=>?_) (λcdv A outer s H vs Q E hr h=>?_)
 .refine xE5_2 h λx pa y c b e91 _=>?_;clear h;obtain rfl:=e91;rfl
 .refine xE5_3 h λx pa y c b e92 hpa q=>?_;clear h;obtain rfl:=e92;refine⟨_,((@Za5 _ _ _ _ _ _ _ _ (PW.pt (Zcq (Za6 (Zbb (Za1 Zaw rfl T.n_isinstance Jbe ((pvr 1)<&>((Zes rfl T.n_tuple boot_tuple)<&>Zaa))))) (Zby (Za6 (Zsg (pvr 1) (λ_=>rfl)))))) (~~~Zct) Zak)<*>((@Za5 _ _ _ _ _ _ _ _ (PW.pt (Zpe (Zao Zc8 ((Zkh Zbk)<|>(pvr 1)<||>Zaf) Zmr (Zaj _)) (Zlj (Zao Zc8 (Za1 Zam rfl T.n_len Jbb ((pvr 1)<&>Zaa)) Zaf (Zaj _))))) (~~~(Ybk<$>hr<$>((pvr 0)<&>(((Zkh Zbk)<|>(pvr 1)<||>Zaf)<&>(((Zkh Zbk)<|>(pvr 1)<||>Zaf)<&>(((Zkh Zbk)<|>(pvr 1)<||>Zaf)<&>Zaa)))))) Zak)<*>((@Za5 _ _ _ _ _ _ _ _ (PW.pt (Zpe (Zao Zc8 ((Zkh Zbk)<|>(pvr 1)<||>Zaf) Zmr (Zaj _)) (Zlj (Zao Zc8 (Za1 Zam rfl T.n_len Jbb ((pvr 1)<&>Zaa)) Zaf (Zaj _))))) (@Zau _ _ _ Zci) Zak)<*>((@Za5 _ _ _ _ _ _ _ _ (PW.pt (Zpe (Zao Zc8 ((Zkh Zbk)<|>(pvr 1)<||>Zaf) Zmr (Zaj _)) (Zlj (Zao Zc8 (Za1 Zam rfl T.n_len Jbb ((pvr 1)<&>Zaa)) Zaf (Zaj _))))) (@Zau _ _ _ Zci) Zak)<*>(@Zau _ _ _ Zci))))),?_⟩;walk_at "wp";refine Zat _ _ ⟨⟨rfl,rfl⟩,_,rfl,_,.tup hpa,true,Zhw K,Zfd ⇑0 ⟨true,?_,Zfd ⇑0 ⟨_,SqT.of hpa,_,rfl,rfl,Zrl ⇑0 ⟨_,.inr (SqT.of hpa),Zrl (Jal rfl) ⟨_,SqT.of hpa,_,rfl,_,SqT.of hpa,_,rfl,_,SqT.of hpa,_,rfl,?_⟩⟩⟩⟩⟩
  .exact .inr (.inl ⟨_,SqT.of hpa,rfl⟩)
  .exact q
theorem Zoj {H:Hp}{m:Nat}{p:Int}{n wd:Nat}{t r t' r':Addr}{rs rs':List Addr}{M N:Mv}(mM:Mat p n wd M)(mN:Mat p n wd N)(h:TabV H p n wd t r rs M)(h':TabV H p n wd t' r' rs' N):∃ b,EqD K H (m+4) (.ref t) (.ref t') b/\(b=true ↔ M=N):=by
 obtain⟨b,hb,e⟩:=Zjf (K:=K) (H:=H) (n:=m+2) (R:=λv x=>∃ a,v=.ref a/\RowV H p a x) (mM.hl.trans mN.hl.symm) h.lst h'.lst (Zb2 h.row) (Zb2 h'.row)
  (λv x y m1 m2 ⟨a,ea,ha⟩ ⟨c,ec,hc⟩=>by subst ea;cases ec;exact Zo8 (mM.is x m1) (mN.is y m2) ha hc)
  (λv u x y m1 m2 ⟨a,ea,ha⟩ ⟨c,ec,hc⟩=>by subst ea;subst ec;exact Zo9 (n:=m) ((mM.hw x m1).trans (mN.hw y m2).symm) (mM.is x m1) (mN.is y m2) ha hc)
 by_cases q:t=t'
 .subst q;have e1:=h.tup.symm.trans h'.tup
  injection e1 with e1
  injection e1 with e1
  injection e1 with _ e1
  injection e1 with _ e1
  injection e1 with e1 _
  injection e1 with e1
  subst e1;have bt:b=true:=by
   cases hb with
   | flat hx _=>cases hx
   | same=>rfl
   | list ne=>exact absurd rfl ne
   | listL ne=>exact absurd rfl ne
   | tuple ne=>exact absurd rfl ne
  exact⟨true,.same,λ_=>e.mp bt,λ_=>rfl⟩
 .refine ⟨[true,true,b].all id,.tuple q (SqT.of h.tup) (SqT.of h'.tup) rfl rfl λj x y c f1 f2 f3=>?_,?_⟩
  .match j,f1,f2,f3 with
   | 0,f1,f2,f3=>cases f1;cases f2;cases f3;exact Zfl
   | 1,f1,f2,f3=>cases f1;cases f2;cases f3;exact Zfl
   | 2,f1,f2,f3=>cases f1;cases f2;cases f3;exact hb
   | j+3,f1,_,_=>cases f1
  .rw [<- e];simp
theorem ref_inj {xs ys:List Addr}(h:xs.map V.ref=ys.map V.ref):xs=ys:=by
 have:=Jdb (List.map λv:V=>match v with | .ref a=>a|_=>0) h;rw[Jdq,Jdq] at this;have e:((λv:V=>match v with | .ref a=>a|_=>0) ∘ V.ref)=id:=rfl;rw[e,Jex,Jex] at this;exact this
end
end Pf
namespace Pf
open PySem L2 L3 PyProof.Rows
abbrev Iv:=List (List Int)
abbrev toR (row:List Int):List Nv:=row.map λz=>(z,1)
abbrev toM (A:Iv):Mv:=A.map toR
def dot2 (row:List Int)(B:Iv)(j:Nat):Nat->Int:=preSum λk=>row.getD k 0*(B.getD k []).getD j 0
def p2 (A B:Iv)(m w:Nat):Iv:=A.map λrow=>(List.range w).map λj=>dot2 row B j m % 2
def u2 (n:Nat):Iv:=(List.range n).map λi=>(List.range n).map λj=>if i=j then 1 else 0
def bits:Nat->Iv
 | 0=>[[]]
 | n+1=>((bits n).map λrow=>row++[0])++(bits n).map λrow=>row++[1]
def cutR (h w:Nat)(row:List Int):Iv:=(List.range h).map λi=>(row.drop (w*i)).take w
def Zcc (h w:Nat):List Iv:=(bits (h*w)).map (cutR h w)
def bk (n:Nat)(A:Iv):List Iv:=(Zcc n n).filter λB=>decide (p2 A B n n=u2 n)
def prF (n:Nat)(L:List Iv):List (Iv×Iv):=L.filterMap λA=>match bk n A with
 | []=>none
 | B::_=>some (A,B)
def Zd4 (n:Nat):List (Iv×Iv):=prF n (Zcc n n)
def rk2 (b a:Nat)(A:Iv):Nat:=if A.all (λrow=>row.all λz=>decide (z=0)) then 0 else if b=2/\a=2/\((A.getD 0 []).getD 0 0*(A.getD 1 []).getD 1 0+(A.getD 0 []).getD 1 0*(A.getD 1 []).getD 0 0) % 2=1 then 2 else 1
abbrev Zib (a b:Nat)(T:Iv)(c d:Iv×Iv):Iv:=p2 d.2 (p2 T c.1 a a) b a
def imgs (a b:Nat)(T:Iv):List Iv:=(Zd4 a).flatMap λc=>(Zd4 b).map λd=>Zib a b T c d
def chk (a b:Nat)(T:Iv):Bool:=(Zcc b a).all λM=>(imgs a b T).count M == (imgs a b T).count T*(if rk2 b a T=rk2 b a M then 1 else 0)
theorem chk_ok:∀ a,a<3->∀ b,b<3->(Zcc b a).all (chk a b)=true:=⋯
def wit (b a:Nat)(A:Iv):Bool:=((Zcc b (rk2 b a A)).any λB=>(Zcc (rk2 b a A) a).any λC=>decide (p2 B C (rk2 b a A) a=A)) && ((Zcc (rk2 b a A) b).any λP=>(Zcc a (rk2 b a A)).any λQ=>decide (p2 P (p2 A Q a (rk2 b a A)) b (rk2 b a A)=u2 (rk2 b a A)))
theorem wit_ok:∀ a,a<3->∀ b,b<3->(Zcc b a).all (λA=>decide (rk2 b a A<3) && wit b a A)=true:=⋯
def memP (n:Nat)(A:Iv):Bool:=(Zcc n n).all λB=>decide ((A,B)∈Zd4 n) == decide (p2 A B n n=u2 n)
theorem memP_ok:∀ n,n<3->(Zcc n n).all (memP n)=true:=⋯
def sqB (h w:Nat)(A:Iv):Bool:=decide (A.length=h) && A.all λrow=>decide (row.length=w) && row.all λz=>decide (0<=z) && decide (z<2)
theorem sqB_ok:∀ h,h<3->∀ w,w<3->(Zcc h w).all (sqB h w)=true:=⋯
theorem Zmp:∀ n,n<3->(Zd4 n).all (λc=>decide (c.1∈Zcc n n) && decide (c.2∈Zcc n n) && decide (p2 c.1 c.2 n n=u2 n))=true:=⋯
theorem Zof:∀ n,n<3->toM (u2 n)=Zg3 n/\sqB n n (u2 n)=true:=⋯
theorem Zi0:∀ h,h<3->∀ w,w<3->(Zcc h w).length<=16/\0<(Zcc h w).length/\(Zd4 h).length<=16:=⋯
structure Sq (h w:Nat)(A:Iv):Prop where
 hl:A.length=h
 hw:∀ row∈A,row.length=w
 gd:∀ row∈A,∀ z∈row,0<=z/\z<2
theorem sq_of {h w:Nat}{A:Iv}(q:sqB h w A=true):Sq h w A:=by
 unfold sqB at q;rw[Ja5,Jay,Ja0] at q;refine⟨q.1,λrow hr=>?_,λrow hr z hz=>?_⟩
 .have:=q.2 row hr;rw[Ja5,Ja0] at this;exact this.1
 .have:=q.2 row hr;rw[Ja5,Jay] at this;have:=this.2 z hz;rw[Ja5,Ja0,Ja0] at this;exact this
theorem Zba {h w:Nat}(h3:h<3)(w3:w<3){A:Iv}(m:A∈Zcc h w):Sq h w A:=sq_of (Jay.mp (sqB_ok h h3 w w3) A m)
theorem Zr5 {h m w:Nat}{A B:Iv}(hA:Sq h m A):Sq h w (p2 A B m w):=by
 refine⟨by unfold p2;rw[Jab];exact hA.hl,λrow hr=>?_,λrow hr z hz=>?_⟩
 .refine Zac (Jau.mp hr) λx _ e91=>?_;obtain rfl:=e91;rw[Jab,Jav]
 .refine Zac (Jau.mp hr) λx _ e92=>?_;obtain rfl:=e92;refine Zac (Jau.mp hz) λj _ e93=>?_;obtain rfl:=e93;omega
theorem Zcv:GroundP 2:=.inr ⟨⇑0,⇑0,λd h1 h2=>∅⟩
theorem Zr6 {h w:Nat}{A:Iv}(s:Sq h w A){xs:List Nv}(hx:xs∈toM A):∀ x∈xs,Isn 2 x/\Bt 7 x.1/\Bt 7 x.2:=λx hxx=>by
 refine Zac (Jau.mp hx) λrow hr e94=>?_;obtain rfl:=e94;refine Zac (Jau.mp hxx) λz hz e95=>?_;obtain rfl:=e95;have:=s.gd row hr z hz;refine⟨.inr ⟨⇑0,this.1,this.2,rfl⟩,?_,show (1:Int).natAbs<2 ^ 7 by decide⟩;show z.natAbs<2 ^ 7;omega
theorem Sq.mat {h w:Nat}{A:Iv}(s:Sq h w A):Mat 2 h w (toM A):=⟨by rw[Jab];exact s.hl,λxs hx=>by
 refine Zac (Jau.mp hx) λrow hr e96=>?_;obtain rfl:=e96;rw[Jab];exact s.hw row hr,λxs hx x hxx=>(Zr6 s hx x hxx).1⟩
theorem Zdo {A B:Iv}(h:toM A=toM B):A=B:=by
 have:=Jdb (List.map (List.map Prod.fst)) h;simpa [toM,toR,Function.comp_def] using this
theorem dotK2 (f g:Nat->Nv):∀ n,Zn6 2 f g n=((preSum λk=>(f k).1*(g k).1) n % 2,1)
 | 0=>rfl
 | n+1=>by
  show Zjb 2 (Zn6 2 f g n) (Zeu 2 (f n) (g n))=_;rw[dotK2 f g n];show (((preSum (λk=>(f k).1*(g k).1) n % 2+(f n).1*(g n).1 % 2) % 2,1):Nv)=((preSum (λk=>(f k).1*(g k).1) n+(f n).1*(g n).1) % 2,1);congr 1;exact oz36
theorem Zh9 {A B:Iv}{h m w:Nat}(hA:Sq h m A):Zb3 2 (toM A) (toM B) w=toM (p2 A B m w):=by
 unfold Zb3 p2 toM;rw[Jdq,Jdq];refine Jcv λrow hr=>?_;show (List.range w).map _=toR ((List.range w).map _);rw[show toR ((List.range w).map λj=>dot2 row B j m % 2)=(List.range w).map λj=>((dot2 row B j m % 2,1):Nv) by unfold toR;rw[Jdq];rfl];refine Jcv λj _=>?_;show Zn6 2 _ _ (toR row).length=_;rw[dotK2,Jab,hA.hw row hr];unfold dot2;congr 2;congr 1
 funext k
 have e1:((toR row).getD k (0,1)).1=row.getD k 0:=by
  rw[Jad,Jac,Jad];cases row[k]? <;> rfl
 have e2:((Zks (B.map toR) j).getD k (0,1)).1=(B.getD k []).getD j 0:=by
  have e3:B.getD k []=(B[k]?).getD []:=Jad;rw[e3,Jad (l:=List.map _ _),Jac,Jac];cases B[k]? with
  | none=>rfl
  | some r=>
   show ((toR r).getD j (0,1)).1=r.getD j 0;rw[Jad,Jac,Jad];cases r[j]? <;> rfl
 rw[e1,e2]
theorem rk_wit {a b:Nat}{A:Iv}(a3:a<3)(b3:b<3)(m:A∈Zcc b a):IsRk 2 b a (toM A) (rk2 b a A):=by
 have h:=Jay.mp (wit_ok a a3 b b3) A m;unfold wit at h;rw[Ja5,Ja5,Ja0,Jc0,Jc0] at h;refine Za2 h λr3 e97 e98=>?_;clear h;obtain⟨B,mB,h1⟩:=e97;obtain⟨Pm,mP,h2⟩:=e98;rw[Jc0] at h1 h2;obtain⟨C,mC,h1⟩:=h1;obtain⟨Q,mQ,h2⟩:=h2;rw[Ja0] at h1 h2;generalize rk2 b a A=r at *;have sA:=Zba b3 a3 m;have sB:=Zba b3 r3 mB;have sC:=Zba r3 a3 mC;have sP:=Zba r3 b3 mP;have sQ:=Zba a3 r3 mQ;intro F _ hF;have eU:=(Zof r r3).1;refine⟨⟨λi k=>vN ((toM B).getD i []) k,λk j=>vN ((toM C).getD k []) j,λi j hi hj=>?_⟩,⟨λi a'=>vN ((toM Pm).getD i []) a',λb' k=>vN ((toM Q).getD b' []) k,λi k hi hk=>?_⟩⟩
 .rw [<- h1,<- Zh9 sB,Zlk Zcv hF sB.mat sC.mat hi hj]
 .have e1:=Zlk Zcv hF sP.mat (Zr5 (B:=Q) (w:=r) sA).mat hi hk;rw[Zh9 sP,h2,eU,unit_at hi hk] at e1;rw[e1];refine Zas λt ht=>?_;rw[<- Zh9 sA,Zlk Zcv hF sA.mat sQ.mat ht hk]
theorem rk_eq {a b r:Nat}{A:Iv}(a3:a<3)(b3:b<3)(m:A∈Zcc b a)(h:IsRk 2 b a (toM A) r):r=rk2 b a A:=h.uniq Zcv (rk_wit a3 b3 m)
end Pf
namespace Pf
open PySem L2 L3 PyProof.Rows
section
variable {C PL:Addr}
abbrev T2 (H:Hp)(h w:Nat)(t r:Addr)(rs:List Addr)(A:Iv):Prop:=TabB H 2 7 h w t r rs (toM A)
theorem rowI {H:Hp}{a:Addr}{row:List Int}(h:H a=some (.lst (row.map V.int))):RowV H 2 a (toR row):=⟨_,h,by rw[Jab,Jab],λi v x e1 e2=>by
 rw[Jac] at e1 e2;cases e:row[i]? with
 | none=>rw[e] at e1;cases e1
 | some z=>rw[e] at e1 e2;cases e1;cases e2;exact NumV.of (p:=2) (x:=(z,1)) ⇑0⟩
theorem I_row {H:Hp}{a:Addr}{row:List Int}(h:RowV H 2 a (toR row)):H a=some (.lst (row.map V.int)):=by
 refine Zac h λvs h1 h2=>?_;clear h;rw[h1];congr 2;refine Jb4 λi=>?_;have hl:=h2.1;rw[Jab] at hl;rw[Jac];cases e:row[i]? with
 | none=>exact Jai (by have:=List.getElem?_eq_none_iff.mp e;omega)
 | some z=>
  obtain⟨v,ev,nv⟩:=h2.at (i:=i) (y:=(z,1)) (by rw[Jac,e];rfl);rw[ev,nv.int ⇑0];rfl
theorem T2.row {H:Hp}{h w:Nat}{t r:Addr}{rs:List Addr}{A:Iv}(q:T2 H h w t r rs A){i:Nat}{row:List Int}(e:A[i]?=some row):∃ a,rs[i]?=some a/\H a=some (.lst (row.map V.int)):=by
 obtain⟨a,ea,rv⟩:=q.tv.row.at (i:=i) (y:=toR row) (by rw[Jac,e];rfl);exact⟨a,ea,I_row rv⟩
theorem T2.mk' {H:Hp}{h w:Nat}{t r:Addr}{rs:List Addr}{A:Iv}(ht:H t=some (.tup [.int h,.int w,.ref r]))(hr:H r=some (.lst (rs.map V.ref)))(al:All2 (λa row=>H a=some (.lst (row.map V.int))) rs A)(nin:r∉rs)(s:Sq h w A):T2 H h w t r rs A:=
 ⟨⟨ht,hr,⟨by rw[Jab];exact al.1,λi a x e1 e2=>by
  rw[Jac] at e2;cases e:A[i]? with
  | none=>rw[e] at e2;cases e2
  | some row=>rw[e] at e2;cases e2;exact rowI (al.2 i a row e1 e)⟩,nin⟩,s.mat.hl,s.mat.hw,λxs hx=>Zr6 s hx⟩
def RowsI (H:Hp)(l:Addr)(Z:Iv):Prop:=∃ as:List Addr,H l=some (.lst (as.map V.ref))/\All2 (λa row=>H a=some (.lst (row.map V.int))) as Z
theorem RowsI.same {H H':Hp}{l:Addr}{Z:Iv}(h:RowsI H l Z)(s:Same H H'):RowsI H' l Z:=let ⟨as,a,b⟩:=h;⟨as,s _ _ a,b.mono λ_ _ q=>s _ _ q⟩
structure TsI (H0 H:Hp)(h w:Nat)(l:Addr)(ts:List Addr)(L:List Iv):Prop where
 lst:H l=some (.lst (ts.map V.ref))
 len:ts.length=L.length
 tab:∀ (i:Nat) t A,ts[i]?=some t->L[i]?=some A->∃ r rs,T2 H h w t r rs A/\New H0 t r rs
 fl:H0 l=none
theorem Zng:∀ {n:Nat},n<=4->(bits n).length<=16/\∀ row∈bits n,row.length=n:=λ{n} h=>by
 match n,h with
 | 0,_=>decide
 | 1,_=>decide
 | 2,_=>decide
 | 3,_=>decide
 | 4,_=>decide
 | n+5,h=>omega
theorem Zkp {l D:Addr}{z:Int}{Z:Iv}{fr:List (Str×Nat)}{σ:L2.St}{H1:Hp}{Q:VK}(hZ:RowsI H1 l Z)(hD:H1 D=none)(h16:Z.length<=16)(hw:∀ row∈Z,row.length<=4)(hQ:∀ H',Same H1 H'->RowsI H' D (Z.map λrow=>row++[z])->Q (.ref D) H'):Zbv (Zbh 0) Zfv (tOp rCat (Zfy 0) (tLst (Zi1 (tC (V.int z)) tNil))) (Itl K l) D (Zgq 1 fr σ) H1 Q:=by
 refine Zac hZ λas hl al=>?_;clear hZ;have len:=al.1;refine Zb8 (λi Hc y=>∃ a,y=.ref a/\Hc a=some (.lst ((Z.getD i []++[z]).map V.int))/\a≠D) (λ⟨a,e,b,c⟩ s=>⟨a,e,s _ _ b,c⟩) (λ⟨a,e,b,c⟩ hD=>⟨a,e,by rw[Zah c];exact b,c⟩) hl hD (by rw[Jab];exact oz115 h16 len) (λi x Hc Qc hx sc ⟨lD,hlD⟩ qc=>?_) (λys H' s' e' yl hys=>?_)
 .rw [Jac] at hx;cases ea:as[i]? with
  | none=>rw[ea] at hx;cases hx
  | some a=>
   rw[ea] at hx;cases hx;refine Zac (al.at' ea) λrow er hrow=>?_;have eZ:Z.getD i []=row:=Zan er;have h4:=hw row (Jae er);simp only[Zbi];walk_at "wp";refine⟨⇑0,λp hp=>?_⟩;have sp:=Same.new (o:=.lst [V.int z]) hp;refine⟨_,sp _ _ (sc _ _ hrow),_,Zab,Jbw (Zap (by rw[Jab];show row.length+1<=1000;omega)),λc hc=>?_⟩;refine qc _ _ (sp.trans (Same.new hc)) ⟨c,rfl,?_,λq=>?_⟩
   .rw [Zab,eZ,Jaz];rfl
   .have:=sp _ _ hlD;rw[q,this] at hc;cases hc
 .obtain ⟨bs,rfl,hb⟩:=Zho (P:=λi a=>H' a=some (.lst ((Z.getD i []++[z]).map V.int))/\a≠D) λi y e=>let ⟨a,e1,b⟩:=hys i y e;⟨a,e1,b⟩;rw[Jab,Jab] at yl;refine hQ H' s' ⟨bs,e',by rw[Jab];exact oz14 len yl,λi a row e1 e2=>?_⟩;rw[Jac] at e2;cases eZ:Z[i]? with
  | none=>rw[eZ] at e2;cases e2
  | some r=>
   rw[eZ] at e2;cases e2;have:=(hb i a e1).1;rwa [Zan eZ] at this
theorem Ztw (xs:List V){a b:Nat}(h1:a<=b)(h2:b<=xs.length):Zty xs (some (a:Int)) (some (b:Int))=(xs.drop a).take (b-a):=by
 unfold Zty;have e1:HT.sIx xs.length 0 (some (a:Int))=a:=by
  simp only[HT.sIx];rw[if_neg ∅];exact oz37 h1 h2
 have e2:HT.sIx xs.length xs.length (some (b:Int))=b:=by
  simp only[HT.sIx];rw[if_neg ∅];exact oz26 h2
 rw[e1,e2]
theorem toM_cut {h w:Nat}{row:List Int}:toM (cutR h w row)=(List.range h).map λi=>toR ((row.drop (w*i)).take w):=by
 unfold cutR toM;rw[Jdq];rfl
def Zju:L2.Sp:=λvs H Q _=>∃ h w:Nat,vs=[.int h,.int w]/\h<3/\w<3/\∀ l ts H',Same H H'->TsI H H' h w l ts (Zcc h w)->Q (.ref l) H'
theorem ok_tbs2 (F:Fun K "_law_tables" "_law_tables" Zee f fd)(T:Txt K mg C G S):FnOk P w K mg base CX0 1 f fd ["_law_high","_law_wide"] Zju:=by
 have nd:=Zfh.nd;refine F.ok Zfh (λvs H Q E h=>?_) (λcdv A outer s H vs Q E hr h=>?_)
 .refine Zbd h λh' w' e93 _=>?_;clear h;obtain rfl:=e93;rfl
 .obtain ⟨h,w',rfl,h3,w3,q⟩:=h;refine⟨_,((2|||nd|||(@Za7 _ _ _ _ ((@Za7 _ _ _ _ Zaa)<&>Zaa)))<*>((Zdg Jbf rfl (Zia rfl T.n_range ((Zgn<|>(pv 0)<&&>(pv 1))<&>Zaa)) (3>>>nd) (@Zau _ _ _ (2|||nd|||(Zj8<|>(Zaz (own:=["_law_row"]) (fr:=[]) rfl (Zbo (by kernel_rfl)) (Za0 (pv 2)) (λ_ _ _ _=>⟨(0<<<["_law_row"]),Zax,(Zj8<|>(pv 0)<&&>(@Za7 _ _ _ _ (Zaf<&>Zaa)))⟩))<&&>(Zaz (own:=["_law_row"]) (fr:=[]) rfl (Zbo (by kernel_rfl)) (Za0 (pv 2)) (λ_ _ _ _=>⟨(0<<<["_law_row"]),Zax,(Zj8<|>(pv 0)<&&>(@Za7 _ _ _ _ (Zaf<&>Zaa)))⟩))))))<*>(~~~(Zaz (own:=["_law_row"]) (fr:=[("_law_high",0),("_law_wide",1)]) rfl (Zbo (by kernel_rfl)) (Za0 (pv 2)) (λ_ _ _ _=>⟨(@Zad _ _ 0 _ (show (["_law_row","_law_high","_law_wide"]:List Str).Nodup by decide +kernel) rfl (Or.inr rfl) (Or.inl rfl)),Zax,(@Zbj _ _ _ _ _ ((pv 1)<&>((pv 2)<&>((Zaz (own:=["_law_i"]) (fr:=[("_law_row",0),("_law_wide",2)]) rfl (Zbo (by kernel_rfl)) (Zia rfl T.n_range ((pv 1)<&>Zaa)) (λ_ _ _ _=>⟨(0<<<["_law_i","_law_row","_law_wide"]),Zax,(@Zms _ _ _ _ _ _ _ _ _ _ (Zsa K rfl) (pv 1) (@Zja _ _ _ (Zgn<|>(pv 2)<&&>(pv 0))) (@Zja _ _ _ (Zgo<|>(Zgn<|>(pv 2)<&&>(pv 0))<&&>(pv 2))))⟩))<&>Zaa))))⟩))))),?_⟩;refine Zc9 λX hX=>?_;walk_at "wp";refine⟨⇑0,λp1 hp1=>⟨⇑0,λp2 hp2=>?_⟩⟩;have s2:=(Same.new (o:=.lst []) hp1).trans (Same.new (o:=.lst [V.ref p1]) hp2);have h0:RowsI (upd (upd H p1 (.lst [])) p2 (.lst [V.ref p1])) p2 (bits 0):=⟨[p1],Zab,All2.one (by rw[Zah (Zai Zab hp2)];exact Zab)⟩
  generalize upd (upd H p1 (.lst [])) p2 (.lst [V.ref p1])=H1 at *;have hw4:h*w'<=4:=Jco (show h<=2 by omega) (show w'<=2 by omega);have hm:(h:Int)*(w':Int)=((h*w':Nat):Int):=(Jdw h w').symm;subst hX;refine Zc9 λX hX=>?_;refine Ztz λY hY=>?_;refine⟨_,rfl,_,rfl,_,_,rfl,rfl,.inl ⟨oz124,oz129 h3⟩,_,rfl,∅,∅,?_⟩;rw[hm,show ((h*w':Nat):Int).toNat=h*w' from Jbu _];refine Zfn (n:=h*w') (λi σ H3=>∃ (l:Addr) (v3:Option V),σ=[some (.int h),some (.int w'),some (.ref l),v3]/\Same H H3/\RowsI H3 l (bits i)) ⟨p2,none,rfl,s2,h0⟩ ?_ ?_
  .intro i σ H3 hi e91;refine Zca e91 λl v3 e94 s3 hr3=>?_;clear e91;obtain rfl:=e94;refine Zrn λD2 hD2=>?_;simp only[Zbh,List.set_cons_zero,List.set_cons_succ];subst hY;obtain⟨b16,bw⟩:=Zng (n:=i) (oz104 hw4 hi);refine Zac hr3 λas hl3 al3=>?_;clear hr3;walk_at "wp";refine⟨_,rfl,l,rfl,⟨_,SqL.of hl3⟩,λDa hDa=>Zkp ⟨as,hl3,al3⟩ hDa b16 (λrow hr=>by rw[bw row hr];exact oz104 hw4 hi) λH4 s4 ra=>?_⟩;refine⟨_,rfl,l,rfl,⟨_,SqL.of (s4 _ _ hl3)⟩,λDb hDb=>Zkp ⟨as,s4 _ _ hl3,al3.mono λ_ _ q=>s4 _ _ q⟩ hDb b16 (λrow hr=>by rw[bw row hr];exact oz104 hw4 hi) λH5 s5 rb=>?_⟩;refine Zac (ra.same s5) λaa ha ala=>?_;refine Zac rb λab hb alb=>?_;clear rb;have l1:=ala.1;have l2:=alb.1;rw[Jab] at l1 l2;refine⟨Da,rfl,Db,rfl,_,ha,_,hb,Jbw (Zap (by rw[Jab,Jab];exact oz122 b16 l1 l2)),λc hc=>?_⟩;have s6:=Same.new (o:=.lst (aa.map V.ref++ab.map V.ref)) hc;subst hD2;exact Zat c _ ⟨rfl,((s3.trans s4).trans s5).trans s6,aa++ab,by rw[Zab,Jaz],(ala.mono λ_ _ q=>s6 _ _ q).app (alb.mono λ_ _ q=>s6 _ _ q)⟩
  .intro σ H3 e92;refine Zca e92 λl v3 e95 s3 hr3=>?_;clear e92;obtain rfl:=e95;subst hX;walk_at "wp";obtain⟨b16,bw⟩:=Zng (n:=h*w') hw4;refine Zac hr3 λas hl3 al3=>?_;clear hr3;have lenA:=al3.1;have tl:(Zcc h w').length=(bits (h*w')).length:=by unfold Zcc;rw[Jab]
   refine⟨_,rfl,l,rfl,⟨_,SqL.of hl3⟩,λD hD=>?_⟩;refine Zb8 (λi Hc y=>∃ t r rs,y=.ref t/\T2 Hc h w' t r rs (cutR h w' ((bits (h*w')).getD i []))/\(r≠D/\D∉rs)/\New H3 t r rs) (λ⟨t,r,rs,e,a,b⟩ s=>⟨t,r,rs,e,TabB.same a s,b⟩) (λ⟨t,r,rs,e,a,b,c⟩ hD=>⟨t,r,rs,e,TabB.put a hD b.1 b.2,b,c⟩) hl3 hD (by rw[Jab];exact oz115 b16 lenA) (λi x Hc Qc hx sc ⟨lD,hlD⟩ qc=>?_) (λys H4 s4 e4 yl hys=>?_)
   .rw [Jac] at hx;cases ea:as[i]? with
    | none=>rw[ea] at hx;cases hx
    | some a=>
     rw[ea] at hx;cases hx;refine Zac (al3.at' ea) λrow er hrow=>?_;have eZ:(bits (h*w')).getD i []=row:=Zan er;have hrl:=bw row (Jae er);have hm':cutR h w' row∈Zcc h w':=Jau.mpr ⟨row,Jae er,rfl⟩;have sq:=Zba h3 w3 hm';simp only[Zbi];walk_at "wp";refine⟨_,rfl,_,rfl,_,rfl,h,rfl,oz67,oz84 h3,λD2 hD2=>?_⟩;rw[show ((h:Nat):Int).toNat=h from Jbu _];refine Zlp (p:=2) (λi=>toR ((row.drop (w'*i)).take w')) hD2 (Zsq h3) (λk H5 Q5 hk s5 q5=>?_) λrs H6 s6 hD6 al6 nD nds fr=>?_
     .simp only [Zbi];walk_at "wp";have k1:(w':Int)*(0+(k:Int))=((w'*k:Nat):Int):=by rw[Int.zero_add,Jdw]
      have k2:(w':Int)*(0+(k:Int))+(w':Int)=((w'*k+w':Nat):Int):=by rw[k1];exact oz170
      have k3:w'*k+w'<=row.length:=by
       rw[hrl,<- Nat.mul_succ,Nat.mul_comm h];exact Jco (Jah _) hk
      refine⟨_,rfl,_,rfl,_,rfl,.inl ⟨oz124,oz129 w3⟩,_,rfl,_,rfl,.inl ⟨oz124,oz129 w3⟩,_,rfl,_,rfl,a,rfl,_,SqL.of ((sc.trans s5) _ _ hrow),λc hc=>?_⟩;rw[k2,k1,Ztw _ (Jcz _ _) (by rw[Jab];exact k3),Nat.add_sub_cancel_left,<- List.map_drop,<- List.map_take];exact q5 c _ hc (Same.new hc) (rowI Zab)
     .refine ⟨⇑0,λt ht=>?_⟩;have s7:=Same.new (o:=.tup [V.int h,V.int w',V.ref D2]) ht;have s67:=s6.trans s7;have nw:New H3 t D2 rs:=⟨(sc.trans s6).free ht,sc.free hD2,λb hb=>sc.free (fr b hb)⟩
      rw[<- toM_cut] at al6;refine qc _ _ s67 ⟨t,D2,rs,rfl,?_,⟨λz=>?_,λz=>?_⟩,nw⟩
      .rw [eZ];exact⟨⟨Zab,s7 _ _ hD6,al6.mono λ_ _ q=>q.same s7,nD⟩,sq.mat.hl,sq.mat.hw,λxs hx=>Zr6 sq hx⟩
      .rw [z,hlD] at hD2;cases hD2
      .have:=fr D z;rw[hlD] at this;cases this
   .obtain ⟨ts,rfl,ht⟩:=Zho (P:=λi t=>∃ r rs,T2 H4 h w' t r rs (cutR h w' ((bits (h*w')).getD i []))/\New H3 t r rs) λi y e=>let ⟨t,r,rs,e1,a,_,c⟩:=hys i y e;⟨t,e1,r,rs,a,c⟩;rw[Jab,Jab] at yl;refine q D ts H4 (s3.trans s4) ⟨e4,by rw[tl];exact oz14 lenA yl,λi t A e1 e2=>?_,s3.free hD⟩;unfold Zcc at e2;rw[Jac] at e2;cases eb:(bits (h*w'))[i]? with
    | none=>rw[eb] at e2;cases e2
    | some row=>
     rw[eb] at e2;cases e2;refine Zbd (ht i t e1) λr rs a nw=>?_;rw[Zan eb] at a;exact Zat r rs ⟨a,⟨s3.free nw.t,s3.free nw.r,λb hb=>s3.free (nw.rs b hb)⟩⟩
theorem getN {l:List Int}{i:Nat}{z:Int}(h:l[i]?=some z):l.getD i 0=z:=by rw[Jad,h];rfl
theorem Zn1 {α:Type}{l:List (List α)}{i:Nat}{z:List α}(h:l[i]?=some z):l.getD i []=z:=by rw[Jad,h];rfl
def spP2:L2.Sp:=λvs H Q _=>∃ (t1 r1 t2 r2:Addr) (rs1 rs2:List Addr) (n m v:Nat) (A B:Iv),vs=[.ref t1,.ref t2]/\T2 H n m t1 r1 rs1 A/\T2 H m v t2 r2 rs2 B/\Sq n m A/\Sq m v B/\n<3/\m<3/\v<3/\∀ t r rs H',Same H H'->New H t r rs->T2 H' n v t r rs (p2 A B m v)->Q (.ref t) H'
theorem ok_p2 (F:Fun K "_law_product" "_law_product" Zdq f fd)(T:Txt K mg C G S):FnOk P w K mg base CX0 1 f fd ["_law_one","_law_other"] spP2:=by
 have nd:=Zew.nd;refine F.ok Zew (λvs H Q E h=>?_) (λcdv A outer s H vs Q E hr h=>?_)
 .refine Zub h λt1 r1 t2 r2 rs1 rs2 n m v A B e95 _=>?_;clear h;obtain rfl:=e95;rfl
 .refine Zua h λt1 r1 t2 r2 rs1 rs2 n m v A B e96 T1 Tb e97=>?_;clear h;obtain rfl:=e96;refine Zfx e97 λsA sB n3 m3 v3 q=>?_;clear e97;refine⟨_,((2|||nd|||(@Za7 _ _ _ _ Zaa))<*>((Zdg Jbf rfl (Za0 (Zbk<|>(pv 0)<||>Zaf)) (@Zad _ _ 3 _ nd rfl (Or.inr rfl) (Or.inl rfl)) ((4|||nd|||(@Za7 _ _ _ _ Zaa))<*>((Zdg Jbf rfl (Zia rfl T.n_range ((Zbk<|>(pv 1)<||>Zaf)<&>Zaa)) (@Zad _ _ 5 _ nd rfl (Or.inr rfl) (Or.inl rfl)) (@Zau _ _ _ (Zhs (Znp Jb6 Jcc Jcd (mtJ Zdj) (pvr 4) ((Zdi<|>(Za1 (Znf rfl) rfl T.n_sum boot_sum ((Zaz (own:=["_law_k"]) (fr:=[("_law_row",3),("_law_other",1),("_law_j",5)]) rfl (Zbo (by kernel_rfl)) (Zia rfl T.n_range ((Zbk<|>(pv 0)<||>Zaf)<&>Zaa)) (λ_ _ _ _=>⟨(0<<<["_law_k","_law_row","_law_other","_law_j"]),Zax,(Zgn<|>((Zb0 K rfl)<|>(pv 1)<||>(pv 0))<&&>((Zb0 K rfl)<|>((Zb0 K rfl)<|>((Zjg K rfl)<|>(pv 2)<||>Zaf)<||>(pv 0))<||>(pv 3)))⟩))<&>Zaa))<&&>Zaf)<&>Zaa)))))<*>(@Zau _ _ _ (Zhs (Znp Jb6 Jcc Jcd (mtJ Zdj) (pvr 2) ((pvr 4)<&>Zaa)))))))<*>(~~~(@Zbj _ _ _ _ _ (((Zkh Zbk)<|>(pvr 0)<||>Zaf)<&>(((Zkh Zbk)<|>(pvr 1)<||>Zaf)<&>((pvr 2)<&>Zaa))))))),?_⟩;refine Zc9 λX hX=>?_;walk_at "wp";refine⟨⇑0,λR hR=>?_⟩;have sR:=Same.new (o:=.lst []) hR;have eR:(upd H R (.lst [])) R=some (.lst []):=Zab;generalize upd H R (.lst [])=H1 at *;subst hX;refine Zc9 λX hX=>?_;refine Ztz λY hY=>?_;have hA:=sA.hl;have lr1:rs1.length=n:=by have:=T1.tv.row.1;rw[Jab] at this;exact oz14 hA this
  refine⟨_,rfl,t1,_,2,_,rfl,rfl,SqT.of (sR _ _ T1.tv.tup),rfl,r1,rfl,⟨_,SqL.of (sR _ _ T1.tv.lst)⟩,Zcj (xs:=rs1.map V.ref) (λi σ H3=>∃ (v3 v4 v5:Option V) (rs:List Addr),σ=[some (.ref t1),some (.ref t2),some (.ref R),v3,v4,v5]/\Same H H3/\H3 R=some (.lst (rs.map V.ref))/\R∉rs/\(∀ a∈rs,H a=none)/\All2 (λa row=>H3 a=some (.lst (row.map V.int))) rs ((p2 A B m v).take i))
   ⟨none,none,none,[],rfl,sR,eR,by simp,by simp,by rw[Jet];exact All2.nil⟩ (λi σ H3 _ ⟨_,_,_,_,_,s3,_⟩=>SqL.of (s3 _ _ T1.tv.lst)) ?_ ?_⟩
  .intro i x σ H3 hi e91;refine Zcd e91 λv3' v4 v5 rs e98 s3 e3 e99=>?_;clear e91;obtain rfl:=e98;refine Za2 e99 λnR fr a3=>?_;clear e99;refine Zrn λD2 hD2=>?_;have hin:i<n:=by have:=(Jaf.mp hi).1;rw[Jab] at this;exact oz4 lr1 this
   have er:A[i]?=some (A[i]'(Zgm hA hin)):=Jaa _;refine Zac (T1.row er) λa ea ha=>?_;rw[Jac,ea] at hi;cases hi;have hrl:=sA.hw _ (Jae er);generalize A[i]'(Zgm hA hin)=row at *;simp only[Zbh,List.set_cons_zero,List.set_cons_succ];subst hY;refine Zc9 λZ hZ=>?_;walk_at "wp";refine⟨⇑0,λM hM=>?_⟩;subst hZ;refine Zc9 λZ hZ=>?_;refine Ztz λY2 hY2=>?_;have sM:=Same.new (o:=.lst []) hM;refine⟨_,rfl,t2,_,1,_,rfl,rfl,SqT.of ((s3.trans sM) _ _ Tb.tv.tup),rfl,(v:Int),rfl,oz67,oz84 v3,Zfn (n:=v) (λj σ H5=>∃ (u5:Option V),σ=[some (.ref t1),some (.ref t2),some (.ref R),some (.ref a),some (.ref M),u5]/\Same H3 H5/\H5 M=some (.lst ((((List.range v).map λj=>dot2 row B j m % 2).take j).map V.int)))
    ⟨v5,rfl,sM,by rw[Jet];exact Zab⟩ ?_ ?_⟩
   .intro j σ H5 hj e92;refine Zal e92 λu5 e910 s5 e5=>?_;clear e92;obtain rfl:=e910;refine Zrn λD3 hD3=>?_;simp only[Zbh,List.set_cons_zero,List.set_cons_succ];subst hY2;walk_at "wp";have s05:=s3.trans s5;have t1u:=SqT.of (K:=K) (s05 _ _ T1.tv.tup);refine⟨tyL e5,_,rfl,t1,_,1,_,rfl,rfl,t1u,rfl,(m:Int),rfl,oz67,oz84 m3,λD hD=>?_⟩;rw[show ((m:Nat):Int).toNat=m from Jbu _];refine Zh3 (n:=m) (λk _ y=>y=.int (row.getD k 0*(B.getD k []).getD j 0)) (λr _=>r) (λr _=>r) hD (Zsq m3) (λk H6 Q6 hk s6 _ q6=>?_) λys H6 s6 e6 yl hys=>?_
    .have s06:=s05.trans s6;have ek:row[k]?=some (row[k]'(Zgm hrl hk)):=Jaa _;have hB:=sB.hl;have eB:B[k]?=some (B[k]'(oz2 hk hB)):=Jaa _;have wB:=sB.hw _ (Jae eB);refine Zac (Tb.row eB) λb ebk hb=>?_;have ey:(B[k]'(oz2 hk hB))[j]?=some ((B[k]'(oz2 hk hB))[j]'(by omega)):=Jaa _;have g1:=sA.gd row (Jae er) _ (Jae ek);simp only[Zbi];walk_at "wp";have qq:=q6 _ H6 (Same.refl _) (Jdb V.int (by rw[getN ek,Zn1 eB,getN ey]));refine⟨_,rfl,_,rfl,_,SqL.of (s06 _ _ ha),_,atI_z (by rw[Jac,ek];rfl),_,rfl,_,rfl,_,SqT.of (s06 _ _ Tb.tv.tup),_,rfl,_,rfl,_,SqL.of (s06 _ _ Tb.tv.lst),_,atI_rz ebk,_,rfl,_,rfl,_,_,rfl,SqL.of (s06 _ _ hb),_,atI_z (by rw[Jac,ey];rfl),?_⟩;exact⟨_,rfl,_,rfl,.inl ⟨oz159 g1,oz127 g1⟩,qq⟩
    .have ey:=Zh0 yl hys;rw[ey] at e6;have e56:=s6 _ _ e5;refine⟨D,rfl,_,SqL.of e6,⇑0,_,e56,Zap (by rw[Jab,Jbg,Jab,Jav];exact oz94 v3),?_⟩;rw[Jab,Jav,Zie];subst hD3;refine⟨_,rfl,(s5.trans s6).upd hM,?_⟩;rw[Zab,Jdh,Jac,Ja4 hj,Jaz];rfl
   .intro σ H5 e93;refine Zal e93 λu5 e911 s5 e5=>?_;clear e93;obtain rfl:=e911;subst hZ;walk_at "wp";have e5R:=s5 _ _ e3;have nRM:R≠M:=Zai e3 hM;have ep:(p2 A B m v)[i]?=some ((List.range v).map λj=>dot2 row B j m % 2):=by unfold p2;rw[Jac,er];rfl
    have l3:=a3.1;rw[Jbg] at l3;subst hD2;refine⟨tyL e5R,_,e5R,Zap (by rw[Jab];exact oz32 n3 hin l3),_,_,_,rs++[M],rfl,(s3.trans s5).upd hR,by rw[Zab,Zbc],by
     intro z;rcases Jar.mp z with h|h
     .exact nR h
     .exact nRM (Jaq.mp h),λb hb=>?_,?_⟩
    .rcases Jar.mp hb with h|h
     .exact fr b h
     .rw [Jaq.mp h];exact s3.free hM
    .rw [Jdh,ep];refine All2.app (a3.monoM λb x hb h=>?_) (All2.one ?_)
     .rw [Zah (λz=>nR (by rw[<- z];exact hb))];exact s5 _ _ h
     .rw [Zah nRM.symm,e5,Jb7 (by rw[Jab,Jav];exact Jah _)]
  .intro σ H3 e94;refine Zcd e94 λv3' v4 v5 rs e912 s3 e3 e913=>?_;clear e94;obtain rfl:=e912;refine Za2 e913 λnR fr a3=>?_;clear e913;subst hX;walk_at "wp";refine⟨_,SqT.of (s3 _ _ T1.tv.tup),_,rfl,_,SqT.of (s3 _ _ Tb.tv.tup),_,rfl,⇑0,λt ht=>?_⟩;have s7:=Same.new (o:=.tup [V.int n,V.int v,V.ref R]) ht;rw[Jab,lr1,Jb7 (by unfold p2;rw[Jab];omega)] at a3;exact q t R rs _ (s3.trans s7) ⟨s3.free ht,hR,fr⟩ (T2.mk' Zab (s7 _ _ e3) (a3.mono λ_ _ h=>s7 _ _ h) nR (Zr5 sA))
theorem sq_u2 {n:Nat}(h:n<3):Sq n n (u2 n):=sq_of (Zof n h).2
def spPl2:L2.Sp:=λvs H Q _=>∃ n:Nat,vs=[.int n]/\n<3/\∀ t r rs H',Same H H'->New H t r rs->T2 H' n n t r rs (u2 n)->Q (.ref t) H'
theorem ok_pl2 (F:Fun K "_law_plain" "_law_plain" Ze7 f fd)(T:Txt K mg C G S):FnOk P w K mg base CX0 1 f fd ["_law_many"] spPl2:=by
 have nd:=Zgf.nd;refine F.ok Zgf (λvs H Q E h=>?_) (λcdv A outer s H vs Q E hr h=>?_)
 .refine Zac h λn e914 _=>?_;clear h;obtain rfl:=e914;rfl
 .refine Zal h λn e915 n3 q=>?_;clear h;obtain rfl:=e915;refine⟨_,(~~~(@Zbj _ _ _ _ _ ((pvr 0)<&>((pvr 0)<&>((Zaz (own:=["_law_i"]) (fr:=[("_law_many",0)]) rfl (Zbo (by kernel_rfl)) (Zia rfl T.n_range ((pv 0)<&>Zaa)) (λ_ _ _ _=>⟨(@Zad _ _ 0 _ (show (["_law_i","_law_many"]:List Str).Nodup by decide +kernel) rfl (Or.inr rfl) (Or.inl rfl)),Zax,(Zaz (own:=["_law_j"]) (fr:=[("_law_i",0)]) rfl (Zbo (by kernel_rfl)) (Zia rfl T.n_range ((pv 1)<&>Zaa)) (λ_ _ _ _=>⟨(0<<<["_law_j","_law_i"]),Zax,(Zj6 Zfs rfl T.n_int boot_int ((Zbr Zc8 (pv 1) (pv 0) (Zaj _))<&>Zaa))⟩))⟩))<&>Zaa))))),?_⟩;walk_at "wp";refine⟨_,rfl,n,rfl,oz67,oz84 n3,λD hD=>?_⟩;rw[show ((n:Nat):Int).toNat=n from Jbu _];refine Zlp (p:=2) (λi=>toR ((List.range n).map λj=>if i=j then 1 else 0)) hD (Zsq n3) (λi H' Q' hi s' q'=>?_) λrs H3 s3 hD3 al3 nD nds fr=>?_
  .refine ⟨_,rfl,n,rfl,oz67,oz84 n3,λE1 hE1=>?_⟩;rw[show ((n:Nat):Int).toNat=n from Jbu _];refine Zh3 (n:=n) (λj _ y=>y=.int (if i=j then 1 else 0)) (λk _=>k) (λk _=>k) hE1 (Zsq n3) (λj Hc Qc hj sc _ qc=>?_) λys Hc sc ec yl yn=>?_
   .simp only [Zbi];walk_at "wp";refine⟨_,rfl,rfl,qc _ Hc (Same.refl _) ?_⟩;by_cases h:i=j
    .subst h;rw[if_pos rfl,Jal rfl];rfl
    .rw [if_neg h,Ja3 (λz=>h (by have:=V.int.inj z;omega))];rfl
   .rw [Zh0 yl yn] at ec;exact q' E1 Hc hE1 sc (rowI ec)
  .refine ⟨⇑0,λt ht=>?_⟩;have s5:=Same.new (o:=.tup [V.int n,V.int n,V.ref D]) ht;have sq:=sq_u2 n3;have e:(List.range n).map (λi=>toR ((List.range n).map λj=>if i=j then 1 else 0))=toM (u2 n):=by
    unfold u2 toM;rw[Jdq];rfl
   rw[e] at al3;exact q t D rs _ (s3.trans s5) ⟨s3.free ht,hD,fr⟩ ⟨⟨Zab,s5 _ _ hD3,al3.mono λ_ _ q=>q.same s5,nD⟩,sq.mat.hl,sq.mat.hw,λxs hx=>Zr6 sq hx⟩
def rm (D:Addr)(H:Hp):Hp:=λa=>if a=D then none else H a
theorem Zhn (D:Addr)(H:Hp):Same (rm D H) H:=λb o e=>by
 unfold rm at e;split at e
 .cases e
 .exact e
theorem Zpc (D:Addr)(H:Hp)(o:HO):rm D (upd H D o)=rm D H:=funext λb=>by
 unfold rm upd;split <;> rfl
theorem Zdv {D:Addr}{H H':Hp}(s:Same H H'):Same (rm D H) (rm D H'):=λb o e=>by
 unfold rm at *;split at e
 .cases e
 .rename_i h
  rw[if_neg h];exact s b o e
theorem Zno {D a:Addr}{H:Hp}{o:HO}(h:H a=some o)(n:a≠D):rm D H a=some o:=by unfold rm;rw[if_neg n];exact h
theorem T2.rm {H:Hp}{D:Addr}{h w:Nat}{t r:Addr}{rs:List Addr}{A:Iv}(q:T2 H h w t r rs A)(nt:t≠D)(nr:r≠D)(ns:D∉rs):T2 (rm D H) h w t r rs A:=
 ⟨⟨Zno q.tv.tup nt,Zno q.tv.lst nr,⟨q.tv.row.1,λi a x e1 e2=>by
  obtain⟨row,er,rfl⟩:∃ row,A[i]?=some row/\x=toR row:=by
   rw[Jac] at e2;cases e:A[i]? with
   | none=>rw[e] at e2;cases e2
   | some row=>rw[e] at e2;cases e2;exact⟨row,rfl,rfl⟩
  exact rowI (Zno (I_row (q.tv.row.2 i a _ e1 e2)) λz=>ns (by rw[<- z];exact Jae e1))⟩,q.tv.nin⟩,q.hl,q.hw,q.gd⟩
def PairAt (H:Hp)(n:Nat)(q:Addr)(c:Iv×Iv):Prop:=∃ t1 t2 r1 r2 rs1 rs2,H q=some (.tup [.ref t1,.ref t2])/\T2 H n n t1 r1 rs1 c.1/\T2 H n n t2 r2 rs2 c.2
theorem PairAt.same {H H':Hp}{n:Nat}{q:Addr}{c:Iv×Iv}(h:PairAt H n q c)(s:Same H H'):PairAt H' n q c:=let ⟨t1,t2,r1,r2,rs1,rs2,a,b,d⟩:=h;⟨t1,t2,r1,r2,rs1,rs2,s _ _ a,TabB.same b s,TabB.same d s⟩
structure PairL (H:Hp)(n:Nat)(l:Addr)(qs:List Addr)(Ps:List (Iv×Iv)):Prop where
 lst:H l=some (.lst (qs.map V.ref))
 nd:qs.Nodup
 at':All2 (PairAt H n) qs Ps
theorem PairL.same {H H':Hp}{n:Nat}{l:Addr}{qs:List Addr}{Ps:List (Iv×Iv)}(h:PairL H n l qs Ps)(s:Same H H'):PairL H' n l qs Ps:=⟨s _ _ h.lst,h.nd,h.at'.mono λ_ _ q=>q.same s⟩
theorem Zq3 {α:Type}{a D:Addr}{ts:List Addr}{L:List α}{pb:α->Bool}{fr:List (Str×Nat)}{σ:L2.St}{tt:TT}{H1:Hp}{Q:VK}(hl:L.length=ts.length)(ha:H1 a=some (.lst (ts.map V.ref)))(hD:H1 D=none)(hn:ts.length<=1000)(h:∀ (i:Nat) t A H (Q:Bool->Hp->Prop),ts[i]?=some t->L[i]?=some A->Same H1 H->(∀ H',Same H H'->Q (pb A) H')->tt (some (.ref t)::Zbi fr σ) H Q)(hQ:∀ (bs:List Addr) H',Same H1 H'->H' D=some (.lst (bs.map V.ref))->All2 (λb A=>∃ j:Nat,ts[j]?=some b/\L[j]?=some A) bs (L.filter pb)->Q (.ref D) H'):Zbv (Zbh 0) tt (Zfy 0) (Itl K a) D (Zgq 1 fr σ) H1 Q:=by
 refine Zfp (xs:=ts.map V.ref) (λi vs H=>Same H1 H/\H D=some (.lst vs)/\∃ bs:List Addr,vs=bs.map V.ref/\All2 (λb A=>∃ j:Nat,ts[j]?=some b/\L[j]?=some A) bs ((L.take i).filter pb)) ⟨Same.new hD,Zab,[],rfl,by rw[Jet];exact All2.nil⟩ (λi vs H _ p=>SqL.of (p.1 _ _ ha)) ?_ (λvs H ⟨s,e,bs,hv,al⟩=>hQ bs H s (by rw[e,hv]) (by rwa [Jb7 (by rw[Jab];omega)] at al));intro i x vs σ' H hi hx sh e91;refine Za2 e91 λs e e94=>?_;clear e91;obtain⟨bs,rfl,al⟩:=e94;obtain⟨z,rfl⟩:=sh.one;simp only[Zer,Zbh,List.set_cons_zero];rw[Jac] at hx;cases et:ts[i]? with
 | none=>rw[et] at hx;cases hx
 | some t=>
  rw[et] at hx;cases hx;have hi':=(Jaf.mp et).1;have eA:L[i]?=some (L[i]'(Zgm hl hi')):=Jaa _;refine h i t _ H _ et eA s λH' s'=>?_;have e2:(L.take (i+1)).filter pb=(L.take i).filter pb++(if pb (L[i]'(Zgm hl hi'))=true then [L[i]'(Zgm hl hi')] else []):=by
   rw[Jdh,eA,List.filter_append];congr 1;cases hb:pb (L[i]'(Zgm hl hi')) <;> simp[hb]
  have e':=s' _ _ e;have bl:=al.1;have fl:=List.length_filter_le pb (L.take i);rw[Jbg] at fl;cases hb:pb (L[i]'(Zgm hl hi')) with
  | false=>
   rw[hb] at e2;exact leaf0 (ws:=bs.map V.ref) hi Sh.mk1 ⟨s.trans s',e',bs,rfl,by rw[e2];simpa using al⟩
  | true=>
   rw[hb,if_pos rfl] at e2;exact⟨_,rfl,Zlu (ws:=(bs++[t]).map V.ref) hi Sh.mk1 e' (Zap (by rw[Jab];exact oz106 hn hi' bl fl)) ⟨(s.trans s').upd hD,by rw[Zab,Jaz];rfl,bs++[t],rfl,by rw[e2];exact al.app (All2.one ⟨i,et,eA⟩)⟩⟩
theorem Zlq {H:Hp}{a b:Addr}{o:HO}(h:H a=none)(h':H b=some o):a≠b:=λz=>by rw[z,h'] at h;cases h
def Zmb:L2.Sp:=λvs H Q _=>∃ n:Nat,vs=[.int n]/\n<3/\∀ l qs H',Same H H'->PairL H' n l qs (Zd4 n)->Q (.ref l) H'
theorem ok_prs2 (F:Fun K "_law_pairs" "_law_pairs" Ze8 f fd)(T:Txt K mg C G S)(Yad:Cal P w K mg base "_law_tables" 1 Zju)(Yae:Cal P w K mg base "_law_product" 1 spP2)(Ybf:Cal P w K mg base "_law_plain" 1 spPl2):FnOk P w K mg base CX0 2 f fd ["_law_size"] Zmb:=by
 have nd:=Zgg.nd;refine F.ok Zgg (λvs H Q E h=>?_) (λcdv A outer s H vs Q E hr h=>?_)
 .refine Zac h λn e95 _=>?_;clear h;obtain rfl:=e95;rfl
 .refine Zal h λn e96 n3 q=>?_;clear h;obtain rfl:=e96;refine⟨_,((1|||nd|||(@Za7 _ _ _ _ Zaa))<*>((2|||nd|||(Yad<$>hr<$>((pvr 0)<&>((pvr 0)<&>Zaa))))<*>((Zdg Jbf rfl (Za0 (pv 2)) (@Zad _ _ 3 _ nd rfl (Or.inr rfl) (Or.inl rfl)) ((Zht (i:=4) (own:=["_law_other"]) (fr:=[("_law_one",3),("_law_size",0)]) rfl (Zbo (by kernel_rfl)) (Za0 (pv 2)) (λ_ _ _ _=>⟨(0<<<["_law_other","_law_one","_law_size"]),(Zpf (Zf6 (Zlm K rfl (Zh8 hr)) (Yae<$>hr<$>((pv 1)<&>((pv 0)<&>Zaa))) (Ybf<$>hr<$>((pv 2)<&>Zaa)) (Zaj _))),(pv 0)⟩) nd rfl rfl rfl)<*>(@Zau _ _ _ (@Za5 _ _ _ _ _ _ _ _ (Zao (Zus (Zh8 hr)) (pvr 4) (@Za7 _ _ _ _ Zaa) (Zaj _)) (@Zau _ _ _ (Zhs (Znp Jb6 Jcc Jcd (mtJ Zdj) (pvr 1) ((@Zbj _ _ _ _ _ ((pvr 3)<&>(((ixJ Zbg)<|>(pvr 4)<||>Zaf)<&>Zaa)))<&>Zaa)))) Zak))))<*>(~~~(pvr 1))))),?_⟩;refine Zc9 λX hX=>?_;walk_at "wp";refine⟨⇑0,λD hD=>?_⟩;have sD:=Same.new (o:=.lst []) hD;have eD:(upd H D (.lst [])) D=some (.lst []):=Zab;generalize upd H D (.lst [])=H1 at *;subst hX;refine Zc9 λX hX=>?_;walk_at "wp";refine Zat n n ⟨rfl,n3,n3,λS ts H2 s2 hS=>?_⟩;subst hX;refine Zc9 λX hX=>?_;refine Ztz λY hY=>?_;have tl:=hS.len;have t16:=(Zi0 n n3 n n3).1;have neD:∀ {a:Addr},H1 a=none->a≠D:=λh z=>by rw[z,eD] at h;cases h
  have tf:∀ (j:Nat) t A,ts[j]?=some t->(Zcc n n)[j]?=some A->∃ r rs,T2 (rm D H2) n n t r rs A:=λj t A e1 e2=>by
   refine Zbd (hS.tab j t A e1 e2) λr rs a nw=>?_;exact⟨r,rs,T2.rm a (neD nw.t) (neD nw.r) λz=>by have:=nw.rs D z;rw[eD] at this;cases this⟩
  have eS:rm D H2 S=some (.lst (ts.map V.ref)):=Zno hS.lst (neD hS.fl);have s02:=sD.trans s2;refine⟨_,rfl,S,rfl,⟨_,SqL.of hS.lst⟩,Zcj (xs:=ts.map V.ref) (λi σ H3=>∃ (v3 v4:Option V) (qs:List Addr),σ=[some (.int n),some (.ref D),some (.ref S),v3,v4]/\Same H H3/\Same (rm D H2) (rm D H3)/\H3 D=some (.lst (qs.map V.ref))/\qs.Nodup/\(∀ b∈qs,rm D H3 b≠none)/\All2 (PairAt (rm D H3) n) qs (prF n ((Zcc n n).take i)))
   ⟨none,none,[],rfl,s02,Same.refl _,s2 _ _ eD,List.nodup_nil,by simp,by rw[Jet];exact All2.nil⟩ (λi σ H3 _ ⟨_,_,_,_,_,r3,_⟩=>SqL.of (Zhn _ _ _ _ (r3 _ _ eS))) ?_ ?_⟩
  .intro i x σ H3 hi e92;refine Zda e92 λv3 v4 qs e97 s3 r3 e98=>?_;clear e92;obtain rfl:=e97;refine Zch e98 λe3 nq aq a3=>?_;clear e98;refine Zrn λD2 hD2=>?_;have hin:i<ts.length:=by have:=(Jaf.mp hi).1;rwa [Jab] at this
   have et:ts[i]?=some (ts[i]'hin):=Jaa _;have eA:(Zcc n n)[i]?=some ((Zcc n n)[i]'(oz4 tl hin)):=Jaa _;rw[Jac,et] at hi;cases hi;have mA:=Jae eA;refine Zfe (tf i _ _ et eA) λr rs tA=>?_;generalize ts[i]'hin=t at *;generalize (Zcc n n)[i]'(oz4 tl hin)=A at *;have sqA:=Zba n3 n3 mA;have tf3:∀ {H':Hp},Same H3 H'->∀ {t r rs A},T2 (rm D H2) n n t r rs A->T2 H' n n t r rs A:=λs _ _ _ _ q=>TabB.same (TabB.same q r3) (show Same (rm D H3) _ from λb o e=>s b o (Zhn _ _ _ _ e));simp only[Zbh,List.set_cons_zero,List.set_cons_succ];subst hY;refine Zc9 λZ hZ=>?_;walk_at "wp";refine⟨_,rfl,S,rfl,⟨_,SqL.of (Zhn _ _ _ _ (r3 _ _ eS))⟩,λB hB=>?_⟩;refine Zq3 (L:=Zcc n n) (pb:=λB=>decide (p2 A B n n=u2 n)) tl.symm (Zhn _ _ _ _ (r3 _ _ eS)) hB ∅ (λj t' A' H4 Q4 et' eA' s4 q4=>?_) λbs H4 s4 e4 al4=>?_
   .have mA':=Jae eA';have sqA':=Zba n3 n3 mA';refine Zfe (tf j _ _ et' eA') λr' rs' tA'=>?_;simp only[Zbi];walk_at "wp";refine⟨_,rfl,t,r,t',r',rs,rs',n,n,n,A,A',rfl,tf3 s4 tA,tf3 s4 tA',sqA,sqA',n3,n3,n3,λtp rp rsp H5 s5 nw5 tp5=>⟨_,rfl,n,rfl,n3,λtu ru rsu H6 s6 nw6 tu6=>?_⟩⟩;refine Zac (Zg5 (K:=K) (k':=0) (TabB.same tp5 s6) (sq_u2 n3).mat tu6.tv) λcs hcs ecs=>?_;refine⟨tp,rfl,tu,rfl,_,SqT.of (TabB.same tp5 s6).tv.tup,_,SqT.of tu6.tv.tup,cs,hcs,?_⟩;have:cs.all id=decide (p2 A A' n n=u2 n):=by
     rw[Jbr,ecs,Ja0];exact⟨Zdo,λh=>by rw[h]⟩
    rw[this];exact q4 H6 (s5.trans s6)
   .have al4:All2 (λb A=>∃ j:Nat,ts[j]?=some b/\(Zcc n n)[j]?=some A) bs (bk n A):=al4;have eP:prF n ((Zcc n n).take (i+1))=prF n ((Zcc n n).take i)++(match bk n A with
      | []=>[]
      | B::_=>[(A,B)]):=by
     unfold prF;rw[Jdh,eA,List.filterMap_append];congr 1;show List.filterMap _ [A]=_;rw[Jdk];cases bk n A <;> rfl
    have e34:=s4 _ _ e3;have nBD:B≠D:=Zlq hB e3;have ql:qs.length<=16:=by
     have h1:=a3.1;have h2:(prF n ((Zcc n n).take i)).length<=((Zcc n n).take i).length:=List.length_filterMap_le ..;rw[Jbg] at h2;exact oz93 t16 h1 h2
    have r4:=r3.trans (Zdv (D:=D) s4);have a4:=a3.mono λ_ _ z=>z.same (Zdv (D:=D) s4);have aq4:∀ b∈qs,rm D H4 b≠none:=λb hb h=>by
     cases e:rm D H3 b with
     | none=>exact aq b hb e
     | some o=>rw[Zdv (D:=D) s4 _ _ e] at h;cases h
    subst hZ;walk_at "wp";refine⟨⇑0,λp hp=>?_⟩;have s5:=Same.new (o:=.lst []) hp;have e5:=s5 _ _ e4;have ep:(upd H4 p (.lst [])) p=some (.lst []):=Zab;have e35:=s5 _ _ e34;generalize upd H4 p (.lst [])=H5 at *;refine⟨_,SqL.of e5,_,SqL.of ep,?_⟩;have r5:=r4.trans (Zdv (D:=D) s5);have a5:=a4.mono λ_ _ z=>z.same (Zdv (D:=D) s5);have aq5:∀ b∈qs,rm D H5 b≠none:=λb hb h=>by
     cases e:rm D H4 b with
     | none=>exact aq4 b hb e
     | some o=>rw[Zdv (D:=D) s5 _ _ e] at h;cases h
    have s35:=s4.trans s5;cases hbk:bk n A with
    | nil=>
     rw[hbk] at al4 eP;have hbs:bs=[]:=List.length_eq_zero_iff.mp al4.1;subst hbs;subst hD2;refine .inr ⟨[],⟨rfl,rfl,λj x y b f=>by simp at f⟩,Zfd ⇑0 ⟨_,_,qs,rfl,s3.trans s35,r5,e35,nq,aq5,?_⟩⟩;rw[eP,Jc7];exact a5
    | cons B0 Bs0=>
     rw[hbk] at al4 eP;obtain⟨b,bs',rfl⟩:∃ b bs',bs=b::bs':=by
      cases bs with
      | nil=>have:=al4.1;cases this
      | cons b bs'=>exact⟨b,bs',rfl⟩
     refine Zac (al4.2 0 b B0 rfl rfl) λj ej eB0=>?_;refine Zfe (tf j _ _ ej eB0) λrb rsb tB=>?_;refine .inl ⟨by simp,tyL e35,_,SqL.of e5,.ref b,Zd5 (Int.le_refl _) rfl,⇑0,λpq hpq=>?_⟩;have s6:=Same.new (o:=.tup [V.ref t,V.ref b]) hpq;have eq6:(upd H5 pq (.tup [V.ref t,V.ref b])) pq=some (.tup [V.ref t,V.ref b]):=Zab;have e36:=s6 _ _ e35;have npD:pq≠D:=λz=>by rw[z,e35] at hpq;cases hpq
     have nin:pq∉qs:=λz=>aq5 pq z (by unfold rm;split;rfl;exact hpq);generalize upd H5 pq (.tup [V.ref t,V.ref b])=H6 at *;have r6:=r5.trans (Zdv (D:=D) s6);subst hD2;refine⟨_,e36,Zap (by rw[Jab];omega),_,_,qs++[pq],rfl,((s3.trans s35).trans s6).upd hD,by rw[Zpc];exact r6,by rw[Zab,Zbc],?_,?_,?_⟩
     .rw [Jd3];exact⟨nq,by simp,λa ha b hb=>by rw[Jaq.mp hb];exact λz=>nin (z ▸ ha)⟩
     .intro c hc;rw[Zpc];rcases Jar.mp hc with h|h
      .intro hz;cases e:rm D H5 c with
       | none=>exact aq5 c h e
       | some o=>rw[Zdv (D:=D) s6 _ _ e] at hz;cases hz
      .rw [Jaq.mp h,Zno eq6 npD];intro z;cases z
     .rw [Zpc,eP];exact (a5.mono λ_ _ z=>z.same (Zdv (D:=D) s6)).app (All2.one ⟨t,b,r,rb,rs,rsb,Zno eq6 npD,TabB.same tA r6,TabB.same tB r6⟩)
  .intro σ H3 e93;refine Zda e93 λv3 v4 qs e99 s3 r3 e910=>?_;clear e93;obtain rfl:=e99;refine Zch e910 λe3 nq aq a3=>?_;clear e910;subst hX;rw[Jab,tl,Jb7 (Jah _)] at a3;exact q D qs H3 s3 ⟨e3,nq,a3.mono λ_ _ z=>z.same (Zhn _ _)⟩
theorem Zip {H:Hp}{p:Int}{R:Addr->Hp->Prop}(hp:GroundP p)(k:∀ g H',Same H H'->GAt G H' g p->R g H'):∀ x dx,H x=none->H dx=none->dx≠x->Zg7 G [.ref x,.int p] (upd (upd H dx (.own x)) x (.ins G dx [])) (λv H2=>v=.non/\R x H2) E0:=by
 intro g dg hg hdg ndg;have fg:(upd H dg (.own g)) g=none:=by rw[Zah ndg.symm];exact hg
 have sg:Same H (upd (upd H dg (.own g)) g (.ins G dg [])):=(Same.new hdg).trans (Same.new fg);exact Zb4 g dg p ⟨rfl,Zab,hp,λH1 ex1 hg1=>⟨rfl,k g H1 (Same.thru sg hg ex1) ⟨dg,hg1⟩⟩⟩
theorem Zml {H:Hp}{m:Int}{e:Addr}{xs:List V}{ps:List (Int×Int)}{R:Addr->Hp->Prop}(m0:1<=m)(m8:m<=8)(he:H e=some (.lst xs))(pr:Prs H xs ps)(ip:InP m ps)(p9:ps.length<=9)(k:∀ d lp H',Same H H'->Zd6 C H' d m lp xs->R d H'):
  ∀ x dx,H x=none->H dx=none->dx≠x->Zjv C [.ref x,.int m,.ref e] (upd (upd H dx (.own x)) x (.ins C dx [])) (λv H2=>v=.non/\R x H2) E0:=by
 intro d dd hd hdd ndd;have fd0:(upd H dd (.own d)) d=none:=by rw[Zah ndd.symm];exact hd
 have sd:Same H (upd (upd H dd (.own d)) d (.ins C dd [])):=(Same.new hdd).trans (Same.new fd0);have:=pr.1;exact Zix d dd m e xs ⟨rfl,Zab,m0,m8,sd _ _ he,∅,(Ztu pr ip).same sd,λlp H3 ex3 hd3 flp hlp=>⟨rfl,k d lp H3 (Same.thru sd hd ex3) ⟨dd,hd3,hlp⟩⟩⟩
theorem Ztf {vs:List V}{H H':Hp}{Q:VK}{E:XK}(h:Zlb S C G vs H Q E)(s:Same H H'):Zlb S C G vs H' Q E:=by
 obtain⟨H0,H0',x,c,b,dx,g,d,z,l,lp,y,dy,g',d',z',l',lp',p,m,k,k2,kt,kt',xs,ys,ps,ns,ts,ts',cts,bts,Ms,Ms',Cs,Bs,e,sx,sy,hp,ip,p9,hc,hb,k1,km,k21,k2m,kt1,ktm,q⟩:=h;exact⟨H0,H0',x,c,b,dx,g,d,z,l,lp,y,dy,g',d',z',l',lp',p,m,k,k2,kt,kt',xs,ys,ps,ns,ts,ts',cts,bts,Ms,Ms',Cs,Bs,e,sx.same s,sy.same s,hp,ip,p9,hc.same s,hb.same s,k1,km,k21,k2m,kt1,ktm,λt H2 s2 e=>q t H2 (s.trans s2) e⟩
def Zov (S C G:Addr):L2.Sp:=λvs H Q E=>∃ x y c b:Addr,vs=[.ref x,.ref y,.ref c,.ref b]/\Zlb S C G vs H Q E
theorem ok_let (F:Fun K "_law_let" "_law_let" Zhj f fd)(T:Txt K mg C G S)(Yaq:Cal P w K mg base "lets_by" 14 (spLb S C G)):FnOk P w K mg base CX0 15 f fd ["_law_one","_law_other","_law_changes","_law_backs"] (Zov S C G):=by
 have nd:=Zil.nd;refine F.ok Zil (λvs H Q E h=>?_) (λcdv A outer s H vs Q E hr h=>?_)
 .refine Zg1 h λx y c b e91 _=>?_;clear h;obtain rfl:=e91;rfl
 .obtain ⟨x,y,c,b,rfl,h⟩:=h;refine⟨_,(~~~(Yaq<$>hr<$>((pvr 0)<&>((@Zbj _ _ _ _ _ (Zmr<&>((pvr 1)<&>((pvr 2)<&>((pvr 3)<&>Zaa)))))<&>Zaa)))),?_⟩;walk_at "wp";exact⟨⇑0,λpa hpa=>⟨x,pa,y,c,b,rfl,Zab,Ztf h (Same.new hpa)⟩⟩
theorem Zui {H:Hp}{h w:Nat}{t r l:Addr}{rs:List Addr}{A:Iv}{q:Int×Int}{ns:List Int}(q2:T2 H h w t r rs A)(hl:H l=some (.lst [V.ref t]))(e1:nz ns q.2=h)(e2:nz ns q.1=w):TbL H 2 7 l [t] [q] ns [toM A]:=
 ⟨hl,rfl,λi u v f1 f2=>by
  match i,f1,f2 with
  | 0,f1,f2=>cases f1;cases f2;rw[e1,e2];exact⟨r,rs,q2⟩
  | i+1,f1,_=>cases f1⟩
theorem Zu0 {H:Hp}{c t r:Addr}{rs:List Addr}{n:Nat}{A:Iv}(hl:H c=some (.lst [V.ref t]))(q:T2 H n n t r rs A):ChL H 2 7 c [t] [(n:Int)] [toM A]:=
 ⟨hl,rfl,λi u v f1 f2=>by
  match i,f1,f2 with
  | 0,f1,f2=>cases f1;cases f2;exact⟨r,rs,q⟩
  | i+1,f1,_=>cases f1⟩
theorem Zuz {H:Hp}{c t r t' r':Addr}{rs rs':List Addr}{n n':Nat}{A B:Iv}(hl:H c=some (.lst [V.ref t,V.ref t']))(q:T2 H n n t r rs A)(q':T2 H n' n' t' r' rs' B):ChL H 2 7 c [t,t'] [(n:Int),(n':Int)] [toM A,toM B]:=
 ⟨hl,rfl,λi u v f1 f2=>by
  match i,f1,f2 with
  | 0,f1,f2=>cases f1;cases f2;exact⟨r,rs,q⟩
  | 1,f1,f2=>cases f1;cases f2;exact⟨r',rs',q'⟩
  | i+2,f1,_=>cases f1⟩
theorem led_two {a b:Nat}(a3:a<3)(b3:b<3){Tb M:Iv}{c d:Iv×Iv}(sT:Sq b a Tb)(hc:c∈Zd4 a)(hd:d∈Zd4 b):LedOK 2 [(a:Int),(b:Int)] [(0,1)] [toM Tb] [toM c.1,toM d.1] [toM c.2,toM d.2] [toM M] ↔ Zib a b Tb c d=M:=by
 have ec:=Jay.mp (Zmp a a3) c hc;have ed:=Jay.mp (Zmp b b3) d hd;rw[Ja5,Ja5,Ja0,Ja0,Ja0] at ec ed;obtain⟨⟨c1,c2⟩,c3⟩:=ec;obtain⟨⟨d1,d2⟩,d3⟩:=ed;have q1:=Zba a3 a3 c1;have q2:=Zba a3 a3 c2;have q3:=Zba b3 b3 d1;have q4:=Zba b3 b3 d2;have e0:chM 2 [(a:Int),(b:Int)] [(0,1)] [toM c.2,toM d.2] [toM Tb] [toM c.1,toM d.1] 0=toM (Zib a b Tb c d):=by
  show Zb3 2 (toM d.2) (Zb3 2 (toM Tb) (toM c.1) a) a=_;rw[Zh9 sT,Zh9 q4]
 refine⟨λh=>?_,λh=>⟨λi n hn=>?_,λi hi=>?_⟩⟩
 .have:=h.2 0 ⇑0;rw[e0] at this;exact Zdo this
 .match i,hn with
  | 0,hn=>cases hn;show Zb3 2 (toM c.1) (toM c.2) a=Zg3 a;rw[Zh9 q1,c3,(Zof a a3).1]
  | 1,hn=>cases hn;show Zb3 2 (toM d.1) (toM d.2) b=Zg3 b;rw[Zh9 q3,d3,(Zof b b3).1]
  | i+2,hn=>cases hn
 .match i,hi with
  | 0,_=>rw[e0,h];rfl
  | i+1,hi=>exact absurd hi (by show ¬ i+1<1;omega)
theorem led_one {n:Nat}(n3:n<3){Tb M A B:Iv}(sT:Sq n n Tb)(q1:Sq n n A)(q2:Sq n n B):LedOK 2 [(n:Int)] [(0,0)] [toM Tb] [toM A] [toM B] [toM M] ↔ p2 A B n n=u2 n/\p2 B (p2 Tb A n n) n n=M:=by
 have e0:chM 2 [(n:Int)] [(0,0)] [toM B] [toM Tb] [toM A] 0=toM (p2 B (p2 Tb A n n) n n):=by
  show Zb3 2 (toM B) (Zb3 2 (toM Tb) (toM A) n) n=_;rw[Zh9 sT,Zh9 q2]
 have e1:Zb3 2 (toM A) (toM B) n=Zg3 n ↔ p2 A B n n=u2 n:=by
  rw[Zh9 q1,<- (Zof n n3).1];exact⟨Zdo,λh=>by rw[h]⟩
 refine⟨λh=>⟨e1.mp (h.1 0 _ rfl),?_⟩,λh=>⟨λi n' hn=>?_,λi hi=>?_⟩⟩
 .have:=h.2 0 (by show 0<1;decide);rw[e0] at this;exact Zdo this
 .match i,hn with
  | 0,hn=>cases hn;exact e1.mpr h.1
  | i+1,hn=>cases hn
 .match i,hi with
  | 0,_=>rw[e0,h.2];rfl
  | i+1,hi=>exact absurd hi (by show ¬ i+1<1;omega)
theorem T2.uq {H:Hp}{h w:Nat}{t r r':Addr}{rs rs':List Addr}{A B:Iv}(q:T2 H h w t r rs A)(q':T2 H h w t r' rs' B):A=B:=by
 have e1:=q.tv.tup.symm.trans q'.tv.tup
 injection e1 with e1
 injection e1 with e1
 injection e1 with _ e1
 injection e1 with _ e1
 injection e1 with e1 _
 injection e1 with e1
 subst e1;have e2:=q.tv.lst.symm.trans q'.tv.lst
 injection e2 with e2
 injection e2 with e2
 have e2:=ref_inj e2;subst e2;refine Zdo (Jb4 λi=>?_);have l1:=q.tv.row.1;have l2:=q'.tv.row.1;cases e:rs[i]? with
 | none=>
  have:=List.getElem?_eq_none_iff.mp e;rw[Jai (oz119 l1 this),Jai (oz119 l2 this)]
 | some a=>
  refine Zac (q.tv.row.at' e) λx ex hx=>?_;refine Zac (q'.tv.row.at' e) λy ey hy=>?_;rw[ex,ey,Zo8 (λz hz=>(q.gd x (Jae ex) z hz).1) (λz hz=>(q'.gd y (Jae ey) z hz).1) hx hy]
open Classical in
theorem Zsk {H:Hp}{n:Nat}{l x t1 r1 t2 r2:Addr}{qs rs1 rs2:List Addr}{A B:Iv}(q:PairL H n l qs (Zd4 n))(n3:n<3)(hx:H x=some (.tup [.ref t1,.ref t2]))(T1:T2 H n n t1 r1 rs1 A)(Tb:T2 H n n t2 r2 rs2 B)(mA:A∈Zcc n n)(mB:B∈Zcc n n):
  ∃ g:Addr->Bool,(∀ a,a∈qs->EqD K H 6 (.ref a) (.ref x) (g a))/\qs.any g=decide (p2 A B n n=u2 n):=by
 have len:=q.at'.1;have one:∀ a,a∈qs->∃ b,EqD K H 6 (.ref a) (.ref x) b/\∀ (i:Nat) c,qs[i]?=some a->(Zd4 n)[i]?=some c->(b=true ↔ c=(A,B)):=λa ha=>by
  obtain⟨i,hi,rfl⟩:=Jan.mp ha;have e1:qs[i]?=some qs[i]:=Jaa hi;refine Zac (q.at'.at' e1) λe91 ec e92=>?_;obtain⟨A',B'⟩:=e91;obtain⟨t1',t2',r1',r2',rs1',rs2',hq,T1',Tb'⟩:=e92;have un:∀ {b:Bool},(b=true ↔ (A',B')=(A,B))->∀ (j:Nat) c,qs[j]?=some qs[i]->(Zd4 n)[j]?=some c->(b=true ↔ c=(A,B)):=λhb j c f1 f2=>by
   have:j=i:=(List.getElem?_inj (show j<qs.length from (Jaf.mp f1).1) q.nd).mp (f1.trans e1.symm);subst this;rw[ec] at f2;cases f2;exact hb
  by_cases z:qs[i]=x
  .rw [z] at hq;have e2:=hq.symm.trans hx
   injection e2 with e2
   injection e2 with e2
   injection e2 with e3 e2
   injection e3 with e3
   injection e2 with e2 _
   injection e2 with e2
   subst e3;subst e2;have E1:=T1'.uq T1;have E2:=Tb'.uq Tb;rw[z] at un ⊢;exact⟨true,.same,un ⟨λ_=>Jed E1 E2,λ_=>rfl⟩⟩
  .refine Zac (Zoj (K:=K) (m:=1) T1'.mat T1.mat T1'.tv T1.tv) λb1 h1 g1=>?_;refine Zac (Zoj (K:=K) (m:=1) Tb'.mat Tb.mat Tb'.tv Tb.tv) λb2 h2 g2=>?_;refine⟨[b1,b2].all id,.tuple z (SqT.of hq) (SqT.of hx) rfl rfl λj x y c f1 f2 f3=>?_,un ?_⟩
   .match j,f1,f2,f3 with
    | 0,f1,f2,f3=>cases f1;cases f2;cases f3;exact h1
    | 1,f1,f2,f3=>cases f1;cases f2;cases f3;exact h2
    | j+2,f1,_,_=>cases f1
   .show (b1 && (b2 && true))=true ↔ _;rw[Jds,Ja5,g1,g2];exact⟨λ⟨h1,h2⟩=>Jed (Zdo h1) (Zdo h2),λh=>by cases h;exact⟨rfl,rfl⟩⟩
 refine⟨λa=>decide (∃ i:Nat,qs[i]?=some a/\(Zd4 n)[i]?=some (A,B)),λa ha=>?_,?_⟩
 .refine Zac (one a ha) λb hb e=>?_;obtain⟨i,hi,rfl⟩:=Jan.mp ha;have e1:qs[i]?=some qs[i]:=Jaa hi;refine Zac (q.at'.at' e1) λc ec _=>?_;have:decide (∃ j:Nat,qs[j]?=some qs[i]/\(Zd4 n)[j]?=some (A,B))=b:=by
   rw[Jbr,Ja0,e i c e1 ec];refine⟨λ⟨j,f1,f2⟩=>?_,λh=>⟨i,e1,by rw[ec,h]⟩⟩;have:j=i:=(List.getElem?_inj (show j<qs.length from (Jaf.mp f1).1) q.nd).mp (f1.trans e1.symm);subst this;rw[ec] at f2;cases f2;rfl
  show EqD K H 6 _ _ (decide _);rw[this];exact hb
 .have hm:=Jay.mp (Jay.mp (memP_ok n n3) A mA) B mB;rw[Jbj] at hm;rw[<- hm,Jbr,Jc0,Ja0];refine⟨λ⟨a,_,h⟩=>?_,λh=>?_⟩
  .refine Zac (Jbm h) λi _ h2=>?_;exact Jae h2
  .obtain ⟨i,hi,e⟩:=Jan.mp h;have hq:i<qs.length:=by exact Zgm len hi
   exact⟨qs[i],Jbd hq,Jal ⟨i,Jaa hq,by rw[Jaa hi,e]⟩⟩
end
end Pf
namespace Pf
open PySem L2 L3 PyProof.Rows
section
variable {C PL:Addr}
theorem Zi9 {H:Hp}{t:Addr}{i j:Int}(h:H t=some (.tup [.int i,.int j])):Prs H [V.ref t] [(i,j)]:=⟨rfl,λk x q e1 e2=>by
 match k,e1,e2 with
 | 0,e1,e2=>cases e1;cases e2;exact⟨t,rfl,h⟩
 | k+1,e1,_=>cases e1⟩
theorem ip_00:InP 1 [(0,0)]:=λq h=>by rw[Jaq.mp h];decide
theorem ip_01:InP 2 [(0,1)]:=λq h=>by rw[Jaq.mp h];decide
theorem Zgy {H H':Hp}{d lp:Addr}{m:Int}{xs:List V}(h:Zd6 C H d m lp xs)(s:Same H H'):Zd6 C H' d m lp xs:=let ⟨a,b,c⟩:=h;⟨a,s _ _ b,s _ _ c⟩
theorem Zoq {H:Hp}{n:Nat}{g d lp t r z l x dx:Addr}{rs:List Addr}{Tb:Iv}{xs:List V}{Q:VK}(T1:T2 H n n t r rs Tb)(n3:n<3)(hz:H z=none)(hl:upd H z (.lst [V.int n]) l=none)(hx:upd (upd H z (.lst [V.int n])) l (.lst [V.ref t]) x=none)(hdx:upd (upd H z (.lst [V.int n])) l (.lst [V.ref t]) dx=none)(ndx:dx≠x)(hg:GAt G H g 2)(hd:Zd6 C H d 1 lp xs)(pr:Prs H xs [(0,0)])(q:∀ (dx z' l':Addr) (ts:List Addr) (H0 H':Hp),Same H H'->StB H0 S C G H' x 2 1 [(0,0)] [(n:Int)] 7 [toM Tb] dx g d z' l' lp xs ts->Q .non H'):spSI S C G [.ref x,.ref g,.ref d,.ref z,.ref l] (upd (upd (upd (upd H z (.lst [V.int n])) l (.lst [V.ref t])) dx (.own x)) x (.ins S dx [])) Q E0:=by
 have s1:=(Same.new (o:=.lst [V.int n]) hz).trans (Same.new (o:=.lst [V.ref t]) hl);refine Zoo (p:=2) (m:=1) (k:=7) (ps:=[(0,0)]) (ns:=[(n:Int)]) (ts:=[t]) (Ms:=[toM Tb]) hx hdx ndx (hg.same s1) Zcv (Zgy hd s1) (pr.same s1) ip_00 ⇑0 ⟨(Same.new hl) _ _ Zab,(show 1<=8 by decide),λk hk=>by rw[Jaq.mp hk];exact oz125 n3⟩ rfl (Zui (TabB.same T1 s1) Zab rfl rfl) ⇑0 λdx2 z' l' ts' H' s' sb=>q dx2 z' l' ts' _ H' (s1.trans s') sb
def Zou:L2.Sp:=λvs H Q _=>∃ (n:Nat) (t r t' r':Addr) (rs rs':List Addr) (Tb M:Iv),vs=[.int n,.ref t,.ref t']/\n<3/\T2 H n n t r rs Tb/\T2 H n n t' r' rs' M/\Sq n n Tb/\Sq n n M/\∀ H',Same H H'->Q (.bl true) H'
theorem ok_loop (F:Fun K "_law_loop_right" "_law_loop_right" Zcf f fd)(T:Txt K mg C G S)(Yab:CalI P w K mg base "Ground" G 3 (Zg7 G))(Yao:CalI P w K mg base "Drawing" C 4 (Zjv C))(Yah:CalI P w K mg base "Standing" S 11 (spSI S C G))(Yaj:Cal P w K mg base "_law_pairs" 2 Zmb)(Yad:Cal P w K mg base "_law_tables" 1 Zju)(Yae:Cal P w K mg base "_law_product" 1 spP2)(Yam:Cal P w K mg base "_law_let" 15 (Zov S C G)):FnOk P w K mg base CX0 16 f fd ["_law_size","_law_table","_law_more"] Zou:=by
 have nd:=Zde.nd;refine F.ok Zde (λvs H Q E h=>?_) (λcdv A outer s H vs Q E hr h=>?_)
 .refine xE9_2 h λn t r t' r' rs rs' Tb M e95 _=>?_;clear h;obtain rfl:=e95;rfl
 .refine xE9_4 h λn t r t' r' rs rs' Tb M e96 n3 T1 e97=>?_;clear h;obtain rfl:=e96;refine Zch e97 λT2' sT sM q=>?_;clear e97;refine⟨_,((3|||nd|||(Zun Yab hr.m rfl (Zaf<&>Zaa)))<*>((4|||nd|||(Zun Yao hr.m rfl (Zaf<&>((@Za7 _ _ _ _ ((@Zbj _ _ _ _ _ (Zaf<&>(Zaf<&>Zaa)))<&>Zaa))<&>Zaa))))<*>((5|||nd|||(Zun Yah hr.m rfl ((pvr 3)<&>((pvr 4)<&>((@Za7 _ _ _ _ ((pvr 0)<&>Zaa))<&>((@Za7 _ _ _ _ ((pvr 1)<&>Zaa))<&>Zaa))))))<*>((6|||nd|||(Zun Yah hr.m rfl ((pvr 3)<&>((pvr 4)<&>((@Za7 _ _ _ _ ((pvr 0)<&>Zaa))<&>((@Za7 _ _ _ _ ((pvr 2)<&>Zaa))<&>Zaa))))))<*>((7|||nd|||(Yaj<$>hr<$>((pvr 0)<&>Zaa)))<*>((Zdg Jbf rfl (Za0 (Yad<$>hr<$>((pv 0)<&>((pv 0)<&>Zaa)))) (8>>>nd) (@Zau _ _ _ (Zdg Jbf rfl (Za0 (Yad<$>hr<$>((pv 0)<&>((pv 0)<&>Zaa)))) (9>>>nd) ((10|||nd|||(Zei (Zbr (op_inE (Zh8 hr)) (@Zbj _ _ _ _ _ ((pvr 8)<&>((pvr 9)<&>Zaa))) (pvr 7) (by with_unfolding_all rfl)) (Zeh (Zbr (Zpv (Zh8 hr)) (Yae<$>hr<$>((pvr 9)<&>((Yae<$>hr<$>((pvr 1)<&>((pvr 8)<&>Zaa)))<&>Zaa))) (pvr 2) (Zaj _)))))<*>((11|||nd|||(Yam<$>hr<$>((pvr 5)<&>((pvr 6)<&>((@Za7 _ _ _ _ ((pvr 8)<&>Zaa))<&>((@Za7 _ _ _ _ ((pvr 9)<&>Zaa))<&>Zaa))))))<*>(@Zau _ _ _ (@Za5 _ _ _ _ _ _ _ _ (PW.pt (Zcq (Za6 (Zbb (Za1 Zaw rfl T.n_isinstance Jbe ((pvr 11)<&>((Zes rfl T.n_bool boot_bool)<&>Zaa))))) (Zby (Zao (op_neTs (Zh8 hr)) (pvr 11) (pvr 10) (Zaj _))))) (~~~Zct) Zak)))))))<*>(~~~Zct))))))),?_⟩;refine Zc9 λX hX=>?_;walk_at "wp";refine Zip Zcv λg H1 s1 hg1=>?_;subst hX;refine Zc9 λX hX=>?_;walk_at "wp";refine⟨⇑0,λta hta=>⟨⇑0,λe he=>?_⟩⟩;have s2:=s1.trans ((Same.new (o:=.tup [V.int 0,V.int 0]) hta).trans (Same.new (o:=.lst [V.ref ta]) he));have hg2:=hg1.same ((Same.new (o:=.tup [V.int 0,V.int 0]) hta).trans (Same.new (o:=.lst [V.ref ta]) he));have q2:(upd (upd H1 ta (.tup [V.int 0,V.int 0])) e (.lst [V.ref ta])) e=some (.lst [V.ref ta]):=Zab;have q3:(upd (upd H1 ta (.tup [V.int 0,V.int 0])) e (.lst [V.ref ta])) ta=some (.tup [V.int 0,V.int 0]):=(Same.new he) _ _ Zab;generalize upd (upd H1 ta (.tup [V.int 0,V.int 0])) e (.lst [V.ref ta])=H2 at *;refine Zml (m:=1) (ps:=[(0,0)]) ⇑0 ⇑0 q2 (Zi9 q3) (λq h=>by rw[Jaq.mp h];decide) ⇑0 λd lp H3 s3 hd3=>?_;have t3:=s2.trans s3;have hg3:=hg2.same s3;have pr3:=(Zi9 q3).same s3;clear q2 q3 s2 hg2;subst hX;refine Zc9 λX hX=>?_;walk_at "wp";refine⟨⇑0,λz1 hz1=>⟨⇑0,λl1 hl1 x1 dx1 hx1 hdx1 nx1=>?_⟩⟩;refine Zoq (n:=n) (t:=t) (Tb:=Tb) (TabB.same T1 t3) n3 hz1 hl1 hx1 hdx1 nx1 hg3 hd3 pr3 λdy1 z1' l1' ts1 Ha H4 s4 sb1=>⟨rfl,?_⟩
  subst hX;refine Zc9 λX hX=>?_;walk_at "wp";refine⟨⇑0,λz2 hz2=>⟨⇑0,λl2 hl2 x2 dx2 hx2 hdx2 nx2=>?_⟩⟩;refine Zoq (n:=n) (t:=t') (Tb:=M) (TabB.same T2' (t3.trans s4)) n3 hz2 hl2 hx2 hdx2 nx2 (hg3.same s4) (Zgy hd3 s4) (pr3.same s4) λdy2 z2' l2' ts2 Hb H5 s5 sb2=>⟨rfl,?_⟩
  have sb1:=sb1.same s5;have t5:=(t3.trans s4).trans s5;subst hX;refine Zc9 λX hX=>?_;walk_at "wp";refine⟨n,rfl,n3,λpl qs H6 s6 hP=>?_⟩;have sb1:=sb1.same s6;have sb2:=sb2.same s6;have t6:=t5.trans s6;have T16:=TabB.same T1 t6;have T26:=TabB.same T2' t6;subst hX;refine Zc9 λX hX=>?_;refine Ztz λY hY=>?_;refine⟨_,rfl,_,rfl,n,n,rfl,n3,n3,λS1 us H7 s7 hS=>⟨S1,rfl,⟨_,SqL.of hS.lst⟩,Zcj (xs:=us.map V.ref) (λi σ Hc=>∃ v8 v9 v10 v11:Option V,σ=[some (.int n),some (.ref t),some (.ref t'),some (.ref g),some (.ref d),some (.ref x1),some (.ref x2),some (.ref pl),v8,v9,v10,v11]/\Same H7 Hc)
   ⟨none,none,none,none,rfl,Same.refl _⟩ (λi σ Hc _ ⟨_,_,_,_,_,sc⟩=>SqL.of (sc _ _ hS.lst)) ?_ ?_⟩⟩
  .intro i y σ Hc hi e91;refine Zg1 e91 λv8 v9 v10 v11 e98 sc=>?_;clear e91;obtain rfl:=e98;refine Zrn λD2 hD2=>?_;have eS:=hS.len;have hin:i<us.length:=by have:=(Jaf.mp hi).1;rwa [Jab] at this
   have eu:us[i]?=some (us[i]'hin):=Jaa _;have eA:(Zcc n n)[i]?=some ((Zcc n n)[i]'(oz4 eS hin)):=Jaa _;rw[Jac,eu] at hi;cases hi;have mA:=Jae eA;refine Zbd (hS.tab i _ _ eu eA) λru rsu tA _=>?_;generalize us[i]'hin=u at *;generalize (Zcc n n)[i]'(oz4 eS hin)=A1 at *;simp only[Zbh,List.set_cons_zero,List.set_cons_succ];subst hY;refine Ztz λY hY=>?_;refine⟨_,rfl,_,rfl,n,n,rfl,n3,n3,λS2 us2 H8 s8 hS2=>⟨S2,rfl,⟨_,SqL.of hS2.lst⟩,Zcj (xs:=us2.map V.ref) (λi σ Hc=>∃ v9 v10 v11:Option V,σ=[some (.int n),some (.ref t),some (.ref t'),some (.ref g),some (.ref d),some (.ref x1),some (.ref x2),some (.ref pl),some (.ref u),v9,v10,v11]/\Same H8 Hc)
    ⟨v9,v10,v11,rfl,Same.refl _⟩ (λi σ Hc _ ⟨_,_,_,_,sc⟩=>SqL.of (sc _ _ hS2.lst)) ?_ ?_⟩⟩
   .intro j y σ Hd hi e92;refine Zeq e92 λv9 v10 v11 e99 sd=>?_;clear e92;obtain rfl:=e99;refine Zrn λD3 hD3=>?_;have eS2:=hS2.len;have hin2:j<us2.length:=by have:=(Jaf.mp hi).1;rwa [Jab] at this
    have eu2:us2[j]?=some (us2[j]'hin2):=Jaa _;have eB:(Zcc n n)[j]?=some ((Zcc n n)[j]'(oz4 eS2 hin2)):=Jaa _;rw[Jac,eu2] at hi;cases hi;have mB:=Jae eB;refine Zbd (hS2.tab j _ _ eu2 eB) λru2 rsu2 tB' _=>?_;generalize us2[j]'hin2=u2' at *;generalize (Zcc n n)[j]'(oz4 eS2 hin2)=B1 at *;have s78:=(sc.trans s8).trans sd;have s68:=s7.trans s78;have sqA:=Zba n3 n3 mA;have sqB:=Zba n3 n3 mB;have hP8:=hP.same s68;have tA8:=TabB.same tA s78;have tB8:=TabB.same tB' sd;have T18:=TabB.same T16 s68;have T28:=TabB.same T26 s68;have sb18:=sb1.same s68;have sb28:=sb2.same s68;simp only[Zbh,List.set_cons_zero,List.set_cons_succ];subst hY;refine Zc9 λZ hZ=>?_;walk_at "wp";have rest:∀ (b:Bool) (He:Hp),Same Hd He->(b=true ↔ p2 A1 B1 n n=u2 n/\p2 B1 (p2 Tb A1 n n) n n=M)->Z D3 [some (.int n),some (.ref t),some (.ref t'),some (.ref g),some (.ref d),some (.ref x1),some (.ref x2),some (.ref pl),some (.ref u),some (.ref u2'),some (.bl b),v11] He:=λb He se eb=>by
     subst hZ;refine Zc9 λZ hZ=>?_;walk_at "wp";refine⟨⇑0,λc1 hc1=>⟨⇑0,λc2 hc2=>?_⟩⟩;have sf:=(Same.new (o:=.lst [V.ref u]) hc1).trans (Same.new (o:=.lst [V.ref u2']) hc2);have seh:=se.trans sf;refine Zfw x1 x2 c1 c2 ⟨rfl,_,_,x1,c1,c2,dy1,g,d,z1',l1',lp,x2,dy2,g,d,z2',l2',lp,2,1,7,7,7,7,_,_,[(0,0)],[(n:Int)],ts1,ts2,[u],[u2'],[toM Tb],[toM M],[toM A1],[toM B1],rfl,sb18.same seh,sb28.same seh,Zcv,ip_00,⇑0,Zu0 ((Same.new hc2) _ _ Zab) (TabB.same tA8 seh),Zu0 Zab (TabB.same tB8 seh),⇑0,⇑0,⇑0,⇑0,⇑0,⇑0,λfo Hf sff ef=>?_⟩;rw[led_one n3 sT sqA sqB,<- eb] at ef;obtain rfl:fo=b:=Jbr.mpr ef;subst hZ;walk_at "wp";refine Zat _ _ ⟨⟨rfl,rfl⟩,_,rfl,_,.bl _,_,Zfc K,Zfd ⇑0 (.inl ⟨rfl,Zfd (by simp) ?_⟩)⟩;subst hD3;exact Zb4 _ _ _ ⟨rfl,sd.trans (seh.trans sff)⟩
    refine⟨⇑0,λpr hpr=>?_⟩;have sp:=Same.new (o:=.tup [V.ref u,V.ref u2']) hpr;refine Zac (Zsk (K:=K) (hP8.same sp) n3 Zab (TabB.same tA8 sp) (TabB.same tB8 sp) mA mB) λgg g1 g2=>?_;refine⟨qs,SqL.of (hP8.same sp).lst,gg,g1,?_⟩;rw[g2];by_cases hz:p2 A1 B1 n n=u2 n
    .rw [Jal hz,if_pos rfl];generalize upd Hd pr (.tup [V.ref u,V.ref u2'])=H9 at *;refine Zoa t r u ru rs rsu n n n Tb A1 ⟨rfl,TabB.same T18 sp,TabB.same tA8 sp,sT,sqA,n3,n3,n3,λv1 w1 vs1 H10 s10 _ V1=>⟨u2',ru2,v1,w1,rsu2,vs1,n,n,n,B1,_,rfl,TabB.same tB8 (sp.trans s10),V1,sqB,Zr5 sT,n3,n3,n3,λv2 w2 vs2 H11 s11 _ V2=>?_⟩⟩;have s911:=s10.trans s11;refine Zac (Zg5 (K:=K) (k':=0) V2 sM.mat (TabB.same T28 (sp.trans s911)).tv) λcs hcs ecs=>?_;refine⟨v2,rfl,_,SqT.of V2.tv.tup,_,SqT.of (TabB.same T28 (sp.trans s911)).tv.tup,cs,hcs,rest _ H11 (sp.trans s911) ?_⟩;rw[ecs];exact⟨λh=>⟨hz,Zdo h⟩,λh=>by rw[h.2]⟩
    .rw [Ja3 hz,if_neg ⇑0];exact rest false _ sp ⟨λh=>(by cases h),λh=>absurd h.1 hz⟩
   .intro σ Hd e93;refine Zeq e93 λv9 v10 v11 e910 sd=>?_;clear e93;obtain rfl:=e910;subst hD2;exact Zfw _ _ _ _ ⟨rfl,(sc.trans s8).trans sd⟩
  .intro σ Hc e94;refine Zg1 e94 λv8 v9 v10 v11 e911 sc=>?_;clear e94;obtain rfl:=e911;subst hX;walk_at "wp";exact q Hc (t6.trans (s7.trans sc))
theorem Zop {H:Hp}{a b:Nat}{g d lp t r z l x dx:Addr}{rs:List Addr}{Tb:Iv}{xs:List V}{Q:VK}(T1:T2 H b a t r rs Tb)(a3:a<3)(b3:b<3)(hz:H z=none)(hl:upd H z (.lst [V.int a,V.int b]) l=none)(hx:upd (upd H z (.lst [V.int a,V.int b])) l (.lst [V.ref t]) x=none)(hdx:upd (upd H z (.lst [V.int a,V.int b])) l (.lst [V.ref t]) dx=none)(ndx:dx≠x)(hg:GAt G H g 2)(hd:Zd6 C H d 2 lp xs)(pr:Prs H xs [(0,1)])(q:∀ (dx z' l':Addr) (ts:List Addr) (H0 H':Hp),Same H H'->StB H0 S C G H' x 2 2 [(0,1)] [(a:Int),(b:Int)] 7 [toM Tb] dx g d z' l' lp xs ts->Q .non H'):spSI S C G [.ref x,.ref g,.ref d,.ref z,.ref l] (upd (upd (upd (upd H z (.lst [V.int a,V.int b])) l (.lst [V.ref t])) dx (.own x)) x (.ins S dx [])) Q E0:=by
 have s1:=(Same.new (o:=.lst [V.int a,V.int b]) hz).trans (Same.new (o:=.lst [V.ref t]) hl);refine Zoo (p:=2) (m:=2) (k:=7) (ps:=[(0,1)]) (ns:=[(a:Int),(b:Int)]) (ts:=[t]) (Ms:=[toM Tb]) hx hdx ndx (hg.same s1) Zcv (Zgy hd s1) (pr.same s1) ip_01 ⇑0 ⟨(Same.new hl) _ _ Zab,(show 2<=8 by decide),λk hk=>?_⟩ rfl (Zui (TabB.same T1 s1) Zab rfl rfl) ⇑0 λdx2 z' l' ts' H' s' sb=>q dx2 z' l' ts' _ H' (s1.trans s') sb;rcases Ja9.mp hk with rfl|hk
 .exact oz125 a3
 .rw [Jaq.mp hk];exact oz125 b3
def Zor (C G PL:Addr):L2.Sp:=λvs H Q _=>∃ (a b:Nat) (t r t' r':Addr) (rs rs':List Addr) (Tb M:Iv),vs=[.int a,.int b,.ref t,.ref t']/\a<3/\b<3/\T2 H b a t r rs Tb/\T2 H b a t' r' rs' M/\Tb∈Zcc b a/\M∈Zcc b a/\H PL=some lamO/\∀ H',Same H H'->Q (.bl true) H'
def Zh5 (a b:Nat)(Tb:Iv)(L1 L2:List (Iv×Iv))(M:Iv):Nat:=(L1.flatMap λc=>L2.map λd=>Zib a b Tb c d).count M
theorem Zq7 {a b:Nat}{Tb M:Iv}{L1 L2:List (Iv×Iv)}{c:Iv×Iv}:Zh5 a b Tb (L1++[c]) L2 M=Zh5 a b Tb L1 L2 M+Zh5 a b Tb [c] L2 M:=by
 unfold Zh5;rw[List.flatMap_append,List.count_append]
theorem Zt2 {a b:Nat}{Tb M:Iv}{L2:List (Iv×Iv)}{c d:Iv×Iv}:Zh5 a b Tb [c] (L2++[d]) M=Zh5 a b Tb [c] L2 M+(if Zib a b Tb c d=M then 1 else 0):=by
 unfold Zh5;rw[List.flatMap_cons,List.flatMap_nil,Jc7,List.flatMap_cons,List.flatMap_nil,Jc7,Jaz,List.count_append];congr 1;show List.count M [Zib a b Tb c d]=_;rw[List.count_singleton];by_cases h:Zib a b Tb c d=M
 .rw [if_pos h,if_pos (by rw[h];exact Jea M)]
 .rw [if_neg h,if_neg (by rw[Jbj];exact h)]
theorem cnt_end {a b:Nat}(a3:a<3)(b3:b<3){Tb M:Iv}(mT:Tb∈Zcc b a)(mM:M∈Zcc b a):Zh5 a b Tb (Zd4 a) (Zd4 b) M=Zh5 a b Tb (Zd4 a) (Zd4 b) Tb*(if rk2 b a Tb=rk2 b a M then 1 else 0):=by
 have h:=Jay.mp (Jay.mp (chk_ok a a3 b b3) Tb mT) M mM;rw[Jbj] at h;exact h
theorem Zu1 {b:Bool}{x:Prop}[Decidable x](h:b=true ↔ x):(if b=true then (1:Int) else 0)=((if x then 1 else 0:Nat):Int):=by
 by_cases hx:x
 .rw [if_pos hx,if_pos (h.mpr hx)];rfl
 .rw [if_neg hx,if_neg λz=>hx (h.mp z)];rfl
theorem nb3 {a:Nat}(h:a<3):(a+1)*7<=NB:=Jbi (Jco (show a+1<=3 by omega) (Jah 7)) ⇑0
theorem sw_two {k W wide:Nat}{M:Mv}(wd:∀ xs∈M,xs.length=W):Zl5 2 k wide M:=by
 intro Z IR j done left pl hj sw row hr;exact (Zr9 (p:=2) ⇑0 ⇑0 ((sw.inv ⇑0 (Zf7 ⇑0 IR wd)).rw row hr)).le ⇑0
theorem ok_twor (F:Fun K "_law_two_right" "_law_two_right" Zco f fd)(T:Txt K mg C G S)(Yab:CalI P w K mg base "Ground" G 3 (Zg7 G))(Yao:CalI P w K mg base "Drawing" C 4 (Zjv C))(Yah:CalI P w K mg base "Standing" S 11 (spSI S C G))(Yaj:Cal P w K mg base "_law_pairs" 2 Zmb)(Yae:Cal P w K mg base "_law_product" 1 spP2)(Yam:Cal P w K mg base "_law_let" 15 (Zov S C G))(Yar:Cal P w K mg base "rank" 8 (Zma G PL)):FnOk P w K mg base CX0 16 f fd ["_law_a","_law_b","_law_table","_law_more"] (Zor C G PL):=by
 have nd:=Zd1.nd;refine F.ok Zd1 (λvs H Q E h=>?_) (λcdv A outer s H vs Q E hr h=>?_)
 .refine Zud h λa b t r t' r' rs rs' Tb M e95 _=>?_;clear h;obtain rfl:=e95;rfl
 .refine Zuc h λa b t r t' r' rs rs' Tb M e96 a3 b3 e97=>?_;clear h;obtain rfl:=e96;refine Zfx e97 λT1 T2' mT mM hPL q=>?_;clear e97;have sT:=Zba b3 a3 mT;have sM:=Zba b3 a3 mM;refine⟨_,((4|||nd|||(Zun Yab hr.m rfl (Zaf<&>Zaa)))<*>((5|||nd|||(Zun Yao hr.m rfl (Zaf<&>((@Za7 _ _ _ _ ((@Zbj _ _ _ _ _ (Zaf<&>(Zaf<&>Zaa)))<&>Zaa))<&>Zaa))))<*>((6|||nd|||(Zun Yah hr.m rfl ((pvr 4)<&>((pvr 5)<&>((@Za7 _ _ _ _ ((pvr 0)<&>((pvr 1)<&>Zaa)))<&>((@Za7 _ _ _ _ ((pvr 2)<&>Zaa))<&>Zaa))))))<*>((7|||nd|||(Zun Yah hr.m rfl ((pvr 4)<&>((pvr 5)<&>((@Za7 _ _ _ _ ((pvr 0)<&>((pvr 1)<&>Zaa)))<&>((@Za7 _ _ _ _ ((pvr 3)<&>Zaa))<&>Zaa))))))<*>((8|||nd|||Zaf)<*>((9|||nd|||Zaf)<*>((Zdg Jbf rfl (Za0 (Yaj<$>hr<$>((pv 0)<&>Zaa))) (@Zcs _ _ _ _ _ 2 rfl ((10>>>nd)^^^((11>>>nd)^^^(@Za3 _))) ⇑1 ⇑1) (@Zau _ _ _ (Zdg Jbf rfl (Za0 (Yaj<$>hr<$>((pv 1)<&>Zaa))) (@Zcs _ _ _ _ _ 2 rfl ((12>>>nd)^^^((13>>>nd)^^^(@Za3 _))) ⇑1 ⇑1) ((14|||nd|||(Yae<$>hr<$>((pvr 13)<&>((Yae<$>hr<$>((pvr 2)<&>((pvr 10)<&>Zaa)))<&>Zaa))))<*>((15|||nd|||(Yam<$>hr<$>((pvr 6)<&>((pvr 7)<&>((@Za7 _ _ _ _ ((pvr 10)<&>((pvr 12)<&>Zaa)))<&>((@Za7 _ _ _ _ ((pvr 11)<&>((pvr 13)<&>Zaa)))<&>Zaa))))))<*>((@Za5 _ _ _ _ _ _ _ _ (PW.pt (Zcq (Za6 (Zbb (Za1 Zaw rfl T.n_isinstance Jbe ((pvr 15)<&>((Zes rfl T.n_bool boot_bool)<&>Zaa))))) (Zby (Zao Zd7 (pvr 15) (Zbr (Zpv (Zh8 hr)) (pvr 14) (pvr 3) (Zaj _)) (Zaj _))))) (~~~Zct) Zak)<*>((8|||nd|||(Zgo<|>(pvr 8)<&&>(Zj6 Zfs rfl T.n_int boot_int ((pvr 15)<&>Zaa))))<*>(@Zau _ _ _ (9|||nd|||(Zgo<|>(pvr 9)<&&>(Zj6 Zfs rfl T.n_int boot_int ((Yam<$>hr<$>((pvr 6)<&>((pvr 6)<&>((@Za7 _ _ _ _ ((pvr 10)<&>((pvr 12)<&>Zaa)))<&>((@Za7 _ _ _ _ ((pvr 11)<&>((pvr 13)<&>Zaa)))<&>Zaa)))))<&>Zaa))))))))))))<*>(~~~(Zbr Zc8 (pvr 8) (Zgn<|>(pvr 9)<&&>(Zj6 Zfs rfl T.n_int boot_int ((Zbr Zc8 (Yar<$>hr<$>((pvr 4)<&>((pvr 2)<&>Zaa))) (Yar<$>hr<$>((pvr 4)<&>((pvr 3)<&>Zaa))) (Zaj _))<&>Zaa))) (Zaj _)))))))))),?_⟩;refine Zc9 λX hX=>?_;walk_at "wp";refine Zip Zcv λg H1 s1 hg1=>?_;subst hX;refine Zc9 λX hX=>?_;walk_at "wp";refine⟨⇑0,λta hta=>⟨⇑0,λe he=>?_⟩⟩;have s2:=s1.trans ((Same.new (o:=.tup [V.int 0,V.int 1]) hta).trans (Same.new (o:=.lst [V.ref ta]) he));have hg2:=hg1.same ((Same.new (o:=.tup [V.int 0,V.int 1]) hta).trans (Same.new (o:=.lst [V.ref ta]) he));have q2:(upd (upd H1 ta (.tup [V.int 0,V.int 1])) e (.lst [V.ref ta])) e=some (.lst [V.ref ta]):=Zab;have q3:(upd (upd H1 ta (.tup [V.int 0,V.int 1])) e (.lst [V.ref ta])) ta=some (.tup [V.int 0,V.int 1]):=(Same.new he) _ _ Zab;generalize upd (upd H1 ta (.tup [V.int 0,V.int 1])) e (.lst [V.ref ta])=H2 at *;refine Zml (m:=2) (ps:=[(0,1)]) ⇑0 ⇑0 q2 (Zi9 q3) ip_01 ⇑0 λd lp H3 s3 hd3=>?_;have t3:=s2.trans s3;have hg3:=hg2.same s3;have pr3:=(Zi9 q3).same s3;clear q2 q3 s2 hg2;subst hX;refine Zc9 λX hX=>?_;walk_at "wp";refine⟨⇑0,λz1 hz1=>⟨⇑0,λl1 hl1 x1 dx1 hx1 hdx1 nx1=>?_⟩⟩;refine Zop (t:=t) (Tb:=Tb) (TabB.same T1 t3) a3 b3 hz1 hl1 hx1 hdx1 nx1 hg3 hd3 pr3 λdy1 z1' l1' ts1 Ha H4 s4 sb1=>⟨rfl,?_⟩
  subst hX;refine Zc9 λX hX=>?_;walk_at "wp";refine⟨⇑0,λz2 hz2=>⟨⇑0,λl2 hl2 x2 dx2 hx2 hdx2 nx2=>?_⟩⟩;refine Zop (t:=t') (Tb:=M) (TabB.same T2' (t3.trans s4)) a3 b3 hz2 hl2 hx2 hdx2 nx2 (hg3.same s4) (Zgy hd3 s4) (pr3.same s4) λdy2 z2' l2' ts2 Hb H5 s5 sb2=>⟨rfl,?_⟩
  have sb1:=sb1.same s5;have t5:=(t3.trans s4).trans s5;have hg5:=hg3.same (s4.trans s5);subst hX;refine Zc9 λX hX=>?_;walk_at "wp";subst hX;refine Zc9 λX hX=>?_;walk_at "wp";subst hX;refine Zc9 λX hX=>?_;refine Ztz λY hY=>?_;refine⟨_,rfl,a,rfl,a3,λS1 us H6 s6 hS=>⟨S1,rfl,⟨_,SqL.of hS.lst⟩,Zcj (xs:=us.map V.ref) (λi σ Hc=>∃ v10 v11 v12 v13 v14 v15:Option V,σ=[some (.int a),some (.int b),some (.ref t),some (.ref t'),some (.ref g),some (.ref d),some (.ref x1),some (.ref x2),some (.int (Zh5 a b Tb ((Zd4 a).take i) (Zd4 b) M:Nat)),some (.int (Zh5 a b Tb ((Zd4 a).take i) (Zd4 b) Tb:Nat)),v10,v11,v12,v13,v14,v15]/\Same H6 Hc)
   ⟨none,none,none,none,none,none,rfl,Same.refl _⟩ (λi σ Hc _ ⟨_,_,_,_,_,_,_,sc⟩=>SqL.of (sc _ _ hS.lst)) ?_ ?_⟩⟩
  .intro i y σ Hc hi e91;refine Zoc e91 λv10 v11 v12 v13 v14 v15 e98 sc=>?_;clear e91;obtain rfl:=e98;refine Zrn λD2 hD2=>?_;have eS:=hS.at'.1;have hin:i<us.length:=by have:=(Jaf.mp hi).1;rwa [Jab] at this
   have eu:us[i]?=some (us[i]'hin):=Jaa _;rw[Jac,eu] at hi;cases hi;refine Zac (hS.at'.at' eu) λc ec e99=>?_;obtain⟨n1,n2,m1,m2,ms1,ms2,hu,C1,C2⟩:=e99;generalize us[i]'hin=u at *;have hc:=Jae ec;refine Zat u _ ⟨rfl,SqT.of (sc _ _ hu),rfl,_,_,rfl,_,_,rfl,rfl,?_⟩;simp only[List.set_cons_zero,List.set_cons_succ];subst hY;refine Ztz λY hY=>?_;have s0c:=s6.trans sc;refine⟨_,rfl,b,rfl,b3,λS2 us2 H7 s7 hS2=>⟨S2,rfl,⟨_,SqL.of hS2.lst⟩,Zcj (xs:=us2.map V.ref) (λj σ Hd=>∃ v12 v13 v14 v15:Option V,σ=[some (.int a),some (.int b),some (.ref t),some (.ref t'),some (.ref g),some (.ref d),some (.ref x1),some (.ref x2),some (.int (Zh5 a b Tb ((Zd4 a).take i) (Zd4 b) M+Zh5 a b Tb [c] ((Zd4 b).take j) M:Nat)),some (.int (Zh5 a b Tb ((Zd4 a).take i) (Zd4 b) Tb+Zh5 a b Tb [c] ((Zd4 b).take j) Tb:Nat)),some (.ref n1),some (.ref n2),v12,v13,v14,v15]/\Same H7 Hd)
    ⟨v12,v13,v14,v15,rfl,Same.refl _⟩ (λi σ Hc _ ⟨_,_,_,_,_,sc⟩=>SqL.of (sc _ _ hS2.lst)) ?_ ?_⟩⟩
   .intro j y σ Hd hi e92;refine Zg1 e92 λv12 v13 v14 v15 e910 sd=>?_;clear e92;obtain rfl:=e910;refine Zrn λD3 hD3=>?_;have eS2:=hS2.at'.1;have hin2:j<us2.length:=by have:=(Jaf.mp hi).1;rwa [Jab] at this
    have eu2:us2[j]?=some (us2[j]'hin2):=Jaa _;rw[Jac,eu2] at hi;cases hi;refine Zac (hS2.at'.at' eu2) λc' ec' e911=>?_;obtain⟨f1,f2,k1,k2,ks1,ks2,hu2,F1,F2⟩:=e911;generalize us2[j]'hin2=u2' at *;have hd:=Jae ec';have s57:=s0c.trans s7;have s7d:=s7.trans sd;have s5d:=s57.trans sd;have tail3:∀ X:Iv,Zh5 a b Tb [c] ((Zd4 b).take (j+1)) X=Zh5 a b Tb [c] ((Zd4 b).take j) X+(if Zib a b Tb c c'=X then 1 else 0):=λX=>by
     rw[Jdh,ec'];exact Zt2
    refine Zat u2' _ ⟨rfl,SqT.of (sd _ _ hu2),rfl,_,_,rfl,_,_,rfl,rfl,?_⟩;simp only[List.set_cons_zero,List.set_cons_succ];have T1d:=TabB.same T1 (t5.trans s5d);have T2d:=TabB.same T2' (t5.trans s5d);have C1d:=TabB.same (TabB.same C1 sc) s7d;have C2d:=TabB.same (TabB.same C2 sc) s7d;have F1d:=TabB.same F1 sd;have F2d:=TabB.same F2 sd;have sb1d:=sb1.same s5d;have sb2d:=sb2.same s5d;have pc:=Jay.mp (Zmp a a3) c hc;have pd:=Jay.mp (Zmp b b3) c' hd;rw[Ja5,Ja5,Ja0,Ja0,Ja0] at pc pd;have sc1:=Zba a3 a3 pc.1.1;have sd2:=Zba b3 b3 pd.1.2;subst hY;refine Zc9 λZ hZ=>?_;walk_at "wp";refine Zoa t r n1 m1 rs ms1 b a a Tb c.1 ⟨rfl,T1d,C1d,sT,sc1,b3,a3,a3,λv1 w1 vs1 H8 s8 _ V1=>⟨f2,k2,v1,w1,ks2,vs1,b,b,a,c'.2,_,rfl,TabB.same F2d s8,V1,sd2,Zr5 sT,b3,b3,a3,λv2 w2 vs2 H9 s9 _ V2=>?_⟩⟩;have s89:=s8.trans s9;have s5e:=s5d.trans s89;have sde:=sd.trans s89;have led:∀ {X:Iv} {x y:Addr} {He:Hp} {Q2:VK} {dx z1 l1 dy z2 l2:Addr} {ts ts':List Addr} {Hr Hs:Hp},Same H9 He->StB Hr S C G H9 x 2 2 [(0,1)] [(a:Int),(b:Int)] 7 [toM Tb] dx g d z1 l1 lp [V.ref ta] ts->StB Hs S C G H9 y 2 2 [(0,1)] [(a:Int),(b:Int)] 7 [toM X] dy g d z2 l2 lp [V.ref ta] ts'->(∀ (fo:Bool) Hf,Same He Hf->(fo=true ↔ Zib a b Tb c c'=X)->Q2 (.bl fo) Hf)->∀ p,He p=none->∀ p',upd He p (.lst [V.ref n1,V.ref f1]) p'=none->Zov S C G [.ref x,.ref y,.ref p,.ref p'] (upd (upd He p (.lst [V.ref n1,V.ref f1])) p' (.lst [V.ref n2,V.ref f2])) Q2 E0:=λ{X x y He Q2 dx z1 l1 dy z2 l2 ts ts' Hr Hs} se sx sy q2 p hp p' hp'=>by
     have sf:=(Same.new (o:=.lst [V.ref n1,V.ref f1]) hp).trans (Same.new (o:=.lst [V.ref n2,V.ref f2]) hp');have sg:=se.trans sf;have s8g:=s89.trans sg;exact Zfw x y p p' ⟨rfl,_,_,x,p,p',dx,g,d,z1,l1,lp,y,dy,g,d,z2,l2,lp,2,2,7,7,7,7,_,_,[(0,1)],[(a:Int),(b:Int)],ts,ts',[n1,f1],[n2,f2],[toM Tb],[toM X],[toM c.1,toM c'.1],[toM c.2,toM c'.2],rfl,sx.same sg,sy.same sg,Zcv,ip_01,⇑0,Zuz ((Same.new hp') _ _ Zab) (TabB.same C1d s8g) (TabB.same F1d s8g),Zuz Zab (TabB.same C2d s8g) (TabB.same F2d s8g),⇑0,⇑0,⇑0,⇑0,⇑0,⇑0,λfo Hf sff ef=>q2 fo Hf (sf.trans sff) (ef.trans (led_two a3 b3 sT hc hd))⟩
    subst hZ;refine Zc9 λZ hZ=>?_;walk_at "wp";refine⟨⇑0,λp hp=>⟨⇑0,λp' hp'=>led (Same.refl _) (sb1d.same s89) (sb2d.same s89) (λfo H10 s10 ef=>?_) p hp p' hp'⟩⟩;subst hZ;refine cutI λZ hZ=>?_;walk_at "wp";have V2':=TabB.same V2 s10;have Tm:=TabB.same T2d (s89.trans s10);refine Zac (Zg5 (K:=K) (k':=0) V2' sM.mat Tm.tv) λcs hcs ecs=>?_;have ecs':cs.all id=true ↔ Zib a b Tb c c'=M:=ecs.trans ⟨Zdo,λh=>by rw[<- h]⟩;obtain rfl:fo=cs.all id:=Jbr.mpr (ef.trans ecs'.symm);refine Zat _ _ ⟨⟨rfl,rfl⟩,_,rfl,_,.bl _,_,Zfc K,Zfd ⇑0 ⟨_,SqT.of V2'.tv.tup,_,SqT.of Tm.tv.tup,cs,hcs,Zfd (by simp) ?_⟩⟩;refine⟨⇑0,λp hp=>⟨⇑0,λp' hp'=>led s10 (sb1d.same s89) (sb1d.same s89) (λfo H11 s11 ef=>?_) p hp p' hp'⟩⟩;refine .inr ⟨fo,rfl,?_⟩;rw[Zu1 ecs',Zu1 ef,<- Int.natCast_add,<- Int.natCast_add,Nat.add_assoc,Nat.add_assoc,<- tail3,<- tail3];subst hD3;exact Zfw _ _ _ _ ⟨rfl,sde.trans (s10.trans s11)⟩
   .intro σ Hd e93;refine Zg1 e93 λv12 v13 v14 v15 e912 sd=>?_;clear e93;obtain rfl:=e912;have tl2:∀ X:Iv,Zh5 a b Tb ((Zd4 a).take i) (Zd4 b) X+Zh5 a b Tb [c] ((Zd4 b).take (us2.map V.ref).length) X=Zh5 a b Tb ((Zd4 a).take (i+1)) (Zd4 b) X:=λX=>by
     rw[Jab,hS2.at'.1,Jb7 (Jah _),Jdh,ec];exact Zq7.symm
    rw[tl2,tl2];subst hD2;exact xI6_1 _ _ _ _ _ _ ⟨rfl,(sc.trans s7).trans sd⟩
  .intro σ Hc e94;refine Zoc e94 λv10 v11 v12 v13 v14 v15 e913 sc=>?_;clear e94;obtain rfl:=e913;have s5c:=t5.trans (s6.trans sc);rw[Jab,hS.at'.1,Jb7 (Jah _)];subst hX;walk_at "wp";have rkT:=λ{Hx:Hp} {Q2:VK} {u y:Addr} {us:List Addr} {X:Iv} (sx:Same Hc Hx) (tx:T2 Hx b a u y us X) (mX:X∈Zcc b a) (q2:∀ H',Same Hx H'->Q2 (.int (rk2 b a X:Nat)) H')=>show Zma G PL [.ref g,.ref u] Hx Q2 E0 from ⟨g,u,y,us,2,b,7,a,toM X,rfl,hg5.same ((s6.trans sc).trans sx),Zcv,tx.tv.tup,⟨tx.tv.lst,tx.tv.row,tx.hw,tx.gd,by rw[tx.hl];omega,∅,⇑0,nb3 a3⟩,sw_two tx.hw,(s5c.trans sx) _ _ hPL,λrk H' s' ir=>(rk_eq a3 b3 mX (tx.hl ▸ ir)) ▸ q2 H' s'⟩
   refine rkT (Same.refl _) (TabB.same T1 s5c) mT λHd sd=>rkT sd (TabB.same T2' (s5c.trans sd)) mM λHe se=>⟨rfl,.inr ?_,?_⟩
   .split <;> decide
   .have e:decide (((Zh5 a b Tb (Zd4 a) (Zd4 b) M:Nat):Int)=((Zh5 a b Tb (Zd4 a) (Zd4 b) Tb:Nat):Int)*if decide (V.int (rk2 b a Tb:Nat)=V.int (rk2 b a M:Nat))=true then 1 else 0)=true:=by
     rw[Ja0,cnt_end a3 b3 mT mM,Jdw];congr 1;by_cases h:rk2 b a Tb=rk2 b a M
     .rw [if_pos h,if_pos (Jal (by rw[h]))];rfl
     .rw [if_neg h,if_neg λz=>h (by have:=V.int.inj (Jbm z);omega)];rfl
    rw[e];exact q He (s5c.trans (sd.trans se))
theorem Ztx (ns:List Int)(lo hi:Option Int):∃ ms:List Int,Zty (ns.map V.int) lo hi=ms.map V.int/\ms.length<=ns.length:=by
 refine⟨(ns.drop (HT.sIx (ns.map V.int).length 0 lo)).take (HT.sIx (ns.map V.int).length (ns.map V.int).length hi-HT.sIx (ns.map V.int).length 0 lo),?_,?_⟩
 .unfold Zty;rw[List.map_take,List.map_drop]
 .rw [Jbg,Jcy];exact oz22
theorem T2.ext {l:Addr}{H0 H H':Hp}{h w:Nat}{t r:Addr}{rs:List Addr}{A:Iv}(q:T2 H h w t r rs A)(b0:Bag H0 l)(nw:New H0 t r rs)(e:Ext l H H'):T2 H' h w t r rs A:=
 ⟨⟨e _ _ (b0.ne nw.t) q.tv.tup,e _ _ (b0.ne nw.r) q.tv.lst,⟨q.tv.row.1,λi a x e1 e2=>by
  obtain⟨row,er,rfl⟩:∃ row,A[i]?=some row/\x=toR row:=by
   rw[Jac] at e2;cases e:A[i]? with
   | none=>rw[e] at e2;cases e2
   | some row=>rw[e] at e2;cases e2;exact⟨row,rfl,rfl⟩
  exact rowI (e _ _ (b0.ne (nw.rs a (Jae e1))) (I_row (q.tv.row.2 i a _ e1 e2)))⟩,q.tv.nin⟩,q.hl,q.hw,q.gd⟩
theorem Zgx {H5 H6 Hx:Hp}{l S1:Addr}{h w:Nat}{ts:List Addr}{R:V->Hp->Prop}(hS:TsI H5 H6 h w S1 ts (Zcc h w))(h3:h<3)(w3:w<3)(b5:Bag H5 l)(e:Ext l H6 Hx)(b:Bag Hx l)(k:∀ t r rs A Hy,A∈Zcc h w->Ext l Hx Hy->Bag Hy l->T2 Hy h w t r rs A->New H5 t r rs->R (.ref t) Hy):
  Zjw [.ref l,.int (ts.map V.ref).length] Hx (λy H2=>∃ x x1,y=.int x1/\SqL K H2 S1 x/\∃ x2,atI x x1=some x2/\R x2 H2) E0:=by
 have tl:=hS.len;have t16:=Zi0 h h3 w w3;refine b.draw (by rw[Jab];omega) (by rw[Jab];omega) λi Hy i0 i1 e' b'=>?_;rw[Jab] at i1;obtain⟨j,rfl⟩:=Jcu i0;have ej:ts[j]?=some (ts[j]'(by omega)):=Jaa _;have eA:(Zcc h w)[j]?=some ((Zcc h w)[j]'(by omega)):=Jaa _;refine Zbd (hS.tab j _ _ ej eA) λr rs tA nw=>?_;have ee:=e.trans e';exact Zat _ _ ⟨rfl,SqL.of (ee _ _ (b5.ne hS.fl) hS.lst),_,atI_r ej,k _ r rs _ Hy (Jae eA) e' b' (T2.ext tA b5 nw ee) nw⟩
def Zr8 (K:Frag)(PL:Addr):L2.Sp:=λvs H Q _=>∃ (a:Addr) (ns:List Int),vs=[.ref a]/\SqL K H a (ns.map V.int)/\ns.length<=63/\H PL=some lamO/\∀ H',H' PL=some lamO->Q (.bl true) H'
theorem ok_law (F:Fun K "law" "law" Zi6 f fd)(T:Txt K mg C G S)(Ybo:Cal P w K mg base "_law_cell" 1 (Zox K))(Ya4:Cal P w K mg base "_law_bag" 1 spBag)(Yaf:Cal P w K mg base "_law_draw" 1 Zjw)(Yad:Cal P w K mg base "_law_tables" 1 Zju)(Yax:Cal P w K mg base "_law_two_right" 16 (Zor C G PL))(Ya9:Cal P w K mg base "_law_loop_right" 16 Zou):FnOk P w K mg base CX0 17 f fd ["_law_script"] (Zr8 K PL):=by
 have nd:=Zuk.nd;refine F.ok Zuk (λvs H Q E h=>?_) (λcdv A outer s H vs Q E hr h=>?_)
 .refine Zbd h λa ns e93 _=>?_;clear h;obtain rfl:=e93;rfl
 .refine Znj h λa ns e94 hS hl hPL q=>?_;clear h;obtain rfl:=e94;refine⟨_,((Zdg Jbf rfl (Za0 (Zj8<|>(@Za7 _ _ _ _ ((Ybo<$>hr<$>((pv 0)<&>(Zaf<&>Zaa)))<&>Zaa))<&&>(@Zms _ _ _ _ _ _ _ _ _ _ Zoz (pv 0) (@Zja _ _ _ Zaf) (@Zja _ _ _ Zaf)))) (1>>>nd) ((2|||nd|||(Ya4<$>hr<$>((pvr 1)<&>Zaa)))<*>((3|||nd|||(Yaf<$>hr<$>((pvr 2)<&>(Zaf<&>Zaa))))<*>((4|||nd|||(Yaf<$>hr<$>((pvr 2)<&>(Zaf<&>Zaa))))<*>((5|||nd|||(Yad<$>hr<$>((pvr 4)<&>((pvr 3)<&>Zaa))))<*>((6|||nd|||(Zbg<|>(pvr 5)<||>(Yaf<$>hr<$>((pvr 2)<&>((Za1 Zam rfl T.n_len Jbb ((pvr 5)<&>Zaa))<&>Zaa)))))<*>((@Za5 _ _ _ _ _ _ _ _ (Za6 (Zbb (Yax<$>hr<$>((pvr 3)<&>((pvr 4)<&>((pvr 6)<&>((Zbg<|>(pvr 5)<||>(Yaf<$>hr<$>((pvr 2)<&>((Za1 Zam rfl T.n_len Jbb ((pvr 5)<&>Zaa))<&>Zaa))))<&>Zaa))))))) (~~~Zct) Zak)<*>((5|||nd|||(Yad<$>hr<$>((pvr 3)<&>((pvr 3)<&>Zaa))))<*>((6|||nd|||(Zbg<|>(pvr 5)<||>(Yaf<$>hr<$>((pvr 2)<&>((Za1 Zam rfl T.n_len Jbb ((pvr 5)<&>Zaa))<&>Zaa)))))<*>(@Zau _ _ _ (@Za5 _ _ _ _ _ _ _ _ (Za6 (Zbb (Ya9<$>hr<$>((pvr 3)<&>((pvr 6)<&>((Zbg<|>(pvr 5)<||>(Yaf<$>hr<$>((pvr 2)<&>((Za1 Zam rfl T.n_len Jbb ((pvr 5)<&>Zaa))<&>Zaa))))<&>Zaa)))))) (~~~Zct) Zak)))))))))))<*>(~~~Zct)),?_⟩;refine Zc9 λXX hXX=>?_;refine Ztz λY hY=>?_;refine Zac (Ztx ns (some 1) (some 3)) λms hms hml=>?_;refine⟨_,rfl,a,ns,0,rfl,hS,hl,⇑0,λc0=>⟨by show 1<=sizeLine;decide,λp1 hp1=>⟨_,rfl,_,rfl,_,rfl,a,_,rfl,(Same.new hp1).seq hS,λp2 hp2=>?_⟩⟩⟩;rw[hms] at *;refine Zfw p1 p2 _ _ ⟨rfl,rfl,by rw[Zah (Zai Zab hp2)];exact Zab,Zab,Jbw (Zap (by rw[Jab];show 1+ms.length<=1000;omega)),λp3 hp3=>?_⟩;have hz:[V.int c0]++ms.map V.int=(c0::ms).map V.int:=rfl;rw[hz];have e3:upd (upd (upd H p1 (.lst [V.int c0])) p2 (.lst (ms.map V.int))) p3 (.lst ((c0::ms).map V.int)) p3=some (.lst ((c0::ms).map V.int)):=Zab;have hP0:=(((Same.new (o:=.lst [V.int c0]) hp1).trans (Same.new (o:=.lst (ms.map V.int)) hp2)).trans (Same.new (o:=.lst ((c0::ms).map V.int)) hp3)) _ _ hPL;generalize upd (upd (upd H p1 (.lst [V.int c0])) p2 (.lst (ms.map V.int))) p3 (.lst ((c0::ms).map V.int))=H0 at *;refine⟨p3,rfl,⟨_,SqL.of e3⟩,Zcj (xs:=(c0::ms).map V.int) (λi σ H2=>∃ v1 v2 v3 v4 v5 v6:Option V,σ=[some (.ref a),v1,v2,v3,v4,v5,v6]/\Same H0 H2)
   ⟨none,none,none,none,none,none,rfl,Same.refl _⟩ (λi σ H2 _ ⟨_,_,_,_,_,_,_,sH⟩=>SqL.of (sH _ _ e3)) ?_ ?_⟩
  .intro i x σ H2 hi e91;refine Zoc e91 λv1 v2 v3 v4 v5 v6 e95 s2=>?_;clear e91;obtain rfl:=e95;obtain⟨c,rfl⟩:∃ c:Int,x=.int c:=by
    rw[Jac] at hi;cases e:(c0::ms)[i]? with
    | none=>rw[e] at hi;cases hi
    | some c=>rw[e] at hi;cases hi;exact⟨c,rfl⟩
   refine Zrn λD2 hD2=>?_;simp only[Zbh,List.set_cons_zero,List.set_cons_succ];subst hY;refine Zc9 λX hX=>?_;walk_at "wp";refine⟨c,rfl,λl xa xb hl0 xb0 xb1=>?_⟩;have b3:Bag (upd H2 l (Zu5 xa xb)) l:=Bag.set xb0 xb1;have fl:=s2.free hl0;have s3:=s2.trans (Same.new (o:=Zu5 xa xb) hl0);generalize upd H2 l (Zu5 xa xb)=H3 at *;subst hX;refine Zc9 λX hX=>?_;walk_at "wp";refine b3.draw (n:=3) ⇑0 ⇑0 λa1 H4 a0 a3 e4 b4=>?_;have s4:=Same.thru s3 fl e4;subst hX;refine Zc9 λX hX=>?_;walk_at "wp";refine b4.draw (n:=3) ⇑0 ⇑0 λb1 H5 b0 b3 e5 b5=>?_;have s5:=Same.thru s4 fl e5;obtain⟨an,rfl⟩:=Jcu a0;obtain⟨bn,rfl⟩:=Jcu b0;have a3:an<3:=∅
   have b3:bn<3:=∅
   subst hX;refine Zc9 λX hX=>?_;walk_at "wp";refine Zat bn an ⟨rfl,b3,a3,λS1 ts H6 s6 hS1=>?_⟩;have b6:=b5.same s6;have t6:=s5.trans s6;have tl:=hS1.len;have t16:=Zi0 bn b3 an a3;subst hX;refine Zc9 λX hX=>?_;walk_at "wp";refine⟨_,.inl (SqL.of hS1.lst),Zgx hS1 b3 a3 b5 (Ext.refl _ _) b6 λt r rs A1 H7 mA e7 b7 TA nwA=>?_⟩;have t7:=Same.thru t6 fl e7;subst hX;refine Zc9 λX hX=>?_;walk_at "wp";have nS1:=b5.ne hS1.fl;have hS7:=e7 _ _ nS1 hS1.lst;refine⟨_,.inl (SqL.of hS7),Zgx hS1 b3 a3 b5 e7 b7 λt' r' rs' A2 H8 mB e8 b8 TB nwB=>?_⟩;have t8:=Same.thru t7 fl e8;refine xI10_1 an bn t r t' r' rs rs' A1 A2 ⟨rfl,a3,b3,T2.ext TA b5 nwA e8,TB,mA,mB,t8 _ _ hP0,λH9 s9=>⟨true,rfl,Zfd ⇑0 ?_⟩⟩;have t9:=t8.trans s9;have b9:=b8.same s9;clear TB TA nwA nwB hS7 hS1 e7 e8 s9 s6 e4 e5 t6 t7 t8 s5 s4 s3;subst hX;refine Zc9 λX hX=>?_;walk_at "wp";refine Zat an an ⟨rfl,a3,a3,λS2 us H10 s10 hS2=>?_⟩;have b10:=b9.same s10;have t10:=t9.trans s10;subst hX;refine Zc9 λX hX=>?_;walk_at "wp";refine⟨_,.inl (SqL.of hS2.lst),Zgx hS2 a3 a3 b9 (Ext.refl _ _) b10 λt r rs A1 H11 mA e11 b11 TA nwA=>?_⟩;have t11:=Same.thru t10 fl e11;subst hX;walk_at "wp";refine⟨_,.inl (SqL.of (e11 _ _ (b9.ne hS2.fl) hS2.lst)),Zgx hS2 a3 a3 b9 e11 b11 λt' r' rs' A2 H12 mB e12 b12 TB nwB=>?_⟩;have t12:=Same.thru t11 fl e12;refine Zrp an t r t' r' rs rs' A1 A2 ⟨rfl,a3,T2.ext TA b9 nwA e12,TB,Zba a3 a3 mA,Zba a3 a3 mB,λH13 s13=>⟨true,rfl,Zfd ⇑0 ?_⟩⟩;subst hD2;exact xI6_1 _ _ _ _ _ _ ⟨rfl,t12.trans s13⟩
  .intro σ H2 e92;refine Zoc e92 λv1 v2 v3 v4 v5 v6 e96 s2=>?_;clear e92;obtain rfl:=e96;subst hXX;exact q H2 (s2 _ _ hP0)
end
end Pf
set_option maxHeartbeats 4000000
namespace Pf
open PySem L2 PyProof.Rows
open PySem.W (nsIn codeIn keepIn fnOf findIn isFn mg_of mg_none_of plainGet hasDictIn plainOver makesIn)
theorem ex1 {us:List Value}(hl:us.length=1):∃ a0,us=[a0]:=match us,hl with|[a0],_=>⟨a0,rfl⟩
theorem ex2 {us:List Value}(hl:us.length=2):∃ a0 a1,us=[a0,a1]:=match us,hl with|[a0,a1],_=>⟨a0,a1,rfl⟩
theorem ex3 {us:List Value}(hl:us.length=3):∃ a0 a1 a2,us=[a0,a1,a2]:=match us,hl with|[a0,a1,a2],_=>⟨a0,a1,a2,rfl⟩
theorem ex4 {us:List Value}(hl:us.length=4):∃ a0 a1 a2 a3,us=[a0,a1,a2,a3]:=match us,hl with|[a0,a1,a2,a3],_=>⟨a0,a1,a2,a3,rfl⟩
theorem ex5 {us:List Value}(hl:us.length=5):∃ a0 a1 a2 a3 a4,us=[a0,a1,a2,a3,a4]:=match us,hl with|[a0,a1,a2,a3,a4],_=>⟨a0,a1,a2,a3,a4,rfl⟩
def Gf (K:Frag)(x:Str)(st:Stmt)(f:Addr):Prop:=nsIn K mainGlobals x=some (some (.ref f))/\∃ fd,Fun K x x st f fd
theorem all_mk {l:PySem.W.OpenLaw}{w:World}{K:Frag}{h:Heap}{mg:Str->Option Value}{fa C Cg Cs:Addr}{t1 t2 t3 t4 t5:Tok}(hpt:l.prog.given.tree=none){cL PL:Addr}(X:K.In h)(G:h.Ns mainGlobals mg)(hfa:mg "law" = some (.ref fa)){f1 f2 f3 f4 f5 f6 f7 f8 f9 f10 f11 f12 f13 f14 f15 f16 f17 f18 f19 f20 f21 f22 f23 f24 f25 f26 f27 f28 f29 f30 f31 f32 f33 f34 f35 f36 f37 f38 f39 f40 f41 f42 f43 f44 f45 f46 f47 f48 f49 f50 f51 f52 f53:Addr}{od19 an19 od48 an48 od51 an51:Option Addr}{sl19 sl48 sl51:Array (Option Value)}{oc19 kV19 dc19 pm19 ct19 oc48 kV48 dc48 pm48 ct48 cd48 oc51 kV51 dc51 pm51 ct51 cd51:Value}{D51:Addr}{doc51:Value}{dod51:Option Addr}{dosl51:Array (Option Value)}{dn51:Nat}{dt51:Tok}(u1:Gf K "is_whole" Zek f1)(u2:Gf K "makes_drawing" Zcm f2)(u3:Gf K "is_arrow" Zf4 f3)(u4:Gf K "common_divisor" Zcg f4)(u5:Gf K "not_both_long" Zcl f5)(u6:Gf K "shortened" Ze5 f6)(u7:Gf K "leading_steps" Zcn f7)(u8:Gf K "common_multiple" Zb5 f8)(u9:Gf K "is_table" Zf2 f9)(u10:Gf K "is_row" Zi7 f10)(u11:Gf K "plain" Zli f11)(u12:Gf K "noughts" Zhh f12)(u13:Gf K "product" Zhg f13)(u14:Gf K "whole_row" Ze3 f14)(u15:Gf K "row_times" Ze6 f15)(u16:Gf K "turned_about" Zc4 f16)(u17:Gf K "tidied" Zi5 f17)(u18:Gf K "cleared" Zhm f18)(a19:nsIn K mainGlobals "leading_row" = some (some (.ref f19)))(l19:K.lookup f19=some ⟨oc19,od19,.func (fnOf "leading_row" "leading_row" (Zb6 Zbe) (Zbu Zbe) (Zae Zbe) .none kV19 dc19 pm19 an19 (.ref cL) ct19),sl19⟩)(c19:codeIn K (.ref cL) "leading_row" = true)(k19:keepIn K (.ref f19)=true)(u20:Gf K "swept" Zlh f20)(u21:Gf K "rank" Zo5 f21)(u22:Gf K "are_sizes" Zfa f22)(u23:Gf K "is_table_of" Zdr f23)(u24:Gf K "are_tables" Zef f24)(u25:Gf K "stands_on" Ze4 f25)(u26:Gf K "are_changes" Zdt f26)(u27:Gf K "is_beside" Ze9 f27)(u28:Gf K "are_backs" Zfb f28)(u29:Gf K "is_led" Zi8 f29)(u30:Gf K "lets_by_change" Zce f30)(u31:Gf K "lets_by" Zhi f31)(u32:Gf K "is_prime" Zf3 f32)(u33:Gf K "tells_ground" Zc5 f33)(u34:Gf K "fraction" Zf5 f34)(u35:Gf K "inverse" Zhl f35)(u36:Gf K "rest_of" Zhf f36)(u37:Gf K "is_fraction" Zds f37)(u38:Gf K "_law_cell" Zf1 f38)(u39:Gf K "_law_bag" Zhk f39)(u40:Gf K "_law_draw" Zf0 f40)(u41:Gf K "_law_tables" Zee f41)(u42:Gf K "_law_product" Zdq f42)(u43:Gf K "_law_plain" Ze7 f43)(u44:Gf K "_law_pairs" Ze8 f44)(u45:Gf K "_law_let" Zhj f45)(u46:Gf K "_law_two_right" Zco f46)(u47:Gf K "_law_loop_right" Zcf f47)(a48:nsIn K mainGlobals "law" = some (some (.ref f48)))(l48:K.lookup f48=some ⟨oc48,od48,.func (fnOf "law" "law" (Zb6 Zi6) (Zbu Zi6) (Zae Zi6) .none kV48 dc48 pm48 an48 cd48 ct48),sl48⟩)(c48:codeIn K cd48 "law" = true)(k48:keepIn K (.ref f48)=true)(aC:nsIn K mainGlobals "Drawing" = some (some (.ref C)))(a49:findIn K (.ref C) "__init__" = some (some (.ref f49)))(i49:isFn K (.ref f49)=true)(u49:∃ fd,Fun K "__init__" "Drawing.__init__" Zc6 f49 fd)(pg:plainGet K C Str.empty=true)(hd:hasDictIn K C=true)(po:plainOver K C=true)(sa:findIn K (.ref C) "__setattr__" = some (some (.builtin "object.__setattr__")))(mk:makesIn K C=true)(kc:keepIn K (.ref C)=true)(nM:findIn K (.ref C) "many" = some none)(nA:findIn K (.ref C) "arrows" = some none)(aCg:nsIn K mainGlobals "Ground" = some (some (.ref Cg)))(a50:findIn K (.ref Cg) "__init__" = some (some (.ref f50)))(i50:isFn K (.ref f50)=true)(u50:∃ fd,Fun K "__init__" "Ground.__init__" Zdu f50 fd)(a51:findIn K (.ref Cg) "number" = some (some (.ref f51)))(i51:isFn K (.ref f51)=true)(l51:K.lookup f51=some ⟨oc51,od51,.func (fnOf "number" "Ground.number" (Zb6 Zaq) (Zbu Zaq) (Zae Zaq) (.ref D51) kV51 dc51 pm51 an51 cd51 ct51),sl51⟩)(dl51:K.lookup D51=some ⟨doc51,dod51,.seq #[.int 1 dt51] dn51,dosl51⟩)(c51:codeIn K cd51 "Ground.number" = true)(k51:keepIn K (.ref f51)=true)(a52:findIn K (.ref Cg) "is_number" = some (some (.ref f52)))(i52:isFn K (.ref f52)=true)(u52:∃ fd,Fun K "is_number" "Ground.is_number" Zbz f52 fd)(pg_Cg:plainGet K Cg Str.empty=true)(hd_Cg:hasDictIn K Cg=true)(po_Cg:plainOver K Cg=true)(sa_Cg:findIn K (.ref Cg) "__setattr__" = some (some (.builtin "object.__setattr__")))(mk_Cg:makesIn K Cg=true)(kc_Cg:keepIn K (.ref Cg)=true)(nP:findIn K (.ref Cg) "prime" = some none)(aCs:nsIn K mainGlobals "Standing" = some (some (.ref Cs)))(a53:findIn K (.ref Cs) "__init__" = some (some (.ref f53)))(i53:isFn K (.ref f53)=true)(u53:∃ fd,Fun K "__init__" "Standing.__init__" Zcp f53 fd)(pg_Cs:plainGet K Cs Str.empty=true)(hd_Cs:hasDictIn K Cs=true)(po_Cs:plainOver K Cs=true)(sa_Cs:findIn K (.ref Cs) "__setattr__" = some (some (.builtin "object.__setattr__")))(mk_Cs:makesIn K Cs=true)(kc_Cs:keepIn K (.ref Cs)=true)(nSg:findIn K (.ref Cs) "ground" = some none)(nSd:findIn K (.ref Cs) "drawing" = some none)(nSs:findIn K (.ref Cs) "sizes" = some none)(nSt:findIn K (.ref Cs) "tables" = some none)(g1:nsIn K mainGlobals "MOST_POINTS" = some (some (.int 8 t1)))(g2:nsIn K mainGlobals "MOST_ARROWS" = some (some (.int 9 t2)))(g3:nsIn K mainGlobals "LARGEST_PRIME" = some (some (.int 97 t3)))(g4:nsIn K mainGlobals "LONG" = some (some (.int 4000 t4)))(g5:nsIn K mainGlobals "LEADING" = some (some (.int 126 t5)))(z0:nsIn K mainGlobals "len" = some none)(z1:nsIn K mainGlobals "range" = some none)(z2:nsIn K mainGlobals "list" = some none)(z3:nsIn K mainGlobals "min" = some none)(z4:nsIn K mainGlobals "int" = some none)(z5:nsIn K mainGlobals "bool" = some none)(z6:nsIn K mainGlobals "tuple" = some none)(z7:nsIn K mainGlobals "all" = some none)(z8:nsIn K mainGlobals "isinstance" = some none)(z9:nsIn K mainGlobals "abs" = some none)(z10:nsIn K mainGlobals "zip" = some none)(z11:nsIn K mainGlobals "enumerate" = some none)(z12:nsIn K mainGlobals "reversed" = some none)(z13:nsIn K mainGlobals "sum" = some none)(z14:nsIn K mainGlobals "any" = some none)(hcL:hdIn K cL PL=true)(x_ic1:findIn K (.ref Cs) "__class__" = some (some (.builtin "object.__class__")))(x_ic2:PySem.W.specialIn K (.builtin "object.__class__") "__get__" = some (some (.builtin "getset_descriptor.__get__")))(x_ic3:PySem.W.takesIn K (.builtin "object.__class__")=some true)(x_ic4:PySem.W.mroIn K Cs (.type "object")=some true):
  ∃ fd:FuncData,(∀ (s:Shared) (v:Value),BindsTo s fd ⟨[v],[]⟩ [("_law_script",v)])/\∀ base:Heap,K.In base->base.Ns mainGlobals mg->FnOk l.prog w K mg base CX0 17 fa fd ["_law_script"] (Zr8 K PL):=by
 have e:=hfa.symm.trans (mg_of X G a48);cases e;have T:Txt K mg C Cg Cs:=⟨⟨pg,hd,po,sa⟩,nM,nA,⟨pg_Cg,hd_Cg,po_Cg,sa_Cg⟩,nP,⟨pg_Cs,hd_Cs,po_Cs,sa_Cs⟩,nSg,nSd,nSs,nSt,mg_none_of X G z0,mg_none_of X G z1,mg_none_of X G z2,mg_none_of X G z3,mg_none_of X G z4,mg_none_of X G z5,mg_none_of X G z6,mg_none_of X G z7,mg_none_of X G z8,mg_none_of X G z9,mg_none_of X G z10,mg_none_of X G z11,mg_none_of X G z12,mg_none_of X G z13,mg_none_of X G z14,⟨t1,mg_of X G g1⟩,⟨t2,mg_of X G g2⟩,⟨t3,mg_of X G g3⟩,⟨t4,mg_of X G g4⟩,⟨t5,mg_of X G g5⟩,mg_of X G aCs,x_ic1,x_ic2,x_ic3,x_ic4⟩
 obtain⟨a1,_,F1⟩:=u1;have b1:=F1.binds (ps:=["thing"]) λ_ _ _ _ _ _ us hl=>by obtain⟨_,rfl⟩:=ex1 hl;rfl
 obtain⟨a2,_,F2⟩:=u2;have b2:=F2.binds (ps:=["many","arrows"]) λ_ _ _ _ _ _ us hl=>by obtain⟨_,_,rfl⟩:=ex2 hl;rfl
 obtain⟨a3,_,F3⟩:=u3;have b3:=F3.binds (ps:=["many","thing"]) λ_ _ _ _ _ _ us hl=>by obtain⟨_,_,rfl⟩:=ex2 hl;rfl
 obtain⟨a4,_,F4⟩:=u4;have b4:=F4.binds (ps:=["one","other"]) λ_ _ _ _ _ _ us hl=>by obtain⟨_,_,rfl⟩:=ex2 hl;rfl
 obtain⟨a5,_,F5⟩:=u5;have b5:=F5.binds (ps:=["one","other"]) λ_ _ _ _ _ _ us hl=>by obtain⟨_,_,rfl⟩:=ex2 hl;rfl
 obtain⟨a6,_,F6⟩:=u6;have b6:=F6.binds (ps:=["one","other"]) λ_ _ _ _ _ _ us hl=>by obtain⟨_,_,rfl⟩:=ex2 hl;rfl
 obtain⟨a7,_,F7⟩:=u7;have b7:=F7.binds (ps:=["one","other"]) λ_ _ _ _ _ _ us hl=>by obtain⟨_,_,rfl⟩:=ex2 hl;rfl
 obtain⟨a8,_,F8⟩:=u8;have b8:=F8.binds (ps:=["one","other"]) λ_ _ _ _ _ _ us hl=>by obtain⟨_,_,rfl⟩:=ex2 hl;rfl
 obtain⟨a9,_,F9⟩:=u9;have b9:=F9.binds (ps:=["ground","thing"]) λ_ _ _ _ _ _ us hl=>by obtain⟨_,_,rfl⟩:=ex2 hl;rfl
 obtain⟨a10,_,F10⟩:=u10;have b10:=F10.binds (ps:=["ground","wide","thing"]) λ_ _ _ _ _ _ us hl=>by obtain⟨_,_,_,rfl⟩:=ex3 hl;rfl
 obtain⟨a11,_,F11⟩:=u11;have b11:=F11.binds (ps:=["ground","many"]) λ_ _ _ _ _ _ us hl=>by obtain⟨_,_,rfl⟩:=ex2 hl;rfl
 obtain⟨a12,_,F12⟩:=u12;have b12:=F12.binds (ps:=["ground","high","wide"]) λ_ _ _ _ _ _ us hl=>by obtain⟨_,_,_,rfl⟩:=ex3 hl;rfl
 obtain⟨a13,_,F13⟩:=u13;have b13:=F13.binds (ps:=["ground","one","other"]) λ_ _ _ _ _ _ us hl=>by obtain⟨_,_,_,rfl⟩:=ex3 hl;rfl
 obtain⟨a14,_,F14⟩:=u14;have b14:=F14.binds (ps:=["ground","row"]) λ_ _ _ _ _ _ us hl=>by obtain⟨_,_,rfl⟩:=ex2 hl;rfl
 obtain⟨a15,_,F15⟩:=u15;have b15:=F15.binds (ps:=["ground","row","column"]) λ_ _ _ _ _ _ us hl=>by obtain⟨_,_,_,rfl⟩:=ex3 hl;rfl
 obtain⟨a16,_,F16⟩:=u16;have b16:=F16.binds (ps:=["table"]) λ_ _ _ _ _ _ us hl=>by obtain⟨_,rfl⟩:=ex1 hl;rfl
 obtain⟨a17,_,F17⟩:=u17;have b17:=F17.binds (ps:=["ground","row"]) λ_ _ _ _ _ _ us hl=>by obtain⟨_,_,rfl⟩:=ex2 hl;rfl
 obtain⟨a18,_,F18⟩:=u18;have b18:=F18.binds (ps:=["ground","row","lead","place"]) λ_ _ _ _ _ _ us hl=>by obtain⟨_,_,_,_,rfl⟩:=ex4 hl;rfl
 have F19:FunC K "leading_row" "leading_row" Zbe f19 _ cL:=⟨⟨oc19,od19,kV19,dc19,pm19,an19,ct19,sl19,rfl,l19,c19⟩⟩
 have b19:=F19.binds (ps:=["rows","place"]) λ_ _ _ _ _ _ us hl=>by obtain⟨_,_,rfl⟩:=ex2 hl;rfl
 obtain⟨a20,_,F20⟩:=u20;have b20:=F20.binds (ps:=["ground","rows","wide"]) λ_ _ _ _ _ _ us hl=>by obtain⟨_,_,_,rfl⟩:=ex3 hl;rfl
 obtain⟨a21,_,F21⟩:=u21;have b21:=F21.binds (ps:=["ground","table"]) λ_ _ _ _ _ _ us hl=>by obtain⟨_,_,rfl⟩:=ex2 hl;rfl
 obtain⟨a22,_,F22⟩:=u22;have b22:=F22.binds (ps:=["drawing","thing"]) λ_ _ _ _ _ _ us hl=>by obtain⟨_,_,rfl⟩:=ex2 hl;rfl
 obtain⟨a23,_,F23⟩:=u23;have b23:=F23.binds (ps:=["ground","high","wide","thing"]) λ_ _ _ _ _ _ us hl=>by obtain⟨_,_,_,_,rfl⟩:=ex4 hl;rfl
 obtain⟨a24,_,F24⟩:=u24;have b24:=F24.binds (ps:=["ground","drawing","sizes","thing"]) λ_ _ _ _ _ _ us hl=>by obtain⟨_,_,_,_,rfl⟩:=ex4 hl;rfl
 obtain⟨a25,_,F25⟩:=u25;have b25:=F25.binds (ps:=["standing","ground","drawing"]) λ_ _ _ _ _ _ us hl=>by obtain⟨_,_,_,rfl⟩:=ex3 hl;rfl
 obtain⟨a26,_,F26⟩:=u26;have b26:=F26.binds (ps:=["standing","thing"]) λ_ _ _ _ _ _ us hl=>by obtain⟨_,_,rfl⟩:=ex2 hl;rfl
 obtain⟨a27,_,F27⟩:=u27;have b27:=F27.binds (ps:=["standing","thing"]) λ_ _ _ _ _ _ us hl=>by obtain⟨_,_,rfl⟩:=ex2 hl;rfl
 obtain⟨a28,_,F28⟩:=u28;have b28:=F28.binds (ps:=["standing","changes","backs"]) λ_ _ _ _ _ _ us hl=>by obtain⟨_,_,_,rfl⟩:=ex3 hl;rfl
 obtain⟨a29,_,F29⟩:=u29;have b29:=F29.binds (ps:=["standing","other","changes","backs"]) λ_ _ _ _ _ _ us hl=>by obtain⟨_,_,_,_,rfl⟩:=ex4 hl;rfl
 obtain⟨a30,_,F30⟩:=u30;have b30:=F30.binds (ps:=["standing","other","changes","backs"]) λ_ _ _ _ _ _ us hl=>by obtain⟨_,_,_,_,rfl⟩:=ex4 hl;rfl
 obtain⟨a31,_,F31⟩:=u31;have b31:=F31.binds (ps:=["standing","paper"]) λ_ _ _ _ _ _ us hl=>by obtain⟨_,_,rfl⟩:=ex2 hl;rfl
 obtain⟨a32,_,F32⟩:=u32;have b32:=F32.binds (ps:=["number"]) λ_ _ _ _ _ _ us hl=>by obtain⟨_,rfl⟩:=ex1 hl;rfl
 obtain⟨a33,_,F33⟩:=u33;have b33:=F33.binds (ps:=["thing"]) λ_ _ _ _ _ _ us hl=>by obtain⟨_,rfl⟩:=ex1 hl;rfl
 obtain⟨a34,_,F34⟩:=u34;have b34:=F34.binds (ps:=["top","bottom"]) λ_ _ _ _ _ _ us hl=>by obtain⟨_,_,rfl⟩:=ex2 hl;rfl
 obtain⟨a35,_,F35⟩:=u35;have b35:=F35.binds (ps:=["rest","prime"]) λ_ _ _ _ _ _ us hl=>by obtain⟨_,_,rfl⟩:=ex2 hl;rfl
 obtain⟨a36,_,F36⟩:=u36;have b36:=F36.binds (ps:=["top","bottom","prime"]) λ_ _ _ _ _ _ us hl=>by obtain⟨_,_,_,rfl⟩:=ex3 hl;rfl
 obtain⟨a37,_,F37⟩:=u37;have b37:=F37.binds (ps:=["thing"]) λ_ _ _ _ _ _ us hl=>by obtain⟨_,rfl⟩:=ex1 hl;rfl
 obtain⟨a38,_,F38⟩:=u38;have b38:=F38.binds (ps:=["_law_script","_law_k"]) λ_ _ _ _ _ _ us hl=>by obtain⟨_,_,rfl⟩:=ex2 hl;rfl
 obtain⟨a39,_,F39⟩:=u39;have b39:=F39.binds (ps:=["_law_cell_here"]) λ_ _ _ _ _ _ us hl=>by obtain⟨_,rfl⟩:=ex1 hl;rfl
 obtain⟨a40,_,F40⟩:=u40;have b40:=F40.binds (ps:=["_law_bag_here","_law_many"]) λ_ _ _ _ _ _ us hl=>by obtain⟨_,_,rfl⟩:=ex2 hl;rfl
 obtain⟨a41,_,F41⟩:=u41;have b41:=F41.binds (ps:=["_law_high","_law_wide"]) λ_ _ _ _ _ _ us hl=>by obtain⟨_,_,rfl⟩:=ex2 hl;rfl
 obtain⟨a42,_,F42⟩:=u42;have b42:=F42.binds (ps:=["_law_one","_law_other"]) λ_ _ _ _ _ _ us hl=>by obtain⟨_,_,rfl⟩:=ex2 hl;rfl
 obtain⟨a43,_,F43⟩:=u43;have b43:=F43.binds (ps:=["_law_many"]) λ_ _ _ _ _ _ us hl=>by obtain⟨_,rfl⟩:=ex1 hl;rfl
 obtain⟨a44,_,F44⟩:=u44;have b44:=F44.binds (ps:=["_law_size"]) λ_ _ _ _ _ _ us hl=>by obtain⟨_,rfl⟩:=ex1 hl;rfl
 obtain⟨a45,_,F45⟩:=u45;have b45:=F45.binds (ps:=["_law_one","_law_other","_law_changes","_law_backs"]) λ_ _ _ _ _ _ us hl=>by obtain⟨_,_,_,_,rfl⟩:=ex4 hl;rfl
 obtain⟨a46,_,F46⟩:=u46;have b46:=F46.binds (ps:=["_law_a","_law_b","_law_table","_law_more"]) λ_ _ _ _ _ _ us hl=>by obtain⟨_,_,_,_,rfl⟩:=ex4 hl;rfl
 obtain⟨a47,_,F47⟩:=u47;have b47:=F47.binds (ps:=["_law_size","_law_table","_law_more"]) λ_ _ _ _ _ _ us hl=>by obtain⟨_,_,_,rfl⟩:=ex3 hl;rfl
 have F48:=fun_mk (st:=Zi6) l48 c48 k48;obtain⟨_,F49⟩:=u49;have b49:=F49.binds (ps:=["self","many","arrows"]) λ_ _ _ _ _ _ us hl=>by obtain⟨_,_,_,rfl⟩:=ex3 hl;rfl
 obtain⟨_,F50⟩:=u50;have b50:=F50.binds (ps:=["self","prime"]) λ_ _ _ _ _ _ us hl=>by obtain⟨_,_,rfl⟩:=ex2 hl;rfl
 have F51:FunD K "number" "Ground.number" Zaq f51 _ D51:=⟨⟨oc51,od51,kV51,dc51,pm51,an51,cd51,ct51,sl51,rfl,l51,c51⟩⟩
 have b51:=Zft (fd:=fnOf "number" "Ground.number" (Zb6 Zaq) (Zbu Zaq) (Zae Zaq) (.ref D51) kV51 dc51 pm51 an51 cd51 ct51) (ps:=["self","top","bottom"]) (ds:=[.int 1 dt51]) dl51 rfl λus hl=>match us,(show us.length=2 by simpa using hl) with|[_,_],_=>⟨_,rfl,rfl⟩
 have bF51:=Zft (fd:=fnOf "number" "Ground.number" (Zb6 Zaq) (Zbu Zaq) (Zae Zaq) (.ref D51) kV51 dc51 pm51 an51 cd51 ct51) (ps:=["self","top","bottom"]) (ds:=[]) dl51 rfl λus hl=>match us,(show us.length=3 by simpa using hl) with|[_,_,_],_=>⟨_,rfl,rfl⟩
 obtain⟨_,F52⟩:=u52;have b52:=F52.binds (ps:=["self","thing"]) λ_ _ _ _ _ _ us hl=>by obtain⟨_,_,rfl⟩:=ex2 hl;rfl
 obtain⟨_,F53⟩:=u53;have b53:=F53.binds (ps:=["self","ground","drawing","sizes","tables"]) λ_ _ _ _ _ _ us hl=>by obtain⟨_,_,_,_,_,rfl⟩:=ex5 hl;rfl
 refine⟨fnOf "law" "law" (Zb6 Zi6) (Zbu Zi6) (Zae Zi6) .none kV48 dc48 pm48 an48 cd48 ct48,λs v=>.of_eq rfl,λbase KB _=>?_⟩;have hcb:=hd_of KB hcL;have C1:Cal l.prog w K mg base "is_whole" 1 Zfz:=⟨_,_,_,Zsr F1 T ,mg_of X G a1,F1.kp,b1⟩
 have C1A:Cal l.prog w K mg base "is_whole" 1 Zfg:=⟨_,_,_,Zp0 F1 T ,mg_of X G a1,F1.kp,b1⟩
 have C3:Cal l.prog w K mg base "is_arrow" 2 Zlf:=⟨_,_,_,Zs4 F3 T C1,mg_of X G a3,F3.kp,b3⟩
 have C2:Cal l.prog w K mg base "makes_drawing" 3 Zla:=⟨_,_,_,Zsy F2 T C1 C3,mg_of X G a2,F2.kp,b2⟩
 have C49:CalI l.prog w K mg base "Drawing" C 4 (Zjv C):=⟨_,_,_,ok_init F49 T C2,⟨mk,a49,i49,kc⟩,mg_of X G aC,b49⟩
 have C7:Cal l.prog w K mg base "leading_steps" 1 Zow:=⟨_,_,_,ok_lead F7 T hpt,mg_of X G a7,F7.kp,b7⟩
 have C6:Cal l.prog w K mg base "shortened" 2 Zk7:=⟨_,_,_,Zsv F6 T C7,mg_of X G a6,F6.kp,b6⟩
 have C5:Cal l.prog w K mg base "not_both_long" 3 spNbl:=⟨_,_,_,ok_nbl F5 T C6,mg_of X G a5,F5.kp,b5⟩
 have C4:Cal l.prog w K mg base "common_divisor" 4 Zle:=⟨_,_,_,ok_cdB F4 T C5,mg_of X G a4,F4.kp,b4⟩
 have C32:Cal l.prog w K mg base "is_prime" 1 Zk9:=⟨_,_,_,Zsx F32 T ,mg_of X G a32,F32.kp,b32⟩
 have C33:Cal l.prog w K mg base "tells_ground" 2 Zk5:=⟨_,_,_,Zss F33 T C1 C32,mg_of X G a33,F33.kp,b33⟩
 have C34:Cal l.prog w K mg base "fraction" 5 Zlc:=⟨_,_,_,Zs2 F34 T hpt C4,mg_of X G a34,F34.kp,b34⟩
 have C35:Cal l.prog w K mg base "inverse" 1 spInv:=⟨_,_,_,ok_inv F35 T ,mg_of X G a35,F35.kp,b35⟩
 have C36:Cal l.prog w K mg base "rest_of" 2 Zk8:=⟨_,_,_,Zsw F36 T C35,mg_of X G a36,F36.kp,b36⟩
 have C37:Cal l.prog w K mg base "is_fraction" 5 spFr:=⟨_,_,_,ok_fr F37 T C1A C4,mg_of X G a37,F37.kp,b37⟩
 have C50:CalI l.prog w K mg base "Ground" Cg 3 (Zg7 Cg):=⟨_,_,_,Zs1 F50 T C33,⟨mk_Cg,a50,i50,kc_Cg⟩,mg_of X G aCg,b50⟩
 have C51:CalD l.prog w K mg base Cg "number" 6 (Zig Cg) [.int 1]:=⟨_,_,_,_,Zp1 F51 T C34 C36,⟨a51,i51,k51⟩,b51,.cons ⟨_,rfl⟩ .nil⟩
 have C51F:CalD l.prog w K mg base Cg "number" 6 (Zig Cg) []:=⟨_,_,_,[],Zp1 F51 T C34 C36,⟨a51,i51,k51⟩,bF51,.nil⟩
 have C52:CalM l.prog w K mg base Cg "is_number" 6 (spIsN Cg):=⟨_,_,_,ok_isn F52 T C1A C37,⟨a52,i52,F52.kp⟩,b52⟩
 have C10:Cal l.prog w K mg base "is_row" 7 (Zot Cg):=⟨_,_,_,Zs0 F10 T C52,mg_of X G a10,F10.kp,b10⟩
 have C9:Cal l.prog w K mg base "is_table" 8 (Zos Cg):=⟨_,_,_,Zsz F9 T C1A C10,mg_of X G a9,F9.kp,b9⟩
 have C22:Cal l.prog w K mg base "are_sizes" 2 (spSz C):=⟨_,_,_,ok_sz F22 T C1,mg_of X G a22,F22.kp,b22⟩
 have C23:Cal l.prog w K mg base "is_table_of" 9 (spTo Cg):=⟨_,_,_,ok_to F23 T C9,mg_of X G a23,F23.kp,b23⟩
 have C24:Cal l.prog w K mg base "are_tables" 10 (spTs C Cg):=⟨_,_,_,ok_ts F24 T C23,mg_of X G a24,F24.kp,b24⟩
 have C53:CalI l.prog w K mg base "Standing" Cs 11 (spSI Cs C Cg):=⟨_,_,_,Zsu F53 T C22 C24,⟨mk_Cs,a53,i53,kc_Cs⟩,mg_of X G aCs,b53⟩
 have C8:Cal l.prog w K mg base "common_multiple" 5 spCmB:=⟨_,_,_,ok_cmB F8 T hpt C4,mg_of X G a8,F8.kp,b8⟩
 have C14:Cal l.prog w K mg base "whole_row" 6 (Zr7 Cg):=⟨_,_,_,ok_wrZ F14 T hpt C8,mg_of X G a14,F14.kp,b14⟩
 have C12:Cal l.prog w K mg base "noughts" 7 (spNou Cg):=⟨_,_,_,ok_nou F12 T C51,mg_of X G a12,F12.kp,b12⟩
 have C11:Cal l.prog w K mg base "plain" 8 (spPl Cg):=⟨_,_,_,ok_pl F11 T C12 C51,mg_of X G a11,F11.kp,b11⟩
 have C15:Cal l.prog w K mg base "row_times" 7 (spRt Cg):=⟨_,_,_,ok_rt F15 T C51F,mg_of X G a15,F15.kp,b15⟩
 have C16:Cal l.prog w K mg base "turned_about" 1 spTa:=⟨_,_,_,ok_ta F16 T ,mg_of X G a16,F16.kp,b16⟩
 have C13:Cal l.prog w K mg base "product" 8 (Zmc Cg):=⟨_,_,_,ok_prod F13 T C14 C16 C15,mg_of X G a13,F13.kp,b13⟩
 have C26:Cal l.prog w K mg base "are_changes" 10 (spAc Cs C Cg):=⟨_,_,_,ok_ac F26 T C23,mg_of X G a26,F26.kp,b26⟩
 have C25:Cal l.prog w K mg base "stands_on" 1 (spOn Cs C Cg):=⟨_,_,_,ok_on F25 T ,mg_of X G a25,F25.kp,b25⟩
 have C27:Cal l.prog w K mg base "is_beside" 2 (spBsd Cs C Cg):=⟨_,_,_,ok_bsd F27 T C25,mg_of X G a27,F27.kp,b27⟩
 have C28:Cal l.prog w K mg base "are_backs" 11 (spBks Cs C Cg):=⟨_,_,_,ok_bks F28 T C26 C13 C11,mg_of X G a28,F28.kp,b28⟩
 have C29:Cal l.prog w K mg base "is_led" 12 (Zmd Cs C Cg):=⟨_,_,_,ok_ledt F29 T C28 C13,mg_of X G a29,F29.kp,b29⟩
 have C30:Cal l.prog w K mg base "lets_by_change" 13 (Zlb Cs C Cg):=⟨_,_,_,ok_lbc F30 T C27 C29,mg_of X G a30,F30.kp,b30⟩
 have C31:Cal l.prog w K mg base "lets_by" 14 (spLb Cs C Cg):=⟨_,_,_,ok_lb F31 T C30,mg_of X G a31,F31.kp,b31⟩
 have C17:Cal l.prog w K mg base "tidied" 5 (Zl9 Cg):=⟨_,_,_,ok_tidy F17 T hpt C4,mg_of X G a17,F17.kp,b17⟩
 have C18:Cal l.prog w K mg base "cleared" 6 (Zld Cg):=⟨_,_,_,Zs3 F18 T hpt C4 C17,mg_of X G a18,F18.kp,b18⟩
 have C19:Cal l.prog w K mg base "leading_row" 1 (spLr PL):=⟨_,_,_,ok_lr F19 T hcb,mg_of X G a19,k19,b19⟩
 have C20:Cal l.prog w K mg base "swept" 7 (Zk6 Cg PL):=⟨_,_,_,Zst F20 T C14 C17 C18 C19,mg_of X G a20,F20.kp,b20⟩
 have C21:Cal l.prog w K mg base "rank" 8 (Zma Cg PL):=⟨_,_,_,ok_rank F21 T C20,mg_of X G a21,F21.kp,b21⟩
 have C38:Cal l.prog w K mg base "_law_cell" 1 (Zox K):=⟨_,_,_,ok_cell F38 T ,mg_of X G a38,F38.kp,b38⟩
 have C39:Cal l.prog w K mg base "_law_bag" 1 spBag:=⟨_,_,_,ok_bag F39 T ,mg_of X G a39,F39.kp,b39⟩
 have C40:Cal l.prog w K mg base "_law_draw" 1 Zjw:=⟨_,_,_,ok_draw F40 T ,mg_of X G a40,F40.kp,b40⟩
 have C41:Cal l.prog w K mg base "_law_tables" 1 Zju:=⟨_,_,_,ok_tbs2 F41 T ,mg_of X G a41,F41.kp,b41⟩
 have C42:Cal l.prog w K mg base "_law_product" 1 spP2:=⟨_,_,_,ok_p2 F42 T ,mg_of X G a42,F42.kp,b42⟩
 have C43:Cal l.prog w K mg base "_law_plain" 1 spPl2:=⟨_,_,_,ok_pl2 F43 T ,mg_of X G a43,F43.kp,b43⟩
 have C44:Cal l.prog w K mg base "_law_pairs" 2 Zmb:=⟨_,_,_,ok_prs2 F44 T C41 C42 C43,mg_of X G a44,F44.kp,b44⟩
 have C45:Cal l.prog w K mg base "_law_let" 15 (Zov Cs C Cg):=⟨_,_,_,ok_let F45 T C31,mg_of X G a45,F45.kp,b45⟩
 have C46:Cal l.prog w K mg base "_law_two_right" 16 (Zor C Cg PL):=⟨_,_,_,ok_twor F46 T C50 C49 C53 C44 C42 C45 C21,mg_of X G a46,F46.kp,b46⟩
 have C47:Cal l.prog w K mg base "_law_loop_right" 16 Zou:=⟨_,_,_,ok_loop F47 T C50 C49 C53 C44 C41 C42 C45,mg_of X G a47,F47.kp,b47⟩
 exact ok_law F48 T C38 C39 C40 C41 C46 C47
theorem walk {l:PySem.W.OpenLaw}{q:Program}{loose:List Str}{XP:(Str->Option Value)->Heap->Prop}{d:DefRec}{K:Params->Frag}{as:List Addr}{e:∀ (P:Params),as=List.map (λx=>x.fst) (K P)}{PL:Addr}(hq:importsNone q=true)(hn:l.most=some 63)(hdf:d.params.defaults=[])(hN:∀ p,(K p).lookup PL=none)(hC:∀ p,hdIn (K p) (PL+2) PL=true)(F:∀ (w:World) (mg:Str->Option Value) (fa:Addr) (h:Heap),(K w.params).In h->h.Ns mainGlobals mg->mg d.name=some (.ref fa)->
   ∃ fd:FuncData,(∀ (s:Shared) (u:Value),BindsTo s fd ⟨[u],[]⟩ [("_law_script",u)])/\∀ base:Heap,(K w.params).In base->base.Ns mainGlobals mg->FnOk l.prog w (K w.params) mg base CX0 17 fa fd ["_law_script"] (Zr8 (K w.params) PL)):
  PySem.W.WalkO q loose XP (PySem.W.kmHook K as e [PL]).says l.row.toRowW d [] (λf vs=>PySem.call f vs):=
 Zru (n:=63) (k:=17) (x:="_law_script") (sp:=λw=>Zr8 (K w.params) PL) (PL+2) PL 161 26 ("leading_row.<locals>." ++ "<lambda>") hq hn ⇑0 hdf ⟨rfl,⇑0,⇑0⟩ (λw h Y=>PySem.W.km_in_of Y) (λw h Y=>PySem.W.km_tabs_of Y PL (Jaq.mpr rfl)) hN hC F (λ_ H a ns Q E hl hS hT q=>⟨a,ns,rfl,hS,hl,hT,q⟩)
end Pf
namespace PySem.W.Fast
def tw17719804672051174965:=0
def tw9449565262689665983:=0
def tw1131676521887552627:=0
def tw3598664779705888004:=0
def tw1772134741121544127:=0
def tw1727474436555299610:=0
def tw4522947267978721612:=0
def tw13550644176318192723:=0
def tw4901266483361422110:=0
def tw12611797498399971424:=0
def tw3092004125360511129:=0
def tw18029351236583951468:=0
def tw14538680861215135497:=0
def tw14520122899983065545:=0
def tw4550349072075666329:=0
def tw9355814558107490124:=0
def tw6708421067570684369:=0
def tw14327897666514698244:=0
def tw9252365129455225837:=0
def tw13367668348320747063:=0
def tw7579725340825494631:=0
def tw11751958776657960343:=0
def tw5289820383459142377:=0
def tw18094029669921399631:=0
def tw10557112149967021924:=0
def tw2314189448945698858:=0
def tw17197489816511272396:=0
def tw1794459706732592182:=0
def tw10828010239192488463:=0
def tw4234635982510424264:=0
def tw1210591762887946102:=0
def tw349050464017614058:=0
def tw16137983624242435264:=0
def tw4846864615651984674:=0
def tw17495342413615520252:=0
def tw12381755284925174577:=0
def tw9374659527344477277:=0
def tw18384569866933278066:=0
def tw8414528767758503679:=0
def tw12378956093031577893:=0
def tw9682857467576607402:=0
def tw14256103781165265251:=0
def tw15136154801640102010:=0
def tw5268826026471261901:=0
def tw13328760455497433599:=0
def tw18358305918102370953:=0
def tw16538770567906926319:=0
def tw8629698192988804574:=0
def tw7113162650982751185:=0
def tw7864301631977565585:=0
def tw2622821621108288136:=0
def tw16800200484160969580:=0
def tw16259235714315041358:=0
def tw12331791462928232478:=0
def tw6785122437554976915:=0
def tw6288102128411719111:=0
def tw3968787949597760287:=0
def tw1651606920900904917:=0
def tw6251223882929406092:=0
def tw281168657201360066:=0
def tw3245248690904516828:=0
def tw12662070262795057592:=0
def tw4675939534007888390:=0
def tw13538549059627197118:=0
def tw7180833537590984100:=0
def tw3782444575496624195:=0
def tw884393887044862408:=0
def tw3445264173453381734:=0
def tw15159369863813821576:=0
def tw17161601755880210497:=0
def tw10136938509426356542:=0
def tw5237303048025199890:=0
def tw15001701789054300133:=0
def tw13961817502321817893:=0
def tw11538479214752977345:=0
def tw14732919743817557047:=0
def tw4208024978673305734:=0
def tw11716887407052947276:=0
def tw8739229607847797716:=0
def tw16628025538442062479:=0
def tw2050749641386165064:=0
def tw871679468299767647:=0
def tw8633771701259053122:=0
def tw6785104444306048372:=0
def tw743944260183594399:=0
def tw1734572012089221491:=0
def tw15921880519901308899:=0
def tw5026573255568988329:=0
def tw7139431622213971363:=0
def tw16467262605212289726:=0
def tw10983227565042961284:=0
def tw13788438223602949007:=0
def tw13391756293294349459:=0
def tw1453205129051533489:=0
def tw7780705582781500141:=0
def tw8276261399855068487:=0
def tw7746649006551396972:=0
def tw15297841225846080435:=0
def tw12102513063929801676:=0
def tw3770200761743290499:=0
def tw449527003591563944:=0
def tw13474486938114885054:=0
def tw17254557656667836215:=0
def tw4098415312645393939:=0
def tw15337954084588061328:=0
def tw16262163536345193560:=0
def tw6921443528261231427:=0
def tw12058915489527514037:=0
def tw13465294004772160560:=0
def tw3477680870514055355:=0
def tw3285263816063184593:=0
def tw4636064189209599378:=0
def tw6521611376227897791:=0
def tw17760442141015041893:=0
def tw9844222220961478890:=0
def tw11257293197994916406:=0
def tw10550684501849566278:=0
def tw8652975921341206663:=0
def tw14270365769790888915:=0
def tw12094186989967748862:=0
def tw15068354044438952461:=0
def tw6942687440793826286:=0
def tw15169057744049274783:=0
def tw5913662316041300354:=0
def tw17294969244444452414:=0
def tw1727697294912132412:=0
def tw2983350794484029738:=0
def tw16239765398592002840:=0
def tw17885680653741304270:=0
def tw13347082178088410586:=0
def tw13183374221262544934:=0
def tw384772831316851364:=0
def tw4512770291088976897:=0
def tw3901921589968950944:=0
def tw5578371755964656652:=0
def tw5526893524377657269:=0
def tw6070725274751006271:=0
def tw434712090808283376:=0
def tw14490331233897503971:=0
def tw4286571515917959457:=0
def tw12700647896008462251:=0
def tw15684109316556253539:=0
def tw3862541094396865124:=0
def tw10494372362248396518:=0
def tw8186607496798644089:=0
def tw2055276235920797585:=0
def tw9191903164700997211:=0
def tw18121552016081535055:=0
def tw11556958954682211627:=0
def tw453900148685030625:=0
def tw15523193134677887127:=0
def tw17854737178124799574:=0
def tw2827634113838464831:=0
def tw17752764451070776715:=0
def tw4676748831476776394:=0
def tw11244524177046041377:=0
def tw6796352751289687327:=0
def tw3225076189660616152:=0
def tw15594755777195455379:=0
def tw9046765958117791839:=0
def tw3610825030959669566:=0
def tw16432303618340509736:=0
def tw4918477926437145929:=0
def tw7515619374747179944:=0
def tw5433501535918086791:=0
def tw6388990340133724923:=0
def tw465842363699188098:=0
def tw14565469099565137817:=0
def tw3223972742711769776:=0
def tw18062371384778675855:=0
def tw6516513945460260869:=0
def tw14618430945837739639:=0
def tw13580963518789302495:=0
def tw5406811695671939297:=0
def tw17764619566207915963:=0
def tw18268282179797593539:=0
def tw10589309387572022282:=0
def tw6369683673058659333:=0
def tw10740522808201317280:=0
def tw7727425324680775284:=0
def tw6149634406233969459:=0
def tw14270023294828423464:=0
def tw6169506929900624650:=0
def tw13514338921051282651:=0
def tw2843534375422829801:=0
def tw15823515850200196175:=0
def tw4712815612265965301:=0
def tw9817924867643014846:=0
def tw2556641283391230593:=0
def tw16310173189636670763:=0
def tw3740265711206622963:=0
def tw16364960334063184587:=0
def tw15758793863032998202:=0
def tw4667525296162797582:=0
def tw3993276048817404207:=0
def tw174772581893405273:=0
def tw1879130134452027768:=0
def tw1360271182100473511:=0
def tw6720527760173968403:=0
def tw13486204253015289969:=0
def tw5362865263709362448:=0
def tw9766364255125402653:=0
def tw13608539286952059801:=0
def tw5112748288883342639:=0
def tw14040840788977682994:=0
def tw16763687947803131657:=0
def tw10801812693736776394:=0
def tw15640846365612050063:=0
def tw15348447544017322874:=0
def tw14123743340037592187:=0
def tw889805528973430691:=0
def tw9738108720469057230:=0
def tw2899949824480798612:=0
end PySem.W.Fast
open PySem PySem.W PyProof.Rows
local macro_rules | `(tactic| walk_at "v")=>`(tactic| exact⟨_,⟨⟨_,_,_,_,_,_,_,_,_,rfl,by k_is,by k_is⟩,by k_is⟩⟩)
local macro_rules | `(tactic| walk_at "u")=>`(tactic| exact⟨by k_is,_,⟨⟨_,_,_,_,_,_,_,_,_,rfl,by k_is,by k_is⟩,by k_is⟩⟩)
set_option maxRecDepth 100000 in
set_option maxHeartbeats 0 in
theorem PySem.Challenge.cw_limbtables_k69_whole_every_paper_tried_holds : PySem.Challenge.rw_limbtables_k69_whole_every_paper_tried.Holds := by
 w_on;o_law;k_head;(case hw=>w_witness2)
 k_fill
 refine Pf.walk (l:=PySem.Challenge.rw_limbtables_k69_whole_every_paper_tried) ⋯ rfl rfl (λp=>by kernel_rfl) (λp=>by kernel_rfl) ?F
 case F=>
  intro w mg fa h KX G hmg;refine' Pf.all_mk rfl KX G hmg ?u1 ?u2 ?u3 ?u4 ?u5 ?u6 ?u7 ?u8 ?u9 ?u10 ?u11 ?u12 ?u13 ?u14 ?u15 ?u16 ?u17 ?u18 ?a19 ?l19 ?c19 ?k19 ?u20 ?u21 ?u22 ?u23 ?u24 ?u25 ?u26 ?u27 ?u28 ?u29 ?u30 ?u31 ?u32 ?u33 ?u34 ?u35 ?u36 ?u37 ?u38 ?u39 ?u40 ?u41 ?u42 ?u43 ?u44 ?u45 ?u46 ?u47 ?a48 ?l48 ?c48 ?k48 ?aC ?a49 ?i49 ?u49 ?pg ?hd ?po ?sa ?mk ?kc ?nM ?nA ?aCg ?a50 ?i50 ?u50 ?a51 ?i51 ?l51 ?dl51 ?c51 ?k51 ?a52 ?i52 ?u52 ?pg_Cg ?hd_Cg ?po_Cg ?sa_Cg ?mk_Cg ?kc_Cg ?nP ?aCs ?a53 ?i53 ?u53 ?pg_Cs ?hd_Cs ?po_Cs ?sa_Cs ?mk_Cs ?kc_Cs ?nSg ?nSd ?nSs ?nSt ?g1 ?g2 ?g3 ?g4 ?g5 ?z0 ?z1 ?z2 ?z3 ?z4 ?z5 ?z6 ?z7 ?z8 ?z9 ?z10 ?z11 ?z12 ?z13 ?z14 ?hcL ?x_ic1 ?x_ic2 ?x_ic3 ?x_ic4
  (case u1|u2|u3|u4|u5|u6|u7|u8|u9|u10|u11|u12|u13|u14|u15|u16|u17|u18=>walk_at "u")
  (case a19|l19|c19|k19=>k_is)
  (case u20|u21|u22|u23|u24|u25|u26|u27|u28|u29|u30|u31|u32|u33|u34|u35|u36|u37|u38|u39|u40|u41|u42|u43|u44|u45|u46|u47=>walk_at "u")
  (case a48|l48|c48|k48|aC|a49|i49=>k_is)
  (case u49=>walk_at "v")
  (case pg|hd|po|sa|mk|kc|nM|nA|aCg|a50|i50=>k_is)
  (case u50=>walk_at "v")
  (case a51|i51|l51|dl51|c51|k51|a52|i52=>k_is)
  (case u52=>walk_at "v")
  (case pg_Cg|hd_Cg|po_Cg|sa_Cg|mk_Cg|kc_Cg|nP|aCs|a53|i53=>k_is)
  (case u53=>walk_at "v")
  (case pg_Cs|hd_Cs|po_Cs|sa_Cs|mk_Cs|kc_Cs|nSg|nSd|nSs|nSt|g1|g2|g3|g4|g5|z0|z1|z2|z3|z4|z5|z6|z7|z8|z9|z10|z11|z12|z13|z14=>k_is)
  (case hcL=>kernel_rfl)
  (case x_ic1|x_ic2|x_ic3|x_ic4=>k_is)
#print axioms PySem.Challenge.cw_limbtables_k69_whole_every_paper_tried_holds