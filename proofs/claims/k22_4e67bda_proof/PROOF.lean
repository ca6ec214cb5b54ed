import PyProof.Rows.All
import Wide.All
import OpenK.AllK
import Wide.FinOn
import Lean
import PyProof.EqAt
import PyProof.EqKinds
import PyProof.TupleCall
import PyProof.DictCompW
import PyProof.Rows.SortWalk
import PyProof.Rows.CountFlat
import PyProof.ZipIter
import PyProof.Rows.ZipGen
import PyProof.SumWalkG
import PyProof.EqAt
import PyProof.P3Eq
import PyProof.FactsAll.int_6
import PyProof.AutoIntG2
import PyProof.RulesAs
import PyProof.Rows.TopTwo
import PyProof.ExcArgsOwn
import PyProof.ExcBaseAll.ValueError
import OpenK.KDescr
import KE.RegKIsAll
import PyProof.Rows.SortRunsK
import PyProof.CollectIter
import PyProof.DictWalks
import KE.KSortTup
import PyProof.SetNew
import PyProof.SetRoads
import KE.KSortAsk
import PyProof.Rows.SetFrom
import PyProof.MinMaxWalk
import PyProof.NeKinds
import PySem.Challenge.RW_limbtables_k22_roots
set_option compiler.extract_closed false
set_option bootstrap.genMatcherCode false
open PySem.W (Frag)
variable{P:PySem.Program}{w:PySem.World}{K:PySem.W.Frag}{mg:PySem.Str->Option PySem.Value}{base:PySem.Heap}{f:PySem.Addr}{fd:PySem.FuncData}
local macro_rules|`(∅)=>`(by omega)
local macro_rules|`(⋯)=>`(by decide +kernel)
local macro_rules|`(⇑0)=>`(by decide)
local macro_rules|`(⇑1)=>`(by rfl)
local macro_rules|`(tactic|walk_at "h")=>`(tactic|first|exact .inl rfl|exact .inr rfl|exact .inr (.inl rfl)|exact .inr (.inr rfl)|assumption)
noncomputable section
abbrev Jaa:=@List.length_map
abbrev Jab:=@PySem.wpAny_bind
abbrev Jac:=@List.getElem?_eq_getElem
abbrev Jad:=@PySem.Heap.get?_push_of_some
abbrev Jae:=@PySem.wpAny_pure
abbrev Jaf:=@Nat.le_refl
abbrev Jag:=@Array.getElem?_eq_getElem
abbrev Jah:=@Classical.byContradiction
abbrev Jai:=@List.mem_of_getElem?
abbrev Jaj:=@of_decide_eq_true
abbrev Jak:=@List.getElem?_eq_some_iff
abbrev Jal:=@List.mem_filter
abbrev Jam:=@decide_eq_true
abbrev Jan:=@List.mem_map
abbrev Jao:=@List.mem_cons
abbrev Jap:=@List.mem_append_right
abbrev Jaq:=@List.length_append
abbrev Jar:=@PySem.Heap.lt_size
abbrev Jas:=@List.mem_singleton
abbrev Jat:=@PyProof.Rows.wpS_bind
abbrev Jau:=@List.length_cons
abbrev Jav:=@List.size_toArray
abbrev Jaw:=@List.map_cons
abbrev Jax:=@List.getD_eq_getElem?_getD
abbrev Jay:=@List.getElem?_map
abbrev Jaz:=@Int.toNat_natCast
abbrev Ja0:=@Array.length_toList
abbrev Ja1:=@PySem.Heap.get?_push_size
abbrev Ja2:=@PyProof.Rows.wpS_pure
abbrev Ja3:=@List.map_append
abbrev Ja4:=@List.length_take
abbrev Ja5:=@List.append_assoc
abbrev Ja6:=@Nat.ne_of_lt
abbrev Ja7:=@Bool.false_ne_true
abbrev Ja8:=@Nat.le_trans
abbrev Ja9:=@List.length_filter_le
abbrev Jba:=@List.getElem?_append_left
abbrev Jbb:=@List.extract_eq_take_drop
abbrev Jbc:=@List.getElem?_append_right
abbrev Jbd:=@List.mem_cons_of_mem
abbrev Jbe:=@List.take_add_one
abbrev Jbf:=@List.mem_append
abbrev Jbg:=@List.filter_sublist
abbrev Jbh:=@PySem.F.plainAttrs_list
abbrev Jbi:=@Array.toList_append
abbrev Jbj:=@List.Nodup.sublist
abbrev Jbk:=@List.take_length
abbrev Jbl:=@List.getElem_of_mem
abbrev Jbm:=@List.pairwise_cons
abbrev Jbn:=@Option.some.inj
abbrev Jbo:=@PySem.boot_len
abbrev Jbp:=@Nat.zero_le
abbrev Jbq:=@Array.toList_extract
abbrev Jbr:=@Nat.lt_of_lt_of_le
abbrev Jbs:=@List.lookup_cons
abbrev Jbt:=@List.length_replicate
abbrev Jbu:=@PySem.PassesOwn.never
abbrev Jbv:=@Bool.and_eq_true
abbrev Jbw:=@PySem.wpAny_mono
abbrev Jbx:=@List.take_append_drop
abbrev Jby:=@PySem.wpAny_holding
abbrev Jbz:=@List.nodup_cons
abbrev Jb0:=@decide_eq_true_iff
abbrev Jb1:=@List.all_eq_true
abbrev Jb2:=@List.pairwise_append
abbrev Jb3:=@List.mem_range
abbrev Jb4:=@List.mem_cons_self
abbrev Jb5:=@List.filter_append
abbrev Jb6:=@PySem.F.slot_list_append
abbrev Jb7:=@PySem.F.type_list_append
abbrev Jb8:=@Nat.le_of_lt
abbrev Jb9:=@List.mem_append_left
abbrev Jca:=@Array.getElem?_toList
abbrev Jcb:=@List.getElem_mem
abbrev Jcc:=@List.take_of_length_le
abbrev Jcd:=@PySem.wpAny_truthy_bool
abbrev Jce:=@Nat.lt_succ_of_lt
abbrev Jcf:=@Array.getElem_mem
abbrev Jcg:=@decide_eq_false
abbrev Jch:=@Nat.lt_irrefl
abbrev Jci:=@List.cons.injEq
abbrev Jcj:=@beq_iff_eq
abbrev Jck:=@List.map_map
abbrev Jcl:=@List.getElem_map
abbrev Jcm:=@List.length_range
abbrev Jcn:=@Array.toList_push
abbrev Jco:=@Array.size_extract
abbrev Jcp:=@PySem.Heap.get?_update_self
abbrev Jcq:=@PyProof.Rows.wpS_forRange
abbrev Jcr:=@Int.toNat_of_nonneg
abbrev Jcs:=@PySem.Heap.size_push
abbrev Jct:=@List.drop_eq_getElem_cons
abbrev Jcu:=@List.filter_congr
abbrev Jcv:=@Option.map_eq_some_iff
abbrev Jcw:=@Bool.false_eq_true
abbrev Jcx:=@Bool.eq_iff_iff
abbrev Jcy:=@List.append_nil
abbrev Jcz:=@PySem.mem_of_lookup
abbrev Jc0:=@List.perm_append_comm
abbrev Jc1:=@PySem.F.called_set
abbrev Jc2:=@List.getElem?_replicate
abbrev Jc3:=@Array.getElem_toList
abbrev Jc4:=@PySem.Heap.get?_update_other
abbrev Jc5:=@PySem.W.kia_one
abbrev Jc6:=@List.pairwise_iff_getElem
abbrev Jc7:=@List.length_drop
abbrev Jc8:=@PySem.sizeLine_eq
abbrev Jc9:=@List.map_congr_left
abbrev Jda:=@PyProof.Rows.getElem?_mirror_all
abbrev Jdb:=@PySem.wpAny_newObj_type
abbrev Jdc:=@PySem.wpAny_setState_of
abbrev Jdd:=@PySem.Obj.data_mapFields
abbrev Jde:=@List.range_succ
abbrev Jdf:=@List.mem_iff_getElem
abbrev Jdg:=@List.mem_of_mem_take
abbrev Jdh:=@PySem.Around.under_plainId
abbrev Jdi:=@Array.getElem?_eq_some_iff
abbrev Jdj:=@Array.perm_iff_toList_perm
abbrev Jdk:=@if_true
abbrev Jdl:=@List.take_succ_cons
abbrev Jdm:=@Array.size_append
abbrev Jdn:=@PySem.Heap.SameBut.update
abbrev Jdo:=@PySem.wpAny_standAt
abbrev Jdp:=@List.exists_mem_of_ne_nil
abbrev Jdq:=@PySem.codeAny_builtin
abbrev Jdr:=@congrArg
abbrev Jds:=@beq_self_eq_true
abbrev Jdt:=@PySem.wpAny_call_entry
abbrev Jdu:=@List.length_eq_zero_iff
abbrev Jdv:=@Nat.le_of_eq
abbrev Jdw:=@PyProof.Rows.F.plain_set_update_loop
abbrev Jdx:=@PySem.Value.isInt_shape
abbrev Jdy:=@Nat.le_of_succ_le
abbrev Jdz:=@bne_self_eq_false
abbrev Jd0:=@beq_eq_false_iff_ne
abbrev Jd1:=@List.filterMap_cons
abbrev Jd2:=@Array.size_push
abbrev Jd3:=@Array.getElem?_eq_none
abbrev Jd4:=@Array.toList_map
abbrev Jd5:=@PyProof.Rows.wpS_mono
abbrev Jd6:=@Array.getElem_extract
abbrev Jd7:=@List.take_zero
abbrev Jd8:=@PyProof.Rows.pairsOf_toList
abbrev Jd9:=@Array.toList_reverse
abbrev Jea:=@List.mem_of_mem_drop
abbrev Jeb:=@PySem.wpAny_passesOwn
abbrev Jec:=@PySem.wpAny_pyIter_list
abbrev Jed:=@Option.isSome_iff_exists
abbrev Jee:=@PySem.wpAny_comprehension_free
abbrev Jef:=@PyProof.Rows.boot_isinstance
abbrev Jeg:=@PySem.codeAny_mono
abbrev Jeh:=@List.replicate_succ
abbrev Jei:=@List.mem_map_of_mem
abbrev Jej:=@Nat.lt_succ_self
abbrev Jek:=@List.countP_cons
abbrev Jel:=@PySem.wpAny_askSetting
abbrev Jem:=@PyProof.Rows.boot_list
abbrev Jen:=@decide_eq_decide
abbrev Jeo:=@PySem.W.cellsFrom_some
abbrev Jep:=@PySem.wpAny_Call_Name_kw
abbrev Jeq:=@List.count_pos_iff
abbrev Jer:=@List.countP_eq_length_filter
abbrev Jes:=@Nat.eq_or_lt_of_le
abbrev Jet:=@Ne.symm
abbrev Jeu:=@PyProof.Rows.callWith_type1
abbrev Jev:=@List.length_set
abbrev Jew:=@List.length_singleton
abbrev Jex:=@List.find?_cons
abbrev Jey:=@PySem.Obj.isFreed_of_fields
abbrev Jez:=@Nat.not_lt_zero
abbrev Je0:=@List.any_cons
abbrev Je1:=@List.flatten_cons
abbrev Je2:=@List.pairwise_map
abbrev Je3:=@List.reverse_perm
abbrev Je4:=@Array.toList_setIfInBounds
abbrev Je5:=@Int.mul_nonneg
abbrev Je6:=@PyProof.Rows.F.entry_set_update_loop
abbrev Je7:=@List.ext_getElem
abbrev Je8:=@List.nodup_range
abbrev Je9:=@Nat.succ_le_succ
abbrev Jfa:=@List.isEmpty_nil
abbrev Jfb:=@PySem.Heap.size_update
abbrev Jfc:=@List.reverse_append
abbrev Jfd:=@Int.le_refl
abbrev Jfe:=@PySem.wpAny_rule
abbrev Jff:=@List.length_erase_of_mem
abbrev Jfg:=@Int.add_zero
abbrev Jfh:=@Nat.lt_or_ge
abbrev Jfi:=@List.mem_filterMap
abbrev Jfj:=@List.of_mem_zip
abbrev Jfk:=@Nat.lt_of_le_of_lt
abbrev Jfl:=@Option.map_some
abbrev Jfm:=@List.length_nil
abbrev Jfn:=@PySem.tupleKind_room_in1
abbrev Jfo:=@PySem.wpAny_specialOf
abbrev Jfp:=@List.Perm.of_eq
abbrev Jfq:=@Nat.lt_succ_iff
abbrev Jfr:=@PySem.plainId_quiet
abbrev Jfs:=@PyProof.Rows.listUpdate_at
abbrev Jft:=@PySem.F.slot_list_count
abbrev Jfu:=@PySem.F.type_list_count
abbrev Jfv:=@List.getElem?_set_self
abbrev Jfw:=@PySem.Calls.callWith_builtin
abbrev Jfx:=@List.length_pos_of_mem
abbrev Jfy:=@List.getElem_cons_drop
abbrev Jfz:=@PySem.call_meets
abbrev Jf0:=@Array.getElem?_setIfInBounds_ne
abbrev Jf1:=@PyProof.Rows.wpS_modify
abbrev Jf2:=@PySem.Heap.get?_push_ne
abbrev Jf3:=@if_false
abbrev Jf4:=@List.nodup_nil
abbrev Jf5:=@List.Perm.refl
abbrev Jf6:=@PySem.wpAny_setField
abbrev Jf7:=@PySem.wpAny_isTrue_Compare1
abbrev Jf8:=@List.map_nil
abbrev Jf9:=@Int.zero_mul
abbrev Jga:=@List.Perm.append_left
abbrev Jgb:=@List.getElem?_eq_none
abbrev Jgc:=@Nat.le_of_not_lt
abbrev Jgd:=@List.mem_flatten
abbrev Jge:=@List.map_snd_zip
abbrev Jgf:=@List.mem_flatMap
abbrev Jgg:=@Array.mem_toList_iff
abbrev Jgh:=@PySem.Calls.evalArgs_plain
abbrev Jgi:=@Nat.pow_le_pow_right
abbrev Jgj:=@List.map_eq_cons_iff
abbrev Jgk:=@Nat.add_assoc
abbrev Jgl:=@PyProof.Rows.boot_tuple
abbrev Jgm:=@PySem.wpAny_execs_nil
abbrev Jgn:=@PySem.W.plainGet_of
abbrev Jgo:=@Bool.or_eq_true
abbrev Jgp:=@List.count_cons
abbrev Jgq:=@Int.mul_ne_zero
abbrev Jgr:=@PySem.codeAny_of_tree
abbrev Jgs:=@Nat.min_eq_left
abbrev Jgt:=@List.zip_eq_zipWith
abbrev Jgu:=@PySem.F.slot_set_contains
abbrev Jgv:=@PySem.wpAny_setEntries_of
abbrev Jgw:=@PyProof.Rows.wpS_get
abbrev Jgx:=@PyProof.Rows.seqEpoch_at
abbrev Jgy:=@PySem.Heap.get?_update_ne
abbrev Jgz:=@PyProof.Rows.boot_sorted
abbrev Jg0:=@List.filter_eq_self
abbrev Jg1:=@Nat.ne_of_gt
abbrev Jg2:=@PySem.SeqAt.EqAt.of_refs
abbrev Jg3:=@Nat.zero_add
abbrev Jg4:=@Nat.pos_of_ne_zero
abbrev Jg5:=@Int.mul_zero
abbrev Jg6:=@Nat.lt_of_le_of_ne
abbrev Jg7:=@PySem.wpAny_pyHash_tuple
abbrev Jg8:=@List.mem_replicate
abbrev Jg9:=@List.drop_drop
abbrev Jha:=@List.take_succ
abbrev Jhb:=@Array.size_map
abbrev Jhc:=@PyProof.Rows.boot_range
abbrev Jhd:=@List.take_sublist
abbrev Jhe:=@Option.isSome_map
abbrev Jhf:=@List.mem_range'_1
abbrev Jhg:=@PySem.Obj.cls_mapFields
abbrev Jhh:=@Nat.lt_of_succ_lt
abbrev Jhi:=@List.getElem_take
abbrev Jhj:=@List.nodup_append
abbrev Jhk:=@List.flatMap_cons
abbrev Jhl:=@Sum.inl.inj
abbrev Jhm:=@PySem.Paired.length
abbrev Jhn:=@List.all_cons
abbrev Jho:=@List.map_take
abbrev Jhp:=@PySem.wpAny_attempt
abbrev Jhq:=@PyProof.Rows.wpS_lift
abbrev Jhr:=@PySem.wpAny_newList
abbrev Jhs:=@PySem.Walks.list
abbrev Jht:=@and_true
set_option compiler.postponeCompile true
set_option bootstrap.genMatcherCode false
set_option genSizeOf false
set_option Elab.async false
set_option linter.all false
namespace L2
theorem xE0_10 {p f1 f2 f3 f4 f5 f6 f7 f8 f9:Prop}{G:Prop}(h:p/\f1/\f2/\f3/\f4/\f5/\f6/\f7/\f8/\f9)(f:p->f1->f2->f3->f4->f5->f6->f7->f8->f9->G):G:= f h.1 h.2.1 h.2.2.1 h.2.2.2.1 h.2.2.2.2.1 h.2.2.2.2.2.1 h.2.2.2.2.2.2.1 h.2.2.2.2.2.2.2.1 h.2.2.2.2.2.2.2.2.1 h.2.2.2.2.2.2.2.2.2
theorem xE0_12 {p f1 f2 f3 f4 f5 f6 f7 f8 f9 g0 g1:Prop}{G:Prop}(h:p/\f1/\f2/\f3/\f4/\f5/\f6/\f7/\f8/\f9/\g0/\g1)(f:p->f1->f2->f3->f4->f5->f6->f7->f8->f9->g0->g1->G):G:= f h.1 h.2.1 h.2.2.1 h.2.2.2.1 h.2.2.2.2.1 h.2.2.2.2.2.1 h.2.2.2.2.2.2.1 h.2.2.2.2.2.2.2.1 h.2.2.2.2.2.2.2.2.1 h.2.2.2.2.2.2.2.2.2.1 h.2.2.2.2.2.2.2.2.2.2.1 h.2.2.2.2.2.2.2.2.2.2.2
theorem Zap {p f1 f2:Prop}{G:Prop}(h:p/\f1/\f2)(f:p->f1->f2->G):G:= f h.1 h.2.1 h.2.2
theorem Zbq {p f1 f2 f3:Prop}{G:Prop}(h:p/\f1/\f2/\f3)(f:p->f1->f2->f3->G):G:= f h.1 h.2.1 h.2.2.1 h.2.2.2
theorem Ziu {p f1 f2 f3 f4:Prop}{G:Prop}(h:p/\f1/\f2/\f3/\f4)(f:p->f1->f2->f3->f4->G):G:= f h.1 h.2.1 h.2.2.1 h.2.2.2.1 h.2.2.2.2
theorem Zfi {p f1 f2 f3 f4 f5:Prop}{G:Prop}(h:p/\f1/\f2/\f3/\f4/\f5)(f:p->f1->f2->f3->f4->f5->G):G:= f h.1 h.2.1 h.2.2.1 h.2.2.2.1 h.2.2.2.2.1 h.2.2.2.2.2
theorem xE0_7 {p f1 f2 f3 f4 f5 f6:Prop}{G:Prop}(h:p/\f1/\f2/\f3/\f4/\f5/\f6)(f:p->f1->f2->f3->f4->f5->f6->G):G:= f h.1 h.2.1 h.2.2.1 h.2.2.2.1 h.2.2.2.2.1 h.2.2.2.2.2.1 h.2.2.2.2.2.2
theorem xE0_8 {p f1 f2 f3 f4 f5 f6 f7:Prop}{G:Prop}(h:p/\f1/\f2/\f3/\f4/\f5/\f6/\f7)(f:p->f1->f2->f3->f4->f5->f6->f7->G):G:= f h.1 h.2.1 h.2.2.1 h.2.2.2.1 h.2.2.2.2.1 h.2.2.2.2.2.1 h.2.2.2.2.2.2.1 h.2.2.2.2.2.2.2
theorem xE0_9 {p f1 f2 f3 f4 f5 f6 f7 f8:Prop}{G:Prop}(h:p/\f1/\f2/\f3/\f4/\f5/\f6/\f7/\f8)(f:p->f1->f2->f3->f4->f5->f6->f7->f8->G):G:= f h.1 h.2.1 h.2.2.1 h.2.2.2.1 h.2.2.2.2.1 h.2.2.2.2.2.1 h.2.2.2.2.2.2.1 h.2.2.2.2.2.2.2.1 h.2.2.2.2.2.2.2.2
theorem xE17_4 {A B C D E F I J K L M N O P Q R S:Type}{p f1 f2 f3:A->B->C->D->E->F->I->J->K->L->M->N->O->P->Q->R->S->Prop}{G:Prop}(h:∃ a b c d e i j k l m n o q r s t u,p a b c d e i j k l m n o q r s t u/\f1 a b c d e i j k l m n o q r s t u/\f2 a b c d e i j k l m n o q r s t u/\f3 a b c d e i j k l m n o q r s t u)(f:∀ a b c d e i j k l m n o q r s t u,p a b c d e i j k l m n o q r s t u->f1 a b c d e i j k l m n o q r s t u->f2 a b c d e i j k l m n o q r s t u->f3 a b c d e i j k l m n o q r s t u->G):G:=h.elim λa h=>h.elim λb h=>h.elim λc h=>h.elim λd h=>h.elim λe h=>h.elim λi h=>h.elim λj h=>h.elim λk h=>h.elim λl h=>h.elim λm h=>h.elim λn h=>h.elim λo h=>h.elim λq h=>h.elim λr h=>h.elim λs h=>h.elim λt h=>h.elim λu h=>f a b c d e i j k l m n o q r s t u h.1 h.2.1 h.2.2.1 h.2.2.2
theorem Zae {A:Type}{p f1:A->Prop}{G:Prop}(h:∃ a,p a/\f1 a)(f:∀ a,p a->f1 a->G):G:=h.elim λa h=>f a h.1 h.2
theorem Zau {A:Type}{p f1 f2:A->Prop}{G:Prop}(h:∃ a,p a/\f1 a/\f2 a)(f:∀ a,p a->f1 a->f2 a->G):G:=h.elim λa h=>f a h.1 h.2.1 h.2.2
theorem Zla {A:Type}{p f1 f2 f3:A->Prop}{G:Prop}(h:∃ a,p a/\f1 a/\f2 a/\f3 a)(f:∀ a,p a->f1 a->f2 a->f3 a->G):G:=h.elim λa h=>f a h.1 h.2.1 h.2.2.1 h.2.2.2
theorem Zpa {A:Type}{p f1 f2 f3 f4:A->Prop}{G:Prop}(h:∃ a,p a/\f1 a/\f2 a/\f3 a/\f4 a)(f:∀ a,p a->f1 a->f2 a->f3 a->f4 a->G):G:=h.elim λa h=>f a h.1 h.2.1 h.2.2.1 h.2.2.2.1 h.2.2.2.2
theorem xE2_1 {A B:Type}{p:A->B->Prop}{G:Prop}(h:∃ a b,p a b)(f:∀ a b,p a b->G):G:=h.elim λa h=>h.elim λb h=>f a b h
theorem Zcl {A B:Type}{p f1:A->B->Prop}{G:Prop}(h:∃ a b,p a b/\f1 a b)(f:∀ a b,p a b->f1 a b->G):G:=h.elim λa h=>h.elim λb h=>f a b h.1 h.2
theorem Zbf {A B:Type}{p f1 f2:A->B->Prop}{G:Prop}(h:∃ a b,p a b/\f1 a b/\f2 a b)(f:∀ a b,p a b->f1 a b->f2 a b->G):G:=h.elim λa h=>h.elim λb h=>f a b h.1 h.2.1 h.2.2
theorem Zg3 {A B:Type}{p f1 f2 f3:A->B->Prop}{G:Prop}(h:∃ a b,p a b/\f1 a b/\f2 a b/\f3 a b)(f:∀ a b,p a b->f1 a b->f2 a b->f3 a b->G):G:=h.elim λa h=>h.elim λb h=>f a b h.1 h.2.1 h.2.2.1 h.2.2.2
theorem Zk9 {A B:Type}{p f1 f2 f3 f4:A->B->Prop}{G:Prop}(h:∃ a b,p a b/\f1 a b/\f2 a b/\f3 a b/\f4 a b)(f:∀ a b,p a b->f1 a b->f2 a b->f3 a b->f4 a b->G):G:=h.elim λa h=>h.elim λb h=>f a b h.1 h.2.1 h.2.2.1 h.2.2.2.1 h.2.2.2.2
theorem xE2_6 {A B:Type}{p f1 f2 f3 f4 f5:A->B->Prop}{G:Prop}(h:∃ a b,p a b/\f1 a b/\f2 a b/\f3 a b/\f4 a b/\f5 a b)(f:∀ a b,p a b->f1 a b->f2 a b->f3 a b->f4 a b->f5 a b->G):G:=h.elim λa h=>h.elim λb h=>f a b h.1 h.2.1 h.2.2.1 h.2.2.2.1 h.2.2.2.2.1 h.2.2.2.2.2
theorem xE3_1 {A B C:Type}{p:A->B->C->Prop}{G:Prop}(h:∃ a b c,p a b c)(f:∀ a b c,p a b c->G):G:=h.elim λa h=>h.elim λb h=>h.elim λc h=>f a b c h
theorem Zdv {A B C:Type}{p f1:A->B->C->Prop}{G:Prop}(h:∃ a b c,p a b c/\f1 a b c)(f:∀ a b c,p a b c->f1 a b c->G):G:=h.elim λa h=>h.elim λb h=>h.elim λc h=>f a b c h.1 h.2
theorem Zjy {A B C:Type}{p f1 f2:A->B->C->Prop}{G:Prop}(h:∃ a b c,p a b c/\f1 a b c/\f2 a b c)(f:∀ a b c,p a b c->f1 a b c->f2 a b c->G):G:=h.elim λa h=>h.elim λb h=>h.elim λc h=>f a b c h.1 h.2.1 h.2.2
theorem Zck {A B C:Type}{p f1 f2 f3:A->B->C->Prop}{G:Prop}(h:∃ a b c,p a b c/\f1 a b c/\f2 a b c/\f3 a b c)(f:∀ a b c,p a b c->f1 a b c->f2 a b c->f3 a b c->G):G:=h.elim λa h=>h.elim λb h=>h.elim λc h=>f a b c h.1 h.2.1 h.2.2.1 h.2.2.2
theorem xE4_2 {A B C D:Type}{p f1:A->B->C->D->Prop}{G:Prop}(h:∃ a b c d,p a b c d/\f1 a b c d)(f:∀ a b c d,p a b c d->f1 a b c d->G):G:=h.elim λa h=>h.elim λb h=>h.elim λc h=>h.elim λd h=>f a b c d h.1 h.2
theorem xE4_3 {A B C D:Type}{p f1 f2:A->B->C->D->Prop}{G:Prop}(h:∃ a b c d,p a b c d/\f1 a b c d/\f2 a b c d)(f:∀ a b c d,p a b c d->f1 a b c d->f2 a b c d->G):G:=h.elim λa h=>h.elim λb h=>h.elim λc h=>h.elim λd h=>f a b c d h.1 h.2.1 h.2.2
theorem Zce {A B C D:Type}{p f1 f2 f3:A->B->C->D->Prop}{G:Prop}(h:∃ a b c d,p a b c d/\f1 a b c d/\f2 a b c d/\f3 a b c d)(f:∀ a b c d,p a b c d->f1 a b c d->f2 a b c d->f3 a b c d->G):G:=h.elim λa h=>h.elim λb h=>h.elim λc h=>h.elim λd h=>f a b c d h.1 h.2.1 h.2.2.1 h.2.2.2
theorem Zo9 {A B C D E:Type}{p f1:A->B->C->D->E->Prop}{G:Prop}(h:∃ a b c d e,p a b c d e/\f1 a b c d e)(f:∀ a b c d e,p a b c d e->f1 a b c d e->G):G:=h.elim λa h=>h.elim λb h=>h.elim λc h=>h.elim λd h=>h.elim λe h=>f a b c d e h.1 h.2
theorem xE5_3 {A B C D E:Type}{p f1 f2:A->B->C->D->E->Prop}{G:Prop}(h:∃ a b c d e,p a b c d e/\f1 a b c d e/\f2 a b c d e)(f:∀ a b c d e,p a b c d e->f1 a b c d e->f2 a b c d e->G):G:=h.elim λa h=>h.elim λb h=>h.elim λc h=>h.elim λd h=>h.elim λe h=>f a b c d e h.1 h.2.1 h.2.2
theorem Zel {A B C D E:Type}{p f1 f2 f3:A->B->C->D->E->Prop}{G:Prop}(h:∃ a b c d e,p a b c d e/\f1 a b c d e/\f2 a b c d e/\f3 a b c d e)(f:∀ a b c d e,p a b c d e->f1 a b c d e->f2 a b c d e->f3 a b c d e->G):G:=h.elim λa h=>h.elim λb h=>h.elim λc h=>h.elim λd h=>h.elim λe h=>f a b c d e h.1 h.2.1 h.2.2.1 h.2.2.2
theorem xE6_2 {A B C D E F:Type}{p f1:A->B->C->D->E->F->Prop}{G:Prop}(h:∃ a b c d e i,p a b c d e i/\f1 a b c d e i)(f:∀ a b c d e i,p a b c d e i->f1 a b c d e i->G):G:=h.elim λa h=>h.elim λb h=>h.elim λc h=>h.elim λd h=>h.elim λe h=>h.elim λi h=>f a b c d e i h.1 h.2
theorem xE6_4 {A B C D E F:Type}{p f1 f2 f3:A->B->C->D->E->F->Prop}{G:Prop}(h:∃ a b c d e i,p a b c d e i/\f1 a b c d e i/\f2 a b c d e i/\f3 a b c d e i)(f:∀ a b c d e i,p a b c d e i->f1 a b c d e i->f2 a b c d e i->f3 a b c d e i->G):G:=h.elim λa h=>h.elim λb h=>h.elim λc h=>h.elim λd h=>h.elim λe h=>h.elim λi h=>f a b c d e i h.1 h.2.1 h.2.2.1 h.2.2.2
theorem xE7_2 {A B C D E F I:Type}{p f1:A->B->C->D->E->F->I->Prop}{G:Prop}(h:∃ a b c d e i j,p a b c d e i j/\f1 a b c d e i j)(f:∀ a b c d e i j,p a b c d e i j->f1 a b c d e i j->G):G:=h.elim λa h=>h.elim λb h=>h.elim λc h=>h.elim λd h=>h.elim λe h=>h.elim λi h=>h.elim λj h=>f a b c d e i j h.1 h.2
theorem xE7_4 {A B C D E F I:Type}{p f1 f2 f3:A->B->C->D->E->F->I->Prop}{G:Prop}(h:∃ a b c d e i j,p a b c d e i j/\f1 a b c d e i j/\f2 a b c d e i j/\f3 a b c d e i j)(f:∀ a b c d e i j,p a b c d e i j->f1 a b c d e i j->f2 a b c d e i j->f3 a b c d e i j->G):G:=h.elim λa h=>h.elim λb h=>h.elim λc h=>h.elim λd h=>h.elim λe h=>h.elim λi h=>h.elim λj h=>f a b c d e i j h.1 h.2.1 h.2.2.1 h.2.2.2
theorem xE8_2 {A B C D E F I J:Type}{p f1:A->B->C->D->E->F->I->J->Prop}{G:Prop}(h:∃ a b c d e i j k,p a b c d e i j k/\f1 a b c d e i j k)(f:∀ a b c d e i j k,p a b c d e i j k->f1 a b c d e i j k->G):G:=h.elim λa h=>h.elim λb h=>h.elim λc h=>h.elim λd h=>h.elim λe h=>h.elim λi h=>h.elim λj h=>h.elim λk h=>f a b c d e i j k h.1 h.2
theorem xE8_4 {A B C D E F I J:Type}{p f1 f2 f3:A->B->C->D->E->F->I->J->Prop}{G:Prop}(h:∃ a b c d e i j k,p a b c d e i j k/\f1 a b c d e i j k/\f2 a b c d e i j k/\f3 a b c d e i j k)(f:∀ a b c d e i j k,p a b c d e i j k->f1 a b c d e i j k->f2 a b c d e i j k->f3 a b c d e i j k->G):G:=h.elim λa h=>h.elim λb h=>h.elim λc h=>h.elim λd h=>h.elim λe h=>h.elim λi h=>h.elim λj h=>h.elim λk h=>f a b c d e i j k h.1 h.2.1 h.2.2.1 h.2.2.2
theorem xE9_2 {A B C D E F I J K:Type}{p f1:A->B->C->D->E->F->I->J->K->Prop}{G:Prop}(h:∃ a b c d e i j k l,p a b c d e i j k l/\f1 a b c d e i j k l)(f:∀ a b c d e i j k l,p a b c d e i j k l->f1 a b c d e i j k l->G):G:=h.elim λa h=>h.elim λb h=>h.elim λc h=>h.elim λd h=>h.elim λe h=>h.elim λi h=>h.elim λj h=>h.elim λk h=>h.elim λl h=>f a b c d e i j k l h.1 h.2
theorem xE9_3 {A B C D E F I J K:Type}{p f1 f2:A->B->C->D->E->F->I->J->K->Prop}{G:Prop}(h:∃ a b c d e i j k l,p a b c d e i j k l/\f1 a b c d e i j k l/\f2 a b c d e i j k l)(f:∀ a b c d e i j k l,p a b c d e i j k l->f1 a b c d e i j k l->f2 a b c d e i j k l->G):G:=h.elim λa h=>h.elim λb h=>h.elim λc h=>h.elim λd h=>h.elim λe h=>h.elim λi h=>h.elim λj h=>h.elim λk h=>h.elim λl h=>f a b c d e i j k l h.1 h.2.1 h.2.2
theorem xI17_1 {A B C D E F I J K L M N O P Q R S:Type}{p:A->B->C->D->E->F->I->J->K->L->M->N->O->P->Q->R->S->Prop}(a:A)(b:B)(c:C)(d:D)(e:E)(i:F)(j:I)(k:J)(l:K)(m:L)(n:M)(o:N)(q:O)(r:P)(s:Q)(t:R)(u:S)(h0:p a b c d e i j k l m n o q r s t u):∃ a b c d e i j k l m n o q r s t u,p a b c d e i j k l m n o q r s t u:=⟨a,b,c,d,e,i,j,k,l,m,n,o,q,r,s,t,u,h0⟩
theorem xI18_1 {A B C D E F I J K L M N O P Q R S T:Type}{p:A->B->C->D->E->F->I->J->K->L->M->N->O->P->Q->R->S->T->Prop}(a:A)(b:B)(c:C)(d:D)(e:E)(i:F)(j:I)(k:J)(l:K)(m:L)(n:M)(o:N)(q:O)(r:P)(s:Q)(t:R)(u:S)(v:T)(h0:p a b c d e i j k l m n o q r s t u v):∃ a b c d e i j k l m n o q r s t u v,p a b c d e i j k l m n o q r s t u v:=⟨a,b,c,d,e,i,j,k,l,m,n,o,q,r,s,t,u,v,h0⟩
theorem Za2 {A B:Type}{p:A->B->Prop}(a:A)(b:B)(h0:p a b):∃ a b,p a b:=⟨a,b,h0⟩
theorem Zcs {A B C:Type}{p:A->B->C->Prop}(a:A)(b:B)(c:C)(h0:p a b c):∃ a b c,p a b c:=⟨a,b,c,h0⟩
theorem Zjx {A B C D:Type}{p:A->B->C->D->Prop}(a:A)(b:B)(c:C)(d:D)(h0:p a b c d):∃ a b c d,p a b c d:=⟨a,b,c,d,h0⟩
theorem Zit {A B C D E:Type}{p:A->B->C->D->E->Prop}(a:A)(b:B)(c:C)(d:D)(e:E)(h0:p a b c d e):∃ a b c d e,p a b c d e:=⟨a,b,c,d,e,h0⟩
theorem xI7_1 {A B C D E F I:Type}{p:A->B->C->D->E->F->I->Prop}(a:A)(b:B)(c:C)(d:D)(e:E)(i:F)(j:I)(h0:p a b c d e i j):∃ a b c d e i j,p a b c d e i j:=⟨a,b,c,d,e,i,j,h0⟩
theorem xI8_1 {A B C D E F I J:Type}{p:A->B->C->D->E->F->I->J->Prop}(a:A)(b:B)(c:C)(d:D)(e:E)(i:F)(j:I)(k:J)(h0:p a b c d e i j k):∃ a b c d e i j k,p a b c d e i j k:=⟨a,b,c,d,e,i,j,k,h0⟩
theorem xI9_1 {A B C D E F I J K:Type}{p:A->B->C->D->E->F->I->J->K->Prop}(a:A)(b:B)(c:C)(d:D)(e:E)(i:F)(j:I)(k:J)(l:K)(h0:p a b c d e i j k l):∃ a b c d e i j k l,p a b c d e i j k l:=⟨a,b,c,d,e,i,j,k,l,h0⟩
end L2
theorem oz1 {a b c d e f g i:Nat}(h0:a=b+c)(h1:a+d<=e)(h2:f=e)(h3:g<=d):min a f-(b+i)+(min (a+g) f-a)=c-i+g:=by rw[Nat.min_eq_left (show a<=f by omega),Nat.min_eq_left (show a+g<=f by omega),Nat.add_sub_cancel_left,h0,Nat.add_sub_add_left]
theorem oz2 {a b c d:Nat}(h0:a+b<=c)(h1:d<b):a+d-1<c:=∅
theorem oz3 {a:Nat}:a+2<=a+2+1+1:=∅
theorem oz4 {a b c d e:Nat}(h0:a+b<=c)(h1:d=c)(h2:e<=b)(h3:e≠0):1<=min (a+e) d-a:=∅
theorem oz5 {a b c d e f g:Nat}(h0:a=b+c)(h1:a+d<=e)(h2:f=e)(h3:c-g≠0):b+g+(min a f-(b+g)-1)=b+c-1:=by rw[Nat.min_eq_left (show a<=f by omega),h0,Nat.add_sub_add_left];omega
theorem oz6 {a b:Nat}:min a b+(b-a+1)=b+1:=∅
theorem oz7 {a b c d:Nat}(h0:a-b<=c-d):a-(b+(a-b) / 2+1)<=c-(d+1):=by rw[Nat.add_assoc,←Nat.sub_sub,←Nat.sub_sub c];exact Nat.le_trans (Nat.sub_le_sub_left (Nat.le_add_left 1 _) _) (Nat.sub_le_sub_right h0 1)
theorem oz8 {a b c:Nat}:a+(b+1)-(c+1+1)=a+b-(c+1):=Nat.add_sub_add_right (a+b) 1 (c+1)
theorem oz9 {a b:Nat}(h0:a<=b):a+(b-a)=b:=∅
theorem oz10 {a:Nat}(h0:1<a-1):a-1-1<a-1:=∅
theorem oz11 {a b c d:Nat}(h0:a+b<=c)(h1:d<b):a+d<c:=∅
theorem oz12 {a b c d:Nat}(h0:a-b<=c-d):b+(a-b) / 2-b<=c-(d+1):=by rw[Nat.add_sub_cancel_left,←Nat.sub_sub c];generalize c-d=y at *;omega
theorem oz13 {z:Int}(h0:(0:Int)<=z):(z+(1:Int)).toNat=z.toNat+1:=∅
theorem oz14 {a b c d e f g:Nat}(h0:a=b+c)(h1:a+d<=e)(h2:f=e)(h3:c-g≠0):1<=min a f-(b+g):=by rw[Nat.min_eq_left (show a<=f by omega)];omega
theorem oz15 {a b:Nat}(h0:a*5<b*3):a+1<=b:=∅
theorem oz17 {a b c:Nat}(h0:a+b<=c):a+(c-a)=c:=∅
theorem oz19 {a b c:Nat}:a+b-(c+1)+(a+b)-1-(a+b-1)=a+b-(c+1):=by rcases a+b with _|n<;>simp
theorem oz20 {a b c:Nat}(h0:a<=b)(h1:b-a<=c-max 0 c):a=b:=∅
theorem oz21 {a b c:Nat}(h0:a+1<=b):c<=c+b-(a+1):=∅
theorem oz22 {a b c:Nat}(h0:a<=b):c+b-1=c+a+(b-a)-1:=by rw[Nat.add_assoc,Nat.add_sub_cancel' h0]
theorem oz23 {a:Nat}:1<=a+1:=∅
theorem oz24 {a b:Nat}(h0:a<=b-1)(h1:¬b-1-a > 0):a=b-1:=∅
theorem oz25 {a b:Nat}(h0:¬a >= b):a+(b-a) / 2+1<=b:=∅
theorem oz26 {z y x Z:Int}(h0:z=y\/z=x)(h1:y=Z\/y=z)(h2:x=Z\/x=z)(h3:Z=min y x):z=max y x:=by
 have h4:Z<=y:=∅
 have h5:Z<=x:=∅
 clear h3
 omega
theorem oz27 {a b c:Nat}(h0:a<=b)(h1:¬c >= a):c+(a-c) / 2<=b:=∅
theorem oz28 {a b c d e:Nat}(h0:a<=b)(h1:c<d)(h2:c=e+b-(e+b-(e+a))):a<=d-1-e:=∅
theorem oz29 {a:Nat}{z:Int}(h0:(1:Int)+z=(↑a:Int)):((1:Int)+z-(1:Int)).toNat=a-1:=∅
theorem oz30 {a b c:Nat}(h0:a+b<=c):b<=c-a:=∅
theorem oz31 {a b c d:Nat}(h0:a<b+(c+1))(h1:¬a=b+c-(b+c-(b+d)))(h2:¬(b+c-(b+c-(b+d))<a/\a<=b+c)):a<b+c:=∅
theorem oz32 {a b c d:Nat}(h0:a+b-(a+b-(a+c))<d/\d<=a+b):a<=d-1:=∅
theorem oz33 {a b c d e f g:Nat}(h0:a=b+c)(h1:1<=d)(h2:a+d<=e)(h3:f=e)(h4:g<=c):b+g+(c-g)-1<f:=∅
theorem oz34 {a b c:Nat}(h0:a-b=c+1):a-(b+1)=c:=∅
theorem oz35 {a b c d:Nat}(h0:a-b<=c-d):a-((b+a) / 2+1)<=c-(d+1):=by rw[←Nat.sub_sub c];generalize c-d=y at *;omega
theorem oz36 {a b c d:Nat}(h0:a-b<=c-d):(b+a) / 2-b<=c-(d+1):=by rw[←Nat.sub_sub c];generalize c-d=y at *;omega
theorem oz37 {a b c:Nat}(h0:a<=b)(h1:b<a+c):b-a<c:=∅
theorem oz38 {z y x Z:Int}(h0:z<=y)(h1:z=x\/z=Z)(h2:x=z\/x=y)(h3:Z=z\/Z=y):z=min x Z:=∅
theorem oz39 {a:Nat}(h0:a+1<=256):a+1<=16777216:=∅
theorem oz40 {a b:Nat}{z:Int}(h0:1<=a)(h1:(↑b:Int)=(↑a:Int))(h2:z<(↑a:Int)):z.toNat<b:=∅
theorem oz41 {a b c:Nat}(h0:a-b=c+1):b<a:=∅
theorem oz42 {a b c:Nat}(h0:a<=b)(h1:¬c >= a):c+(a-c) / 2<b:=∅
theorem oz43 {a b:Nat}(h0:a<b):b-(a+1)<b-a:=∅
theorem Zka {a b c:Nat}(h0:a=b)(h1:c<a):c<b:=∅
theorem oz45 {a b c:Nat}(h0:¬a >= b)(h1:c<=b-a):a+c<=b:=∅
theorem oz46 {a b c d e:Nat}(h0:a<b)(h1:¬a=c+d-(c+d-(c+e)))(h2:¬(c+d-(c+d-(c+e))<a/\a<=c+d))(h3:c+d-(c+d-(c+e))<b/\b<=c+d):a<b-1:=∅
theorem oz47 {a:Nat}:0+1<=a+1:=∅
theorem oz48 {a b:Nat}(h0:a<b):a+1<=b:=∅
theorem oz49 {a b c d e:Nat}(h0:a<b)(h1:a=c+d-(c+d-(c+e))):c+(b-1-c)=b-1:=by
 have:c<=a:=by rw[h1];omega
 exact Nat.add_sub_cancel' (Nat.le_sub_one_of_lt (Nat.lt_of_le_of_lt this h0))
theorem oz50 {a b c:Nat}(h0:a=b)(h1:a-c=0):b<=c:=∅
theorem oz51 {a:Nat}{z:Int}(h0:z.toNat<a):min z.toNat a+(a-(z.toNat+1))<a:=∅
theorem oz52 {a b c d:Nat}:a+min b (c-a)-(a+d+1)<=c-0:=by rw[Nat.add_assoc,Nat.add_sub_add_left];exact Nat.le_trans (Nat.sub_le _ _) (Nat.le_trans (Nat.min_le_right _ _) (Nat.sub_le _ _))
theorem oz53 {a b c d:Nat}(h0:a<=b)(h1:c<=d+(b-a)):c-d<b+1-a:=∅
theorem oz54 {a b:Nat}(h0:a<=b):a+1<=b+1:=∅
theorem oz56 {a b c d:Nat}(h0:a-b<c+1)(h1:b<=d)(h2:d<a):a-(d+1)<c:=∅
theorem oz57 {a b c:Nat}(h0:a<=b)(h1:b<=c):c-a=b-a+(c-b):=∅
theorem oz58 {a b:Nat}{z y:Int}(h0:(↑a:Int)+(↑b:Int)=z)(h1:y.toNat<a):(↑(min y.toNat a):Int)+(↑(a-(y.toNat+1)):Int)+((↑b:Int)+(1:Int))=z:=∅
theorem Zsy {a:Nat}{z:Int}(h0:(0:Int)<=z)(h1:z<(↑a:Int)):z.toNat<a:=∅
theorem oz60 {a b c d:Nat}(h0:a<=max 1 (b-c))(h1:d+1=a):d<=max 1 (b-(c+1)):=by rw[←Nat.sub_sub];generalize b-c=y at *;omega
theorem oz61 {a:Nat}(h0:a > 1):a-2+1<a:=∅
theorem oz62 {a b c:Nat}(h0:a+b<=c):a<=c:=∅
theorem oz63 {a b:Nat}(h0:¬a >= b+1):b+1-a=b-a+1:=∅
theorem oz64 {a b:Nat}(h0:a<b+1)(h1:¬a=b):a<b:=∅
theorem oz66 {a:Nat}{z:Int}(h0:z<=(↑a:Int)):min z.toNat a=z.toNat:=∅
theorem oz67 {a b c:Nat}(h0:a<b):a+min c (b-a)<=b:=∅
theorem oz68 {a b c:Nat}(h0:a+1<=b):c+b-(a+1)<c+b:=∅
theorem oz69 {a b c:Nat}(h0:a<=b)(h1:¬c >= a):(c+a) / 2<b:=∅
theorem oz70 {a:Nat}{z:Int}(h0:(4:Int)+z=(↑a:Int)):((4:Int)+z-(1:Int)-(3:Int)).toNat=a-4:=∅
-- CHANGE: your row's module here,as the last of these rows
set_option Elab.async false
set_option linter.all false
set_option maxRecDepth 100000
namespace L2
open PySem PySem.Spec PyProof.Rows
abbrev Key:=Sum Int Str
noncomputable def Zox:Key->Value->Bool
 | .inl k,v=>Value.isInt k v
 | .inr x,v=>Value.isStrOf x v
noncomputable def keyH (w:World):Key->Int
 | .inl k=>hashInt k
 | .inr x=>hashStr w x
theorem Zbh:∀ {k:Key} {v:Value},Zox k v=true->(∃ i t,k=Sum.inl i/\v=Value.int i t)\/(∃ x t,k=Sum.inr x/\v=Value.str x t)
 | .inl i,v,h=>by
  obtain⟨t,e⟩:=Jdx (k:=i) (v:=v) h;exact .inl ⟨i,t,rfl,e⟩
 | .inr x,v,h=>by
  obtain⟨t,e⟩:=Value.isStrOf_shape (x:=x) (v:=v) h;exact .inr ⟨x,t,rfl,e⟩
theorem Zrp (i:Int)(t:Tok):Zox (.inl i) (.int i t)=true:=by simp[Zox,Value.isInt]
theorem Zro (x:Str)(t:Tok):Zox (.inr x) (.str x t)=true:=by simp[Zox,Value.isStrOf]
theorem key_ll (a b:Int):decide ((Sum.inl a:Key)=Sum.inl b)=(a == b):=by
 by_cases e:a=b
 .subst e;simp
 .have h:¬ (Sum.inl a:Key)=Sum.inl b:=λq=>e (Jhl q);rw[Jcg h];exact (Jd0.mpr e).symm
theorem key_rr (a b:Str):decide ((Sum.inr a:Key)=Sum.inr b)=decide (a=b):=by
 by_cases e:a=b
 .subst e;simp
 .have h:¬ (Sum.inr a:Key)=Sum.inr b:=λq=>e (Sum.inr.inj q);rw[Jcg h,Jcg e]
theorem key_lr (a:Int)(b:Str):decide ((Sum.inl a:Key)=Sum.inr b)=false:=Jcg (λq=>nomatch q)
theorem key_rl (a:Str)(b:Int):decide ((Sum.inr a:Key)=Sum.inl b)=false:=Jcg (λq=>nomatch q)
noncomputable def Zbr (prog:Program)(w:World):PySem.KeyKind prog w Key where
 is:=Zox
 hash:=keyH w
 inj:=λv a b ha hb=>by
  rcases Zbh ha with ⟨i,t,rfl,rfl⟩|⟨x,t,rfl,rfl⟩
  .rcases Zbh hb with ⟨j,u,rfl,e⟩|⟨y,u,rfl,e⟩
   .injection e with e1 _;rw[e1]
   .exact nomatch e
  .rcases Zbh hb with ⟨j,u,rfl,e⟩|⟨y,u,rfl,e⟩
   .exact nomatch e
   .injection e with e1 _;rw[e1]
 byValue:=λk v h=>by
  rcases Zbh h with ⟨i,t,rfl,rfl⟩|⟨x,t,rfl,rfl⟩ <;> rfl
 pyHash:=λhv h=>by
  rcases Zbh hv with ⟨i,t,rfl,rfl⟩|⟨x,t,rfl,rfl⟩
  .exact wpAny_pyHash_int h
  .exact wpAny_pyHash_str h
 eqBool:=λhu hv h=>by
  rcases Zbh hu with ⟨i,t,rfl,rfl⟩|⟨x,t,rfl,rfl⟩
  .rcases Zbh hv with ⟨j,u,rfl,rfl⟩|⟨y,u,rfl,rfl⟩
   .rw [key_ll] at h;exact wpAny_eqBool_int h
   .rw [key_lr] at h;exact SeqAt.EqAt.int_str i t y u _ _ _ _ h
  .rcases Zbh hv with ⟨j,u,rfl,rfl⟩|⟨y,u,rfl,rfl⟩
   .rw [key_rl] at h;exact SeqAt.EqAt.str_int x t j u _ _ _ _ h
   .rw [key_rr] at h;exact wpAny_eqBool_str h
 «strs»:=λk x t v h=>by
  rcases Zbh h with ⟨i,u,rfl,e⟩|⟨y,u,rfl,e⟩
  .exact nomatch e
  .injection e with e1 _
   subst e1;cases v <;> rfl
theorem Zlz (prog:Program)(w:World)(i:Int)(t:Tok):(Zbr prog w).is (.inl i) (.int i t)=true:=Zrp i t
theorem Zly (prog:Program)(w:World)(x:Str)(t:Tok):(Zbr prog w).is (.inr x) (.str x t)=true:=Zro x t
inductive V where
 | non|bl (b:Bool)|int (i:Int)|str (x:Str)|byt (b:Array UInt8)|flt (b:UInt64)|ref (a:Addr)|ty (n:String)
 deriving DecidableEq
def RelV:V->Value->Prop
 | .non,u=>u=Value.none
 | .bl b,u=>u=Value.bool b
 | .int i,u=>∃ t,u=Value.int i t
 | .str x,u=>∃ t,u=Value.str x t
 | .byt b,u=>∃ t,u=Value.bytes b t
 | .flt b,u=>∃ t,u=Value.float b t
 | .ref a,u=>u=Value.ref a
 | .ty n,u=>u=Value.type n
abbrev Vals:List V->List Value->Prop:=Paired RelV
theorem Vals.length {xs:List V}{us:List Value}(r:Vals xs us):xs.length=us.length:=Jhm r
theorem Vals.get:∀ {xs:List V} {us:List Value} {i:Nat} {x:V},Vals xs us->xs[i]?=some x->∃ u,us[i]?=some u/\RelV x u
 | _,_,_,_,.nil,e=>by simp at e
 | _,_,0,_,.cons r _,e=>by simp at e;subst e;exact⟨_,rfl,r⟩
 | _,_,i+1,x,.cons _ t,e=>by
  refine Zae (Vals.get (i:=i) (x:=x) t (by simpa using e)) λu h1 h2=>?_;exact⟨u,by simpa using h1,h2⟩
theorem Vals.set {x:V}{u:Value}(r:RelV x u):∀ {xs:List V} {us:List Value} (i:Nat),Vals xs us->Vals (xs.set i x) (us.set i u)
 | _,_,_,.nil=>.nil
 | _,_,0,.cons _ t=>.cons r t
 | _,_,i+1,.cons q t=>.cons q (Vals.set r i t)
theorem Vals.append:∀ {xs ys:List V} {us ws:List Value},Vals xs us->Vals ys ws->Vals (xs++ys) (us++ws)
 | _,_,_,_,.nil,s=>s
 | _,_,_,_,.cons r t,s=>.cons r (Vals.append t s)
theorem Vals.take:∀ {xs:List V} {us:List Value} (n:Nat),Vals xs us->Vals (xs.take n) (us.take n)
 | _,_,0,_=>.nil
 | _,_,_+1,.nil=>.nil
 | _,_,n+1,.cons r t=>.cons r (Vals.take n t)
theorem Vals.drop:∀ {xs:List V} {us:List Value} (n:Nat),Vals xs us->Vals (xs.drop n) (us.drop n)
 | _,_,0,r=>r
 | _,_,_+1,.nil=>.nil
 | _,_,n+1,.cons _ t=>Vals.drop n t
def RelO:Option V->Option Value->Prop
 | some v,some u=>RelV v u
 | none,none=>True
 | _,_=>False
def KV {κ:Type}:List (κ×V)->List (κ×Value)->Prop:=Paired λ(p:κ×V) (q:κ×Value)=>p.1=q.1/\RelV p.2 q.2
noncomputable def kV:Key->V
 | .inl i=>.int i
 | .inr x=>.str x
inductive HO where
  | lst (xs:List V)
  | tup (xs:List V)
  | dK (kvs:List (Key×V))|dT (kvs:List (List Key×V))
  | set (S:Int->Bool) (n:Nat)
  | ins (C dx:Addr) (fs:List (Str×V))
  | own (x:Addr)
  | xd (fs:List (Str×V))
  | met (f x:Addr)
  | rng (lo hi:Int)
  | frz (o:Obj) (u:HO)
  | tbl (ps:Array Value)
  | ext (φ:Heap->Prop)
  | tab (l c:Int) (q:Str)
abbrev Hp:=Addr->Option HO
noncomputable def upd (H:Hp)(a:Addr)(o:HO):Hp:=λb=>if b=a then some o else H b
theorem Zaa {H:Hp}{a:Addr}{o:HO}:upd H a o a=some o:=by unfold upd;rw[if_pos rfl]
theorem Zag {H:Hp}{a b:Addr}{o:HO}(h:b≠a):upd H a o b=H b:=by unfold upd;rw[if_neg h]
theorem upd_upd {H:Hp}{a:Addr}{o u:HO}:upd (upd H a o) a u=upd H a u:=by
 funext b;unfold upd;split <;> rfl
theorem Zh8 {H:Hp}{a b:Addr}{o u:HO}(h:H a=some o)(h':H b=some u)(d:o≠u):a≠b:=by
 intro e;subst e;rw[h] at h';exact d (Jbn h')
theorem Zad {H:Hp}{a b:Addr}{o:HO}(h:H a=some o)(h':H b=none):a≠b:=by
 intro e;subst e;rw[h] at h';cases h'
section
variable (P:Program)(w:World)
def ObjOk (H:Hp)(h:Heap)(a:Addr):HO->Prop
 | .lst xs=>xs.length<=sizeLine/\∃ (its:List Value) (n:Nat),Vals xs its/\h.get? a=some { cls:=.type "list",data:=.seq its.toArray n }
 | .tup xs=>xs.length<=sizeLine/\∃ its:List Value,Vals xs its/\IsTup h a its.toArray
 | .dK kvs=>kvs.length<=sizeLine/\(a == sysModules)=false/\∃ vs,KV kvs vs/\h.DictOf (Zbr P w) a vs
 | .dT kvs=>kvs.length<=sizeLine/\(a == sysModules)=false/\∃ xs:List (List Key×Addr×Value),
   Paired (λ(p:List Key×V) (q:List Key×Addr×Value)=>p.1=q.1/\H q.2.1=some (.tup (p.1.map kV))/\RelV p.2 q.2.2) kvs xs /\
   ∃ o es ep,h.get? a=some o/\o.ExactDict/\o.data=.dict es ep/\es.toList=xs.map (entryOfKey (tupleKind (Zbr P w)))/\(xs.map (·.1)).Nodup
 | .set S n=>h.SetOf (intKind P w) a S n
 | .ins C dx fs=>H dx=some (.own a)/\fs.length<=1000/\dx≠a/\h.get? a=some (PySem.W.instObj C dx) /\
   ∃ mA,h.Ns1 dx mA/\(∀ f,RelO (fs.lookup f) (mA f))/\PySem.Within mA (fs.map (·.1))
 | .own _=>∃ o,h.get? a=some o
 | .xd fs=>∃ mA,h.Ns1 a mA/\∀ f,RelO (fs.lookup f) (mA f)
 | .rng lo hi=>∃ t u v,h.get? a=some { cls:=.type "range",data:=.fields #[.int lo t,.int hi u,.int 1 v] }
 | .frz o u=>h.get? a=some o/\ObjOk H h a u
 | .tbl ps=>h.get? a=some { cls:=.none,data:=.fields ps }
 | .met f x=>h.get? a=some (PySem.W.methodObj (.ref f) (.ref x))
 | .ext φ=>φ h/\(∃ o,h.get? a=some o)/\∀ h1 h2:Heap,φ h1->(∀ o,h1.get? a=some o->h2.get? a=some o)->φ h2
 | .tab l c q=>h.get? a=some { cls:=.none,data:=.fields #[] }\/∃ c' oc vs t,h.get? a=some { cls:=.none,data:=.fields #[rawInt l,rawInt c,.ref c'] }/\c'≠a/\H c'=some (.frz oc (.own a))/\oc.data=.fields vs/\vs[1]?=some (.str q t)
def HOk (H:Hp)(h:Heap):Prop:=∀ a o,H a=some o->ObjOk P w H h a o
end
section
variable {P:Program}{w:World}{H H':Hp}{h h':Heap}{a:Addr}{o:HO}
theorem ObjOk.lt (x:ObjOk P w H h a o):a<h.objs.size:=by
 cases o with
 | lst xs=>obtain⟨_,_,_,_,e⟩:=x;exact Jar e
 | tup xs=>obtain⟨_,_,_,p⟩:=x;exact p.lt
 | dK kvs=>obtain⟨_,_,_,_,o,_,_,e,_⟩:=x;exact Jar e
 | dT kvs=>obtain⟨_,_,_,_,o,_,_,e,_⟩:=x;exact Jar e
 | set S n=>obtain⟨o,_,_,_,e,_⟩:=x;exact Jar e
 | ins C dx fs=>obtain⟨_,_,_,e,_⟩:=x;exact Jar e
 | own y=>obtain⟨_,e⟩:=x;exact Jar e
 | xd fs=>obtain⟨_,⟨_,_,_,e,_⟩,_⟩:=x;exact Jar e
 | rng lo hi=>obtain⟨_,_,_,e⟩:=x;exact Jar e
 | frz ob u=>obtain⟨e,_⟩:=x;exact Jar e
 | tbl ps=>exact Jar (show h.get? a=some _ from x)
 | met f y=>exact Jar (show h.get? a=some _ from x)
 | ext φ=>obtain⟨_,⟨_,e⟩,_⟩:=x;exact Jar e
 | tab l c q=>
  rcases x with e|⟨_,_,_,_,e,_⟩
  .exact Jar e
  .exact Jar e
theorem Paired.mapP {α β:Type}{F G:α->β->Prop}:∀ {l₁:List α} {l₂:List β},Paired F l₁ l₂->(∀ a b,F a b->G a b)->Paired G l₁ l₂
 | _,_,.nil,_=>.nil
 | _,_,.cons r t,f=>.cons (f _ _ r) (Paired.mapP t f)
theorem ObjOk.stay (x:ObjOk P w H h a o)(k:∀ b u,(b=a\/H b=some (.own a))->h.get? b=some u->h'.get? b=some u)(ho:∀ b,H b=some (.own a)->H' b=some (.own a))(ht:∀ b xs,H b=some (.tup xs)->H' b=some (.tup xs))(hz:∀ b o' u,H b=some (.frz o' u)->H' b=some (.frz o' u)):ObjOk P w H' h' a o:=by
 induction o with
 | lst xs=>obtain⟨z,its,n,r,e⟩:=x;exact⟨z,its,n,r,k _ _ (.inl rfl) e⟩
 | tup xs=>obtain⟨z,its,r,ob,e,c⟩:=x;exact⟨z,its,r,ob,k _ _ (.inl rfl) e,c⟩
 | dK kvs=>obtain⟨z,y,vs,r,ob,es,ep,e,c⟩:=x;exact⟨z,y,vs,r,ob,es,ep,k _ _ (.inl rfl) e,c⟩
 | dT kvs=>
  refine Zap x λz y e916=>?_;clear x;obtain⟨xs,r,ob,es,ep,e,c⟩:=e916;exact⟨z,y,xs,Paired.mapP r λp q z=>⟨z.1,ht _ _ z.2.1,z.2.2⟩,ob,es,ep,k _ _ (.inl rfl) e,c⟩
 | set S n=>obtain⟨ob,es,ep,t,e,c⟩:=x;exact⟨ob,es,ep,t,k _ _ (.inl rfl) e,c⟩
 | ins C dx fs=>
  refine Ziu x λd z ne e e917=>?_;clear x;obtain⟨mA,⟨od,es,ep,e2,c⟩,r⟩:=e917;exact⟨ho _ d,z,ne,k _ _ (.inl rfl) e,mA,⟨od,es,ep,k _ _ (.inr d) e2,c⟩,r⟩
 | own y=>obtain⟨ob,e⟩:=x;exact⟨ob,k _ _ (.inl rfl) e⟩
 | xd fs=>obtain⟨mA,⟨od,es,ep,e,c⟩,r⟩:=x;exact⟨mA,⟨od,es,ep,k _ _ (.inl rfl) e,c⟩,r⟩
 | rng lo hi=>obtain⟨t,u,v,e⟩:=x;exact⟨t,u,v,k _ _ (.inl rfl) e⟩
 | frz ob u ih=>obtain⟨e,q⟩:=x;exact⟨k _ _ (.inl rfl) e,ih q⟩
 | tbl ps=>
  have e:h.get? a=some { cls:=.none,data:=.fields ps }:=x;show h'.get? a=some { cls:=.none,data:=.fields ps };exact k a _ (.inl rfl) e
 | met f y=>
  have e:h.get? a=some (PySem.W.methodObj (.ref f) (.ref y)):=x;show h'.get? a=some (PySem.W.methodObj (.ref f) (.ref y));exact k a _ (.inl rfl) e
 | ext φ=>obtain⟨p,⟨o,e⟩,st⟩:=x;exact⟨st _ _ p λo q=>k _ _ (.inl rfl) q,⟨o,k _ _ (.inl rfl) e⟩,st⟩
 | tab l c q=>
  rcases x with e|⟨c',oc,vs,t,e,ne,e2,r⟩
  .exact .inl (k _ _ (.inl rfl) e)
  .exact .inr ⟨c',oc,vs,t,k _ _ (.inl rfl) e,ne,hz _ _ _ e2,r⟩
theorem HOk.lt (x:HOk P w H h)(e:H a=some o):a<h.objs.size:=(x a o e).lt
theorem HOk.fresh (x:HOk P w H h)(e:h.objs.size<=a):H a=none:=by
 cases q:H a with
 | none=>rfl
 | some u=>exact absurd (Jbr (x.lt q) e) (Jch _)
theorem HOk.kept (x:HOk P w H h)(k:∀ b u,h.get? b=some u->h'.get? b=some u):HOk P w H h':=λa o e=>
 (x a o e).stay (λb u _ q=>k b u q) (λ_ q=>q) (λ_ _ q=>q) λ_ _ _ q=>q
theorem HOk.laid (x:HOk P w H h)(k:∀ b u,h.get? b=some u->h'.get? b=some u)(hp:h.objs.size<=a)(new:ObjOk P w (upd H a o) h' a o):HOk P w (upd H a o) h':=λb u e=>by
 have hn:=x.fresh hp;by_cases hb:b=a
 .subst hb;rw[Zaa] at e;cases e;exact new
 .rw [Zag hb] at e;exact (x b u e).stay (λc v _ q=>k c v q) (λc q=>by rw[Zag (Zad q hn)];exact q) (λc xs q=>by rw[Zag (Zad q hn)];exact q) λc _ _ q=>by rw[Zag (Zad q hn)];exact q
end
def Rd (H:Hp)(a:Addr)(u:HO):Prop:=H a=some u\/∃ o,H a=some (.frz o u)
theorem Rd.ok {P:Program}{w:World}{H:Hp}{h:Heap}{a:Addr}{u:HO}(r:Rd H a u)(x:HOk P w H h):ObjOk P w H h a u:=by
 rcases r with r|⟨o,r⟩
 .exact x a u r
 .obtain ⟨_,q⟩:=x a _ r;exact q
def Mut:Option HO->Prop
 | some (.lst _)=>True
 | some (.dK _)=>True
 | some (.dT _)=>True
 | some (.set _ _)=>True
 | some (.ins _ _ _)=>True
 | some (.ext _)=>True
 | some (.tab _ _ _)=>True
 | _=>False
section
variable {P:Program}{w:World}{H:Hp}{h h':Heap}{x e:Addr}{o':HO}
theorem HOk.write (ok:HOk P w H h)(mu:Mut (H x))(he:e=x\/H e=some (.own x))(k:∀ b u,b≠e->h.get? b=some u->h'.get? b=some u)(heo:∃ u,h'.get? e=some u)(new:ObjOk P w (upd H x o') h' x o'):HOk P w (upd H x o') h':=λb u q=>by
 have nown:∀ c y,H c=some (.own y)->c≠x:=λc y r z=>by subst z;rw[r] at mu;exact mu
 have ntup:∀ c xs,H c=some (.tup xs)->c≠x:=λc xs r z=>by subst z;rw[r] at mu;exact mu
 have nfrz:∀ c o' u',H c=some (.frz o' u')->c≠x:=λc o' u' r z=>by subst z;rw[r] at mu;exact mu
 by_cases hb:b=x
 .subst hb;rw[Zaa] at q;cases q;exact new
 .rw [Zag hb] at q;by_cases hbe:b=e
  .have q':H b=some (.own x):=by
    rcases he with z|z
    .exact absurd (hbe.trans z) hb
    .rw [hbe];exact z
   rw[q] at q';cases q';obtain⟨v,hv⟩:=heo;exact⟨v,by rw[hbe];exact hv⟩
  .refine (ok b u q).stay (λc v hc r=>k c v ?_ r) (λc r=>by rw[Zag (nown c b r)];exact r) (λc xs r=>by rw[Zag (ntup c xs r)];exact r) λc o' u' r=>by rw[Zag (nfrz c o' u' r)];exact r
   rcases hc with rfl|hc
   .exact hbe
   .rintro rfl;rcases he with z|z
    .exact nown c b hc z
    .rw [hc] at z;cases z;exact hb rfl
end
structure Un (fs ex:List Addr)(H H':Hp)(h h':Heap):Prop where
 keep:∀ b o,h.get? b=some o->H b=none->b∉fs->b∉ex->h'.get? b=some o
 slot:∀ b o,h.get? b=some o->H b=none->b∈fs->b∉ex->∃ sl,h'.get? b=some { o with slots:=sl }
 free:∀ b o,h.get? b=some o->H b=none->b∉ex->H' b=none
 there:∀ b o,h.get? b=some o->b∉ex->∃ o',h'.get? b=some o'
 tups:∀ b xs,H b=some (.tup xs)->H' b=some (.tup xs)
 frzs:∀ b o u,H b=some (.frz o u)->H' b=some (.frz o u)
 tbls:∀ b ps,H b=some (.tbl ps)->∃ more,H' b=some (.tbl (ps++more))
section
variable {fs fs' ex ex':List Addr}{H H1 H2:Hp}{h h1 h2 h':Heap}{a x e:Addr}{o:HO}
theorem Un.any (u:Un fs ex H H1 h h1){b:Addr}{ob:Obj}(q:h.get? b=some ob)(n:H b=none)(hx:b∉ex):∃ sl,h1.get? b=some { ob with slots:=sl }:=by
 by_cases hb:b∈fs
 .exact u.slot b ob q n hb hx
 .exact ⟨ob.slots,u.keep b ob q n hb hx⟩
theorem Un.kept (k:∀ b u,h.get? b=some u->h'.get? b=some u):Un fs ex H H h h':=
 ⟨λb ob q _ _ _=>k b ob q,λb ob q _ _ _=>⟨ob.slots,k b ob q⟩,λ_ _ _ n _=>n,λb ob q _=>⟨ob,k b ob q⟩,λ_ _ q=>q,λ_ _ _ q=>q,λ_ ps q=>⟨#[],by rw[q];simp⟩⟩
theorem Un.refl:Un fs ex H H h h:=Un.kept λ_ _ q=>q
theorem Un.laid (k:∀ b u,h.get? b=some u->h'.get? b=some u)(hp:h.objs.size<=a)(hn:H a=none):Un fs ex H (upd H a o) h h' where
 keep:=λb u q _ _ _=>k b u q
 slot:=λb u q _ _ _=>⟨u.slots,k b u q⟩
 free:=λb u q n _=>by rw[Zag (Ja6 (Jbr (Jar q) hp))];exact n
 there:=λb u q _=>⟨u,k b u q⟩
 tups:=λb xs q=>by rw[Zag (Zad q hn)];exact q
 frzs:=λb u xs q=>by rw[Zag (Zad q hn)];exact q
 tbls:=λb ps q=>⟨#[],by rw[Zag (Zad q hn),q];simp⟩
theorem Un.write (mu:Mut (H x))(he:e=x\/H e=some (.own x))(k:∀ b u,b≠e->h.get? b=some u->h'.get? b=some u)(heo:∃ u,h'.get? e=some u):Un fs ex H (upd H x o) h h':=by
 have hx:∀ b,H b=none->b≠x:=λb n z=>by subst z;rw[n] at mu;exact mu
 have hb:∀ b,H b=none->b≠e:=λb n z=>by
  subst z;rcases he with r|r
  .exact hx b n r
  .rw [n] at r;cases r
 have hm:∀ b u,H b=some u->¬ Mut (some u)->b≠x:=λb u q nm z=>by subst z;rw[q] at mu;exact nm mu
 refine⟨λb u q n _ _=>k b u (hb b n) q,λb u q n _ _=>⟨u.slots,k b u (hb b n) q⟩,λb u q n _=>by rw[Zag (hx b n)];exact n,λb u q _=>?_,
  λb xs q=>by rw[Zag (hm b _ q λz=>z)];exact q,λb u xs q=>by rw[Zag (hm b _ q λz=>z)];exact q,λb ps q=>⟨#[],by rw[Zag (hm b _ q λz=>z),q];simp⟩⟩
 by_cases hbe:b=e
 .subst hbe;exact heo
 .exact ⟨u,k b u hbe q⟩
end
noncomputable def trk (h:Heap)(H:Hp):List Addr:=(List.range h.objs.size).filter λa=>(H a).isSome
noncomputable def Zsz (h:Heap)(H:Hp):Heap:=PySem.W.hideAll h (trk h H)
theorem Zrz (h:Heap)(H:Hp):(Zsz h H).objs.size=h.objs.size:=PySem.W.hideAll_size _ _
theorem Zud {h:Heap}{H:Hp}{b:Addr}{o:Obj}(e:h.get? b=some o)(n:H b=none):(Zsz h H).get? b=some o:=
 PySem.W.hideAll_get _ e λhm=>by
  have q:(H b).isSome=true:=(Jal.mp hm).2;rw[n] at q;simp at q
theorem of_hidT {h:Heap}{H:Hp}{b:Addr}{o:Obj}(e:(Zsz h H).get? b=some o):h.get? b=some o/\H b=none:=by
 have e':h.get? b=some o:=PySem.W.of_hideAll (trk h H) e;refine⟨e',?_⟩;cases q:H b with
 | none=>rfl
 | some x=>
  have hm:b∈trk h H:=Jal.mpr ⟨Jb3.mpr (Jar e'),by simp[q]⟩;have z:(Zsz h H).get? b=none:=PySem.W.hideAll_none (trk h H) hm;rw[z] at e;cases e
noncomputable def allNews (g h:Heap)(L:Addr):List (Addr×Obj):=(List.range h.objs.size).filterMap λa=>if a=L\/(g.get? a).isSome=true then none else (h.get? a).map λo=>(a,o)
noncomputable def rest (g h:Heap)(L d:Addr):List (Addr×Obj):=(allNews g h L).filter λp=>decide (p.1≠d)
structure Mod (K:Frag)(mg:Str->Option Value)(base:Heap):Prop where
 kin:K.In base
 glob:base.Ns mainGlobals mg
 blt:∃ mb,base.Ns builtinsNs mb/\∀ x:Str,x ≠ "__name__" -> mb x=bootBuiltins x
 nolimit:base.NoLimit
 seer:base.NoSeer
 bmain:∃ bm ob,mg "__builtins__" = some (.ref bm)/\bm≠builtinsNs/\base.get? bm=some ob/\ob.cls=.type "module" /\ ob.dict=some builtinsNs/\ob.data=.plain
def Seen (l:List Env):Prop:=∃ e r,l=e::r/\e.scope.isGenerator=false/\e.scope.isCoroutine=false/\e.builtins=builtinsNs/\e.globals=mainGlobals
structure Cx where
 prog:Program
 w:World
 K:Frag
 mg:Str->Option Value
 base:Heap
 A:Around
 N:List Str
 s₀:Shared
 H₀:Hp
 env:Env
 outer:List Env
 stack:List Env
 ex:List Addr
 fn:Str->Bool
 calm:Bool
 pn:List (Addr×Obj)
 xe:Value->Shared->Prop
noncomputable def frs (l:List Env):List Addr:=l.filterMap (·.frame)
noncomputable abbrev Cx.fs (X:Cx):List Addr:=frs X.outer
def Vis (sc:Scope)(x:Str):Prop:=sc.names.lookup x=some .local\/sc.names.lookup x=some .cell\/sc.names.lookup x=some .free
def Loc (sc:Scope)(x:Str):Prop:=sc.names.lookup x=some .local\/sc.names.lookup x=some .cell
def Look (env:Env)(h:Heap)(m:Str->Option Value)(x:Str)(u:Value):Prop:=
 (env.kindOf x=some .local/\m x=some u)\/((env.kindOf x=some .cell\/env.kindOf x=some .free)/\∃ c,env.cells.lookup x=some c/\h.IsCell c (some u))
structure Cx.Ok (X:Cx):Prop where
 mod:Mod X.K X.mg X.base
 kind:X.env.scope.kind=.function
 glob:X.env.globals=mainGlobals
 blt:X.env.builtins=builtinsNs
 above:X.s₀.heap.objs.size<=X.env.locals
 inj:∀ x y c,X.env.cells.lookup x=some c->X.env.cells.lookup y=some c->x=y
 has:∀ x,(X.env.kindOf x=some .cell\/X.env.kindOf x=some .free)->∃ c,X.env.cells.lookup x=some c
 cab:∀ x c,X.fn x=true->X.env.cells.lookup x=some c->X.s₀.heap.objs.size<=c
 hd:X.calm=true->X.A.handled=none
 frames:X.A.frames=some X.stack
 stk:X.stack=X.outer\/(X.stack=X.env::X.outer/\X.env.frame=some X.env.locals)
 exf:∀ b∈X.ex,b≠X.env.locals/\∀ x c,X.env.cells.lookup x=some c->c≠b
 bs:∀ b o,X.base.get? b=some o->X.s₀.heap.get? b=some o/\X.H₀ b=none
 bsz:X.base.objs.size<=X.s₀.heap.objs.size
 noex:∀ b o,X.base.get? b=some o->b∉X.ex
 exfs:∀ b∈X.ex,b∉X.fs
 funs:X.s₀.heap.FunFrames X.base X.outer
 frf:∀ b∈X.fs,X.H₀ b=none
 top:Seen X.stack
structure Inv (X:Cx)(pins:List (Addr×Obj))(σ:List (Option V))(H:Hp)(s:Shared):Prop where
 ok:X.Ok
 os:s.os=X.s₀.os
 bare:AllBare s.gens
 base:Un X.fs X.ex X.H₀ H X.s₀.heap s.heap
 loc:∃ m,s.heap.Ns X.env.locals m/\∀ (i:Nat) (x:Str) (v:V),X.N[i]?=some x->σ[i]?=some (some v)->Vis X.env.scope x->∃ u,RelV v u/\Look X.env s.heap m x u
 cell:∀ x c,X.env.cells.lookup x=some c->∃ v,s.heap.IsCell c v
 free:H X.env.locals=none
 freeC:∀ x c,X.env.cells.lookup x=some c->H c=none
 pin:∀ p∈X.pn++pins,s.heap.get? p.1=some p.2/\H p.1=none/\p.1≠X.env.locals/\p.1∉X.fs/\∀ v,p.2.data≠.cell v
 hok:HOk X.prog X.w H s.heap
 len:σ.length=X.N.length
section
variable {X:Cx}{pins:List (Addr×Obj)}{σ:List (Option V)}{H H':Hp}{s:Shared}{h':Heap}
theorem Cx.Ok.nofr (ok:X.Ok){b:Addr}{o:Obj}(e:X.base.get? b=some o):b∉X.fs:=λhb=>by
 have:=(ok.funs.mem hb).1;rw[e] at this;cases this
theorem Inv.bs (I:Inv X pins σ H s):∀ b o,X.base.get? b=some o->s.heap.get? b=some o/\H b=none:=λb o e=>
 ⟨I.base.keep b o (I.ok.bs b o e).1 (I.ok.bs b o e).2 (I.ok.nofr e) (I.ok.noex b o e),I.base.free b o (I.ok.bs b o e).1 (I.ok.bs b o e).2 (I.ok.noex b o e)⟩
theorem Inv.bk (I:Inv X pins σ H s):∀ b o,X.base.get? b=some o->s.heap.get? b=some o:=λb o e=>(I.bs b o e).1
theorem Inv.mod (I:Inv X pins σ H s):Mod X.K X.mg X.base:=I.ok.mod
theorem Inv.kIn (I:Inv X pins σ H s):X.K.In s.heap:=I.ok.mod.kin.keeps I.bk
theorem Inv.lt (I:Inv X pins σ H s):X.env.locals<s.heap.objs.size:=let ⟨_,hn,_⟩:=I.loc;hn.lt
theorem Inv.sz (I:Inv X pins σ H s):X.s₀.heap.objs.size<=s.heap.objs.size:=Ja8 I.ok.above (Jb8 I.lt)
theorem Inv.nofs (I:Inv X pins σ H s){a:Addr}(h:s.heap.objs.size<=a):a∉X.fs:=λhb=>by
 obtain⟨_,o,ho,_⟩:=I.ok.funs.mem hb;exact absurd (Jbr (Jar ho) (Ja8 I.sz h)) (Jch _)
theorem Inv.cne (I:Inv X pins σ H s):∀ x c,X.env.cells.lookup x=some c->c≠X.env.locals:=λx c e z=>by
 obtain⟨v,o,ho,hd⟩:=I.cell x c e;refine Zae I.loc λm e918 _=>?_;obtain⟨o',es,ep,ho',hd',_⟩:=e918;rw[z,ho'] at ho;cases ho;rw[hd'] at hd;cases hd
theorem Inv.funs (I:Inv X pins σ H s):s.heap.FunFrames X.base X.outer:=by
 have all:∀ (l:List Env),(∀ b∈frs l,b∈X.fs)->X.s₀.heap.FunFrames X.base l->s.heap.FunFrames X.base l:=by
  intro l
  induction l with
  | nil=>intro _ _;trivial
  | cons env r ih=>
   intro hs hl;refine Zap hl λhk e919 hr=>?_;clear hl;obtain⟨L,o,hf,hn,ho,hd⟩:=e919;have hL:L∈X.fs:=hs L (by unfold frs;rw[Jd1,hf];exact Jb4);obtain⟨sl,e⟩:=I.base.slot L o ho (I.ok.frf L hL) hL λz=>I.ok.exfs L z hL;exact⟨hk,⟨L,_,hf,hn,e,hd⟩,ih (λb hb=>hs b (by unfold frs;rw[Jd1,hf];exact Jbd _ hb)) hr⟩
 exact all X.outer (λ_ hb=>hb) I.ok.funs
theorem Inv.stack (I:Inv X pins σ H s):s.heap.FunFrames X.base X.stack:=by
 rcases I.ok.stk with e|⟨e,hf⟩
 .rw [e];exact I.funs
 .rw [e];refine Zae I.loc λm hn _=>?_;refine .cons (by rw[I.ok.kind];decide) hf hn ?_ I.funs;exact Heap.get?_none_of_le (Ja8 I.ok.bsz I.ok.above)
theorem Inv.stkSub (I:Inv X pins σ H s):∀ b∈frs X.stack,b∈X.env.locals::X.fs:=λb hb=>by
 rcases I.ok.stk with e|⟨e,hf⟩
 .rw [e] at hb;exact Jbd _ hb
 .rw [e] at hb;unfold frs at hb;rw[Jd1,hf] at hb;exact hb
theorem Inv.stkFree (I:Inv X pins σ H s):∀ b∈frs X.stack,H b=none:=λb hb=>by
 rcases Jao.mp (I.stkSub b hb) with e|hb
 .rw [e];exact I.free
 .obtain ⟨_,o,ho,_⟩:=I.ok.funs.mem hb;exact I.base.free b o ho (I.ok.frf b hb) λz=>I.ok.exfs b z hb
theorem Inv.step {g':Array GenState}{t':Nat}{d':Drawn}{ch:List Addr}(I:Inv X pins σ H s)(hch:∀ b∈ch,(b∈X.ex\/X.s₀.heap.objs.size<=b)/\b≠X.env.locals/\(∀ x c,X.env.cells.lookup x=some c->c≠b)/\∀ p∈X.pn++pins,p.1≠b)(keep:∀ b o,b≠X.env.locals->b∉X.fs->b∉ch->s.heap.get? b=some o->H b=none->h'.get? b=some o)(slot:∀ b o,b≠X.env.locals->b∈X.fs->b∉ch->s.heap.get? b=some o->H b=none->∃ sl,h'.get? b=some { o with slots:=sl })(free:∀ b o,b∉ch->s.heap.get? b=some o->H b=none->H' b=none)(there:∀ b o,b∉ch->s.heap.get? b=some o->∃ o',h'.get? b=some o')(tups:∀ b xs,H b=some (.tup xs)->H' b=some (.tup xs))(frzs:∀ b o u,H b=some (.frz o u)->H' b=some (.frz o u))(tbls:∀ b ps,H b=some (.tbl ps)->∃ more,H' b=some (.tbl (ps++more)))(ns:∀ m,s.heap.Ns X.env.locals m->h'.Ns X.env.locals m)(hok:HOk X.prog X.w H' h')(hg:AllBare g'):
  Inv X pins σ H' { s with heap:=h',gens:=g',drawn:=d',toks:=t' }:=by
 have neL:∀ b o,X.s₀.heap.get? b=some o->b≠X.env.locals:=λb o e=>Ja6 (Jbr (Jar e) I.ok.above);have neC:∀ b o,X.s₀.heap.get? b=some o->b∉X.ex->b∉ch:=λb o e hx hb=>by
  rcases (hch b hb).1 with z|z
  .exact hx z
  .exact absurd (Jbr (Jar e) z) (Jch _)
 have cellK:∀ x c,X.env.cells.lookup x=some c->∀ v,s.heap.IsCell c v->h'.IsCell c v:=λx c e v ⟨o,ho,hd⟩=>by
  have nch:c∉ch:=λz=>(hch c z).2.2.1 x c e rfl;by_cases hc:c∈X.fs
  .obtain ⟨sl,q⟩:=slot c o (I.cne x c e) hc nch ho (I.freeC x c e);exact⟨_,q,hd⟩
  .exact ⟨o,keep c o (I.cne x c e) hc nch ho (I.freeC x c e),hd⟩
 refine⟨I.ok,I.os,hg,⟨λb o e n hb hx=>?_,λb o e n hb hx=>?_,λb o e n hx=>?_,λb o e hx=>?_,λb xs e=>tups b xs (I.base.tups b xs e),λb o xs e=>frzs b o xs (I.base.frzs b o xs e),λb ps e=>?_⟩,?_,λx c e=>?_,?_,λx c e=>?_,λp hp=>?_,hok,I.len⟩
 .exact keep b o (neL b o e) hb (neC b o e hx) (I.base.keep b o e n hb hx) (I.base.free b o e n hx)
 .obtain ⟨sl,e1⟩:=I.base.slot b o e n hb hx;obtain⟨sl',e2⟩:=slot b _ (neL b o e) hb (neC b o e hx) e1 (I.base.free b o e n hx);exact⟨sl',e2⟩
 .obtain ⟨o',e1⟩:=I.base.there b o e hx;exact free b o' (neC b o e hx) e1 (I.base.free b o e n hx)
 .obtain ⟨o',e1⟩:=I.base.there b o e hx;exact there b o' (neC b o e hx) e1
 .obtain ⟨m1,e1⟩:=I.base.tbls b ps e;obtain⟨m2,e2⟩:=tbls b _ e1;exact⟨m1++m2,by rw[e2,Array.append_assoc]⟩
 .refine Zae I.loc λm hn hl=>?_;refine⟨m,ns m hn,λi x v e1 e2 e3=>?_⟩;refine Zae (hl i x v e1 e2 e3) λu r l=>?_;refine⟨u,r,?_⟩;rcases l with l|⟨k,c,e,z⟩
  .exact .inl l
  .exact .inr ⟨k,c,e,cellK x c e _ z⟩
 .obtain ⟨v,z⟩:=I.cell x c e;exact⟨v,cellK x c e v z⟩
 .refine Zae I.loc λm e920 _=>?_;obtain⟨o,_,_,ho,_⟩:=e920;exact free _ o (λz=>(hch _ z).2.1 rfl) ho I.free
 .obtain ⟨v,o,ho,hd⟩:=I.cell x c e;exact free c o (λz=>(hch c z).2.2.1 x c e rfl) ho (I.freeC x c e)
 .refine Ziu (I.pin p hp) λe n ne nf d=>?_;have nch:p.1∉ch:=λz=>(hch p.1 z).2.2.2 p hp rfl;exact⟨keep p.1 p.2 ne nf nch e n,free p.1 p.2 nch e n,ne,nf,d⟩
theorem Inv.un {t':Nat}(I:Inv X pins σ H s)(u:Un X.fs [] H H' s.heap h')(hok:HOk X.prog X.w H' h'):Inv X pins σ H' { s with heap:=h',toks:=t' }:=by
 refine Zae (id I.loc) λm e921 _=>?_;obtain⟨o,es,ep,ho,r⟩:=e921;obtain⟨sl,hL⟩:=u.any ho I.free (by simp);exact I.step (g':=s.gens) (d':=s.drawn) (ch:=[]) (λ_ z=>nomatch z) (λb o _ hb _ e n=>u.keep b o e n hb (by simp)) (λb o _ hb _ e n=>u.slot b o e n hb (by simp)) (λb o _ e n=>u.free b o e n (by simp)) (λb o _ e=>u.there b o e (by simp)) u.tups u.frzs u.tbls (λm' hm=>by
  refine Zdv hm λo' es' ep' ho' r'=>?_;clear hm;rw[ho] at ho';cases ho';exact⟨_,es',ep',hL,r'⟩) hok I.bare
theorem Inv.call {g':Array GenState}{t':Nat}{d':Drawn}{ch:List Addr}(I:Inv X pins σ H s)(u:Un (frs X.stack) ch H H' s.heap h')(hok:HOk X.prog X.w H' h')(hg:AllBare g')(hch:∀ b∈ch,(b∈X.ex\/X.s₀.heap.objs.size<=b)/\b≠X.env.locals/\(∀ x c,X.env.cells.lookup x=some c->c≠b)/\∀ p∈X.pn++pins,p.1≠b):
  Inv X pins σ H' { s with heap:=h',gens:=g',drawn:=d',toks:=t' }:=by
 refine Zae (id I.loc) λm e922 _=>?_;obtain⟨o,es,ep,ho,r⟩:=e922;obtain⟨sl,hL⟩:=u.any ho I.free λz=>(hch _ z).2.1 rfl;exact I.step (ch:=ch) hch (λb o hL hb hc e n=>u.keep b o e n (λz=>(Jao.mp (I.stkSub b z)).elim hL hb) hc) (λb o _ _ hc e n=>u.any e n hc) (λb o hc e n=>u.free b o e n hc) (λb o hc e=>u.there b o e hc) u.tups u.frzs u.tbls (λm' hm=>by
  refine Zdv hm λo' es' ep' ho' r'=>?_;clear hm;rw[ho] at ho';cases ho';exact⟨_,es',ep',hL,r'⟩) hok hg
theorem Inv.turned {t':Nat}{it:Addr}(I:Inv X pins σ H s)(k:∀ b o,b≠it->s.heap.get? b=some o->h'.get? b=some o)(hn:H it=none)(hL:it≠X.env.locals)(h1:it∈X.ex\/X.s₀.heap.objs.size<=it)(h2:∀ x c,X.env.cells.lookup x=some c->c≠it)(h3:∀ p∈X.pn++pins,p.1≠it):Inv X pins σ H { s with heap:=h',toks:=t' }:=by
 have nit:∀ b u,H b=some u->b≠it:=λb u e z=>by rw[z,hn] at e;cases e
 refine I.step (g':=s.gens) (d':=s.drawn) (ch:=[it]) (λb hb=>?_) (λb o _ _ hc e _=>k b o (λz=>hc (by simp[z])) e) (λb o _ _ hc e _=>⟨o.slots,k b o (λz=>hc (by simp[z])) e⟩) (λ_ _ _ _ n=>n)
  (λb o hc e=>⟨o,k b o (λz=>hc (by simp[z])) e⟩) (λ_ _ e=>e) (λ_ _ _ e=>e) (λb ps e=>⟨#[],by rw[e];simp⟩) (λm hm=>?_) (λb u e=>?_) I.bare
 .have e:b=it:=by simpa using hb
  subst e;exact⟨h1,hL,h2,h3⟩
 .refine Zdv hm λo es ep ho r=>?_;clear hm;exact Zcs o es ep ⟨k _ o (Jet hL) ho,r⟩
 .refine (I.hok b u e).stay (λc v hc q=>k c v ?_ q) (λ_ q=>q) (λ_ _ q=>q) λ_ _ _ q=>q;rcases hc with z|z
  .rw [z];exact nit b u e
  .exact nit c _ z
theorem Inv.tok (I:Inv X pins σ H s)(t:Nat):Inv X pins σ H { s with toks:=t }:=I.un (h':=s.heap) (t':=t) Un.refl I.hok
theorem Inv.kept {t':Nat}(I:Inv X pins σ H s)(k:∀ b u,s.heap.get? b=some u->h'.get? b=some u):Inv X pins σ H { s with heap:=h',toks:=t' }:=I.un (Un.kept k) (I.hok.kept k)
theorem Inv.laid {a:Addr}{o:HO}{t':Nat}(I:Inv X pins σ H s)(k:∀ b u,s.heap.get? b=some u->h'.get? b=some u)(hp:s.heap.objs.size<=a)(new:ObjOk X.prog X.w (upd H a o) h' a o):
  Inv X pins σ (upd H a o) { s with heap:=h',toks:=t' }:=I.un (Un.laid k hp (I.hok.fresh hp)) (I.hok.laid k hp new)
theorem Inv.write {x e:Addr}{o:HO}{t':Nat}(I:Inv X pins σ H s)(mu:Mut (H x))(he:e=x\/H e=some (.own x))(k:∀ b u,b≠e->s.heap.get? b=some u->h'.get? b=some u)(heo:∃ u,h'.get? e=some u)(new:ObjOk X.prog X.w (upd H x o) h' x o):Inv X pins σ (upd H x o) { s with heap:=h',toks:=t' }:=I.un (Un.write mu he k heo) (I.hok.write mu he k heo new)
theorem Inv.pins_of {pins':List (Addr×Obj)}(I:Inv X pins σ H s)(h:∀ p∈pins',s.heap.get? p.1=some p.2/\H p.1=none/\p.1≠X.env.locals/\p.1∉X.fs/\∀ v,p.2.data≠.cell v):Inv X pins' σ H s:=
 ⟨I.ok,I.os,I.bare,I.base,I.loc,I.cell,I.free,I.freeC,λp hp=>(Jbf.mp hp).elim (λz=>I.pin p (Jb9 _ z)) (h p),I.hok,I.len⟩
theorem Zng {N:List Str}(hN:N.Nodup){i j:Nat}{x:Str}(a:N[i]?=some x)(b:N[j]?=some x):i=j:=by
 obtain⟨h1,e1⟩:=Jak.mp a;obtain⟨h2,e2⟩:=Jak.mp b;exact (List.getElem_inj hN).mp (e1.trans e2.symm)
theorem Zj2 {M:Model}{A:Around}{E:Value->Shared->Prop}{i:Nat}{x:Str}{v:V}{u:Value}{Q:Unit->Shared->Prop}(I:Inv X pins σ H s)(hN:X.N.Nodup)(hi:X.N[i]?=some x)(hx:Loc X.env.scope x)(r:RelV v u)(h:∀ s',Inv X pins (σ.set i (some v)) H s'->(∃ a,Heap.SameBut a s.heap s'.heap/\(a=X.env.locals\/X.env.cells.lookup x=some a))->Q () s')(hf:X.fn x=true\/X.env.scope.names.lookup x=some .local:=by walk_at "h"):wpAny M A (storeName X.env x u) Q E s:=by
 refine Zae (id I.loc) λm hn hl=>?_;have hcls:(X.env.scope.kind == .class || (X.env.scope.kind == .module && X.env.locals != X.env.globals))=false:=by rw[I.ok.kind];rfl
 have hiσ:i<σ.length:=by rw[I.len];exact (Jak.mp hi).1
 have cne:=I.cne;have tracked:∀ {a:Addr} {h':Heap},(∃ o,s.heap.get? a=some o/\H a=none)->Heap.SameBut a s.heap h'->HOk X.prog X.w H h':=λ{a h'} ha hs b ob e=>by
  refine Zae ha λ_ _ hfree=>?_;clear ha;refine (I.hok b ob e).stay (λc w' hc q=>(hs.2 c ?_).trans q) (λ_ q=>q) (λ_ _ q=>q) λ_ _ _ q=>q;rintro rfl;rcases hc with rfl|hc
  .rw [hfree] at e;cases e
  .rw [hfree] at hc;cases hc
 rcases hx with hk|hk
 .refine wpAny_storeName_local hk hn (λh' hn' hs=>?_) hcls;refine Zdv (id hn) λoL _ _ hoL _=>?_;refine h _ ⟨I.ok,I.os,I.bare,⟨λb o e n hb hx=>?_,λb o e n hb hx=>?_,I.base.free,λb o e hx=>?_,I.base.tups,I.base.frzs,I.base.tbls⟩,⟨_,hn',λj y v' e1 e2 e3=>?_⟩,λy c e=>?_,I.free,I.freeC,λp hp=>?_,tracked ⟨oL,hoL,I.free⟩ hs,by simpa using I.len⟩ ⟨_,hs,.inl rfl⟩
  .exact (hs.2 b (Ja6 (Jbr (Jar e) I.ok.above))).trans (I.base.keep b o e n hb hx)
  .obtain ⟨sl,e1⟩:=I.base.slot b o e n hb hx;exact⟨sl,(hs.2 b (Ja6 (Jbr (Jar e) I.ok.above))).trans e1⟩
  .obtain ⟨o',e1⟩:=I.base.there b o e hx;exact⟨o',(hs.2 b (Ja6 (Jbr (Jar e) I.ok.above))).trans e1⟩
  .by_cases hj:j=i
   .subst hj;rw[hi] at e1;cases e1;rw[Jfv hiσ] at e2;cases e2;exact⟨u,r,.inl ⟨hk,by simp⟩⟩
   .rw [List.getElem?_set_ne (Jet hj)] at e2;refine Zae (hl j y v' e1 e2 e3) λu' r' q=>?_;refine⟨u',r',?_⟩;rcases q with ⟨k,e⟩|⟨k,c,e,z⟩
    .refine .inl ⟨k,?_⟩;have:y≠x:=λe=>hj (Zng hN e1 (e ▸ hi));simp[this,e]
    .exact .inr ⟨k,c,e,z.sameBut hs (cne y c e)⟩
  .obtain ⟨w',z⟩:=I.cell y c e;exact⟨w',z.sameBut hs (cne y c e)⟩
  .refine Ziu (I.pin p hp) λe n ne nf d=>?_;exact⟨(hs.2 p.1 ne).trans e,n,ne,nf,d⟩
 .have hfn:X.fn x=true:=by
   rcases hf with z|z
   .exact z
   .rw [z] at hk;cases hk
  obtain⟨c,hc⟩:=I.ok.has x (.inl hk);obtain⟨w',z⟩:=I.cell x c hc;refine wpAny_storeName_cell I.ok.kind hk hc z (λh' hc' hs=>?_);refine Zae (id z) λoc hoc hocd=>?_;refine h { s with heap:=h' } ⟨I.ok,I.os,I.bare,⟨λb o e n hb hx=>?_,λb o e n hb hx=>?_,I.base.free,λb o e hx=>?_,I.base.tups,I.base.frzs,I.base.tbls⟩,⟨m,hn.sameBut hs (Jet (cne x c hc)),λj y v' e1 e2 e3=>?_⟩,λy c' e=>?_,I.free,I.freeC,λp hp=>?_,tracked ⟨oc,hoc,I.freeC x c hc⟩ hs,by simpa using I.len⟩ ⟨c,hs,.inr hc⟩
  .exact (hs.2 b (Ja6 (Jbr (Jar e) (I.ok.cab x c hfn hc)))).trans (I.base.keep b o e n hb hx)
  .obtain ⟨sl,e1⟩:=I.base.slot b o e n hb hx;exact⟨sl,(hs.2 b (Ja6 (Jbr (Jar e) (I.ok.cab x c hfn hc)))).trans e1⟩
  .obtain ⟨o',e1⟩:=I.base.there b o e hx;exact⟨o',(hs.2 b (Ja6 (Jbr (Jar e) (I.ok.cab x c hfn hc)))).trans e1⟩
  .by_cases hj:j=i
   .subst hj;rw[hi] at e1;cases e1;rw[Jfv hiσ] at e2;cases e2;exact⟨u,r,.inr ⟨.inl hk,c,hc,hc'⟩⟩
   .rw [List.getElem?_set_ne (Jet hj)] at e2;refine Zae (hl j y v' e1 e2 e3) λu' r' q=>?_;refine⟨u',r',?_⟩;rcases q with q|⟨k,c',e,z'⟩
    .exact .inl q
    .refine .inr ⟨k,c',e,z'.sameBut hs ?_⟩;rintro rfl;exact hj (Zng hN e1 (I.ok.inj _ _ _ e hc ▸ hi))
  .by_cases hcc:c'=c
   .subst hcc;exact⟨_,hc'⟩
   .obtain ⟨w2,z2⟩:=I.cell y c' e;exact⟨w2,z2.sameBut hs hcc⟩
  .refine Ziu (I.pin p hp) λe n ne nf d=>?_;refine⟨(hs.2 p.1 ?_).trans e,n,ne,nf,d⟩;intro q;rw[q,hoc] at e;have q':oc=p.2:=Jbn e;exact d w' (by rw[<- q'];exact hocd)
theorem Zgr {M:Model}{A:Around}{E:Value->Shared->Prop}{i:Nat}{x:Str}{v:V}{u:Value}{Q:Unit->Shared->Prop}(I:Inv X pins σ H s)(hN:X.N.Nodup)(hi:X.N[i]?=some x)(hx:Loc X.env.scope x)(r:RelV v u)(h:∀ s',Inv X pins (σ.set i (some v)) H s'->Q () s')(hf:X.fn x=true\/X.env.scope.names.lookup x=some .local:=by walk_at "h"):wpAny M A (storeName X.env x u) Q E s:=
 Zj2 I hN hi hx r (λs' I' _=>h s' I') hf
theorem Inv.call' {s':Shared}{ch:List Addr}(I:Inv X pins σ H s)(ho:s'.os=s.os)(u:Un (frs X.stack) ch H H' s.heap s'.heap)(hok:HOk X.prog X.w H' s'.heap)(hg:AllBare s'.gens)(hch:∀ b∈ch,(b∈X.ex\/X.s₀.heap.objs.size<=b)/\b≠X.env.locals/\(∀ x c,X.env.cells.lookup x=some c->c≠b)/\∀ p∈X.pn++pins,p.1≠b):Inv X pins σ H' s':=by
 obtain⟨h',g',d',t',o'⟩:=s';have e:o'=s.os:=ho;subst e;exact I.call (g':=g') (t':=t') (d':=d') u hok hg hch
end
abbrev XK:=Value->Option Addr->Hp->Prop
abbrev St:=List (Option V)
abbrev VK:=V->Hp->Prop
abbrev TE:=St->Hp->VK->Prop
abbrev TT:=St->Hp->(Bool->Hp->Prop)->Prop
abbrev TA:=St->Hp->(List V->Hp->Prop)->Prop
structure Ends where
 nx:St->Hp->Prop
 rt:VK
 bk:St->Hp->Prop:=λ_ _=>False
 ct:St->Hp->Prop:=λ_ _=>False
abbrev TS:=Ends->St->Hp->Prop
def EP (X:Cx)(pins:List (Addr×Obj))(σ:St)(Q:VK)(u:Value)(s':Shared):Prop:=∃ v H',Inv X pins σ H' s'/\RelV v u/\Q v H'
def TP (X:Cx)(pins:List (Addr×Obj))(σ:St)(Q:Bool->Hp->Prop)(b:Bool)(s':Shared):Prop:=∃ H',Inv X pins σ H' s'/\Q b H'
def AP (X:Cx)(pins:List (Addr×Obj))(σ:St)(Q:List V->Hp->Prop)(us:List Value)(s':Shared):Prop:=∃ vs H',Inv X pins σ H' s'/\Vals vs us/\Q vs H'
def SP (X:Cx)(pins:List (Addr×Obj))(D:Ends)(f:Flow)(s':Shared):Prop:=
 match f with
 | .next=>∃ σ' H',Inv X pins σ' H' s'/\D.nx σ' H'
 | .brk=>∃ σ' H',Inv X pins σ' H' s'/\D.bk σ' H'
 | .cont=>∃ σ' H',Inv X pins σ' H' s'/\D.ct σ' H'
 | .ret u=>∃ v σ' H',Inv X pins σ' H' s'/\RelV v u/\D.rt v H'
def PE (X:Cx)(e:Expr)(t:TE):Prop:=
 ∀ (pins:List (Addr×Obj)) (s:Shared) (σ:St) (H:Hp) (Q:VK),Inv X pins σ H s->t σ H Q->wpAny (model X.prog X.w) X.A (eval e X.env) (EP X pins σ Q) X.xe s
def PT (X:Cx)(e:Expr)(t:TT):Prop:=
 ∀ (pins:List (Addr×Obj)) (s:Shared) (σ:St) (H:Hp) (Q:Bool->Hp->Prop),Inv X pins σ H s->t σ H Q->wpAny (model X.prog X.w) X.A (isTrue e X.env (eval e X.env)) (TP X pins σ Q) X.xe s
def PW (X:Cx)(e:Expr)(t:TT):Prop:=
 ∀ (whole:Sem Value) (pins:List (Addr×Obj)) (s:Shared) (σ:St) (H:Hp) (Q:Bool->Hp->Prop),Inv X pins σ H s->t σ H Q->wpAny (model X.prog X.w) X.A (isTrue e X.env whole) (TP X pins σ Q) X.xe s
theorem PW.pt {X:Cx}{e:Expr}{t:TT}(h:PW X e t):PT X e t:=h _
def PA (X:Cx)(es:List Expr)(t:TA):Prop:=
 ∀ (pos:Pos) (pins:List (Addr×Obj)) (s:Shared) (σ:St) (H:Hp) (Q:List V->Hp->Prop),Inv X pins σ H s->t σ H Q->wpAny (model X.prog X.w) X.A (spliced (backTo pos (starEach es X.env))) (AP X pins σ Q) X.xe s
def PS (X:Cx)(st:Stmt)(t:TS):Prop:=
 ∀ (pins:List (Addr×Obj)) (s:Shared) (σ:St) (H:Hp) (D:Ends),Inv X pins σ H s->t D σ H->wpAny (model X.prog X.w) X.A (exec st X.env) (SP X pins D) X.xe s
def PSs (X:Cx)(st:List Stmt)(t:TS):Prop:=
 ∀ (pins:List (Addr×Obj)) (s:Shared) (σ:St) (H:Hp) (D:Ends),Inv X pins σ H s->t D σ H->wpAny (model X.prog X.w) X.A (execs st X.env) (SP X pins D) X.xe s
theorem thn {α:Type}{t:Sem α}{Q Q':α->Shared->Prop}{M:Model}{A:Around}{E:Value->Shared->Prop}{s:Shared}(h:wpAny M A t Q E s)(hQ:∀ a s,Q a s->Q' a s):wpAny M A t Q' E s:=Jbw h hQ λ_ _ x=>x
section
variable {X:Cx}
theorem bin {a b:Expr}{ta tb:TE}(ha:PE X a ta)(hb:PE X b tb){pins:List (Addr×Obj)}{s:Shared}{σ:St}{H:Hp}{R:V->V->Hp->Prop}(I:Inv X pins σ H s)(h:ta σ H λx H1=>tb σ H1 λy H2=>R x y H2){α:Type}{Q:α->Shared->Prop}{f:Value->Value->Sem α}(hf:∀ v u s2 x y H2,Inv X pins σ H2 s2->RelV x v->RelV y u->R x y H2->wpAny (model X.prog X.w) X.A (f v u) Q X.xe s2):
  wpAny (model X.prog X.w) X.A (eval a X.env) (λv s₁=>wpAny (model X.prog X.w) X.A (eval b X.env) (λu s₂=>wpAny (model X.prog X.w) X.A (f v u) Q X.xe s₂) X.xe s₁) X.xe s:=by
 refine thn (ha pins s σ H _ I h) λv s1 ⟨x,H1,I1,r1,q1⟩=>?_;refine thn (hb pins s1 σ H1 _ I1 q1) λu s2 ⟨y,H2,I2,r2,q2⟩=>?_;exact hf v u s2 x y H2 I2 r1 r2 q2
def Zgq (i:Nat):TE:=λσ H Q=>∃ v,σ[i]?=some (some v)/\Q v H
def tC (v:V):TE:=λ_ H Q=>Q v H
theorem pe_var {i:Nat}{x:Str}{pos:Pos}(hN:X.N[i]?=some x)(hv:Vis X.env.scope x)(hd:(x == ("__debug__" : Str))=false:=by decide)(hcd:(x == ("__classdict__" : Str))=false:=by decide):PE X (.Name x pos) (Zgq i):=by
 intro pins s σ H Q I h;obtain⟨v,e,h⟩:=h;obtain⟨m,hn,hl⟩:=I.loc;obtain⟨u,r,l⟩:=hl i x v hN e hv;have fin:EP X pins σ Q u s:=⟨v,H,I,r,h⟩
 rcases l with ⟨hk,hm⟩|⟨hk,c,hc,hcell⟩
 .exact wpAny_Name (wpAny_loadName_local I.ok.kind hk hn hm fin) hd
 .rcases hk with hk|hk
  .exact wpAny_Name (wpAny_loadName_cell I.ok.kind hk hc hcell fin) hd
  .exact wpAny_Name (wpAny_loadName_free I.ok.kind hk hc hcell fin hcd) hd
theorem Zac {i j pos}:PE X (.Constant (.int i) j pos) (tC (.int i)):=λ_ _ _ H _ I h=>wpAny_Constant_int ⟨.int i,H,I.tok _,⟨_,rfl⟩,h⟩
theorem Zgl {b j pos}:PE X (.Constant (.bool b) j pos) (tC (.bl b)):=λ_ _ _ H _ I h=>Constant_bool ⟨.bl b,H,I,rfl,h⟩
theorem Zhn {j pos}:PE X (.Constant .none j pos) (tC .non):=λ_ _ _ H _ I h=>Constant_none ⟨.non,H,I,rfl,h⟩
theorem Ze9 {x j pos}:PE X (.Constant (.str x) j pos) (tC (.str x)):=λ_ _ _ H _ I h=>Calls.Constant_str ⟨.str x,H,I.tok _,⟨_,rfl⟩,h⟩
def Gl (X:Cx)(x:Str):Prop:=X.env.kindOf x=some .globalImplicit
theorem Zjj {E:Value->Shared->Prop}{pins:List (Addr×Obj)}{s:Shared}{σ:St}{H:Hp}{x:Str}{u:Value}{pos:Pos}{Q:Value->Shared->Prop}(I:Inv X pins σ H s)(hg:Gl X x)(hm:X.mg x=some u)(h:Q u s)(hd:(x == ("__debug__" : Str))=false:=by decide):wpAny (model X.prog X.w) X.A (eval (.Name x pos) X.env) Q E s:=
 Calls.Name_function_global I.ok.kind hg (Calls.loadGlobal_global (by rw[I.ok.glob];exact I.mod.glob.keeps I.bk) hm h) hd
theorem Zim {E:Value->Shared->Prop}{pins:List (Addr×Obj)}{s:Shared}{σ:St}{H:Hp}{x:Str}{u:Value}{pos:Pos}{Q:Value->Shared->Prop}(I:Inv X pins σ H s)(hg:Gl X x)(hm:X.mg x=none)(hv:bootBuiltins x=some u)(h:Q u s)(hn:x ≠ "__name__" := by decide)(hd:(x == ("__debug__" : Str))=false:=by decide):wpAny (model X.prog X.w) X.A (eval (.Name x pos) X.env) Q E s:=by
 refine Zae I.mod.blt λmb h1 h2=>?_;exact Calls.Name_function_global I.ok.kind hg (Calls.loadGlobal_builtin (by rw[I.ok.glob];exact I.mod.glob.keeps I.bk) hm (by rw[I.ok.blt];exact h1.keeps I.bk) ((h2 x hn).trans hv) h) hd
theorem pe_glob {x:Str}{v:V}{u:Value}{pos:Pos}(hg:Gl X x)(hm:X.mg x=some u)(r:RelV v u)(hd:(x == ("__debug__" : Str))=false:=by decide):PE X (.Name x pos) (tC v):=
 λ_ _ _ H _ I h=>Zjj I hg hm ⟨v,H,I,r,h⟩ hd
theorem pe_bltn {x:Str}{v:V}{u:Value}{pos:Pos}(hg:Gl X x)(hm:X.mg x=none)(hv:bootBuiltins x=some u)(r:RelV v u)(hn:x ≠ "__name__" := by decide)(hd:(x == ("__debug__" : Str))=false:=by decide):PE X (.Name x pos) (tC v):=
 λ_ _ _ H _ I h=>Zim I hg hm hv ⟨v,H,I,r,h⟩ hn hd
variable {a b:Expr}{ta tb:TE}{pos:Pos}
def PC (X:Cx)(op:CmpOp)(a b:Expr)(t:TE):Prop:=
 ∀ (pins:List (Addr×Obj)) (s:Shared) (σ:St) (H:Hp) (Q:VK),Inv X pins σ H s->t σ H Q->
  wpAny (model X.prog X.w) X.A (eval a X.env) (λv s₁=>wpAny (model X.prog X.w) X.A (eval b X.env) (λu s₂=>wpAny (model X.prog X.w) X.A (compareOp op v u) (EP X pins σ Q) X.xe s₂) X.xe s₁) X.xe s
theorem Ztz (b:Expr){op:CmpOp}(h:op≠.In)(h2:op≠.NotIn):behindInMarks op b=false:=by
 have e1:(op == CmpOp.In)=false:=by cases op <;> first|rfl|exact absurd rfl h
 have e2:(op == CmpOp.NotIn)=false:=by cases op <;> first|rfl|exact absurd rfl h2
 cases b <;> simp[behindInMarks,e1,e2]
def tB (t:TE):TT:=λσ H Q=>t σ H λx H1=>∃ c,x=.bl c/\Q c H1
theorem pt_cmp {op:CmpOp}{t:TE}(h:PC X op a b t)(h1:behindInMarks op b=false:=by first|exact Ztz _ ⇑0 ⇑0|rfl):PT X (.Compare a [op] [b] pos) (tB t):=by
 intro pins s σ H Q I hw;refine Jf7 (thn (h pins s σ H _ I hw) λv s1 h1=>thn h1 λu s2 h2=>thn h2 λc s3 ⟨x,H1,I1,r1,q1⟩=>?_) h1;refine Zae q1 λd e923 q=>?_;clear q1;obtain rfl:=e923;cases r1;exact Jcd ⟨H1,I1,q⟩
theorem Zga {e:Expr}{t:TE}(h:PE X e t)(he:∀ whole,isTrue e X.env whole=(do let v <- whole;standAt e.pos;holding [v] (truthy v)):=by intro _;rfl):PT X e (tB t):=by
 intro pins s σ H Q I hw;refine isTrue_plain (thn (h pins s σ H _ I hw) λv s1 ⟨x,H1,I1,r1,q1⟩=>?_) (he _);refine Zae q1 λd e924 q=>?_;clear q1;obtain rfl:=e924;cases r1;exact Jcd ⟨H1,I1,q⟩
variable {tA tB':TT}{rest:List Expr}
def tAnd (t u:TT):TT:=λσ H Q=>t σ H λc H1=>if c=true then u σ H1 Q else Q false H1
def tOr (t u:TT):TT:=λσ H Q=>t σ H λc H1=>if c=true then Q true H1 else u σ H1 Q
def tNot (t:TT):TT:=λσ H Q=>t σ H λc H1=>Q (!c) H1
theorem Zqf (ha:PT X a tA):PW X (.BoolOp .And [a] pos) tA:=by
 intro wh pins s σ H Q I h;refine isTrue_and (thn (ha pins s σ H Q I h) λc s1 e=>?_);cases c with
 | true=>exact isTrue_and_nil e
 | false=>exact e
theorem Zf9 (ha:PT X a tA):PW X (.BoolOp .Or [a] pos) tA:=by
 intro wh pins s σ H Q I h;refine isTrue_or (thn (ha pins s σ H Q I h) λc s1 e=>?_);cases c with
 | false=>exact isTrue_or_nil e
 | true=>exact e
theorem Zva (ha:PT X a tA)(hb:PW X (.BoolOp .And (b::rest) pos) tB'):PW X (.BoolOp .And (a::b::rest) pos) (tAnd tA tB'):=by
 intro wh pins s σ H Q I h;refine isTrue_and (thn (ha pins s σ H _ I h) λc s1 ⟨H1,I1,q1⟩=>?_);cases c with
 | true=>exact hb wh pins s1 σ H1 Q I1 q1
 | false=>exact⟨H1,I1,q1⟩
theorem Zhj (ha:PT X a tA)(hb:PW X (.BoolOp .Or (b::rest) pos) tB'):PW X (.BoolOp .Or (a::b::rest) pos) (tOr tA tB'):=by
 intro wh pins s σ H Q I h;refine isTrue_or (thn (ha pins s σ H _ I h) λc s1 ⟨H1,I1,q1⟩=>?_);cases c with
 | true=>exact⟨H1,I1,q1⟩
 | false=>exact hb wh pins s1 σ H1 Q I1 q1
theorem Zej (ha:PT X a tA):PT X (.UnaryOp .Not a pos) (tNot tA):=by
 intro pins s σ H Q I h;exact isTrue_not (ha pins s σ H (λc H1=>Q (!c) H1) I h)
def tAndV (ta tb:TE):TE:=λσ H Q=>ta σ H λx H1=>∃ c,x=.bl c/\if c=true then tb σ H1 Q else Q (.bl false) H1
def tOrV (ta tb:TE):TE:=λσ H Q=>ta σ H λx H1=>∃ c,x=.bl c/\if c=true then Q (.bl true) H1 else tb σ H1 Q
def tNotV (ta:TE):TE:=λσ H Q=>ta σ H λx H1=>∃ c,x=.bl c/\Q (.bl (!c)) H1
theorem Zvg {op}{t:TE}(h:PE X a t):PE X (.BoolOp op [a] pos) t:=λpins s σ H Q I hw=>BoolOp_one (h pins s σ H Q I hw)
theorem Zvi (ha:PE X a ta)(hb:PE X (.BoolOp .And (b::rest) pos) tb):PE X (.BoolOp .And (a::b::rest) pos) (tAndV ta tb):=by
 intro pins s σ H Q I h;refine BoolOp_and (thn (ha pins s σ H _ I h) λv s1 ⟨x,H1,I1,r1,q1⟩=>?_);obtain⟨c,rfl,q1⟩:=q1;cases r1;refine Jcd ?_;cases c with
 | true=>exact hb pins s1 σ H1 Q I1 q1
 | false=>exact⟨.bl false,H1,I1,rfl,q1⟩
theorem pe_not (ha:PE X a ta):PE X (.UnaryOp .Not a pos) (tNotV ta):=by
 intro pins s σ H Q I h;refine UnaryOp_ (thn (ha pins s σ H _ I h) λv s1 ⟨x,H1,I1,r1,q1⟩=>?_);obtain⟨c,rfl,q1⟩:=q1;cases r1;exact not_of (Jcd ⟨.bl (!c),H1,I1,rfl,q1⟩)
def tIf (t:TT)(ta tb:TE):TE:=λσ H Q=>t σ H λc H1=>if c=true then ta σ H1 Q else tb σ H1 Q
end
def SqL (K:Frag)(H:Hp)(a:Addr)(xs:List V):Prop:=
 Rd H a (.lst xs) \/
  ∃ (o:Obj) (its:Array Value) (n:Nat),K.lookup a=some o/\o.cls=.type "list" /\ o.dict=none/\o.data=.seq its n/\its.size<=sizeLine/\Vals xs its.toList
def SqT (K:Frag)(H:Hp)(a:Addr)(xs:List V):Prop:=
 Rd H a (.tup xs) \/
  ∃ (o:Obj) (its:Array Value) (n:Nat),K.lookup a=some o/\o.cls=.type "tuple" /\ o.data=.seq its n/\its.size<=sizeLine/\Vals xs its.toList
noncomputable def absV:Value->Option V
 | .none=>some .non
 | .bool b=>some (.bl b)
 | .int i _=>some (.int i)
 | .str x _=>some (.str x)
 | .bytes b _=>some (.byt b)
 | .float b _=>some (.flt b)
 | .ref a=>some (.ref a)
 | .type n=>some (.ty n)
 | _=>none
theorem RelV.abs {x:V}{u:Value}(r:RelV x u):absV u=some x:=by
 cases x with
 | non=>cases r;rfl
 | bl _=>cases r;rfl
 | int _=>obtain⟨t,rfl⟩:=r;rfl
 | str _=>obtain⟨t,rfl⟩:=r;rfl
 | byt _=>obtain⟨t,rfl⟩:=r;rfl
 | flt _=>obtain⟨t,rfl⟩:=r;rfl
 | ref _=>cases r;rfl
 | ty _=>cases r;rfl
theorem RelV.inj {x y:V}{u:Value}(r:RelV x u)(q:RelV y u):x=y:=Jbn (r.abs.symm.trans q.abs)
theorem Vals.inj:∀ {xs ys:List V} {us:List Value},Vals xs us->Vals ys us->xs=ys
 | _,_,_,.nil,.nil=>rfl
 | _,_,_,.cons r t,.cons r' t'=>by rw[r.inj r',Vals.inj t t']
section
variable {X:Cx}{pins:List (Addr×Obj)}{σ:St}{H:Hp}{s:Shared}{a:Addr}{xs ys:List V}
theorem SqL.of {K:Frag}(h:H a=some (.lst xs)):SqL K H a xs:=.inl (.inl h)
theorem SqT.of {K:Frag}(h:H a=some (.tup xs)):SqT K H a xs:=.inl (.inl h)
theorem Inv.list (I:Inv X pins σ H s)(h:SqL X.K H a xs):∃ its:List Value,Vals xs its/\PlainL s.heap a its.toArray/\xs.length<=sizeLine:=by
 rcases h with h|⟨o,its,n,hk,hc,hd,hs,hz,r⟩
 .obtain ⟨z,its,n,r,e⟩:=h.ok I.hok;exact⟨its,r,⟨_,n,e,rfl,rfl,rfl⟩,z⟩
 .refine ⟨its.toList,r,⟨o,n,I.kIn a o hk,hc,hd,by simpa using hs⟩,?_⟩;have e:=r.length;simp only[Ja0] at e;omega
theorem Inv.tuple (I:Inv X pins σ H s)(h:SqT X.K H a xs):∃ its:List Value,Vals xs its/\IsTup s.heap a its.toArray/\xs.length<=sizeLine:=by
 rcases h with h|⟨o,its,n,hk,hc,hs,hz,r⟩
 .obtain ⟨z,its,r,p⟩:=h.ok I.hok;exact⟨its,r,p,z⟩
 .refine ⟨its.toList,r,⟨o,I.kIn a o hk,hc,n,by simpa using hs⟩,?_⟩;have e:=r.length;simp only[Ja0] at e;omega
theorem Inv.list_inj (I:Inv X pins σ H s)(h:SqL X.K H a xs)(h':SqL X.K H a ys):xs=ys:=by
 refine Zau (I.list h) λits r e925 _=>?_;obtain⟨o,n,e,_,_,d⟩:=e925;refine Zau (I.list h') λits' r' e926 _=>?_;obtain⟨o',n',e',_,_,d'⟩:=e926;rw[e] at e';cases e';rw[d] at d'
 injection d' with d1 _
 have:its=its':=by simpa using Jdr Array.toList d1
 subst this;exact r.inj r'
theorem Inv.tuple_inj (I:Inv X pins σ H s)(h:SqT X.K H a xs)(h':SqT X.K H a ys):xs=ys:=by
 refine Zau (I.tuple h) λits r e927 _=>?_;obtain⟨o,e,_,n,d⟩:=e927;refine Zau (I.tuple h') λits' r' e928 _=>?_;obtain⟨o',e',_,n',d'⟩:=e928;rw[e] at e';cases e';rw[d] at d'
 injection d' with d1 _
 have:its=its':=by simpa using Jdr Array.toList d1
 subst this;exact r.inj r'
end
noncomputable abbrev Cx.wish (X:Cx)(E:Value->Shared->Prop):Cx:={ X with xe:=E }
noncomputable abbrev Cx.nox (X:Cx):Cx:=X.wish λ_ _=>False
theorem Cx.Ok.wish {X:Cx}(ok:X.Ok)(E:Value->Shared->Prop):(X.wish E).Ok:=
 ⟨ok.mod,ok.kind,ok.glob,ok.blt,ok.above,ok.inj,ok.has,ok.cab,ok.hd,ok.frames,ok.stk,ok.exf,ok.bs,ok.bsz,ok.noex,ok.exfs,ok.funs,ok.frf,ok.top⟩
theorem Cx.Ok.unwish {X:Cx}{E:Value->Shared->Prop}(ok:(X.wish E).Ok):X.Ok:=
 ⟨ok.mod,ok.kind,ok.glob,ok.blt,ok.above,ok.inj,ok.has,ok.cab,ok.hd,ok.frames,ok.stk,ok.exf,ok.bs,ok.bsz,ok.noex,ok.exfs,ok.funs,ok.frf,ok.top⟩
section
variable {X:Cx}{pins:List (Addr×Obj)}{σ:St}{H:Hp}{s:Shared}{E:Value->Shared->Prop}
theorem Inv.wish (I:Inv X pins σ H s)(E:Value->Shared->Prop):Inv (X.wish E) pins σ H s:=⟨I.ok.wish E,I.os,I.bare,I.base,I.loc,I.cell,I.free,I.freeC,I.pin,I.hok,I.len⟩
theorem Inv.unwish (I:Inv (X.wish E) pins σ H s):Inv X pins σ H s:=⟨I.ok.unwish,I.os,I.bare,I.base,I.loc,I.cell,I.free,I.freeC,I.pin,I.hok,I.len⟩
theorem SP.unwish {D:Ends}{f:Flow}{s':Shared}(h:SP (X.wish E) pins D f s'):SP X pins D f s':=by
 cases f with
 | next=>obtain⟨σ',H',I,q⟩:=h;exact⟨σ',H',I.unwish,q⟩
 | brk=>obtain⟨σ',H',I,q⟩:=h;exact⟨σ',H',I.unwish,q⟩
 | cont=>obtain⟨σ',H',I,q⟩:=h;exact⟨σ',H',I.unwish,q⟩
 | ret u=>obtain⟨v,σ',H',I,r,q⟩:=h;exact⟨v,σ',H',I.unwish,r,q⟩
theorem PSs.nox {st:List Stmt}{t:TS}(h:PSs X.nox st t):PSs X st t:=λpins s σ H D I hw=>
 Jbw (h pins s σ H D (I.wish _) hw) (λ_ _ q=>q.unwish) λ_ _ z=>False.elim z
end
section
variable {X:Cx}{st:Stmt}{rest:List Stmt}{t u:TS}{e:Expr}{te:TE}{pos:Pos}
def tNext:TS:=λD σ H=>D.nx σ H
def tSeq (t u:TS):TS:=λD σ H=>t { D with nx:=u D } σ H
theorem Zao:PSs X [] tNext:=λ_ _ σ H _ I h=>Jgm ⟨σ,H,I,h⟩
theorem Zti (h1:PS X st t)(h2:PSs X rest u):PSs X (st::rest) (tSeq t u):=by
 intro pins s σ H D I h;refine wpAny_execs_cons (thn (h1 pins s σ H { D with nx:=u D } I h) λf s1 q=>?_);cases f with
 | next=>
  obtain⟨σ',H',I',q⟩:=q;exact h2 pins s1 σ' H' D I' q
 | ret v=>exact q
 | brk=>exact q
 | cont=>exact q
theorem Zan (h1:PS X st t):PSs X [st] t:=by
 intro pins s σ H D I h;refine wpAny_execs_cons (thn (h1 pins s σ H D I h) λf s1 q=>?_);cases f with
 | next=>exact Jgm q
 | ret v=>exact q
 | brk=>exact q
 | cont=>exact q
theorem Inv.quiet {pins:List (Addr×Obj)}{σ:St}{H:Hp}{s:Shared}(I:Inv X pins σ H s):interactive X.env=false:=by simp[interactive,I.ok.kind]
def tDrop (te:TE):TS:=λD σ H=>te σ H λ_ H1=>D.nx σ H1
theorem Zb7 (he:PE X e te)(hs:swapsWith e none pos.line X.env=pure false:=by rfl):PS X (.Expr e pos) (tDrop te):=by
 intro pins s σ H D I h;exact wpAny_Expr_any (thn (he pins s σ H _ I h) λv s1 ⟨x,H1,I1,r1,q1⟩=>⟨σ,H1,I1,q1⟩) I.quiet hs
def tRet (te:TE):TS:=λD σ H=>te σ H D.rt
theorem ps_ret (he:PE X e te):PS X (.Return (some e) pos) (tRet te):=by
 intro pins s σ H D I h;exact wpAny_Return_some (thn (he pins s σ H _ I h) λv s1 ⟨x,H1,I1,r1,q1⟩=>⟨x,σ,H1,I1,r1,q1⟩)
def tRetN:TS:=λD _ H=>D.rt .non H
def Zu1 (c:TT)(t u:TS):TS:=λD σ H=>c σ H λb H1=>if b=true then t D σ H1 else u D σ H1
theorem Zbb {c:Expr}{a b:List Stmt}{tc:TT}(hc:PT X c tc)(ha:PSs X a t)(hb:PSs X b u):PS X (.If c a b pos) (Zu1 tc t u):=by
 intro pins s σ H D I h;refine wpAny_If (thn (hc pins s σ H _ I h) λd s1 ⟨H1,I1,q1⟩=>?_);cases d with
 | true=>exact ha pins s1 σ H1 D I1 q1
 | false=>exact hb pins s1 σ H1 D I1 q1
def tNever:TS:=λ_ _ _=>False
theorem Ztk:PS X st tNever:=λ_ _ _ _ _ _ h=>h.elim
end
abbrev TG:=V->St->Hp->(St->Hp->Prop)->Prop
abbrev TGs:=List V->St->Hp->(St->Hp->Prop)->Prop
def PG (X:Cx)(target:Expr)(t:TG):Prop:=
 ∀ (pins:List (Addr×Obj)) (s:Shared) (σ:St) (H:Hp) (v:V) (u:Value) (Q:St->Hp->Prop),Inv X pins σ H s->RelV v u->t v σ H Q->
  wpAny (model X.prog X.w) X.A (assign target X.env u) (λ_ s'=>∃ σ' H',Inv X pins σ' H' s'/\Q σ' H') X.xe s
def PGs (X:Cx)(ts:List Expr)(t:TGs):Prop:=
 ∀ (pins:List (Addr×Obj)) (s:Shared) (σ:St) (H:Hp) (vs:List V) (us:List Value) (Q:St->Hp->Prop),Inv X pins σ H s->Vals vs us->t vs σ H Q->
  wpAny (model X.prog X.w) X.A (assignInOrder ((assignEach ts X.env).map (·.2)) us) (λ_ s'=>∃ σ' H',Inv X pins σ' H' s'/\Q σ' H') X.xe s
abbrev TSet:=V->V->V->Hp->(Hp->Prop)->Prop
def PSet (X:Cx)(t:TSet):Prop:=
 ∀ (pins:List (Addr×Obj)) (s:Shared) (σ:St) (H:Hp) (o i v:V) (ov iv u:Value) (Q:Hp->Prop),Inv X pins σ H s->RelV o ov->RelV i iv->RelV v u->t o i v H Q->
  wpAny (model X.prog X.w) X.A (setItem ov iv u) (λ_ s'=>∃ H',Inv X pins σ H' s'/\Q H') X.xe s
abbrev TIp:=V->V->Hp->VK->Prop
def PIp (X:Cx)(op:Operator)(t:TIp):Prop:=
 ∀ (pins:List (Addr×Obj)) (s:Shared) (σ:St) (H:Hp) (x y:V) (v u:Value) (Q:VK),Inv X pins σ H s->RelV x v->RelV y u->t x y H Q->
  wpAny (model X.prog X.w) X.A (inplaceOp op v u) (EP X pins σ Q) X.xe s
section
variable {X:Cx}{pos:Pos}
def Za7 (i:Nat):TG:=λv σ H Q=>Q (σ.set i (some v)) H
theorem Zaf {i:Nat}{x:Str}(hN:X.N.Nodup)(hi:X.N[i]?=some x)(hx:Loc X.env.scope x)(hf:X.fn x=true\/X.env.scope.names.lookup x=some .local:=by walk_at "h"):PG X (.Name x pos) (Za7 i):=by
 intro pins s σ H v u Q I r h;exact wpAny_assign_Name (Zgr I hN hi hx r (λs' I'=>⟨_,H,I',h⟩) hf)
def gNil:TGs:=λvs σ H Q=>vs=[]/\Q σ H
def gCons (t:TG)(u:TGs):TGs:=λvs σ H Q=>∃ v r,vs=v::r/\t v σ H λσ' H'=>u r σ' H' Q
theorem Zdo:PGs X [] gNil:=by
 intro pins s σ H vs us Q I r h;obtain⟨e,h⟩:=h;subst e;cases r;exact assignInOrder_nil ⟨σ,H,I,h⟩
theorem Zba {e:Expr}{es:List Expr}{t:TG}{u:TGs}(h1:PG X e t)(h2:PGs X es u)(hs:(assignEach (e::es) X.env).map (·.2)=assign e X.env::(assignEach es X.env).map (·.2):=by rfl):PGs X (e::es) (gCons t u):=by
 intro pins s σ H vs us Q I r h;obtain⟨v,vr,e1,h⟩:=h;subst e1;cases r with
 | cons r rr=>
  rw[hs];refine assignInOrder_cons (thn (h1 pins s σ H _ _ _ I r h) λ_ s1 ⟨σ1,H1,I1,q1⟩=>?_);exact h2 pins s1 σ1 H1 _ _ Q I1 rr q1
def gTup (K:Frag)(n:Nat)(t:TGs):TG:=λv σ H Q=>∃ a xs,v=.ref a/\SqT K H a xs/\xs.length=n/\t xs σ H Q
theorem Zgb {es:List Expr}{k:Nat}{t:TGs}{n:Nat}(hc:X.calm=true)(h:PGs X es t)(hn:(assignEach es X.env).length=n:=by rfl)(hst:(assignEach es X.env).findIdx? (·.1)=none:=by rfl):PG X (.Tuple es k pos) (gTup X.K n t):=by
 intro pins s σ H v u Q I r hw;obtain⟨a,xs,e1,hq,hl,hw⟩:=hw;subst e1;cases r;obtain⟨its,rv,ht,hz⟩:=I.tuple hq;refine assign_Tuple_tuple (I.ok.hd hc) ht (by simp[hn,<- hl,rv.length]) hst λh' hx=>?_;have I1:Inv X pins σ H { s with heap:=h' }:=I.kept (t':=s.toks) λb o e=>hx b o (Ja6 (Jar e)) e;exact h pins _ σ H xs _ Q I1 (by simpa using rv) hw
def gSub (to ti:TE)(t:TSet):TG:=λv σ H Q=>to σ H λo H1=>ti σ H1 λi H2=>t o i v H2 λH3=>Q σ H3
theorem Zhm {o i:Expr}{to ti:TE}{t:TSet}(ho:PE X o to)(hi:PE X i ti)(hs:PSet X t)(ha:∀ v,assign (.Subscript o i pos) X.env v=(do
   let ov <- holding [v] (eval o X.env)
   let iv <- holding [v,ov] (eval i X.env)
   standAt pos
   holding [v,ov,iv] (setItem ov iv v)
   release [v,ov,iv] []):=by intro _;rfl):PG X (.Subscript o i pos) (gSub to ti t):=by
 intro pins s σ H v u Q I r h;rw[ha];refine Jab (Jby (thn (ho pins s σ H _ I h) λov s1 ⟨x,H1,I1,r1,q1⟩=>?_));refine Jab (Jby (thn (hi pins s1 σ H1 _ I1 q1) λiv s2 ⟨y,H2,I2,r2,q2⟩=>?_));refine Jab (Jdo (Jab (Jby (thn (hs pins s2 σ H2 x y v ov iv u _ I2 r1 r2 r q2) λ_ s3 ⟨H3,I3,q3⟩=>?_))));exact wpAny_release ⟨σ,H3,I3,q3⟩
def tAsg (te:TE)(g:TG):TS:=λD σ H=>te σ H λx H1=>g x σ H1 D.nx
theorem Zd9 {tg e:Expr}{te:TE}{g:TG}(he:PE X e te)(hg:PG X tg g)(hs:swapsWithSole [tg] e pos.line X.env=pure false:=by rfl)(hw:swappedStores [tg] e X.env=pure none:=by rfl)(h1:(assignEach [tg] X.env).map (·.2)=[assign tg X.env]:=by rfl):PS X (.Assign [tg] e pos) (tAsg te g):=by
 intro pins s σ H D I h;refine wpAny_Assign_stores (thn (he pins s σ H _ I h) λv s1 ⟨x,H1,I1,r1,q1⟩=>?_) hs hw;rw[h1];exact thn (hg pins s1 σ H1 x v _ I1 r1 q1) λ_ s2 q=>q
theorem Zat {i:Nat}{x:Str}{e:Expr}{te:TE}{pos':Pos}(hN:X.N.Nodup)(hi:X.N[i]?=some x)(hx:Loc X.env.scope x)(he:PE X e te)(hs:swapsWith e (some (.Name x pos')) pos.line X.env=pure false:=by rfl)(hf:X.fn x=true\/X.env.scope.names.lookup x=some .local:=by walk_at "h"):
  PS X (.Assign [.Name x pos'] e pos) (tAsg te (Za7 i)):=by
 intro pins s σ H D I h;refine wpAny_Assign_Name (thn (he pins s σ H _ I h) λv s1 ⟨y,H1,I1,r1,q1⟩=>?_) hs;exact Zgr I1 hN hi hx r1 (λs2 I2=>⟨_,H1,I2,q1⟩) hf
def tPar (i j:Nat)(ta:TA):TS:=λD σ H=>ta σ H λvs H1=>∃ v w,vs=[v,w]/\D.nx ((σ.set i (some v)).set j (some w)) H1
theorem ps_par {i j:Nat}{x y:Str}{a b:Expr}{ta:TA}{px py pt:Pos}{kt k2 pt2}(hc:X.calm=true)(hN:X.N.Nodup)(hi:X.N[i]?=some x)(hj:X.N[j]?=some y)(hij:i≠j)(hx:X.env.scope.names.lookup x=some .local)(hy:X.env.scope.names.lookup y=some .local)(ha:PA X [a,b] ta)(hw:swappedStores [.Tuple [.Name x px,.Name y py] kt pt] (.Tuple [a,b] k2 pt2) X.env=pure (some [x,y]))(hs:swapsWithSole [.Tuple [.Name x px,.Name y py] kt pt] (.Tuple [a,b] k2 pt2) pos.line X.env=pure false:=by rfl):
  PS X (.Assign [.Tuple [.Name x px,.Name y py] kt pt] (.Tuple [a,b] k2 pt2) pos) (tPar i j ta):=by
 intro pins s σ H D I h;rw[exec_Assign_arm];refine Jab (Jdo ?_);rw[hs];refine Jab (Jae ?_);rw[if_neg ⇑0];refine Jab (Tuple_ (thn (ha _ pins s σ H _ I h) λus s1 ⟨vs,H1,I1,r1,q1⟩=>?_));obtain⟨v,w,e1,q1⟩:=q1;subst e1;obtain⟨u1,u2,rfl,rv,rw'⟩:∃ u1 u2,us=[u1,u2]/\RelV v u1/\RelV w u2:=by
  cases r1 with
  | cons p q=>
   cases q with
   | cons p' q'=>
    cases q';exact⟨_,_,rfl,p,p'⟩
 refine Jdb ?_ (by show 2<=sizeLine;decide);have I2:Inv X pins σ H1 { s1 with heap:=s1.heap.push { cls:=.type "tuple",data:=.seq [u1,u2].toArray } }:=I1.kept (t':=s1.toks) λb o e=>Jad _ e;rw[hw];refine Jab (Jae ?_);show wpAny (model X.prog X.w) X.A (do rule "assign.swapped-stores";let items <- unpackItems (.ref s1.heap.objs.size) 2 none;assignInOrder [λv=>bindName X.env y v,λv=>bindName X.env x v] items.reverse;pure Flow.next) _ _ _;refine Jab (Jfe (Jab (unpackItems_tuple (items:=#[u1,u2]) (I.ok.hd hc) (IsTup.new s1.heap _) λh' hx'=>?_)));have I3:=I2.kept (h':=h') (t':=s1.toks) λb o e=>hx' b o (Ja6 (Jar e)) e;show wpAny _ _ (assignInOrder [λv=>bindName X.env y v,λv=>bindName X.env x v] [u2,u1] >>= λ_=>pure Flow.next) _ _ _;refine Jab (assignInOrder_cons (wpAny_bindName (Zgr I3 hN hj (.inl hy) rw' (λs2 I4=>?_) (.inr hy))));refine assignInOrder_cons (wpAny_bindName (Zgr I4 hN hi (.inl hx) rv (λs3 I5=>assignInOrder_nil (Jae ?_)) (.inr hx)));rw[List.set_comm _ _ (Jet hij)] at I5;exact⟨_,H1,I5,q1⟩
def tAug (i:Nat)(te:TE)(ti:TIp):TS:=λD σ H=>∃ x,σ[i]?=some (some x)/\te σ H λy H1=>ti x y H1 λz H2=>D.nx (σ.set i (some z)) H2
def tAugS (to ti te:TE)(tget:V->V->Hp->VK->Prop)(tip:TIp)(tset:TSet):TS:=λD σ H=>to σ H λo H1=>ti σ H1 λi H2=>tget o i H2 λx H3=>te σ H3 λy H4=>tip x y H4 λz H5=>tset o i z H5 λH6=>D.nx σ H6
def PGet (X:Cx)(t:V->V->Hp->VK->Prop):Prop:=
 ∀ (pins:List (Addr×Obj)) (s:Shared) (σ:St) (H:Hp) (o i:V) (ov iv:Value) (Q:VK),Inv X pins σ H s->RelV o ov->RelV i iv->t o i H Q->
  wpAny (model X.prog X.w) X.A (getItem ov iv) (EP X pins σ Q) X.xe s
theorem Zqg {o i e:Expr}{to ti te:TE}{tget:V->V->Hp->VK->Prop}{tip:TIp}{tset:TSet}{op:Operator}{tpos:Pos}(ho:PE X o to)(hi:PE X i ti)(hg:PGet X tget)(he:PE X e te)(hp:PIp X op tip)(hs:PSet X tset)(ha:∀ ov iv new,augStore i ov iv new=(do holding [new,ov,iv] (setItem ov iv new);release [new,ov,iv] [];pure .next):=by intros;rfl):PS X (.AugAssign (.Subscript o i tpos) op e pos) (tAugS to ti te tget tip tset):=by
 intro pins s σ H D I h;refine wpAny_AugAssign_SubscriptAny (thn (ho pins s σ H _ I h) λov s1 ⟨x1,H1,I1,r1,q1⟩=>?_) ha;refine thn (hi pins s1 σ H1 _ I1 q1) λiv s2 ⟨x2,H2,I2,r2,q2⟩=>?_;refine thn (hg pins s2 σ H2 x1 x2 ov iv _ I2 r1 r2 q2) λold s3 ⟨x3,H3,I3,r3,q3⟩=>?_;refine thn (he pins s3 σ H3 _ I3 q3) λv s4 ⟨x4,H4,I4,r4,q4⟩=>?_;refine thn (hp pins s4 σ H4 x3 x4 old v _ I4 r3 r4 q4) λnew s5 ⟨x5,H5,I5,r5,q5⟩=>?_;exact thn (hs pins s5 σ H5 x1 x2 x5 ov iv new _ I5 r1 r2 r5 q5) λ_ s6 ⟨H6,I6,q6⟩=>⟨σ,H6,I6,q6⟩
def ipI (f:Int->Int->Int):TIp:=λx y H Q=>∃ i j,x=.int i/\y=.int j/\Q (.int (f i j)) H
theorem Zvs:PIp X .Add (ipI λi j=>i+j):=by
 intro pins s σ H x y v u Q I r1 r2 h;refine Zbf h λi j e1 e2 q=>?_;clear h;subst e1;subst e2;obtain⟨t,rfl⟩:=r1;obtain⟨t',rfl⟩:=r2;exact iadd_int ⟨.int _,H,I.tok _,⟨_,rfl⟩,q⟩
end
section
variable {X:Cx}{pos:Pos}
def tWhile (c:TT)(tb:TS):TS:=λD σ H=>∃ W:Nat->St->Hp->Prop,(∃ m,W m σ H)/\∀ m σ H,W m σ H->
 c σ H λb H1=>if b=true then ∃ N:St->Hp->Prop,(∀ σ' H',N σ' H'->∃ m',m'<m/\W m' σ' H')/\tb { D with nx:=N,ct:=N,bk:=D.nx } σ H1 else D.nx σ H1
theorem Zgt {c:Expr}{body:List Stmt}{tc:TT}{tb:TS}(hp:PassesOwn (model X.prog X.w) X.A X.env X.xe)(hc:PT X c tc)(hb:PSs X body tb):PS X (.While c body [] pos) (tWhile tc tb):=by
 intro pins s σ H D I h;refine Zae h λW e929 turn=>?_;clear h;obtain⟨m0,w0⟩:=e929;refine wpAny_While (codeAny_whileLoop (λn s'=>∃ σ' H',Inv X pins σ' H' s'/\W n σ' H') ?_ m0 ⟨σ,H,I,w0⟩);intro n s1 e91;refine Zcl e91 λσ1 H1 I1 w1=>?_;clear e91;refine Jeb hp (thn (hc pins s1 σ1 H1 _ I1 (turn n σ1 H1 w1)) λb s2 ⟨H2,I2,q2⟩=>?_);cases b with
 | true=>
  obtain⟨N,hN,q2⟩:=q2;rw[if_pos rfl];refine Jeb hp (thn (hb pins s2 σ1 H2 _ I2 q2) λf s3 q3=>?_);cases f with
  | next=>
   refine Zcl q3 λσ3 H3 I3 n3=>?_;clear q3;refine Zae (hN σ3 H3 n3) λm' hm w3=>?_;exact⟨m',hm,σ3,H3,I3,w3⟩
  | cont=>
   refine Zcl q3 λσ3 H3 I3 n3=>?_;clear q3;refine Zae (hN σ3 H3 n3) λm' hm w3=>?_;exact⟨m',hm,σ3,H3,I3,w3⟩
  | brk=>exact q3
  | ret v=>exact q3
 | false=>
  rw[if_neg Ja7];exact Jgm ⟨σ1,H2,I2,q2⟩
end
structure It where
 go:Nat->Hp->Prop
 yld:Nat->Hp->V->Hp->Prop
 stop:Nat->Hp->Prop
def Zk5 (X:Cx)(pins:List (Addr×Obj))(H:Hp)(b:Addr):Prop:=
 H b=none/\b≠X.env.locals/\b∉X.fs/\(b∈X.ex\/X.s₀.heap.objs.size<=b)/\(∀ x c,X.env.cells.lookup x=some c->c≠b)/\∀ p∈X.pn++pins,p.1≠b
theorem Inv.fpOk {X:Cx}{pins:List (Addr×Obj)}{σ:St}{H H':Hp}{s:Shared}{b:Addr}(I:Inv X pins σ H s)(hb:s.heap.objs.size<=b)(hn:H' b=none):Zk5 X pins H' b:=by
 refine⟨hn,Jg1 (Jbr I.lt hb),I.nofs hb,.inr (Ja8 I.sz hb),λx c e z=>?_,λp hp z=>?_⟩
 .obtain ⟨v,q⟩:=I.cell x c e;exact absurd (Jbr q.lt (by rw[z];exact hb)) (Jch _)
 .exact absurd (Jbr (Jar (I.pin p hp).1) (by rw[z];exact hb)) (Jch _)
structure Turn (P:Program)(w:World)(K:Frag)(tg:Expr)(J:It)(fp:List Addr)(it:Addr)(tn:Nat->Heap->Prop):Prop where
 mem:it∈fp
 obj:∀ i h,tn i h->∀ b∈fp,∃ o,h.get? b=some o/\∀ v,o.data≠.cell v
 keep:∀ i h h',tn i h->(∀ b∈fp,∀ o,h.get? b=some o->h'.get? b=some o)->tn i h'
 item:∀ (X:Cx),X.prog=P->X.w=w->X.K=K->X.calm=true->∀ (i:Nat) (pins:List (Addr×Obj)) (s:Shared) (σ:St) (H:Hp) (E:Value->Shared->Prop),Inv X pins σ H s->(∀ b∈fp,Zk5 X pins H b)->tn i s.heap->J.go i H->
  wpAny (model P w) X.A (pyNext (.ref it)) (λr s1=>∃ u,r=some u /\
   wpAny (model P w) X.A (letOwnedTupleGo tg (.ref it) u) (λ_ s2=>∃ x H',Inv X pins σ H' s2/\RelV x u/\J.yld i H x H'/\tn (i+1) s2.heap/\∀ b∈fp,H' b=none) E s1) E s
 done:∀ (X:Cx),X.prog=P->X.w=w->X.K=K->X.calm=true->∀ (i:Nat) (pins:List (Addr×Obj)) (s:Shared) (σ:St) (H:Hp) (E:Value->Shared->Prop),Inv X pins σ H s->(∀ b∈fp,Zk5 X pins H b)->tn i s.heap->J.stop i H->
  wpAny (model P w) X.A (pyNext (.ref it)) (λr s1=>r=none/\Inv X pins σ H s1) E s
 self:∀ (A:Around) (i:Nat) (s:Shared) (Q:Value->Shared->Prop) (E:Value->Shared->Prop),tn i s.heap->Q (.ref it) s->wpAny (model P w) A (pyIter (.ref it)) Q E s
abbrev TI:=St->Hp->(It->Hp->Prop)->Prop
def PIE (X:Cx)(pins:List (Addr×Obj))(σ:St)(tg:Expr)(R:It->Hp->Prop)(itv:Value)(s2:Shared):Prop:=
 ∃ (it:Addr) (fp:List Addr) (tn:Nat->Heap->Prop) (J:It) (H':Hp),itv=.ref it/\Inv X pins σ H' s2/\Turn X.prog X.w X.K tg J fp it tn/\tn 0 s2.heap/\(∀ b∈fp,Zk5 X pins H' b)/\R J H'
def PI (X:Cx)(tg iter:Expr)(wi:TI):Prop:=
 ∀ (pins:List (Addr×Obj)) (s:Shared) (σ:St) (H:Hp) (R:It->Hp->Prop),Inv X pins σ H s->wi σ H R->
  wpAny (model X.prog X.w) X.A (eval iter X.env) (λv s1=>wpAny (model X.prog X.w) X.A (pyIter v) (PIE X pins σ tg R) X.xe s1) X.xe s
theorem go_of {M:Model}{A:Around}{E:Value->Shared->Prop}{s:Shared}{tg:Expr}{it:Addr}{u:Value}{o:Obj}{n:String}{vs:Array Value}{Q:Unit->Shared->Prop}(ho:s.heap.get? it=some o)(hc:o.cls=.type n)(hd:o.data=.fields vs)(hn:["enumerate","zip","dict_itemiterator","dict_reverseitemiterator","odict_iterator","itertools.zip_longest","itertools.pairwise"].contains n=false)(hQ:Q () s):wpAny M A (letOwnedTupleGo tg (.ref it) u) Q E s:=by
 unfold letOwnedTupleGo;cases tg <;> first
  | exact Jae hQ
  | (cases u <;> first
    | exact Jae hQ
    | (refine Jab (wpAny_load ho ?_);rw[hc,hd];show wpAny M A (if (["enumerate","zip","dict_itemiterator","dict_reverseitemiterator","odict_iterator","itertools.zip_longest","itertools.pairwise"].contains n && vs[0]? == some (rawInt _))=true then _ else _) Q E s;rw[if_neg (by intro h;rw[hn,Bool.false_and] at h;cases h)];exact Jae hQ))
noncomputable def Itl (K:Frag)(a:Addr):It:=
 ⟨λi H=>∃ xs x,SqL K H a xs/\xs[i]?=some x,λi H x H'=>H'=H/\∀ xs,SqL K H a xs->xs[i]?=some x,λi H=>∃ xs,SqL K H a xs/\xs.length<=i⟩
noncomputable def Itt (K:Frag)(a:Addr):It:=
 ⟨λi H=>∃ xs x,SqT K H a xs/\xs[i]?=some x,λi H x H'=>H'=H/\∀ xs,SqT K H a xs->xs[i]?=some x,λi H=>∃ xs,SqT K H a xs/\xs.length<=i⟩
noncomputable def Itr (lo:Int)(n:Nat):It:=⟨λi _=>i<n,λi H x H'=>H'=H/\x=.int (lo+i),λi _=>n<=i⟩
theorem Zpg {P:Program}{w:World}{K:Frag}{tg:Expr}(a it:Addr):Turn P w K tg (Itl K a) [it] it (λi h=>h.IsListIter it a i) where
 mem:=by simp
 obj:=λi h st b hb=>by
  have e:b=it:=by simpa using hb
  subst e;refine Zau st λo e c d=>?_;clear st;exact⟨o,e,λv z=>by rw[d] at z;cases z⟩
 keep:=λi h h' st k=>st.at λo e=>k it (by simp) o e
 item:=by
  intro X hP hw hK hc i pins s σ H E I hf st hg;subst hP hw hK;refine Zcl hg λxs x hq hx=>?_;clear hg;refine Zau (I.list hq) λits rv p hz=>?_;refine Zae (rv.get hx) λu hu ru=>?_;refine Zfi (hf it (by simp)) λf0 f1 f2 f3 f4 f5=>?_;refine wpAny_pyNext_list_item st p.isList (x:=u) (by simpa using hu) λh' st' sb=>?_;have I1:Inv X pins σ H { s with heap:=h' }:=I.turned (t':=s.toks) (λb o hb e=>(sb.2 b hb).trans e) f0 f1 f3 f4 f5;refine Zau (id st') λo e c d=>?_;exact⟨u,rfl,go_of (s:={ s with heap:=h' }) e c d ⇑0 ⟨x,H,I1,ru,⟨rfl,λys hy=>by rw[I.list_inj hy hq];exact hx⟩,st',λb hb=>(hf b hb).1⟩⟩
 done:=by
  intro X hP hw hK hc i pins s σ H E I hf st hg;subst hP hw hK;refine Zae hg λxs hq hx=>?_;clear hg;refine Zau (I.list hq) λits rv p hz=>?_;refine Zfi (hf it (by simp)) λf0 f1 f2 f3 f4 f5=>?_;have hl:=rv.length;exact wpAny_pyNext_list_end (I.ok.hd hc) st p.isList (by simp;omega) λh' eb=>⟨rfl,I.turned (t':=s.toks) (λb o hb e=>eb b o hb e) f0 f1 f3 f4 f5⟩
 self:=λ_ _ _ _ _ st h=>wpAny_pyIter_listiter st h
theorem Zoa {P:Program}{w:World}{K:Frag}{tg:Expr}(a it:Addr):Turn P w K tg (Itt K a) [it] it (λi h=>h.IsTupleIter it a i) where
 mem:=by simp
 obj:=λi h st b hb=>by
  have e:b=it:=by simpa using hb
  subst e;refine Zau st λo e c d=>?_;clear st;exact⟨o,e,λv z=>by rw[d] at z;cases z⟩
 keep:=λi h h' st k=>st.at λo e=>k it (by simp) o e
 item:=by
  intro X hP hw hK hc i pins s σ H E I hf st hg;subst hP hw hK;refine Zcl hg λxs x hq hx=>?_;clear hg;refine Zau (I.tuple hq) λits rv p hz=>?_;refine Zae (rv.get hx) λu hu ru=>?_;refine Zfi (hf it (by simp)) λf0 f1 f2 f3 f4 f5=>?_;refine wpAny_pyNext_tuple_item st (show s.heap.IsTuple a its.toArray from p) (x:=u) (by simpa using hu) λh' st' sb=>?_;have I1:Inv X pins σ H { s with heap:=h' }:=I.turned (t':=s.toks) (λb o hb e=>(sb.2 b hb).trans e) f0 f1 f3 f4 f5;refine Zau (id st') λo e c d=>?_;exact⟨u,rfl,go_of (s:={ s with heap:=h' }) e c d ⇑0 ⟨x,H,I1,ru,⟨rfl,λys hy=>by rw[I.tuple_inj hy hq];exact hx⟩,st',λb hb=>(hf b hb).1⟩⟩
 done:=by
  intro X hP hw hK hc i pins s σ H E I hf st hg;subst hP hw hK;refine Zae hg λxs hq hx=>?_;clear hg;refine Zau (I.tuple hq) λits rv p hz=>?_;refine Zfi (hf it (by simp)) λf0 f1 f2 f3 f4 f5=>?_;have hl:=rv.length;exact wpAny_pyNext_tuple_end (I.ok.hd hc) st (show s.heap.IsTuple a its.toArray from p) (by simp;omega) λh' eb=>⟨rfl,I.turned (t':=s.toks) (λb o hb e=>eb b o hb e) f0 f1 f3 f4 f5⟩
 self:=λ_ _ _ _ _ st h=>wpAny_pyIter_tupleiter st h
theorem Zob {P:Program}{w:World}{K:Frag}{tg:Expr}(it:Addr)(lo:Int)(n:Nat):Turn P w K tg (Itr lo n) [it] it (λi h=>IsRangeIter h it (lo+(i:Nat)*1) ((n:Int)-(i:Nat)) 1) where
 mem:=by simp
 obj:=λi h st b hb=>by
  have e:b=it:=by simpa using hb
  subst e;exact⟨_,st,λv z=>by
   have z':Data.fields _=Data.cell v:=z;cases z'⟩
 keep:=λi h h' st k=>k it (by simp) _ st
 item:=by
  intro X hP hw hK hc i pins s σ H E I hf st hg;subst hP hw hK;refine Zfi (hf it (by simp)) λf0 f1 f2 f3 f4 f5=>?_;have W:=Walks.range (prog:=X.prog) (w:=X.w) (I.ok.hd hc) it lo 1 n;refine W.item i s _ _ hg st λv h' tk hv st' kk=>?_;obtain⟨t,rfl⟩:=hv;have I1:Inv X pins σ H { s with heap:=h',toks:=tk }:=I.turned (λb o hb e=>kk b o (by simpa using hb) e) f0 f1 f3 f4 f5;refine⟨_,rfl,go_of (s:={ s with heap:=h',toks:=tk }) (n:="range_iterator") st' rfl rfl ⇑0 ⟨.int (lo+i),H,I1,⟨t,?_⟩,⟨rfl,rfl⟩,st',λb hb=>(hf b hb).1⟩⟩;rw[Int.mul_one]
 done:=by
  intro X hP hw hK hc i pins s σ H E I hf st hg;subst hP hw hK;refine Zfi (hf it (by simp)) λf0 f1 f2 f3 f4 f5=>?_;exact wpAny_pyNext_range_end (I.ok.hd hc) st (by have:n<=i:=hg;omega) λh' eb=>⟨rfl,I.turned (t':=s.toks) (λb o hb e=>eb b o hb e) f0 f1 f3 f4 f5⟩
 self:=λ_ _ _ _ _ st h=>wpAny_pyIter_rangeiter st h
section
variable {X:Cx}{tg:Expr}
def Zgn (K:Frag)(tl:TE):TI:=λσ H R=>tl σ H λx H1=>∃ a,x=.ref a/\(∃ xs,SqL K H1 a xs)/\R (Itl K a) H1
def iTup (K:Frag)(tl:TE):TI:=λσ H R=>tl σ H λx H1=>∃ a,x=.ref a/\(∃ xs,SqT K H1 a xs)/\R (Itt K a) H1
theorem Zav {l:Expr}{tl:TE}(hl:PE X l tl):PI X tg l (Zgn X.K tl):=by
 intro pins s σ H R I h;refine thn (hl pins s σ H _ I h) λv s1 ⟨x,H1,I1,r1,q1⟩=>?_;refine Zau q1 λa e e930 q=>?_;clear q1;obtain⟨xs,hq⟩:=e930;subst e;cases r1;refine Zau (I1.list hq) λits rv p hz=>?_;refine Jec p.isList ?_;refine Zit s1.heap.objs.size [s1.heap.objs.size] _ _ H1 ⟨rfl,I1.kept (t':=s1.toks) λb o e=>Jad _ e,Zpg a _,⟨_,Ja1 _ rfl,rfl,rfl⟩,λb hb=>?_,q⟩;have e:b=s1.heap.objs.size:=by simpa using hb
 subst e;exact I1.fpOk (Jaf _) (I1.hok.fresh (Jaf _))
theorem Zvf {l:Expr}{tl:TE}(hl:PE X l tl):PI X tg l (iTup X.K tl):=by
 intro pins s σ H R I h;refine thn (hl pins s σ H _ I h) λv s1 ⟨x,H1,I1,r1,q1⟩=>?_;refine Zau q1 λa e e931 q=>?_;clear q1;obtain⟨xs,hq⟩:=e931;subst e;cases r1;refine Zau (I1.tuple hq) λits rv p hz=>?_;refine wpAny_pyIter_tuple (show s1.heap.IsTuple a its.toArray from p) ?_;refine Zit s1.heap.objs.size [s1.heap.objs.size] _ _ H1 ⟨rfl,I1.kept (t':=s1.toks) λb o e=>Jad _ e,Zoa a _,⟨_,Ja1 _ rfl,rfl,rfl⟩,λb hb=>?_,q⟩;have e:b=s1.heap.objs.size:=by simpa using hb
 subst e;exact I1.fpOk (Jaf _) (I1.hok.fresh (Jaf _))
theorem Zm2 {pins:List (Addr×Obj)}{σ:St}{H:Hp}{s:Shared}{R:It->Hp->Prop}{E:Value->Shared->Prop}{lo hi:Int}{t u v:Tok}{tk:Nat}(I:Inv X pins σ H s)(h1:-(2 ^ 62)<=lo)(h2:lo<2 ^ 62)(h3:-(2 ^ 62)<=hi)(h4:hi<2 ^ 62)(q:R (Itr lo (hi-lo).toNat) H):wpAny (model X.prog X.w) X.A (pyIter (.ref s.heap.objs.size)) (PIE X pins σ tg R) E { s with heap:=s.heap.push { cls:=.type "range",data:=.fields #[.int lo t,.int hi u,.int 1 v] },toks:=tk }:=by
 refine wpAny_pyIter_range (IsRange.new ..) (small_one h1 h2 h3 h4) ?_;have I1:Inv X pins σ H { s with heap:=s.heap.push { cls:=.type "range",data:=.fields #[.int lo t,.int hi u,.int 1 v] },toks:=tk }:=I.kept λb o e=>Jad _ e;refine Zit ((s.heap.push { cls:=.type "range",data:=.fields #[.int lo t,.int hi u,.int 1 v] }).objs.size) [(s.heap.push { cls:=.type "range",data:=.fields #[.int lo t,.int hi u,.int 1 v] }).objs.size] _ _ H ⟨rfl,I1.kept (t':=tk) λb o e=>Jad _ e,Zob _ lo (hi-lo).toNat,?_,λb hb=>?_,q⟩
 .have e1:lo+((0:Nat):Int)*1=lo:=by simp
  have e2:(((hi-lo).toNat:Nat):Int)-((0:Nat):Int)=Builtin.Range.rangeSize lo hi 1:=by rw[rangeSize_one];split <;> omega
  show IsRangeIter _ _ (lo+((0:Nat):Int)*1) ((((hi-lo).toNat:Nat):Int)-((0:Nat):Int)) 1;rw[e1,e2];exact Ja1 _ rfl
 .have e:b=(s.heap.push { cls:=.type "range",data:=.fields #[.int lo t,.int hi u,.int 1 v] }).objs.size:=by simpa using hb
  subst e;exact I1.fpOk (Jaf _) (I1.hok.fresh (Jaf _))
def Zoz (ta:TA):TI:=λσ H R=>ta σ H λvs H1=>∃ j:Int,vs=[.int j]/\-(2 ^ 62)<=j/\j<2 ^ 62/\R (Itr 0 j.toNat) H1
def Zuc (ta:TA):TI:=λσ H R=>ta σ H λvs H1=>∃ i j:Int,vs=[.int i,.int j]/\(-(2 ^ 62)<=i/\i<2 ^ 62/\-(2 ^ 62)<=j/\j<2 ^ 62)/\R (Itr i (j-i).toNat) H1
theorem Zqm {a:Expr}{ta:TA}{p pos:Pos}(hg:Gl X "range")(hm:X.mg "range" = none)(ha:PA X [a] ta)(hs:starEach [a] X.env=[(false,eval a X.env)]:=by rfl):PI X tg (.Call (.Name "range" p) [a] [] pos) (Zoz ta):=by
 intro pins s σ H R I h;refine Call_ (Zim I hg hm Jhc (Jeu (thn (ha pos pins s σ H _ I h) λus s1 ⟨vs,H1,I1,r1,q1⟩=>?_) hs rfl));obtain⟨j,e,q1,q2,q⟩:=q1;subst e;cases r1 with
 | cons r rr=>
  cases rr;obtain⟨t,rfl⟩:=r;exact call_range_1 (Zm2 I1 ∅ ∅ q1 q2 (by simpa using q))
theorem Zql {a b:Expr}{ta:TA}{p pos:Pos}(hg:Gl X "range")(hm:X.mg "range" = none)(ha:PA X [a,b] ta)(hs:starEach [a,b] X.env=[(false,eval a X.env),(false,eval b X.env)]:=by rfl)(hs2:starEach [b] X.env=[(false,eval b X.env)]:=by rfl):
  PI X tg (.Call (.Name "range" p) [a,b] [] pos) (Zuc ta):=by
 intro pins s σ H R I h;refine Call_ (Zim I hg hm Jhc (Jeu (thn (ha pos pins s σ H _ I h) λus s1 ⟨vs,H1,I1,r1,q1⟩=>?_) (by rw[hs,hs2]) (by rw[hs2];rfl)));refine Zbf q1 λi j e e932 q=>?_;clear q1;obtain⟨q1,q2,q3,q4⟩:=e932;subst e;cases r1 with
 | cons r rr=>
  cases rr with
  | cons r' rr=>
   cases rr;obtain⟨t,rfl⟩:=r;obtain⟨t',rfl⟩:=r';exact call_range_2 (Zm2 I1 q1 q2 q3 q4 q)
def tFor (wi:TI)(g:TG)(tb:TS):TS:=λD σ H=>wi σ H λJ H1=>∃ W:Nat->Nat->St->Hp->Prop,(∃ m,W 0 m σ H1)/\∀ i m σ H,W i m σ H->
 (J.stop i H/\D.nx σ H)\/(J.go i H/\∃ N:St->Hp->Prop,(∀ σ' H',N σ' H'->∃ m',m'<m/\W (i+1) m' σ' H')/\∀ x H',J.yld i H x H'->g x σ H' λσ2 H2=>tb { D with nx:=N,ct:=N,bk:=D.nx } σ2 H2)
noncomputable def Ze8 (fp:List Addr)(h:Heap):List (Addr×Obj):=fp.filterMap λb=>(h.get? b).map λo=>(b,o)
theorem Zbk {fp:List Addr}{h:Heap}{b:Addr}{o:Obj}(hb:b∈fp)(e:h.get? b=some o):(b,o)∈Ze8 fp h:=Jfi.mpr ⟨b,hb,by rw[e];rfl⟩
theorem Zq7 {fp:List Addr}{h:Heap}{p:Addr×Obj}(hp:p∈Ze8 fp h):p.1∈fp/\h.get? p.1=some p.2:=by
 refine Zae (Jfi.mp hp) λb hb e=>?_;cases q:h.get? b with
 | none=>rw[q] at e;cases e
 | some o=>
  rw[q] at e;have e':(b,o)=p:=Jbn e;subst e';exact⟨hb,q⟩
theorem Inv.pinned {pins:List (Addr×Obj)}{σ:St}{H:Hp}{s:Shared}{fp:List Addr}(I:Inv X pins σ H s)(hf:∀ b∈fp,Zk5 X pins H b)(ho:∀ b∈fp,∃ o,s.heap.get? b=some o/\∀ v,o.data≠.cell v):Inv X (pins++Ze8 fp s.heap) σ H s:=
 I.pins_of λp hp=>(Jbf.mp hp).elim (λz=>I.pin p (Jap _ z)) λz=>by
  obtain⟨hb,e⟩:=Zq7 z;refine Zbq (hf p.1 hb) λf0 f1 f2 _=>?_;refine Zae (ho p.1 hb) λo e' d=>?_;rw[e] at e';cases e';exact⟨e,f0,f1,f2,d⟩
theorem Inv.unpinned {pins pl:List (Addr×Obj)}{σ:St}{H:Hp}{s:Shared}(I:Inv X (pins++pl) σ H s):Inv X pins σ H s:=I.pins_of λp hp=>I.pin p (Jap _ (Jb9 _ hp))
theorem Zb5 {iter:Expr}{body:List Stmt}{wi:TI}{g:TG}{tb:TS}{pos:Pos}(hp:PassesOwn (model X.prog X.w) X.A X.env X.xe)(hc:X.calm=true)(hi:PI X tg iter wi)(hg:PG X tg g)(hb:PSs X body tb)(hs:∀ x,foldedSetIterable iter X.env x=pure x:=by intro _;rfl):PS X (.For tg iter body [] pos) (tFor wi g tb):=by
 intro pins s σ H D I h;refine wpAny_For (thn (hi pins s σ H _ I h) λv s1 h1=>thn h1 λitv s2 h2=>?_) hs;refine Zel h2 λit fp tn J H2 e I2 T e933=>?_;clear h2;refine Zap e933 λst2 f2 e934=>?_;clear e933;obtain⟨W,⟨m0,w0⟩,turn⟩:=e934;subst e
 -- what stays true of the iterator's objects through the loop
 have stat:∀ {H':Hp},(∀ b∈fp,H' b=none)->∀ b∈fp,Zk5 X pins H' b:=λhn b hb=>⟨hn b hb,(f2 b hb).2⟩
 refine codeAny_forLoop_any (λn s'=>∃ i σ' H',Inv X pins σ' H' s'/\tn i s'.heap/\(∀ b∈fp,H' b=none)/\W i n σ' H') ?_ m0 ⟨0,σ,H2,I2,st2,λb hb=>(f2 b hb).1,w0⟩;intro n s3 e92;refine Zck e92 λi σ3 H3 I3 st3 fr3 w3=>?_;clear e92;rcases turn i n σ3 H3 w3 with ⟨stop,qn⟩|⟨go,N,hN,step⟩
 .refine Jeb hp (thn (T.done X rfl rfl rfl hc i pins s3 σ3 H3 X.xe I3 (stat fr3) st3 stop) λr s4 ⟨hr,I4⟩=>?_);subst hr;exact Jgm ⟨σ3,H3,I4,qn⟩
 .refine Jeb hp (thn (T.item X rfl rfl rfl hc i pins s3 σ3 H3 X.xe I3 (stat fr3) st3 go) λr s4 ⟨u,hr,h4⟩=>?_);subst hr;refine Jeb hp (thn h4 λ_ s5 ⟨x,H5,I5,r5,y5,st5,fr5⟩=>?_);have I5':=I5.pinned (stat fr5) (T.obj _ _ st5);refine Jeb hp (thn (hg _ s5 σ3 H5 x u _ I5' r5 (step x H5 y5)) λ_ s6 ⟨σ6,H6,I6,q6⟩=>?_);refine Jeb hp (thn (hb _ s6 σ6 H6 _ I6 q6) λf s7 q7=>?_);have again:∀ {σ7:St} {H7:Hp},Inv X (pins++Ze8 fp s5.heap) σ7 H7 s7->N σ7 H7->∃ m,m<n/\∃ i σ' H',Inv X pins σ' H' s7/\tn i s7.heap/\(∀ b∈fp,H' b=none)/\W i m σ' H':=λ{σ7 H7} I7 n7=>by
   refine Zae (hN σ7 H7 n7) λm' hm w7=>?_;refine⟨m',hm,i+1,σ7,H7,I7.unpinned,T.keep _ _ _ st5 λb hb o e=>(I7.pin (b,o) (Jap _ (Jap _ (Zbk hb e)))).1,λb hb=>?_,w7⟩;refine Zae (T.obj _ _ st5 b hb) λo e d=>?_;exact (I7.pin (b,o) (Jap _ (Jap _ (Zbk hb e)))).2.1
  cases f with
  | next=>obtain⟨σ7,H7,I7,n7⟩:=q7;exact again I7 n7
  | cont=>obtain⟨σ7,H7,I7,n7⟩:=q7;exact again I7 n7
  | brk=>obtain⟨σ7,H7,I7,q7⟩:=q7;exact⟨σ7,H7,I7.unpinned,q7⟩
  | ret v=>obtain⟨x7,σ7,H7,I7,r7,q7⟩:=q7;exact⟨x7,σ7,H7,I7.unpinned,r7,q7⟩
end
theorem Zca {K:Frag}{a:Addr}{xs:List V}{g:TG}{tb:TS}{D:Ends}{σ:St}{H:Hp}(Pv:Nat->St->Hp->Prop)(h0:Pv 0 σ H)(hl:∀ i σ H,i<=xs.length->Pv i σ H->SqL K H a xs)(hs:∀ i x σ H,xs[i]?=some x->Pv i σ H->g x σ H λσ2 H2=>tb { D with nx:=Pv (i+1),ct:=Pv (i+1),bk:=D.nx } σ2 H2)(hd:∀ σ H,Pv xs.length σ H->D.nx σ H):
  ∃ W:Nat->Nat->St->Hp->Prop,(∃ m,W 0 m σ H)/\∀ i m σ H,W i m σ H->
   ((Itl K a).stop i H/\D.nx σ H)\/((Itl K a).go i H/\∃ N:St->Hp->Prop,(∀ σ' H',N σ' H'->∃ m',m'<m/\W (i+1) m' σ' H')/\∀ x H',(Itl K a).yld i H x H'->g x σ H' λσ2 H2=>tb { D with nx:=N,ct:=N,bk:=D.nx } σ2 H2):=by
 refine⟨λi m σ H=>m=xs.length-i/\i<=xs.length/\Pv i σ H,⟨xs.length,by simp,Jbp _,h0⟩,?_⟩;intro i m σ H e93;refine Zap e93 λe935 hi p=>?_;clear e93;obtain rfl:=e935;have q:=hl i σ H hi p;by_cases hlt:i<xs.length
 .refine .inr ⟨⟨xs,xs[i],q,by simp[hlt]⟩,Pv (i+1),λσ' H' p'=>⟨xs.length-(i+1),∅,rfl,hlt,p'⟩,λx H' y=>?_⟩;obtain⟨e,y⟩:=y;subst e;exact hs i x σ _ (y xs q) p
 .have e:i=xs.length:=∅
  subst e;exact .inl ⟨⟨xs,q,Jaf _⟩,hd σ H p⟩
theorem Zdh {lo:Int}{n:Nat}{g:TG}{tb:TS}{D:Ends}{σ:St}{H:Hp}(Pv:Nat->St->Hp->Prop)(h0:Pv 0 σ H)(hs:∀ i σ H,i<n->Pv i σ H->g (.int (lo+i)) σ H λσ2 H2=>tb { D with nx:=Pv (i+1),ct:=Pv (i+1),bk:=D.nx } σ2 H2)(hd:∀ σ H,Pv n σ H->D.nx σ H):
  ∃ W:Nat->Nat->St->Hp->Prop,(∃ m,W 0 m σ H)/\∀ i m σ H,W i m σ H->
   ((Itr lo n).stop i H/\D.nx σ H)\/((Itr lo n).go i H/\∃ N:St->Hp->Prop,(∀ σ' H',N σ' H'->∃ m',m'<m/\W (i+1) m' σ' H')/\∀ x H',(Itr lo n).yld i H x H'->g x σ H' λσ2 H2=>tb { D with nx:=N,ct:=N,bk:=D.nx } σ2 H2):=by
 refine⟨λi m σ H=>m=n-i/\i<=n/\Pv i σ H,⟨n,by simp,Jbp _,h0⟩,?_⟩;intro i m σ H e95;refine Zap e95 λe937 hi p=>?_;clear e95;obtain rfl:=e937;by_cases hlt:i<n
 .refine .inr ⟨hlt,Pv (i+1),λσ' H' p'=>⟨n-(i+1),∅,rfl,hlt,p'⟩,λx H' y=>?_⟩;obtain⟨e,y⟩:=y;subst e y;exact hs i σ _ hlt p
 .have e:i=n:=∅
  subst e;exact .inl ⟨Jaf _,hd σ H p⟩
abbrev R2:=V->V->Hp->VK->Prop
def OpR (X:Cx)(f:Value->Value->Sem Value)(r:R2):Prop:=
 ∀ (pins:List (Addr×Obj)) (s:Shared) (σ:St) (H:Hp) (x y:V) (v u:Value) (Q:VK),Inv X pins σ H s->RelV x v->RelV y u->r x y H Q->
  wpAny (model X.prog X.w) X.A (f v u) (EP X pins σ Q) X.xe s
def UnR (X:Cx)(f:Value->Sem Value)(r:V->Hp->VK->Prop):Prop:=
 ∀ (pins:List (Addr×Obj)) (s:Shared) (σ:St) (H:Hp) (x:V) (v:Value) (Q:VK),Inv X pins σ H s->RelV x v->r x H Q->
  wpAny (model X.prog X.w) X.A (f v) (EP X pins σ Q) X.xe s
def Zb9 (X:Cx)(f:Value)(r:List V->Hp->VK->Prop):Prop:=
 ∀ (pins:List (Addr×Obj)) (s:Shared) (σ:St) (H:Hp) (xs:List V) (us:List Value) (Q:VK),Inv X pins σ H s->Vals xs us->r xs H Q->
  wpAny (model X.prog X.w) X.A (call f us) (EP X pins σ Q) X.xe s
def TruR (X:Cx)(r:V->Hp->(Bool->Hp->Prop)->Prop):Prop:=
 ∀ (pins:List (Addr×Obj)) (s:Shared) (σ:St) (H:Hp) (x:V) (v:Value) (Q:Bool->Hp->Prop),Inv X pins σ H s->RelV x v->r x H Q->
  wpAny (model X.prog X.w) X.A (truthy v) (TP X pins σ Q) X.xe s
def tOp (r:R2)(ta tb:TE):TE:=λσ H Q=>ta σ H λx H1=>tb σ H1 λy H2=>r x y H2 Q
def tUn (r:V->Hp->VK->Prop)(ta:TE):TE:=λσ H Q=>ta σ H λx H1=>r x H1 Q
def rI (C:Int->Int->Prop)(g:Int->Int->V):R2:=λx y H Q=>∃ i j,x=.int i/\y=.int j/\C i j/\Q (g i j) H
def rI0 (g:Int->Int->V):R2:=λx y H Q=>∃ i j,x=.int i/\y=.int j/\Q (g i j) H
def rU (g:Int->V):V->Hp->VK->Prop:=λx H Q=>∃ i,x=.int i/\Q (g i) H
section
variable {X:Cx}{a b c:Expr}{ta tb tc:TE}{pos:Pos}
theorem binT (ha:PE X a ta)(hb:PE X b tb){pins:List (Addr×Obj)}{s:Shared}{σ:St}{H:Hp}{R:V->V->Hp->Prop}(I:Inv X pins σ H s)(h:ta σ H λx H1=>tb σ H1 λy H2=>R x y H2){Q:Value->Shared->Prop}{f:Value->Value->Sem Value}(hf:∀ v u s2 x y H2,Inv X pins σ H2 s2->RelV x v->RelV y u->R x y H2->wpAny (model X.prog X.w) X.A (f v u) Q X.xe s2):
  wpAny (model X.prog X.w) X.A (eval a X.env) (λv s₁=>wpAny (model X.prog X.w) X.A (eval b X.env) (λu s₂=>wpAny (model X.prog X.w) X.A (f v u) Q X.xe s₂) X.xe s₁) X.xe s:=by
 refine thn (ha pins s σ H _ I h) λv s1 ⟨x,H1,I1,r1,q1⟩=>?_;refine thn (hb pins s1 σ H1 _ I1 q1) λu s2 ⟨y,H2,I2,r2,q2⟩=>?_;exact hf v u s2 x y H2 I2 r1 r2 q2
theorem pe_op {op:Operator}{r:R2}(ho:OpR X (binaryOp op) r)(ha:PE X a ta)(hb:PE X b tb):PE X (.BinOp a op b pos) (tOp r ta tb):=by
 intro pins s σ H Q I h;exact wpAny_BinOp (binT ha hb I h λv u s2 x y H2 I2 rx ry q=>ho pins s2 σ H2 x y v u Q I2 rx ry q)
theorem pe_un {op:UnaryOp}{r:V->Hp->VK->Prop}(ho:UnR X (unaryOp op) r)(ha:PE X a ta):PE X (.UnaryOp op a pos) (tUn r ta):=by
 intro pins s σ H Q I h;exact UnaryOp_ (thn (ha pins s σ H _ I h) λv s1 ⟨x,H1,I1,r1,q1⟩=>ho pins s1 σ H1 x v Q I1 r1 q1)
theorem opI {f:Value->Value->Sem Value}{C:Int->Int->Prop}{g:Int->Int->Int}(rule:∀ (i j:Int) (t u:Tok) (s:Shared) (Q:Value->Shared->Prop) (E:Value->Shared->Prop),C i j->Q (.int (g i j) s.toks) { s with toks:=s.toks+1 }->wpAny (model X.prog X.w) X.A (f (.int i t) (.int j u)) Q E s):
  OpR X f (rI C λi j=>.int (g i j)):=by
 intro pins s σ H x y v u Q I rx ry h;refine Zg3 h λi j e938 e939 hc q=>?_;clear h;obtain rfl:=e938;obtain rfl:=e939;obtain⟨t,rfl⟩:=rx;obtain⟨t',rfl⟩:=ry;exact rule i j t t' s _ _ hc ⟨.int (g i j),H,I.tok _,⟨_,rfl⟩,q⟩
theorem opI0 {f:Value->Value->Sem Value}{g:Int->Int->Int}(rule:∀ (i j:Int) (t u:Tok) (s:Shared) (Q:Value->Shared->Prop) (E:Value->Shared->Prop),Q (.int (g i j) s.toks) { s with toks:=s.toks+1 }->wpAny (model X.prog X.w) X.A (f (.int i t) (.int j u)) Q E s):
  OpR X f (rI0 λi j=>.int (g i j)):=by
 intro pins s σ H x y v u Q I rx ry h;refine Zbf h λi j e940 e941 q=>?_;clear h;obtain rfl:=e940;obtain rfl:=e941;obtain⟨t,rfl⟩:=rx;obtain⟨t',rfl⟩:=ry;exact rule i j t t' s _ _ ⟨.int (g i j),H,I.tok _,⟨_,rfl⟩,q⟩
theorem opB0 {f:Value->Value->Sem Value}{g:Int->Int->Bool}(rule:∀ (i j:Int) (t u:Tok) (s:Shared) (Q:Value->Shared->Prop) (E:Value->Shared->Prop),Q (.bool (g i j)) s->wpAny (model X.prog X.w) X.A (f (.int i t) (.int j u)) Q E s):
  OpR X f (rI0 λi j=>.bl (g i j)):=by
 intro pins s σ H x y v u Q I rx ry h;refine Zbf h λi j e942 e943 q=>?_;clear h;obtain rfl:=e942;obtain rfl:=e943;obtain⟨t,rfl⟩:=rx;obtain⟨t',rfl⟩:=ry;exact rule i j t t' s _ _ ⟨.bl (g i j),H,I,rfl,q⟩
def CDiv (i j:Int):Prop:=0<j/\j<1073741824
def CPow (i j:Int):Prop:=0<=j/\j<=1000000/\i.natAbs<2 ^ 64
def CMul (i j:Int):Prop:=(-(2 ^ 64)<i/\i<2 ^ 64)\/(-(2 ^ 64)<j/\j<2 ^ 64)
theorem CMul.ok {i j:Int}(h:CMul i j):IntMulOk i j:=by
 rcases h with ⟨h1,h2⟩|⟨h1,h2⟩
 .exact .of_left (intBits_le_64 h1 h2)
 .exact .of_right (intBits_le_64 h1 h2)
theorem Zbc:OpR X (binaryOp .Add) (rI0 λi j=>.int (i+j)):=opI0 λ_ _ _ _ _ _ _ q=>add_int q
theorem Zc7:OpR X (binaryOp .Sub) (rI0 λi j=>.int (i-j)):=opI0 λ_ _ _ _ _ _ _ q=>sub_int q
theorem Zkf:OpR X (binaryOp .Mult) (rI CMul λi j=>.int (i*j)):=opI λ_ _ _ _ _ _ _ hc q=>mul_int q hc.ok
theorem Zjh:OpR X (binaryOp .FloorDiv) (rI CDiv λi j=>.int (i / j)):=opI λi j _ _ _ _ _ hc q=>by
 have h1:(0:Int)<j:=hc.1;have h2:j<1073741824:=hc.2;exact floordiv_int ∅ (by rw[Int.fdiv_eq_ediv_of_nonneg i ∅];exact q) (.inl (PyProof.noPylong_small ∅))
theorem Zfb:OpR X (binaryOp .Mod) (rI (λ_ j=>0<j) λi j=>.int (i % j)):=opI λi j _ _ _ _ _ hc q=>by
 have h1:(0:Int)<j:=hc;exact mod_int' ∅ (by rw[Int.fmod_eq_emod_of_nonneg i ∅];exact q)
theorem Zqx:OpR X (binaryOp .Pow) (rI CPow λi j=>.int (i ^ j.toNat)):=opI λ_ _ _ _ _ _ _ hc q=>pow_int_small hc.1 hc.2.1 hc.2.2 q
theorem unI {f:Value->Sem Value}{g:Int->Int}(rule:∀ (i:Int) (t:Tok) (s:Shared) (Q:Value->Shared->Prop) (E:Value->Shared->Prop),Q (.int (g i) s.toks) { s with toks:=s.toks+1 }->wpAny (model X.prog X.w) X.A (f (.int i t)) Q E s):
  UnR X f (rU λi=>.int (g i)):=by
 intro pins s σ H x v Q I rx h;refine Zae h λi e944 q=>?_;clear h;obtain rfl:=e944;obtain⟨t,rfl⟩:=rx;exact rule i t s _ _ ⟨.int (g i),H,I.tok _,⟨_,rfl⟩,q⟩
theorem Zpd:UnR X (unaryOp .USub) (rU λi=>.int (-i)):=unI λ_ _ _ _ _ q=>neg_int q
end
noncomputable def scal:V->V->Bool
 | .non,.non=>true | .non,.int _=>true | .int _,.non=>true | .non,.bl _=>true | .bl _,.non=>true | .non,.str _=>true | .str _,.non=>true
 | .int _,.int _=>true | .bl _,.bl _=>true | .str _,.str _=>true | .byt _,.byt _=>true
 | .int _,.str _=>true | .str _,.int _=>true | .bl _,.str _=>true | .str _,.bl _=>true
 | _,_=>false
def rEq:R2:=λx y H Q=>scal x y=true/\Q (.bl (decide (x=y))) H
def rNe:R2:=λx y H Q=>scal x y=true/\Q (.bl (!decide (x=y))) H
theorem Zsd {i j:Int}:decide (V.int i=V.int j)=(i == j):=by
 rw[Jcx];simp
theorem Zvz {i j:Bool}:decide (V.bl i=V.bl j)=(i == j):=by
 rw[Jcx];simp
theorem Zsc {i j:Str}:decide (V.str i=V.str j)=(i == j):=by
 rw[Jcx];simp
theorem Zse {i j:Array UInt8}:decide (V.byt i=V.byt j)=(i.toList == j.toList):=by
 rw[Jcx];cases i;cases j;simp
section
variable {X:Cx}{a b c:Expr}{ta tb tc:TE}{pos:Pos}
theorem Za8 {pins:List (Addr×Obj)}{σ:St}{H:Hp}{s:Shared}{Q:VK}{k k':Bool}(I:Inv X pins σ H s)(q:Q (.bl k) H)(e:k=k'):EP X pins σ Q (.bool k') s:=by
 subst e;exact Za2 (.bl k) H ⟨I,rfl,q⟩
theorem Zcp:OpR X (compareOp .Eq) rEq:=by
 intro pins s σ H x y v u Q I rx ry h;obtain⟨hs,q⟩:=h;cases x with
 | non=>
  cases rx;cases y with
  | non=>cases ry;exact PySem.EqNone.eq_none_none (Za8 I q (by simp))
  | bl j=>cases ry;exact PySem.EqNone.eq_none_bool (Za8 I q (by simp))
  | int j=>obtain⟨t',rfl⟩:=ry;exact PySem.EqNone.eq_none_int (Za8 I q (by simp))
  | str j=>obtain⟨t',rfl⟩:=ry;exact PySem.EqNone.eq_none_str (Za8 I q (by simp))
  | _=>exact absurd (show false=true from hs) Ja7
 | bl i=>
  cases rx;cases y with
  | non=>cases ry;exact PySem.EqNone.eq_bool_none (Za8 I q (by simp))
  | bl j=>cases ry;exact eq_bool (Za8 I q Zvz)
  | str j=>obtain⟨t',rfl⟩:=ry;exact PySem.EqMixed.eq_bool_str (Za8 I q (by simp))
  | _=>exact absurd (show false=true from hs) Ja7
 | int i=>
  obtain⟨t,rfl⟩:=rx;cases y with
  | non=>cases ry;exact PySem.EqNone.eq_int_none (Za8 I q (by simp))
  | int j=>obtain⟨t',rfl⟩:=ry;exact eq_int (Za8 I q Zsd)
  | str j=>obtain⟨t',rfl⟩:=ry;exact PySem.EqMixed.eq_int_str (Za8 I q (by simp))
  | _=>exact absurd (show false=true from hs) Ja7
 | str i=>
  obtain⟨t,rfl⟩:=rx;cases y with
  | non=>cases ry;exact PySem.EqNone.eq_str_none (Za8 I q (by simp))
  | bl j=>cases ry;exact PySem.EqMixed.eq_str_bool (Za8 I q (by simp))
  | int j=>obtain⟨t',rfl⟩:=ry;exact PySem.EqMixed.eq_str_int (Za8 I q (by simp))
  | str j=>obtain⟨t',rfl⟩:=ry;exact eq_str (Za8 I q Zsc)
  | _=>exact absurd (show false=true from hs) Ja7
 | byt i=>
  obtain⟨t,rfl⟩:=rx;cases y with
  | byt j=>obtain⟨t',rfl⟩:=ry;exact PySem.W.eq_bytes (Za8 I q Zse)
  | _=>exact absurd (show false=true from hs) Ja7
 | _=>cases y <;> exact absurd (show false=true from hs) Ja7
theorem Zke:OpR X (compareOp .NotEq) rNe:=by
 intro pins s σ H x y v u Q I rx ry h;obtain⟨hs,q⟩:=h;cases x with
 | non=>
  cases rx;cases y with
  | non=>cases ry;exact PySem.EqNone.ne_none_none (Za8 I q (by simp))
  | bl j=>cases ry;exact PySem.EqNone.ne_none_bool (Za8 I q (by simp))
  | int j=>obtain⟨t',rfl⟩:=ry;exact PySem.EqNone.ne_none_int (Za8 I q (by simp))
  | str j=>obtain⟨t',rfl⟩:=ry;exact PySem.EqNone.ne_none_str (Za8 I q (by simp))
  | _=>exact absurd (show false=true from hs) Ja7
 | bl i=>
  cases rx;cases y with
  | non=>cases ry;exact PySem.EqNone.ne_bool_none (Za8 I q (by simp))
  | bl j=>cases ry;exact ne_bool (Za8 I q (Jdr not Zvz))
  | str j=>obtain⟨t',rfl⟩:=ry;exact PySem.EqMixed.ne_bool_str (Za8 I q (by simp))
  | _=>exact absurd (show false=true from hs) Ja7
 | int i=>
  obtain⟨t,rfl⟩:=rx;cases y with
  | non=>cases ry;exact PySem.EqNone.ne_int_none (Za8 I q (by simp))
  | int j=>obtain⟨t',rfl⟩:=ry;exact ne_int (Za8 I q (Jdr not Zsd))
  | str j=>obtain⟨t',rfl⟩:=ry;exact PySem.EqMixed.ne_int_str (Za8 I q (by simp))
  | _=>exact absurd (show false=true from hs) Ja7
 | str i=>
  obtain⟨t,rfl⟩:=rx;cases y with
  | non=>cases ry;exact PySem.EqNone.ne_str_none (Za8 I q (by simp))
  | bl j=>cases ry;exact PySem.EqMixed.ne_str_bool (Za8 I q (by simp))
  | int j=>obtain⟨t',rfl⟩:=ry;exact PySem.EqMixed.ne_str_int (Za8 I q (by simp))
  | str j=>obtain⟨t',rfl⟩:=ry;exact ne_str (Za8 I q (Jdr not Zsc))
  | _=>exact absurd (show false=true from hs) Ja7
 | byt i=>
  obtain⟨t,rfl⟩:=rx;cases y with
  | byt j=>obtain⟨t',rfl⟩:=ry;exact PySem.W.ne_bytes (Za8 I q (Jdr not Zse))
  | _=>exact absurd (show false=true from hs) Ja7
 | _=>cases y <;> exact absurd (show false=true from hs) Ja7
theorem Zom:OpR X (compareOp .Lt) (rI0 λi j=>.bl (decide (i<j))):=opB0 λ_ _ _ _ _ _ _ q=>lt_int q
theorem op_le:OpR X (compareOp .LtE) (rI0 λi j=>.bl (decide (i<=j))):=opB0 λ_ _ _ _ _ _ _ q=>le_int q
theorem Zh7:OpR X (compareOp .Gt) (rI0 λi j=>.bl (decide (j<i))):=opB0 λ_ _ _ _ _ _ _ q=>gt_int q
theorem op_ge:OpR X (compareOp .GtE) (rI0 λi j=>.bl (decide (j<=i))):=opB0 λ_ _ _ _ _ _ _ q=>ge_int q
theorem op_notN:OpR X (compareOp .IsNot) (λx y H Q=>y=.non/\Q (.bl (!decide (x=.non))) H):=by
 intro pins s σ H x y v u Q I rx ry h;obtain⟨rfl,q⟩:=h;cases ry;refine isnot_none_gen (Za8 I q ?_);cases x <;> first
  | (cases rx;rfl)
  | (obtain⟨t,rfl⟩:=rx;rfl)
theorem Zam (b:Expr){op:CmpOp}(h:op≠.In:=by decide)(h2:op≠.NotIn:=by decide):behindInMarks op b=false:=by
 have e1:(op == CmpOp.In)=false:=by cases op <;> first|rfl|exact absurd rfl h
 have e2:(op == CmpOp.NotIn)=false:=by cases op <;> first|rfl|exact absurd rfl h2
 cases b <;> simp[behindInMarks,e1,e2]
theorem Zlu {op:CmpOp}{r:R2}(ho:OpR X (compareOp op) r)(ha:PE X a ta)(hb:PE X b tb)(hm:behindInMarks op b=false):PE X (.Compare a [op] [b] pos) (tOp r ta tb):=by
 intro pins s σ H Q I h;exact wpAny_Compare1 (binT ha hb I h λv u s2 x y H2 I2 rx ry q=>ho pins s2 σ H2 x y v u Q I2 rx ry q) hm
def Zpj (t:TE):TT:=λσ H Q=>t σ H λx H'=>∃ k,x=.bl k/\Q k H'
theorem Za6 {op:CmpOp}{r:R2}(ho:OpR X (compareOp op) r)(ha:PE X a ta)(hb:PE X b tb)(hm:behindInMarks op b=false):PT X (.Compare a [op] [b] pos) (Zpj (tOp r ta tb)):=by
 intro pins s σ H Q I h;refine Jf7 (thn (ha pins s σ H _ I h) λv s1 ⟨x,H1,I1,r1,q1⟩=>thn (hb pins s1 σ H1 _ I1 q1) λu s2 ⟨y,H2,I2,r2,q2⟩=>
  thn (ho pins s2 σ H2 x y v u _ I2 r1 r2 q2) λc s3 ⟨z,H3,I3,r3,k,e,q3⟩=>?_) hm
 subst e;cases r3;exact Jcd ⟨H3,I3,q3⟩
def Zmv (r r':R2)(ta tb tc:TE):TE:=λσ H Q=>ta σ H λx H1=>tb σ H1 λy H2=>r x y H2 λz H3=>∃ k,z=.bl k /\
 (if k=true then tc σ H3 λw' H4=>r' y w' H4 Q else Q (.bl false) H3)
theorem Ztq {op op':CmpOp}{r r':R2}(ho:OpR X (compareOp op) r)(ho':OpR X (compareOp op') r')(ha:PE X a ta)(hb:PE X b tb)(hc:PE X c tc)(hm:lastMarks [op,op'] [b,c]=false:=by with_unfolding_all rfl):PE X (.Compare a [op,op'] [b,c] pos) (Zmv r r' ta tb tc):=by
 intro pins s σ H Q I h;refine Compare_chain (thn (ha pins s σ H _ I h) λv s1 ⟨x,H1,I1,r1,q1⟩=>chain_link (thn (hb pins s1 σ H1 _ I1 q1) λu s2 ⟨y,H2,I2,r2,q2⟩=>
  thn (ho pins s2 σ H2 x y v u _ I2 r1 r2 q2) λd s3 ⟨z,H3,I3,r3,k,e,q3⟩=>?_)) hm
 subst e;cases r3;refine Jcd ?_;cases k with
 | false=>exact ite_ff ⟨.bl false,H3,I3,rfl,q3⟩
 | true=>exact ite_tt (chain_last (thn (hc pins s3 σ H3 _ I3 q3) λw' s4 ⟨z',H4,I4,r4,q4⟩=>ho' pins s4 σ H4 y z' u w' Q I4 r2 r4 q4))
theorem Zth {op op':CmpOp}{r r':R2}(ho:OpR X (compareOp op) r)(ho':OpR X (compareOp op') r')(ha:PE X a ta)(hb:PE X b tb)(hc:PE X c tc)(hm:lastMarks [op,op'] [b,c]=false:=by with_unfolding_all rfl):PT X (.Compare a [op,op'] [b,c] pos) (Zpj (Zmv r r' ta tb tc)):=by
 intro pins s σ H Q I h;refine isTrue_chain (thn (ha pins s σ H _ I h) λv s1 ⟨x,H1,I1,r1,q1⟩=>test_link (thn (hb pins s1 σ H1 _ I1 q1) λu s2 ⟨y,H2,I2,r2,q2⟩=>
  thn (ho pins s2 σ H2 x y v u _ I2 r1 r2 q2) λd s3 ⟨z,H3,I3,r3,k,e,q3⟩=>?_)) hm
 subst e;cases r3;refine Jcd ?_;cases k with
 | false=>
  refine Zae q3 λk' e' q'=>?_;clear q3;cases e';exact ite_ff ⟨H3,I3,q'⟩
 | true=>
  refine ite_tt (test_last (thn (hc pins s3 σ H3 _ I3 q3) λw' s4 ⟨z',H4,I4,r4,q4⟩=>thn (ho' pins s4 σ H4 y z' u w' _ I4 r2 r4 q4) λd' s5 ⟨z2,H5,I5,r5,k2,e2,q5⟩=>?_));subst e2;cases r5;exact Jcd ⟨H5,I5,q5⟩
def TruV (K:Frag)(x:V)(H:Hp)(k:Bool):Prop:=
 match x with
 | .non=>k=false
 | .bl b=>k=b
 | .int i=>k=(i != 0)
 | .str y=>y.length<=sizeLine/\k=((y.length:Int) != 0)
 | .byt y=>y.size<=sizeLine/\k=((y.size:Int) != 0)
 | .ref p=>(∃ xs,SqL K H p xs/\k=!xs.isEmpty)\/(∃ xs,SqT K H p xs/\k=!xs.isEmpty)\/∃ kvs,H p=some (.dK kvs)/\k=!kvs.isEmpty
 | _=>False
theorem Zoy {κ:Type}{kvs:List (κ×V)}{vs:List (κ×Value)}(r:KV kvs vs):(!vs.isEmpty)=!kvs.isEmpty:=by
 cases r <;> rfl
theorem Zip {xs:List V}{its:List Value}(r:Vals xs its):(!its.toArray.isEmpty)=!xs.isEmpty:=by
 cases r <;> simp
theorem Zil:(sizeLine:Nat)<2 ^ 63:=by rw[Jc8];decide
theorem tru_ok:TruR X (λx H Q=>∃ k,TruV X.K x H k/\Q k H):=by
 intro pins s σ H x v Q I rx h;refine Zae h λk e q=>?_;clear h;have hl:=Zil;have hs:sizeLine=16777216:=Jc8;cases x with
 | non=>
  cases rx;have e':k=false:=e;subst e';exact truthy_none ⟨H,I,q⟩
 | bl b=>
  cases rx;have e':k=b:=e;subst e';exact Jcd ⟨H,I,q⟩
 | int i=>
  obtain⟨t,rfl⟩:=rx;have e':k=(i != 0):=e;subst e';exact PySem.P.truthy_int ⟨H,I,q⟩
 | str y=>
  obtain⟨t,rfl⟩:=rx;obtain⟨hy,e'⟩:y.length<=sizeLine/\k=((y.length:Int) != 0):=e;subst e';exact PySem.P.truthy_str ∅ ⟨H,I.tok _,q⟩
 | byt y=>
  obtain⟨t,rfl⟩:=rx;obtain⟨hy,e'⟩:y.size<=sizeLine/\k=((y.size:Int) != 0):=e;subst e';exact PySem.W.truthy_bytes ∅ ⟨H,I.tok _,q⟩
 | ref p=>
  cases rx;have e':(∃ xs,SqL X.K H p xs/\k=!xs.isEmpty)\/(∃ xs,SqT X.K H p xs/\k=!xs.isEmpty)\/∃ kvs,H p=some (.dK kvs)/\k=!kvs.isEmpty:=e;rcases e' with ⟨xs,hx,e'⟩|⟨xs,hx,e'⟩|⟨kvs,hx,e'⟩
  .subst e';refine Zau (I.list hx) λits r pl hz=>?_;have hlen:=r.length;exact wpAny_truthy_list pl.isList (by simp only[Jav];omega) ⟨H,I.tok _,by rw[Zip r];exact q⟩
  .subst e';refine Zau (I.tuple hx) λits r pl hz=>?_;have hlen:=r.length;exact truthy_tuple pl (by simp only[Jav];omega) ⟨H,I.tok _,by rw[Zip r];exact q⟩
  .subst e';obtain⟨hz,hS,vs,r,m⟩:kvs.length<=sizeLine/\(p == sysModules)=false/\∃ vs,KV kvs vs/\s.heap.DictOf (Zbr X.prog X.w) p vs:=I.hok p _ hx;have hlen:kvs.length=vs.length:=Jhm r;exact wpAny_truthy_dict hS m ∅ ⟨H,I.tok _,by rw[Zoy r];exact q⟩
 | _=>exact (show False from e).elim
theorem Zm3 (ha:PE X a ta)(he:∀ whole,isTrue a X.env whole=(do let v <- whole;standAt a.pos;holding [v] (truthy v))):
  PT X a (λσ H Q=>ta σ H λx H'=>∃ k,TruV X.K x H' k/\Q k H'):=by
 intro pins s σ H Q I h;exact isTrue_plain (thn (ha pins s σ H _ I h) λv s1 ⟨x,H1,I1,r1,q1⟩=>tru_ok pins s1 σ H1 x v Q I1 r1 q1) (he _)
theorem Zem {x:V}{us:List Value}(r:Vals [x] us):∃ u,us=[u]/\RelV x u:=by
 cases r with
 | cons r1 r2=>cases r2;exact⟨_,rfl,r1⟩
theorem vals2 {x y:V}{us:List Value}(r:Vals [x,y] us):∃ u w',us=[u,w']/\RelV x u/\RelV y w':=by
 cases r with
 | cons r1 r2=>
  cases r2 with
  | cons r3 r4=>cases r4;exact⟨_,_,rfl,r1,r3⟩
theorem Zkw (hc:X.calm=true):Zb9 X (.builtin "min") (λxs H Q=>∃ i j,xs=[.int i,.int j]/\Q (.int (if j<i then j else i)) H):=by
 intro pins s σ H xs us Q I r h;refine Zcl h λi j e975 q=>?_;clear h;obtain rfl:=e975;refine Zbf (vals2 r) λu w' e976 e977 e978=>?_;obtain rfl:=e976;obtain⟨t,rfl⟩:=e977;obtain⟨t',rfl⟩:=e978;refine min_two_ints (I.ok.hd hc) λh' tk k=>⟨_,H,I.kept k,?_,q⟩
 by_cases hj:j<i
 .rw [if_pos hj,if_pos hj];exact⟨_,rfl⟩
 .rw [if_neg hj,if_neg hj];exact⟨_,rfl⟩
theorem Zsu:Zb9 X (.type "int") (λxs H Q=>(∃ i,xs=[.int i]/\Q (.int i) H)\/∃ k,xs=[.bl k]/\Q (.int (if k then 1 else 0)) H):=by
 intro pins s σ H xs us Q I r h;rcases h with ⟨i,rfl,q⟩|⟨k,rfl,q⟩
 .refine Zae (Zem r) λu e979 e980=>?_;obtain rfl:=e979;obtain⟨t,rfl⟩:=e980;exact call_int_int ⟨.int i,H,I,⟨_,rfl⟩,q⟩
 .refine Zae (Zem r) λu e981 r1=>?_;obtain rfl:=e981;cases r1;exact call_int_bool ⟨.int (if k then 1 else 0),H,I.tok _,⟨_,rfl⟩,q⟩
end
structure ObjM (h:Heap)(x dx C:Addr)(mA:Str->Option Value):Prop where
 obj:h.get? x=some (PySem.W.instObj C dx)
 ns:h.Ns1 dx mA
 ne:dx≠x
theorem Zrl {h:Heap}{dx:Addr}{mA:Str->Option Value}(n:h.Ns1 dx mA):∃ od,h.get? dx=some od/\∀ name,PySem.W.lookIn name od=some (mA name):=by
 refine Zck n λo es ep ho hd hk e9101=>?_;clear n;obtain⟨_,hm⟩:=e9101;refine⟨o,ho,λname=>?_⟩;have e:=hm name;unfold nsFind findBy at e;rw[<- Array.find?_toList] at e;unfold PySem.W.lookIn;rw[hd];dsimp only;split
 .rename_i y q
  rw[q] at e;exact Jdr some e
 .rename_i q
  rw[q] at e;have a:es.toList.any (·.refKey)=false:=by
   rw[List.any_eq_false];intro y hy;refine xE2_1 (hk y (Jgg.mp hy)) λz t hkey=>?_;simp[DictEntry.refKey,hkey]
  have a':¬ es.toList.any (·.refKey)=true:=by rw[a];exact Ja7
  rw[if_neg a'];exact Jdr some e
theorem ObjM.look {h:Heap}{x dx C:Addr}{mA:Str->Option Value}(I:ObjM h x dx C mA):∃ od,PySem.W.InstAt h x (PySem.W.instObj C dx) C (some od)/\∀ name,PySem.W.lookIn name od=some (mA name):=
 let ⟨od,ho,hl⟩:=Zrl I.ns
 ⟨od,⟨I.obj,rfl,rfl,ho⟩,hl⟩
section
variable {prog:Program}{w:World}{A:Around}{E:Value->Shared->Prop}{s:Shared}{K:Frag}{x dx C f:Addr}{mA:Str->Option Value}{name:Str}{v:Value}
theorem get_map {expr:Bool}{Q:Value->Shared->Prop}(X:K.In s.heap)(I:ObjM s.heap x dx C mA)(hg:PySem.W.plainGet K C name=true)(hh:PySem.W.hasDictIn K C=true)(ha:PySem.W.findIn K (.ref C) name=some none)(hv:mA name=some v)(hv':PySem.W.handedIn v=true)(h:Q v { s with toks:=s.toks+1 }):
  wpAny (model prog w) A (getAttr (.ref x) name expr) Q E s:=by
 refine Zae I.look λod J hl=>?_;exact PySem.W.get_value X J (Jgn hg).1 (PySem.W.findObj_own hh ha rfl (by rw[hl,hv])) hv' h
theorem Zuf {pl:Sem Bool}{Q:Value×List Value->Shared->Prop}(X:K.In s.heap)(I:ObjM s.heap x dx C mA)(hg:PySem.W.plainGet K C name=true)(hf:PySem.W.findIn K (.ref C) name=some (some (.ref f)))(ht:PySem.W.isFn K (.ref f)=true)(hv:mA name=none)(h:Q (.ref f,[.ref x]) s):
  wpAny (model prog w) A (getMethod (.ref x) name pl) Q E s:=by
 refine Zae I.look λod J hl=>?_;exact PySem.W.method_fn X J (Jgn hg).1 (Jgn hg).2 hf (Jcj.mp ht) (by show (PySem.W.lookIn name od).map (·.isSome)=some false;rw[hl,hv];rfl) h
theorem Zfj {ns:List Str}{Q:Unit->Shared->Prop}(X:K.In s.heap)(I:ObjM s.heap x dx C mA)(hs:PySem.W.findIn K (.ref C) "__setattr__" = some (some (.builtin "object.__setattr__")))(hp:PySem.W.plainOver K C=true)(ht:PySem.W.takerIn K C name=some none)(hh:PySem.W.hasDictIn K C=true)(hw:PySem.Within mA ns)(hsz:ns.length<=sizeLine)(h:∀ h',ObjM h' x dx C (λy=>if y=name then some v else mA y)->Heap.SameBut dx s.heap h'->Q () { s with heap:=h',toks:=s.toks+2 }):
  wpAny (model prog w) A (setAttr (.ref x) name v) Q E s:=by
 refine Zae I.look λod J hl=>?_;refine PySem.W.set_plain X J hs (PySem.W.osa_open (s:={ s with toks:=s.toks+1 }) (r:=none) X J hp ht λb=>?_);refine Zae (PySem.W.any_some hh) λcd hc hd'=>?_;have hx:s.heap.get? x=some ⟨.ref C,some dx,.plain,#[]⟩:=I.obj;refine Jab (Jae (Jab (Jab (wpAny_loadPart hx (Jab (PySem.W.Looks.here (s:={ s with toks:=s.toks+1 }) (PySem.W.looks_clsIn X hc) ?_))))));rw[hd'];refine Jae (a:=some dx) (Jab (Jae (Jab ?_)));refine wpAny_nsSet1 (s:={ s with toks:=s.toks+1 }) I.ns λh' hn2 hs2=>?_;refine Zjy (hn2.count (PySem.Within.cons name v hw)) λoD esD epD hoD hdD hcD=>?_;refine Jab (wpAny_lookBehind hoD (by rw[hdD];exact pastItsLine_dict (Ja8 hcD (by rw[Jau];omega))) ?_);exact Jae (h _ ⟨(hs2.2 _ (Jet I.ne)).trans I.obj,hn2,I.ne⟩ hs2)
theorem Zt4 {R:Result->Shared->Prop}{vs:List Value}{kw:List (Str×Value)}(X:K.In s.heap)(hm:PySem.W.makesIn K C=true)(hi:PySem.W.findIn K (.ref C) "__init__" = some (some (.ref f)))(hf:PySem.W.typeIn K (.ref f)=some (.type "function"))(h:codeAny (model prog w) (A.under (.builtin "type.__call__" ⟨.ref C::vs,kw⟩)) (.call (.ref f) ⟨.ref (s.heap.objs.size+1)::vs,kw⟩) (PySem.W.InitBack (s.heap.objs.size+1) R)
   { s with heap:=(s.heap.push PySem.W.emptyDict).push (PySem.W.instObj C s.heap.objs.size) }):
  codeAny (model prog w) A (.call (.ref C) ⟨vs,kw⟩) R s:=by
 obtain⟨hh,g,d,t,os⟩:=s;exact PySem.W.make_core (PySem.W.makes_of X hm) (PySem.W.looks_findIn X hi) (λself=>PySem.W.bind_fn X self hf) (.inl rfl) h
end
noncomputable def Zjc (f:Str)(v:V):List (Str×V)->List (Str×V)
 | []=>[(f,v)]
 | (g,x)::r=>if g=f then (g,v)::r else (g,x)::Zjc f v r
theorem Zc2 (f g:Str)(v:V):∀ fs:List (Str×V),(Zjc f v fs).lookup g=if g=f then some v else fs.lookup g
 | []=>by
  show List.lookup g [(f,v)]=_;by_cases h:g=f
  .have hb:(g == f)=true:=Jcj.mpr h;simp only[List.lookup,hb,if_pos h]
  .have hb:(g == f)=false:=Jd0.mpr h;simp only[List.lookup,hb,if_neg h]
 | (k,x)::r=>by
  have ih:=Zc2 f g v r;rw[show Zjc f v ((k,x)::r)=(if k=f then (k,v)::r else (k,x)::Zjc f v r) from rfl];by_cases hk:k=f
  .rw [if_pos hk];by_cases h:g=k
   .have hb:(g == k)=true:=Jcj.mpr h;simp only[List.lookup,hb,if_pos (h.trans hk)]
   .have hb:(g == k)=false:=Jd0.mpr h;simp only[List.lookup,hb,if_neg (λe:g=f=>h (e.trans hk.symm))]
  .rw [if_neg hk];by_cases h:g=k
   .have hb:(g == k)=true:=Jcj.mpr h;simp only[List.lookup,hb,if_neg (λe:g=f=>hk (h.symm.trans e))]
   .have hb:(g == k)=false:=Jd0.mpr h;simp only[List.lookup,hb];exact ih
theorem Zhu (f:Str)(v:V):∀ fs:List (Str×V),f∈(Zjc f v fs).map (·.1)/\∀ g,g∈fs.map (·.1)->g∈(Zjc f v fs).map (·.1)
 | []=>⟨by simp[Zjc],λg h=>by simp at h⟩
 | (k,x)::r=>by
  obtain⟨i1,i2⟩:=Zhu f v r;rw[show Zjc f v ((k,x)::r)=(if k=f then (k,v)::r else (k,x)::Zjc f v r) from rfl];by_cases hk:k=f
  .rw [if_pos hk];subst hk;exact⟨by simp,λg h=>by simpa using h⟩
  .rw [if_neg hk];refine⟨?_,λg h=>?_⟩
   .rw [Jaw];exact Jbd _ i1
   .rw [Jaw] at h ⊢;rcases Jao.mp h with e|e
    .exact Jao.mpr (.inl e)
    .exact Jbd _ (i2 g e)
theorem Zes (f:Str)(v:V):∀ fs:List (Str×V),(Zjc f v fs).length<=fs.length+1
 | []=>by simp[Zjc]
 | (k,x)::r=>by
  have ih:=Zes f v r;rw[show Zjc f v ((k,x)::r)=(if k=f then (k,v)::r else (k,x)::Zjc f v r) from rfl];by_cases hk:k=f
  .rw [if_pos hk,Jau,Jau];omega
  .rw [if_neg hk,Jau,Jau];omega
theorem RelO.some_of {v:V}{o:Option Value}(r:RelO (some v) o):∃ u,o=some u/\RelV v u:=by
 cases o with
 | none=>exact (show False from r).elim
 | some u=>exact⟨u,rfl,r⟩
theorem RelO.none_of {o:Option Value}(r:RelO none o):o=none:=by
 cases o with
 | none=>rfl
 | some u=>exact (show False from r).elim
theorem Zr1 {v:V}{u:Value}(r:RelV v u):PySem.W.handedIn u=true:=by
 cases v with
 | non=>cases (show u=Value.none from r);rfl
 | bl b=>cases (show u=Value.bool b from r);rfl
 | int i=>obtain⟨t,e⟩:=(show ∃ t,u=Value.int i t from r);cases e;rfl
 | str x=>obtain⟨t,e⟩:=(show ∃ t,u=Value.str x t from r);cases e;rfl
 | byt b=>obtain⟨t,e⟩:=(show ∃ t,u=Value.bytes b t from r);cases e;rfl
 | flt b=>obtain⟨t,e⟩:=(show ∃ t,u=Value.float b t from r);cases e;rfl
 | ref a=>cases (show u=Value.ref a from r);rfl
 | ty n=>cases (show u=Value.type n from r);rfl
section
variable {P:Program}{w:World}{H H':Hp}{h h':Heap}{a C dx:Addr}{fs fs':List (Str×V)}
theorem Zjl (hok:HOk P w H h)(e:H a=some (.ins C dx fs)):∃ mA,ObjM h a dx C mA/\(∀ f,RelO (fs.lookup f) (mA f))/\PySem.Within mA (fs.map (·.1))/\fs.length<=1000/\H dx=some (.own a):=by
 refine Ziu (show ObjOk P w H h a (.ins C dx fs) from hok a _ e) λd z ne ob e9102=>?_;obtain⟨mA,n,r,q⟩:=e9102;exact⟨mA,⟨ob,n,ne⟩,r,q,z,d⟩
end
structure Cls (K:Frag)(C:Addr):Prop where
 pg:PySem.W.plainGet K C Str.empty=true
 hd:PySem.W.hasDictIn K C=true
 po:PySem.W.plainOver K C=true
 sa:PySem.W.findIn K (.ref C) "__setattr__" = some (some (.builtin "object.__setattr__"))
theorem Cls.get {K:Frag}{C:Addr}(c:Cls K C)(f:Str):PySem.W.plainGet K C f=true:=c.pg
def NoAttr (K:Frag)(C:Addr)(f:Str):Prop:=PySem.W.findIn K (.ref C) f=some none
theorem NoAttr.taker {K:Frag}{C:Addr}{f:Str}(n:NoAttr K C f):PySem.W.takerIn K C f=some none:=by
 unfold PySem.W.takerIn;rw[show PySem.W.findIn K (.ref C) f=some none from n];rfl
structure Con (K:Frag)(C:Addr)(f:Str)(v:V)(u:Value):Prop where
 at_:PySem.W.findIn K (.ref C) f=some (some u)
 rel:RelV v u
 get:PySem.W.specialIn K u "__get__" = some none
 cp:PySem.W.copiedNames.contains f=false
structure Meth (K:Frag)(C:Addr)(m:Str)(f:Addr):Prop where
 at_:PySem.W.findIn K (.ref C) m=some (some (.ref f))
 fn:PySem.W.isFn K (.ref f)=true
 kp:PySem.W.keepIn K (.ref f)=true
section
variable {X:Cx}{pins:List (Addr×Obj)}{σ:St}{H:Hp}{s:Shared}{a C dx:Addr}{fs:List (Str×V)}{f:Str}{v:V}{A:Around}{E:Value->Shared->Prop}
theorem Zo0 {b:Bool}{Q:Value->Shared->Prop}(I:Inv X pins σ H s)(e:H a=some (.ins C dx fs))(c:Cls X.K C)(n:NoAttr X.K C f)(l:fs.lookup f=some v)(h:∀ u s',Inv X pins σ H s'->RelV v u->Q u s'):wpAny (model X.prog X.w) A (getAttr (.ref a) f b) Q E s:=by
 refine Zpa (Zjl I.hok e) λmA O r _ _ _=>?_;obtain⟨u,hu,ru⟩:=RelO.some_of (v:=v) (o:=mA f) (by rw[<- l];exact r f);exact get_map I.kIn O (c.get f) c.hd n hu (Zr1 ru) (h u _ (I.tok _) ru)
theorem Ziq {m:Str}{g:Addr}{pl:Sem Bool}{Q:Value×List Value->Shared->Prop}(I:Inv X pins σ H s)(e:H a=some (.ins C dx fs))(c:Cls X.K C)(k:Meth X.K C m g)(l:fs.lookup m=none)(h:Q (.ref g,[.ref a]) s):wpAny (model X.prog X.w) A (getMethod (.ref a) m pl) Q E s:=by
 refine Zpa (Zjl I.hok e) λmA O r _ _ _=>?_;have hn:mA m=none:=RelO.none_of (by rw[<- l];exact r m);exact Zuf I.kIn O (c.get m) k.at_ k.fn hn h
theorem Zoe {y:V}{u:Value}{Q:Unit->Shared->Prop}(I:Inv X pins σ H s)(e:H a=some (.ins C dx fs))(c:Cls X.K C)(n:NoAttr X.K C f)(hl:fs.length<1000)(ry:RelV y u)(h:∀ s',Inv X pins σ (upd H a (.ins C dx (Zjc f y fs))) s'->Q () s'):wpAny (model X.prog X.w) A (setAttr (.ref a) f u) Q E s:=by
 refine Zpa (Zjl I.hok e) λmA O r wi _ ho=>?_;have hz:(fs.map (·.1)).length<=sizeLine:=by rw[Jaa,Jc8];omega
 refine Zfj I.kIn O c.sa c.po n.taker c.hd wi hz λh' O' sb=>h _ ?_;have hd:∃ o,h'.get? dx=some o:=let ⟨o,_,_,e',_⟩:=O'.ns;⟨o,e'⟩;refine I.write (x:=a) (e:=dx) (by rw[e];exact True.intro) (.inr ho) (λb q hb z=>(sb.2 b hb).trans z) hd ?_;refine⟨by rw[Zag O.ne];exact ho,?_,O.ne,O'.obj,_,O'.ns,λg=>?_,λg hg=>?_⟩
 .have:=Zes f y fs;omega
 .show RelO ((Zjc f y fs).lookup g) (if g=f then some u else mA g);rw[Zc2];by_cases q:g=f
  .rw [if_pos q,if_pos q];exact ry
  .rw [if_neg q,if_neg q];exact r g
 .by_cases q:g=f
  .rw [q];exact (Zhu f y fs).1
  .refine (Zhu f y fs).2 g (wi g λz=>hg ?_);show (if g=f then some u else mA g)=none;rw[if_neg q];exact z
theorem Inv.made (I:Inv X pins σ H s):Inv X pins σ (upd (upd H s.heap.objs.size (.own (s.heap.objs.size+1))) (s.heap.objs.size+1) (.ins C s.heap.objs.size []))
  { s with heap:=(s.heap.push PySem.W.emptyDict).push (PySem.W.instObj C s.heap.objs.size) }:=by
 have e1:(s.heap.push PySem.W.emptyDict).get? s.heap.objs.size=some PySem.W.emptyDict:=Ja1 s.heap rfl;have e2:((s.heap.push PySem.W.emptyDict).push (PySem.W.instObj C s.heap.objs.size)).get? (s.heap.objs.size+1)=some (PySem.W.instObj C s.heap.objs.size):=by
  have:=Ja1 (s.heap.push PySem.W.emptyDict) (o:=PySem.W.instObj C s.heap.objs.size) rfl;rwa [Jcs] at this
 have e3:(s.heap.push PySem.W.emptyDict).Ns s.heap.objs.size (λ_=>none):=⟨PySem.W.emptyDict,#[],_,e1,rfl,(λe he=>absurd he (by simp)),λ_=>rfl⟩
 have I1:=I.laid (a:=s.heap.objs.size) (o:=.own (s.heap.objs.size+1)) (h':=s.heap.push PySem.W.emptyDict) (t':=s.toks) (λb u q=>Jad _ q) (Jaf _) ⟨_,e1⟩;refine I1.laid (a:=s.heap.objs.size+1) (o:=.ins C s.heap.objs.size []) (t':=s.toks) (λb u q=>Jad _ q) (Jdv (Jcs _ _)) ?_;have ne:s.heap.objs.size≠s.heap.objs.size+1:=Ja6 (Jej _);refine⟨by rw[Zag ne,Zaa],Jbp _,ne,e2,λ_=>none,(Heap.Ns1.of_empty e3).at λo q=>Jad _ q,λ_=>True.intro,λy hy=>absurd rfl hy⟩
theorem attr_of {prog:Program}{w:World}{env:Env}{e:Expr}{f:Str}{pos:Pos}{s:Shared}{Q:Value->Shared->Prop}(hb:attributeBase e f env (eval e env)=eval e env)(h:wpAny (model prog w) A (eval e env) (λo s₁=>wpAny (model prog w) A (getAttr o f true) Q E s₁) E s):wpAny (model prog w) A (eval (.Attribute e f pos) env) Q E s:=
 Attribute_any_ h (by rw[arm_eval_Attribute,hb])
end
def tFld (K:Frag)(ta:TE)(f:Str):TE:=λσ H Q=>ta σ H λx H1=>∃ a C dx fs v,x=.ref a/\H1 a=some (.ins C dx fs)/\Cls K C/\NoAttr K C f/\fs.lookup f=some v/\Q v H1
def sFld (K:Frag)(ta tv:TE)(f:Str):TS:=λD σ H=>tv σ H λy H1=>ta σ H1 λx H2=>∃ a C dx fs,x=.ref a/\H2 a=some (.ins C dx fs)/\Cls K C/\NoAttr K C f/\fs.length<1000 /\
 D.nx σ (upd H2 a (.ins C dx (Zjc f y fs)))
section
variable {X:Cx}{o e value:Expr}{f:Str}{pos pos' tpos:Pos}{ta tv:TE}
theorem Zqr (he:PE X e ta)(hb:attributeBase e f X.env (eval e X.env)=eval e X.env):PE X (.Attribute e f pos) (tFld X.K ta f):=by
 intro pins s σ H Q I h;refine attr_of hb (thn (he pins s σ H _ I h) λu s1 ⟨x,H1,I1,rx,a,C,dx,fs,v,ex,ea,c,n,l,q⟩=>?_);subst ex;obtain rfl:u=Value.ref a:=rx;exact Zo0 I1 ea c n l λu' s2 I2 ru=>⟨v,H1,I2,ru,q⟩
theorem Zvc (ha:PE X o ta)(hv:PE X value tv)(hs:swapsWith value (some (.Attribute o f pos')) pos.line X.env=pure false):PS X (.Assign [.Attribute o f pos'] value pos) (sFld X.K ta tv f):=by
 intro pins s σ H D I h;refine plainObj_wpAny_Assign_Attribute (thn (hv pins s σ H _ I h) λu s1 ⟨y,H1,I1,ry,q⟩=>thn (ha pins s1 σ H1 _ I1 q) λov s2 ⟨x,H2,I2,rx,a,C,dx,fs,ex,ea,c,n,l,q2⟩=>?_) hs;subst ex;obtain rfl:ov=Value.ref a:=rx;exact Zoe I2 ea c n l ry λs3 I3=>⟨σ,_,I3,q2⟩
theorem methcall_of {pl:Sem Bool}{m:Str}{apos:Pos}{args:List Expr}{pins:List (Addr×Obj)}{s:Shared}{σ:St}{H:Hp}{Q:Value->Shared->Prop}{te:TE}(he:PE X e te)(I:Inv X pins σ H s)(h:te σ H λx H1=>∃ a C dx fs g,x=.ref a/\H1 a=some (.ins C dx fs)/\Cls X.K C/\Meth X.K C m g/\fs.lookup m=none /\
   ∀ s1,Inv X pins σ H1 s1->wpAny (model X.prog X.w) X.A (callWith pos (.ref g) [.ref a] (backTo pos (starEach args X.env)) (backToKw pos (keywordEach [] X.env))) Q X.xe s1)(ht:eval (.Call (.Attribute e m apos) args [] pos) X.env=(do
   let ov <- eval e X.env
   standAt apos.atName
   let (f,first) <- holding [ov] (getMethod ov m pl)
   callWith pos f first (backTo pos (starEach args X.env)) (backToKw pos (keywordEach [] X.env)))):
  wpAny (model X.prog X.w) X.A (eval (.Call (.Attribute e m apos) args [] pos) X.env) Q X.xe s:=by
 refine PySem.W.methodCall_KW (pl:=pl) (thn (he pins s σ H _ I h) λu s1 ⟨x,H1,I1,rx,a,C,dx,fs,g,ex,ea,c,k,l,q⟩=>?_) ht;subst ex;obtain rfl:u=Value.ref a:=rx;exact Ziq I1 ea c k l (q s1 I1)
end
section
variable {X:Cx}{pins:List (Addr×Obj)}{σ:St}{H:Hp}{s:Shared}{A:Around}{E:Value->Shared->Prop}{Q:Value->Shared->Prop}{c:Value}{b:Bool}
inductive TyOf (K:Frag) (H:Hp):V->Value->Prop where
 | non:TyOf K H .non (.type "NoneType")
 | bl (x:Bool):TyOf K H (.bl x) (.type "bool")
 | int (i:Int):TyOf K H (.int i) (.type "int")
 | str (x:Str):TyOf K H (.str x) (.type "str")
 | flt (x:UInt64):TyOf K H (.flt x) (.type "float")
 | lst {a:Addr} {xs:List V} (e:H a=some (.lst xs)):TyOf K H (.ref a) (.type "list")
 | frz {a:Addr} {o:Obj} {xs:List V} (e:H a=some (.frz o (.lst xs))):TyOf K H (.ref a) (.type "list")
 | tup {a:Addr} {xs:List V} (e:H a=some (.tup xs)):TyOf K H (.ref a) (.type "tuple")
 | dK {a:Addr} {kvs:List (Key×V)} (e:H a=some (.dK kvs)):TyOf K H (.ref a) (.type "dict")
 | dT {a:Addr} {kvs:List (List Key×V)} (e:H a=some (.dT kvs)):TyOf K H (.ref a) (.type "dict")
 | ins {a C dx:Addr} {fs:List (Str×V)} (e:H a=some (.ins C dx fs)) (cl:Cls K C) (ha:PySem.W.findIn K (.ref C) "__class__" = some (some (.builtin "object.__class__")))
   (hn:PySem.W.specialIn K (.builtin "object.__class__") "__get__" = some (some (.builtin "getset_descriptor.__get__"))) (htk:PySem.W.takesIn K (.builtin "object.__class__")=some true)
   (hm:PySem.W.mroIn K C (.type "object")=some true):TyOf K H (.ref a) (.ref C)
theorem Zrv {x:V}{u t:Value}(I:Inv X pins σ H s)(rx:RelV x u)(ty:TyOf X.K H x t)(e:PySem.W.kitOne X.K t c=some b)(h:∀ tk,Q (.bool b) { s with toks:=tk }):
  wpAny (model X.prog X.w) A (call (.builtin "isinstance") [u,c]) Q E s:=by
 cases ty with
 | non=>cases (show u=Value.none from rx);exact Jc5 PySem.W.kitx_none I.kIn True.intro e (λz=>nomatch z) h
 | bl y=>cases (show u=Value.bool y from rx);exact Jc5 PySem.W.kitx_bool I.kIn True.intro e (λz=>nomatch z) h
 | int i=>obtain⟨t,q⟩:=(show ∃ t,u=Value.int i t from rx);cases q;exact Jc5 PySem.W.kitx_int I.kIn True.intro e (λz=>nomatch z) h
 | str y=>obtain⟨t,q⟩:=(show ∃ t,u=Value.str y t from rx);cases q;exact Jc5 PySem.W.kitx_str I.kIn True.intro e (λz=>nomatch z) h
 | flt y=>obtain⟨t,q⟩:=(show ∃ t,u=Value.float y t from rx);cases q;exact Jc5 PySem.W.kitx_float I.kIn True.intro e (λz=>nomatch z) h
 | @lst a xs ea=>
  cases (show u=Value.ref a from rx);obtain⟨_,_,n,_,h1⟩:=(show ObjOk X.prog X.w H s.heap a (.lst xs) from I.hok a _ ea)
  exact Jc5 PySem.W.kitx_list I.kIn ⟨_,h1,rfl⟩ e (λz=>nomatch z) h
 | @frz a ob xs ea=>
  cases (show u=Value.ref a from rx);obtain⟨_,_,_,n,_,h1⟩:=(show ObjOk X.prog X.w H s.heap a (.frz ob (.lst xs)) from I.hok a _ ea)
  exact Jc5 PySem.W.kitx_list I.kIn ⟨_,h1,rfl⟩ e (λz=>nomatch z) h
 | @tup a xs ea=>
  cases (show u=Value.ref a from rx);obtain⟨_,_,_,p⟩:=(show ObjOk X.prog X.w H s.heap a (.tup xs) from I.hok a _ ea)
  refine Zau p λo h1 h2 _=>?_;clear p;exact Jc5 PySem.W.kitx_tuple I.kIn ⟨o,h1,h2⟩ e (λz=>nomatch z) h
 | @dK a kvs ea=>
  cases (show u=Value.ref a from rx);refine Zap (show ObjOk X.prog X.w H s.heap a (.dK kvs) from I.hok a _ ea) λ_ _ e9107=>?_;obtain⟨vs,_,p⟩:=e9107;refine Zjy p λo es ep h1 h2 _=>?_;clear p;exact Jc5 PySem.W.kitx_dict I.kIn ⟨o,h1,h2.1⟩ e (λz=>nomatch z) h
 | @dT a kvs ea=>
  cases (show u=Value.ref a from rx);refine Zap (show ObjOk X.prog X.w H s.heap a (.dT kvs) from I.hok a _ ea) λ_ _ e9108=>?_;obtain⟨xs,_,o,es,ep,h1,h2,_⟩:=e9108;exact Jc5 PySem.W.kitx_dict I.kIn ⟨o,h1,h2.1⟩ e (λz=>nomatch z) h
 | @ins a C dx fs ea cl ha hn htk hm=>
  cases (show u=Value.ref a from rx);refine Zae (Zjl I.hok ea) λmA O _=>?_;refine Zae O.look λod J _=>?_;exact Jc5 (PySem.W.kitx_own (cl.get _) cl.hd ha hn htk hm) I.kIn J e (λz=>nomatch z) h
end
structure Room (k:Nat)(A:Around):Prop where
 hd:A.handled=none
 dp:A.depth+3*k+205<recursionLimit
 un:A.units+16*k+200<cLine
theorem Room.mono {j k:Nat}{A:Around}(r:Room k A)(h:j<=k):Room j A:=⟨r.hd,by have:=r.dp;omega,by have:=r.un;omega⟩
theorem Room.m {j k:Nat}{A:Around}(r:Room k A)(h:j<=k:=by decide):Room j A:=r.mono h
theorem Room.deeper {k:Nat}{A:Around}(r:Room (k+1) A)(env:Env):Room k (A.deeper env):=
 ⟨r.hd,by have:=r.dp;show A.depth+1+3*k+205<_;omega,by have:=r.un;show A.units+3+16*k+200<_;omega⟩
theorem Zov {A:Around}{C:Addr}{us:List Value}{kw:List (Str×Value)}:(A.under (.builtin "type.__call__" ⟨.ref C::us,kw⟩)).depth=A.depth+1:=by
 first|rfl|simp[Around.under,Code.weight,Code.isCreation,Code.isGuard,Code.isCaller,Code.frames,Code.isFrame,guardIds]
theorem Zou {A:Around}{C:Addr}{us:List Value}{kw:List (Str×Value)}:(A.under (.builtin "type.__call__" ⟨.ref C::us,kw⟩)).units=A.units+1:=by
 first|rfl|simp[Around.under,Code.cUnits,Code.frames,Code.isFrame]
theorem Room.make {k:Nat}{A:Around}(r:Room (k+1) A)(C:Addr)(us:List Value)(kw:List (Str×Value)):Room k (A.under (.builtin "type.__call__" ⟨.ref C::us,kw⟩)):=
 ⟨r.hd,by have:=r.dp;rw[Zov];omega,by have:=r.un;rw[Zou];omega⟩
theorem Room.depth {k:Nat}{A:Around}(r:Room k A):A.depth<recursionLimit:=by have:=r.dp;omega
theorem Room.units {k:Nat}{A:Around}(r:Room k A):A.units+64<cLine:=by have:=r.un;omega
def Zmu:TA:=λ_ H Q=>Q [] H
def Ze1 (ta:TE)(tr:TA):TA:=λσ H Q=>ta σ H λx H1=>tr σ H1 λxs H2=>Q (x::xs) H2
section
variable {X:Cx}{e:Expr}{es:List Expr}{te:TE}{t:TA}{pos:Pos}
theorem Zab:PA X [] Zmu:=λ_ _ _ _ H Q I h=>Calls.spliced_nil ⟨[],H,I,.nil,h⟩
theorem pa_cons (ha:PE X e te)(hr:PA X es t)(hs:starEach (e::es) X.env=(false,eval e X.env)::starEach es X.env:=by rfl):PA X (e::es) (Ze1 te t):=by
 intro pos pins s σ H Q I h;rw[hs];show wpAny _ _ (spliced ((false,eval e X.env)::backTo pos (starEach es X.env))) _ _ s;refine Calls.spliced_cons (thn (ha pins s σ H _ I h) λu s1 ⟨x,H1,I1,r1,q1⟩=>?_);exact thn (hr pos pins s1 σ H1 _ I1 q1) λus s2 ⟨xs,H2,I2,r2,q2⟩=>⟨x::xs,H2,I2,.cons r1 r2,q2⟩
def tTup (t:TA):TE:=λσ H Q=>t σ H λxs H1=>xs.length<=sizeLine/\∀ p,H1 p=none->Q (.ref p) (upd H1 p (.tup xs))
def tLst (t:TA):TE:=λσ H Q=>t σ H λxs H1=>xs.length<=sizeLine/\∀ p,H1 p=none->Q (.ref p) (upd H1 p (.lst xs))
theorem Zar {x1}(h:PA X es t):PE X (.Tuple es x1 pos) (tTup t):=by
 intro pins s σ H Q I hq;refine wpAny_Tuple_spliced (thn (h pos pins s σ H _ I hq) λus s1 ⟨xs,H1,I1,r,z,q⟩=>⟨by rw[<- r.length];exact z,?_⟩);have hf:H1 s1.heap.objs.size=none:=I1.hok.fresh (Jaf _);refine Za2 (.ref s1.heap.objs.size) (upd H1 s1.heap.objs.size (.tup xs)) ⟨I1.laid (t':=s1.toks) (λb u e=>Jad _ e) (Jaf _) ?_,rfl,q _ hf⟩;exact⟨z,us,r,⟨_,Ja1 _ rfl,rfl,_,rfl⟩⟩
theorem Zbs (h:PA X es t):PE X (.List es pos) (tLst t):=by
 intro pins s σ H Q I hq;refine wpAny_List_spliced (thn (h pos pins s σ H _ I hq) λus s1 ⟨xs,H1,I1,r,z,q⟩=>⟨by rw[<- r.length];exact z,?_⟩);have hf:H1 s1.heap.objs.size=none:=I1.hok.fresh (Jaf _);refine Za2 (.ref s1.heap.objs.size) (upd H1 s1.heap.objs.size (.lst xs)) ⟨I1.laid (t':=s1.toks) (λb u e=>Jad _ e) (Jaf _) ?_,rfl,q _ hf⟩;exact⟨z,us,0,r,Ja1 _ rfl⟩
end
abbrev Sp:=List V->Hp->VK->XK->Prop
abbrev CXT:=List Env->Hp->Shared->XK->Value->Shared->Prop
structure Env0 (P:Program)(w:World)(K:Frag)(mg:Str->Option Value)(base:Heap)(A:Around)(outer:List Env)(s:Shared)(H:Hp):Prop where
 frames:A.frames=some outer
 mod:Mod K mg base
 bs:∀ b o,base.get? b=some o->s.heap.get? b=some o/\H b=none
 bsz:base.objs.size<=s.heap.objs.size
 funs:s.heap.FunFrames base outer
 frf:∀ b∈frs outer,H b=none
 hok:HOk P w H s.heap
 bare:AllBare s.gens
def CE (outer:List Env)(P:Program)(w:World)(H:Hp)(s:Shared)(Q:VK)(u:Value)(s':Shared):Prop:=
 ∃ v H',s'.os=s.os/\AllBare s'.gens/\Un (frs outer) [] H H' s.heap s'.heap/\HOk P w H' s'.heap/\RelV v u/\Q v H'
def CR (CX:CXT)(outer:List Env)(P:Program)(w:World)(H:Hp)(s:Shared)(Q:VK)(E:XK)(r:Result)(s':Shared):Prop:=
 match r with
 | .ok (.ret u)=>CE outer P w H s Q u s'
 | .ok _=>False
 | .error e=>CX outer H s E e s'
structure FnOk (P:Program)(w:World)(K:Frag)(mg:Str->Option Value)(base:Heap)(CX:CXT)(k:Nat)(f:Addr)(fd:FuncData)(ps:List Str)(sp:Sp):Prop where
 len:∀ vs H Q E,sp vs H Q E->vs.length=ps.length
 run:∀ (A:Around) (outer:List Env) (s:Shared) (H:Hp) (args:Args) (us:List Value) (vs:List V) (Q:VK) (E:XK),Room k A->Env0 P w K mg base A outer s H->BindsTo s fd args (ps.zip us)->Vals vs us->sp vs H Q E->
  codeAny (model P w) A (.call (.ref f) args) (CR CX outer P w H s Q E) s
theorem Env0.make {P:Program}{w:World}{K:Frag}{mg:Str->Option Value}{base:Heap}{A:Around}{outer:List Env}{s:Shared}{H:Hp}(e:Env0 P w K mg base A outer s H)(C:Addr)(us:List Value)(kw:List (Str×Value)):
  Env0 P w K mg base (A.under (.builtin "type.__call__" ⟨.ref C::us,kw⟩)) outer s H:=⟨by first|exact e.frames|(simpa [Around.under,Code.envs,Code.isFrame,pushEnvs] using e.frames),e.mod,e.bs,e.bsz,e.funs,e.frf,e.hok,e.bare⟩
section
variable {X:Cx}{pins:List (Addr×Obj)}{σ:St}{H:Hp}{s s':Shared}
theorem Inv.env0 (I:Inv X pins σ H s):Env0 X.prog X.w X.K X.mg X.base X.A X.stack s H:=
 ⟨I.ok.frames,I.ok.mod,I.bs,Ja8 I.ok.bsz I.sz,I.stack,I.stkFree,I.hok,I.bare⟩
theorem Inv.after {Q:VK}{u:Value}(I:Inv X pins σ H s)(h:CE X.stack X.prog X.w H s Q u s'):EP X pins σ Q u s':=by
 refine xE2_6 h λv H' os bare un hok r q=>?_;clear h;obtain⟨hh,g,d,t,os'⟩:=s';obtain rfl:os'=s.os:=os;exact Za2 v H' ⟨I.call (h':=hh) (g':=g) (d':=d) (t':=t) (ch:=[]) un hok bare (λb z=>absurd z (by simp)),r,q⟩
end
def Zlc (sp:Sp)(dvs:List V)(E:XK)(t:TA):TE:=λσ H Q=>t σ H λvs H1=>sp (vs++dvs) H1 Q E
def Zs5 (C:Addr)(m:Str)(sp:Sp)(dvs:List V)(E:XK)(ta:TE)(t:TA):TE:=λσ H Q=>ta σ H λx H1=>∃ a dx fs,x=.ref a/\H1 a=some (.ins C dx fs)/\fs.lookup m=none /\
 t σ H1 λvs H2=>sp (x::(vs++dvs)) H2 Q E
def Zpl (C:Addr)(sp:Sp)(dvs:List V)(E:XK)(t:TA):TE:=λσ H Q=>t σ H λvs H1=>∀ x dx,H1 x=none->H1 dx=none->dx≠x->
 sp (.ref x::(vs++dvs)) (upd (upd H1 dx (.own x)) x (.ins C dx [])) (λv H2=>v=.non/\Q (.ref x) H2) E
def Binds (K:Frag)(fd:FuncData)(ps:List Str)(ds:List Value):Prop:=
 ∀ (s:Shared) (us:List Value),K.In s.heap->(us++ds).length=ps.length->BindsTo s fd ⟨us,[]⟩ (ps.zip (us++ds))
theorem Binds.all {K:Frag}{fd:FuncData}{ps:List Str}(h:∀ us:List Value,us.length=ps.length->bindArgs fd ⟨us,[]⟩=pure (ps.zip us)):Binds K fd ps []:=λs us _ hl=>by
 rw[Jcy] at hl ⊢;exact .of_eq (h us hl)
def Zgg (CX:CXT)(X:Cx)(E:XK):Prop:=∀ (pins:List (Addr×Obj)) (σ:St) (H:Hp) (s:Shared) (e:Value) (s':Shared),Inv X pins σ H s->CX X.stack H s E e s'->X.xe e s'
section
variable {X:Cx}{CX:CXT}{k:Nat}{f C:Addr}{fd:FuncData}{ps:List Str}{sp:Sp}{dvs:List V}{ds:List Value}{E:XK}{x m:Str}{p pos apos:Pos}{e o:Expr}{es:List Expr}{ta:TE}{t:TA}
theorem Zu4 {pins:List (Addr×Obj)}{σ:St}{H:Hp}{s:Shared}{Q:VK}{us:List Value}{vs:List V}(F:FnOk X.prog X.w X.K X.mg X.base CX k f fd ps sp)(hr:Room k X.A)(hb:Binds X.K fd ps ds)(hd:Vals dvs ds)(hx:Zgg CX X E)(I:Inv X pins σ H s)(r:Vals vs us)(h:sp (vs++dvs) H Q E):wpAny (model X.prog X.w) X.A (call (.ref f) us) (EP X pins σ Q) X.xe s:=by
 have r2:Vals (vs++dvs) (us++ds):=r.append hd;have hl:(us++ds).length=ps.length:=by rw[<- r2.length];exact F.len _ _ _ _ h
 refine wpAny_call (Jeg (F.run X.A X.stack s H ⟨us,[]⟩ (us++ds) (vs++dvs) Q E hr I.env0 (hb s us I.kIn hl) r2 h) λr s' hq=>?_);cases r with
 | error e=>exact hx pins σ H s e s' I hq
 | ok fl=>
  cases fl with
  | ret u=>exact I.after hq
  | next=>exact False.elim hq
  | brk=>exact False.elim hq
  | cont=>exact False.elim hq
theorem Zqt (F:FnOk X.prog X.w X.K X.mg X.base CX k f fd ps sp)(hr:Room k X.A)(hg:Gl X x)(hm:X.mg x=some (.ref f))(hk:PySem.W.keepIn X.K (.ref f)=true)(hb:Binds X.K fd ps ds)(hd:Vals dvs ds)(hx:Zgg CX X E)(ha:PA X (e::es) t)(hdb:(x == ("__debug__" : Str))=false:=by decide)(he:starEach (e::es) X.env=(false,eval e X.env)::starEach es X.env:=by rfl)(hpl:(backTo pos (starEach es X.env)).any (·.1)=false:=by rfl):
  PE X (.Call (.Name x p) (e::es) [] pos) (Zlc sp dvs E t):=by
 intro pins s σ H Q I h;refine Jep (Zjj I hg hm ?_ hdb);refine PySem.W.callWith_K (h₀:=X.base) I.ok.mod.kin hk (thn (ha pos pins s σ H _ I h) λus s1 ⟨vs,H1,I1,r,q⟩=>⟨I1.kIn,?_⟩) he hpl;exact Zu4 F hr hb hd hx I1 r q
theorem Ztm {pl:Sem Bool}(he:PE X o ta)(c:Cls X.K C)(hm:Meth X.K C m f)(F:FnOk X.prog X.w X.K X.mg X.base CX k f fd ps sp)(hr:Room k X.A)(hb:Binds X.K fd ps ds)(hd:Vals dvs ds)(hx:Zgg CX X E)(ht:eval (.Call (.Attribute o m apos) [] [] pos) X.env=(do
   let ov <- eval o X.env
   standAt apos.atName
   let (f,first) <- holding [ov] (getMethod ov m pl)
   callWith pos f first (backTo pos (starEach [] X.env)) (backToKw pos (keywordEach [] X.env))):=by rfl):
  PE X (.Call (.Attribute o m apos) [] [] pos) (Zs5 C m sp dvs E ta Zmu):=by
 intro pins s σ H Q I h;refine PySem.W.methodCall_KW (pl:=pl) (thn (he pins s σ H _ I h) λu s1 ⟨x,H1,I1,rx,a,dx,fs,ex,ea,l,q⟩=>?_) ht;subst ex;obtain rfl:u=Value.ref a:=rx;refine Ziq I1 ea c hm l ?_;exact PySem.W.callWith_K0 (first:=[.ref a]) I1.kIn hm.kp (Zu4 (us:=[.ref a]) (vs:=[.ref a]) F hr hb hd hx I1 (.cons rfl .nil) q)
structure Mk (K:Frag)(C f:Addr):Prop where
 makes:PySem.W.makesIn K C=true
 init:PySem.W.findIn K (.ref C) "__init__" = some (some (.ref f))
 fn:PySem.W.isFn K (.ref f)=true
 kp:PySem.W.keepIn K (.ref C)=true
theorem Zs8 {pins:List (Addr×Obj)}{σ:St}{H:Hp}{s:Shared}{Q:VK}{us:List Value}{vs:List V}(M:Mk X.K C f)(F:FnOk X.prog X.w X.K X.mg X.base CX k f fd ps sp)(hr:Room (k+1) X.A)(hb:Binds X.K fd ps ds)(hd:Vals dvs ds)(hx:Zgg CX X E)(I:Inv X pins σ H s)(r:Vals vs us)(h:∀ x dx,H x=none->H dx=none->dx≠x->sp (.ref x::(vs++dvs)) (upd (upd H dx (.own x)) x (.ins C dx [])) (λv H2=>v=.non/\Q (.ref x) H2) E):
  wpAny (model X.prog X.w) X.A (call (.ref C) us) (EP X pins σ Q) X.xe s:=by
 have hq:=h (s.heap.objs.size+1) s.heap.objs.size (I.hok.fresh (Nat.le_succ _)) (I.hok.fresh (Jaf _)) (Ja6 (Jej _));have I2:=Inv.made (C:=C) I;have r2:Vals (V.ref (s.heap.objs.size+1)::(vs++dvs)) (Value.ref (s.heap.objs.size+1)::(us++ds)):=.cons rfl (r.append hd);have hl:(Value.ref (s.heap.objs.size+1)::us++ds).length=ps.length:=by
  have e:=r2.length;rw[F.len _ _ _ _ hq] at e;exact e.symm
 refine wpAny_call (Zt4 (f:=f) I.kIn M.makes M.init (Jcj.mp M.fn) (Jeg (F.run _ X.stack _ _ ⟨Value.ref (s.heap.objs.size+1)::us,[]⟩ (Value.ref (s.heap.objs.size+1)::(us++ds)) _ _ E (hr.make C us [])
  (I2.env0.make C us []) (hb _ (Value.ref (s.heap.objs.size+1)::us) I2.kIn hl) r2 hq) λr s' hq'=>?_))
 cases r with
 | error e=>exact hx pins σ _ _ e s' I2 hq'
 | ok fl=>
  cases fl with
  | ret u=>
   refine Zg3 (I2.after hq') λv H' I3 rv ev q3=>?_;subst ev;exact⟨rv,⟨V.ref (s.heap.objs.size+1),H',I3,rfl,q3⟩⟩
  | next=>exact False.elim hq'
  | brk=>exact False.elim hq'
  | cont=>exact False.elim hq'
theorem pe_make (M:Mk X.K C f)(F:FnOk X.prog X.w X.K X.mg X.base CX k f fd ps sp)(hr:Room (k+1) X.A)(hg:Gl X x)(hm:X.mg x=some (.ref C))(hb:Binds X.K fd ps ds)(hd:Vals dvs ds)(hx:Zgg CX X E)(ha:PA X (e::es) t)(hdb:(x == ("__debug__" : Str))=false:=by decide)(he:starEach (e::es) X.env=(false,eval e X.env)::starEach es X.env:=by rfl)(hpl:(backTo pos (starEach es X.env)).any (·.1)=false:=by rfl):
  PE X (.Call (.Name x p) (e::es) [] pos) (Zpl C sp dvs E t):=by
 intro pins s σ H Q I h;refine Jep (Zjj I hg hm ?_ hdb);refine PySem.W.callWith_K (h₀:=X.base) I.ok.mod.kin M.kp (thn (ha pos pins s σ H _ I h) λus s1 ⟨vs,H1,I1,r,q⟩=>⟨I1.kIn,?_⟩) he hpl;exact Zs8 M F hr hb hd hx I1 r q
end
def PK (X:Cx)(kws:List Keyword)(t:TA):Prop:=
 ∀ (pos:Pos) (pins:List (Addr×Obj)) (s:Shared) (σ:St) (H:Hp) (Q:List V->Hp->Prop),Inv X pins σ H s->t σ H Q->wpAny (model X.prog X.w) X.A (evalAll ((backToKw pos (keywordEach kws X.env)).map (·.2))) (AP X pins σ Q) X.xe s
section
variable {X:Cx}{CX:CXT}{k:Nat}{f C:Addr}{fd:FuncData}{ps ks:List Str}{sp:Sp}{E:XK}{x m:Str}{p pos apos kpos:Pos}{e o:Expr}{es:List Expr}{kws:List Keyword}{te ta:TE}{t tk:TA}{nm:Option Str}
structure KBinds (K:Frag)(fd:FuncData)(ps ks:List Str)(g:List Value->List Value->List Value)(gV:List V->List V->List V):Prop where
 to:∀ (s:Shared) (us ws:List Value),K.In s.heap->(g us ws).length=ps.length->BindsTo s fd ⟨us,ks.zip ws⟩ (ps.zip (g us ws))
 rel:∀ {vs:List V} {us:List Value} {zs:List V} {ws:List Value},Vals vs us->Vals zs ws->Vals (gV vs zs) (g us ws)
variable {g:List Value->List Value->List Value}{gV:List V->List V->List V}
end
structure FnScope (N P:List Str)(sc:Scope):Prop where
 kind:sc.kind=.function
 co:sc.isCoroutine=false
 gen:sc.isGenerator=false
 nd:N.Nodup
 pre:N.take P.length=P
 par:∀ x∈P,sc.names.lookup x=some .local\/sc.names.lookup x=some .cell
 nofree:∀ y∈sc.names,y.2≠.free
theorem Zky {kindOf:Str->Option NameKind}{x:Str}:∀ {binds:List (Str×Value)} {m:Str->Option Value},(∀ v,(x,v)∉binds)->bindL kindOf binds m x=m x
 | [],_,_=>rfl
 | (n,v)::r,m,h=>by
  unfold bindL;rw[Zky λw hw=>h w (Jbd _ hw)];split
  .have:x≠n:=by rintro rfl;exact h v Jb4
   simp[this]
  .rfl
theorem Zk0 {kindOf:Str->Option NameKind}{x:Str}:∀ {binds:List (Str×Value)} {m:Str->Option Value},(∀ v,(x,v)∉binds)->bindC kindOf binds m x=m x
 | [],_,_=>rfl
 | (n,v)::r,m,h=>by
  unfold bindC;rw[Zk0 λw hw=>h w (Jbd _ hw)];split
  .rfl
  .have:x≠n:=by rintro rfl;exact h v Jb4
   simp[this]
theorem Zkz {kindOf:Str->Option NameKind}{x:Str}{v:Value}:∀ {P:List Str} {vs:List Value} {i:Nat} {m:Str->Option Value},P.Nodup->P[i]?=some x->vs[i]?=some v->kindOf x=some .local->
  bindL kindOf (P.zip vs) m x=some v
 | [],_,_,_,_,h,_,_=>by simp at h
 | _::_,[],_,_,_,_,h,_=>by simp at h
 | p::P,w::vs,0,m,nd,h1,h2,hk=>by
  simp at h1 h2;subst h1;subst h2;show bindL kindOf ((p,w)::P.zip vs) m p=_;unfold bindL;rw[Zky λv hv=>(Jbz.mp nd).1 (Jfj hv).1,if_pos hk];simp
 | p::P,w::vs,i+1,m,nd,h1,h2,hk=>by
  show bindL kindOf ((p,w)::P.zip vs) m x=_;unfold bindL;exact Zkz (i:=i) (Jbz.mp nd).2 (by simpa using h1) (by simpa using h2) hk
theorem Zk1 {kindOf:Str->Option NameKind}{x:Str}{v:Value}:∀ {P:List Str} {vs:List Value} {i:Nat} {m:Str->Option Value},P.Nodup->P[i]?=some x->vs[i]?=some v->kindOf x≠some .local->
  bindC kindOf (P.zip vs) m x=some v
 | [],_,_,_,_,h,_,_=>by simp at h
 | _::_,[],_,_,_,_,h,_=>by simp at h
 | p::P,w::vs,0,m,nd,h1,h2,hk=>by
  simp at h1 h2;subst h1;subst h2;show bindC kindOf ((p,w)::P.zip vs) m p=_;unfold bindC;rw[Zk0 λv hv=>(Jbz.mp nd).1 (Jfj hv).1,if_neg hk];simp
 | p::P,w::vs,i+1,m,nd,h1,h2,hk=>by
  show bindC kindOf ((p,w)::P.zip vs) m x=_;unfold bindC;exact Zk1 (i:=i) (Jbz.mp nd).2 (by simpa using h1) (by simpa using h2) hk
noncomputable def start (N:List Str)(vs:List V):St:=vs.map some++List.replicate (N.length-vs.length) none
noncomputable def Zmb (CX:CXT)(P:Program)(w:World)(K:Frag)(mg:Str->Option Value)(base:Heap)(N:List Str)(qual:Str)(scope:Scope)(f:Addr)(cd:Value)(A:Around)(outer:List Env)(s:Shared)(H:Hp)(E:XK):Cx where
 prog:=P
 w:=w
 K:=K
 mg:=mg
 base:=base
 A:=A.deeper (envOfC qual scope s.heap.objs.size f cd)
 N:=N
 s₀:=s
 H₀:=H
 env:=envOfC qual scope s.heap.objs.size f cd
 outer:=outer
 stack:=envOfC qual scope s.heap.objs.size f cd::outer
 ex:=[]
 calm:=true
 fn:=λ_=>true
 pn:=[]
 xe:=λe s'=>wpAny (model P w) (A.deeper (envOfC qual scope s.heap.objs.size f cd)) (leaving (envOfC qual scope s.heap.objs.size f cd) e) (λ_ s''=>CX outer H s E e s'') (λe' s''=>CX outer H s E e' s'') s'
theorem Zn0 {sc:Scope}{n:Nat}{x:Str}(h:sc.names.lookup x=some .cell):∃ c,(cellsFrom n sc.names []).lookup x=some c:=by
 have q:=Jeo sc.names n [] (.inl h);exact Jed.mp q
theorem Zrw {CX:CXT}{P:Program}{w:World}{K:Frag}{mg:Str->Option Value}{base:Heap}{N ps:List Str}{qual:Str}{scope:Scope}{f:Addr}{cd:Value}{A:Around}{outer:List Env}{s s1:Shared}{H:Hp}{E:XK}{us:List Value}{vs:List V}(S:FnScope N ps scope)(hd:A.handled=none)(e0:Env0 P w K mg base A outer s H)(hl:vs.length=ps.length)(r:Vals vs us)(x:InCallC s s.heap.objs.size (bindL (envOfC qual scope s.heap.objs.size f cd).kindOf (ps.zip us) λ_=>none) (cellsFrom (s.heap.objs.size+1) scope.names []) (bindC (envOfC qual scope s.heap.objs.size f cd).kindOf (ps.zip us) λ_=>none) s1):
  Inv (Zmb CX P w K mg base N qual scope f cd A outer s H E) [] (start N vs) H s1:=by
 have hpl:ps.length<=N.length:=by have:=Jdr List.length S.pre;rw[Ja4] at this;omega
 refine Zcl x.done λh1 tk e9109 hk=>?_;obtain rfl:=e9109;have noA:∀ b:Addr,b∉(Zmb CX P w K mg base N qual scope f cd A outer s H E).ex:=λb z=>absurd (show b∈([]:List Addr) from z) (by simp);refine⟨⟨e0.mod,S.kind,rfl,rfl,Jaf _,λy z c h1 h2=>?_,λy hy=>?_,λy c _ h=>?_,λ_=>hd,Around.frames_deeper e0.frames,.inr ⟨rfl,rfl⟩,λb z=>absurd z (noA b),e0.bs,e0.bsz,λb _ _=>noA b,λb z=>absurd z (noA b),e0.funs,e0.frf,⟨_,_,rfl,S.gen,S.co,rfl,rfl⟩⟩,
  rfl,e0.bare,Un.kept hk,⟨_,x.toInCall.ns,λi y v h1 h2 h3=>?_⟩,λy c h=>⟨_,x.cell y c h⟩,e0.hok.fresh (Jaf _),λy c h=>?_,λp hp=>absurd (show p∈([]:List (Addr×Obj)) from hp) (by simp),e0.hok.kept hk,?_⟩
 .exact name_of_addr x.apart (Jcz h1) (Jcz h2)
 .have hy:scope.names.lookup y=some .cell\/scope.names.lookup y=some .free:=hy;rcases hy with hy|hy
  .exact Zn0 hy
  .exact absurd rfl (S.nofree _ (Jcz hy))
 .exact Jb8 (x.above y c (Jcz h))
 .have hi:i<vs.length:=by
   unfold start at h2;by_cases hi:i<vs.length
   .exact hi
   .rw [Jbc (by simpa using hi)] at h2;rw[Jc2] at h2;split at h2 <;> cases h2
  have ha:vs[i]?=some v:=by
   unfold start at h2;rw[Jba (by simpa using hi),Jay] at h2;cases e:vs[i]? with
   | none=>rw[e] at h2;cases h2
   | some a=>rw[e] at h2;cases h2;rfl
  refine Zae (r.get ha) λu hu rv=>?_;have hp:ps[i]?=some y:=by
   rw[<- S.pre,List.getElem?_take_of_lt ∅];exact h1
  have ndP:ps.Nodup:=by rw[<- S.pre];exact S.nd.sublist (Jhd _ _)
  refine⟨u,rv,?_⟩;rcases S.par y (Jai hp) with k|k
  .exact .inl ⟨k,Zkz ndP hp hu k⟩
  .obtain ⟨c,e⟩:=Zn0 (n:=s.heap.objs.size+1) k;refine .inr ⟨.inl k,c,e,?_⟩;have q:=x.cell y c e;rw[Zk1 ndP hp hu (by show scope.names.lookup y≠_;rw[k];decide)] at q;exact q
 .exact e0.hok.fresh (Jb8 (x.above y c (Jcz h)))
 .unfold start;show _=N.length;rw[Jaq,Jaa,Jbt];omega
theorem fn_of {CX:CXT}{P:Program}{w:World}{K:Frag}{mg:Str->Option Value}{base:Heap}{k:Nat}{f:Addr}{name qual:Str}{params:Arguments}{body:List Stmt}{scope:Scope}{dV kV doc pm cdv ct oc:Value}{an od:Option Addr}{osl:Array (Option Value)}{N ps:List Str}{sp:Sp}(lk:K.lookup f=some ⟨oc,od,.func (PySem.W.fnOf name qual params body scope dV kV doc pm an cdv ct),osl⟩)(hcd:PySem.W.codeIn K cdv qual=true)(S:FnScope N ps scope)(len:∀ vs H Q E,sp vs H Q E->vs.length=ps.length)(hbody:∀ (A:Around) (outer:List Env) (s:Shared) (H:Hp) (vs:List V) (Q:VK) (E:XK),Room k (A.deeper (envOfC qual scope s.heap.objs.size f cdv))->sp vs H Q E->
   ∃ t,PSs (Zmb CX P w K mg base N qual scope f cdv A outer s H E) body t/\t { nx:=λ_ H'=>Q .non H',rt:=Q } (start N vs) H):
  FnOk P w K mg base CX (k+1) f (PySem.W.fnOf name qual params body scope dV kV doc pm an cdv ct) ps sp:=by
 refine⟨len,λA outer s H args us vs Q E hr e0 hb r hsp=>?_⟩;have hl:=len _ _ _ _ hsp;have KX:K.In s.heap:=e0.mod.kin.keeps λb o e=>(e0.bs b o e).1;have lim:s.heap.NoLimit:=e0.mod.nolimit.keeps λb o e=>(e0.bs b o e).1;have hkind:∀ y∈ps.zip us,scope.names.lookup y.1=some .local\/(scope.names.lookup y.1=some .cell/\((cellsFrom (s.heap.objs.size+1) scope.names []).lookup y.1).isSome=true):=λ⟨n,v⟩ hy=>by
  rcases S.par n (Jfj hy).1 with q|q
  .exact .inl q
  .exact .inr ⟨q,Jeo _ _ _ (.inl q)⟩
 refine codeAny_call_function hr.depth (KX _ _ lk) rfl S.co S.gen rfl (PySem.W.codeRec_of KX hcd) (hb _ _ _ _ ?_);refine wpAny_newFunctionEnv_cells S.kind hkind λenv he s1 x=>?_;subst he;refine⟨lim.keeps x.toInCall.keep,codeAny_func ?_⟩;refine Zae (hbody A outer s H vs Q E (hr.deeper _) hsp) λt ht hq=>?_;have I:Inv (Zmb CX P w K mg base N qual scope f cdv A outer s H E) [] (start N vs) H s1:=Zrw S hr.hd e0 hl r x;refine Jbw (ht [] s1 (start N vs) H _ I hq) (λfl s' hs=>?_) λe s' hs=>hs;have fin:∀ {σ':St} {H':Hp} {v:V} {u:Value},Inv (Zmb CX P w K mg base N qual scope f cdv A outer s H E) [] σ' H' s'->RelV v u->Q v H'->CE outer P w H s Q u s':=
  λ{σ' H' v u} J rv q=>⟨v,H',J.os,J.bare,J.base,J.hok,rv,q⟩
 cases fl with
 | ret u=>
  refine Zjy hs λv σ' H' J rv q=>?_;clear hs;exact fin J rv q
 | next=>
  refine Zcl hs λσ' H' J q=>?_;clear hs;exact fin (v:=V.non) (u:=Value.none) J rfl q
 | brk=>
  refine Zcl hs λ_ _ _ q=>?_;clear hs;exact False.elim q
 | cont=>
  refine Zcl hs λ_ _ _ q=>?_;clear hs;exact False.elim q
section
variable {X:Cx}{x:Str}{p pos:Pos}{e:Expr}{es:List Expr}{t:TA}{id T:String}{r:List V->Hp->VK->Prop}
def tCB (r:List V->Hp->VK->Prop)(t:TA):TE:=λσ H Q=>t σ H λvs H1=>r vs H1 Q
theorem Ztr (hc:Zb9 X (.builtin id) r)(hg:Gl X x)(hm:X.mg x=none)(hv:bootBuiltins x=some (.builtin id))(ha:PA X (e::es) t)(hn:x ≠ "__name__" := by decide)(hdb:(x == ("__debug__" : Str))=false:=by decide)(he:starEach (e::es) X.env=(false,eval e X.env)::starEach es X.env:=by rfl)(hpl:(backTo pos (starEach es X.env)).any (·.1)=false:=by rfl):PE X (.Call (.Name x p) (e::es) [] pos) (tCB r t):=by
 intro pins s σ H Q I h;refine Jep (Zim I hg hm hv ?_ hn hdb);exact PyProof.Rows.callWith_builtin1 (thn (ha pos pins s σ H _ I h) λus s1 ⟨vs,H1,I1,r1,q1⟩=>hc pins s1 σ H1 vs us Q I1 r1 q1) he hpl
theorem Zqs (hc:Zb9 X (.type T) r)(hg:Gl X x)(hm:X.mg x=none)(hv:bootBuiltins x=some (.type T))(ha:PA X (e::es) t)(hn:x ≠ "__name__" := by decide)(hdb:(x == ("__debug__" : Str))=false:=by decide)(he:starEach (e::es) X.env=(false,eval e X.env)::starEach es X.env:=by rfl)(hpl:(backTo pos (starEach es X.env)).any (·.1)=false:=by rfl):PE X (.Call (.Name x p) (e::es) [] pos) (tCB r t):=by
 intro pins s σ H Q I h;refine Jep (Zim I hg hm hv ?_ hn hdb);exact Jeu (thn (ha pos pins s σ H _ I h) λus s1 ⟨vs,H1,I1,r1,q1⟩=>hc pins s1 σ H1 vs us Q I1 r1 q1) he hpl
theorem Zoj (hc:Zb9 X (.type T) r)(hg:Gl X x)(hm:X.mg x=none)(hv:bootBuiltins x=some (.type T))(hn:x ≠ "__name__" := by decide)(hdb:(x == ("__debug__" : Str))=false:=by decide):
  PE X (.Call (.Name x p) [] [] pos) (tCB r Zmu):=by
 intro pins s σ H Q I h;refine Jep (Zim I hg hm hv ?_ hn hdb);exact PyProof.Rows.callWith_type0 (hc pins s σ H [] [] Q I .nil h)
end
end L2
namespace HT
open PySem PyProof.Rows
section
open PySem.SeqAt
open PySem.AutoSeq1 (wpAny_loadPart')
open PySem.MeetsSeq PySem.MeetsSeq2 PySem.MeetsSeq3
end
section
variable {prog:Program}{w:World}{A:Around}{E:Value->Shared->Prop}{s:Shared}
noncomputable def sIx (n d:Nat):Option Int->Nat
 | none=>d
 | some v=>if v<0 then (v+(n:Int)).toNat else min v.toNat n
end
end HT
namespace L2
open PySem PySem.Spec PyProof.Rows
abbrev TO:=St->Hp->(Option Int->Hp->Prop)->Prop
def PO (X:Cx)(e:Option Expr)(t:TO):Prop:=
 ∀ (pins:List (Addr×Obj)) (s:Shared) (σ:St) (H:Hp) (Q:Option Int->Hp->Prop),Inv X pins σ H s->t σ H Q->
  wpAny (model X.prog X.w) X.A (evalPart e X.env) (λu s'=>∃ o H',Inv X pins σ H' s'/\IsPart u o/\Q o H') X.xe s
def Zlb:TO:=λ_ H Q=>Q none H
def tPart (t:TE):TO:=λσ H Q=>t σ H λx H1=>∃ i,x=.int i/\Q (some i) H1
section
variable {X:Cx}{e:Expr}{te:TE}{lo hi:Option Expr}{tl th:TO}{pos p2:Pos}
theorem Zc0:PO X none Zlb:=by
 intro pins s σ H Q I h;rw[evalPart_none];exact Jae ⟨none,H,I,.none,h⟩
theorem Zcz (h:PE X e te):PO X (some e) (tPart te):=by
 intro pins s σ H Q I hw;rw[evalPart_some];refine thn (h pins s σ H _ I hw) λu s1 ⟨x,H1,I1,r1,q1⟩=>?_;refine Zae q1 λi e9110 q=>?_;clear q1;obtain rfl:=e9110;obtain⟨t,rfl⟩:=r1;exact Za2 (some i) H1 ⟨I1,.int i t,q⟩
def SlR (X:Cx)(r:V->Option Int->Option Int->Hp->VK->Prop):Prop:=
 ∀ (pins:List (Addr×Obj)) (s:Shared) (σ:St) (H:Hp) (x:V) (v vl vu:Value) (lo hi:Option Int) (sl:Addr) (Q:VK),Inv X pins σ H s->RelV x v->s.heap.IsSliceOf sl vl vu .none->IsPart vl lo->IsPart vu hi->r x lo hi H Q->
  ∃ T id,typeLookup (.type T) "__getitem__" = pure (some (.builtin id))/\s.TypeIs v T/\wpAny (model X.prog X.w) X.A (getItem v (.ref sl)) (EP X pins σ Q) X.xe s
def tSl (r:V->Option Int->Option Int->Hp->VK->Prop)(te:TE)(tl th:TO):TE:=λσ H Q=>te σ H λx H1=>tl σ H1 λl H2=>th σ H2 λu H3=>r x l u H3 Q
theorem Zbz {r:V->Option Int->Option Int->Hp->VK->Prop}(hr:SlR X r)(he:PE X e te)(hl:PO X lo tl)(hu:PO X hi th):PE X (.Subscript e (.Slice lo hi none p2) pos) (tSl r te tl th):=by
 intro pins s σ H Q I h;refine Subscript_ (thn (he pins s σ H _ I h) λv s1 ⟨x,H1,I1,r1,q1⟩=>?_);refine wpAny_Slice (thn (hl pins s1 σ H1 _ I1 q1) λvl s2 ⟨l,H2,I2,pl,q2⟩=>thn (hu pins s2 σ H2 _ I2 q2) λvu s3 ⟨u,H3,I3,pu,q3⟩=>?_);rw[evalPart_none];refine Jae ?_;have I4:Inv X pins σ H3 { s3 with heap:=s3.heap.push { cls:=.type "slice",data:=.fields #[vl,vu,.none] } }:=I3.kept (t':=s3.toks) λb ob q=>Jad _ q;refine Zbf (hr pins { s3 with heap:=s3.heap.push { cls:=.type "slice",data:=.fields #[vl,vu,.none] } } σ H3 x v vl vu l u s3.heap.objs.size Q I4 r1 (Heap.IsSliceOf.new ..) pl pu q3) λT id hT ht hg=>?_;show wpAny (model X.prog X.w) X.A (subscriptTail e (.Slice lo hi none p2) v (.ref s3.heap.objs.size)) (EP X pins σ Q) X.xe { s3 with heap:=s3.heap.push { cls:=.type "slice",data:=.fields #[vl,vu,.none] } };exact tail_any (ops:=[.ref s3.heap.objs.size,v]) ht hT hg (by with_unfolding_all rfl)
noncomputable def Zf0 (xs:List V)(lo hi:Option Int):List V:=(xs.drop (HT.sIx xs.length 0 lo)).take (HT.sIx xs.length xs.length hi-HT.sIx xs.length 0 lo)
theorem Zc3 (xs:List V)(lo hi:Option Int):(Zf0 xs lo hi).length<=xs.length:=by
 unfold Zf0;rw[Ja4,Jc7];omega
end
noncomputable def ixN (n:Nat)(i:Int):Option Nat:=if 0<=i then (if i<n then some i.toNat else none) else if -(n:Int)<=i then some (i+n).toNat else none
noncomputable def atI {α:Type}(xs:List α)(i:Int):Option α:=(ixN xs.length i).bind λj=>xs[j]?
theorem Zrt {n:Nat}{i:Int}{j:Nat}(h:ixN n i=some j):seqIndex? i n=some j/\j<n/\-(n:Int)<=i/\i<n:=by
 unfold ixN at h;by_cases h0:0<=i
 .rw [if_pos h0] at h;by_cases h1:i<n
  .rw [if_pos h1] at h;have e:i.toNat=j:=Jbn h;exact⟨by rw[seqIndex_of h0 h1,e],∅,∅,h1⟩
  .rw [if_neg h1] at h;cases h
 .rw [if_neg h0] at h;by_cases h1:-(n:Int)<=i
  .rw [if_pos h1] at h;have e:(i+n).toNat=j:=Jbn h;exact⟨by rw[seqIndex_neg ∅ h1,e],∅,h1,∅⟩
  .rw [if_neg h1] at h;cases h
theorem Zsx {α:Type}{xs:List α}{i:Int}{v:α}(h:atI xs i=some v):∃ j,seqIndex? i xs.length=some j/\xs[j]?=some v/\j<xs.length/\-(xs.length:Int)<=i/\i<xs.length:=by
 unfold atI at h;cases e:ixN xs.length i with
 | none=>rw[e] at h;cases h
 | some j=>
  rw[e] at h;refine Zbq (Zrt e) λh1 h2 h3 h4=>?_;exact⟨j,h1,h,h2,h3,h4⟩
theorem atI_nat {α:Type}{xs:List α}{j:Nat}{v:α}(h:xs[j]?=some v):atI xs (j:Int)=some v:=by
 have hj:j<xs.length:=(Jak.mp h).1;have e:ixN xs.length (j:Int)=some j:=by
  unfold ixN;rw[if_pos ∅,if_pos ∅];simp
 unfold atI;rw[e];exact h
theorem Zuv {α:Type}(xs:List α)(v:α):atI (xs++[v]) (-1)=some v:=by
 have hl:(xs++[v]).length=xs.length+1:=by simp
 have e:ixN (xs++[v]).length (-1)=some xs.length:=by
  unfold ixN;rw[hl,if_neg ⇑0,if_pos ∅];congr 1;omega
 unfold atI;rw[e];show (xs++[v])[xs.length]?=some v;simp
def PlainIx (b:Expr):Prop:=∀ o i,subscripted b false o i=operate [o,i] (getItem o i)
def IxR (X:Cx)(r:R2):Prop:=
 ∀ (value slice:Expr) (pins:List (Addr×Obj)) (s:Shared) (σ:St) (H:Hp) (x y:V) (v u:Value) (Q:VK),Inv X pins σ H s->RelV x v->RelV y u->r x y H Q->
  subscripted slice false v u=operate [v,u] (getItem v u)->wpAny (model X.prog X.w) X.A (subscriptTail value slice v u) (EP X pins σ Q) X.xe s
def MtR (X:Cx)(id:String)(r:V->List V->Hp->VK->Prop):Prop:=
 ∀ (pins:List (Addr×Obj)) (s:Shared) (σ:St) (H:Hp) (x:V) (xs:List V) (v:Value) (us:List Value) (Q:VK),Inv X pins σ H s->RelV x v->Vals xs us->r x xs H Q->
  wpAny (model X.prog X.w) X.A (call (.builtin id) (v::us)) (EP X pins σ Q) X.xe s
section
variable {X:Cx}{a b:Expr}{ta tb:TE}{pos:Pos}
theorem pe_ix {r:R2}(hr:IxR X r)(ha:PE X a ta)(hb:PE X b tb)(hs:PlainIx b):PE X (.Subscript a b pos) (tOp r ta tb):=by
 intro pins s σ H Q I h;exact Subscript_ (binT ha hb I h λv u s2 x y H2 I2 rx ry q=>hr a b pins s2 σ H2 x y v u Q I2 rx ry q (hs _ _))
def rIxL (K:Frag):R2:=λx y H Q=>∃ p xs i v,x=.ref p/\y=.int i/\SqL K H p xs/\atI xs i=some v/\Q v H
def rIxT (K:Frag):R2:=λx y H Q=>∃ p xs i v,x=.ref p/\y=.int i/\SqT K H p xs/\atI xs i=some v/\Q v H
theorem Zaw:IxR X (rIxL X.K):=by
 intro value slice pins s σ H x y v u Q I rx ry h hs;refine Zce h λp xs i z e9120 e9121 hq e9122=>?_;clear h;obtain rfl:=e9120;obtain rfl:=e9121;obtain⟨he,q⟩:=e9122;cases rx;obtain⟨t,rfl⟩:=ry;refine Zau (I.list hq) λits r pl hz=>?_;refine Zpa (Zsx he) λj h1 h2 h3 h4 h5=>?_;refine Zae (r.get h2) λw ew rw'=>?_;have hl:=r.length;have hn:=Zil;have fin:EP X pins σ Q w s:=⟨z,H,I,rw',q⟩
 by_cases h0:0<=i
 .have hj:i.toNat=j:=by
   rw[seqIndex_of h0 h5] at h1;exact Jbn h1
  exact item_listR pl.isList h0 ∅ (by rw[hj];simpa using ew) fin hs
 .have hj:(i+(its.toArray.size:Int)).toNat=j:=by
   rw[seqIndex_neg ∅ h4] at h1;rw[Jav,<- hl];exact Jbn h1
  exact subscriptTail_builtinR (x:=w) pl.isList.typeIs slot_list_getitem.lookup
   (wpAny_getItem_list_neg (Q:=λr s'=>r=w/\EP X pins σ Q r s') pl.isList ∅ (by rw[Jav] <;> omega) ∅ (by rw[hj];simpa using ew) ⟨rfl,fin⟩) hs
theorem Zgf:IxR X (rIxT X.K):=by
 intro value slice pins s σ H x y v u Q I rx ry h hs;refine Zce h λp xs i z e9123 e9124 hq e9125=>?_;clear h;obtain rfl:=e9123;obtain rfl:=e9124;obtain⟨he,q⟩:=e9125;cases rx;obtain⟨t,rfl⟩:=ry;refine Zau (I.tuple hq) λits r pl hz=>?_;refine Zpa (Zsx he) λj h1 h2 h3 h4 h5=>?_;refine Zae (r.get h2) λw ew rw'=>?_;have hl:=r.length;have hn:=Zil;have fin:EP X pins σ Q w s:=⟨z,H,I,rw',q⟩
 exact subscriptTail_builtinR (x:=w) pl.typeIs slot_tuple_getitem.lookup
  (getItem_tuple (j:=j) (Q:=λr s'=>r=w/\EP X pins σ Q r s') pl ∅ ∅ (by rw[Jav,<- hl];exact h1) (by simpa using ew) ⟨rfl,fin⟩) hs
theorem Zot (its:List Value)(n j:Nat)(u:Value):Obj.mapSeq (·.setIfInBounds j u) { cls:=.type "list",data:=.seq its.toArray n }={ cls:=.type "list",data:=.seq (its.set j u).toArray n }:=by
 simp[Obj.mapSeq]
theorem Inv.lst {pins:List (Addr×Obj)}{σ:St}{H:Hp}{s:Shared}{p:Addr}{xs:List V}(I:Inv X pins σ H s)(h:H p=some (.lst xs)):
  ∃ (its:List Value) (n:Nat),Vals xs its/\s.heap.get? p=some { cls:=.type "list",data:=.seq its.toArray n }/\xs.length<=sizeLine:=by
 obtain⟨z,its,n,r,e⟩:=I.hok p _ h;exact Za2 its n ⟨r,e,z⟩
theorem Inv.lstUpd {pins:List (Addr×Obj)}{σ:St}{H:Hp}{s:Shared}{p:Addr}{xs ys:List V}{its its':List Value}{n n':Nat}{f:Obj->Obj}(I:Inv X pins σ H s)(h:H p=some (.lst xs))(ho:s.heap.get? p=some { cls:=.type "list",data:=.seq its.toArray n })(hf:f { cls:=.type "list",data:=.seq its.toArray n }={ cls:=.type "list",data:=.seq its'.toArray n' })(r:Vals ys its')(hz:ys.length<=sizeLine)(t:Nat):
  Inv X pins σ (upd H p (.lst ys)) { s with heap:=s.heap.update p f,toks:=t }:=by
 have e:(s.heap.update p f).get? p=some { cls:=.type "list",data:=.seq its'.toArray n' }:=by
  rw[Jcp f ho (by rw[hf] <;> rfl),hf]
 refine I.write (x:=p) (e:=p) (by rw[h];trivial) (.inl rfl) (λb u hb q=>(Jc4 _ _ (Jet hb)).trans q) ⟨_,e⟩ ?_;exact⟨hz,its',n',r,e⟩
def rSetL:V->V->V->Hp->(Hp->Prop)->Prop:=λo i v H Q=>∃ p xs k j,o=.ref p/\i=.int k/\H p=some (.lst xs)/\ixN xs.length k=some j/\Q (upd H p (.lst (xs.set j v)))
theorem Zcn:PSet X rSetL:=by
 intro pins s σ H o i v ov iv u Q I ro ri rv h;refine Zce h λp xs k j e9129 e9130 hp e9131=>?_;clear h;obtain rfl:=e9129;obtain rfl:=e9130;obtain⟨hj,q⟩:=e9131;cases ro;obtain⟨t,rfl⟩:=ri;refine Zbf (I.lst hp) λits n r ho hz=>?_;refine Zbq (Zrt hj) λh1 h2 h3 h4=>?_;have hl:=r.length;have hn:=Zil;have I':Inv X pins σ (upd H p (.lst (xs.set j v))) { s with heap:=s.heap.update p (Obj.mapSeq (·.setIfInBounds j u)) }:=
  I.lstUpd hp ho (Zot its n j u) (r.set rv j) (by rw[Jev];exact hz) s.toks
 by_cases h0:0<=k
 .have hk:k.toNat=j:=by
   rw[seqIndex_of h0 h4] at h1;exact Jbn h1
  exact PySem.W.ki_setAt ho h0 ∅ (by rw[Jav,<- hl];exact h4) (by rw[hk];exact⟨_,I',q⟩)
 .have hk:(k+(its.toArray.size:Int)).toNat=j:=by
   rw[seqIndex_neg ∅ h3] at h1;rw[Jav,<- hl];exact Jbn h1
  exact PySem.W.ki_setBack ho ∅ (by rw[Jav,<- hl];exact h3) ∅ (by rw[hk];exact⟨_,I',q⟩)
theorem Zj4 (lo hi:Option Int)(n:Nat):(sliceBounds lo hi none n).1=((HT.sIx n 0 lo:Nat):Int)/\(sliceBounds lo hi none n).2.1=((HT.sIx n n hi:Nat):Int)/\(sliceBounds lo hi none n).2.2=1:=by
 refine⟨?_,?_,rfl⟩
 .cases lo with
  | none=>simp[sliceBounds,HT.sIx]
  | some i=>
   simp only[sliceBounds,HT.sIx,Option.getD_none,show (1:Int) > 0 by decide,Jdk];by_cases h:i<0
   .simp only [h,Jdk] <;> omega
   .simp only [h,Jf3] <;> omega
 .cases hi with
  | none=>simp[sliceBounds,HT.sIx]
  | some i=>
   simp only[sliceBounds,HT.sIx,Option.getD_none,show (1:Int) > 0 by decide,Jdk];by_cases h:i<0
   .simp only [h,Jdk] <;> omega
   .simp only [h,Jf3] <;> omega
theorem Zi0 (its:List Value)(lo hi:Option Int):slicePick its.toArray lo hi none=((its.drop (HT.sIx its.length 0 lo)).take (HT.sIx its.length its.length hi-HT.sIx its.length 0 lo)).toArray:=by
 refine Zap (Zj4 lo hi its.toArray.size) λh1 h2 h3=>?_;unfold slicePick;rw[h1,h2,h3];simp only[sliceRange_one,pick_run,Jav] <;> rfl
def rSlL (K:Frag):V->Option Int->Option Int->Hp->VK->Prop:=λx lo hi H Q=>∃ a xs,x=.ref a/\SqL K H a xs/\∀ p,H p=none->Q (.ref p) (upd H p (.lst (Zf0 xs lo hi)))
theorem Zct:SlR X (rSlL X.K):=by
 intro pins s σ H x v vl vu lo hi sl Q I rx hs pl pu h;refine Zbf h λa xs e9132 hx q=>?_;clear h;obtain rfl:=e9132;cases rx;refine Zau (I.list hx) λits r ht hz=>?_;have hlen:=r.length;refine Za2 ("list") _ ⟨slot_list_getitem.lookup,ht.isList.typeIs,?_⟩;refine wpAny_getItem_list_slice ht.isList hs pl pu .none (by simp) ?_ (by rw[Jav] <;> omega);rw[Zi0,<- hlen];refine Za2 (.ref s.heap.objs.size) _ ⟨I.laid (t':=s.toks) (o:=.lst (Zf0 xs lo hi)) (λb ob q=>Jad _ q) (Jaf _) ?_,rfl,q _ (I.hok.fresh (Jaf _))⟩;exact⟨Ja8 (Zc3 xs lo hi) hz,_,0,(r.drop (HT.sIx xs.length 0 lo)).take (HT.sIx xs.length xs.length hi-HT.sIx xs.length 0 lo),Ja1 _ rfl⟩
noncomputable def Zgo:V->Bool
 | .non=>true
 | .bl _=>true
 | .int _=>true
 | .str _=>true
 | _=>false
noncomputable def eqV:V->V->Bool
 | .non,.non=>true
 | .bl a,.bl b=>a == b
 | .bl a,.int b=>(if a then 1 else 0) == b
 | .int a,.bl b=>a == (if b then 1 else 0)
 | .int a,.int b=>a == b
 | .str a,.str b=>a == b
 | _,_=>false
theorem Zvx {A:Around}{s:Shared}{y x:V}{u v:Value}(ry:RelV y u)(rx:RelV x v)(fy:Zgo y=true)(fx:Zgo x=true):SeqAt.EqAt A s u v (eqV y x):=by
 cases y with
 | non=>
  cases ry;cases x with
  | non=>cases rx;exact SeqAt.EqAt.same _
  | bl b=>cases rx;exact SeqAt.EqAt.none_bool b
  | int b=>obtain⟨t,rfl⟩:=rx;exact SeqAt.EqAt.none_int b t
  | str b=>obtain⟨t,rfl⟩:=rx;exact SeqAt.EqAt.none_str b t
  | _=>exact absurd (show false=true from fx) Ja7
 | bl a=>
  cases ry;cases x with
  | non=>cases rx;exact SeqAt.EqAt.bool_none a
  | bl b=>cases rx;exact SeqAt.EqAt.bool_bool a b
  | int b=>obtain⟨t,rfl⟩:=rx;exact SeqAt.EqAt.bool_int a b t
  | str b=>obtain⟨t,rfl⟩:=rx;exact SeqAt.EqAt.bool_str a b t
  | _=>exact absurd (show false=true from fx) Ja7
 | int a=>
  obtain⟨t',rfl⟩:=ry;cases x with
  | non=>cases rx;exact SeqAt.EqAt.int_none a t'
  | bl b=>cases rx;exact SeqAt.EqAt.int_bool a t' b
  | int b=>obtain⟨t,rfl⟩:=rx;exact SeqAt.EqAt.int_int a t' b t
  | str b=>obtain⟨t,rfl⟩:=rx;exact SeqAt.EqAt.int_str a t' b t
  | _=>exact absurd (show false=true from fx) Ja7
 | str a=>
  obtain⟨t',rfl⟩:=ry;cases x with
  | non=>cases rx;exact SeqAt.EqAt.str_none a t'
  | bl b=>cases rx;exact SeqAt.EqAt.str_bool a t' b
  | int b=>obtain⟨t,rfl⟩:=rx;exact SeqAt.EqAt.str_int a t' b t
  | str b=>obtain⟨t,rfl⟩:=rx;exact SeqAt.EqAt.str_str a t' b t
  | _=>exact absurd (show false=true from fx) Ja7
 | _=>exact absurd (show false=true from fy) Ja7
noncomputable def eqU (x:V)(u:Value):Bool:=match u with
 | .none=>eqV .non x
 | .bool b=>eqV (.bl b) x
 | .int i _=>eqV (.int i) x
 | .str z _=>eqV (.str z) x
 | _=>false
theorem Zvw {x y:V}{u:Value}(r:RelV y u)(f:Zgo y=true):eqU x u=eqV y x:=by
 cases y with
 | non=>cases r;rfl
 | bl b=>cases r;rfl
 | int i=>obtain⟨t,rfl⟩:=r;rfl
 | str z=>obtain⟨t,rfl⟩:=r;rfl
 | _=>exact absurd (show false=true from f) Ja7
theorem Zh1 {x:V}:∀ {xs:List V} {us:List Value},Vals xs us->xs.all Zgo=true->us.any (eqU x)=xs.any λy=>eqV y x
 | _,_,.nil,_=>rfl
 | y::xs,u::us,.cons r t,f=>by
  rw[Jhn,Jbv] at f;rw[Je0,Je0,Zvw r f.1,Zh1 t f.2]
theorem Zfc {A:Around}{s:Shared}{x:V}{v:Value}(rx:RelV x v)(fx:Zgo x=true):∀ {xs:List V} {us:List Value},Vals xs us->xs.all Zgo=true->∀ u∈us,SeqAt.EqAt A s u v (eqU x u)
 | _,_,.nil,_=>λu hu=>by cases hu
 | y::xs,u::us,.cons r t,f=>λu' hu=>by
  rw[Jhn,Jbv] at f;rcases Jao.mp hu with rfl|hu
  .rw [Zvw r f.1];exact Zvx r rx f.1 fx
  .exact Zfc rx fx t f.2 u' hu
noncomputable def inV (x:V)(xs:List V):Bool:=xs.any λy=>eqV y x
def rIn (K:Frag)(neg:Bool):R2:=λx y H Q=>∃ p xs,y=.ref p/\(SqL K H p xs\/SqT K H p xs)/\Zgo x=true/\xs.all Zgo=true/\Q (.bl (if neg then !inV x xs else inV x xs)) H
theorem Zhp:OpR X (compareOp .In) (rIn X.K false):=by
 intro pins s σ H x y v u Q I rx ry h;refine Zk9 h λp xs e9133 hq fx fs q=>?_;clear h;obtain rfl:=e9133;cases ry;rcases hq with hq|hq
 .refine Zau (I.list hq) λits r pl hz=>?_;refine SeqAt.in_listAt (eqU x) pl.isList (λw hw=>Zfc rx fx r fs w (by simpa using hw)) ⟨.bl _,H,I,rfl,?_⟩;rw[show its.toArray.any (eqU x)=its.any (eqU x) by simp,Zh1 r fs];exact q
 .refine Zau (I.tuple hq) λits r pl hz=>?_;refine SeqAt.in_tupleAt (eqU x) pl (λw hw=>Zfc rx fx r fs w (by simpa using hw)) ⟨.bl _,H,I,rfl,?_⟩;rw[show its.toArray.any (eqU x)=its.any (eqU x) by simp,Zh1 r fs];exact q
theorem Zkc:OpR X (compareOp .NotIn) (rIn X.K true):=by
 intro pins s σ H x y v u Q I rx ry h;refine Zk9 h λp xs e9134 hq fx fs q=>?_;clear h;obtain rfl:=e9134;cases ry;rcases hq with hq|hq
 .refine Zau (I.list hq) λits r pl hz=>?_;refine SeqAt.notIn_listAt (eqU x) pl.isList (λw hw=>Zfc rx fx r fs w (by simpa using hw)) ⟨.bl _,H,I,rfl,?_⟩;rw[show its.toArray.any (eqU x)=its.any (eqU x) by simp,Zh1 r fs];exact q
 .refine Zau (I.tuple hq) λits r pl hz=>?_;refine SeqAt.notIn_tupleAt (eqU x) pl (λw hw=>Zfc rx fx r fs w (by simpa using hw)) ⟨.bl _,H,I,rfl,?_⟩;rw[show its.toArray.any (eqU x)=its.any (eqU x) by simp,Zh1 r fs];exact q
theorem Zaj:Zb9 X (.builtin "len") (λxs H Q=>∃ p ys,xs=[.ref p]/\(SqL X.K H p ys\/SqT X.K H p ys)/\Q (.int ys.length) H):=by
 intro pins s σ H xs us Q I r h;refine Zbf h λp ys e9137 hq q=>?_;clear h;obtain rfl:=e9137;refine Zae (Zem r) λu e9138 rx=>?_;obtain rfl:=e9138;cases rx;have hn:=Zil;rcases hq with hq|hq
 .refine Zau (I.list hq) λits r' pl hz=>?_;have hlen:=r'.length;exact Calls.call_len_list pl.isList (by simp only[Jav] <;> omega) ⟨.int ys.length,H,I.tok _,⟨s.toks+1,by rw[Jav,hlen]⟩,q⟩
 .refine Zau (I.tuple hq) λits r' pl hz=>?_;have hlen:=r'.length;exact len_tuple pl (by simp only[Jav] <;> omega) ⟨.int ys.length,H,I.tok _,⟨s.toks+1,by rw[Jav,hlen]⟩,q⟩
theorem Zcc:Zb9 X (.type "list") (λxs H Q=>∃ p ys,xs=[.ref p]/\(SqL X.K H p ys\/SqT X.K H p ys)/\∀ l,H l=none->Q (.ref l) (upd H l (.lst ys))):=by
 intro pins s σ H xs us Q I r h;refine Zbf h λp ys e9142 hq q=>?_;clear h;obtain rfl:=e9142;refine Zae (Zem r) λu e9143 rx=>?_;obtain rfl:=e9143;cases rx;have fin:∀ (its:List Value),Vals ys its->ys.length<=sizeLine->∀ (h':Heap) (c':Nat),(∀ b o',s.heap.get? b=some o'->h'.get? b=some o')->
   h'.get? s.heap.objs.size=some { cls:=.type "list",dict:=none,data:=.seq its.toArray c',slots:=#[] }->EP X pins σ Q (.ref s.heap.objs.size) { s with heap:=h' }:=λits r' hz h' c' kp e=>
  ⟨.ref s.heap.objs.size,_,I.laid (t':=s.toks) kp (Jaf _) (show ObjOk X.prog X.w _ h' _ (.lst ys) from ⟨hz,its,c',r',e⟩),rfl,q _ (I.hok.fresh (Jaf _))⟩
 rcases hq with hq|hq
 .refine Zau (I.list hq) λits r' pl hz=>?_;have hlen:=r'.length;obtain⟨o,ho,hc,n,hd⟩:=pl.isList;exact call_list_seq p (.inl rfl) ho hc hd (λh' c' kp e=>fin its r' hz h' c' kp e) (by simp only[Jav] <;> omega)
 .obtain ⟨its,r',pl,hz⟩:=I.tuple hq;have hlen:=r'.length;obtain⟨o,ho,hc,n,hd⟩:=pl;exact call_list_seq p (.inr rfl) ho hc hd (λh' c' kp e=>fin its r' hz h' c' kp e) (by simp only[Jav] <;> omega)
theorem Zb2:Zb9 X (.type "tuple") (λxs H Q=>∃ p ys,xs=[.ref p]/\((SqL X.K H p ys/\∀ l,H l=none->Q (.ref l) (upd H l (.tup ys)))\/(SqT X.K H p ys/\Q (.ref p) H))):=by
 intro pins s σ H xs us Q I r h;obtain⟨p,ys,rfl,h⟩:=h;obtain⟨u,rfl,rx⟩:=Zem r;cases rx;rcases h with ⟨hq,q⟩|⟨hq,q⟩
 .obtain ⟨its,r',pl,hz⟩:=I.list hq;have hlen:=r'.length;refine call_tuple_list pl.isList (λh' kp=>?_) (by simp only[Jav] <;> omega);have I1:Inv X pins σ H { s with heap:=h' }:=I.kept (t':=s.toks) kp;have I2:Inv X pins σ (upd H h'.objs.size (.tup ys)) { s with heap:=h'.push { cls:=.type "tuple",data:=.seq its.toArray } }:=
   I1.laid (t':=s.toks) (λb o e=>Jad _ e) (Jaf _) (show ObjOk X.prog X.w _ _ _ (.tup ys) from ⟨hz,its,r',IsTup.new _ _⟩)
  exact⟨.ref h'.objs.size,_,I2,rfl,q _ (I1.hok.fresh (Jaf _))⟩
 .obtain ⟨its,r',pl,hz⟩:=I.tuple hq;exact call_tuple_same pl ⟨.ref p,H,I,rfl,q⟩
def tyV (K:Frag)(T:String)(x:V)(H:Hp):Prop:=match x with
 | .str _=>T="str"
 | .int _=>T="int"
 | .ref p=>(T="list" /\ ∃ xs,SqL K H p xs)\/(T="tuple" /\ ∃ o,K.lookup p=some o/\o.cls=.type "tuple" /\ o.dict=none) \/
   (T="dict" /\ ((∃ kvs,H p=some (.dK kvs))\/∃ kvs,H p=some (.dT kvs)))\/(T="set" /\ ∃ S n,H p=some (.set S n))
 | _=>False
theorem Zu0 {pins:List (Addr×Obj)}{σ:St}{H:Hp}{s:Shared}{T:String}{x:V}{v:Value}(I:Inv X pins σ H s)(r:RelV x v)(ty:tyV X.K T x H):
  s.TypeIs v T/\∀ a,v=.ref a->∃ ob,s.heap.get? a=some ob/\ob.dict=none:=by
 cases x with
 | str z=>
  obtain⟨t,rfl⟩:=r;cases (show T="str" from ty);exact⟨typeIs_str s z t,λ_ e=>nomatch e⟩
 | int i=>
  obtain⟨t,rfl⟩:=r;cases (show T="int" from ty);exact⟨typeIs_int s i t,λ_ e=>nomatch e⟩
 | ref p=>
  cases r;rcases ty with ⟨rfl,xs,hq⟩|⟨rfl,o,hk,hc,hd⟩|⟨rfl,hk⟩|⟨rfl,S,n,hk⟩
  .refine Zau (I.list hq) λits _ pl _=>?_;refine⟨pl.isList.typeIs,λa e=>?_⟩;cases e;refine Zg3 pl λo n e c hd _=>?_;clear pl;exact⟨o,e,hd⟩
  .refine ⟨⟨o,I.kIn p o hk,hc⟩,λa e=>?_⟩;cases e;exact⟨o,I.kIn _ o hk,hd⟩
  .have z:∃ o,s.heap.get? p=some o/\o.ExactDict:=by
    rcases hk with ⟨kvs,hk⟩|⟨kvs,hk⟩
    .refine Zap (I.hok p _ hk) λ_ _ e9144=>?_;obtain⟨_,_,o,_,_,e,ex,_⟩:=e9144;exact⟨o,e,ex⟩
    .refine Zap (I.hok p _ hk) λ_ _ e9145=>?_;obtain⟨_,_,o,_,_,e,ex,_⟩:=e9145;exact⟨o,e,ex⟩
   refine Zae z λo e ex=>?_;clear z;refine⟨⟨o,e,ex.1⟩,λa e2=>?_⟩;cases e2;exact⟨o,e,ex.2.1⟩
  .refine xE4_3 (I.hok p _ hk) λo _ _ _ e ex _=>?_;refine⟨⟨o,e,ex.1⟩,λa e2=>?_⟩;cases e2;exact⟨o,e,ex.2.1⟩
 | _=>exact False.elim ty
def tBM0 (K:Frag)(T:String)(r:V->List V->Hp->VK->Prop)(to:TE):TE:=λσ H Q=>to σ H λx H1=>tyV K T x H1/\r x [] H1 Q
def tBM (K:Frag)(T:String)(r:V->List V->Hp->VK->Prop)(to:TE)(t:TA):TE:=λσ H Q=>to σ H λx H1=>tyV K T x H1/\t σ H1 λxs H2=>r x xs H2 Q
variable {o e:Expr}{es:List Expr}{to:TE}{t:TA}{name:Str}{apos cpos:Pos}{T id:String}{r:V->List V->Hp->VK->Prop}
theorem Zvh (pa:PlainAttrs T)(slot:Slot T name id)(hty:typeOf (.builtin id)=pure (.type "method_descriptor"))(hm:MtR X id r)(ho:PE X o to)(hbase:attributeBase o name X.env (eval o X.env)=eval o X.env:=by rfl)(hline:(apos.endLine == cpos.line)=true:=by rfl):PE X (.Call (.Attribute o name apos) [] [] cpos) (tBM0 X.K T r to):=by
 intro pins s σ H Q I h;refine wpAny_Call_method0_late hbase hline (thn (ho pins s σ H _ I h) λv s1 ⟨x,H1,I1,r1,ty,q1⟩=>?_);obtain⟨h1,h2⟩:=Zu0 I1 r1 ty;exact Za2 T id ⟨pa,slot,hty,h1,h2,Jfw rfl (PySem.evalArgs_none (hm pins s1 σ H1 x [] v [] Q I1 r1 .nil q1))⟩
theorem Zfa (pa:PlainAttrs T)(slot:Slot T name id)(hty:typeOf (.builtin id)=pure (.type "method_descriptor"))(hm:MtR X id r)(ho:PE X o to)(ha:PA X (e::es) t)(hbase:attributeBase o name X.env (eval o X.env)=eval o X.env:=by rfl)(hfew:((backTo cpos (starEach (e::es) X.env)).all (λx=>!x.1) && (backToKw cpos (keywordEach [] X.env)).all (λx=>x.1.isSome)
   && decide ((e::es).length+([]:List Keyword).length+(if ([]:List Keyword).isEmpty then 0 else 1)<30))=true:=by rfl)(hline:(apos.endLine == cpos.line)=true:=by rfl)(hs:starEach (e::es) X.env=(false,eval e X.env)::starEach es X.env:=by rfl)(hplain:(backTo cpos (starEach es X.env)).any (·.1)=false:=by rfl):
  PE X (.Call (.Attribute o name apos) (e::es) [] cpos) (tBM X.K T r to t):=by
 intro pins s σ H Q I h;refine wpAny_Call_method_late hbase hfew hline rfl (thn (ho pins s σ H _ I h) λv s1 ⟨x,H1,I1,r1,ty,q1⟩=>?_);obtain⟨h1,h2⟩:=Zu0 I1 r1 ty;refine Za2 T id ⟨pa,slot,hty,h1,h2,?_⟩;have hA:=ha cpos pins s1 σ H1 _ I1 q1;rw[hs] at hA ⊢;refine Jfw (by show (false || (backTo cpos (starEach es X.env)).any (·.1))=false;rw[hplain] <;> rfl) (Jgh ?_);exact thn hA λus s2 ⟨vs,H2,I2,r2,q2⟩=>hm pins s2 σ H2 x vs v us Q I2 r1 r2 q2
end
def MtM (X:Cx)(id:String)(r:V->List V->Hp->VK->Prop):Prop:=
 ∀ (pins:List (Addr×Obj)) (s:Shared) (σ:St) (H:Hp) (x:V) (xs:List V) (v:Value) (us:List Value) (Q:VK),Inv X pins σ H s->RelV x v->Vals xs us->r x xs H Q->
  wpAny (model X.prog X.w) X.A (call (.builtin id) (v::us)) (EP X pins σ Q) X.xe s
theorem Vals.one:∀ {x:V} {us:List Value},Vals [x] us->∃ u,us=[u]/\RelV x u
 | _,_,.cons r .nil=>⟨_,rfl,r⟩
theorem Vals.zero:∀ {us:List Value},Vals [] us->us=[]
 | _,.nil=>rfl
theorem Vals.dropLast {xs:List V}{us:List Value}(h:Vals xs us):Vals xs.dropLast us.dropLast:=by
 induction h with
 | nil=>exact .nil
 | cons r t ih=>
  cases t with
  | nil=>exact .nil
  | cons q t'=>exact .cons r ih
theorem Vals.reverse {xs:List V}{us:List Value}(h:Vals xs us):Vals xs.reverse us.reverse:=by
 induction h with
 | nil=>exact .nil
 | cons r t ih=>rw[List.reverse_cons,List.reverse_cons];exact Vals.append ih (.cons r .nil)
theorem Vals.rep {xs:List V}{us:List Value}(h:Vals xs us):∀ k:Nat,Vals (List.replicate k xs).flatten (List.replicate k us).flatten
 | 0=>.nil
 | k+1=>by
  rw[Jeh,Jeh,Je1,Je1];exact Vals.append h (Vals.rep h k)
theorem Zo3 {α:Type}(l:List α):l.eraseIdx (l.length-1)=l.dropLast:=by
 induction l with
 | nil=>rfl
 | cons a r ih=>
  cases r with
  | nil=>rfl
  | cons b r=>
   have e:(a::b::r).length-1=((b::r).length-1)+1:=by
    have h1:(a::b::r).length=r.length+2:=rfl;have h2:(b::r).length=r.length+1:=rfl;omega
   rw[e,List.eraseIdx_cons_succ,ih]
   all_goals rfl
theorem Zkm (its:List Value):∀ (k:Nat) (acc:List Value),
  List.foldl (λx1 x2=>x1++x2) acc.toArray (List.replicate k its.toArray)=(acc++(List.replicate k its).flatten).toArray
 | 0,acc=>by simp
 | k+1,acc=>by
  have e:acc.toArray++its.toArray=(acc++its).toArray:=by simp
  have e2:(acc++its)++(List.replicate k its).flatten=acc++(List.replicate (k+1) its).flatten:=by
   rw[Jeh,Je1,Ja5]
  rw[<- e2,<- Zkm its k (acc++its),<- e,Jeh,List.foldl_cons]
section
variable {X:Cx}{pins:List (Addr×Obj)}{σ:St}{H:Hp}{s:Shared}{l b:Addr}{xs ys zs:List V}
theorem Inv.lset {its its':List Value}{n:Nat}{f:Array Value->Array Value}{t':Nat}(I:Inv X pins σ H s)(hH:H l=some (.lst xs))(e:s.heap.get? l=some { cls:=.type "list",data:=.seq its.toArray n })(hf:f its.toArray=its'.toArray)(hv:Vals ys its')(hz:ys.length<=sizeLine):
  Inv X pins σ (upd H l (.lst ys)) { s with heap:=s.heap.update l (Obj.mapSeq f),toks:=t' }:=by
 have q:=PySem.IsL.update e f;rw[hf] at q;refine I.write (x:=l) (e:=l) (by rw[hH];exact trivial) (.inl rfl) (λb' u hb hu=>(Jc4 s.heap (Obj.mapSeq f) (Jet hb)).trans hu) ⟨_,q⟩ ?_;exact⟨hz,its',_,hv,q⟩
theorem Inv.lnew {its:List Value}{t':Nat}(I:Inv X pins σ H s)(hv:Vals ys its)(hz:ys.length<=sizeLine):
  Inv X pins σ (upd H s.heap.objs.size (.lst ys)) { s with heap:=s.heap.push { cls:=.type "list",data:=.seq its.toArray },toks:=t' }:=
 I.laid (λ_ _ q=>Jad _ q) (Jaf _) ⟨hz,its,0,hv,Ja1 _ rfl⟩
theorem Inv.fresh (I:Inv X pins σ H s):H s.heap.objs.size=none:=I.hok.fresh (Jaf _)
theorem Inv.lstM (I:Inv X pins σ H s)(hH:H l=some (.lst xs)):xs.length<=sizeLine/\∃ (its:List Value) (n:Nat),Vals xs its/\xs.length=its.length/\s.heap.get? l=some { cls:=.type "list",data:=.seq its.toArray n }:=by
 obtain⟨z,its,n,r,e⟩:=I.hok l _ hH;exact⟨z,its,n,r,r.length,e⟩
theorem Znf {n:Nat}(h:n<=sizeLine):Builtin.List.listTooLong n=false:=by
 unfold Builtin.List.listTooLong;exact Jcg ∅
end
section
variable {X:Cx}
def Zja:V->List V->Hp->VK->Prop:=λx vs H Q=>∃ l xs y,x=.ref l/\vs=[y]/\H l=some (.lst xs)/\xs.length<sizeLine/\Q .non (upd H l (.lst (xs++[y])))
theorem Zbj:MtM X "list.append" Zja:=by
 intro pins s σ H x vs v us Q I rx rv h;refine Zck h λl xs y e9146 e9147 hH e9148=>?_;clear h;obtain rfl:=e9146;obtain rfl:=e9147;obtain⟨hz,q⟩:=e9148;cases rx;refine Zae rv.one λu e9149 ru=>?_;obtain rfl:=e9149;obtain⟨z,its,n,r,hl,e⟩:=I.lstM hH;refine Jfz F.slot_list_append ⟨_,e,rfl⟩ F.entry_list_append (F.args_list_append_2 _ _) (PySem.list_append l its.toArray n u (by rw[Jav];omega)) ⟨e,?_⟩;refine Za2 .non _ ⟨I.lset (its':=its++[u]) hH e (by simp) (r.append (.cons ru .nil)) ?_,rfl,q⟩;rw[Jaq,Jew];omega
def Zlp:V->List V->Hp->VK->Prop:=λx vs H Q=>∃ l b xs zs,x=.ref l/\vs=[.ref b]/\H l=some (.lst xs)/\H b=some (.lst zs)/\xs.length+zs.length<=sizeLine/\Q .non (upd H l (.lst (xs++zs)))
theorem Zre:MtM X "list.extend" Zlp:=by
 intro pins s σ H x vs v us Q I rx rv h;refine Zce h λl b xs zs e9150 e9151 hH e9152=>?_;clear h;obtain rfl:=e9150;obtain rfl:=e9151;refine Zap e9152 λhB hz q=>?_;clear e9152;cases rx;refine Zae rv.one λu e9153 ru=>?_;obtain rfl:=e9153;cases ru;obtain⟨z,its,n,r,hl,e⟩:=I.lstM hH;obtain⟨z2,its2,n2,r2,hl2,e2⟩:=I.lstM hB;have hsz:its.toArray.size+its2.toArray.size<=sizeLine:=by rw[Jav,Jav];omega
 have hlong:¬ (!its.toArray.isEmpty && Builtin.List.listTooLong (its.toArray.size+its2.toArray.size))=true:=by
  rw[Znf hsz,Bool.and_false];exact Ja7
 refine Jfz F.slot_list_extend ⟨_,e,rfl⟩ F.entry_list_extend (F.args_list_extend_2 _ _)
  (AutoSeq1.list_extend_list_list_0 l its.toArray n b its2.toArray n2 hlong (by rw[Jav];omega) ∅) ⟨e,e2,?_⟩
 refine Za2 .non _ ⟨I.lset (its':=its++its2) hH e (by simp) (r.append r2) ?_,rfl,q⟩;rw[Jaq];omega
def rPop:V->List V->Hp->VK->Prop:=λx vs H Q=>∃ l xs y,x=.ref l/\vs=[]/\H l=some (.lst xs)/\xs[xs.length-1]?=some y/\Q y (upd H l (.lst xs.dropLast))
theorem mt_pop:MtM X "list.pop" rPop:=by
 intro pins s σ H x vs v us Q I rx rv h;refine Zck h λl xs y e9154 e9155 hH e9156=>?_;clear h;obtain rfl:=e9154;obtain rfl:=e9155;obtain⟨hy,q⟩:=e9156;cases rx;have hus:=rv.zero;subst hus;obtain⟨z,its,n,r,hl,e⟩:=I.lstM hH;refine Zae (r.get hy) λu hu ru=>?_;have hy':its.toArray[its.toArray.size-1]?=some u:=by
  show its.toArray[its.length-1]?=some u;rw[<- Jca,<- hl];exact hu
 refine Jfz F.slot_list_pop ⟨_,e,rfl⟩ F.entry_list_pop (F.args_list_pop_1 _) (MeetsSeq.list_pop_last l its.toArray n u hy' (by rw[Jav];omega)) ⟨e,?_⟩;refine Za2 y _ ⟨I.lset (its':=its.dropLast) hH e ?_ r.dropLast ?_,ru,q⟩
 .show its.toArray.eraseIdxIfInBounds (its.toArray.size-1)=its.dropLast.toArray;rw[Jav,List.eraseIdxIfInBounds_toArray,Zo3]
 .rw [List.length_dropLast];omega
def Zte:V->List V->Hp->VK->Prop:=λx vs H Q=>∃ l xs,x=.ref l/\vs=[]/\H l=some (.lst xs)/\Q .non (upd H l (.lst xs.reverse))
theorem Zop:MtM X "list.reverse" Zte:=by
 intro pins s σ H x vs v us Q I rx rv h;refine Zg3 h λl xs e9161 e9162 hH q=>?_;clear h;obtain rfl:=e9161;obtain rfl:=e9162;cases rx;have hus:=rv.zero;subst hus;obtain⟨z,its,n,r,hl,e⟩:=I.lstM hH;refine Jfz F.slot_list_reverse ⟨_,e,rfl⟩ F.entry_list_reverse (F.args_list_reverse_1 _) (AutoSeq1.list_reverse_list_0 l its.toArray n (by rw[Jav];omega)) ⟨e,?_⟩;refine Za2 .non _ ⟨I.lset (its':=its.reverse) hH e (by simp) r.reverse ?_,rfl,q⟩;rw[List.length_reverse];omega
def rCat:R2:=λx y H Q=>∃ l b xs zs,x=.ref l/\y=.ref b/\H l=some (.lst xs)/\H b=some (.lst zs)/\xs.length+zs.length<=sizeLine/\∀ p,H p=none->Q (.ref p) (upd H p (.lst (xs++zs)))
theorem Zhq:OpR X (binaryOp .Add) rCat:=by
 intro pins s σ H x y v u Q I rx ry h;refine Zce h λl b xs zs e9165 e9166 hH e9167=>?_;clear h;obtain rfl:=e9165;obtain rfl:=e9166;refine Zap e9167 λhB hz q=>?_;clear e9167;cases rx;cases ry;obtain⟨z,its,n,r,hl,e⟩:=I.lstM hH;obtain⟨z2,its2,n2,r2,hl2,e2⟩:=I.lstM hB;refine PySem.P.add_list e e2 ?_ (by rw[Jav,Jav];omega);have ea:its.toArray++its2.toArray=(its++its2).toArray:=by simp
 rw[ea];exact Za2 (.ref _) _ ⟨I.lnew (t':=s.toks) (r.append r2) (by rw[Jaq];omega),rfl,q _ I.fresh⟩
def rRep:R2:=λx y H Q=>∃ l k xs,x=.ref l/\y=.int k/\H l=some (.lst xs)/\-(2 ^ 63)<=k/\k<2 ^ 63/\xs.length*k.toNat<=sizeLine /\
 ∀ p,H p=none->Q (.ref p) (upd H p (.lst (List.replicate k.toNat xs).flatten))
theorem len_rep {α:Type}(xs:List α)(k:Nat):(List.replicate k xs).flatten.length=k*xs.length:=by
 induction k with
 | zero=>simp
 | succ k ih=>rw[Jeh,Je1,Jaq,ih,Nat.succ_mul,Nat.add_comm]
theorem op_rep:OpR X (binaryOp .Mult) rRep:=by
 intro pins s σ H x y v u Q I rx ry h;refine Zck h λl k xs e9168 e9169 hH e9170=>?_;clear h;obtain rfl:=e9168;obtain rfl:=e9169;refine Zbq e9170 λh1 h2 hz q=>?_;clear e9170;cases rx;obtain⟨t,rfl⟩:=ry;obtain⟨z,its,n,r,hl,e⟩:=I.lstM hH;have hlen:its.toArray.size*k.toNat<=sizeLine:=by rw[Jav,<- hl];exact hz
 have hcap:¬ its.toArray.size*k.toNat > (2 ^ 63-1) / 8:=by
  have:(sizeLine:Nat)<=(2 ^ 63-1) / 8:=⇑0
  omega
 have hfit:¬ (!Builtin.List.listFitsIndex k)=true:=by
  rw[fitsIndex_both h1 h2];exact Ja7
 have hlong:¬ Builtin.List.listTooLong (its.toArray.size*k.toNat)=true:=by
  rw[Znf hlen];exact Ja7
 have hnew:List.foldl (λx1 x2=>x1++x2) #[] (List.replicate (if its.toArray.isEmpty=true then 0 else k.toNat) its.toArray)=(List.replicate k.toNat its).flatten.toArray:=by
  have f0:∀ m:Nat,List.foldl (λx1 x2=>x1++x2) #[] (List.replicate m its.toArray)=(List.replicate m its).flatten.toArray:=λm=>by
   have:=Zkm its m [];rw[List.nil_append] at this;exact this
  rw[f0];cases its with
  | nil=>simp
  | cons a r'=>rw[if_neg (by simp)]
 refine wpAny_binaryOp_repeat_ref (T:="list") (U:="int") ⇑0 ⟨_,e,rfl⟩ (λs'=>typeIs_int s' k t) noFill_list_mul F.fills_int_mul F.slot_int_rmul repeat_list F.slot_int_index.lookup
  (Jfz F.slot_int_rmul (typeIs_int s k t) F.entry_int_rmul (F.args_int_rmul_2 _ _) (int___rmul___int_list k t l its.toArray n)
   ⟨e,rfl,⟨_,e,rfl⟩,Jfz F.slot_list_mul ⟨_,e,rfl⟩ F.entry_list_mul (F.args_list_mul_2 _ _) (AutoListH.list___mul___list_int_3 l its.toArray n k t hfit hcap hlong) ⟨e,?_⟩⟩)
 rw[hnew];exact Za2 (.ref _) _ ⟨I.lnew (t':=s.toks) (r.rep k.toNat) (by rw[len_rep,Nat.mul_comm];exact hz),rfl,q _ I.fresh⟩
end
section
variable {prog:Program}{w:World}{A:Around}{E:Value->Shared->Prop}{s:Shared}
end
section
variable {X:Cx}
end
end L2
namespace Att
open PySem PySem.W PySem.Calls PyProof.Rows
theorem Zhw {P:Params}{h:Heap}:∀ (ns:List Int) (vs:List Value),WellAll P h vs (ns.map WData.int)->IntsAre vs ns:=by
 intro ns
 induction ns with
 | nil=>
  intro vs w;rw[Jf8] at w;cases w;exact .nil
 | cons n ns ih=>
  intro vs w;rw[Jaw] at w;cases w with
  | cons a b=>
   cases a;exact .cons _ _ (ih _ b)
theorem Zp0 {l:OpenLaw}{n:Nat}(hn:l.most=some n){P:Params}{h:Heap}{args:List WData}{vals:List Value}(hpre:l.row.toRowW.claim.pre args=true)(hwl:WellAll P h vals args):
  ∃ a vs ns,vals=[Value.ref a]/\args=[WData.list (ns.map WData.int)]/\h.get? a=some { cls:=.type "list",data:=.seq vs.toArray }/\IntsAre vs ns/\ns.length<=n:=by
 have hsh:WShape.hasAll [] args [.list .int]=true:=(pre_splitW hpre).1;have hc:l.pre.holds [] { args:=args }=true:=(pre_splitW hpre).2;obtain⟨d,r,rfl,h1,h2⟩:=hasAllW_cons hsh;obtain rfl:=hasAllW_nil h2;obtain⟨xs,rfl,h3⟩:=hasW_list h1;obtain⟨ns,rfl⟩:=items_int h3;have hlen:ns.length<=n:=by
  unfold OpenLaw.pre at hc;have h4:(WTm.not (.lt (.lit (.int (n:Int))) (.len (.arg 0)))).holds [] { args:=[.list (ns.map .int)] }=true:=by
   have h4:=(holds_andW hc).1;rw[hn] at h4;exact h4
  have h5:=condW_of h4 (w_not (w_lt w_lit (w_len_list (w_arg rfl))));rw[Jaa] at h5;refine Jgc λq=>?_;have q':(n:Int)<((ns.length:Nat):Int):=∅
  first
   | (rw[Jam q'] at h5;exact absurd h5 ⇑0)
   | (simp at h5;omega)
 cases hwl with
 | cons w1 w2=>
  cases w2;cases w1 with
  | list ho hall=>exact⟨_,_,ns,rfl,rfl,ho,Zhw ns _ hall,hlen⟩
theorem Zqj (l:OpenLaw)(args:List WData):l.row.toRowW.claim.post args (.bool true) args=true:=
 postW_of (r:=l.row.toRowW) (X:=(true == true))
  (show WShape.has [] (.bool true) .bool=true by first|rfl|decide|simp[WShape.has,WShape.arms,WShape.armsAll])
  (show (WTm.eq .res (.lit (.bool true))).value [] { args:=args,res:=some (.bool true),after:=args }=some (.bool (true == true)) from w_eq_bool (w_res rfl) w_lit) rfl
theorem attach_call {l:OpenLaw}{n:Nat}{q:Program}{loose:List Str}{XP:(Str->Option Value)->Heap->Prop}{YP:World->Heap->Prop}{d:DefRec}(hn:l.most=some n)(hdf:d.params.defaults=[])(call:∀ (w:World) (s₀ s₁:Shared) (mg mb:Str->Option Value) (fa:Addr) (o:Obj) (pm cd doc:Value) (a:Addr) (vs:List Value) (ns:List Int),
   Ground q loose [] XP w s₀ mg mb s₁.heap->YP w s₁.heap->
   s₁.heap.get? fa=some o->o.data=.func (docDef d.name d.params d.body d.scope pm cd doc)->s₁.heap.CodeRec cd d.name->mg d.name=some (.ref fa)->
   s₁.heap.get? a=some { cls:=.type "list",data:=.seq vs.toArray }->IntsAre vs ns->ns.length<=n->s₁.gens=#[]->
   codeAny (model l.prog w) callerA (.call (.ref fa) ⟨[.ref a],[]⟩) (λr s'=>r=.ok (.ret (.bool true))/\OldK s₁.heap s'.heap/\s'.os=s₁.os/\AllBare s'.gens) s₁):
  WalkO q loose XP YP l.row.toRowW d [] (λf vs=>PySem.call f vs):=by
 intro w s₀ s₁ mg mb G Y fa o pm cd doc dV kV ho hd hcd hD hmg hg args vals as hpre hlay hrd hwl hlo;obtain rfl:dV=.none:=Dflts.none hD hdf;obtain rfl:kV=.none:=Dflts.noKw hD;obtain⟨a,vs,ns,rfl,rfl,hobj,hints,hlen⟩:=Zp0 hn hpre hwl;refine enter_call (Jeg (call w s₀ s₁ mg mb fa o pm cd doc a vs ns G Y ho (fd_plain hd) hcd hmg hobj hints hlen hg) λr s' hq=>?_);obtain⟨rfl,h2,h3,h4⟩:=hq;exact⟨.inl ⟨.bool true,.bool true,[],rfl,λ_=>rfl,.bool true,Zqj l _,λ_=>⟨List.Pairwise.nil,λ_ hm=>(nomatch hm)⟩⟩,h2,h3,h4⟩
section
variable {prog:Program}{w:World}{A:Around}{E:Value->Shared->Prop}{s:Shared}{K:Frag}
end
end Att
namespace L2
open PySem PySem.Spec PyProof.Rows
theorem Zjz:∀ {vs:List Value} {ns:List Int},IntsAre vs ns->Vals (ns.map V.int) vs
 | _,_,.nil=>.nil
 | _,_,.cons n t h=>.cons ⟨t,rfl⟩ (Zjz h)
def Only (H:Hp):Prop:=∀ b,H b=none\/∃ o xs,H b=some (.frz o (.lst xs))
theorem Zt8 {P:Program}{w:World}{K:Frag}{mg mb:Str->Option Value}{CX:CXT}{k:Nat}{fa a:Addr}{fd:FuncData}{x:Str}{sp:Sp}{s₁:Shared}{vs:List Value}{ns:List Int}(KX:K.In s₁.heap)(hns:s₁.heap.Ns mainGlobals mg)(hb:s₁.heap.Ns builtinsNs mb)(hbb:∀ x:Str,x ≠ "__name__" -> mb x=bootBuiltins x)(hlim:s₁.heap.NoLimit)(hseer:s₁.heap.NoSeer)(hbm:∃ bm ob,mg "__builtins__" = some (.ref bm)/\bm≠builtinsNs/\s₁.heap.get? bm=some ob/\ob.cls=.type "module" /\ ob.dict=some builtinsNs/\ob.data=.plain)(hg:s₁.gens=#[])(ha:s₁.heap.get? a=some { cls:=.type "list",data:=.seq vs.toArray })(hi:IntsAre vs ns)(hl:ns.length<=sizeLine)(hr:Room k callerA)(F:∀ base:Heap,K.In base->base.Ns mainGlobals mg->FnOk P w K mg base CX k fa fd [x] sp)(hbind:∀ (s:Shared) (u:Value),BindsTo s fd ⟨[u],[]⟩ [(x,u)])(hsp:∀ H:Hp,Only H->SqL K H a (ns.map V.int)->sp [.ref a] H (λv _=>v=.bl true) λ_ _ _=>False)(hCX:∀ H e s',CX [] H s₁ (λ_ _ _=>False) e s'->False):
  codeAny (model P w) callerA (.call (.ref fa) ⟨[.ref a],[]⟩) (λr s'=>r=.ok (.ret (.bool true))/\OldK s₁.heap s'.heap/\s'.os=s₁.os/\AllBare s'.gens) s₁:=by
 have rv:=Zjz hi;have lenV:=hi.length
 -- from an abstract heap in which nothing but the script may be tracked
 have core:∀ H:Hp,Only H->SqL K H a (ns.map V.int)->HOk P w H s₁.heap->(∀ b,H b≠none->b=a)->(H a≠none->K.lookup a=none)->
   codeAny (model P w) callerA (.call (.ref fa) ⟨[.ref a],[]⟩) (λr s'=>r=.ok (.ret (.bool true))/\OldK s₁.heap s'.heap/\s'.os=s₁.os/\AllBare s'.gens) s₁:=by
  intro H hO hS hok hA hK;have Zed:∀ {b:Addr} {o:Obj},s₁.heap.get? b=some o->H b=none->(Zsz s₁.heap H).get? b=some o:=λe n=>Zud e n;have noA:∀ {b:Addr} {o:Obj} {es:Array DictEntry} {ep:Nat},s₁.heap.get? b=some o->o.data=.dict es ep->H b=none:=λ{b o es ep} e d=>by
   cases q:H b with
   | none=>rfl
   | some u=>
    have e':b=a:=hA b (by rw[q];simp);subst e';rw[ha] at e;cases e;have d':Data.seq vs.toArray _=Data.dict es ep:=d;cases d'
  have nsK:∀ {b:Addr} {m:Str->Option Value},s₁.heap.Ns b m->(Zsz s₁.heap H).Ns b m:=λ{b m} ⟨o,es,ep,e,d,r⟩=>⟨o,es,ep,Zed e (noA e d),d,r⟩
  have hKb:K.In (Zsz s₁.heap H):=λb o e=>Zed (KX b o e) (by
   cases q:H b with
   | none=>rfl
   | some u=>
    have e':b=a:=hA b (by rw[q];simp);subst e';rw[hK (by rw[q];simp)] at e;cases e)
  have seerB:(Zsz s₁.heap H).NoSeer:=⟨let ⟨mc,x,y⟩:=hseer.statics;⟨mc,nsK x,y⟩,let ⟨mc,x,y⟩:=hseer.mods;⟨mc,nsK x,y⟩,let ⟨mc,x,y⟩:=hseer.imp;⟨mc,nsK x,y⟩,let ⟨mg',bm,ob,x,y,z,u,v⟩:=hseer.main;⟨mg',bm,ob,nsK x,y,Zed z (by
   cases q:H bm with
   | none=>rfl
   | some o=>
    have e':bm=a:=hA bm (by rw[q];simp);subst e';rw[ha] at z;cases z;have u':Value.type "list" = Value.type "module" := u
    injection u' with u'
    exact absurd u' ⇑0),u,v⟩⟩
  have hM:Mod K mg (Zsz s₁.heap H):=⟨hKb,nsK hns,⟨mb,nsK hb,hbb⟩,let ⟨mc,h1,h2⟩:=hlim;⟨mc,nsK h1,h2⟩,seerB,let ⟨bm,ob,x1,x2,x3,x4,x5,x6⟩:=hbm;⟨bm,ob,x1,x2,Zed x3 (by
   cases q:H bm with
   | none=>rfl
   | some o=>
    have e':bm=a:=hA bm (by rw[q];simp);subst e';rw[ha] at x3;cases x3;cases x6),x4,x5,x6⟩⟩
  have e0:Env0 P w K mg (Zsz s₁.heap H) callerA [] s₁ H:=⟨rfl,hM,λb o e=>of_hidT e,Jdv (Zrz _ _),trivial,λb hb=>absurd (show b∈([]:List Addr) from hb) (by simp),hok,.of_eq hg⟩
  refine Jeg ((F _ hKb (nsK hns)).run callerA [] s₁ H ⟨[.ref a],[]⟩ [.ref a] [.ref a] _ _ hr e0 (hbind s₁ (.ref a)) (.cons rfl .nil) (hsp H hO hS)) λr s' h=>?_;cases r with
  | error e=>exact (hCX H e s' h).elim
  | ok fl=>
   cases fl with
   | next=>exact False.elim h
   | brk=>exact False.elim h
   | cont=>exact False.elim h
   | ret u=>
    refine xE2_6 h λv H' os bare un hok' r' q=>?_;clear h;have q':v=.bl true:=q;subst q';obtain rfl:u=Value.bool true:=r';refine⟨rfl,OldK.of_keep λb o e=>?_,os,bare⟩;cases q:H b with
    | none=>exact un.keep b o e q (by intro z;exact absurd (show b∈([]:List Addr) from z) (by simp)) (by simp)
    | some u=>
     rcases hO b with z|⟨ob,xs,z⟩
     .rw [q] at z;cases z
     .have z2:=un.frzs b ob _ z;obtain⟨e1,_⟩:=hok b _ z;obtain⟨e2,_⟩:=hok' b _ z2;rw[e] at e1;cases e1;exact e2
 cases hk:K.lookup a with
 | some o=>
  -- the script is one of the module's own objects
  have e:=KX a o hk;rw[ha] at e;cases e;refine core (λ_=>none) (λ_=>.inl rfl) (.inr ⟨_,vs.toArray,_,hk,rfl,rfl,rfl,by rw[Jav,lenV];exact hl,by simpa using rv⟩) (λb u z=>by have z':(none:Option HO)=some u:=z;cases z') (λb z=>absurd rfl z) λz=>absurd rfl z
 | none=>
  refine core (λb=>if b=a then some (.frz { cls:=.type "list",data:=.seq vs.toArray } (.lst (ns.map V.int))) else none) (λb=>?_) (.inl (.inr ⟨{ cls:=.type "list",data:=.seq vs.toArray },if_pos rfl⟩)) (λb u z=>?_) (λb z=>?_) λ_=>hk
  .by_cases hb:b=a
   .exact .inr ⟨_,_,if_pos hb⟩
   .exact .inl (if_neg hb)
  .by_cases hb:b=a
   .have z':=(if_pos hb).symm.trans z;cases z';subst hb;exact⟨ha,by rw[Jaa];exact hl,vs,_,rv,ha⟩
   .have z':=(if_neg hb).symm.trans z;cases z'
  .by_cases hb:b=a
   .exact hb
   .exact absurd (if_neg hb) z
theorem walk_of {l:PySem.W.OpenLaw}{n k:Nat}{q:Program}{loose:List Str}{XP:(Str->Option Value)->Heap->Prop}{YP:World->Heap->Prop}{d:DefRec}{K:Params->Frag}{CX:World->CXT}{sp:World->Sp}{x:Str}(hq:importsNone q=true)(hn:l.most=some n)(hn2:n<=sizeLine)(hdf:d.params.defaults=[])(hr:Room k callerA)(hY:∀ (w:World) (h:Heap),YP w h->(K w.params).In h)(F:∀ (w:World) (mg:Str->Option Value) (fa:Addr) (h:Heap),(K w.params).In h->h.Ns mainGlobals mg->mg d.name=some (.ref fa)->
   ∃ fd:FuncData,(∀ (s:Shared) (u:Value),BindsTo s fd ⟨[u],[]⟩ [(x,u)]) /\
    ∀ base:Heap,(K w.params).In base->base.Ns mainGlobals mg->FnOk l.prog w (K w.params) mg base (CX w) k fa fd [x] (sp w))(hsp:∀ (w:World) (H:Hp) (a:Addr) (ns:List Int),ns.length<=n->Only H->SqL (K w.params) H a (ns.map V.int)->sp w [.ref a] H (λv _=>v=.bl true) λ_ _ _=>False)(hCX:∀ (w:World) (H:Hp) (s:Shared) (e:Value) (s':Shared),CX w [] H s (λ_ _ _=>False) e s'->False):
  PySem.W.WalkO q loose XP YP l.row.toRowW d [] (λf vs=>PySem.call f vs):=by
 refine Att.attach_call hn hdf λw s₀ s₁ mg mb fa o pm cd doc a vs ns G Y ho hd hcd hmg hobj hints hlen hg=>?_;have KX:=hY w _ Y;refine Zae (F w mg fa _ KX G.T.g hmg) λfd hb hF=>?_;exact Zt8 KX G.T.g G.T.b G.T.builtins G.T.nolimit (G.T.seer hq) G.T.bmain hg hobj hints (Ja8 hlen hn2) hr hF hb (λH hO hS=>hsp w H a ns hlen hO hS) λH e s'=>hCX w H s₁ e s'
noncomputable def Zl7 (s:Stmt)(j:Nat):Stmt:=match s with
 | .ClassDef _ _ _ body _ _ _ _ _ _ _=>body.getD j (.Pass ⟨0,0,0,0⟩)
 | _=>.Pass ⟨0,0,0,0⟩
noncomputable def Zfz (s:Stmt):Arguments:=match s with
 | .FunctionDef _ a _ _ _ _ _ _ _ _=>a
 | _=>{ posonlyargs:=[],args:=[],vararg:=none,kwonlyargs:=[],kw_defaults:=[],kwarg:=none,defaults:=[] }
noncomputable def Zec (s:Stmt):List Stmt:=match s with
 | .FunctionDef _ _ b _ _ _ _ _ _ _=>b
 | _=>[]
noncomputable def Zai (s:Stmt):Scope:=match s with
 | .FunctionDef _ _ _ _ _ _ sc _ _ _=>sc
 | _=>{ kind:=.function,names:=[],isGenerator:=false,isCoroutine:=false }
abbrev CX0:CXT:=λ_ _ _ _ _ _=>False
abbrev E0:XK:=λ_ _ _=>False
theorem pass0 {X:Cx}:Zgg CX0 X E0:=λ_ _ _ _ _ _ _ h=>h.elim
structure Fun (K:Frag)(x qual:Str)(st:Stmt)(f:Addr)(fd:FuncData):Prop where
 ex:∃ (oc:Value) (od:Option Addr) (kV doc pm:Value) (an:Option Addr) (cdv ct:Value) (osl:Array (Option Value)),
  fd=PySem.W.fnOf x qual (Zfz st) (Zec st) (Zai st) .none kV doc pm an cdv ct/\K.lookup f=some ⟨oc,od,.func fd,osl⟩/\PySem.W.codeIn K cdv qual=true
 kp:PySem.W.keepIn K (.ref f)=true
section
theorem Fun.ok {x qual:Str}{st:Stmt}{f:Addr}{fd:FuncData}{N ps:List Str}{k:Nat}{sp:Sp}(F:Fun K x qual st f fd)(S:FnScope N ps (Zai st))(len:∀ vs H Q E,sp vs H Q E->vs.length=ps.length)(hbody:∀ (cdv:Value) (A:Around) (outer:List Env) (s:Shared) (H:Hp) (vs:List V) (Q:VK) (E:XK),Room k (A.deeper (envOfC qual (Zai st) s.heap.objs.size f cdv))->sp vs H Q E->
   ∃ t,PSs (Zmb CX0 P w K mg base N qual (Zai st) f cdv A outer s H E).nox (Zec st) t/\t { nx:=λ_ H'=>Q .non H',rt:=Q } (start N vs) H):FnOk P w K mg base CX0 (k+1) f fd ps sp:=by
 refine xE9_3 F.ex λoc od kV doc pm an cdv ct osl e9171 lk hcd=>?_;obtain rfl:=e9171;refine fn_of lk hcd S len λA outer s H vs Q E hr hsp=>?_;refine Zae (hbody cdv A outer s H vs Q E hr hsp) λt h q=>?_;exact⟨t,h.nox,q⟩
theorem Fun.binds {x qual:Str}{st:Stmt}{f:Addr}{fd:FuncData}{ps:List Str}(F:Fun K x qual st f fd)(h:∀ (kV doc pm:Value) (an:Option Addr) (cdv ct:Value) (us:List Value),us.length=ps.length->bindArgs (PySem.W.fnOf x qual (Zfz st) (Zec st) (Zai st) .none kV doc pm an cdv ct) ⟨us,[]⟩=pure (ps.zip us)):Binds K fd ps []:=by
 refine xE9_3 F.ex λoc od kV doc pm an cdv ct osl e9172 lk hcd=>?_;obtain rfl:=e9172;exact .all (h kV doc pm an cdv ct)
theorem fun_mk {x qual:Str}{st:Stmt}{f:Addr}{oc:Value}{od an:Option Addr}{osl:Array (Option Value)}{kV doc pm cdv ct:Value}(l:K.lookup f=some ⟨oc,od,.func (PySem.W.fnOf x qual (Zfz st) (Zec st) (Zai st) .none kV doc pm an cdv ct),osl⟩)(c:PySem.W.codeIn K cdv qual=true)(k:PySem.W.keepIn K (.ref f)=true):Fun K x qual st f (PySem.W.fnOf x qual (Zfz st) (Zec st) (Zai st) .none kV doc pm an cdv ct):=⟨⟨oc,od,kV,doc,pm,an,cdv,ct,osl,rfl,l,c⟩,k⟩
end
theorem Zah {n:Nat}(h:n<=1000):n<sizeLine:=Jfk h ⇑0
section
variable {X:Cx}
theorem pv (i:Nat){x:Str}{pos:Pos}(hN:X.N[i]?=some x:=by rfl)(hv:Vis X.env.scope x:=by walk_at "h")(hd:(x == ("__debug__" : Str))=false:=by decide)(hcd:(x == ("__classdict__" : Str))=false:=by decide):PE X (.Name x pos) (Zgq i):=pe_var hN hv hd hcd
end
theorem iteF {A B:Prop}(h:B):if false=true then A else B:=by
 rw[if_neg Ja7];exact h
theorem iteT {A B:Prop}(h:A):if true=true then A else B:=by
 rw[if_pos rfl];exact h
theorem Zc8 {c A B:Prop}[Decidable c](h1:c->A)(h2:¬ c->B):if c then A else B:=by
 by_cases h:c
 .rw [if_pos h];exact h1 h
 .rw [if_neg h];exact h2 h
def Same (H H':Hp):Prop:=∀ b o,H b=some o->H' b=some o
theorem Same.refl (H:Hp):Same H H:=λ_ _ h=>h
theorem Same.trans {H H1 H2:Hp}(a:Same H H1)(b:Same H1 H2):Same H H2:=λc o h=>b c o (a c o h)
theorem Same.free {H H':Hp}(e:Same H H'){l:Addr}(h:H' l=Option.none):H l=Option.none:=by
 cases q:H l with
 | none=>rfl
 | some o=>
  rw[e l o q] at h;cases h
theorem Same.seq {K:Frag}{H H':Hp}{a:Addr}{xs:List V}(e:Same H H')(h:SqL K H a xs):SqL K H' a xs:=by
 rcases h with (h|⟨o,h⟩)|h
 .exact .inl (.inl (e _ _ h))
 .exact .inl (.inr ⟨o,e _ _ h⟩)
 .exact .inr h
theorem Zut {x:Str}{c:Addr}:∀ (names:List (Str×NameKind)) (n:Nat) (acc:List (Str×Addr)),(cellsFrom n names acc).lookup x=some c->n<=c\/acc.lookup x=some c
 | [],_,_,h=>.inr h
 | (y,k)::r,n,acc,h=>by
  unfold cellsFrom at h;split at h
  .rcases Zut r (n+1) _ h with z|z
   .exact .inl (Jdy z)
   .rw [Jbs] at z;cases e:x == y with
    | true=>rw[e] at z;cases z;exact .inl (Jaf _)
    | false=>rw[e] at z;exact .inr z
  .exact Zut r n acc h
theorem Zsq {x:Str}{c:Addr}:∀ (names:List (Str×NameKind)) (n:Nat) (acc:List (Str×Addr)),(x,NameKind.cell)∈names->(cellsFrom n names acc).lookup x=some c->n<=c
 | [],_,_,m,_=>nomatch m
 | (y,k)::r,n,acc,m,h=>by
  unfold cellsFrom at h;split at h
  .by_cases m':(x,NameKind.cell)∈r
   .exact Jdy (Zsq r (n+1) _ m' h)
   .have e:(x,NameKind.cell)=(y,k):=(Jao.mp m).resolve_right m';cases e;rcases Zut r (n+1) _ h with z|z
    .exact Jdy z
    .rw [Jbs,Jds] at z;cases z;exact Jaf _
  .rename_i hk
   have m':(x,NameKind.cell)∈r:=by
    rcases Jao.mp m with e|m'
    .cases e;exact absurd rfl hk
    .exact m'
   exact Zsq r n acc m' h
theorem Zsr {x:Str}:∀ {names:List (Str×NameKind)} {n:Nat} {acc:List (Str×Addr)},(x,NameKind.cell)∉names->(cellsFrom n names acc).lookup x=acc.lookup x
 | [],_,_,_=>rfl
 | (y,k)::r,n,acc,h=>by
  unfold cellsFrom;have hr:(x,NameKind.cell)∉r:=λm=>h (Jbd _ m);split
  .rename_i hk
   have hy:(x == y)=false:=by
    cases e:x == y with
    | false=>rfl
    | true=>
     exfalso;refine h ?_;rw[Jcj.mp e,Jcj.mp hk];exact Jb4
   rw[Zsr hr,Jbs,hy]
  .exact Zsr hr
theorem Zss:∀ (names:List (Str×NameKind)) (n:Nat) (acc:List (Str×Addr)),(∀ x c,acc.lookup x=some c->c<n)->(∀ x y c,acc.lookup x=some c->acc.lookup y=some c->x=y)->
  ∀ x y c,(cellsFrom n names acc).lookup x=some c->(cellsFrom n names acc).lookup y=some c->x=y
 | [],_,_,_,hi=>hi
 | (z,k)::r,n,acc,hl,hi=>by
  unfold cellsFrom;split
  .refine Zss r (n+1) _ (λx c h=>?_) (λx y c h1 h2=>?_)
   .rw [Jbs] at h;cases e:x == z with
    | true=>rw[e] at h;cases h;exact Jej _
    | false=>rw[e] at h;exact Jce (hl x c h)
   .rw [Jbs] at h1 h2;cases e1:x == z with
    | true=>
     rw[e1] at h1;cases h1;cases e2:y == z with
     | true=>rw[Jcj.mp e1,Jcj.mp e2]
     | false=>rw[e2] at h2;exact absurd (hl y _ h2) (Jch _)
    | false=>
     rw[e1] at h1;cases e2:y == z with
     | true=>rw[e2] at h2;cases h2;exact absurd (hl x _ h1) (Jch _)
     | false=>rw[e2] at h2;exact hi x y c h1 h2
  .exact Zss r n acc hl hi
theorem Zmi {x:Str}{c:Addr}:∀ (names:List (Str×NameKind)) (h:Heap) (acc:List (Str×Addr)),(cellsFrom h.objs.size names acc).lookup x=some c->(pushCells h names).IsCell c none\/acc.lookup x=some c
 | [],_,_,z=>.inr z
 | (y,k)::r,h,acc,z=>by
  unfold cellsFrom at z;unfold pushCells;split at z
  .rename_i hk
   rw[if_pos hk];have z':(cellsFrom (h.push { cls:=.type "cell",data:=.cell none }).objs.size r ((y,h.objs.size)::acc)).lookup x=some c:=by rw[Jcs];exact z
   rcases Zmi r _ _ z' with q|q
   .exact .inl q
   .rw [Jbs] at q;cases e:x == y with
    | true=>
     rw[e] at q;cases q;exact .inl ⟨_,pushCells_keeps _ _ _ _ (Ja1 _ rfl),rfl⟩
    | false=>rw[e] at q;exact .inr q
  .rename_i hk
   rw[if_neg hk];exact Zmi r h acc z
theorem Zmh {env:Env}(f:Str×NameKind->List (Str×Addr)->Sem (ForInStep (List (Str×Addr))))(hf:∀ name kind cs,f (name,kind) cs=if kind == .free then (do let a <- cellOf env name;pure (.yield ((name,a)::cs))) else pure (.yield cs)):
  ∀ (names:List (Str×NameKind)) (acc:List (Str×Addr)),(∀ y∈names,y.2=.free->∃ c,env.cells.lookup y.1=some c)->(∀ x c,acc.lookup x=some c->env.cells.lookup x=some c)->
  ∃ cl,forIn names acc f=pure cl/\(∀ x c,cl.lookup x=some c->env.cells.lookup x=some c)/\(∀ y∈names,y.2=.free->∃ c,cl.lookup y.1=some c)/\∀ x c,acc.lookup x=some c->∃ c',cl.lookup x=some c'
 | [],acc,_,ha=>⟨acc,rfl,ha,(λ_ m=>nomatch m),λx c e=>⟨c,e⟩⟩
 | (y,k)::r,acc,h,ha=>by
  rw[List.forIn_cons,hf];have hr:∀ y∈r,y.2=NameKind.free->∃ c,env.cells.lookup y.1=some c:=λz m=>h z (Jbd _ m);by_cases hk:(k == NameKind.free)=true
  .obtain ⟨c,hc⟩:=h (y,k) Jb4 (Jcj.mp hk);have e:cellOf env y=pure c:=by unfold cellOf;rw[hc]
   rw[if_pos hk,e,pure_bind,pure_bind];have ha':∀ x d,((y,c)::acc).lookup x=some d->env.cells.lookup x=some d:=λx d e=>by
    rw[Jbs] at e;cases e1:x == y with
    | true=>rw[e1] at e;cases e;rw[Jcj.mp e1];exact hc
    | false=>rw[e1] at e;exact ha x d e
   refine Zla (Zmh f hf r ((y,c)::acc) hr ha') λcl q1 q2 q3 q4=>?_;refine⟨cl,q1,q2,λz m hz=>?_,λx d e=>?_⟩
   .rcases Jao.mp m with e|m
    .subst e;exact q4 y c (by rw[Jbs,Jds])
    .exact q3 z m hz
   .by_cases e1:(x == y)=true
    .exact q4 x c (by rw[Jbs,e1])
    .exact q4 x d (by rw[Jbs];simp only[e1];exact e)
  .rw [if_neg hk,pure_bind];refine Zla (Zmh f hf r acc hr ha) λcl q1 q2 q3 q4=>?_;refine⟨cl,q1,q2,λz m hz=>?_,q4⟩;rcases Jao.mp m with e|m
   .subst e;exact absurd (Jcj.mpr hz) hk
   .exact q3 z m hz
theorem Zjq {scope:Scope}{env:Env}(h:∀ y∈scope.names,y.2=.free->∃ c,env.cells.lookup y.1=some c):
  ∃ cl,closureFor scope env=pure cl/\(∀ x c,cl.lookup x=some c->env.cells.lookup x=some c)/\∀ y∈scope.names,y.2=.free->∃ c,cl.lookup y.1=some c:=by
 obtain⟨cl,q1,q2,q3,_⟩:=Zmh (env:=env) (λx cs=>if x.2 == .free then (do let a <- cellOf env x.1;pure (.yield ((x.1,a)::cs))) else pure (.yield cs)) (λ_ _ _=>rfl) scope.names [] h (λ_ _ e=>nomatch e);refine⟨cl,?_,q2,q3⟩;unfold closureFor;have e:(λ(x:Str×NameKind) (r:List (Str×Addr))=>(match x with
   | (name,kind)=>if (kind == NameKind.free)=true then (do let __do_lift <- cellOf env name;pure (ForInStep.yield ((name,__do_lift)::r))) else pure (ForInStep.yield r):Sem (ForInStep (List (Str×Addr))))) =
   λx cs=>if x.2 == .free then (do let a <- cellOf env x.1;pure (.yield ((x.1,a)::cs))) else pure (.yield cs):=by
  funext x cs
  rfl
 have q:(forIn scope.names ([]:List (Str×Addr)) λ(x:Str×NameKind) (r:List (Str×Addr))=>(match x with
   | (name,kind)=>if (kind == NameKind.free)=true then (do let __do_lift <- cellOf env name;pure (ForInStep.yield ((name,__do_lift)::r))) else pure (ForInStep.yield r):Sem (ForInStep (List (Str×Addr)))))=pure cl:=by
  rw[e];exact q1
 simpa using q
theorem Zea {M:Model}{A:Around}{E:Value->Shared->Prop}{s:Shared}{scope:Scope}{globals:Addr}{cl:List (Str×Addr)}{qual:Str}{env:Env}{Q:Env->Shared->Prop}(hQ:∀ h',h'.Ns s.heap.objs.size (λ_=>none)->(∀ b o,s.heap.get? b=some o->h'.get? b=some o)->
   (∀ x c,(cellsFrom (s.heap.objs.size+1) scope.names cl).lookup x=some c->h'.IsCell c none\/cl.lookup x=some c)->
   Q { scope,locals:=s.heap.objs.size,globals,cells:=cellsFrom (s.heap.objs.size+1) scope.names cl,qual,func:=none,code:=env.code,frame:=env.frame,builtins:=env.builtins } { s with heap:=h' }):
  wpAny M A (newFunctionEnv scope globals cl [] qual none .none (some env)) Q E s:=by
 simp only[newFunctionEnv,Option.isSome_some,Jdk];refine Jab (wpAny_alloc ?_);refine Jab (wpAny_layCells _ (λname kind cells=>by cases hkc:kind == NameKind.cell <;> simp[hkc]) _ _ _ _ ?_);have hsz:(s.heap.push { cls:=.type "dict",data:=.dict #[] }).objs.size=s.heap.objs.size+1:=Jcs ..;have q:=hQ (pushCells (s.heap.push { cls:=.type "dict",data:=.dict #[] }) scope.names) ((Heap.Ns.new s.heap (.type "dict")).keeps (pushCells_keeps _ _)) (λb o e=>pushCells_keeps _ _ b o (Jad _ e))
  (λx c e=>Zmi scope.names (s.heap.push { cls:=.type "dict",data:=.dict #[] }) cl (by rw[hsz];exact e))
 show wpAny _ _ _ _ _ _;rw[show ({ s with heap:=s.heap.push { cls:=.type "dict",data:=.dict #[] } }:Shared).heap.objs.size=s.heap.objs.size+1 from hsz];exact Jab (Jae (Jae q))
theorem Zf8 {env:Env}{x:Str}:∀ {names:List (Str×NameKind)},names.lookup x=some .free->
  (names.map λ(n,k)=>if (k == NameKind.free && env.scope.kind == .function && env.kindOf n == some .cell) then (n,NameKind.cell) else (n,k)).lookup x=some .cell \/
  (names.map λ(n,k)=>if (k == NameKind.free && env.scope.kind == .function && env.kindOf n == some .cell) then (n,NameKind.cell) else (n,k)).lookup x=some .free
 | [],h=>by simp at h
 | (n,k)::r,h=>by
  have ih:=@Zf8 env x r;show List.lookup x ((if (k == NameKind.free && env.scope.kind == .function && env.kindOf n == some .cell)=true then (n,NameKind.cell) else (n,k))::_)=_\/List.lookup x ((if (k == NameKind.free && env.scope.kind == .function && env.kindOf n == some .cell)=true then (n,NameKind.cell) else (n,k))::_)=_;cases hx:x == n with
  | true=>
   simp only[Jbs,hx] at h;cases h;split <;> simp[Jbs,hx]
  | false=>
   simp only[Jbs,hx] at h;split <;> (simp only[Jbs,hx];exact ih h)
theorem Zd7 {env:Env}{x:Str}{kd:NameKind}:∀ {names:List (Str×NameKind)},
  (names.map λ(n,k)=>if (k == NameKind.free && env.scope.kind == .function && env.kindOf n == some .cell) then (n,NameKind.cell) else (n,k)).lookup x=some kd->
  names.lookup x=some kd\/names.lookup x=some .free
 | [],h=>by simp at h
 | (n,k)::r,h=>by
  have ih:=@Zd7 env x kd r;have h':List.lookup x ((if (k == NameKind.free && env.scope.kind == .function && env.kindOf n == some .cell)=true then (n,NameKind.cell) else (n,k))::(r.map λ(n,k)=>if (k == NameKind.free && env.scope.kind == .function && env.kindOf n == some .cell) then (n,NameKind.cell) else (n,k)))=some kd:=h;cases hx:x == n with
  | true=>
   by_cases hc:(k == NameKind.free && env.scope.kind == .function && env.kindOf n == some .cell)=true
   .have hk:k=.free:=by
     have:=(Jbv _ _ ▸ (Jbv _ _ ▸ hc).1).1;exact Jcj.mp this
    subst hk;exact .inr (by simp[Jbs,hx])
   .rw [if_neg hc] at h';simp only[Jbs,hx] at h';cases h';exact .inl (by simp[Jbs,hx])
  | false=>
   have h2:List.lookup x (r.map λ(n,k)=>if (k == NameKind.free && env.scope.kind == .function && env.kindOf n == some .cell) then (n,NameKind.cell) else (n,k))=some kd:=by
    split at h' <;> simpa only [Jbs,hx] using h'
   rcases ih h2 with z|z
   .exact .inl (by simp only[Jbs,hx];exact z)
   .exact .inr (by simp only[Jbs,hx];exact z)
noncomputable def Zb6 (X:Cx)(N:List Str)(scope:Scope)(cl:List (Str×Addr))(s:Shared)(H:Hp)(fp:List Addr):Cx where
 prog:=X.prog
 w:=X.w
 K:=X.K
 mg:=X.mg
 base:=X.base
 A:=X.A
 N:=N
 s₀:=s
 H₀:=H
 env:={ scope:=relabel scope X.env,locals:=s.heap.objs.size,globals:=X.env.globals,cells:=cellsFrom (s.heap.objs.size+1) scope.names cl,qual:=X.env.qual,func:=none,code:=X.env.code,frame:=X.env.frame,builtins:=X.env.builtins }
 outer:=X.stack
 stack:=X.stack
 ex:=fp
 fn:=λx=>scope.names.lookup x == some .cell
 calm:=X.calm
 pn:=[]
 xe:=λ_ _=>False
structure BlScope (X:Cx)(scope:Scope)(own:List Str)(fr:List (Str×Nat)):Prop where
 kind:scope.kind=.function
 free:∀ y∈scope.names,y.2=.free->X.env.scope.names.lookup y.1=some .cell\/X.env.scope.names.lookup y.1=some .free
 loc:∀ y∈scope.names,y.2=.local->scope.names.lookup y.1=some .local
 look:∀ y∈scope.names,scope.names.lookup y.1=some y.2
 cap:∀ y∈fr,scope.names.lookup y.1=some .free/\X.N[y.2]?=some y.1
noncomputable def Zfe (k:Nat)(fr:List (Str×Nat))(σ:St):St:=List.replicate k none++fr.map λy=>(σ[y.2]?).getD none
noncomputable def Zb1 (own:List Str)(fr:List (Str×Nat)):List Str:=own++fr.map (·.1)
section
variable {X:Cx}{pins:List (Addr×Obj)}{σ:St}{H:Hp}{s:Shared}
theorem Zhv {scope:Scope}{own:List Str}{fr:List (Str×Nat)}{cl:List (Str×Addr)}{fp:List Addr}{h':Heap}(I:Inv X pins σ H s)(B:BlScope X scope own fr)(hcl:∀ x c,cl.lookup x=some c->X.env.cells.lookup x=some c)(hcl2:∀ y∈scope.names,y.2=.free->∃ c,cl.lookup y.1=some c)(hfp:∀ b∈fp,Zk5 X pins H b)(hfo:∀ b∈fp,∃ o,s.heap.get? b=some o)(hn:h'.Ns s.heap.objs.size (λ_=>none))(hk:∀ b o,s.heap.get? b=some o->h'.get? b=some o)(hc:∀ x c,(cellsFrom (s.heap.objs.size+1) scope.names cl).lookup x=some c->h'.IsCell c none\/cl.lookup x=some c):
  Inv (Zb6 X (Zb1 own fr) scope cl s H fp) [] (Zfe own.length fr σ) H { s with heap:=h' }:=by
 have clt:∀ x c,cl.lookup x=some c->c<s.heap.objs.size:=λx c e=>by
  obtain⟨v,z⟩:=I.cell x c (hcl x c e);exact z.lt
 have ownC:∀ x c,(cellsFrom (s.heap.objs.size+1) scope.names cl).lookup x=some c->s.heap.objs.size+1<=c\/cl.lookup x=some c:=λx c e=>Zut _ _ _ e;have bsz:X.base.objs.size<=s.heap.objs.size:=Ja8 I.ok.bsz I.sz;refine⟨⟨I.ok.mod,B.kind,I.ok.glob,I.ok.blt,Jaf _,?_,?_,?_,I.ok.hd,I.ok.frames,.inl rfl,?_,I.bs,bsz,?_,?_,I.stack,I.stkFree,I.ok.top⟩,rfl,I.bare,Un.kept hk,⟨_,hn,?_⟩,?_,I.hok.fresh (Jaf _),?_,?_,I.hok.kept hk,?_⟩
 .exact Zss _ _ _ (λx c e=>Jce (clt x c e)) λx y c e1 e2=>I.ok.inj x y c (hcl x c e1) (hcl y c e2)
 .intro x hx;have hx:(relabel scope X.env).names.lookup x=some .cell\/(relabel scope X.env).names.lookup x=some .free:=hx;have q:scope.names.lookup x=some .cell\/scope.names.lookup x=some .free:=by
   rcases hx with z|z
   .exact Zd7 z
   .exact (Zd7 z).elim .inr .inr
  refine Jed.mp (Jeo scope.names _ _ ?_);rcases q with z|z
  .exact .inl z
  .obtain ⟨c,e⟩:=hcl2 _ (Jcz z) rfl;exact .inr (by rw[e];rfl)
 .intro x c hf e;have hf:(scope.names.lookup x == some .cell)=true:=hf;exact Jdy (Zsq _ _ _ (Jcz (Jcj.mp hf)) e)
 .intro b hb;obtain⟨o,ho⟩:=hfo b hb;refine⟨Ja6 (Jar ho),λx c e=>?_⟩;rcases ownC x c e with z|z
  .intro q;subst q;exact absurd (Jbr (Jar ho) (Jdy z)) (Jch _)
  .exact (hfp b hb).2.2.2.2.1 x c (hcl x c z)
 .intro b o e hb;rcases (hfp b hb).2.2.2.1 with z|z
  .exact I.ok.noex b o e z
  .exact absurd (Jbr (Jar e) (Ja8 I.ok.bsz z)) (Jch _)
 .intro b hb z;rcases Jao.mp (I.stkSub b z) with q|q
  .exact (hfp b hb).2.1 q
  .exact (hfp b hb).2.2.1 q
 .intro i x v h1 h2 h3;have h1:(Zb1 own fr)[i]?=some x:=h1;unfold Zb1 at h1;unfold Zfe at h2;by_cases hi:i<own.length
  .rw [Jba (by rw[Jbt];exact hi),Jc2,if_pos hi] at h2;cases h2
  .have hi':own.length<=i:=Jgc hi;rw[Jbc hi',Jay] at h1;rw[Jbc (by rw[Jbt];exact hi'),Jbt,Jay] at h2;cases e:fr[i-own.length]? with
   | none=>rw[e] at h1;cases h1
   | some y=>
    rw[e] at h1 h2;have hy1:y.1=x:=Jbn h1;have hy2:(σ[y.2]?).getD none=some v:=Jbn h2;obtain⟨c1,c2⟩:=B.cap y (Jai e);rw[hy1] at c1 c2;have hs:σ[y.2]?=some (some v):=by
     cases e2:σ[y.2]? with
     | none=>rw[e2] at hy2;cases hy2
     | some o=>rw[e2] at hy2;cases o with
      | none=>cases hy2
      | some w=>cases hy2;rfl
    refine Zae I.loc λm hm hl=>?_;have hfree:=B.free _ (Jcz c1) rfl;refine Zae (hl y.2 x v c2 hs (hfree.elim (λz=>.inr (.inl z)) λz=>.inr (.inr z))) λu r l=>?_;refine⟨u,r,?_⟩;obtain⟨k,c,e3,z⟩:(X.env.kindOf x=some .cell\/X.env.kindOf x=some .free)/\∃ c,X.env.cells.lookup x=some c/\s.heap.IsCell c (some u):=by
     rcases l with ⟨k,_⟩|q
     .have k:X.env.scope.names.lookup x=some .local:=k;rcases hfree with z|z <;> (rw[z] at k;cases k)
     .exact q
    obtain⟨d,hd⟩:=hcl2 _ (Jcz c1) rfl;have hd':=hcl x d hd;rw[e3] at hd';cases hd';obtain⟨c',hc'⟩:∃ c',(cellsFrom (s.heap.objs.size+1) scope.names cl).lookup x=some c':=Jed.mp (Jeo scope.names _ _ (.inr (by rw[hd];rfl)));have hcc:c'=c:=by
     rcases ownC x c' hc' with q|q
     .-- an own cell of that name: it is free,so no
      exfalso;have:(x,NameKind.cell)∉scope.names:=λm=>by
       have:=B.look _ m;rw[c1] at this;cases this
      exact absurd hc' (by
       rw[Zsr this];intro z;rw[hd] at z;cases z;exact absurd (clt x _ hd) (Nat.not_lt.mpr (Jdy q)))
     .rw [hd] at q;cases q;rfl
    subst hcc;refine .inr ⟨?_,c',hc',z.keeps hk⟩;exact Zf8 c1
 .intro x c e;rcases hc x c e with z|z
  .exact ⟨_,z⟩
  .obtain ⟨v,q⟩:=I.cell x c (hcl x c z);exact⟨v,q.keeps hk⟩
 .intro x c e;rcases ownC x c e with z|z
  .exact I.hok.fresh (Jdy z)
  .exact I.freeC x c (hcl x c z)
 .intro p hp;exact absurd (show p∈([]:List (Addr×Obj)) from hp) (by simp)
 .show (Zfe _ _ _).length=(Zb1 _ _).length;unfold Zfe Zb1;simp
end
def PTs (X:Cx)(ifs:List Expr)(t:TT):Prop:=
 ∀ (pins:List (Addr×Obj)) (s:Shared) (σ:St) (H:Hp) (Q:Bool->Hp->Prop),Inv X pins σ H s->t σ H Q->
  wpAny (model X.prog X.w) X.A (forIn ifs true λc r=>if r=true then do let ok <- isTrue c X.env (eval c X.env);pure (ForInStep.yield ok) else pure (ForInStep.yield r)) (TP X pins σ Q) X.xe s
def Zgi:TT:=λ_ H Q=>Q true H
theorem Za5 {X:Cx}:PTs X [] Zgi:=λpins s σ H Q I h=>wpAny_tests_nil ⟨H,I,h⟩
theorem Zcx {X:Cx}{c:Expr}{t:TT}(hc:PT X c t):PTs X [c] t:=λpins s σ H Q I h=>wpAny_tests_one (hc pins s σ H Q I h)
section
variable {prog:Program}{w:World}{A:Around}{R:Result->Shared->Prop}{s:Shared}
theorem Zks {elt target iter:Expr}{ifs:List Expr}{scope:Scope}{pos:Pos}{it acc:Value}{env:Env}(I:Nat->Shared->Prop)(turn:∀ n s,I n s->wpAny (model prog w) A (pyNext it) (λr s₁=>match r with
   | none=>R (.ok .next) s₁
   | some v=>wpAny (model prog w) A (letOwnedTupleGo target it v) (λ_ s₁=>wpAny (model prog w) A (assign target env v) (λ_ s₂=>
     wpAny (model prog w) A (forIn ifs true λc r=>if r=true then do let ok <- isTrue c env (eval c env);pure (ForInStep.yield ok) else pure (ForInStep.yield r)) (λok s₃=>
      if ok=true then wpAny (model prog w) A (eval elt env) (λx s₄=>
       wpAny (model prog w) A (call (.builtin "list.append") [acc,x]) (λ_ s₅=>∃ m,m<n/\I m s₅) (λ_ _=>False) s₄) (λ_ _=>False) s₃
      else ∃ m,m<n/\I m s₃) (λ_ _=>False) s₂) (λ_ _=>False) s₁) (λ_ _=>False) s₁) (λ_ _=>False) s)(n:Nat)(h:I n s):
  codeAny (model prog w) A (.compLoop (.ListComp elt [⟨target,iter,ifs,0⟩] scope pos) 0 it acc env) R s:=by
 refine codeAny_loop rfl I (λn s hI=>?_) n h;show wpAny _ A ((compTurn (.ListComp elt [⟨target,iter,ifs,0⟩] scope pos) 0 it acc env).onRaise (λx=>do noteFrame x env;theTreesLotGoes x)) _ _ s;refine wpAny_noted ?_;rw[compTurn_list];refine Jab (Jdo (Jab (Jbw (turn n s hI) (λr s₁ h₁=>?_) λ_ _ h'=>h'.elim)));cases r with
 | none=>exact Jae h₁
 | some v=>
  refine Jab (Jbw h₁ (λ_ s₁' h₁'=>?_) λ_ _ h'=>h'.elim);refine Jab (Jbw h₁' (λ_ s₂ h₂=>Jab (Jbw h₂ (λok s₃ h₃=>?_) λ_ _ h'=>h'.elim)) λ_ _ h'=>h'.elim);cases ok with
  | false=>exact Jae ⟨rfl,h₃⟩
  | true=>
   exact Jab (Jab (Jbw h₃ (λx s₄ h₄=>Jab (Jbw h₄ (λ_ s₅ h₅=>Jae (Jae ⟨rfl,h₅⟩)) λ_ _ h'=>h'.elim)) λ_ _ h'=>h'.elim))
end
def Zb4 (g:TG)(tt:TT)(te:TE)(J:It)(D:Addr)(σ0:St)(H1:Hp)(Q:VK):Prop:=
 ∃ W:Nat->Nat->St->Hp->Prop,(∃ m,W 0 m σ0 (upd H1 D (.lst [])))/\∀ i m σ' H2,W i m σ' H2->
  (J.stop i H2/\Q (.ref D) H2)\/(J.go i H2/\∀ x H3,J.yld i H2 x H3->g x σ' H3 λσ4 H4=>tt σ4 H4 λb H5=>
   if b=true then te σ4 H5 λy H6=>∃ vs,H6 D=some (.lst vs)/\vs.length<sizeLine/\∃ m',m'<m/\W (i+1) m' σ4 (upd H6 D (.lst (vs++[y])))
   else ∃ m',m'<m/\W (i+1) m' σ4 H5)
def Zgj (k:Nat)(fr:List (Str×Nat))(wi:TI)(g:TG)(tt:TT)(te:TE):TE:=λσ H Q=>wi σ H λJ H1=>∀ D,H1 D=none->Zb4 g tt te J D (Zfe k fr σ) H1 Q
section
variable {X:Cx}{tg iter elt:Expr}{ifs:List Expr}{scope:Scope}{pos:Pos}{own:List Str}{fr:List (Str×Nat)}{wi:TI}{g:TG}{tt:TT}{te:TE}
theorem Zny {pins:List (Addr×Obj)}{s2:Shared}{σ:St}{H2:Hp}{it:Addr}{fp:List Addr}{tn:Nat->Heap->Prop}{J:It}{Q:VK}{cl:List (Str×Addr)}{RR:Value->Addr->Result->Shared->Prop}{E:Value->Shared->Prop}(hc:X.calm=true)(B:BlScope X scope own fr)(hb:∀ cl s H fp,PG (Zb6 X (Zb1 own fr) scope cl s H fp) tg g/\PTs (Zb6 X (Zb1 own fr) scope cl s H fp) ifs tt/\PE (Zb6 X (Zb1 own fr) scope cl s H fp) elt te)(hcl:∀ x c,cl.lookup x=some c->X.env.cells.lookup x=some c)(hcl2:∀ y∈scope.names,y.2=.free->∃ c,cl.lookup y.1=some c)(I2:Inv X pins σ H2 s2)(T:Turn X.prog X.w X.K tg J fp it tn)(st2:tn 0 s2.heap)(f2:∀ b∈fp,Zk5 X pins H2 b)(q:∀ D,H2 D=none->Zb4 g tt te J D (Zfe own.length fr σ) H2 Q)(hRR:∀ D C s' H',Inv X pins σ H' s'->Q (.ref D) H'->(∃ m,s'.heap.Ns C m)->C≠X.env.locals->(∀ x c,X.env.cells.lookup x=some c->c≠C)->(∀ p∈X.pn++pins,p.1≠C)->X.s₀.heap.objs.size<=C->H' C=none->RR (.ref D) C (.ok .next) s'):
  wpAny (model X.prog X.w) X.A (newList []) (λacc s₃=>wpAny (model X.prog X.w) X.A (newFunctionEnv scope X.env.globals cl [] X.env.qual none .none (some X.env)) (λcenv s₄=>
   codeAny (model X.prog X.w) X.A (.compStart (.ListComp elt [⟨tg,iter,ifs,0⟩] scope pos) 0 (.ref it) acc { cenv with scope:=relabel scope X.env }) (RR acc cenv.locals) s₄) E s₃) E s2:=by
 refine Jdb ?_;have fr0:H2 s2.heap.objs.size=none:=I2.hok.fresh (Jaf _);have I3:=I2.lnew (its:=[]) (ys:=[]) (t':=s2.toks) .nil (Jbp _);generalize hs3:({ s2 with heap:=s2.heap.push { cls:=.type "list",data:=.seq ([]:List Value).toArray } }:Shared)=s3 at *;have k23:∀ b o,s2.heap.get? b=some o->s3.heap.get? b=some o:=λb o e=>by rw[<- hs3];exact Jad _ e
 have sz3:s3.heap.objs.size=s2.heap.objs.size+1:=by rw[<- hs3];exact Jcs ..
 have I3':Inv X pins σ (upd H2 s2.heap.objs.size (.lst [])) s3:=I3;have fne:∀ b∈fp,b≠s2.heap.objs.size:=λb hb z=>by
  refine Zae (T.obj 0 _ st2 b hb) λo ho _=>?_;exact absurd (Jar ho) (by rw[z];exact Jch _)
 have f3:∀ b∈fp,Zk5 X pins (upd H2 s2.heap.objs.size (.lst [])) b:=λb hb=>⟨by rw[Zag (fne b hb)];exact (f2 b hb).1,(f2 b hb).2⟩
 have st3:tn 0 s3.heap:=T.keep 0 _ _ st2 λb _ o e=>k23 b o e;have hfo:∀ b∈fp,∃ o,s3.heap.get? b=some o:=λb hb=>let ⟨o,ho,_⟩:=T.obj 0 _ st3 b hb;⟨o,ho⟩;refine Zea λh' hn hk hce=>?_;have I4:=Zhv (own:=own) I3' B hcl hcl2 f3 hfo hn hk hce;refine Zap (hb cl s3 (upd H2 s2.heap.objs.size (.lst [])) fp) λhg ht he=>?_;have st4:tn 0 h':=T.keep 0 _ _ st3 λb _ o e=>hk b o e;have stat:∀ {H':Hp},(∀ b∈fp,H' b=none)->∀ b∈fp,Zk5 (Zb6 X (Zb1 own fr) scope cl s3 (upd H2 s2.heap.objs.size (.lst [])) fp) [] H' b:=λ{H'} hnn b hb=>
  ⟨hnn b hb,(I4.ok.exf b hb).1,I4.ok.exfs b hb,.inl hb,(I4.ok.exf b hb).2,λp hp=>absurd (show p∈([]:List (Addr×Obj)) from hp) (by simp)⟩
 refine Zae (q s2.heap.objs.size fr0) λW e92 turn=>?_;obtain⟨m0,w0⟩:=e92;have loop:codeAny (model X.prog X.w) X.A (.compLoop (.ListComp elt [⟨tg,iter,ifs,0⟩] scope pos) 0 (.ref it) (.ref s2.heap.objs.size) (Zb6 X (Zb1 own fr) scope cl s3 (upd H2 s2.heap.objs.size (.lst [])) fp).env)
   (RR (.ref s2.heap.objs.size) s3.heap.objs.size) { s3 with heap:=h' }:=by
  refine Zks (λn s'=>∃ i σ' H',Inv (Zb6 X (Zb1 own fr) scope cl s3 (upd H2 s2.heap.objs.size (.lst [])) fp) [] σ' H' s'/\tn i s'.heap/\(∀ b∈fp,H' b=none)/\W i n σ' H') ?_ m0
   ⟨0,_,_,I4,st4,λb hb=>(f3 b hb).1,w0⟩
  intro n s5 e91;refine Zck e91 λi σ5 H5 I5 st5 fr5 w5=>?_;clear e91;rcases turn i n σ5 H5 w5 with ⟨stop,qn⟩|⟨go,step⟩
  .refine thn (T.done (Zb6 X (Zb1 own fr) scope cl s3 (upd H2 s2.heap.objs.size (.lst [])) fp) rfl rfl rfl hc i [] s5 σ5 H5 _ I5 (stat fr5) st5 stop) λr s6 ⟨hr,I6⟩=>?_;subst hr;have I7:Inv X pins σ H5 s6:=I3'.call' (ch:=fp) I6.os I6.base I6.hok I6.bare λb hb=>⟨(f3 b hb).2.2.2.1,(f3 b hb).2.1,(f3 b hb).2.2.2.2.1,(f3 b hb).2.2.2.2.2⟩
   refine Zae I6.loc λm6 hn6 _=>?_;refine hRR _ _ s6 H5 I7 qn ⟨m6,hn6⟩ (Jg1 I3'.lt) (λx c e=>?_) (λp hp=>?_) I3'.sz I6.free
   .obtain ⟨v,z⟩:=I3'.cell x c e;exact Ja6 z.lt
   .exact Ja6 (Jar (I3'.pin p hp).1)
  .refine thn (T.item (Zb6 X (Zb1 own fr) scope cl s3 (upd H2 s2.heap.objs.size (.lst [])) fp) rfl rfl rfl hc i [] s5 σ5 H5 _ I5 (stat fr5) st5 go) λr s6 ⟨u,hr,h6⟩=>?_;subst hr;refine thn h6 λ_ s7 ⟨x,H7,I7,r7,y7,st7,fr7⟩=>?_;have I7':=I7.pinned (stat fr7) (T.obj _ _ st7);refine thn (hg _ s7 σ5 H7 x u _ I7' r7 (step x H7 y7)) λ_ s8 ⟨σ8,H8,I8,q8⟩=>?_;refine thn (ht _ s8 σ8 H8 _ I8 q8) λb s9 ⟨H9,I9,q9⟩=>?_;have again:∀ {sA:Shared} {σA:St} {HA:Hp} {m':Nat},Inv (Zb6 X (Zb1 own fr) scope cl s3 (upd H2 s2.heap.objs.size (.lst [])) fp) ([]++Ze8 fp s7.heap) σA HA sA->m'<n->W (i+1) m' σA HA->
     ∃ m,m<n/\∃ i σ' H',Inv (Zb6 X (Zb1 own fr) scope cl s3 (upd H2 s2.heap.objs.size (.lst [])) fp) [] σ' H' sA/\tn i sA.heap/\(∀ b∈fp,H' b=none)/\W i m σ' H':=λ{sA σA HA m'} IA hm wA=>by
    refine⟨m',hm,i+1,σA,HA,IA.unpinned,T.keep _ _ _ st7 λb hb o e=>(IA.pin (b,o) (Jap _ (Jap _ (Zbk hb e)))).1,λb hb=>?_,wA⟩;refine Zae (T.obj _ _ st7 b hb) λo e d=>?_;exact (IA.pin (b,o) (Jap _ (Jap _ (Zbk hb e)))).2.1
   cases b with
   | false=>
    refine Zae q9 λm' hm w9=>?_;clear q9;exact again I9 hm w9
   | true=>
    have q9:te σ8 H9 _:=q9;show wpAny _ _ _ _ _ _;refine thn (he _ s9 σ8 H9 _ I9 q9) λy sA ⟨vy,HA,IA,rA,vs,hvs,hlen,m',hm,wA⟩=>?_;refine thn (Zbj (X:=Zb6 X (Zb1 own fr) scope cl s3 (upd H2 s2.heap.objs.size (.lst [])) fp) _ sA σ8 HA (.ref s2.heap.objs.size) [vy] (.ref s2.heap.objs.size) [y] (λ_ HB=>W (i+1) m' σ8 HB) IA rfl (.cons rA .nil) ⟨_,vs,vy,rfl,rfl,hvs,hlen,wA⟩) λ_ sB ⟨_,HB,IB,_,wB⟩=>?_;exact again IB hm wB
 exact codeAny_compStart_list loop (T.self _ 0 _ _ _ st4 loop)
theorem SameBut.get {a:Addr}{h h':Heap}(x:Heap.SameBut a h h'):∀ b o,b≠a->h.get? b=some o->h'.get? b=some o:=λb o n e=>(x.2 b n).trans e
theorem Za1 (hc:X.calm=true)(B:BlScope X scope own fr)(hi:PI X tg iter wi)(hb:∀ cl s H fp,PG (Zb6 X (Zb1 own fr) scope cl s H fp) tg g/\PTs (Zb6 X (Zb1 own fr) scope cl s H fp) ifs tt/\PE (Zb6 X (Zb1 own fr) scope cl s H fp) elt te)(hs:∀ x,foldedSetIterable iter X.env x=pure x:=by intro _;rfl):
  PE X (.ListComp elt [⟨tg,iter,ifs,0⟩] scope pos) (Zgj own.length fr wi g tt te):=by
 intro pins s σ H Q I h;refine Zau (Zjq (scope:=scope) (env:=X.env) λy hy hf=>I.ok.has y.1 (B.free y hy hf)) λcl hclos hcl hcl2=>?_;rw[eval_ListComp];refine Jee (use:=none) rfl hs hclos B.kind B.loc (thn (hi pins s σ H _ I h) λv s1 h1=>thn h1 λitv s2 h2=>?_);refine Zel h2 λit fp tn J H2 e I2 T e93=>?_;clear h2;refine Zap e93 λst2 f2 q=>?_;clear e93;subst e;refine Zny (RR:=λacc C=>compPost (model X.prog X.w) X.A X.xe none (EP X pins σ Q) acc C) (Q:=Q) hc B hb hcl hcl2 I2 T st2 f2 q ?_;intro D C s' H' I' hq hn n1 n2 n3 n4 n5;obtain⟨m,hn⟩:=hn;refine⟨m,hn,λh' hs'=>⟨.ref D,H',I'.turned (it:=C) (t':=s'.toks) (λb o hb e=>SameBut.get hs' b o hb e) n5 (Jet (Jet n1)) (.inr n4) n2 n3,rfl,hq⟩⟩
theorem Zft {i:Nat}{x:Str}{pos' spos:Pos}(hc:X.calm=true)(B:BlScope X scope own fr)(hi:PI X tg iter wi)(hb:∀ cl s H fp,PG (Zb6 X (Zb1 own fr) scope cl s H fp) tg g/\PTs (Zb6 X (Zb1 own fr) scope cl s H fp) ifs tt/\PE (Zb6 X (Zb1 own fr) scope cl s H fp) elt te)(hN:X.N.Nodup)(hix:X.N[i]?=some x)(hx:X.env.scope.names.lookup x=some .local)(hsw:swapsWith (.ListComp elt [⟨tg,iter,ifs,0⟩] scope pos) (some (.Name x pos')) spos.line X.env=pure true)(hs:∀ x,foldedSetIterable iter X.env x=pure x:=by intro _;rfl):
  PS X (.Assign [.Name x pos'] (.ListComp elt [⟨tg,iter,ifs,0⟩] scope pos) spos) (tAsg (Zgj own.length fr wi g tt te) (Za7 i)):=by
 intro pins s σ H D I h;refine Zau (Zjq (scope:=scope) (env:=X.env) λy hy hf=>I.ok.has y.1 (B.free y hy hf)) λcl hclos hcl hcl2=>?_;rw[exec_Assign_Name_used _ _ _ _ hsw];refine Jab (Jdo (Jab ?_));show wpAny _ _ (do let _ <- comprehension (.ListComp elt [⟨tg,iter,ifs,0⟩] scope pos) scope X.env _ (newList []) false (eval iter X.env) (some (assign (.Name x pos') X.env))) _ _ s;refine Jab (Jbw (Jee (use:=some (assign (.Name x pos') X.env)) (Q:=λ_ s'=>SP X pins D .next s') rfl hs hclos B.kind B.loc (thn (hi pins s σ H _ I h) λv s1 h1=>thn h1 λitv s2 h2=>?_))
  (λ_ s' hq=>Jae (Jae hq)) λ_ _ e=>e)
 refine Zel h2 λit fp tn J H2 e I2 T e94=>?_;clear h2;refine Zap e94 λst2 f2 q=>?_;clear e94;subst e;refine Zny (RR:=λacc C=>compPost (model X.prog X.w) X.A X.xe (some (assign (.Name x pos') X.env)) (λ_ s'=>SP X pins D .next s') acc C) (Q:=λv H'=>Za7 i v σ H' D.nx) hc B hb hcl hcl2 I2 T st2 f2 q ?_;intro DD C s' H' I' hq hn n1 n2 n3 n4 n5;obtain⟨m,hn⟩:=hn;show wpAny _ _ (assign (.Name x pos') X.env (.ref DD)) _ _ s';refine wpAny_assign_Name (Zj2 I' hN hix (.inl hx) (v:=.ref DD) rfl (λs3 I3 ⟨a,hsa,ha⟩=>?_) (.inr hx));have hCa:C≠a:=by
  rcases ha with z|z
  .rw [z];exact n1
  .exact (n2 x a z).symm
 refine⟨m,hn.sameBut hsa hCa,λh' hs'=>⟨σ.set i (some (.ref DD)),H',I3.turned (it:=C) (t':=s3.toks) (λb o hb e=>SameBut.get hs' b o hb e) n5 n1 (.inr n4) n2 n3,hq⟩⟩
end
section
variable {X:Cx}
theorem Zlx:OpR X (binaryOp .Mult) (rI IntMulOk λi j=>.int (i*j)):=
 opI λi j t u s Q E c h=>PyProof.Rows.mul_int h c
noncomputable def cV:V->Option Value
 | .ty n=>some (.type n)
 | .ref a=>some (.ref a)
 | _=>none
theorem Zbv:Zb9 X (.builtin "isinstance") (λxs H Q=>∃ x y c t b,xs=[x,y]/\cV y=some c/\TyOf X.K H x t/\PySem.W.kitOne X.K t c=some b/\Q (.bl b) H):=by
 intro pins s σ H xs us Q I r h;refine Zel h λx y c t b e93 hc ty e94=>?_;clear h;obtain rfl:=e93;obtain⟨e,q⟩:=e94;refine Zbf (vals2 r) λu v e95 rx ry=>?_;obtain rfl:=e95;have hv:v=c:=by
  cases y <;> first|(cases hc;done)|(cases hc;cases ry;rfl)
 subst hv;exact Zrv I rx ty e λtk=>⟨.bl b,H,I.tok _,rfl,q⟩
theorem Zee (bs:List Bool):(List.range bs.length).all (λi=>(bs[i]?).getD true)=bs.all id:=by
 rw[Jcx,Jb1,Jb1];constructor
 .intro h b hb;obtain⟨i,hi,rfl⟩:=Jdf.mp hb;have:=h i (Jb3.mpr hi);rw[Jac hi] at this;exact this
 .intro h i hi;have hi:=Jb3.mp hi;rw[Jac hi];exact h _ (Jcb hi)
theorem Zml {A:Around}{prog:Program}{w:World}{bs:List Bool}{its:List Value}(r:Vals (bs.map V.bl) its):TruthOf prog w A (λi v=>its.toArray[i]?=some v) (λi=>(bs[i]?).getD true):=by
 intro i v s Q E hP hQ;have hP:its[i]?=some v:=by simpa using hP
 have hl:=r.length;rw[Jaa] at hl;have hi:i<bs.length:=by rw[hl];exact (Jak.mp hP).1
 obtain⟨u,hu,rv⟩:=r.get (i:=i) (x:=.bl bs[i]) (by rw[Jay,Jac hi];rfl);rw[hP] at hu;cases hu;cases rv;have hQ:Q ((bs[i]?).getD true) s:=hQ;rw[Jac hi] at hQ;exact Jcd hQ
theorem Zg0 (hc:X.calm=true):Zb9 X (.builtin "all") (λxs H Q=>∃ (p:Addr) (bs:List Bool),xs=[.ref p]/\SqL X.K H p (bs.map V.bl)/\Q (.bl (bs.all id)) H):=by
 intro pins s σ H xs us Q I r h;refine Zbf h λp bs e96 hq q=>?_;clear h;obtain rfl:=e96;refine Zae (Zem r) λu e97 rx=>?_;obtain rfl:=e97;cases rx;refine Zau (I.list hq) λits rv pl hz=>?_;have hl:=rv.length;rw[Jaa] at hl;refine call_all_walk (Jec pl.isList ?_);have hne:p≠s.heap.objs.size:=λe=>by
  refine Zcl pl λo n ho _=>?_;clear pl;exact absurd (Jar ho) (by rw[e];exact Jch _)
 refine xI7_1 s.heap.objs.size _ _ _ _ _ (λi=>(bs[i]?).getD true) ⟨rfl,Jhs (A:=X.A.in1) (I.ok.hd hc) _ p hne its.toArray,⟨⟨_,Ja1 _ rfl,rfl,rfl⟩,pl.isList.at λo e=>Jad _ e⟩,Zml rv,λh' tk kp=>?_⟩;have e:(List.range its.toArray.size).all (λi=>(bs[i]?).getD true)=bs.all id:=by
  rw[Jav,<- hl];exact Zee bs
 rw[e];have f:=I.fpOk (H':=H) (Jaf s.heap.objs.size) (I.hok.fresh (Jaf _));exact Za2 (.bl _) H ⟨(I.kept (h':=s.heap.push { cls:=.type "list_iterator",data:=.fields #[.ref p,.int 0 0] }) (t':=s.toks) λb o e=>Jad _ e).turned (it:=s.heap.objs.size) (t':=tk) (λb o hb e=>kp b o (by simpa using hb) e) f.1 f.2.1 f.2.2.2.1 f.2.2.2.2.1 f.2.2.2.2.2,rfl,q⟩
theorem Zff:Zb9 X (.type "range") (λxs H Q=>∃ j,xs=[.int j]/\∀ p,H p=none->Q (.ref p) (upd H p (.rng 0 j))):=by
 intro pins s σ H xs us Q I r h;refine Zae h λj e910 q=>?_;clear h;obtain rfl:=e910;refine Zae (Zem r) λu e911 e912=>?_;obtain rfl:=e911;obtain⟨t,rfl⟩:=e912;refine call_range_1 ⟨.ref s.heap.objs.size,_,I.laid (a:=s.heap.objs.size) (o:=.rng 0 j) (λb o e=>Jad _ e) (Jaf _) ?_,rfl,q _ (I.hok.fresh (Jaf _))⟩;exact Zcs _ _ _ (Ja1 _ rfl)
noncomputable def Zk6 (lo hi:Int):List V:=(List.range (hi-lo).toNat).map λi=>V.int (lo+(i:Nat))
theorem Zcq (hc:X.calm=true):Zb9 X (.type "list") (λxs H Q=>∃ p lo hi,xs=[.ref p]/\H p=some (.rng lo hi)/\(-(2 ^ 62)<=lo/\lo<2 ^ 62/\-(2 ^ 62)<=hi/\hi<2 ^ 62)/\(hi-lo).toNat<=2 ^ 24 /\
  ∀ l,H l=none->Q (.ref l) (upd H l (.lst (Zk6 lo hi)))):=by
 intro pins s σ H xs us Q I r h;refine Zck h λp lo hi e917 hp e918 e919=>?_;clear h;obtain rfl:=e917;obtain⟨h1,h2,h3,h4⟩:=e918;obtain⟨hz,q⟩:=e919;refine Zae (Zem r) λu e920 rx=>?_;obtain rfl:=e920;cases rx;refine xE3_1 (show ObjOk X.prog X.w H s.heap p (.rng lo hi) from I.hok p _ hp) λt u v ho=>?_;have hn:Builtin.Range.rangeSize lo hi 1=(((hi-lo).toNat:Nat):Int):=by rw[rangeSize_one];split <;> omega
 refine call_list_range (I.ok.hd hc) (show IsRange s.heap p lo hi 1 t u v from ho) (small_one h1 h2 h3 h4) hn hz λh' tk acc' c' kp e it=>?_;refine Za2 (.ref s.heap.objs.size) _ ⟨I.laid (a:=s.heap.objs.size) (o:=.lst (Zk6 lo hi)) (t':=tk) kp (Jaf _) ?_,rfl,q _ (I.hok.fresh (Jaf _))⟩;refine⟨by unfold Zk6;rw[Jaa,Jcm];exact hz,acc'.toList,c',?_,by simpa using e⟩;have hlen:acc'.toList.length=(hi-lo).toNat:=by rw[Ja0];exact it.1
 have gen:∀ (n:Nat) (k:Nat) (us:List Value),us.length=n->(∀ (i:Nat) w',us[i]?=some w'->∃ t,w'=Value.int (lo+((k+i:Nat):Int)) t)->Vals ((List.range' k n).map λ(i:Nat)=>V.int (lo+(i:Nat))) us:=by
  intro n
  induction n with
  | zero=>intro k us hl _;cases us with|nil=>exact .nil|cons _ _=>cases hl
  | succ n ih=>
   intro k us hl hv;cases us with
   | nil=>cases hl
   | cons x us=>
    refine .cons ?_ (ih (k+1) us (by simpa using hl) λi w' e=>?_)
    .obtain ⟨t,e⟩:=hv 0 x rfl;exact⟨t,by simpa using e⟩
    .obtain ⟨t,e'⟩:=hv (i+1) w' (by simpa using e);exact⟨t,by rw[e',show ((k+(i+1):Nat):Int)=((k+1+i:Nat):Int) by omega]⟩
 unfold Zk6;rw[List.range_eq_range'];refine gen _ 0 _ hlen λi w' e'=>?_;obtain⟨t,e2⟩:=it.2 i w' (by simpa using e');exact⟨t,by rw[e2];congr 1 <;> simp⟩
end
inductive EqD (K:Frag) (H:Hp):Nat->V->V->Bool->Prop where
 | flat {n:Nat} {x y:V} (hx:Zgo x=true) (hy:Zgo y=true):EqD K H n x y (eqV x y)
 | same {n:Nat} {a:Addr}:EqD K H n (.ref a) (.ref a) true
 | list {n:Nat} {a c:Addr} {xs ys:List V} {bs:List Bool} (ne:a≠c) (ha:SqL K H a xs) (hc:SqL K H c ys) (hl:xs.length=ys.length) (hb:bs.length=xs.length)
   (he:∀ (j:Nat) x y b,xs[j]?=some x->ys[j]?=some y->bs[j]?=some b->EqD K H n x y b):EqD K H (n+1) (.ref a) (.ref c) (bs.all id)
 | listL {n:Nat} {a c:Addr} {xs ys:List V} (ne:a≠c) (ha:SqL K H a xs) (hc:SqL K H c ys) (hl:xs.length≠ys.length):EqD K H (n+1) (.ref a) (.ref c) false
 | tuple {n:Nat} {a c:Addr} {xs ys:List V} {bs:List Bool} (ne:a≠c) (ha:SqT K H a xs) (hc:SqT K H c ys) (hl:xs.length=ys.length) (hb:bs.length=xs.length)
   (he:∀ (j:Nat) x y b,xs[j]?=some x->ys[j]?=some y->bs[j]?=some b->EqD K H n x y b):EqD K H (n+1) (.ref a) (.ref c) (bs.all id)
def Zh3 (K:Frag)(H:Hp)(n:Nat)(xs ys:List V)(bs:List Bool):Prop:=
 xs.length=ys.length/\bs.length=xs.length/\∀ (j:Nat) x y b,xs[j]?=some x->ys[j]?=some y->bs[j]?=some b->EqD K H n x y b
section
variable {X:Cx}{pins:List (Addr×Obj)}{σ:St}{H:Hp}{s:Shared}
theorem Zgv {A:Around}{xs ys:List V}{us vs:List Value}{bs:List Bool}(rx:Vals xs us)(ry:Vals ys vs)(hl:xs.length=ys.length)(hb:bs.length=xs.length)(ih:∀ (j:Nat) x y b,xs[j]?=some x->ys[j]?=some y->bs[j]?=some b->∀ u v,RelV x u->RelV y v->SeqAt.EqAt A s u v b):
  ∀ j (h1:j<us.toArray.size) (h2:j<vs.toArray.size),SeqAt.EqAt A s us.toArray[j] vs.toArray[j] ((bs[j]?).getD true):=by
 intro j h1 h2;have e1:=rx.length;have e2:=ry.length;have h1':j<us.length:=by simpa using h1
 have h2':j<vs.length:=by simpa using h2
 have g1:xs[j]?=some (xs[j]'(by omega)):=Jac _;have g2:ys[j]?=some (ys[j]'(by omega)):=Jac _;have g3:bs[j]?=some (bs[j]'(by omega)):=Jac _;refine Zae (rx.get g1) λu hu ru=>?_;refine Zae (ry.get g2) λv hv rv=>?_;have eu:us.toArray[j]=u:=by
  rw[Jac h1'] at hu;simpa using hu
 have ev:vs.toArray[j]=v:=by
  rw[Jac h2'] at hv;simpa using hv
 rw[eu,ev,g3];exact ih j _ _ _ g1 g2 g3 u v ru rv
theorem EqD.at {n:Nat}{x y:V}{b:Bool}(I:Inv X pins σ H s)(e:EqD X.K H n x y b):∀ {A:Around} {u v:Value},A.units+n<cLine->RelV x u->RelV y v->SeqAt.EqAt A s u v b:=by
 induction e with
 | flat hx hy=>intro A u v _ ru rv;exact Zvx ru rv hx hy
 | same=>intro A u v _ ru rv;cases ru;cases rv;exact SeqAt.EqAt.same _
 | @list n a c xs ys bs ne ha hc hl hb he ih=>
  intro A u v hA ru rv;cases ru;cases rv;refine Zau (I.list ha) λits r1 p1 _=>?_;refine Zau (I.list hc) λits' r2 p2 _=>?_;have e1:=r1.length;have e2:=r2.length;have q:=SeqAt.RcAt.lists (e:=λj=>(bs[j]?).getD true) p1.isList p2.isList (by simp;omega) ∅ (Zgv (A:=A.in1) r1 r2 hl hb λj x y b h1 h2 h3 u v ru rv=>ih j x y b h1 h2 h3 (show A.units+1+n<cLine by omega) ru rv);rw[show its.toArray.size=bs.length by simp;omega,Zee] at q;exact Jg2 ne q
 | @listL n a c xs ys ne ha hc hl=>
  intro A u v hA ru rv;cases ru;cases rv;refine Zau (I.list ha) λits r1 p1 _=>?_;refine Zau (I.list hc) λits' r2 p2 _=>?_;have e1:=r1.length;have e2:=r2.length;exact Jg2 ne (SeqAt.RcAt.lists_lengths p1.isList p2.isList (by simp;omega) ∅)
 | @tuple n a c xs ys bs ne ha hc hl hb he ih=>
  intro A u v hA ru rv;cases ru;cases rv;refine Zau (I.tuple ha) λits r1 p1 _=>?_;refine Zau (I.tuple hc) λits' r2 p2 _=>?_;have e1:=r1.length;have e2:=r2.length;have q:=SeqAt.RcAt.tuples (e:=λj=>(bs[j]?).getD true) p1 p2 ∅ (Zgv (A:=A.in1) r1 r2 hl hb λj x y b h1 h2 h3 u v ru rv=>ih j x y b h1 h2 h3 (show A.units+1+n<cLine by omega) ru rv);rw[show min its.toArray.size its'.toArray.size=bs.length by simp;omega,Zee,show (its.toArray.size == its'.toArray.size)=true by simp;omega,Bool.and_true] at q;exact Jg2 ne q
def rEqL (K:Frag)(neg:Bool):R2:=λx y H Q=>∃ a c xs ys,x=.ref a/\y=.ref c/\SqL K H a xs/\SqL K H c ys /\
 ((xs.length≠ys.length/\Q (.bl neg) H)\/∃ bs,Zh3 K H 6 xs ys bs/\Q (.bl (if neg then !bs.all id else bs.all id)) H)
def rEqT (K:Frag)(neg:Bool):R2:=λx y H Q=>∃ a c xs ys bs,x=.ref a/\y=.ref c/\SqT K H a xs/\SqT K H c ys/\Zh3 K H 6 xs ys bs/\Q (.bl (if neg then !bs.all id else bs.all id)) H
theorem Znb (hu:X.A.units+8<cLine):OpR X (compareOp .Eq) (rEqL X.K false):=by
 intro pins s σ H x y v u Q I rx ry h;refine Zce h λa c xs ys e921 e922 ha e923=>?_;clear h;obtain rfl:=e921;obtain rfl:=e922;obtain⟨hc,h⟩:=e923;cases rx;cases ry;refine Zau (I.list ha) λits r1 p1 _=>?_;refine Zau (I.list hc) λits' r2 p2 _=>?_;have e1:=r1.length;have e2:=r2.length;rcases h with ⟨hne,q⟩|⟨bs,⟨hl,hb,he⟩,q⟩
 .exact SeqAt.eq_list_lengthsAt p1.isList p2.isList (by simp;omega) ∅ ⟨.bl false,H,I,rfl,q⟩
 .refine SeqAt.eq_listAt (e:=λj=>(bs[j]?).getD true) p1.isList p2.isList (by simp;omega) ∅ (Zgv (A:=X.A.in1) r1 r2 hl hb λj x y b h1 h2 h3 u v ru rv=>(he j x y b h1 h2 h3).at I (show X.A.units+1+6<cLine by omega) ru rv) ?_;rw[show its.toArray.size=bs.length by simp;omega,Zee];exact Za2 (.bl (bs.all id)) H ⟨I,rfl,q⟩
theorem Zvk (hu:X.A.units+8<cLine):OpR X (compareOp .NotEq) (rEqL X.K true):=by
 intro pins s σ H x y v u Q I rx ry h;refine Zce h λa c xs ys e924 e925 ha e926=>?_;clear h;obtain rfl:=e924;obtain rfl:=e925;obtain⟨hc,h⟩:=e926;cases rx;cases ry;refine Zau (I.list ha) λits r1 p1 _=>?_;refine Zau (I.list hc) λits' r2 p2 _=>?_;have e1:=r1.length;have e2:=r2.length;rcases h with ⟨hne,q⟩|⟨bs,⟨hl,hb,he⟩,q⟩
 .exact SeqAt.RcNeAt.lists_lengths p1.isList p2.isList (by simp;omega) ∅ _ _ _ _ ⟨.bl true,H,I,rfl,q⟩
 .refine SeqAt.RcNeAt.lists (e:=λj=>(bs[j]?).getD true) p1.isList p2.isList (by simp;omega) ∅ (Zgv (A:=X.A.in1) r1 r2 hl hb λj x y b h1 h2 h3 u v ru rv=>(he j x y b h1 h2 h3).at I (show X.A.units+1+6<cLine by omega) ru rv) _ _ _ _ ?_;rw[show its.toArray.size=bs.length by simp;omega,Zee];exact Za2 (.bl (!bs.all id)) H ⟨I,rfl,q⟩
end
theorem Zrr (K:Frag):PySem.W.kitOne K (.type "int") (.type "int")=some true:=by rfl
theorem Zio (K:Frag):PySem.W.kitOne K (.type "int") (.type "bool")=some false:=by kernel_rfl
theorem Zrq (K:Frag):PySem.W.kitOne K (.type "tuple") (.type "tuple")=some true:=by rfl
theorem Zeu (K:Frag):PySem.W.kitOne K (.type "list") (.type "list")=some true:=by rfl
structure Cal (P:Program)(w:World)(K:Frag)(mg:Str->Option Value)(base:Heap)(x:Str)(k:Nat)(sp:Sp):Prop where
 ex:∃ (f:Addr) (fd:FuncData) (ps:List Str),FnOk P w K mg base CX0 k f fd ps sp/\mg x=some (.ref f)/\PySem.W.keepIn K (.ref f)=true/\Binds K fd ps []
theorem pe_cal {X:Cx}{x:Str}{k:Nat}{sp:Sp}{e:Expr}{es:List Expr}{t:TA}{p pos:Pos}(C:Cal X.prog X.w X.K X.mg X.base x k sp)(hr:Room k X.A)(hg:Gl X x)(ha:PA X (e::es) t)(hdb:(x == ("__debug__" : Str))=false:=by decide)(he:starEach (e::es) X.env=(false,eval e X.env)::starEach es X.env:=by rfl)(hpl:(backTo pos (starEach es X.env)).any (·.1)=false:=by rfl):
  PE X (.Call (.Name x p) (e::es) [] pos) (Zlc sp [] E0 t):=by
 refine Zck C.ex λf fd ps F hm hk hb=>?_;exact Zqt F hr hg hm hk hb .nil pass0 ha hdb he hpl
structure CalM (P:Program)(w:World)(K:Frag)(mg:Str->Option Value)(base:Heap)(C:Addr)(m:Str)(k:Nat)(sp:Sp):Prop where
 ex:∃ (f:Addr) (fd:FuncData) (ps:List Str),FnOk P w K mg base CX0 k f fd ps sp/\Meth K C m f/\Binds K fd ps []
structure CalI (P:Program)(w:World)(K:Frag)(mg:Str->Option Value)(base:Heap)(x:Str)(C:Addr)(k:Nat)(sp:Sp):Prop where
 ex:∃ (f:Addr) (fd:FuncData) (ps:List Str),FnOk P w K mg base CX0 k f fd ps sp/\Mk K C f/\mg x=some (.ref C)/\Binds K fd ps []
theorem pe_new {X:Cx}{x:Str}{C:Addr}{k:Nat}{sp:Sp}{e:Expr}{es:List Expr}{t:TA}{p pos:Pos}(M:CalI X.prog X.w X.K X.mg X.base x C k sp)(hr:Room (k+1) X.A)(hg:Gl X x)(ha:PA X (e::es) t)(hdb:(x == ("__debug__" : Str))=false:=by decide)(he:starEach (e::es) X.env=(false,eval e X.env)::starEach es X.env:=by rfl)(hpl:(backTo pos (starEach es X.env)).any (·.1)=false:=by rfl):
  PE X (.Call (.Name x p) (e::es) [] pos) (Zpl C sp [] E0 t):=by
 refine Zck M.ex λf fd ps F hm hk hb=>?_;exact pe_make hm F hr hg hk hb .nil pass0 ha hdb he hpl
noncomputable def blOk (outer:List (Str×NameKind))(N:List Str)(scope:Scope)(fr:List (Str×Nat)):Bool:=
 scope.kind == .function && scope.names.all (λy=>y.2 != .free || outer.lookup y.1 == some .cell || outer.lookup y.1 == some .free) && scope.names.all (λy=>scope.names.lookup y.1 == some y.2) &&
 fr.all λy=>scope.names.lookup y.1 == some .free && N[y.2]? == some y.1
theorem Zbo {X:Cx}{scope:Scope}{own:List Str}{fr:List (Str×Nat)}(h:blOk X.env.scope.names X.N scope fr=true):BlScope X scope own fr:=by
 unfold blOk at h;simp only[Jbv,Jb1] at h;obtain⟨⟨⟨h1,h2⟩,h3⟩,h4⟩:=h;refine⟨?_,λy hy hf=>?_,λy hy hl=>?_,λy hy=>?_,λy hy=>?_⟩
 .cases e:scope.kind <;> rw[e] at h1 <;> first|rfl|(exact absurd h1 ⇑0)
 .have:=h2 y hy;rw[hf] at this;simp only[Jgo,Jcj] at this;rcases this with (q|q)|q
  .exact absurd q ⇑0
  .exact .inl q
  .exact .inr q
 .have:=h3 y hy;rw[hl] at this;exact Jcj.mp this
 .exact Jcj.mp (h3 y hy)
 .have:=h4 y hy;exact⟨Jcj.mp this.1,Jcj.mp this.2⟩
def Sh (k:Nat)(cap σ:St):Prop:=∃ o,o.length=k/\σ=o++cap
theorem Sh.mk1 {cap:St}{a:Option V}:Sh 1 cap (a::cap):=⟨[a],rfl,rfl⟩
theorem Sh.one {cap σ:St}(h:Sh 1 cap σ):∃ a,σ=a::cap:=by
 refine Zae h λo h1 e92=>?_;clear h;obtain rfl:=e92
 match o,h1 with
 | [a],_=>exact⟨a,rfl⟩
noncomputable def Zb3 (fr:List (Str×Nat))(σ:St):St:=fr.map λy=>(σ[y.2]?).getD none
def Wv (n k:Nat)(cap:St)(Pv:Nat->List V->Hp->Prop):Nat->Nat->St->Hp->Prop:=λi m σ H=>m=n-i/\i<=n/\Sh k cap σ/\∃ vs,Pv i vs H
def Lf (D:Addr)(n k:Nat)(cap:St)(Pv:Nat->List V->Hp->Prop)(i:Nat)(σ4:St)(y:V)(H6:Hp):Prop:=
 ∃ vs,H6 D=some (.lst vs)/\vs.length<sizeLine/\∃ m',m'<n-i/\Wv n k cap Pv (i+1) m' σ4 (upd H6 D (.lst (vs++[y])))
def Lf0 (n k:Nat)(cap:St)(Pv:Nat->List V->Hp->Prop)(i:Nat)(σ4:St)(H5:Hp):Prop:=∃ m',m'<n-i/\Wv n k cap Pv (i+1) m' σ4 H5
theorem leaf {D:Addr}{n k:Nat}{cap:St}{Pv:Nat->List V->Hp->Prop}{i:Nat}{σ4:St}{y:V}{H6:Hp}{vs ws:List V}(hi:i<n)(sh:Sh k cap σ4)(hD:H6 D=some (.lst vs))(hl:vs.length<sizeLine)(p:Pv (i+1) ws (upd H6 D (.lst (vs++[y])))):Lf D n k cap Pv i σ4 y H6:=⟨vs,hD,hl,n-(i+1),∅,rfl,hi,sh,ws,p⟩
theorem Zow {n k:Nat}{cap:St}{Pv:Nat->List V->Hp->Prop}{i:Nat}{σ4:St}{H5:Hp}{ws:List V}(hi:i<n)(sh:Sh k cap σ4)(p:Pv (i+1) ws H5):Lf0 n k cap Pv i σ4 H5:=⟨n-(i+1),∅,rfl,hi,sh,ws,p⟩
def Zcm (g:TG)(tt:TT)(te:TE)(D:Addr)(n k:Nat)(cap:St)(Pv:Nat->List V->Hp->Prop)(i:Nat)(x:V)(σ':St)(H:Hp):Prop:=
 g x σ' H λσ4 H4=>tt σ4 H4 λb H5=>if b=true then te σ4 H5 λy H6=>Lf D n k cap Pv i σ4 y H6 else Lf0 n k cap Pv i σ4 H5
section
variable {K:Frag}{a D:Addr}{xs:List V}{g:TG}{tt:TT}{te:TE}{k:Nat}{fr:List (Str×Nat)}{σ:St}{H1:Hp}{Q:VK}
theorem sh0:Sh k (Zb3 fr σ) (Zfe k fr σ):=⟨List.replicate k none,Jbt,rfl⟩
theorem Zgz {J:It}{n:Nat}(it:Nat->V->Prop)(Pv:Nat->List V->Hp->Prop)(h0:Pv 0 [] (upd H1 D (.lst [])))(go:∀ i vs H,i<n->Pv i vs H->J.go i H/\∀ x H',J.yld i H x H'->H'=H/\it i x)(stop:∀ vs H,Pv n vs H->J.stop n H)(hs:∀ i x vs σ' H,i<n->it i x->Sh k (Zb3 fr σ) σ'->Pv i vs H->Zcm g tt te D n k (Zb3 fr σ) Pv i x σ' H)(hd:∀ vs H,Pv n vs H->Q (.ref D) H):Zb4 g tt te J D (Zfe k fr σ) H1 Q:=by
 refine⟨Wv n k (Zb3 fr σ) Pv,⟨n,by simp,Jbp _,sh0,[],h0⟩,?_⟩;intro i m σ' H2 e91;refine Zbq e91 λe94 hi sh e95=>?_;clear e91;obtain rfl:=e94;obtain⟨vs,p⟩:=e95;by_cases hlt:i<n
 .obtain ⟨g1,g2⟩:=go i vs H2 hlt p;refine .inr ⟨g1,λx H3 y=>?_⟩;obtain⟨rfl,hx⟩:=g2 x H3 y;exact hs i x vs σ' _ hlt hx sh p
 .have e:i=n:=∅
  subst e;exact .inl ⟨stop vs H2 p,hd vs H2 p⟩
theorem Zbm (Pv:Nat->List V->Hp->Prop)(h0:Pv 0 [] (upd H1 D (.lst [])))(hl:∀ i vs H,i<=xs.length->Pv i vs H->SqL K H a xs)(hs:∀ i x vs σ' H,i<xs.length->xs[i]?=some x->Sh k (Zb3 fr σ) σ'->Pv i vs H->Zcm g tt te D xs.length k (Zb3 fr σ) Pv i x σ' H)(hd:∀ vs H,Pv xs.length vs H->Q (.ref D) H):Zb4 g tt te (Itl K a) D (Zfe k fr σ) H1 Q:=
 Zgz (λi x=>xs[i]?=some x) Pv h0 (λi vs H hi p=>⟨⟨xs,xs[i],hl i vs H (Jb8 hi) p,by simp[hi]⟩,λx H' y=>⟨y.1,y.2 xs (hl i vs H (Jb8 hi) p)⟩⟩)
  (λvs H p=>⟨xs,hl _ vs H (Jaf _) p,Jaf _⟩) hs hd
theorem Zus (Pv:Nat->List V->Hp->Prop)(h0:Pv 0 [] (upd H1 D (.lst [])))(hl:∀ i vs H,i<=xs.length->Pv i vs H->SqT K H a xs)(hs:∀ i x vs σ' H,i<xs.length->xs[i]?=some x->Sh k (Zb3 fr σ) σ'->Pv i vs H->Zcm g tt te D xs.length k (Zb3 fr σ) Pv i x σ' H)(hd:∀ vs H,Pv xs.length vs H->Q (.ref D) H):Zb4 g tt te (Itt K a) D (Zfe k fr σ) H1 Q:=
 Zgz (λi x=>xs[i]?=some x) Pv h0 (λi vs H hi p=>⟨⟨xs,xs[i],hl i vs H (Jb8 hi) p,by simp[hi]⟩,λx H' y=>⟨y.1,y.2 xs (hl i vs H (Jb8 hi) p)⟩⟩)
  (λvs H p=>⟨xs,hl _ vs H (Jaf _) p,Jaf _⟩) hs hd
theorem Zgy {lo:Int}{n:Nat}(Pv:Nat->List V->Hp->Prop)(h0:Pv 0 [] (upd H1 D (.lst [])))(hs:∀ i x vs σ' H,i<n->x=.int (lo+i)->Sh k (Zb3 fr σ) σ'->Pv i vs H->Zcm g tt te D n k (Zb3 fr σ) Pv i x σ' H)(hd:∀ vs H,Pv n vs H->Q (.ref D) H):Zb4 g tt te (Itr lo n) D (Zfe k fr σ) H1 Q:=
 Zgz (λi x=>x=.int (lo+i)) Pv h0 (λi vs H hi p=>⟨hi,λx H' y=>y⟩) (λvs H p=>Jaf _) hs hd
end
def Ext (l:Addr)(H H':Hp):Prop:=∀ b o,b≠l->H b=some o->H' b=some o
theorem Ext.trans {l:Addr}{H H1 H2:Hp}(a:Ext l H H1)(b:Ext l H1 H2):Ext l H H2:=λc o n e=>b c o n (a c o n e)
theorem Ext.new {l p:Addr}{H:Hp}{o:HO}(h:H p=none):Ext l H (upd H p o):=λc u _ e=>by rw[Zag (Zad e h)];exact e
theorem Ext.set {l:Addr}{H:Hp}{o:HO}:Ext l H (upd H l o):=λc u n e=>by rw[Zag n];exact e
theorem Same.ext {l:Addr}{H H':Hp}(s:Same H H'):Ext l H H':=λc o _ e=>s c o e
theorem Same.new {p:Addr}{H:Hp}{o:HO}(h:H p=none):Same H (upd H p o):=λc u e=>by rw[Zag (Zad e h)];exact e
theorem Same.upd {p:Addr}{H H':Hp}{o:HO}(s:Same H H')(h:H p=none):Same H (upd H' p o):=λc u e=>by rw[Zag (Zad e h)];exact s c u e
theorem Ext.upd {l p:Addr}{H H':Hp}{o:HO}(s:Ext l H H')(h:H p=none):Ext l H (upd H' p o):=λc u n e=>by rw[Zag (Zad e h)];exact s c u n e
theorem Ext.free {l p:Addr}{H H':Hp}(s:Ext l H H')(n:p≠l)(h:H' p=none):H p=none:=by
 cases e:H p with
 | none=>rfl
 | some o=>rw[s p o n e] at h;cases h
theorem cx_K {CX:CXT}{P:Program}{w:World}{K:Frag}{mg:Str->Option Value}{base:Heap}{N:List Str}{qual:Str}{scope:Scope}{f:Addr}{cd:Value}{A:Around}{outer:List Env}{s:Shared}{H:Hp}{E:XK}:(Zmb CX P w K mg base N qual scope f cd A outer s H E).K=K:=rfl
theorem in_K {X:Cx}{N:List Str}{scope:Scope}{cl:List (Str×Addr)}{s:Shared}{H:Hp}{fp:List Addr}:(Zb6 X N scope cl s H fp).K=X.K:=rfl
theorem Zuz {X:Cx}{E:Value->Shared->Prop}:(X.wish E).K=X.K:=rfl
theorem Zm6 {X:Cx}{x:Str}{i:Int}{pos:Pos}(hg:Gl X x)(hm:∃ t,X.mg x=some (.int i t))(hd:(x == ("__debug__" : Str))=false:=by decide):PE X (.Name x pos) (tC (.int i)):=by
 obtain⟨t,e⟩:=hm;exact pe_glob hg e ⟨t,rfl⟩ hd
theorem Zbp {α:Type}{xs:List α}{i:Int}{v:α}(h0:0<=i)(h:xs[i.toNat]?=some v):atI xs i=some v:=by
 have e:((i.toNat:Nat):Int)=i:=Jcr h0;rw[<- e];exact atI_nat h
noncomputable def Zbt:Expr->Bool
 | .Starred _ _=>true
 | _=>false
theorem Zbi {e:Expr}{es:List Expr}{env:Env}(h:Zbt e=false):starEach (e::es) env=(false,eval e env)::starEach es env:=by
 cases e <;> first|rfl|cases h
theorem Zdj {pos:Pos}{env:Env}:∀ {es:List Expr},es.all (λx=>!Zbt x)=true->(backTo pos (starEach es env)).any (·.1)=false
 | [],_=>rfl
 | e::es,h=>by
  rw[Jhn,Jbv] at h;have h1:Zbt e=false:=by simpa using h.1
  rw[Zbi h1];show ((false,_).1 || (backTo pos (starEach es env)).any (·.1))=false;rw[Zdj h.2];rfl
section
variable {X:Cx}{x:Str}{p pos:Pos}{e:Expr}{es:List Expr}{te:TE}{t:TA}{id T:String}{r:List V->Hp->VK->Prop}
theorem pa_c (ha:PE X e te)(hr:PA X es t)(h:Zbt e=false:=by rfl):PA X (e::es) (Ze1 te t):=pa_cons ha hr (Zbi h)
theorem Za4 (hc:Zb9 X (.builtin id) r)(hg:Gl X x)(hm:X.mg x=none)(hv:bootBuiltins x=some (.builtin id))(ha:PA X (e::es) t)(h:Zbt e=false:=by rfl)(h2:es.all (λx=>!Zbt x)=true:=by rfl)(hn:x ≠ "__name__" := by decide)(hdb:(x == ("__debug__" : Str))=false:=by decide):PE X (.Call (.Name x p) (e::es) [] pos) (tCB r t):=Ztr hc hg hm hv ha hn hdb (Zbi h) (Zdj h2)
theorem Zc5 (hc:Zb9 X (.type T) r)(hg:Gl X x)(hm:X.mg x=none)(hv:bootBuiltins x=some (.type T))(ha:PA X (e::es) t)(h:Zbt e=false:=by rfl)(h2:es.all (λx=>!Zbt x)=true:=by rfl)(hn:x ≠ "__name__" := by decide)(hdb:(x == ("__debug__" : Str))=false:=by decide):PE X (.Call (.Name x p) (e::es) [] pos) (tCB r t):=Zqs hc hg hm hv ha hn hdb (Zbi h) (Zdj h2)
theorem Zco {k:Nat}{sp:Sp}(C:Cal X.prog X.w X.K X.mg X.base x k sp)(hr:Room k X.A)(hg:Gl X x)(ha:PA X (e::es) t)(h:Zbt e=false:=by rfl)(h2:es.all (λx=>!Zbt x)=true:=by rfl)(hdb:(x == ("__debug__" : Str))=false:=by decide):PE X (.Call (.Name x p) (e::es) [] pos) (Zlc sp [] E0 t):=pe_cal C hr hg ha hdb (Zbi h) (Zdj h2)
theorem pe_n {C:Addr}{k:Nat}{sp:Sp}(M:CalI X.prog X.w X.K X.mg X.base x C k sp)(hr:Room (k+1) X.A)(hg:Gl X x)(ha:PA X (e::es) t)(h:Zbt e=false:=by rfl)(h2:es.all (λx=>!Zbt x)=true:=by rfl)(hdb:(x == ("__debug__" : Str))=false:=by decide):PE X (.Call (.Name x p) (e::es) [] pos) (Zpl C sp [] E0 t):=pe_new M hr hg ha hdb (Zbi h) (Zdj h2)
theorem Zgk {tg a:Expr}{ta:TA}(hg:Gl X "range")(hm:X.mg "range" = none)(ha:PA X [a] ta)(h:Zbt a=false:=by rfl):PI X tg (.Call (.Name "range" p) [a] [] pos) (Zoz ta):=Zqm hg hm ha (Zbi h)
theorem Zqn {tg a b:Expr}{ta:TA}(hg:Gl X "range")(hm:X.mg "range" = none)(ha:PA X [a,b] ta)(h:Zbt a=false:=by rfl)(h2:Zbt b=false:=by rfl):PI X tg (.Call (.Name "range" p) [a,b] [] pos) (Zuc ta):=
 Zql hg hm ha (by rw[Zbi h,Zbi h2];rfl) (Zbi h2)
end
theorem scal_ii {i j:Int}:scal (.int i) (.int j)=true:=rfl
theorem scal_bb {i j:Bool}:scal (.bl i) (.bl j)=true:=rfl
theorem scal_ss {i j:Str}:scal (.str i) (.str j)=true:=rfl
theorem Zls {X:Cx}{x:Str}{n:String}{pos:Pos}(hg:Gl X x)(hm:X.mg x=none)(hv:bootBuiltins x=some (.type n))(hn:x ≠ "__name__" := by decide)(hd:(x == ("__debug__" : Str))=false:=by decide):PE X (.Name x pos) (tC (.ty n)):=pe_bltn (v:=.ty n) hg hm hv rfl hn hd
section
variable {X:Cx}(K:Frag)(hK:X.K=K)
include hK
theorem Zkx:Zb9 X (.builtin "isinstance") (λxs H Q=>∃ x y c t b,xs=[x,y]/\cV y=some c/\TyOf K H x t/\PySem.W.kitOne K t c=some b/\Q (.bl b) H):=by subst hK;exact Zbv
theorem Zcr:Zb9 X (.builtin "len") (λxs H Q=>∃ p ys,xs=[.ref p]/\(SqL K H p ys\/SqT K H p ys)/\Q (.int ys.length) H):=by subst hK;exact Zaj
theorem Zfg:Zb9 X (.type "list") (λxs H Q=>∃ p ys,xs=[.ref p]/\(SqL K H p ys\/SqT K H p ys)/\∀ l,H l=none->Q (.ref l) (upd H l (.lst ys))):=by subst hK;exact Zcc
theorem Znn:IxR X (rIxL K):=by subst hK;exact Zaw
theorem Zrs:IxR X (rIxT K):=by subst hK;exact Zgf
theorem Zqq {e:Expr}{f:Str}{pos:Pos}{ta:TE}(he:PE X e ta)(hb:attributeBase e f X.env (eval e X.env)=eval e X.env):PE X (.Attribute e f pos) (tFld K ta f):=by subst hK;exact Zqr he hb
theorem Zm5 {tg l:Expr}{tl:TE}(hl:PE X l tl):PI X tg l (Zgn K tl):=by subst hK;exact Zav hl
theorem pi_tupK {tg l:Expr}{tl:TE}(hl:PE X l tl):PI X tg l (iTup K tl):=by subst hK;exact Zvf hl
theorem Zig:OpR X (compareOp .In) (rIn K false):=by subst hK;exact Zhp
theorem Zjg:OpR X (compareOp .NotIn) (rIn K true):=by subst hK;exact Zkc
end
theorem cutI {c:TT}{A B:TS}{D:Ends}{σ:St}{H:Hp}(h:∀ A',A'=A->Zu1 c A' B D σ H):Zu1 c A B D σ H:=h A rfl
end L2
set_option maxHeartbeats 1000000
namespace HT
open PySem PySem.Spec PyProof.Rows
section
variable {prog:Program}{w:World}{A:Around}{E:Value->Shared->Prop}{s:Shared}
end
end HT
namespace L2
open PySem PySem.Spec PyProof.Rows
section
variable {X:Cx}{e es:Expr}{te ts:TE}{pos p2:Pos}
end
end L2
namespace L2
open PySem PySem.Spec PyProof.Rows
section
variable {X:Cx}
def rGetL (K:Frag):V->V->Hp->VK->Prop:=λx y H Q=>∃ p xs i v,x=.ref p/\y=.int i/\0<=i/\SqL K H p xs/\xs[i.toNat]?=some v/\Q v H
theorem Znr:PGet X (rGetL X.K):=by
 intro pins s σ H x y v u Q I rx ry h;refine Zce h λp xs i z e91 e92 h0 e93=>?_;clear h;obtain rfl:=e91;obtain rfl:=e92;refine Zap e93 λhq he q=>?_;clear e93;cases rx;obtain⟨t,rfl⟩:=ry;refine Zau (I.list hq) λits r pl hz=>?_;refine Zae (r.get he) λw ew rw'=>?_;have hl:=r.length;have hn:=Zil;have hi:i.toNat<xs.length:=(Jak.mp he).1;exact wpAny_getItem_list pl.isList h0 ∅ (by simpa using ew) ⟨z,H,I,rw',q⟩
end
def Big (x:Int):Prop:=-(100000000000000000000000000000000)<x/\x<100000000000000000000000000000000
theorem Big.mul {x y:Int}(hx:Big x)(hy:Big y):IntMulOk x y:=by
 have e:(2:Nat) ^ 200 > 100000000000000000000000000000000:=⋯
 have b:∀ {z:Int},Big z->Builtin.Int.intBits z<=2 ^ 20:=λ{z} h=>by
  have hz:z.natAbs<2 ^ 200:=by have:=h.1;have:=h.2;omega
  unfold Builtin.Int.intBits;split
  .exact Jbp _
  .rename_i h0
   have:z.natAbs.log2<200:=(Nat.log2_lt (by intro c;apply h0;simpa using c)).mpr hz;have e2:(2:Nat) ^ 20=1048576:=⇑0
   rw[e2];omega
 exact .of_bits (b hx) (b hy)
noncomputable def atZ (ns:List Int)(i:Int):Int:=ns.getD i.toNat 0
theorem Zc4 {ns:List Int}{i:Int}(h:i.toNat<ns.length):(ns.map V.int)[i.toNat]?=some (.int (atZ ns i)):=by
 rw[Jay,Jac h];simp[atZ,h]
theorem atZ_mem {ns:List Int}{i:Int}(h:i.toNat<ns.length):atZ ns i∈ns:=by
 unfold atZ;rw[Jax,Jac h];exact Jcb h
theorem Zju {ns:List Int}{k i v:Int}(h:k.toNat<ns.length)(h0:0<=k)(hi:0<=i):atZ (ns.set k.toNat v) i=if i=k then v else atZ ns i:=by
 unfold atZ;rw[Jax,List.getElem?_set];by_cases e:i=k
 .subst e;simp[h]
 .rw [if_neg e,if_neg ∅,Jax]
noncomputable def arrZ (a b:List Int):List (Int×Int)->Int
 | []=>0
 | q::ps=>arrZ a b ps+atZ a q.1*atZ b q.2
noncomputable def Zk2 (a b:List Int)(ps:List (Int×Int)):Int:=arrZ a b ps.reverse
theorem Zo7 (a b:List Int)(ps:List (Int×Int))(q:Int×Int):Zk2 a b (ps++[q])=Zk2 a b ps+atZ a q.1*atZ b q.2:=by
 unfold Zk2;rw[Jfc];rfl
noncomputable def dotZ (a b:List Int):Nat->Int
 | 0=>0
 | n+1=>dotZ a b n+atZ a n*atZ b n
noncomputable def Zr5 (ps:List (Int×Int))(a b:List Int):Int:=dotZ a b a.length-Zk2 a b ps
noncomputable def mirS (ns:List Int)(k:Int):List (Int×Int)->Int
 | []=>0
 | q::ps=>mirS ns k ps+(if q.1=k then atZ ns q.2 else if q.2=k then atZ ns q.1 else 0)
noncomputable def Zk7 (ns:List Int)(k:Int)(ps:List (Int×Int)):Int:=mirS ns k ps.reverse
theorem Zrg (ns:List Int)(k:Int)(ps:List (Int×Int))(q:Int×Int):Zk7 ns k (ps++[q])=Zk7 ns k ps+(if q.1=k then atZ ns q.2 else if q.2=k then atZ ns q.1 else 0):=by
 unfold Zk7;rw[Jfc];rfl
noncomputable def Zgm (k:Int)(ns:List Int)(ps:List (Int×Int)):List Int:=ns.set k.toNat (Zk7 ns k ps-atZ ns k)
theorem Zjv {ns:List Int}(h:∀ n∈ns,Big n){i:Int}(hi:i.toNat<ns.length):Big (atZ ns i):=h _ (atZ_mem hi)
end L2
namespace L2
open PySem PySem.Spec PyProof.Rows
section
variable {X:Cx}{pins:List (Addr×Obj)}{σ:St}{H:Hp}{s:Shared}{h':Heap}
end
section
variable {X:Cx}
theorem Zn1 (hc:X.calm=true):Zb9 X (.builtin "sum") (λxs H Q=>∃ (p:Addr) (ns:List Int),xs=[.ref p]/\SqL X.K H p (ns.map V.int)/\Q (.int (preSum (λi=>ns.getD i 0) ns.length)) H):=by
 intro pins s σ H xs us Q I r h;refine Zbf h λp ns e910 hq q=>?_;clear h;obtain rfl:=e910;refine Zae (Zem r) λu e911 rx=>?_;obtain rfl:=e911;cases rx;refine Zau (I.list hq) λits rv pl hz=>?_;have hl:=rv.length;rw[Jaa] at hl;refine call_sum_walkG (Jec pl.isList ?_);have hne:p≠s.heap.objs.size:=λe=>by
  refine Zcl pl λo n ho _=>?_;clear pl;exact absurd (Jar ho) (by rw[e];exact Jch _)
 refine xI7_1 s.heap.objs.size _ _ _ _ _ (λi=>ns.getD i 0) ⟨rfl,Jhs (A:=X.A.in1) (I.ok.hd hc) _ p hne its.toArray,⟨⟨_,Ja1 _ rfl,rfl,rfl⟩,pl.isList.at λo e=>Jad _ e⟩,?_,?_,λh' tk t' kp=>?_⟩
 .intro b hb;simp at hb;rcases hb with rfl|rfl
  .rw [Jcs];exact Jej _
  .rw [Jcs];refine Zae pl.isList λo ho _=>?_;exact Jce (Jar ho)
 .intro i v hv;have hv:its[i]?=some v:=by simpa using hv
  have hi:i<ns.length:=by rw[hl];exact (Jak.mp hv).1
  obtain⟨u,hu,ru⟩:=rv.get (i:=i) (x:=.int ns[i]) (by rw[Jay,Jac hi];rfl);rw[hv] at hu;cases hu;obtain⟨t,rfl⟩:=ru;exact⟨t,by simp[hi]⟩
 .rw [Jav,<- hl];have f:=I.fpOk (H':=H) (Jaf s.heap.objs.size) (I.hok.fresh (Jaf _));exact Za2 (.int _) H ⟨(I.kept (h':=s.heap.push { cls:=.type "list_iterator",data:=.fields #[.ref p,.int 0 0] }) (t':=s.toks) λb o e=>Jad _ e).turned (it:=s.heap.objs.size) (t':=tk) (λb o hb e=>kp b o (by simpa using hb) e) f.1 f.2.1 f.2.2.2.1 f.2.2.2.2.1 f.2.2.2.2.2,⟨t',rfl⟩,q⟩
end
section
variable {K:Frag}{a b D:Addr}{xs ys:List V}{g:TG}{tt:TT}{te:TE}{k:Nat}{fr:List (Str×Nat)}{σ:St}{H1:Hp}{Q:VK}
end
section
variable {κ:Type}[DecidableEq κ]
noncomputable def Zey (kvs:List (κ×V))(k:κ):Option V:=(kvs.find? λkv=>decide (kv.1=k)).map (·.2)
noncomputable def Zez (kvs:List (κ×V))(k:κ)(v:V):List (κ×V):=
 if (kvs.any λkv=>decide (kv.1=k))=true then kvs.map (λkv=>if kv.1=k then (kv.1,v) else kv) else kvs++[(k,v)]
theorem Zbw {p:κ×V}{r:List (κ×V)}{k:κ}(e:p.1=k):Zey (p::r) k=some p.2:=by simp[Zey,Jex,e]
theorem Zbx {p:κ×V}{r:List (κ×V)}{k:κ}(e:¬ p.1=k):Zey (p::r) k=Zey r k:=by simp[Zey,Jex,e]
theorem Zef (k:κ):∀ kvs:List (κ×V),(kvs.any λkv=>decide (kv.1=k))=(Zey kvs k).isSome
 | []=>rfl
 | p::r=>by
  rw[Je0];by_cases e:p.1=k
  .simp only [Zbw e,Jam e,Bool.true_or,Option.isSome_some]
  .rw [Zbx e,Jcg e,Bool.false_or];exact Zef k r
theorem Zmq (k j:κ)(y:V):∀ kvs:List (κ×V),Zey (kvs.map λkv=>if kv.1=k then (kv.1,y) else kv) j=(Zey kvs j).map λx=>if j=k then y else x
 | []=>rfl
 | p::r=>by
  have ih:=Zmq k j y r;rw[Jaw];by_cases h:p.1=k
  .rw [if_pos h];by_cases e:p.1=j
   .rw [Zbw (p:=(p.1,y)) e,Zbw e,Jfl,if_pos (e.symm.trans h)]
   .rw [Zbx (p:=(p.1,y)) e,Zbx e,ih]
  .rw [if_neg h];by_cases e:p.1=j
   .rw [Zbw (p:=p) e,Zbw e,Jfl,if_neg (λz=>h (e.trans z))]
   .rw [Zbx (p:=p) e,Zbx e,ih]
theorem Zj0 (k j:κ)(y:V):∀ kvs:List (κ×V),Zey kvs k=none->Zey (kvs++[(k,y)]) j=if j=k then some y else Zey kvs j
 | [],_=>by
  by_cases e:k=j
  .rw [if_pos e.symm];exact Zbw (p:=(k,y)) e
  .rw [if_neg (λz=>e z.symm)];exact Zbx (p:=(k,y)) e
 | p::r,hn=>by
  rw[List.cons_append];have hk:¬ p.1=k:=λz=>by rw[Zbw z] at hn;cases hn
  rw[Zbx hk] at hn;have ih:=Zj0 k j y r hn;by_cases e:p.1=j
  .rw [Zbw e,Zbw e,if_neg (λz=>hk (e.trans z))]
  .rw [Zbx e,Zbx e,ih]
theorem Ze0 (kvs:List (κ×V))(k j:κ)(y:V):Zey (Zez kvs k y) j=if j=k then some y else Zey kvs j:=by
 unfold Zez;by_cases a:(kvs.any λkv=>decide (kv.1=k))=true
 .rw [if_pos a,Zmq];rw[Zef] at a;by_cases e:j=k
  .obtain ⟨x,hx⟩:=Jed.mp a;rw[if_pos e,e,hx,Jfl,if_pos rfl]
  .rw [if_neg e];cases Zey kvs j with
   | none=>rfl
   | some x=>rw[Jfl,if_neg e]
 .rw [if_neg a];refine Zj0 k j y kvs ?_;rw[Zef] at a;cases q:Zey kvs k with
  | none=>rfl
  | some x=>rw[q] at a;exact (a rfl).elim
theorem Zdq (kvs:List (κ×V))(k:κ)(v:V):(Zez kvs k v).length<=kvs.length+1:=by
 unfold Zez;split
 .rw [Jaa];omega
 .rw [Jaq,Jau,Jfm];omega
theorem Zjb {kvs:List (κ×V)}{k:κ}(v:V)(h:Zey kvs k=none):Zez kvs k v=kvs++[(k,v)]:=by
 unfold Zez;rw[Zef,h];exact if_neg ⇑0
theorem RelO.isSome_eq {o:Option V}{u:Option Value}(r:RelO o u):o.isSome=u.isSome:=by
 cases o with
 | none=>cases u with
  | none=>rfl
  | some _=>exact (show False from r).elim
 | some _=>cases u with
  | none=>exact (show False from r).elim
  | some _=>rfl
theorem KV.val {kvs:List (κ×V)}{vs:List (κ×Value)}(r:KV kvs vs)(k:κ):RelO (Zey kvs k) (valueAt vs k):=by
 unfold KV at r
 induction r with
 | nil=>exact True.intro
 | @cons p q ps qs h t ih=>
  obtain⟨h1,h2⟩:=h;by_cases e:p.1=k
  .have e':q.1=k:=h1.symm.trans e;have b:valueAt (q::qs) k=some q.2:=by simp[valueAt,Jex,e']
   rw[Zbw e,b];exact h2
  .have e':¬ q.1=k:=λz=>e (h1.trans z);have b:valueAt (q::qs) k=valueAt qs k:=by simp[valueAt,Jex,e']
   rw[Zbx e,b];exact ih
theorem KV.any {kvs:List (κ×V)}{vs:List (κ×Value)}(r:KV kvs vs)(k:κ):(kvs.any λkv=>decide (kv.1=k))=vs.any λkv=>decide (kv.1=k):=by
 unfold KV at r
 induction r with
 | nil=>rfl
 | cons h t ih=>rw[Je0,Je0,ih,h.1]
theorem KV.repl {kvs:List (κ×V)}{vs:List (κ×Value)}(r:KV kvs vs)(k:κ){y:V}{u:Value}(ry:RelV y u):
  KV (kvs.map λkv=>if kv.1=k then (kv.1,y) else kv) (vs.map λkv=>if kv.1=k then (kv.1,u) else kv):=by
 unfold KV at r ⊢
 induction r with
 | nil=>exact .nil
 | @cons p q ps qs h t ih=>
  rw[Jaw,Jaw];refine .cons ?_ ih;obtain⟨h1,h2⟩:=h;by_cases e:p.1=k
  .rw [if_pos e,if_pos (h1.symm.trans e)];exact⟨h1,ry⟩
  .rw [if_neg e,if_neg (λz=>e (h1.trans z))];exact⟨h1,h2⟩
theorem KV.put {kvs:List (κ×V)}{vs:List (κ×Value)}(r:KV kvs vs)(k:κ){y:V}{u:Value}(ry:RelV y u):KV (Zez kvs k y) (stored vs k u):=by
 unfold Zez stored;rw[r.any k];by_cases e:(vs.any λkv=>decide (kv.1=k))=true
 .rw [if_pos e,if_pos e];exact r.repl k ry
 .rw [if_neg e,if_neg e];exact Paired.snoc r ⟨rfl,ry⟩
theorem KV.length {kvs:List (κ×V)}{vs:List (κ×Value)}(r:KV kvs vs):kvs.length=vs.length:=Jhm r
end
theorem Zl4 {P:Program}{w:World}{k:Key}{u:Value}(r:RelV (kV k) u):(Zbr P w).is k u=true:=by
 cases k with
 | inl i=>obtain⟨t,e⟩:=(show ∃ t,u=Value.int i t from r);subst e;exact Zlz P w i t
 | inr x=>obtain⟨t,e⟩:=(show ∃ t,u=Value.str x t from r);subst e;exact Zly P w x t
theorem Zkk {P:Program}{w:World}:∀ {ks:List Key} {us:List Value},Vals (ks.map kV) us->ItemsAre (Zbr P w) ks us
 | [],_,r=>by rw[Jf8] at r;cases r;exact .nil
 | k::ks,_,r=>by
  rw[Jaw] at r;cases r with
  | cons h t=>exact .cons (Zl4 h) (Zkk t)
abbrev KT (H:Hp):List (List Key×V)->List (List Key×Addr×Value)->Prop:=Paired λp q=>p.1=q.1/\H q.2.1=some (.tup (p.1.map kV))/\RelV p.2 q.2.2
theorem KT.val {H:Hp}{kvs:List (List Key×V)}{xs:List (List Key×Addr×Value)}(r:KT H kvs xs)(k:List Key):RelO (Zey kvs k) ((atKey xs k).map (·.2)):=by
 induction r with
 | nil=>exact True.intro
 | @cons p q ps qs h t ih=>
  refine Zap h λh1 _ h2=>?_;clear h;by_cases e:p.1=k
  .have e':q.1=k:=h1.symm.trans e;have b:atKey (q::qs) k=some q.2:=by simp[atKey,Jex,e']
   rw[Zbw e,b];exact h2
  .have e':¬ q.1=k:=λz=>e (h1.trans z);have b:atKey (q::qs) k=atKey qs k:=by simp[atKey,Jex,e']
   rw[Zbx e,b];exact ih
theorem KT.repl {H:Hp}{kvs:List (List Key×V)}{xs:List (List Key×Addr×Value)}(r:KT H kvs xs)(k:List Key){y:V}{u:Value}(ry:RelV y u):
  KT H (kvs.map λkv=>if kv.1=k then (kv.1,y) else kv) (xs.map (putAt k u)):=by
 induction r with
 | nil=>exact .nil
 | @cons p q ps qs h t ih=>
  rw[Jaw,Jaw];refine .cons ?_ ih;refine Zap h λh1 h2 h3=>?_;clear h;unfold putAt;by_cases e:p.1=k
  .rw [if_pos e,if_pos (h1.symm.trans e)];exact⟨h1,h2,ry⟩
  .rw [if_neg e,if_neg (λz=>e (h1.trans z))];exact⟨h1,h2,h3⟩
theorem KT.put {H:Hp}{kvs:List (List Key×V)}{xs:List (List Key×Addr×Value)}(r:KT H kvs xs)(k:List Key){b:Addr}{y:V}{u:Value}(hb:H b=some (.tup (k.map kV)))(ry:RelV y u):
  KT H (Zez kvs k y) (storedH xs k b u):=by
 have e:(kvs.any λkv=>decide (kv.1=k))=(atKey xs k).isSome:=by
  rw[Zef,(r.val k).isSome_eq,Jhe]
 unfold Zez storedH;rw[e];by_cases q:(atKey xs k).isSome=true
 .rw [if_pos q,if_pos q];exact r.repl k ry
 .rw [if_neg q,if_neg q];exact Paired.snoc r ⟨rfl,hb,ry⟩
theorem KT.keeps {H H':Hp}{kvs:List (List Key×V)}{xs:List (List Key×Addr×Value)}(r:KT H kvs xs)(ht:∀ b ys,H b=some (.tup ys)->H' b=some (.tup ys)):KT H' kvs xs:=
 Paired.mapP r λ_ _ z=>⟨z.1,ht _ _ z.2.1,z.2.2⟩
section
variable {P:Program}{w:World}{H:Hp}{h:Heap}{a:Addr}
theorem rd_of {u:HO}(ok:HOk P w H h)(e:Rd H a u):ObjOk P w H h a u:=e.ok ok
theorem Zr9 {kvs:List (Key×V)}(ok:HOk P w H h)(e:Rd H a (.dK kvs)):kvs.length<=sizeLine/\(a == sysModules)=false/\∃ vs,KV kvs vs/\h.DictOf (Zbr P w) a vs:=
 show ObjOk P w H h a (.dK kvs) from rd_of ok e
theorem dk_of {kvs:List (Key×V)}(ok:HOk P w H h)(e:H a=some (.dK kvs)):kvs.length<=sizeLine/\(a == sysModules)=false/\∃ vs,KV kvs vs/\h.DictOf (Zbr P w) a vs:=Zr9 ok (.inl e)
theorem Zki {ks:List Key}(ok:HOk P w H h)(e:H a=some (.tup (ks.map kV))):(tupleKind (Zbr P w)).is h ks a:=by
 obtain⟨_,its,r,o,h1,h2,n,h3⟩:=(show ObjOk P w H h a (.tup (ks.map kV)) from ok a _ e)
 exact Zcs o its.toArray n ⟨h1,h2,h3,by simpa using Zkk r⟩
theorem Zr7 {kvs:List (List Key×V)}(ok:HOk P w H h)(e:Rd H a (.dT kvs)):kvs.length<=sizeLine/\(a == sysModules)=false /\
  ∃ xs,KT H kvs xs/\h.DictOfH (tupleKind (Zbr P w)) a xs:=by
 refine Zap (show ObjOk P w H h a (.dT kvs) from rd_of ok e) λz y e91=>?_;obtain⟨xs,r,o,es,ep,h1,h2,h3,h4,h5⟩:=e91;refine⟨z,y,xs,r,o,es,ep,h1,h2,h3,h4,λx hx=>?_,h5⟩;have all:∀ {l:List (List Key×V)} {m:List (List Key×Addr×Value)},KT H l m->∀ x∈m,(tupleKind (Zbr P w)).is h x.1 x.2.1:=by
  intro l m q
  induction q with
  | nil=>intro x hx;exact nomatch hx
  | @cons p q ps qs hq t ih=>
   intro x hx;rcases Jao.mp hx with e|hx
   .subst e;exact Zki ok (by rw[<- hq.1];exact hq.2.1)
   .exact ih x hx
 exact all r x hx
theorem dt_of {kvs:List (List Key×V)}(ok:HOk P w H h)(e:H a=some (.dT kvs)):kvs.length<=sizeLine/\(a == sysModules)=false /\
  ∃ xs,KT H kvs xs/\h.DictOfH (tupleKind (Zbr P w)) a xs:=Zr7 ok (.inl e)
end
def DGet (H:Hp)(a:Addr)(y:V)(r:Option V):Prop:=
 (∃ kvs k,Rd H a (.dK kvs)/\y=kV k/\r=Zey kvs k)\/∃ kvs k b,Rd H a (.dT kvs)/\y=.ref b/\H b=some (.tup (k.map kV))/\r=Zey kvs k
def DPut (H:Hp)(a:Addr)(y v:V)(H':Hp):Prop:=
 (∃ kvs k,H a=some (.dK kvs)/\y=kV k/\kvs.length<sizeLine/\H'=upd H a (.dK (Zez kvs k v))) \/
 ∃ kvs k b,H a=some (.dT kvs)/\y=.ref b/\H b=some (.tup (k.map kV))/\kvs.length<sizeLine/\H'=upd H a (.dT (Zez kvs k v))
theorem DGet.k {H:Hp}{a:Addr}{kvs:List (Key×V)}{k:Key}(e:H a=some (.dK kvs)):DGet H a (kV k) (Zey kvs k):=.inl ⟨kvs,k,.inl e,rfl,rfl⟩
theorem DGet.t {H:Hp}{a b:Addr}{kvs:List (List Key×V)}{k:List Key}(e:H a=some (.dT kvs))(eb:H b=some (.tup (k.map kV))):DGet H a (.ref b) (Zey kvs k):=.inr ⟨kvs,k,b,.inl e,rfl,eb,rfl⟩
theorem DPut.k {H:Hp}{a:Addr}{kvs:List (Key×V)}{k:Key}{v:V}(e:H a=some (.dK kvs))(hl:kvs.length<sizeLine):DPut H a (kV k) v (upd H a (.dK (Zez kvs k v))):=.inl ⟨kvs,k,e,rfl,hl,rfl⟩
theorem DPut.t {H:Hp}{a b:Addr}{kvs:List (List Key×V)}{k:List Key}{v:V}(e:H a=some (.dT kvs))(eb:H b=some (.tup (k.map kV)))(hl:kvs.length<sizeLine):
  DPut H a (.ref b) v (upd H a (.dT (Zez kvs k v))):=.inr ⟨kvs,k,b,e,rfl,eb,hl,rfl⟩
section
variable {X:Cx}{pins:List (Addr×Obj)}{σ:St}{H:Hp}{s:Shared}{a:Addr}{y v:V}{u r:Value}{o:Option V}{A:Around}{E:Value->Shared->Prop}
theorem Inv.big (I:Inv X pins σ H s):sysModules<s.heap.objs.size:=by
 have h:mainGlobals<s.heap.objs.size:=(I.mod.glob.keeps I.bk).lt;exact Nat.lt_trans ⇑0 h
theorem Zsg {Q:Value->Shared->Prop}(hu:A.units+1<cLine)(I:Inv X pins σ H s)(g:DGet H a y (some v))(ry:RelV y u)(h:∀ w' s',Inv X pins σ H s'->RelV v w'->Q w' s'):
  wpAny (model X.prog X.w) A (getItem (.ref a) u) Q E s:=by
 rcases g with ⟨kvs,k,e,ey,l⟩|⟨kvs,k,b,e,ey,eb,l⟩
 .subst ey;refine Zap (Zr9 I.hok e) λz hd e92=>?_;obtain⟨vs,rel,dd⟩:=e92;obtain⟨w',hw,rw'⟩:=RelO.some_of (v:=v) (o:=valueAt vs k) (by rw[l];exact rel.val k);exact wpAny_getItem_of (Zl4 ry) dd.mapOf hw (h w' _ (I.tok _) rw')
 .subst ey;cases (show u=Value.ref b from ry);refine Zap (Zr7 I.hok e) λz hd e93=>?_;obtain⟨xs,rel,dd⟩:=e93;obtain⟨w',hw,rw'⟩:=RelO.some_of (v:=v) (o:=(atKey xs k).map (·.2)) (by rw[l];exact rel.val k);refine Zae (Jcv.mp hw) λp hp hp2=>?_;refine wpAny_getItem_heap (Jfn hu) (Zki I.hok eb) dd hp ?_;rw[hp2];exact h w' _ (I.tok _) rw'
theorem d_in {Q:Value->Shared->Prop}(hu:A.units+1<cLine)(I:Inv X pins σ H s)(g:DGet H a y o)(ry:RelV y u)(h:∀ s',Inv X pins σ H s'->Q (.bool o.isSome) s'):
  wpAny (model X.prog X.w) A (compareOp .In u (.ref a)) Q E s:=by
 rcases g with ⟨kvs,k,e,ey,l⟩|⟨kvs,k,b,e,ey,eb,l⟩
 .subst ey;refine Zap (Zr9 I.hok e) λz hd e94=>?_;obtain⟨vs,rel,dd⟩:=e94;refine wpAny_in_of (Zl4 ry) hd dd.mapOf ?_;rw[<- (rel.val k).isSome_eq,<- l];exact h _ (I.tok _)
 .subst ey;cases (show u=Value.ref b from ry);refine Zap (Zr7 I.hok e) λz hd e95=>?_;obtain⟨xs,rel,dd⟩:=e95;refine wpAny_in_heap (Jfn hu) (Zki I.hok eb) hd dd ?_;have q:=(rel.val k).isSome_eq;rw[Jhe] at q;rw[<- q,<- l];exact h _ (I.tok _)
theorem d_notIn {Q:Value->Shared->Prop}(hu:A.units+1<cLine)(I:Inv X pins σ H s)(g:DGet H a y o)(ry:RelV y u)(h:∀ s',Inv X pins σ H s'->Q (.bool (!o.isSome)) s'):
  wpAny (model X.prog X.w) A (compareOp .NotIn u (.ref a)) Q E s:=by
 rcases g with ⟨kvs,k,e,ey,l⟩|⟨kvs,k,b,e,ey,eb,l⟩
 .subst ey;refine Zap (Zr9 I.hok e) λz hd e96=>?_;obtain⟨vs,rel,dd⟩:=e96;refine wpAny_notIn_of (Zl4 ry) hd dd.mapOf ?_;rw[<- (rel.val k).isSome_eq,<- l];exact h _ (I.tok _)
 .subst ey;cases (show u=Value.ref b from ry);refine Zap (Zr7 I.hok e) λz hd e97=>?_;obtain⟨xs,rel,dd⟩:=e97;refine wpAny_notIn_heap (Jfn hu) (Zki I.hok eb) hd dd ?_;have q:=(rel.val k).isSome_eq;rw[Jhe] at q;rw[<- q,<- l];exact h _ (I.tok _)
theorem Zjn {h':Heap}{t':Nat}{ob:HO}(I:Inv X pins σ H s)(mu:Mut (H a))(hs:Heap.SameBut a s.heap h')(he:∃ q,h'.get? a=some q)(new:ObjOk X.prog X.w (upd H a ob) h' a ob):
  Inv X pins σ (upd H a ob) { s with heap:=h',toks:=t' }:=
 I.write (x:=a) (e:=a) mu (.inl rfl) (λb q hb z=>(hs.2 b hb).trans z) he new
theorem Zsa {P:Program}{w:World}{H':Hp}{h':Heap}{kvs:List (Key×V)}{vs:List (Key×Value)}(z:kvs.length<=sizeLine)(hd:(a == sysModules)=false)(rel:KV kvs vs)(dd:h'.DictOf (Zbr P w) a vs):
  ObjOk P w H' h' a (.dK kvs):=⟨z,hd,vs,rel,dd⟩
theorem Zsf {H':Hp}{Q:Unit->Shared->Prop}(hu:A.units+1<cLine)(I:Inv X pins σ H s)(g:DPut H a y v H')(ry:RelV y u)(rv:RelV v r)(h:∀ s',Inv X pins σ H' s'->Q () s'):
  wpAny (model X.prog X.w) A (setItem (.ref a) u r) Q E s:=by
 rcases g with ⟨kvs,k,e,ey,l,eH⟩|⟨kvs,k,b,e,ey,eb,l,eH⟩
 .subst ey eH;refine Zap (dk_of I.hok e) λz hd e98=>?_;obtain⟨vs,rel,dd⟩:=e98;have hz:vs.length<=sizeLine:=by rw[<- rel.length];exact z
  have hl:(Zez kvs k v).length<=sizeLine:=by have:=Zdq kvs k v;omega
  refine wpAny_setItem_pairs (hsz:=hz) (Zl4 ry) dd λh' dd' hs=>h _ ?_;have he:∃ q,h'.get? a=some q:=let ⟨q,_,_,hq,_⟩:=dd';⟨q,hq⟩;exact Zjn I (by rw[e];exact True.intro) hs he (Zsa hl hd (rel.put k rv) dd')
 .subst ey eH;cases (show u=Value.ref b from ry);refine Zap (dt_of I.hok e) λz hd e99=>?_;obtain⟨xs,rel,dd⟩:=e99;have hz:xs.length<=sizeLine:=by rw[<- Jhm rel];exact z
  have hl:(Zez kvs k v).length<=sizeLine:=by have:=Zdq kvs k v;omega
  refine wpAny_setItem_heap (hsz:=hz) (Jfn hu) (Zki I.hok eb) dd λh' dd' hs=>h _ ?_;refine Zck dd' λq es ep hq h2 h3 e910=>?_;clear dd';refine Zap e910 λh4 _ h5=>?_;clear e910;refine Zjn I (by rw[e];exact True.intro) hs ⟨q,hq⟩ ⟨hl,hd,_,(rel.put k eb rv).keeps λc ys ec=>?_,q,es,ep,hq,h2,h3,h4,h5⟩;rw[Zag (Zh8 ec e (λz=>nomatch z))];exact ec
end
section
variable {X:Cx}{pins:List (Addr×Obj)}{σ:St}{H:Hp}{s:Shared}{a:Addr}{kvs:List (Key×V)}{k:Key}{u:Value}{A:Around}{E:Value->Shared->Prop}
end
def NoSl (i:Expr):Prop:=∀ ov iv,subscripted i false ov iv=operate [ov,iv] (getItem ov iv)
theorem subD_of {prog:Program}{w:World}{A:Around}{E:Value->Shared->Prop}{s:Shared}{env:Env}{value slice:Expr}{pos:Pos}{T id:String}{Q:Value->Shared->Prop}(hl:typeLookup (.type T) "__getitem__" = pure (some (.builtin id)))(hs:NoSl slice)(h:wpAny (model prog w) A (eval value env) (λo s₁=>wpAny (model prog w) A (eval slice env) (λi s₂=>s₂.TypeIs o T/\wpAny (model prog w) A (getItem o i) Q E s₂) E s₁) E s):
  wpAny (model prog w) A (eval (.Subscript value slice pos) env) Q E s:=by
 refine Subscript_ (Jbw h (λo s₁ h₁=>Jbw h₁ (λi s₂ h₂=>?_) λ_ _ x=>x) λ_ _ x=>x);obtain⟨hT,h₂⟩:=h₂;unfold subscriptTail;refine Jab ?_;rw[getitemInPython_of_ne hT.not_modules];refine Jab (Jfo hT hl ?_);have fin:wpAny (model prog w) A (subscripted slice false o i) (λr s₃=>wpAny (model prog w) A (letTemporaryGo value o r >>= λ_=>pure r) Q E s₃) E s₂:=by
  rw[hs o i];exact wpAny_operating (Jbw h₂ (λr s₃ h₃=>Jab (wpAny_letTemporaryGo (Jae h₃))) λ_ _ x=>x)
 first
  | exact Jae (Jab fin)
  | exact Jab (Jae (Jab fin))
  | exact Jab fin
theorem Zma {X:Cx}{pins:List (Addr×Obj)}{σ:St}{H:Hp}{s:Shared}{a:Addr}{y:V}{o:Option V}(I:Inv X pins σ H s)(g:DGet H a y o):s.TypeIs (.ref a) "dict" := by
 rcases g with ⟨kvs,k,e,_,_⟩|⟨kvs,k,b,e,_,_,_⟩
 .refine Zap (Zr9 I.hok e) λ_ _ e917=>?_;obtain⟨vs,_,dd⟩:=e917;exact dd.typeIs
 .refine Zap (Zr7 I.hok e) λ_ _ e918=>?_;obtain⟨xs,_,dd⟩:=e918;exact dd.typeIs
def tDGet (td ty:TE):TE:=λσ H Q=>td σ H λx H1=>ty σ H1 λy H2=>∃ a v,x=.ref a/\DGet H2 a y (some v)/\Q v H2
def sDPut (td ty tv:TE):TS:=λD σ H=>tv σ H λv H1=>td σ H1 λx H2=>ty σ H2 λy H3=>∃ a H4,x=.ref a/\DPut H3 a y v H4/\D.nx σ H4
section
variable {X:Cx}{o i e value:Expr}{pos pos' tpos:Pos}{td ty tv:TE}
theorem Zer (hu:X.A.units+1<cLine)(ho:PE X o td)(hi:PE X i ty)(hs:NoSl i):PE X (.Subscript o i pos) (tDGet td ty):=by
 intro pins s σ H Q I h;refine subD_of PySem.F.slot_dict_getitem.lookup hs (thn (ho pins s σ H _ I h) λu s1 ⟨x,H1,I1,rx,q1⟩=>thn (hi pins s1 σ H1 _ I1 q1) λiv s2 ⟨y,H2,I2,ry,a,v,ex,g,q2⟩=>?_);subst ex;obtain rfl:u=Value.ref a:=rx;exact⟨Zma I2 g,Zsg hu I2 g ry λw' s3 I3 rw'=>⟨v,H2,I3,rw',q2⟩⟩
theorem Zlr (hu:X.A.units+1<cLine)(ho:PE X o td)(hi:PE X i ty)(hv:PE X value tv)(hs:swapsWith value (some (.Subscript o i pos')) pos.line X.env=pure false):
  PS X (.Assign [.Subscript o i pos'] value pos) (sDPut td ty tv):=by
 intro pins s σ H D I h;refine wpAny_Assign_Subscript (thn (hv pins s σ H _ I h) λr s1 ⟨v,H1,I1,rv,q1⟩=>thn (ho pins s1 σ H1 _ I1 q1) λu s2 ⟨x,H2,I2,rx,q2⟩=>thn (hi pins s2 σ H2 _ I2 q2) λiv s3 ⟨y,H3,I3,ry,a,H4,ex,g,q3⟩=>?_) hs;subst ex;obtain rfl:u=Value.ref a:=rx;exact Zsf hu I3 g ry rv λs4 I4=>⟨σ,H4,I4,q3⟩
end
theorem Znw {P:Program}{w:World}{H:Hp}(h:Heap)(hb:sysModules<h.objs.size):ObjOk P w H (h.push { cls:=.type "dict",data:=.dict #[] }) h.objs.size (.dK []):=
 ⟨Jbp _,Jd0.mpr (Jet (Ja6 hb)),[],.nil,Heap.DictOf.new h⟩
theorem Zul {P:Program}{w:World}{H:Hp}(h:Heap)(hb:sysModules<h.objs.size):ObjOk P w H (h.push { cls:=.type "dict",data:=.dict #[] }) h.objs.size (.dT []):=
 ⟨Jbp _,Jd0.mpr (Jet (Ja6 hb)),[],.nil,_,#[],0,Ja1 _ rfl,⟨rfl,rfl,rfl⟩,rfl,rfl,Jf4⟩
def Zpm:TE:=λ_ H Q=>∀ p,H p=none->Q (.ref p) (upd H p (.dT []))
section
variable {X:Cx}{pos:Pos}
theorem Ztn:PE X (.Dict [] [] pos) Zpm:=λpins s σ H Q I h=>
 wpAny_Dict_empty ⟨.ref s.heap.objs.size,_,I.laid (a:=s.heap.objs.size) (o:=.dT []) (t':=s.toks) (λ_ _ q=>Jad _ q) (Jaf _) (Zul s.heap I.big),rfl,h _ (I.hok.fresh (Jaf _))⟩
end
def Zpk:List (TE×TE)->St->Hp->(List (V×V)->Hp->Prop)->Prop
 | [],_,H,Q=>Q [] H
 | (tk,tv)::r,σ,H,Q=>tk σ H λx H1=>tv σ H1 λy H2=>Zpk r σ H2 λps H3=>Q ((x,y)::ps) H3
abbrev VV:List (V×V)->List (Value×Value)->Prop:=Paired λp q=>RelV p.1 q.1/\RelV p.2 q.2
def PPs (X:Cx)(pos:Pos)(keys:List (Option Expr))(values:List Expr)(trs:List (TE×TE)):Prop:=
 ∀ (pins:List (Addr×Obj)) (s:Shared) (σ:St) (H:Hp) (Q:List (V×V)->Hp->Prop),Inv X pins σ H s->Zpk trs σ H Q->
  wpAny (model X.prog X.w) X.A (evalPairs (pairTrees keys values X.env pos)) (λvs s'=>∃ ps H',Inv X pins σ H' s'/\VV ps vs/\Q ps H') X.xe s
theorem pps_nil {X:Cx}{pos:Pos}:PPs X pos [] [] []:=λpins s σ H Q I h=>pairTrees_nil_walk ⟨[],H,I,.nil,h⟩
theorem Ztl {X:Cx}{pos:Pos}{k v:Expr}{ks:List (Option Expr)}{vs:List Expr}{tk tv:TE}{trs:List (TE×TE)}(hk:PE X k tk)(hv:PE X v tv)(hr:PPs X pos ks vs trs):
  PPs X pos (some k::ks) (v::vs) ((tk,tv)::trs):=λpins s σ H Q I h=>
 pairTrees_cons_walk (thn (hk pins s σ H _ I h) λu s1 ⟨x,H1,I1,rx,q1⟩=>thn (hv pins s1 σ H1 _ I1 q1) λw2 s2 ⟨y,H2,I2,ry,q2⟩=>
  thn (hr pins s2 σ H2 _ I2 q2) λws s3 ⟨ps,H3,I3,rel,q3⟩=>⟨(x,y)::ps,H3,I3,.cons ⟨rx,ry⟩ rel,q3⟩)
noncomputable def Zij (kvs more:List (Key×V)):List (Key×V):=more.foldl (λacc kv=>Zez acc kv.1 kv.2) kvs
theorem KV.merge:∀ {more:List (Key×V)} {rs:List (Key×Value)} {kvs:List (Key×V)} {vs:List (Key×Value)},KV more rs->KV kvs vs->KV (Zij kvs more) (merged vs rs):=by
 intro more rs kvs vs r;unfold KV at r
 induction r generalizing kvs vs with
 | nil=>intro q;exact q
 | @cons p q ps qs h t ih=>
  intro r0;have e:KV (Zez kvs p.1 p.2) (stored vs q.1 q.2):=by
   have:=r0.put p.1 h.2;rw[<- h.1];exact this
  exact ih e
theorem Zfd:∀ (more kvs:List (Key×V)),(Zij kvs more).length<=kvs.length+more.length
 | [],kvs=>by show kvs.length<=kvs.length+0;omega
 | p::r,kvs=>by
  have h1:=Zfd r (Zez kvs p.1 p.2);have h2:=Zdq kvs p.1 p.2;show (Zij (Zez kvs p.1 p.2) r).length<=_;rw[Jau];omega
theorem Zis {P:Program}{w:World}:∀ {kvs:List (Key×V)} {ws:List (Value×Value)},VV (kvs.map λkv=>(kV kv.1,kv.2)) ws->∃ rs,Carries (Zbr P w) ws rs/\KV kvs rs
 | [],_,r=>by rw[Jf8] at r;cases r;exact⟨[],True.intro,.nil⟩
 | p::kvs,_,r=>by
  rw[Jaw] at r;cases r with
  | @cons a b as bs h t=>
   refine Zae (Zis (P:=P) (w:=w) t) λrs c q=>?_;obtain⟨b1,b2⟩:=b;exact⟨(p.1,b2)::rs,⟨Zl4 h.1,rfl,c⟩,.cons ⟨rfl,h.2⟩ q⟩
def tDisp (trs:List (TE×TE)):TE:=λσ H Q=>∀ p,H p=none->Zpk trs σ (upd H p (.dK [])) λps H2=>H2 p=some (.dK [])/\∃ kvs:List (Key×V),ps=kvs.map (λkv=>(kV kv.1,kv.2))/\kvs.length<=15/\Q (.ref p) (upd H2 p (.dK (Zij [] kvs)))
theorem pe_disp {X:Cx}{pos:Pos}{keys:List (Option Expr)}{values:List Expr}{trs:List (TE×TE)}(h:PPs X pos keys values trs)(hall:keys.all (·.isSome)=true)(hl:keys.length=values.length)(h0:keys≠[])(h15:keys.length<=15):PE X (.Dict keys values pos) (tDisp trs):=by
 intro pins s σ H Q I q;have hn:=I.hok.fresh (Jaf s.heap.objs.size);have I1:=I.laid (a:=s.heap.objs.size) (o:=.dK []) (h':=s.heap.push { cls:=.type "dict",data:=.dict #[] }) (t':=s.toks) (λ_ _ q=>Jad _ q) (Jaf _) (Znw s.heap I.big);refine wpAny_Dict_walk (knd:=Zbr X.prog X.w) hall hl h0 h15 (thn (h pins _ σ _ _ I1 (q _ hn)) λws s2 ⟨ps,H2,I2,rel,e,kvs,ep,lk,q2⟩=>?_);subst ep;refine Zae (Zis (P:=X.prog) (w:=X.w) rel) λrs c rk=>?_;refine Zap (dk_of I2.hok e) λz hd e921=>?_;obtain⟨vs0,r0,dd⟩:=e921;cases r0;refine⟨rs,c,dd,λh' dd' hs=>⟨.ref s.heap.objs.size,_,?_,rfl,q2⟩⟩;have hz:(Zij [] kvs).length<=sizeLine:=by
  have h1:=Zfd kvs [];rw[Jfm] at h1;rw[Jc8];omega
 have he:∃ q,h'.get? s.heap.objs.size=some q:=let ⟨q,_,_,hq,_⟩:=dd';⟨q,hq⟩;exact Zjn I2 (by rw[e];exact True.intro) hs he (Zsa hz hd (rk.merge .nil) dd')
structure M1 (X:Cx)(o:Expr)(m:Str)(apos:Pos)(e:Expr)(cpos:Pos):Prop where
 base:attributeBase o m X.env (eval o X.env)=eval o X.env
 few:((backTo cpos (starEach [e] X.env)).all (λx=>!x.1) && (backToKw cpos (keywordEach [] X.env)).all (λx=>x.1.isSome)
  && decide (([e]:List Expr).length+([]:List Keyword).length+(if ([]:List Keyword).isEmpty then 0 else 1)<30))=true
 line:(apos.endLine == cpos.line)=true
 trees:backTo cpos (starEach [e] X.env)=[(false,eval e X.env)]
structure M2 (X:Cx)(o:Expr)(m:Str)(apos:Pos)(e f:Expr)(cpos:Pos):Prop where
 base:attributeBase o m X.env (eval o X.env)=eval o X.env
 few:((backTo cpos (starEach [e,f] X.env)).all (λx=>!x.1) && (backToKw cpos (keywordEach [] X.env)).all (λx=>x.1.isSome)
  && decide (([e,f]:List Expr).length+([]:List Keyword).length+(if ([]:List Keyword).isEmpty then 0 else 1)<30))=true
 line:(apos.endLine == cpos.line)=true
 trees:backTo cpos (starEach [e,f] X.env)=[(false,eval e X.env),(false,eval f X.env)]
section
variable {X:Cx}{pins:List (Addr×Obj)}{σ:St}{H:Hp}{s:Shared}{a:Addr}{y d:V}{u r:Value}{o:Option V}{A:Around}{E:Value->Shared->Prop}
end
section
variable {X:Cx}{o e f:Expr}{apos cpos:Pos}{td ty tx:TE}
end
section
variable {X:Cx}{pins:List (Addr×Obj)}{σ:St}{H:Hp}{s:Shared}{a:Addr}{kvs:List (Key×V)}{A:Around}{E:Value->Shared->Prop}
end
section
variable {X:Cx}{pins:List (Addr×Obj)}{σ:St}{H:Hp}{s:Shared}{a:Addr}{y:V}{u:Value}{A:Around}{E:Value->Shared->Prop}
end
section
variable {κ:Type}[DecidableEq κ]
end
section
variable {prog:Program}{w:World}{A:Around}{R:Result->Shared->Prop}{s:Shared}
theorem Zjo {kx vx target iter:Expr}{ifs:List Expr}{scope:Scope}{pos:Pos}{it:Value}{D:Addr}{env:Env}(I:Nat->Shared->Prop)(turn:∀ n s,I n s->wpAny (model prog w) A (pyNext it) (λr s₁=>match r with
   | none=>R (.ok .next) s₁
   | some v=>wpAny (model prog w) A (letOwnedTupleGo target it v) (λ_ s₁=>wpAny (model prog w) A (assign target env v) (λ_ s₂=>
     wpAny (model prog w) A (forIn ifs true λc r=>if r=true then do let ok <- isTrue c env (eval c env);pure (ForInStep.yield ok) else pure (ForInStep.yield r)) (λok s₃=>
      if ok=true then wpAny (model prog w) A (eval kx env) (λx s₄=>wpAny (model prog w) A (eval vx env) (λy s₅=>
       wpAny (model prog w) A (dictSet D x y) (λ_ s₆=>∃ m,m<n/\I m s₆) (λ_ _=>False) s₅) (λ_ _=>False) s₄) (λ_ _=>False) s₃
      else ∃ m,m<n/\I m s₃) (λ_ _=>False) s₂) (λ_ _=>False) s₁) (λ_ _=>False) s₁) (λ_ _=>False) s)(n:Nat)(h:I n s):
  codeAny (model prog w) A (.compLoop (.DictComp kx vx [⟨target,iter,ifs,0⟩] scope pos) 0 it (.ref D) env) R s:=by
 refine codeAny_loop rfl I (λn s hI=>?_) n h;show wpAny _ A ((compTurn (.DictComp kx vx [⟨target,iter,ifs,0⟩] scope pos) 0 it (.ref D) env).onRaise (λx=>do noteFrame x env;theTreesLotGoes x)) _ _ s;refine wpAny_noted ?_;rw[compTurn_dict];refine Jab (Jdo (Jab (Jbw (turn n s hI) (λr s₁ h₁=>?_) λ_ _ h'=>h'.elim)));cases r with
 | none=>exact Jae h₁
 | some v=>
  refine Jab (Jbw h₁ (λ_ s₁' h₁'=>?_) λ_ _ h'=>h'.elim);refine Jab (Jbw h₁' (λ_ s₂ h₂=>Jab (Jbw h₂ (λok s₃ h₃=>?_) λ_ _ h'=>h'.elim)) λ_ _ h'=>h'.elim);cases ok with
  | false=>exact Jae ⟨rfl,h₃⟩
  | true=>
   refine Jab (Jab (Jbw h₃ (λx s₄ h₄=>?_) λ_ _ h'=>h'.elim));refine Jab (Jby (Jbw h₄ (λy s₅ h₅=>?_) λ_ _ h'=>h'.elim));exact Jab (Jdo (Jby (Jbw h₅ (λ_ s₆ h₆=>Jae ⟨rfl,h₆⟩) λ_ _ h'=>h'.elim)))
end
def Zld (g:TG)(tt:TT)(tk tv:TE)(J:It)(D:Addr)(σ0:St)(H1:Hp)(Q:VK):Prop:=
 ∃ W:Nat->Nat->St->Hp->Prop,(∃ m,W 0 m σ0 (upd H1 D (.dK [])))/\∀ i m σ' H2,W i m σ' H2->
  (J.stop i H2/\Q (.ref D) H2)\/(J.go i H2/\∀ x H3,J.yld i H2 x H3->g x σ' H3 λσ4 H4=>tt σ4 H4 λb H5=>
   if b=true then tk σ4 H5 λx H6=>tv σ4 H6 λy H7=>∃ kvs k,x=kV k/\H7 D=some (.dK kvs)/\kvs.length<sizeLine/\∃ m',m'<m/\W (i+1) m' σ4 (upd H7 D (.dK (Zez kvs k y)))
   else ∃ m',m'<m/\W (i+1) m' σ4 H5)
def tCompD (k:Nat)(fr:List (Str×Nat))(wi:TI)(g:TG)(tt:TT)(tk tv:TE):TE:=λσ H Q=>wi σ H λJ H1=>∀ D,H1 D=none->Zld g tt tk tv J D (Zfe k fr σ) H1 Q
section
variable {X:Cx}{tg iter kx vx:Expr}{ifs:List Expr}{scope:Scope}{pos:Pos}{own:List Str}{fr:List (Str×Nat)}{wi:TI}{g:TG}{tt:TT}{tk tv:TE}
theorem Zsk {pins:List (Addr×Obj)}{s2:Shared}{σ:St}{H2:Hp}{it:Addr}{fp:List Addr}{tn:Nat->Heap->Prop}{J:It}{Q:VK}{cl:List (Str×Addr)}{RR:Value->Addr->Result->Shared->Prop}{E:Value->Shared->Prop}(hc:X.calm=true)(B:BlScope X scope own fr)(hb:∀ cl s H fp,PG (Zb6 X (Zb1 own fr) scope cl s H fp) tg g/\PTs (Zb6 X (Zb1 own fr) scope cl s H fp) ifs tt/\PE (Zb6 X (Zb1 own fr) scope cl s H fp) kx tk/\PE (Zb6 X (Zb1 own fr) scope cl s H fp) vx tv)(hcl:∀ x c,cl.lookup x=some c->X.env.cells.lookup x=some c)(hcl2:∀ y∈scope.names,y.2=.free->∃ c,cl.lookup y.1=some c)(I2:Inv X pins σ H2 s2)(T:Turn X.prog X.w X.K tg J fp it tn)(st2:tn 0 s2.heap)(f2:∀ b∈fp,Zk5 X pins H2 b)(q:∀ D,H2 D=none->Zld g tt tk tv J D (Zfe own.length fr σ) H2 Q)(hRR:∀ D C s' H',Inv X pins σ H' s'->Q (.ref D) H'->(∃ m,s'.heap.Ns C m)->C≠X.env.locals->(∀ x c,X.env.cells.lookup x=some c->c≠C)->(∀ p∈X.pn++pins,p.1≠C)->X.s₀.heap.objs.size<=C->H' C=none->RR (.ref D) C (.ok .next) s'):
  wpAny (model X.prog X.w) X.A newDict (λacc s₃=>wpAny (model X.prog X.w) X.A (newFunctionEnv scope X.env.globals cl [] X.env.qual none .none (some X.env)) (λcenv s₄=>
   codeAny (model X.prog X.w) X.A (.compStart (.DictComp kx vx [⟨tg,iter,ifs,0⟩] scope pos) 0 (.ref it) acc { cenv with scope:=relabel scope X.env }) (RR acc cenv.locals) s₄) E s₃) E s2:=by
 refine Jdb ?_;have fr0:H2 s2.heap.objs.size=none:=I2.hok.fresh (Jaf _);have I3:=I2.laid (a:=s2.heap.objs.size) (o:=.dK []) (t':=s2.toks) (λ_ _ q=>Jad _ q) (Jaf _) (Znw s2.heap I2.big);generalize hs3:({ s2 with heap:=s2.heap.push { cls:=.type "dict",data:=.dict #[] } }:Shared)=s3 at *;have k23:∀ b o,s2.heap.get? b=some o->s3.heap.get? b=some o:=λb o e=>by rw[<- hs3];exact Jad _ e
 have sz3:s3.heap.objs.size=s2.heap.objs.size+1:=by rw[<- hs3];exact Jcs ..
 have I3':Inv X pins σ (upd H2 s2.heap.objs.size (.dK [])) s3:=I3;have fne:∀ b∈fp,b≠s2.heap.objs.size:=λb hb z=>by
  refine Zae (T.obj 0 _ st2 b hb) λo ho _=>?_;exact absurd (Jar ho) (by rw[z];exact Jch _)
 have f3:∀ b∈fp,Zk5 X pins (upd H2 s2.heap.objs.size (.dK [])) b:=λb hb=>⟨by rw[Zag (fne b hb)];exact (f2 b hb).1,(f2 b hb).2⟩
 have st3:tn 0 s3.heap:=T.keep 0 _ _ st2 λb _ o e=>k23 b o e;have hfo:∀ b∈fp,∃ o,s3.heap.get? b=some o:=λb hb=>let ⟨o,ho,_⟩:=T.obj 0 _ st3 b hb;⟨o,ho⟩;refine Zea λh' hn hk hce=>?_;have I4:=Zhv (own:=own) I3' B hcl hcl2 f3 hfo hn hk hce;refine Zbq (hb cl s3 (upd H2 s2.heap.objs.size (.dK [])) fp) λhg ht hkx hvx=>?_;have st4:tn 0 h':=T.keep 0 _ _ st3 λb _ o e=>hk b o e;have stat:∀ {H':Hp},(∀ b∈fp,H' b=none)->∀ b∈fp,Zk5 (Zb6 X (Zb1 own fr) scope cl s3 (upd H2 s2.heap.objs.size (.dK [])) fp) [] H' b:=λ{H'} hnn b hb=>
  ⟨hnn b hb,(I4.ok.exf b hb).1,I4.ok.exfs b hb,.inl hb,(I4.ok.exf b hb).2,λp hp=>absurd (show p∈([]:List (Addr×Obj)) from hp) (by simp)⟩
 refine Zae (q s2.heap.objs.size fr0) λW e92 turn=>?_;obtain⟨m0,w0⟩:=e92;have loop:codeAny (model X.prog X.w) X.A (.compLoop (.DictComp kx vx [⟨tg,iter,ifs,0⟩] scope pos) 0 (.ref it) (.ref s2.heap.objs.size) (Zb6 X (Zb1 own fr) scope cl s3 (upd H2 s2.heap.objs.size (.dK [])) fp).env)
   (RR (.ref s2.heap.objs.size) s3.heap.objs.size) { s3 with heap:=h' }:=by
  refine Zjo (λn s'=>∃ i σ' H',Inv (Zb6 X (Zb1 own fr) scope cl s3 (upd H2 s2.heap.objs.size (.dK [])) fp) [] σ' H' s'/\tn i s'.heap/\(∀ b∈fp,H' b=none)/\W i n σ' H') ?_ m0
   ⟨0,_,_,I4,st4,λb hb=>(f3 b hb).1,w0⟩
  intro n s5 e91;refine Zck e91 λi σ5 H5 I5 st5 fr5 w5=>?_;clear e91;rcases turn i n σ5 H5 w5 with ⟨stop,qn⟩|⟨go,step⟩
  .refine thn (T.done (Zb6 X (Zb1 own fr) scope cl s3 (upd H2 s2.heap.objs.size (.dK [])) fp) rfl rfl rfl hc i [] s5 σ5 H5 _ I5 (stat fr5) st5 stop) λr s6 ⟨hr,I6⟩=>?_;subst hr;have I7:Inv X pins σ H5 s6:=I3'.call' (ch:=fp) I6.os I6.base I6.hok I6.bare λb hb=>⟨(f3 b hb).2.2.2.1,(f3 b hb).2.1,(f3 b hb).2.2.2.2.1,(f3 b hb).2.2.2.2.2⟩
   refine Zae I6.loc λm6 hn6 _=>?_;refine hRR _ _ s6 H5 I7 qn ⟨m6,hn6⟩ (Jg1 I3'.lt) (λx c e=>?_) (λp hp=>?_) I3'.sz I6.free
   .obtain ⟨v,z⟩:=I3'.cell x c e;exact Ja6 z.lt
   .exact Ja6 (Jar (I3'.pin p hp).1)
  .refine thn (T.item (Zb6 X (Zb1 own fr) scope cl s3 (upd H2 s2.heap.objs.size (.dK [])) fp) rfl rfl rfl hc i [] s5 σ5 H5 _ I5 (stat fr5) st5 go) λr s6 ⟨u,hr,h6⟩=>?_;subst hr;refine thn h6 λ_ s7 ⟨x,H7,I7,r7,y7,st7,fr7⟩=>?_;have I7':=I7.pinned (stat fr7) (T.obj _ _ st7);refine thn (hg _ s7 σ5 H7 x u _ I7' r7 (step x H7 y7)) λ_ s8 ⟨σ8,H8,I8,q8⟩=>?_;refine thn (ht _ s8 σ8 H8 _ I8 q8) λb s9 ⟨H9,I9,q9⟩=>?_;have again:∀ {sA:Shared} {σA:St} {HA:Hp} {m':Nat},Inv (Zb6 X (Zb1 own fr) scope cl s3 (upd H2 s2.heap.objs.size (.dK [])) fp) ([]++Ze8 fp s7.heap) σA HA sA->m'<n->W (i+1) m' σA HA->
     ∃ m,m<n/\∃ i σ' H',Inv (Zb6 X (Zb1 own fr) scope cl s3 (upd H2 s2.heap.objs.size (.dK [])) fp) [] σ' H' sA/\tn i sA.heap/\(∀ b∈fp,H' b=none)/\W i m σ' H':=λ{sA σA HA m'} IA hm wA=>by
    refine⟨m',hm,i+1,σA,HA,IA.unpinned,T.keep _ _ _ st7 λb hb o e=>(IA.pin (b,o) (Jap _ (Jap _ (Zbk hb e)))).1,λb hb=>?_,wA⟩;refine Zae (T.obj _ _ st7 b hb) λo e d=>?_;exact (IA.pin (b,o) (Jap _ (Jap _ (Zbk hb e)))).2.1
   cases b with
   | false=>
    refine Zae q9 λm' hm w9=>?_;clear q9;exact again I9 hm w9
   | true=>
    have q9:tk σ8 H9 _:=q9;show wpAny _ _ _ _ _ _;refine thn (hkx _ s9 σ8 H9 _ I9 q9) λx sA ⟨vx',HA,IA,rA,qA⟩=>?_;refine thn (hvx _ sA σ8 HA _ IA qA) λy sB ⟨vy,HB,IB,rB,kvs,k,ek,e,l,m',hm,wB⟩=>?_;subst ek;refine Zap (dk_of IB.hok e) λz hd e93=>?_;obtain⟨vs,rel,dd⟩:=e93;have hz:vs.length<=sizeLine:=by rw[<- rel.length];exact z
    have hl:(Zez kvs k vy).length<=sizeLine:=by have:=Zdq kvs k vy;omega
    refine wpAny_dictSet_pairs (hsz:=hz) (Zl4 rA) dd λh' dd' hs=>?_;have he:∃ q,h'.get? s2.heap.objs.size=some q:=let ⟨q,_,_,hq,_⟩:=dd';⟨q,hq⟩;exact again (Zjn IB (by rw[e];exact True.intro) hs he (Zsa hl hd (rel.put k rB) dd')) hm wB
 exact codeAny_compStart_dict loop (T.self _ 0 _ _ _ st4 loop)
theorem Zto (hc:X.calm=true)(B:BlScope X scope own fr)(hi:PI X tg iter wi)(hb:∀ cl s H fp,PG (Zb6 X (Zb1 own fr) scope cl s H fp) tg g/\PTs (Zb6 X (Zb1 own fr) scope cl s H fp) ifs tt/\PE (Zb6 X (Zb1 own fr) scope cl s H fp) kx tk/\PE (Zb6 X (Zb1 own fr) scope cl s H fp) vx tv)(hs:∀ x,foldedSetIterable iter X.env x=pure x:=by intro _;rfl):
  PE X (.DictComp kx vx [⟨tg,iter,ifs,0⟩] scope pos) (tCompD own.length fr wi g tt tk tv):=by
 intro pins s σ H Q I h;refine Zau (Zjq (scope:=scope) (env:=X.env) λy hy hf=>I.ok.has y.1 (B.free y hy hf)) λcl hclos hcl hcl2=>?_;rw[arm_eval_DictComp];refine Jee (use:=none) rfl hs hclos B.kind B.loc (thn (hi pins s σ H _ I h) λv s1 h1=>thn h1 λitv s2 h2=>?_);refine Zel h2 λit fp tn J H2 e I2 T e94=>?_;clear h2;refine Zap e94 λst2 f2 q=>?_;clear e94;subst e;refine Zsk (RR:=λacc C=>compPost (model X.prog X.w) X.A X.xe none (EP X pins σ Q) acc C) (Q:=Q) hc B hb hcl hcl2 I2 T st2 f2 q ?_;intro D C s' H' I' hq hn n1 n2 n3 n4 n5;obtain⟨m,hn⟩:=hn;refine⟨m,hn,λh' hs'=>⟨.ref D,H',I'.turned (it:=C) (t':=s'.toks) (λb o hb e=>SameBut.get hs' b o hb e) n5 (Jet (Jet n1)) (.inr n4) n2 n3,rfl,hq⟩⟩
end
def rNotInD:V->V->Hp->VK->Prop:=λy x H Q=>∃ a o,x=.ref a/\DGet H a y o/\Q (.bl (!o.isSome)) H
theorem Zkd {X:Cx}(hu:X.A.units+1<cLine):OpR X (compareOp .NotIn) rNotInD:=by
 intro pins s σ H x y v u Q I rx ry h;refine Zbf h λa o e91 g q=>?_;clear h;obtain rfl:=e91;cases ry;exact d_notIn hu I g rx λs3 I3=>⟨.bl _,H,I3,rfl,q⟩
theorem Zl6:∀ {ns:List Int} {us:List Value},Vals (ns.map V.int) us->IntsAre us ns
 | [],us,r=>by cases r;exact .nil
 | n::ns,us,r=>by
  cases r with
  | cons r1 r2=>obtain⟨t,rfl⟩:=r1;exact .cons n t (Zl6 r2)
theorem Zpb:∀ {us:List Value} {ns:List Int},IntsAre us ns->Vals (ns.map V.int) us
 | _,_,.nil=>.nil
 | _,_,.cons n t h=>.cons ⟨t,rfl⟩ (Zpb h)
section
variable {X:Cx}
theorem Zdr:Zb9 X (.builtin "sorted") (λxs H Q=>∃ (p:Addr) (ns:List Int),xs=[.ref p]/\SqL X.K H p (ns.map V.int)/\ns.length<64 /\
  ∀ (l:Addr) (ns':List Int),H l=none->ns'.Perm ns->ns'.Pairwise (·<=·)->Q (.ref l) (upd H l (.lst (ns'.map V.int)))):=by
 intro pins s σ H xs us Q I r h;refine Zg3 h λp ns e91 hq h64 q=>?_;clear h;obtain rfl:=e91;refine Zae (Zem r) λu e92 rx=>?_;obtain rfl:=e92;cases rx;refine Zau (I.list hq) λits rv pl hz=>?_;have hl:=rv.length;rw[Jaa] at hl;refine PyProof.Rows.sorted_ints pl.isList (Zl6 rv) (by rw[<- hl];exact h64) λout ns' hi hp hs=>?_;obtain⟨e,he⟩:=sortedAll_at s.heap its out;have hlen:ns'.length<64:=by rw[hp.length_eq];exact h64
 refine Za2 (.ref (s.heap.objs.size+1)) _ ⟨I.laid (a:=s.heap.objs.size+1) (o:=.lst (ns'.map V.int)) (t':=s.toks) (λb o z=>sortedAll_old z) (Nat.le_succ _) ?_,rfl,q _ ns' (I.hok.fresh (Nat.le_succ _)) hp hs⟩;refine⟨by rw[Jaa];exact Ja8 (Jb8 hlen) (by rw[Jc8];omega),out.toList,e,Zpb hi,?_⟩;simpa [seqObj] using he
end
section
variable {prog:Program}{w:World}{A:Around}{E:Value->Shared->Prop}{s:Shared}
theorem Zko {it t:Addr}{items:Array Value}(hne:t≠it):∀ (n i:Nat) (s:Shared) (Q:List Value->Shared->Prop),s.heap.IsListIter it t i->s.heap.IsList t items->i+n<=items.size->
  (∀ h',h'.IsListIter it t (i+n)->Heap.SameBut it s.heap h'->Q ((items.toList.drop i).take n) { s with heap:=h' })->wpAny (model prog w) A (draw (.ref it) n) Q E s
 | 0,i,s,Q,hit,_,_,hQ=>by
  show wpAny _ _ (pure []) Q E s;exact Jae (by simpa using hQ s.heap hit (Heap.SameBut.refl ..))
 | n+1,i,s,Q,hit,ht,hle,hQ=>by
  have hlt:i<items.size:=∅
  show wpAny _ _ (pyNext (.ref it) >>= _) Q E s;refine Jab (wpAny_pyNext_list_item hit ht (x:=items[i]) (by simp[hlt]) λh₁ hit₁ hs₁=>?_);refine Jab (Jby (Zko hne n (i+1) _ _ hit₁ (ht.at λo e=>(hs₁.2 t hne).trans e) ∅ λh₂ hit₂ hs₂=>Jae ?_));have hd:items.toList.drop i=items[i]::items.toList.drop (i+1):=by simp[Jct,hlt]
  have:=hQ h₂ (by rw[show i+(n+1)=i+1+n by omega];exact hit₂) (hs₁.trans hs₂);rw[hd,Jdl] at this;exact this
theorem Zgh {t:Addr}{items:Array Value}{Q:List Value->Shared->Prop}(hh:A.handled=none)(ht:s.heap.IsList t items)(hQ:∀ h',Heap.ExtBut s.heap.objs.size s.heap h'->Q items.toList { s with heap:=h' }):wpAny (model prog w) A (unpackItems (.ref t) items.size none) Q E s:=by
 have hlt:t≠s.heap.objs.size:=by obtain⟨o,ho,_⟩:=ht;exact Ja6 (Jar ho)
 unfold unpackItems;refine Jab ?_
 .unfold notIterableAtAll;refine Jab (Jfo ht.typeIs slot_list_iter.lookup ?_);refine Jae ?_;simp only[Jcw,Jf3];refine Jab (Jby (Jec ht ?_));refine Jab (Jby (Zko hlt items.size 0 _ _ ⟨_,Ja1 _ rfl,rfl,rfl⟩ (ht.at λo e=>Jad _ e) ∅ λh₁ hit₁ hs₁=>?_));have hall:List.take items.size (List.drop 0 items.toList)=items.toList:=by
   rw[List.drop_zero];exact Jcc (by simp)
  rw[hall];rw[if_neg (by simp)];have ht₁:h₁.IsList t items:=(ht.at (h':=s.heap.push { cls:=.type "list_iterator",data:=.fields #[.ref t,.int 0 0] }) λo e=>Jad _ e).at λo e=>(hs₁.2 t hlt).trans e;refine Jab (Jby (wpAny_pyNext_list_end hh hit₁ ht₁ (by simp) λh₂ he₂=>?_));simp only[Option.isSome_none,Jcw,Jf3];refine Jae (hQ h₂ λb o hb e=>he₂ b o hb (hs₁.extBut b o hb (Jad _ e)))
theorem Zf3 {env:Env}{elts:List Expr}{x1}{pos:Pos}{t:Addr}{items:Array Value}{Q:Unit->Shared->Prop}(hh:A.handled=none)(ht:s.heap.IsList t items)(hn:(assignEach elts env).length=items.size)(hstar:(assignEach elts env).findIdx? (·.1)=none)(h:∀ h',Heap.ExtBut s.heap.objs.size s.heap h'->wpAny (model prog w) A (assignInOrder ((assignEach elts env).map (·.2)) items.toList) Q E { s with heap:=h' }):
  wpAny (model prog w) A (assign (.Tuple elts x1 pos) env (.ref t)) Q E s:=by
 rw[PyProof.Rows.assign_Tuple];refine Jab (Jdo ?_);unfold unpack;rw[hn,hstar];exact Jab (Jby (Zgh hh ht h))
end
section
variable {X:Cx}{pos:Pos}
def gLst (K:Frag)(n:Nat)(t:TGs):TG:=λv σ H Q=>∃ a xs,v=.ref a/\SqL K H a xs/\xs.length=n/\t xs σ H Q
theorem pg_lst {es:List Expr}{k:Nat}{t:TGs}{n:Nat}(hc:X.calm=true)(h:PGs X es t)(hn:(assignEach es X.env).length=n:=by rfl)(hst:(assignEach es X.env).findIdx? (·.1)=none:=by rfl):PG X (.Tuple es k pos) (gLst X.K n t):=by
 intro pins s σ H v u Q I r hw;obtain⟨a,xs,e1,hq,hl,hw⟩:=hw;subst e1;cases r;obtain⟨its,rv,ht,hz⟩:=I.list hq;refine Zf3 (I.ok.hd hc) ht.isList (by simp[hn,<- hl,rv.length]) hst λh' hx=>?_;have I1:Inv X pins σ H { s with heap:=h' }:=I.kept (t':=s.toks) λb o e=>hx b o (Ja6 (Jar e)) e;exact h pins _ σ H xs _ Q I1 (by simpa using rv) hw
end
theorem Zqp {X:Cx}{m:Str}{C:Addr}{k:Nat}{sp:Sp}{o:Expr}{ta:TE}{apos pos:Pos}{pl:Sem Bool}(c:Cls X.K C)(M:CalM X.prog X.w X.K X.mg X.base C m k sp)(hr:Room k X.A)(ho:PE X o ta)(ht:eval (.Call (.Attribute o m apos) [] [] pos) X.env=(do
   let ov <- eval o X.env
   standAt apos.atName
   let (f,first) <- holding [ov] (getMethod ov m pl)
   callWith pos f first (backTo pos (starEach [] X.env)) (backToKw pos (keywordEach [] X.env))):=by rfl):
  PE X (.Call (.Attribute o m apos) [] [] pos) (Zs5 C m sp [] E0 ta Zmu):=by
 refine Zjy M.ex λf fd ps F hm hb=>?_;exact Ztm ho c hm F hr hb .nil pass0 ht
end L2
namespace L3
theorem Zb8 {α:Type}[DecidableEq α]:∀ {l m:List α},l.Nodup->(∀ x∈l,x∈m)->m.length<=l.length->l.Perm m
 | [],m,_,_,h=>by
  have:m=[]:=List.eq_nil_of_length_eq_zero (by simpa using h);rw[this]
 | a::l,m,nd,hs,h=>by
  have ha:a∈m:=hs a (by simp);have nd':=Jbz.mp nd;have p:=List.perm_cons_erase ha;refine (List.Perm.cons a (Zb8 nd'.2 (λx hx=>?_) ?_)).trans p.symm
  .have hne:x≠a:=λz=>nd'.1 (z ▸ hx);exact (List.mem_erase_of_ne hne).mpr (hs x (by simp[hx]))
  .rw [Jff ha];rw[Jau] at h;omega
abbrev Ed:=Int×Int
noncomputable def ce (d:Int->Nat)(q:Ed):Int:=if d q.2+1=d q.1 then q.1 else q.2
noncomputable def pe (d:Int->Nat)(q:Ed):Int:=if d q.2+1=d q.1 then q.2 else q.1
structure Tr (S:List Int)(ps:List Ed)(f:Int)(d:Int->Nat):Prop where
 nd:S.Nodup
 fS:f∈S
 inS:∀ q∈ps,q.1∈S/\q.2∈S
 par:∀ x∈S,x≠f->∃ q∈ps,(q.1=x/\d q.2+1=d x)\/(q.2=x/\d q.1+1=d x)
 len:ps.length+1=S.length
section
variable {S:List Int}{ps:List Ed}{f:Int}{d:Int->Nat}
noncomputable def oth (S:List Int)(f:Int):List Int:=S.filter λx=>decide (x≠f)
theorem Zbe {x:Int}:x∈oth S f ↔ x∈S/\x≠f:=by unfold oth;simp[Jal]
theorem Zm7 {q:Ed}{x:Int}(h:(q.1=x/\d q.2+1=d x)\/(q.2=x/\d q.1+1=d x)):ce d q=x/\d (pe d q)+1=d x:=by
 unfold ce pe;rcases h with ⟨e,h⟩|⟨e,h⟩
 .rw [<- e] at h ⊢;rw[if_pos h,if_pos h];exact⟨rfl,h⟩
 .rw [<- e] at h ⊢;rw[if_neg ∅,if_neg ∅];exact⟨rfl,h⟩
theorem Zlw (nd:S.Nodup)(h:f∈S):(oth S f).length+1=S.length:=by
 have e:oth S f=S.erase f:=by
  unfold oth;rw[List.Nodup.erase_eq_filter nd];congr 1
  funext x
  rw[Jcx];simp
 rw[e,Jff h];have:=Jfx h;omega
theorem Tr.perm (T:Tr S ps f d):(oth S f).Perm (ps.map (ce d)):=by
 refine Zb8 (Jbj Jbg T.nd) (λx hx=>?_) ?_
 .obtain ⟨h1,h2⟩:=Zbe.mp hx;obtain⟨q,hq,h⟩:=T.par x h1 h2;exact Jan.mpr ⟨q,hq,(Zm7 h).1⟩
 .have:=Zlw T.nd T.fS;have:=T.len;rw[Jaa];omega
theorem Tr.cend (T:Tr S ps f d):(ps.map (ce d)).Nodup:=T.perm.nodup_iff.mp (Jbj Jbg T.nd)
theorem Tr.one (T:Tr S ps f d){q q':Ed}(h:q∈ps)(h':q'∈ps)(e:ce d q=ce d q'):q=q':=by
 obtain⟨i,hi,rfl⟩:=Jdf.mp h;obtain⟨j,hj,rfl⟩:=Jdf.mp h';have:=T.cend;have hij:i=j:=(List.getElem_inj (h₀:=by rw[Jaa];exact hi) (h₁:=by rw[Jaa];exact hj) this).mp (by rw[Jcl,Jcl];exact e);subst hij;rfl
theorem Tr.prop (T:Tr S ps f d){q:Ed}(h:q∈ps):ce d q∈S/\ce d q≠f/\pe d q∈S/\d (pe d q)+1=d (ce d q):=by
 have hm:ce d q∈oth S f:=T.perm.mem_iff.mpr (Jan.mpr ⟨q,h,rfl⟩);obtain⟨h1,h2⟩:=Zbe.mp hm;obtain⟨q',hq',hp⟩:=T.par _ h1 h2;obtain⟨e1,e2⟩:=Zm7 hp;have:=T.one hq' h e1;subst this;refine⟨h1,h2,?_,e2⟩;unfold pe;split
 .exact (T.inS _ h).2
 .exact (T.inS _ h).1
theorem Tr.up (T:Tr S ps f d){x:Int}(h:x∈S)(hf:x≠f):∃ q∈ps,ce d q=x:=by
 obtain⟨q,hq,hp⟩:=T.par x h hf;exact⟨q,hq,(Zm7 hp).1⟩
theorem Zev (q:Ed):(q.1=ce d q/\q.2=pe d q)\/(q.1=pe d q/\q.2=ce d q):=by
 unfold ce pe;split
 .exact .inl ⟨rfl,rfl⟩
 .exact .inr ⟨rfl,rfl⟩
noncomputable def chn (d:Int->Nat)(ps:List Ed)(x:Int):Nat:=(ps.map (pe d)).count x
noncomputable def deg (ps:List Ed)(x:Int):Nat:=ps.countP λq=>decide (q.1=x\/q.2=x)
theorem Tr.ne (T:Tr S ps f d){q:Ed}(h:q∈ps):q.1≠q.2:=λe=>by
 have:=(T.prop h).2.2.2;rcases Zev (d:=d) q with ⟨a,b⟩|⟨a,b⟩
 .rw [<- a,<- b,e] at this;omega
 .rw [<- a,<- b,e] at this;omega
theorem Zvy (x:Int):∀ (l:List Ed),(∀ q∈l,ce d q≠pe d q)->l.countP (λq=>decide (q.1=x\/q.2=x))=(l.map (ce d)).count x+(l.map (pe d)).count x
 | [],_=>rfl
 | q::l,h=>by
  have hq:=h q (by simp);have ih:=Zvy x l λq' h'=>h q' (by simp[h']);rw[Jek,ih,Jaw,Jaw,Jgp,Jgp];have e:(decide (q.1=x\/q.2=x))=((ce d q == x) || (pe d q == x)):=by
   rw[Jcx];simp only[Jb0,Jgo,Jcj];rcases Zev (d:=d) q with ⟨a,b⟩|⟨a,b⟩
   .rw [a,b]
   .rw [a,b];exact Or.comm
  rw[e];by_cases h1:ce d q=x
  .have h2:pe d q≠x:=λz=>hq (h1.trans z.symm);simp[h1,h2];omega
  .by_cases h2:pe d q=x
   .simp [h1,h2];omega
   .simp [h1,h2]
theorem Tr.deg (T:Tr S ps f d)(x:Int):deg ps x=(ps.map (ce d)).count x+chn d ps x:=Zvy x ps λq h e=>by
 have:=(T.prop h).2.2.2;rw[e] at this;omega
theorem Tr.deg_f (T:Tr S ps f d):L3.deg ps f=chn d ps f:=by
 rw[T.deg,List.count_eq_zero.mpr (λh=>?_),Jg3];obtain⟨q,hq,e⟩:=Jan.mp h;exact (T.prop hq).2.1 e
theorem Tr.deg_x (T:Tr S ps f d){x:Int}(h:x∈S)(hf:x≠f):L3.deg ps x=1+chn d ps x:=by
 rw[T.deg];congr 1;obtain⟨q,hq,e⟩:=T.up h hf;have h1:(ps.map (ce d)).count x<=1:=List.nodup_iff_count.mp T.cend x;have h2:0<(ps.map (ce d)).count x:=Jeq.mpr (Jan.mpr ⟨q,hq,e⟩);omega
noncomputable def up1 (d:Int->Nat)(ps:List Ed)(x:Int):Int:=((ps.find? λq=>decide (ce d q=x)).map (pe d)).getD x
theorem Tr.up1_of (T:Tr S ps f d){x:Int}(h:x∈S)(hf:x≠f):∃ q∈ps,ce d q=x/\up1 d ps x=pe d q:=by
 obtain⟨q,hq,e⟩:=T.up h hf;unfold up1;cases hfd:ps.find? (λq=>decide (ce d q=x)) with
 | none=>
  have:=List.find?_eq_none.mp hfd q hq;exact absurd (Jam e) this
 | some q'=>exact⟨q',List.mem_of_find?_eq_some hfd,Jaj (List.find?_some (p:=λq=>decide (ce d q=x)) hfd),rfl⟩
theorem Tr.up1_prop (T:Tr S ps f d){x:Int}(h:x∈S)(hf:x≠f):up1 d ps x∈S/\d (up1 d ps x)+1=d x:=by
 obtain⟨q,hq,e,e'⟩:=T.up1_of h hf;rw[e',<- e];exact⟨(T.prop hq).2.2.1,(T.prop hq).2.2.2⟩
theorem Tr.up1_ce (T:Tr S ps f d){q:Ed}(h:q∈ps):up1 d ps (ce d q)=pe d q:=by
 obtain⟨q',hq',e,e'⟩:=T.up1_of (T.prop h).1 (T.prop h).2.1;rw[e',T.one hq' h e]
noncomputable def rt (d:Int->Nat)(ps:List Ed)(f:Int):Nat->Int->Int
 | 0,x=>x
 | k+1,x=>if up1 d ps x=f then x else rt d ps f k (up1 d ps x)
noncomputable def Zcj (d:Int->Nat)(ps:List Ed)(f x:Int):Int:=rt d ps f (d x) x
theorem Tr.root_step (T:Tr S ps f d){x:Int}(h:x∈S)(hf:x≠f)(hu:up1 d ps x≠f):Zcj d ps f x=Zcj d ps f (up1 d ps x):=by
 have:=(T.up1_prop h hf).2;unfold Zcj;rw[<- this];show (if up1 d ps x=f then x else rt d ps f (d (up1 d ps x)) (up1 d ps x))=_;rw[if_neg hu]
theorem Tr.root_base (T:Tr S ps f d){x:Int}(h:x∈S)(hf:x≠f)(hu:up1 d ps x=f):Zcj d ps f x=x:=by
 have:=(T.up1_prop h hf).2;unfold Zcj;rw[<- this];show (if up1 d ps x=f then x else rt d ps f (d (up1 d ps x)) (up1 d ps x))=_;rw[if_pos hu]
theorem Tr.pos (T:Tr S ps f d){x:Int}(h:x∈S)(hf:x≠f):0<d x:=by have:=(T.up1_prop h hf).2;omega
theorem Tr.root_ok (T:Tr S ps f d):∀ (k:Nat) {x:Int},d x<=k->x∈S->x≠f->Zcj d ps f x∈S/\Zcj d ps f x≠f/\up1 d ps (Zcj d ps f x)=f
 | 0,x,hk,h,hf=>by have:=T.pos h hf;omega
 | k+1,x,hk,h,hf=>by
  by_cases hu:up1 d ps x=f
  .rw [T.root_base h hf hu];exact⟨h,hf,hu⟩
  .have:=T.up1_prop h hf;rw[T.root_step h hf hu];exact T.root_ok k ∅ this.1 hu
theorem Zkp {g:Ed->Int}{z:Int}:∀ {l:List Ed} {q q':Ed},q∈l->q'∈l->q≠q'->g q=z->g q'=z->2<=(l.map g).count z
 | a::l,q,q',h,h',n,e,e'=>by
  rw[Jaw,Jgp];rcases Jao.mp h with h1|h1
  .rcases Jao.mp h' with h2|h2
   .exact absurd (h1.trans h2.symm) n
   .have:0<(l.map g).count z:=Jeq.mpr (Jan.mpr ⟨q',h2,e'⟩);rw[if_pos (by rw[<- h1,e];simp)];omega
  .rcases Jao.mp h' with h2|h2
   .have:0<(l.map g).count z:=Jeq.mpr (Jan.mpr ⟨q,h1,e⟩);rw[if_pos (by rw[<- h2,e'];simp)];omega
   .have:=Zkp h1 h2 n e e';omega
structure Fk (S:List Int)(ps:List Ed)(f:Int)(d:Int->Nat):Prop extends Tr S ps f d where
 d0:d f=0
 few:∀ x∈S,x≠f->chn d ps x<=1
theorem Fk.zero (T:Fk S ps f d){x:Int}(h:x∈S)(h0:d x=0):x=f:=Jah λz=>by have:=T.pos h z;omega
theorem Fk.inj (T:Fk S ps f d):∀ (k:Nat) {x y:Int},d x=k->d y=k->x∈S->x≠f->y∈S->y≠f->Zcj d ps f x=Zcj d ps f y->x=y
 | 0,x,y,hx,hy,h,hf,_,_,_=>by have:=T.pos h hf;omega
 | k+1,x,y,hx,hy,h,hf,h',hf',e=>by
  have ux:=T.up1_prop h hf;have uy:=T.up1_prop h' hf';by_cases hu:up1 d ps x=f
  .have:d (up1 d ps y)=0:=by rw[hu,T.d0] at ux;omega
   rw[T.root_base h hf hu,T.root_base h' hf' (T.zero uy.1 this)] at e;exact e
  .have hu':up1 d ps y≠f:=λz=>by
    rw[z,T.d0] at uy;exact hu (T.zero ux.1 ∅)
   rw[T.root_step h hf hu,T.root_step h' hf' hu'] at e;have ih:=T.inj k ∅ ∅ ux.1 hu uy.1 hu' e;obtain⟨q,hq,e1,e2⟩:=T.up1_of h hf;obtain⟨q',hq',e1',e2'⟩:=T.up1_of h' hf';by_cases hqq:q=q'
   .rw [<- e1,<- e1',hqq]
   .have:=Zkp (g:=pe d) hq hq' hqq (e2.symm.trans ih) e2'.symm;have h1:=T.few _ uy.1 hu';unfold chn at h1;omega
noncomputable def cls (S:List Int)(d:Int->Nat)(ps:List Ed)(f a:Int):List Int:=(oth S f).filter λx=>decide (Zcj d ps f x=a)
theorem Zdp {a x:Int}:x∈cls S d ps f a ↔ (x∈S/\x≠f)/\Zcj d ps f x=a:=by unfold cls;rw[Jal,Zbe];simp
theorem Fk.desc (T:Fk S ps f d){a:Int}:∀ (j:Nat) {y:Int} {k:Nat},y∈cls S d ps f a->1<=k->k+j=d y->∃ z∈cls S d ps f a,d z=k
 | 0,y,k,hy,h1,e=>⟨y,hy,∅⟩
 | j+1,y,k,hy,h1,e=>by
  obtain⟨⟨h,hf⟩,hr⟩:=Zdp.mp hy;have u:=T.up1_prop h hf;have hu:up1 d ps y≠f:=λz=>by rw[z,T.d0] at u;omega
  exact T.desc j (y:=up1 d ps y) (Zdp.mpr ⟨⟨u.1,hu⟩,by rw[<- T.root_step h hf hu];exact hr⟩) h1 ∅
theorem Zaz {α:Type}[DecidableEq α]:∀ {l m:List α},l.Nodup->(∀ x∈l,x∈m)->l.length<=m.length
 | [],m,_,_=>Jbp _
 | a::l,m,nd,hs=>by
  have ha:a∈m:=hs a (by simp);have nd':=Jbz.mp nd;have:=Zaz (l:=l) (m:=m.erase a) nd'.2 λx hx=>(List.mem_erase_of_ne (show x≠a from λz=>nd'.1 (z ▸ hx))).mpr (hs x (by simp[hx]));rw[Jff ha] at this;have:=Jfx ha;rw[Jau];omega
theorem Zbd {α β:Type}{g:α->β}:∀ {l:List α},l.Nodup->(∀ x∈l,∀ y∈l,g x=g y->x=y)->(l.map g).Nodup
 | [],_,_=>Jf4
 | a::l,nd,h=>by
  have nd':=Jbz.mp nd;rw[Jaw,Jbz];refine⟨λz=>?_,Zbd nd'.2 λx hx y hy=>h x (by simp[hx]) y (by simp[hy])⟩;obtain⟨y,hy,e⟩:=Jan.mp z;have:=h y (by simp[hy]) a (by simp) e;exact nd'.1 (this ▸ hy)
theorem Fk.size (T:Fk S ps f d){x:Int}(h:x∈S)(hf:x≠f)(h0:chn d ps x=0):(cls S d ps f (Zcj d ps f x)).length=d x:=by
 have hx:x∈cls S d ps f (Zcj d ps f x):=Zdp.mpr ⟨⟨h,hf⟩,rfl⟩;have top:∀ y∈cls S d ps f (Zcj d ps f x),d y<=d x:=λy hy=>Jah λz=>by
  obtain⟨y',hy',e'⟩:=T.desc (d y-(d x+1)) hy (k:=d x+1) oz23 ∅;obtain⟨⟨h1,h2⟩,h3⟩:=Zdp.mp hy';have u:=T.up1_prop h1 h2;have hu:up1 d ps y'≠f:=λw=>by
   rw[w,T.d0] at u;have:=T.pos h hf;omega
  have e2:up1 d ps y'=x:=T.inj (d x) ∅ rfl u.1 hu h hf (by rw[<- T.root_step h1 h2 hu];exact h3);obtain⟨q,hq,e3,e4⟩:=T.up1_of h1 h2;have:0<chn d ps x:=Jeq.mpr (Jan.mpr ⟨q,hq,e4.symm.trans e2⟩);omega
 have ndc:(cls S d ps f (Zcj d ps f x)).Nodup:=Jbj (Jbg.trans Jbg) T.nd;have ndm:((cls S d ps f (Zcj d ps f x)).map d).Nodup:=Zbd ndc λy hy z hz e=>by
  obtain⟨⟨a1,a2⟩,a3⟩:=Zdp.mp hy;obtain⟨⟨b1,b2⟩,b3⟩:=Zdp.mp hz;exact T.inj (d z) e rfl a1 a2 b1 b2 (a3.trans b3.symm)
 have l1:=Zaz (m:=List.range' 1 (d x)) ndm λk hk=>by
  obtain⟨y,hy,rfl⟩:=Jan.mp hk;have:=top y hy;obtain⟨⟨a1,a2⟩,a3⟩:=Zdp.mp hy;have:=T.pos a1 a2;rw[Jhf];omega
 have l2:=Zaz (l:=List.range' 1 (d x)) (m:=(cls S d ps f (Zcj d ps f x)).map d) (List.nodup_range' ..) λk hk=>by
  rw[Jhf] at hk;obtain⟨z,hz,e⟩:=T.desc (d x-k) hx (k:=k) ∅ ∅;exact Jan.mpr ⟨z,hz,e⟩
 rw[Jaa,List.length_range'] at l1 l2;omega
theorem Fk.leaf_one (T:Fk S ps f d){x y:Int}(h:x∈S)(hf:x≠f)(h0:chn d ps x=0)(h':y∈S)(hf':y≠f)(h0':chn d ps y=0)(e:Zcj d ps f x=Zcj d ps f y):x=y:=by
 have a:=T.size h hf h0;have b:=T.size h' hf' h0';rw[e] at a;exact T.inj (d y) ∅ rfl h hf h' hf' e
theorem Zn2 (d:Int->Nat):∀ (S:List Int),∃ B,∀ x∈S,d x<=B
 | []=>⟨0,by simp⟩
 | a::S=>by
  obtain⟨B,h⟩:=Zn2 d S;refine⟨max (d a) B,λx hx=>?_⟩;rcases Jao.mp hx with rfl|hx
  .omega
  .have:=h x hx;omega
theorem Fk.leaf_go (T:Fk S ps f d){B:Nat}(hB:∀ x∈S,d x<=B):∀ (k:Nat) {x:Int},B-d x<=k->x∈S->x≠f->∃ z∈S,z≠f/\chn d ps z=0/\Zcj d ps f z=Zcj d ps f x
 | k,x,hk,h,hf=>by
  by_cases h0:chn d ps x=0
  .exact ⟨x,h,hf,h0,rfl⟩
  .obtain ⟨q,hq,e⟩:=Jan.mp (Jeq.mp (Jg4 h0));obtain⟨p1,p2,p3,p4⟩:=T.prop hq;rw[e] at p4;have b:=hB _ p1;have u:up1 d ps (ce d q)=x:=(T.up1_ce hq).trans e;have r:Zcj d ps f (ce d q)=Zcj d ps f x:=by rw[T.root_step p1 p2 (by rw[u];exact hf),u]
   match k with
   | 0=>omega
   | k+1=>
    obtain⟨z,z1,z2,z3,z4⟩:=T.leaf_go hB k (x:=ce d q) ∅ p1 p2;exact⟨z,z1,z2,z3,z4.trans r⟩
theorem Fk.leaf (T:Fk S ps f d){x:Int}(h:x∈S)(hf:x≠f):∃ z∈S,z≠f/\chn d ps z=0/\Zcj d ps f z=Zcj d ps f x:=by
 obtain⟨B,hB⟩:=Zn2 d S;exact T.leaf_go hB (B-d x) (Jaf _) h hf
noncomputable def lvs (S:List Int)(ps:List Ed):List Int:=S.filter λx=>decide (deg ps x=1)
theorem Fk.arms (T:Fk S ps f d)(hf3:deg ps f≠1){R:List Int}(nR:R.Nodup)(hR:∀ r∈R,r∈S/\r≠f)(hone:∀ r∈R,∀ r'∈R,Zcj d ps f r=Zcj d ps f r'->r=r')(hall:∀ x∈S,x≠f->∃ r∈R,Zcj d ps f r=Zcj d ps f x):
  (R.map λr=>(cls S d ps f (Zcj d ps f r)).length).Perm ((lvs S ps).map d):=by
 have ml:∀ x,x∈lvs S ps ↔ x∈S/\x≠f/\chn d ps x=0:=λx=>by
  unfold lvs;rw[Jal,Jb0];constructor
  .rintro ⟨h,e⟩;have hf:x≠f:=λz=>hf3 (z ▸ e);have:=T.deg_x h hf;exact⟨h,hf,∅⟩
  .rintro ⟨h,hf,e⟩;exact⟨h,by have:=T.deg_x h hf;omega⟩
 have nL:(lvs S ps).Nodup:=Jbj Jbg T.nd;have n1:(R.map (Zcj d ps f)).Nodup:=Zbd nR hone;have n2:((lvs S ps).map (Zcj d ps f)).Nodup:=Zbd nL λx hx y hy e=>by
  obtain⟨a1,a2,a3⟩:=(ml x).mp hx;obtain⟨b1,b2,b3⟩:=(ml y).mp hy;exact T.leaf_one a1 a2 a3 b1 b2 b3 e
 have s1:∀ a∈R.map (Zcj d ps f),a∈(lvs S ps).map (Zcj d ps f):=λa ha=>by
  obtain⟨r,hr,rfl⟩:=Jan.mp ha;obtain⟨z,z1,z2,z3,z4⟩:=T.leaf (hR r hr).1 (hR r hr).2;exact Jan.mpr ⟨z,(ml z).mpr ⟨z1,z2,z3⟩,z4⟩
 have s2:∀ a∈(lvs S ps).map (Zcj d ps f),a∈R.map (Zcj d ps f):=λa ha=>by
  obtain⟨x,hx,rfl⟩:=Jan.mp ha;obtain⟨a1,a2,_⟩:=(ml x).mp hx;obtain⟨r,hr,e⟩:=hall x a1 a2;exact Jan.mpr ⟨r,hr,e⟩
 have p:=(Zb8 n1 s1 (Zaz n2 s2)).map λa=>(cls S d ps f a).length;rw[Jck,Jck] at p;refine p.trans (Jfp (Jc9 λx hx=>?_));obtain⟨a1,a2,a3⟩:=(ml x).mp hx;exact T.size a1 a2 a3
def Conn (S:List Int)(es:List Ed):Prop:=∀ h:Int->Int,(∀ q∈es,h q.1=h q.2)->∀ x∈S,∀ y∈S,h x=h y
def Zuw (A:List Int)(es:List Ed)(f:Int)(d:Int->Nat):Prop:=∀ x∈A,x≠f->∃ q∈es,(q.1=x/\q.2∈A/\d q.2+1=d x)\/(q.2=x/\q.1∈A/\d q.1+1=d x)
theorem Zsj {es:List Ed}(hc:Conn S es)(hin:∀ q∈es,q.1∈S/\q.2∈S){A:List Int}{d:Int->Nat}(hA:∀ x∈A,x∈S)(hf:f∈A)(hne:∃ y∈S,y∉A)(d0:d f=0)(hp:Zuw A es f d):
  ∃ v∈S,v∉A/\∃ d',d' f=0/\Zuw (v::A) es f d':=by
 have cross:∃ q∈es,¬ (q.1∈A ↔ q.2∈A):=Jah λz=>by
  obtain⟨y,hy,ny⟩:=hne;have:=hc (λx=>if x∈A then 1 else 0) (λq hq=>by
   have:q.1∈A ↔ q.2∈A:=Jah λw=>z ⟨q,hq,w⟩;by_cases h:q.1∈A
   .rw [if_pos h,if_pos (this.mp h)]
   .rw [if_neg h,if_neg (λw=>h (this.mpr w))]) f (hA f hf) y hy
  rw[if_pos hf,if_neg ny] at this;exact absurd this ⇑0
 obtain⟨q,hq,hx⟩:=cross;have go:∀ u v,u∈A->v∈S->v∉A->((q.1=v/\q.2=u)\/(q.2=v/\q.1=u))->∃ v∈S,v∉A/\∃ d',d' f=0/\Zuw (v::A) es f d':=λu v hu hv nv hq2=>by
  have nf:f≠v:=λz=>nv (z ▸ hf);refine⟨v,hv,nv,λx=>if x=v then d u+1 else d x,by simp only;rw[if_neg nf];exact d0,λx hx xf=>?_⟩;rcases Jao.mp hx with rfl|hxA
  .refine ⟨q,hq,?_⟩;have nu:u≠x:=λz=>nv (z ▸ hu);rcases hq2 with ⟨e1,e2⟩|⟨e1,e2⟩
   .exact .inl ⟨e1,by rw[e2];simp[hu],by rw[e2];simp[nu]⟩
   .exact .inr ⟨e1,by rw[e2];simp[hu],by rw[e2];simp[nu]⟩
  .have nx:x≠v:=λz=>nv (z ▸ hxA);obtain⟨q',hq',h⟩:=hp x hxA xf;refine⟨q',hq',?_⟩;rcases h with ⟨e1,e2,e3⟩|⟨e1,e2,e3⟩
   .have n2:q'.2≠v:=λz=>nv (z ▸ e2);exact .inl ⟨e1,by simp[e2],by simp only;rw[if_neg n2,if_neg nx];exact e3⟩
   .have n2:q'.1≠v:=λz=>nv (z ▸ e2);exact .inr ⟨e1,by simp[e2],by simp only;rw[if_neg n2,if_neg nx];exact e3⟩
 obtain⟨i1,i2⟩:=hin q hq;by_cases h1:q.1∈A
 .have h2:q.2∉A:=λw=>hx ⟨λ_=>w,λ_=>h1⟩;exact go q.1 q.2 h1 i2 h2 (.inr ⟨rfl,rfl⟩)
 .have h2:q.2∈A:=Jah λw=>hx ⟨λz=>absurd z h1,λz=>absurd z w⟩;exact go q.2 q.1 h2 i1 h1 (.inl ⟨rfl,rfl⟩)
theorem Zmc {es:List Ed}(hc:Conn S es)(hin:∀ q∈es,q.1∈S/\q.2∈S)(nS:S.Nodup):∀ (k:Nat) {A:List Int} {d:Int->Nat},S.length-A.length<=k->A.Nodup->(∀ x∈A,x∈S)->f∈A->d f=0->Zuw A es f d->
  ∃ d':Int->Nat,d' f=0/\∀ x∈S,x≠f->∃ q∈es,(q.1=x/\d' q.2+1=d' x)\/(q.2=x/\d' q.1+1=d' x)
 | k,A,d,hk,nA,hA,hf,d0,hp=>by
  by_cases hall:∀ y∈S,y∈A
  .refine ⟨d,d0,λx hx xf=>?_⟩;obtain⟨q,hq,h⟩:=hp x (hall x hx) xf;exact⟨q,hq,h.imp (λz=>⟨z.1,z.2.2⟩) (λz=>⟨z.1,z.2.2⟩)⟩
  .have hne:∃ y∈S,y∉A:=Jah λz=>hall λy hy=>Jah λw=>z ⟨y,hy,w⟩;obtain⟨v,hv,nv,d',e0,hp'⟩:=Zsj hc hin hA hf hne d0 hp;have nvA:(v::A).Nodup:=Jbz.mpr ⟨nv,nA⟩;have sub:∀ x∈v::A,x∈S:=λx hx=>by
    rcases Jao.mp hx with rfl|hx
    .exact hv
    .exact hA x hx
   have:=Zaz nvA sub;rw[Jau] at this
   match k with
   | 0=>omega
   | k+1=>exact Zmc hc hin nS k (A:=v::A) (by rw[Jau];omega) nvA sub (by simp[hf]) e0 hp'
theorem Zkr {es:List Ed}(hc:Conn S es)(hin:∀ q∈es,q.1∈S/\q.2∈S)(nS:S.Nodup)(hf:f∈S)(hl:es.length+1=S.length):∃ d:Int->Nat,d f=0/\Tr S es f d:=by
 obtain⟨d,e0,hp⟩:=Zmc (f:=f) hc hin nS S.length (A:=[f]) (d:=λ_=>0) ∅ (by simp) (λx hx=>by rw[Jas.mp hx];exact hf) (by simp) rfl (λx hx xf=>absurd (Jas.mp hx) xf);exact⟨d,e0,nS,hf,hin,hp,hl⟩
theorem Zj9:∀ {l m:List Int},l.Pairwise (·<=·)->m.Pairwise (·<=·)->l.Perm m->l=m
 | [],m,_,_,p=>(List.Perm.nil_eq p)
 | a::l,[],_,_,p=>absurd p.length_eq (by simp)
 | a::l,b::m,hl,hm,p=>by
  have hl':=Jbm.mp hl;have hm':=Jbm.mp hm;have h1:a<=b:=by
   rcases Jao.mp (p.mem_iff.mpr (Jb4 ..):b∈a::l) with e|h
   .omega
   .exact hl'.1 b h
  have h2:b<=a:=by
   rcases Jao.mp (p.mem_iff.mp (Jb4 ..):a∈b::m) with e|h
   .omega
   .exact hm'.1 a h
  have e:a=b:=∅
  subst e;rw[Zj9 hl'.2 hm'.2 (List.Perm.cons_inv p)]
end
end L3
namespace L3
noncomputable def sI {α:Type}(g:α->Int):List α->Int
 | []=>0
 | x::l=>g x+sI g l
section
variable {α β:Type}
theorem Zde {g:α->Int}:∀ {l m:List α},sI g (l++m)=sI g l+sI g m
 | [],m=>by simp[sI]
 | x::l,m=>by
  have:=Zde (g:=g) (l:=l) (m:=m);simp only[List.cons_append,sI];omega
theorem Zeq {g:α->Int}{l m:List α}(p:l.Perm m):sI g l=sI g m:=by
 induction p with
 | nil=>rfl
 | cons x _ ih=>simp only[sI];omega
 | swap x y l=>simp only[sI];omega
 | trans _ _ h1 h2=>exact h1.trans h2
theorem Zak {g h:α->Int}:∀ {l:List α},(∀ x∈l,g x=h x)->sI g l=sI h l
 | [],_=>rfl
 | x::l,e=>by simp only[sI];rw[e x (by simp),Zak λy hy=>e y (by simp[hy])]
theorem Zf7 {f:β->α}{g:α->Int}:∀ {l:List β},sI g (l.map f)=sI (λx=>g (f x)) l
 | []=>rfl
 | x::l=>by simp only[Jaw,sI];rw[Zf7]
theorem Zci {g h:α->Int}:∀ {l:List α},sI (λx=>g x+h x) l=sI g l+sI h l
 | []=>rfl
 | x::l=>by have:=Zci (g:=g) (h:=h) (l:=l);simp only[sI];omega
theorem Zei {g h:α->Int}:∀ {l:List α},sI (λx=>g x-h x) l=sI g l-sI h l
 | []=>rfl
 | x::l=>by have:=Zei (g:=g) (h:=h) (l:=l);simp only[sI];omega
theorem Zd3 {c:Int}{g:α->Int}:∀ {l:List α},sI (λx=>c*g x) l=c*sI g l
 | []=>by simp[sI]
 | x::l=>by have:=Zd3 (c:=c) (g:=g) (l:=l);simp only[sI];rw[this,Int.mul_add]
theorem Zbu {c:Int}:∀ {l:List α},sI (λ_=>c) l=c*(l.length:Nat)
 | []=>by simp[sI]
 | x::l=>by
  have:=Zbu (c:=c) (l:=l);simp only[sI,Jau];rw[this,Int.natCast_add,Int.mul_add];omega
theorem Zp6 {g h:α->Int}:∀ {l:List α},(∀ x∈l,g x<=h x)->sI g l<=sI h l
 | [],_=>Jfd _
 | x::l,e=>by have:=Zp6 (l:=l) λy hy=>e y (by simp[hy]);have:=e x (by simp);simp only[sI];omega
theorem Zp5 {g:α->Int}{l:List α}(h:∀ x∈l,0<=g x):0<=sI g l:=by
 have:=Zp6 (g:=λ_=>0) (h:=g) (l:=l) h;rw[Zbu] at this;omega
theorem Zch {g:α->Int}{l:List α}(h:∀ x∈l,g x=0):sI g l=0:=by
 rw[Zak (h:=λ_=>0) h,Zbu];omega
theorem Zd4 {g:α->Int}:∀ {l:List α} {x:α},x∈l->(∀ y∈l,0<=g y)->g x<=sI g l
 | y::l,x,hx,h=>by
  have h1:=h y (by simp);have h2:=Zp5 (g:=g) (l:=l) λz hz=>h z (by simp[hz]);simp only[sI];rcases Jao.mp hx with rfl|hx
  .omega
  .have:=Zd4 hx λz hz=>h z (by simp[hz]);omega
theorem Zp3 {g:α->Int}:∀ {l:List α} {x y:α},x∈l->y∈l->x≠y->(∀ z∈l,0<=g z)->g x+g y<=sI g l
 | a::l,x,y,hx,hy,n,h=>by
  have h1:=h a (by simp);have h':=λz (hz:z∈l)=>h z (Jbd _ hz);simp only[sI];rcases Jao.mp hx with e|hx
  .rcases Jao.mp hy with e'|hy
   .exact absurd (e.trans e'.symm) n
   .have:=Zd4 hy h';subst e;omega
  .rcases Jao.mp hy with e'|hy
   .have:=Zd4 hx h';subst e';omega
   .have:=Zp3 hx hy n h';omega
theorem Zog {g:α->Int}{l m:List α}(s:l.Sublist m)(h:∀ x∈m,0<=g x):sI g l<=sI g m:=by
 induction s with
 | slnil=>exact Jfd _
 | cons a _ ih=>have:=ih λx hx=>h x (by simp[hx]);have:=h a (by simp);simp only[sI];omega
 | cons_cons a _ ih=>have:=ih λx hx=>h x (by simp[hx]);simp only[sI];omega
theorem Zd5 {g:α->Int}{p:α->Bool}:∀ {l:List α},(∀ x∈l,p x=false->g x=0)->sI g l=sI g (l.filter p)
 | [],_=>rfl
 | x::l,h=>by
  have ih:=Zd5 (g:=g) (p:=p) (l:=l) λy hy=>h y (by simp[hy]);cases e:p x with
  | true=>rw[List.filter_cons_of_pos e];simp only[sI];omega
  | false=>
   rw[List.filter_cons_of_neg (by simp[e])];have:=h x (by simp) e;simp only[sI];omega
theorem Zp7 {g:α->Int}:∀ {L:List (List α)},sI g L.flatten=sI (λl=>sI g l) L
 | []=>rfl
 | l::L=>by have:=Zp7 (g:=g) (L:=L);simp only[Je1,Zde,sI];omega
theorem Zj7 {g:α->Int}(lab:α->Int):∀ {R:List Int} {l:List α},R.Nodup->(∀ x∈l,lab x∈R)->sI g l=sI (λk=>sI g (l.filter λx=>decide (lab x=k))) R
 | [],[],_,_=>rfl
 | [],x::l,_,h=>absurd (h x (by simp)) (by simp)
 | r::R,l,nd,h=>by
  have nd':=Jbz.mp nd;have ih:=Zj7 (g:=g) lab (R:=R) (l:=l.filter λx=>!decide (lab x=r)) nd'.2 λx hx=>by
   obtain⟨h1,h2⟩:=Jal.mp hx;rcases Jao.mp (h x h1) with e|e
   .simp [e] at h2
   .exact e
  have e:sI (λk=>sI g ((l.filter λx=>!decide (lab x=r)).filter λx=>decide (lab x=k))) R=sI (λk=>sI g (l.filter λx=>decide (lab x=k))) R:=Zak λk hk=>by
   rw[List.filter_filter];congr 1;refine Jcu λx _=>?_;by_cases z:lab x=k
   .have:lab x≠r:=λu=>nd'.1 (by rw[<- u,z];exact hk);simp[z];rw[<- z];exact this
   .simp [z]
  rw[e] at ih;have sp:∀ l:List α,sI g l=sI g (l.filter λx=>decide (lab x=r))+sI g (l.filter λx=>!decide (lab x=r)):=λl=>by
   induction l with
   | nil=>rfl
   | cons x l ih=>
    by_cases z:lab x=r
    .simp [z,sI];omega
    .simp [z,sI];omega
  have:=sp l;simp only[sI];omega
end
section
variable {pts:List Int}{ps:List Ed}
noncomputable def qf (pts:List Int)(ps:List Ed)(x:Int->Int):Int:=sI (λp=>x p*x p) pts-sI (λe=>x e.1*x e.2) ps
noncomputable def nb (ps:List Ed)(x:Int->Int)(p:Int):Int:=sI (λe=>(if e.1=p then x e.2 else 0)+(if e.2=p then x e.1 else 0)) ps
noncomputable def bf (ps:List Ed)(x:Int->Int)(p:Int):Int:=2*x p-nb ps x p
def Ins (pts:List Int)(ps:List Ed):Prop:=∀ e∈ps,e.1∈pts/\e.2∈pts
theorem Zve {y:Int->Int}{a c:Int}:∀ {l:List Int},l.Nodup->a∈l->sI (λp=>y p*(if a=p then c else 0)) l=y a*c
 | p::l,nd,ha=>by
  have nd':=Jbz.mp nd;simp only[sI];rcases Jao.mp ha with e|h
  .subst e;rw[if_pos rfl,Zch λq hq=>by rw[if_neg (show ¬ a=q from λz=>nd'.1 (z ▸ hq)),Jg5]];omega
  .rw [if_neg (show ¬ a=p from λz=>nd'.1 (z ▸ h)),Zve nd'.2 h];omega
theorem dbl {x y:Int->Int}(nd:pts.Nodup):∀ {ps:List Ed},Ins pts ps->sI (λp=>y p*nb ps x p) pts=sI (λe=>y e.1*x e.2+y e.2*x e.1) ps
 | [],_=>by
  unfold nb;exact Zch λp _=>by simp[sI]
 | e::ps,h=>by
  have ih:=dbl (x:=x) (y:=y) nd (ps:=ps) λq hq=>h q (by simp[hq]);have he:=h e (by simp);have e1:∀ p,y p*nb (e::ps) x p=(y p*(if e.1=p then x e.2 else 0)+y p*(if e.2=p then x e.1 else 0))+y p*nb ps x p:=λp=>by
   unfold nb;simp only[sI];rw[Int.mul_add,Int.mul_add]
  rw[Zak λp _=>e1 p,Zci,Zci,ih,Zve nd he.1,Zve nd he.2];rfl
theorem bil {x y:Int->Int}(nd:pts.Nodup)(h:Ins pts ps):sI (λp=>y p*bf ps x p) pts=2*sI (λp=>y p*x p) pts-sI (λe=>y e.1*x e.2+y e.2*x e.1) ps:=by
 rw[<- dbl nd h,<- Zd3,<- Zei];refine Zak λp _=>?_;unfold bf
 grind
theorem two_q {x:Int->Int}(nd:pts.Nodup)(h:Ins pts ps):sI (λp=>x p*bf ps x p) pts=2*qf pts ps x:=by
 rw[bil nd h];unfold qf;have:sI (λe=>x e.1*x e.2+x e.2*x e.1) ps=2*sI (λe:Ed=>x e.1*x e.2) ps:=by
  rw[<- Zd3];refine Zak λe _=>?_
  grind
 rw[this];omega
noncomputable def rs (x:Int->Int)(p:Int):Int->Int:=λr=>if r=p then x p+1 else x r
noncomputable def Zfv (ps:List Ed)(p:Int):Int:=sI (λe=>if e.1=p/\e.2=p then 1 else 0) ps
theorem q_rs {x:Int->Int}{p:Int}(nd:pts.Nodup)(hp:p∈pts):qf pts ps (rs x p)=qf pts ps x+1+bf ps x p-Zfv ps p:=by
 have e1:sI (λr=>rs x p r*rs x p r) pts=sI (λr=>x r*x r) pts+(2*x p+1):=by
  have:∀ r∈pts,rs x p r*rs x p r=x r*x r+1*(if p=r then 2*x p+1 else 0):=λr _=>by
   unfold rs;by_cases z:r=p
   .subst z;rw[if_pos rfl,if_pos rfl]
    grind
   .rw [if_neg z,if_neg (λu=>z u.symm)];omega
  rw[Zak this,Zci,Zve (y:=λ_=>1) nd hp];omega
 have e2:sI (λe:Ed=>rs x p e.1*rs x p e.2) ps=sI (λe:Ed=>x e.1*x e.2) ps+(nb ps x p+Zfv ps p):=by
  unfold nb Zfv;rw[<- Zci,<- Zci];refine Zak λe _=>?_;unfold rs;by_cases z:e.1=p
  .by_cases u:e.2=p
   .simp [z,u];grind
   .simp [z,u];grind
  .by_cases u:e.2=p
   .simp [z,u];grind
   .simp [z,u]
 unfold qf bf;rw[e1,e2];omega
theorem Zt6 {p:Int}:0<=Zfv ps p:=Zp5 λe _=>by split <;> omega
end
end L3
namespace L3
section
variable {pts:List Int}{ps K:List Ed}
def Low (pts:List Int)(ps:List Ed)(x:Int->Int):Prop:=(∀ p∈pts,0<=x p)/\(∃ p∈pts,x p≠0)/\qf pts ps x<=0
def PosN (pts:List Int)(ps:List Ed):Prop:=∀ x:Int->Int,(∀ p∈pts,0<=x p)->(∃ p∈pts,x p≠0)->0<qf pts ps x
theorem Zdm {x y:Int->Int}(h:Ins pts ps)(e:∀ p∈pts,x p=y p):qf pts ps x=qf pts ps y:=by
 have e1:sI (λp=>x p*x p) pts=sI (λp=>y p*y p) pts:=Zak λp hp=>by rw[e p hp]
 have e2:sI (λq:Ed=>x q.1*x q.2) ps=sI (λq:Ed=>y q.1*y q.2) ps:=Zak λq hq=>by rw[e _ (h q hq).1,e _ (h q hq).2]
 unfold qf;rw[e1,e2]
noncomputable def ds (x:Int->Int)(p:Int):Int->Int:=λr=>if r=p then x p-1 else x r
theorem nb_ds {x:Int->Int}{p:Int}:nb ps (ds x p) p=nb ps x p-2*Zfv ps p:=by
 unfold nb Zfv;rw[<- Zd3,<- Zei];refine Zak λe _=>?_;unfold ds;by_cases z:e.1=p
 .by_cases u:e.2=p
  .simp [z,u];omega
  .simp [z,u]
 .by_cases u:e.2=p
  .simp [z,u]
  .simp [z,u]
theorem q_ds {x:Int->Int}{p:Int}(nd:pts.Nodup)(hp:p∈pts):qf pts ps (ds x p)=qf pts ps x+1-bf ps x p-Zfv ps p:=by
 have e:rs (ds x p) p=x:=funext λr=>by
  unfold rs ds;by_cases z:r=p
  .subst z;simp
  .simp [z]
 have:=q_rs (ps:=ps) (x:=ds x p) nd hp;rw[e] at this;unfold bf at *;rw[nb_ds] at this;have:ds x p p=x p-1:=by unfold ds;simp
 omega
theorem sI_ds {x:Int->Int}{p:Int}(nd:pts.Nodup)(hp:p∈pts):sI (ds x p) pts=sI x pts-1:=by
 have:∀ r∈pts,ds x p r=x r-1*(if p=r then 1 else 0):=λr _=>by
  unfold ds;by_cases z:r=p
  .subst z;simp
  .rw [if_neg z,if_neg (λu=>z u.symm)];omega
 rw[Zak this,Zei,Zve (y:=λ_=>1) nd hp];omega
noncomputable def z0:Int->Int:=λ_=>0
theorem z0_at (p:Int):z0 p=0:=rfl
theorem Zu9 {p:Int}(nd:pts.Nodup)(hp:p∈pts):qf pts ps (rs z0 p)=1-Zfv ps p:=by
 rw[q_rs nd hp];have e1:qf pts ps z0=0:=by
  have h1:sI (λp=>z0 p*z0 p) pts=0:=Zch λ_ _=>rfl;have h2:sI (λe:Ed=>z0 e.1*z0 e.2) ps=0:=Zch λ_ _=>rfl;unfold qf;omega
 have e2:nb ps z0 p=0:=Zch λe _=>by simp[z0]
 unfold bf;have:=z0_at p;omega
end
end L3
namespace L3
section
variable {S:List Int}{ps:List Ed}{f:Int}{d:Int->Nat}
noncomputable def upsA (d:Int->Nat)(ps:List Ed):Nat->Int->List Int->List Int
 | 0,_,acc=>acc
 | k+1,x,acc=>upsA d ps k (up1 d ps x) (x::acc)
def Ch (u:Int->Int):Int->List Int->Prop
 | _,[]=>True
 | f,p::l=>u p=f/\Ch u p l
theorem Fk.ups (T:Fk S ps f d):∀ (k:Nat) {x:Int} {acc:List Int},d x=k->x∈S->Ch (up1 d ps) x acc->Ch (up1 d ps) f (upsA d ps k x acc)/\(upsA d ps k x acc).map d=List.range' 1 k++acc.map d/\∀ y∈upsA d ps k x acc,y∈acc\/(y∈S/\y≠f/\Zcj d ps f y=Zcj d ps f x)
 | 0,x,acc,hk,hx,c=>by
  have:=T.zero hx hk;subst this;exact⟨c,rfl,λy hy=>.inl hy⟩
 | k+1,x,acc,hk,hx,c=>by
  have xf:x≠f:=λz=>by rw[z,T.d0] at hk;omega
  have u:=T.up1_prop hx xf;obtain⟨h1,h2,h3⟩:=T.ups k (x:=up1 d ps x) (acc:=x::acc) ∅ u.1 ⟨rfl,c⟩;refine⟨h1,?_,λy hy=>?_⟩
  .show (upsA d ps k (up1 d ps x) (x::acc)).map d=_;rw[h2,List.range'_concat,Jaw,hk,Ja5];simp;omega
  .have hy:y∈upsA d ps k (up1 d ps x) (x::acc):=hy;by_cases hu:up1 d ps x=f
   .have:k=0:=by rw[hu,T.d0] at u;omega
    subst this;rcases Jao.mp hy with rfl|hy
    .exact .inr ⟨hx,xf,rfl⟩
    .exact .inl hy
   .rcases h3 y hy with h|⟨a,b,e⟩
    .rcases Jao.mp h with rfl|h
     .exact .inr ⟨hx,xf,rfl⟩
     .exact .inl h
    .exact .inr ⟨a,b,e.trans (T.root_step hx xf hu).symm⟩
noncomputable def arm (d:Int->Nat)(ps:List Ed)(z:Int):List Int:=upsA d ps (d z) z []
theorem Fk.arm_ok (T:Fk S ps f d){z:Int}(h:z∈S):Ch (up1 d ps) f (arm d ps z)/\(arm d ps z).map d=List.range' 1 (d z)/\(arm d ps z).length=d z/\(arm d ps z).Nodup/\∀ y∈arm d ps z,y∈S/\y≠f/\Zcj d ps f y=Zcj d ps f z:=by
 obtain⟨h1,h2,h3⟩:=T.ups (d z) (x:=z) (acc:=[]) rfl h True.intro;rw[Jf8,Jcy] at h2;refine⟨h1,h2,?_,?_,λy hy=>?_⟩
 .have:=Jdr List.length h2;rw[Jaa,List.length_range'] at this;exact this
 .have n:((arm d ps z).map d).Nodup:=by unfold arm;rw[h2];exact List.nodup_range' ..
  exact List.Pairwise.of_map d (λa b hab e=>hab (by rw[e])) n
 .rcases h3 y hy with h|h
  .simp at h
  .exact h
theorem Fk.arm_perm (T:Fk S ps f d){z:Int}(h:z∈S)(hf:z≠f)(h0:chn d ps z=0):(arm d ps z).Perm (cls S d ps f (Zcj d ps f z)):=by
 obtain⟨_,_,hl,nd,hm⟩:=T.arm_ok h;refine Zb8 nd (λy hy=>?_) (by rw[T.size h hf h0,hl];exact Jaf _);obtain⟨a,b,c⟩:=hm y hy;exact Zdp.mpr ⟨⟨a,b⟩,c⟩
def Lvs (S:List Int)(ps:List Ed)(f:Int)(d:Int->Nat)(L:List Int):Prop:=L.Nodup/\∀ z,z∈L ↔ (z∈S/\z≠f/\chn d ps z=0)
theorem Fk.all (T:Fk S ps f d){L:List Int}(hL:Lvs S ps f d L):((L.map (arm d ps)).flatten).Perm (oth S f):=by
 obtain⟨nL,mL⟩:=hL;have nd:((L.map (arm d ps)).flatten).Nodup:=by
  refine List.pairwise_flatten.mpr ⟨λl hl=>?_,?_⟩
  .obtain ⟨z,hz,rfl⟩:=Jan.mp hl;exact (T.arm_ok ((mL z).mp hz).1).2.2.2.1
  .rw [Je2];refine List.Pairwise.imp_of_mem ?_ nL;intro a b ha hb hab x hx y hy e;obtain⟨a1,a2,a3⟩:=(mL a).mp ha;obtain⟨b1,b2,b3⟩:=(mL b).mp hb;have r1:=((T.arm_ok a1).2.2.2.2 x hx).2.2;have r2:=((T.arm_ok b1).2.2.2.2 y hy).2.2;rw[e] at r1;exact hab (T.leaf_one a1 a2 a3 b1 b2 b3 (r1.symm.trans r2))
 have s1:∀ x∈(L.map (arm d ps)).flatten,x∈oth S f:=λx hx=>by
  obtain⟨l,hl,hx⟩:=Jgd.mp hx;obtain⟨z,hz,rfl⟩:=Jan.mp hl;obtain⟨a,b,_⟩:=(T.arm_ok ((mL z).mp hz).1).2.2.2.2 x hx;exact Zbe.mpr ⟨a,b⟩
 refine Zb8 nd s1 (Zaz (Jbj Jbg T.nd) λx hx=>?_);obtain⟨h,hf⟩:=Zbe.mp hx;obtain⟨z,z1,z2,z3,z4⟩:=T.leaf h hf;exact Jgd.mpr ⟨_,Jan.mpr ⟨z,(mL z).mpr ⟨z1,z2,z3⟩,rfl⟩,(T.arm_perm z1 z2 z3).mem_iff.mpr (Zdp.mpr ⟨⟨h,hf⟩,z4.symm⟩)⟩
noncomputable def pqL:Int->List Int->Int
 | _,[]=>0
 | v,a::l=>a*a-v*a+pqL a l
theorem Ch.sum {u:Int->Int}(X:Int->Int):∀ {l:List Int} {f:Int},Ch u f l->sI (λp=>X p*X p-X p*X (u p)) l=pqL (X f) (l.map X)
 | [],_,_=>rfl
 | p::l,f,h=>by
  have ih:=Ch.sum X (l:=l) (f:=p) h.2;simp only[sI,Jaw,pqL];rw[ih,h.1,Int.mul_comm (X f)]
theorem Zm8 (nd:S.Nodup)(h:f∈S):S.Perm (f::oth S f):=by
 have e:oth S f=S.erase f:=by
  unfold oth;rw[List.Nodup.erase_eq_filter nd];congr 1
  funext x
  rw[Jcx];simp
 rw[e];exact List.perm_cons_erase h
theorem Fk.q_eq (T:Fk S ps f d){L:List Int}(hL:Lvs S ps f d L)(X:Int->Int):qf S ps X=X f*X f+sI (λz=>pqL (X f) ((arm d ps z).map X)) L:=by
 have e1:sI (λe:Ed=>X e.1*X e.2) ps=sI (λp=>X p*X (up1 d ps p)) (oth S f):=by
  rw[Zeq T.perm,Zf7];refine Zak λe he=>?_;rw[T.up1_ce he];rcases Zev (d:=d) e with ⟨a,b⟩|⟨a,b⟩
  .rw [a,b]
  .rw [a,b,Int.mul_comm]
 have e2:sI (λp=>X p*X p) S=X f*X f+sI (λp=>X p*X p) (oth S f):=by
  rw[Zeq (Zm8 T.nd T.fS)];rfl
 have e3:sI (λp=>X p*X p-X p*X (up1 d ps p)) (oth S f)=sI (λz=>pqL (X f) ((arm d ps z).map X)) L:=by
  rw[<- Zeq (T.all hL),Zp7,Zf7];exact Zak λz hz=>(T.arm_ok ((hL.2 z).mp hz).1).1.sum X
 rw[Zei] at e3;unfold qf;omega
theorem pq_id (a v m P:Int):(m+1)*(2*(m+1+1)*(a*a-v*a+P)+(m+1)*(v*v))=(m+2)*(2*(m+1)*P+m*(a*a))+((m+2)*a-(m+1)*v)*((m+2)*a-(m+1)*v):=by grind
theorem Zby (a:Int):0<=a*a:=by
 rcases Int.le_total 0 a with h|h
 .exact Je5 h h
 .exact Int.mul_nonneg_of_nonpos_of_nonpos h h
theorem Zqi:∀ (l:List Int) (v:Int),0<=2*((l.length:Int)+1)*pqL v l+l.length*(v*v)
 | [],v=>by simp[pqL]
 | a::l,v=>by
  have ih:=Zqi l a;have hm:(0:Int)<=l.length:=∅
  simp only[pqL,Jau,Int.natCast_add,Int.natCast_one];generalize (l.length:Int)=m at *;generalize pqL a l=P at *;have e:=pq_id a v m P;have h1:=Je5 (show 0<=m+2 by omega) ih;have h2:=Zby ((m+2)*a-(m+1)*v);refine Int.nonneg_of_mul_nonneg_right (a:=m+1) ?_ ∅;omega
theorem pq_z:∀ (l:List Int),pqL 0 l<=0->∀ a∈l,a=0
 | [],_,a,ha=>by simp at ha
 | b::l,h,a,ha=>by
  have ih:=Zqi l b;have hm:(0:Int)<=l.length:=∅
  simp only[pqL,Jf9,Int.sub_zero] at h;have e:=pq_id b 0 l.length (pqL b l);have hb:b=0:=Jah λz=>by
   have h1:=Je5 (show 0<=(l.length:Int)+2 by omega) ih;have h2:0<(((l.length:Int)+2)*b)*(((l.length:Int)+2)*b):=by
    have:((l.length:Int)+2)*b≠0:=Jgq ∅ z;have:=Zby (((l.length:Int)+2)*b);have h3:((l.length:Int)+2)*b*(((l.length:Int)+2)*b)≠0:=Jgq (by assumption) (by assumption);omega
   simp only[Jf9,Jg5,Int.sub_zero,Jfg] at e;have h4:=Je5 (show 0<=((l.length:Int)+1)*(2*((l.length:Int)+1+1)) from Je5 ∅ ∅) (show 0<=-(b*b+pqL b l) by omega);rw[Int.mul_neg,Int.mul_assoc] at h4;omega
  subst hb;rcases Jao.mp ha with rfl|ha
  .rfl
  .exact pq_z l ∅ a ha
theorem Zjf {l:List Int}{v:Int}(h:v≠0):-(v*v)<2*pqL v l:=by
 have h1:=Zqi l v;have h2:0<v*v:=by
  have:=Zby v;have:=Jgq h h;omega
 have hm:(0:Int)<=l.length:=∅
 generalize (l.length:Int)=m at *;generalize v*v=u at *;generalize pqL v l=P at *;refine Jah λz=>?_;have h3:=Int.mul_le_mul_of_nonneg_left (show 2*P<=-u by omega) (show 0<=m+1 by omega);have e1:2*(m+1)*P=(m+1)*(2*P):=by grind
 have e2:(m+1) * -u=-(m*u)-u:=by grind
 omega
theorem pq_nn {l:List Int}:0<=pqL 0 l:=by
 have h1:=Zqi l 0;rw[Jg5,Jg5,Jfg] at h1;exact Int.nonneg_of_mul_nonneg_right h1 ∅
def DPos (S:List Int)(ps:List Ed):Prop:=∀ X:Int->Int,(∃ p∈S,X p≠0)->0<qf S ps X
theorem Fk.dpos (T:Fk S ps f d){L:List Int}(hL:Lvs S ps f d L)(h:∀ X:Int->Int,X f≠0->0<X f*X f+sI (λz=>pqL (X f) ((arm d ps z).map X)) L):DPos S ps:=λX hX=>by
 rw[T.q_eq hL];by_cases z:X f=0
 .refine Jah λw=>?_;rw[z] at w;have nn:∀ y∈L,0<=pqL 0 ((arm d ps y).map X):=λy _=>pq_nn;obtain⟨p,hp,hz⟩:=hX;have pf:p≠f:=λe=>hz (e ▸ z);obtain⟨l,hl,hpl⟩:=Jgd.mp ((T.all hL).mem_iff.mpr (Zbe.mpr ⟨hp,pf⟩));obtain⟨y,hy,rfl⟩:=Jan.mp hl;have:=Zd4 hy nn;exact hz (pq_z _ ∅ _ (Jan.mpr ⟨p,hpl,rfl⟩))
 .exact h X z
theorem Zpq {a:Int}(h:a≠0):0<a*a:=by
 have:=Zby a;have:=Jgq h h;omega
theorem Fk.posA (T:Fk S ps f d){L:List Int}(hL:Lvs S ps f d L)(h2:L.length<=2):DPos S ps:=T.dpos hL λX hz=>by
 have hu:=Zpq hz
 match L,h2 with
 | [],_=>simpa [sI] using hu
 | [a],_=>
  have:=Zjf (l:=(arm d ps a).map X) hz;simp only[sI];omega
 | [a,b],_=>
  have:=Zjf (l:=(arm d ps a).map X) hz;have:=Zjf (l:=(arm d ps b).map X) hz;simp only[sI];omega
theorem Fk.arm_lo (T:Fk S ps f d)(X:Int->Int){z:Int}(h:z∈S):0<=2*((d z:Int)+1)*pqL (X f) ((arm d ps z).map X)+d z*(X f*X f):=by
 have:=Zqi ((arm d ps z).map X) (X f);rw[Jaa,(T.arm_ok h).2.2.1] at this;exact this
theorem Fk.posD (T:Fk S ps f d){a b c:Int}(hL:Lvs S ps f d [a,b,c])(ha:d a=1)(hb:d b=1):DPos S ps:=T.dpos hL λX hz=>by
 have hu:=Zpq hz;have h1:=T.arm_lo X ((hL.2 a).mp (by simp)).1;have h2:=T.arm_lo X ((hL.2 b).mp (by simp)).1;have h3:=Zjf (l:=(arm d ps c).map X) hz;rw[ha] at h1;rw[hb] at h2;simp only[sI];omega
theorem Fk.posE (T:Fk S ps f d){a b c:Int}(hL:Lvs S ps f d [a,b,c])(ha:d a=1)(hb:d b=2)(hc:d c<=4):DPos S ps:=T.dpos hL λX hz=>by
 have hu:=Zpq hz;have h1:=T.arm_lo X ((hL.2 a).mp (by simp)).1;have h2:=T.arm_lo X ((hL.2 b).mp (by simp)).1;have h3:=T.arm_lo X ((hL.2 c).mp (by simp)).1;rw[ha] at h1;rw[hb] at h2;simp only[sI];have:d c=0\/d c=1\/d c=2\/d c=3\/d c=4:=∅
 rcases this with e|e|e|e|e
 all_goals
  rw[e] at h3;omega
theorem Fk.few_ends (T:Fk S ps f d){L:List Int}(hL:Lvs S ps f d L):L.length<=deg ps f:=by
 rw[T.deg_f];have lc:((ps.filter λq=>decide (pe d q=f)).map (ce d)).length=chn d ps f:=by
  unfold chn;rw[Jaa,List.count,List.countP_map,Jer];rfl
 rw[<- lc,<- Jaa (f:=Zcj d ps f) (as:=L)];refine Zaz (Zbd hL.1 λx hx y hy e=>?_) λr hr=>?_
 .obtain ⟨a1,a2,a3⟩:=(hL.2 x).mp hx;obtain⟨b1,b2,b3⟩:=(hL.2 y).mp hy;exact T.leaf_one a1 a2 a3 b1 b2 b3 e
 .obtain ⟨z,hz,rfl⟩:=Jan.mp hr;obtain⟨a1,a2,a3⟩:=(hL.2 z).mp hz;obtain⟨r1,r2,r3⟩:=T.root_ok (d z) (Jaf _) a1 a2;obtain⟨q,hq,e1,e2⟩:=T.up1_of r1 r2;exact Jan.mpr ⟨q,Jal.mpr ⟨hq,Jam (e2.symm.trans r3)⟩,e1⟩
theorem Fk.d_le (T:Fk S ps f d){L:List Int}(hL:Lvs S ps f d L){p:Int}{N:Nat}(hp:p∈S)(h:∀ z∈L,d z<=N):d p<=N:=by
 by_cases hf:p=f
 .rw [hf,T.d0];exact Jbp _
 .obtain ⟨l,hl,hpl⟩:=Jgd.mp ((T.all hL).mem_iff.mpr (Zbe.mpr ⟨hp,hf⟩));obtain⟨z,hz,rfl⟩:=Jan.mp hl;have:d p∈(arm d ps z).map d:=Jan.mpr ⟨p,hpl,rfl⟩;rw[(T.arm_ok ((hL.2 z).mp hz).1).2.1,Jhf] at this;have:=h z hz;omega
theorem Zqo {α β:Type}{g:α->β}{m1 m2:List β}(p:m1.Perm m2):∀ l:List α,l.map g=m2->∃ l':List α,l'.Perm l/\l'.map g=m1:=by
 induction p with
 | nil=>exact λl e=>⟨l,Jf5 _,e⟩
 | cons x _ ih=>
  intro l e
  match l,e with
  | y::l,e=>
   rw[Jaw,Jci] at e;obtain⟨l',h1,h2⟩:=ih l e.2;exact⟨y::l',h1.cons y,by rw[Jaw,e.1,h2]⟩
 | swap x y m=>
  intro l e
  match l,e with
  | a::b::l,e=>
   rw[Jaw,Jaw,Jci,Jci] at e;exact⟨b::a::l,List.Perm.swap ..,by rw[Jaw,Jaw,e.1,e.2.1,e.2.2]⟩
 | trans _ _ ih1 ih2=>
  intro l e;obtain⟨l2,h1,h2⟩:=ih2 l e;obtain⟨l1,h3,h4⟩:=ih1 l2 h2;exact⟨l1,h3.trans h1,h4⟩
theorem Lvs.perm {L L':List Int}(h:Lvs S ps f d L)(p:L'.Perm L):Lvs S ps f d L':=⟨p.nodup_iff.mpr h.1,λz=>by rw[p.mem_iff];exact h.2 z⟩
theorem Fk.lvs_is (T:Fk S ps f d)(h:deg ps f≠1):Lvs S ps f d (lvs S ps):=⟨Jbj Jbg T.nd,λx=>by
 unfold lvs;rw[Jal,Jb0];constructor
 .rintro ⟨h1,e⟩;have hf:x≠f:=λz=>h (z ▸ e);have:=T.deg_x h1 hf;exact⟨h1,hf,∅⟩
 .rintro ⟨h1,hf,e⟩;exact⟨h1,by have:=T.deg_x h1 hf;omega⟩⟩
theorem Fk.ends_is (T:Fk S ps f d):Lvs S ps f d ((oth S f).filter λx=>decide (chn d ps x=0)):=⟨Jbj (Jbg.trans Jbg) T.nd,λx=>by
 rw[Jal,Jb0,Zbe,and_assoc]⟩
theorem Zvm {l:List Int}{g:Int->Int}{k:Nat}(e:l.map d=List.range' 1 k)(r:Nat->Int)(hg:∀ p∈l,g p=r (d p)):l.map g=(List.range' 1 k).map r:=by
 rw[<- e,Jck];exact Jc9 hg
theorem Fk.low6 (T:Fk S ps f d){a b c:Int}(hL:Lvs S ps f d [a,b,c])(ha:d a=2)(hb:d b=2)(hc:d c=2\/d c=3):qf S ps (λp=>if p∈S then (3:Int)-d p else 0)=0:=by
 rw[T.q_eq hL];have ar:∀ z∈[a,b,c],(arm d ps z).map (λp=>if p∈S then (3:Int)-d p else 0)=(List.range' 1 (d z)).map λk:Nat=>(3:Int)-(k:Nat):=λz hz=>by
  have hz:=((hL.2 z).mp hz).1;refine Zvm (T.arm_ok hz).2.1 _ λp hp=>?_;rw[if_pos ((T.arm_ok hz).2.2.2.2 p hp).1]
 simp only[sI];rw[ar a (by simp),ar b (by simp),ar c (by simp),if_pos T.fS,T.d0,ha,hb];rcases hc with e|e
 .rw [e];rfl
 .rw [e];rfl
theorem Fk.low7 (T:Fk S ps f d){a b c:Int}(hL:Lvs S ps f d [a,b,c])(ha:d a=1)(hb:d b=3)(hc:d c=3):qf S ps (λp=>if p∈S then (if p=a then (2:Int) else 4-d p) else 0)=0:=by
 rw[T.q_eq hL];have nL:=hL.1;have ha':=(hL.2 a).mp (by simp);have ar:∀ z∈[b,c],(arm d ps z).map (λp=>if p∈S then (if p=a then (2:Int) else 4-d p) else 0)=(List.range' 1 (d z)).map λk:Nat=>(4:Int)-(k:Nat):=λz hz=>by
  have hz':=(hL.2 z).mp (Jbd _ hz);have nz:z≠a:=λe=>(Jbz.mp nL).1 (e ▸ hz);refine Zvm (T.arm_ok hz'.1).2.1 _ λp hp=>?_;obtain⟨h1,h2,h3⟩:=(T.arm_ok hz'.1).2.2.2.2 p hp;rw[if_pos h1,if_neg];intro e;rw[e] at h3;exact nz (T.leaf_one hz'.1 hz'.2.1 hz'.2.2 ha'.1 ha'.2.1 ha'.2.2 h3.symm)
 have a1:arm d ps a=[a]:=by
  unfold arm;rw[ha];rfl
 simp only[sI];rw[ar b (by simp),ar c (by simp),a1,if_pos T.fS,if_neg (λe=>ha'.2.1 e.symm),T.d0,hb,hc];simp only[Jaw,Jf8,if_pos ha'.1,Jdk];rfl
end
end L3
namespace L3
section
variable {pts:List Int}{ps:List Ed}
theorem q_pm {x y:Int->Int}:qf pts ps (λp=>x p+y p)+qf pts ps (λp=>x p-y p)=2*qf pts ps x+2*qf pts ps y:=by
 have e1:sI (λp=>(x p+y p)*(x p+y p)) pts+sI (λp=>(x p-y p)*(x p-y p)) pts=2*sI (λp=>x p*x p) pts+2*sI (λp=>y p*y p) pts:=by
  rw[<- Zci,<- Zd3,<- Zd3,<- Zci];exact Zak λp _=>by grind
 have e2:sI (λe:Ed=>(x e.1+y e.1)*(x e.2+y e.2)) ps+sI (λe:Ed=>(x e.1-y e.1)*(x e.2-y e.2)) ps=2*sI (λe:Ed=>x e.1*x e.2) ps+2*sI (λe:Ed=>y e.1*y e.2) ps:=by
  rw[<- Zci,<- Zd3,<- Zd3,<- Zci];exact Zak λe _=>by grind
 unfold qf;dsimp only;omega
theorem Zu8 {x:Int->Int}(ins:Ins pts ps)(h:∀ p∈pts,x p=0):qf pts ps x=0:=by
 unfold qf;rw[Zch λp hp=>by rw[h p hp];rfl,Zch λe he=>by rw[h _ (ins e he).1];exact Jf9 _];rfl
theorem DPos.nn {x:Int->Int}(d:DPos pts ps)(ins:Ins pts ps):0<=qf pts ps x:=by
 by_cases h:∃ p∈pts,x p≠0
 .exact Int.le_of_lt (d x h)
 .rw [Zu8 ins λp hp=>Jah λz=>h ⟨p,hp,z⟩];exact Jfd _
structure Rt (pts:List Int)(ps:List Ed)(x:Int->Int):Prop where
 nn:∀ p∈pts,0<=x p
 one:qf pts ps x=1
theorem rt_mod2 {x y:Int->Int}(d:DPos pts ps)(ins:Ins pts ps)(hx:Rt pts ps x)(hy:Rt pts ps y)(h:∀ p∈pts,x p % 2=y p % 2):∀ p∈pts,x p=y p:=by
 have q:=q_pm (pts:=pts) (ps:=ps) (x:=λp=>(x p+y p) / 2) (y:=λp=>(x p-y p) / 2);rw[Zdm (y:=x) ins (λp hp=>by have:=h p hp;first|omega|(dsimp only;omega)),Zdm (x:=λp=>(λp=>(x p+y p) / 2) p-(λp=>(x p-y p) / 2) p) (y:=y) ins (λp hp=>by have:=h p hp;first|omega|(dsimp only;omega)),hx.one,hy.one] at q;have u0:=d.nn (x:=λp=>(x p+y p) / 2) ins;by_cases hv:∃ p∈pts,(x p-y p) / 2≠0
 .have v1:=d _ hv;have uz:¬ ∃ p∈pts,(x p+y p) / 2≠0:=λz=>by
   have:=d _ z;omega
  have xz:∀ p∈pts,x p=0:=λp hp=>by
   have h1:(x p+y p) / 2=0:=Jah λz=>uz ⟨p,hp,z⟩;have h2:=hx.nn p hp;have h3:=hy.nn p hp;have h4:=h p hp;omega
  have:=Zu8 ins xz;rw[hx.one] at this;omega
 .intro p hp;have h1:(x p-y p) / 2=0:=Jah λz=>hv ⟨p,hp,z⟩;have h4:=h p hp;omega
theorem Ze7 (d:DPos pts ps)(nd:pts.Nodup){p:Int}(hp:p∈pts):Zfv ps p=0:=by
 have h:=d (rs z0 p) ⟨p,hp,by unfold rs;simp[z0]⟩;rw[Zu9 nd hp] at h;have:=Zt6 (ps:=ps) (p:=p);omega
theorem Zlm {x:Int->Int}(d:DPos pts ps)(nd:pts.Nodup)(ins:Ins pts ps)(hx:Rt pts ps x):∃ p∈pts,(∀ r∈pts,x r=if r=p then 1 else 0)\/(Rt pts ps (ds x p)/\bf ps (ds x p) p=-1):=by
 have two:=two_q (x:=x) nd ins;rw[hx.one] at two;obtain⟨p,hp,hb⟩:∃ p∈pts,0<x p*bf ps x p:=Jah λz=>by
  have:sI (λp=>x p*bf ps x p) pts<=sI (λ_=>0) pts:=Zp6 λp hp=>Jah λu=>z ⟨p,hp,∅⟩;rw[Zbu] at this;omega
 have x0:=hx.nn p hp;have x1:1<=x p:=Jah λz=>by
  have:x p=0:=∅
  rw[this] at hb;omega
 have b1:1<=bf ps x p:=Jah λz=>by
  have:=Int.mul_nonpos_of_nonneg_of_nonpos x0 (show bf ps x p<=0 by omega);omega
 refine⟨p,hp,?_⟩;have lz:=Ze7 d nd hp;have qd:=q_ds (ps:=ps) (x:=x) nd hp;rw[hx.one,lz] at qd;by_cases hz:∃ r∈pts,ds x p r≠0
 .right;have:=d _ hz;refine⟨⟨λr hr=>?_,∅⟩,?_⟩
  .unfold ds;split
   .omega
   .exact hx.nn r hr
  .have e:=nb_ds (ps:=ps) (x:=x) (p:=p);rw[lz] at e;have e2:ds x p p=x p-1:=by unfold ds;simp
   unfold bf at *;omega
 .left;intro r hr;have:ds x p r=0:=Jah λz=>hz ⟨r,hr,z⟩;unfold ds at this;split at this
  .rename_i e
   rw[if_pos e,e];omega
  .rename_i e
   rw[if_neg e];exact this
noncomputable def mr (ps:List Ed)(x:Int->Int)(p:Int):Int->Int:=λr=>if r=p then nb ps x p-x p else x r
theorem nb_irr {x y:Int->Int}{p:Int}(hl:Zfv ps p=0)(e:∀ r,r≠p->x r=y r):nb ps x p=nb ps y p:=by
 have no:∀ q∈ps,¬ (q.1=p/\q.2=p):=λq hq z=>by
  have:(if q.1=p/\q.2=p then (1:Int) else 0)<=_:=Zd4 (g:=λe:Ed=>if e.1=p/\e.2=p then (1:Int) else 0) hq λe _=>by split <;> omega
  rw[if_pos z] at this;unfold Zfv at hl;omega
 unfold nb;refine Zak λq hq=>?_;have:=no q hq;by_cases h1:q.1=p
 .have h2:q.2≠p:=λz=>this ⟨h1,z⟩;rw[if_pos h1,if_neg h2,if_pos h1,if_neg h2,e _ h2]
 .by_cases h2:q.2=p
  .rw [if_neg h1,if_pos h2,if_neg h1,if_pos h2,e _ h1]
  .rw [if_neg h1,if_neg h2,if_neg h1,if_neg h2]
noncomputable def ad (x:Int->Int)(p c:Int):Int->Int:=λr=>if r=p then x p+c else x r
theorem q_ad {x:Int->Int}{p c:Int}(nd:pts.Nodup)(hp:p∈pts)(hl:Zfv ps p=0):qf pts ps (ad x p c)=qf pts ps x+c*c+c*bf ps x p:=by
 have no:∀ q∈ps,¬ (q.1=p/\q.2=p):=λq hq z=>by
  have:(if q.1=p/\q.2=p then (1:Int) else 0)<=_:=Zd4 (g:=λe:Ed=>if e.1=p/\e.2=p then (1:Int) else 0) hq λe _=>by split <;> omega
  rw[if_pos z] at this;unfold Zfv at hl;omega
 have e1:sI (λr=>ad x p c r*ad x p c r) pts=sI (λr=>x r*x r) pts+(2*c*x p+c*c):=by
  have:∀ r∈pts,ad x p c r*ad x p c r=x r*x r+1*(if p=r then 2*c*x p+c*c else 0):=λr _=>by
   unfold ad;by_cases z:r=p
   .subst z;rw[if_pos rfl,if_pos rfl]
    grind
   .rw [if_neg z,if_neg (λu=>z u.symm)];omega
  rw[Zak this,Zci,Zve (y:=λ_=>1) nd hp];omega
 have e2:sI (λe:Ed=>ad x p c e.1*ad x p c e.2) ps=sI (λe:Ed=>x e.1*x e.2) ps+c*nb ps x p:=by
  unfold nb;rw[<- Zd3,<- Zci];refine Zak λe he=>?_;have:=no e he;unfold ad;by_cases z:e.1=p
  .have u:e.2≠p:=λu=>this ⟨z,u⟩;simp[z,u]
   grind
  .by_cases u:e.2=p
   .simp [z,u]
    grind
   .simp [z,u]
 unfold qf bf;rw[e1,e2]
 grind
theorem mr_ad {x:Int->Int}{p:Int}:mr ps x p=ad x p (-bf ps x p):=funext λr=>by
 unfold mr ad bf;split
 .omega
 .rfl
theorem sI_ad {x:Int->Int}{p c:Int}(nd:pts.Nodup)(hp:p∈pts):sI (ad x p c) pts=sI x pts+c:=by
 have:∀ r∈pts,ad x p c r=x r+c*(if p=r then 1 else 0):=λr _=>by
  unfold ad;by_cases z:r=p
  .subst z;simp
  .rw [if_neg z,if_neg (λu=>z u.symm)];omega
 rw[Zak this,Zci,Zve (y:=λ_=>c) nd hp];omega
theorem Rt.up {x:Int->Int}{p:Int}(d:DPos pts ps)(nd:pts.Nodup)(hx:Rt pts ps x)(hp:p∈pts)(h:sI x pts<sI (mr ps x p) pts):Rt pts ps (mr ps x p)/\bf ps x p<0:=by
 rw[mr_ad] at *;rw[sI_ad nd hp] at h;refine⟨⟨λr hr=>?_,?_⟩,∅⟩
 .unfold ad;have:=hx.nn r hr;split
  .rename_i e
   have:=hx.nn p hp;omega
  .exact this
 .rw [q_ad nd hp (Ze7 d nd hp),hx.one]
  grind
theorem Rt.unit (d:DPos pts ps)(nd:pts.Nodup){p:Int}(hp:p∈pts):Rt pts ps (rs z0 p):=⟨λr _=>by unfold rs z0;split <;> omega,by rw[Zu9 nd hp,Ze7 d nd hp];rfl⟩
noncomputable def Zmm:Nat->List (List Int)
 | 0=>[[]]
 | k+1=>(Zmm k).map (0 :: ·)++(Zmm k).map (1 :: ·)
theorem Zn4:∀ k,(Zmm k).length=2 ^ k
 | 0=>rfl
 | k+1=>by
  have:=Zn4 k;simp only[Zmm,Jaq,Jaa];rw[this,Nat.pow_succ];omega
theorem Zn3:∀ {l:List Int},(∀ v∈l,v=0\/v=1)->l∈Zmm l.length
 | [],_=>by simp[Zmm]
 | a::l,h=>by
  have ih:=Zn3 (l:=l) λv hv=>h v (by simp[hv]);simp only[Jau,Zmm,Jbf,Jan];rcases h a (by simp) with rfl|rfl
  .exact .inl ⟨l,ih,rfl⟩
  .exact .inr ⟨l,ih,rfl⟩
theorem Zrh {f g:Int->Int}{l:List Int}(h:l.map f=l.map g):∀ p∈l,f p=g p:=by
 induction l with
 | nil=>intro p hp;simp at hp
 | cons a l ih=>
  simp only[Jaw,Jci] at h;intro p hp;rcases Jao.mp hp with rfl|hp
  .exact h.1
  .exact ih h.2 p hp
theorem Zmz (d:DPos pts ps)(ins:Ins pts ps){L:List (List Int)}(nL:L.Nodup)(h:∀ l∈L,∃ x,Rt pts ps x/\l=pts.map x):L.length<=2 ^ pts.length:=by
 rw[<- Zn4,<- Jaa (f:=λl:List Int=>l.map (· % 2)) (as:=L)];refine Zaz (Zbd nL λl hl l' hl' e=>?_) λb hb=>?_
 .obtain ⟨x,hx,rfl⟩:=h l hl;obtain⟨y,hy,rfl⟩:=h l' hl';rw[Jck,Jck] at e;have e1:=Zrh e;exact Jc9 (rt_mod2 d ins hx hy λp hp=>e1 p hp)
 .obtain ⟨l,hl,rfl⟩:=Jan.mp hb;obtain⟨x,hx,rfl⟩:=h l hl;have:=Zn3 (l:=(pts.map x).map (· % 2)) λv hv=>by
   obtain⟨u,_,rfl⟩:=Jan.mp hv;omega
  rwa [Jaa,Jaa] at this
theorem Zm0 (d:DPos pts ps)(nd:pts.Nodup)(ins:Ins pts ps):∀ (s:Nat) {x:Int->Int},Rt pts ps x->sI x pts=s->∃ L:List (List Int),L.Nodup/\L.length=s/\∀ l∈L,∃ y,Rt pts ps y/\l=pts.map y/\sI y pts<=s
 | 0,x,hx,hs=>by
  obtain⟨p,hp,h⟩:=Zlm d nd ins hx;exact⟨[],Jf4,rfl,λl hl=>by simp at hl⟩
 | s+1,x,hx,hs=>by
  obtain⟨p,hp,h⟩:=Zlm d nd ins hx;rcases h with h|⟨h,_⟩
  .have:sI x pts=1:=by
    rw[Zak (h:=λr=>0+1*(if p=r then 1 else 0)) λr hr=>by
     rw[h r hr];by_cases z:r=p
     .simp [z]
     .rw [if_neg z,if_neg (λu=>z u.symm)];rfl,Zci,Zve (y:=λ_=>1) nd hp,Zbu]
    omega
   have:s=0:=∅
   subst this;exact⟨[pts.map x],by simp,rfl,λl hl=>⟨x,hx,Jas.mp hl,∅⟩⟩
  .obtain ⟨L,h1,h2,h3⟩:=Zm0 d nd ins s h (by rw[sI_ds nd hp];omega);refine⟨pts.map x::L,Jbz.mpr ⟨λz=>?_,h1⟩,by simp[h2],λl hl=>?_⟩
   .obtain ⟨y,_,e,hy⟩:=h3 _ z;have:=Zak (Zrh e);omega
   .rcases Jao.mp hl with rfl|hl
    .exact ⟨x,hx,rfl,∅⟩
    .obtain ⟨y,a,b,c⟩:=h3 l hl;exact⟨y,a,b,∅⟩
theorem Rt.small {x:Int->Int}(d:DPos pts ps)(nd:pts.Nodup)(ins:Ins pts ps)(hx:Rt pts ps x):sI x pts<=(2 ^ pts.length:Nat):=by
 have s0:=Zp5 hx.nn;obtain⟨L,h1,h2,h3⟩:=Zm0 d nd ins (sI x pts).toNat hx ∅;have:=Zmz d ins h1 λl hl=>let ⟨y,a,b,_⟩:=h3 l hl;⟨y,a,b⟩;omega
theorem Zu5 (d:DPos pts ps)(nd:pts.Nodup)(ins:Ins pts ps){C:(Int->Int)->Prop}(hc:∀ x y,C x->(∀ p∈pts,x p=y p)->C y)(h1:∀ p∈pts,C (rs z0 p))(h2:∀ x p,Rt pts ps x->C x->p∈pts->sI x pts<sI (mr ps x p) pts->C (mr ps x p)):∀ (s:Nat) {x:Int->Int},Rt pts ps x->sI x pts<=s->C x
 | s,x,hx,hs=>by
  obtain⟨p,hp,h⟩:=Zlm d nd ins hx;rcases h with h|⟨h,hb⟩
  .exact hc _ _ (h1 p hp) λr hr=>by
    rw[h r hr];unfold rs z0;split <;> rfl
  .have sd:=sI_ds (x:=x) nd hp;have e:mr ps (ds x p) p=x:=funext λr=>by
    rw[mr_ad,hb];unfold ad ds;by_cases z:r=p
    .subst z;simp
    .simp [z]
   match s with
   | 0=>
    have:=Zp5 h.nn;omega
   | s+1=>
    have ih:=Zu5 d nd ins hc h1 h2 s h ∅;have:=h2 _ p h ih hp (by rw[e];omega);rwa [e] at this
end
end L3
set_option maxRecDepth 10000
namespace L3
noncomputable def pN (n:Nat):List Int:=(List.range n).map λj=>((j:Nat):Int)
theorem Zik {n:Nat}{x:Int}:x∈pN n ↔ 0<=x/\x<n:=by
 unfold pN;rw[Jan];constructor
 .rintro ⟨j,hj,rfl⟩;have:=Jb3.mp hj;omega
 .intro ⟨h0,h1⟩;exact⟨x.toNat,Jb3.mpr ∅,∅⟩
noncomputable def aE:List Ed:=[(0,1),(1,2),(2,3),(3,4),(4,5),(5,6),(6,7)]
noncomputable def dE:List Ed:=[(0,1),(0,2),(0,3),(3,4),(4,5),(5,6),(6,7)]
noncomputable def eE:List Ed:=[(0,1),(0,2),(2,3),(0,4),(4,5),(5,6),(6,7)]
theorem Zgs {x:Int}(h:x*x=0):x=0:=by
 rcases Int.mul_eq_zero.mp h with h|h <;> exact h
theorem Zjw {X:Int->Int}{p:Int}(hp:p∈pN 8)(h0:X 0=0)(h1:X 1=0)(h2:X 2=0)(h3:X 3=0)(h4:X 4=0)(h5:X 5=0)(h6:X 6=0)(h7:X 7=0):X p=0:=by
 have:=Zik.mp hp;have:p=0\/p=1\/p=2\/p=3\/p=4\/p=5\/p=6\/p=7:=∅
 rcases this with rfl|rfl|rfl|rfl|rfl|rfl|rfl|rfl <;> assumption
theorem q8 {es:List Ed}{X:Int->Int}:qf (pN 8) es X=(X 0*X 0+(X 1*X 1+(X 2*X 2+(X 3*X 3+(X 4*X 4+(X 5*X 5+(X 6*X 6+(X 7*X 7+0))))))))-sI (λe=>X e.1*X e.2) es:=rfl
theorem pos_a:DPos (pN 8) aE:=by
 rintro X ⟨p,hp,hx⟩;refine Jah λc=>hx ?_;have e:=q8 (es:=aE) (X:=X);rw[show sI (λe=>X e.1*X e.2) aE=X 0*X 1+(X 1*X 2+(X 2*X 3+(X 3*X 4+(X 4*X 5+(X 5*X 6+(X 6*X 7+0)))))) from rfl] at e;have id:2*qf (pN 8) aE X=X 0*X 0+(X 0-X 1)*(X 0-X 1)+(X 1-X 2)*(X 1-X 2)+(X 2-X 3)*(X 2-X 3)+(X 3-X 4)*(X 3-X 4)+(X 4-X 5)*(X 4-X 5)+(X 5-X 6)*(X 5-X 6)+(X 6-X 7)*(X 6-X 7)+X 7*X 7:=by rw[e];grind
 have n0:=Zby (X 0);have n1:=Zby (X 0-X 1);have n2:=Zby (X 1-X 2);have n3:=Zby (X 2-X 3);have n4:=Zby (X 3-X 4);have n5:=Zby (X 4-X 5);have n6:=Zby (X 5-X 6);have n7:=Zby (X 6-X 7);have n8:=Zby (X 7);have z0:=Zgs (x:=X 0) ∅;have z1:=Zgs (x:=X 0-X 1) ∅;have z2:=Zgs (x:=X 1-X 2) ∅;have z3:=Zgs (x:=X 2-X 3) ∅;have z4:=Zgs (x:=X 3-X 4) ∅;have z5:=Zgs (x:=X 4-X 5) ∅;have z6:=Zgs (x:=X 5-X 6) ∅;have z7:=Zgs (x:=X 6-X 7) ∅;exact Zjw hp z0 ∅ ∅ ∅ ∅ ∅ ∅ ∅
theorem pos_d:DPos (pN 8) dE:=by
 rintro X ⟨p,hp,hx⟩;refine Jah λc=>hx ?_;have e:=q8 (es:=dE) (X:=X);rw[show sI (λe=>X e.1*X e.2) dE=X 0*X 1+(X 0*X 2+(X 0*X 3+(X 3*X 4+(X 4*X 5+(X 5*X 6+(X 6*X 7+0)))))) from rfl] at e;have id:4*qf (pN 8) dE X=(2*X 1-X 0)*(2*X 1-X 0)+(2*X 2-X 0)*(2*X 2-X 0)+2*((X 0-X 3)*(X 0-X 3))+2*((X 3-X 4)*(X 3-X 4))+2*((X 4-X 5)*(X 4-X 5))+2*((X 5-X 6)*(X 5-X 6))+2*((X 6-X 7)*(X 6-X 7))+2*(X 7*X 7):=by rw[e];grind
 have n0:=Zby (X 7);have n1:=Zby (2*X 1-X 0);have n2:=Zby (2*X 2-X 0);have n3:=Zby (X 0-X 3);have n4:=Zby (X 3-X 4);have n5:=Zby (X 4-X 5);have n6:=Zby (X 5-X 6);have n7:=Zby (X 6-X 7);have z0:=Zgs (x:=X 7) ∅;have z1:=Zgs (x:=2*X 1-X 0) ∅;have z2:=Zgs (x:=2*X 2-X 0) ∅;have z3:=Zgs (x:=X 0-X 3) ∅;have z4:=Zgs (x:=X 3-X 4) ∅;have z5:=Zgs (x:=X 4-X 5) ∅;have z6:=Zgs (x:=X 5-X 6) ∅;have z7:=Zgs (x:=X 6-X 7) ∅;exact Zjw hp ∅ ∅ ∅ ∅ ∅ ∅ ∅ ∅
theorem pos_e:DPos (pN 8) eE:=by
 rintro X ⟨p,hp,hx⟩;refine Jah λc=>hx ?_;have e:=q8 (es:=eE) (X:=X);rw[show sI (λe=>X e.1*X e.2) eE=X 0*X 1+(X 0*X 2+(X 2*X 3+(X 0*X 4+(X 4*X 5+(X 5*X 6+(X 6*X 7+0)))))) from rfl] at e;have id:120*qf (pN 8) eE X=2*(X 0*X 0)+30*((2*X 1-X 0)*(2*X 1-X 0))+30*((2*X 3-X 2)*(2*X 3-X 2))+10*((3*X 2-2*X 0)*(3*X 2-2*X 0))+30*((2*X 7-X 6)*(2*X 7-X 6))+10*((3*X 6-2*X 5)*(3*X 6-2*X 5))+5*((4*X 5-3*X 4)*(4*X 5-3*X 4))+3*((5*X 4-4*X 0)*(5*X 4-4*X 0)):=by rw[e];grind
 have n0:=Zby (X 0);have n1:=Zby (2*X 1-X 0);have n2:=Zby (2*X 3-X 2);have n3:=Zby (3*X 2-2*X 0);have n4:=Zby (2*X 7-X 6);have n5:=Zby (3*X 6-2*X 5);have n6:=Zby (4*X 5-3*X 4);have n7:=Zby (5*X 4-4*X 0);have z0:=Zgs (x:=X 0) ∅;have z1:=Zgs (x:=2*X 1-X 0) ∅;have z2:=Zgs (x:=2*X 3-X 2) ∅;have z3:=Zgs (x:=3*X 2-2*X 0) ∅;have z4:=Zgs (x:=2*X 7-X 6) ∅;have z5:=Zgs (x:=3*X 6-2*X 5) ∅;have z6:=Zgs (x:=4*X 5-3*X 4) ∅;have z7:=Zgs (x:=5*X 4-4*X 0) ∅;exact Zjw hp z0 ∅ ∅ ∅ ∅ ∅ ∅ ∅
theorem Zvj (n m:Nat):pN (n+m)=pN n++(List.range m).map λj=>((n+j:Nat):Int):=by
 unfold pN;rw[List.range_add,Ja3,Jck];rfl
noncomputable def bel (n:Nat)(X:Int->Int)(r:Int):Int:=if r<(n:Int) then X r else 0
theorem Zl9 {es rest:List Ed}{n m:Nat}(h:DPos (pN (n+m)) (es++rest))(hr:∀ e∈rest,(n:Int)<=e.2)(ins:Ins (pN n) es):DPos (pN n) es:=by
 rintro X ⟨p,hp,hx⟩;have key:∀ r∈pN n,bel n X r=X r:=λr hr=>if_pos (Zik.mp hr).2;have out:∀ r,(n:Int)<=r->bel n X r=0:=λr hr=>if_neg ∅;have:=h (bel n X) ⟨p,by rw[Zvj];exact Jb9 _ hp,by rw[key p hp];exact hx⟩;have e:qf (pN (n+m)) (es++rest) (bel n X)=qf (pN n) es X:=by
  unfold qf;rw[Zvj,Zde,Zde];rw[Zch (l:=(List.range m).map λj=>((n+j:Nat):Int)) λr hr=>by
   obtain⟨j,_,rfl⟩:=Jan.mp hr;rw[out _ ∅];rfl]
  rw[Zch (l:=rest) λe he=>by rw[out _ (hr e he)];exact Jg5 _];rw[Zak (h:=λp=>X p*X p) λr hr=>by rw[key r hr],Zak (l:=es) (h:=λe=>X e.1*X e.2) λe he=>by rw[key _ (ins e he).1,key _ (ins e he).2]];omega
 rw[e] at this;exact this
theorem Zun {pts:List Int}{es es':List Ed}(s:es.Sublist es')(h:DPos pts es'):DPos pts es:=by
 rintro X ⟨p,hp,hx⟩;have:=h (λr=>((X r).natAbs:Int)) ⟨p,hp,∅⟩;have e1:sI (λp=>((X p).natAbs:Int)*((X p).natAbs:Int)) pts=sI (λp=>X p*X p) pts:=Zak λr _=>Int.natAbs_mul_self' ..;have e2:sI (λe:Ed=>((X e.1).natAbs:Int)*((X e.2).natAbs:Int)) es<=sI (λe:Ed=>((X e.1).natAbs:Int)*((X e.2).natAbs:Int)) es':=Zog s λe _=>Je5 (Int.natCast_nonneg _) (Int.natCast_nonneg _);have e3:sI (λe:Ed=>X e.1*X e.2) es<=sI (λe:Ed=>((X e.1).natAbs:Int)*((X e.2).natAbs:Int)) es:=Zp6 λe _=>by
  rw[<- Int.natCast_mul,<- Int.natAbs_mul];exact Int.le_natAbs
 unfold qf at *;dsimp only at this;omega
noncomputable def gt (ys:List Int)(i:Int):Int:=ys.getD i.toNat 0
theorem Zr8 {n:Nat}{es rs:List Ed}{ys:List Int}(hy:ys.Perm (pN n))(h:∀ X:Int->Int,sI (λe=>X e.1*X e.2) rs=sI (λe=>X (gt ys e.1)*X (gt ys e.2)) es)(d:DPos (pN n) es):DPos (pN n) rs:=by
 have hl:ys.length=n:=by rw[hy.length_eq];unfold pN;simp
 have em:(pN n).map (gt ys)=ys:=by
  refine Je7 (by unfold pN;simp[hl]) λi h1 h2=>?_;unfold pN gt;simp[h2]
 rintro X ⟨p,hp,hx⟩;obtain⟨i,hi,rfl⟩:=Jbl (hy.mem_iff.mpr hp);have gi:gt ys (i:Nat)=ys[i]:=by unfold gt;simp[hi]
 have:=d (λr=>X (gt ys r)) ⟨(i:Nat),Zik.mpr ⟨∅,∅⟩,by rw[gi];exact hx⟩;have e1:sI (λp=>X p*X p) (pN n)=sI (λr=>X (gt ys r)*X (gt ys r)) (pN n):=by
  rw[<- Zeq (g:=λp=>X p*X p) hy]
  conv=>lhs;rw[<- em]
  rw[Zf7]
 unfold qf at *;rw[h X,e1];exact this
end L3
namespace L3
noncomputable def okB (E8:List Ed)(n:Nat):Bool:=(E8.drop (n-1)).all (λe=>decide ((n:Int)<=e.2)) && (E8.take (n-1)).all λe=>decide (0<=e.1) && decide (e.1<(n:Int)) && decide (0<=e.2) && decide (e.2<(n:Int))
theorem Zq6 {E8:List Ed}{n:Nat}(h:okB E8 n=true):∀ e∈E8.take (n-1),0<=e.1/\e.1<(n:Int)/\0<=e.2/\e.2<(n:Int):=λe he=>by
 unfold okB at h;rw[Jbv,Jb1,Jb1] at h;have:=h.2 e he;simp at this;omega
theorem bsD {E8:List Ed}(d:DPos (pN 8) E8){n:Nat}(n8:n<=8)(h:okB E8 n=true):DPos (pN n) (E8.take (n-1)):=by
 have h':=h;unfold okB at h';rw[Jbv,Jb1,Jb1] at h';refine Zl9 (m:=8-n) (rest:=E8.drop (n-1)) ?_ (λe he=>Jaj (h'.1 e he)) λe he=>?_
 .rw [Jbx,show n+(8-n)=8 by omega];exact d
 .have:=Zq6 h e he;exact⟨Zik.mpr ⟨this.1,this.2.1⟩,Zik.mpr this.2.2⟩
theorem to8 {P:Nat->Prop}{n:Nat}(h1:1<=n)(h8:n<=8)(p1:P 1)(p2:P 2)(p3:P 3)(p4:P 4)(p5:P 5)(p6:P 6)(p7:P 7)(p8:P 8):P n:=by
 have:n=1\/n=2\/n=3\/n=4\/n=5\/n=6\/n=7\/n=8:=∅
 rcases this with rfl|rfl|rfl|rfl|rfl|rfl|rfl|rfl <;> assumption
theorem okA {n:Nat}(h1:1<=n)(h8:n<=8):okB aE n=true:=to8 (P:=λn=>okB aE n=true) h1 h8 ⇑0 ⇑0 ⇑0 ⇑0 ⇑0 ⇑0 ⇑0 ⇑0
theorem okD {n:Nat}(h1:4<=n)(h8:n<=8):okB dE n=true:=by
 have:n=4\/n=5\/n=6\/n=7\/n=8:=∅
 rcases this with rfl|rfl|rfl|rfl|rfl <;> decide
theorem okE {n:Nat}(h1:6<=n)(h8:n<=8):okB eE n=true:=by
 have:n=6\/n=7\/n=8:=∅
 rcases this with rfl|rfl|rfl <;> decide
theorem perm_pN {n:Nat}{ys:List Int}(nd:ys.Nodup)(hl:ys.length=n)(h:∀ y∈ys,0<=y/\y<(n:Int)):ys.Perm (pN n):=by
 have ndp:(pN n).Nodup:=by
  unfold pN;refine Je2.mpr (Je8.imp λne e=>ne ∅)
 have sub:∀ y∈ys,y∈pN n:=λy hy=>Zik.mpr (h y hy);have sup:∀ y∈pN n,y∈ys:=λy hy=>Jah λz=>by
  have:(y::ys).length<=(pN n).length:=(Jbz.mpr ⟨z,nd⟩).length_le_of_subset λa ha=>by
   rcases Jao.mp ha with rfl|ha
   .exact hy
   .exact sub a ha
  rw[Jau,hl] at this;unfold pN at this;simp at this;omega
 exact (List.perm_ext_iff_of_nodup nd ndp).mpr λa=>⟨sub a,sup a⟩
end L3
namespace L2
open PySem PySem.Spec PyProof.Rows
section
variable {X:Cx}{o e:Expr}{es:List Expr}{to:TE}{t:TA}{name:Str}{apos cpos:Pos}{T id:String}{r:V->List V->Hp->VK->Prop}
theorem pe_bmK (K:Frag)(hK:X.K=K)(pa:PlainAttrs T)(slot:Slot T name id)(hty:typeOf (.builtin id)=pure (.type "method_descriptor"))(hm:MtR X id r)(ho:PE X o to)(ha:PA X (e::es) t)(hbase:attributeBase o name X.env (eval o X.env)=eval o X.env:=by rfl)(hfew:((backTo cpos (starEach (e::es) X.env)).all (λx=>!x.1) && (backToKw cpos (keywordEach [] X.env)).all (λx=>x.1.isSome)
   && decide ((e::es).length+([]:List Keyword).length+(if ([]:List Keyword).isEmpty then 0 else 1)<30))=true:=by rfl)(hline:(apos.endLine == cpos.line)=true:=by rfl)(hs:starEach (e::es) X.env=(false,eval e X.env)::starEach es X.env:=by rfl)(hplain:(backTo cpos (starEach es X.env)).any (·.1)=false:=by rfl):
  PE X (.Call (.Attribute o name apos) (e::es) [] cpos) (tBM K T r to t):=by
 subst hK;exact Zfa pa slot hty hm ho ha hbase hfew hline hs hplain
end
end L2
namespace L2
open PySem PySem.Spec PyProof.Rows
noncomputable abbrev two (elt t1 i1 t2 i2:Expr)(scope:Scope)(pos:Pos):Expr:=.ListComp elt [⟨t1,i1,[],0⟩,⟨t2,i2,[],0⟩] scope pos
section
variable {prog:Program}{w:World}{A:Around}{R:Result->Shared->Prop}{s:Shared}{elt t1 i1 t2 i2:Expr}{scope:Scope}{pos:Pos}{it acc:Value}{env:Env}
theorem Zpp (h0:codeAny (model prog w) A (.compLoop (two elt t1 i1 t2 i2 scope pos) 1 it acc env) R s)(h:wpAny (model prog w) A (pyIter it) (λit' s'=>codeAny (model prog w) A (.compLoop (two elt t1 i1 t2 i2 scope pos) 1 it' acc env) R s') (notedBy (model prog w) A env λx s'=>R (.error x) s') s):
  codeAny (model prog w) A (.compStart (two elt t1 i1 t2 i2 scope pos) 1 it acc env) R s:=by
 refine Jgr ?_;refine wpAny_notedAt ?_;unfold compStart;refine Jab (Jel (wpAny_ite ?_));split
 .exact Jab (Jae (Jae ⟨rfl,h0⟩))
 .refine Jab (Jfe (Jab (Jdo (Jab ?_))));exact Jbw h (λit' s' h'=>Jae ⟨rfl,h'⟩) λx x_1 x_2=>x_2
theorem Zpe:compTurn (two elt t1 i1 t2 i2 scope pos) 1 it acc env=(do
  standAt i2.pos
  let r <- pyNext it
  match r with
  | none=>pure (Fin.done Flow.next)
  | some v=>do
   letOwnedTupleGo t2 it v
   assign t2 env v
   ((eval elt env >>= λx=>call (.builtin "list.append") [acc,x] >>= λ_=>(pure ():Sem Unit)) >>= λ_=>again (.compLoop (two elt t1 i1 t2 i2 scope pos) 1 it acc env))):=by
 rfl
theorem Zpf:compTurn (two elt t1 i1 t2 i2 scope pos) 0 it acc env=(do
  standAt i1.pos
  let r <- pyNext it
  match r with
  | none=>pure (Fin.done Flow.next)
  | some v=>do
   letOwnedTupleGo t1 it v
   assign t1 env v
   let x <- eval i2 env
   standAt i2.pos
   let x <- foldedSetIterable i2 env x
   let j <- holding [x] (pyIter x)
   let _ <- runOwn (.compStart (two elt t1 i1 t2 i2 scope pos) 1 j acc env) env
   again (.compLoop (two elt t1 i1 t2 i2 scope pos) 0 it acc env)):=by
 rfl
theorem Zrj (I:Nat->Shared->Prop)(turn:∀ n s,I n s->wpAny (model prog w) A (pyNext it) (λr s₁=>match r with
   | none=>R (.ok .next) s₁
   | some v=>wpAny (model prog w) A (letOwnedTupleGo t2 it v) (λ_ s₁'=>wpAny (model prog w) A (assign t2 env v) (λ_ s₂=>wpAny (model prog w) A (eval elt env) (λx s₄=>wpAny (model prog w) A (call (.builtin "list.append") [acc,x]) (λ_ s₅=>∃ m,m<n/\I m s₅) (λ_ _=>False) s₄) (λ_ _=>False) s₂) (λ_ _=>False) s₁') (λ_ _=>False) s₁) (λ_ _=>False) s)(n:Nat)(h:I n s):codeAny (model prog w) A (.compLoop (two elt t1 i1 t2 i2 scope pos) 1 it acc env) R s:=by
 refine codeAny_loop rfl I (λn s hI=>?_) n h;show wpAny _ A ((compTurn (two elt t1 i1 t2 i2 scope pos) 1 it acc env).onRaise (λx=>do noteFrame x env;theTreesLotGoes x)) _ _ s;refine wpAny_noted ?_;rw[Zpe];refine Jab (Jdo (Jab (Jbw (turn n s hI) (λr s₁ h₁=>?_) λ_ _ h'=>h'.elim)));cases r with
 | none=>exact Jae h₁
 | some v=>
  refine Jab (Jbw h₁ (λ_ s₁' h₁'=>?_) λ_ _ h'=>h'.elim);refine Jab (Jbw h₁' (λ_ s₂ h₂=>?_) λ_ _ h'=>h'.elim);exact Jab (Jab (Jbw h₂ (λx s₄ h₄=>Jab (Jbw h₄ (λ_ s₅ h₅=>Jae (Jae ⟨rfl,h₅⟩)) λ_ _ h'=>h'.elim)) λ_ _ h'=>h'.elim))
theorem Zrk (hs:∀ x,foldedSetIterable i2 env x=pure x)(I:Nat->Shared->Prop)(turn:∀ n s,I n s->wpAny (model prog w) A (pyNext it) (λr s₁=>match r with
   | none=>R (.ok .next) s₁
   | some v=>wpAny (model prog w) A (letOwnedTupleGo t1 it v) (λ_ s₁'=>wpAny (model prog w) A (assign t1 env v) (λ_ s₂=>wpAny (model prog w) A (eval i2 env) (λx s₄=>wpAny (model prog w) A (pyIter x) (λj s₅=>codeAny (model prog w) A (.compStart (two elt t1 i1 t2 i2 scope pos) 1 j acc env) (λr s₆=>r=.ok .next/\∃ m,m<n/\I m s₆) s₅) (λ_ _=>False) s₄) (λ_ _=>False) s₂) (λ_ _=>False) s₁') (λ_ _=>False) s₁) (λ_ _=>False) s)(n:Nat)(h:I n s):codeAny (model prog w) A (.compLoop (two elt t1 i1 t2 i2 scope pos) 0 it acc env) R s:=by
 refine codeAny_loop rfl I (λn s hI=>?_) n h;show wpAny _ A ((compTurn (two elt t1 i1 t2 i2 scope pos) 0 it acc env).onRaise (λx=>do noteFrame x env;theTreesLotGoes x)) _ _ s;refine wpAny_noted ?_;rw[Zpf];refine Jab (Jdo (Jab (Jbw (turn n s hI) (λr s₁ h₁=>?_) λ_ _ h'=>h'.elim)));cases r with
 | none=>exact Jae h₁
 | some v=>
  refine Jab (Jbw h₁ (λ_ s₁' h₁'=>?_) λ_ _ h'=>h'.elim);refine Jab (Jbw h₁' (λ_ s₂ h₂=>?_) λ_ _ h'=>h'.elim);refine Jab (Jbw h₂ (λx s₄ h₄=>?_) λ_ _ h'=>h'.elim);refine Jab (Jdo (Jab (wpAny_of_eq (hs x) ?_)));refine Jab (Jby (Jbw h₄ (λj s₅ h₅=>?_) λ_ _ h'=>h'.elim));refine Jab (wpAny_runOwn (Jeg h₅ λr s₆ h₆=>?_));obtain⟨rfl,h6⟩:=h₆;exact Jae ⟨rfl,h6⟩
end
def Zle (g:TG)(wi2:TI)(g2:TG)(te:TE)(J:It)(D:Addr)(σ0:St)(H1:Hp)(Q:VK):Prop:=
 ∃ W:Nat->Nat->St->Hp->Prop,(∃ m,W 0 m σ0 (upd H1 D (.lst [])))/\∀ i m σ' H2,W i m σ' H2->
  (J.stop i H2/\Q (.ref D) H2)\/(J.go i H2/\∀ x H3,J.yld i H2 x H3->g x σ' H3 λσ4 H4=>wi2 σ4 H4 λJ2 H5=>
   ∃ W2:Nat->Nat->St->Hp->Prop,(∃ m2,W2 0 m2 σ4 H5)/\∀ j m2 σ5 H6,W2 j m2 σ5 H6->
    (J2.stop j H6/\∃ m',m'<m/\W (i+1) m' σ5 H6)\/(J2.go j H6/\∀ y H7,J2.yld j H6 y H7->g2 y σ5 H7 λσ8 H8=>te σ8 H8 λz H9=>
     ∃ vs,H9 D=some (.lst vs)/\vs.length<sizeLine/\∃ m2',m2'<m2/\W2 (j+1) m2' σ8 (upd H9 D (.lst (vs++[z])))))
def tComp2 (k:Nat)(fr:List (Str×Nat))(wi:TI)(g:TG)(wi2:TI)(g2:TG)(te:TE):TE:=λσ H Q=>wi σ H λJ H1=>∀ D,H1 D=none->Zle g wi2 g2 te J D (Zfe k fr σ) H1 Q
section
variable {X:Cx}{tg iter t2 i2 elt:Expr}{scope:Scope}{pos:Pos}{own:List Str}{fr:List (Str×Nat)}{wi wi2:TI}{g g2:TG}{te:TE}
theorem Zsl {pins:List (Addr×Obj)}{s2:Shared}{σ:St}{H2:Hp}{it:Addr}{fp:List Addr}{tn:Nat->Heap->Prop}{J:It}{Q:VK}{cl:List (Str×Addr)}{RR:Value->Addr->Result->Shared->Prop}{E:Value->Shared->Prop}(hc:X.calm=true)(B:BlScope X scope own fr)(hs:∀ env x,foldedSetIterable i2 env x=pure x)(hb:∀ cl s H fp,PG (Zb6 X (Zb1 own fr) scope cl s H fp) tg g/\PI (Zb6 X (Zb1 own fr) scope cl s H fp) t2 i2 wi2/\PG (Zb6 X (Zb1 own fr) scope cl s H fp) t2 g2/\PE (Zb6 X (Zb1 own fr) scope cl s H fp) elt te)(hcl:∀ x c,cl.lookup x=some c->X.env.cells.lookup x=some c)(hcl2:∀ y∈scope.names,y.2=.free->∃ c,cl.lookup y.1=some c)(I2:Inv X pins σ H2 s2)(T:Turn X.prog X.w X.K tg J fp it tn)(st2:tn 0 s2.heap)(f2:∀ b∈fp,Zk5 X pins H2 b)(q:∀ D,H2 D=none->Zle g wi2 g2 te J D (Zfe own.length fr σ) H2 Q)(hRR:∀ D C s' H',Inv X pins σ H' s'->Q (.ref D) H'->(∃ m,s'.heap.Ns C m)->C≠X.env.locals->(∀ x c,X.env.cells.lookup x=some c->c≠C)->(∀ p∈X.pn++pins,p.1≠C)->X.s₀.heap.objs.size<=C->H' C=none->RR (.ref D) C (.ok .next) s'):
  wpAny (model X.prog X.w) X.A (newList []) (λacc s₃=>wpAny (model X.prog X.w) X.A (newFunctionEnv scope X.env.globals cl [] X.env.qual none .none (some X.env)) (λcenv s₄=>
   codeAny (model X.prog X.w) X.A (.compStart (two elt tg iter t2 i2 scope pos) 0 (.ref it) acc { cenv with scope:=relabel scope X.env }) (RR acc cenv.locals) s₄) E s₃) E s2:=by
 refine Jdb ?_;have fr0:H2 s2.heap.objs.size=none:=I2.hok.fresh (Jaf _);have I3:=I2.lnew (its:=[]) (ys:=[]) (t':=s2.toks) .nil (Jbp _);generalize hs3:({ s2 with heap:=s2.heap.push { cls:=.type "list",data:=.seq ([]:List Value).toArray } }:Shared)=s3 at *;have k23:∀ b o,s2.heap.get? b=some o->s3.heap.get? b=some o:=λb o e=>by rw[<- hs3];exact Jad _ e
 have sz3:s3.heap.objs.size=s2.heap.objs.size+1:=by rw[<- hs3];exact Jcs ..
 have I3':Inv X pins σ (upd H2 s2.heap.objs.size (.lst [])) s3:=I3;have fne:∀ b∈fp,b≠s2.heap.objs.size:=λb hb z=>by
  refine Zae (T.obj 0 _ st2 b hb) λo ho _=>?_;exact absurd (Jar ho) (by rw[z];exact Jch _)
 have f3:∀ b∈fp,Zk5 X pins (upd H2 s2.heap.objs.size (.lst [])) b:=λb hb=>⟨by rw[Zag (fne b hb)];exact (f2 b hb).1,(f2 b hb).2⟩
 have st3:tn 0 s3.heap:=T.keep 0 _ _ st2 λb _ o e=>k23 b o e;have hfo:∀ b∈fp,∃ o,s3.heap.get? b=some o:=λb hb=>let ⟨o,ho,_⟩:=T.obj 0 _ st3 b hb;⟨o,ho⟩;refine Zea λh' hn hk hce=>?_;have I4:=Zhv (own:=own) I3' B hcl hcl2 f3 hfo hn hk hce;refine Zbq (hb cl s3 (upd H2 s2.heap.objs.size (.lst [])) fp) λhg hi2 hg2 he=>?_;have st4:tn 0 h':=T.keep 0 _ _ st3 λb _ o e=>hk b o e;have stat:∀ {H':Hp},(∀ b∈fp,H' b=none)->∀ b∈fp,Zk5 (Zb6 X (Zb1 own fr) scope cl s3 (upd H2 s2.heap.objs.size (.lst [])) fp) [] H' b:=λ{H'} hnn b hb=>
  ⟨hnn b hb,(I4.ok.exf b hb).1,I4.ok.exfs b hb,.inl hb,(I4.ok.exf b hb).2,λp hp=>absurd (show p∈([]:List (Addr×Obj)) from hp) (by simp)⟩
 refine Zae (q s2.heap.objs.size fr0) λW e93 turn=>?_;obtain⟨m0,w0⟩:=e93;have loop:codeAny (model X.prog X.w) X.A (.compLoop (two elt tg iter t2 i2 scope pos) 0 (.ref it) (.ref s2.heap.objs.size) (Zb6 X (Zb1 own fr) scope cl s3 (upd H2 s2.heap.objs.size (.lst [])) fp).env)
   (RR (.ref s2.heap.objs.size) s3.heap.objs.size) { s3 with heap:=h' }:=by
  refine Zrk (λx=>hs _ x) (λn s'=>∃ i σ' H',Inv (Zb6 X (Zb1 own fr) scope cl s3 (upd H2 s2.heap.objs.size (.lst [])) fp) [] σ' H' s'/\tn i s'.heap/\(∀ b∈fp,H' b=none)/\W i n σ' H') ?_ m0
   ⟨0,_,_,I4,st4,λb hb=>(f3 b hb).1,w0⟩
  intro n s5 e91;refine Zck e91 λi σ5 H5 I5 st5 fr5 w5=>?_;clear e91;rcases turn i n σ5 H5 w5 with ⟨stop,qn⟩|⟨go,step⟩
  .refine thn (T.done (Zb6 X (Zb1 own fr) scope cl s3 (upd H2 s2.heap.objs.size (.lst [])) fp) rfl rfl rfl hc i [] s5 σ5 H5 _ I5 (stat fr5) st5 stop) λr s6 ⟨hr,I6⟩=>?_;subst hr;have I7:Inv X pins σ H5 s6:=I3'.call' (ch:=fp) I6.os I6.base I6.hok I6.bare λb hb=>⟨(f3 b hb).2.2.2.1,(f3 b hb).2.1,(f3 b hb).2.2.2.2.1,(f3 b hb).2.2.2.2.2⟩
   refine Zae I6.loc λm6 hn6 _=>?_;refine hRR _ _ s6 H5 I7 qn ⟨m6,hn6⟩ (Jg1 I3'.lt) (λx c e=>?_) (λp hp=>?_) I3'.sz I6.free
   .obtain ⟨v,z⟩:=I3'.cell x c e;exact Ja6 z.lt
   .exact Ja6 (Jar (I3'.pin p hp).1)
  .refine thn (T.item (Zb6 X (Zb1 own fr) scope cl s3 (upd H2 s2.heap.objs.size (.lst [])) fp) rfl rfl rfl hc i [] s5 σ5 H5 _ I5 (stat fr5) st5 go) λr s6 ⟨u,hr,h6⟩=>?_;subst hr;refine thn h6 λ_ s7 ⟨x,H7,I7,r7,y7,st7,fr7⟩=>?_;have I7':=I7.pinned (stat fr7) (T.obj _ _ st7);refine thn (hg _ s7 σ5 H7 x u _ I7' r7 (step x H7 y7)) λ_ s8 ⟨σ8,H8,I8,q8⟩=>?_;have again:∀ {sA:Shared} {σA:St} {HA:Hp} {m':Nat},Inv (Zb6 X (Zb1 own fr) scope cl s3 (upd H2 s2.heap.objs.size (.lst [])) fp) ([]++Ze8 fp s7.heap) σA HA sA->m'<n->W (i+1) m' σA HA->
     ∃ m,m<n/\∃ i σ' H',Inv (Zb6 X (Zb1 own fr) scope cl s3 (upd H2 s2.heap.objs.size (.lst [])) fp) [] σ' H' sA/\tn i sA.heap/\(∀ b∈fp,H' b=none)/\W i m σ' H':=λ{sA σA HA m'} IA hm wA=>by
    refine⟨m',hm,i+1,σA,HA,IA.unpinned,T.keep _ _ _ st7 λb hb o e=>(IA.pin (b,o) (Jap _ (Jap _ (Zbk hb e)))).1,λb hb=>?_,wA⟩;refine Zae (T.obj _ _ st7 b hb) λo e d=>?_;exact (IA.pin (b,o) (Jap _ (Jap _ (Zbk hb e)))).2.1
   refine thn (hi2 _ s8 σ8 H8 _ I8 q8) λv s9 h9=>thn h9 λitv s10 h10=>?_;refine Zel h10 λit2 fp2 tn2 J2 H10 e I10 T2 e94=>?_;clear h10;refine Zap e94 λst10 f10 e95=>?_;clear e94;obtain⟨W2,⟨m2,w2⟩,turn2⟩:=e95;subst e;have stat2:∀ {H':Hp},(∀ b∈fp2,H' b=none)->∀ b∈fp2,Zk5 (Zb6 X (Zb1 own fr) scope cl s3 (upd H2 s2.heap.objs.size (.lst [])) fp) ([]++Ze8 fp s7.heap) H' b:=λhn b hb=>⟨hn b hb,(f10 b hb).2⟩
   have loop2:codeAny (model X.prog X.w) X.A (.compLoop (two elt tg iter t2 i2 scope pos) 1 (.ref it2) (.ref s2.heap.objs.size) (Zb6 X (Zb1 own fr) scope cl s3 (upd H2 s2.heap.objs.size (.lst [])) fp).env)
     (λr s₆=>r=.ok .next/\∃ m,m<n/\∃ i σ' H',Inv (Zb6 X (Zb1 own fr) scope cl s3 (upd H2 s2.heap.objs.size (.lst [])) fp) [] σ' H' s₆/\tn i s₆.heap/\(∀ b∈fp,H' b=none)/\W i m σ' H') s10:=by
    refine Zrj (λn2 s'=>∃ j σ' H',Inv (Zb6 X (Zb1 own fr) scope cl s3 (upd H2 s2.heap.objs.size (.lst [])) fp) ([]++Ze8 fp s7.heap) σ' H' s'/\tn2 j s'.heap/\(∀ b∈fp2,H' b=none)/\W2 j n2 σ' H') ?_ m2 ⟨0,σ8,H10,I10,st10,λb hb=>(f10 b hb).1,w2⟩;intro n2 s11 e92;refine Zck e92 λj σ11 H11 I11 st11 fr11 w11=>?_;clear e92;rcases turn2 j n2 σ11 H11 w11 with ⟨stop,m',hm,wn⟩|⟨go,step2⟩
    .refine thn (T2.done (Zb6 X (Zb1 own fr) scope cl s3 (upd H2 s2.heap.objs.size (.lst [])) fp) rfl rfl rfl hc j _ s11 σ11 H11 _ I11 (stat2 fr11) st11 stop) λr s12 ⟨hr,I12⟩=>?_;subst hr;exact⟨rfl,again I12 hm wn⟩
    .refine thn (T2.item (Zb6 X (Zb1 own fr) scope cl s3 (upd H2 s2.heap.objs.size (.lst [])) fp) rfl rfl rfl hc j _ s11 σ11 H11 _ I11 (stat2 fr11) st11 go) λr s12 ⟨u2,hr,h12⟩=>?_;subst hr;refine thn h12 λ_ s13 ⟨y,H13,I13,r13,y13,st13,fr13⟩=>?_;have I13':=I13.pinned (stat2 fr13) (T2.obj _ _ st13);refine thn (hg2 _ s13 σ11 H13 y u2 _ I13' r13 (step2 y H13 y13)) λ_ s14 ⟨σ14,H14,I14,q14⟩=>?_;refine thn (he _ s14 σ14 H14 _ I14 q14) λz s15 ⟨vz,H15,I15,r15,vs,hvs,hlen,m2',hm2,w15⟩=>?_;refine thn (Zbj (X:=Zb6 X (Zb1 own fr) scope cl s3 (upd H2 s2.heap.objs.size (.lst [])) fp) _ s15 σ14 H15 (.ref s2.heap.objs.size) [vz] (.ref s2.heap.objs.size) [z] (λ_ HB=>W2 (j+1) m2' σ14 HB) I15 rfl (.cons r15 .nil) ⟨_,vs,vz,rfl,rfl,hvs,hlen,w15⟩) λ_ s16 ⟨_,H16,I16,_,w16⟩=>?_;refine⟨m2',hm2,j+1,σ14,H16,I16.unpinned,T2.keep _ _ _ st13 λb hb o e=>(I16.pin (b,o) (Jap _ (Jap _ (Zbk hb e)))).1,λb hb=>?_,w16⟩;refine Zae (T2.obj _ _ st13 b hb) λo e d=>?_;exact (I16.pin (b,o) (Jap _ (Jap _ (Zbk hb e)))).2.1
   exact Zpp loop2 (T2.self _ 0 _ _ _ st10 loop2)
 exact codeAny_compStart_list loop (T.self _ 0 _ _ _ st4 loop)
theorem Ztp (hc:X.calm=true)(B:BlScope X scope own fr)(hi:PI X tg iter wi)(hb:∀ cl s H fp,PG (Zb6 X (Zb1 own fr) scope cl s H fp) tg g/\PI (Zb6 X (Zb1 own fr) scope cl s H fp) t2 i2 wi2/\PG (Zb6 X (Zb1 own fr) scope cl s H fp) t2 g2/\PE (Zb6 X (Zb1 own fr) scope cl s H fp) elt te)(hs2:∀ env x,foldedSetIterable i2 env x=pure x:=by intro _ _;rfl)(hs:∀ x,foldedSetIterable iter X.env x=pure x:=by intro _;rfl):
  PE X (two elt tg iter t2 i2 scope pos) (tComp2 own.length fr wi g wi2 g2 te):=by
 intro pins s σ H Q I h;refine Zau (Zjq (scope:=scope) (env:=X.env) λy hy hf=>I.ok.has y.1 (B.free y hy hf)) λcl hclos hcl hcl2=>?_;rw[eval_ListComp];refine Jee (use:=none) rfl hs hclos B.kind B.loc (thn (hi pins s σ H _ I h) λv s1 h1=>thn h1 λitv s2 h2=>?_);refine Zel h2 λit fp tn J H2 e I2 T e96=>?_;clear h2;refine Zap e96 λst2 f2 q=>?_;clear e96;subst e;refine Zsl (RR:=λacc C=>compPost (model X.prog X.w) X.A X.xe none (EP X pins σ Q) acc C) (Q:=Q) hc B hs2 hb hcl hcl2 I2 T st2 f2 q ?_;intro D C s' H' I' hq hn n1 n2 n3 n4 n5;obtain⟨m,hn⟩:=hn;refine⟨m,hn,λh' hs'=>⟨.ref D,H',I'.turned (it:=C) (t':=s'.toks) (λb o hb e=>SameBut.get hs' b o hb e) n5 (Jet (Jet n1)) (.inr n4) n2 n3,rfl,hq⟩⟩
end
def Zlq:V->List V->Hp->VK->Prop:=λx vs H Q=>∃ (l:Addr) (ns:List Int) (k:Int),x=.ref l/\vs=[.int k]/\H l=some (.lst (ns.map V.int))/\Q (.int ((ns.count k:Nat):Int)) H
noncomputable def intU (k:Int):Value->Bool
 | .int i _=>i == k
 | _=>false
theorem Zfw (k:Int):∀ {ns:List Int} {its:List Value},Vals (ns.map V.int) its->its.countP (intU k)=ns.count k
 | [],_,.nil=>rfl
 | n::ns,_,.cons r rs=>by
  obtain⟨t,rfl⟩:=r;rw[Jek,Zfw k rs,Jgp];rfl
theorem Znj {A:Around}{s:Shared}(k:Int)(t':Tok):∀ {ns:List Int} {its:List Value},Vals (ns.map V.int) its->∀ y∈its,SeqAt.EqAt A s y (.int k t') (intU k y)
 | [],_,.nil=>λy hy=>by cases hy
 | n::ns,_,.cons r rs=>λy hy=>by
  obtain⟨t,rfl⟩:=r;rcases Jao.mp hy with rfl|hy
  .exact SeqAt.EqAt.int_int n t k t'
  .exact Znj k t' rs y hy
theorem Zhr {X:Cx}:MtM X "list.count" Zlq:=by
 intro pins s σ H x vs v us Q I rx rv h;refine Zck h λl ns k e91 e92 hH q=>?_;clear h;obtain rfl:=e91;obtain rfl:=e92;cases rx;refine Zae rv.one λu e93 e94=>?_;obtain rfl:=e93;obtain⟨t,rfl⟩:=e94;obtain⟨z,its,n,r,hl,e⟩:=I.lstM hH;refine Jfz F.slot_list_count ⟨_,e,rfl⟩ F.entry_list_count (F.args_list_count_2 _ _) (SeqAt.list_countAt l its.toArray n _ _ (.int k t) (intU k)) ⟨e,λy hy=>?_,?_⟩
 .exact Znj k t r y (by simpa using hy)
 .refine Za2 (.int _) H ⟨I.tok _,⟨_,rfl⟩,?_⟩;have ec:List.countP (intU k) its.toArray.toList=ns.count k:=by
   rw[show its.toArray.toList=its by simp];exact Zfw k r
  first|(rw[ec];exact q)|(rw[Zfw k r];exact q)
section
variable {X:Cx}
noncomputable def nonV:V->Bool
 | .non=>true
 | _=>false
def NoT (K:Frag)(H:Hp)(x:V):Prop:=x=.non\/∃ a xs,x=.ref a/\SqT K H a xs
def Zqd (K:Frag):R2:=λx y H Q=>∃ p xs,x=.non/\y=.ref p/\SqL K H p xs/\(∀ z∈xs,NoT K H z)/\Q (.bl (!xs.any nonV)) H
end
end L2
namespace L2
open PySem PySem.Spec PyProof.Rows PySem.W
structure Trk (B:Heap)(fr:List Env)(e:Addr)(cls c0 fl:Value)(h:Heap):Prop where
 st:B.StaysIn h
 nw:B.get? e=none
 ff:h.FunFrames B fr
 ob:∃ (o:Obj) (vs:Array Value) (T:Addr) (oT:Obj) (us:Array Value),h.get? e=some o/\o.cls=cls/\o.data=.fields vs/\vs[2]?=some c0/\vs[1]?=some (.ref T)/\B.get? T=none/\T≠e/\h.get? T=some oT/\oT.data=.fields us/\us[3]?=some fl
theorem Trk.outer {B h:Heap}{env:Env}{fr:List Env}{e:Addr}{cls c0 fl:Value}(x:Trk B (env::fr) e cls c0 fl h):Trk B fr e cls c0 fl h:=⟨x.st,x.nw,x.ff.2.2,x.ob⟩
section
variable {M:Model}{A:Around}{E:Value->Shared->Prop}{s:Shared}{B:Heap}{fr:List Env}{e L:Addr}{cls c0:Value}{Q:Unit->Shared->Prop}
theorem Zh6 {h h':Heap}{T:Addr}{oT:Obj}{us:Array Value}(hT:h.get? T=some oT)(hd:oT.data=.fields us)(k:∀ b,b≠T->h'.get? b=h.get? b):h.UpToSlots h':=λb o hb hn=>
 ⟨o.slots,by rw[k b (λz=>by rw[z,hT] at hb;cases hb;exact hn us hd)];exact hb⟩
theorem Znt {h h':Heap}{B:Heap}{fr:List Env}(x:h.FunFrames B fr)(k:h.UpToSlots h'):h'.FunFrames B fr:=x.of_keeps λb o hb hn=>let ⟨_,q⟩:=k b o hb hn;⟨_,q,rfl⟩
theorem Zs2 {f0:Value}(fo:Option Addr)(x:Trk B fr e cls c0 f0 s.heap)(k:∀ h',Trk B fr e cls c0 (fo.elim .none λf=>rawInt f) h'->s.heap.UpToSlots h'->Q () { s with heap:=h' }):wpAny M A (setFlight (.ref e) fo) Q E s:=by
 refine Zel x.ob λo vs T oT us he hc hd e91=>?_;refine xE0_7 e91 λg2 g1 nT ne hT dT g3=>?_;clear e91;have z3:3<us.size:=(Jdi.mp g3).1;unfold setFlight;refine Jab (wpAny_field he hd g1 ?_);rw[if_pos (by simp)];have oth:∀ b,b≠T->(s.heap.update T (Obj.mapFields (·.setIfInBounds 3 (fo.elim Value.none λf=>rawInt f)))).get? b=s.heap.get? b:=λb hb=>Jc4 _ _ hb.symm;have up:=Zh6 hT dT oth;have me:=Jcp (Obj.mapFields (·.setIfInBounds 3 (fo.elim Value.none λf=>rawInt f))) hT (Jey (Jdd dT _));exact Jf6 hT dT z3 (k _ ⟨λb u hb=>by rw[oth b (λz=>by rw[z,nT] at hb;cases hb)];exact x.st b u hb,x.nw,Znt x.ff up,o,vs,T,_,_,by rw[oth e ne.symm];exact he,hc,hd,g2,g1,nT,ne,me,Jdd dT _,by simp[z3]⟩ up)
theorem Zpi {env:Env}{o:Obj}{vs:Array Value}{hd0:Value}{bb:Bool}(fA:A.frames=some (env::fr))(ff:s.heap.FunFrames B (env::fr))(fE:env.frame=some L)(st:B.StaysIn s.heap)(nw:B.get? e=none)(he:s.heap.get? e=some o)(hd:o.data=.fields vs)(g2:vs[2]?=some c0)(k:∀ h',Trk B (env::fr) e o.cls c0 (rawInt L) h'->s.heap.UpToSlots h'->Q () { s with heap:=h' }):
  wpAny M A (do let a <- frameOf env;let pl <- entryPlaceOf L bb;let b <- EntryCells.newEntry hd0 a .none (rawInt L) .none pl;setField (.ref e) 1 b) Q E s:=by
 have z2:2<vs.size:=(Jdi.mp g2).1;have nfr:e∉(env::fr).filterMap (·.frame):=λz=>by
  obtain⟨_,u,hu,hn⟩:=ff.mem z;rw[he] at hu;cases hu;exact hn vs hd
 refine Jab (wpAny_frameOf_fun fA ff fE λg sg=>Jab (wpAny_entryPlaceOf λpl ip=>?_));unfold EntryCells.newEntry newFields;refine Jab (Jdb (?_:_) (ip.sizeOk5 _ _ _ _ _));have ge:g.get? e=some o:=(sg.2.1 e nfr).trans he;have stg:B.StaysIn g:=λb u hb=>(sg.2.1 b λz=>by rw[(ff.mem z).1] at hb;cases hb).trans (st b u hb);have gs:s.heap.UpToSlots g:=λb u hb _=>sg.2.2 b u hb;generalize htb:({ cls:=.type "traceback",dict:=none,data:=.fields ([hd0,.ref L,.none,rawInt L,.none]++(if pl.isEmpty then List.replicate 6 Value.none else pl)).toArray }:Obj)=tb;have tbf:tb.isFreed=false:=by rw[<- htb];rfl
 have ge2:(g.push tb).get? e=some o:=Jad tb ge;have nT:g.objs.size≠e:=Jg1 (Jar ge);have oth:∀ b u,b≠e->g.get? b=some u->((g.push tb).update e (Obj.mapFields (·.setIfInBounds 1 (Value.ref g.objs.size)))).get? b=some u:=λb u hb q=>by
  rw[Jc4 _ _ hb.symm];exact Jad tb q
 have up:g.UpToSlots ((g.push tb).update e (Obj.mapFields (·.setIfInBounds 1 (Value.ref g.objs.size)))):=λb u q hn=>⟨u.slots,oth b u (λz=>by rw[z,ge] at q;cases q;exact hn vs hd) q⟩
 have me:=Jcp (Obj.mapFields (·.setIfInBounds 1 (Value.ref g.objs.size))) ge2 (Jey (Jdd hd _));have hT:((g.push tb).update e (Obj.mapFields (·.setIfInBounds 1 (Value.ref g.objs.size)))).get? g.objs.size=some tb:=by
  rw[Jc4 _ _ nT.symm];exact Ja1 g tbf
 refine Jf6 ge2 hd ∅ (k _ ⟨λb u hb=>oth b u (λz=>by rw[z,nw] at hb;cases hb) (stg b u hb),nw,Znt ff (gs.trans up),_,_,g.objs.size,tb,_,me,Jhg _ _,Jdd hd _,by rw[Jf0 ⇑0];exact g2,by simp[show 1<vs.size by omega],stg.fresh,nT,hT,by rw[<- htb],?_⟩ (gs.trans up))
 first|(simp;done)|(rcases ip with rfl|⟨_,_,_,_,_,_,_,rfl⟩ <;> simp)
theorem Zph {env:Env}{o:Obj}{vs:Array Value}(fA:A.frames=some (env::fr))(ff:s.heap.FunFrames B (env::fr))(fE:env.frame=some L)(st:B.StaysIn s.heap)(nw:B.get? e=none)(he:s.heap.get? e=some o)(hd:o.data=.fields vs)(g2:vs[2]?=some c0)(g1:vs[1]?=some .none)(k:∀ h',Trk B (env::fr) e o.cls c0 (rawInt L) h'->s.heap.UpToSlots h'->Q () { s with heap:=h' }):wpAny M A (noteFrame (.ref e) env) Q E s:=by
 unfold noteFrame;rw[fE];refine Jab (wpAny_field he hd g1 ?_);exact Zpi fA ff fE st nw he hd g2 k
theorem Zs3 {env:Env}{h0:Heap}{as:List Value}(fA:A.frames=some (env::fr))(fE:env.frame=some L)(st:B.StaysIn h0)(ff:h0.FunFrames B (env::fr))(x:Heap.MadeExcOf h0 s.heap e cls as)(k:∀ h',Trk B fr e cls .none .none h'->s.heap.UpToSlots h'->Q () { s with heap:=h' }):wpAny M A (leaving env (.ref e)) Q E s:=by
 refine Zau x.there λt he _ _=>?_;have nw:B.get? e=none:=by
  cases q:B.get? e with
  | none=>rfl
  | some u=>have:=st e u q;rw[x.new] at this;cases this
 unfold leaving;exact Jab (Zph fA (ff.of_keeps λb u hb _=>⟨u,x.keeps b u hb,rfl⟩) fE (λb u hb=>x.keeps b u (st b u hb)) nw he rfl rfl rfl λh1 y q=>Zs2 (s:={ s with heap:=h1 }) none y λh2 y2 q2=>k h2 y2.outer (q.trans q2))
end
end L2
namespace L2
open PySem PySem.Spec PyProof.Rows PySem.W
theorem HOk.track {P:Program}{w:World}{H:Hp}{h h':Heap}(x:HOk P w H h)(k:∀ b u o,H b=some u->h.get? b=some o->h'.get? b=some o):HOk P w H h':=λa o e=>
 (x a o e).stay (λb u hb q=>by
  rcases hb with rfl|hb
  .exact k b o u e q
  .exact k b _ u hb q) (λ_ z=>z) (λ_ _ z=>z) λ_ _ _ z=>z
theorem ObjOk.there {P:Program}{w:World}{H:Hp}{h:Heap}{a:Addr}{o:HO}(x:ObjOk P w H h a o):∃ u,h.get? a=some u:=by
 cases o with
 | lst xs=>obtain⟨_,_,_,_,e⟩:=x;exact⟨_,e⟩
 | tup xs=>obtain⟨_,_,_,p⟩:=x;obtain⟨o,e,_⟩:=p;exact⟨_,e⟩
 | dK kvs=>obtain⟨_,_,_,_,o,_,_,e,_⟩:=x;exact⟨_,e⟩
 | dT kvs=>obtain⟨_,_,_,_,o,_,_,e,_⟩:=x;exact⟨_,e⟩
 | set S n=>obtain⟨o,_,_,_,e,_⟩:=x;exact⟨_,e⟩
 | ins C dx fs=>obtain⟨_,_,_,e,_⟩:=x;exact⟨_,e⟩
 | own y=>obtain⟨_,e⟩:=x;exact⟨_,e⟩
 | xd fs=>obtain⟨_,⟨_,_,_,e,_⟩,_⟩:=x;exact⟨_,e⟩
 | rng lo hi=>obtain⟨_,_,_,e⟩:=x;exact⟨_,e⟩
 | frz ob u=>obtain⟨e,_⟩:=x;exact⟨_,e⟩
 | tbl ps=>exact⟨_,(show h.get? a=some _ from x)⟩
 | met f y=>exact⟨_,(show h.get? a=some _ from x)⟩
 | ext φ=>obtain⟨_,⟨_,e⟩,_⟩:=x;exact⟨_,e⟩
 | tab l c q=>
  rcases x with e|⟨_,_,_,_,e,_⟩
  .exact ⟨_,e⟩
  .exact ⟨_,e⟩
structure Fly (P:Program)(w:World)(outer:List Env)(H:Hp)(s:Shared)(a:Addr)(cls c0:Value)(H':Hp)(s':Shared):Prop where
 os:s'.os=s.os
 bare:AllBare s'.gens
 hok:HOk P w H' s'.heap
 un:Un (frs outer) [] H H' s.heap s'.heap
 fly:∃ B,Trk B outer a cls c0 .none s'.heap/\(∀ b o,s.heap.get? b=some o->b∉frs outer->∃ o',B.get? b=some o')/\∀ b u,H' b=some u->∃ o',B.get? b=some o'
 new:∀ o,s.heap.get? a≠some o
 free:H' a=none
def CXe (P:Program)(w:World):CXT:=λouter H s E e s'=>∃ (a:Addr) (cls c0:Value) (H':Hp),e=.ref a/\Fly P w outer H s a cls c0 H' s'/\E cls none H'/\(c0=.none\/E cls (some 0) H')
section
variable {N:List Str}{qual:Str}{scope:Scope}{f:Addr}{cd:Value}{A:Around}{outer:List Env}{s:Shared}{H:Hp}{E:XK}{pins:List (Addr×Obj)}{σ:St}{H1:Hp}{s1 s2:Shared}{e:Addr}{cls:Value}
theorem xe_made {vs:List Value}(I:Inv (Zmb (CXe P w) P w K mg base N qual scope f cd A outer s H E) pins σ H1 s1)(hx:Heap.MadeExcOf s1.heap s2.heap e cls vs)(ho:s2.os=s1.os)(hg:AllBare s2.gens)(hE:E cls none H1):
  (Zmb (CXe P w) P w K mg base N qual scope f cd A outer s H E).xe (.ref e) s2:=by
 show wpAny (model P w) (A.deeper (envOfC qual scope s.heap.objs.size f cd)) (leaving (envOfC qual scope s.heap.objs.size f cd) (.ref e)) (λ_ s''=>CXe P w outer H s E (.ref e) s'') (λe' s''=>CXe P w outer H s E e' s'') s2;have hin:∀ env∈(envOfC qual scope s.heap.objs.size f cd::outer),∀ b,env.frame=some b->b∈frs (envOfC qual scope s.heap.objs.size f cd::outer):=λenv he b hb=>Jfi.mpr ⟨env,he,hb⟩;have hstk:s1.heap.FunFrames base (envOfC qual scope s.heap.objs.size f cd::outer):=I.stack;have hfree:∀ b∈frs (envOfC qual scope s.heap.objs.size f cd::outer),H1 b=none:=I.stkFree;have hsub:∀ b∈frs (envOfC qual scope s.heap.objs.size f cd::outer),b∈s.heap.objs.size::frs outer:=I.stkSub;refine Zs3 (B:=hideAll s1.heap (frs (envOfC qual scope s.heap.objs.size f cd::outer))) (h0:=s1.heap) I.ok.frames rfl (λb o q=>of_hideAll _ q) (funFrames_hide hstk hin) hx λh' x1 x4=>?_;have keepB:∀ b o,s1.heap.get? b=some o->b∉frs (envOfC qual scope s.heap.objs.size f cd::outer)->h'.get? b=some o:=λb o q nb=>x1.st b o (hideAll_get _ q nb);have hne:s1.heap.get? e=none:=hx.new;have ub:Un (frs outer) [] H H1 s.heap s1.heap:=I.base;have nst:∀ b o,s.heap.get? b=some o->b∉frs outer->b∉frs (envOfC qual scope s.heap.objs.size f cd::outer):=λb o q nb z=>by
  rcases Jao.mp (hsub b z) with e1|z
  .exact absurd (Jar q) (by rw[e1];exact Jch _)
  .exact nb z
 have slotS:∀ b o,s1.heap.get? b=some o->b∈frs (envOfC qual scope s.heap.objs.size f cd::outer)->∃ sl,h'.get? b=some { o with slots:=sl }:=λb o q hb=>by
  obtain⟨_,o',ho',hd⟩:=hstk.mem hb;rw[q] at ho';cases ho';exact x4 b o (hx.keeps b o q) hd
 refine Zjx e cls .none H1 ⟨rfl,⟨ho.trans I.os,hg,HOk.track I.hok (λb u o hb q=>keepB b o q (λz=>by rw[hfree b z] at hb;cases hb)),⟨λb o q n hb hx=>?_,λb o q n hb hx=>?_,λb o q n hx=>ub.free b o q n hx,λb o q hx=>?_,ub.tups,ub.frzs,ub.tbls⟩,⟨_,x1,λb o q nb=>?_,λb u hb=>?_⟩,λo q=>?_,?_⟩,hE,.inl rfl⟩
 .exact keepB b o (ub.keep b o q n hb hx) (nst b o q hb)
 .obtain ⟨sl,e1⟩:=ub.slot b o q n hb hx;obtain⟨sl',e2⟩:=slotS b _ e1 (by unfold frs at hb ⊢;rw[Jd1];split <;> first|exact hb|exact Jbd _ hb);exact⟨sl',e2⟩
 .obtain ⟨o',e1⟩:=ub.there b o q hx;by_cases z:b∈frs (envOfC qual scope s.heap.objs.size f cd::outer)
  .obtain ⟨sl,e2⟩:=slotS b o' e1 z;exact⟨_,e2⟩
  .exact ⟨o',keepB b o' e1 z⟩
 .obtain ⟨o',e1⟩:=ub.there b o q (by simp);exact⟨o',hideAll_get _ e1 (nst b o q nb)⟩
 .obtain ⟨o',e1⟩:=ObjOk.there (I.hok b u hb);exact⟨o',hideAll_get _ e1 λz=>by rw[hfree b z] at hb;cases hb⟩
 .obtain ⟨o',e1⟩:=ub.there e o q (by simp);rw[hne] at e1;cases e1
 .cases z:H1 e with
  | none=>rfl
  | some u=>
   obtain⟨o',e1⟩:=ObjOk.there (I.hok e u z);rw[hne] at e1;cases e1
end
end L2
namespace L2
open PySem PySem.Spec PyProof.Rows PySem.W
def Zmt (t:TA)(R:Hp->Prop):TS:=λ_ σ H=>t σ H λvs H1=>vs.length<=1000/\R H1
section
variable {X:Cx}{x:Str}{C:Addr}{bm bmN:List Value}{B Bn newId nid initId inN:String}{np cpos pos:Pos}{e₀:Expr}{rest:List Expr}{t:TA}{R:Hp->Prop}
theorem Ztj (hc:X.calm=true)(O:OwnCls x C bm newId X.mg X.base)(Fn:ExcBaseFacts Bn newId inN bmN)(hBn:bm.contains (.type Bn)=true)(FB:ExcBaseFacts B nid initId bm)(hg:Gl X x)(ha:PA X (e₀::rest) t)(hxe:∀ pins σ H1 s1 s2 e vs,Inv X pins σ H1 s1->Heap.MadeExcOf s1.heap s2.heap e (.ref C) vs->s2.os=s1.os->AllBare s2.gens->R H1->X.xe (.ref e) s2)(h1:Zbt e₀=false:=by rfl)(h2:rest.all (λx=>!Zbt x)=true:=by rfl)(hd:(x == ("__debug__" : Str))=false:=by decide):
  PS X (.Raise (some (.Call (.Name x np) (e₀::rest) [] cpos)) none pos) (Zmt t R):=by
 intro pins s σ H D I h;have he:=Zbi (e:=e₀) (es:=rest) (env:=X.env) h1;have hpl:=Zdj (pos:=cpos) (env:=X.env) h2;refine xE17_4 O.obj λtl N nm q bs hdct sn sub ab col dd k0 k1 k2 k3 k5 mN hC hN hni T=>?_;refine wpAny_Raise_call_subU (C:=C) (nm:=nm) (q:=q) (N:=N) (bs:=bs) (bm:=tl) (hdct:=hdct) (sn:=sn) (sub:=sub) (ab:=ab) (col:=col) (dd:=dd) (k0:=k0) (k1:=k1) (k2:=k2) (k3:=k3) (k5:=k5)
  Fn hBn FB (mN:=mN) (T.hasType FB.hasBase) (I.ok.hd hc) (by rw[he];show (false || (backTo cpos (starEach rest X.env)).any (·.1))=false;rw[hpl];rfl) hni (Zjj I hg O.bound ⟨rfl,?_⟩ hd)
 have hA:=ha cpos pins s σ H _ I h;rw[he] at hA ⊢;refine Jgh (Jbw hA (λus s2 ⟨vs,H2,I2,rv,hl,r2⟩=>⟨rfl,?_,I2.bk _ _ hC,hN.keeps I2.bk,T.keeps I2.bk,λh' e hm=>?_⟩) λ_ _ y=>y)
 .rw [<- rv.length];exact Jb8 (Zah hl)
 .exact hxe pins σ H2 s2 _ e us I2 hm rfl I2.bare r2
end
end L2
namespace L2
open PySem PySem.Spec PyProof.Rows PySem.W
section
theorem Fun.okE {x qual:Str}{st:Stmt}{f:Addr}{fd:FuncData}{N ps:List Str}{k:Nat}{sp:Sp}(F:Fun K x qual st f fd)(S:FnScope N ps (Zai st))(len:∀ vs H Q E,sp vs H Q E->vs.length=ps.length)(hbody:∀ (cdv:Value) (A:Around) (outer:List Env) (s:Shared) (H:Hp) (vs:List V) (Q:VK) (E:XK),Room k (A.deeper (envOfC qual (Zai st) s.heap.objs.size f cdv))->sp vs H Q E->
   ∃ t,PSs (Zmb (CXe P w) P w K mg base N qual (Zai st) f cdv A outer s H E) (Zec st) t/\t { nx:=λ_ H'=>Q .non H',rt:=Q } (start N vs) H):FnOk P w K mg base (CXe P w) (k+1) f fd ps sp:=by
 refine xE9_3 F.ex λoc od kV doc pm an cdv ct osl e91 lk hcd=>?_;obtain rfl:=e91;exact fn_of lk hcd S len λA outer s H vs Q E hr hsp=>hbody cdv A outer s H vs Q E hr hsp
theorem Zqw {x:Str}{C:Addr}{bmB:List Value}{newId:String}{h:Heap}(X:K.In h)(b:mg x=some (.ref C))(q:excIn K C bmB newId=true):OwnCls x C bmB newId mg h:=by
 refine⟨b,?_⟩;unfold excIn at q;split at q
 .rename_i dd cd sl ho
  split at q
  .rename_i C' bm k0 k1 k2 k3 n k5 hm hs
   simp only[Jbv,Jcj,Bool.not_eq_true'] at q;obtain⟨⟨⟨⟨⟨rfl,rfl⟩,hdel⟩,ht⟩,hok⟩,hni⟩:=q;obtain⟨nm,bs,mro,ns,qn,hd,sn,sub,ab,col,del⟩:=cd;dsimp only at hm hdel hok hni;subst hm hdel;have hsl:sl=#[k0,k1,k2,k3,some (.builtin n),k5]:=by
    obtain⟨l⟩:=sl;simp only at hs;rw[hs]
   subst hsl;exact xI17_1 bm ns nm qn bs hd sn sub ab col dd k0 k1 k2 k3 k5 _ ⟨X _ _ ho,.of_isNs (isNs_of_in X hok),nsMap_none_of_in X hok hni,tail_of_in X ht⟩
  .cases q
 .cases q
end
section
variable {X:Cx}{pins:List (Addr×Obj)}{σ:St}{H H':Hp}{s s':Shared}{a:Addr}{cls:Value}
end
end L2
namespace L2
open PySem PySem.Spec PyProof.Rows PySem.W
section
variable {M:Model}{A:Around}{E:Value->Shared->Prop}
variable {nm q:Str}{C N:Addr}{bs bm:List Value}{hdct:Bool}{sn:List Str}{sub:List Value}{ab:Bool}{col:Option Bool}{dd:Option Addr}{k0 k1 k2 k3 k5:Option Value}{newId:String}
variable {nm' q':Str}{C' N':Addr}{bs' bm':List Value}{hdct':Bool}{sn':List Str}{sub':List Value}{ab':Bool}{col':Option Bool}{dd':Option Addr}{j0 j1 j2 j3 j5:Option Value}{newId':String}
end
end L2
namespace L2
open PySem PySem.Spec PyProof.Rows PySem.W
noncomputable abbrev Cx.pnx (X:Cx)(pins:List (Addr×Obj)):Cx:={ X with pn:=X.pn++pins }
noncomputable abbrev Cx.hnd (X:Cx)(pins:List (Addr×Obj))(a:Addr):Cx:={ X with pn:=X.pn++pins,A:=X.A.mark (some (.ref a)),calm:=false,xe:=λ_ _=>False }
section
variable {X:Cx}{pins pins':List (Addr×Obj)}{σ:St}{H:Hp}{s:Shared}{a:Addr}
theorem Inv.pnx (I:Inv X pins σ H s):Inv (X.pnx pins) [] σ H s:=
 ⟨⟨I.ok.mod,I.ok.kind,I.ok.glob,I.ok.blt,I.ok.above,I.ok.inj,I.ok.has,I.ok.cab,I.ok.hd,I.ok.frames,I.ok.stk,I.ok.exf,I.ok.bs,I.ok.bsz,I.ok.noex,I.ok.exfs,I.ok.funs,I.ok.frf,I.ok.top⟩,I.os,I.bare,I.base,I.loc,I.cell,I.free,I.freeC,λp hp=>I.pin p (by simpa using hp),I.hok,I.len⟩
theorem Inv.hnd (I:Inv X pins σ H s)(a:Addr):Inv (X.hnd pins a) [] σ H s:=
 ⟨⟨I.ok.mod,I.ok.kind,I.ok.glob,I.ok.blt,I.ok.above,I.ok.inj,I.ok.has,I.ok.cab,(λz=>nomatch z),I.ok.frames,I.ok.stk,I.ok.exf,I.ok.bs,I.ok.bsz,I.ok.noex,I.ok.exfs,I.ok.funs,I.ok.frf,I.ok.top⟩,I.os,I.bare,I.base,I.loc,I.cell,I.free,I.freeC,λp hp=>I.pin p (by simpa using hp),I.hok,I.len⟩
end
noncomputable def isExc (a:Addr)(cls:Value):HO:=.ext λh=>∃ ob,h.get? a=some ob/\ob.cls=cls
noncomputable def hEnds (X:Cx)(D:Ends):Ends:={ nx:=λ_ H=>D.nx (List.replicate X.N.length none) H,rt:=D.rt,bk:=λ_ H=>D.bk (List.replicate X.N.length none) H,ct:=λ_ H=>D.ct (List.replicate X.N.length none) H }
def tTry (X:Cx)(E':XK)(tb:TS)(i:Nat)(th:TS):TS:=λD σ H=>tb D σ H/\∀ (cls:Value) (H':Hp) (a:Addr) (σ':St),E' cls none H'->H' a=none->σ'.length=X.N.length->th (hEnds X D) (σ'.set i (some (.ref a))) (upd H' a (isExc a cls))
section
variable {X:Cx}{x n:Str}{np hpos pos:Pos}{body suite:List Stmt}{b₀:Stmt}{E':XK}{tb th:TS}{i:Nat}{D:Addr}{bmD:List Value}{newD:String}
end
end L2
namespace L2
open PySem PySem.Spec PySem.Calls PyProof.Rows PySem.W Builtin Builtin.ObjectAttr Builtin.Getset_descriptor
structure ExcCls (K:Frag)(C:Addr):Prop where
 ga:findIn K (.ref C) "__getattribute__" = some (some (.builtin "BaseException.__getattribute__"))
 gt:findIn K (.ref C) "__getattr__" = some none
 cl:findIn K (.ref C) "__class__" = some (some (.builtin "object.__class__"))
 so:mroIn K C (.type "object")=some true
 sb:mroIn K C (.type "BaseException")=some true
section
variable {prog:Program}{w:World}{A:Around}{E:Value->Shared->Prop}{h:Heap}{g:Array GenState}{d:Drawn}{t:Nat}{os:OsState}{a C:Addr}{ox:Obj}{K:Frag}
end
end L2
namespace L2
open PySem PySem.Spec PyProof.Rows PySem.W
section
variable {X:Cx}
end
end L2
namespace L2
open PySem PySem.Spec PyProof.Rows PySem.W
structure CalE (P:Program)(w:World)(K:Frag)(mg:Str->Option Value)(base:Heap)(x:Str)(k:Nat)(sp:Sp):Prop where
 ex:∃ (f:Addr) (fd:FuncData) (ps:List Str),FnOk P w K mg base (CXe P w) k f fd ps sp/\mg x=some (.ref f)/\PySem.W.keepIn K (.ref f)=true/\Binds K fd ps []
structure CalME (P:Program)(w:World)(K:Frag)(mg:Str->Option Value)(base:Heap)(C:Addr)(m:Str)(k:Nat)(sp:Sp):Prop where
 ex:∃ (f:Addr) (fd:FuncData) (ps:List Str),FnOk P w K mg base (CXe P w) k f fd ps sp/\Meth K C m f/\Binds K fd ps []
structure CalIE (P:Program)(w:World)(K:Frag)(mg:Str->Option Value)(base:Heap)(x:Str)(C:Addr)(k:Nat)(sp:Sp):Prop where
 ex:∃ (f:Addr) (fd:FuncData) (ps:List Str),FnOk P w K mg base (CXe P w) k f fd ps sp/\Mk K C f/\mg x=some (.ref C)/\Binds K fd ps []
section
variable {X:Cx}{x m:Str}{k:Nat}{sp:Sp}{e o:Expr}{es:List Expr}{ta:TE}{t:TA}{p pos apos:Pos}{E:XK}{C:Addr}
theorem pe_cE (M:CalE X.prog X.w X.K X.mg X.base x k sp)(hx:Zgg (CXe X.prog X.w) X E)(hr:Room k X.A)(hg:Gl X x)(ha:PA X (e::es) t)(h:Zbt e=false:=by rfl)(h2:es.all (λx=>!Zbt x)=true:=by rfl)(hdb:(x == ("__debug__" : Str))=false:=by decide):PE X (.Call (.Name x p) (e::es) [] pos) (Zlc sp [] E t):=by
 refine Zck M.ex λf fd ps F hm hk hb=>?_;exact Zqt F hr hg hm hk hb .nil hx ha hdb (Zbi h) (Zdj h2)
end
theorem hnd_K {X:Cx}{pins:List (Addr×Obj)}{a:Addr}:(X.hnd pins a).K=X.K:=rfl
theorem pnx_K {X:Cx}{pins:List (Addr×Obj)}:(X.pnx pins).K=X.K:=rfl
theorem Zqu {X:Cx}:Zgg (CXe X.prog X.w) X (λ_ _ _=>False):=λ_ _ _ _ _ _ _ ⟨_,_,_,_,_,_,h,_⟩=>h.elim
structure CalDE (P:Program)(w:World)(K:Frag)(mg:Str->Option Value)(base:Heap)(C:Addr)(m:Str)(k:Nat)(sp:Sp)(dvs:List V):Prop where
 ex:∃ (f:Addr) (fd:FuncData) (ps:List Str) (ds:List Value),FnOk P w K mg base (CXe P w) k f fd ps sp/\Meth K C m f/\Binds K fd ps ds/\Vals dvs ds
noncomputable abbrev bmV:List Value:=[.type "ValueError",.type "Exception",.type "BaseException",.type "object"]
noncomputable abbrev newV:String:="ValueError.__new__"
section
variable {N:List Str}{qual:Str}{scope:Scope}{f:Addr}{cd:Value}{A:Around}{outer:List Env}{s:Shared}{H:Hp}{E:XK}
theorem ps_rse {x:Str}{C:Addr}{np cpos pos:Pos}{e₀:Expr}{rest:List Expr}{t:TA}(O:OwnCls x C bmV newV mg base)(hg:Gl (Zmb (CXe P w) P w K mg base N qual scope f cd A outer s H E) x)(ha:PA (Zmb (CXe P w) P w K mg base N qual scope f cd A outer s H E) (e₀::rest) t)(h1:Zbt e₀=false:=by rfl)(h2:rest.all (λx=>!Zbt x)=true:=by rfl)(hd:(x == ("__debug__" : Str))=false:=by decide):
  PS (Zmb (CXe P w) P w K mg base N qual scope f cd A outer s H E) (.Raise (some (.Call (.Name x np) (e₀::rest) [] cpos)) none pos) (Zmt t (E (.ref C) none)):=
 Ztj rfl O PySem.F.excBase_ValueError rfl PySem.F.excBase_ValueError hg ha (λpins σ H1 s1 s2 e vs I hm ho hg hE=>xe_made I hm ho hg hE) h1 h2 hd
theorem Zo6 {C:Addr}{b:Value}{r:Bool}(m:mroIn K C b=some r):(clsIn K C).isSome=true:=by
 unfold mroIn at m;cases h:clsIn K C with
 | none=>rw[h] at m;cases m
 | some cd=>rfl
theorem Zqv {C D:Addr}{bmB:List Value}{newId:String}{h:Heap}(X:K.In h)(q:excIn K C bmB newId=true)(m:mroIn K C (.ref D)=some true)(ne:C≠D):
  ∃ C' nm q N bs bm hdct sn sub ab col dd k0 k1 k2 k3 k5 new,Value.ref C=.ref C'/\h.get? C'=some (excClassObj nm q C' N bs bm hdct sn sub ab col dd k0 k1 k2 k3 k5 new)/\bm.contains (.ref D)=true:=by
 unfold excIn at q;split at q
 .rename_i dd cd sl ho
  split at q
  .rename_i C' bm k0 k1 k2 k3 n k5 hm hs
   simp only[Jbv,Jcj,Bool.not_eq_true'] at q;obtain⟨⟨⟨⟨⟨rfl,rfl⟩,hdel⟩,ht⟩,hok⟩,hni⟩:=q;have hcl:clsIn K C'=some cd:=by unfold clsIn;rw[ho]
   obtain⟨nm,bs,mro,ns,qn,hd,sn,sub,ab,col,del⟩:=cd;dsimp only at hm hdel hok hni;subst hm hdel;have hsl:sl=#[k0,k1,k2,k3,some (.builtin n),k5]:=by
    obtain⟨l⟩:=sl;simp only at hs;rw[hs]
   subst hsl;refine xI18_1 C' nm qn ns bs bm hd sn sub ab col dd k0 k1 k2 k3 k5 _ ⟨rfl,X _ _ ho,?_⟩;unfold mroIn at m;rw[hcl] at m;have m:(Value.ref C'::bm).contains (.ref D)=true:=Jbn m;rw[List.contains_cons,Jgo] at m;rcases m with m|m
   .exact absurd (Value.ref.inj (Jcj.mp m)).symm ne
   .exact m
  .cases q
 .cases q
end
end L2
namespace PyProof.Rows
open PySem
noncomputable def Zr3:Bool->Keyed->Array Keyed->Nat->Nat->Nat->StateT SortSt Sem (Option Nat):=sortPriv% PySem.Builtin.gallop
noncomputable def Znh:Array Keyed->Array Keyed->StateT SortSt Sem (Array Keyed):=sortPriv% PySem.Builtin.mergeLo
noncomputable def Zni:Array Keyed->Array Keyed->StateT SortSt Sem (Array Keyed):=sortPriv% PySem.Builtin.mergeHi
section
variable {prog:Program}{w:World}{A:Around}{E:Value->Shared->Prop}{s:Shared}{a₀:Array Keyed}
variable {κ:SortKind}
theorem Za9 {arr:Array Keyed}{i:Nat}{st:SortSt}{Q:Keyed->SortSt->Prop}(hi:i<arr.size)(h:Q arr[i] st):wpS (model prog w) A E s (elem' arr i) Q st:=by
 rw[elem'_eq,Jag hi];exact Ja2 h
structure SM (st st':SortSt):Prop where
 k:kindOf st'=kindOf st
 a:arrOf st'=arrOf st
 p:pendingOf st'=pendingOf st
 f:failedOf st'=failedOf st
theorem SM.refl (st:SortSt):SM st st:=⟨rfl,rfl,rfl,rfl⟩
theorem SM.trans {s1 s2 s3:SortSt}(h:SM s1 s2)(h':SM s2 s3):SM s1 s3:=⟨h'.k.trans h.k,h'.a.trans h.a,h'.p.trans h.p,h'.f.trans h.f⟩
def Mg (a b out:Array Keyed)(ia ib:Nat):Prop:=(out.toList++(a.toList.drop ia++b.toList.drop ib)).Perm (a.toList++b.toList)
variable {a b out:Array Keyed}{ia ib:Nat}
theorem Mg.swap (h:Mg a b out ia ib):Mg b a out ib ia:=((Jc0.append_left _).trans h).trans Jc0
theorem Mg.exta {k:Nat}(h:Mg a b out ia ib):Mg a b (out++a.extract ia (ia+k)) (ia+k) ib:=by
 refine List.Perm.trans (Jfp ?_) h;rw[Jbi,Jbq,Jbb,Nat.add_sub_cancel_left,Ja5,<- Ja5 ((List.drop ia a.toList).take k),<- Jg9,Jbx]
theorem Mg.pusha (hi:ia<a.size)(h:Mg a b out ia ib):Mg a b (out.push a[ia]) (ia+1) ib:=by
 refine List.Perm.trans (Jfp ?_) h;rw[Jcn,Ja5,show List.drop ia a.toList=a[ia]::List.drop (ia+1) a.toList from Jct (by simpa using hi)];rfl
theorem Mg.extb {k:Nat}(h:Mg a b out ia ib):Mg a b (out++b.extract ib (ib+k)) ia (ib+k):=h.swap.exta.swap
theorem Mg.pushb (hi:ib<b.size)(h:Mg a b out ia ib):Mg a b (out.push b[ib]) ia (ib+1):=(h.swap.pusha hi).swap
theorem Mg.done (h:Mg a b out ia ib):(out++a.extract ia a.size++b.extract ib b.size).toList.Perm (a.toList++b.toList):=by
 refine List.Perm.trans (Jfp ?_) h;rw[Jbi,Jbi,Jbq,Jbq,Jbb,Jbb,Jcc (by simp),Jcc (by simp),Ja5]
theorem Mg.last (h:Mg a b out ia ib):(out++b.extract ib b.size++a.extract ia a.size).toList.Perm (a.toList++b.toList):=h.swap.done.trans Jc0
theorem Zas {α:Type}{c:Prop}[Decidable c]{x y:StateT SortSt Sem α}{Q:α->SortSt->Prop}{st:SortSt}(h1:c->wpS (model prog w) A E s x Q st)(h2:¬c->wpS (model prog w) A E s y Q st):wpS (model prog w) A E s (if c then x else y) Q st:=by
 by_cases h:c
 .rw [if_pos h];exact h1 h
 .rw [if_neg h];exact h2 h
noncomputable def setG':Nat->StateT SortSt Sem Unit:=sortPriv% PySem.Builtin.setMinGallop
theorem Zi3 {g:Nat}{st:SortSt}{Q:Unit->SortSt->Prop}(h:∀ st',SM st st'->Q () st'):wpS (model prog w) A E s (setG' g) Q st:=by
 unfold setG';exact Jf1 (h _ ⟨rfl,rfl,rfl,rfl⟩)
theorem Zcd {x y:Nat}(h:¬(x == y)=true):x≠y:=λe=>h (by subst e;exact Jds _)
structure LoI (st:SortSt)(a b out:Array Keyed)(ia ib n:Nat)(st':SortSt):Prop where
 m:SM st st'
 sz:out.size=ia+ib
 la:ia+1<a.size
 lb:ib<b.size
 g:Mg a b out ia ib
 n:n<=out.size
section
variable {st st' st2:SortSt}{n n':Nat}
theorem LoI.stt (I:LoI st a b out ia ib n st')(m:SM st' st2):LoI st a b out ia ib n st2:=⟨I.m.trans m,I.sz,I.la,I.lb,I.g,I.n⟩
theorem LoI.le (I:LoI st a b out ia ib n st')(h:n'<=n):LoI st a b out ia ib n' st':=⟨I.m,I.sz,I.la,I.lb,I.g,Ja8 h I.n⟩
theorem LoI.exta {k:Nat}(I:LoI st a b out ia ib n st')(h:ia+k+1<a.size):LoI st a b (out++a.extract ia (ia+k)) (ia+k) ib n st':=⟨I.m,by rw[Jdm,Jco,I.sz];omega,h,I.lb,I.g.exta,by rw[Jdm];have:=I.n;omega⟩
theorem LoI.extb {k:Nat}(I:LoI st a b out ia ib n st')(h:ib+k<b.size):LoI st a b (out++b.extract ib (ib+k)) ia (ib+k) n st':=⟨I.m,by rw[Jdm,Jco,I.sz];omega,I.la,h,I.g.extb,by rw[Jdm];have:=I.n;omega⟩
theorem LoI.lia (I:LoI st a b out ia ib n st'):ia<a.size:=Jhh I.la
theorem LoI.pusha (I:LoI st a b out ia ib n st')(h:¬ (ia+1+1 == a.size)=true):LoI st a b (out.push (a[ia]'I.lia)) (ia+1) ib (n+1) st':=⟨I.m,by rw[Jd2,I.sz];omega,Jg6 I.la (Zcd h),I.lb,I.g.pusha _,by rw[Jd2];exact Je9 I.n⟩
theorem LoI.pushb (I:LoI st a b out ia ib n st')(h:¬ (ib+1 == b.size)=true):LoI st a b (out.push (b[ib]'I.lb)) ia (ib+1) (n+1) st':=⟨I.m,by rw[Jd2,I.sz];omega,I.la,Jg6 I.lb (Zcd h),I.g.pushb _,by rw[Jd2];exact Je9 I.n⟩
end
def Mh (a b out:Array Keyed)(na nb:Nat):Prop:=(a.toList.take na++(b.toList.take nb++out.toList)).Perm (a.toList++b.toList)
variable {na nb:Nat}
theorem Mh.swap (h:Mh a b out na nb):Mh b a out nb na:=by
 refine List.Perm.trans ?_ (h.trans Jc0);rw[<- Ja5,<- Ja5];exact Jc0.append_right _
theorem Mh.exta {k:Nat}(hk:k<=na)(h:Mh a b out na nb):Mh a b (out++(a.extract k na).reverse) k nb:=by
 refine List.Perm.trans ?_ h;have e:a.toList.take na=a.toList.take k++(a.extract k na).toList:=by
  rw[Jbq,Jbb,List.take_drop,show k+(na-k)=na by exact oz9 hk];have:=(Jbx k (List.take na a.toList)).symm;rw[List.take_take,Jgs hk] at this;exact this
 rw[e,Jbi,Jd9,Ja5];refine Jga _ ?_;rw[<- Ja5];exact Jc0.trans ((Je3 _).append_right _)
theorem Mh.pusha (h0:0<na)(hi:na-1<a.size)(h:Mh a b out na nb):Mh a b (out.push a[na-1]) (na-1) nb:=by
 refine List.Perm.trans ?_ h;have e:a.toList.take na=a.toList.take (na-1)++[a[na-1]]:=by
  have:=Jha (i:=na-1) (l:=a.toList);rw[show na-1+1=na by omega,Jac (by simpa using hi)] at this;exact this
 rw[e,Jcn,Ja5];refine Jga _ ?_;rw[<- Ja5];exact Jc0
theorem Mh.extb {k:Nat}(hk:k<=nb)(h:Mh a b out na nb):Mh a b (out++(b.extract k nb).reverse) na k:=(h.swap.exta hk).swap
theorem Mh.pushb (h0:0<nb)(hi:nb-1<b.size)(h:Mh a b out na nb):Mh a b (out.push b[nb-1]) na (nb-1):=(h.swap.pusha h0 hi).swap
theorem Mh.done (h:Mh a b out na nb):(a.extract 0 na++b.extract 0 nb++out.reverse).toList.Perm (a.toList++b.toList):=by
 refine List.Perm.trans ?_ h;rw[Jbi,Jbi,Jbq,Jbq,Jbb,Jbb,Jd9,Ja5];exact ((Je3 _).append_left _).append_left _
theorem Mh.first (h:Mh a b out na nb):(b.extract 0 nb++a.extract 0 na++out.reverse).toList.Perm (a.toList++b.toList):=h.swap.done.trans Jc0
structure HiI (st:SortSt)(a b out:Array Keyed)(na nb n:Nat)(st':SortSt):Prop where
 m:SM st st'
 sz:na+nb+out.size=a.size+b.size
 a0:0<na
 la:na<=a.size
 b0:1<nb
 lb:nb<=b.size
 g:Mh a b out na nb
 n:n<=out.size
section
variable {st st' st2:SortSt}{n n':Nat}
theorem HiI.stt (I:HiI st a b out na nb n st')(m:SM st' st2):HiI st a b out na nb n st2:=⟨I.m.trans m,I.sz,I.a0,I.la,I.b0,I.lb,I.g,I.n⟩
theorem HiI.le (I:HiI st a b out na nb n st')(h:n'<=n):HiI st a b out na nb n' st':=⟨I.m,I.sz,I.a0,I.la,I.b0,I.lb,I.g,Ja8 h I.n⟩
theorem HiI.lia (I:HiI st a b out na nb n st'):na-1<a.size:=by have:=I.a0;have:=I.la;omega
theorem HiI.lib (I:HiI st a b out na nb n st'):nb-1<b.size:=by have:=I.b0;have:=I.lb;omega
theorem HiI.exta {k:Nat}(I:HiI st a b out na nb n st')(hk:k<=na)(h:0<k):HiI st a b (out++(a.extract k na).reverse) k nb n st':=⟨I.m,by rw[Jdm,Array.size_reverse,Jco];have:=I.sz;have:=I.la;omega,h,Ja8 hk I.la,I.b0,I.lb,I.g.exta hk,by rw[Jdm];have:=I.n;omega⟩
theorem HiI.extb {k:Nat}(I:HiI st a b out na nb n st')(hk:k<=nb)(h:1<k):HiI st a b (out++(b.extract k nb).reverse) na k n st':=⟨I.m,by rw[Jdm,Array.size_reverse,Jco];have:=I.sz;have:=I.lb;omega,I.a0,I.la,h,Ja8 hk I.lb,I.g.extb hk,by rw[Jdm];have:=I.n;omega⟩
theorem HiI.pusha (I:HiI st a b out na nb n st')(h:¬ (na-1 == 0)=true):HiI st a b (out.push (a[na-1]'I.lia)) (na-1) nb (n+1) st':=⟨I.m,by rw[Jd2];have:=I.sz;have:=I.a0;omega,Jg4 (Zcd h),Jb8 I.lia,I.b0,I.lb,I.g.pusha I.a0 _,by rw[Jd2];exact Je9 I.n⟩
theorem HiI.pushb (I:HiI st a b out na nb n st')(h:¬ (nb-1 == 1)=true):HiI st a b (out.push (b[nb-1]'I.lib)) na (nb-1) (n+1) st':=⟨I.m,by rw[Jd2];have:=I.sz;have:=I.b0;omega,I.a0,I.la,by have:=Zcd h;have:=I.b0;omega,Jb8 I.lib,I.g.pushb (Jhh I.b0) _,by rw[Jd2];exact Je9 I.n⟩
end
structure SK (st st':SortSt):Prop where
 k:kindOf st'=kindOf st
 a:(arrOf st').Perm (arrOf st)
 p:pendingOf st'=pendingOf st
 f:failedOf st'=failedOf st
theorem SK.refl (st:SortSt):SK st st:=⟨rfl,.refl _,rfl,rfl⟩
theorem SK.trans {s1 s2 s3:SortSt}(h:SK s1 s2)(h':SK s2 s3):SK s1 s3:=⟨h'.k.trans h.k,h'.a.trans h.a,h'.p.trans h.p,h'.f.trans h.f⟩
theorem SK.size {s1 s2:SortSt}(h:SK s1 s2):(arrOf s2).size=(arrOf s1).size:=h.a.size_eq
theorem laid {b:Nat}(l:List Keyed):∀ (k:Nat) (xs:Array Keyed),b+k+l.length<=xs.size->((l.zipIdx k).foldl (λa (pj:Keyed×Nat)=>a.setIfInBounds (b+pj.2) pj.1) xs).toList=xs.toList.take (b+k)++(l++xs.toList.drop (b+k+l.length)):=by
 induction l with
 | nil=>intro k xs _;simp
 | cons p l ih=>
  intro k xs h;rw[Jau] at h;rw[List.zipIdx_cons,List.foldl_cons,ih (k+1) _ (by rw[Array.size_setIfInBounds];omega)];dsimp only;have hk:b+k<xs.toList.length:=by simp;omega
  rw[Je4,show b+(k+1)=b+k+1 by omega,Jha,Jau,Jfv hk,List.take_set_of_le (Jaf _),List.drop_set_of_lt ∅,show b+k+1+l.length=b+k+(l.length+1) by omega,Ja5];rfl
theorem set_ok {st st':SortSt}{Q:PUnit->SortSt->Prop}(h:Q ⟨⟩ st'):wpS (model prog w) A E s (set st':StateT SortSt Sem PUnit) Q st:=Jf1 (f:=λ_=>st') h
theorem Zkh {xs:Array Keyed}{o:Array Keyed}{b m e:Nat}(bm:b<=m)(me:m<=e)(he:e<=xs.size)(h:o.toList.Perm ((xs.extract b m).toList++(xs.extract m e).toList)):(o.toList.zipIdx.foldl (λa (pj:Keyed×Nat)=>a.setIfInBounds (b+pj.2) pj.1) xs).Perm xs:=by
 have e1:(xs.extract b m).toList++(xs.extract m e).toList=(xs.toList.drop b).take (e-b):=by
  rw[Jbq,Jbq,Jbb,Jbb,show xs.toList.drop m=(xs.toList.drop b).drop (m-b) by rw[Jg9,show b+(m-b)=m by exact oz9 bm],show e-b=(m-b)+(e-m) by exact oz57 bm me,List.take_add]
 rw[e1] at h;have l1:o.toList.length=e-b:=by
  rw[h.length_eq,Ja4,Jc7,Ja0];omega
 refine Jdj.2 ?_;rw[laid o.toList 0 xs (by rw[l1];omega),l1,Nat.add_zero,show b+(e-b)=e by omega];refine List.Perm.trans ((h.append_right _).append_left _) (Jfp ?_);rw[show xs.toList.drop e=(xs.toList.drop b).drop (e-b) by rw[Jg9,show b+(e-b)=e by omega],Jbx,Jbx]
def Ch:Nat->List (Nat×Nat×Nat)->Nat->Prop
 | a,[],b=>a=b
 | a,(s,n,_)::l,b=>s=a/\1<=n/\Ch (a+n) l b
theorem Ch.le:∀ {l:List (Nat×Nat×Nat)} {a b:Nat},Ch a l b->a<=b
 | [],_,_,h=>Jdv h
 | (_,_,_)::_,_,_,h=>Ja8 (Nat.le_add_right _ _) h.2.2.le
theorem Ch.push:∀ {l:List (Nat×Nat×Nat)} {a b n p:Nat},Ch a l b->1<=n->Ch a (l++[(b,n,p)]) (b+n)
 | [],_,_,_,_,h,h1=>⟨h.symm,h1,by show _=_;rw[show _=_ from h]⟩
 | (_,_,_)::_,_,_,_,_,h,h1=>⟨h.1,h.2.1,h.2.2.push h1⟩
theorem Ch.modify {f:Nat×Nat×Nat->Nat×Nat×Nat}(hf:∀ s n p,∃ q,f (s,n,p)=(s,n,q)):∀ {l:List (Nat×Nat×Nat)} {a b i:Nat},Ch a l b->Ch a (l.modify i f) b
 | [],_,_,i,h=>by cases i <;> exact h
 | (s,n,p)::l,a,b,0,h=>by
  obtain⟨q,e⟩:=hf s n p;show Ch a (f (s,n,p)::l) b;rw[e];exact h
 | (s,n,p)::l,a,b,i+1,h=>⟨h.1,h.2.1,Ch.modify hf h.2.2⟩
theorem Ch.two:∀ {l:List (Nat×Nat×Nat)} {a b i sa na pw sb nb pw':Nat},Ch a l b->l[i]?=some (sa,na,pw)->l[i+1]?=some (sb,nb,pw')->sb=sa+na/\1<=na/\1<=nb/\sb+nb<=b/\Ch a ((l.set i (sa,na+nb,pw)).eraseIdx (i+1)) b
 | [],_,_,_,_,_,_,_,_,_,_,h1,_=>by simp at h1
 | [_],_,_,0,_,_,_,_,_,_,_,_,h2=>by simp at h2
 | [_],_,_,_+1,_,_,_,_,_,_,_,h1,_=>by simp at h1
 | (s,n,p)::(s',n',p')::l,a,b,0,sa,na,pw,sb,nb,pw',h,h1,h2=>by
  cases Jbn h1;cases Jbn h2;obtain⟨e,g,e',g',c⟩:=h;subst e;subst e';refine⟨rfl,g,g',c.le,rfl,∅,?_⟩;rw[<- Jgk];exact c
 | (s,n,p)::x::l,a,b,i+1,sa,na,pw,sb,nb,pw',h,h1,h2=>by
  obtain⟨q1,q2,q3,q4,q5⟩:=Ch.two h.2.2 h1 h2;exact⟨q1,q2,q3,q4,h.1,h.2.1,q5⟩
structure SI (κ:SortKind)(a₀:Array Keyed)(lo:Nat)(st:SortSt):Prop where
 k:kindOf st=κ
 a:(arrOf st).Perm a₀
 f:failedOf st=none
 c:Ch 0 (pendingOf st).toList lo
theorem SI.sk {lo:Nat}{st st':SortSt}(I:SI κ a₀ lo st)(m:SK st st'):SI κ a₀ lo st':=⟨m.k.trans I.k,m.a.trans I.a,m.f.trans I.f,by rw[m.p];exact I.c⟩
theorem Zfx {α:Type}(xs:Array α)(i j:Nat)(x:α):((xs.setIfInBounds i x).eraseIdxIfInBounds j).toList=(xs.toList.set i x).eraseIdx j:=by
 rw[Array.eraseIdxIfInBounds];split
 .rw [Array.toList_eraseIdx,Je4]
 .rename_i hn
  rw[List.eraseIdx_of_length_le (by simpa using hn),Je4]
end
end PyProof.Rows
namespace St
open PySem PySem.SetTable
noncomputable def lc (m x:Nat):Nat:=(x*5+1) % (m+1)
noncomputable def orb (m:Nat):Nat->Nat->Nat
 | 0,x=>x
 | r+1,x=>orb m r (lc m x)
noncomputable def orbL (m:Nat):Nat->Nat->List Nat
 | 0,_=>[]
 | r+1,x=>x::orbL m r (lc m x)
noncomputable def has' (j:Nat):List Nat->Bool
 | []=>false
 | x::l=>if Nat.beq x j then true else has' j l
noncomputable def Zg2 (l:List Nat):Nat->Bool
 | 0=>true
 | j+1=>if has' j l then Zg2 l j else false
noncomputable def cyc (m:Nat):Bool:=Zg2 (orbL m (m+1) 0) (m+1) && Nat.beq (orb m (m+1) 0) 0
def Mk (m:Nat):Prop:=m=7\/m=31\/m=127\/m=511
theorem Mk.cyc {m:Nat}(h:Mk m):cyc m=true:=by
 rcases h with rfl|rfl|rfl|rfl <;> decide +kernel
theorem Zr0 {j:Nat}:∀ {l:List Nat},has' j l=true->j∈l
 | x::l,h=>by
  unfold has' at h;by_cases e:Nat.beq x j=true
  .rw [Nat.eq_of_beq_eq_true e];exact .head _
  .rw [if_neg e] at h;exact .tail _ (Zr0 h)
theorem Zmo {l:List Nat}:∀ {n:Nat},Zg2 l n=true->∀ j<n,j∈l
 | n+1,h,j,hj=>by
  unfold Zg2 at h;by_cases e:has' n l=true
  .rw [if_pos e] at h;rcases Nat.lt_succ_iff_lt_or_eq.1 hj with hj|rfl
   .exact Zmo h j hj
   .exact Zr0 e
  .rw [if_neg e] at h;cases h
theorem Zho {m:Nat}:∀ (a b x:Nat),orb m (a+b) x=orb m b (orb m a x)
 | 0,b,x=>by rw[Jg3];rfl
 | a+1,b,x=>by rw[show a+1+b=(a+b)+1 by omega];exact Zho a b _
theorem Zji {m y:Nat}:∀ {n x:Nat},y∈orbL m n x->∃ r,r<n/\orb m r x=y
 | n+1,x,h=>by
  cases h with
  | head=>exact⟨0,Nat.succ_pos _,rfl⟩
  | tail _ h=>obtain⟨r,hr,e⟩:=Zji h;exact⟨r+1,Nat.succ_lt_succ hr,e⟩
theorem full {m x j:Nat}(hm:Mk m)(hx:x<=m)(hj:j<=m):∃ r,r<=m/\orb m r x=j:=by
 have h:=hm.cyc;unfold cyc at h;rw[Jbv] at h;obtain⟨a,ha,rfl⟩:=Zji (Zmo h.1 x ∅);obtain⟨b,hb,rfl⟩:=Zji (Zmo h.1 j ∅);have e0:=Nat.eq_of_beq_eq_true h.2;by_cases ab:a<=b
 .exact ⟨b-a,∅,by rw[<- Zho,show a+(b-a)=b by exact oz9 ab]⟩
 .exact ⟨m+1-a+b,∅,by rw[<- Zho,show a+(m+1-a+b)=(m+1)+b by omega,Zho,e0]⟩
noncomputable def tm (m:Nat):SetTable:={ SetTable.fresh 0 0 true with mask:=m }
noncomputable def pr (m:Nat)(h:Int):Nat->Probe
 | 0=>probeStart (tm m) h
 | n+1=>advance (tm m) (pr m h n)
noncomputable def lp (m:Nat)(h:Int):Nat->Nat×Nat
 | 0=>(bits h % (m+1),bits h)
 | r+1=>leap m (lp m h r).1 (lp m h r).2
noncomputable def runAt (m:Nat)(h:Int)(r:Nat):Probe:={ j:=(lp m h r).1,more:=runEnd m (lp m h r).1-(lp m h r).1,i:=(lp m h r).1,perturb:=(lp m h r).2,dummy:=none }
theorem lp_le {m:Nat}{h:Int}:∀ r,(lp m h r).1<=m
 | 0=>Jfq.1 (Nat.mod_lt _ (Nat.succ_pos _))
 | r+1=>Jfq.1 (Nat.mod_lt _ (Nat.succ_pos _))
theorem Zvp {m:Nat}{h:Int}:∀ r,(lp m h r).2=bits h / 32 ^ r
 | 0=>by rw[Nat.pow_zero,Nat.div_one];rfl
 | r+1=>by
  show (lp m h r).2 / 32=_;rw[Zvp r,Nat.div_div_eq_div_mul,Nat.pow_succ]
theorem bits_lt (h:Int):bits h<2 ^ 64:=by
 unfold bits;have h1:0<=h % (2 ^ 64:Int):=Int.emod_nonneg _ ⇑0;have h2:h % (2 ^ 64:Int)<2 ^ 64:=Int.emod_lt_of_pos _ ⇑0;omega
theorem lp_zero {m:Nat}{h:Int}{r:Nat}(hr:13<=r):(lp m h r).2=0:=by
 rw[Zvp];refine Nat.div_eq_of_lt (Jbr (bits_lt h) ?_);exact Ja8 (by decide:2 ^ 64<=32 ^ 13) (Jgi ⇑0 hr)
theorem Zvq {m:Nat}{h:Int}:∀ k,(lp m h (13+k)).1=orb m k (lp m h 13).1
 | 0=>rfl
 | k+1=>by
  have e:orb m (k+1) (lp m h 13).1=lc m (orb m k (lp m h 13).1):=by rw[Zho];rfl
  rw[e,<- Zvq k];show (((lp m h (13+k)).1*5+1+(lp m h (13+k)).2 / 32) % (m+1))=_;rw[lp_zero ∅];rfl
theorem Zp8 (m i:Nat):runEnd m i-i<=9:=by unfold runEnd;split <;> omega
theorem Zht (m i:Nat):i<=runEnd m i:=by unfold runEnd;split <;> omega
theorem Zi6 {m i:Nat}(h:i<=m):runEnd m i<=m:=by unfold runEnd;split <;> omega
theorem pr_in {m:Nat}{h:Int}{r n:Nat}(e:pr m h n=runAt m h r):∀ k,k<=runEnd m (lp m h r).1-(lp m h r).1->pr m h (n+k)={ runAt m h r with j:=(lp m h r).1+k,more:=runEnd m (lp m h r).1-(lp m h r).1-k }
 | 0,_=>by rw[Nat.add_zero,e];rfl
 | k+1,hk=>by
  show advance (tm m) (pr m h (n+k))=_;rw[pr_in e k ∅];unfold advance;rw[if_pos (by dsimp only;omega)];dsimp only;rw[Nat.sub_sub,Jgk]
noncomputable def nr (m:Nat)(h:Int):Nat->Nat
 | 0=>0
 | r+1=>nr m h r+(runEnd m (lp m h r).1-(lp m h r).1)+1
theorem nr_le {m:Nat}{h:Int}:∀ r,nr m h r<=10*r
 | 0=>Jaf _
 | r+1=>by
  have:=nr_le (m:=m) (h:=h) r;have l9:=Zp8 m (lp m h r).1;unfold nr;omega
theorem Zq8 {m:Nat}{h:Int}{r:Nat}:∀ d,nr m h r<=nr m h (r+d)
 | 0=>Jaf _
 | d+1=>Ja8 (Zq8 d) (by rw[<- Jgk];show _<=nr m h (r+d)+_+1;omega)
theorem Zqh {m:Nat}{h:Int}:∀ r,pr m h (nr m h r)=runAt m h r
 | 0=>rfl
 | r+1=>by
  have e:=Zqh (m:=m) (h:=h) r;show advance (tm m) (pr m h (nr m h r+_))=_;rw[pr_in e _ (Jaf _)];unfold advance;rw[if_neg (by dsimp only;omega)];rfl
theorem cover {m:Nat}(hm:Mk m)(h:Int){j:Nat}(hj:j<=m):∃ r,r<=13+m/\(pr m h (nr m h r)).j=j:=by
 obtain⟨k,hk,e⟩:=full hm (lp_le (h:=h) 13) hj;refine⟨13+k,∅,?_⟩;rw[Zqh,<- e,<- Zvq];rfl
def Inc (xs:Array Nat):Prop:=xs.toList.Pairwise (· < ·)
theorem Inc.lt {xs:Array Nat}(h:Inc xs){i k:Nat}(hk:k<xs.size)(ik:i<k):xs[i]<xs[k]:=by
 have:=Jc6.1 h i k (by simp;omega) (by simpa using hk) ik;simpa using this
theorem Zjt {xs:Array Nat}{j:Nat}(hx:Inc xs):∀ (fuel lo hi:Nat),lo<=hi->hi<=xs.size->hi-lo<=fuel->(∀ i (h:i<xs.size),i<lo->xs[i]<j)->(∀ i (h:i<xs.size),hi<=i->j<=xs[i])->
  below.go xs j fuel lo hi<=xs.size/\(∀ i (h:i<xs.size),i<below.go xs j fuel lo hi->xs[i]<j)/\(∀ i (h:i<xs.size),below.go xs j fuel lo hi<=i->j<=xs[i])
 | 0,lo,hi,h1,h2,h3,a,b=>by
  have e:lo=hi:=∅
  subst e;exact⟨h2,a,b⟩
 | fuel+1,lo,hi,h1,h2,h3,a,b=>by
  unfold below.go;by_cases c:lo<hi
  .rw [if_pos c];have hm:(lo+hi) / 2<xs.size:=∅
   dsimp only;rw[show xs.getD ((lo+hi) / 2) j=xs[(lo+hi) / 2] by simp[Array.getD,hm]];by_cases d:xs[(lo+hi) / 2]<j
   .rw [if_pos d];refine Zjt hx fuel _ hi ∅ h2 ∅ (λi h _=>?_) b;rcases Jfh i ((lo+hi) / 2) with q|q
    .exact Nat.lt_trans (hx.lt hm q) d
    .have:i=(lo+hi) / 2:=∅
     subst this;exact d
   .rw [if_neg d];refine Zjt hx fuel lo _ ∅ ∅ ∅ a λi h _=>?_;rcases Jfh ((lo+hi) / 2) i with q|q
    .exact Ja8 (Jgc d) (Jb8 (hx.lt h q))
    .have:i=(lo+hi) / 2:=∅
     subst this;exact Jgc d
  .rw [if_neg c];have e:lo=hi:=∅
   subst e;exact⟨h2,a,b⟩
theorem Zeg {xs:Array Nat}{j:Nat}(hx:Inc xs):below xs j<=xs.size/\(∀ i (h:i<xs.size),i<below xs j->xs[i]<j)/\(∀ i (h:i<xs.size),below xs j<=i->j<=xs[i]):=
 Zjt hx _ _ _ (Jbp _) (Jaf _) (Jaf _) (λ_ _ h=>absurd h (Jez _)) λ_ h h'=>absurd h (Nat.not_lt.2 h')
theorem Zfh {xs:Array Nat}{i j:Nat}(hx:Inc xs)(h:xs[i]?=some j):below xs j=i:=by
 obtain⟨hi,rfl⟩:=Jdi.1 h;obtain⟨h1,h2,h3⟩:=Zeg (j:=xs[i]) hx;rcases Nat.lt_trichotomy (below xs xs[i]) i with q|q|q
 .exact absurd (h3 _ (Nat.lt_trans q hi) (Jaf _)) (Nat.not_le.2 (hx.lt hi q))
 .exact q
 .exact absurd (h2 _ hi q) (Jch _)
theorem Zg5 {t:SetTable}{i j:Nat}(hx:Inc t.place)(h:t.place[i]?=some j):t.slot j=.live i:=by
 unfold slot;dsimp only;rw[Zfh hx h,h,if_pos (Jds _)]
theorem Zpy {t:SetTable}{j:Nat}(hd:t.dummies=#[])(h:j∉t.place.toList):t.slot j=.empty:=by
 unfold slot;dsimp only;have n1:¬ ((t.place[below t.place j]? == some j)=true):=λe=>h (by
  have:=eq_of_beq e;rw[<- Jca] at this;exact Jai this)
 have n2:¬ (has t.dummies j=true):=by rw[hd];unfold has;simp
 rw[if_neg n1,if_neg n2]
def Path (m:Nat)(occ:List Nat)(h:Int)(j:Nat):Prop:=∃ n,(pr m h n).j=j/\∀ k,k<n->(pr m h k).j∈occ
structure Tb (t:SetTable)(hs:List Int):Prop where
 m:Mk t.mask
 d:t.dummies=#[]
 sz:t.place.size=hs.length
 inc:Inc t.place
 le:∀ j∈t.place.toList,j<=t.mask
 few:hs.length*5<t.mask*3
 path:∀ e∈hs.zip t.place.toList,Path t.mask t.place.toList e.1 e.2
structure Fst (m:Nat)(occ:List Nat)(h:Int)(n:Nat):Prop where
 run:∃ r,r<=13+m/\n<=nr m h r
 no:(pr m h n).j∉occ
 yes:∀ k,k<n->(pr m h k).j∈occ
theorem least {P:Nat->Prop}:∀ {n:Nat},P n->∃ k,k<=n/\P k/\∀ i,i<k->¬ P i:=by
 intro n
 induction n using Nat.strongRecOn with
 | ind n ih=>
  intro h;by_cases c:∃ k,k<n/\P k
  .obtain ⟨k,hk,pk⟩:=c;obtain⟨q,hq,r⟩:=ih k hk pk;exact⟨q,Ja8 hq (Jb8 hk),r⟩
  .exact ⟨n,Jaf _,h,λi hi pi=>c ⟨i,hi,pi⟩⟩
theorem room {m:Nat}{occ:List Nat}(h:occ.length<=m):∃ j,j<=m/\j∉occ:=by
 refine Jah λc=>?_;have all:∀ j,j<=m->j∈occ:=λj hj=>Jah λn=>c ⟨j,hj,n⟩;have:=(Je8 (n:=m+1)).length_le_of_subset (l₂:=occ) λj hj=>all j (by simpa [Jfq] using hj);simp at this;omega
theorem Zvv {m:Nat}{occ:List Nat}(hm:Mk m)(hl:occ.length<=m)(h:Int):∃ n,Fst m occ h n:=by
 obtain⟨j,hj,hn⟩:=room hl;obtain⟨r,lr,e⟩:=cover hm h hj;obtain⟨k,kn,pk,lk⟩:=least (P:=λn=>(pr m h n).j∉occ) (n:=nr m h r) (by rw[e];exact hn);exact⟨k,⟨r,lr,kn⟩,pk,λi hi=>Jah (lk i hi)⟩
theorem Fst.lt {m:Nat}{occ:List Nat}{h:Int}{n:Nat}(F:Fst m occ h n):n<10*turns m:=by
 obtain⟨r,lr,hn⟩:=F.run;have:=nr_le (m:=m) (h:=h) r;unfold turns;omega
theorem Zje {m:Nat}{h:Int}:∀ n,(pr m h n).dummy=none
 | 0=>rfl
 | n+1=>by
  show (advance (tm m) (pr m h n)).dummy=none;unfold advance;split
  .exact Zje n
  .exact Zje n
theorem adv_eq {t:SetTable}{h:Int}{n:Nat}:t.advance (pr t.mask h n)=pr t.mask h (n+1):=rfl
theorem Zm4 {t:SetTable}{h:Int}{N:Nat}{f:Nat->Int}(hd:t.dummies=#[])(hi:Inc t.place)(F:Fst t.mask t.place.toList h N):∀ (fuel n:Nat),n<=N->N-n<fuel->
  (probe.go t f h fuel (pr t.mask h n)=some (.empty (pr t.mask h N).j none)/\∀ k,n<=k->k<N->∀ i,t.place[i]?=some (pr t.mask h k).j->f i≠h) \/
  (∃ k i,n<=k/\k<N/\t.place[i]?=some (pr t.mask h k).j/\f i=h/\probe.go t f h fuel (pr t.mask h n)=some (.candidate (pr t.mask h k).j i (pr t.mask h (k+1)))/\∀ k',n<=k'->k'<k->∀ i,t.place[i]?=some (pr t.mask h k').j->f i≠h)
 | 0,n,_,hf=>absurd hf (Jez _)
 | fuel+1,n,hn,hf=>by
  unfold probe.go;rcases Jes hn with rfl|ln
  .rw [Zpy hd F.no,Zje];exact .inl ⟨rfl,λk h1 h2=>∅⟩
  .obtain ⟨i,li,e⟩:=Jbl (F.yes n ln);have ei:t.place[i]?=some (pr t.mask h n).j:=by rw[<- Jca,Jac li,e]
   have un:∀ i',t.place[i']?=some (pr t.mask h n).j->i'=i:=λi' e'=>(Zfh hi e').symm.trans (Zfh hi ei);rw[Zg5 hi ei];dsimp only;by_cases c:f i=h
   .rw [if_pos (by rw[c];exact Jds _)];exact .inr ⟨n,i,Jaf _,ln,ei,c,rfl,λk' h1 h2=>∅⟩
   .rw [if_neg (λq=>c (eq_of_beq q)),adv_eq];rcases Zm4 hd hi F fuel (n+1) ln ∅ with ⟨q1,q2⟩|⟨k,i2,q1,q2,q3,q4,q5,q6⟩
    .refine .inl ⟨q1,λk h1 h2 i' e'=>?_⟩;rcases Jes h1 with rfl|h1
     .rw [un i' e'];exact c
     .exact q2 k h1 h2 i' e'
    .refine .inr ⟨k,i2,∅,q2,q3,q4,q5,λk' h1 h2 i' e'=>?_⟩;rcases Jes h1 with rfl|h1
     .rw [un i' e'];exact c
     .exact q6 k' h1 h2 i' e'
theorem Znq {α:Type}{xs:Array α}{p:Nat}{x:α}:(insertAt xs p x).toList=xs.toList.take p++x::xs.toList.drop p:=by
 unfold insertAt;rw[Jbi,Jcn,Jbq,Jbq,Jbb,Jbb,Ja5,Jcc (l:=List.drop p xs.toList) (by simp)];simp
theorem zip_ins {α β:Type}{a:List α}{b:List β}{x:α}{y:β}(p:Nat)(hl:a.length=b.length):(a.take p++x::a.drop p).zip (b.take p++y::b.drop p)=(a.zip b).take p++(x,y)::(a.zip b).drop p:=by
 rw[List.zip_append (by simp[hl]),List.zip_cons_cons,Jgt,Jgt,Jgt,List.take_zipWith,List.drop_zipWith]
theorem Zl1 {α:Type}{l:List α}{x y:α}{p:Nat}:y∈l.take p++x::l.drop p ↔ y=x\/y∈l:=by
 constructor
 .intro h;rcases Jbf.1 h with h|h
  .exact .inr (Jdg h)
  .rcases Jao.1 h with h|h
   .exact .inl h
   .exact .inr (Jea h)
 .rintro (rfl|h)
  .exact Jap _ (.head _)
  .rw [<- Jbx p l] at h;rcases Jbf.1 h with h|h
   .exact Jb9 _ h
   .exact Jap _ (.tail _ h)
theorem Path.mono {m:Nat}{o o':List Nat}{h:Int}{j:Nat}(s:∀ x∈o,x∈o')(P:Path m o h j):Path m o' h j:=by
 obtain⟨n,e,y⟩:=P;exact⟨n,e,λk hk=>s _ (y k hk)⟩
theorem Tb.len {t:SetTable}{hs:List Int}(T:Tb t hs):t.place.toList.length<=t.mask:=by
 have:=T.few;have:=T.sz;rw[Ja0];omega
theorem pr_le {m:Nat}{h:Int}:∀ n,(pr m h n).j<=m/\(pr m h n).j+(pr m h n).more<=m
 | 0=>by
  have:=lp_le (m:=m) (h:=h) 0;have:=Zi6 this;have:=Zht m (lp m h 0).1;exact⟨‹_›,by show (lp m h 0).1+(runEnd m (lp m h 0).1-(lp m h 0).1)<=m;omega⟩
 | n+1=>by
  show (advance (tm m) (pr m h n)).j<=m/\(advance (tm m) (pr m h n)).j+(advance (tm m) (pr m h n)).more<=m;have ih:=pr_le (m:=m) (h:=h) n;unfold advance;split
  .dsimp only;omega
  .have q:(leap (tm m).mask (pr m h n).i (pr m h n).perturb).1<=m:=Jfq.1 (Nat.mod_lt _ (Nat.succ_pos _));dsimp only;have:=Zi6 q;have:=Zht m (leap (tm m).mask (pr m h n).i (pr m h n).perturb).1;refine⟨q,?_⟩;show _+(runEnd m _-_)<=m;omega
theorem Zdf {t:SetTable}{j:Nat}:(t.put j).1.place.toList=t.place.toList.take (t.put j).2++j::t.place.toList.drop (t.put j).2:=Znq
theorem Inc.put {t:SetTable}{j:Nat}(hi:Inc t.place)(hn:j∉t.place.toList):Inc (t.put j).1.place:=by
 show List.Pairwise _ _;rw[Zdf];obtain⟨h1,h2,h3⟩:=Zeg (j:=j) hi;have e:(t.put j).2=below t.place j:=rfl;rw[e];have pw:t.place.toList.Pairwise (· < ·):=hi;rw[<- Jbx (below t.place j) t.place.toList,Jb2] at pw;obtain⟨a,b,c⟩:=pw;have ta:∀ x∈t.place.toList.take (below t.place j),x<j:=by
  intro x hx;obtain⟨i,hl,rfl⟩:=Jbl hx;rw[Ja4,Ja0] at hl;rw[Jhi,Jc3];exact h2 i ∅ ∅
 have tb:∀ x∈t.place.toList.drop (below t.place j),j<x:=by
  intro x hx;obtain⟨i,hl,rfl⟩:=Jbl hx;rw[Jc7,Ja0] at hl;have q:=h3 (below t.place j+i) ∅ ∅;rw[List.getElem_drop,Jc3];refine Jg6 q λe=>hn ?_;rw[e,<- Jc3];exact Jcb _
 refine Jb2.2 ⟨a,Jbm.2 ⟨tb,b⟩,λx hx y hy=>?_⟩;rcases Jao.1 hy with rfl|hy
 .exact ta x hx
 .exact c x hx y hy
theorem Zhk {t:SetTable}{j:Nat}(hd:t.dummies=#[]):(t.put j).1.dummies=#[]:=by
 unfold SetTable.put;dsimp only;rw[hd,if_neg (by unfold has;simp)]
theorem Tb.put {t:SetTable}{hs:List Int}{h:Int}{N:Nat}(T:Tb t hs)(F:Fst t.mask t.place.toList h N)(fw:(hs.length+1)*5<t.mask*3):Tb (t.put (pr t.mask h N).j).1 (hs.take (t.put (pr t.mask h N).j).2++h::hs.drop (t.put (pr t.mask h N).j).2):=by
 have ll:(hs.take (t.put (pr t.mask h N).j).2++h::hs.drop (t.put (pr t.mask h N).j).2).length=hs.length+1:=by simp;exact oz6
 have sub:∀ x∈t.place.toList,x∈(t.put (pr t.mask h N).j).1.place.toList:=λx hx=>by rw[Zdf];exact Zl1.2 (.inr hx)
 refine⟨T.m,Zhk T.d,?_,T.inc.put F.no,?_,by rw[ll];exact fw,?_⟩
 .rw [ll,<- Ja0,Zdf,<- T.sz,<- Ja0];simp;exact oz6
 .intro j hj;rw[Zdf] at hj;rcases Zl1.1 hj with rfl|hj
  .exact (pr_le N).1
  .exact T.le j hj
 .intro e he;rw[Zdf,zip_ins _ (by rw[Ja0];exact T.sz.symm)] at he;rcases Zl1.1 he with rfl|he
  .exact ⟨N,rfl,λk hk=>sub _ (F.yes k hk)⟩
  .exact (T.path e he).mono sub
end St
namespace St
open PySem PySem.SetTable
structure OW (m:Nat)(hs:List Int)(ow:Array (Option Nat))(js:List Nat):Prop where
 sz:ow.size=m+1
 len:js.length=hs.length
 at_:∀ j q:Nat,ow[j]?=some (some q) ↔ js[q]?=some j
 le:∀ j∈js,j<=m
 path:∀ e∈hs.zip js,Path m js e.1 e.2
theorem OW.free {m:Nat}{hs:List Int}{ow:Array (Option Nat)}{js:List Nat}(O:OW m hs ow js){j:Nat}(hj:j<=m):(ow.getD j (some 0)).isNone=true ↔ j∉js:=by
 have hl:j<ow.size:=by rw[O.sz];omega
 have e:ow.getD j (some 0)=ow[j]:=by simp[Array.getD,hl]
 rw[e];cases c:ow[j] with
 | none=>
  refine⟨λ_ hm=>?_,λ_=>rfl⟩;obtain⟨q,lq,eq⟩:=Jbl hm;have:=(O.at_ j q).2 (by rw[Jac lq,eq]);rw[Jag hl,c] at this;cases this
 | some q=>
  refine⟨λh=>absurd h (by simp),λh=>absurd ?_ h⟩;exact Jai ((O.at_ j q).1 (by rw[Jag hl,c]))
theorem Zo1 {p:Nat->Bool}{n k:Nat}(hk:k<n)(h:p k=true)(hn:∀ i,i<k->¬ p i=true):(List.range n).find? p=some k:=by
 rw[List.find?_range_eq_some];exact⟨h,Jb3.2 hk,λi hi=>by simpa using hn i hi⟩
theorem Zns {m:Nat}{hs:List Int}{ow:Array (Option Nat)}{js:List Nat}{h:Int}{N:Nat}(O:OW m hs ow js)(F:Fst m js h N):∀ (fuel r:Nat),r+fuel=turns m->nr m h r<=N->layClean.free m ow fuel (lp m h r).1 (lp m h r).2=some (pr m h N).j
 | 0,r,hr,hn=>by
  obtain⟨R,lR,hN⟩:=F.run;have:=Zq8 (m:=m) (h:=h) (r:=R+1) (r-(R+1));unfold turns at hr;rw[show R+1+(r-(R+1))=r by omega] at this;have:nr m h R<nr m h (R+1):=by show _<nr m h R+_+1;omega
  omega
 | fuel+1,r,hr,hn=>by
  unfold layClean.free;have le:=lp_le (m:=m) (h:=h) r;have re:=Zi6 le;have rl:=Zht m (lp m h r).1;have inr:∀ k,k<=runEnd m (lp m h r).1-(lp m h r).1->(pr m h (nr m h r+k)).j=(lp m h r).1+k:=λk hk=>by rw[pr_in (Zqh r) k hk]
  by_cases c:N<=nr m h r+(runEnd m (lp m h r).1-(lp m h r).1)
  .have e:=inr (N-nr m h r) ∅;rw[show nr m h r+(N-nr m h r)=N by exact oz9 hn] at e;rw[Zo1 (k:=N-nr m h r) (oz53 rl c) ((O.free ∅).2 (by rw[<- e];exact F.no)) λi hi hp=>(O.free ∅).1 hp (by rw[<- inr i ∅];exact F.yes _ ∅)];dsimp only;rw[e]
  .have no:(List.range (runEnd m (lp m h r).1+1-(lp m h r).1)).find? (λk=>(ow.getD ((lp m h r).1+k) (some 0)).isNone)=none:=by
    rw[List.find?_eq_none];intro k hk hp;rw[Jb3] at hk;exact (O.free ∅).1 hp (by rw[<- inr k ∅];exact F.yes _ ∅)
   rw[no];dsimp only;exact Zns O F fuel (r+1) ∅ (by show nr m h r+_+1<=N;omega)
theorem OW.add {m:Nat}{hs:List Int}{ow:Array (Option Nat)}{js:List Nat}{h:Int}{N:Nat}(O:OW m hs ow js)(F:Fst m js h N):OW m (hs++[h]) (ow.setIfInBounds (pr m h N).j (some hs.length)) (js++[(pr m h N).j]):=by
 have lj:=(pr_le (m:=m) (h:=h) N).1;have hl:(pr m h N).j<ow.size:=by rw[O.sz];omega
 refine⟨by rw[Array.size_setIfInBounds,O.sz],by rw[Jaq,Jaq,O.len];rfl,λj q=>?_,?_,?_⟩
 .by_cases e:(pr m h N).j=j
  .subst e;rw[Array.getElem?_setIfInBounds_self_of_lt hl];constructor
   .intro e;cases e;rw[<- O.len,Jbc (Jaf _),Nat.sub_self];rfl
   .intro e;rcases Jfh q js.length with c|c
    .rw [Jba c] at e;exact absurd (Jai e) F.no
    .rw [Jbc c] at e;have:q-js.length=0:=by
      obtain⟨h1,_⟩:=Jak.1 e;simpa using h1
     rw[show q=hs.length by rw[<- O.len];omega]
  .rw [Jf0 e,O.at_];constructor
   .intro e';obtain⟨h1,_⟩:=Jak.1 e';rw[Jba h1];exact e'
   .intro e';rcases Jfh q js.length with c|c
    .rw [Jba c] at e';exact e'
    .rw [Jbc c] at e';have:q-js.length=0:=by
      obtain⟨h1,_⟩:=Jak.1 e';simpa using h1
     rw[this] at e';exact absurd (Jbn e') e
 .intro j hj;rcases Jbf.1 hj with hj|hj
  .exact O.le j hj
  .rw [Jas.1 hj];exact lj
 .intro e he;rw[List.zip_append O.len.symm] at he;have sub:∀ x∈js,x∈js++[(pr m h N).j]:=λx hx=>Jb9 _ hx;rcases Jbf.1 he with he|he
  .exact (O.path e he).mono sub
  .rw [show e=(h,(pr m h N).j) from Jas.1 he];exact⟨N,rfl,λk hk=>sub _ (F.yes k hk)⟩
noncomputable def layG (m:Nat)(acc:Option (Array (Option Nat)×Nat))(h:Int):Option (Array (Option Nat)×Nat):=
 acc.bind λa=>(layClean.free m a.1 (turns m) (bits h % (m+1)) (bits h)).bind λj=>some (a.1.setIfInBounds j (some a.2),a.2+1)
theorem Zl3 (m:Nat)(hs:Array Int):layClean m hs=(hs.toList.foldl (layG m) (some (Array.replicate (m+1) none,0))).map (·.1):=by
 unfold layClean;rw[<- Array.foldl_toList];rfl
theorem Znl {m:Nat}(hm:Mk m):∀ (rest:List Int) {hs:List Int} {ow:Array (Option Nat)} {js:List Nat},OW m hs ow js->hs.length+rest.length<=m->∃ ow' js',rest.foldl (layG m) (some (ow,hs.length))=some (ow',hs.length+rest.length)/\OW m (hs++rest) ow' js'
 | [],hs,ow,js,O,_=>⟨ow,js,rfl,by rw[Jcy];exact O⟩
 | h::rest,hs,ow,js,O,hl=>by
  rw[Jau] at hl;obtain⟨N,F⟩:=Zvv hm (occ:=js) (by rw[O.len];omega) h;have e:layG m (some (ow,hs.length)) h=some (ow.setIfInBounds (pr m h N).j (some hs.length),hs.length+1):=by
   show (layClean.free m ow (turns m) (lp m h 0).1 (lp m h 0).2).bind _=_;rw[Zns O F (turns m) 0 (Jg3 _) (Jbp _)];rfl
  have O':=O.add F;obtain⟨ow',js',q1,q2⟩:=Znl hm rest O' (by rw[Jaq,Jew];omega);refine⟨ow',js',?_,by rw[Ja5] at q2;exact q2⟩;rw[List.foldl_cons,e];rw[Jaq,Jew] at q1;rw[q1,Jau];congr 2;omega
theorem lay_ok {m:Nat}(hm:Mk m){hs:Array Int}(hl:hs.size<=m):∃ ow js,layClean m hs=some ow/\OW m hs.toList ow js:=by
 obtain⟨ow,js,e,O⟩:=Znl hm hs.toList (hs:=[]) (ow:=Array.replicate (m+1) none) (js:=[]) ⟨by simp,rfl,λj q=>by simp[Array.getElem?_replicate],λ_ h=>(by cases h),λ_ h=>by cases h⟩ (by simpa using hl);refine⟨ow,js,?_,O⟩;rw[Zl3,show (0:Nat)=([]:List Int).length from rfl,e];rfl
noncomputable def lv (m:Nat)(ow:Array (Option Nat)):List (Nat×Nat):=(List.range (m+1)).filterMap λj=>(ow.getD j none).map (j,·)
theorem Zge {m:Nat}{hs:List Int}{ow:Array (Option Nat)}{js:List Nat}(O:OW m hs ow js){j q:Nat}:(j,q)∈lv m ow ↔ js[q]?=some j:=by
 unfold lv;rw[Jfi,<- O.at_];constructor
 .rintro ⟨j',hj,e⟩;rw[Jb3] at hj;have hl:j'<ow.size:=by rw[O.sz];exact hj
  rw[show ow.getD j' none=ow[j'] by simp[Array.getD,hl]] at e;cases c:ow[j'] with
  | none=>rw[c] at e;cases e
  | some q'=>
   rw[c] at e;cases e;rw[Jag hl,c]
 .intro e;obtain⟨hl,e'⟩:=Jdi.1 e;refine⟨j,by rw[Jb3,<- O.sz];exact hl,?_⟩;rw[show ow.getD j none=ow[j] by simp[Array.getD,hl],e'];rfl
theorem Zvn {m:Nat}{ow:Array (Option Nat)}:((lv m ow).map (·.1)).Pairwise (· < ·):=by
 unfold lv;rw[List.map_filterMap];refine List.Pairwise.filterMap _ (R:=(· < ·)) ?_ List.pairwise_lt_range;intro a a' h b hb b' hb';cases c:ow.getD a none with
 | none=>rw[c] at hb;cases hb
 | some q=>
  cases c':ow.getD a' none with
  | none=>rw[c'] at hb';cases hb'
  | some q'=>
   rw[c] at hb;rw[c'] at hb';cases hb;cases hb';exact h
theorem lv_snd {m:Nat}{hs:List Int}{ow:Array (Option Nat)}{js:List Nat}(O:OW m hs ow js):((lv m ow).map (·.2)).Perm (List.range hs.length):=by
 have nd:((lv m ow).map (·.2)).Nodup:=by
  have p:=Zvn (m:=m) (ow:=ow);rw[Je2] at p;refine Je2.2 (p.imp_of_mem ?_);rintro ⟨j,q⟩ ⟨j',q'⟩ h1 h2 lt e;dsimp only at lt e;subst e;have:=((Zge O).1 h1).symm.trans ((Zge O).1 h2);cases this;exact Jch _ lt
 refine (List.perm_ext_iff_of_nodup nd Je8).2 λq=>?_;rw[Jan,Jb3];constructor
 .rintro ⟨⟨j,q'⟩,h,rfl⟩;rw[<- O.len];exact (Jak.1 ((Zge O).1 h)).1
 .intro hq;rw[<- O.len] at hq;exact⟨(js[q],q),(Zge O).2 (Jac hq),rfl⟩
theorem Zd8 {α:Type}:∀ (l:List α),(List.range l.length).filterMap (l[·]?)=l
 | []=>rfl
 | x::l=>by
  rw[Jau,List.range_succ_eq_map,Jd1];dsimp only [List.getElem?_cons_zero];rw[List.filterMap_map];congr 1;exact (Zd8 l)
theorem laid_ok {α:Type}{m f mv:Nat}{ld pn:Bool}(hm:Mk m){es:Array (Int×α)}(hl:es.size<=m)(fw:es.size*5<m*3):
  ∃ t' order,SetTable.laid m f mv ld pn (es.map (·.1))=some (t',order)/\t'.led=ld/\t'.plain=pn/\(order.filterMap (es[·]?)).toList.Perm es.toList/\Tb t' ((order.filterMap (es[·]?)).toList.map (·.1)):=by
 obtain⟨ow,js,e,O⟩:=lay_ok hm (hs:=es.map (·.1)) (by simpa using hl);have hz:(es.map (·.1)).toList.length=es.toList.length:=by simp
 have ps:=lv_snd O;rw[hz] at ps;refine⟨{ mask:=m,place:=((lv m ow).map (·.1)).toArray,dummies:=#[],finger:=f,led:=ld,moves:=mv,plain:=pn },((lv m ow).map (·.2)).toArray,?_,rfl,rfl,?_⟩
 .unfold SetTable.laid;rw[e];rfl
 have el:(((lv m ow).map (·.2)).toArray.filterMap (es[·]?)).toList=((lv m ow).map (·.2)).filterMap (es.toList[·]?):=by
  simp
 have pe:(((lv m ow).map (·.2)).toArray.filterMap (es[·]?)).toList.Perm es.toList:=by
  rw[el];have:=ps.filterMap (es.toList[·]?);rw[Zd8] at this;exact this
 refine⟨pe,?_⟩;have ln:(((lv m ow).map (·.2)).toArray.filterMap (es[·]?)).toList.length=es.size:=by rw[pe.length_eq];simp
 have lj:(lv m ow).length=es.size:=by
  have:=ps.length_eq;simpa using this
 have occ:∀ j,j∈js->j∈(lv m ow).map (·.1):=λj hj=>by
  obtain⟨q,lq,e⟩:=Jbl hj;exact Jan.2 ⟨(j,q),(Zge O).2 (by rw[Jac lq,e]),rfl⟩
 refine⟨hm,rfl,by rw[Jaa,ln];simpa using lj,by show List.Pairwise _ _;simpa using Zvn,?_,by rw[Jaa,ln];exact fw,?_⟩
 .intro j hj;obtain⟨⟨j',q⟩,h,rfl⟩:=Jan.1 (show j∈(lv m ow).map (·.1) by simpa using hj);exact O.le _ (Jai ((Zge O).1 h))
 .intro x hx;have fm:∀ l:List (Nat×Nat),(∀ y∈l,∃ z,es.toList[y.2]?=some z)->∀ x∈(((l.map (·.2)).filterMap (es.toList[·]?)).map (·.1)).zip (l.map (·.1)),∃ y∈l,∃ z,es.toList[y.2]?=some z/\x=(z.1,y.1):=by
   intro l
   induction l with
   | nil=>intro _ x hx;cases hx
   | cons y l ih=>
    intro hy x hx;obtain⟨z,ez⟩:=hy y (.head _);rw[Jaw,Jaw,Jd1,ez] at hx;dsimp only at hx;rw[Jaw,List.zip_cons_cons] at hx;rcases Jao.1 hx with rfl|hx
    .exact ⟨y,.head _,z,ez,rfl⟩
    .obtain ⟨y',h1,h2⟩:=ih (λy' h=>hy y' (.tail _ h)) x hx;exact⟨y',.tail _ h1,h2⟩
  rw[el] at hx;obtain⟨⟨j,q⟩,hy,z,ez,rfl⟩:=fm (lv m ow) (λy hy=>by
   have:=(Jak.1 ((Zge O).1 hy)).1;rw[O.len,hz] at this;exact⟨_,Jac this⟩) x (by simpa using hx)
  have ej:=(Zge O).1 hy;refine Path.mono (by simpa using occ) (O.path (z.1,j) ?_);have:((es.map (·.1)).toList.zip js)[q]?=some (z.1,j):=by
   rw[List.getElem?_zip_eq_some];exact⟨by rw[Jd4,Jay,ez];rfl,ej⟩
  exact Jai this
end St
namespace St
open PySem PySem.SetTable
section
variable (prog:Program)(w:World)
noncomputable def rh (k:List Int):Int:=tupleKeyHash (intKind prog w) k
noncomputable def ent (x:List Int×Addr):Int×Value:=(rh prog w x.1,.ref x.2)
noncomputable def es (xs:List (List Int×Addr)):Array (Int×Value):=(xs.map (ent prog w)).toArray
structure SetAt (h:Heap)(a:Addr)(xs:List (List Int×Addr))(t:SetTable):Prop where
 ex:∃ o ep,h.get? a=some o/\o.ExactSet/\o.data=.set (es prog w xs) ep t
 tb:Tb t (xs.map λx=>rh prog w x.1)
 pl:t.plain=true
def Zdi (h:Heap)(xs:List (List Int×Addr)):Prop:=∀ x∈xs,IsTupleKey (intKind prog w) h x.1 x.2
end
section
variable {prog:Program}{w:World}{A:Around}{E:Value->Shared->Prop}{s:Shared}
theorem es_size {xs:List (List Int×Addr)}:(es prog w xs).size=xs.length:=by simp[es]
theorem Tb.fits {t:SetTable}{hs:List Int}(T:Tb t hs):t.fits hs.length=true:=by
 unfold SetTable.fits SetTable.fill;rw[T.d,T.sz];have:=T.few;simp;omega
theorem Mk.odd {m:Nat}(h:Mk m):(m % 2 == 0)=false:=by rcases h with rfl|rfl|rfl|rfl <;> rfl
theorem SetAt.fits {h:Heap}{a:Addr}{xs:List (List Int×Addr)}{t:SetTable}(S:SetAt prog w h a xs t):t.fits (es prog w xs).size=true:=by
 rw[es_size];have:=S.tb.fits;rwa [Jaa] at this
theorem SetAt.typeIs {a:Addr}{xs:List (List Int×Addr)}{t:SetTable}(S:SetAt prog w s.heap a xs t):s.TypeIs (.ref a) "set" :=
 let ⟨o,_,ho,hc,_⟩:=S.ex;⟨o,ho,hc.1⟩
theorem Zir {k:List Int}{a:Addr}{Q:Bool->Shared->Prop}(hk:IsTupleKey (intKind prog w) s.heap k a)(h:Q false s):wpAny (model prog w) A (ofAClassStatement 8 (.ref a)) Q E s:=by
 have hT:=hk.typeIs;obtain⟨o,items,n,ho,_,hd,hi⟩:=hk;unfold ofAClassStatement;refine Jab (wpAny_typeOf hT ?_);dsimp only;rw[if_pos ⇑0];refine Jab (Jae ?_);rw[if_neg ⇑0];refine Jab (wpAny_seqItems ho hd ?_);dsimp only;refine Jab ?_;show wpAny _ _ (forIn items _ _) _ _ s;rw[<- Array.forIn_toList];refine wpAny_forIn_list _ (λrest r s'=>r.1=none/\s'=s/\∀ v∈rest,carriedByValue v=true) _ ?_ ?_ _ _ ⟨rfl,rfl,hi.byValue⟩
 .rintro v rest r s' ⟨hr,rfl,hall⟩;have e:ofAClassStatement 7 v=pure false:=by
   have:=hall v (.head _);cases v <;> first|rfl|(simp[carriedByValue] at this)|(unfold ofAClassStatement;rfl)
  rw[e];refine Jab (Jae ?_);rw[if_neg ⇑0];exact Jae ⟨rfl,rfl,λu hu'=>hall u (.tail _ hu')⟩
 .rintro ⟨r1,r2⟩ s' ⟨hr,rfl,_⟩;dsimp only at hr;subst hr;exact Jae h
theorem seen_no {k:List Int}{x:Addr}{xs:List (List Int×Addr)}{Q:Bool->Shared->Prop}(hk:IsTupleKey (intKind prog w) s.heap k x)(R:Zdi prog w s.heap xs)(h:Q false s):
  wpAny (model prog w) A (searchCouldBeSeen (.ref x) (xs.map (Value.ref ·.2))) Q E s:=by
 unfold searchCouldBeSeen;refine Jab ?_;refine wpAny_forIn_list _ (λrest r s'=>r.1=none/\s'=s/\∀ v∈rest,∃ k a,v=Value.ref a/\IsTupleKey (intKind prog w) s.heap k a) _ ?_ ?_ _ _ ⟨rfl,rfl,λv hv=>?_⟩
 .rintro v rest r s' ⟨hr,rfl,hall⟩;obtain⟨k',a',rfl,hk'⟩:=hall v (.head _);have nx:∀ u∈rest,∃ k a,u=Value.ref a/\IsTupleKey (intKind prog w) s'.heap k a:=λu hu=>hall u (.tail _ hu);dsimp only;by_cases c:(x == a' || carriedByValue (Value.ref x) && carriedByValue (Value.ref a'))=true
  .rw [if_pos c];exact Jae ⟨rfl,rfl,nx⟩
  .rw [if_neg c];refine Jab (wpAny_eqIsQuiet_tuple hk ?_);rw[if_neg ⇑0];refine Jab (wpAny_eqIsQuiet_tuple hk' ?_);rw[if_neg ⇑0];refine Jab (Zir hk ?_);rw[if_neg ⇑0];refine Jab (Zir hk' ?_);rw[if_neg ⇑0];exact Jae ⟨rfl,rfl,nx⟩
 .rintro ⟨r1,r2⟩ s' ⟨hr,rfl,_⟩;dsimp only at hr;subst hr;exact Jae h
 .obtain ⟨y,hy,rfl⟩:=Jan.1 hv;exact⟨_,_,rfl,R y hy⟩
theorem Zv1 {xs:List (List Int×Addr)}{i:Nat}(h:i<xs.length):(es prog w xs)[i]?=some (ent prog w xs[i]):=by
 unfold es;rw[List.getElem?_toArray,Jay,Jac h];rfl
theorem Zlk {a x:Addr}{k:List Int}{xs:List (List Int×Addr)}{t:SetTable}{ad:Bool}{Q:SetFound->Shared->Prop}(hu:A.units<cLine)(S:SetAt prog w s.heap a xs t)(R:Zdi prog w s.heap xs)(hk:IsTupleKey (intKind prog w) s.heap k x){N:Nat}(F:Fst t.mask t.place.toList (rh prog w k) N)(h:∀ r i,(r=.there i/\(ad=false->i≠none)/\∃ y∈xs,y.1=k)\/(r=.free (pr t.mask (rh prog w k) N).j false/\∀ y∈xs,y.1≠k)->Q r s):
  ∀ (fuel n:Nat) (st:Option Probe),n<=N->N-n<fuel->st.getD (t.probeStart (rh prog w k))=pr t.mask (rh prog w k) n->
   (∀ n',n'<n->∀ i,t.place[i]?=some (pr t.mask (rh prog w k) n').j->∀ hi:i<xs.length,xs[i].1≠k)->
   wpAny (model prog w) A (setSearchFrom a (.ref x) (rh prog w k) ad fuel st) Q E s:=by
 obtain⟨o,ep,ho,hex,hd⟩:=S.ex;intro fuel
 induction fuel with
 | zero=>intro n st _ hf;exact absurd hf (Jez _)
 | succ fuel ih=>
  intro n st hn hf hst past;have szp:t.place.size=xs.length:=by have:=S.tb.sz;rwa [Jaa] at this
  unfold setSearchFrom;refine Jab (Jdc ho hd S.fits ?_);dsimp only;rw[if_neg (by unfold SetTable.gaveWay;rw[S.tb.m.odd];decide),hst];generalize hp:t.probe _ _ _=pv;have hp':probe.go t (λi=>((es prog w xs)[i]?.map (·.1)).getD 0) (rh prog w k) (10*turns t.mask) (pr t.mask (rh prog w k) n)=pv:=hp;have hash:∀ i (hi:i<xs.length),((es prog w xs)[i]?.map (·.1)).getD 0=rh prog w xs[i].1:=λi hi=>by rw[Zv1 hi];rfl
  rcases Zm4 (f:=λi=>((es prog w xs)[i]?.map (·.1)).getD 0) S.tb.d S.tb.inc F (10*turns t.mask) n hn (Jfk (Nat.sub_le _ _) F.lt) with ⟨q1,q2⟩|⟨m,i,q1,q2,q3,q4,q5,q6⟩
  .rw [q1] at hp';subst hp';dsimp only;refine Jae (h _ none (.inr ⟨rfl,λy hy e=>?_⟩));obtain⟨i,hi,rfl⟩:=Jbl hy;have hl:i<t.place.toList.length:=by rw[Ja0,szp];exact hi
   obtain⟨n',e1,e2⟩:=S.tb.path (rh prog w xs[i].1,t.place.toList[i]) (Jai (i:=i) (by rw[List.getElem?_zip_eq_some];exact⟨by rw[Jay,Jac hi];rfl,Jac hl⟩));dsimp only at e1 e2;rw[e] at e1 e2;have lt:n'<N:=by
    refine Nat.lt_of_not_le λc=>?_;rcases Jes c with rfl|c
    .exact F.no (by rw[e1];exact Jcb _)
    .exact F.no (e2 N c)
   have ep:t.place[i]?=some (pr t.mask (rh prog w k) n').j:=by rw[<- Jca,Jac hl,e1]
   rcases Jfh n' n with c|c
   .exact past n' c i ep hi e
   .exact q2 n' c lt i ep (by rw[hash i hi,e])
  .rw [q5] at hp';subst hp';dsimp only;have hi:i<xs.length:=by rw[<- szp];exact (Jdi.1 q3).1
   have ee:=Zv1 (prog:=prog) (w:=w) hi;have key:=R _ (Jcb hi);have fe:(((es prog w xs).filter (·.1 == rh prog w k)).toList.map (·.2))=(xs.filter (λy=>rh prog w y.1 == rh prog w k)).map (Value.ref ·.2):=by
    unfold es;rw[List.filter_toArray,List.filter_map,Jck];rfl
   by_cases hl:(!t.led)=true;rw[if_pos hl,fe];refine Jab (seen_no hk (λy hy=>R y (Jal.1 hy).1) ?_);rw[if_neg ⇑0,ee]
   rotate_left
   rw[if_neg hl,ee]
   all_goals
    dsimp only [ent];refine Jab (Jby (wpAny_eqBool_tuple hu key hk ?_));refine Jab (Jdc ho hd S.fits ?_);dsimp only;by_cases c:xs[i].1=k
    .rw [Jam c];by_cases ca:ad=true
     .subst ca;rw[if_pos ⇑0];exact Jae (h _ none (.inl ⟨rfl,(λz=>by cases z),_,Jcb hi,c⟩))
     .rw [if_neg (by simp[ca])];unfold SetTable.sameMemory;rw[if_pos (Jds _)];dsimp only;rw[if_pos rfl,Zg5 S.tb.inc q3];dsimp only;rw[ee];refine Jab (wpAny_isSame_ref_self (Jab (Jae ?_)));rw[if_pos rfl];dsimp only;rw[if_pos rfl];exact Jae (h _ (some i) (.inl ⟨rfl,(λ_ z=>by cases z),_,Jcb hi,c⟩))
    .rw [Jcg c,if_neg (by simp)];unfold SetTable.sameMemory;rw[if_pos (Jds _)];dsimp only;rw[if_pos rfl,Zg5 S.tb.inc q3];dsimp only;rw[ee];refine Jab (wpAny_isSame_ref_self (Jab (Jae ?_)));rw[if_pos rfl];dsimp only;rw[if_neg ⇑0];refine ih (m+1) _ q2 (oz56 hf q1 q2) rfl λn' ln i' e' hi'=>?_;rcases Jfh n' n with d|d
     .exact past n' d i' e' hi'
     .rcases Jes (Jfq.1 ln) with rfl|ln
      .have:i'=i:=(Zfh S.tb.inc e').symm.trans (Zfh S.tb.inc q3);subst this;exact c
      .intro z;exact q6 n' d ln i' e' (by rw[hash i' hi',z])
theorem Zs6 {t:SetTable}{h:Int}:t.probeStart h=pr t.mask h 0:=rfl
theorem Zj5 {a x:Addr}{k:List Int}{xs:List (List Int×Addr)}{t:SetTable}{ad:Bool}{Q:SetFound->Shared->Prop}(hu:A.units<cLine)(S:SetAt prog w s.heap a xs t)(R:Zdi prog w s.heap xs)(hk:IsTupleKey (intKind prog w) s.heap k x)(hy:∀ i,(ad=false->i≠none)->(∃ y∈xs,y.1=k)->Q (.there i) s)(hn:∀ N,Fst t.mask t.place.toList (rh prog w k) N->(∀ y∈xs,y.1≠k)->Q (.free (pr t.mask (rh prog w k) N).j false) s):
  wpAny (model prog w) A (setSearch a (.ref x) (rh prog w k) ad) Q E s:=by
 obtain⟨N,F⟩:=Zvv S.tb.m S.tb.len (rh prog w k);refine Zlk hu S R hk F (λr i q=>?_) 100000 0 none (Jbp _) ?_ Zs6 λn' h'=>absurd h' (Jez _)
 .rcases q with ⟨rfl,q1,q2⟩|⟨rfl,q⟩
  .exact hy i q1 q2
  .exact hn N F q
 .have:=F.lt;have m:=S.tb.m;unfold turns at this;rcases m with e|e|e|e <;> rw[e] at this <;> omega
theorem Zra {x:Addr}{es:Array (Int×Value)}:byScan (.ref x) es=false:=rfl
theorem find_ok {a x:Addr}{k:List Int}{xs:List (List Int×Addr)}{t:SetTable}{Q:Option Nat->Shared->Prop}(hu:A.units<cLine)(S:SetAt prog w s.heap a xs t)(R:Zdi prog w s.heap xs)(hk:IsTupleKey (intKind prog w) s.heap k x)(h:∀ r:Option Nat,(r.isSome=true ↔ ∃ y∈xs,y.1=k)->Q r s):wpAny (model prog w) A (setFind a (.ref x) (rh prog w k)) Q E s:=by
 obtain⟨o,ep,ho,hex,hd⟩:=S.ex;unfold setFind;unfold setFindIn;refine Jab (Jdc ho hd S.fits ?_);dsimp only;rw[if_neg (by rw[Zra];decide)];refine Jab (Zj5 hu S R hk (λi hi hy=>?_) λN F hn=>?_)
 .refine Jae (h _ ⟨λ_=>hy,λ_=>?_⟩);cases i with
  | none=>exact absurd rfl (hi rfl)
  | some _=>rfl
 .refine Jae (h _ ⟨λz=>(by cases z),λ⟨y,hy,e⟩=>absurd e (hn y hy)⟩)
theorem Zmk {k:List Int}{x:Addr}{Q:Bool->Shared->Prop}(hk:IsTupleKey (intKind prog w) s.heap k x)(h:Q true s):wpAny (model prog w) A (hashByValue 8 (.ref x)) Q E s:=by
 have hT:=hk.typeIs;obtain⟨o,items,n,ho,_,hd,hi⟩:=hk;have nts:∀ v∈items.toList,∃ z t,v=Value.int z t:=by
  have:∀ {k:List Int} {vs:List Value},ItemsAre (intKind prog w) k vs->∀ v∈vs,∃ z t,v=Value.int z t:=by
   intro k vs hi
   induction hi with
   | nil=>intro v hv;cases hv
   | cons h1 _ ih=>
    intro v hv;rcases Jao.1 hv with rfl|hv
    .obtain ⟨t,e⟩:=Jdx h1;exact⟨_,t,e⟩
    .exact ih v hv
  exact this hi
 unfold hashByValue;refine Jab (Jfo hT F.slot_tuple_hash.lookup ?_);show wpAny _ _ (seqItems? (.ref x) >>= _) _ _ _;refine Jab (wpAny_seqItems ho hd ?_);refine Jab ?_;show wpAny _ _ (forIn items _ _) _ _ s;rw[<- Array.forIn_toList];refine wpAny_forIn_list _ (λrest r s'=>r.1=none/\s'=s/\∀ v∈rest,∃ z t,v=Value.int z t) _ ?_ ?_ _ _ ⟨rfl,rfl,nts⟩
 .rintro v rest r s' ⟨hr,rfl,hall⟩;obtain⟨z,t,rfl⟩:=hall v (.head _);have e:hashByValue 7 (.int z t)=pure true:=by unfold hashByValue;rfl
  rw[e];refine Jab (Jae ?_);rw[if_neg ⇑0];exact Jae ⟨rfl,rfl,λu hu'=>hall u (.tail _ hu')⟩
 .rintro ⟨r1,r2⟩ s' ⟨hr,rfl,_⟩;dsimp only at hr;subst hr;exact Jae h
theorem Zr2 {m n:Nat}(hm:Mk m)(f:n*5<m*3)(g:m*3<=(n+1)*5)(hn:n+1<=256):Mk (sizeAbove (grown (n+1))-1)/\(n+1)*5<(sizeAbove (grown (n+1))-1)*3/\n+1<=sizeAbove (grown (n+1))-1/\sizeAbove (grown (n+1))<=sizeLine:=by
 rcases hm with rfl|rfl|rfl|rfl
 .have:n=4:=∅
  subst this;exact⟨.inr (.inl ⋯),⋯,⋯,⋯⟩
 .have:n=18:=∅
  subst this;exact⟨.inr (.inr (.inl ⋯)),⋯,⋯,⋯⟩
 .have:n=76:=∅
  subst this;exact⟨.inr (.inr (.inr ⋯)),⋯,⋯,⋯⟩
 .omega
theorem ins_es {xs:List (List Int×Addr)}{p:Nat}{y:List Int×Addr}:insertAt (es prog w xs) p (ent prog w y)=es prog w (xs.take p++y::xs.drop p):=by
 apply Array.toList_inj.1;rw[Znq];simp[es]
theorem Zc6 {α β:Type}{f:α->β}{l m:List β}(p:l.Perm m):∀ {xs:List α},m=xs.map f->∃ ys:List α,ys.Perm xs/\l=ys.map f:=by
 induction p with
 | nil=>intro xs e;exact⟨[],by rw[List.map_eq_nil_iff.1 e.symm],rfl⟩
 | cons x p ih=>
  intro xs e;obtain⟨a,l,rfl,rfl,e'⟩:=Jgj.1 e.symm;obtain⟨ys,q,rfl⟩:=ih e'.symm;exact⟨a::ys,q.cons _,rfl⟩
 | swap x y l=>
  intro xs e;obtain⟨a,l1,rfl,rfl,e'⟩:=Jgj.1 e.symm;obtain⟨b,l2,rfl,rfl,e''⟩:=Jgj.1 e';exact⟨b::a::l2,.swap _ _ _,by rw[<- e''];rfl⟩
 | trans p q ih1 ih2=>
  intro xs e;obtain⟨ys,r,e'⟩:=ih2 e;obtain⟨zs,r',e''⟩:=ih1 e';exact⟨zs,r'.trans r,e''⟩
theorem Ztd {a:Addr}{o:Obj}{ep n:Nat}{xs:List (List Int×Addr)}{t:SetTable}{Q:Unit->Shared->Prop}(ho:s.heap.get? a=some o)(hex:o.ExactSet)(hd:o.data=.set (es prog w xs) ep t)(hf:t.fits (es prog w xs).size=true)(hp:t.plain=true)(M:Mk (sizeAbove n-1)/\xs.length*5<(sizeAbove n-1)*3/\xs.length<=sizeAbove n-1/\sizeAbove n<=sizeLine)(h:∀ h' xs' t',Heap.SameBut a s.heap h'->xs'.Perm xs->SetAt prog w h' a xs' t'->t'.led=t.led->Q () { s with heap:=h' }):wpAny (model prog w) A (setRelay a n) Q E s:=by
 obtain⟨m1,m2,m3,m4⟩:=M;unfold setRelay;refine Jab (Jdc ho hd hf ?_);dsimp only;rw[if_neg (Nat.not_lt.2 m4)];obtain⟨t',od,e1,e2,e3,e4,e5⟩:=laid_ok (f:=t.finger) (mv:=t.movedTo (sizeAbove n-1)) (ld:=t.led) (pn:=t.plain) m1 (es:=es prog w xs) (by rw[es_size];exact m3) (by rw[es_size];exact m2);have e1':t.relaid ((es prog w xs).map (·.1)) n=some (t',od):=e1;rw[e1'];obtain⟨ys,py,ey⟩:=Zc6 e4 (xs:=xs) (f:=ent prog w) (by simp[es]);have ez:Array.filterMap (λx=>(es prog w xs)[x]?) od=es prog w ys:=by
  apply Array.toList_inj.1;rw[ey];simp[es]
 rw[ez] at e5;have sz:(es prog w ys).size=(es prog w xs).size:=by rw[es_size,es_size,py.length_eq]
 show wpAny (model prog w) A ((if ((Array.filterMap (λx=>(es prog w xs)[x]?) od).size != (es prog w xs).size)=true then (unsupported "internal:set-table-lost-an-element" : Sem Unit) >>= λ_=>pure (Array.filterMap (λx=>(es prog w xs)[x]?) od,t') else pure (Array.filterMap (λx=>(es prog w xs)[x]?) od,t')) >>= λx=>storeSet a x.1 x.2) Q E s;rw[ez,if_neg (by rw[sz];simp)];refine Jab (Jae ?_);dsimp only;have T':Tb t' (ys.map λx=>rh prog w x.1):=by
  have:(es prog w ys).toList.map (·.1)=ys.map λx=>rh prog w x.1:=by simp[es];intro _ _ _;rfl
  rwa [this] at e5
 refine wpAny_storeSet_of ho hd (h _ ys t' (Jdn ..) py ⟨⟨{ o with data:=.set (es prog w ys) (ep+1) t' },ep+1,?_,hex,rfl⟩,T',e3.trans hp⟩ e2) ?_
 .have:=Jcp (Obj.putSet (es prog w ys) t') ho (by rw[putSet_of (es prog w ys) t' hd];rfl);rw[putSet_of (es prog w ys) t' hd] at this;exact this
 .rw [es_size,py.length_eq];omega
theorem Zv2 {a x:Addr}{k:List Int}{xs:List (List Int×Addr)}{t:SetTable}{Q:Bool->Shared->Prop}(hu:A.units<cLine)(S:SetAt prog w s.heap a xs t)(R:Zdi prog w s.heap xs)(hk:IsTupleKey (intKind prog w) s.heap k x)(hl:xs.length+1<=256)(hy:(∃ y∈xs,y.1=k)->Q false s)(hn:(∀ y∈xs,y.1≠k)->∀ h' xs' t',Heap.SameBut a s.heap h'->xs'.Perm ((k,x)::xs)->SetAt prog w h' a xs' t'->t'.led=t.led->Q true { s with heap:=h' }):
  wpAny (model prog w) A (setAddHashed a (.ref x) (rh prog w k)) Q E s:=by
 obtain⟨o,ep,ho,hex,hd⟩:=S.ex;unfold setAddHashed;refine Jby ?_;unfold setAddHashedIn;refine Jab (Jdc ho hd S.fits ?_);dsimp only;rw[if_neg (by rw[Zra];decide)];refine Jab (Zj5 hu S R hk (λi _ q=>Jae (hy q)) λN F q=>?_);dsimp only;refine Jab (Jdc ho hd S.fits ?_);dsimp only;have pl:(t.put (pr t.mask (rh prog w k) N).j).1.plain=true:=S.pl;have ld:(t.put (pr t.mask (rh prog w k) N).j).1.led=t.led:=rfl;have mk:(t.put (pr t.mask (rh prog w k) N).j).1.mask=t.mask:=rfl;have dm:=Zhk (t:=t) (j:=(pr t.mask (rh prog w k) N).j) S.tb.d;have pls:=Zdf (t:=t) (j:=(pr t.mask (rh prog w k) N).j);have szp:t.place.size=xs.length:=by have:=S.tb.sz;rwa [Jaa] at this
 have few:=S.tb.few;rw[Jaa] at few;have szq:(t.put (pr t.mask (rh prog w k) N).j).1.place.size=xs.length+1:=by
  rw[<- Ja0,pls,Jaq,Jau,Ja4,Jc7,Ja0,szp];exact oz6
 have put:=S.tb.put F;generalize t.put (pr t.mask (rh prog w k) N).j=tp at pl ld mk dm pls szq put ⊢;obtain⟨t1,p⟩:=tp;dsimp only at pl ld mk dm pls szq put ⊢;rw[if_pos pl];refine Jab (Zmk hk ?_);rw[if_pos rfl];have fill:t1.fill=xs.length+1:=by unfold SetTable.fill;rw[szq,dm];rfl
 have pm:(xs.take p++(k,x)::xs.drop p).Perm ((k,x)::xs):=by
  have:=(List.perm_middle (a:=(k,x)) (l₁:=xs.take p) (l₂:=xs.drop p))
  rwa [Jbx] at this
 have ll:=pm.length_eq;rw[Jau] at ll;rw[show (rh prog w k,Value.ref x)=ent prog w (k,x) from rfl,ins_es];have fits:t1.fits (es prog w (xs.take p++(k,x)::xs.drop p)).size=true:=by
  rw[es_size,ll];unfold SetTable.fits;rw[fill,szq,mk];simp;exact oz15 few
 have g1:(s.heap.update a (Obj.putSet (es prog w (xs.take p++(k,x)::xs.drop p)) t1)).get? a=some { o with data:=.set (es prog w (xs.take p++(k,x)::xs.drop p)) (ep+1) t1 }:=by
  have:=Jcp (Obj.putSet (es prog w (xs.take p++(k,x)::xs.drop p)) t1) ho (by rw[putSet_of _ t1 hd];rfl);rw[putSet_of _ t1 hd] at this;exact this
 refine Jab (wpAny_storeSet_of ho hd ?_ (by rw[es_size,ll,Jc8];exact oz39 hl));by_cases c:(!false && t1.tooFull)=true
 .rw [if_pos c];have c':t.mask*3<=(xs.length+1)*5:=by
   have:t1.tooFull=true:=by simpa using c
   unfold SetTable.tooFull at this;rw[fill,mk] at this;simpa using this
  refine Jab (Ztd (s:={ s with heap:=s.heap.update a (Obj.putSet (es prog w (xs.take p++(k,x)::xs.drop p)) t1) }) g1 hex rfl fits pl ?_ λh' xs' t' sb pm' S' l'=>Jae (hn q h' xs' t' ⟨sb.1.trans (Jdn ..).1,λb hb=>(sb.2 b hb).trans ((Jdn ..).2 b hb)⟩ (pm'.trans pm) S' (l'.trans ld)));rw[ll,es_size];exact Zr2 S.tb.m few c' hl
 .rw [if_neg c];have c':(xs.length+1)*5<t.mask*3:=by
   have:¬ t1.tooFull=true:=by simpa using c
   unfold SetTable.tooFull at this;rw[fill,mk] at this;simpa using this
  refine Jae (hn q _ _ t1 (Jdn ..) pm ⟨⟨_,ep+1,g1,hex,rfl⟩,?_,pl⟩ ld);have:=put (by rw[Jaa];exact c');rw[<- Jho,<- List.map_drop] at this;rw[Ja3,Jaw];exact this
theorem notIn_ok {a x:Addr}{k:List Int}{xs:List (List Int×Addr)}{t:SetTable}{Q:Value->Shared->Prop}(hu:A.units+1<cLine)(S:SetAt prog w s.heap a xs t)(R:Zdi prog w s.heap xs)(hk:IsTupleKey (intKind prog w) s.heap k x)(h:∀ b:Bool,(b=true ↔ ∀ y∈xs,y.1≠k)->Q (.bool b) { s with toks:=s.toks+(k.length+1) }):wpAny (model prog w) A (compareOp .NotIn (.ref x) (.ref a)) Q E s:=by
 show wpAny _ _ (do return .bool (!(<- contains (.ref a) (.ref x)))) Q E s;refine Jab ?_;unfold contains
 try with_reducible refine Jby ?_
 refine Jab (Jfo S.typeIs Jgu.lookup ?_);show wpAny _ _ (if (some (Value.builtin "set.__contains__") == some Value.none)=true then _ else _) _ E s;rw[if_neg (by rw[beq_builtin_none];exact Ja7)];refine Jab (wpAny_callSpecialUnlessNone?_slot (name:=Str.ofString "__contains__") S.typeIs Jgu
  (Jdt Jgu S.typeIs entry_set_contains ?_ (F.args_set_contains_2 _ _)))
 unfold Builtin.«frozenset.__contains__» Builtin.Frozenset.oneOther;simp only[Jfa,bind_assoc];unfold Builtin.Frozenset.addrOf Builtin.Frozenset.withSetAsKey setContains;refine Jab (Jae ?_)
 try dsimp only
 refine Jab (Jae ?_)
 try dsimp only
 refine Jab (wpAny_tryCatch ?_);refine Jby ?_;refine Jab (Jg7 ?_ hk ?_)
 .exact hu
 refine Jab (find_ok (s:={ s with toks:=s.toks+(k.length+1) }) ?_ S R hk λr hr=>?_)
 .exact hu
 refine Jae ?_;show wpAny _ _ (ret (Value.bool r.isSome)) _ _ _;refine Jae ⟨_,rfl,Jcd (Jae (h _ ?_))⟩;constructor
 .intro e y hy c;rw[hr.2 ⟨y,hy,c⟩] at e;cases e
 .intro q;cases e:r.isSome with
  | false=>rfl
  | true=>obtain⟨y,hy,c⟩:=hr.1 e;exact absurd c (q y hy)
theorem setAdd_ok {a x:Addr}{k:List Int}{xs:List (List Int×Addr)}{t:SetTable}{Q:Value->Shared->Prop}(hu:A.units+1<cLine)(S:SetAt prog w s.heap a xs t)(R:Zdi prog w s.heap xs)(hk:IsTupleKey (intKind prog w) s.heap k x)(hl:xs.length+1<=256)(hy:(∃ y∈xs,y.1=k)->Q .none { s with toks:=s.toks+(k.length+1) })(hn:(∀ y∈xs,y.1≠k)->∀ h' xs' t',Heap.SameBut a s.heap h'->xs'.Perm ((k,x)::xs)->SetAt prog w h' a xs' t'->t'.led=t.led->Q .none { s with heap:=h',toks:=s.toks+(k.length+1) }):
  wpAny (model prog w) A (call (.builtin "set.add") [.ref a,.ref x]) Q E s:=by
 refine Jdt F.slot_set_add S.typeIs F.entry_set_add ?_ (F.args_set_add_2 _ _);unfold Builtin.«set.add» Builtin.Frozenset.oneOther;simp only[Jfa,bind_assoc];unfold Builtin.Frozenset.addrOf setAdd;refine Jab (Jae ?_)
 try dsimp only
 refine Jab (Jae ?_)
 try dsimp only
 refine Jab ?_;refine Jby ?_;refine Jab (Jg7 ?_ hk ?_)
 .exact hu
 refine Zv2 (s:={ s with toks:=s.toks+(k.length+1) }) ?_ S R hk hl (λq=>?_) λq h' xs' t' sb pm S' l'=>?_
 .exact hu
 .show wpAny _ _ (ret Value.none) _ _ _;exact Jae ⟨_,rfl,hy q⟩
 .show wpAny _ _ (ret Value.none) _ _ _;exact Jae ⟨_,rfl,hn q h' xs' t' sb pm S' l'⟩
end
end St
namespace PySem.F
theorem slot_sit_next:Slot "set_iterator" "__next__" "set_iterator.__next__" :=
 .of (owner:="set_iterator") (n:="__next__") (by rw[typeLookup_type,builtinLookup_eq_fast];kernel_rfl) ⋯ ⋯ ⋯
  (by first|exact .inl ⋯|exact .inr ⋯) (by rw[isSubtype_type];kernel_rfl)
theorem entry_sit_next:entryFor table "set_iterator.__next__" = some Builtin.«set_iterator.__next__»:=entryFor_of_tree (by kernel_rfl)
theorem Zkb:Manifest.owners.lookup (String.ofList ['r','o','t','a','r','e','t','i','_','t','e','s'].reverse)=some Manifest.sig_set_iterator:=by kernel_rfl
theorem args_sit_next (a:Value):argsOk "set_iterator.__next__" ⟨[a],[]⟩:=by
 unfold argsOk;rw[signature?_of (id:="set_iterator.__next__") (n:=['_','_','t','x','e','n','_','_']) (o:=['r','o','t','a','r','e','t','i','_','t','e','s']) (by kernel_rfl) Zkb];kernel_rfl
theorem slot_sit_iter:Slot "set_iterator" "__iter__" "set_iterator.__iter__" :=
 .of (owner:="set_iterator") (n:="__iter__") (by rw[typeLookup_type,builtinLookup_eq_fast];kernel_rfl) ⋯ ⋯ ⋯
  (by first|exact .inl ⋯|exact .inr ⋯) (by rw[isSubtype_type];kernel_rfl)
theorem entry_sit_iter:entryFor table "set_iterator.__iter__" = some Builtin.«dict_keyiterator.__iter__»:=
 entryFor_alias (id':="dict_keyiterator.__iter__") (by kernel_rfl) rfl ⋯ (by kernel_rfl)
theorem args_sit_iter (a:Value):argsOk "set_iterator.__iter__" ⟨[a],[]⟩:=by
 unfold argsOk;rw[signature?_of (id:="set_iterator.__iter__") (n:=['_','_','r','e','t','i','_','_']) (o:=['r','o','t','a','r','e','t','i','_','t','e','s']) (by kernel_rfl) Zkb];kernel_rfl
theorem entry_set_iter:entryFor table "set.__iter__" = some Builtin.«frozenset.__iter__»:=
 entryFor_alias (id':="frozenset.__iter__") (by kernel_rfl) rfl ⋯ (by kernel_rfl)
end PySem.F
namespace St
open PySem PySem.SetTable
theorem Zo2 {α:Type}{l:List α}{i:Nat}(h:i<l.length):(l[i]::l.eraseIdx i).Perm l:=by
 have e:l=l.take i++l[i]::l.drop (i+1):=by rw[Jfy,Jbx]
 rw[List.eraseIdx_eq_take_drop_succ];have:=(List.perm_middle (a:=l[i]) (l₁:=l.take i) (l₂:=l.drop (i+1))).symm;rwa [<- e] at this
theorem Zqk {α:Type}(next:Nat->Nat):∀ (fuel k:Nat) (left:List α) (out:Array α),left.length=fuel->(pickOrder.go next fuel k left out).toList.Perm (out.toList++left)
 | 0,k,left,out,h=>by
  rw[Jdu.1 h,Jcy];exact .refl _
 | fuel+1,k,left,out,h=>by
  have hl:next k % left.length<left.length:=Nat.mod_lt _ ∅;unfold pickOrder.go;rw[Jac hl];dsimp only;refine (Zqk next fuel (k+1) _ _ (by rw[List.length_eraseIdx_of_lt hl];omega)).trans ?_;rw[Jcn,Ja5];exact Jga _ (Zo2 hl)
noncomputable def wk (w:World)(a:Addr)(ep:Nat)(E:Array (Int×Value)):Array (Int×Value):=if w.params.followText "set-order" = true then pickOrder (w.params.setOrder a ep) E else E
theorem Ziv (w:World)(a:Addr)(ep:Nat)(E:Array (Int×Value)):(wk w a ep E).toList.Perm E.toList:=by
 unfold wk;split
 .unfold pickOrder;simpa using Zqk (w.params.setOrder a ep) E.size 0 E.toList #[] (by simp)
 .exact .refl _
noncomputable def sl (w:World)(t:SetTable):Nat->Nat
 | 0=>0
 | i+1=>if w.params.followText "set-order" = true then 0 else t.place.getD i 0+1
theorem Zi1 {w:World}{t:SetTable}{i:Nat}:sl w t (i+1)=if w.params.followText "set-order" = true then 0 else t.place.getD i 0+1:=rfl
def IsSit (h:Heap)(I a:Addr)(j i n ep:Nat):Prop:=∃ o,h.get? I=some o/\o.cls=.type "set_iterator" /\ o.data=.fields #[.int j 0,.int i 0,.ref a,.int n 0,.int ep 0]
theorem Zuu {w:World}{t:SetTable}(hi:Inc t.place)(hl:(w.params.followText "set-order")=false):∀ {i:Nat},i<=t.place.size->below t.place (sl w t i)=i
 | 0,_=>by
  obtain⟨h1,h2,h3⟩:=Zeg (j:=0) hi;refine Nat.eq_zero_of_not_pos λc=>?_;exact absurd (h2 0 (Jbr c h1) c) (Jez _)
 | i+1,h=>by
  rw[Zi1,hl,if_neg ⇑0];have e:t.place.getD i 0=t.place[i]:=by simp[Array.getD,show i<t.place.size by omega]
  rw[e];obtain⟨h1,h2,h3⟩:=Zeg (j:=t.place[i]+1) hi;rcases Nat.lt_trichotomy (below t.place (t.place[i]+1)) (i+1) with q|q|q
  .exact absurd (h3 i ∅ ∅) ∅
  .exact q
  .have:=h2 (i+1) ∅ q;have:=hi.lt (i:=i) (k:=i+1) ∅ ∅;omega
section
variable {prog:Program}{w:World}{A:Around}{E:Value->Shared->Prop}{s:Shared}
theorem IsSit.typeIs {I a:Addr}{j i n ep:Nat}(h:IsSit s.heap I a j i n ep):s.TypeIs (.ref I) "set_iterator" := let ⟨o,ho,hc,_⟩:=h;⟨o,ho,hc⟩
theorem Zrc {a:Addr}{o:Obj}{xs:Array (Int×Value)}{ep i:Nat}{t:SetTable}{Q:Option (Value×Nat)->Shared->Prop}(ho:s.heap.get? a=some o)(hd:o.data=.set xs ep t)(hf:t.fits xs.size=true)(hi:Inc t.place)(hp:t.plain=true)(hl:t.led=!(w.params.followText "set-order"))(hz:i<=xs.size)(h:Q ((wk w a ep xs)[i]?.map λe=>(e.2,sl w t (i+1))) s):wpAny (model prog w) A (setNext a (sl w t i) i ep) Q E s:=by
 have szp:t.place.size=xs.size:=by
  unfold SetTable.fits at hf;simp at hf;exact hf.1
 unfold setNext;refine Jab (Jdc ho hd hf ?_);dsimp only;unfold setsByText;refine Jab (Jab (Jel (Jae ?_)));show wpAny _ _ (if w.params.followText "set-order" = true then _ else _) _ _ _;by_cases c:w.params.followText "set-order" = true
 .rw [if_pos c,if_neg (by simp)];unfold setWalk;refine Jab (Jab (Jdc ho hd hf ?_));dsimp only;unfold setsByText;refine Jab (Jab (Jel (Jae ?_)));show wpAny _ _ (if w.params.followText "set-order" = true then _ else _) _ _ _;rw[if_pos c];refine Jab (Jel (Jae ?_));refine Jae ?_;have e0:sl w t i=0:=by cases i with
   | zero=>rfl
   | succ i=>rw[Zi1,if_pos c]
  have e1:sl w t (i+1)=0:=by rw[Zi1,if_pos c]
  unfold wk at h;rw[if_pos c,e1] at h;rw[e0];exact h
 .rw [if_neg c];have c':w.params.followText "set-order" = false:=by simpa using c
  rw[c'] at hl;show wpAny _ _ (if (!t.plain && decide (xs.size > 1))=true then _ else _) _ _ _;rw[if_neg (by rw[hp];simp)];show wpAny _ _ ((if (!t.led && !xs.isEmpty)=true then unsupported "set:maker-not-led" else pure ()) >>= _) _ _ _;rw[if_neg (by rw[hl];simp)];refine Jab (Jae ?_);rw[Zuu hi c' ∅];unfold wk at h;rw[if_neg c] at h;refine Jae ?_;rcases Jfh i xs.size with q|q
  .have q':i<t.place.size:=∅
   rw[Jag q,Jag q'];rw[Jag q] at h;have e:sl w t (i+1)=t.place[i]+1:=by
    rw[Zi1,if_neg c];simp[Array.getD,q']
   rw[e] at h;exact h
  .rw [Jd3 q] at h ⊢;exact h
end
end St
namespace St
open PySem PySem.SetTable
section
variable {prog:Program}{w:World}{A:Around}{E:Value->Shared->Prop}{s:Shared}
structure Walk (w:World)(h:Heap)(a:Addr)(xs:Array (Int×Value))(ep:Nat)(t:SetTable):Prop where
 at_:∃ o,h.get? a=some o/\o.cls=.type "set" /\ o.data=.set xs ep t
 fits:t.fits xs.size=true
 inc:Inc t.place
 pl:t.plain=true
 led:t.led=!(w.params.followText "set-order")
theorem Walk.keep {h h':Heap}{a:Addr}{xs:Array (Int×Value)}{ep:Nat}{t:SetTable}(W:Walk w h a xs ep t)(k:∀ o,h.get? a=some o->h'.get? a=some o):Walk w h' a xs ep t:=
 ⟨let ⟨o,ho,r⟩:=W.at_;⟨o,k o ho,r⟩,W.fits,W.inc,W.pl,W.led⟩
theorem iter_ok {a:Addr}{xs:Array (Int×Value)}{ep:Nat}{t:SetTable}{Q:Value->Shared->Prop}(W:Walk w s.heap a xs ep t)(h:Q (.ref s.heap.objs.size) { s with heap:=s.heap.push { cls:=.type "set_iterator",data:=.fields #[.int 0 0,.int 0 0,.ref a,.int xs.size 0,.int ep 0] } }):wpAny (model prog w) A (pyIter (.ref a)) Q E s:=by
 obtain⟨o,ho,hc,hd⟩:=W.at_;have hT:s.TypeIs (.ref a) "set" := ⟨o,ho,hc⟩
 refine wpAny_pyIter_slot hT F.slot_set_iter (Jdt F.slot_set_iter hT F.entry_set_iter ?_ (F.args_set_iter_1 _));unfold Builtin.«frozenset.__iter__» Builtin.Frozenset.slot0 slotArgs;simp only[Jfa,Bool.not_true,Jcw,↓reduceIte,bind_assoc,Jfm,Jdz];unfold Builtin.Frozenset.addrOf Builtin.Frozenset.sizeOf;refine Jab (Jae ?_)
 try dsimp only
 refine Jab (Jae ?_);refine Jab (Jab (Jgv ho hd W.fits (Jae ?_)));unfold setDrawn;refine Jab (Jab (Jdc ho hd W.fits ?_));dsimp only;unfold setsByText;refine Jab (Jab (Jel (Jae ?_)));refine Jae ?_;show wpAny _ _ (if (!_ && (!t.plain && decide (xs.size > 1)))=true then _ else _) _ _ _;rw[if_neg (by rw[W.pl];simp)];refine Jab (Jae ?_);refine Jab (wpAny_setEpoch_of ho hd W.fits ?_);refine Jab (Jdb (Jae ⟨_,rfl,"set_iterator",_,⟨_,Ja1 _ rfl,rfl⟩,F.slot_sit_next.lookup,h⟩))
theorem item_ok {a I:Addr}{xs:Array (Int×Value)}{ep i:Nat}{t:SetTable}{Q:Option Value->Shared->Prop}(W:Walk w s.heap a xs ep t)(hit:IsSit s.heap I a (sl w t i) i xs.size ep)(hi:i<xs.size)(h:∀ v h',(wk w a ep xs)[i]?.map (·.2)=some v->IsSit h' I a (sl w t (i+1)) (i+1) xs.size ep->Heap.SameBut I s.heap h'->Q (some v) { s with heap:=h' }):wpAny (model prog w) A (pyNext (.ref I)) Q E s:=by
 obtain⟨o,ho,hc,hd⟩:=W.at_;obtain⟨oi,hoi,hci,hdi⟩:=id hit;have hl:i<(wk w a ep xs).size:=by
  have:=(Ziv w a ep xs).length_eq;simp at this;omega
 unfold pyNext;refine Jab (Jhp (wpAny_callSpecial?_slot (name:=Str.ofString "__next__") hit.typeIs F.slot_sit_next
  (Jdt F.slot_sit_next hit.typeIs F.entry_sit_next ?_ (F.args_sit_next _))))
 unfold Builtin.«set_iterator.__next__» slotArgs;simp only[Jfa,Bool.not_true,Jcw,↓reduceIte,bind_assoc,Jfm,Jdz];refine Jab (Jae ?_);refine Jab (wpAny_fieldsOf hoi hdi ?_);dsimp only;refine Jab (Jgv ho hd W.fits ?_);rw[if_neg (by simp)];rw[Jaz,Jaz,Jaz];refine Jab (Zrc ho hd W.fits W.inc W.pl W.led (Jb8 hi) ?_);rw[Jag hl];dsimp only [Option.map];refine Jab (Jf6 hoi hdi (by simp) ?_);have g1:=Jcp (Obj.mapFields (·.setIfInBounds 0 (rawInt (sl w t (i+1))))) hoi (Jey (Jdd hdi _));have d1:=Jdd hdi (·.setIfInBounds 0 (rawInt (sl w t (i+1))));refine Jab (Jf6 (s:={ s with heap:=s.heap.update I (Obj.mapFields (·.setIfInBounds 0 (rawInt (sl w t (i+1))))) }) g1 d1 (by simp) ?_);have g2:=Jcp (Obj.mapFields (·.setIfInBounds 1 (rawInt ((i:Int)+1)))) g1 (Jey (Jdd d1 _));have d2:=Jdd d1 (·.setIfInBounds 1 (rawInt ((i:Int)+1)));have s1:=Jdn s.heap I (Obj.mapFields (·.setIfInBounds 0 (rawInt (sl w t (i+1)))));refine Jae ⟨_,rfl,Jae (h _ _ (by rw[Jag hl];rfl) ⟨_,g2,?_,?_⟩ (s1.trans (Jdn ..)))⟩
 .rw [Jhg,Jhg];exact hci
 .rw [d2];simp[rawInt]
theorem end_ok {a I:Addr}{xs:Array (Int×Value)}{ep:Nat}{t:SetTable}{Q:Option Value->Shared->Prop}(hh:A.handled=none)(W:Walk w s.heap a xs ep t)(hit:IsSit s.heap I a (sl w t xs.size) xs.size xs.size ep)(h:∀ h',Heap.ExtBut I s.heap h'->Q none { s with heap:=h' }):wpAny (model prog w) A (pyNext (.ref I)) Q E s:=by
 obtain⟨o,ho,hc,hd⟩:=W.at_;obtain⟨oi,hoi,hci,hdi⟩:=id hit;have hl:(wk w a ep xs).size=xs.size:=by
  have:=(Ziv w a ep xs).length_eq;simpa using this
 unfold pyNext;refine Jab (Jhp (wpAny_callSpecial?_slot (name:=Str.ofString "__next__") hit.typeIs F.slot_sit_next
  (Jdt F.slot_sit_next hit.typeIs F.entry_sit_next ?_ (F.args_sit_next _))))
 unfold Builtin.«set_iterator.__next__» slotArgs;simp only[Jfa,Bool.not_true,Jcw,↓reduceIte,bind_assoc,Jfm,Jdz];refine Jab (Jae ?_);refine Jab (wpAny_fieldsOf hoi hdi ?_);dsimp only;refine Jab (Jgv ho hd W.fits ?_);rw[if_neg (by simp)];rw[Jaz,Jaz,Jaz];refine Jab (Zrc ho hd W.fits W.inc W.pl W.led (Jaf _) ?_);rw[Jd3 (by rw[hl];exact Jaf _)];dsimp only [Option.map];refine Jab (Jf6 hoi hdi (by simp) ?_);show wpAny _ _ (newExc (.type "StopIteration") [] >>= _) _ _ _;refine Jab ?_;simp only[newExc,newTuple];refine Jab (Jdb ?_ (by size_fits));refine Jab (m:=firstArgMember _ _) (wpAny_of_eq (a:=Value.none) (by first|rfl|(simp only[firstArgMember];rfl)) ?_);refine Jdb ?_ (by size_fits);simp only[raiseNew];refine Jab (wpAny_handled ?_);rw[show A.in1.handled=none from hh];refine Jab (Jae (wpAny_throw ?_));refine Jab (wpAny_isInstance (T:="StopIteration") (b:=true) ⟨_,Ja1 _ rfl,rfl⟩ isSubtype_stop ?_);exact Jae (h _ (((Jdn ..).extBut.push _).push _))
theorem walks {a I:Addr}{xs:Array (Int×Value)}{ep:Nat}{t:SetTable}(hh:A.handled=none)(hne:a≠I):
  Walks prog w A I [I,a] [I] xs.size (λi v=>(wk w a ep xs)[i]?.map (·.2)=some v) (λi h=>IsSit h I a (sl w t i) i xs.size ep/\Walk w h a xs ep t) where
 sub:=λb hb=>by simp at hb;simp[hb]
 frame:=λi h h' st hk=>⟨let ⟨o,ho,r⟩:=st.1;⟨o,hk I (by simp) o ho,r⟩,st.2.keep λo e=>hk a (by simp) o e⟩
 item:=λi s Q E hi st hQ=>by
  refine item_ok st.2 st.1 hi λv h' e hit' hs'=>?_;exact hQ v h' s.toks e ⟨hit',st.2.keep λo e=>(hs'.2 a hne).trans e⟩ λb o hb e=>hs'.extBut b o (λh=>hb (by simp[h])) e
 done:=λs Q E st hQ=>end_ok hh st.2 st.1 λh' he'=>hQ h' s.toks λb o hb e=>he' b o (λh=>hb (by simp[h])) e
 self:=λi s Q E st hQ=>by
  refine wpAny_pyIter_slot st.1.typeIs F.slot_sit_iter (Jdt F.slot_sit_iter st.1.typeIs F.entry_sit_iter ?_ (F.args_sit_iter _));show wpAny _ _ (ret (.ref I)) _ _ s;exact Jae ⟨_,rfl,"set_iterator",_,st.1.typeIs,F.slot_sit_next.lookup,hQ⟩
theorem Zoo:typeLookup (.type "set") "__len__" = pure (some (.builtin "set.__len__")):=F.slot_set_len.lookup
theorem Zo5 {a:Addr}{xs:Array (Int×Value)}{ep:Nat}{t:SetTable}{Q:List Value->Shared->Prop}(hh:A.handled=none)(W:Walk w s.heap a xs ep t)(hn:xs.size<=300)(h:∀ s' acc,(∀ b o,s.heap.get? b=some o->s'.heap.get? b=some o)->s'.gens=s.gens->s'.drawn=s.drawn->s'.os=s.os->s.toks<=s'.toks->s.heap.objs.size<=s'.heap.objs.size->acc.Perm (xs.toList.map (·.2))->Q acc s'):
  wpAny (model prog w) A (collect (.ref a)) Q E s:=by
 obtain⟨o,ho,hc,hd⟩:=W.at_;unfold collect;refine Jab (wpAny_runValue (Jdq F.entry_proto_collect ?_));rw[Jdh F.plain_proto_collect _];show wpAny _ A.in1 (newList [] >>= λl=>again (.builtin "list.__iadd__" ⟨[l,.ref a],[]⟩)) _ _ s;refine Jab (Jdb ?_);refine Jae ⟨Jfr F.plain_list_iadd _,Jdq F.entry_list_iadd ?_⟩;rw[Jdh F.plain_list_iadd _];have hS₁:(s.heap.push { cls:=.type "list",data:=.seq ([]:List Value).toArray }).get? s.heap.objs.size=some { cls:=.type "list",data:=.seq ([]:List Value).toArray }:=Ja1 _ rfl;have hSa:s.heap.objs.size≠a:=(Ja6 (Jar ho)).symm;have h1:Builtin.List.listSameRef (.ref s.heap.objs.size) (.ref a)=false:=by simp[Builtin.List.listSameRef,hSa]
 have W1:=W.keep (h':=s.heap.push { cls:=.type "list",data:=.seq ([]:List Value).toArray }) λo e=>Jad _ e;obtain⟨o1,ho1,hc1,hd1⟩:=W1.at_;show wpAny _ A.in1 (Builtin.List.listExtendWith (.ref s.heap.objs.size) (.ref a) (.ref s.heap.objs.size)) _ _ _;unfold Builtin.List.listExtendWith;refine Jab (wpAny_typeOf (s:={ s with heap:=s.heap.push { cls:=.type "list",data:=.seq ([]:List Value).toArray } }) ⟨o1,ho1,hc1⟩ ?_);rw[if_neg (by rw[h1];decide)];refine Jab (iter_ok (s:={ s with heap:=s.heap.push { cls:=.type "list",data:=.seq ([]:List Value).toArray } }) W1 ?_);refine Jab (Jby ?_);unfold Builtin.List.listLengthHint;refine Jab (Jfo ⟨o1,Jad _ ho1,hc1⟩ Zoo ?_)
 (generalize hid:("set.__len__" : String)=id0;(fail_if_success (clear hid id0));wp_delta;rw[show splitId id0=some ("set","__len__") from by subst hid;decide +kernel];subst hid)
 refine Jab (wpAny_isInstance (b:=true) (T:="set") ⟨o1,Jad _ ho1,hc1⟩ (by rw[isSubtype_type];kernel_rfl) ?_);rw[if_neg ⇑0,if_pos ⋯];refine Jab (wpAny_typeOf ⟨o1,Jad _ ho1,hc1⟩ ?_);refine Jae ?_;rw[if_pos ⋯];refine Jab (Jfe ?_);have k1:∀ b o,s.heap.get? b=some o->(s.heap.push { cls:=.type "list",data:=.seq ([]:List Value).toArray }).get? b=some o:=λb o e=>Jad _ e;have z1:(s.heap.push { cls:=.type "list",data:=.seq ([]:List Value).toArray }).objs.size=s.heap.objs.size+1:=Jcs ..;generalize hh1:s.heap.push { cls:=.type "list",data:=.seq ([]:List Value).toArray }=h1' at hS₁ W1 ho1 k1 z1;have k2:∀ b o,h1'.get? b=some o->(h1'.push { cls:=.type "set_iterator",data:=.fields #[.int 0 0,.int 0 0,.ref a,.int xs.size 0,.int ep 0] }).get? b=some o:=λb o e=>Jad _ e;have g2:(h1'.push { cls:=.type "set_iterator",data:=.fields #[.int 0 0,.int 0 0,.ref a,.int xs.size 0,.int ep 0] }).get? h1'.objs.size=some { cls:=.type "set_iterator",data:=.fields #[.int 0 0,.int 0 0,.ref a,.int xs.size 0,.int ep 0] }:=Ja1 _ rfl;have z2:(h1'.push { cls:=.type "set_iterator",data:=.fields #[.int 0 0,.int 0 0,.ref a,.int xs.size 0,.int ep 0] }).objs.size=h1'.objs.size+1:=Jcs ..;dsimp only;generalize h1'.push { cls:=.type "set_iterator",data:=.fields #[.int 0 0,.int 0 0,.ref a,.int xs.size 0,.int ep 0] }=h2' at k2 g2 z2 ⊢;have hS2:=k2 _ _ hS₁;have hIS:s.heap.objs.size≠h1'.objs.size:=by rw[z1];exact (Nat.succ_ne_self _).symm
 have haI:a≠h1'.objs.size:=by rw[z1];exact Ja6 (Jce (Jar ho))
 refine Jab ?_;show wpAny _ A.in1 (updateSeq s.heap.objs.size (·.push .none) >>= λ_=>updateSeq s.heap.objs.size (·.pop)) _ _ _;refine Jab (wpAny_updateSeq hS2 rfl ?_);have hS₂:=Jcp (Obj.mapSeq (·.push Value.none)) hS2 rfl;refine wpAny_updateSeq hS₂ rfl ?_;have hS₃:=Jcp (Obj.mapSeq (·.pop)) hS₂ rfl;have oth:∀ b o,b≠s.heap.objs.size->h2'.get? b=some o->
   ((h2'.update s.heap.objs.size (Obj.mapSeq (·.push Value.none))).update s.heap.objs.size (Obj.mapSeq (·.pop))).get? b=some o:=
  λb o hb e=>(Jc4 _ _ (Jet hb)).trans ((Jc4 _ _ (Jet hb)).trans e)
 have WS:=(walks (prog:=prog) (w:=w) (A:=A.in1) (a:=a) (I:=h1'.objs.size) (xs:=xs) (ep:=ep) (t:=t) hh haI).toS;refine Jae ⟨Jfr F.plain_extend_loop _,codeAny_extend_loopS WS (Ja8 hn (by rw[Jc8];omega)) _ (by simp[hIS,hSa]) _ xs.size 0 _ _ _ rfl (Jbp _)
  ⟨⟨_,oth _ _ hIS.symm g2,rfl,rfl⟩,W1.keep λo e=>oth _ _ hSa.symm (k2 _ _ e)⟩ hS₃ (ItemsOf.nil _) λs' acc' c' hm hS' hacc=>?_⟩
 show wpAny _ A (load s.heap.objs.size >>= _) _ _ s';refine Jab (wpAny_load hS' ?_);refine Jae (h s' acc'.toList (λb o e=>?_) hm.gens hm.drawn hm.os hm.toks ?_ ?_)
 .have lt:=Jar e;have n1:b≠s.heap.objs.size:=Ja6 lt;have n2:b≠h1'.objs.size:=by rw[z1];exact Ja6 (Jce lt)
  exact hm.heap b o (by simp[n1,n2]) (oth b o n1 (k2 _ _ (k1 _ _ e)))
 .exact Jb8 (Jar hS')
 .have e:acc'.toList=(wk w a ep xs).toList.map (·.2):=by
   refine List.ext_getElem? λj=>?_;rw[Jay,Jca,Jca];cases c:acc'[j]? with
   | some v=>exact (hacc.2 j v c).symm
   | none=>
    have hl:=(Ziv w a ep xs).length_eq;rw[Ja0,Ja0] at hl;rw[Jd3 (by have:=Array.getElem?_eq_none_iff.1 c;rw[hacc.1] at this;omega)];rfl
  rw[e];exact (Ziv w a ep xs).map _
end
end St
namespace St
open PySem PyProof.Rows PySem.W
section
variable {prog:Program}{w:World}{A:Around}{E:Value->Shared->Prop}{s:Shared}
theorem Zqb {k:List Int}{x:Addr}{h:Heap}(hk:IsTupleKey (intKind prog w) h k x):∃ o items n,h.get? x=some o/\o.cls=.type "tuple" /\ o.data=.seq items n/\(∀ v∈items.toList,∃ a t,v=Value.int a t)/\items.size=k.length:=by
 obtain⟨o,items,n,ho,hc,hd,hi⟩:=hk;refine⟨o,items,n,ho,hc,hd,?_,?_⟩
 .have:∀ {k:List Int} {vs:List Value},ItemsAre (intKind prog w) k vs->∀ v∈vs,∃ z t,v=Value.int z t:=by
   intro k vs hi
   induction hi with
   | nil=>intro v hv;cases hv
   | cons h1 _ ih=>
    intro v hv;rcases Jao.1 hv with rfl|hv
    .obtain ⟨t,e⟩:=Jdx h1;exact⟨_,t,e⟩
    .exact ih v hv
  exact this hi
 .have:=hi.length;rw[this];simp
theorem Zrn:∀ {xs:List (List Int×Addr)},0<xs.length->(∀ x∈xs,IsTupleKey (intKind prog w) s.heap x.1 x.2/\0<x.1.length)->∀ {Q:SortKind->Shared->Prop},Q (tuples' true) s->wpAny (model prog w) A (keyKind' (xs.map (Value.ref ·.2)).toArray) Q E s:=by
 intro xs h0 hx Q hQ;have:∀ xs:List (List Int×Addr),(∀ x∈xs,IsTupleKey (intKind prog w) s.heap x.1 x.2/\0<x.1.length)->∃ fs,KatTups s.heap (xs.map (Value.ref ·.2)) fs/\fs.length=xs.length/\∀ v∈fs,∃ a t,v=Value.int a t:=by
  intro xs
  induction xs with
  | nil=>intro _;exact⟨[],.nil,rfl,λv hv=>by cases hv⟩
  | cons x xs ih=>
   intro hx;obtain⟨fs,q1,q2,q3⟩:=ih λy hy=>hx y (.tail _ hy);obtain⟨h1,h2⟩:=hx x (.head _);obtain⟨o,items,n,e1,e2,e3,e4,e5⟩:=Zqb h1;have hl:0<items.size:=∅
   refine⟨items[0]::fs,.cons e1 e2 e3 (Jag hl) q1,by rw[Jau,Jau,q2],λv hv=>?_⟩;rcases Jao.1 hv with rfl|hv
   .exact e4 _ (by simp)
   .exact q3 v hv
 obtain⟨fs,q1,q2,q3⟩:=this xs hx;refine kat_kind q1 ∅ (T:=.type "int") (λv hv=>?_) ⇑0 hQ;obtain⟨a,t,rfl⟩:=q3 v hv;exact .now
end
end St
namespace PySem
section
variable {prog:Program}{w:World}{A:Around}{E:Value->Shared->Prop}{s:Shared}
theorem Zjp {Q₁:Value->Shared->Prop}(h:∀ led:Bool,led=(!(w.params.followText "set-order"))->Q₁ (.ref s.heap.objs.size) { s with heap:=s.heap.push { cls:=.type "set",dict:=none,data:=.set #[] 0 (.fresh 0 0 led) } }):
  codeAny (model prog w) A (.call (.builtin "set.__new__") ⟨[.type "set"],[]⟩) (wants Q₁ E) s:=by
 refine Jgr ?_;show wpAny _ A.in1 (do checkBuiltinCall "set.__new__" ⟨[.type "set"],[]⟩;again (.builtin "set.__new__" ⟨[.type "set"],[]⟩)) _ _ s;refine Jab (wpAny_of_eq F.newCall_set_0 (Jae ⟨Jfr F.plain_set_new _,Jdq F.entry_set_new ?_⟩));rw[Jdh F.plain_set_new _];unfold Builtin.«set.__new__» Builtin.Frozenset.newClass;have hsub:=sub_set_self;obtain⟨hp,g,d,tk,os⟩:=s;dsimp only
 wp_walk
 refine Jel (Jae ?_);dsimp only;simp only[newObj];refine Jab (wpAny_alloc (Jae ?_));exact Jae (h _ rfl)
set_option maxHeartbeats 1000000 in
set_option maxRecDepth 100000 in
theorem Zmj {Q:Value->Shared->Prop}(h:∀ led:Bool,led=(!(w.params.followText "set-order"))->Q (.ref s.heap.objs.size) { s with heap:=s.heap.push { cls:=.type "set",dict:=none,data:=.set #[] 0 (.fresh 0 0 led) } }):
  wpAny (model prog w) A (call (.type "set") []) Q E s:=by
 obtain⟨c,tl,hmro⟩:=Jc1.mro;have hmade:=Jc1.made;have hsub:=Jc1.sub;refine wpAny_call (Jgr ?_);show wpAny _ _ (callAny (.type "set") _) _ _ _;refine Jae ⟨Code.quiet_builtin _ ⋯,Jdq F.entry_type_call ?_⟩;rw[Around.under_plain (weight_type_call_type "set" [] []) rfl];have h1:=Jc1.notType;have h2:=Jc1.canCreate;have hct:=F.typeCall_set_0
 repeat (any_goals (first|assumption|wp_step))
 refine Jeg (Zjp (E:=E) (Q₁:=λobj s₁=>∃ led:Bool,led=(!(w.params.followText "set-order"))/\obj=.ref s.heap.objs.size/\s₁={ s with heap:=s.heap.push { cls:=.type "set",dict:=none,data:=.set #[] 0 (.fresh 0 0 led) } }) λled hl=>⟨led,hl,rfl,rfl⟩) λr s₁ hr=>?_;cases r with
 | error e=>exact hr
 | ok fl=>
  cases fl with
  | ret obj=>
   obtain⟨led,hled,rfl,rfl⟩:=hr;have hS:(s.heap.push { cls:=.type "set",dict:=none,data:=.set #[] 0 (.fresh 0 0 led) }).get? s.heap.objs.size=some { cls:=.type "set",dict:=none,data:=.set #[] 0 (.fresh 0 0 led) }:=Ja1 _ rfl;have hT:Shared.TypeIs { s with heap:=s.heap.push { cls:=.type "set",dict:=none,data:=.set #[] 0 (.fresh 0 0 led) } } (.ref s.heap.objs.size) "set" := ⟨_,hS,rfl⟩
   have hli:=Jc1.init.lookup;have hbi:=Jc1.init.bind (.ref s.heap.objs.size)
   repeat (any_goals (first|assumption|wp_step))
   refine Jeg (codeAny_call_builtin (R:=wants (λr s₂=>r=.none/\Q (.ref s.heap.objs.size) s₂) E) Jc1.init.plain F.entry_set_init (check_set_init hT ?_)) λr₂ s₂ hr₂=>?_
   .unfold Builtin.«set.__init__» noKeywords
    wp_walk
    exact⟨rfl,h led hled⟩
   .cases r₂ with
    | error e=>exact hr₂
    | ok fl₂=>
     cases fl₂ with
     | ret r=>
      obtain⟨rfl,hq⟩:=hr₂
      repeat (any_goals (first|assumption|wp_step))
     | _=>exact hr₂.elim
  | _=>exact hr.elim
end
end PySem
namespace PyProof.Rows
open PySem
section
variable {prog:Program}{w:World}{A:Around}{E:Value->Shared->Prop}{s:Shared}{a₀:Array Keyed}{κ:SortKind}
structure Ord (le:Keyed->Keyed->Prop):Prop where
 rf:∀ x,le x x
 tr:∀ {x y z},le x y->le y z->le x z
def Zh4 (prog:Program)(w:World)(A:Around)(E:Value->Shared->Prop)(s:Shared)(a₀:Array Keyed)(κ:SortKind)(le:Keyed->Keyed->Prop):Prop:=
 ∀ x∈a₀,∀ y∈a₀,∀ st:SortSt,kindOf st=κ->∀ Q:Option Bool->SortSt->Prop,(∀ b,(b=true->le x y)->(b=false->le y x)->Q (some b) st)->wpS (model prog w) A E s (lt' x y) Q st
variable {le:Keyed->Keyed->Prop}
def Sg (le:Keyed->Keyed->Prop)(xs:Array Keyed)(l r:Nat):Prop:=∀ i j x y,l<=i->i<j->j<r->xs[i]?=some x->xs[j]?=some y->le x y
def Bel (le:Keyed->Keyed->Prop)(key:Keyed)(xs:Array Keyed)(base m:Nat):Prop:=∀ i x,i<m->xs[base+i]?=some x->le x key
def Abv (le:Keyed->Keyed->Prop)(key:Keyed)(xs:Array Keyed)(base n m:Nat):Prop:=∀ i x,m<=i->i<n->xs[base+i]?=some x->le key x
section
variable {key:Keyed}{xs:Array Keyed}{base n m:Nat}
theorem Bel.upto (O:Ord le)(S:Sg le xs base (base+n))(hm:m<n)(hz:base+n<=xs.size)(h:le (xs[base+m]'(by omega)) key):Bel le key xs base (m+1):=by
 intro i x hi hx;have hm':xs[base+m]?=some (xs[base+m]'(by omega)):=Jag _;by_cases e:i=m
 .subst e;rw[hm'] at hx;cases hx;exact h
 .exact O.tr (S _ _ _ _ ∅ (show base+i<base+m by omega) ∅ hx hm') h
theorem Abv.fro (O:Ord le)(S:Sg le xs base (base+n))(hm:m<n)(hz:base+n<=xs.size)(h:le key (xs[base+m]'(by omega))):Abv le key xs base n m:=by
 intro i x hi hn hx;have hm':xs[base+m]?=some (xs[base+m]'(by omega)):=Jag _;by_cases e:i=m
 .subst e;rw[hm'] at hx;cases hx;exact h
 .exact O.tr h (S _ _ _ _ ∅ (show base+m<base+i by omega) ∅ hm' hx)
end
theorem Zdg {left:Bool}{key:Keyed}{arr:Array Keyed}{base n hint:Nat}{st:SortSt}{Q:Option Nat->SortSt->Prop}(O:Ord le)(LT:Zh4 prog w A E s a₀ κ le)(S:Sg le arr base (base+n))(hk:key∈a₀)(ha:∀ x∈arr,x∈a₀)(hn:base+n<=arr.size)(hh:hint<n)(hs:kindOf st=κ)(h:∀ k,k<=n->Bel le key arr base k->Abv le key arr base n k->Q (some k) st):wpS (model prog w) A E s (Zr3 left key arr base n hint) Q st:=by
 have bey:∀ (i:Nat),i<n->∀ (Q:Option Bool->SortSt->Prop),(∀ b,(b=true->Bel le key arr base (i+1))->(b=false->Abv le key arr base n i)->Q (some b) st)->wpS (model prog w) A E s (do let x <- elem' arr (base+i);if left then lt' x key else return (<- lt' key x).map (!·)) Q st:=λi hi Q hq=>by
  refine Jat (Za9 (oz11 hn hi) ?_);have hx:=ha _ (Jcf (show base+i<arr.size by exact oz11 hn hi));cases left with
  | true=>exact LT _ hx _ hk st hs _ λb b1 b2=>hq b (λe=>Bel.upto O S hi hn (b1 e)) λe=>Abv.fro O S hi hn (b2 e)
  | false=>exact Jat (LT _ hk _ hx st hs _ λb b1 b2=>Ja2 (hq _ (λe=>Bel.upto O S hi hn (b2 (by cases b <;> simp_all))) λe=>Abv.fro O S hi hn (b1 (by cases b <;> simp_all))))
 unfold Zr3;refine Jat (bey hint hh _ λb b1 b2=>?_);cases b with
 | true=>
  dsimp only;rw[if_pos rfl];refine Jat (Jd5 (Jcq (I:=λi c st'=>∃ lo ofs,c=(none,lo,ofs)/\lo<ofs/\i+1<=ofs/\hint+lo<n/\Bel le key arr base (hint+lo+1)/\st=st') (Q:=λc st'=>∃ lo ofs,c=(none,lo,ofs)/\lo<ofs/\hint+lo<n/\Bel le key arr base (hint+lo+1)/\Abv le key arr base n (hint+min ofs (n-hint))/\st=st') ?_ ?_ ⟨0,1,rfl,∅,∅,∅,b1 rfl,rfl⟩) ?_)
  .rintro i c st' _ _ ⟨lo,ofs,rfl,l1,l2,l3,l4,rfl⟩;dsimp only;refine Zas (λg=>Ja2 ⟨_,_,rfl,l1,l3,l4,λi x q1 q2=>∅,rfl⟩) λg=>?_;refine Jat (bey _ ∅ _ λb c1 c2=>?_);cases b with
   | true=>exact Ja2 ⟨_,_,rfl,∅,∅,∅,c1 rfl,rfl⟩
   | false=>exact Ja2 ⟨_,_,rfl,l1,l3,l4,by rw[Jgs ∅];exact c2 rfl,rfl⟩
  .rintro c st' ⟨lo,ofs,rfl,l1,l2,l3,l4,rfl⟩;exact⟨_,_,rfl,l1,l3,l4,λi x q1 q2=>∅,rfl⟩
  .rintro c st' ⟨lo,ofs,rfl,l1,l2,l3,l4,rfl⟩;dsimp only;refine Jat (Jd5 (Jcq (I:=λi c st'=>∃ lo hi,c=(none,lo,hi)/\lo<=hi/\hi<=n/\hi-lo<=n-i/\Bel le key arr base lo/\Abv le key arr base n hi/\st=st') (Q:=λc st'=>∃ lo hi,c=(none,lo,hi)/\lo=hi/\hi<=n/\Bel le key arr base lo/\Abv le key arr base n hi/\st=st') ?_ ?_ ⟨_,_,rfl,∅,oz67 hh,oz52,l3,l4,rfl⟩) ?_)
   .rintro i c st' _ _ ⟨lo,hi,rfl,m1,m2,m3,m4,m5,rfl⟩;dsimp only;refine Zas (λg=>Ja2 ⟨_,_,rfl,∅,m2,m4,m5,rfl⟩) λg=>?_;refine Jat (bey _ (oz42 m2 g) _ λb c1 c2=>?_);cases b with
    | true=>exact Ja2 ⟨_,_,rfl,oz25 g,m2,oz7 m3,c1 rfl,m5,rfl⟩
    | false=>exact Ja2 ⟨_,_,rfl,∅,oz27 m2 g,oz12 m3,m4,c2 rfl,rfl⟩
   .rintro c st' ⟨lo,hi,rfl,m1,m2,m3,m4,m5,rfl⟩;exact⟨_,_,rfl,oz20 m1 m3,m2,m4,m5,rfl⟩
   .rintro c st' ⟨lo,hi,rfl,rfl,m2,m4,m5,rfl⟩;exact Ja2 (h _ m2 m4 m5)
 | false=>
  dsimp only;rw[if_neg ⇑0];refine Jat (Jd5 (Jcq (I:=λi c st'=>∃ lo ofs,c=(none,lo,ofs)/\lo<ofs/\i+1<=ofs/\lo<=hint/\Abv le key arr base n (hint-lo)/\st=st') (Q:=λc st'=>∃ lo ofs,c=(none,lo,ofs)/\lo<ofs/\lo<=hint/\Abv le key arr base n (hint-lo)/\Bel le key arr base (hint+1-min ofs (hint+1))/\st=st') ?_ ?_ ⟨0,1,rfl,∅,∅,∅,b2 rfl,rfl⟩) ?_)
  .rintro i c st' _ _ ⟨lo,ofs,rfl,l1,l2,l3,l4,rfl⟩;dsimp only;refine Zas (λg=>Ja2 ⟨_,_,rfl,l1,l3,l4,λi x q1=>∅,rfl⟩) λg=>?_;refine Jat (bey _ ∅ _ λb c1 c2=>?_);cases b with
   | true=>exact Ja2 ⟨_,_,rfl,l1,l3,l4,by rw[Jgs ∅,show hint+1-ofs=hint-ofs+1 by exact oz63 g];exact c1 rfl,rfl⟩
   | false=>exact Ja2 ⟨_,_,rfl,∅,∅,∅,c2 rfl,rfl⟩
  .rintro c st' ⟨lo,ofs,rfl,l1,l2,l3,l4,rfl⟩;exact⟨_,_,rfl,l1,l3,l4,λi x q1=>∅,rfl⟩
  .rintro c st' ⟨lo,ofs,rfl,l1,l2,l3,l4,rfl⟩;dsimp only;refine Jat (Jd5 (Jcq (I:=λi c st'=>∃ lo hi,c=(none,lo,hi)/\lo<=hi/\hi<=n/\hi-lo<=n-i/\Bel le key arr base lo/\Abv le key arr base n hi/\st=st') (Q:=λc st'=>∃ lo hi,c=(none,lo,hi)/\lo=hi/\hi<=n/\Bel le key arr base lo/\Abv le key arr base n hi/\st=st') ?_ ?_ ⟨_,_,rfl,∅,∅,∅,l4,l3,rfl⟩) ?_)
   .rintro i c st' _ _ ⟨lo,hi,rfl,m1,m2,m3,m4,m5,rfl⟩;dsimp only;refine Zas (λg=>Ja2 ⟨_,_,rfl,∅,m2,m4,m5,rfl⟩) λg=>?_;refine Jat (bey _ (oz42 m2 g) _ λb c1 c2=>?_);cases b with
    | true=>exact Ja2 ⟨_,_,rfl,oz25 g,m2,oz7 m3,c1 rfl,m5,rfl⟩
    | false=>exact Ja2 ⟨_,_,rfl,∅,oz27 m2 g,oz12 m3,m4,c2 rfl,rfl⟩
   .rintro c st' ⟨lo,hi,rfl,m1,m2,m3,m4,m5,rfl⟩;exact⟨_,_,rfl,oz20 m1 m3,m2,m4,m5,rfl⟩
   .rintro c st' ⟨lo,hi,rfl,rfl,m2,m4,m5,rfl⟩;exact Ja2 (h _ m2 m4 m5)
end
end PyProof.Rows
namespace PyProof.Rows
open PySem
section
variable {prog:Program}{w:World}{A:Around}{E:Value->Shared->Prop}{s:Shared}{a₀:Array Keyed}{κ:SortKind}
variable {le:Keyed->Keyed->Prop}{a b out:Array Keyed}{ia ib:Nat}
theorem Sg.of {xs:Array Keyed}{l r:Nat}(h:xs.toList.Pairwise le):Sg le xs l r:=by
 intro i j x y _ hij _ hx hy;rw[<- Jca] at hx hy;obtain⟨h1,rfl⟩:=Jak.1 hx;obtain⟨h2,rfl⟩:=Jak.1 hy;exact Jc6.1 h i j h1 h2 hij
theorem ins {o m r:List Keyed}(h1:(o++m).Pairwise le)(h2:(o++r).Pairwise le)(h:∀ x∈m,∀ y∈r,le x y):(o++(m++r)).Pairwise le:=by
 rw[Jb2] at h1 h2 ⊢;refine⟨h1.1,Jb2.2 ⟨h1.2.1,h2.2.1,h⟩,λx hx y hy=>?_⟩;rcases Jbf.1 hy with hy|hy
 .exact h1.2.2 x hx y hy
 .exact h2.2.2 x hx y hy
theorem ins2 {l m r:List Keyed}(h1:(m++r).Pairwise le)(h2:(l++r).Pairwise le)(h:∀ x∈l,∀ y∈m,le x y):(l++(m++r)).Pairwise le:=by
 rw[Jb2] at h2 ⊢;refine⟨h2.1,h1,λx hx y hy=>?_⟩;rcases Jbf.1 hy with hy|hy
 .exact h x hx y hy
 .exact h2.2.2 x hx y hy
theorem Zjm {xs:Array Keyed}{l k:Nat}{x:Keyed}(h:x∈(xs.extract l (l+k)).toList):∃ i,i<k/\xs[l+i]?=some x:=by
 obtain⟨i,hi,e⟩:=Jbl h;rw[Jc3,Jd6] at e;have:=hi;rw[Ja0,Jco] at this;refine⟨i,∅,?_⟩;rw[Jag ∅,e]
theorem Zum {xs:Array Keyed}{l:Nat}{x:Keyed}(h:x∈xs.toList.drop l):∃ i,i<xs.size-l/\xs[l+i]?=some x:=by
 obtain⟨i,hi,e⟩:=Jbl h;rw[List.getElem_drop,Jc3] at e;rw[Jc7,Ja0] at hi;exact⟨i,hi,by rw[Jag ∅,e]⟩
theorem Zms {xs:Array Keyed}{l:Nat}{x:Keyed}(h:x∈xs.toList.take l):∃ i,i<l/\xs[0+i]?=some x:=by
 obtain⟨i,hi,e⟩:=Jbl h;rw[Jhi,Jc3] at e;rw[Ja4,Ja0] at hi;exact⟨i,∅,by rw[Jg3,Jag ∅,e]⟩
theorem Abv.drp {key:Keyed}{xs:Array Keyed}{base k:Nat}(av:Abv le key xs base (xs.size-base) k):∀ y∈xs.toList.drop (base+k),le key y:=λy hy=>by
 obtain⟨t,ht,e⟩:=Zum hy;exact av (k+t) y ∅ ∅ (by rw[<- e,Jgk])
theorem Bel.ext {key:Keyed}{xs:Array Keyed}{base k:Nat}(bl:Bel le key xs base k):∀ x∈(xs.extract base (base+k)).toList,le x key:=λx hx=>by
 obtain⟨t,ht,e⟩:=Zjm hx;exact bl t x ht e
def MgS (le:Keyed->Keyed->Prop)(a b out:Array Keyed)(ia ib:Nat):Prop:=(out.toList++a.toList.drop ia).Pairwise le/\(out.toList++b.toList.drop ib).Pairwise le
theorem MgS.swap (h:MgS le a b out ia ib):MgS le b a out ib ia:=⟨h.2,h.1⟩
theorem MgS.exta {k:Nat}(h:MgS le a b out ia ib)(f:∀ x∈(a.extract ia (ia+k)).toList,∀ y∈b.toList.drop ib,le x y):MgS le a b (out++a.extract ia (ia+k)) (ia+k) ib:=by
 have e:(out++a.extract ia (ia+k)).toList++a.toList.drop (ia+k)=out.toList++a.toList.drop ia:=by
  rw[Jbi,Jbq,Jbb,Nat.add_sub_cancel_left,Ja5,<- Jg9,Jbx]
 refine⟨by rw[e];exact h.1,?_⟩;rw[Jbi,Ja5];refine ins ?_ h.2 f;have:=h.1;rw[<- e,Jbi] at this;exact (Jb2.1 this).1
theorem MgS.pusha (hi:ia<a.size)(h:MgS le a b out ia ib)(f:∀ y∈b.toList.drop ib,le a[ia] y):MgS le a b (out.push a[ia]) (ia+1) ib:=by
 have e:(out.push a[ia]).toList++a.toList.drop (ia+1)=out.toList++a.toList.drop ia:=by
  rw[Jcn,Ja5,show List.drop ia a.toList=a[ia]::List.drop (ia+1) a.toList from Jct (by simpa using hi)];rfl
 refine⟨by rw[e];exact h.1,?_⟩;rw[Jcn,Ja5];refine ins ?_ h.2 λx hx=>by rw[Jas.1 hx];exact f
 have:=h.1;rw[<- e,Jcn] at this;exact (Jb2.1 this).1
theorem MgS.extb {k:Nat}(h:MgS le a b out ia ib)(f:∀ x∈(b.extract ib (ib+k)).toList,∀ y∈a.toList.drop ia,le x y):MgS le a b (out++b.extract ib (ib+k)) ia (ib+k):=(h.swap.exta f).swap
theorem MgS.pushb (hi:ib<b.size)(h:MgS le a b out ia ib)(f:∀ y∈a.toList.drop ia,le b[ib] y):MgS le a b (out.push b[ib]) ia (ib+1):=(h.swap.pusha hi f).swap
theorem MgS.heada (O:Ord le)(hi:ia<a.size)(h:MgS le a b out ia ib):∀ y∈a.toList.drop ia,le a[ia] y:=by
 have:=(Jb2.1 h.1).2.1;rw[show List.drop ia a.toList=a[ia]::List.drop (ia+1) a.toList from Jct (by simpa using hi)] at this ⊢;intro y hy;rcases Jao.1 hy with rfl|hy
 .exact O.rf _
 .exact (Jbm.1 this).1 y hy
theorem MgS.headb (O:Ord le)(hi:ib<b.size)(h:MgS le a b out ia ib):∀ y∈b.toList.drop ib,le b[ib] y:=h.swap.heada O hi
theorem Znu {xs:Array Keyed}{l:Nat}(h:xs.size<=l):(xs.extract l xs.size).toList=[]:=by
 rw[Jbq,Jbb,List.drop_eq_nil_of_le (by simpa using h),List.take_nil]
theorem Zhz {xs:Array Keyed}{l:Nat}:(xs.extract l xs.size).toList=xs.toList.drop l:=by
 rw[Jbq,Jbb,Jcc (by simp)]
theorem MgS.done (h:MgS le a b out ia ib)(c:b.size<=ib\/a.size<=ia):(out++a.extract ia a.size++b.extract ib b.size).toList.Pairwise le:=by
 rw[Jbi,Jbi];rcases c with c|c
 .rw [Znu c,Jcy,Zhz];exact h.1
 .rw [Znu c,Jcy,Zhz];exact h.2
theorem MgS.last {l:Keyed}(h:MgS le a b out ia ib)(hl:∀ x∈b.toList,le x l)(c:ia+1=a.size)(e:a[ia]?=some l):(out++b.extract ib b.size++a.extract ia a.size).toList.Pairwise le:=by
 have hi:ia<a.size:=∅
 rw[Jag hi] at e;cases e;rw[Jbi,Jbi,Zhz,Zhz,Ja5];refine ins h.2 h.1 λx hx y hy=>?_;rw[show List.drop ia a.toList=a[ia]::List.drop (ia+1) a.toList from Jct (by simpa using hi),List.drop_eq_nil_of_le (by simp;omega)] at hy;rw[Jas.1 hy];exact hl x (Jea hx)
structure LoT (le:Keyed->Keyed->Prop)(st:SortSt)(a b out:Array Keyed)(ia ib n:Nat)(st':SortSt):Prop where
 i:LoI st a b out ia ib n st'
 o:MgS le a b out ia ib
section
variable {st st' st2:SortSt}{n n':Nat}
theorem LoT.stt (I:LoT le st a b out ia ib n st')(m:SM st' st2):LoT le st a b out ia ib n st2:=⟨I.i.stt m,I.o⟩
theorem LoT.le' (I:LoT le st a b out ia ib n st')(h:n'<=n):LoT le st a b out ia ib n' st':=⟨I.i.le h,I.o⟩
end
def LoU (le:Keyed->Keyed->Prop)(st:SortSt)(a b:Array Keyed)(n:Nat)(r:Option (Array Keyed))(out:Array Keyed)(ia ib:Nat)(st':SortSt):Prop:=
 match r with
 | some o=>SM st st'/\o.toList.Perm (a.toList++b.toList)/\o.toList.Pairwise le
 | none=>LoT le st a b out ia ib n st'
theorem Zbn {x y:Nat}(h:(x == y)=true):x=y:=by simpa using h
theorem Znp {α:Type}{c:Prop}[Decidable c]{x y:StateT SortSt Sem α}{M:Model}{Q:α->SortSt->Prop}{st:SortSt}(h1:wpS M A E s x Q st)(h2:wpS M A E s y Q st):wpS M A E s (if c then x else y) Q st:=by
 split
 .exact h1
 .exact h2
theorem hof {T G:Prop}(h:(Unit->T)->G)(k:T):G:=h λ_=>k
theorem Zoq {a b:Array Keyed}{st:SortSt}{Q:Array Keyed->SortSt->Prop}{l:Keyed}(O:Ord le)(LT:Zh4 prog w A E s a₀ κ le)(sa:a.toList.Pairwise le)(sb:b.toList.Pairwise le)(ha:∀ x∈a,x∈a₀)(hb:∀ x∈b,x∈a₀)(a1:1<=a.size)(b1:1<=b.size)(h0:∀ x∈a.toList,le (b[0]'(by omega)) x)(hl:∀ x∈b.toList,le x l)(el:a[a.size-1]?=some l)(hs:kindOf st=κ)(h:∀ out st',SM st st'->out.toList.Perm (a.toList++b.toList)->out.toList.Pairwise le->Q out st'):wpS (model prog w) A E s (Znh a b) Q st:=by
 have la:∀ {ia:Nat},ia+1=a.size->a[ia]?=some l:=λ{ia} e=>by rw[<- el,<- e];rfl
 unfold Znh;refine Jat (Jhq (Jfe ⟨rfl,?_⟩));refine Jat (Za9 (show 0<b.size by omega) ?_);dsimp only;have m0:Mg a b #[b[0]] 0 1:=Mg.pushb (out:=#[]) (ia:=0) (ib:=0) ∅ (Jf5 _);have s0:MgS le a b #[b[0]] 0 1:=MgS.pushb (out:=#[]) (ia:=0) (ib:=0) ∅ ⟨sa,sb⟩ h0;refine Zas (λe=>Ja2 (h _ _ (SM.refl _) m0.done (s0.done (.inl (Jdv (Zbn e).symm))))) λn1=>?_;refine Zas (λe=>Ja2 (h _ _ (SM.refl _) m0.last (s0.last hl (Zbn e) (la (Zbn e))))) λn2=>?_;have n1:=Zcd n1;have n2:=Zcd n2;refine Jat (Jgw ?_);refine Jat (Jd5 (Jcq (I:=λi c st'=>c.1=none/\LoT le st a b c.2.1 c.2.2.1 c.2.2.2.1 (i+1) st') (Q:=λc st'=>∃ o,c.1=some o/\SM st st'/\o.toList.Perm (a.toList++b.toList)/\o.toList.Pairwise le) ?_ ?_ ⟨rfl,(show LoT le st a b #[b[0]] 0 1 _ _ from ⟨⟨SM.refl _,rfl,∅,∅,m0,by simp⟩,s0⟩)⟩) ?_)
 .rintro i ⟨r,out,ia,ib,mg⟩ st'-hi ⟨e,I⟩;cases (e:r=none);have I:LoT le st a b out ia ib _ _:=I;dsimp only;refine Jat (Jd5 (Jcq (I:=λj c st'=>c.1=none/\LoT le st a b c.2.1 c.2.2.1 c.2.2.2.1 (i+1+j) st') (Q:=λc st'=>LoU le st a b (i+2) c.1 c.2.1 c.2.2.1 c.2.2.2.1 st') ?_ ?_ ⟨rfl,(show LoT le st a b out ia ib _ _ from I)⟩) ?_)
  .rintro j ⟨r,out,ia,ib,ac,bc⟩ st1-hj ⟨e,I⟩;cases (e:r=none);have I:LoT le st a b out ia ib _ _:=I;dsimp only;refine Jat (Za9 I.i.lb ?_);refine Jat (Za9 I.i.lia ?_);refine Jat (LT _ (hb _ (Jcf _)) _ (ha _ (Jcf _)) _ (I.i.m.k.trans hs) _ λbw b1 b2=>?_);refine Zas (λe=>?_) λe=>?_
   .refine Jat (Za9 I.i.lb ?_);have o:=I.o.pushb I.i.lb λy hy=>O.tr (b1 e) (I.o.heada O I.i.lia y hy);refine Zas (λe=>Ja2 ⟨I.i.m,(I.i.g.pushb I.i.lb).done,o.done (.inl (Jdv (Zbn e).symm))⟩) λn=>?_;exact Zas (λ_=>Ja2 ⟨(I.i.pushb n).le ∅,o⟩) λ_=>Ja2 ⟨rfl,I.i.pushb n,o⟩
   .refine Jat (Za9 I.i.lia ?_);have o:=I.o.pusha I.i.lia λy hy=>O.tr (b2 (by simpa using e)) (I.o.headb O I.i.lb y hy);refine Zas (λe=>Ja2 ⟨I.i.m,(I.i.g.pusha I.i.lia).last,o.last hl (Zbn e) (la (Zbn e))⟩) λn=>?_;exact Zas (λ_=>Ja2 ⟨(I.i.pusha n).le ∅,o⟩) λ_=>Ja2 ⟨rfl,I.i.pusha n,o⟩
  .rintro ⟨r,out,ia,ib,ac,bc⟩ st1 ⟨e,I⟩;cases (e:r=none);have I:LoT le st a b out ia ib _ _:=I;exact I.le' ∅
  .rintro ⟨r,out,ia,ib,ac,bc⟩ st1 R;cases r with
   | some o=>exact Ja2 ⟨_,rfl,R⟩
   | none=>
    dsimp only;refine Jat (Jhq (Jfe ⟨rfl,?_⟩));refine Jat (Jd5 (Jcq (I:=λj c st'=>c.1=none/\LoT le st a b c.2.1 c.2.2.1 c.2.2.2.1 (i+2) st') (Q:=λc st'=>LoU le st a b (i+2) c.1 c.2.1 c.2.2.1 c.2.2.2.1 st') ?_ ?_ ⟨rfl,(show LoT le st a b out ia ib _ _ from R)⟩) ?_)
    .rintro j ⟨r,out,ia,ib,mg,ac,bc⟩ st1-hj ⟨e,I⟩;cases (e:r=none);have I:LoT le st a b out ia ib _ _:=I;dsimp only;apply hof;intro ky;refine Znp ?_ ?_;generalize mg-1=mg'
     revert mg'
     exact ky ()
     generalize mg=mg'
     revert mg'
     exact ky ()
     intro mg';refine Jat (Zi3 λst2 m=>?_);have I:=I.stt m;refine Jat (Za9 I.i.lb ?_);refine Jat (Zdg O LT (Sg.of sa) (hb _ (Jcf _)) ha (by have:=I.i.la;omega) (by have:=I.i.la;omega) (I.i.m.k.trans hs) λk hk bl av=>?_);have fa:=av.drp;have fb:=λx hx y hy=>O.tr (bl.ext x hx) (I.o.headb O I.i.lb y hy);apply hof;intro ky;refine Zas (λ_=>Zas (λe=>Ja2 ⟨I.i.m,I.i.g.exta.last,(I.o.exta fb).last hl (Zbn e) (la (Zbn e))⟩) λn1=>Zas (λe=>Ja2 ⟨I.i.m,I.i.g.exta.done,(I.o.exta fb).done (.inr (Jdv (Zbn e).symm))⟩) λn2=>?_) λz=>?_;have J:LoT le st a b _ _ _ _ _:=⟨I.i.exta (k:=k) (by have:=Zcd n1;have:=Zcd n2;have:=I.i.la;omega),I.o.exta fb⟩
     have F:=fa
     revert F J
     generalize out++a.extract ia (ia+k)=o2
     generalize ia+k=i2
     revert o2 i2
     exact ky ()
     have k0:k=0:=by simpa using z
     have F:=fa
     rw[k0,Nat.add_zero] at F
     exact ky () out ia I F
     intro out ia I fa
     refine Jat (Za9 I.i.lb ?_);have o:=I.o.pushb I.i.lb fa;refine Zas (λe=>Ja2 ⟨I.i.m,(I.i.g.pushb I.i.lb).done,o.done (.inl (Jdv (Zbn e).symm))⟩) λn3=>?_;have I:LoT le _ _ _ _ _ _ _ _:=⟨I.i.pushb n3,o⟩
     refine Jat (Za9 I.i.lia ?_);refine Jat (Zdg O LT (Sg.of sb) (ha _ (Jcf _)) hb (by have:=I.i.lb;omega) (by have:=I.i.lb;omega) (I.i.m.k.trans hs) λk1 hk1 bl1 av1=>?_);have ga:=av1.drp;have gb:=λx hx y hy=>O.tr (bl1.ext x hx) (I.o.heada O I.i.lia y hy);refine Zas (λ_=>Zas (λe=>Ja2 ⟨I.i.m,I.i.g.extb.done,(I.o.extb gb).done (.inl (Jdv (Zbn e).symm))⟩) λn4=>?_) λz1=>?_;have I:LoT le _ _ _ _ _ _ _ _:=⟨I.i.extb (k:=k1) (by have:=Zcd n4;have:=I.i.lb;omega),I.o.extb gb⟩
     rotate_left
     have k0:k1=0:=by simpa using z1
     rw[k0] at ga
     rotate_left
     all_goals
      refine Jat (Za9 I.i.lia ?_);have o:=I.o.pusha I.i.lia ga;refine Zas (λe=>Ja2 ⟨I.i.m,(I.i.g.pusha I.i.lia).last,o.last hl (Zbn e) (la (Zbn e))⟩) λn=>?_;exact Zas (λ_=>Ja2 ⟨(I.i.pusha n).le oz3,o⟩) λ_=>Ja2 ⟨rfl,(I.i.pusha n).le oz3,o⟩
    .rintro ⟨r,out,ia,ib,mg,ac,bc⟩ st1 ⟨e,I⟩;cases (e:r=none);have I:LoT le st a b out ia ib _ _:=I;exact I
    .rintro ⟨r,out,ia,ib,mg,ac,bc⟩ st1 R;cases r with
     | some o=>exact Ja2 ⟨_,rfl,R⟩
     | none=>
      dsimp only;refine Jat (Zi3 λst2 m=>?_);exact Ja2 ⟨rfl,LoT.stt R m⟩
 .rintro ⟨r,out,ia,ib,mg⟩ st1 ⟨e,I⟩;cases (e:r=none);have I:LoT le st a b out ia ib _ _:=I;have:=I.i.n;have:=I.i.sz;have:=I.i.la;have:=I.i.lb;omega
 .rintro ⟨c1,c⟩ st1 ⟨o,rfl,m,p,q⟩;exact Ja2 (h _ _ m p q)
end
end PyProof.Rows
namespace PyProof.Rows
open PySem
section
variable {prog:Program}{w:World}{A:Around}{E:Value->Shared->Prop}{s:Shared}{a₀:Array Keyed}{κ:SortKind}
variable {le:Keyed->Keyed->Prop}{a b out:Array Keyed}{na nb:Nat}
def MhS (le:Keyed->Keyed->Prop)(a b out:Array Keyed)(na nb:Nat):Prop:=(a.toList.take na++out.toList.reverse).Pairwise le/\(b.toList.take nb++out.toList.reverse).Pairwise le
theorem MhS.swap (h:MhS le a b out na nb):MhS le b a out nb na:=⟨h.2,h.1⟩
theorem MhS.exta {k:Nat}(hk:k<=na)(h:MhS le a b out na nb)(f:∀ x∈b.toList.take nb,∀ y∈(a.extract k na).toList,le x y):MhS le a b (out++(a.extract k na).reverse) k nb:=by
 have e:a.toList.take na=a.toList.take k++(a.extract k na).toList:=by
  rw[Jbq,Jbb,List.take_drop,show k+(na-k)=na by exact oz9 hk];have:=(Jbx k (List.take na a.toList)).symm;rw[List.take_take,Jgs hk] at this;exact this
 have e2:(out++(a.extract k na).reverse).toList.reverse=(a.extract k na).toList++out.toList.reverse:=by
  rw[Jbi,Jd9,Jfc,List.reverse_reverse]
 have h1:=h.1;rw[e,Ja5] at h1;refine⟨by rw[e2];exact h1,?_⟩;rw[e2];exact ins2 (Jb2.1 h1).2.1 h.2 f
theorem MhS.pusha (h0:0<na)(hi:na-1<a.size)(h:MhS le a b out na nb)(f:∀ x∈b.toList.take nb,le x a[na-1]):MhS le a b (out.push a[na-1]) (na-1) nb:=by
 have e:a.toList.take na=a.toList.take (na-1)++[a[na-1]]:=by
  have:=Jha (i:=na-1) (l:=a.toList);rw[show na-1+1=na by omega,Jac (by simpa using hi)] at this;exact this
 have e2:(out.push a[na-1]).toList.reverse=[a[na-1]]++out.toList.reverse:=by
  rw[Jcn,Jfc];rfl
 have h1:=h.1;rw[e,Ja5] at h1;refine⟨by rw[e2];exact h1,?_⟩;rw[e2];exact ins2 (Jb2.1 h1).2.1 h.2 λx hx y hy=>by rw[Jas.1 hy];exact f x hx
theorem MhS.extb {k:Nat}(hk:k<=nb)(h:MhS le a b out na nb)(f:∀ x∈a.toList.take na,∀ y∈(b.extract k nb).toList,le x y):MhS le a b (out++(b.extract k nb).reverse) na k:=(h.swap.exta hk f).swap
theorem MhS.pushb (h0:0<nb)(hi:nb-1<b.size)(h:MhS le a b out na nb)(f:∀ x∈a.toList.take na,le x b[nb-1]):MhS le a b (out.push b[nb-1]) na (nb-1):=(h.swap.pusha h0 hi f).swap
theorem MhS.enda (O:Ord le)(h0:0<na)(hi:na-1<a.size)(h:MhS le a b out na nb):∀ x∈a.toList.take na,le x a[na-1]:=by
 have e:a.toList.take na=a.toList.take (na-1)++[a[na-1]]:=by
  have:=Jha (i:=na-1) (l:=a.toList);rw[show na-1+1=na by omega,Jac (by simpa using hi)] at this;exact this
 have:=(Jb2.1 h.1).1;rw[e] at this ⊢;intro x hx;rcases Jbf.1 hx with hx|hx
 .exact (Jb2.1 this).2.2 x hx _ (Jas.2 rfl)
 .rw [Jas.1 hx];exact O.rf _
theorem MhS.endb (O:Ord le)(h0:0<nb)(hi:nb-1<b.size)(h:MhS le a b out na nb):∀ x∈b.toList.take nb,le x b[nb-1]:=h.swap.enda O h0 hi
theorem Zgw {xs:Array Keyed}{l:Nat}:(xs.extract 0 l).toList=xs.toList.take l:=by
 rw[Jbq,Jbb];rfl
theorem MhS.done (h:MhS le a b out na nb)(c:na=0\/nb=0):(a.extract 0 na++b.extract 0 nb++out.reverse).toList.Pairwise le:=by
 rw[Jbi,Jbi,Jd9,Zgw,Zgw];rcases c with rfl|rfl
 .exact h.2
 .rw [Jd7,Jcy];exact h.1
theorem MhS.first {f:Keyed}(h:MhS le a b out na nb)(hf:∀ x∈a.toList,le f x)(c:nb=1)(e:b[0]?=some f):(b.extract 0 nb++a.extract 0 na++out.reverse).toList.Pairwise le:=by
 rw[Jbi,Jbi,Jd9,Zgw,Zgw,Ja5];refine ins2 h.1 h.2 λx hx y hy=>?_;subst c;obtain⟨t,ht,e'⟩:=Zms hx;rw[show 0+t=0 by omega,e] at e';cases e';exact hf y (Jdg hy)
theorem Bel.tak {key:Keyed}{xs:Array Keyed}{k:Nat}(bl:Bel le key xs 0 k):∀ x∈xs.toList.take k,le x key:=λx hx=>by
 obtain⟨t,ht,e⟩:=Zms hx;exact bl t x ht e
theorem Abv.ex0 {key:Keyed}{xs:Array Keyed}{n k:Nat}(hk:k<=n)(av:Abv le key xs 0 n k):∀ y∈(xs.extract k n).toList,le key y:=λy hy=>by
 rw[show n=k+(n-k) by omega] at hy;obtain⟨t,ht,e⟩:=Zjm hy;exact av (k+t) y ∅ ∅ (by rw[<- e,Jg3])
structure HiT (le:Keyed->Keyed->Prop)(st:SortSt)(a b out:Array Keyed)(na nb n:Nat)(st':SortSt):Prop where
 i:HiI st a b out na nb n st'
 o:MhS le a b out na nb
section
variable {st st' st2:SortSt}{n n':Nat}
theorem HiT.stt (I:HiT le st a b out na nb n st')(m:SM st' st2):HiT le st a b out na nb n st2:=⟨I.i.stt m,I.o⟩
theorem HiT.le' (I:HiT le st a b out na nb n st')(h:n'<=n):HiT le st a b out na nb n' st':=⟨I.i.le h,I.o⟩
theorem HiI.b1 (I:HiI st a b out na nb n st'):0<nb:=Jhh I.b0
end
def HiU (le:Keyed->Keyed->Prop)(st:SortSt)(a b:Array Keyed)(n:Nat)(r:Option (Array Keyed))(out:Array Keyed)(na nb:Nat)(st':SortSt):Prop:=
 match r with
 | some o=>SM st st'/\o.toList.Perm (a.toList++b.toList)/\o.toList.Pairwise le
 | none=>HiT le st a b out na nb n st'
theorem Zor {a b:Array Keyed}{st:SortSt}{Q:Array Keyed->SortSt->Prop}{l:Keyed}(O:Ord le)(LT:Zh4 prog w A E s a₀ κ le)(sa:a.toList.Pairwise le)(sb:b.toList.Pairwise le)(ha:∀ x∈a,x∈a₀)(hb:∀ x∈b,x∈a₀)(a1:1<=a.size)(b1:1<=b.size)(h0:∀ x∈a.toList,le (b[0]'(by omega)) x)(hl:∀ x∈b.toList,le x l)(el:a[a.size-1]?=some l)(hs:kindOf st=κ)(h:∀ out st',SM st st'->out.toList.Perm (a.toList++b.toList)->out.toList.Pairwise le->Q out st'):wpS (model prog w) A E s (Zni a b) Q st:=by
 have e0:b[0]?=some (b[0]'(by omega)):=Jag _;unfold Zni;refine Jat (Jhq (Jfe ⟨rfl,?_⟩));have l0:a.size-1<a.size:=∅
 refine Jat (Za9 l0 ?_);dsimp only;have m0:Mh a b #[a[a.size-1]] (a.size-1) b.size:=Mh.pusha (out:=#[]) (na:=a.size) (nb:=b.size) a1 l0 (by unfold Mh;rw[Jcc (by simp),Jcc (by simp),Jcy]);have s0:MhS le a b #[a[a.size-1]] (a.size-1) b.size:=MhS.pusha (out:=#[]) (na:=a.size) (nb:=b.size) a1 l0 ⟨by rw[Jcc (by simp)];simpa using sa,by rw[Jcc (by simp)];simpa using sb⟩ λx hx=>by
  rw[Jag l0] at el;cases el;exact hl x (Jdg hx)
 refine Zas (λe=>Ja2 (h _ _ (SM.refl _) m0.done (s0.done (.inl (Zbn e))))) λn1=>?_;refine Zas (λe=>Ja2 (h _ _ (SM.refl _) m0.first (s0.first h0 (Zbn e) e0))) λn2=>?_;have n1:=Zcd n1;have n2:=Zcd n2;refine Jat (Jgw ?_);refine Jat (Jd5 (Jcq (I:=λi c st'=>c.1=none/\HiT le st a b c.2.2.2.1 c.2.1 c.2.2.1 (i+1) st') (Q:=λc st'=>∃ o,c.1=some o/\SM st st'/\o.toList.Perm (a.toList++b.toList)/\o.toList.Pairwise le) ?_ ?_ ⟨rfl,(show HiT le st a b #[a[a.size-1]] (a.size-1) b.size _ _ from ⟨⟨SM.refl _,by simp;omega,∅,∅,∅,∅,m0,by simp⟩,s0⟩)⟩) ?_)
 .rintro i ⟨r,na,nb,out,mg⟩ st'-hi ⟨e,I⟩;cases (e:r=none);have I:HiT le st a b out na nb _ _:=I;dsimp only;refine Jat (Jd5 (Jcq (I:=λj c st'=>c.1=none/\HiT le st a b c.2.2.2.1 c.2.1 c.2.2.1 (i+1+j) st') (Q:=λc st'=>HiU le st a b (i+2) c.1 c.2.2.2.1 c.2.1 c.2.2.1 st') ?_ ?_ ⟨rfl,(show HiT le st a b out na nb _ _ from I)⟩) ?_)
  .rintro j ⟨r,na,nb,out,ac,bc⟩ st1-hj ⟨e,I⟩;cases (e:r=none);have I:HiT le st a b out na nb _ _:=I;dsimp only;refine Jat (Za9 I.i.lib ?_);refine Jat (Za9 I.i.lia ?_);refine Jat (LT _ (hb _ (Jcf _)) _ (ha _ (Jcf _)) _ (I.i.m.k.trans hs) _ λbw b1 b2=>?_);refine Zas (λe=>?_) λe=>?_
   .refine Jat (Za9 I.i.lia ?_);have o:=I.o.pusha I.i.a0 I.i.lia λy hy=>O.tr (I.o.endb O I.i.b1 I.i.lib y hy) (b1 e);refine Zas (λe=>Ja2 ⟨I.i.m,(I.i.g.pusha I.i.a0 I.i.lia).done,o.done (.inl (Zbn e))⟩) λn=>?_;exact Zas (λ_=>Ja2 ⟨(I.i.pusha n).le ∅,o⟩) λ_=>Ja2 ⟨rfl,I.i.pusha n,o⟩
   .refine Jat (Za9 I.i.lib ?_);have o:=I.o.pushb I.i.b1 I.i.lib λy hy=>O.tr (I.o.enda O I.i.a0 I.i.lia y hy) (b2 (by simpa using e));refine Zas (λe=>Ja2 ⟨I.i.m,(I.i.g.pushb I.i.b1 I.i.lib).first,o.first h0 (Zbn e) e0⟩) λn=>?_;exact Zas (λ_=>Ja2 ⟨(I.i.pushb n).le ∅,o⟩) λ_=>Ja2 ⟨rfl,I.i.pushb n,o⟩
  .rintro ⟨r,na,nb,out,ac,bc⟩ st1 ⟨e,I⟩;cases (e:r=none);have I:HiT le st a b out na nb _ _:=I;exact I.le' ∅
  .rintro ⟨r,na,nb,out,ac,bc⟩ st1 R;cases r with
   | some o=>exact Ja2 ⟨_,rfl,R⟩
   | none=>
    dsimp only;refine Jat (Jhq (Jfe ⟨rfl,?_⟩));refine Jat (Jd5 (Jcq (I:=λj c st'=>c.1=none/\HiT le st a b c.2.2.2.1 c.2.1 c.2.2.1 (i+2) st') (Q:=λc st'=>HiU le st a b (i+2) c.1 c.2.2.2.1 c.2.1 c.2.2.1 st') ?_ ?_ ⟨rfl,(show HiT le st a b out na nb _ _ from R)⟩) ?_)
    .rintro j ⟨r,na,nb,out,mg,ac,bc⟩ st1-hj ⟨e,I⟩;cases (e:r=none);have I:HiT le st a b out na nb _ _:=I;dsimp only;apply hof;intro ky;refine Znp ?_ ?_;generalize mg-1=mg'
     revert mg'
     exact ky ()
     generalize mg=mg'
     revert mg'
     exact ky ()
     intro mg';refine Jat (Zi3 λst2 m=>?_);have I:=I.stt m;refine Jat (Za9 I.i.lib ?_);refine Jat (Zdg O LT (Sg.of sa) (hb _ (Jcf _)) ha (by have:=I.i.la;omega) (by have:=I.i.a0;omega) (I.i.m.k.trans hs) λk hk bl av=>?_);have fa:=bl.tak;have fb:=λx hx y hy=>O.tr (I.o.endb O I.i.b1 I.i.lib x hx) (av.ex0 hk y hy);apply hof;intro ky;refine Zas (λ_=>Zas (λe=>Ja2 ⟨I.i.m,(I.i.g.exta hk).done,(I.o.exta hk fb).done (.inl (Zbn e))⟩) λn1=>?_) λz=>?_;have J:HiT le st a b _ _ _ _ _:=⟨I.i.exta hk (Jg4 (Zcd n1)),I.o.exta hk fb⟩
     have F:=fa
     revert F J
     generalize na-k=c
     generalize out++(a.extract k na).reverse=o2
     generalize k=n2
     revert c o2 n2
     exact ky ()
     have k0:k=na:=∅
     rw[k0] at fa
     exact ky () (na-k) out na I fa
     intro c out na I fa
     refine Jat (Za9 I.i.lib ?_);have o:=I.o.pushb I.i.b1 I.i.lib fa;refine Zas (λe=>Ja2 ⟨I.i.m,(I.i.g.pushb I.i.b1 I.i.lib).first,o.first h0 (Zbn e) e0⟩) λn3=>?_;have I:HiT le _ _ _ _ _ _ _ _:=⟨I.i.pushb n3,o⟩
     refine Jat (Za9 I.i.lia ?_);refine Jat (Zdg O LT (Sg.of sb) (ha _ (Jcf _)) hb (by have:=I.i.lb;omega) (by have:=I.i.b0;exact oz10 this) (I.i.m.k.trans hs) λk1 hk1 bl1 av1=>?_);have ga:=bl1.tak;have gb:=λx hx y hy=>O.tr (I.o.enda O I.i.a0 I.i.lia x hx) (av1.ex0 hk1 y hy);refine Zas (λ_=>Zas (λe=>Ja2 ⟨I.i.m,(I.i.g.extb hk1).first,(I.o.extb hk1 gb).first h0 (Zbn e) e0⟩) λn4=>Zas (λe=>Ja2 ⟨I.i.m,(I.i.g.extb hk1).done,(I.o.extb hk1 gb).done (.inr (Zbn e))⟩) λn5=>?_) λz1=>?_;have I:HiT le _ _ _ _ _ _ _ _:=⟨I.i.extb hk1 (by have:=Zcd n4;have:=Zcd n5;omega),I.o.extb hk1 gb⟩
     rotate_left
     have k0:k1=nb-1:=by exact oz24 hk1 z1
     rw[k0] at ga
     rotate_left
     all_goals
      refine Jat (Za9 I.i.lia ?_);have o:=I.o.pusha I.i.a0 I.i.lia ga;refine Zas (λe=>Ja2 ⟨I.i.m,(I.i.g.pusha I.i.a0 I.i.lia).done,o.done (.inl (Zbn e))⟩) λn=>?_;exact Zas (λ_=>Ja2 ⟨(I.i.pusha n).le oz3,o⟩) λ_=>Ja2 ⟨rfl,(I.i.pusha n).le oz3,o⟩
    .rintro ⟨r,na,nb,out,mg,ac,bc⟩ st1 ⟨e,I⟩;cases (e:r=none);have I:HiT le st a b out na nb _ _:=I;exact I
    .rintro ⟨r,na,nb,out,mg,ac,bc⟩ st1 R;cases r with
     | some o=>exact Ja2 ⟨_,rfl,R⟩
     | none=>
      dsimp only;refine Jat (Zi3 λst2 m=>?_);exact Ja2 ⟨rfl,HiT.stt R m⟩
 .rintro ⟨r,na,nb,out,mg⟩ st1 ⟨e,I⟩;cases (e:r=none);have I:HiT le st a b out na nb _ _:=I;have:=I.i.n;have:=I.i.sz;have:=I.i.a0;have:=I.i.b0;omega
 .rintro ⟨c1,c⟩ st1 ⟨o,rfl,m,p,q⟩;exact Ja2 (h _ _ m p q)
end
end PyProof.Rows
namespace PyProof.Rows
open PySem
section
variable {prog:Program}{w:World}{A:Around}{E:Value->Shared->Prop}{s:Shared}{a₀:Array Keyed}{κ:SortKind}
variable {le:Keyed->Keyed->Prop}
theorem Sg.mono {xs:Array Keyed}{l r r':Nat}(h:Sg le xs l r)(hr:r'<=r):Sg le xs l r':=λi j x y a b c=>h i j x y a b ∅
theorem Sg.grow {xs:Array Keyed}{l r:Nat}{x y:Keyed}(O:Ord le)(h:Sg le xs l r)(lr:l<r)(e1:xs[r-1]?=some x)(e2:xs[r]?=some y)(g:le x y):Sg le xs l (r+1):=by
 intro i j u v a b c hu hv;by_cases hj:j=r
 .subst hj;rw[e2] at hv;cases hv;by_cases hi:i=j-1
  .subst hi;rw[e1] at hu;cases hu;exact g
  .exact O.tr (h i (j-1) u x a ∅ ∅ hu e1) g
 .exact h i j u v a b (oz64 c hj) hu hv
theorem Sg.one {xs:Array Keyed}{l:Nat}:Sg le xs l (l+1):=λi j x y a b c=>∅
def Dg (le:Keyed->Keyed->Prop)(xs:Array Keyed)(l r:Nat):Prop:=Sg (λx y=>le y x) xs l r
def Al (le:Keyed->Keyed->Prop)(xs:Array Keyed)(l r:Nat):Prop:=∀ i j x y,l<=i->i<r->l<=j->j<r->xs[i]?=some x->xs[j]?=some y->le x y
theorem Ord.op (O:Ord le):Ord (λx y=>le y x):=⟨O.rf,λh h'=>O.tr h' h⟩
theorem Al.one {xs:Array Keyed}{l:Nat}(O:Ord le):Al le xs l (l+1):=λi j x y a b c d e f=>by
 obtain rfl:i=l:=∅
 obtain rfl:j=i:=∅
 rw[e] at f;cases f;exact O.rf _
theorem Al.grow {xs:Array Keyed}{l r:Nat}{x y:Keyed}(O:Ord le)(h:Al le xs l r)(lr:l<r)(e1:xs[r-1]?=some x)(e2:xs[r]?=some y)(g:le x y)(g':le y x):Al le xs l (r+1):=by
 intro i j u v a b c d hu hv;by_cases hi:i=r
 .subst hi;rw[e2] at hu;cases hu;by_cases hj:j=i
  .subst hj;rw[e2] at hv;cases hv;exact O.rf _
  .exact O.tr g' (h (i-1) j x v ∅ ∅ c (oz64 d hj) e1 hv)
 .by_cases hj:j=r
  .subst hj;rw[e2] at hv;cases hv;exact O.tr (h i (j-1) u x a (oz64 b hi) ∅ ∅ hu e1) g
  .exact h i j u v a (oz64 b hi) c (oz64 d hj) hu hv
theorem Sg.alike {xs:Array Keyed}{l r:Nat}{x y:Keyed}(O:Ord le)(h:Sg le xs l r)(lr:l<r)(e1:xs[l]?=some x)(e2:xs[r-1]?=some y)(g:le y x):Al le xs l r:=by
 have lo:∀ i u,l<=i->i<r->xs[i]?=some u->le x u:=λi u a b hu=>by
  by_cases e:i=l
  .subst e;rw[e1] at hu;cases hu;exact O.rf _
  .exact h l i x u (Jaf _) ∅ b e1 hu
 have hi:∀ i u,l<=i->i<r->xs[i]?=some u->le u y:=λi u a b hu=>by
  by_cases e:i=r-1
  .subst e;rw[e2] at hu;cases hu;exact O.rf _
  .exact h i (r-1) u y a ∅ ∅ hu e2
 intro i j u v a b c d hu hv;exact O.tr (O.tr (hi i u a b hu) g) (lo j v c d hv)
theorem Sg.turn {xs:Array Keyed}{l r i j:Nat}(h:Sg le xs l r)(hl:l<=i)(hj:j<=r)(hz:j<=xs.size)(al:Al le xs i j):Sg le (mirror xs i j ((j-i) / 2)) l r:=by
 intro a b u v la ab br hu hv;rw[Jda hz] at hu hv;by_cases ca:i<=a/\a<j
 .rw [if_pos ca] at hu;by_cases cb:i<=b/\b<j
  .rw [if_pos cb] at hv;exact al _ _ _ _ ∅ ∅ ∅ ∅ hu hv
  .rw [if_neg cb] at hv;exact h _ _ _ _ ∅ ∅ br hu hv
 .rw [if_neg ca] at hu;by_cases cb:i<=b/\b<j
  .rw [if_pos cb] at hv;exact h _ _ _ _ la ∅ ∅ hu hv
  .rw [if_neg cb] at hv;exact h _ _ _ _ la ab br hu hv
theorem Al.turn {xs:Array Keyed}{i j:Nat}(hz:j<=xs.size)(al:Al le xs i j):Al le (mirror xs i j ((j-i) / 2)) i j:=by
 intro a b u v a1 a2 b1 b2 hu hv;rw[Jda hz,if_pos ⟨a1,a2⟩] at hu;rw[Jda hz,if_pos ⟨b1,b2⟩] at hv;exact al _ _ _ _ ∅ ∅ ∅ ∅ hu hv
theorem Dg.turn {xs:Array Keyed}{i j:Nat}(hz:j<=xs.size)(d:Dg le xs i j):Sg le (mirror xs i j ((j-i) / 2)) i j:=by
 intro a b u v la ab br hu hv;rw[Jda hz,if_pos ∅] at hu;rw[Jda hz,if_pos ∅] at hv;exact d _ _ _ _ ∅ ∅ ∅ hv hu
structure SU (lo:Nat)(st st':SortSt):Prop extends SK st st' where
 u:∀ k,k<lo->(arrOf st')[k]?=(arrOf st)[k]?
theorem SU.rfl' {lo:Nat}(st:SortSt):SU lo st st:=⟨SK.refl _,λ_ _=>rfl⟩
theorem SU.trans {lo:Nat}{s1 s2 s3:SortSt}(h:SU lo s1 s2)(h':SU lo s2 s3):SU lo s1 s3:=⟨h.toSK.trans h'.toSK,λk hk=>(h'.u k hk).trans (h.u k hk)⟩
theorem Zfu {i j:Nat}{st:SortSt}{Q:Option Bool->SortSt->Prop}(LT:Zh4 prog w A E s a₀ κ le)(hs:kindOf st=κ)(ha:(arrOf st).Perm a₀)(hi:i<a₀.size)(hj:j<a₀.size)(h:∀ b x y,(arrOf st)[i]?=some x->(arrOf st)[j]?=some y->(b=true->le x y)->(b=false->le y x)->Q (some b) st):wpS (model prog w) A E s (ltAt' i j) Q st:=by
 rw[ltAt'_eq];refine Jat (Jgw ?_);have z:=ha.size_eq;refine Jat (Za9 ∅ ?_);refine Jat (Za9 ∅ ?_);exact LT _ (ha.mem_iff.1 (Jcf _)) _ (ha.mem_iff.1 (Jcf _)) _ hs _ λb h1 h2=>h b _ _ (Jag _) (Jag _) h1 h2
theorem Zm1 {st:SortSt}{lo i j:Nat}{Q:Unit->SortSt->Prop}(hl:lo<=i)(hj:j<=(arrOf st).size)(h:∀ st',SU lo st st'->arrOf st'=mirror (arrOf st) i j ((j-i) / 2)->Q () st'):wpS (model prog w) A E s (reverseSlice' i j) Q st:=
 wpS_reverse (h _ ⟨⟨rfl,mirror_perm _ _ _ _,rfl,rfl⟩,λk hk=>by
  show (mirror _ _ _ _)[k]?=_;rw[Jda hj,if_neg ∅]⟩ rfl)
theorem down_so {st:SortSt}{i j:Nat}{Q:Unit->SortSt->Prop}(h:Q () (setArr st (bubble (arrOf st) i (i-j)))):wpS (model prog w) A E s (moveDown' i j) Q st:=by
 rw[moveDown'_eq];exact Jf1 h
theorem bin_so {st:SortSt}{lo n ok:Nat}{Q:Bool->SortSt->Prop}(O:Ord le)(LT:Zh4 prog w A E s a₀ κ le)(hs:kindOf st=κ)(ha:(arrOf st).Perm a₀)(hn:lo+n<=a₀.size)(k1:1<=ok)(S:Sg le (arrOf st) lo (lo+ok))(h:∀ st',SU lo st st'->Sg le (arrOf st') lo (lo+n)->Q true st'):wpS (model prog w) A E s (binarySort' lo n ok) Q st:=by
 unfold binarySort';refine Jat (Jd5 (Jcq (I:=λi c st'=>c=(none,())/\SU lo st st'/\Sg le (arrOf st') lo (lo+i)) (Q:=λc st'=>c=(none,())/\SU lo st st'/\Sg le (arrOf st') lo (lo+n)) ?_ ?_ ⟨rfl,SU.rfl' _,S.mono ∅⟩) ?_)
 .rintro k c st' kk hk ⟨rfl,I,S⟩;dsimp only;have z:=(I.a.trans ha).size_eq;obtain⟨p,ep⟩:∃ p,(arrOf st')[lo+k]?=some p:=⟨_,Jag ∅⟩
  refine Jat (Jd5 (Jcq (I:=λi c st1=>∃ l r,c=(none,l,r)/\l<=r/\r<=k/\r-l<=k-i/\Bel le p (arrOf st') lo l/\Abv le p (arrOf st') lo k r/\st'=st1) (Q:=λc st1=>∃ l,c=(none,l,l)/\l<=k/\Bel le p (arrOf st') lo l/\Abv le p (arrOf st') lo k l/\st'=st1) ?_ ?_ ⟨_,_,rfl,Jbp _,Jaf _,∅,λi x q=>∅,λi x q1 q2=>∅,rfl⟩) ?_)
  .rintro i c st1 _ hi ⟨l,r,rfl,lr,hr,rl,B,V,rfl⟩;dsimp only;refine Zas (λg=>Ja2 ⟨_,by rw[show r=l by omega],∅,B,by rw[show l=r by omega];exact V,rfl⟩) λg=>?_;refine Jat (Zfu LT (I.k.trans hs) (I.a.trans ha) (oz11 hn hk) ∅ λb x y ex ey b1 b2=>?_);rw[ep] at ex;cases ex;have lt:lo+(l+r) / 2<(arrOf st').size:=∅
   rw[Jag lt] at ey;cases ey;refine Zas (λe=>Ja2 ⟨_,_,rfl,∅,∅,oz36 rl,B,Abv.fro O S (oz69 hr g) ∅ (b1 e),rfl⟩) λe=>Ja2 ⟨_,_,rfl,∅,hr,oz35 rl,Bel.upto O S (oz69 hr g) ∅ (b2 (by simpa using e)),V,rfl⟩
  .rintro c st1 ⟨l,r,rfl,lr,hr,rl,B,V,rfl⟩;obtain rfl:l=r:=by exact oz20 lr rl
   exact⟨_,rfl,hr,B,V,rfl⟩
  .rintro c st1 ⟨l,rfl,hl,B,V,rfl⟩;have lt:lo+k<(arrOf st').size:=∅
   have gb:=λi=>getElem?_bubble lt (lo+k-(lo+l)) ∅ i;refine Jat (down_so (Ja2 ⟨rfl,I.trans ⟨⟨rfl,bubble_perm _ _ _,rfl,rfl⟩,λi hi=>?_⟩,?_⟩))
   .show (bubble _ _ _)[i]?=_;rw[gb,if_neg ∅,if_neg ∅]
   .show Sg le (bubble _ _ _) _ _;intro i j x y q1 q2 q3 hx hy;rw[gb] at hx hy;by_cases ci:i=lo+k-(lo+k-(lo+l))
    .rw [if_pos ci,ep] at hx;cases hx;rw[if_neg ∅,if_pos ∅] at hy;exact V (j-1-lo) y (oz28 hl q2 ci) ∅ (by rw[<- hy];congr 1;exact oz49 q2 ci)
    .rw [if_neg ci] at hx;by_cases cj:j=lo+k-(lo+k-(lo+l))
     .rw [if_pos cj,ep] at hy;cases hy;rw[if_neg ∅] at hx;exact B (i-lo) x ∅ (by rw[<- hx];congr 1;exact oz9 q1)
     .rw [if_neg cj] at hy;by_cases di:lo+k-(lo+k-(lo+l))<i/\i<=lo+k
      .rw [if_pos di] at hx;rw[if_pos ∅] at hy;exact S _ _ _ _ (oz32 di) ∅ ∅ hx hy
      .rw [if_neg di] at hx;by_cases dj:lo+k-(lo+k-(lo+l))<j/\j<=lo+k
       .rw [if_pos dj] at hy;exact S _ _ _ _ ∅ (oz46 q2 ci di dj) ∅ hx hy
       .rw [if_neg dj] at hy;exact S _ _ _ _ ∅ ∅ (oz31 q3 cj dj) hx hy
 .rintro c st' ⟨rfl,I,S⟩;exact⟨rfl,I,S.mono ∅⟩
 .rintro c st' ⟨rfl,I,S⟩;exact Ja2 (h _ I S)
end
end PyProof.Rows
namespace PyProof.Rows
open PySem
section
variable {prog:Program}{w:World}{A:Around}{E:Value->Shared->Prop}{s:Shared}{a₀:Array Keyed}{κ:SortKind}
variable {le:Keyed->Keyed->Prop}
theorem Al.op {xs:Array Keyed}{l r:Nat}(h:Al le xs l r):Al (λx y=>le y x) xs l r:=λi j x y a b c d e f=>h j i y x c d a b f e
theorem Al.sg {xs:Array Keyed}{l r:Nat}(h:Al le xs l r):Sg le xs l r:=λi j x y a b c e f=>h i j x y a ∅ ∅ c e f
theorem Dg.step {xs:Array Keyed}{lo n q:Nat}{x y:Keyed}(O:Ord le)(D:Dg le xs lo (lo+n))(L:Al le xs (lo+n-(q+1)) (lo+n))(qn:q+1<=n)(hz:lo+n<xs.size)(ex:xs[lo+n]?=some x)(ey:xs[lo+n-1]?=some y)(g:le x y):Dg le (mirror xs (lo+n-(q+1)) (lo+n) ((lo+n-(lo+n-(q+1))) / 2)) lo (lo+n+1):=by
 obtain⟨u,eu⟩:∃ u,xs[lo+n-(q+1)]?=some u:=⟨_,Jag ∅⟩
 refine Sg.grow O.op (Sg.turn (le:=λx y=>le y x) D (oz21 qn) (Jaf _) ∅ L.op) ∅ (x:=u) (y:=x) ?_ ?_ (O.tr g (L _ _ _ _ ∅ ∅ ∅ (oz68 qn) ey eu))
 .rw [Jda ∅,if_pos ∅,<- eu];congr 1;exact oz19
 .rw [Jda ∅,if_neg ∅,ex]
theorem Zt7 {lo n:Nat}(h:1<=n):lo<lo+n:=∅
theorem run_so {st:SortSt}{lo nrem:Nat}{Q:Option Nat->SortSt->Prop}(O:Ord le)(LT:Zh4 prog w A E s a₀ κ le)(hs:kindOf st=κ)(ha:(arrOf st).Perm a₀)(hn:lo+nrem<=a₀.size)(h1:1<=nrem)(h:∀ n st',1<=n->n<=nrem->SU lo st st'->Sg le (arrOf st') lo (lo+n)->Q (some n) st'):wpS (model prog w) A E s (countRun' lo nrem) Q st:=by
 have z:=ha.size_eq;rw[countRun'_eq];dsimp only;refine Jat (Jd5 (Jcq (I:=λi c st'=>∃ n,c=(none,n)/\1<=n/\n=i/\Sg le (arrOf st) lo (lo+n)/\st=st') (Q:=λc st'=>∃ n,c=(none,n)/\1<=n/\n<=nrem/\Sg le (arrOf st) lo (lo+n)/\(n≠nrem->∃ x y,(arrOf st)[lo+n]?=some x/\(arrOf st)[lo+n-1]?=some y/\le x y)/\st=st') ?_ ?_ ⟨_,rfl,Jaf _,rfl,Sg.one,rfl⟩) ?_)
 .rintro i c st' _ hi ⟨n,rfl,n1,rfl,S,rfl⟩;dsimp only;refine Jat (Zfu LT hs ha (oz11 hn hi) (oz2 hn hi) λb x y ex ey b1 b2=>?_);exact Zas (λe=>Ja2 ⟨_,rfl,n1,∅,S,λ_=>⟨x,y,ex,ey,b1 e⟩,rfl⟩) λe=>Ja2 ⟨_,rfl,oz23,rfl,S.grow O (Zt7 n1) ey ex (b2 (by simpa using e)),rfl⟩
 .rintro c st' ⟨n,rfl,n1,ni,S,rfl⟩;exact⟨_,rfl,n1,∅,S,λg=>absurd ni ∅,rfl⟩
 .rintro c st' ⟨n,rfl,n1,ni,S,nx,rfl⟩;dsimp only;refine Zas (λ_=>Ja2 (h _ _ n1 ni (SU.rfl' _) S)) λe=>?_;have e:=Zcd e;obtain⟨x0,y0,ex,ey,xy⟩:=nx e;apply hof;intro ky;refine Zas (λ_=>?_) λq1=>?_;refine Jat (Zfu LT hs ha ∅ ∅ λb u v eu ev b1 b2=>?_);dsimp only;refine Zas (λ_=>Ja2 (h _ _ n1 ni (SU.rfl' _) S)) λe=>?_;have al:=S.alike O ∅ eu ev (b2 (by simpa using e));refine Jat (Zm1 (lo:=lo) (Jaf _) ∅ λst2 m am=>?_);have D:Dg le (arrOf st2) lo (lo+(n+1)):=by
   rw[am];have L:Al le (arrOf st) (lo+n-(n-1+1)) (lo+n):=by rw[show lo+n-(n-1+1)=lo by omega];exact al
   have:=Dg.step (q:=n-1) O (Al.sg (Al.op al)) L ∅ ∅ ex ey xy;rw[show lo+n-(n-1+1)=lo by omega] at this;exact this
  clear am
  revert st2
  exact ky ()
  have m:=SU.rfl' (lo:=lo) st;have D:Dg le (arrOf st) lo (lo+(n+1)):=by
   obtain rfl:n=1:=∅
   exact Sg.grow O.op Sg.one ∅ ey ex xy
  exact ky () st m D
  intro st2 m D
  refine Jat (Jhq (Jfe ⟨rfl,?_⟩));refine Jat (Jd5 (Jcq (I:=λi c st'=>∃ n q,c=(none,n,q)/\1<=n/\n=i/\q+1<=n/\n<=nrem/\Dg le (arrOf st') lo (lo+n)/\Al le (arrOf st') (lo+n-(q+1)) (lo+n)/\SU lo st st') (Q:=λc st'=>∃ n q,c=(none,n,q)/\1<=n/\q+1<=n/\n<=nrem/\Dg le (arrOf st') lo (lo+n)/\Al le (arrOf st') (lo+n-(q+1)) (lo+n)/\SU lo st st') ?_ ?_ ⟨_,_,rfl,oz23,rfl,oz47,∅,D,Al.one O,m⟩) ?_)
  .rintro i c st' _ hi ⟨n,q,rfl,n1,rfl,qn,nr,D,L,I⟩;dsimp only;have z:=(I.a.trans ha).size_eq;refine Jat (Zfu LT (I.k.trans hs) (I.a.trans ha) (oz11 hn hi) (oz2 hn hi) λb x y ex ey b1 b2=>?_);refine Zas (λe=>Zas (λ_=>?_) λq0=>?_) λe=>?_
   .refine Jat (Zm1 (lo:=lo) (oz21 qn) ∅ λst3 m am=>Ja2 ⟨_,_,rfl,oz23,rfl,oz47,oz48 hi,?_,Al.one O,I.trans m⟩);rw[am];exact D.step O L qn ∅ ex ey (b1 e)
   .exact Ja2 ⟨_,_,rfl,oz23,rfl,oz47,oz48 hi,Sg.grow O.op D (Zt7 n1) ey ex (b1 e),Al.one O,I⟩
   .refine Jat (Zfu LT (I.k.trans hs) (I.a.trans ha) (oz2 hn hi) (oz11 hn hi) λb' x' y' ex' ey' b1' b2'=>?_);rw[ey] at ex';rw[ex] at ey';cases ex';cases ey';refine Zas (λ_=>Ja2 ⟨_,_,rfl,n1,qn,nr,D,L,I⟩) λe'=>Ja2 ⟨_,_,rfl,oz23,rfl,∅,oz48 hi,Sg.grow O.op D (Zt7 n1) ey ex (b2' (by simpa using e')),?_,I⟩;rw[show lo+(n+1)-(q+1+1)=lo+n-(q+1) by exact oz8];exact L.grow O (show lo+n-(q+1)<lo+n by exact oz68 qn) ey ex (b2 (by simpa using e)) (b2' (by simpa using e'))
  .rintro c st' ⟨n,q,rfl,n1,ni,qn,nr,D,L,I⟩;exact⟨_,_,rfl,n1,qn,nr,D,L,I⟩
  .rintro c st' ⟨n,q,rfl,n1,qn,nr,D,L,I⟩;dsimp only;have z:=(I.a.trans ha).size_eq;apply hof;intro ky;refine Zas (λ_=>?_) λ_=>?_;refine Jat (Zm1 (lo:=lo) (oz21 qn) ∅ λst3 m am=>?_);have D:Dg le (arrOf st3) lo (lo+n):=by
    rw[am];exact Sg.turn (le:=λx y=>le y x) D (oz21 qn) (Jaf _) ∅ L.op
   have I:=I.trans m
   clear am m
   revert st3
   exact ky ()
   exact ky () st' D I
   intro st3 D I
   have z:=(I.a.trans ha).size_eq;refine Jat (Zm1 (lo:=lo) (Jaf _) ∅ λst4 m am=>?_);have I:=I.trans m;have S:Sg le (arrOf st4) lo (lo+n):=by
    rw[am];exact D.turn ∅
   refine Jat (Jd5 (Jcq (I:=λi c st'=>∃ n,c=(none,n)/\1<=n/\n=i/\n<=nrem/\Sg le (arrOf st') lo (lo+n)/\SU lo st st') (Q:=λc st'=>∃ n,c=(none,n)/\1<=n/\n<=nrem/\Sg le (arrOf st') lo (lo+n)/\SU lo st st') ?_ ?_ ⟨_,rfl,n1,rfl,nr,S,I⟩) ?_)
   .rintro i c st' _ hi ⟨n,rfl,n1,rfl,nr,S,I⟩;dsimp only;refine Jat (Zfu LT (I.k.trans hs) (I.a.trans ha) (oz11 hn hi) (oz2 hn hi) λb x y ex ey b1 b2=>?_);exact Zas (λ_=>Ja2 ⟨_,rfl,n1,nr,S,I⟩) λe=>Ja2 ⟨_,rfl,oz23,rfl,oz48 hi,S.grow O (Zt7 n1) ey ex (b2 (by simpa using e)),I⟩
   .rintro c st' ⟨n,rfl,n1,ni,nr,S,I⟩;exact⟨_,rfl,n1,nr,S,I⟩
   .rintro c st' ⟨n,rfl,n1,nr,S,I⟩;exact Ja2 (h _ _ n1 nr I S)
end
end PyProof.Rows
namespace PyProof.Rows
open PySem
section
variable {prog:Program}{w:World}{A:Around}{E:Value->Shared->Prop}{s:Shared}{a₀:Array Keyed}{κ:SortKind}
variable {le:Keyed->Keyed->Prop}
theorem Sg.list {xs:Array Keyed}{l r:Nat}(h:Sg le xs l r):(xs.extract l r).toList.Pairwise le:=by
 rw[Jc6];intro i j hi hj ij;rw[Ja0,Jco] at hi hj;rw[Jc3,Jc3,Jd6,Jd6];exact h (l+i) (l+j) _ _ ∅ ∅ ∅ (Jag _) (Jag _)
theorem Sg.far {xs ys:Array Keyed}{l r x y:Nat}(h:Sg le xs l r)(u:∀ k,k<x\/y<=k->ys[k]?=xs[k]?)(c:r<=x\/y<=l):Sg le ys l r:=by
 intro i j p q a b d hp hq;rw[u _ ∅] at hp hq;exact h i j p q a b d hp hq
theorem laid_at {b:Nat}{o:List Keyed}{xs:Array Keyed}(h:b+o.length<=xs.size)(k:Nat):(o.zipIdx.foldl (λa (pj:Keyed×Nat)=>a.setIfInBounds (b+pj.2) pj.1) xs)[k]?=if b<=k/\k<b+o.length then o[k-b]? else xs[k]?:=by
 rw[<- Jca,laid o 0 xs ∅,Nat.add_zero,<- Jca];have lt:(xs.toList.take b).length=b:=by rw[Ja4,Ja0];omega
 by_cases c:k<b
 .rw [if_neg ∅,Jba ∅,List.getElem?_take_of_lt c]
 .rw [Jbc ∅,lt];by_cases d:k<b+o.length
  .rw [if_pos ∅,Jba ∅]
  .rw [if_neg ∅,Jbc ∅,List.getElem?_drop];congr 1;omega
theorem Sg.three {xs ys:Array Keyed}{l b c r:Nat}{o:List Keyed}(lb:l<=b)(cr:c<=r)(oc:b+o.length=c)(g:∀ k,ys[k]?=if b<=k/\k<b+o.length then o[k-b]? else xs[k]?)(so:o.Pairwise le)(s1:Sg le xs l b)(s2:Sg le xs c r)(x1:∀ i x y,l<=i->i<b->xs[i]?=some x->y∈o->le x y)(x2:∀ i x y,c<=i->i<r->xs[i]?=some x->y∈o->le y x)(x3:∀ i j x y,l<=i->i<b->c<=j->j<r->xs[i]?=some x->xs[j]?=some y->le x y):Sg le ys l r:=by
 intro i j x y li ij jr hx hy;rw[g] at hx hy;by_cases ci:b<=i/\i<b+o.length
 .rw [if_pos ci] at hx;by_cases cj:b<=j/\j<b+o.length
  .rw [if_pos cj] at hy;obtain⟨h1,rfl⟩:=Jak.1 hx;obtain⟨h2,rfl⟩:=Jak.1 hy;exact Jc6.1 so _ _ h1 h2 ∅
  .rw [if_neg cj] at hy;exact x2 j y x ∅ jr hy (Jai hx)
 .rw [if_neg ci] at hx;by_cases cj:b<=j/\j<b+o.length
  .rw [if_pos cj] at hy;exact x1 i x y li ∅ hx (Jai hy)
  .rw [if_neg cj] at hy;by_cases d:i<b
   .by_cases f:j<b
    .exact s1 i j x y li ij f hx hy
    .exact x3 i j x y li d ∅ jr hx hy
   .exact s2 i j x y ∅ ij jr hx hy
theorem Zos {st:SortSt}{i sa na pw sb nb pw':Nat}{Q:Bool->SortSt->Prop}(O:Ord le)(LT:Zh4 prog w A E s a₀ κ le)(hs:kindOf st=κ)(ha:(arrOf st).Perm a₀)(hf:failedOf st=none)(p1:(pendingOf st)[i]?=some (sa,na,pw))(p2:(pendingOf st)[i+1]?=some (sb,nb,pw'))(hb:sb=sa+na)(na1:1<=na)(nb1:1<=nb)(hz:sb+nb<=a₀.size)(SA:Sg le (arrOf st) sa (sa+na))(SB:Sg le (arrOf st) sb (sb+nb))(h:∀ st',kindOf st'=κ->(arrOf st').Perm a₀->failedOf st'=none->pendingOf st'=((pendingOf st).setIfInBounds i (sa,na+nb,pw)).eraseIdxIfInBounds (i+1)->(∀ k,k<sa\/sb+nb<=k->(arrOf st')[k]?=(arrOf st)[k]?)->Sg le (arrOf st') sa (sa+(na+nb))->Q true st'):wpS (model prog w) A E s (mergeAt' i) Q st:=by
 have z:=ha.size_eq;have mm:∀ x∈arrOf st,x∈a₀:=λx hx=>ha.mem_iff.1 hx;unfold mergeAt';refine Jat (Jgw ?_);dsimp only;rw[p1,p2];dsimp only;refine Jat (set_ok ?_);obtain⟨kb,ekb⟩:∃ x,(arrOf st)[sb]?=some x:=⟨_,Jag ∅⟩
 obtain⟨kl,ekl⟩:∃ x,(arrOf st)[sa+na-1]?=some x:=⟨_,Jag ∅⟩
 have headB:∀ i x,sb<=i->i<sb+nb->(arrOf st)[i]?=some x->le kb x:=λi x q1 q2 hx=>by
  by_cases e:i=sb
  .subst e;rw[ekb] at hx;cases hx;exact O.rf _
  .exact SB sb i kb x (Jaf _) ∅ q2 ekb hx
 have endA:∀ i x,sa<=i->i<sa+na->(arrOf st)[i]?=some x->le x kl:=λi x q1 q2 hx=>by
  by_cases e:i=sa+na-1
  .subst e;rw[ekl] at hx;cases hx;exact O.rf _
  .exact SA i (sa+na-1) x kl q1 ∅ ∅ hx ekl
 have all:(∀ i j x y,sa<=i->i<sa+na->sb<=j->j<sb+nb->(arrOf st)[i]?=some x->(arrOf st)[j]?=some y->le x y)->Sg le (arrOf st) sa (sa+(na+nb)):=λf i j x y q1 q2 q3 hx hy=>by
  by_cases ci:i<sa+na
  .by_cases cj:j<sa+na
   .exact SA i j x y q1 q2 cj hx hy
   .exact f i j x y q1 ci ∅ ∅ hx hy
  .exact SB i j x y ∅ q2 ∅ hx hy
 refine Jat (Za9 (arr:=arrOf st) ∅ ?_);have ekb':(arrOf st)[sb]'(by omega)=kb:=by rw[Jag ∅] at ekb;exact Jbn ekb
 refine Jat (Zdg (arr:=arrOf st) O LT SA (mm _ (Jcf _)) mm ∅ ∅ hs λk hk bl av=>?_);rw[ekb'] at bl av;dsimp only;refine Zas (λe=>Ja2 (h _ hs ha hf rfl (λ_ _=>rfl) (all λi j x y q1 q2 q3 q4 hx hy=>O.tr (bl (i-sa) x (by have:=Zbn e;omega) (by rw[<- hx];congr 1;exact oz9 q1)) (headB j y q3 q4 hy)))) λn1=>?_;have n1:=Zcd n1;refine Jat (Za9 (arr:=arrOf st) (oz33 hb nb1 hz z hk) ?_);have ekl':(arrOf st)[sa+k+(na-k)-1]'(oz33 hb nb1 hz z hk)=kl:=by
  have:=ekl;rw[show sa+na-1=sa+k+(na-k)-1 by exact oz22 hk,Jag (oz33 hb nb1 hz z hk)] at this;exact Jbn this
 refine Jat (Zdg (arr:=arrOf st) O LT SB (mm _ (Jcf _)) mm ∅ ∅ hs λk' hk' bl' av'=>?_);rw[ekl'] at bl' av';dsimp only;refine Zas (λe=>Ja2 (h _ hs ha hf rfl (λ_ _=>rfl) (all λi j x y q1 q2 q3 q4 hx hy=>O.tr (endA i x q1 q2 hx) (av' (j-sb) y (by have:=Zbn e;omega) (oz37 q3 q4) (by rw[<- hy];congr 1;exact oz9 q3))))) λn2=>?_;have n2:=Zcd n2;have mx:∀ b e,∀ x∈(arrOf st).extract b e,x∈a₀:=λb e x hx=>mm x (by rw[<- Jgg,Jbq,Jbb] at hx;exact Jgg.1 (Jea (Jdg hx)));have la:((arrOf st).extract (sa+k) sb).toList.Pairwise le:=Sg.list λi j x y q1 q2 q3=>SA i j x y (oz62 q1) q2 ∅;have lb:((arrOf st).extract sb (sb+k')).toList.Pairwise le:=Sg.list λi j x y q1 q2 q3=>SB i j x y ∅ q2 ∅;have za:1<=((arrOf st).extract (sa+k) sb).size:=by rw[Jco];exact oz14 hb hz z n1
 have zb:1<=((arrOf st).extract sb (sb+k')).size:=by rw[Jco];exact oz4 hz z hk' n2
 have ina:∀ x∈((arrOf st).extract (sa+k) sb).toList,∃ i,sa+k<=i/\i<sb/\(arrOf st)[i]?=some x:=λx hx=>by
  rw[show sb=sa+k+(na-k) by omega] at hx;obtain⟨t,ht,e⟩:=Zjm hx;exact⟨_,∅,∅,e⟩
 have inb:∀ x∈((arrOf st).extract sb (sb+k')).toList,∃ i,sb<=i/\i<sb+k'/\(arrOf st)[i]?=some x:=λx hx=>by
  obtain⟨t,ht,e⟩:=Zjm hx;exact⟨_,∅,∅,e⟩
 have h0:∀ x∈((arrOf st).extract (sa+k) sb).toList,le (((arrOf st).extract sb (sb+k'))[0]'zb) x:=λx hx=>by
  obtain⟨i,q1,q2,e⟩:=ina x hx;rw[Jd6];have:(arrOf st)[sb+0]'(by omega)=kb:=ekb';rw[this];exact av (i-sa) x (oz30 q1) ∅ (by rw[<- e];congr 1;exact oz17 q1)
 have hl:∀ x∈((arrOf st).extract sb (sb+k')).toList,le x kl:=λx hx=>by
  obtain⟨i,q1,q2,e⟩:=inb x hx;exact bl' (i-sb) x (oz37 q1 q2) (by rw[<- e];congr 1;exact oz9 q1)
 have el:((arrOf st).extract (sa+k) sb)[((arrOf st).extract (sa+k) sb).size-1]?=some kl:=by
  rw[Jag ∅,Jd6];have e2:sa+k+(((arrOf st).extract (sa+k) sb).size-1)=sa+na-1:=by rw[Jco];exact oz5 hb hz z n1
  rw[<- ekl,<- e2,Jag (by rw[e2];omega)]
 have fin:∀ (o:Array Keyed),o.toList.Perm (((arrOf st).extract (sa+k) sb).toList++((arrOf st).extract sb (sb+k')).toList)->o.toList.Pairwise le->(∀ t,t<sa\/sb+nb<=t->(o.toList.zipIdx.foldl (λa (pj:Keyed×Nat)=>a.setIfInBounds (sa+k+pj.2) pj.1) (arrOf st))[t]?=(arrOf st)[t]?)/\Sg le (o.toList.zipIdx.foldl (λa (pj:Keyed×Nat)=>a.setIfInBounds (sa+k+pj.2) pj.1) (arrOf st)) sa (sa+(na+nb)):=λo pm so=>by
  have lo:o.toList.length=na-k+k':=by
   rw[pm.length_eq,Jaq,Ja0,Ja0,Jco,Jco];exact oz1 hb hz z hk'
  have g:=λt=>laid_at (b:=sa+k) (o:=o.toList) (xs:=arrOf st) ∅ t;have mo:∀ y∈o.toList,le kb y/\le y kl:=λy hy=>by
   rcases Jbf.1 (pm.mem_iff.1 hy) with hy|hy
   .obtain ⟨i,q1,q2,e⟩:=ina y hy;exact⟨av (i-sa) y (oz30 q1) ∅ (by rw[<- e];congr 1;exact oz17 q1),endA i y (oz62 q1) ∅ e⟩
   .obtain ⟨i,q1,q2,e⟩:=inb y hy;exact⟨headB i y q1 ∅ e,bl' (i-sb) y (oz37 q1 q2) (by rw[<- e];congr 1;exact oz9 q1)⟩
  refine⟨λt ht=>by rw[g,if_neg ∅],?_⟩;have up:∀ i x,sb+k'<=i->i<sb+nb->(arrOf st)[i]?=some x->le kl x:=λi x q1 q2 hx=>av' (i-sb) x (oz30 q1) ∅ (by rw[<- hx];congr 1;exact oz17 q1);have dn:∀ i x,sa<=i->i<sa+k->(arrOf st)[i]?=some x->le x kb:=λi x q1 q2 hx=>bl (i-sa) x (oz37 q1 q2) (by rw[<- hx];congr 1;exact oz9 q1);refine Sg.three (b:=sa+k) (c:=sb+k') ∅ ∅ ∅ g so (SA.mono ∅) (λi j x y q1 q2 q3=>SB i j x y (oz62 q1) q2 ∅) (λi x y q1 q2 hx hy=>O.tr (dn i x q1 q2 hx) (mo y hy).1) (λi x y q1 q2 hx hy=>O.tr (mo y hy).2 (up i x q1 ∅ hx)) λi j x y q1 q2 q3 q4 hx hy=>O.tr (dn i x q1 q2 hx) (headB j y (oz62 q3) ∅ hy)
 refine Zas (λ_=>?_) λ_=>?_
 .refine Jat (Zoq (a:=(arrOf st).extract _ _) (b:=(arrOf st).extract _ _) O LT la lb (mx _ _) (mx _ _) za zb h0 hl el hs λo st1 m pm so=>?_);refine Jat (Jf1 ?_);refine Jat (Jgw ?_);have hf1:=m.f.trans hf;rw[show (failedOf st1).isNone=true by rw[hf1];rfl];have ea:=m.a;obtain⟨f1,f2⟩:=fin o pm so;refine Ja2 (h _ (m.k.trans hs) (Array.Perm.trans ?_ ha) hf1 m.p ?_ ?_)
  .show (o.toList.zipIdx.foldl (λa (pj:Keyed×Nat)=>a.setIfInBounds (sa+k+pj.2) pj.1) (arrOf st1)).Perm _;rw[ea];exact Zkh ∅ ∅ (by show _<=(arrOf st).size;omega) pm
  .intro t ht;show (o.toList.zipIdx.foldl (λa (pj:Keyed×Nat)=>a.setIfInBounds (sa+k+pj.2) pj.1) (arrOf st1))[t]?=_;rw[ea];exact f1 t ht
  .show Sg le (o.toList.zipIdx.foldl (λa (pj:Keyed×Nat)=>a.setIfInBounds (sa+k+pj.2) pj.1) (arrOf st1)) _ _;rw[ea];exact f2
 .refine Jat (Zor (a:=(arrOf st).extract _ _) (b:=(arrOf st).extract _ _) O LT la lb (mx _ _) (mx _ _) za zb h0 hl el hs λo st1 m pm so=>?_);refine Jat (Jf1 ?_);refine Jat (Jgw ?_);have hf1:=m.f.trans hf;rw[show (failedOf st1).isNone=true by rw[hf1];rfl];have ea:=m.a;obtain⟨f1,f2⟩:=fin o pm so;refine Ja2 (h _ (m.k.trans hs) (Array.Perm.trans ?_ ha) hf1 m.p ?_ ?_)
  .show (o.toList.zipIdx.foldl (λa (pj:Keyed×Nat)=>a.setIfInBounds (sa+k+pj.2) pj.1) (arrOf st1)).Perm _;rw[ea];exact Zkh ∅ ∅ (by show _<=(arrOf st).size;omega) pm
  .intro t ht;show (o.toList.zipIdx.foldl (λa (pj:Keyed×Nat)=>a.setIfInBounds (sa+k+pj.2) pj.1) (arrOf st1))[t]?=_;rw[ea];exact f1 t ht
  .show Sg le (o.toList.zipIdx.foldl (λa (pj:Keyed×Nat)=>a.setIfInBounds (sa+k+pj.2) pj.1) (arrOf st1)) _ _;rw[ea];exact f2
end
end PyProof.Rows
namespace PyProof.Rows
open PySem
section
variable {prog:Program}{w:World}{A:Around}{E:Value->Shared->Prop}{s:Shared}{a₀:Array Keyed}{κ:SortKind}
variable {le:Keyed->Keyed->Prop}
def Rn (le:Keyed->Keyed->Prop)(xs:Array Keyed)(l:List (Nat×Nat×Nat)):Prop:=∀ r∈l,Sg le xs r.1 (r.1+r.2.1)
theorem Ch.mem:∀ {l:List (Nat×Nat×Nat)} {a b:Nat},Ch a l b->∀ r∈l,a<=r.1/\r.1+r.2.1<=b
 | [],_,_,_,r,hr=>by cases hr
 | (s,n,p)::l,a,b,h,r,hr=>by
  obtain⟨e,g,c⟩:=h;subst e;rcases Jao.1 hr with rfl|hr
  .exact ⟨Jaf _,c.le⟩
  .have:=c.mem r hr;exact⟨∅,this.2⟩
theorem Ch.len:∀ {l:List (Nat×Nat×Nat)} {a b:Nat},Ch a l b->a+l.length<=b
 | [],_,_,h=>Jdv h
 | (_,_,_)::_,_,_,h=>by have:=h.2.2.len;have:=h.2.1;rw[Jau];omega
theorem Rn.two {xs ys:Array Keyed}:∀ {l:List (Nat×Nat×Nat)} {a b i sa na pw sb nb pw':Nat},Ch a l b->l[i]?=some (sa,na,pw)->l[i+1]?=some (sb,nb,pw')->Rn le xs l->(∀ k,k<sa\/sb+nb<=k->ys[k]?=xs[k]?)->Sg le ys sa (sa+(na+nb))->Rn le ys ((l.set i (sa,na+nb,pw)).eraseIdx (i+1))
 | [],_,_,_,_,_,_,_,_,_,_,h1,_,_,_,_=>by simp at h1
 | [_],_,_,0,_,_,_,_,_,_,_,_,h2,_,_,_=>by simp at h2
 | [_],_,_,_+1,_,_,_,_,_,_,_,h1,_,_,_,_=>by simp at h1
 | (s,n,p)::(s',n',p')::l,a,b,0,sa,na,pw,sb,nb,pw',h,h1,h2,R,u,S=>by
  cases Jbn h1;cases Jbn h2;obtain⟨e,g,e',g',c⟩:=h;subst e;subst e';intro r hr;rcases Jao.1 (show r∈(s,n+n',p)::l from hr) with rfl|hr
  .exact S
  .exact (R r (.tail _ (.tail _ hr))).far u (.inr (c.mem r hr).1)
 | (s,n,p)::x::l,a,b,i+1,sa,na,pw,sb,nb,pw',h,h1,h2,R,u,S=>by
  have q:=Rn.two h.2.2 h1 h2 (λr hr=>R r (.tail _ hr)) u S;intro r hr;rcases Jao.1 (show r∈(s,n,p)::((x::l).set i (sa,na+nb,pw)).eraseIdx (i+1) from hr) with rfl|hr
  .refine (R _ (.head _)).far u (.inl ?_);have:=(h.2.2.mem (sa,na,pw) (Jai h1)).1;have:=h.1;dsimp only at *;omega
  .exact q r hr
theorem Rn.modify {xs:Array Keyed}{f:Nat×Nat×Nat->Nat×Nat×Nat}(hf:∀ s n p,∃ q,f (s,n,p)=(s,n,q)):∀ {l:List (Nat×Nat×Nat)} {i:Nat},Rn le xs l->Rn le xs (l.modify i f)
 | [],i,h=>by cases i <;> exact h
 | (s,n,p)::l,0,h=>by
  obtain⟨q,e⟩:=hf s n p;show Rn le xs (f (s,n,p)::l);rw[e];intro r hr;rcases Jao.1 hr with rfl|hr
  .exact h (s,n,p) (.head _)
  .exact h r (.tail _ hr)
 | (s,n,p)::l,i+1,h=>by
  intro r hr;rcases Jao.1 (show r∈(s,n,p)::l.modify i f from hr) with rfl|hr
  .exact h _ (.head _)
  .exact Rn.modify hf (λr hr=>h r (.tail _ hr)) r hr
theorem Rn.push {xs:Array Keyed}{l:List (Nat×Nat×Nat)}{b n p:Nat}(h:Rn le xs l)(S:Sg le xs b (b+n)):Rn le xs (l++[(b,n,p)]):=by
 intro r hr;rcases Jbf.1 hr with hr|hr
 .exact h r hr
 .rw [Jas.1 hr];exact S
structure SJ (le:Keyed->Keyed->Prop)(κ:SortKind)(a₀:Array Keyed)(lo:Nat)(st:SortSt):Prop where
 i:SI κ a₀ lo st
 o:Rn le (arrOf st) (pendingOf st).toList
theorem SJ.su {lo:Nat}{st st':SortSt}(I:SJ le κ a₀ lo st)(m:SU lo st st'):SJ le κ a₀ lo st':=⟨I.i.sk m.toSK,by
 rw[m.p];exact λr hr=>(I.o r hr).far (x:=lo) (y:=(arrOf st').size+(arrOf st).size+r.1+1+lo) (λk hk=>hk.elim (m.u k) λg=>by rw[Jd3 ∅,Jd3 ∅]) (.inl (I.i.c.mem r hr).2)⟩
theorem SJ.merge {lo i:Nat}{st:SortSt}{Q:Bool->SortSt->Prop}(O:Ord le)(LT:Zh4 prog w A E s a₀ κ le)(I:SJ le κ a₀ lo st)(hl:lo<=a₀.size)(hi:i+1<(pendingOf st).size)(h:∀ st',SJ le κ a₀ lo st'->(pendingOf st').size+1=(pendingOf st).size->(∀ k,lo<=k->(arrOf st')[k]?=(arrOf st)[k]?)->Q true st'):wpS (model prog w) A E s (mergeAt' i) Q st:=by
 obtain⟨⟨sa,na,pw⟩,e1⟩:∃ x,(pendingOf st)[i]?=some x:=⟨_,Jag ∅⟩
 obtain⟨⟨sb,nb,pw'⟩,e2⟩:∃ x,(pendingOf st)[i+1]?=some x:=⟨_,Jag hi⟩
 have f1:(pendingOf st).toList[i]?=some (sa,na,pw):=by rw[Jca];exact e1
 have f2:(pendingOf st).toList[i+1]?=some (sb,nb,pw'):=by rw[Jca];exact e2
 obtain⟨q1,q2,q3,q4,q5⟩:=I.i.c.two f1 f2;refine Zos O LT I.i.k I.i.a I.i.f e1 e2 q1 q2 q3 ∅ (I.o _ (Jai f1)) (I.o _ (Jai f2)) λst' k a f p u S=>h _ ⟨⟨k,a,f,?_⟩,?_⟩ ?_ λt ht=>u t (.inr ∅)
 .rw [p,Zfx];exact q5
 .rw [p,Zfx];exact Rn.two I.i.c f1 f2 I.o u S
 .have:(pendingOf st').toList.length+1=(pendingOf st).toList.length:=by
   rw[p,Zfx,List.length_eraseIdx,Jev,Ja0,if_pos hi];omega
  simpa using this
theorem Sg.keep {xs ys:Array Keyed}{l r:Nat}(h:Sg le xs l r)(u:∀ k,l<=k->ys[k]?=xs[k]?):Sg le ys l r:=λi j x y a b c hx hy=>h i j x y a b c (by rw[<- u i a];exact hx) (by rw[<- u j ∅];exact hy)
theorem Zpx {st:SortSt}{Q:Unit->SortSt->Prop}(O:Ord le)(LT:Zh4 prog w A E s a₀ κ le)(hs:kindOf st=κ)(ha:(arrOf st).Perm a₀)(hf:failedOf st=none)(hp:pendingOf st=#[])(h:∀ st',(arrOf st').Perm a₀->failedOf st'=none->(arrOf st').toList.Pairwise le->Q () st'):wpS (model prog w) A E s sortRuns' Q st:=by
 rw[sortRuns'_eq];refine Jat (Jgw ?_);dsimp only;rw[ha.size_eq];generalize minRun' _ _ _=mr;refine Jat (Jd5 (Jcq (I:=λi c st'=>∃ lo,c=(none,lo)/\lo<=a₀.size/\i<=lo/\SJ le κ a₀ lo st') (Q:=λc st'=>c=(none,a₀.size)/\SJ le κ a₀ a₀.size st') ?_ ?_ ⟨0,rfl,Jbp _,Jaf _,⟨hs,ha,hf,by rw[hp];rfl⟩,by rw[hp];intro r hr;cases hr⟩) ?_)
 .rintro i c st' _ hi ⟨lo,rfl,hl,il,I⟩;dsimp only;refine Zas (λg=>Ja2 ⟨by rw[show lo=a₀.size by omega],by rw[show a₀.size=lo by omega];exact I⟩) λg=>?_;refine Jat (run_so O LT I.i.k I.i.a ∅ ∅ λn st1 n1 n2 m S=>?_);have I:=I.su m;dsimp only;apply hof;intro ky;refine Zas (λq=>?_) λq=>?_;refine Jat (Jhq (Jfe ⟨rfl,?_⟩));refine Jat (bin_so O LT I.i.k I.i.a ∅ n1 S λst1 m S=>?_);rw[if_neg ⇑0];have I:=I.su m;have n1:1<=min (a₀.size-lo) mr:=∅
  have n2:min (a₀.size-lo) mr<=a₀.size-lo:=Nat.min_le_left _ _;generalize min (a₀.size-lo) mr=n at n1 n2 S ⊢
  revert S n2 n1 I
  clear m
  revert st1 n
  exact ky ()
  exact ky () st1 n I n1 n2 S
  intro st1 n I n1 n2 S
  refine Jat (Jgw ?_);rcases hb:(pendingOf st1).back? with _|⟨s1,m1,p1⟩
  .exact Jat (Jf1 (Ja2 ⟨_,rfl,oz45 g n2,∅,⟨I.i.k,I.i.a,I.i.f,by show Ch 0 ((pendingOf st1).push _).toList _;rw[Jcn];exact I.i.c.push n1⟩,by show Rn le (arrOf st1) ((pendingOf st1).push _).toList;rw[Jcn];exact I.o.push S⟩))
  .dsimp only;refine Jat (Jd5 (Jcq (I:=λ_ c st'=>c=(none,())/\SJ le κ a₀ lo st'/\Sg le (arrOf st') lo (lo+n)) (Q:=λc st'=>c=(none,())/\SJ le κ a₀ lo st'/\Sg le (arrOf st') lo (lo+n)) ?_ (λ_ _ h=>h) ⟨rfl,I,S⟩) ?_)
   .rintro j c st2 _ hj ⟨rfl,I,S⟩;refine Jat (Jgw ?_);by_cases hz:(pendingOf st2).size > 1
    .obtain ⟨⟨x1,x2,x3⟩,e⟩:∃ x,(pendingOf st2)[(pendingOf st2).size-2]?=some x:=⟨_,Jag ∅⟩
     rw[if_pos hz,e];dsimp only;refine Zas (λ_=>Ja2 ⟨rfl,I,S⟩) λ_=>?_;refine Jat (I.merge O LT hl (oz61 hz) λst3 I _ u=>?_);rw[if_neg ⇑0];exact Ja2 ⟨rfl,I,S.keep u⟩
    .rw [if_neg hz];exact Ja2 ⟨rfl,I,S⟩
   .rintro c st2 ⟨rfl,I,S⟩;refine Jat (Jf1 ?_);refine Jat (Jf1 (Ja2 ⟨_,rfl,oz45 g n2,∅,⟨I.i.k,I.i.a,I.i.f,?_⟩,?_⟩))
    .show Ch 0 (((pendingOf st2).modify _ _).push _).toList _;rw[Jcn,Array.toList_modify];exact (I.i.c.modify λ_ _ _=>⟨_,rfl⟩).push n1
    .show Rn le (arrOf st2) (((pendingOf st2).modify _ _).push _).toList;rw[Jcn,Array.toList_modify];exact (I.o.modify λ_ _ _=>⟨_,rfl⟩).push S
 .rintro c st' ⟨lo,rfl,hl,il,I⟩;obtain rfl:lo=a₀.size:=∅
  exact⟨rfl,I⟩
 .rintro c st' ⟨rfl,I⟩;dsimp only;refine Jat (Jd5 (Jcq (I:=λi c st'=>c=(none,())/\SJ le κ a₀ a₀.size st'/\(pendingOf st').size<=max 1 (a₀.size-i)) (Q:=λc st'=>c=(none,())/\SJ le κ a₀ a₀.size st'/\(pendingOf st').size<=1) ?_ ?_ ⟨rfl,I,by have:=I.i.c.len;rw[Ja0] at this;omega⟩) ?_)
  .rintro j c st2 _ hj ⟨rfl,I,pz⟩;refine Jat (Jgw ?_);refine Zas (λhz=>Ja2 ⟨rfl,I,hz⟩) λhz=>?_;have cc:∀ (c:Prop) [Decidable c] (i:Nat),(if c then i-1 else i)<=i:=λc _ i=>by split <;> omega
   refine Jat (I.merge O LT (Jaf _) (Jfk (Je9 (cc _ _)) ∅) λst3 I ps _=>?_);rw[if_neg ⇑0];exact Ja2 ⟨rfl,I,oz60 pz ps⟩
  .rintro c st2 ⟨rfl,I,pz⟩;exact⟨rfl,I,∅⟩
  .rintro c st2 ⟨rfl,I,pz⟩;refine Ja2 (h _ I.i.a I.i.f ?_);have z:=I.i.a.size_eq;have all:Sg le (arrOf st2) 0 a₀.size:=by
    have c:=I.i.c;have o:=I.o;have pl:(pendingOf st2).toList.length<=1:=by rw[Ja0];exact pz
    revert c o pl
    generalize (pendingOf st2).toList=l;intro c o pl
    match l,c,o,pl with
    | [],c,o,_=>exact λi j x y q1 q2 q3=>by have:0=a₀.size:=c;omega
    | [(s,n,p)],c,o,_=>
     have:=o _ (.head _);obtain⟨e,_,e2⟩:=c;dsimp only at this;subst e;rw[show 0+n=a₀.size from e2] at this;exact this
    | _::_::_,_,_,pl=>simp at pl
   have:=all.list;rw[<- z,Zhz] at this;simpa using this
end
end PyProof.Rows
namespace St
open PySem PyProof.Rows PySem.W
def lexle:List Int->List Int->Prop
 | [],_=>True
 | _::_,[]=>False
 | a::k,b::k'=>a<b\/(a=b/\lexle k k')
theorem lexle.rf:∀ k,lexle k k
 | []=>trivial
 | a::k=>.inr ⟨rfl,lexle.rf k⟩
theorem lexle.tr:∀ {x y z:List Int},lexle x y->lexle y z->lexle x z
 | [],_,_,_,_=>trivial
 | _::_,[],_,h,_=>h.elim
 | _::_,_::_,[],_,h=>h.elim
 | a::x,b::y,c::z,h,h'=>by
  rcases h with h|⟨rfl,h⟩
  .rcases h' with h'|⟨rfl,h'⟩
   .exact .inl ∅
   .exact .inl h
  .rcases h' with h'|⟨rfl,h'⟩
   .exact .inl h'
   .exact .inr ⟨rfl,h.tr h'⟩
theorem lexle.anti:∀ {x y:List Int},lexle x y->lexle y x->x=y
 | [],[],_,_=>rfl
 | [],_::_,_,h=>h.elim
 | _::_,[],h,_=>h.elim
 | a::x,b::y,h,h'=>by
  rcases h with h|⟨rfl,h⟩
  .rcases h' with h'|⟨rfl,h'⟩ <;> omega
  .rcases h' with h'|⟨_,h'⟩
   .omega
   .rw [h.anti h']
theorem lex_uniq {l l':List (List Int)}(p:l.Perm l')(s:l.Pairwise lexle)(s':l'.Pairwise lexle):l=l':=by
 induction l generalizing l' with
 | nil=>exact (List.nil_perm.1 p).symm
 | cons x l ih=>
  cases l' with
  | nil=>exact absurd (List.perm_nil.1 p) (by simp)
  | cons y l'=>
   have xy:x=y:=by
    have hx:x∈y::l':=p.mem_iff.1 (.head _);have hy:y∈x::l:=p.mem_iff.2 (.head _);rcases Jao.1 hx with e|hx
    .exact e
    .rcases Jao.1 hy with e|hy
     .exact e.symm
     .exact ((Jbm.1 s).1 y hy).anti ((Jbm.1 s').1 x hx)
   subst xy;rw[ih (List.perm_cons _ |>.1 p) (Jbm.1 s).2 (Jbm.1 s').2]
section
variable {prog:Program}{w:World}{A:Around}{E:Value->Shared->Prop}{s:Shared}
theorem not_kl {k k':Int}(c:¬ k=k')(f:decide (k<k')=false):k'<k:=by
 have:¬ k<k':=by simpa using f
 omega
theorem lex_so {fin:Bool}{Q:Bool->Shared->Prop}:∀ {ks ks':List Int} {xs ys:List Value} (i:Nat),ItemsAre (intKind prog w) ks xs->ItemsAre (intKind prog w) ks' ys->fin=decide (ks.length<ks'.length)->(∀ b,(b=true->lexle ks ks')->(b=false->lexle ks' ks)->Q b s)->KatLex prog w A true fin Q (xs.zip ys) i s:=by
 intro ks ks' xs ys i h1
 induction h1 generalizing ks' ys i with
 | nil=>
  intro h2 e h;refine h _ (λ_=>trivial) λf=>?_;rw[e] at f;cases h2 with
  | nil=>trivial
  | cons _ _=>simp at f
 | @cons k v ks vs hv hvs ih=>
  intro h2 e h;cases h2 with
  | nil=>
   refine h _ (λf=>?_) λ_=>trivial;rw[e] at f;simp at f
  | @cons k' v' ks' vs' hv' hvs'=>
   obtain⟨t,e1⟩:=Jdx hv;obtain⟨u,e2⟩:=Jdx hv';subst e1 e2;refine kat_cons (wpAny_eqBool_int ?_);by_cases c:k=k'
   .subst c;rw[Jds];refine kat_yes (ih (i+1) hvs' (by rw[e];simp) λb b1 b2=>h b (λf=>.inr ⟨rfl,b1 f⟩) λf=>.inr ⟨rfl,b2 f⟩)
   .rw [show (k == k')=false by simpa using c];refine kat_no ?_;have q:Q (decide (k<k')) s:=h _ (λf=>.inl (by simpa using f)) λf=>.inl (not_kl c f);cases i with
    | zero=>exact oneLt_int q
    | succ i=>
     rw[show (true && i+1 == 0)=false by simp];refine kat_one _ _ ?_;exact wpAny_lt_int q
theorem Zkj {ks:List Int}{vs:List Value}(h:ItemsAre (intKind prog w) ks vs):vs.length=ks.length:=by
 induction h with
 | nil=>rfl
 | cons _ _ ih=>rw[Jau,Jau,ih]
theorem Zru {ks ks':List Int}{vs:List Value}(h:ItemsAre (intKind prog w) ks vs)(h':ItemsAre (intKind prog w) ks' vs):ks=ks':=by
 induction h generalizing ks' with
 | nil=>cases h';rfl
 | cons hv _ ih=>
  cases h' with
  | cons hv' hvs'=>
   obtain⟨t,e1⟩:=Jdx hv;obtain⟨u,e2⟩:=Jdx hv';rw[e1] at e2;cases e2;rw[ih hvs']
theorem key_fun {h:Heap}{k k':List Int}{x:Addr}(a:IsTupleKey (intKind prog w) h k x)(b:IsTupleKey (intKind prog w) h k' x):k=k':=by
 obtain⟨o,items,n,ho,hc,hd,hi⟩:=a;obtain⟨o',items',n',ho',hc',hd',hi'⟩:=b;rw[ho] at ho';cases ho';rw[hd] at hd';cases hd';exact Zru hi hi'
theorem Zqa {k k':List Int}{x y:Addr}{Q:Bool->Shared->Prop}(hx:IsTupleKey (intKind prog w) s.heap k x)(hy:IsTupleKey (intKind prog w) s.heap k' y)(h:∀ b,(b=true->lexle k k')->(b=false->lexle k' k)->Q b s):wpAny (model prog w) A (keyLt' (tuples' true) (.ref x) (.ref y)) Q E s:=by
 obtain⟨o,items,n,ho,hc,hd,hi⟩:=hx;obtain⟨o',items',n',ho',hc',hd',hi'⟩:=hy;refine kat_lt ho hd ho' hd' (lex_so 0 hi hi' ?_ h);have e1:=Zkj hi;have e2:=Zkj hi';rw[Ja0] at e1 e2;rw[e1,e2]
def Zuy (prog:Program)(w:World)(h:Heap)(x:Keyed)(k:List Int):Prop:=∃ a,x.1=Value.ref a/\IsTupleKey (intKind prog w) h k a
open Classical in
noncomputable def rkOf (prog:Program)(w:World)(h:Heap)(x:Keyed):List Int:=if e:∃ k,Zuy prog w h x k then choose e else []
theorem Ztc {h:Heap}{x:Keyed}{k:List Int}(e:Zuy prog w h x k):rkOf prog w h x=k:=by
 have ex:∃ k,Zuy prog w h x k:=⟨k,e⟩
 unfold rkOf;rw[dif_pos ex];obtain⟨a,e1,r1⟩:=Classical.choose_spec ex;obtain⟨b,e2,r2⟩:=e;rw[e1] at e2;cases e2;exact key_fun r1 r2
def leOf (prog:Program)(w:World)(h:Heap)(x y:Keyed):Prop:=lexle (rkOf prog w h x) (rkOf prog w h y)
theorem ord_le {h:Heap}:Ord (leOf prog w h):=⟨λ_=>lexle.rf _,λa b=>a.tr b⟩
theorem asks_so {a₀:Array Keyed}(h:∀ x∈a₀,∃ k,Zuy prog w s.heap x k):Zh4 prog w A E s a₀ (tuples' true) (leOf prog w s.heap):=by
 intro x hx y hy st hs Q hQ;obtain⟨k,kx⟩:=h x hx;obtain⟨k',ky⟩:=h y hy;have ex:=Ztc kx;have ey:=Ztc ky;obtain⟨a,e1,r1⟩:=kx;obtain⟨a',e2,r2⟩:=ky;rw[lt'_eq];refine Jat (Jgw ?_);rw[hs,e1,e2];refine Jat (Jhq (Jhp (Zqa r1 r2 λb b1 b2=>⟨rfl,?_⟩)));refine Ja2 (hQ b ?_ ?_)
 .unfold leOf;rw[ex,ey];exact b1
 .unfold leOf;rw[ex,ey];exact b2
end
end St
namespace St
open PySem PyProof.Rows PySem.W
section
variable {prog:Program}{w:World}{A:Around}{E:Value->Shared->Prop}{s:Shared}
theorem Zm9 {h:Heap}:∀ {q:List Keyed} {zs:List (List Int×Addr)},q.Pairwise (leOf prog w h)->(∀ x∈q,x.1=x.2)->q.map (·.2)=zs.map (Value.ref ·.2)->(∀ z∈zs,IsTupleKey (intKind prog w) h z.1 z.2)->(zs.map (·.1)).Pairwise lexle
 | [],[],_,_,_,_=>List.Pairwise.nil
 | [],_::_,_,_,e,_=>by simp at e
 | _::_,[],_,_,e,_=>by simp at e
 | x::q,z::zs,o,d,e,r=>by
  rw[Jaw,Jaw,Jci] at e;rw[Jaw,Jbm];refine⟨λk hk=>?_,Zm9 (Jbm.1 o).2 (λy hy=>d y (.tail _ hy)) e.2 λz hz=>r z (.tail _ hz)⟩;obtain⟨y,hy,rfl⟩:=Jan.1 hk;have:Value.ref y.2∈q.map (·.2):=by rw[e.2];exact Jan.2 ⟨y,hy,rfl⟩
  obtain⟨y',hy',e'⟩:=Jan.1 this;have l:=(Jbm.1 o).1 y' hy';unfold leOf at l;rw[Ztc (k:=z.1) ⟨z.2,(d x (.head _)).trans e.1,r z (.head _)⟩,Ztc (k:=y.1) ⟨y.2,(d y' (.tail _ hy')).trans e',r y (.tail _ hy)⟩] at l;exact l
theorem Zj3 {a:Addr}{xs:List (List Int×Addr)}{n:Nat}{P:Fin->Shared->Prop}(ho:s.heap.get? a=some (seqObj "list" (xs.map (Value.ref ·.2)).toArray n))(R:∀ x∈xs,IsTupleKey (intKind prog w) s.heap x.1 x.2/\0<x.1.length)(hz:xs.length<=300)(h:∀ (out:Array Value) (zs:List (List Int×Addr)),out.toList=zs.map (Value.ref ·.2)->zs.Perm xs->(zs.map (·.1)).Pairwise lexle->P (.done (.ret .none)) { s with heap:=sortedHeap s.heap a (xs.map (Value.ref ·.2)) out }):
  wpAny (model prog w) A (Builtin.«list.sort» ⟨[.ref a],[]⟩) P E s:=by
 rw[list_sort_plain];have ha:a<s.heap.objs.size:=Jar ho;have hsz:(xs.map (Value.ref ·.2)).toArray.size=xs.length:=by simp
 have hz':xs.length<=sizeLine:=Ja8 hz (by rw[Jc8];omega);refine Jab (listItems_at ho rfl ?_);refine Jab (Jfs ho rfl ?_ (by rw[hsz];exact hz') (Jbp _));obtain⟨e1,ho1⟩:∃ e1,(s.heap.update a (Obj.mapSeq λ_=>#[])).get? a=some (seqObj "list" #[] e1):=⟨_,get?_update_seq ho (λ_=>#[])⟩
 refine Jab (Jgx ho1 rfl ?_);refine Jab (wpAny_newTuple ?_ (by rw[Jaa];exact hz'));refine Jab (Jhr ?_ (Jbp _));refine Jby ?_;have ho6:(((s.heap.update a (Obj.mapSeq λ_=>#[])).push (seqObj "tuple" (xs.map (Value.ref ·.2)).toArray 0)).push (seqObj "list" #[] 0)).get? a=some (seqObj "list" #[] e1):=by
  rw[Jf2 _ _ _ (by rw[size_push',Jfb];exact Ja6 (Jce ha)),Jf2 _ _ _ (by rw[Jfb];exact Ja6 ha)];exact ho1
 show wpAny (model prog w) A _ P E { s with heap:=((s.heap.update a (Obj.mapSeq λ_=>#[])).push (seqObj "tuple" (xs.map (Value.ref ·.2)).toArray 0)).push (seqObj "list" #[] 0) };dsimp only;have snd:∀ {q:Array Keyed},q.Perm (pairsOf (xs.map (Value.ref ·.2)))->(q.map (·.2)).toList.Perm (xs.map (Value.ref ·.2)):=by
  intro q hq;rw[Jd4];have:(q.toList.map (·.2)).Perm ((pairsOf (xs.map (Value.ref ·.2))).toList.map (·.2)):=(Jdj.1 hq).map _;rw[Jd8] at this;refine this.trans (.of_eq ?_);rw[Jge];exact Jaf _
 by_cases h2:(xs.map (Value.ref ·.2)).toArray.size<2
 .rw [if_pos h2,if_pos h2];refine Jab (Jae ?_);rw[StateT.run_pure];refine Jab (Jae ?_);dsimp only;refine Jab (Jgx ho6 rfl ?_);refine Jab (Jfs ho6 rfl ?_ (Jbp _) (by rw[Jhb];show (pairsOf (xs.map (Value.ref ·.2))).size<=_;rw[pairsOf_size,Jaa];omega));simp only[Jdz,Jcw,Jf3];refine Jae (h _ xs ?_ (Jf5 _) ?_)
  .rw [Jd4];show (pairsOf (xs.map (Value.ref ·.2))).toList.map (·.2)=_;rw[Jd8,Jge (Jaf _)]
  .match xs,h2 with
   | [],_=>exact List.Pairwise.nil
   | [x],_=>exact List.pairwise_singleton _ _
   | _::_::_,h2=>simp at h2;omega
 .rw [if_neg h2,if_neg h2];have keep:∀ x∈xs,IsTupleKey (intKind prog w) (((s.heap.update a (Obj.mapSeq λ_=>#[])).push (seqObj "tuple" (xs.map (Value.ref ·.2)).toArray 0)).push (seqObj "list" #[] 0)) x.1 x.2/\0<x.1.length:=by
   intro x hx;obtain⟨⟨o,items,m,q1,q2,q3⟩,hl⟩:=R x hx;have ne:x.2≠a:=by
    intro e;rw[e,ho] at q1;cases q1;exact absurd q2 (by simp[seqObj])
   refine⟨⟨o,items,m,Jad _ (Jad _ ?_),q2,q3⟩,hl⟩;rw[Jgy _ _ _ _ ne];exact q1
  refine Jab (Zrn (s:={ s with heap:=((s.heap.update a (Obj.mapSeq λ_=>#[])).push (seqObj "tuple" (xs.map (Value.ref ·.2)).toArray 0)).push (seqObj "list" #[] 0) }) (by rw[hsz] at h2;omega) keep ?_);have asks:=asks_so (prog:=prog) (w:=w) (A:=A) (E:=E) (s:={ s with heap:=((s.heap.update a (Obj.mapSeq λ_=>#[])).push (seqObj "tuple" (xs.map (Value.ref ·.2)).toArray 0)).push (seqObj "list" #[] 0) }) (a₀:=pairsOf (xs.map (Value.ref ·.2))) (by
   intro x hx;have hx:x∈(pairsOf (xs.map (Value.ref ·.2))).toList:=by simpa using hx
   rw[Jd8] at hx;obtain⟨x1,x2⟩:=x;obtain⟨y,hy,e⟩:=Jan.1 (Jfj hx).1;exact⟨y.1,y.2,e.symm,(keep y hy).1⟩)
  have run:=Zpx (st:=SortSt.mk' (tuples' true) ((xs.map (Value.ref ·.2)).toArray.zip (xs.map (Value.ref ·.2)).toArray) #[] 7 none) (Q:=λ_ st'=>(arrOf st').Perm (pairsOf (xs.map (Value.ref ·.2)))/\failedOf st'=none/\(arrOf st').toList.Pairwise (leOf prog w (((s.heap.update a (Obj.mapSeq λ_=>#[])).push (seqObj "tuple" (xs.map (Value.ref ·.2)).toArray 0)).push (seqObj "list" #[] 0)))) ord_le asks rfl (Array.Perm.refl _) rfl rfl λst' p f o=>⟨p,f,o⟩
  refine Jab (Jbw run ?_ λ_ _ e=>e);rintro ⟨⟨⟩,st'⟩ s' ⟨rfl,hp,hf,ho⟩;dsimp only;refine Jab (Jgx ho6 rfl ?_);refine Jab (Jfs ho6 rfl ?_ (Jbp _) (by refine Ja8 (Jdv ((Jhb ..).trans (hp.size_eq.trans (pairsOf_size _)))) ?_;rw[Jaa];omega));rw[hf];simp only[Jdz,Jcw,Jf3];obtain⟨zs,pz,ez⟩:=Zc6 (snd hp) (xs:=xs) (f:=(Value.ref ·.2)) rfl;refine Jae (h _ zs ez pz (Zm9 ho (λx hx=>?_) (by rw[<- ez,Jd4]) λz hz=>(keep z (pz.mem_iff.1 hz)).1));have hx:x∈(pairsOf (xs.map (Value.ref ·.2))).toList:=(Jdj.1 hp).mem_iff.1 hx;rw[Jd8] at hx;obtain⟨i,hi,e⟩:=Jbl hx;rw[List.getElem_zip] at e;rw[<- e]
theorem sorted_set_so {a:Addr}{xs:List (List Int×Addr)}{t:SetTable}{Q:Value->Shared->Prop}(hh:A.handled=none)(S:SetAt prog w s.heap a xs t)(hl:t.led=!(w.params.followText "set-order"))(R:∀ x∈xs,IsTupleKey (intKind prog w) s.heap x.1 x.2/\0<x.1.length)(hz:xs.length<=256)(h:∀ s' l e (ys:List (List Int×Addr)),ys.Perm xs->(ys.map (·.1)).Pairwise lexle->(∀ b o,s.heap.get? b=some o->s'.heap.get? b=some o)->s'.gens=s.gens->s'.drawn=s.drawn->s'.os=s.os->s.toks<=s'.toks->s.heap.objs.size<=l->s'.heap.get? l=some (seqObj "list" (ys.map (Value.ref ·.2)).toArray e)->Q (.ref l) s'):
  wpAny (model prog w) A (call (.builtin "sorted") [.ref a]) Q E s:=by
 obtain⟨o,ep,ho,hex,hd⟩:=S.ex;refine Calls.call_function_entry kind_sorted plain_sorted entry_sorted (args_sorted1 _) ?_;unfold Builtin.«sorted»;refine Jab (m:=checkCount "sorted" 1 1 _) (Jae ?_);refine Jab (Zo5 (t:=t) hh ⟨⟨o,ho,hex.1,hd⟩,S.fits,S.tb.inc,S.pl,hl⟩ (by rw[es_size];omega) λs1 acc k1 g1 d1 o1 t1 z1 pm=>?_);obtain⟨zs,pz,rfl⟩:=Zc6 pm (xs:=xs) (f:=(Value.ref ·.2)) (by simp[es,ent]);refine Jab (Jhr ?_ (by rw[Jaa,pz.length_eq,Jc8];omega));have gl:(s1.heap.push (seqObj "list" (zs.map (Value.ref ·.2)).toArray 0)).get? s1.heap.objs.size=some (seqObj "list" (zs.map (Value.ref ·.2)).toArray 0):=Ja1 _ rfl;show wpAny _ _ _ _ _ { s1 with heap:=s1.heap.push (seqObj "list" (zs.map (Value.ref ·.2)).toArray 0) };have k2:∀ b o,s1.heap.get? b=some o->(s1.heap.push (seqObj "list" (zs.map (Value.ref ·.2)).toArray 0)).get? b=some o:=λb o e=>Jad _ e;have zz:(s1.heap.push (seqObj "list" (zs.map (Value.ref ·.2)).toArray 0)).objs.size=s1.heap.objs.size+1:=size_push' ..;refine Jab (Jby (Jdt slot_list_sort ⟨_,gl,rfl⟩ entry_list_sort (Zj3 (s:={ s1 with heap:=s1.heap.push (seqObj "list" (zs.map (Value.ref ·.2)).toArray 0) }) gl (λx hx=>?_) (by rw[pz.length_eq];omega) λout ys ey py so=>⟨_,rfl,?_⟩) (args_list_sort _)))
 .obtain ⟨⟨o',items,m,q1,q2,q3⟩,hlen⟩:=R x (pz.mem_iff.1 hx);exact⟨⟨o',items,m,k2 _ _ (k1 _ _ q1),q2,q3⟩,hlen⟩
 .obtain ⟨e,he⟩:=sortedHeap_at (out:=out) gl;refine Jae ⟨_,rfl,h _ _ e ys (py.trans pz) so (λb o' q=>?_) g1 d1 o1 t1 z1 ?_⟩
  .have lt:=Jar (k1 _ _ q);show (sortedHeap _ _ _ _).get? b=_;rw[sortedHeap_old (Ja6 lt) (by rw[zz];exact Jce lt)];exact k2 _ _ (k1 _ _ q)
  .rw [<- ey];exact he
end
end St
namespace L2
open PySem PySem.Spec PyProof.Rows
noncomputable def Zk4 (P:Program)(w:World)(a:Addr)(xs:List (List Int×Addr)):HO:=.ext λh=>∃ t,St.SetAt P w h a xs t/\t.led=!(w.params.followText "set-order")
def Zo8 (H:Hp)(x:List Int×Addr):Prop:=H x.2=some (.tup (x.1.map V.int))
theorem Zu7 {P:Program}{w:World}:∀ {ns:List Int} {us:List Value},Vals (ns.map V.int) us->ItemsAre (intKind P w) ns us
 | [],us,r=>by cases r;exact .nil
 | n::ns,us,r=>by
  cases r with
  | cons r1 r2=>obtain⟨t,rfl⟩:=r1;exact .cons (by simp[intKind,Value.isInt]) (Zu7 r2)
theorem Zfs {P:Program}{w:World}{H:Hp}{h:Heap}{a:Addr}{k:List Int}(ok:HOk P w H h)(e:H a=some (.tup (k.map V.int))):IsTupleKey (intKind P w) h k a:=by
 obtain⟨_,its,r,o,h1,h2,n,h3⟩:=(show ObjOk P w H h a (.tup (k.map V.int)) from ok a _ e)
 exact Zcs o its.toArray n ⟨h1,h2,h3,by simpa using Zu7 r⟩
theorem Zi2 {P:Program}{w:World}{H:Hp}{h:Heap}{a:Addr}{xs:List (List Int×Addr)}(ok:HOk P w H h)(e:H a=some (Zk4 P w a xs)):∃ t,St.SetAt P w h a xs t/\t.led=!(w.params.followText "set-order"):=
 (show ObjOk P w H h a (Zk4 P w a xs) from ok a _ e).1
theorem Zpz {P:Program}{w:World}{H:Hp}{h:Heap}{a:Addr}{xs:List (List Int×Addr)}{t:SetTable}(S:St.SetAt P w h a xs t)(hl:t.led=!(w.params.followText "set-order")):ObjOk P w H h a (Zk4 P w a xs):=
 ⟨⟨t,S,hl⟩,let ⟨o,_,ho,_⟩:=S.ex;⟨o,ho⟩,λh1 h2 ⟨t,S,hl⟩ k=>⟨t,⟨let ⟨o,ep,ho,r⟩:=S.ex;⟨o,ep,k o ho,r⟩,S.tb,S.pl⟩,hl⟩⟩
section
variable {X:Cx}
theorem cx_P {CX:CXT}{P:Program}{w:World}{K:Frag}{mg:Str->Option Value}{base:Heap}{N:List Str}{qual:Str}{scope:Scope}{f:Addr}{cd:Value}{A:Around}{outer:List Env}{s:Shared}{H:Hp}{E:XK}:(Zmb CX P w K mg base N qual scope f cd A outer s H E).prog=P:=rfl
theorem cx_W {CX:CXT}{P:Program}{w:World}{K:Frag}{mg:Str->Option Value}{base:Heap}{N:List Str}{qual:Str}{scope:Scope}{f:Addr}{cd:Value}{A:Around}{outer:List Env}{s:Shared}{H:Hp}{E:XK}:(Zmb CX P w K mg base N qual scope f cd A outer s H E).w=w:=rfl
def rInN0 (K:Frag):R2:=λx y H Q=>∃ p xs,x=.non/\y=.ref p/\SqL K H p xs/\(∀ z∈xs,NoT K H z)/\Q (.bl (xs.any nonV)) H
def rInD:V->V->Hp->VK->Prop:=λy x H Q=>∃ a o,x=.ref a/\DGet H a y o/\Q (.bl o.isSome) H
theorem op_inD (hu:X.A.units+1<cLine):OpR X (compareOp .In) rInD:=by
 intro pins s σ H x y v u Q I rx ry h;refine Zbf h λa o e93 g q=>?_;clear h;obtain rfl:=e93;cases ry;exact d_in hu I g rx λs3 I3=>⟨.bl _,H,I3,rfl,q⟩
theorem Zh0 (K:Frag)(hK:X.K=K)(hc:X.calm=true):Zb9 X (.builtin "sum") (λxs H Q=>∃ (p:Addr) (ns:List Int),xs=[.ref p]/\SqL K H p (ns.map V.int)/\Q (.int (preSum (λi=>ns.getD i 0) ns.length)) H):=hK ▸ Zn1 hc
theorem Zst:Zb9 X (.type "set") (λxs H Q=>xs=[]/\∀ l,H l=none->Q (.ref l) (upd H l (Zk4 X.prog X.w l []))):=by
 intro pins s σ H xs us Q I r h;obtain⟨rfl,q⟩:=h;cases r;refine Zmj λled hl=>?_;refine Za2 (.ref s.heap.objs.size) _ ⟨I.laid (a:=s.heap.objs.size) (o:=Zk4 X.prog X.w s.heap.objs.size []) (t':=s.toks) (λb o e=>Jad _ e) (Jaf _) ?_,rfl,q _ (I.hok.fresh (Jaf _))⟩;exact Zpz (t:=.fresh 0 0 led) ⟨⟨_,0,Ja1 _ rfl,⟨rfl,rfl,rfl⟩,rfl⟩,⟨.inl rfl,rfl,rfl,List.Pairwise.nil,(λ_ h=>by cases h),(by show 0*5<7*3;decide),λ_ h=>by cases h⟩,rfl⟩ hl
def Zlo (P:Program)(w:World):R2:=λx y H Q=>∃ a b xs k,x=.ref b/\y=.ref a/\H b=some (.tup (k.map V.int))/\H a=some (Zk4 P w a xs)/\(∀ z∈xs,Zo8 H z)/\∀ c:Bool,(c=true ↔ ∀ z∈xs,z.1≠k)->Q (.bl c) H
theorem Zqy (hu:X.A.units+1<cLine):OpR X (compareOp .NotIn) (Zlo X.prog X.w):=by
 intro pins s σ H x y v u Q I rx ry h;refine Zce h λa b xs k e94 e95 hb e96=>?_;clear h;obtain rfl:=e94;obtain rfl:=e95;refine Zap e96 λha hr q=>?_;clear e96;cases rx;cases ry;refine Zae (Zi2 I.hok ha) λt S hl=>?_;refine St.notIn_ok hu S (λz hz=>Zfs I.hok (hr z hz)) (Zfs I.hok hb) λc hc=>⟨.bl c,H,I.tok _,rfl,q c hc⟩
def Ztf (P:Program)(w:World):V->List V->Hp->VK->Prop:=λx vs H Q=>∃ a b xs k,x=.ref a/\vs=[.ref b]/\H b=some (.tup (k.map V.int))/\H a=some (Zk4 P w a xs)/\(∀ z∈xs,Zo8 H z)/\(∀ z∈xs,z.1≠k)/\xs.length+1<=256 /\
 ∀ xs':List (List Int×Addr),xs'.Perm ((k,b)::xs)->Q .non (upd H a (Zk4 P w a xs'))
theorem mt_addR (hu:X.A.units+1<cLine):MtR X "set.add" (Ztf X.prog X.w):=by
 intro pins s σ H x vs v us Q I rx rv h;refine Zce h λa b xs k e97 e98 hb e99=>?_;clear h;obtain rfl:=e97;obtain rfl:=e98;refine Ziu e99 λha hr hn hl q=>?_;clear e99;cases rx;refine Zae rv.one λu e910 ru=>?_;obtain rfl:=e910;cases ru;refine Zae (Zi2 I.hok ha) λt S hled=>?_;refine St.setAdd_ok hu S (λz hz=>Zfs I.hok (hr z hz)) (Zfs I.hok hb) hl (λ⟨y,hy,e⟩=>absurd e (hn y hy)) λ_ h' xs' t' sb pm S' l'=>?_;refine Za2 .non _ ⟨I.write (x:=a) (e:=a) (o:=Zk4 X.prog X.w a xs') (by rw[ha];exact trivial) (.inl rfl) (λc o hc e=>(sb.2 c hc).trans e) (let ⟨o,_,ho,_⟩:=S'.ex;⟨o,ho⟩) (Zpz S' (l'.trans hled)),rfl,q xs' pm⟩
def tBMR (P:Program)(w:World)(r:V->List V->Hp->VK->Prop)(to:TE)(t:TA):TE:=λσ H Q=>to σ H λx H1=>(∃ a xs,x=.ref a/\H1 a=some (Zk4 P w a xs))/\t σ H1 λvs H2=>r x vs H2 Q
variable {o e:Expr}{es:List Expr}{to:TE}{t:TA}{apos cpos:Pos}
theorem pe_addR (hu:X.A.units+1<cLine)(ho:PE X o to)(ha:PA X (e::es) t)(hbase:attributeBase o "add" X.env (eval o X.env)=eval o X.env:=by rfl)(hfew:((backTo cpos (starEach (e::es) X.env)).all (λx=>!x.1) && (backToKw cpos (keywordEach [] X.env)).all (λx=>x.1.isSome)
   && decide ((e::es).length+([]:List Keyword).length+(if ([]:List Keyword).isEmpty then 0 else 1)<30))=true:=by rfl)(hline:(apos.endLine == cpos.line)=true:=by rfl)(hs:starEach (e::es) X.env=(false,eval e X.env)::starEach es X.env:=by rfl)(hplain:(backTo cpos (starEach es X.env)).any (·.1)=false:=by rfl):
  PE X (.Call (.Attribute o "add" apos) (e::es) [] cpos) (tBMR X.prog X.w (Ztf X.prog X.w) to t):=by
 intro pins s σ H Q I h;refine wpAny_Call_method_late hbase hfew hline rfl (thn (ho pins s σ H _ I h) λv s1 ⟨x,H1,I1,r1,⟨a,xs,ex,hx⟩,q1⟩=>?_);subst ex;cases r1;refine Zae (Zi2 I1.hok hx) λt S hl=>?_;refine Za2 ("set") ("set.add") ⟨F.plainAttrs_set,F.slot_set_add,F.type_set_add,S.typeIs,λa' e=>by cases e;exact let ⟨o,_,ho,hc,_⟩:=S.ex;⟨o,ho,hc.2.1⟩,?_⟩;have hA:=ha cpos pins s1 σ H1 _ I1 q1;rw[hs] at hA ⊢;refine Jfw (by show (false || (backTo cpos (starEach es X.env)).any (·.1))=false;rw[hplain] <;> rfl) (Jgh ?_);exact thn hA λus s2 ⟨vs,H2,I2,r2,q2⟩=>mt_addR hu pins s2 σ H2 (.ref a) vs _ us Q I2 rfl r2 q2
end
end L2
namespace L2
open PySem PySem.Spec PyProof.Rows
section
variable {X:Cx}
theorem Zkt (hc:X.calm=true):Zb9 X (.builtin "sorted") (λxs H Q=>∃ (a:Addr) (ys:List (List Int×Addr)),xs=[.ref a]/\H a=some (Zk4 X.prog X.w a ys)/\(∀ z∈ys,Zo8 H z/\0<z.1.length)/\ys.length<=256 /\
  ∀ (l:Addr) (zs:List (List Int×Addr)),H l=none->zs.Perm ys->(zs.map (·.1)).Pairwise St.lexle->Q (.ref l) (upd H l (.lst (zs.map (V.ref ·.2))))):=by
 intro pins s σ H xs us Q I r h;refine Zk9 h λa ys e91 ha hr hl q=>?_;clear h;obtain rfl:=e91;refine Zae (Zem r) λu e92 rx=>?_;obtain rfl:=e92;cases rx;refine Zae (Zi2 I.hok ha) λt S hled=>?_;refine St.sorted_set_so (I.ok.hd hc) S hled (λz hz=>⟨Zfs I.hok (hr z hz).1,(hr z hz).2⟩) hl λs' l e zs pm so k g d o tk z gl=>?_;obtain⟨h',g',d',t',o'⟩:=s';dsimp only at k g d o tk gl;subst g d o;have vr:∀ zs:List (List Int×Addr),Vals (zs.map (V.ref ·.2)) (zs.map (Value.ref ·.2)):=by
  intro zs
  induction zs with
  | nil=>exact .nil
  | cons z zs ih=>exact .cons rfl ih
 refine Za2 (.ref l) _ ⟨I.laid (a:=l) (o:=.lst (zs.map (V.ref ·.2))) (t':=t') k z ⟨?_,zs.map (Value.ref ·.2),e,vr zs,gl⟩,rfl,q l zs (I.hok.fresh z) pm so⟩;rw[Jaa,pm.length_eq,Jc8];omega
end
end L2
namespace St
open PySem PyProof.Rows PySem.W
noncomputable def ltB:List Int->List Int->Bool
 | a::k,b::k'=>if a=b then ltB k k' else decide (a<b)
 | _,_=>false
theorem Zri:∀ {k k':List Int},ltB k k'=true->lexle k k'
 | [],_,h=>by cases h
 | _::_,[],h=>by cases h
 | a::k,b::k',h=>by
  unfold ltB at h;by_cases c:a=b
  .rw [if_pos c] at h;exact .inr ⟨c,Zri h⟩
  .rw [if_neg c] at h;exact .inl (Jaj h)
theorem Zvo:∀ {k k':List Int},k.length=k'.length->ltB k k'=false->lexle k' k
 | [],[],_,_=>trivial
 | [],_::_,e,_=>by simp at e
 | _::_,[],e,_=>by simp at e
 | a::k,b::k',e,h=>by
  unfold ltB at h;by_cases c:a=b
  .rw [if_pos c] at h;exact .inr ⟨c.symm,Zvo (by simpa using e) h⟩
  .rw [if_neg c] at h;have:¬ a<b:=of_decide_eq_false h;exact .inl ∅
section
open PySem.SeqAt AutoSeq1 MeetsSeq MeetsSeq2 MeetsSeq3 SeqRoads2
theorem ll_step (l b:Addr)(us vs:Array Value)(n m:Nat)(d1 d2:Option Addr)(z1 z2:Array (Option Value))(ks ks':List Int)(r1:IntsAre us.toList ks)(r2:IntsAre vs.toList ks')(hsz:us.size=vs.size)(k:Nat):
  ∀ i:Nat,us.size-i=k->i<=us.size->Meets (Builtin.«list.__eq__.loop» ⟨[.ref l,.ref b,rawInt i,rawInt 0],[]⟩)
   (λA R s=>s.heap.get? l=some { cls:=.type "list",dict:=d1,data:=.seq us n,slots:=z1 }/\s.heap.get? b=some { cls:=.type "list",dict:=d2,data:=.seq vs m,slots:=z2 }/\R (.ok (.ret (.bool (ltB (ks.drop i) (ks'.drop i))))) s):=by
 have lk:us.size=ks.length:=by have:=r1.length;simpa using this
 have lk':vs.size=ks'.length:=by have:=r2.length;simpa using this
 induction k with
 | zero=>
  intro i hk hi prog w A R s h;obtain⟨hp,g,d,tk,os⟩:=s;obtain⟨h1,h2,h⟩:=h
  wp_walk using wpAny_loadPart' h1,wpAny_loadPart' h2
  rw[show us[((i:Nat):Int).toNat]?=none by simp;omega,show vs[((i:Nat):Int).toNat]?=none by simp;exact oz50 hsz hk]
  wp_walk using wpAny_loadPart' h1,wpAny_loadPart' h2
  rw[List.drop_of_length_le (oz50 lk hk)] at h;have e:decide (us.size<vs.size)=false:=by simp;omega
  show R (.ok (.ret (.bool (decide (us.size<vs.size))))) _;rw[e];exact h
 | succ k ih=>
  intro i hk hi prog w A R s h;obtain⟨hp,g,d,tk,os⟩:=s;obtain⟨h1,h2,h⟩:=h;have i1:i<us.size:=by exact oz41 hk
  have i2:i<vs.size:=by exact Zka hsz i1
  have q1:us[((i:Nat):Int).toNat]?=some us[i]:=by simp[i1]
  have q2:vs[((i:Nat):Int).toNat]?=some vs[i]:=by simp[i2]
  obtain⟨t1,e1⟩:=r1.int_at i us[i] (by simp[i1]);obtain⟨t2,e2⟩:=r2.int_at i vs[i] (by simp[i2]);have g1:ks.getD i 0=ks[i]'(Zka lk i1):=by simp;rw[Jac (Zka lk i1)];rfl
  have g2:ks'.getD i 0=ks'[i]'(by omega):=by simp;rw[Jac ∅];rfl
  rw[Jct (Zka lk i1),Jct (l:=ks') ∅] at h;unfold ltB at h;rw[g1] at e1;rw[g2] at e2;generalize ks[i]'(by omega)=a at *;generalize ks'[i]'(by omega)=a' at *
  wp_walk using wpAny_loadPart' h1,wpAny_loadPart' h2
  rw[q1,q2,e1,e2];refine Jab (wpAny_eqBool_int ?_);by_cases c:a=a'
  .rw [show (a == a')=true by simpa using c];rw[if_pos c] at h;have hc:((i:Int)+1)=((i+1:Nat):Int):=by push_cast;rfl
   wp_walk
   rw[hc];exact⟨Jfr plain_eq_loop _,Jdq entry_eq_loop (by
    rw[Jdh plain_eq_loop _];exact ih (i+1) ∅ ∅ prog w A R _ ⟨h1,h2,h⟩)⟩
  .rw [show (a == a')=false by simpa using c];rw[if_neg c] at h
   wp_walk using wpAny_loadPart' h1,wpAny_loadPart' h2
   rw[q1,q2,e1,e2];dsimp only;exact Jab (wpAny_lt_int (Jae h))
theorem ll_lt (l b:Addr)(us vs:Array Value)(n m:Nat)(d1 d2:Option Addr)(z1 z2:Array (Option Value))(ks ks':List Int)(r1:IntsAre us.toList ks)(r2:IntsAre vs.toList ks')(hsz:us.size=vs.size):
  Meets (Builtin.«list.__lt__» ⟨[.ref l,.ref b],[]⟩)
   (λA R s=>s.heap.get? l=some { cls:=.type "list",dict:=d1,data:=.seq us n,slots:=z1 }/\s.heap.get? b=some { cls:=.type "list",dict:=d2,data:=.seq vs m,slots:=z2 }/\R (.ok (.ret (.bool (ltB ks ks')))) s):=by
 intro prog w A R s h;obtain⟨hp,g,d,tk,os⟩:=s;obtain⟨h1,h2,h⟩:=h;have sub:=AutoSeq1.sub_list_list
 wp_walk using wpAny_loadPart' h1,wpAny_loadPart' h2
 exact⟨Jfr plain_eq_loop _,Jdq entry_eq_loop (by
  rw[Jdh plain_eq_loop _];exact ll_step l b us vs n m d1 d2 z1 z2 ks ks' r1 r2 hsz _ 0 rfl (Jbp _) prog w A R _ ⟨h1,h2,h⟩)⟩
end
section
variable {prog:Program}{w:World}{A:Around}{E:Value->Shared->Prop}{s:Shared}
def IsLs (h:Heap)(k:List Int)(a:Addr):Prop:=∃ dd sl items n,h.get? a=some { cls:=.type "list",dict:=dd,data:=.seq items n,slots:=sl }/\IntsAre items.toList k
theorem IsLs.one {h:Heap}{k k':List Int}{a:Addr}(p:IsLs h k a)(q:IsLs h k' a):k=k':=by
 obtain⟨_,_,_,_,e1,r1⟩:=p;obtain⟨_,_,_,_,e2,r2⟩:=q;rw[e1] at e2;cases e2;rw[<- r1.nums,<- r2.nums]
theorem ls_lt {k k':List Int}{x y:Addr}{Q:Bool->Shared->Prop}(hu:A.units<cLine)(hx:IsLs s.heap k x)(hy:IsLs s.heap k' y)(hl:k.length=k'.length)(h:Q (ltB k k') s):wpAny (model prog w) A (keyLt' oneType' (.ref x) (.ref y)) Q E s:=by
 obtain⟨d1,z1,us,n,e1,r1⟩:=hx;obtain⟨d2,z2,vs,m,e2,r2⟩:=hy;have l1:=r1.length;have l2:=r2.length;rw[Ja0] at l1 l2;rw[keyLt'_oneType,oneLt'_eq];simp only[Jdk];refine Jab (wpAny_cRoomFor hu ?_);refine Jab (wpAny_callSpecialIfBound?_slot ⟨_,e1,rfl⟩ F.slot_list_lt (Jfz F.slot_list_lt ⟨_,e1,rfl⟩ F.entry_list_lt (F.args_list_lt_2 _ _) (ll_lt x y us vs n m d1 d2 z1 z2 k k' r1 r2 ∅) ⟨e1,e2,?_⟩));exact Jcd h
def Zux (h:Heap)(x:Keyed)(k:List Int):Prop:=∃ a,x.1=Value.ref a/\IsLs h k a
open Classical in
noncomputable def rkLs (h:Heap)(x:Keyed):List Int:=if e:∃ k,Zux h x k then choose e else []
theorem Zi9 {h:Heap}{x:Keyed}{k:List Int}(e:Zux h x k):rkLs h x=k:=by
 have ex:∃ k,Zux h x k:=⟨k,e⟩
 unfold rkLs;rw[dif_pos ex];obtain⟨a,e1,r1⟩:=Classical.choose_spec ex;obtain⟨b,e2,r2⟩:=e;rw[e1] at e2;cases e2;exact r1.one r2
def leLs (h:Heap)(x y:Keyed):Prop:=lexle (rkLs h x) (rkLs h y)
theorem asks_ls {n:Nat}{a₀:Array Keyed}(hu:A.units<cLine)(h:∀ x∈a₀,∃ k,Zux s.heap x k/\k.length=n):Zh4 prog w A E s a₀ oneType' (leLs s.heap):=by
 intro x hx y hy st hs Q hQ;obtain⟨k,kx,lx⟩:=h x hx;obtain⟨k',ky,ly⟩:=h y hy;have ex:=Zi9 kx;have ey:=Zi9 ky;obtain⟨a,e1,r1⟩:=kx;obtain⟨a',e2,r2⟩:=ky;rw[lt'_eq];refine Jat (Jgw ?_);rw[hs,e1,e2];refine Jat (Jhq (Jhp (ls_lt hu r1 r2 (lx.trans ly.symm) ⟨rfl,?_⟩)));refine Ja2 (hQ _ (λf=>?_) λf=>?_)
 .unfold leLs;rw[ex,ey];exact Zri f
 .unfold leLs;rw[ex,ey];exact Zvo (lx.trans ly.symm) f
theorem Zna {h:Heap}:∀ {q:List Keyed} {zs:List (List Int×Addr)},q.Pairwise (leLs h)->(∀ x∈q,x.1=x.2)->q.map (·.2)=zs.map (Value.ref ·.2)->(∀ z∈zs,IsLs h z.1 z.2)->(zs.map (·.1)).Pairwise lexle
 | [],[],_,_,_,_=>List.Pairwise.nil
 | [],_::_,_,_,e,_=>by simp at e
 | _::_,[],_,_,e,_=>by simp at e
 | x::q,z::zs,o,d,e,r=>by
  rw[Jaw,Jaw,Jci] at e;rw[Jaw,Jbm];refine⟨λk hk=>?_,Zna (Jbm.1 o).2 (λy hy=>d y (.tail _ hy)) e.2 λz hz=>r z (.tail _ hz)⟩;obtain⟨y,hy,rfl⟩:=Jan.1 hk;have:Value.ref y.2∈q.map (·.2):=by rw[e.2];exact Jan.2 ⟨y,hy,rfl⟩
  obtain⟨y',hy',e'⟩:=Jan.1 this;have l:=(Jbm.1 o).1 y' hy';unfold leLs at l;rw[Zi9 (k:=z.1) ⟨z.2,(d x (.head _)).trans e.1,r z (.head _)⟩,Zi9 (k:=y.1) ⟨y.2,(d y' (.tail _ hy')).trans e',r y (.tail _ hy)⟩] at l;exact l
theorem sort_ls {a:Addr}{xs:List (List Int×Addr)}{n m:Nat}{P:Fin->Shared->Prop}(hu:A.units<cLine)(ho:s.heap.get? a=some (seqObj "list" (xs.map (Value.ref ·.2)).toArray n))(R:∀ x∈xs,IsLs s.heap x.1 x.2/\x.1.length=m/\x.2≠a)(hz:xs.length<=300)(h:∀ (out:Array Value) (zs:List (List Int×Addr)),out.toList=zs.map (Value.ref ·.2)->zs.Perm xs->(zs.map (·.1)).Pairwise lexle->P (.done (.ret .none)) { s with heap:=sortedHeap s.heap a (xs.map (Value.ref ·.2)) out }):
  wpAny (model prog w) A (Builtin.«list.sort» ⟨[.ref a],[]⟩) P E s:=by
 rw[list_sort_plain];have ha:a<s.heap.objs.size:=Jar ho;have hsz:(xs.map (Value.ref ·.2)).toArray.size=xs.length:=by simp
 have hz':xs.length<=sizeLine:=Ja8 hz (by rw[Jc8];omega);refine Jab (listItems_at ho rfl (Jab (Jfs ho rfl ?_ (by rw[hsz];exact hz') (Jbp _))));obtain⟨e1,ho1⟩:∃ e1,(s.heap.update a (Obj.mapSeq λ_=>#[])).get? a=some (seqObj "list" #[] e1):=⟨_,get?_update_seq ho (λ_=>#[])⟩
 refine Jab (Jgx ho1 rfl (Jab (wpAny_newTuple (Jab (Jhr ?_ (Jbp _))) (by rw[Jaa];exact hz'))));refine Jby ?_;have ho6:(((s.heap.update a (Obj.mapSeq λ_=>#[])).push (seqObj "tuple" (xs.map (Value.ref ·.2)).toArray 0)).push (seqObj "list" #[] 0)).get? a=some (seqObj "list" #[] e1):=by
  rw[Jf2 _ _ _ (by rw[size_push',Jfb];exact Ja6 (Jce ha)),Jf2 _ _ _ (by rw[Jfb];exact Ja6 ha)];exact ho1
 have keep:∀ x∈xs,IsLs (((s.heap.update a (Obj.mapSeq λ_=>#[])).push (seqObj "tuple" (xs.map (Value.ref ·.2)).toArray 0)).push (seqObj "list" #[] 0)) x.1 x.2/\x.1.length=m:=by
  intro x hx;obtain⟨⟨dd,sl,items,k,q1,q2⟩,hl,ne⟩:=R x hx;refine⟨⟨dd,sl,items,k,Jad _ (Jad _ ?_),q2⟩,hl⟩;rw[Jgy _ _ _ _ ne];exact q1
 show wpAny (model prog w) A _ P E { s with heap:=((s.heap.update a (Obj.mapSeq λ_=>#[])).push (seqObj "tuple" (xs.map (Value.ref ·.2)).toArray 0)).push (seqObj "list" #[] 0) };dsimp only;have snd:∀ {q:Array Keyed},q.Perm (pairsOf (xs.map (Value.ref ·.2)))->(q.map (·.2)).toList.Perm (xs.map (Value.ref ·.2)):=by
  intro q hq;rw[Jd4];have:(q.toList.map (·.2)).Perm ((pairsOf (xs.map (Value.ref ·.2))).toList.map (·.2)):=(Jdj.1 hq).map _;rw[Jd8] at this;refine this.trans (.of_eq ?_);rw[Jge];exact Jaf _
 by_cases h2:(xs.map (Value.ref ·.2)).toArray.size<2
 .rw [if_pos h2,if_pos h2];refine Jab (Jae ?_);rw[StateT.run_pure];refine Jab (Jae ?_);dsimp only;refine Jab (Jgx ho6 rfl (Jab (Jfs ho6 rfl ?_ (Jbp _) (by rw[Jhb];show (pairsOf (xs.map (Value.ref ·.2))).size<=_;rw[pairsOf_size,Jaa];omega))));simp only[Jdz,Jcw,Jf3];refine Jae (h _ xs ?_ (Jf5 _) ?_)
  .rw [Jd4];show (pairsOf (xs.map (Value.ref ·.2))).toList.map (·.2)=_;rw[Jd8,Jge (Jaf _)]
  .match xs,h2 with
   | [],_=>exact List.Pairwise.nil
   | [x],_=>exact List.pairwise_singleton _ _
   | _::_::_,h2=>simp at h2;omega
 .rw [if_neg h2,if_neg h2];refine Jab (kas_kind (T:=.type "list") (s:={ s with heap:=((s.heap.update a (Obj.mapSeq λ_=>#[])).push (seqObj "tuple" (xs.map (Value.ref ·.2)).toArray 0)).push (seqObj "list" #[] 0) }) (by rw[hsz] at h2;rw[Jaa];omega) (λv hv=>?_) ⇑0 ⇑0 ?_)
  .obtain ⟨x,hx,rfl⟩:=Jan.1 hv;obtain⟨⟨dd,sl,items,k,q1,_⟩,_⟩:=keep x hx;exact λA Q E s k h=>wpAny_typeOf ⟨_,k _ _ q1,rfl⟩ h
  have asks:=asks_ls (prog:=prog) (w:=w) (A:=A) (E:=E) (n:=m) (s:={ s with heap:=((s.heap.update a (Obj.mapSeq λ_=>#[])).push (seqObj "tuple" (xs.map (Value.ref ·.2)).toArray 0)).push (seqObj "list" #[] 0) }) (a₀:=pairsOf (xs.map (Value.ref ·.2))) hu (by
   intro x hx;have hx:x∈(pairsOf (xs.map (Value.ref ·.2))).toList:=by simpa using hx
   rw[Jd8] at hx;obtain⟨x1,x2⟩:=x;obtain⟨y,hy,e⟩:=Jan.1 (Jfj hx).1;exact⟨y.1,⟨y.2,e.symm,(keep y hy).1⟩,(keep y hy).2⟩)
  have run:=Zpx (st:=SortSt.mk' oneType' ((xs.map (Value.ref ·.2)).toArray.zip (xs.map (Value.ref ·.2)).toArray) #[] 7 none) (Q:=λ_ st'=>(arrOf st').Perm (pairsOf (xs.map (Value.ref ·.2)))/\failedOf st'=none/\(arrOf st').toList.Pairwise (leLs (((s.heap.update a (Obj.mapSeq λ_=>#[])).push (seqObj "tuple" (xs.map (Value.ref ·.2)).toArray 0)).push (seqObj "list" #[] 0)))) ⟨λ_=>lexle.rf _,λa b=>a.tr b⟩ asks rfl (Array.Perm.refl _) rfl rfl λst' p f o=>⟨p,f,o⟩
  refine Jab (Jbw run ?_ λ_ _ e=>e);rintro ⟨⟨⟩,st'⟩ s' ⟨rfl,hp,hf,ho⟩;dsimp only;refine Jab (Jgx ho6 rfl (Jab (Jfs ho6 rfl ?_ (Jbp _) (by refine Ja8 (Jdv ((Jhb ..).trans (hp.size_eq.trans (pairsOf_size _)))) ?_;rw[Jaa];omega))));rw[hf];simp only[Jdz,Jcw,Jf3];obtain⟨zs,pz,ez⟩:=Zc6 (snd hp) (xs:=xs) (f:=(Value.ref ·.2)) rfl;refine Jae (h _ zs ez pz (Zna ho (λx hx=>?_) (by rw[<- ez,Jd4]) λz hz=>(keep z (pz.mem_iff.1 hz)).1));have hx:x∈(pairsOf (xs.map (Value.ref ·.2))).toList:=(Jdj.1 hp).mem_iff.1 hx;rw[Jd8] at hx;obtain⟨i,hi,e⟩:=Jbl hx;rw[List.getElem_zip] at e;rw[<- e]
theorem sorted_ls {a:Addr}{xs:List (List Int×Addr)}{m:Nat}{Q:Value->Shared->Prop}(hu:A.units+8<cLine)(hl:s.heap.IsList a (xs.map (Value.ref ·.2)).toArray)(R:∀ x∈xs,IsLs s.heap x.1 x.2/\x.1.length=m)(hz:xs.length<=256)(h:∀ s' l e (ys:List (List Int×Addr)),ys.Perm xs->(ys.map (·.1)).Pairwise lexle->(∀ b o,s.heap.get? b=some o->s'.heap.get? b=some o)->s'.gens=s.gens->s'.drawn=s.drawn->s'.os=s.os->s.toks<=s'.toks->s.heap.objs.size<=l->s'.heap.get? l=some (seqObj "list" (ys.map (Value.ref ·.2)).toArray e)->Q (.ref l) s'):
  wpAny (model prog w) A (call (.builtin "sorted") [.ref a]) Q E s:=by
 refine Calls.call_function_entry kind_sorted plain_sorted entry_sorted (args_sorted1 _) ?_;unfold Builtin.«sorted»;refine Jab (m:=checkCount "sorted" 1 1 _) (Jae ?_);refine Jab (collect_list hl ?_ (by rw[Jaa,Jc8];omega));refine Jab (Jhr ?_ (by rw[Jaa,Jc8];omega));have zz:((s.heap.push (seqObj "list" #[] 0)).update s.heap.objs.size (Obj.mapSeq (· ++ (xs.map (Value.ref ·.2)).toArray))).objs.size=s.heap.objs.size+1:=by rw[Jfb,size_push']
 have k1:∀ b o,s.heap.get? b=some o->((s.heap.push (seqObj "list" #[] 0)).update s.heap.objs.size (Obj.mapSeq (· ++ (xs.map (Value.ref ·.2)).toArray))).get? b=some o:=λb o e=>by
  rw[Jgy _ _ _ _ (Ja6 (Jar e))];exact Jad _ e
 generalize (s.heap.push (seqObj "list" #[] 0)).update s.heap.objs.size (Obj.mapSeq (· ++ (xs.map (Value.ref ·.2)).toArray))=H1 at *;have gl:(H1.push (seqObj "list" (xs.map (Value.ref ·.2)).toArray 0)).get? H1.objs.size=some (seqObj "list" (xs.map (Value.ref ·.2)).toArray 0):=Ja1 _ rfl;show wpAny _ _ _ _ _ { s with heap:=H1.push (seqObj "list" (xs.map (Value.ref ·.2)).toArray 0) };have k2:∀ b o,s.heap.get? b=some o->(H1.push (seqObj "list" (xs.map (Value.ref ·.2)).toArray 0)).get? b=some o:=λb o e=>Jad _ (k1 _ _ e);have z2:(H1.push (seqObj "list" (xs.map (Value.ref ·.2)).toArray 0)).objs.size=H1.objs.size+1:=size_push' ..;refine Jab (Jby (Jdt slot_list_sort ⟨_,gl,rfl⟩ entry_list_sort (sort_ls (s:={ s with heap:=H1.push (seqObj "list" (xs.map (Value.ref ·.2)).toArray 0) }) (m:=m) ?_ gl (λx hx=>?_) ∅ λout ys ey py so=>⟨_,rfl,?_⟩) (args_list_sort _)))
 .exact Jfk (show A.units+1+1<=A.units+8 by omega) hu
 .obtain ⟨⟨dd,sl,items,k,q1,q2⟩,hlen⟩:=R x hx;exact⟨⟨dd,sl,items,k,k2 _ _ q1,q2⟩,hlen,Ja6 (Jar (k1 _ _ q1))⟩
 .obtain ⟨e,he⟩:=sortedHeap_at (out:=out) gl;refine Jae ⟨_,rfl,h _ _ e ys py so (λb o' q=>?_) rfl rfl rfl (Jaf _) (show s.heap.objs.size<=H1.objs.size by omega) ?_⟩
  .have lt:=Jar (k1 _ _ q);show (sortedHeap _ _ _ _).get? b=_;rw[sortedHeap_old (Ja6 lt) (by rw[z2];exact Jce lt)];exact k2 _ _ q
  .rw [<- ey];exact he
end
end St
set_option maxHeartbeats 3200000
namespace St
open PySem PyProof.Rows PySem.W
section
variable {prog:Program}{w:World}{A:Around}{E:Value->Shared->Prop}{s:Shared}
def But2 (S I:Addr)(h h':Heap):Prop:=∀ b o,b≠S->b≠I->h.get? b=some o->h'.get? b=some o
theorem But2.rows {S I:Addr}{h h':Heap}{rows:List (List Int×Addr)}(p:But2 S I h h')(n:∀ x∈rows,x.2≠S/\x.2≠I)(R:Zdi prog w h rows):Zdi prog w h' rows:=λx hx=>by
 obtain⟨o,items,m,q1,q2⟩:=R x hx;exact⟨o,items,m,p _ _ (n x hx).1 (n x hx).2 q1,q2⟩
theorem Zs0 {S I l:Addr}{rows:List (List Int×Addr)}(hh:A.in1.handled=none)(hu:A.units+8<cLine)(nI:l≠I)(nS:S≠I)(nSl:l≠S)(hlen:rows.length<=256)(nd:(rows.map (·.1)).Nodup)(off:∀ x∈rows,x.2≠S/\x.2≠I){R:Result->Shared->Prop}:
  ∀ (k i:Nat) (s:Shared),rows.length-i=k->i<=rows.length->s.heap.IsListIter I l i->s.heap.IsList l (rows.map (Value.ref ·.2)).toArray->Zdi prog w s.heap rows->(∃ xs t,SetAt prog w s.heap S xs t/\xs.Perm (rows.take i))->
   (∀ h' tk,But2 S I s.heap h'->(∃ xs t,SetAt prog w h' S xs t/\xs.Perm rows)->R (.ok (.ret .none)) { s with heap:=h',toks:=tk })->
   codeAny (model prog w) A (.builtin "set.update.loop" ⟨[.ref S,.ref I],[]⟩) R s:=by
 intro k
 induction k with
 | zero=>
  intro i s hk hi hit hl hr hs h;have ei:i=rows.length:=∅
  subst ei;have W:=Jhs (prog:=prog) (w:=w) hh I l nI (rows.map (Value.ref ·.2)).toArray;refine Jdq Je6 ?_;rw[Jdh Jdw _];show wpAny _ A.in1 (pyNext (.ref I) >>= _) _ _ s;refine Jab (W.done s _ _ (by simpa using ⟨hit,hl⟩) λh' tk hk'=>?_);have b2:But2 S I s.heap h':=λb o n1 n2 e=>hk' b o (by simp[n2]) e;show wpAny _ A.in1 (ret Value.none) _ _ _;obtain⟨xs,t,Ss,pm⟩:=hs;rw[Jbk] at pm;obtain⟨o,ep,e1,e2,e3⟩:=Ss.ex;exact Jae (h h' tk b2 ⟨xs,t,⟨⟨o,ep,hk' _ _ (by simp[nS]) e1,e2,e3⟩,Ss.tb,Ss.pl⟩,pm⟩)
 | succ k ih=>
  intro i s hk hi hit hl hr hs h;have hlt:i<rows.length:=by exact oz41 hk
  have W:=Jhs (prog:=prog) (w:=w) hh I l nI (rows.map (Value.ref ·.2)).toArray;refine Jdq Je6 ?_;rw[Jdh Jdw _];show wpAny _ A.in1 (pyNext (.ref I) >>= _) _ _ s;refine Jab (W.item i s _ _ (by simpa using hlt) ⟨hit,hl⟩ λv h' tk hv st hk'=>?_);have ev:v=.ref rows[i].2:=by
   simp only[List.getElem?_toArray,Jay,Jac hlt,Jfl,Option.some.injEq] at hv;exact hv.symm
  subst ev;have b2:But2 S I s.heap h':=λb o n1 n2 e=>hk' b o (by simp[n2]) e;have R1:Zdi prog w h' rows:=b2.rows off hr;obtain⟨xs,t,Ss,pm⟩:=hs;obtain⟨o,ep,e1,e2,e3⟩:=Ss.ex;have S1:SetAt prog w h' S xs t:=⟨⟨o,ep,hk' _ _ (by simp[nS]) e1,e2,e3⟩,Ss.tb,Ss.pl⟩
  have xl:=pm.length_eq;rw[Ja4] at xl;have sub:∀ y∈xs,y∈rows.take i:=λy hy=>pm.mem_iff.1 hy;have RX:Zdi prog w h' xs:=λy hy=>R1 y (Jdg (sub y hy));have K1:=R1 _ (Jcb hlt);show wpAny _ A.in1 (holding [Value.ref rows[i].2] (setAdd S (.ref rows[i].2)) >>= _) _ _ _;refine Jab (Jby ?_);unfold setAdd;refine Jby ?_;refine Jab (Jg7 (by show A.units+1<cLine;omega) K1 ?_);refine Zv2 (s:={ s with heap:=h',toks:=tk+(rows[i].1.length+1) }) (by show A.units+1<cLine;omega) S1 RX K1 ∅ (λ⟨y,hy,e⟩=>?_) λ_ h2 xs2 t2 sb pm2 S2 _=>?_
  .exfalso;obtain⟨j,hj,ej⟩:=Jbl (sub y hy);rw[Ja4] at hj;rw[Jhi] at ej;have:(rows.map (·.1))[j]'(by rw[Jaa];omega)=(rows.map (·.1))[i]'(by rw[Jaa];omega):=by rw[Jcl,Jcl,ej,e]
   exact Jc6.1 nd j i _ _ ∅ this
  .have k2:∀ b o,b≠S->h'.get? b=some o->h2.get? b=some o:=λb o n e=>(sb.2 b n).trans e;refine Jae ⟨Jfr Jdw _,ih (i+1) _ (oz34 hk) hlt (st.1.at λo e=>k2 _ _ nS.symm e) (st.2.at λo e=>k2 _ _ nSl e) (λx hx=>?_) ⟨xs2,t2,S2,?_⟩ λh3 tk3 b3 hs3=>?_⟩
   .obtain ⟨o',items,m,q1,q2⟩:=R1 x hx;exact⟨o',items,m,k2 _ _ (off x hx).1 q1,q2⟩
   .rw [Jbe,Jac hlt];exact pm2.trans ((pm.cons _).trans (List.perm_append_singleton _ _).symm)
   .exact h h3 tk3 (λb o n1 n2 e=>b3 b o n1 n2 (k2 _ _ n1 (b2 b o n1 n2 e))) hs3
set_option maxHeartbeats 3200000 in
theorem set_rows {l:Addr}{rows:List (List Int×Addr)}{Q:Value->Shared->Prop}(hh:A.handled=none)(hu:A.units+20<cLine)(hl:s.heap.IsList l (rows.map (Value.ref ·.2)).toArray)(R:Zdi prog w s.heap rows)(hlen:rows.length<=256)(nd:(rows.map (·.1)).Nodup)(h:∀ (h':Heap) (tk:Nat),(∃ xs t,SetAt prog w h' s.heap.objs.size xs t/\xs.length=rows.length)->(∀ b o,s.heap.get? b=some o->h'.get? b=some o)->Q (.ref s.heap.objs.size) { s with heap:=h',toks:=tk }):
  wpAny (model prog w) A (call (.type "set") [.ref l]) Q E s:=by
 obtain⟨c,tl,mro⟩:=Jc1.mro;have made:=Jc1.made;have sub:=Jc1.sub;have no:=Jc1.notType;have can:=Jc1.canCreate;have chk:=F.typeCall_set_1 (.ref l);refine wpAny_call (Jgr ?_);show wpAny _ _ (callAny (.type "set") _) _ _ _;refine Jae ⟨Code.quiet_builtin _ ⋯,Jdq F.entry_type_call ?_⟩;rw[Around.under_plain (weight_type_call_type "set" [.ref l] []) rfl]
 repeat (any_goals (first|assumption|wp_step))
 refine Jeg (code_set_new_1 (.ref l) (E:=E) (Q₁:=λobj s₁=>∃ led:Bool,obj=.ref s.heap.objs.size/\s₁={ s with heap:=s.heap.push { cls:=.type "set",dict:=none,data:=.set #[] 0 (.fresh 0 0 led) } }) λled=>⟨led,rfl,rfl⟩) λr s₁ hr=>?_;cases r with
 | error e=>exact hr
 | ok fl=>
  cases fl with
  | ret obj=>
   obtain⟨led,rfl,rfl⟩:=hr;have gS:(s.heap.push { cls:=.type "set",dict:=none,data:=.set #[] 0 (.fresh 0 0 led) }).get? s.heap.objs.size=some { cls:=.type "set",dict:=none,data:=.set #[] 0 (.fresh 0 0 led) }:=Ja1 _ rfl;have tS:Shared.TypeIs { s with heap:=s.heap.push { cls:=.type "set",dict:=none,data:=.set #[] 0 (.fresh 0 0 led) } } (.ref s.heap.objs.size) "set" := ⟨_,gS,rfl⟩
   have lk:=Jc1.init.lookup;have bd:=Jc1.init.bind (.ref s.heap.objs.size)
   repeat (any_goals (first|assumption|wp_step))
   refine Jeg (codeAny_call_builtin (R:=wants (λr s₂=>r=.none/\∃ h' tk,s₂={ s with heap:=h',toks:=tk }/\(∃ xs t,SetAt prog w h' s.heap.objs.size xs t/\xs.length=rows.length)/\∀ b o,s.heap.get? b=some o->h'.get? b=some o) E) Jc1.init.plain F.entry_set_init (check_set_init_1 tS ?_)) λr₂ s₂ hr₂=>?_
   .have kp:∀ b o,s.heap.get? b=some o->(s.heap.push { cls:=.type "set",dict:=none,data:=.set #[] 0 (.fresh 0 0 led) }).get? b=some o:=λb o e=>Jad _ e;have l1:(s.heap.push { cls:=.type "set",dict:=none,data:=.set #[] 0 (.fresh 0 0 led) }).IsList l (rows.map (Value.ref ·.2)).toArray:=hl.at λo e=>kp _ _ e;have lS:l<s.heap.objs.size:=let ⟨_,e,_⟩:=hl;Jar e;have zS:(s.heap.push { cls:=.type "set",dict:=none,data:=.set #[] 0 (.fresh 0 0 led) }).objs.size=s.heap.objs.size+1:=Jcs ..;obtain⟨⟨oc,od,oda,os⟩,g1,g2,gn,g3⟩:=id l1;simp only at g2 g3;subst g2 g3;have f1:=F.sub_list_set;have f2:=F.sub_list_frozenset;have f3:(Value.type "list" == Value.type "dict")=false:=⇑0
    unfold Builtin.«set.__init__» noKeywords Builtin.Frozenset.updateFrom;generalize hPI:pyIter=PI
    wp_walk
    subst hPI;refine Jec l1 ?_;refine Jab (wpAny_runValue ?_);refine Zs0 (S:=s.heap.objs.size) (I:=(s.heap.push { cls:=.type "set",dict:=none,data:=.set #[] 0 (.fresh 0 0 led) }).objs.size) (l:=l) (rows:=rows) (by simp[hh]) (by simp;omega) (by rw[zS];exact Ja6 (Jce lS)) (by rw[zS];exact Ja6 (Jej _)) (Ja6 lS) hlen nd (λx hx=>?_) (rows.length-0) 0 _ rfl (Jbp _) ⟨_,Ja1 _ rfl,rfl,rfl⟩ (l1.push _) (λx hx=>?_) ⟨[],.fresh 0 0 led,?_,Jf5 _⟩ λh' tk b2 hs'=>?_
    .obtain ⟨o,items,m,q1,q2⟩:=R x hx;have:=Jar q1;rw[zS];exact⟨Ja6 this,Ja6 (Jce this)⟩
    .obtain ⟨o,items,m,q1,q2⟩:=R x hx;exact⟨o,items,m,Jad _ (kp _ _ q1),q2⟩
    .exact ⟨⟨_,0,Jad _ gS,⟨rfl,rfl,rfl⟩,rfl⟩,⟨.inl rfl,rfl,rfl,List.Pairwise.nil,(λ_ h=>by cases h),(by show 0*5<7*3;decide),λ_ h=>by cases h⟩,rfl⟩
    .obtain ⟨xs,t,Sx,pm⟩:=hs';show wpAny _ _ _ _ _ _;refine Jae ?_;show wpAny _ _ (ret Value.none) _ _ _;refine Jae ⟨rfl,h',tk,rfl,⟨xs,t,Sx,pm.length_eq⟩,λb o e=>?_⟩;have lt:=Jar e;exact b2 b o (Ja6 lt) (by rw[zS];exact Ja6 (Jce lt)) (Jad _ (kp _ _ e))
   .cases r₂ with
    | error e=>exact hr₂
    | ok fl₂=>
     cases fl₂ with
     | ret r=>
      obtain⟨rfl,h',tk,rfl,hS',hk'⟩:=hr₂
      repeat (any_goals (first|assumption|wp_step))
      exact h _ _ hS' hk'
     | _=>exact hr₂.elim
  | _=>exact hr.elim
end
end St
set_option maxHeartbeats 1000000
namespace L2
open PySem PySem.Spec PyProof.Rows
theorem Znk (kf:Nat->Int):∀ k,argBest (λi j=>decide (kf i<kf j)) k<=k/\∀ j,j<=k->kf (argBest (λi j=>decide (kf i<kf j)) k)<=kf j
 | 0=>⟨Jaf _,λj hj=>by rw[show j=0 by omega];exact Jfd _⟩
 | k+1=>by
  obtain⟨h1,h2⟩:=Znk kf k;unfold argBest;by_cases h:kf (k+1)<kf (argBest (λi j=>decide (kf i<kf j)) k)
  .rw [if_pos (Jam h)];refine⟨Jaf _,λj hj=>?_⟩;by_cases e:j=k+1
   .rw [e];exact Jfd _
   .have:=h2 j ∅;omega
  .rw [if_neg (by simpa using h)];refine⟨∅,λj hj=>?_⟩;by_cases e:j=k+1
   .rw [e];omega
   .exact h2 j ∅
section
variable {X:Cx}
theorem Zjr (hu:X.A.units+8<cLine):Zb9 X (.builtin "sorted") (λxs H Q=>∃ (a:Addr) (ys:List (List Int×Addr)) (m:Nat),xs=[.ref a]/\SqL X.K H a (ys.map (V.ref ·.2))/\(∀ z∈ys,H z.2=some (.lst (z.1.map V.int))/\z.1.length=m)/\ys.length<=256 /\
  ∀ (l:Addr) (zs:List (List Int×Addr)),H l=none->zs.Perm ys->(zs.map (·.1)).Pairwise St.lexle->Q (.ref l) (upd H l (.lst (zs.map (V.ref ·.2))))):=by
 intro pins s σ H xs us Q I r h;obtain⟨a,ys,m,rfl,ha,hr,hl,q⟩:=h;obtain⟨u,rfl,rx⟩:=Zem r;cases rx;have vr:∀ zs:List (List Int×Addr),Vals (zs.map (V.ref ·.2)) (zs.map (Value.ref ·.2)):=by
  intro zs
  induction zs with
  | nil=>exact .nil
  | cons z zs ih=>exact .cons rfl ih
 obtain⟨its,rv,pl,hz⟩:=I.list ha;have eu:∀ {zs:List (List Int×Addr)} {us:List Value},Vals (zs.map (V.ref ·.2)) us->us=zs.map (Value.ref ·.2):=by
  intro zs
  induction zs with
  | nil=>intro us h;cases h;rfl
  | cons z zs ih=>intro us h;cases h with|cons h1 h2=>cases h1;rw[ih h2];rfl
 have:=eu rv;subst this;refine St.sorted_ls (m:=m) hu pl.isList (λz hz=>⟨?_,(hr z hz).2⟩) hl λs' l e zs pm so k g d o tk z gl=>?_
 .obtain ⟨its2,rv2,pl2,_⟩:=I.list (SqL.of (hr z hz).1);obtain⟨⟨oc,od,oda,os⟩,n,e1,e2,e3,e4⟩:=pl2;simp only at e2 e3 e4;subst e2 e3 e4;exact⟨_,_,_,_,e1,by simpa using Zl6 rv2⟩
 obtain⟨h',g',d',t',o'⟩:=s';dsimp only at k g d o tk gl;subst g d o;refine⟨.ref l,_,I.laid (a:=l) (o:=.lst (zs.map (V.ref ·.2))) (t':=t') k z ⟨?_,zs.map (Value.ref ·.2),e,vr zs,gl⟩,rfl,q l zs (I.hok.fresh z) pm so⟩;rw[Jaa,pm.length_eq,Jc8];omega
noncomputable def SetN (P:Program)(w:World)(a:Addr)(n:Nat):HO:=.ext λh=>∃ xs t,St.SetAt P w h a xs t/\xs.length=n
theorem Zku (hc:X.calm=true)(hu:X.A.units+20<cLine):Zb9 X (.type "set") (λxs H Q=>∃ (a:Addr) (ys:List (List Int×Addr)),xs=[.ref a]/\SqL X.K H a (ys.map (V.ref ·.2))/\(∀ z∈ys,Zo8 H z)/\(ys.map (·.1)).Nodup/\ys.length<=256/\∀ l,H l=none->Q (.ref l) (upd H l (SetN X.prog X.w l ys.length))):=by
 intro pins s σ H xs us Q I r h;obtain⟨a,ys,rfl,ha,hr,nd,hl,q⟩:=h;obtain⟨u,rfl,rx⟩:=Zem r;cases rx;obtain⟨its,rv,pl,hz⟩:=I.list ha;have eu:∀ {zs:List (List Int×Addr)} {us:List Value},Vals (zs.map (V.ref ·.2)) us->us=zs.map (Value.ref ·.2):=by
  intro zs
  induction zs with
  | nil=>intro us h;cases h;rfl
  | cons z zs ih=>intro us h;cases h with|cons h1 h2=>cases h1;rw[ih h2];rfl
 have:=eu rv;subst this;refine St.set_rows (I.ok.hd hc) hu pl.isList (λz hz=>Zfs I.hok (hr z hz)) hl nd λh' tk hs k=>?_;refine⟨.ref s.heap.objs.size,_,I.laid (a:=s.heap.objs.size) (o:=SetN X.prog X.w s.heap.objs.size ys.length) (t':=tk) k ?_ ⟨hs,?_,λh1 h2 ⟨xs,t,S,e⟩ k'=>⟨xs,t,⟨let ⟨o,ep,e1,r⟩:=S.ex;⟨o,ep,k' _ e1,r⟩,S.tb,S.pl⟩,e⟩⟩,rfl,q _ (I.hok.fresh (Jaf _))⟩
 .exact Jaf _
 .obtain ⟨xs,t,S,e⟩:=hs;obtain⟨o,ep,e1,_⟩:=S.ex;exact⟨o,e1⟩
theorem Zjs:Zb9 X (.builtin "len") (λxs H Q=>∃ (a:Addr) (n:Nat),xs=[.ref a]/\H a=some (SetN X.prog X.w a n)/\n<=256/\Q (.int (n:Nat)) H):=by
 intro pins s σ H xs us Q I r h;obtain⟨a,n,rfl,ha,hn,q⟩:=h;obtain⟨u,rfl,rx⟩:=Zem r;cases rx;obtain⟨⟨xs,t,S,e⟩,_⟩:=(show ObjOk X.prog X.w H s.heap a (SetN X.prog X.w a n) from I.hok a _ ha)
 obtain⟨o,ep,e1,e2,e3⟩:=S.ex;have ez:(St.es X.prog X.w xs).size=n:=by rw[St.es_size,e]
 refine call_len_set e1 e2 e3 (by rw[St.es_size,<- Jaa (f:=λx:List Int×Addr=>St.rh X.prog X.w x.1)];exact S.tb.fits) (by rw[ez];omega) ?_;exact⟨.int (n:Nat),H,I.tok _,⟨_,by rw[ez]⟩,q⟩
theorem Zek (K:Frag)(hK:X.K=K):Zb9 X (.type "tuple") (λxs H Q=>∃ p ys,xs=[.ref p]/\((SqL K H p ys/\∀ l,H l=none->Q (.ref l) (upd H l (.tup ys)))\/(SqT K H p ys/\Q (.ref p) H))):=hK ▸ Zb2
theorem Zkv (hc:X.calm=true):Zb9 X (.builtin "min") (λxs H Q=>∃ (p:Addr) (ns:List Int),xs=[.ref p]/\SqL X.K H p (ns.map V.int)/\ns≠[]/\∀ m,m∈ns->(∀ x∈ns,m<=x)->Q (.int m) H):=by
 intro pins s σ H xs us Q I r h;obtain⟨p,ns,rfl,hq,h0,q⟩:=h;obtain⟨u,rfl,rx⟩:=Zem r;cases rx;obtain⟨its,rv,pl,hz⟩:=I.list hq;have hl:=rv.length;rw[Jaa] at hl;have hpos:0<ns.length:=List.length_pos_iff.mpr h0;have at':∀ (i:Nat) v,its.toArray[i]?=some v->∃ t,v=.int (ns.getD i 0) t:=by
  intro i v hv;have hv:its[i]?=some v:=by simpa using hv
  have hi:i<ns.length:=by rw[hl];exact (Jak.mp hv).1
  obtain⟨u,hu,ru⟩:=rv.get (i:=i) (x:=.int ns[i]) (by rw[Jay,Jac hi];rfl);rw[hv] at hu;cases hu;obtain⟨t,rfl⟩:=ru;exact⟨t,by simp[hi]⟩
 refine call_min_walk (Jec pl.isList ?_);have hne:p≠s.heap.objs.size:=λe=>by
  obtain⟨o,n,ho,_⟩:=pl;exact absurd (Jar ho) (by rw[e];exact Jch _)
 refine⟨s.heap.objs.size,_,_,_,_,_,λi j=>decide (ns.getD i 0<ns.getD j 0),rfl,Jhs (A:=X.A.in1) (I.ok.hd hc) _ p hne its.toArray,⟨⟨_,Ja1 _ rfl,rfl,rfl⟩,pl.isList.at λo e=>Jad _ e⟩,?_,?_,?_,λv h' tk hv kp=>?_⟩
 .intro b hb;simp at hb;rcases hb with rfl|rfl
  .rw [Jcs];exact Jej _
  .rw [Jcs];obtain⟨o,ho,_⟩:=pl.isList;exact Jce (Jar ho)
 .rw [Jav,<- hl];exact hpos
 .exact CmpOf.ints_lt (λi=>ns.getD i 0) at'
 .obtain ⟨t,rfl⟩:=at' _ v hv;rw[Jav,<- hl];obtain⟨b1,b2⟩:=Znk (λi=>ns.getD i 0) (ns.length-1);have f:=I.fpOk (H':=H) (Jaf s.heap.objs.size) (I.hok.fresh (Jaf _));generalize argBest (λi j=>decide (ns.getD i 0<ns.getD j 0)) (ns.length-1)=b at *;refine⟨.int (ns.getD b 0),H,(I.kept (h':=s.heap.push { cls:=.type "list_iterator",data:=.fields #[.ref p,.int 0 0] }) (t':=s.toks) λb o e=>Jad _ e).turned (it:=s.heap.objs.size) (t':=tk) (λb o hb e=>kp b o (by simpa using hb) e) f.1 f.2.1 f.2.2.2.1 f.2.2.2.2.1 f.2.2.2.2.2,⟨t,rfl⟩,q _ ?_ λx hx=>?_⟩
  .have hb:b<ns.length:=∅
   rw[Jax,Jac hb];exact Jcb hb
  .obtain ⟨j,hj,rfl⟩:=Jdf.mp hx;have:=b2 j ∅;rw[show ns.getD j 0=ns[j] by simp[hj]] at this;exact this
end
def onV:Option (Option V)->(V->Prop)->Prop
 | some (some v),k=>k v
 | _,_=>False
theorem Znc (v:V)(k:V->Prop):onV (some (some v)) k=k v:=rfl
def tVr (i:Nat):TE:=λσ H Q=>onV σ[i]? λv=>Q v H
theorem tVr_old {i:Nat}{σ:St}{H:Hp}{Q:VK}(h:tVr i σ H Q):Zgq i σ H Q:=by
 unfold tVr at h;cases e:σ[i]? with
 | none=>rw[e] at h;exact h.elim
 | some o=>
  rw[e] at h;cases o with
  | none=>exact h.elim
  | some v=>exact⟨v,e,h⟩
theorem pvr {X:Cx}(i:Nat){x:Str}{pos:Pos}(hN:X.N[i]?=some x:=by rfl)(hv:Vis X.env.scope x:=by walk_at "h")(hd:(x == ("__debug__" : Str))=false:=by decide)(hcd:(x == ("__classdict__" : Str))=false:=by decide):PE X (.Name x pos) (tVr i):=λpins s σ H Q I h=>pv i hN hv hd hcd pins s σ H Q I (tVr_old h)
def onI:V->(Int->Prop)->Prop
 | .int i,k=>k i
 | _,_=>False
def onR:V->(Addr->Prop)->Prop
 | .ref a,k=>k a
 | _,_=>False
def onB:V->(Bool->Prop)->Prop
 | .bl b,k=>k b
 | _,_=>False
def on1:List V->(V->Prop)->Prop
 | [y],k=>k y
 | _,_=>False
theorem Zq0 (i:Int)(k:Int->Prop):onI (.int i) k=k i:=rfl
theorem Zqz (a:Addr)(k:Addr->Prop):onR (.ref a) k=k a:=rfl
theorem Zvl (b:Bool)(k:Bool->Prop):onB (.bl b) k=k b:=rfl
theorem Zq1 (y:V)(k:V->Prop):on1 [y] k=k y:=rfl
theorem Zgd {x:V}{k:Int->Prop}(h:onI x k):∃ i,x=.int i/\k i:=by
 cases x <;> first|exact⟨_,rfl,h⟩|exact False.elim h
theorem Znd {x:V}{k:Addr->Prop}(h:onR x k):∃ a,x=.ref a/\k a:=by
 cases x <;> first|exact⟨_,rfl,h⟩|exact False.elim h
theorem onB_of {x:V}{k:Bool->Prop}(h:onB x k):∃ b,x=.bl b/\k b:=by
 cases x <;> first|exact⟨_,rfl,h⟩|exact False.elim h
theorem on1_of {vs:List V}{k:V->Prop}(h:on1 vs k):∃ y,vs=[y]/\k y:=by
 match vs,h with
 | [y],h=>exact⟨y,rfl,h⟩
def rJ0 (g:Int->Int->V):R2:=λx y H Q=>onI x λi=>onI y λj=>Q (g i j) H
def rJ (C:Int->Int->Prop)(g:Int->Int->V):R2:=λx y H Q=>onI x λi=>onI y λj=>C i j/\Q (g i j) H
def rEqJ:R2:=λx y H Q=>onI x λi=>onI y λj=>Q (.bl (decide (i=j))) H
def rNeJ:R2:=λx y H Q=>onI x λi=>onI y λj=>Q (.bl (!decide (i=j))) H
section
variable {X:Cx}{f:Value->Value->Sem Value}
theorem opJ0 {g:Int->Int->V}(h:OpR X f (rI0 g)):OpR X f (rJ0 g):=λpins s σ H x y v u Q I rx ry q=>h pins s σ H x y v u Q I rx ry (let ⟨i,ei,q⟩:=Zgd q;let ⟨j,ej,q⟩:=Zgd q;⟨i,j,ei,ej,q⟩)
theorem opJ {C:Int->Int->Prop}{g:Int->Int->V}(h:OpR X f (rI C g)):OpR X f (rJ C g):=λpins s σ H x y v u Q I rx ry q=>h pins s σ H x y v u Q I rx ry (let ⟨i,ei,q⟩:=Zgd q;let ⟨j,ej,q⟩:=Zgd q;⟨i,j,ei,ej,q⟩)
theorem dec_ij {i j:Int}:decide (V.int i=V.int j)=decide (i=j):=by
 by_cases c:i=j
 .rw [Jam c,Jam (by rw[c])]
 .rw [Jcg c,Jcg λz=>c (V.int.inj z)]
theorem opEqJ (h:OpR X f rEq):OpR X f rEqJ:=λpins s σ H x y v u Q I rx ry q=>h pins s σ H x y v u Q I rx ry (by
 refine Zae (Zgd q) λi e91 q1=>?_;obtain rfl:=e91;refine Zae (Zgd q1) λj e92 q2=>?_;obtain rfl:=e92;exact⟨rfl,by rw[dec_ij];exact q2⟩)
def tTst (t:TE):TT:=λσ H Q=>t σ H λx H'=>onB x λk=>Q k H'
theorem Zaq {op:CmpOp}{r:R2}{a b:Expr}{ta tb:TE}{pos:Pos}(ho:OpR X (compareOp op) r)(ha:PE X a ta)(hb:PE X b tb)(hm:behindInMarks op b=false):PT X (.Compare a [op] [b] pos) (tTst (tOp r ta tb)):=by
 intro pins s σ H Q I h;refine Jf7 (thn (ha pins s σ H _ I h) λv s1 ⟨x,H1,I1,r1,q1⟩=>thn (hb pins s1 σ H1 _ I1 q1) λu s2 ⟨y,H2,I2,r2,q2⟩=>
  thn (ho pins s2 σ H2 x y v u _ I2 r1 r2 q2) λc s3 ⟨z,H3,I3,r3,q3⟩=>?_) hm
 refine Zae (onB_of q3) λk e q3=>?_;subst e;cases r3;exact Jcd ⟨H3,I3,q3⟩
def rIxJ (K:Frag):R2:=λx y H Q=>onR x λp=>onI y λi=>∃ xs,SqL K H p xs/\∃ v,atI xs i=some v/\Q v H
def rIxTJ (K:Frag):R2:=λx y H Q=>onR x λp=>onI y λi=>∃ xs,SqT K H p xs/\∃ v,atI xs i=some v/\Q v H
theorem ixJ {K:Frag}(h:IxR X (rIxL K)):IxR X (rIxJ K):=λa b pins s σ H x y v u Q I rx ry q=>h a b pins s σ H x y v u Q I rx ry (by
 refine Zae (Znd q) λp e95 q1=>?_;obtain rfl:=e95;refine Zae (Zgd q1) λi e96 e97=>?_;obtain rfl:=e96;obtain⟨xs,h1,v,h2,q2⟩:=e97;exact⟨p,xs,i,v,rfl,rfl,h1,h2,q2⟩)
theorem ixTJ {K:Frag}(h:IxR X (rIxT K)):IxR X (rIxTJ K):=λa b pins s σ H x y v u Q I rx ry q=>h a b pins s σ H x y v u Q I rx ry (by
 refine Zae (Znd q) λp e98 q1=>?_;obtain rfl:=e98;refine Zae (Zgd q1) λi e99 e910=>?_;obtain rfl:=e99;obtain⟨xs,h1,v,h2,q2⟩:=e910;exact⟨p,xs,i,v,rfl,rfl,h1,h2,q2⟩)
def rAppJ:V->List V->Hp->VK->Prop:=λx vs H Q=>onR x λl=>on1 vs λy=>∃ xs,H l=some (.lst xs)/\xs.length<sizeLine/\Q .non (upd H l (.lst (xs++[y])))
theorem mtJ {id:String}(h:MtR X id Zja):MtR X id rAppJ:=λpins s σ H x xs v us Q I rx rv q=>h pins s σ H x xs v us Q I rx rv (by
 refine Zae (Znd q) λl e911 q1=>?_;obtain rfl:=e911;refine Zae (on1_of q1) λy e912 e913=>?_;obtain rfl:=e912;obtain⟨ys,h1,h2,q2⟩:=e913;exact⟨l,ys,y,rfl,rfl,h1,h2,q2⟩)
def tFldJ (K:Frag)(ta:TE)(f:Str):TE:=λσ H Q=>ta σ H λx H1=>onR x λa=>∃ C dx fs,H1 a=some (.ins C dx fs)/\Cls K C/\NoAttr K C f/\∃ v,fs.lookup f=some v/\Q v H1
theorem Zs4 {i:Nat}{σ:St}{H:Hp}{Q Q':VK}(h:tVr i σ H Q)(m:∀ x H1,Q x H1->Q' x H1):tVr i σ H Q':=by
 unfold tVr at *;cases e:σ[i]? with
 | none=>rw[e] at h;exact h.elim
 | some o=>
  rw[e] at h;cases o with
  | none=>exact h.elim
  | some v=>exact m _ _ h
theorem Zlt {e:Expr}{i:Nat}{f:Str}{pos:Pos}(he:PE X e (tVr i))(hb:attributeBase e f X.env (eval e X.env)=eval e X.env):PE X (.Attribute e f pos) (tFldJ X.K (tVr i) f):=λpins s σ H Q I h=>Zqr he hb pins s σ H Q I (Zs4 h λx H1 q=>by
 refine Zae (Znd q) λa e914 e915=>?_;obtain rfl:=e914;obtain⟨C,dx,fs,h1,h2,h3,v,h4,q⟩:=e915;exact⟨a,C,dx,fs,v,rfl,h1,h2,h3,h4,q⟩)
end
end L2
set_option maxHeartbeats 4000000
open PySem L2 PyProof.Rows
local macro_rules|`($i>>>$n)=>`(@Zaf _ _ $i _ $n rfl (Or.inl rfl) (Or.inl rfl))
local macro_rules|`($i<<<$l)=>`(@Zaf _ _ $i _ (show (($l) : List Str).Nodup by decide +kernel) rfl (Or.inl rfl) (Or.inr rfl))
local macro_rules|`($i|||$n|||$x)=>`(Zat (i:=$i) $n rfl (Or.inl rfl) $x)
local macro_rules|`($a^^^$b)=>`(@Zba _ _ _ _ _ $a $b (by rfl))
local macro_rules|`($c<$>$h<$>$x)=>`(Zco $c ($h).m rfl $x)
local macro_rules | `($a<&>$b)=>`(@pa_c _ _ _ _ _ $a $b ⇑1)
local macro_rules | `($a<*>$b)=>`(@Zti _ _ _ _ _ $a $b)
local macro_rules | `($o<|>$a<&&>$b)=>`(@pe_op _ _ _ _ _ _ _ _ $o $a $b)
local macro_rules | `($o<|>$a<||>$b)=>`(@pe_ix _ _ _ _ _ _ _ $o $a $b (λ_ _=>rfl))
local macro_rules | `(~~~$x)=>`(@Zan _ _ _ (@ps_ret _ _ _ _ $x))
local macro_rules | `(tactic| walk_at "wp")=>do
 let f (s:String):=(s.splitOn " ").toArray.map λx=>Lean.mkIdent x.toName
 let b:=f "tSeq Zu1 Zpj tOp tUn Zgq tVr Znc Zq0 Zqz Zvl Zq1 rJ0 rJ rEqJ rNeJ tTst rIxJ rIxTJ rAppJ tFldJ tC tCB Ze1 Zmu tRet tRetN tNext tDrop tAsg tAug ipI Za7 gTup gCons gNil gSub tTup tLst tSl Zlb tPart Zmv Zlc tBM tBM0 tPar tB tAnd tOr tNot tAndV tOrV tNotV tIf Zgi Zpl Zs5 tFld sFld tDGet Zlq Zqd rInN0 sDPut gLst tAugS rGetL rI0 rI rU rIxL rIxT rSetL rSlL Zja rPop Zlp Zlo Ztf tBMR rInD Zpm tTry hEnds Zmt hnd_K pnx_K rCat rEq rNe rEqL rEqT rIn Zgn iTup Zoz Zuc cV cx_K cx_P cx_W in_K Zuz E0 L2.start List.map List.length List.replicate List.cons_append List.nil_append List.getElem?_cons_zero List.getElem?_cons_succ List.set_cons_zero List.set_cons_succ"
 let c:=f "scal_ii scal_bb scal_ss Jcy Option.some.injEq exists_eq_left' exists_eq_left exists_and_left V.int.injEq V.bl.injEq V.ref.injEq V.ty.injEq Jci reduceCtorEq false_and and_false exists_false or_false false_or Jht true_and Nat.reduceSub Nat.reduceAdd Nat.reduceLT Jdk Jf3 Jcw"
 `(tactic| ((try dsimp only [$[$b:term],*]);(try simp only[$[$b:term],*,$[$c:term],*])))
namespace Pf
open PySem L2 PyProof.Rows
noncomputable def top (i:Nat):Stmt:=PySem.Challenge.pw_limbtables_k22_roots.main.body.getD i (.Pass ⟨0,0,0,0⟩)
noncomputable abbrev Zfq:Stmt:=top 6
noncomputable abbrev Zcu:Stmt:=top 10
noncomputable abbrev Zfr:Stmt:=top 11
noncomputable abbrev Zda:Stmt:=Zl7 (top 16) 0
noncomputable abbrev Zhi:Stmt:=top 12
noncomputable abbrev Zhg:Stmt:=top 13
noncomputable abbrev Zp2:Stmt:=top 14
noncomputable abbrev Zdk:Stmt:=top 15
noncomputable abbrev Zcg:Stmt:=Zl7 (top 16) 1
noncomputable abbrev Zcw:Stmt:=Zl7 (top 16) 5
noncomputable abbrev Zhh:Stmt:=top 18
noncomputable abbrev Zi4:Stmt:=top 19
noncomputable abbrev Zfk:Stmt:=top 21
noncomputable abbrev Zll:Stmt:=top 22
noncomputable abbrev Zfp:Stmt:=top 24
noncomputable abbrev Zhf:Stmt:=top 25
noncomputable abbrev Zfo:Stmt:=top 26
noncomputable abbrev Zen:Stmt:=top 27
noncomputable abbrev Zcf:Stmt:=top 28
noncomputable abbrev Zcv:Stmt:=top 29
noncomputable abbrev Zeo:Stmt:=top 30
noncomputable abbrev Zep:Stmt:=top 31
noncomputable abbrev Zd2:Stmt:=top 32
noncomputable abbrev Zd0:Stmt:=top 33
noncomputable abbrev Zhe:Stmt:=top 34
noncomputable abbrev Zfm:Stmt:=top 35
noncomputable abbrev Zfn:Stmt:=top 36
noncomputable abbrev Zc9:Stmt:=top 37
noncomputable abbrev Zfl:Stmt:=top 38
noncomputable abbrev Zd1:Stmt:=top 39
noncomputable abbrev Zi5:Stmt:=top 40
theorem Zhc:FnScope ["thing"] ["thing"] (Zai Zfq):=⟨rfl,rfl,rfl,⋯,rfl,⋯,⋯⟩
theorem Zds:FnScope ["many","arrows"] ["many","arrows"] (Zai Zcu):=⟨rfl,rfl,rfl,⋯,rfl,⋯,⋯⟩
theorem Zhd:FnScope ["many","thing"] ["many","thing"] (Zai Zfr):=⟨rfl,rfl,rfl,⋯,rfl,⋯,⋯⟩
theorem Zdz:FnScope ["self","many","arrows"] ["self","many","arrows"] (Zai Zda):=⟨rfl,rfl,rfl,⋯,rfl,⋯,⋯⟩
theorem Zid:FnScope ["points","arrows","least","tail","head","low","high","point"] ["points","arrows"] (Zai Zhi):=⟨rfl,rfl,rfl,⋯,rfl,⋯,⋯⟩
theorem Zib:FnScope ["points","arrows","many","ends","forks"] ["points","arrows"] (Zai Zhg):=⟨rfl,rfl,rfl,⋯,rfl,⋯,⋯⟩
theorem Zp1:FnScope ["points","arrows","fork","others"] ["points","arrows","fork"] (Zai Zp2):=⟨rfl,rfl,rfl,⋯,rfl,⋯,⋯⟩
theorem Zeh:FnScope ["many","lengths"] ["many","lengths"] (Zai Zdk):=⟨rfl,rfl,rfl,⋯,rfl,⋯,⋯⟩
theorem Zdd:FnScope ["self"] ["self"] (Zai Zcg):=⟨rfl,rfl,rfl,⋯,rfl,⋯,⋯⟩
theorem Zdu:FnScope ["self"] ["self"] (Zai Zcw):=⟨rfl,rfl,rfl,⋯,rfl,⋯,⋯⟩
theorem Zic:FnScope ["drawing"] ["drawing"] (Zai Zhh):=⟨rfl,rfl,rfl,⋯,rfl,⋯,⋯⟩
theorem Zj6:FnScope ["row","point"] ["row","point"] (Zai Zi4):=⟨rfl,rfl,rfl,⋯,rfl,⋯,⋯⟩
theorem Zg6:FnScope ["drawing","point","row","found","tail","head"] ["drawing","point","row"] (Zai Zfk):=⟨rfl,rfl,rfl,⋯,rfl,⋯,⋯⟩
theorem Zmy:FnScope ["drawing","points","waiting","seen","row","mirrors"] ["drawing"] (Zai Zll):=⟨rfl,rfl,rfl,⋯,rfl,⋯,⋯⟩
theorem Zhb:FnScope ["_law_script","_law_k"] ["_law_script","_law_k"] (Zai Zfp):=⟨rfl,rfl,rfl,⋯,rfl,⋯,⋯⟩
theorem Zia:FnScope ["_law_cell_here"] ["_law_cell_here"] (Zai Zhf):=⟨rfl,rfl,rfl,⋯,rfl,⋯,⋯⟩
theorem Zha:FnScope ["_law_bag_here","_law_many_here","_law_found"] ["_law_bag_here","_law_many_here"] (Zai Zfo):=⟨rfl,rfl,rfl,⋯,rfl,⋯,⋯⟩
theorem Zf4:FnScope ["_law_bag_here","_law_many_here","_law_left","_law_row","_law_at"] ["_law_bag_here","_law_many_here"] (Zai Zen):=⟨rfl,rfl,rfl,⋯,rfl,⋯,⋯⟩
theorem Zdc:FnScope ["_law_bag_here","_law_way","_law_edges_here","_law_many_here","_law_k","_law_one"] ["_law_bag_here","_law_way"] (Zai Zcf):=⟨rfl,rfl,rfl,⋯,rfl,⋯,⋯⟩
theorem Zdt:FnScope ["_law_bag_here","_law_sort","_law_many_here","_law_long","_law_edges_here"] ["_law_bag_here"] (Zai Zcv):=⟨rfl,rfl,rfl,⋯,rfl,⋯,⋯⟩
theorem Zf5:FnScope ["_law_bag_here","_law_way","_law_many_here"] ["_law_bag_here","_law_way"] (Zai Zeo):=⟨rfl,rfl,rfl,⋯,rfl,⋯,⋯⟩
theorem Zf6:FnScope ["_law_bag_here","_law_way","_law_many_here","_law_left","_law_order_here","_law_arrows","_law_at","_law_one","_law_other"] ["_law_bag_here","_law_way"] (Zai Zep):=⟨rfl,rfl,rfl,⋯,rfl,⋯,⋯⟩
theorem Ze6:FnScope ["_law_arrows","_law_point","_law_row","_law_tail","_law_head"] ["_law_arrows","_law_point"] (Zai Zd2):=⟨rfl,rfl,rfl,⋯,rfl,⋯,⋯⟩
theorem Ze4:FnScope ["_law_many_here","_law_arrows","_law_home","_law_turn","_law_tail","_law_head","_law_rows","_law_first"] ["_law_many_here","_law_arrows"] (Zai Zd0):=⟨rfl,rfl,rfl,⋯,rfl,⋯,⋯⟩
theorem Zh9:FnScope ["_law_arrows","_law_first","_law_steps","_law_row","_law_at","_law_other"] ["_law_arrows","_law_first"] (Zai Zhe):=⟨rfl,rfl,rfl,⋯,rfl,⋯,⋯⟩
theorem Zg8:FnScope ["_law_arrows","_law_piece","_law_many_here","_law_fork","_law_steps","_law_arms"] ["_law_arrows","_law_piece"] (Zai Zfm):=⟨rfl,rfl,rfl,⋯,rfl,⋯,⋯⟩
theorem Zg9:FnScope ["_law_arrows","_law_one","_law_other","_law_total","_law_k","_law_tail","_law_head"] ["_law_arrows","_law_one","_law_other"] (Zai Zfn):=⟨rfl,rfl,rfl,⋯,rfl,⋯,⋯⟩
theorem Zdy:FnScope ["_law_arrows","_law_point","_law_row","_law_made"] ["_law_arrows","_law_point","_law_row"] (Zai Zc9):=⟨rfl,rfl,rfl,⋯,rfl,⋯,⋯⟩
theorem Zg7:FnScope ["_law_kind_here"] ["_law_kind_here"] (Zai Zfl):=⟨rfl,rfl,rfl,⋯,rfl,⋯,⋯⟩
theorem Ze5:FnScope ["_law_many_here","_law_arrows","_law_rows","_law_there","_law_row","_law_point","_law_made"] ["_law_many_here","_law_arrows","_law_rows"] (Zai Zd1):=⟨rfl,rfl,rfl,⋯,rfl,⋯,⋯⟩
theorem Zu3:FnScope ["_law_script","_law_k","_law_bag_here","_law_many_here","_law_arrows","_law_drawing","_law_told","_law_due","_law_kept","_law_row"] ["_law_script"] (Zai Zi5):=⟨rfl,rfl,rfl,⋯,rfl,⋯,⋯⟩
structure Txt (K:Frag)(mg:Str->Option Value)(C:Addr):Prop where
 cl_Drawing:Cls K C
 nM:NoAttr K C "many"
 nA:NoAttr K C "arrows"
 n_len:mg "len" = none
 n_range:mg "range" = none
 n_list:mg "list" = none
 n_min:mg "min" = none
 n_int:mg "int" = none
 n_bool:mg "bool" = none
 n_tuple:mg "tuple" = none
 n_all:mg "all" = none
 n_isinstance:mg "isinstance" = none
 n_sorted:mg "sorted" = none
 n_sum:mg "sum" = none
 n_set:mg "set" = none
 g_MOST_POINTS:∃ t,mg "MOST_POINTS" = some (.int 8 t)
 g_MOST_ARROWS:∃ t,mg "MOST_ARROWS" = some (.int 9 t)
noncomputable def Zn9 (a b:Int):HO:=.lst [.int a,.int b]
def Bag (H:Hp)(l:Addr):Prop:=∃ a b:Int,H l=some (Zn9 a b)/\0<=b/\b<2147483647
def Zpu (K:Frag):Sp:=λvs H Q _=>∃ (a:Addr) (ns:List Int) (k:Int),vs=[.ref a,.int k]/\SqL K H a (ns.map V.int)/\ns.length<=63/\0<=k/\∀ c,Q (.int c) H
def spBag:Sp:=λvs H Q _=>∃ c:Int,vs=[.int c]/\∀ (l:Addr) (a b:Int),H l=none->0<=b->b<2147483647->Q (.ref l) (upd H l (Zn9 a b))
def Ze3:Sp:=λvs H Q _=>∃ (l:Addr) (a b n:Int),vs=[.ref l,.int n]/\H l=some (Zn9 a b)/\0<=b/\b<2147483647/\0<n/\n<1000000000 /\
 ∀ (r a' b':Int),0<=r->r<n->0<=b'->b'<2147483647->Q (.int r) (upd H l (Zn9 a' b'))
section
variable {C:Addr}
theorem ok_cell (F:Fun K "_law_cell" "_law_cell" Zfp f fd)(T:Txt K mg C):FnOk P w K mg base CX0 1 f fd ["_law_script","_law_k"] (Zpu K):=by
 have nd:=Zhb.nd;refine F.ok Zhb (λvs H Q E h=>?_) (λcdv A outer s H vs Q E hr h=>?_)
 .refine Zdv h λa ns k e91 _=>?_;clear h;obtain rfl:=e91;rfl
 .refine Zck h λa ns k e92 hS hl e93=>?_;clear h;obtain rfl:=e92;obtain⟨h0,q⟩:=e93;refine⟨_,((@Zbb _ _ _ _ _ _ _ _ (Zaq Zom (pvr 1) (Za4 Zaj rfl T.n_len Jbo ((pvr 0)<&>Zab)) (Zam _)) (~~~((ixJ Zaw)<|>(pvr 0)<||>(pvr 1))) Zao)<*>(~~~Zac)),?_⟩;walk_at "wp";refine⟨_,.inl hS,Zc8 (λhc=>?_) (λ_=>q 0)⟩;have hc:=Jaj hc;rw[Jaa] at hc;refine⟨_,hS,V.int (ns[k.toNat]'(Zsy h0 hc)),Zbp h0 ?_,q _⟩;rw[Jay,Jac (Zsy h0 hc)];rfl
theorem pow60:IntMulOk (10 ^ (60:Int).toNat) (10 ^ (60:Int).toNat):=IntMulOk.of_bits ⋯ ⋯
theorem cpow (k:Int)(h0:0<=k)(h1:k<=1000):CPow 10 k:=⟨h0,∅,⇑0⟩
theorem Zih (c n:Int)(h:0<n):0<=c % n:=Int.emod_nonneg _ ∅
theorem Zii (c n:Int)(h:0<n):c % n<n:=Int.emod_lt_of_pos _ h
theorem ok_bag (F:Fun K "_law_bag" "_law_bag" Zhf f fd)(T:Txt K mg C):FnOk P w K mg base CX0 1 f fd ["_law_cell_here"] spBag:=by
 have nd:=Zia.nd;refine F.ok Zia (λvs H Q E h=>?_) (λcdv A outer s H vs Q E hr h=>?_)
 .refine Zae h λc e94 _=>?_;clear h;obtain rfl:=e94;rfl
 .refine Zae h λc e95 q=>?_;clear h;obtain rfl:=e95;refine⟨_,((@Zbb _ _ _ _ _ _ _ _ (Zaq op_ge (pvr 0) ((opJ Zqx)<|>Zac<&&>Zac) (Zam _)) (~~~(@Zbs _ _ _ _ ((Zfb<|>(pvr 0)<&&>(Zlx<|>((opJ Zqx)<|>Zac<&&>Zac)<&&>((opJ Zqx)<|>Zac<&&>Zac)))<&>(((opJ Zfb)<|>(pvr 0)<&&>Zac)<&>Zab)))) Zao)<*>(~~~(@Zbs _ _ _ _ (Zac<&>(((opJ Zfb)<|>((opJ0 Zbc)<|>((opJ Zkf)<|>((opJ Zfb)<|>(pvr 0)<&&>Zac)<&&>Zac)<&&>Zac)<&&>Zac)<&>Zab))))),?_⟩;walk_at "wp";refine⟨cpow _ ⇑0 ⇑0,Zc8 (λ_=>?_) (λ_=>?_)⟩
  .exact ⟨cpow _ ⇑0 ⇑0,cpow _ ⇑0 ⇑0,pow60,⋯,⇑0,⇑0,λp hp=>q p _ _ hp (Zih _ _ ⇑0) (Zii _ _ ⇑0)⟩
  .exact ⟨⇑0,.inr ⟨⇑0,⇑0⟩,⇑0,⇑0,λp hp=>q p _ _ hp (Zih _ _ ⇑0) (Zii _ _ ⇑0)⟩
theorem ok_draw (F:Fun K "_law_draw" "_law_draw" Zfo f fd)(T:Txt K mg C):FnOk P w K mg base CX0 1 f fd ["_law_bag_here","_law_many_here"] Ze3:=by
 have nd:=Zha.nd;refine F.ok Zha (λvs H Q E h=>?_) (λcdv A outer s H vs Q E hr h=>?_)
 .refine xE4_2 h λl a b n e96 _=>?_;clear h;obtain rfl:=e96;rfl
 .refine Zce h λl a b n e97 hl b0 e98=>?_;clear h;obtain rfl:=e97;refine Zbq e98 λb1 n0 n1 q=>?_;clear e98;refine⟨_,((@Zbb _ _ _ _ _ _ _ _ (Zaq op_ge ((ixJ Zaw)<|>(pvr 0)<||>Zac) (pvr 1) (Zam _)) ((2|||nd|||(Zfb<|>((ixJ Zaw)<|>(pvr 0)<||>Zac)<&&>(pvr 1)))<*>((Zd9 (Zjh<|>((ixJ Zaw)<|>(pvr 0)<||>Zac)<&&>(pvr 1)) (Zhm (pvr 0) Zac Zcn))<*>(~~~(pvr 2)))) Zao)<*>((Zd9 Zac (Zhm (pvr 0) Zac Zcn))<*>((Zd9 (Zfb<|>(Zbc<|>(Zkf<|>((ixJ Zaw)<|>(pvr 0)<||>Zac)<&&>Zac)<&&>Zac)<&&>Zac) (Zhm (pvr 0) Zac Zcn))<*>(~~~(Zfb<|>(Zjh<|>(Zfb<|>(Zkf<|>((ixJ Zaw)<|>(pvr 0)<||>Zac)<&&>(Zbc<|>(Zjh<|>((ixJ Zaw)<|>(pvr 0)<||>Zac)<&&>Zac)<&&>Zac))<&&>Zac)<&&>Zac)<&&>(pvr 1)))))),?_⟩;walk_at "wp";refine⟨_,SqL.of hl,_,rfl,_,rfl,Zc8 (λhc=>?_) (λhc=>?_)⟩
  .refine ⟨_,SqL.of hl,_,rfl,_,rfl,n0,_,SqL.of hl,_,rfl,_,rfl,⟨n0,∅⟩,_,hl,_,rfl,?_⟩;exact q _ _ _ (Zih _ _ n0) (Zii _ _ n0) b0 b1
  .refine ⟨_,hl,_,rfl,_,SqL.of Zaa,_,rfl,_,rfl,.inr ⟨⇑0,⇑0⟩,⇑0,_,Zaa,_,rfl,_,SqL.of Zaa,_,rfl,_,SqL.of Zaa,_,rfl,_,rfl,⟨⇑0,⇑0⟩,_,rfl,?_⟩;have h1:=Zih (b*48271+4099) 2147483647 ⇑0;have h2:=Zii (b*48271+4099) 2147483647 ⇑0;refine⟨.inl ⟨∅,∅⟩,⇑0,⟨⇑0,⇑0⟩,n0,?_⟩;rw[upd_upd];exact q _ _ _ (Zih _ _ n0) (Zii _ _ n0) h1 h2
end
end Pf
namespace Pf
open PySem L2 PyProof.Rows
section
variable {C:Addr}
def InR (m:Int)(ys:List Int):Prop:=∀ y∈ys,0<=y/\y<m
theorem Zqc (lo hi:Int):Zk6 lo hi=((List.range (hi-lo).toNat).map λ(i:Nat)=>lo+(i:Int)).map V.int:=by
 unfold Zk6;rw[Jck];rfl
theorem Zsh (xs:List V)(k:Int)(h0:0<=k)(h1:k<=xs.length):Zf0 xs none (some k)=xs.take k.toNat:=by
 unfold Zf0 HT.sIx;have:¬ k<0:=∅
 simp only[this,Jf3,List.drop_zero,Nat.sub_zero];congr 1;exact oz66 h1
theorem Zsi (xs:List V)(k:Int)(h0:0<=k)(h1:k<=xs.length):Zf0 xs (some k) none=xs.drop k.toNat:=by
 unfold Zf0 HT.sIx;have e:¬ k<0:=∅
 have e2:min k.toNat xs.length=k.toNat:=by exact oz66 h1
 simp only[e,Jf3,e2];rw[Jcc];rw[Jc7];omega
theorem Bag.ne {H:Hp}{l p:Addr}(h:Bag H l)(hp:H p=none):p≠l:=by
 refine Zcl h λa b e _=>?_;clear h;exact (Zad e hp).symm
theorem Bag.new {H:Hp}{l p:Addr}{o:HO}(h:Bag H l)(hp:p≠l):Bag (upd H p o) l:=by
 refine Zbf h λa b e h1 h2=>?_;clear h;exact Za2 a b ⟨by rw[Zag hp.symm];exact e,h1,h2⟩
theorem Bag.set {H:Hp}{l:Addr}{a b:Int}(h1:0<=b)(h2:b<2147483647):Bag (upd H l (Zn9 a b)) l:=⟨a,b,Zaa,h1,h2⟩
def Edge (H:Hp)(m:Int)(x:V):Prop:=∃ (t:Addr) (i j:Int),x=.ref t/\H t=some (.tup [.int i,.int j])/\0<=i/\i<m/\0<=j/\j<m
def Edges (H:Hp)(m:Int)(xs:List V):Prop:=∀ x∈xs,Edge H m x
theorem Edge.same {H H':Hp}{m:Int}{x:V}(e:Edge H m x)(s:Same H H'):Edge H' m x:=by
 refine Zjy e λt i j h1 h2 h3=>?_;clear e;exact Zcs t i j ⟨h1,s _ _ h2,h3⟩
theorem Edges.same {H H':Hp}{m:Int}{xs:List V}(e:Edges H m xs)(s:Same H H'):Edges H' m xs:=λx hx=>(e x hx).same s
theorem Edge.ext {H H':Hp}{m:Int}{l:Addr}{x:V}{ys:List V}(e:Edge H m x)(s:Ext l H H')(hl:H l=some (.lst ys)):Edge H' m x:=by
 refine Zjy e λt i j h1 h2 h3=>?_;clear e;exact Zcs t i j ⟨h1,s _ _ (Zh8 h2 hl (by intro z;cases z)) h2,h3⟩
theorem Edges.ext {H H':Hp}{m:Int}{l:Addr}{xs ys:List V}(e:Edges H m xs)(s:Ext l H H')(hl:H l=some (.lst ys)):Edges H' m xs:=λx hx=>(e x hx).ext s hl
theorem Edges.nil {H:Hp}{m:Int}:Edges H m []:=λ_ h=>nomatch h
theorem Edges.snoc {H:Hp}{m:Int}{xs:List V}{x:V}(e:Edges H m xs)(h:Edge H m x):Edges H m (xs++[x]):=λy hy=>by
 rcases Jbf.mp hy with z|z
 .exact e y z
 .rw [Jas.mp z];exact h
theorem Edges.append {H:Hp}{m:Int}{xs ys:List V}(e:Edges H m xs)(h:Edges H m ys):Edges H m (xs++ys):=λy hy=>by
 rcases Jbf.mp hy with z|z
 .exact e y z
 .exact h y z
theorem Edges.lift {H:Hp}{m m':Int}{xs:List V}(e:Edges H m xs)(h:m<=m'):Edges H m' xs:=λy hy=>by
 refine Zck (e y hy) λt i j h1 h2 h3 e99=>?_;refine Zap e99 λh4 h5 h6=>?_;clear e99;exact Zcs t i j ⟨h1,h2,h3,∅,h5,∅⟩
theorem Edges.put {H:Hp}{m:Int}{xs ys:List V}{p:Addr}{o:HO}(e:Edges H m xs)(hp:H p=some (.lst ys)):Edges (upd H p o) m xs:=e.ext (l:=p) Ext.set hp
structure Out (l:Addr)(H:Hp)(p e:Addr)(m:Int)(xs:List V)(H':Hp):Prop where
 ext:Ext l H H'
 bag:Bag H' l
 tup:H' p=some (.tup [.int m,.ref e])
 lst:H' e=some (.lst xs)
 new:H e=none
 lo:1<=m
 hi:m<=8
 len:xs.length<=9
 ed:Edges H' m xs
def spOut (K0:List V->Prop):Sp:=λvs H Q _=>∃ (l:Addr) (r:List V),vs=.ref l::r/\K0 r/\Bag H l/\∀ p e m xs H',Out l H p e m xs H'->Q (.ref p) H'
def way0 (r:List V):Prop:=r=[]
theorem Edge.mk {H:Hp}{p:Addr}{i j m:Int}(h1:0<=i)(h2:i<m)(h3:0<=j)(h4:j<m):Edge (upd H p (.tup [.int i,.int j])) m (.ref p):=⟨p,i,j,rfl,Zaa,h1,h2,h3,h4⟩
theorem Edges.add {H:Hp}{p:Addr}{i j m:Int}{xs:List V}(e:Edges H m xs)(hp:H p=none)(h1:0<=i)(h2:i<m)(h3:0<=j)(h4:j<m):Edges (upd H p (.tup [.int i,.int j])) m (xs++[.ref p]):=
 (e.same (Same.new hp)).snoc (Edge.mk h1 h2 h3 h4)
theorem Zf1 {fr:List (Str×Nat)}{σ:L2.St}{t1 t2:TE}{lo m:Int}{n:Nat}{D:Addr}{H1:Hp}{Q:VK}(a b:Nat->Int)(hD:H1 D=none)(hn:n<=9)(h1:∀ i H Q,i<n->Q (.int (a i)) H->t1 (some (.int (lo+(i:Nat)))::Zb3 fr σ) H Q)(h2:∀ i H Q,i<n->Q (.int (b i)) H->t2 (some (.int (lo+(i:Nat)))::Zb3 fr σ) H Q)(hr:∀ i,i<n->0<=a i/\a i<m/\0<=b i/\b i<m)(hQ:∀ xs H',Same H1 H'->H' D=some (.lst xs)->xs.length=n->Edges H' m xs->Q (.ref D) H'):
  Zb4 (Za7 0) Zgi (tTup (Ze1 t1 (Ze1 t2 Zmu))) (Itr lo n) D (Zfe 1 fr σ) H1 Q:=by
 refine Zgy (λi vs H=>Same H1 H/\H D=some (.lst vs)/\vs.length=i/\Edges H m vs) ⟨Same.new hD,Zaa,rfl,Edges.nil⟩ ?_ (λvs H ⟨s,e,l,d⟩=>hQ vs H s e l d);intro i x vs σ' H hi e91;obtain rfl:=e91;intro sh e92;refine Zbq e92 λs e hl d=>?_;clear e92;obtain⟨z,rfl⟩:=sh.one;simp only[Zcm,Za7,Zgi,List.set_cons_zero,Jdk,tTup,Ze1,Zmu];refine h1 i H _ hi (h2 i H _ hi ⟨by show 2<=sizeLine;decide,λp hp=>?_⟩);refine Zbq (hr i hi) λr1 r2 r3 r4=>?_;have nD:D≠p:=Zad e hp;have e':(upd H p (.tup [.int (a i),.int (b i)])) D=some (.lst vs):=by rw[Zag nD];exact e
 exact leaf (ws:=vs++[.ref p]) hi Sh.mk1 e' (Zah ∅) ⟨(s.trans (Same.new hp)).upd hD,Zaa,by rw[Jaq,hl];rfl,(d.add hp r1 r2 r3 r4).put e'⟩
theorem Out.fin {l p t:Addr}{m:Int}{xs:List V}{H H2:Hp}(ex:Ext l H H2)(b:Bag H2 l)(hp:H2 p=some (.lst xs))(new:H p=none)(lo:1<=m)(hi:m<=8)(len:xs.length<=9)(d:Edges H2 m xs)(ht:H2 t=none):
  Out l H t p m xs (upd H2 t (.tup [.int m,.ref p])):=
 ⟨ex.trans (Ext.new ht),b.new (b.ne ht),Zaa,by rw[Zag (Zad hp ht)];exact hp,new,lo,hi,len,d.same (Same.new ht)⟩
theorem Bag.draw {H:Hp}{l:Addr}{n:Int}{Q:VK}{E:XK}(b:Bag H l)(h0:0<n)(h1:n<1000000000)(q:∀ (r:Int) (H':Hp),0<=r->r<n->Ext l H H'->Bag H' l->Q (.int r) H'):Ze3 [.ref l,.int n] H Q E:=by
 refine Zbf b λx y e y0 y1=>?_;clear b;exact Zjx l x y n ⟨rfl,e,y0,y1,h0,h1,λr a' b' r0 r1 c0 c1=>q r _ r0 r1 Ext.set (Bag.set c0 c1)⟩
theorem Bag.lst {H:Hp}{l:Addr}(b:Bag H l):∃ ys,H l=some (.lst ys):=by
 refine Zcl b λx y e _=>?_;clear b;exact⟨_,e⟩
theorem Bag.same {H H':Hp}{l:Addr}(b:Bag H l)(s:Same H H'):Bag H' l:=by
 refine Zbf b λx y e h1 h2=>?_;clear b;exact Za2 x y ⟨s _ _ e,h1,h2⟩
theorem Out.done {l p t:Addr}{m:Int}{xs:List V}{H H2 H5:Hp}(ex:Ext l H H2)(b:Bag H2 l)(s:Same H2 H5)(hp:H5 p=none)(lo:1<=m)(hi:m<=8)(len:xs.length<=9)(d:Edges H5 m xs)(ht:(upd H5 p (.lst xs)) t=none):
  Out l H t p m xs (upd (upd H5 p (.lst xs)) t (.tup [.int m,.ref p])):=
 have b5:=b.same s;have e5:Ext l H H5:=ex.trans s.ext
 Out.fin (e5.trans (Ext.new hp)) (b5.new (b5.ne hp)) Zaa (e5.free (b5.ne hp) hp) lo hi len (d.same (Same.new hp)) ht
theorem ok_bad (F:Fun K "_law_bad_edges" "_law_bad_edges" Zcv f fd)(T:Txt K mg C)(Yaa:Cal P w K mg base "_law_draw" 1 Ze3):FnOk P w K mg base CX0 2 f fd ["_law_bag_here"] (spOut way0):=by
 have nd:=Zdt.nd;refine F.ok Zdt (λvs H Q E h=>?_) (λcdv A outer s H vs Q E hr h=>?_)
 .refine Zbf h λl r e91 e92 _=>?_;clear h;obtain rfl:=e91;obtain rfl:=e92;rfl
 .refine Zg3 h λl r e93 e94 hb q=>?_;clear h;obtain rfl:=e93;obtain rfl:=e94;refine⟨_,((1|||nd|||(Yaa<$>hr<$>((pvr 0)<&>(Zac<&>Zab))))<*>((@Zbb _ _ _ _ _ _ _ _ (Zaq Zcp (pvr 1) Zac (Zam _)) ((Zat (i:=2) nd rfl (Or.inr rfl) (Zbc<|>Zac<&&>(Yaa<$>hr<$>((pvr 0)<&>(Zac<&>Zab)))))<*>(~~~(@Zar _ _ _ _ _ ((pvr 2)<&>((Za1 (own:=["_law_k"]) (fr:=[("_law_many_here",2)]) rfl (Zbo (by kernel_rfl)) (Zgk rfl T.n_range ((pv 2)<&>Zab)) (λ_ _ _ _=>⟨(0<<<["_law_k","_law_many_here"]),Za5,(@Zar _ _ _ _ _ ((pv 0)<&>((Zfb<|>(Zbc<|>(pv 0)<&&>Zac)<&&>(pv 1))<&>Zab)))⟩))<&>Zab))))) Zao)<*>((@Zbb _ _ _ _ _ _ _ _ (Zaq Zcp (pvr 1) Zac (Zam _)) ((Zat (i:=2) nd rfl (Or.inr rfl) (Zbc<|>Zac<&&>(Yaa<$>hr<$>((pvr 0)<&>(Zac<&>Zab)))))<*>(~~~(@Zar _ _ _ _ _ ((pvr 2)<&>((Za1 (own:=["_law_k"]) (fr:=[]) rfl (Zbo (by kernel_rfl)) (Zqn rfl T.n_range (Zac<&>((pv 2)<&>Zab))) (λ_ _ _ _=>⟨(0<<<["_law_k"]),Za5,(@Zar _ _ _ _ _ (Zac<&>((pv 0)<&>Zab)))⟩))<&>Zab))))) Zao)<*>((@Zbb _ _ _ _ _ _ _ _ (Zaq Zcp (pvr 1) Zac (Zam _)) ((3|||nd|||(Zbc<|>Zac<&&>(Yaa<$>hr<$>((pvr 0)<&>(Zac<&>Zab)))))<*>((Zft (i:=4) (own:=["_law_k"]) (fr:=[]) rfl (Zbo (by kernel_rfl)) (Zgk rfl T.n_range ((Zc7<|>(pv 3)<&&>Zac)<&>Zab)) (λ_ _ _ _=>⟨(0<<<["_law_k"]),Za5,(@Zar _ _ _ _ _ ((pv 0)<&>((Zbc<|>(pv 0)<&&>Zac)<&>Zab)))⟩) nd rfl rfl rfl)<*>(~~~(@Zar _ _ _ _ _ ((Zbc<|>(pvr 3)<&&>Zac)<&>((Zhq<|>(pvr 4)<&&>(@Zbs _ _ _ _ ((@Zar _ _ _ _ _ (Zac<&>((pvr 3)<&>Zab)))<&>((@Zar _ _ _ _ _ (Zac<&>((Zbc<|>(pvr 3)<&&>Zac)<&>Zab)))<&>((@Zar _ _ _ _ _ ((Zc7<|>(pvr 3)<&&>Zac)<&>((Zbc<|>(pvr 3)<&&>Zac)<&>Zab)))<&>((@Zar _ _ _ _ _ ((Zc7<|>(pvr 3)<&&>Zac)<&>((Zbc<|>(pvr 3)<&&>Zac)<&>Zab)))<&>Zab))))))<&>Zab)))))) Zao)<*>((@Zbb _ _ _ _ _ _ _ _ (Zaq Zcp (pvr 1) Zac (Zam _)) ((Zat (i:=2) nd rfl (Or.inr rfl) (Zbc<|>Zac<&&>(Yaa<$>hr<$>((pvr 0)<&>(Zac<&>Zab)))))<*>(~~~(@Zar _ _ _ _ _ ((pvr 2)<&>((@Zbz _ _ _ _ _ _ _ _ _ _ Zct (@Zbs _ _ _ _ ((@Zar _ _ _ _ _ (Zac<&>(Zac<&>Zab)))<&>((@Zar _ _ _ _ _ (Zac<&>(Zac<&>Zab)))<&>((@Zar _ _ _ _ _ (Zac<&>(Zac<&>Zab)))<&>((@Zar _ _ _ _ _ (Zac<&>(Zac<&>Zab)))<&>((@Zar _ _ _ _ _ (Zac<&>(Zac<&>Zab)))<&>((@Zar _ _ _ _ _ (Zac<&>(Zac<&>Zab)))<&>((@Zar _ _ _ _ _ (Zac<&>(Zac<&>Zab)))<&>Zab)))))))) Zc0 (@Zcz _ _ _ (Zc7<|>(pvr 2)<&&>Zac)))<&>Zab))))) Zao)<*>(~~~(@Zar _ _ _ _ _ (Zac<&>((@Zbs _ _ _ _ ((@Zar _ _ _ _ _ (Zac<&>(Zac<&>Zab)))<&>((@Zar _ _ _ _ _ (Zac<&>(Zac<&>Zab)))<&>((@Zar _ _ _ _ _ (Zac<&>(Zac<&>Zab)))<&>((@Zar _ _ _ _ _ (Zac<&>(Zac<&>Zab)))<&>((@Zar _ _ _ _ _ (Zac<&>(Zac<&>Zab)))<&>((@Zar _ _ _ _ _ (Zac<&>(Zac<&>Zab)))<&>((@Zar _ _ _ _ _ (Zac<&>(Zac<&>Zab)))<&>Zab))))))))<&>Zab))))))))),?_⟩;walk_at "wp";refine hb.draw ⇑0 ⇑0 λz H1 z0 z1 e1 b1=>⟨rfl,Zc8 (λ_=>?_) (λ_=>⟨rfl,Zc8 (λ_=>?_) (λ_=>⟨rfl,Zc8 (λ_=>?_) (λ_=>⟨rfl,Zc8 (λ_=>?_) (λ_=>?_)⟩)⟩)⟩)⟩
  .refine b1.draw ⇑0 ⇑0 λr H2 r0 r1 e2 b2=>⟨r,rfl,?_⟩
   refine⟨_,rfl,1+r,rfl,∅,∅,λD hD=>Zf1 (m:=1+r) (λi=>0+(i:Int)) (λi=>(0+(i:Int)+1) % (1+r)) hD ∅ (λi H Q _ h=>⟨_,rfl,h⟩) (λi H Q _ h=>⟨_,rfl,_,_,rfl,rfl,_,rfl,_,_,rfl,rfl,∅,h⟩)
    (λi hi=>⟨∅,∅,Zih _ _ ∅,Zii _ _ ∅⟩) λxs H' s e hl d=>⟨⇑0,λt ht=>?_⟩⟩
   have n1:=b2.ne hD;have ex:Ext l H H2:=e1.trans e2;refine Zbf (id b2) λya yb ye y0 y1=>?_;exact q _ _ _ _ _ (Out.fin (ex.trans s.ext) ⟨ya,yb,s _ _ ye,y0,y1⟩ e (ex.free n1 hD) ∅ ∅ ∅ d ht)
  .refine b1.draw ⇑0 ⇑0 λr H2 r0 r1 e2 b2=>⟨r,rfl,?_⟩
   refine⟨_,rfl,1,5+r,rfl,⟨⇑0,⇑0,∅,∅⟩,λD hD=>Zf1 (m:=5+r) (λi=>0) (λi=>1+(i:Int)) hD ∅ (λi H Q _ h=>h) (λi H Q _ h=>⟨_,rfl,h⟩)
    (λi hi=>⟨∅,∅,∅,∅⟩) λxs H' s e hl d=>⟨⇑0,λt ht=>?_⟩⟩
   have n1:=b2.ne hD;have ex:Ext l H H2:=e1.trans e2;refine Zbf (id b2) λya yb ye y0 y1=>?_;exact q _ _ _ _ _ (Out.fin (ex.trans s.ext) ⟨ya,yb,s _ _ ye,y0,y1⟩ e (ex.free n1 hD) ∅ ∅ ∅ d ht)
  .refine b1.draw ⇑0 ⇑0 λr H2 r0 r1 e2 b2=>⟨r,rfl,?_⟩
   refine⟨_,rfl,_,_,rfl,rfl,_,rfl,∅,∅,λD hD=>Zf1 (m:=2+r) (λi=>0+(i:Int)) (λi=>0+(i:Int)+1) hD ∅ (λi H Q _ h=>⟨_,rfl,h⟩) (λi H Q _ h=>⟨_,rfl,_,_,rfl,rfl,h⟩)
    (λi hi=>⟨∅,∅,∅,∅⟩) λxs H' s e hl d=>?_⟩
   refine⟨⇑0,λp1 h1=>⟨⇑0,λp2 h2=>⟨⇑0,λp3 h3=>⟨⇑0,λp4 h4=>⟨⇑0,λp5 h5=>?_⟩⟩⟩⟩⟩;have D1:=(Edges.nil (H:=H') (m:=2+r+4)).add (i:=0) (j:=2+r) h1 ∅ ∅ ∅ ∅;have D2:=D1.add (i:=0) (j:=2+r+1) h2 ∅ ∅ ∅ ∅;have D3:=D2.add (i:=2+r-1) (j:=2+r+2) h3 ∅ ∅ ∅ ∅;have D4:=D3.add (i:=2+r-1) (j:=2+r+3) h4 ∅ ∅ ∅ ∅;have S5:=((((Same.new h1).trans (Same.new h2)).trans (Same.new h3)).trans (Same.new h4)).trans (Same.new (o:=.lst [.ref p1,.ref p2,.ref p3,.ref p4]) h5);refine⟨D,rfl,xs,S5 _ _ e,_,Zaa,Zah (by show xs.length+4<=1000;omega) |> Jb8,λp6 h6=>⟨⇑0,λp7 h7=>?_⟩⟩;exact q _ _ _ _ _ (Out.done (e1.trans e2) b2 (s.trans S5) h6 ∅ ∅ (by rw[Jaq];show xs.length+4<=9;omega) (Edges.append ((d.lift ∅).same S5) (D4.same (Same.new h5))) h7)
  .refine b1.draw ⇑0 ⇑0 λr H2 r0 r1 e2 b2=>⟨r,rfl,?_⟩
   refine⟨⇑0,λp1 h1=>⟨⇑0,λp2 h2=>⟨⇑0,λp3 h3=>⟨⇑0,λp4 h4=>⟨⇑0,λp5 h5=>⟨⇑0,λp6 h6=>⟨⇑0,λp7 h7=>⟨⇑0,λp8 h8=>⟨_,SqL.of Zaa,λp9 h9=>⟨⇑0,λp10 h10=>?_⟩⟩⟩⟩⟩⟩⟩⟩⟩⟩;have D1:=(Edges.nil (H:=H2) (m:=7)).add (i:=0) (j:=1) (m:=7) h1 ∅ ∅ ∅ ∅;have D2:=D1.add (i:=1) (j:=2) (m:=7) h2 ∅ ∅ ∅ ∅;have D3:=D2.add (i:=0) (j:=3) (m:=7) h3 ∅ ∅ ∅ ∅;have D4:=D3.add (i:=3) (j:=4) (m:=7) h4 ∅ ∅ ∅ ∅;have D5:=D4.add (i:=0) (j:=5) (m:=7) h5 ∅ ∅ ∅ ∅;have D6:=D5.add (i:=5) (j:=6) (m:=7) h6 ∅ ∅ ∅ ∅;have S8:=(((((((Same.new h1).trans (Same.new h2)).trans (Same.new h3)).trans (Same.new h4)).trans (Same.new h5)).trans (Same.new h6)).trans (Same.new h7)).trans (Same.new (o:=.lst [.ref p1,.ref p2,.ref p3,.ref p4,.ref p5,.ref p6,.ref p7]) h8);have E6:=D6.same ((Same.new (o:=.tup [.int 6,.int 7]) h7).trans (Same.new (o:=.lst [.ref p1,.ref p2,.ref p3,.ref p4,.ref p5,.ref p6,.ref p7]) h8));rcases (show r=0\/r=1 by omega) with rfl|rfl
   .exact q _ _ _ _ _ (Out.done (e1.trans e2) b2 S8 h9 ⇑0 ⇑0 (Ja8 (Zc3 _ _ _) (by show 7<=9;decide)) (E6.lift ⇑0) h10)
   .exact q _ _ _ _ _ (Out.done (e1.trans e2) b2 S8 h9 ⇑0 ⇑0 (Ja8 (Zc3 _ _ _) (by show 7<=9;decide)) (((D6.lift (m':=8) ⇑0).add (i:=6) (j:=7) h7 ⇑0 ⇑0 ⇑0 ⇑0).same (Same.new h8)) h10)
  .refine ⟨⇑0,λp1 h1=>⟨⇑0,λp2 h2=>⟨⇑0,λp3 h3=>⟨⇑0,λp4 h4=>⟨⇑0,λp5 h5=>⟨⇑0,λp6 h6=>⟨⇑0,λp7 h7=>⟨⇑0,λp8 h8=>⟨⇑0,λp9 h9=>?_⟩⟩⟩⟩⟩⟩⟩⟩⟩;have D1:=(Edges.nil (H:=H1) (m:=8)).add (i:=0) (j:=1) (m:=8) h1 ∅ ∅ ∅ ∅;have D2:=D1.add (i:=0) (j:=2) (m:=8) h2 ∅ ∅ ∅ ∅;have D3:=D2.add (i:=2) (j:=3) (m:=8) h3 ∅ ∅ ∅ ∅;have D4:=D3.add (i:=3) (j:=4) (m:=8) h4 ∅ ∅ ∅ ∅;have D5:=D4.add (i:=0) (j:=5) (m:=8) h5 ∅ ∅ ∅ ∅;have D6:=D5.add (i:=5) (j:=6) (m:=8) h6 ∅ ∅ ∅ ∅;have D7:=D6.add (i:=6) (j:=7) (m:=8) h7 ∅ ∅ ∅ ∅;exact q _ _ _ _ _ (Out.done e1 b1 (((((((Same.new h1).trans (Same.new h2)).trans (Same.new h3)).trans (Same.new h4)).trans (Same.new h5)).trans (Same.new h6)).trans (Same.new h7)) h8 ⇑0 ⇑0 (by show 7<=9;decide) D7 h9)
end
end Pf
set_option maxHeartbeats 1000000
namespace Pf
open PySem L2 PyProof.Rows
section
variable {C:Addr}
theorem iteP {c A B:Prop}[Decidable c](hc:c)(h:A):if c then A else B:=by rw[if_pos hc];exact h
theorem Zl5 {c A B:Prop}[Decidable c](hc:¬ c)(h:B):if c then A else B:=by rw[if_neg hc];exact h
theorem Zso {a D:Addr}{xs:List V}{fr:List (Str×Nat)}{σ:L2.St}{te:TE}{H1:Hp}{Q:VK}(fb:Nat->Bool)(ha:H1 a=some (.lst xs))(hD:H1 D=none)(hn:xs.length<=1000)(h:∀ (i:Nat) x H (Q:VK),xs[i]?=some x->Same H1 H->(∀ H',Same H H'->Q (.bl (fb i)) H')->te (some x::Zb3 fr σ) H Q)(hQ:∀ H',Same H1 H'->H' D=some (.lst (((List.range xs.length).map fb).map V.bl))->Q (.ref D) H'):Zb4 (Za7 0) Zgi te (Itl K a) D (Zfe 1 fr σ) H1 Q:=by
 refine Zbm (xs:=xs) (λi vs H=>Same H1 H/\H D=some (.lst vs)/\vs=((List.range i).map fb).map V.bl) ⟨Same.new hD,Zaa,rfl⟩ (λi vs H _ p=>SqL.of (p.1 _ _ ha)) ?_ (λvs H ⟨s,e,hv⟩=>hQ H s (by rw[e,hv]));intro i x vs σ' H hi hx sh e91;refine Zap e91 λs e e93=>?_;clear e91;obtain rfl:=e93;obtain⟨z,rfl⟩:=sh.one;simp only[Zcm,Za7,Zgi,List.set_cons_zero,Jdk];refine h i x H _ hx s λH' s'=>?_;exact leaf (ws:=((List.range (i+1)).map fb).map V.bl) hi Sh.mk1 (s' _ _ e) (Zah (by rw[Jaa,Jaa,Jcm];omega)) ⟨(s.trans s').upd hD,by rw[Zaa,Jde,Ja3,Ja3];rfl,rfl⟩
theorem Zsn {a D:Addr}{xs:List V}{fr:List (Str×Nat)}{σ:L2.St}{te:TE}{H1:Hp}{Q:VK}(fb:Nat->Bool)(ha:H1 a=some (.tup xs))(hD:H1 D=none)(hn:xs.length<=1000)(h:∀ (i:Nat) x H (Q:VK),xs[i]?=some x->Same H1 H->(∀ H',Same H H'->Q (.bl (fb i)) H')->te (some x::Zb3 fr σ) H Q)(hQ:∀ H',Same H1 H'->H' D=some (.lst (((List.range xs.length).map fb).map V.bl))->Q (.ref D) H'):Zb4 (Za7 0) Zgi te (Itt K a) D (Zfe 1 fr σ) H1 Q:=by
 refine Zus (xs:=xs) (λi vs H=>Same H1 H/\H D=some (.lst vs)/\vs=((List.range i).map fb).map V.bl) ⟨Same.new hD,Zaa,rfl⟩ (λi vs H _ p=>SqT.of (p.1 _ _ ha)) ?_ (λvs H ⟨s,e,hv⟩=>hQ H s (by rw[e,hv]));intro i x vs σ' H hi hx sh e92;refine Zap e92 λs e e94=>?_;clear e92;obtain rfl:=e94;obtain⟨z,rfl⟩:=sh.one;simp only[Zcm,Za7,Zgi,List.set_cons_zero,Jdk];refine h i x H _ hx s λH' s'=>?_;exact leaf (ws:=((List.range (i+1)).map fb).map V.bl) hi Sh.mk1 (s' _ _ e) (Zah (by rw[Jaa,Jaa,Jcm];omega)) ⟨(s.trans s').upd hD,by rw[Zaa,Jde,Ja3,Ja3];rfl,rfl⟩
theorem Zn8 (n:Nat):((List.range n).map λ_=>true).all id=true:=by
 rw[Jb1];intro b hb;refine Zae (Jan.mp hb) λ_ _ e95=>?_;obtain rfl:=e95;rfl
def Ziw:Sp:=λvs H Q _=>∃ i:Int,vs=[.int i]/\Q (.bl true) H
theorem Zts (F:Fun K "is_whole" "is_whole" Zfq f fd)(T:Txt K mg C):FnOk P w K mg base CX0 1 f fd ["thing"] Ziw:=by
 have nd:=Zhc.nd;refine F.ok Zhc (λvs H Q E h=>?_) (λcdv A outer s H vs Q E hr h=>?_)
 .refine Zae h λi e96 _=>?_;clear h;obtain rfl:=e96;rfl
 .refine Zae h λi e97 q=>?_;clear h;obtain rfl:=e97;refine⟨_,(~~~(Zvi (Za4 Zbv rfl T.n_isinstance Jef ((pvr 0)<&>((Zls rfl T.n_int boot_int)<&>Zab))) (Zvg (pe_not (Za4 Zbv rfl T.n_isinstance Jef ((pvr 0)<&>((Zls rfl T.n_bool boot_bool)<&>Zab))))))),?_⟩;walk_at "wp";exact Za2 _ _ ⟨⟨rfl,rfl⟩,_,rfl,_,.int i,_,Zrr K,iteT ⟨_,_,⟨rfl,rfl⟩,_,rfl,_,.int i,_,Zio K,q⟩⟩
def Zlj:Sp:=λvs H Q _=>∃ (m:Int) (x:V),vs=[.int m,x]/\Edge H m x/\∀ H',Same H H'->Q (.bl true) H'
theorem Zty (F:Fun K "is_arrow" "is_arrow" Zfr f fd)(T:Txt K mg C)(Yae:Cal P w K mg base "is_whole" 1 Ziw):FnOk P w K mg base CX0 2 f fd ["many","thing"] Zlj:=by
 have nd:=Zhd.nd;refine F.ok Zhd (λvs H Q E h=>?_) (λcdv A outer s H vs Q E hr h=>?_)
 .refine Zcl h λm x e98 _=>?_;clear h;obtain rfl:=e98;rfl
 .refine Zbf h λm x e99 e910 q=>?_;clear h;obtain rfl:=e99;obtain⟨t,i,j,rfl,ht,i0,i1,j0,j1⟩:=e910;refine⟨_,((@Zbb _ _ _ _ _ _ _ _ (PW.pt (Zhj (Zej (Zga (Za4 Zbv rfl T.n_isinstance Jef ((pvr 1)<&>((Zls rfl T.n_tuple Jgl)<&>Zab))))) (Zf9 (Zaq Zke (Za4 Zaj rfl T.n_len Jbo ((pvr 1)<&>Zab)) Zac (Zam _))))) (~~~Zgl) Zao)<*>(~~~(Za4 (Zg0 rfl) rfl T.n_all boot_all ((Za1 (own:=["end"]) (fr:=[("many",0)]) rfl (Zbo (by kernel_rfl)) (Zvf (pv 1)) (λ_ _ _ _=>⟨(0<<<["end","many"]),Za5,(Zvi (Yae<$>hr<$>((pv 0)<&>Zab)) (Zvg (Ztq op_le Zom Zac (pv 0) (pv 1))))⟩))<&>Zab)))),?_⟩;walk_at "wp";refine Za2 _ _ ⟨⟨rfl,rfl⟩,_,rfl,_,.tup ht,_,Zrq K,iteF ⟨_,.inr (SqT.of ht),iteF ?_⟩⟩;refine⟨_,rfl,t,rfl,⟨_,SqT.of ht⟩,λD hD=>Zsn (λ_=>true) ht hD (by show 2<=1000;decide) (λk x H' Q' hx s' q'=>?_) λH' s' e'=>⟨D,rfl,_,SqL.of e',?_⟩⟩
  .have hx':∃ z:Int,x=.int z/\0<=z/\z<m:=by
    match k,hx with
    | 0,hx=>exact⟨i,(Jbn hx).symm,i0,i1⟩
    | 1,hx=>exact⟨j,(Jbn hx).symm,j0,j1⟩
    | k+2,hx=>cases hx
   refine Zau hx' λz e911 z0 z1=>?_;clear hx';obtain rfl:=e911;refine⟨_,rfl,⟨z,rfl,true,rfl,iteT ⟨_,rfl,_,_,rfl,rfl,_,rfl,?_⟩⟩⟩;refine iteP (Jam z0) ⟨_,rfl,_,_,rfl,rfl,?_⟩;show Q' (V.bl (decide (z<m))) H';rw[Jam z1];exact q' H' (Same.refl _)
  .rw [Zn8];exact q H' s'
def Zlg:Sp:=λvs H Q _=>∃ (m:Int) (a:Addr) (xs:List V),vs=[.int m,.ref a]/\1<=m/\m<=8/\H a=some (.lst xs)/\xs.length<=9/\Edges H m xs/\∀ H',Same H H'->Q (.bl true) H'
theorem Ztv (F:Fun K "makes_drawing" "makes_drawing" Zcu f fd)(T:Txt K mg C)(Yae:Cal P w K mg base "is_whole" 1 Ziw)(Yay:Cal P w K mg base "is_arrow" 2 Zlj):FnOk P w K mg base CX0 3 f fd ["many","arrows"] Zlg:=by
 have nd:=Zds.nd;refine F.ok Zds (λvs H Q E h=>?_) (λcdv A outer s H vs Q E hr h=>?_)
 .refine Zdv h λm a xs e912 _=>?_;clear h;obtain rfl:=e912;rfl
 .refine Zck h λm a xs e913 m0 m8 e914=>?_;clear h;obtain rfl:=e913;refine Zbq e914 λha hl d q=>?_;clear e914;refine⟨_,((@Zbb _ _ _ _ _ _ _ _ (PW.pt (Zhj (Zej (Zga (Yae<$>hr<$>((pvr 0)<&>Zab)))) (Zf9 (Zej (Zth op_le op_le Zac (pvr 0) (Zm6 rfl T.g_MOST_POINTS)))))) (~~~Zgl) Zao)<*>((@Zbb _ _ _ _ _ _ _ _ (PW.pt (Zhj (Zej (Zga (Za4 Zbv rfl T.n_isinstance Jef ((pvr 1)<&>((Zls rfl T.n_list Jem)<&>Zab))))) (Zf9 (Zaq Zh7 (Za4 Zaj rfl T.n_len Jbo ((pvr 1)<&>Zab)) (Zm6 rfl T.g_MOST_ARROWS) (Zam _))))) (~~~Zgl) Zao)<*>(~~~(Za4 (Zg0 rfl) rfl T.n_all boot_all ((Za1 (own:=["arrow"]) (fr:=[("many",0)]) rfl (Zbo (by kernel_rfl)) (Zav (pv 1)) (λ_ _ _ _=>⟨(0<<<["arrow","many"]),Za5,(Yay<$>hr<$>((pv 1)<&>((pv 0)<&>Zab)))⟩))<&>Zab))))),?_⟩;walk_at "wp";refine⟨m,rfl,true,rfl,iteF (iteP (Jam m0) (Zl5 (by rw[Jam m8];decide) ⟨_,_,⟨rfl,rfl⟩,_,rfl,_,.lst ha,_,Zeu K,iteF ⟨_,.inl (SqL.of ha),Zl5 (by rw[Jcg ∅];decide) ?_⟩⟩))⟩;refine⟨_,rfl,a,rfl,⟨_,SqL.of ha⟩,λD hD=>Zso (λ_=>true) ha hD ∅ (λk x H' Q' hx s' q'=>?_) λH' s' e'=>⟨D,rfl,_,SqL.of e',?_⟩⟩
  .exact ⟨_,rfl,_,rfl,m,x,rfl,(d x (Jai hx)).same s',q'⟩
  .rw [Zn8];exact q H' s'
noncomputable def flds (m:Int)(lp:Addr):List (Str×V):=Zjc "arrows" (.ref lp) (Zjc "many" (.int m) [])
theorem Zhy (m:Int)(lp:Addr):(flds m lp).lookup ("arrows" : Str)=some (.ref lp):=by
 unfold flds;rw[Zc2,if_pos rfl]
theorem Zr6 (m:Int)(lp:Addr){x:Str}(h1:¬ x="arrows")(h2:¬ x="many"):(flds m lp).lookup x=none:=by
 unfold flds;rw[Zc2,if_neg h1,Zc2,if_neg h2];rfl
theorem Zuh (m:Int):(Zjc "many" (.int m) ([]:List (Str×V))).length<1000:=by
 have:=Zes "many" (.int m) [];simp at this;omega
def Zmx (C:Addr):Sp:=λvs H Q _=>∃ (p dx:Addr) (m:Int) (a:Addr) (xs:List V),vs=[.ref p,.int m,.ref a]/\H p=some (.ins C dx [])/\1<=m/\m<=8/\H a=some (.lst xs)/\xs.length<=9/\Edges H m xs /\
 ∀ (lp:Addr) (H':Hp),Ext p H H'->H' p=some (.ins C dx (flds m lp))->H lp=none->H' lp=some (.lst xs)->Q .non H'
theorem ok_init (F:Fun K "__init__" "Drawing.__init__" Zda f fd)(T:Txt K mg C)(Yai:Cal P w K mg base "makes_drawing" 3 Zlg):FnOk P w K mg base CX0 4 f fd ["self","many","arrows"] (Zmx C):=by
 have nd:=Zdz.nd;refine F.ok Zdz (λvs H Q E h=>?_) (λcdv A outer s H vs Q E hr h=>?_)
 .refine Zo9 h λp dx m a xs e92 _=>?_;clear h;obtain rfl:=e92;rfl
 .refine Zel h λp dx m a xs e93 hp m0 e94=>?_;clear h;obtain rfl:=e93;refine Ziu e94 λm8 ha hl d q=>?_;clear e94;refine⟨_,((@Zbb _ _ _ _ _ _ _ _ (Zej (Zga (Yai<$>hr<$>((pvr 1)<&>((pvr 2)<&>Zab))))) (@Zan _ _ _ Ztk) Zao)<*>((Zvc (pvr 0) (pvr 1) rfl)<*>(@Zan _ _ _ (Zvc (pvr 0) (Zc5 Zcc rfl T.n_list Jem ((pvr 2)<&>Zab)) rfl)))),?_⟩;walk_at "wp";refine Zcs m a xs ⟨rfl,m0,m8,ha,hl,d,λH1 s1=>⟨true,rfl,iteF ?_⟩⟩;have nap:a≠p:=Zh8 ha hp (by intro z;cases z);refine Zcs C dx [] ⟨s1 _ _ hp,T.cl_Drawing,T.nM,by show 0<1000;decide,xs,.inl (SqL.of (by rw[Zag nap];exact s1 _ _ ha)),λl hl0=>?_⟩;have npl:p≠l:=Zad Zaa hl0;refine Zcs C dx _ ⟨by rw[Zag npl];exact Zaa,T.cl_Drawing,T.nA,Zuh m,?_⟩;have fl:H l=none:=by
   rw[Zag npl.symm] at hl0;exact s1.free hl0
  refine q l _ (λb o nb e=>?_) Zaa fl (by rw[Zag npl.symm];exact Zaa);rw[Zag nb,Zag (Zad e fl),Zag nb];exact s1 _ _ e
def Prs (H:Hp)(xs:List V)(ps:List (Int×Int)):Prop:=xs.length=ps.length/\∀ (i:Nat) (x:V) (q:Int×Int),xs[i]?=some x->ps[i]?=some q->∃ t,x=.ref t/\H t=some (.tup [.int q.1,.int q.2])
theorem Prs.same {H H':Hp}{xs:List V}{ps:List (Int×Int)}(h:Prs H xs ps)(s:Same H H'):Prs H' xs ps:=⟨h.1,λi x q h1 h2=>let ⟨t,e1,e2⟩:=h.2 i x q h1 h2;⟨t,e1,s _ _ e2⟩⟩
def DrawAt (C:Addr)(H:Hp)(p:Addr)(m:Int)(lp:Addr)(xs:List V):Prop:=∃ dx,H p=some (.ins C dx (flds m lp))/\H lp=some (.lst xs)
def InP (m:Int)(ps:List (Int×Int)):Prop:=∀ q∈ps,0<=q.1/\q.1<m/\0<=q.2/\q.2<m
theorem Prs.nil {H:Hp}:Prs H [] []:=⟨rfl,λi x q h=>by simp at h⟩
theorem Prs.put {H:Hp}{D:Addr}{l:List V}{o:HO}{xs:List V}{ps:List (Int×Int)}(h:Prs H xs ps)(hD:H D=some (.lst l)):Prs (upd H D o) xs ps:=
 ⟨h.1,λi x q h1 h2=>let ⟨t,e1,e2⟩:=h.2 i x q h1 h2;⟨t,e1,by rw[Zag (Zh8 e2 hD (by intro z;cases z))];exact e2⟩⟩
theorem Prs.add {H:Hp}{xs:List V}{ps:List (Int×Int)}{t:Addr}{q:Int×Int}(h:Prs H xs ps)(ht:H t=some (.tup [.int q.1,.int q.2])):Prs H (xs++[.ref t]) (ps++[q]):=by
 refine⟨by simp[h.1],λi x r h1 h2=>?_⟩;by_cases hi:i<xs.length
 .rw [Jba hi] at h1;rw[Jba (by rw[<- h.1];exact hi)] at h2;exact h.2 i x r h1 h2
 .rw [Jbc ∅] at h1;rw[Jbc (by rw[<- h.1];omega)] at h2;have hl:=h.1;by_cases h0:i-xs.length=0
  .rw [h0] at h1;rw[<- hl,h0] at h2;simp at h1 h2;exact⟨t,h1.symm,by rw[<- h2];exact ht⟩
  .rw [Jgb (by simp;omega)] at h1;cases h1
theorem Zuk {H:Hp}{m:Int}{xs:List V}{ps:List (Int×Int)}(h:Prs H xs ps)(r:InP m ps):Edges H m xs:=by
 intro x hx;obtain⟨i,hi,rfl⟩:=Jdf.mp hx;have hl:=h.1;have hq:ps[i]?=some (ps[i]'(by omega)):=Jac _;refine Zae (h.2 i _ _ (Jac hi) hq) λt e1 e2=>?_;exact Zcs t _ _ ⟨e1,e2,r _ (Jai hq)⟩
def Drw (C:Addr)(H:Hp)(p:Addr)(m:Int)(ps:List (Int×Int)):Prop:=∃ lp xs,DrawAt C H p m lp xs/\xs.length<=9/\Prs H xs ps
theorem Drw.same {H H':Hp}{p:Addr}{m:Int}{ps:List (Int×Int)}(h:Drw C H p m ps)(s:Same H H'):Drw C H' p m ps:=by
 refine Zbf h λlp xs e94 h3 h4=>?_;clear h;obtain⟨dx,h1,h2⟩:=e94;exact Za2 lp xs ⟨⟨dx,s _ _ h1,s _ _ h2⟩,h3,h4.same s⟩
theorem Zj8 {k:Nat}{A:Around}(hr:Room k A):A.units+8<cLine:=by have:=hr.units;omega
theorem Zmn (n:Nat):(List.replicate n true).all id=true:=by simp
theorem Same.thru {l:Addr}{H H1 H2:Hp}(s:Same H H1)(h:H l=none)(e:Ext l H1 H2):Same H H2:=λb o eb=>e b o (Zad eb h) (s b o eb)
end
end Pf
namespace Pf
open PySem L2 PyProof.Rows
noncomputable def stepL (f:Int->Int)(q:Int×Int):Int->Int:=λx=>if f x=max (f q.1) (f q.2) then min (f q.1) (f q.2) else f x
noncomputable def Za3 (ps:List (Int×Int)):Int->Int:=ps.foldl stepL id
noncomputable def stepG (g:Int->Int)(q:Int×Int):Int->Int:=λx=>if x=q.2 then min (g q.1) (g q.2) else if x=q.1 then min (g q.1) (g q.2) else g x
noncomputable def Zlv (ps:List (Int×Int))(g:Int->Int):Int->Int:=ps.foldl stepG g
noncomputable def Zc1 (ps:List (Int×Int)):Nat->(Int->Int)
 | 0=>id
 | k+1=>Zlv ps (Zc1 ps k)
def Zgp (h:Int->Int)(ps:List (Int×Int)):Prop:=∀ q∈ps,h q.1=h q.2
structure Lab (m:Int)(ps:List (Int×Int))(f:Int->Int):Prop where
 le:∀ x,0<=x->x<m->f x<=x
 lo:∀ x,0<=x->x<m->0<=f x
 co:∀ h,Zgp h ps->∀ x,0<=x->x<m->h (f x)=h x
theorem Lab.lt {m:Int}{ps:List (Int×Int)}{f:Int->Int}(L:Lab m ps f){x:Int}(h0:0<=x)(h1:x<m):f x<m:=Int.lt_of_le_of_lt (L.le x h0 h1) h1
theorem Lab.ge {m:Int}{ps:List (Int×Int)}{f g:Int->Int}(F:Lab m ps f)(c:Zgp f ps)(G:Lab m ps g){x:Int}(h0:0<=x)(h1:x<m):f x<=g x:=by
 have e:=G.co f c x h0 h1;have:=F.le (g x) (G.lo x h0 h1) (G.lt h0 h1);omega
theorem Lab.id (m:Int)(ps:List (Int×Int)):Lab m ps id:=⟨λx _ _=>Jfd x,λx h _=>h,λ_ _ _ _ _=>rfl⟩
theorem Lab.stepL {m:Int}{ps:List (Int×Int)}{f:Int->Int}{q:Int×Int}(L:Lab m ps f)(hp:InP m ps)(hq:q∈ps):Lab m ps (stepL f q):=by
 refine Zbq (hp q hq) λa0 a1 b0 b1=>?_;have fa:=L.lo _ a0 a1;have fb:=L.lo _ b0 b1;refine⟨λx h0 h1=>?_,λx h0 h1=>?_,λh c x h0 h1=>?_⟩
 .have:=L.le x h0 h1;unfold Pf.stepL;split <;> omega
 .have:=L.lo x h0 h1;unfold Pf.stepL;split <;> omega
 .have e:=L.co h c x h0 h1;have ea:=L.co h c _ a0 a1;have eb:=L.co h c _ b0 b1;have eq:=c q hq;unfold Pf.stepL;split
  .rename_i hx
   rw[<- e,hx];rcases Int.le_total (f q.1) (f q.2) with z|z
   .rw [Int.min_eq_left z,Int.max_eq_right z];omega
   .rw [Int.min_eq_right z,Int.max_eq_left z];omega
  .exact e
theorem Zoc {f:Int->Int}{q:Int×Int}{x y:Int}(h:f x=f y):stepL f q x=stepL f q y:=by unfold stepL;rw[h]
theorem Zod {f:Int->Int}{q:Int×Int}:stepL f q q.1=stepL f q q.2:=by
 unfold stepL;split <;> split <;> omega
theorem Zrm {m:Int}{ps:List (Int×Int)}(hp:InP m ps):∀ (r:List (Int×Int)) (d:List (Int×Int)) (f:Int->Int),(∀ q∈r,q∈ps)->Lab m ps f->Zgp f d->Lab m ps (r.foldl stepL f)/\Zgp (r.foldl stepL f) (d++r)
 | [],d,f,_,L,c=>⟨L,by simpa using c⟩
 | q::r,d,f,hr,L,c=>by
  have L':=L.stepL hp (hr q Jb4);have:=Zrm hp r (d++[q]) (stepL f q) (λz hz=>hr z (Jbd _ hz)) L' (λz hz=>by
   rcases Jbf.mp hz with hz|hz
   .exact Zoc (c z hz)
   .rw [Jas.mp hz];exact Zod)
  simpa using this
theorem Zet {m:Int}{ps:List (Int×Int)}(hp:InP m ps):Lab m ps (Za3 ps)/\Zgp (Za3 ps) ps:=by
 have:=Zrm hp ps [] id (λ_ h=>h) (Lab.id m ps) (λq h=>by simp at h);simpa [Za3] using this
theorem Lab.stepG {m:Int}{ps:List (Int×Int)}{g:Int->Int}{q:Int×Int}(L:Lab m ps g)(hp:InP m ps)(hq:q∈ps):Lab m ps (stepG g q):=by
 refine Zbq (hp q hq) λa0 a1 b0 b1=>?_;have fa:=L.lo _ a0 a1;have fb:=L.lo _ b0 b1;have la:=L.le _ a0 a1;have lb:=L.le _ b0 b1;refine⟨λx h0 h1=>?_,λx h0 h1=>?_,λh c x h0 h1=>?_⟩
 .have:=L.le x h0 h1;unfold Pf.stepG;split
  .omega
  .split <;> omega
 .have:=L.lo x h0 h1;unfold Pf.stepG;split
  .omega
  .split <;> omega
 .have e:=L.co h c x h0 h1;have ea:=L.co h c _ a0 a1;have eb:=L.co h c _ b0 b1;have eq:=c q hq;have em:h (min (g q.1) (g q.2))=h q.1:=by
   rcases Int.le_total (g q.1) (g q.2) with z|z
   .rw [Int.min_eq_left z];exact ea
   .rw [Int.min_eq_right z];omega
  unfold Pf.stepG;split
  .rename_i hx;rw[hx,em,eq]
  .split
   .rename_i hx;rw[hx,em]
   .exact e
theorem Zkn {m:Int}{ps:List (Int×Int)}(hp:InP m ps):∀ (r:List (Int×Int)) (g:Int->Int),(∀ q∈r,q∈ps)->Lab m ps g->Lab m ps (r.foldl stepG g)
 | [],g,_,L=>L
 | q::r,g,hr,L=>Zkn hp r (stepG g q) (λz hz=>hr z (Jbd _ hz)) (L.stepG hp (hr q Jb4))
theorem Zie {m:Int}{ps:List (Int×Int)}(hp:InP m ps):∀ k,Lab m ps (Zc1 ps k)
 | 0=>Lab.id m ps
 | k+1=>Zkn hp ps _ (λ_ h=>h) (Zie hp k)
noncomputable def rgt (c g:Int->Int)(i:Nat):Bool:=decide (g i=c i)
theorem Zpo {m:Int}{ps:List (Int×Int)}{c g:Int->Int}{q:Int×Int}(hp:InP m ps)(hq:q∈ps)(F:Lab m ps c)(cc:Zgp c ps)(G:Lab m ps g){x:Int}(h0:0<=x)(h1:x<m)(h:g x=c x):stepG g q x=c x:=by
 refine Zbq (hp q hq) λa0 a1 b0 b1=>?_;have ga:=F.ge cc G a0 a1;have gb:=F.ge cc G b0 b1;have eq:=cc q hq;unfold stepG;split
 .rename_i hx;subst hx;omega
 .split
  .rename_i hx;subst hx;omega
  .exact h
theorem Zhx {m:Int}{ps:List (Int×Int)}{c:Int->Int}(hp:InP m ps)(F:Lab m ps c)(cc:Zgp c ps):∀ (r:List (Int×Int)) (g:Int->Int),(∀ q∈r,q∈ps)->Lab m ps g->
  (∀ x,0<=x->x<m->g x=c x->r.foldl stepG g x=c x)/\∀ q∈r,(g q.1=c q.1\/g q.2=c q.2)->r.foldl stepG g q.1=c q.1/\r.foldl stepG g q.2=c q.2
 | [],g,_,_=>⟨λ_ _ _ h=>h,λq h=>by simp at h⟩
 | q::r,g,hr,G=>by
  have hq:=hr q Jb4;have G':=G.stepG hp hq;obtain⟨k1,k2⟩:=Zhx hp F cc r (stepG g q) (λz hz=>hr z (Jbd _ hz)) G';have keep:∀ x,0<=x->x<m->g x=c x->stepG g q x=c x:=λx h0 h1 h=>Zpo hp hq F cc G h0 h1 h;refine Zbq (hp q hq) λa0 a1 b0 b1=>?_;refine⟨λx h0 h1 h=>k1 x h0 h1 (keep x h0 h1 h),λz hz h=>?_⟩;rcases Jao.mp hz with rfl|hz
  .have ga:=F.ge cc G a0 a1;have gb:=F.ge cc G b0 b1;have eq:=cc z hq;have e:min (g z.1) (g z.2)=c z.1:=∅
   refine⟨k1 _ a0 a1 ?_,k1 _ b0 b1 ?_⟩
   .unfold stepG;split
    .exact e
    .rw [if_pos rfl];exact e
   .unfold stepG;rw[if_pos rfl,e,eq]
  .refine Zbq (hp z (hr z (Jbd _ hz))) λc0 c1 d0 d1=>?_;exact k2 z hz (h.elim (λh=>.inl (keep _ c0 c1 h)) λh=>.inr (keep _ d0 d1 h))
theorem Zkq {p q:Nat->Bool}:∀ (l:List Nat),(∀ x∈l,p x=true->q x=true)->(∃ x∈l,q x=true/\p x=false)->l.countP p<l.countP q
 | [],_,h=>by obtain⟨x,hx,_⟩:=h;simp at hx
 | y::l,hm,h=>by
  have hm':∀ x∈l,p x=true->q x=true:=λx hx=>hm x (Jbd _ hx);have le:=List.countP_mono_left hm';have hy:=hm y Jb4;rw[Jek,Jek];refine Zau h λx hx h1 h2=>?_;clear h;rcases Jao.mp hx with rfl|hx
  .rw [h1,h2];simp;omega
  .have:=Zkq l hm' ⟨x,hx,h1,h2⟩;cases hp:p y with
   | false=>simp;split <;> omega
   | true=>rw[hy hp];simp;omega
theorem all_rgt {m:Nat}{ps:List (Int×Int)}{c g:Int->Int}(hp:InP m ps)(F:Lab m ps c)(cc:Zgp c ps)(G:Lab m ps g)(h:∀ q∈ps,(g q.1=c q.1 ↔ g q.2=c q.2))(x:Int)(h0:0<=x)(h1:x<m):g x=c x:=by
 have hc:Zgp (λx=>if g x=c x then 1 else 0) ps:=λq hq=>by
  have:=h q hq;by_cases z:g q.1=c q.1
  .simp only [if_pos z,if_pos (this.mp z)]
  .simp only [if_neg z,if_neg (λw=>z (this.mpr w))]
 have e:=F.co _ hc x h0 h1;have e2:c (c x)=c x:=F.co c cc x h0 h1;have l0:=F.lo x h0 h1;have l1:=F.lt h0 h1;have g1:=F.ge cc G l0 l1;have g2:=G.le _ l0 l1;have e3:g (c x)=c (c x):=∅
 simp only[if_pos e3] at e;by_cases z:g x=c x
 .exact z
 .rw [if_neg z] at e;omega
theorem Zol {m:Nat}{ps:List (Int×Int)}{c g:Int->Int}(hp:InP m ps)(F:Lab m ps c)(cc:Zgp c ps)(G:Lab m ps g):
  (List.range m).countP (rgt c g)<(List.range m).countP (rgt c (Zlv ps g))\/∀ x:Int,0<=x->x<m->g x=c x:=by
 obtain⟨k1,k2⟩:=Zhx hp F cc ps g (λ_ h=>h) G;have mono:∀ x∈List.range m,rgt c g x=true->rgt c (Zlv ps g) x=true:=λx hx h=>by
  have hx:=Jb3.mp hx;exact Jam (k1 x ∅ ∅ (Jaj h))
 by_cases hex:∃ x∈List.range m,rgt c (Zlv ps g) x=true/\rgt c g x=false
 .exact .inl (Zkq _ mono hex)
 .refine .inr (all_rgt hp F cc G λq hq=>?_);refine Zbq (hp q hq) λa0 a1 b0 b1=>?_;have back:∀ x:Int,0<=x->x<m->Zlv ps g x=c x->g x=c x:=λx h0 h1 h=>by
   have ex:((x.toNat:Nat):Int)=x:=Jcr h0;cases z:rgt c g x.toNat with
   | true=>have:=Jaj z;rwa [ex] at this
   | false=>exact absurd ⟨x.toNat,Jb3.mpr ∅,Jam (by rw[ex];exact h),z⟩ hex
  constructor
  .intro h;exact back _ b0 b1 (k2 q hq (.inl h)).2
  .intro h;exact back _ a0 a1 (k2 q hq (.inr h)).1
theorem Zif {m:Nat}{ps:List (Int×Int)}{c g:Int->Int}(hp:InP m ps)(F:Lab m ps c)(cc:Zgp c ps)(G:Lab m ps g)(h:∀ x:Int,0<=x->x<m->g x=c x)(x:Int)(h0:0<=x)(h1:x<m):Zlv ps g x=c x:=
 (Zhx hp F cc ps g (λ_ h=>h) G).1 x h0 h1 (h x h0 h1)
theorem Zgc {m:Nat}{ps:List (Int×Int)}{c:Int->Int}(hp:InP m ps)(F:Lab m ps c)(cc:Zgp c ps):∀ k,k<=(List.range m).countP (rgt c (Zc1 ps k))\/∀ x:Int,0<=x->x<m->Zc1 ps k x=c x
 | 0=>.inl (Jbp _)
 | k+1=>by
  have G:=Zie hp k;rcases Zgc hp F cc k with h|h
  .rcases Zol hp F cc G with z|z
   .exact .inl (show k+1<=(List.range m).countP (rgt c (Zlv ps (Zc1 ps k))) by omega)
   .exact .inr (Zif hp F cc G z)
  .exact .inr (Zif hp F cc G h)
theorem Zok {m:Nat}{ps:List (Int×Int)}(hp:InP m ps)(x:Int)(h0:0<=x)(h1:x<m):Zc1 ps m x=Za3 ps x:=by
 obtain⟨F,cc⟩:=Zet hp;rcases Zgc hp F cc m with h|h
 .have hl:=List.countP_le_length (p:=rgt (Za3 ps) (Zc1 ps m)) (l:=List.range m);rw[Jcm] at hl;have he:(List.range m).countP (rgt (Za3 ps) (Zc1 ps m))=(List.range m).length:=by rw[Jcm];omega
  have:=List.countP_eq_length.mp he x.toNat (Jb3.mpr (Zsy h0 h1));have:=Jaj this;rwa [Jcr h0] at this
 .exact h x h0 h1
noncomputable def Zdl (n:Nat)(f:Int->Int)(k:Int):List Int:=((List.range n).filter λj=>decide (f (j:Nat)=k)).map λj=>((j:Nat):Int)
noncomputable def Zbg (n:Nat)(f:Int->Int):List (List Int):=((List.range n).filter λi=>decide (f (i:Nat)=(i:Nat))).map λi=>Zdl n f (i:Nat)
theorem rowL_eq {n:Nat}{f g:Int->Int}(h:∀ x:Int,0<=x->x<n->f x=g x)(k:Int):Zdl n f k=Zdl n g k:=by
 unfold Zdl;rw[Jcu (q:=λj:Nat=>decide (g (j:Nat)=k)) λx hx=>by rw[h x ∅ (by have:=Jb3.mp hx;omega)]]
theorem Ztb {n:Nat}{f g:Int->Int}(h:∀ x:Int,0<=x->x<n->f x=g x):Zbg n f=Zbg n g:=by
 unfold Zbg;rw[Jcu (q:=λj:Nat=>decide (g (j:Nat)=(j:Nat))) λx hx=>by rw[h x ∅ (by have:=Jb3.mp hx;omega)]];exact Jc9 λi _=>rowL_eq h _
end Pf
namespace Pf
open PySem L2 PyProof.Rows
section
variable {C:Addr}
theorem Zoi {k:Nat}{A:Around}(hr:Room k A):A.units+1<cLine:=by have:=hr.units;omega
noncomputable def ptsV (n:Nat):List V:=(List.range n).map λj=>V.int ((j:Nat):Int)
theorem Zjd {m:Int}:Zk6 0 m=ptsV m.toNat:=by unfold Zk6 ptsV;simp
structure Pts (J:It)(H1:Hp)(n:Nat):Prop where
 go:∀ i H,i<n->Same H1 H->J.go i H/\∀ x H',J.yld i H x H'->H'=H/\x=V.int (i:Nat)
 stop:∀ H,Same H1 H->J.stop n H
theorem Pts.rng {H1:Hp}{n:Nat}:Pts (Itr 0 n) H1 n:=
 ⟨λi H hi s=>⟨hi,λx H' y=>⟨y.1,by rw[y.2];simp⟩⟩,λH s=>Jaf _⟩
theorem Zur {J:It}{D:Addr}{n:Nat}{fr:List (Str×Nat)}{σ:L2.St}{tt:TT}{H1:Hp}{Q:VK}(g:Nat->Bool)(hJ:Pts J H1 n)(hD:H1 D=none)(hn:n<=1000)(h:∀ i H (Q:Bool->Hp->Prop),i<n->Same H1 H->Q (g i) H->tt (some (.int ((i:Nat):Int))::Zb3 fr σ) H Q)(hQ:∀ H',Same H1 H'->H' D=some (.lst ((((List.range n).filter g).map λj=>((j:Nat):Int)).map V.int))->Q (.ref D) H'):Zb4 (Za7 0) tt (Zgq 0) J D (Zfe 1 fr σ) H1 Q:=by
 refine Zgz (n:=n) (λi x=>x=V.int (i:Nat)) (λi vs H=>Same H1 H/\H D=some (.lst vs)/\vs=(((List.range i).filter g).map λj=>((j:Nat):Int)).map V.int) ⟨Same.new hD,Zaa,rfl⟩ (λi vs H hi p=>hJ.go i H hi p.1) (λvs H p=>hJ.stop H p.1) ?_ (λvs H ⟨s,e,hv⟩=>hQ H s (by rw[e,hv]));intro i x vs σ' H hi e91;obtain rfl:=e91;intro sh e92;refine Zap e92 λs e hv=>?_;clear e92;obtain⟨z,rfl⟩:=sh.one;simp only[Zcm,Za7,List.set_cons_zero];refine h i H _ hi s (Zc8 (λhg=>?_) (λhg=>?_))
 .refine ⟨_,rfl,?_⟩;have hl:=Ja9 g (List.range i);refine leaf (ws:=vs++[.int (i:Nat)]) hi Sh.mk1 e (Zah (by rw[hv];simp at hl ⊢;omega)) ⟨s.upd hD,Zaa,?_⟩;rw[Jde,Jb5];simp[hg,hv]
 .refine Zow (ws:=vs) hi Sh.mk1 ⟨s,e,?_⟩;rw[Jde,Jb5];simp[hg,hv]
def RowsF (D:Addr)(H0 H:Hp)(qs:List V)(L:List (List Int)):Prop:=
 qs.length=L.length/\∀ (i:Nat) q r,qs[i]?=some q->L[i]?=some r->∃ t,q=.ref t/\t≠D/\H0 t=none/\H t=some (.lst (r.map V.int))
theorem RowsF.nil {D:Addr}{H0 H:Hp}:RowsF D H0 H [] []:=⟨rfl,λi q r h=>by simp at h⟩
theorem RowsF.same {D:Addr}{H0 H H':Hp}{qs:List V}{L:List (List Int)}(h:RowsF D H0 H qs L)(s:Same H H'):RowsF D H0 H' qs L:=
 ⟨h.1,λi q r h1 h2=>let ⟨t,e1,e2,e3,e4⟩:=h.2 i q r h1 h2;⟨t,e1,e2,e3,s _ _ e4⟩⟩
theorem RowsF.put {D:Addr}{H0 H:Hp}{o:HO}{qs:List V}{L:List (List Int)}(h:RowsF D H0 H qs L):RowsF D H0 (upd H D o) qs L:=
 ⟨h.1,λi q r h1 h2=>let ⟨t,e1,e2,e3,e4⟩:=h.2 i q r h1 h2;⟨t,e1,e2,e3,by rw[Zag e2];exact e4⟩⟩
theorem RowsF.old {D:Addr}{H0 H1 H:Hp}{qs:List V}{L:List (List Int)}(h:RowsF D H1 H qs L)(s:Same H0 H1):RowsF D H0 H qs L:=
 ⟨h.1,λi q r h1 h2=>let ⟨t,e1,e2,e3,e4⟩:=h.2 i q r h1 h2;⟨t,e1,e2,s.free e3,e4⟩⟩
theorem RowsF.add {D:Addr}{H0 H:Hp}{qs:List V}{L:List (List Int)}{t:Addr}{r:List Int}(h:RowsF D H0 H qs L)(n:t≠D)(f:H0 t=none)(ht:H t=some (.lst (r.map V.int))):RowsF D H0 H (qs++[.ref t]) (L++[r]):=by
 refine⟨by simp[h.1],λi x r' h1 h2=>?_⟩;by_cases hi:i<qs.length
 .rw [Jba hi] at h1;rw[Jba (by rw[<- h.1];exact hi)] at h2;exact h.2 i x r' h1 h2
 .rw [Jbc ∅] at h1;rw[Jbc (by rw[<- h.1];omega)] at h2;have hl:=h.1;by_cases h0:i-qs.length=0
  .rw [h0] at h1;rw[<- hl,h0] at h2;simp at h1 h2;exact⟨t,h1.symm,n,f,by rw[<- h2];exact ht⟩
  .rw [Jgb (by simp;omega)] at h1;cases h1
def DRep (n:Nat)(kvs:List (Key×V))(f:Int->Int):Prop:=kvs.length<=n/\∀ x:Int,0<=x->x<n->Zey kvs (.inl x)=some (.int (f x))
theorem Ztg {kvs:List (Key×V)}{k:Key}{v:V}(h:(Zey kvs k).isSome=true):(Zez kvs k v).length=kvs.length:=by
 unfold Zez;rw[Zef,h,if_pos rfl,Jaa]
theorem DRep.get {n:Nat}{kvs:List (Key×V)}{f:Int->Int}{H:Hp}{D:Addr}{x:Int}(h:DRep n kvs f)(e:H D=some (.dK kvs))(h0:0<=x)(h1:x<n):DGet H D (.int x) (some (.int (f x))):=by
 have:=DGet.k (k:=.inl x) e;rwa [h.2 x h0 h1] at this
theorem sort2 {ns:List Int}{x y:Int}(hp:ns.Perm [x,y])(hs:ns.Pairwise (·<=·)):ns=[min x y,max x y]:=by
 have hl:=hp.length_eq
 match ns,hl with
 | [u,v],_=>
  have h1:u∈[x,y]:=hp.mem_iff.mp (by simp);have h2:v∈[x,y]:=hp.mem_iff.mp (by simp);have h3:x∈[u,v]:=hp.mem_iff.mpr (by simp);have h4:y∈[u,v]:=hp.mem_iff.mpr (by simp);have h5:u<=v:=by simpa using hs
  simp at h1 h2 h3 h4;have e1:u=min x y:=by exact oz38 h5 h1 h3 h4
  have e2:v=max x y:=by exact oz26 h2 h3 h4 e1
  rw[e1,e2]
theorem Zvr {n:Nat}{k:Int}(h0:0<=k)(h1:k<n):ixN n k=some k.toNat:=by
 unfold ixN;rw[if_pos h0,if_pos h1]
def Ziy (C:Addr):Sp:=λvs H Q _=>∃ (x:Addr) (m:Int) (ps:List (Int×Int)),vs=[.ref x]/\Drw C H x m ps/\InP m ps/\1<=m/\m<=8 /\
 ∀ p qs H',Same H H'->H p=none->H' p=some (.lst qs)->RowsF p H H' qs (Zbg m.toNat (Za3 ps))->Q (.ref p) H'
def GRep (n:Nat)(ns:List Int)(g:Int->Int):Prop:=ns.length=n/\∀ i:Nat,i<n->ns[i]?=some (g (i:Nat))
theorem GRep.pts (n:Nat):GRep n ((List.range n).map λj=>((j:Nat):Int)) id:=⟨by simp,λi hi=>by simp[hi]⟩
theorem GRep.at {n:Nat}{ns:List Int}{g:Int->Int}{x:Int}(h:GRep n ns g)(h0:0<=x)(h1:x<n):atI (ns.map V.int) x=some (.int (g x)):=by
 refine Zbp h0 ?_;rw[Jay,h.2 x.toNat (Zsy h0 h1),Jcr h0];rfl
theorem GRep.set {n:Nat}{ns:List Int}{g:Int->Int}{k v:Int}(h:GRep n ns g)(h0:0<=k)(h1:k<n):GRep n (ns.set k.toNat v) (λx=>if x=k then v else g x):=by
 have hl:=h.1;refine⟨by rw[Jev];exact h.1,λi hi=>?_⟩;rw[List.getElem?_set];show _=some (if ((i:Nat):Int)=k then v else g (i:Nat));by_cases e:k.toNat=i
 .rw [if_pos e,if_pos ∅,if_pos ∅]
 .rw [if_neg e,h.2 i hi,if_neg ∅]
def Zg4:Sp:=λvs H Q _=>∃ (b:Addr) (n:Nat) (xs:List V) (ps:List (Int×Int)),vs=[.int (n:Nat),.ref b]/\H b=some (.lst xs)/\n<=8/\xs.length<=9/\Prs H xs ps/\InP n ps /\
 ∀ p qs H',Same H H'->H p=none->H' p=some (.lst qs)->RowsF p H H' qs (Zbg n (Zc1 ps n))->Q (.ref p) H'
theorem Zon (F:Fun K "_law_pieces" "_law_pieces" Zd0 f fd)(T:Txt K mg C):FnOk P w K mg base CX0 1 f fd ["_law_many_here","_law_arrows"] Zg4:=by
 have nd:=Ze4.nd;refine F.ok Ze4 (λvs H Q E h=>?_) (λcdv A outer s H vs Q E hr h=>?_)
 .refine xE4_2 h λb n xs ps e97 _=>?_;clear h;obtain rfl:=e97;rfl
 .refine Zce h λb n xs ps e98 hb hn e99=>?_;clear h;obtain rfl:=e98;refine Zbq e99 λhx hps hin q=>?_;clear e99;refine⟨_,((Zat (i:=2) nd rfl (Or.inr rfl) (Zc5 (Zcq rfl) rfl T.n_list Jem ((Zc5 Zff rfl T.n_range Jhc ((pv 0)<&>Zab))<&>Zab)))<*>((Zb5 Jbu rfl (Zgk rfl T.n_range ((pv 0)<&>Zab)) (3>>>nd) (@Zan _ _ _ (Zb5 Jbu rfl (Zav (pv 1)) (@Zgb _ _ _ _ _ 2 rfl ((4>>>nd)^^^((5>>>nd)^^^(@Zdo _))) ⇑1 ⇑1) ((Zd9 (Za4 (Zkw rfl) rfl T.n_min boot_min ((Zaw<|>(pv 2)<||>(pv 4))<&>((Zaw<|>(pv 2)<||>(pv 5))<&>Zab))) (Zhm (pv 2) (pv 4) Zcn))<*>(@Zan _ _ _ (Zd9 (Zaw<|>(pv 2)<||>(pv 4)) (Zhm (pv 2) (pv 5) Zcn)))))))<*>((6|||nd|||(@Zbs _ _ _ _ Zab))<*>((Zb5 Jbu rfl (Zgk rfl T.n_range ((pv 0)<&>Zab)) (@Zaf _ _ 7 _ nd rfl (Or.inr rfl) (Or.inl rfl)) (@Zan _ _ _ (@Zbb _ _ _ _ _ _ _ _ (Za6 Zcp (Zaw<|>(pv 2)<||>(pv 7)) (pv 7) (Zam _)) (@Zan _ _ _ (Zb7 (Zfa Jbh Jb6 Jb7 Zbj (pv 6) ((Za1 (own:=["_law_point"]) (fr:=[("_law_home",2),("_law_first",7)]) rfl (Zbo (by kernel_rfl)) (Zgk rfl T.n_range ((pv 0)<&>Zab)) (λ_ _ _ _=>⟨(0<<<["_law_point","_law_home","_law_first"]),(Zcx (Za6 Zcp ((Znn K rfl)<|>(pv 1)<||>(pv 0)) (pv 2) (Zam _))),(pv 0)⟩))<&>Zab)))) Zao)))<*>(~~~(pv 6)))))),?_⟩;walk_at "wp";intro p hp;refine Za2 _ _ ⟨Zaa,⟨∅,∅,∅,∅⟩,∅,λl hl=>?_⟩;have s0:Same H (upd (upd H p (.rng 0 (n:Nat))) l (.lst (Zk6 0 (n:Nat)))):=(Same.new hp).trans (Same.new hl);have fl:H l=none:=(Same.new hp).free hl;have hl0:upd (upd H p (.rng 0 (n:Nat))) l (.lst (Zk6 0 (n:Nat))) l=some (.lst (((List.range n).map λj=>((j:Nat):Int)).map V.int)):=by rw[Zaa,Zjd];unfold ptsV;simp
  generalize upd (upd H p (.rng 0 (n:Nat))) l (.lst (Zk6 0 (n:Nat)))=H0 at *;refine⟨_,rfl,(n:Nat),rfl,∅,∅,Zdh (λk σ Hk=>∃ v3 v4 v5:Option V,σ=[some (.int (n:Nat)),some (.ref b),some (.ref l),v3,v4,v5,none,none]/\Same H Hk/\∃ ns,Hk l=some (.lst (ns.map V.int))/\GRep n ns (Zc1 ps k))
   ⟨none,none,none,rfl,s0,_,hl0,GRep.pts n⟩ ?_ ?_⟩
  .intro k σ Hk hk e91;refine Zjy e91 λv3 v4 v5 e910 sk e911=>?_;clear e91;obtain rfl:=e910;obtain⟨ns0,hlk,rk⟩:=e911;refine⟨_,rfl,b,rfl,⟨_,SqL.of (sk _ _ hb)⟩,Zca (xs:=xs) (λi σ Hi=>∃ v4 v5:Option V,σ=[some (.int (n:Nat)),some (.ref b),some (.ref l),some (.int (0+(k:Nat))),v4,v5,none,none]/\Same H Hi/\∃ ns,Hi l=some (.lst (ns.map V.int))/\GRep n ns ((ps.take i).foldl stepG (Zc1 ps k)))
    ⟨v4,v5,rfl,sk,ns0,hlk,rk⟩ (λi σ Hi _ ⟨_,_,_,si,_⟩=>SqL.of (si _ _ hb)) ?_ ?_⟩
   .intro i x σ Hi hxi e92;refine Zbf e92 λv4 v5 e912 si e913=>?_;clear e92;obtain rfl:=e912;obtain⟨ns,hli,ri⟩:=e913;have hi:i<ps.length:=by have:=(Jak.mp hxi).1;have:=hps.1;omega
    have hq:ps[i]?=some ps[i]:=Jac hi;refine Zae (hps.2 i x _ hxi hq) λt e914 ht=>?_;obtain rfl:=e914;refine Zbq (hin _ (Jai hq)) λa0 a1 b0 b1=>?_;have ef:(ps.take (i+1)).foldl stepG (Zc1 ps k)=stepG ((ps.take i).foldl stepG (Zc1 ps k)) ps[i]:=by rw[Jbe,hq,List.foldl_append];rfl
    generalize ps[i]=qq at *;generalize (ps.take i).foldl stepG (Zc1 ps k)=g0 at *;walk_at "wp";refine⟨_,SqT.of (si _ _ ht),rfl,_,_,rfl,_,_,rfl,rfl,_,_,rfl,SqL.of hli,_,ri.at a0 a1,_,_,rfl,SqL.of hli,_,ri.at b0 b1,_,_,⟨rfl,rfl⟩,_,_,rfl,hli,_,Zvr a0 (by rw[Jaa,ri.1];exact a1),?_⟩;have r1:=ri.set (v:=if g0 qq.2<g0 qq.1 then g0 qq.2 else g0 qq.1) a0 a1;have em:(ns.map V.int).set qq.1.toNat (.int (if g0 qq.2<g0 qq.1 then g0 qq.2 else g0 qq.1))=(ns.set qq.1.toNat (if g0 qq.2<g0 qq.1 then g0 qq.2 else g0 qq.1)).map V.int:=by rw[List.map_set]
    rw[em];have h1:upd Hi l (.lst ((ns.set qq.1.toNat (if g0 qq.2<g0 qq.1 then g0 qq.2 else g0 qq.1)).map V.int)) l=some (.lst ((ns.set qq.1.toNat (if g0 qq.2<g0 qq.1 then g0 qq.2 else g0 qq.1)).map V.int)):=Zaa;have sH:=si.upd (o:=.lst ((ns.set qq.1.toNat (if g0 qq.2<g0 qq.1 then g0 qq.2 else g0 qq.1)).map V.int)) fl;generalize upd Hi l (.lst ((ns.set qq.1.toNat (if g0 qq.2<g0 qq.1 then g0 qq.2 else g0 qq.1)).map V.int))=H2 at *;generalize ns.set qq.1.toNat (if g0 qq.2<g0 qq.1 then g0 qq.2 else g0 qq.1)=ns1 at *;have hM:(if g0 qq.2<g0 qq.1 then g0 qq.2 else g0 qq.1)=min (g0 qq.1) (g0 qq.2):=by split <;> omega
    rw[hM] at r1;have c1:=r1.at a0 a1;simp only[Jdk] at c1;refine Za2 _ _ ⟨rfl,SqL.of h1,_,c1,_,_,rfl,h1,_,Zvr b0 (by rw[Jaa,r1.1];exact b1),_,_,⟨rfl,rfl⟩,sH.upd fl,ns1.set qq.2.toNat (min (g0 qq.1) (g0 qq.2)),by rw[Zaa,List.map_set],?_⟩;rw[ef];exact r1.set b0 b1
   .intro σ Hi e93;refine Zbf e93 λv4 v5 e915 si e916=>?_;clear e93;obtain rfl:=e915;obtain⟨ns,hli,ri⟩:=e916;have hl:ps.take xs.length=ps:=by rw[hps.1,Jbk]
    rw[hl] at ri;exact Zcs _ _ _ ⟨rfl,si,ns,hli,ri⟩
  .intro σ Hk e94;refine Zjy e94 λv3 v4 v5 e917 sk e918=>?_;clear e94;obtain rfl:=e917;obtain⟨ns,hlk,rk⟩:=e918;rw[Jaz] at rk;generalize Zc1 ps n=g0 at *;walk_at "wp";refine⟨Jbp _,λp1 hp1=>⟨_,rfl,(n:Nat),rfl,∅,∅,Zdh (λj σ Hj=>∃ v7:Option V,σ=[some (.int (n:Nat)),some (.ref b),some (.ref l),v3,v4,v5,some (.ref p1),v7]/\Same Hk Hj/\∃ qs,Hj p1=some (.lst qs)/\RowsF p1 Hk Hj qs (((List.range j).filter λi=>decide (g0 (i:Nat)=(i:Nat))).map λi=>Zdl n g0 (i:Nat)))
    ⟨none,rfl,Same.new hp1,[],Zaa,RowsF.nil⟩ ?_ ?_⟩⟩
   .intro j σ Hj hj e95;refine Zau e95 λv7 e919 sj e920=>?_;clear e95;obtain rfl:=e919;obtain⟨qs,hqs,rr⟩:=e920;rw[Jaz] at hj;walk_at "wp";simp only[Int.zero_add];have hlj:=sj _ _ hlk;refine⟨_,SqL.of hlj,_,rk.at ∅ ∅,rfl,Zc8 (λhc=>?_) (λhc=>?_)⟩
    .have hc:g0 (j:Nat)=(j:Nat):=V.int.inj (Jaj hc);refine⟨.inl ⟨rfl,_,SqL.of hqs⟩,_,rfl,(n:Nat),rfl,∅,∅,λt ft=>?_⟩;rw[Jaz];refine Zur (λi=>decide (g0 (i:Nat)=(j:Nat))) Pts.rng ft ∅ (λi H2 Q2 hi s2 k2=>?_) λH2 s2 ht=>?_
     .walk_at "wp";refine⟨_,rfl,l,rfl,_,SqL.of (s2 _ _ hlj),_,rk.at ∅ ∅,_,rfl,rfl,?_⟩;have e:decide (V.int (g0 (i:Nat))=V.int (j:Nat))=decide (g0 (i:Nat)=(j:Nat)):=by simp only[V.int.injEq]
      rw[e];exact k2
     .have nt:t≠p1:=(Zad hqs ft).symm;have hl:=Ja9 (λi:Nat=>decide (g0 (i:Nat)=(i:Nat))) (List.range j);have hr1:=rr.1;refine⟨qs,s2 _ _ hqs,Zah (by rw[hr1];simp at hl ⊢;omega),(sj.trans s2).upd hp1,_,Zaa,?_⟩;have:=((rr.same s2).add (r:=Zdl n g0 (j:Nat)) nt (sj.free ft) ht).put (o:=.lst (qs++[.ref t]));rw[Jde,Jb5,Ja3];simpa [hc] using this
    .have hc:¬ g0 (j:Nat)=(j:Nat):=λz=>hc (Jam (Jdr V.int z));refine⟨sj,qs,hqs,?_⟩;rw[Jde,Jb5,Ja3];simpa [hc] using rr
   .intro σ Hj e96;refine Zau e96 λv7 e921 sj e922=>?_;clear e96;obtain rfl:=e921;obtain⟨qs,hqs,rr⟩:=e922;rw[Jaz] at rr;exact⟨_,rfl,q p1 qs Hj (sk.trans sj) (sk.free hp1) hqs (rr.old sk)⟩
theorem Zeb {L:List Int}{i:Nat}{x:V}(h:(L.map V.int)[i]?=some x):∃ y,L[i]?=some y/\x=.int y:=by
 rw[Jay] at h;cases e:L[i]? with
 | none=>rw[e] at h;cases h
 | some y=>rw[e] at h;cases h;exact⟨y,rfl,rfl⟩
theorem Zmg {a D:Addr}{L:List Int}{fr:List (Str×Nat)}{σ:L2.St}{tt:TT}{H1:Hp}{Q:VK}(g:Int->Bool)(ha:H1 a=some (.lst (L.map V.int)))(hD:H1 D=none)(hn:L.length<=900)(h:∀ x H (Q:Bool->Hp->Prop),x∈L->Same H1 H->Q (g x) H->tt (some (.int x)::Zb3 fr σ) H Q)(hQ:∀ H',Same H1 H'->H' D=some (.lst ((L.filter g).map V.int))->Q (.ref D) H'):Zb4 (Za7 0) tt (Zgq 0) (Itl K a) D (Zfe 1 fr σ) H1 Q:=by
 refine Zbm (xs:=L.map V.int) (λi vs H=>Same H1 H/\H D=some (.lst vs)/\vs=((L.take i).filter g).map V.int) ⟨Same.new hD,Zaa,rfl⟩ (λi vs H _ p=>SqL.of (p.1 _ _ ha)) ?_ (λvs H ⟨s,e,hv⟩=>hQ H s (by rw[e,hv,Jaa,Jbk]));intro i x vs σ' H hi hx sh e91;refine Zap e91 λs e hv=>?_;clear e91;obtain⟨z,rfl⟩:=sh.one;refine Zae (Zeb hx) λy ey e94=>?_;obtain rfl:=e94;have et:L.take (i+1)=L.take i++[y]:=by rw[Jbe,ey];rfl
 have hl:=Ja9 g (L.take i);rw[Ja4] at hl;simp only[Zcm,Za7,List.set_cons_zero];refine h y H _ (Jai ey) s (Zc8 (λhg=>?_) (λhg=>?_))
 .refine ⟨_,rfl,leaf (ws:=vs++[.int y]) hi Sh.mk1 e (Zah (by rw[hv,Jaa];omega)) ⟨s.upd hD,Zaa,?_⟩⟩;rw[et,Jb5,hv];simp[hg]
 .refine Zow (ws:=vs) hi Sh.mk1 ⟨s,e,?_⟩;rw[et,Jb5,hv];simp[hg]
theorem Zmd {a D:Addr}{L:List Int}{fr:List (Str×Nat)}{σ:L2.St}{tt:TT}{te:TE}{H1:Hp}{Q:VK}(g:Int->Bool)(row:Int->List Int)(ha:H1 a=some (.lst (L.map V.int)))(hD:H1 D=none)(hn:L.length<=900)(h:∀ x H (Q:Bool->Hp->Prop),x∈L->Same H1 H->Q (g x) H->tt (some (.int x)::Zb3 fr σ) H Q)(he:∀ x H (Q:VK),x∈L->Same H1 H->(∀ t H',H t=none->Same H H'->H' t=some (.lst ((row x).map V.int))->Q (.ref t) H')->te (some (.int x)::Zb3 fr σ) H Q)(hQ:∀ qs H',Same H1 H'->H' D=some (.lst qs)->RowsF D H1 H' qs ((L.filter g).map row)->Q (.ref D) H'):Zb4 (Za7 0) tt te (Itl K a) D (Zfe 1 fr σ) H1 Q:=by
 refine Zbm (xs:=L.map V.int) (λi vs H=>Same H1 H/\H D=some (.lst vs)/\RowsF D H1 H vs (((L.take i).filter g).map row)) ⟨Same.new hD,Zaa,RowsF.nil⟩ (λi vs H _ p=>SqL.of (p.1 _ _ ha)) ?_ (λvs H ⟨s,e,hv⟩=>hQ vs H s e (by rw[Jaa,Jbk] at hv;exact hv));intro i x vs σ' H hi hx sh e92;refine Zap e92 λs e hv=>?_;clear e92;obtain⟨z,rfl⟩:=sh.one;refine Zae (Zeb hx) λy ey e95=>?_;obtain rfl:=e95;have et:L.take (i+1)=L.take i++[y]:=by rw[Jbe,ey];rfl
 have hl:=Ja9 g (L.take i);rw[Ja4] at hl;have hv1:=hv.1;rw[Jaa] at hv1;simp only[Zcm,Za7,List.set_cons_zero];refine h y H _ (Jai ey) s (Zc8 (λhg=>?_) (λhg=>?_))
 .refine he y H _ (Jai ey) s λt H' ft s' ht=>?_;have nt:t≠D:=(Zad e ft).symm;refine leaf (ws:=vs++[.ref t]) hi Sh.mk1 (s' _ _ e) (Zah ∅) ⟨(s.trans s').upd hD,Zaa,?_⟩;have:=((hv.same s').add nt (s.free ft) ht).put (o:=.lst (vs++[.ref t]));rw[et,Jb5,Ja3];simpa [hg] using this
 .refine Zow (ws:=vs) hi Sh.mk1 ⟨s,e,?_⟩;rw[et,Jb5,Ja3];simpa [hg] using hv
def DRepL (L:List Int)(kvs:List (Key×V))(f:Int->Int):Prop:=kvs.length<=L.length/\∀ x∈L,Zey kvs (.inl x)=some (.int (f x))
theorem DRepL.put {L:List Int}{kvs:List (Key×V)}{f:Int->Int}{k v:Int}(h:DRepL L kvs f)(hk:k∈L):DRepL L (Zez kvs (.inl k) (.int v)) (λy=>if y=k then v else f y):=by
 refine⟨by rw[Ztg (by rw[h.2 k hk];rfl)];exact h.1,λx hx=>?_⟩;rw[Ze0];by_cases e:x=k
 .subst e;simp
 .show _=some (V.int (if x=k then v else f x));rw[if_neg (by intro z;exact e (Jhl z)),if_neg e];exact h.2 x hx
theorem DRepL.congr {L:List Int}{kvs:List (Key×V)}{f g:Int->Int}(h:DRepL L kvs f)(e:∀ x∈L,f x=g x):DRepL L kvs g:=⟨h.1,λx hx=>by rw[h.2 x hx,e x hx]⟩
theorem DRepL.get {L:List Int}{kvs:List (Key×V)}{f:Int->Int}{H:Hp}{D:Addr}{x:Int}(h:DRepL L kvs f)(e:H D=some (.dK kvs))(hx:x∈L):DGet H D (.int x) (some (.int (f x))):=by
 have:=DGet.k (k:=.inl x) e;rwa [h.2 x hx] at this
theorem comp_dl {a D:Addr}{L:List Int}{σ:L2.St}{H1:Hp}{Q:VK}(ha:H1 a=some (.lst (L.map V.int)))(nd:L.Nodup)(hD:H1 D=none)(hn:L.length<=900)(hQ:∀ kvs H',Same H1 H'->H' D=some (.dK kvs)->DRepL L kvs id->Q (.ref D) H'):Zld (Za7 0) Zgi (Zgq 0) (Zgq 0) (Itl K a) D (Zfe 1 [] σ) H1 Q:=by
 refine⟨λi m σ' H2=>m=L.length-i/\i<=L.length/\(∃ z,σ'=[z])/\∃ kvs,Same H1 H2/\H2 D=some (.dK kvs)/\kvs.length=i/\∀ x:Int,Zey kvs (.inl x)=if x∈L.take i then some (.int x) else none,⟨L.length,by simp,Jbp _,⟨none,rfl⟩,[],Same.new hD,Zaa,rfl,λx=>by simp;rfl⟩,?_⟩;intro i m σ' H2 e93;refine Zbq e93 λe96 hi e97 e98=>?_;clear e93;obtain rfl:=e96;obtain⟨z,rfl⟩:=e97;obtain⟨kvs,s,e,hl,hv⟩:=e98;by_cases hlt:i<L.length
 .refine .inr ⟨⟨_,_,SqL.of (s _ _ ha),Jac (by rw[Jaa];exact hlt)⟩,λx H3 y=>?_⟩;obtain⟨rfl,y2⟩:=y;refine Zae (Zeb (y2 _ (SqL.of (s _ _ ha)))) λu eu e99=>?_;obtain rfl:=e99;have et:L.take (i+1)=L.take i++[u]:=by rw[Jbe,eu];rfl
  have nu:u∉L.take i:=λzz=>by
   have h1:(L.take (i+1)).Nodup:=Jbj (Jhd _ _) nd;rw[et] at h1;exact (Jhj.mp h1).2.2 u zz u (by simp) rfl
  simp only[Za7,Zgi,Jdk,List.set_cons_zero];refine⟨_,rfl,_,rfl,kvs,.inl u,rfl,e,Zah ∅,L.length-(i+1),oz43 hlt,rfl,oz48 hlt,⟨_,rfl⟩,Zez kvs (.inl u) (.int u),s.upd hD,Zaa,?_,λx=>?_⟩
  .rw [Zjb _ (by rw[hv,if_neg nu])];simp[hl]
  .rw [Ze0,et];by_cases ex:x=u
   .subst ex;simp
   .rw [if_neg (by intro z;exact ex (Jhl z)),hv];by_cases c:x∈L.take i
    .rw [if_pos c,if_pos (by simp[c])]
    .rw [if_neg c,if_neg (by simp[c,ex])]
 .have ei:i=L.length:=∅
  subst ei;exact .inl ⟨⟨_,SqL.of (s _ _ ha),by rw[Jaa];exact Jaf _⟩,hQ kvs H2 s e ⟨∅,λx hx=>by rw[hv,if_pos (by rw[Jbk];exact hx)];rfl⟩⟩
noncomputable def Zoh (L:List Int)(f:Int->Int)(k:Int):List Int:=L.filter λx=>decide (f x=k)
noncomputable def Zdw (L:List Int)(f:Int->Int):List (List Int):=(L.filter λx=>decide (f x=x)).map λk=>Zoh L f k
def spHg:Sp:=λvs H Q _=>∃ (a b:Addr) (L:List Int) (xs:List V) (ps:List (Int×Int)),vs=[.ref a,.ref b]/\H a=some (.lst (L.map V.int))/\H b=some (.lst xs)/\L.Nodup/\L.length<=8/\xs.length<=9/\Prs H xs ps/\(∀ q∈ps,q.1∈L/\q.2∈L) /\
 ∀ p qs H',Same H H'->H p=none->H' p=some (.lst qs)->RowsF p H H' qs (Zdw L (Za3 ps))->Q (.ref p) H'
theorem ok_hg (F:Fun K "hanging" "hanging" Zhi f fd)(T:Txt K mg C):FnOk P w K mg base CX0 1 f fd ["points","arrows"] spHg:=by
 have nd:=Zid.nd;refine F.ok Zid (λvs H Q E h=>?_) (λcdv A outer s H vs Q E hr h=>?_)
 .refine Zo9 h λa b L xs ps e95 _=>?_;clear h;obtain rfl:=e95;rfl
 .refine Zel h λa b L xs ps e96 ha hb e97=>?_;clear h;obtain rfl:=e96;refine Zfi e97 λnL hn hx hps hin q=>?_;clear e97;have hu1:=Zoi hr;refine⟨_,((Zat (i:=2) nd rfl (Or.inr rfl) (Zto (own:=["point"]) (fr:=[]) rfl (Zbo (by kernel_rfl)) (Zav (pv 0)) (λ_ _ _ _=>⟨(0<<<["point"]),Za5,(pv 0),(pv 0)⟩)))<*>((Zb5 Jbu rfl (Zav (pv 1)) (@Zgb _ _ _ _ _ 2 rfl ((3>>>nd)^^^((4>>>nd)^^^(@Zdo _))) ⇑1 ⇑1) ((Zd9 (Za4 Zdr rfl T.n_sorted Jgz ((@Zbs _ _ _ _ ((Zer hu1 (pvr 2) (pvr 3) (λ_ _=>rfl))<&>((Zer hu1 (pvr 2) (pvr 4) (λ_ _=>rfl))<&>Zab)))<&>Zab)) (@pg_lst _ _ _ _ _ 2 rfl ((5>>>nd)^^^((6>>>nd)^^^(@Zdo _))) ⇑1 ⇑1))<*>(@Zan _ _ _ (Zb5 Jbu rfl (Zav (pv 0)) (7>>>nd) (@Zan _ _ _ (@Zbb _ _ _ _ _ _ _ _ (Zaq Zcp (Zer hu1 (pvr 2) (pvr 7) (λ_ _=>rfl)) (pvr 6) (Zam _)) (@Zan _ _ _ (Zlr hu1 (pvr 2) (pvr 7) (pvr 5) rfl)) Zao))))))<*>(~~~(Za1 (own:=["first"]) (fr:=[("points",0),("least",2)]) rfl (Zbo (by kernel_rfl)) (Zav (pv 0)) (λ_ _ _ _=>⟨(@Zaf _ _ 0 _ (show (["first","points","least"]:List Str).Nodup by decide +kernel) rfl (Or.inr rfl) (Or.inl rfl)),(Zcx (Za6 Zcp (Zer hu1 (pv 2) (pv 0) (λ_ _=>rfl)) (pv 0) (Zam _))),(Za1 (own:=["point"]) (fr:=[("least",2),("first",0)]) rfl (Zbo (by kernel_rfl)) (Zm5 K rfl (pv 1)) (λ_ _ _ _=>⟨(0<<<["point","least","first"]),(Zcx (Za6 Zcp (Zer hu1 (pv 1) (pv 0) (λ_ _=>rfl)) (pv 2) (Zam _))),(pv 0)⟩))⟩))))),?_⟩;walk_at "wp";refine⟨_,rfl,a,rfl,⟨_,SqL.of ha⟩,λD hD=>comp_dl ha nL hD ∅ λkvs0 H1 s1 hD1 r1=>?_⟩;refine⟨_,rfl,b,rfl,⟨_,SqL.of (s1 _ _ hb)⟩,Zca (xs:=xs) (λi σ Hi=>∃ v3 v4 v5 v6 v7:Option V,σ=[some (.ref a),some (.ref b),some (.ref D),v3,v4,v5,v6,v7]/\Same H Hi/\∃ kvs,Hi D=some (.dK kvs)/\DRepL L kvs ((ps.take i).foldl stepL id)) ⟨none,none,none,none,none,rfl,s1,kvs0,hD1,r1⟩ (λi σ Hi _ ⟨_,_,_,_,_,_,si,_⟩=>SqL.of (si _ _ hb)) ?_ ?_⟩
  .intro i x σ Hi hxi e91;refine xE5_3 e91 λv3 v4 v5 v6 v7 e98 si e99=>?_;clear e91;obtain rfl:=e98;obtain⟨kvs,hDi,ri⟩:=e99;have hi:i<ps.length:=by have:=(Jak.mp hxi).1;have:=hps.1;omega
   have hq:ps[i]?=some ps[i]:=Jac hi;refine Zae (hps.2 i x _ hxi hq) λt e910 ht=>?_;obtain rfl:=e910;obtain⟨a0,b0⟩:=hin _ (Jai hq);have ef:(ps.take (i+1)).foldl stepL id=stepL ((ps.take i).foldl stepL id) ps[i]:=by rw[Jbe,hq,List.foldl_append];rfl
   generalize ps[i]=qq at *;generalize (ps.take i).foldl stepL id=f0 at *;walk_at "wp";refine⟨_,SqT.of (si _ _ ht),rfl,_,_,rfl,_,_,rfl,rfl,_,ri.get hDi a0,_,ri.get hDi b0,⇑0,λp hp=>⟨[f0 qq.1,f0 qq.2],SqL.of Zaa,by simp,λl ns' hl hpm hso=>?_⟩⟩;have hns:=sort2 hpm hso;subst hns;refine⟨_,SqL.of Zaa,rfl,_,_,rfl,_,_,rfl,rfl,?_⟩;have s2:Same Hi (upd (upd Hi p (.lst [.int (f0 qq.1),.int (f0 qq.2)])) l (.lst ([min (f0 qq.1) (f0 qq.2),max (f0 qq.1) (f0 qq.2)].map V.int))):=(Same.new hp).trans (Same.new hl);generalize upd (upd Hi p (.lst [.int (f0 qq.1),.int (f0 qq.2)])) l (.lst ([min (f0 qq.1) (f0 qq.2),max (f0 qq.1) (f0 qq.2)].map V.int))=H2 at *;refine⟨_,rfl,a,rfl,⟨_,SqL.of (s2 _ _ (si _ _ ha))⟩,Zca (xs:=L.map V.int) (λj σ Hj=>∃ w7:Option V,σ=[some (.ref a),some (.ref b),some (.ref D),some (.int qq.1),some (.int qq.2),some (.int (min (f0 qq.1) (f0 qq.2))),some (.int (max (f0 qq.1) (f0 qq.2))),w7]/\Same H Hj/\∃ kvs,Hj D=some (.dK kvs)/\DRepL L kvs (λx=>if x∈L.take j/\f0 x=max (f0 qq.1) (f0 qq.2) then min (f0 qq.1) (f0 qq.2) else f0 x))
    ⟨v7,rfl,si.trans s2,kvs,s2 _ _ hDi,ri.congr λx _=>by rw[if_neg (by simp)]⟩ (λj σ Hj _ ⟨_,_,sj,_⟩=>SqL.of (sj _ _ ha)) ?_ ?_⟩
   .intro j x σ Hj hxj e92;refine Zau e92 λw7 e911 sj e912=>?_;clear e92;obtain rfl:=e911;obtain⟨kvs',hDj,rj⟩:=e912;refine Zae (Zeb hxj) λu eu e913=>?_;obtain rfl:=e913;have hu:=Jai eu;have et:L.take (j+1)=L.take j++[u]:=by rw[Jbe,eu];rfl
    have nu:u∉L.take j:=λzz=>by
     have h1:(L.take (j+1)).Nodup:=Jbj (Jhd _ _) nL;rw[et] at h1;exact (Jhj.mp h1).2.2 u zz u (by simp) rfl
    walk_at "wp";have gj:=rj.get (x:=u) hDj hu;rw[if_neg (λz=>nu z.1)] at gj;refine⟨_,gj,rfl,Zc8 (λhc=>?_) (λhc=>?_)⟩
    .have hc:f0 u=max (f0 qq.1) (f0 qq.2):=V.int.inj (Jaj hc);refine⟨_,DPut.k (k:=.inl u) hDj (Zah (by have:=rj.1;omega)),sj.upd hD,_,Zaa,(rj.put (k:=u) hu).congr λx hxL=>?_⟩;rw[et];by_cases ex:x=u
     .subst ex;rw[if_pos rfl,if_pos ⟨by simp,hc⟩]
     .rw [if_neg ex];by_cases c:x∈L.take j/\f0 x=max (f0 qq.1) (f0 qq.2)
      .rw [if_pos c,if_pos ⟨by simp[c.1],c.2⟩]
      .rw [if_neg c,if_neg (by intro z;exact c ⟨by simpa [ex] using z.1,z.2⟩)]
    .have hc:¬ f0 u=max (f0 qq.1) (f0 qq.2):=λz=>hc (Jam (Jdr V.int z));refine⟨sj,kvs',hDj,rj.congr λx hxL=>?_⟩;rw[et];by_cases ex:x=u
     .subst ex;rw[if_neg (λz=>hc z.2),if_neg (λz=>hc z.2)]
     .by_cases c:x∈L.take j/\f0 x=max (f0 qq.1) (f0 qq.2)
      .rw [if_pos c,if_pos ⟨by simp[c.1],c.2⟩]
      .rw [if_neg c,if_neg (by intro z;exact c ⟨by simpa [ex] using z.1,z.2⟩)]
   .intro σ Hj e93;refine Zau e93 λw7 e914 sj e915=>?_;clear e93;obtain rfl:=e914;obtain⟨kvs',hDj,rj⟩:=e915;refine Zit _ _ _ _ _ ⟨rfl,sj,kvs',hDj,?_⟩;rw[ef];refine rj.congr λx hxL=>?_;rw[Jaa,Jbk];unfold stepL;by_cases c:f0 x=max (f0 qq.1) (f0 qq.2)
    .rw [if_pos ⟨hxL,c⟩,if_pos c]
    .rw [if_neg (λz=>c z.2),if_neg c]
  .intro σ Hi e94;refine xE5_3 e94 λv3 v4 v5 v6 v7 e916 si e917=>?_;clear e94;obtain rfl:=e916;obtain⟨kvs,hDi,ri⟩:=e917;have hl:ps.take xs.length=ps:=by rw[hps.1,Jbk]
   rw[hl] at ri;have ri:DRepL L kvs (Za3 ps):=ri;generalize Za3 ps=f0 at *;refine⟨_,rfl,a,rfl,⟨_,SqL.of (si _ _ ha)⟩,λp hp=>Zmd (λx=>decide (f0 x=x)) (λk=>Zoh L f0 k) (si _ _ ha) hp ∅ ?_ ?_ λqs H' s' hp' rr=>q p qs H' (si.trans s') (si.free hp) hp' (rr.old si)⟩
   .intro x H2 Q2 hx s2 k2;walk_at "wp";refine⟨_,rfl,D,rfl,_,ri.get (s2 _ _ hDi) hx,rfl,?_⟩;have e:decide (V.int (f0 x)=V.int x)=decide (f0 x=x):=by simp only[V.int.injEq]
    rw[e];exact k2
   .intro x H2 Q2 hx s2 k2;refine⟨_,rfl,a,rfl,⟨_,SqL.of (s2 _ _ (si _ _ ha))⟩,λt ft=>Zmg (λy=>decide (f0 y=x)) (s2 _ _ (si _ _ ha)) ft ∅ ?_ λH' s' ht=>k2 t H' ft s' ht⟩;intro y H3 Q3 hy s3 k3;walk_at "wp";refine⟨_,rfl,D,rfl,_,ri.get (s3 _ _ (s2 _ _ hDi)) hy,_,rfl,rfl,?_⟩;have e:decide (V.int (f0 y)=V.int x)=decide (f0 y=x):=by simp only[V.int.injEq]
    rw[e];exact k3
theorem Zdb {A X:TS}{D:Ends}{σ:L2.St}{H:Hp}(h:∀ X',(∀ D σ H,X D σ H->X' D σ H)->tSeq A X' D σ H):tSeq A X D σ H:=h X λ_ _ _=>id
noncomputable def Zay (es:List (Int×Int)):List Int:=es.flatMap λq=>[q.1,q.2]
noncomputable def esF (es:List (Int×Int))(f:Int):List (Int×Int):=es.filter λq=>decide (q.1≠f/\q.2≠f)
noncomputable def Zk3 (S:List Int)(es:List (Int×Int))(f:Int):List Int:=(Zdw (L3.oth S f) (Za3 (esF es f))).map λr=>(r.length:Int)
abbrev Kd:=Option (Str×Int)
def KdV (H:Hp)(v:V):Kd->Prop
 | none=>v=.non
 | some k=>∃ t,v=.ref t/\H t=some (.tup [.str k.1,.int k.2])
theorem KdV.same {H H':Hp}{v:V}{k:Kd}(h:KdV H v k)(s:Same H H'):KdV H' v k:=by
 cases k with
 | none=>exact h
 | some k=>obtain⟨t,e,ht⟩:=h;exact⟨t,e,s _ _ ht⟩
noncomputable def kd (n:Int)(ns:List Int):Kd:=if ns.take 2=[1,1] then some ("D",n) else if ns.take 2=[1,2]/\(n=6\/n=7\/n=8) then some ("E",n) else none
theorem int_eqD {H:Hp}{n:Nat}{i j:Int}:EqD K H n (.int i) (.int j) (decide (i=j)):=by
 have:=EqD.flat (K:=K) (H:=H) (n:=n) (x:=.int i) (y:=.int j) rfl rfl;rwa [show eqV (.int i) (.int j)=decide (i=j) by simp[eqV];rw[Jcx];simp] at this
theorem Zk8:∀ {ns ms:List Int},ns.length=ms.length->((List.zipWith (λa b=>decide (a=b)) ns ms).all id=true ↔ ns=ms)
 | [],[],_=>by simp
 | a::ns,b::ms,h=>by
  have:=Zk8 (ns:=ns) (ms:=ms) (by simpa using h);simp only[List.zipWith_cons_cons,Jhn,Jbv,this,id_eq,Jb0,Jci]
theorem Znv {H:Hp}{ns ms:List Int}{A B:Prop}(h1:ns=ms->B)(h2:ns≠ms->A):((ns.map V.int).length≠(ms.map V.int).length/\A)\/∃ bs,Zh3 K H 6 (ns.map V.int) (ms.map V.int) bs/\if bs.all id=true then B else A:=by
 by_cases hl:ns.length=ms.length
 .refine .inr ⟨List.zipWith (λa b=>decide (a=b)) ns ms,⟨by rw[Jaa,Jaa];exact hl,by rw[List.length_zipWith,Jaa];omega,λj x y b e1 e2 e3=>?_⟩,?_⟩
  .refine Zae (Zeb e1) λu eu e91=>?_;obtain rfl:=e91;refine Zae (Zeb e2) λv ev e92=>?_;obtain rfl:=e92;rw[List.getElem?_zipWith,eu,ev] at e3;cases e3;exact int_eqD
  .by_cases e:ns=ms
   .rw [if_pos ((Zk8 hl).mpr e)];exact h1 e
   .rw [if_neg (λz=>e ((Zk8 hl).mp z))];exact h2 e
 .exact .inl ⟨by rw[Jaa,Jaa];exact hl,h2 λz=>hl (by rw[z])⟩
theorem Zgx (ns:List Int):Zf0 (ns.map V.int) none (some 2)=(ns.take 2).map V.int:=by
 unfold Zf0;have e1:HT.sIx (ns.map V.int).length (ns.map V.int).length (some 2)=min 2 (ns.map V.int).length:=by
  simp only[HT.sIx];rw[if_neg ⇑0];rfl
 have e0:HT.sIx (ns.map V.int).length 0 none=0:=rfl;rw[e1,e0,List.drop_zero,Nat.sub_zero,Jho];exact (List.take_eq_take_min).symm
theorem in678 (n:Int):inV (V.int n) [V.int 6,V.int 7,V.int 8]=true ↔ (n=6\/n=7\/n=8):=by
 simp only[inV,Je0,List.any_nil,Bool.or_false,Jgo,eqV,Jcj];constructor
 .rintro (h|h|h)
  .exact .inl ∅
  .exact .inr (.inl ∅)
  .exact .inr (.inr ∅)
 .rintro (h|h|h)
  .exact .inl ∅
  .exact .inr (.inl ∅)
  .exact .inr (.inr ∅)
def spFk:Sp:=λvs H Q _=>∃ (n:Int) (a:Addr) (ns:List Int),vs=[.int n,.ref a]/\H a=some (.lst (ns.map V.int))/\ns.length<=900/\∀ v H',Same H H'->KdV H' v (kd n ns)->Q v H'
theorem ok_fk (F:Fun K "forked_kind" "forked_kind" Zdk f fd)(T:Txt K mg C):FnOk P w K mg base CX0 1 f fd ["many","lengths"] spFk:=by
 have nd:=Zeh.nd;refine F.ok Zeh (λvs H Q E h=>?_) (λcdv A outer s H vs Q E hr h=>?_)
 .refine Zdv h λn a ns e93 _=>?_;clear h;obtain rfl:=e93;rfl
 .refine Zck h λn a ns e94 ha hn q=>?_;clear h;obtain rfl:=e94;refine⟨_,((@Zbb _ _ _ _ _ _ _ _ (Zaq (Znb (Zj8 hr)) (@Zbz _ _ _ _ _ _ _ _ _ _ Zct (pvr 1) Zc0 (@Zcz _ _ _ Zac)) (@Zbs _ _ _ _ (Zac<&>(Zac<&>Zab))) (Zam _)) (~~~(@Zar _ _ _ _ _ (Ze9<&>((pvr 0)<&>Zab)))) Zao)<*>((@Zbb _ _ _ _ _ _ _ _ (PW.pt (Zva (Zaq (Znb (Zj8 hr)) (@Zbz _ _ _ _ _ _ _ _ _ _ Zct (pvr 1) Zc0 (@Zcz _ _ _ Zac)) (@Zbs _ _ _ _ (Zac<&>(Zac<&>Zab))) (Zam _)) (Zqf (Zaq Zhp (pvr 0) (@Zar _ _ _ _ _ (Zac<&>(Zac<&>(Zac<&>Zab)))) (by with_unfolding_all rfl))))) (~~~(@Zar _ _ _ _ _ (Ze9<&>((pvr 0)<&>Zab)))) Zao)<*>(~~~Zhn))),?_⟩;have hu:=Zj8 hr;refine Zdb λX hX=>?_;walk_at "wp";refine⟨_,SqL.of ha,λp hp=>⟨⇑0,λp1 hp1=>?_⟩⟩;rw[Zgx] at *;have s1:=Same.new (o:=.lst ((ns.take 2).map V.int)) hp;have s2:=Same.new (o:=.lst [V.int 1,V.int 1]) hp1;have s12:=s1.trans s2;have e1:upd (upd H p (.lst ((ns.take 2).map V.int))) p1 (.lst [V.int 1,V.int 1]) p=some (.lst ((ns.take 2).map V.int)):=s2 _ _ Zaa;have e2:upd (upd H p (.lst ((ns.take 2).map V.int))) p1 (.lst [V.int 1,V.int 1]) p1=some (.lst (([1,1]:List Int).map V.int)):=Zaa;generalize upd (upd H p (.lst ((ns.take 2).map V.int))) p1 (.lst [V.int 1,V.int 1])=H2 at *;refine⟨_,SqL.of e1,_,SqL.of e2,Znv (λh=>⟨⇑0,λt ht=>q _ _ (s12.trans (Same.new ht)) ?_⟩) (λh=>?_)⟩
  .unfold kd;rw[if_pos h];exact⟨t,rfl,Zaa⟩
  refine hX _ _ _ ?_;refine Zdb λX hX=>?_;walk_at "wp";refine⟨_,SqL.of (s12 _ _ ha),λp2 hp2=>⟨⇑0,λp3 hp3=>?_⟩⟩;rw[Zgx] at *;have s3:=Same.new (o:=.lst ((ns.take 2).map V.int)) hp2;have s4:=Same.new (o:=.lst [V.int 1,V.int 2]) hp3;have s34:=s3.trans s4;have s14:=s12.trans s34;have e3:upd (upd H2 p2 (.lst ((ns.take 2).map V.int))) p3 (.lst [V.int 1,V.int 2]) p2=some (.lst ((ns.take 2).map V.int)):=s4 _ _ Zaa;have e4:upd (upd H2 p2 (.lst ((ns.take 2).map V.int))) p3 (.lst [V.int 1,V.int 2]) p3=some (.lst (([1,2]:List Int).map V.int)):=Zaa;generalize upd (upd H2 p2 (.lst ((ns.take 2).map V.int))) p3 (.lst [V.int 1,V.int 2])=H4 at *;have fin:kd n ns=none->∀ H',Same H H'->X { nx:=λx H'=>Q V.non H',rt:=Q } [some (V.int n),some (V.ref a)] H':=λek H' s'=>by
   refine hX _ _ _ ?_;exact q .non H' s' (by rw[ek];rfl)
  refine⟨_,SqL.of e3,_,SqL.of e4,Znv (λh2=>⟨⇑0,λp4 hp4=>?_⟩) (λh2=>fin (by unfold kd;rw[if_neg h,if_neg λz=>h2 z.1]) H4 s14)⟩;have s5:=Same.new (o:=.tup [V.int 6,V.int 7,V.int 8]) hp4;refine⟨_,.inr (SqT.of Zaa),rfl,rfl,Zc8 (λhc=>⟨⇑0,λt ht=>q _ _ ((s14.trans s5).trans (Same.new ht)) ?_⟩) (λhc=>fin ?_ _ (s14.trans s5))⟩
  .unfold kd;rw[if_neg h,if_pos ⟨h2,(in678 n).mp hc⟩];exact⟨t,rfl,Zaa⟩
  .unfold kd;rw[if_neg h,if_neg λz=>hc ((in678 n).mpr z.2)]
theorem Zmf {a D:Addr}{xs:List V}{es:List (Int×Int)}{fr:List (Str×Nat)}{σ:L2.St}{tt:TT}{H1:Hp}{Q:VK}(g:Int×Int->Bool)(ha:H1 a=some (.lst xs))(hp:Prs H1 xs es)(hD:H1 D=none)(hn:xs.length<=900)(h:∀ t q H (Q:Bool->Hp->Prop),q∈es->H t=some (.tup [.int q.1,.int q.2])->Same H1 H->Q (g q) H->tt (some (.ref t)::Zb3 fr σ) H Q)(hQ:∀ ys H',Same H1 H'->H' D=some (.lst ys)->Prs H' ys (es.filter g)->ys.length<=xs.length->Q (.ref D) H'):Zb4 (Za7 0) tt (Zgq 0) (Itl K a) D (Zfe 1 fr σ) H1 Q:=by
 have hlen:=hp.1;refine Zbm (xs:=xs) (λi vs H=>Same H1 H/\H D=some (.lst vs)/\Prs H vs ((es.take i).filter g)) ⟨Same.new hD,Zaa,Prs.nil⟩ (λi vs H _ p=>SqL.of (p.1 _ _ ha)) ?_ (λvs H ⟨s,e,hv⟩=>?_)
 .intro i x vs σ' H hi hx sh e91;refine Zap e91 λs e hv=>?_;clear e91;obtain⟨z,rfl⟩:=sh.one;have hi':i<es.length:=by exact Zka hlen hi
  have hq:es[i]?=some es[i]:=Jac hi';refine Zae (hp.2 i x _ hx hq) λt e96 ht=>?_;obtain rfl:=e96;have et:es.take (i+1)=es.take i++[es[i]]:=by rw[Jbe,hq];rfl
  have hl:=Ja9 g (es.take i);rw[Ja4] at hl;have hv1:=hv.1;simp only[Zcm,Za7,List.set_cons_zero];refine h t _ H _ (Jai hq) (s _ _ ht) s (Zc8 (λhg=>?_) (λhg=>?_))
  .refine ⟨_,rfl,leaf (ws:=vs++[.ref t]) hi Sh.mk1 e (Zah ∅) ⟨s.upd hD,Zaa,?_⟩⟩;rw[et,Jb5];have:=(hv.add (s _ _ ht)).put (o:=.lst (vs++[.ref t])) e;simpa [hg] using this
  .refine Zow (ws:=vs) hi Sh.mk1 ⟨s,e,?_⟩;rw[et,Jb5];simpa [hg] using hv
 .rw [hlen,Jbk] at hv;refine hQ vs H s e hv ?_;have:=Ja9 g es;rw[hv.1];omega
theorem Zo4 {b D:Addr}{xs:List V}{es:List (Int×Int)}{σ:L2.St}{H1:Hp}{Q:VK}(hb:H1 b=some (.lst xs))(hp:Prs H1 xs es)(hD:H1 D=none)(hn:xs.length<=9)(hQ:∀ H',Same H1 H'->H' D=some (.lst ((Zay es).map V.int))->Q (.ref D) H'):Zle (Za7 0) (iTup K (Zgq 0)) (Za7 1) (Zgq 1) (Itl K b) D (Zfe 2 [] σ) H1 Q:=by
 have hlen:=hp.1;refine⟨λi m σ' H2=>m=xs.length-i/\i<=xs.length/\∃ v0 v1:Option V,σ'=[v0,v1]/\Same H1 H2/\H2 D=some (.lst ((Zay (es.take i)).map V.int)),⟨xs.length,rfl,Jbp _,none,none,rfl,Same.new hD,Zaa⟩,?_⟩;intro i m σ' H2 e92;refine Zap e92 λe97 hi e98=>?_;clear e92;obtain rfl:=e97;obtain⟨v0,v1,rfl,s2,hD2⟩:=e98;by_cases hlt:i<xs.length
 .refine .inr ⟨⟨xs,xs[i],SqL.of (s2 _ _ hb),Jac hlt⟩,λx H3 y=>?_⟩;obtain⟨rfl,hy⟩:=y;have hx:=hy xs (SqL.of (s2 _ _ hb));have hq:es[i]?=some es[i]:=Jac (Zka hlen hlt);refine Zae (hp.2 i x _ hx hq) λt e99 ht=>?_;obtain rfl:=e99;have ht2:=s2 _ _ ht;have nt:t≠D:=λz=>by rw[z,hD2] at ht2;cases ht2
  have et:Zay (es.take (i+1))=Zay (es.take i)++[es[i].1,es[i].2]:=by
   unfold Zay;rw[Jbe,hq,List.flatMap_append];simp
  have le:(Zay (es.take i)).length<=2*i:=by
   unfold Zay;rw[List.length_flatMap];have:((es.take i).map λq=>[q.1,q.2].length)=List.replicate (es.take i).length 2:=by
    rw[List.eq_replicate_iff];refine⟨by rw[Jaa],λz hz=>?_⟩;refine Zae (Jan.mp hz) λq _ e910=>?_;obtain rfl:=e910;rfl
   rw[this,List.sum_replicate_nat,Ja4];have:min i es.length<=i:=Nat.min_le_left _ _;omega
  generalize es[i]=q at *;refine⟨_,rfl,t,rfl,⟨_,SqT.of ht2⟩,λj m2 σ5 H6=>m2=2-j/\j<=2/\∃ v1':Option V,σ5=[some (.ref t),v1']/\Same H1 H6/\H6 D=some (.lst ((Zay (es.take i)++[q.1,q.2].take j).map V.int)),⟨2,rfl,⇑0,v1,rfl,s2,by rw[hD2];simp⟩,?_⟩;intro j m2 σ5 H6 e93;refine Zap e93 λe911 hj e912=>?_;clear e93;obtain rfl:=e911;obtain⟨v1',rfl,s6,hD6⟩:=e912;have ht6:=s6 _ _ ht;by_cases hj2:j<2
  .have ej:([V.int q.1,V.int q.2]:List V)[j]?=some (V.int ([q.1,q.2].getD j 0)):=by
    match j,hj2 with
    | 0,_=>rfl
    | 1,_=>rfl
   refine .inr ⟨⟨_,_,SqT.of ht6,ej⟩,λy H7 yy=>?_⟩;obtain⟨rfl,hyy⟩:=yy;have hyj:=hyy _ (SqT.of ht6);rw[ej] at hyj;cases hyj;refine⟨_,rfl,_,hD6,Zah ?_,2-(j+1),∅,rfl,∅,_,rfl,s6.upd hD,?_⟩
   .rw [Jaa,Jaq];have:([q.1,q.2].take j).length<=2:=by rw[Ja4];exact Nat.min_le_right _ _
    omega
   .rw [Zaa]
    match j,hj2 with
    | 0,_=>simp
    | 1,_=>simp
  .have:j=2:=∅
   subst this;refine .inl ⟨⟨_,SqT.of ht6,by show 2<=2;decide⟩,xs.length-(i+1),oz43 hlt,rfl,oz48 hlt,_,_,rfl,s6,?_⟩;rw[hD6,et];rfl
 .have:i=xs.length:=∅
  subst this;refine .inl ⟨⟨_,SqL.of (s2 _ _ hb),Jaf _⟩,hQ H2 s2 ?_⟩;rw[hD2,hlen,Jbk]
def Zpw:Sp:=λvs H Q _=>∃ (a b:Addr) (S:List Int) (xs:List V) (es:List (Int×Int)) (f:Int),vs=[.ref a,.ref b,.int f]/\H a=some (.lst (S.map V.int))/\H b=some (.lst xs)/\S.Nodup/\S.length<=8/\xs.length<=9/\Prs H xs es/\(∀ q∈es,q.1∈S/\q.2∈S) /\
 ∀ (l:Addr) (ns:List Int) (H':Hp),Same H H'->H l=none->H' l=some (.lst (ns.map V.int))->ns.Perm (Zk3 S es f)->ns.Pairwise (·<=·)->Q (.ref l) H'
theorem ok_arms (F:Fun K "arms" "arms" Zp2 f fd)(T:Txt K mg C)(Yad:Cal P w K mg base "hanging" 1 spHg):FnOk P w K mg base CX0 2 f fd ["points","arrows","fork"] Zpw:=by
 have nd:=Zp1.nd;refine F.ok Zp1 (λvs H Q E h=>?_) (λcdv A outer s H vs Q E hr h=>?_)
 .refine xE6_2 h λa b S xs es f e913 _=>?_;clear h;obtain rfl:=e913;rfl
 .refine xE6_4 h λa b S xs es f e914 ha hb e915=>?_;clear h;obtain rfl:=e914;refine Zfi e915 λnS h8 h9 hp hin q=>?_;clear e915;refine⟨_,((Zft (i:=3) (own:=["point"]) (fr:=[("fork",2)]) rfl (Zbo (by kernel_rfl)) (Zav (pv 0)) (λ_ _ _ _=>⟨(0<<<["point","fork"]),(Zcx (Za6 Zke (pv 0) (pv 1) (Zam _))),(pv 0)⟩) nd rfl rfl rfl)<*>(~~~(Za4 Zdr rfl T.n_sorted Jgz ((Za1 (own:=["arm"]) (fr:=[]) rfl (Zbo (by kernel_rfl)) (Zav (Yad<$>hr<$>((pv 3)<&>((Za1 (own:=["arrow"]) (fr:=[("fork",2)]) rfl (Zbo (by kernel_rfl)) (Zav (pv 1)) (λ_ _ _ _=>⟨(0<<<["arrow","fork"]),(Zcx (Za6 (Zjg K rfl) (pv 1) (pv 0) (by with_unfolding_all rfl))),(pv 0)⟩))<&>Zab)))) (λ_ _ _ _=>⟨(0<<<["arm"]),Za5,(Za4 (Zcr K rfl) rfl T.n_len Jbo ((pv 0)<&>Zab))⟩))<&>Zab)))),?_⟩;refine Zdb λX hX=>?_;walk_at "wp";refine⟨_,rfl,a,rfl,⟨_,SqL.of ha⟩,λD hD=>Zmg (λx=>decide (x≠f)) ha hD ∅ (λx H' Q' hx s' q'=>?_) λH1 s1 e1=>?_⟩
  .have e:(!decide (V.int x=V.int f))=decide (x≠f):=by
    by_cases z:x=f
    .simp [z]
    .simp [z]
   exact⟨_,rfl,_,rfl,rfl,_,rfl,e ▸ q'⟩
  refine hX _ _ _ ?_;walk_at "wp";refine⟨_,rfl,_,rfl,b,rfl,⟨_,SqL.of (s1 _ _ hb)⟩,λD2 hD2=>Zmf (λq=>decide (q.1≠f/\q.2≠f)) (s1 _ _ hb) (hp.same s1) hD2 ∅ (λt q' H' Q' hq ht s' k'=>?_) λys H2 s2 e2 pr2 ly=>?_⟩
  .have e:(!inV (V.int f) [V.int q'.1,V.int q'.2])=decide (q'.1≠f/\q'.2≠f):=by
    have:inV (V.int f) [V.int q'.1,V.int q'.2]=(decide (q'.1=f) || decide (q'.2=f)):=by
     simp only[inV,Je0,List.any_nil,Bool.or_false,eqV];rw[Jcx];simp
    rw[this];by_cases z:q'.1=f <;> by_cases y:q'.2=f <;> simp[z,y]
   exact⟨_,rfl,_,rfl,t,_,rfl,.inr (SqT.of ht),rfl,rfl,_,rfl,e ▸ k'⟩
  have nO:(L3.oth S f).Nodup:=Jbj Jbg nS;have lO:(L3.oth S f).length<=8:=Ja8 (Ja9 _ _) h8;refine Zit D D2 (L3.oth S f) ys (esF es f) ⟨rfl,s2 _ _ e1,e2,nO,lO,∅,pr2,λq' hq'=>?_,λp qs H3 s3 fp hp3 rf=>?_⟩
  .obtain ⟨m1,m2⟩:=Jal.mp hq';have m2:=Jaj m2;exact⟨L3.Zbe.mpr ⟨(hin q' m1).1,m2.1⟩,L3.Zbe.mpr ⟨(hin q' m1).2,m2.2⟩⟩
  have rl:=rf.1;have lr:(Zdw (L3.oth S f) (Za3 (esF es f))).length<=8:=by
   unfold Zdw;rw[Jaa];exact Ja8 (Ja9 _ _) lO
  refine⟨p,rfl,⟨_,SqL.of hp3⟩,λD3 hD3=>Zbm (xs:=qs) (λi vs H=>Same H3 H/\H D3=some (.lst vs)/\vs=(((Zdw (L3.oth S f) (Za3 (esF es f))).take i).map λr=>((r.length:Nat):Int)).map V.int) ⟨Same.new hD3,Zaa,rfl⟩ (λi vs H _ k=>SqL.of (k.1 _ _ hp3)) ?_ ?_⟩
  .intro i x vs σ' H' hi hx sh e94;refine Zap e94 λs' e' e916=>?_;clear e94;obtain rfl:=e916;obtain⟨z,rfl⟩:=sh.one;have hi':i<(Zdw (L3.oth S f) (Za3 (esF es f))).length:=by exact Zka rl hi
   have hr':=Jac hi';refine Zla (rf.2 i x _ hx hr') λt e917 _ _ ht=>?_;obtain rfl:=e917;simp only[Zcm,Za7,Zgi,List.set_cons_zero,Jdk];refine⟨_,rfl,_,rfl,_,.inl (SqL.of (s' _ _ ht)),?_⟩;refine leaf (ws:=(((Zdw (L3.oth S f) (Za3 (esF es f))).take (i+1)).map λr=>((r.length:Nat):Int)).map V.int) hi Sh.mk1 e' (Zah (by rw[Jaa,Jaa,Ja4];omega)) ⟨s'.upd hD3,?_,rfl⟩;rw[Zaa,Jbe,hr',Ja3,Ja3,Jaa];rfl
  .intro vs H4 e95;refine Zap e95 λs4 e4 e918=>?_;clear e95;obtain rfl:=e918;rw[rl,Jbk] at e4;refine⟨D3,rfl,_,SqL.of e4,by rw[Jaa];omega,λl ns' hl pm so=>q l ns' _ ?_ ?_ Zaa pm so⟩
   .exact (((s1.trans s2).trans s3).trans s4).trans (Same.new hl)
   .exact (((s1.trans s2).trans s3).trans s4).free hl
def Zh2 (S:List Int)(es:List (Int×Int))(r:Kd):Prop:=
 (es.length+1≠S.length/\r=none)\/(es.length+1=S.length/\(((S.filter λx=>decide (2<(Zay es).count x))=[]/\r=(some (Str.ofString "A",(S.length:Int)):Kd)) \/
  ∃ f rest,(S.filter λx=>decide (2<(Zay es).count x))=f::rest/\(((rest≠[]\/3<(Zay es).count f)/\r=none)\/(rest=[]/\¬ 3<(Zay es).count f/\∃ ns:List Int,ns.Perm (Zk3 S es f)/\ns.Pairwise (·<=·)/\r=kd S.length ns))))
def spKo:Sp:=λvs H Q _=>∃ (a b:Addr) (S:List Int) (xs:List V) (es:List (Int×Int)),vs=[.ref a,.ref b]/\H a=some (.lst (S.map V.int))/\H b=some (.lst xs)/\S.Nodup/\S.length<=8/\xs.length<=9/\Prs H xs es/\(∀ q∈es,q.1∈S/\q.2∈S) /\
 ∀ r v H',Zh2 S es r->Same H H'->KdV H' v r->Q v H'
theorem ok_ko (F:Fun K "kind_of" "kind_of" Zhg f fd)(T:Txt K mg C)(Yar:Cal P w K mg base "arms" 2 Zpw)(Yak:Cal P w K mg base "forked_kind" 1 spFk):FnOk P w K mg base CX0 3 f fd ["points","arrows"] spKo:=by
 have nd:=Zib.nd;refine F.ok Zib (λvs H Q E h=>?_) (λcdv A outer s H vs Q E hr h=>?_)
 .refine Zo9 h λa b S xs es e919 _=>?_;clear h;obtain rfl:=e919;rfl
 .refine Zel h λa b S xs es e920 ha hb e921=>?_;clear h;obtain rfl:=e920;refine Zfi e921 λnS h8 h9 hp hin q=>?_;clear e921;refine⟨_,((2|||nd|||(Za4 Zaj rfl T.n_len Jbo ((pvr 0)<&>Zab)))<*>((@Zbb _ _ _ _ _ _ _ _ (Zaq Zke (Za4 Zaj rfl T.n_len Jbo ((pvr 1)<&>Zab)) ((opJ0 Zc7)<|>(pvr 2)<&&>Zac) (Zam _)) (~~~Zhn) Zao)<*>((Zat (i:=3) nd rfl (Or.inr rfl) (Ztp (own:=["arrow","end"]) (fr:=[]) rfl (Zbo (by kernel_rfl)) (Zav (pv 1)) (λ_ _ _ _=>⟨(0<<<["arrow","end"]),(pi_tupK K rfl (pv 0)),(1<<<["arrow","end"]),(pv 1)⟩)))<*>((Zft (i:=4) (own:=["point"]) (fr:=[("ends",3)]) rfl (Zbo (by kernel_rfl)) (Zav (pv 0)) (λ_ _ _ _=>⟨(0<<<["point","ends"]),(Zcx (Za6 Zh7 (pe_bmK K rfl Jbh Jft Jfu Zhr (pv 1) ((pv 0)<&>Zab)) Zac (Zam _))),(pv 0)⟩) nd rfl rfl rfl)<*>((@Zbb _ _ _ _ _ _ _ _ (Zej (Zm3 (pvr 4) (λ_=>rfl))) (~~~(@Zar _ _ _ _ _ (Ze9<&>((pvr 2)<&>Zab)))) Zao)<*>((@Zbb _ _ _ _ _ _ _ _ (PW.pt (Zhj (Zaq Zh7 (Za4 Zaj rfl T.n_len Jbo ((pvr 4)<&>Zab)) Zac (Zam _)) (Zf9 (Zaq Zh7 (Zfa Jbh Jft Jfu Zhr (pvr 3) (((ixJ Zaw)<|>(pvr 4)<||>Zac)<&>Zab)) Zac (Zam _))))) (~~~Zhn) Zao)<*>(~~~(Yak<$>hr<$>((pvr 2)<&>((Yar<$>hr<$>((pvr 0)<&>((pvr 1)<&>(((ixJ Zaw)<|>(pvr 4)<||>Zac)<&>Zab))))<&>Zab)))))))))),?_⟩;have hl:=hp.1;refine Zdb λX hX=>?_;walk_at "wp";refine⟨_,.inl (SqL.of ha),?_⟩;rw[Jaa];refine hX _ _ _ ?_;refine Zdb λX hX=>?_;walk_at "wp";refine⟨_,.inl (SqL.of hb),Zc8 (λhc=>?_) (λhc=>?_)⟩
  .refine q none .non H (.inl ⟨λz=>?_,rfl⟩) (Same.refl _) rfl;rw[Jam ∅] at hc;cases hc
  have el:es.length+1=S.length:=by
   have:decide ((xs.length:Int)=(S.length:Int)-1)=true:=by simpa using hc
   have:=Jaj this;omega
  refine hX _ _ _ ?_;refine Zdb λX hX=>?_;walk_at "wp";refine⟨_,rfl,b,rfl,⟨_,SqL.of hb⟩,λD hD=>Zo4 hb hp hD h9 λH1 s1 e1=>?_⟩;refine hX _ _ _ ?_;refine Zdb λX hX=>?_;walk_at "wp";refine⟨_,rfl,a,rfl,⟨_,SqL.of (s1 _ _ ha)⟩,λD2 hD2=>Zmg (λx=>decide (2<(Zay es).count x)) (s1 _ _ ha) hD2 ∅ (λx H' Q' hx s' q'=>?_) λH2 s2 e2=>?_⟩
  .have e:decide ((2:Int)<((Zay es).count x:Nat))=decide (2<(Zay es).count x):=by rw[Jen];omega
   have h1:=s' _ _ e1;exact⟨_,rfl,.inl ⟨rfl,_,SqL.of h1⟩,_,rfl,D,_,x,rfl,rfl,h1,_,_,rfl,rfl,_,rfl,e ▸ q'⟩
  have s12:=s1.trans s2;refine hX _ _ _ ?_;refine Zdb λX hX=>?_;walk_at "wp";cases ef:S.filter (λx=>decide (2<(Zay es).count x)) with
  | nil=>
   rw[ef] at e2;refine⟨false,.inl ⟨_,SqL.of e2,rfl⟩,iteP rfl ⟨⇑0,λt ht=>?_⟩⟩;exact q (some (Str.ofString "A",(S.length:Int))) _ _ (.inr ⟨el,.inl ⟨ef,rfl⟩⟩) (s12.trans (Same.new ht)) ⟨t,rfl,Zaa⟩
  | cons f0 rest=>
   rw[ef] at e2;refine⟨true,.inl ⟨_,SqL.of e2,rfl⟩,Zl5 ⇑0 ?_⟩;refine hX _ _ _ ?_;refine Zdb λX hX=>?_;walk_at "wp";have h1:=s2 _ _ e1;have no:(rest≠[]\/3<(Zay es).count f0)->Q .non H2:=λz=>q none .non H2 (.inr ⟨el,.inr ⟨f0,rest,ef,.inl ⟨z,rfl⟩⟩⟩) s12 rfl;refine⟨_,.inl (SqL.of e2),Zc8 (λhc=>no (.inl λz=>?_)) (λhc=>⟨.inl ⟨rfl,_,SqL.of h1⟩,_,SqL.of e2,V.int f0,Zbp ⇑0 (by simp),_,f0,rfl,h1,Zc8 (λh3=>no (.inr ?_)) (λh3=>?_)⟩)⟩
   .rw [z] at hc;simp at hc
   .have:=Jaj h3;omega
   have hr0:rest=[]:=by
    cases rest with
    | nil=>rfl
    | cons y ys=>exact absurd (Jam (by simp;omega)) hc
   have h3':¬ 3<(Zay es).count f0:=λz=>h3 (Jam ∅);refine hX _ _ _ ?_;walk_at "wp";refine⟨_,SqL.of e2,V.int f0,Zbp ⇑0 (by simp),a,b,S,xs,es,f0,rfl,s12 _ _ ha,s12 _ _ hb,nS,h8,h9,hp.same s12,hin,λl ns H3 s3 fl hl3 pm so=>?_⟩;have ln:ns.length<=900:=by
    rw[pm.length_eq];unfold Zk3 Zdw;rw[Jaa,Jaa];have l1:=Ja9 (λx=>decide (Za3 (esF es f0) x=x)) (L3.oth S f0);have l2:(L3.oth S f0).length<=S.length:=Ja9 _ _;omega
   exact Zcs _ l ns ⟨rfl,hl3,ln,λv H4 s4 kv=>q _ v H4 (.inr ⟨el,.inr ⟨f0,rest,ef,.inr ⟨hr0,h3',ns,pm,so,rfl⟩⟩⟩) ((s12.trans s3).trans s4) kv⟩
noncomputable def Zax (n:Nat):List Int:=(List.range n).map λj=>((j:Nat):Int)
theorem Zvb (n:Nat):(Zax n).map V.int=ptsV n:=by unfold Zax ptsV;rw[Jck];rfl
theorem Zcy (n:Nat):(Zax n).Nodup:=by
 unfold Zax;refine L3.Zbd Je8 λx _ y _ e=>∅
theorem Zal {n:Nat}{x:Int}:x∈Zax n ↔ 0<=x/\x<n:=by
 unfold Zax;rw[Jan];constructor
 .intro e91;refine Zae e91 λj hj e96=>?_;clear e91;obtain rfl:=e96;have:=Jb3.mp hj;omega
 .intro e92;obtain⟨h0,h1⟩:=e92;exact⟨x.toNat,Jb3.mpr (Zsy h0 h1),∅⟩
theorem Zbl (n:Nat)(f:Int->Int)(k:Int):Zoh (Zax n) f k=Zdl n f k:=by
 unfold Zoh Zax Zdl;rw[List.filter_map];rfl
theorem Zcb (n:Nat)(f:Int->Int):Zdw (Zax n) f=Zbg n f:=by
 unfold Zdw Zbg Zax;rw[List.filter_map,Jck];refine Jc9 λi _=>?_;exact Zbl n f _
theorem ok_pcs (F:Fun K "pieces" "Drawing.pieces" Zcg f fd)(T:Txt K mg C)(Yad:Cal P w K mg base "hanging" 1 spHg):FnOk P w K mg base CX0 2 f fd ["self"] (Ziy C):=by
 have nd:=Zdd.nd;refine F.ok Zdd (λvs H Q E h=>?_) (λcdv A outer s H vs Q E hr h=>?_)
 .refine Zdv h λx m ps e97 _=>?_;clear h;obtain rfl:=e97;rfl
 .refine Zck h λx m ps e98 e99 hin e910=>?_;clear h;obtain rfl:=e98;obtain⟨lp,xs,⟨dx,hx,hlp⟩,hl9,hps⟩:=e99;refine Zap e910 λm0 m8 q=>?_;clear e910;refine⟨_,(~~~(Yad<$>hr<$>((Zc5 (Zcq rfl) rfl T.n_list Jem ((Zc5 Zff rfl T.n_range Jhc ((Zlt (pvr 0) rfl)<&>Zab))<&>Zab))<&>((Zlt (pvr 0) rfl)<&>Zab)))),?_⟩;walk_at "wp";refine Zcs _ _ _ ⟨hx,T.cl_Drawing,T.nM,_,rfl,m,rfl,λp hp=>⟨_,_,Zaa,⟨∅,∅,∅,∅⟩,∅,λl hl=>?_⟩⟩;have s2:Same H (upd (upd H p (.rng 0 m)) l (.lst (Zk6 0 m))):=(Same.new hp).trans (Same.new hl);have em:((m.toNat:Nat):Int)=m:=Jcr ∅;have lp8:(Zax m.toNat).length=m.toNat:=by unfold Zax;simp
  refine Zcs _ _ _ ⟨s2 _ _ hx,T.cl_Drawing,T.nA,_,rfl,l,lp,Zax m.toNat,xs,ps,rfl,by rw[Zaa,Zjd,Zvb],s2 _ _ hlp,Zcy _,by rw[lp8];omega,hl9,hps.same s2,λq' hq'=>?_,λp qs H' s' fp hp' rr=>q p qs H' (s2.trans s') (s2.free fp) hp' (by rw[Zcb] at rr;exact rr.old s2)⟩;refine Zbq (hin q' hq') λa1 a2 a3 a4=>?_;exact⟨Zal.mpr ⟨a1,∅⟩,Zal.mpr ⟨a3,∅⟩⟩
noncomputable def Za0 (ps:List (Int×Int))(S:List Int):List (Int×Int):=ps.filter λq=>decide (q.1∈S)
def KdsF (H:Hp)(vs:List V)(L:List (List Int))(ps:List (Int×Int)):Prop:=vs.length=L.length/\∀ (i:Nat) v S,vs[i]?=some v->L[i]?=some S->∃ r,Zh2 S (Za0 ps S) r/\KdV H v r
theorem Zb0 {n:Nat}{f:Int->Int}{k x:Int}:x∈Zdl n f k ↔ (0<=x/\x<n)/\f x=k:=by
 rw[<- Zbl];unfold Zoh;rw[Jal,Zal,Jb0]
theorem Zd6 {n:Nat}{f:Int->Int}{S:List Int}(h:S∈Zbg n f):∃ k:Int,f k=k/\(0<=k/\k<n)/\S=Zdl n f k:=by
 rw[<- Zcb] at h;unfold Zdw at h;refine Zae (Jan.mp h) λk hk e=>?_;obtain⟨h1,h2⟩:=Jal.mp hk;exact⟨k,Jaj h2,Zal.mp h1,by rw[<- e,Zbl]⟩
theorem Zu6 {n:Nat}{f:Int->Int}{k:Int}:(Zdl n f k).Nodup:=by
 rw[<- Zbl];exact Jbj Jbg (Zcy n)
theorem Zvt {m:Int}{ps:List (Int×Int)}(hin:InP m ps)(m0:0<=m){S:List Int}(h:S∈Zbg m.toNat (Za3 ps)){q:Int×Int}(hq:q∈ps):q.1∈S ↔ q.2∈S:=by
 refine Zau (Zd6 h) λk _ _ e911=>?_;obtain rfl:=e911;have c:=(Zet hin).2 q hq;refine Zbq (hin q hq) λa1 a2 a3 a4=>?_;rw[Zb0,Zb0,c];constructor
 .rintro ⟨_,e⟩;exact⟨⟨a3,∅⟩,e⟩
 .rintro ⟨_,e⟩;exact⟨⟨a1,∅⟩,e⟩
theorem Zkl (S:List Int):(S.map V.int).all Zgo=true:=by
 rw[Jb1];intro v hv;refine Zae (Jan.mp hv) λx _ e912=>?_;obtain rfl:=e912;rfl
theorem Zry (x:Int)(S:List Int):inV (V.int x) (S.map V.int)=decide (x∈S):=by
 rw[Jcx,Jb0];unfold inV;rw[List.any_eq_true];constructor
 .intro e93;refine Zae e93 λv hv e=>?_;clear e93;refine Zae (Jan.mp hv) λy hy e913=>?_;obtain rfl:=e913;simp only[eqV,Jcj] at e;rw[<- e];exact hy
 .intro h;exact⟨V.int x,Jan.mpr ⟨x,h,rfl⟩,by simp[eqV]⟩
theorem KdsF.same {H H':Hp}{vs:List V}{L:List (List Int)}{ps:List (Int×Int)}(h:KdsF H vs L ps)(s:Same H H'):KdsF H' vs L ps:=⟨h.1,λi v S e1 e2=>let ⟨r,k1,k2⟩:=h.2 i v S e1 e2;⟨r,k1,k2.same s⟩⟩
theorem KdV.put {H:Hp}{D:Addr}{l:List V}{o:HO}{v:V}{k:Kd}(h:KdV H v k)(hD:H D=some (.lst l)):KdV (upd H D o) v k:=by
 cases k with
 | none=>exact h
 | some k=>
  refine Zae h λt e ht=>?_;clear h;exact⟨t,e,by rw[Zag (λz=>by rw[z,hD] at ht;cases ht)];exact ht⟩
theorem KdsF.add {H:Hp}{D:Addr}{l vs:List V}{o:HO}{L:List (List Int)}{ps:List (Int×Int)}{v:V}{S:List Int}{r:Kd}(h:KdsF H vs L ps)(hD:H D=some (.lst l))(k1:Zh2 S (Za0 ps S) r)(k2:KdV H v r):KdsF (upd H D o) (vs++[v]) (L++[S]) ps:=by
 refine⟨by rw[Jaq,Jaq,h.1];rfl,λi v' S' e1 e2=>?_⟩;have hl:=h.1;by_cases hi:i<vs.length
 .rw [Jba hi] at e1;rw[Jba (Zka hl hi)] at e2;refine Zae (h.2 i v' S' e1 e2) λr' a1 a2=>?_;exact⟨r',a1,a2.put hD⟩
 .rw [Jbc ∅] at e1;rw[Jbc ∅,<- hl] at e2;cases ei:i-vs.length with
  | zero=>
   rw[ei] at e1 e2;cases e1;cases e2;exact⟨r,k1,k2.put hD⟩
  | succ j=>
   rw[ei] at e1;cases e1
def Zli (C:Addr):Sp:=λvs H Q _=>∃ (x:Addr) (m:Int) (ps:List (Int×Int)),vs=[.ref x]/\Drw C H x m ps/\InP m ps/\1<=m/\m<=8 /\
 ∀ p us H',Same H H'->H p=none->H' p=some (.lst us)->KdsF H' us (Zbg m.toNat (Za3 ps)) ps->Q (.ref p) H'
theorem Ztx (F:Fun K "kinds" "Drawing.kinds" Zcw f fd)(T:Txt K mg C)(Yaq:CalM P w K mg base C "pieces" 2 (Ziy C))(Yao:Cal P w K mg base "kind_of" 3 spKo):FnOk P w K mg base CX0 4 f fd ["self"] (Zli C):=by
 have nd:=Zdu.nd;refine F.ok Zdu (λvs H Q E h=>?_) (λcdv A outer s H vs Q E hr h=>?_)
 .refine Zdv h λx m ps e914 _=>?_;clear h;obtain rfl:=e914;rfl
 .refine Zck h λx m ps e915 dw hin e916=>?_;clear h;obtain rfl:=e915;refine Zap e916 λm0 m8 q=>?_;clear e916;refine⟨_,(~~~(Za1 (own:=["piece"]) (fr:=[("self",0)]) rfl (Zbo (by kernel_rfl)) (Zav (Zqp T.cl_Drawing Yaq hr.m (pv 0))) (λ_ _ _ _=>⟨(@Zaf _ _ 0 _ (show (["piece","self"]:List Str).Nodup by decide +kernel) rfl (Or.inr rfl) (Or.inl rfl)),Za5,(Yao<$>hr<$>((pv 0)<&>((Za1 (own:=["arrow"]) (fr:=[("piece",0)]) rfl (Zbo (by kernel_rfl)) (Zm5 K rfl (Zqq K rfl (pv 1) rfl)) (λ_ _ _ _=>⟨(0<<<["arrow","piece"]),(Zcx (Za6 (Zig K rfl) ((Zrs K rfl)<|>(pv 0)<||>Zac) (pv 1) (by with_unfolding_all rfl))),(pv 0)⟩))<&>Zab)))⟩))),?_⟩;refine Zbf (id dw) λlp xs e917 hl9 hps=>?_;obtain⟨dx,hx,hlp⟩:=e917;walk_at "wp";refine⟨_,rfl,x,dx,_,rfl,hx,Zr6 m lp ⇑0 ⇑0,x,m,ps,rfl,dw,hin,m0,m8,λp qs H1 s1 fp hp1 rf=>?_⟩;have rl:=rf.1;have lr:(Zbg m.toNat (Za3 ps)).length<=8:=by
   rw[<- Zcb];unfold Zdw Zax;rw[Jaa];refine Ja8 (Ja9 _ _) ?_;simp;omega
  refine⟨p,rfl,⟨_,SqL.of hp1⟩,λD hD=>Zbm (xs:=qs) (λi vs H=>Same H1 H/\H D=some (.lst vs)/\KdsF H vs ((Zbg m.toNat (Za3 ps)).take i) ps) ⟨Same.new hD,Zaa,rfl,λi v S e1 _=>by simp at e1⟩ (λi vs H _ k=>SqL.of (k.1 _ _ hp1)) ?_ ?_⟩
  .intro i x' vs σ' H' hi hx' sh e94;refine Zap e94 λs' e' kf=>?_;clear e94;obtain⟨z,rfl⟩:=sh.one;have hi':i<(Zbg m.toNat (Za3 ps)).length:=by exact Zka rl hi
   have hr':=Jac hi';refine Zla (rf.2 i x' _ hx' hr') λt e918 _ _ ht=>?_;obtain rfl:=e918;have mS:=Jai hr';generalize (Zbg m.toNat (Za3 ps))[i]=S at *;simp only[Zcm,Za7,Zgi,List.set_cons_zero,Jdk];have sH:=s1.trans s';have hx1:=sH _ _ hx;have hl1:=sH _ _ hlp;have ht1:=s' _ _ ht;refine Zau (Zd6 mS) λk _ _ eS=>?_;have nS:S.Nodup:=by rw[eS];exact Zu6
   have lS:S.length<=8:=by
    rw[eS,<- Zbl];unfold Zoh Zax;refine Ja8 (Ja9 _ _) ?_;simp;omega
   refine⟨_,rfl,_,rfl,x,C,dx,_,_,rfl,hx1,T.cl_Drawing,T.nA,Zhy _ _,lp,rfl,⟨_,SqL.of hl1⟩,λD2 hD2=>Zmf (λq=>decide (q.1∈S)) hl1 (hps.same sH) hD2 ∅ (λt' q' H2 Q' hq ht' s2 k'=>?_) λys H2 s2 e2 pr2 ly=>?_⟩
   .exact ⟨_,rfl,t',_,0,V.int q'.1,rfl,rfl,SqT.of ht',Zbp ⇑0 (by simp),_,rfl,t,_,rfl,.inl (SqL.of (s2 _ _ ht1)),rfl,Zkl S,_,rfl,Zry q'.1 S ▸ k'⟩
   refine Zit t D2 S ys (Za0 ps S) ⟨rfl,s2 _ _ ht1,e2,nS,lS,∅,pr2,λq' hq'=>?_,λr v H3 kp s3 kv=>?_⟩
   .obtain ⟨m1,m2⟩:=Jal.mp hq';have m2:=Jaj m2;exact⟨m2,(Zvt hin ∅ mS m1).mp m2⟩
   have s23:=s2.trans s3;have kl:=kf.1;rw[Ja4] at kl;refine leaf (ws:=vs++[v]) hi Sh.mk1 (s23 _ _ e') (Zah ∅) ⟨(s'.trans s23).upd hD,Zaa,?_⟩;rw[Jbe,hr'];exact (kf.same s23).add (s23 _ _ e') kp kv
  .intro vs H4 e95;refine Zap e95 λs4 e4 kf=>?_;clear e95;rw[rl,Jbk] at kf;exact q D vs H4 (s1.trans s4) (s1.free hD) e4 kf
noncomputable def Zsw (k:Int)(q:Int×Int):List Int:=if q.1=k then [q.2] else if q.2=k then [q.1] else []
noncomputable def Zex (ps:List (Int×Int))(k:Int):List Int:=ps.flatMap (Zsw k)
theorem Zg1 (k:Int):∀ ps:List (Int×Int),(Zex ps k).length=L3.deg ps k
 | []=>rfl
 | q::ps=>by
  have ih:=Zg1 k ps;unfold Zex L3.deg at *;rw[Jhk,Jaq,ih,Jek];unfold Zsw;by_cases h1:q.1=k
  .rw [if_pos h1,if_pos (by simp[h1])];simp;omega
  .by_cases h2:q.2=k
   .rw [if_neg h1,if_pos h2,if_pos (by simp[h2])];simp;omega
   .rw [if_neg h1,if_neg h2,if_neg (by simp[h1,h2])];simp
theorem Zsv (k:Int)(ps:List (Int×Int)):(Zex ps k).length<=ps.length:=by
 rw[Zg1];exact List.countP_le_length
theorem Zt3 {ps:List (Int×Int)}{k x:Int}:x∈Zex ps k->∃ q∈ps,(q.1=k/\q.2=x)\/(q.2=k/\q.1=x):=by
 intro h;refine Zae (Jgf.mp h) λq hq hx=>?_;refine⟨q,hq,?_⟩;unfold Zsw at hx;by_cases h1:q.1=k
 .rw [if_pos h1] at hx;exact .inl ⟨h1,(Jas.mp hx).symm⟩
 .rw [if_neg h1] at hx;by_cases h2:q.2=k
  .rw [if_pos h2] at hx;exact .inr ⟨h2,(Jas.mp hx).symm⟩
  .rw [if_neg h2] at hx;cases hx
theorem Zn5 {ps:List (Int×Int)}{k x:Int}{q:Int×Int}(hq:q∈ps)(h:(q.1=k/\q.2=x)\/(q.2=k/\q.1=x)):x∈Zex ps k:=by
 refine Jgf.mpr ⟨q,hq,?_⟩;unfold Zsw;rcases h with ⟨h1,h2⟩|⟨h1,h2⟩
 .rw [if_pos h1];simp[h2]
 .by_cases h3:q.1=k
  .rw [if_pos h3];simp;omega
  .rw [if_neg h3,if_pos h1];simp[h2]
def Zpv:Sp:=λvs H Q _=>∃ (b:Addr) (xs:List V) (ps:List (Int×Int)) (k:Int),vs=[.ref b,.int k]/\H b=some (.lst xs)/\xs.length<=9/\Prs H xs ps /\
 ∀ p H',Same H H'->H p=none->H' p=some (.lst ((Zex ps k).map V.int))->Q (.ref p) H'
theorem ok_bes (F:Fun K "_law_beside" "_law_beside" Zd2 f fd)(T:Txt K mg C):FnOk P w K mg base CX0 1 f fd ["_law_arrows","_law_point"] Zpv:=by
 have nd:=Ze6.nd;refine F.ok Ze6 (λvs H Q E h=>?_) (λcdv A outer s H vs Q E hr h=>?_)
 .refine xE4_2 h λb xs ps k e93 _=>?_;clear h;obtain rfl:=e93;rfl
 .refine Zce h λb xs ps k e94 hb h9 e95=>?_;clear h;obtain rfl:=e94;obtain⟨hps,q⟩:=e95;refine⟨_,((2|||nd|||(@Zbs _ _ _ _ Zab))<*>((Zb5 Jbu rfl (Zav (pv 0)) (@Zgb _ _ _ _ _ 2 rfl ((3>>>nd)^^^((4>>>nd)^^^(@Zdo _))) ⇑1 ⇑1) (@Zan _ _ _ (@Zbb _ _ _ _ _ _ _ _ (Za6 Zcp (pv 3) (pv 1) (Zam _)) (@Zan _ _ _ (Zb7 (Zfa Jbh Jb6 Jb7 Zbj (pv 2) ((pv 4)<&>Zab)))) (@Zan _ _ _ (@Zbb _ _ _ _ _ _ _ _ (Za6 Zcp (pv 4) (pv 1) (Zam _)) (@Zan _ _ _ (Zb7 (Zfa Jbh Jb6 Jb7 Zbj (pv 2) ((pv 3)<&>Zab)))) Zao)))))<*>(~~~(pv 2)))),?_⟩;have hlen:=hps.1;walk_at "wp";refine⟨Jbp _,λp hp=>⟨_,rfl,b,rfl,⟨_,SqL.of (Same.new hp _ _ hb)⟩,Zca (xs:=xs) (λi σ Hi=>∃ v3 v4:Option V,σ=[some (.ref b),some (.int k),some (.ref p),v3,v4]/\Same H Hi/\Hi p=some (.lst ((Zex (ps.take i) k).map V.int)))
   ⟨none,none,rfl,Same.new hp,Zaa⟩ (λi σ Hi _ ⟨_,_,_,si,_⟩=>SqL.of (si _ _ hb)) ?_ ?_⟩⟩
  .intro i x σ Hi hxi e91;refine Zbf e91 λv3 v4 e96 si hli=>?_;clear e91;obtain rfl:=e96;have hi:i<ps.length:=by have:=(Jak.mp hxi).1;exact Zka hlen this
   have hq:ps[i]?=some ps[i]:=Jac hi;refine Zae (hps.2 i x _ hxi hq) λt e97 ht=>?_;obtain rfl:=e97;have ef:Zex (ps.take (i+1)) k=Zex (ps.take i) k++Zsw k ps[i]:=by unfold Zex;rw[Jbe,hq,List.flatMap_append];simp
   have ll:(Zex (ps.take i) k).length<=9:=by
    have:=Zsv k (ps.take i);rw[Ja4] at this;omega
   generalize ps[i]=qq at *;walk_at "wp";have sm:((Zex (ps.take i) k).map V.int).length<sizeLine:=Zah (by rw[Jaa];omega);rw[ef];refine⟨_,SqT.of (si _ _ ht),rfl,_,_,rfl,_,_,rfl,rfl,rfl,Zc8 (λhc=>?_) (λhc=>⟨rfl,Zc8 (λhd=>?_) (λhd=>?_)⟩)⟩
   .have hc:qq.1=k:=V.int.inj (Jaj hc);refine⟨.inl ⟨rfl,_,SqL.of hli⟩,_,hli,sm,_,_,⟨rfl,rfl⟩,si.upd hp,?_⟩;rw[Zaa,Zsw,if_pos hc];simp
   .have hc:¬ qq.1=k:=λz=>hc (Jam (Jdr V.int z));have hd:qq.2=k:=V.int.inj (Jaj hd);refine⟨.inl ⟨rfl,_,SqL.of hli⟩,_,hli,sm,_,_,⟨rfl,rfl⟩,si.upd hp,?_⟩;rw[Zaa,Zsw,if_neg hc,if_pos hd];simp
   .have hc:¬ qq.1=k:=λz=>hc (Jam (Jdr V.int z));have hd:¬ qq.2=k:=λz=>hd (Jam (Jdr V.int z));refine Za2 _ _ ⟨⟨rfl,rfl⟩,si,?_⟩;rw[hli,Zsw,if_neg hc,if_neg hd,Jcy]
  .intro σ Hi e92;refine Zbf e92 λv3 v4 e98 si hli=>?_;clear e92;obtain rfl:=e98;rw[hlen,Jbk] at hli;exact⟨_,rfl,q p Hi si hp hli⟩
structure Far (ps:List (Int×Int))(S:List Int)(f:Int)(R:List Int)(d:Int->Nat)(kvs:List (Key×V)):Prop where
 nd:R.Nodup
 fR:f∈R
 sub:∀ x∈R,x∈S
 d0:d f=0
 vals:∀ x:Int,Zey kvs (.inl x)=if x∈R then some (.int ((d x:Nat):Int)) else none
 par:∀ x∈R,x≠f->∃ q∈ps,(q.1=x/\q.2∈R/\d q.2+1=d x)\/(q.2=x/\q.1∈R/\d q.1+1=d x)
 len:kvs.length=R.length
theorem Far.start (ps:List (Int×Int)){S:List Int}{f:Int}(h:f∈S):Far ps S f [f] (λ_=>0) [(.inl f,.int 0)] where
 nd:=by simp
 fR:=by simp
 sub:=λx hx=>by rw[Jas.mp hx];exact h
 d0:=rfl
 vals:=λx=>by
  have:=Ze0 ([]:List (Key×V)) (.inl f) (.inl x) (.int 0);rw[Zjb (.int 0) rfl,List.nil_append] at this;rw[this];by_cases e:x=f
  .subst e;simp
  .rw [if_neg (λz=>e (Jhl z)),if_neg (by simp[e])];rfl
 par:=λx hx hf=>absurd (Jas.mp hx) hf
 len:=rfl
theorem Far.add {ps:List (Int×Int)}{S:List Int}{f:Int}{R:List Int}{d:Int->Nat}{kvs:List (Key×V)}(F:Far ps S f R d kvs)(cl:∀ q∈ps,q.1∈S ↔ q.2∈S){x y:Int}(hx:x∈R)(hy:y∉R)(hb:y∈Zex ps x):
  Far ps S f (R++[y]) (λz=>if z=y then d x+1 else d z) (Zez kvs (.inl y) (.int ((d x:Nat)+1))):=by
 have hv:Zey kvs (.inl y)=none:=by rw[F.vals,if_neg hy]
 have ny:∀ z∈R,z≠y:=λz hz e=>hy (e ▸ hz);refine Zae (Zt3 hb) λq hq hh=>?_;refine⟨?_,by simp[F.fR],λz hz=>?_,?_,λz=>?_,λz hz zf=>?_,?_⟩
 .rw [Jhj];refine⟨F.nd,by simp,λa ha b hb'=>?_⟩;rw[Jas.mp hb'];exact ny a ha
 .rcases Jbf.mp hz with hz|hz
  .exact F.sub z hz
  .rw [Jas.mp hz];rcases hh with ⟨e1,e2⟩|⟨e1,e2⟩
   .rw [<- e2];exact (cl q hq).mp (e1 ▸ F.sub x hx)
   .rw [<- e2];exact (cl q hq).mpr (e1 ▸ F.sub x hx)
 .show (if f=y then d x+1 else d f)=0;rw[if_neg (ny f F.fR),F.d0]
 .rw [Ze0];by_cases e:z=y
  .subst e;rw[if_pos rfl,if_pos (by simp),if_pos rfl];rfl
  .rw [if_neg (λu=>e (Jhl u)),F.vals,if_neg e];by_cases hz:z∈R
   .rw [if_pos hz,if_pos (by simp[hz])]
   .rw [if_neg hz,if_neg (by simp[hz,e])]
 .by_cases e:z=y
  .subst e;refine⟨q,hq,?_⟩;rcases hh with ⟨e1,e2⟩|⟨e1,e2⟩
   .exact .inr ⟨e2,by rw[e1];simp[hx],by simp only[e1,if_neg (ny x hx),Jdk]⟩
   .exact .inl ⟨e2,by rw[e1];simp[hx],by simp only[e1,if_neg (ny x hx),Jdk]⟩
  .have hz:z∈R:=by simpa [e] using hz
   refine Zae (F.par z hz zf) λq' hq' hh'=>?_;refine⟨q',hq',?_⟩;rcases hh' with ⟨e1,e2,e3⟩|⟨e1,e2,e3⟩
   .exact .inl ⟨e1,by simp[e2],by simp only[if_neg e,if_neg (ny _ e2),e3]⟩
   .exact .inr ⟨e1,by simp[e2],by simp only[if_neg e,if_neg (ny _ e2),e3]⟩
 .rw [Zjb _ hv,Jaq,F.len,Jaq];rfl
def FarP (ps:List (Int×Int))(S:List Int)(f:Int)(R:List Int)(d:Int->Nat)(kvs:List (Key×V)):Prop:=Far ps S f R d kvs/\∀ q∈ps,q.1∈R ↔ q.2∈R
def spFar:Sp:=λvs H Q _=>∃ (b:Addr) (xs:List V) (ps:List (Int×Int)) (S:List Int) (f:Int),vs=[.ref b,.int f]/\H b=some (.lst xs)/\xs.length<=9/\Prs H xs ps/\S.length<=8/\f∈S/\(∀ q∈ps,q.1∈S ↔ q.2∈S) /\
 ∀ p R d kvs H',Same H H'->H p=none->H' p=some (.dK kvs)->FarP ps S f R d kvs->Q (.ref p) H'
theorem ok_far (F:Fun K "_law_far" "_law_far" Zhe f fd)(T:Txt K mg C)(Yab:Cal P w K mg base "_law_beside" 1 Zpv):FnOk P w K mg base CX0 2 f fd ["_law_arrows","_law_first"] spFar:=by
 have nd:=Zh9.nd;refine F.ok Zh9 (λvs H Q E h=>?_) (λcdv A outer s H vs Q E hr h=>?_)
 .refine Zo9 h λb xs ps S f e94 _=>?_;clear h;obtain rfl:=e94;rfl
 .refine Zel h λb xs ps S f e95 hb h9 e96=>?_;clear h;obtain rfl:=e95;refine Ziu e96 λhps hS hf cl q=>?_;clear e96;have hu1:=Zoi hr;refine⟨_,((2|||nd|||(pe_disp (Ztl (pv 1) Zac pps_nil) rfl rfl (by simp) ⇑0))<*>((3|||nd|||(@Zbs _ _ _ _ ((pv 1)<&>Zab)))<*>((4|||nd|||Zac)<*>((Zgt Jbu (Za6 Zom (pv 4) (Za4 Zaj rfl T.n_len Jbo ((pv 3)<&>Zab)) (Zam _)) ((Zb5 Jbu rfl (Zav (Yab<$>hr<$>((pv 0)<&>((Zaw<|>(pv 3)<||>(pv 4))<&>Zab)))) (5>>>nd) (@Zan _ _ _ (@Zbb _ _ _ _ _ _ _ _ (Za6 (Zkd hu1) (pv 5) (pv 2) (by with_unfolding_all rfl)) ((Zlr hu1 (pv 2) (pv 5) (Zbc<|>(Zer hu1 (pv 2) (Zaw<|>(pv 3)<||>(pv 4)) (λ_ _=>rfl))<&&>Zac) rfl)<*>(@Zan _ _ _ (Zb7 (Zfa Jbh Jb6 Jb7 Zbj (pv 3) ((pv 5)<&>Zab))))) Zao)))<*>(@Zan _ _ _ (4|||nd|||(Zbc<|>(pv 4)<&&>Zac)))))<*>(~~~(pv 2)))))),?_⟩;walk_at "wp";intro p hp;refine⟨_,rfl,Zaa,[(.inl f,.int 0)],rfl,by simp,⇑0,λr hr0=>?_⟩;have s0:Same H (upd (upd H p (.dK [])) p (.dK (Zij [] [(.inl f,.int 0)]))):=(Same.new hp).upd hp;have hr1:H r=none:=s0.free hr0;have npr:p≠r:=λz=>by rw[<- z,Zaa] at hr0;cases hr0
  refine⟨λm σ Hk=>∃ (j:Nat) (R:List Int) (d:Int->Nat) (kvs:List (Key×V)) (v5:Option V),m+j=8/\σ=[some (.ref b),some (.int f),some (.ref p),some (.ref r),some (.int (j:Nat)),v5]/\Same H Hk/\Hk p=some (.dK kvs)/\Hk r=some (.lst (R.map V.int))/\Far ps S f R d kvs/\j<=R.length/\∀ (k:Nat),k<j->∀ x,R[k]?=some x->∀ y∈Zex ps x,y∈R,
   ⟨8,0,[f],_,_,none,rfl,rfl,(s0.upd hr1),by rw[Zag npr,Zaa];rfl,Zaa,Far.start ps hf,Jbp _,λk hk=>absurd hk (Jez _)⟩,?_⟩
  intro m σ Hk e91;refine Zel e91 λj R d kvs v5 hm e97 sk e98=>?_;clear e91;obtain rfl:=e97;refine Ziu e98 λhkp hkr fr hj cls=>?_;clear e98;have lR:R.length<=8:=Ja8 (L3.Zaz fr.nd fr.sub) hS;walk_at "wp";refine⟨_,.inl (SqL.of hkr),Zc8 (λhc=>?_) (λhc=>?_)⟩
  .have hc:=Jaj hc;rw[Jaa] at hc;have hjl:j<R.length:=∅
   refine⟨_,λσ' H' h=>⟨m-1,∅,j+1,h⟩,?_⟩;obtain⟨x0,hx0⟩:∃ x0,R[j]?=some x0:=⟨_,Jac hjl⟩
   have at0:∀ {R':List Int},R'[j]?=some x0->atI (R'.map V.int) (j:Nat)=some (V.int x0):=λ{R'} e=>Zbp ∅ (by rw[Jaz,Jay,e];rfl);refine⟨_,rfl,_,rfl,_,rfl,r,_,(j:Nat),V.int x0,rfl,rfl,SqL.of hkr,at0 hx0,b,xs,ps,x0,rfl,sk _ _ hb,h9,hps.same sk,λbl H2 s2 fb hbl=>⟨bl,rfl,⟨_,SqL.of hbl⟩,Zca (xs:=(Zex ps x0).map V.int) (λi σ Hi=>∃ (R':List Int) (d':Int->Nat) (kvs':List (Key×V)) (v5:Option V),σ=[some (.ref b),some (.int f),some (.ref p),some (.ref r),some (.int (j:Nat)),v5]/\Same H Hi/\Hi p=some (.dK kvs')/\Hi r=some (.lst (R'.map V.int))/\Far ps S f R' d' kvs'/\R'[j]?=some x0/\Hi bl=some (.lst ((Zex ps x0).map V.int))/\(∀ (k:Nat),k<j->∀ x,R'[k]?=some x->∀ y∈Zex ps x,y∈R')/\∀ y∈(Zex ps x0).take i,y∈R')
    ⟨R,d,kvs,v5,rfl,sk.trans s2,s2 _ _ hkp,s2 _ _ hkr,fr,hx0,hbl,cls,λy hy=>by simp at hy⟩ (λi σ Hi _ ⟨_,_,_,_,_,_,_,_,_,_,h,_⟩=>SqL.of h) ?_ ?_⟩⟩
   .intro i z σ Hi hzi e92;refine Zce e92 λR' d' kvs' v5' e99 si hip e910=>?_;clear e92;obtain rfl:=e99;refine Zfi e910 λhir fr' hx' hib cl' dn=>?_;clear e910;refine Zae (Zeb hzi) λy ey e911=>?_;obtain rfl:=e911;have et:(Zex ps x0).take (i+1)=(Zex ps x0).take i++[y]:=by rw[Jbe,ey];rfl
    have lR':R'.length<=8:=Ja8 (L3.Zaz fr'.nd fr'.sub) hS;have yb:y∈Zex ps x0:=Jai ey;have xR:x0∈R':=Jai hx';have v1:=fr'.vals y;simp only[Zu1,Zpj,tOp,Zgq,Za7,List.set_cons_succ,List.set_cons_zero];refine⟨_,rfl,_,rfl,p,Zey kvs' (.inl y),rfl,.inl ⟨_,.inl y,.inl hip,rfl,rfl⟩,_,rfl,Zc8 (λhc=>?_) (λhc=>?_)⟩
    .have ny:y∉R':=λz=>by rw[v1,if_pos z] at hc;cases hc
     refine⟨_,rfl,_,rfl,_,rfl,r,_,_,V.int x0,rfl,rfl,SqL.of hir,at0 hx',p,V.int ((d' x0:Nat):Int),rfl,.inl ⟨kvs',.inl x0,.inl hip,rfl,by rw[fr'.vals,if_pos xR]⟩,_,_,rfl,rfl,_,rfl,_,rfl,p,_,rfl,.inl ⟨kvs',.inl y,hip,rfl,Zah (by rw[fr'.len];omega),rfl⟩,?_⟩;have nbp:bl≠p:=λz=>by rw[z,hip] at hib;cases hib
     have nbr:bl≠r:=λz=>by rw[z,hkr] at fb;cases fb
     have hir2:upd Hi p (.dK (Zez kvs' (.inl y) (.int ((d' x0:Nat)+1)))) r=some (.lst (R'.map V.int)):=by rw[Zag npr.symm];exact hir
     walk_at "wp";refine⟨.inl ⟨rfl,_,SqL.of hir2⟩,_,hir2,Zah (by rw[Jaa];omega),(si.upd hp).upd hr1,?_⟩;have jl':j<R'.length:=(Jak.mp hx').1;refine Zcs (R'++[y]) _ _ ⟨by rw[Zag npr,Zaa],by rw[Zaa,Ja3];rfl,fr'.add cl xR ny yb,by rw[Jba jl',hx'],by rw[Zag nbr,Zag nbp];exact hib,λk hk x hx y' hy'=>?_,λy' hy'=>?_⟩
     .rw [Jba ∅] at hx;exact Jb9 _ (cl' k hk x hx y' hy')
     .rw [et] at hy';rcases Jbf.mp hy' with h|h
      .exact Jb9 _ (dn y' h)
      .exact Jap _ h
    .have hy:y∈R':=Jah λz=>by rw[v1,if_neg z] at hc;exact hc rfl
     refine Zjx R' d' kvs' _ ⟨rfl,si,hip,hir,fr',hx',hib,cl',λy' hy'=>?_⟩;rw[et] at hy';rcases Jbf.mp hy' with h|h
     .exact dn y' h
     .rw [Jas.mp h];exact hy
   .intro σ Hi e93;refine Zce e93 λR' d' kvs' v5' e912 si hip e913=>?_;clear e93;obtain rfl:=e912;refine Zfi e913 λhir fr' hx' hib cl' dn=>?_;clear e913;rw[Jaa,Jbk] at dn;have hjl':j<R'.length:=(Jak.mp hx').1;refine⟨_,rfl,_,_,rfl,rfl,∅,R',d',kvs',_,rfl,si,hip,hir,fr',hjl',λk hk x hx y hy=>?_⟩;by_cases e:k=j
    .subst e;rw[hx'] at hx;cases hx;exact dn y hy
    .exact cl' k (oz64 hk e) x hx y hy
  .rw [Jaa] at hc;have hc:¬ (j:Int)<R.length:=λz=>hc (Jam z);refine q p R d kvs Hk sk hp hkp ⟨fr,λq' hq'=>?_⟩;have all:∀ x∈R,∀ y∈Zex ps x,y∈R:=λx hx=>by
    obtain⟨k,hk,e⟩:=Jbl hx;exact cls k ∅ x (by rw[Jac hk,e])
   exact⟨λh=>all _ h _ (Zn5 hq' (.inl ⟨rfl,rfl⟩)),λh=>all _ h _ (Zn5 hq' (.inr ⟨rfl,rfl⟩))⟩
theorem Zme {a D:Addr}{L:List Int}{fr:List (Str×Nat)}{σ:L2.St}{tt:TT}{te:TE}{H1:Hp}{Q:VK}(g:Int->Bool)(h:Int->Int)(ha:H1 a=some (.lst (L.map V.int)))(hD:H1 D=none)(hn:L.length<=900)(ht:∀ x H (Q:Bool->Hp->Prop),x∈L->Same H1 H->(∀ H',Same H H'->Q (g x) H')->tt (some (.int x)::Zb3 fr σ) H Q)(he:∀ x H (Q:VK),x∈L->g x=true->Same H1 H->(∀ H',Same H H'->Q (.int (h x)) H')->te (some (.int x)::Zb3 fr σ) H Q)(hQ:∀ H',Same H1 H'->H' D=some (.lst (((L.filter g).map h).map V.int))->Q (.ref D) H'):Zb4 (Za7 0) tt te (Itl K a) D (Zfe 1 fr σ) H1 Q:=by
 refine Zbm (xs:=L.map V.int) (λi vs H=>Same H1 H/\H D=some (.lst vs)/\vs=(((L.take i).filter g).map h).map V.int) ⟨Same.new hD,Zaa,rfl⟩ (λi vs H _ p=>SqL.of (p.1 _ _ ha)) ?_ (λvs H ⟨s,e,hv⟩=>hQ H s (by rw[e,hv,Jaa,Jbk]));intro i x vs σ' H hi hx sh e91;refine Zap e91 λs e hv=>?_;clear e91;obtain⟨z,rfl⟩:=sh.one;refine Zae (Zeb hx) λy ey e92=>?_;obtain rfl:=e92;have et:L.take (i+1)=L.take i++[y]:=by rw[Jbe,ey];rfl
 have hl:=Ja9 g (L.take i);rw[Ja4] at hl;have my:=Jai ey;simp only[Zcm,Za7,List.set_cons_zero];refine ht y H _ my s λH2 s2=>Zc8 (λhg=>?_) (λhg=>?_)
 .refine he y H2 _ my hg (s.trans s2) λH3 s3=>?_;have s23:=s2.trans s3;refine leaf (ws:=vs++[.int (h y)]) hi Sh.mk1 (s23 _ _ e) (Zah (by rw[hv,Jaa,Jaa];omega)) ⟨(s.trans s23).upd hD,Zaa,?_⟩;rw[et,Jb5,hv];simp[hg]
 .refine Zow (ws:=vs) hi Sh.mk1 ⟨s.trans s2,s2 _ _ e,?_⟩;rw[et,Jb5,hv];simp[hg]
def LkP (ps:List (Int×Int))(S:List Int)(r:Kd):Prop:=
 ((Za0 ps S).length+1≠S.length/\r=none)\/((Za0 ps S).length+1=S.length/\(((∀ x∈S,L3.deg ps x<3)/\r=(some (Str.ofString "A",(S.length:Int)):Kd)) \/
  (((∃ x∈S,3<L3.deg ps x)\/1<(S.filter λx=>decide (L3.deg ps x=3)).length)/\r=none) \/
  ∃ f,(S.filter λx=>decide (L3.deg ps x=3))=[f]/\(∀ x∈S,L3.deg ps x<=3)/\∃ (R:List Int) (d:Int->Nat) (kvs:List (Key×V)) (ns:List Int),FarP ps S f R d kvs/\ns.Perm ((S.filter λx=>decide (L3.deg ps x=1)).map λx=>((d x:Nat):Int))/\ns.Pairwise (·<=·) /\
   r=if ns.take 2=[1,1] then (some (Str.ofString "D",(S.length:Int)):Kd) else if ns.take 2=[1,2] then (some (Str.ofString "E",(S.length:Int)):Kd) else none))
def spLk:Sp:=λvs H Q _=>∃ (a b:Addr) (S:List Int) (xs:List V) (ps:List (Int×Int)),vs=[.ref b,.ref a]/\H a=some (.lst (S.map V.int))/\H b=some (.lst xs)/\S.Nodup/\S.length<=8/\S≠[]/\xs.length<=9/\Prs H xs ps/\(∀ q∈ps,q.1∈S ↔ q.2∈S)/\L3.Conn S (Za0 ps S) /\
 ∀ r v H',LkP ps S r->Same H H'->KdV H' v r->Q v H'
theorem top_at {ns:List Int}(h0:ns≠[])(so:ns.Pairwise (·<=·)):∃ m∈ns,(∀ x∈ns,x<=m)/\atI (ns.map V.int) (-1)=some (V.int m):=by
 have e:=List.dropLast_concat_getLast h0;refine⟨ns.getLast h0,List.getLast_mem h0,λx hx=>?_,?_⟩
 .rw [<- e] at so hx;rcases Jbf.mp hx with h|h
  .exact (Jb2.mp so).2.2 x h _ (by simp)
  .rw [Jas.mp h];exact Jfd _
 .conv=>lhs;rw[<- e,Ja3]
  exact L2.Zuv _ _
theorem Zsb {ps:List (Int×Int)}(x:Int)(n:Nat):decide (V.int (((Zex ps x).map V.int).length:Nat)=V.int (n:Nat))=decide (L3.deg ps x=n):=by
 rw[Jaa,Zg1,Jen];constructor
 .intro h;have:=V.int.inj h;omega
 .intro h;rw[h]
theorem ok_lk (F:Fun K "_law_kind" "_law_kind" Zfm f fd)(T:Txt K mg C)(Yab:Cal P w K mg base "_law_beside" 1 Zpv)(Yaw:Cal P w K mg base "_law_far" 2 spFar):FnOk P w K mg base CX0 3 f fd ["_law_arrows","_law_piece"] spLk:=by
 have nd:=Zg8.nd;refine F.ok Zg8 (λvs H Q E h=>?_) (λcdv A outer s H vs Q E hr h=>?_)
 .refine Zo9 h λa b S xs ps e93 _=>?_;clear h;obtain rfl:=e93;rfl
 .refine Zel h λa b S xs ps e94 ha hb e95=>?_;clear h;obtain rfl:=e94;refine xE0_8 e95 λnS h8 h0 h9 hp cl cn q=>?_;clear e95;have hu1:=Zoi hr;refine⟨_,((@Zbb _ _ _ _ _ _ _ _ (Zaq Zke (Za4 Zaj rfl T.n_len Jbo ((Za1 (own:=["_law_arrow"]) (fr:=[("_law_piece",1)]) rfl (Zbo (by kernel_rfl)) (Zav (pv 0)) (λ_ _ _ _=>⟨(0<<<["_law_arrow","_law_piece"]),(Zcx (Za6 (Zig K rfl) ((Zrs K rfl)<|>(pv 0)<||>Zac) (pv 1) (by with_unfolding_all rfl))),(pv 0)⟩))<&>Zab)) (Zc7<|>(Za4 Zaj rfl T.n_len Jbo ((pvr 1)<&>Zab))<&&>Zac) (Zam _)) (~~~Zhn) Zao)<*>((2|||nd|||(Za4 Zdr rfl T.n_sorted Jgz ((Za1 (own:=["_law_point"]) (fr:=[("_law_arrows",0)]) rfl (Zbo (by kernel_rfl)) (Zav (pv 1)) (λ_ _ _ _=>⟨(0<<<["_law_point","_law_arrows"]),Za5,(Za4 (Zcr K rfl) rfl T.n_len Jbo ((Yab<$>hr<$>((pv 1)<&>((pv 0)<&>Zab)))<&>Zab))⟩))<&>Zab)))<*>((@Zbb _ _ _ _ _ _ _ _ (Zaq Zom (Zaw<|>(pvr 2)<||>(pe_un Zpd Zac)) Zac (Zam _)) (~~~(@Zar _ _ _ _ _ (Ze9<&>((Za4 Zaj rfl T.n_len Jbo ((pvr 1)<&>Zab))<&>Zab)))) Zao)<*>((@Zbb _ _ _ _ _ _ _ _ (PW.pt (Zhj (Zaq Zh7 (Zaw<|>(pvr 2)<||>(pe_un Zpd Zac)) Zac (Zam _)) (Zf9 (Zaq Zh7 (Zfa Jbh Jft Jfu Zhr (pvr 2) (Zac<&>Zab)) Zac (Zam _))))) (~~~Zhn) Zao)<*>((3|||nd|||(Zaw<|>(Za1 (own:=["_law_point"]) (fr:=[("_law_arrows",0)]) rfl (Zbo (by kernel_rfl)) (Zav (pv 1)) (λ_ _ _ _=>⟨(0<<<["_law_point","_law_arrows"]),(Zcx (Za6 Zcp (Za4 (Zcr K rfl) rfl T.n_len Jbo ((Yab<$>hr<$>((pv 1)<&>((pv 0)<&>Zab)))<&>Zab)) Zac (Zam _))),(pv 0)⟩))<||>Zac))<*>((Zat (i:=4) nd rfl (Or.inr rfl) (Yaw<$>hr<$>((pvr 0)<&>((pvr 3)<&>Zab))))<*>((5|||nd|||(Za4 Zdr rfl T.n_sorted Jgz ((Za1 (own:=["_law_point"]) (fr:=[("_law_steps",4),("_law_arrows",0)]) rfl (Zbo (by kernel_rfl)) (Zav (pv 1)) (λ_ _ _ _=>⟨(0<<<["_law_point","_law_steps","_law_arrows"]),(Zcx (Za6 Zcp (Za4 (Zcr K rfl) rfl T.n_len Jbo ((Yab<$>hr<$>((pv 2)<&>((pv 0)<&>Zab)))<&>Zab)) Zac (Zam _))),(Zer hu1 (pv 1) (pv 0) (λ_ _=>rfl))⟩))<&>Zab)))<*>((@Zbb _ _ _ _ _ _ _ _ (Zaq (Znb (Zj8 hr)) (@Zbz _ _ _ _ _ _ _ _ _ _ Zct (pvr 5) Zc0 (@Zcz _ _ _ Zac)) (@Zbs _ _ _ _ (Zac<&>(Zac<&>Zab))) (Zam _)) (~~~(@Zar _ _ _ _ _ (Ze9<&>((Za4 Zaj rfl T.n_len Jbo ((pvr 1)<&>Zab))<&>Zab)))) Zao)<*>((@Zbb _ _ _ _ _ _ _ _ (Zaq (Znb (Zj8 hr)) (@Zbz _ _ _ _ _ _ _ _ _ _ Zct (pvr 5) Zc0 (@Zcz _ _ _ Zac)) (@Zbs _ _ _ _ (Zac<&>(Zac<&>Zab))) (Zam _)) (~~~(@Zar _ _ _ _ _ (Ze9<&>((Za4 Zaj rfl T.n_len Jbo ((pvr 1)<&>Zab))<&>Zab)))) Zao)<*>(~~~Zhn)))))))))),?_⟩;have hl:=hp.1;refine Zdb λX hX=>?_;walk_at "wp";refine⟨_,rfl,b,rfl,⟨_,SqL.of hb⟩,λD hD=>Zmf (λq=>decide (q.1∈S)) hb hp hD ∅ (λt' q' H2 Q' hq ht' s2 k'=>?_) λys H1 s1 e1 pr1 ly=>?_⟩
  .exact ⟨_,rfl,t',_,0,V.int q'.1,rfl,rfl,SqT.of ht',Zbp ⇑0 (by simp),_,rfl,a,_,rfl,.inl (SqL.of (s2 _ _ ha)),rfl,Zkl S,_,rfl,Zry q'.1 S ▸ k'⟩
  have ly1:ys.length=(Za0 ps S).length:=pr1.1;have lS:0<S.length:=List.length_pos_iff.mpr h0;refine⟨D,rfl,_,.inl (SqL.of e1),_,.inl (SqL.of (s1 _ _ ha)),Zc8 (λhc=>?_) (λhc=>?_)⟩
  .refine q none .non H1 (.inl ⟨λz=>?_,rfl⟩) s1 rfl;rw[Jaa,Jam ∅] at hc;cases hc
  have el:(Za0 ps S).length+1=S.length:=by
   rw[Jaa] at hc;have:decide ((ys.length:Int)=(S.length:Int)-1)=true:=by simpa using hc
   have:=Jaj this;omega
  have ha1:=s1 _ _ ha;have hb1:=s1 _ _ hb;have hp1:=hp.same s1;refine hX _ _ _ ?_;refine Zdb λX hX=>?_;walk_at "wp";refine⟨_,rfl,a,rfl,⟨_,SqL.of ha1⟩,λD2 hD2=>Zme (λ_=>true) (λx=>((L3.deg ps x:Nat):Int)) ha1 hD2 ∅ (λx H' Q' _ _ k=>k H' (Same.refl _)) (λx H' Q' hx _ s' k=>?_) λH2 s2 e2=>?_⟩
  .refine ⟨_,rfl,_,rfl,b,xs,ps,x,rfl,s' _ _ hb1,h9,hp1.same s',λp H3 s3 fp hp3=>⟨p,rfl,_,.inl (SqL.of hp3),?_⟩⟩;rw[Jaa,Zg1];exact k H3 s3
  rw[Jg0.mpr (λ_ _=>rfl)] at e2;refine⟨D2,rfl,_,SqL.of e2,by rw[Jaa];omega,λl ms fl pm so=>?_⟩;have sA:Same H (upd H2 l (.lst (ms.map V.int))):=(s1.trans s2).trans (Same.new fl);have hlA:upd H2 l (.lst (ms.map V.int)) l=some (.lst (ms.map V.int)):=Zaa;generalize upd H2 l (.lst (ms.map V.int))=H3 at *;have m0:ms≠[]:=λz=>by rw[z] at pm;exact h0 (List.map_eq_nil_iff.mp pm.symm.eq_nil)
  refine Zau (top_at m0 so) λm mm mx mat=>?_;refine Zae (Jan.mp (pm.mem_iff.mp mm)) λy hy ym=>?_;have mx':∀ x∈S,L3.deg ps x<=L3.deg ps y:=λx hx=>by
   have:=mx _ (pm.mem_iff.mpr (Jan.mpr ⟨x,hx,rfl⟩));omega
  have c3:ms.count 3=(S.filter λx=>decide (L3.deg ps x=3)).length:=by
   rw[pm.count_eq,List.count,List.countP_map,Jer];congr 1;refine Jcu λx _=>?_;rw[Jcx];simp;omega
  have haA:=sA _ _ ha;have hbA:=sA _ _ hb;have hpA:=hp.same sA;refine hX _ _ _ ?_;refine Zdb λX hX=>?_;walk_at "wp";refine⟨_,SqL.of hlA,V.int m,mat,m,rfl,Zc8 (λhc=>?_) (λhc=>?_)⟩
  .have hc:=Jaj hc;exact⟨_,.inl (SqL.of haA),⇑0,λt ht=>q (some (Str.ofString "A",(S.length:Int))) _ _ (.inr ⟨el,.inl ⟨λx hx=>by have:=mx' x hx;omega,rfl⟩⟩) (sA.trans (Same.new ht)) ⟨t,rfl,by rw[Zaa,Jaa]⟩⟩
  have hc:¬ m<3:=λz=>hc (Jam z);refine hX _ _ _ ?_;refine Zdb λX hX=>?_;walk_at "wp";refine⟨_,SqL.of hlA,V.int m,mat,m,rfl,Zc8 (λh3=>q none .non H3 (.inr ⟨el,.inr (.inl ⟨.inl ⟨y,hy,by have:=Jaj h3;omega⟩,rfl⟩)⟩) sA rfl) (λh3=>⟨.inl ⟨rfl,_,SqL.of hlA⟩,ms,hlA,Zc8 (λh4=>q none .non H3 (.inr ⟨el,.inr (.inl ⟨.inr (by have:=Jaj h4;omega),rfl⟩)⟩) sA rfl) (λh4=>?_)⟩)⟩;have h3:¬ 3<m:=λz=>h3 (Jam z);have h4:¬ (1:Int)<(ms.count 3:Nat):=λz=>h4 (Jam z);have y3:L3.deg ps y=3:=∅
  obtain⟨f0,ef⟩:∃ f0,(S.filter λx=>decide (L3.deg ps x=3))=[f0]:=by
   have my:y∈S.filter λx=>decide (L3.deg ps x=3):=Jal.mpr ⟨hy,Jam y3⟩;have l1:=Jfx my;exact List.length_eq_one_iff.mp ∅
  have mf:f0∈S/\L3.deg ps f0=3:=by
   have:f0∈S.filter λx=>decide (L3.deg ps x=3):=by rw[ef];simp
   obtain⟨h5,h6⟩:=Jal.mp this;exact⟨h5,Jaj h6⟩
  refine hX _ _ _ ?_;refine Zdb λX hX=>?_;walk_at "wp";refine⟨_,rfl,a,rfl,⟨_,SqL.of haA⟩,λD3 hD3=>Zme (λx=>decide (L3.deg ps x=3)) id haA hD3 ∅ (λx H' Q' hx s' k=>?_) (λx H' Q' hx _ s' k=>⟨_,rfl,k H' (Same.refl _)⟩) λH4 s4 e4=>?_⟩
  .refine ⟨_,rfl,_,rfl,b,xs,ps,x,rfl,s' _ _ hbA,h9,hpA.same s',λp H5 s5 fp hp5=>⟨p,rfl,_,.inl (SqL.of hp5),?_⟩⟩;exact⟨rfl,_,rfl,Zsb x 3 ▸ k H5 s5⟩
  rw[ef] at e4;have sB:=sA.trans s4;refine⟨D3,rfl,_,SqL.of e4,V.int f0,Zbp ⇑0 (by simp),?_⟩;refine hX _ _ _ ?_;refine Zdb λX hX=>?_;walk_at "wp";refine Zit b xs ps S f0 ⟨rfl,sB _ _ hb,h9,hp.same sB,h8,mf.1,cl,λp R d kvs H5 s5 fp hp5 fr=>?_⟩;have sC:=sB.trans s5;have inR:∀ x∈S,x∈R:=λx hx=>by
   have:=cn (λz=>if z∈R then 1 else 0) (λq' hq'=>by
    have h6:=fr.2 q' (Jal.mp hq').1;by_cases z:q'.1∈R
    .simp only [if_pos z,if_pos (h6.mp z)]
    .simp only [if_neg z,if_neg λu=>z (h6.mpr u)]) f0 mf.1 x hx
   rw[if_pos fr.1.fR] at this;by_cases z:x∈R
   .exact z
   .rw [if_neg z] at this;cases this
  have haC:=sC _ _ ha;have hbC:=sC _ _ hb;have hpC:=hp.same sC;refine hX _ _ _ ?_;refine Zdb λX hX=>?_;walk_at "wp";refine⟨_,rfl,a,rfl,⟨_,SqL.of haC⟩,λD4 hD4=>Zme (λx=>decide (L3.deg ps x=1)) (λx=>((d x:Nat):Int)) haC hD4 ∅ (λx H' Q' hx s' k=>?_) (λx H' Q' hx _ s' k=>?_) λH6 s6 e6=>?_⟩
  .exact ⟨_,rfl,_,rfl,b,xs,ps,x,rfl,s' _ _ hbC,h9,hpC.same s',λp H5 s5 fp hp5=>⟨p,rfl,_,.inl (SqL.of hp5),rfl,_,rfl,Zsb x 1 ▸ k H5 s5⟩⟩
  .exact ⟨_,rfl,_,rfl,p,V.int ((d x:Nat):Int),rfl,.inl ⟨kvs,.inl x,.inl (s' _ _ hp5),rfl,by rw[fr.1.vals,if_pos (inR x hx)]⟩,k H' (Same.refl _)⟩
  have lF:=Ja9 (λx=>decide (L3.deg ps x=1)) S;refine⟨D4,rfl,_,SqL.of e6,by rw[Jaa];omega,λl2 ns fl2 pm2 so2=>?_⟩;have sD:Same H (upd H6 l2 (.lst (ns.map V.int))):=(sC.trans s6).trans (Same.new fl2);have hlD:upd H6 l2 (.lst (ns.map V.int)) l2=some (.lst (ns.map V.int)):=Zaa;generalize upd H6 l2 (.lst (ns.map V.int))=H7 at *;have fin:∀ r v H',(r=if ns.take 2=[1,1] then (some (Str.ofString "D",(S.length:Int)):Kd) else if ns.take 2=[1,2] then (some (Str.ofString "E",(S.length:Int)):Kd) else none)->Same H H'->KdV H' v r->Q v H':=λr v H' er s' kv=>
   q r v H' (.inr ⟨el,.inr (.inr ⟨f0,ef,λx hx=>by have:=mx' x hx;omega,R,d,kvs,ns,fr,pm2,so2,er⟩)⟩) s' kv
  clear q;refine hX _ _ _ ?_;refine Zdb λX hX=>?_;walk_at "wp";refine⟨_,SqL.of hlD,λp hp'=>⟨⇑0,λp1 hp1'=>?_⟩⟩;rw[Zgx] at *;have u1:=Same.new (o:=.lst ((ns.take 2).map V.int)) hp';have u2:=Same.new (o:=.lst [V.int 1,V.int 1]) hp1';have u12:=sD.trans (u1.trans u2);have hlE:=u2 _ _ (u1 _ _ hlD);have g1:upd (upd H7 p (.lst ((ns.take 2).map V.int))) p1 (.lst [V.int 1,V.int 1]) p=some (.lst ((ns.take 2).map V.int)):=u2 _ _ Zaa;have g2:upd (upd H7 p (.lst ((ns.take 2).map V.int))) p1 (.lst [V.int 1,V.int 1]) p1=some (.lst (([1,1]:List Int).map V.int)):=Zaa;generalize upd (upd H7 p (.lst ((ns.take 2).map V.int))) p1 (.lst [V.int 1,V.int 1])=H8 at *;refine⟨_,SqL.of g1,_,SqL.of g2,Znv (λh=>⟨_,.inl (SqL.of (u12 _ _ ha)),⇑0,λt ht=>fin _ _ _ rfl (u12.trans (Same.new ht)) ?_⟩) (λh=>?_)⟩
  .rw [if_pos h];exact⟨t,rfl,by rw[Zaa,Jaa]⟩
  refine hX _ _ _ ?_;refine Zdb λX hX=>?_;walk_at "wp";refine⟨_,SqL.of hlE,λp2 hp2=>⟨⇑0,λp3 hp3=>?_⟩⟩;rw[Zgx] at *;have u3:=Same.new (o:=.lst ((ns.take 2).map V.int)) hp2;have u4:=Same.new (o:=.lst [V.int 1,V.int 2]) hp3;have u14:=u12.trans (u3.trans u4);have g3:upd (upd H8 p2 (.lst ((ns.take 2).map V.int))) p3 (.lst [V.int 1,V.int 2]) p2=some (.lst ((ns.take 2).map V.int)):=u4 _ _ Zaa;have g4:upd (upd H8 p2 (.lst ((ns.take 2).map V.int))) p3 (.lst [V.int 1,V.int 2]) p3=some (.lst (([1,2]:List Int).map V.int)):=Zaa;generalize upd (upd H8 p2 (.lst ((ns.take 2).map V.int))) p3 (.lst [V.int 1,V.int 2])=H9 at *;refine⟨_,SqL.of g3,_,SqL.of g4,Znv (λh2=>⟨_,.inl (SqL.of (u14 _ _ ha)),⇑0,λt ht=>fin _ _ _ rfl (u14.trans (Same.new ht)) ?_⟩) (λh2=>?_)⟩
  .rw [if_neg h,if_pos h2];exact⟨t,rfl,by rw[Zaa,Jaa]⟩
  .refine hX _ _ _ ?_;exact fin none .non H9 (by rw[if_neg h,if_neg h2]) u14 rfl
structure Pc (m:Int)(ps:List (Int×Int))(S:List Int):Prop where
 nd:S.Nodup
 le8:S.length<=8
 ne:S≠[]
 cl:∀ q∈ps,q.1∈S ↔ q.2∈S
 cn:L3.Conn S (Za0 ps S)
 inm:∀ x∈S,0<=x/\x<m
 inp:InP m ps
theorem Pc.of {m:Int}{ps:List (Int×Int)}{S:List Int}(hin:InP m ps)(m0:0<=m)(m8:m<=8)(h:S∈Zbg m.toNat (Za3 ps)):Pc m ps S:=by
 have lb:=Zet hin;refine Zau (Zd6 h) λk ek hk e91=>?_;obtain rfl:=e91;have inS:∀ x∈Zdl m.toNat (Za3 ps) k,(0<=x/\x<m)/\Za3 ps x=k:=λx hx=>by
  obtain⟨h1,h2⟩:=Zb0.mp hx;exact⟨∅,h2⟩
 refine⟨Zu6,?_,λz=>?_,λq hq=>Zvt hin m0 h hq,λg hg x hx y hy=>?_,λx hx=>(inS x hx).1,hin⟩
 .rw [<- Zbl];unfold Zoh Zax;refine Ja8 (Ja9 _ _) ?_;simp;omega
 .have:k∈Zdl m.toNat (Za3 ps) k:=Zb0.mpr ⟨hk,ek⟩;rw[z] at this;cases this
 .have co:=lb.1.co (λz=>if Za3 ps z=k then g z else 0) (λq hq=>by
   have e:=lb.2 q hq;refine Zbq (hin q hq) λa1 a2 a3 a4=>?_;by_cases z:Za3 ps q.1=k
   .simp only [if_pos z,if_pos (e ▸ z)];refine hg q (Jal.mpr ⟨hq,Jam (Zb0.mpr ⟨⟨a1,∅⟩,z⟩)⟩)
   .simp only [if_neg z,if_neg (λu=>z (e.trans u))])
  have one:∀ x∈Zdl m.toNat (Za3 ps) k,g x=g k:=λx hx=>by
   obtain⟨⟨h1,h2⟩,h3⟩:=inS x hx;have:=co x h1 h2;simp only[h3,ek,Jdk] at this;exact this.symm
  rw[one x hx,one y hy]
theorem Znx {ps:List (Int×Int)}{S:List Int}(cl:∀ q∈ps,q.1∈S ↔ q.2∈S){x:Int}(hx:x∈S):L3.deg (Za0 ps S) x=L3.deg ps x:=by
 unfold L3.deg Za0;rw[List.countP_filter];refine List.countP_congr λq hq=>?_;simp only[Jbv,Jb0];constructor
 .exact λh=>h.1
 .intro h;refine⟨h,?_⟩;rcases h with h|h
  .rw [h];exact hx
  .rw [cl q hq,h];exact hx
theorem Zfy {x:Int}:∀ {es:List (Int×Int)},(∀ q∈es,q.1≠q.2)->(Zay es).count x=L3.deg es x
 | [],_=>rfl
 | q::es,h=>by
  have ih:=Zfy (x:=x) (es:=es) λq' hq'=>h q' (Jbd _ hq');have nq:=h q (by simp);unfold Zay L3.deg at *;rw[Jhk,List.count_append,ih,Jek];by_cases h1:q.1=x
  .by_cases h2:q.2=x
   .exact absurd (h1.trans h2.symm) nq
   .rw [if_pos (by simp[h1])];simp[h1,h2];omega
  .by_cases h2:q.2=x
   .rw [if_pos (by simp[h2])];simp[h1,h2];omega
   .rw [if_neg (by simp[h1,h2])];simp[h1,h2]
theorem Zkg (p:Int->Bool):∀ l:List Int,l.length=(l.filter p).length+(l.filter λx=>!p x).length
 | []=>rfl
 | x::l=>by
  have:=Zkg p l;by_cases h:p x=true
  .simp [h];omega
  .simp [h];omega
theorem Zmw (g:Int->Int):∀ {R:List Int} (l:List Int),R.Nodup->(R.map λr=>(l.filter λx=>decide (g x=r)).length).sum<=l.length
 | [],l,_=>Jbp _
 | r::R,l,nd=>by
  have nd':=Jbz.mp nd;have ih:=Zmw g (R:=R) (l.filter λx=>!decide (g x=r)) nd'.2;have e:(R.map λr'=>((l.filter λx=>!decide (g x=r)).filter λx=>decide (g x=r')).length)=R.map λr'=>(l.filter λx=>decide (g x=r')).length:=by
   refine Jc9 λr' hr'=>?_;rw[List.filter_filter];congr 1;refine Jcu λx _=>?_;by_cases z:g x=r'
   .have:g x≠r:=λu=>nd'.1 (by rw[<- u,z];exact hr');simp[z];rw[<- z];exact this
   .simp [z]
  rw[e] at ih;have h2:l.length=(l.filter λx=>decide (g x=r)).length+(l.filter λx=>!decide (g x=r)).length:=Zkg _ l;rw[Jaw,List.sum_cons];omega
theorem Zn7 {m:Int}{ps:List (Int×Int)}{S:List Int}{f:Int}{d:Int->Nat}(pc:Pc m ps S)(T:L3.Fk S (Za0 ps S) f d)(hf3:L3.deg (Za0 ps S) f=3):
  (Zk3 S (Za0 ps S) f).Perm ((S.filter λx=>decide (L3.deg (Za0 ps S) x=1)).map λx=>((d x:Nat):Int))/\∃ ls:List Nat,Zk3 S (Za0 ps S) f=ls.map (λn=>((n:Nat):Int))/\3<=ls.length/\ls.sum+1<=S.length:=by
 have ie:InP m (esF (Za0 ps S) f):=λq hq=>pc.inp q (Jal.mp (Jal.mp hq).1).1;have mF:∀ q∈esF (Za0 ps S) f,q∈Za0 ps S/\q.1≠f/\q.2≠f:=λq hq=>by
  obtain⟨h1,h2⟩:=Jal.mp hq;exact⟨h1,Jaj h2⟩
 have lb:=Zet ie;have ar:Zk3 S (Za0 ps S) f=((L3.oth S f).filter λx=>decide (Za3 (esF (Za0 ps S) f) x=x)).map λr=>(((Zoh (L3.oth S f) (Za3 (esF (Za0 ps S) f)) r).length:Nat):Int):=by
  unfold Zk3 Zdw;rw[Jck];rfl
 rw[ar];have mFi:∀ q∈Za0 ps S,q.1≠f->q.2≠f->q∈esF (Za0 ps S) f:=λq hq h1 h2=>Jal.mpr ⟨hq,Jam ⟨h1,h2⟩⟩;generalize Za3 (esF (Za0 ps S) f)=lab at *;have nO:(L3.oth S f).Nodup:=Jbj Jbg pc.nd;have iO:∀ x∈L3.oth S f,0<=x/\x<m:=λx hx=>pc.inm x (L3.Zbe.mp hx).1;have labO:∀ x∈L3.oth S f,lab x∈L3.oth S f:=λx hx=>by
  have:=lb.1.co (λz=>if z∈L3.oth S f then 1 else 0) (λq hq=>by
   refine Zap (mF q hq) λh1 h2 h3=>?_;obtain⟨i1,i2⟩:=T.inS q h1;simp only[if_pos (L3.Zbe.mpr ⟨i1,h2⟩),if_pos (L3.Zbe.mpr ⟨i2,h3⟩)]) x (iO x hx).1 (iO x hx).2
  simp only[if_pos hx] at this;by_cases z:lab x∈L3.oth S f
  .exact z
  .rw [if_neg z] at this;cases this
 have lab2:∀ x∈L3.oth S f,lab (lab x)=lab x:=λx hx=>lb.1.co lab lb.2 x (iO x hx).1 (iO x hx).2;have rl:∀ x∈L3.oth S f,L3.Zcj d (Za0 ps S) f (lab x)=L3.Zcj d (Za0 ps S) f x:=λx hx=>lb.1.co _ (λq hq=>by
  refine Zap (mF q hq) λh1 h2 h3=>?_;refine Zbq (T.prop h1) λp1 p2 p3 p4=>?_;have u:=T.up1_ce h1;have np:L3.pe d q≠f:=by
   rcases L3.Zev (d:=d) q with ⟨e1,e2⟩|⟨e1,e2⟩
   .rw [<- e2];exact h3
   .rw [<- e1];exact h2
  have st:=T.root_step p1 p2 (by rw[u];exact np);rw[u] at st;rcases L3.Zev (d:=d) q with ⟨e1,e2⟩|⟨e1,e2⟩
  .rw [e1,e2];exact st
  .rw [e1,e2];exact st.symm) x (iO x hx).1 (iO x hx).2
 have lr:∀ (k:Nat) {x:Int},d x<=k->x∈L3.oth S f->lab (L3.Zcj d (Za0 ps S) f x)=lab x:=by
  intro k
  induction k with
  | zero=>
   intro x hk hx;have:=T.pos (L3.Zbe.mp hx).1 (L3.Zbe.mp hx).2;omega
  | succ k ih=>
   intro x hk hx;obtain⟨xS,xf⟩:=L3.Zbe.mp hx;by_cases hu:L3.up1 d (Za0 ps S) x=f
   .rw [T.root_base xS xf hu]
   .refine Zau (T.up1_of xS xf) λq hq e1 e2=>?_;obtain⟨u1,u2⟩:=T.up1_prop xS xf;rw[T.root_step xS xf hu,ih ∅ (L3.Zbe.mpr ⟨u1,hu⟩)];have hc:lab q.1=lab q.2:=lb.2 q (by
     rcases L3.Zev (d:=d) q with ⟨c1,c2⟩|⟨c1,c2⟩
     .exact mFi q hq (by rw[c1,e1];exact xf) (by rw[c2,<- e2];exact hu)
     .exact mFi q hq (by rw[c1,<- e2];exact hu) (by rw[c2,e1];exact xf))
    rcases L3.Zev (d:=d) q with ⟨c1,c2⟩|⟨c1,c2⟩
    .rw [c1,c2,e1,<- e2] at hc;exact hc.symm
    .rw [c1,c2,e1,<- e2] at hc;exact hc
 have mR:∀ r,r∈(L3.oth S f).filter (λx=>decide (lab x=x)) ↔ r∈L3.oth S f/\lab r=r:=λr=>by rw[Jal,Jb0]
 have nR:((L3.oth S f).filter λx=>decide (lab x=x)).Nodup:=Jbj Jbg nO;have same:∀ r∈(L3.oth S f).filter (λx=>decide (lab x=x)),(Zoh (L3.oth S f) lab r).length=(L3.cls S d (Za0 ps S) f (L3.Zcj d (Za0 ps S) f r)).length:=λr hr=>by
  obtain⟨h1,h2⟩:=(mR r).mp hr;unfold Zoh L3.cls;congr 1;refine Jcu λx hx=>?_;rw[Jen];constructor
  .intro e;rw[<- rl x hx,e]
  .intro e;rw[<- lr _ (Jaf _) hx,e,lr _ (Jaf _) h1,h2]
 have hall:∀ x∈S,x≠f->∃ r∈(L3.oth S f).filter (λx=>decide (lab x=x)),L3.Zcj d (Za0 ps S) f r=L3.Zcj d (Za0 ps S) f x:=λx hx xf=>by
  have xo:=L3.Zbe.mpr ⟨hx,xf⟩;exact⟨lab x,(mR _).mpr ⟨labO x xo,lab2 x xo⟩,rl x xo⟩
 have pm:=T.arms ∅ nR (λr hr=>L3.Zbe.mp ((mR r).mp hr).1) (λr hr r' hr' e=>by
  obtain⟨h1,h2⟩:=(mR r).mp hr;obtain⟨h3,h4⟩:=(mR r').mp hr';rw[<- h2,<- h4,<- lr _ (Jaf _) h1,<- lr _ (Jaf _) h3,e]) hall
 rw[<- Jc9 same] at pm;have sm:=Zmw lab (L3.oth S f) nR;have ol:=L3.Zlw pc.nd T.fS;refine⟨?_,_,(Jck (f:=λr=>(Zoh (L3.oth S f) lab r).length) (g:=λn=>((n:Nat):Int))).symm,?_,?_⟩
 .have:=pm.map (λn=>((n:Nat):Int));rw[Jck,Jck] at this;exact this
 .have lc:((Za0 ps S).filter λq=>decide (L3.pe d q=f)).length=3:=by
   rw[<- hf3,T.deg_f];unfold L3.chn;rw[List.count,List.countP_map,Jer];rfl
  have:=L3.Zaz (l:=((Za0 ps S).filter λq=>decide (L3.pe d q=f)).map (L3.ce d)) (m:=((L3.oth S f).filter λx=>decide (lab x=x)).map (L3.Zcj d (Za0 ps S) f)) (Jbj (List.Sublist.map _ Jbg) T.cend) λc hc=>by
   refine Zae (Jan.mp hc) λq hq e91=>?_;obtain rfl:=e91;obtain⟨h1,h2⟩:=Jal.mp hq;have h2:=Jaj h2;refine Zbq (T.prop h1) λp1 p2 p3 p4=>?_;refine Zae (hall _ p1 p2) λr hr er=>?_;exact Jan.mpr ⟨r,hr,by rw[er,T.root_base p1 p2 (by rw[T.up1_ce h1,h2])]⟩
  rw[Jaa,Jaa,lc] at this;rw[Jaa];exact this
 .unfold Zoh;omega
theorem kd_ls {ns:List Int}{ls:List Nat}{n:Nat}(pm:ns.Perm (ls.map λn=>((n:Nat):Int)))(so:ns.Pairwise (·<=·))(h3:3<=ls.length)(hs:ls.sum+1<=n)(h8:n<=8)(e:ns.take 2=[1,2]):(n:Int)=6\/(n:Int)=7\/(n:Int)=8:=by
 have l1:=pm.length_eq;rw[Jaa] at l1;have p2:=pm.map Int.toNat;have eid:(Int.toNat ∘ λn:Nat=>(n:Int))=id:=funext λx=>Jaz x;rw[Jck,eid,List.map_id] at p2;have s2:=p2.sum_nat
 match ns,so,e,l1,s2 with
 | a::b::c::rest,so,e,_,s2=>
  simp only[Jdl,Jd7,Jci,Jht] at e;obtain⟨rfl,rfl⟩:=e;have h1:=(Jbm.mp (Jbm.mp so).2).1 c (by simp);simp only[Jaw,List.sum_cons] at s2;have e2:Int.toNat 2=2:=rfl;have e1:Int.toNat 1=1:=rfl;rw[e1,e2] at s2;omega
 | [],_,_,l1,_=>simp at l1;omega
 | [_],_,_,l1,_=>simp at l1;omega
 | [_,_],_,_,l1,_=>simp at l1;omega
theorem kind_eq {m:Int}{ps:List (Int×Int)}{S:List Int}{r r':Kd}(pc:Pc m ps S)(k1:Zh2 S (Za0 ps S) r)(k2:LkP ps S r'):r=r':=by
 have hin:∀ q∈Za0 ps S,q.1∈S/\q.2∈S:=λq hq=>by
  obtain⟨h1,h2⟩:=Jal.mp hq;have h2:=Jaj h2;exact⟨h2,(pc.cl q h1).mp h2⟩
 rcases k1 with ⟨h1,rfl⟩|⟨h1,k1⟩
 .rcases k2 with ⟨_,rfl⟩|⟨h2,_⟩
  .rfl
  .exact absurd h2 h1
 rcases k2 with ⟨h2,_⟩|⟨_,k2⟩
 .exact absurd h1 h2
 obtain⟨z,zS⟩:=Jdp S pc.ne;refine Zae (L3.Zkr pc.cn hin pc.nd zS h1) λd0 _ T0=>?_;have cE:∀ x∈S,(Zay (Za0 ps S)).count x=L3.deg ps x:=λx hx=>by rw[Zfy λq hq=>T0.ne hq,Znx pc.cl hx]
 have eF:(S.filter λx=>decide (2<(Zay (Za0 ps S)).count x))=S.filter λx=>decide (2<L3.deg ps x):=Jcu λx hx=>by rw[cE x hx]
 rw[eF] at k1;have mF:∀ x,x∈S->2<L3.deg ps x->x∈S.filter λx=>decide (2<L3.deg ps x):=λx hx h=>Jal.mpr ⟨hx,Jam h⟩;rcases k1 with ⟨e0,rfl⟩|⟨f,rest,ef,k1⟩
 .have no:∀ x∈S,¬ 2<L3.deg ps x:=λx hx h=>by
   have:=mF x hx h;rw[e0] at this;cases this
  rcases k2 with ⟨_,rfl⟩|⟨h,_⟩|⟨f,ef,_⟩
  .rfl
  .rcases h with ⟨x,hx,h⟩|h
   .exact absurd ∅ (no x hx)
   .obtain ⟨x,hx⟩:=List.exists_mem_of_length_pos (show 0<(S.filter λx=>decide (L3.deg ps x=3)).length by omega);obtain⟨hx,h⟩:=Jal.mp hx;have h:=Jaj h;exact absurd ∅ (no x hx)
  .have hx:f∈S.filter λx=>decide (L3.deg ps x=3):=by rw[ef];simp
   obtain⟨hx,h⟩:=Jal.mp hx;have h:=Jaj h;exact absurd ∅ (no f hx)
 .have mf:f∈S/\2<L3.deg ps f:=by
   have:f∈S.filter λx=>decide (2<L3.deg ps x):=by rw[ef];simp
   obtain⟨h,h'⟩:=Jal.mp this;exact⟨h,Jaj h'⟩
  rw[cE f mf.1] at k1;rcases k1 with ⟨hh,rfl⟩|⟨rfl,h3,ns,pm,so,rfl⟩
  .rcases k2 with ⟨h,_⟩|⟨_,rfl⟩|⟨f',ef',le3,_⟩
   .exact absurd (h f mf.1) ∅
   .rfl
   .have e3:(S.filter λx=>decide (L3.deg ps x=3))=S.filter λx=>decide (2<L3.deg ps x):=Jcu λx hx=>by
     rw[Jen];have:=le3 x hx;omega
    rw[e3,ef] at ef';cases ef';rcases hh with hh|hh
    .exact absurd rfl hh
    .exact absurd (le3 f mf.1) ∅
  .have f3:L3.deg ps f=3:=∅
   have only:∀ x∈S,2<L3.deg ps x->x=f:=λx hx h=>by
    have:=mF x hx h;rw[ef] at this;exact Jas.mp this
   rcases k2 with ⟨h,_⟩|⟨h,_⟩|⟨f',ef',le3,R,d,kvs,ns',fr,pm',so',rfl⟩
   .exact absurd (h f mf.1) ∅
   .rcases h with ⟨x,hx,h⟩|h
    .have:=only x hx ∅;rw[this] at h;omega
    .have:=L3.Zaz (l:=S.filter λx=>decide (L3.deg ps x=3)) (m:=[f]) (Jbj Jbg pc.nd) λx hx=>by
      obtain⟨hx,h⟩:=Jal.mp hx;have h:=Jaj h;rw[only x hx ∅];simp
     have e1:[f].length=1:=rfl;omega
   .have ff:f'=f:=by
     have hx:f'∈S.filter λx=>decide (L3.deg ps x=3):=by rw[ef'];simp
     obtain⟨hx,h⟩:=Jal.mp hx;have h:=Jaj h;exact only f' hx ∅
    subst ff;have inR:∀ x∈S,x∈R:=λx hx=>by
     have:=pc.cn (λz=>if z∈R then 1 else 0) (λq' hq'=>by
      have h6:=fr.2 q' (Jal.mp hq').1;by_cases z:q'.1∈R
      .simp only [if_pos z,if_pos (h6.mp z)]
      .simp only [if_neg z,if_neg λu=>z (h6.mpr u)]) f' mf.1 x hx
     rw[if_pos fr.1.fR] at this;by_cases z:x∈R
     .exact z
     .rw [if_neg z] at this;cases this
    have T:L3.Tr S (Za0 ps S) f' d:=⟨pc.nd,mf.1,hin,λx hx xf=>by
     refine Zae (fr.1.par x (inR x hx) xf) λq hq h=>?_;rcases h with ⟨e1,e2,e3⟩|⟨e1,e2,e3⟩
     .exact ⟨q,Jal.mpr ⟨hq,Jam (e1 ▸ hx)⟩,.inl ⟨e1,e3⟩⟩
     .exact ⟨q,Jal.mpr ⟨hq,Jam ((pc.cl q hq).mpr (e1 ▸ hx))⟩,.inr ⟨e1,e3⟩⟩,h1⟩
    have Tf:L3.Fk S (Za0 ps S) f' d:=⟨T,fr.1.d0,λx hx xf=>by
     have h6:=T.deg_x hx xf;rw[Znx pc.cl hx] at h6;have:¬ 2<L3.deg ps x:=λu=>xf (only x hx u);omega⟩
    obtain⟨pa,ls,el,l3,lsum⟩:=Zn7 pc Tf (by rw[Znx pc.cl mf.1,f3]);have eD:(S.filter λx=>decide (L3.deg (Za0 ps S) x=1))=S.filter λx=>decide (L3.deg ps x=1):=Jcu λx hx=>by rw[Znx pc.cl hx]
    rw[eD] at pa;have en:ns=ns':=L3.Zj9 so so' ((pm.trans pa).trans pm'.symm);subst en;rw[el] at pm;unfold kd;by_cases c1:ns.take 2=[1,1]
    .rw [if_pos c1,if_pos c1]
    .rw [if_neg c1,if_neg c1];by_cases c2:ns.take 2=[1,2]
     .rw [if_pos ⟨c2,kd_ls pm so l3 lsum pc.le8 c2⟩,if_pos c2]
     .rw [if_neg λz=>c2 z.1,if_neg c2]
def Zpt:Sp:=λvs H Q _=>∃ (e r1 r2:Addr) (m:Int) (xs:List V) (ps:List (Int×Int)) (a b:List Int),vs=[.ref e,.ref r1,.ref r2]/\H e=some (.lst xs)/\xs.length<=9/\Prs H xs ps/\InP m ps/\H r1=some (.lst (a.map V.int))/\H r2=some (.lst (b.map V.int)) /\
 a.length=m.toNat/\b.length=m.toNat/\m<=8/\(∀ n∈a,Big n)/\(∀ n∈b,Big n)/\Q (.int (Zr5 ps a b)) H
theorem ok_form (F:Fun K "_law_form" "_law_form" Zfn f fd)(T:Txt K mg C):FnOk P w K mg base CX0 1 f fd ["_law_arrows","_law_one","_law_other"] Zpt:=by
 have nd:=Zg9.nd;refine F.ok Zg9 (λvs H Q E h=>?_) (λcdv A outer s H vs Q E hr h=>?_)
 .refine xE8_2 h λe r1 r2 m xs ps a b e95 _=>?_;clear h;obtain rfl:=e95;rfl
 .refine xE8_4 h λe r1 r2 m xs ps a b e96 he hl e97=>?_;clear h;obtain rfl:=e96;refine xE0_10 e97 λhps hin h1 h2 l1 l2 m8 b1 b2 q=>?_;clear e97;have hlen:=hps.1;refine⟨_,((3|||nd|||Zac)<*>((Zb5 Jbu rfl (Zgk rfl T.n_range ((Za4 Zaj rfl T.n_len Jbo ((pv 1)<&>Zab))<&>Zab)) (4>>>nd) (@Zan _ _ _ (3|||nd|||(Zbc<|>(pvr 3)<&&>(Zlx<|>((ixJ Zaw)<|>(pvr 1)<||>(pvr 4))<&&>((ixJ Zaw)<|>(pvr 2)<||>(pvr 4)))))))<*>((Zb5 Jbu rfl (Zav (pv 0)) (@Zgb _ _ _ _ _ 2 rfl ((5>>>nd)^^^((6>>>nd)^^^(@Zdo _))) ⇑1 ⇑1) (@Zan _ _ _ (3|||nd|||(Zc7<|>(pvr 3)<&&>(Zlx<|>((ixJ Zaw)<|>(pvr 1)<||>(pvr 5))<&&>((ixJ Zaw)<|>(pvr 2)<||>(pvr 6)))))))<*>(~~~(pvr 3))))),?_⟩;walk_at "wp";refine⟨_,rfl,r1,rfl,_,.inl (SqL.of h1),_,rfl,by simp only[Jaa];omega,by simp only[Jaa];omega,Zdh (λi σ H2=>∃ v4 v5 v6:Option V,σ=[some (.ref e),some (.ref r1),some (.ref r2),some (.int (dotZ a b i)),v4,v5,v6]/\H2=H) ⟨none,none,none,rfl,rfl⟩ ?_ ?_⟩
  .intro i σ H2 hi e91;refine Zdv e91 λv4 v5 v6 e98 e99=>?_;clear e91;obtain rfl:=e98;obtain rfl:=e99;walk_at "wp";simp only[Jaa] at hi;have t0:(0+(i:Int)).toNat<a.length:=∅
   have t1:(0+(i:Int)).toNat<b.length:=∅
   refine⟨_,SqL.of h1,_,Zbp ∅ (Zc4 t0),_,SqL.of h2,_,Zbp ∅ (Zc4 t1),_,rfl,_,rfl,(Zjv b1 t0).mul (Zjv b2 t1),?_,_,rfl⟩;rw[Int.zero_add];rfl
  .intro σ H2 e92;refine Zdv e92 λv4 v5 v6 e910 e911=>?_;clear e92;obtain rfl:=e910;obtain rfl:=e911;walk_at "wp";refine⟨_,rfl,e,rfl,⟨_,SqL.of he⟩,Zca (xs:=xs) (λi σ H=>∃ v4 v5 v6:Option V,σ=[some (.ref e),some (.ref r1),some (.ref r2),some (.int (dotZ a b a.length-Zk2 a b (ps.take i))),v4,v5,v6]/\H=H2)
    ⟨v4,v5,v6,?_,rfl⟩ (λi σ H _ ⟨_,_,_,_,hH⟩=>SqL.of (by rw[hH];exact he)) ?_ ?_⟩
   .simp [Zk2,arrZ]
   .intro i x σ H hi e93;refine Zdv e93 λv4 v5 v6 e912 e913=>?_;clear e93;obtain rfl:=e912;obtain rfl:=e913;have hi1:i<xs.length:=(Jak.mp hi).1;have hq:ps[i]?=some (ps[i]'(Zka hlen hi1)):=Jac _;refine Zae (hps.2 i x _ hi hq) λt e914 ht=>?_;obtain rfl:=e914;refine Zbq (hin _ (Jai hq)) λp0 p1 p2 p3=>?_;refine Za2 t _ ⟨rfl,SqT.of ht,rfl,_,_,rfl,_,_,rfl,rfl,?_⟩;walk_at "wp";have t0:(ps[i]'(Zka hlen hi1)).1.toNat<a.length:=∅
    have t1:(ps[i]'(Zka hlen hi1)).2.toNat<b.length:=∅
    refine⟨_,SqL.of h1,_,Zbp p0 (Zc4 t0),_,SqL.of h2,_,Zbp p2 (Zc4 t1),_,rfl,_,rfl,(Zjv b1 t0).mul (Zjv b2 t1),?_⟩;rw[Jbe,hq];show _=dotZ a b a.length-Zk2 a b (ps.take i++[ps[i]'(Zka hlen hi1)])/\_;rw[Zo7];exact⟨∅,_,rfl⟩
   .intro σ H e94;refine Zdv e94 λv4 v5 v6 e915 e916=>?_;clear e94;obtain rfl:=e915;obtain rfl:=e916;rw[hlen,Jbk]
    first|exact q|exact⟨_,rfl,q⟩
end
end Pf
namespace Pf
open PySem L2 PyProof.Rows
section
variable {C:Addr}
theorem Zrd (p:Int):∀ es:List (Int×Int),L3.nb es (λ_=>1) p=((Zay es).count p:Nat)
 | []=>rfl
 | e::es=>by
  have ih:=Zrd p es;unfold L3.nb Zay at *;rw[Jhk,List.count_append,L3.sI,ih];by_cases h1:e.1=p <;> by_cases h2:e.2=p <;> simp[h1,h2] <;> omega
theorem Zt5 {S:List Int}{es:List (Int×Int)}(nd:S.Nodup)(ins:L3.Ins S es)(el:es.length+1=S.length)(one:∀ p∈S,1<=(Zay es).count p)(fk:(∃ f∈S,3<(Zay es).count f)\/∃ f∈S,∃ f'∈S,f≠f'/\2<(Zay es).count f/\2<(Zay es).count f'):
  L3.qf S es (λp=>if p∈S then (if (Zay es).count p=1 then 1 else 2) else 0)<=0:=by
 have d1:=L3.dbl (x:=λ_=>1) (y:=λ_=>1) nd ins;have d2:=L3.dbl (x:=λ_=>1) (y:=λp=>if (Zay es).count p=1 then 1 else 0) nd ins;have e1:L3.sI (λp=>(1:Int)*L3.nb es (λ_=>1) p) S=L3.sI (λp=>(((Zay es).count p:Nat):Int)) S:=L3.Zak λp _=>by rw[Zrd];omega
 have e2:L3.sI (λp=>(if (Zay es).count p=1 then (1:Int) else 0)*L3.nb es (λ_=>1) p) S=L3.sI (λp=>if (Zay es).count p=1 then (1:Int) else 0) S:=L3.Zak λp _=>by
  rw[Zrd];by_cases z:(Zay es).count p=1
  .simp [z]
  .simp [z]
 have e3:L3.sI (λ_:Int×Int=>(1:Int)*1+1*1) es=2*(es.length:Nat):=by rw[L3.Zbu];rfl
 rw[e1,e3] at d1;rw[e2] at d2;have g0:∀ p∈S,0<=(((Zay es).count p:Nat):Int)-2+(if (Zay es).count p=1 then (1:Int) else 0):=λp hp=>by
  have:=one p hp;split <;> omega
 have sg:L3.sI (λp=>(((Zay es).count p:Nat):Int)-2+(if (Zay es).count p=1 then (1:Int) else 0)) S=2*(es.length:Nat)-2*(S.length:Nat)+L3.sI (λp=>if (Zay es).count p=1 then (1:Int) else 0) S:=by
  rw[L3.Zci,L3.Zei,d1,L3.Zbu]
 have l4:4<=L3.sI (λp=>if (Zay es).count p=1 then (1:Int) else 0) S:=by
  rcases fk with ⟨f,hf,h3⟩|⟨f,hf,f',hf',ne,h3,h4⟩
  .have:=L3.Zd4 hf g0;rw[sg,if_neg ∅] at this;omega
  .have:=L3.Zp3 hf hf' ne g0;rw[sg,if_neg ∅,if_neg ∅] at this;omega
 have sq:L3.sI (λp=>(if p∈S then (if (Zay es).count p=1 then (1:Int) else 2) else 0)*(if p∈S then (if (Zay es).count p=1 then (1:Int) else 2) else 0)) S=4*(S.length:Nat)-3*L3.sI (λp=>if (Zay es).count p=1 then (1:Int) else 0) S:=by
  rw[<- L3.Zd3,<- L3.Zbu,<- L3.Zei];refine L3.Zak λp hp=>?_;rw[if_pos hp];split <;> rfl
 have pr:4*(es.length:Nat)-2*L3.sI (λe:Int×Int=>(if (Zay es).count e.1=1 then (1:Int) else 0)*1+(if (Zay es).count e.2=1 then (1:Int) else 0)*1) es<=L3.sI (λe:Int×Int=>(if e.1∈S then (if (Zay es).count e.1=1 then (1:Int) else 2) else 0)*(if e.2∈S then (if (Zay es).count e.2=1 then (1:Int) else 2) else 0)) es:=by
  rw[<- L3.Zd3,<- L3.Zbu,<- L3.Zei];refine L3.Zp6 λe he=>?_;rw[if_pos (ins e he).1,if_pos (ins e he).2];split <;> split <;> decide
 unfold L3.qf;dsimp only;rw[sq];rw[<- d2] at pr;refine Int.le_trans (Int.sub_le_sub_left pr _) ?_;omega
theorem Zuo {S:List Int}{es:List (Int×Int)}(cn:L3.Conn S es)(ins:L3.Ins S es)(nd:S.Nodup)(ne:S≠[]):S.length<=es.length+1:=by
 obtain⟨z,zS⟩:=Jdp S ne;obtain⟨d,e0,hp⟩:=L3.Zmc (f:=z) cn ins nd S.length (A:=[z]) (d:=λ_=>0) ∅ (by simp) (λx hx=>by rw[Jas.mp hx];exact zS) (by simp) rfl (λx hx xf=>absurd (Jas.mp hx) xf);have:=L3.Zaz (l:=L3.oth S z) (m:=es.map (L3.ce d)) (Jbj Jbg nd) λx hx=>by
  obtain⟨h1,h2⟩:=L3.Zbe.mp hx;refine Zae (hp x h1 h2) λq hq h=>?_;exact Jan.mpr ⟨q,hq,(L3.Zm7 h).1⟩
 rw[Jaa] at this;have:=L3.Zlw nd zS;omega
theorem Pc.ins {m:Int}{ps:List (Int×Int)}{S:List Int}(pc:Pc m ps S):L3.Ins S (Za0 ps S):=λq hq=>by
 obtain⟨h1,h2⟩:=Jal.mp hq;have h2:=Jaj h2;exact⟨h2,(pc.cl q h1).mp h2⟩
theorem Pc.tree {m:Int}{ps:List (Int×Int)}{S:List Int}(pc:Pc m ps S)(el:(Za0 ps S).length+1=S.length){f:Int}(hf:f∈S):∃ d:Int->Nat,d f=0/\L3.Tr S (Za0 ps S) f d/\∀ x,(Zay (Za0 ps S)).count x=L3.deg (Za0 ps S) x:=by
 refine Zae (L3.Zkr pc.cn pc.ins pc.nd hf el) λd e0 T=>?_;exact⟨d,e0,T,λx=>Zfy λq hq=>T.ne hq⟩
theorem Pc.three {m:Int}{ps:List (Int×Int)}{S:List Int}(pc:Pc m ps S)(el:(Za0 ps S).length+1=S.length){f:Int}{ns:List Int}(hf:(S.filter λx=>decide (2<(Zay (Za0 ps S)).count x))=[f])(h3:¬ 3<(Zay (Za0 ps S)).count f)(pm:ns.Perm (Zk3 S (Za0 ps S) f)):
  ∃ (d:Int->Nat) (a b c:Int),L3.Fk S (Za0 ps S) f d/\L3.Lvs S (Za0 ps S) f d [a,b,c]/\ns=[((d a:Nat):Int),((d b:Nat):Int),((d c:Nat):Int)]/\d a+d b+d c+1<=S.length:=by
 have mf:f∈S/\2<(Zay (Za0 ps S)).count f:=by
  have:f∈S.filter λx=>decide (2<(Zay (Za0 ps S)).count x):=by rw[hf];simp
  obtain⟨h,h'⟩:=Jal.mp this;exact⟨h,Jaj h'⟩
 have only:∀ x∈S,2<(Zay (Za0 ps S)).count x->x=f:=λx hx h=>by
  have:x∈S.filter λx=>decide (2<(Zay (Za0 ps S)).count x):=Jal.mpr ⟨hx,Jam h⟩;rw[hf] at this;exact Jas.mp this
 refine Zau (pc.tree el mf.1) λd e0 T cE=>?_;have f3:L3.deg (Za0 ps S) f=3:=by rw[<- cE];omega
 have Tf:L3.Fk S (Za0 ps S) f d:=⟨T,e0,λx hx xf=>by
  have h6:=T.deg_x hx xf;rw[<- cE] at h6;have:¬ 2<(Zay (Za0 ps S)).count x:=λu=>xf (only x hx u);omega⟩
 obtain⟨pa,ls,e2,l3,lsum⟩:=Zn7 pc Tf f3;refine Zae (L3.Zqo (pm.trans pa) _ rfl) λL pL eL=>?_;have hL:=(Tf.lvs_is ∅).perm pL;have lL:=Tf.few_ends hL;rw[f3] at lL;have l1:=pm.length_eq;rw[e2,Jaa,<- eL,Jaa] at l1;have p2:=pm.map Int.toNat;have eid:(Int.toNat ∘ λn:Nat=>(n:Int))=id:=funext λx=>Jaz x;rw[e2,Jck,eid,List.map_id] at p2;have s2:=p2.sum_nat
 match L,eL,hL,lL,l1 with
 | [a,b,c],eL,hL,_,_=>
  refine Zjx d a b c ⟨Tf,hL,eL.symm,?_⟩;rw[<- eL] at s2;simp only[Jaw,Jf8,List.sum_cons,List.sum_nil,Jaz] at s2;omega
 | [],_,_,_,l1=>simp at l1;omega
 | [_],_,_,_,l1=>simp at l1;omega
 | [_,_],_,_,_,l1=>simp at l1;omega
 | _::_::_::_::_,_,_,lL,_=>simp at lL
theorem Znm {m:Int}{ps:List (Int×Int)}{S:List Int}{r:Str×Int}(pc:Pc m ps S)(k:Zh2 S (Za0 ps S) (some r)):L3.DPos S (Za0 ps S):=by
 rcases k with ⟨_,h⟩|⟨el,k⟩
 .cases h
 rcases k with ⟨e0,_⟩|⟨f,rest,ef,k⟩
 .obtain ⟨z,zS⟩:=Jdp S pc.ne;refine Zau (pc.tree el zS) λd d0 T cE=>?_;have le:∀ x∈S,L3.deg (Za0 ps S) x<=2:=λx hx=>Jah λh=>by
   have:x∈S.filter λx=>decide (2<(Zay (Za0 ps S)).count x):=Jal.mpr ⟨hx,Jam (by rw[cE];omega)⟩;rw[e0] at this;cases this
  have Tf:L3.Fk S (Za0 ps S) z d:=⟨T,d0,λx hx xf=>by
   have h6:=T.deg_x hx xf;have:=le x hx;omega⟩
  exact Tf.posA Tf.ends_is (Ja8 (Tf.few_ends Tf.ends_is) (le z zS))
 .rcases k with ⟨_,h⟩|⟨rfl,h3,ns,pm,so,hk⟩
  .cases h
  refine Zce (pc.three el ef h3 pm) λd a b c T hL e hs=>?_;have:=pc.le8;unfold kd at hk;by_cases c1:ns.take 2=[1,1]
  .rw [e] at c1;simp only[Jdl,Jd7,Jci,Jht] at c1;exact T.posD hL ∅ ∅
  .rw [if_neg c1] at hk;by_cases c2:ns.take 2=[1,2]
   .rw [e] at c2;simp only[Jdl,Jd7,Jci,Jht] at c2;exact T.posE hL ∅ ∅ ∅
   .rw [if_neg λz=>c2 z.1] at hk;cases hk
theorem Zt9 {m:Int}{ps:List (Int×Int)}{S:List Int}(pc:Pc m ps S)(k:Zh2 S (Za0 ps S) none):∃ X:Int->Int,(∀ p,p∉S->X p=0)/\(∀ p∈S,0<=X p/\X p<=4/\(S.length<=6->X p<=2))/\(∃ p∈S,X p≠0)/\L3.qf S (Za0 ps S) X<=0:=by
 rcases k with ⟨hl,_⟩|⟨el,k⟩
 .obtain ⟨z,zS⟩:=Jdp S pc.ne;refine⟨λp=>if p∈S then 1 else 0,λp hp=>if_neg hp,λp hp=>by simp only[if_pos hp];omega,⟨z,zS,by simp only[if_pos zS];decide⟩,?_⟩;have:=Zuo pc.cn pc.ins pc.nd pc.ne;have e1:L3.sI (λp=>(if p∈S then (1:Int) else 0)*(if p∈S then (1:Int) else 0)) S=1*(S.length:Nat):=by
   rw[<- L3.Zbu];exact L3.Zak λp hp=>by rw[if_pos hp];rfl
  have e2:L3.sI (λe:Int×Int=>(if e.1∈S then (1:Int) else 0)*(if e.2∈S then (1:Int) else 0)) (Za0 ps S)=1*((Za0 ps S).length:Nat):=by
   rw[<- L3.Zbu];exact L3.Zak λe he=>by rw[if_pos (pc.ins e he).1,if_pos (pc.ins e he).2];rfl
  unfold L3.qf;rw[e1,e2];omega
 rcases k with ⟨_,h⟩|⟨f,rest,ef,k⟩
 .cases h
 have mf:f∈S/\2<(Zay (Za0 ps S)).count f:=by
  have:f∈S.filter λx=>decide (2<(Zay (Za0 ps S)).count x):=by rw[ef];simp
  obtain⟨h,h'⟩:=Jal.mp this;exact⟨h,Jaj h'⟩
 rcases k with ⟨hh,_⟩|⟨rfl,h3,ns,pm,so,hk⟩
 .refine Zau (pc.tree el mf.1) λd d0 T cE=>?_;refine⟨λp=>if p∈S then (if (Zay (Za0 ps S)).count p=1 then 1 else 2) else 0,λp hp=>if_neg hp,λp hp=>by simp only[if_pos hp];split <;> omega,⟨f,mf.1,by simp only[if_pos mf.1];rw[if_neg ∅];decide⟩,?_⟩;refine Zt5 pc.nd pc.ins el (λp hp=>?_) ?_
  .by_cases z:p=f
   .rw [z];omega
   .rw [cE,T.deg_x hp z];omega
  .rcases hh with hr|h4
   .obtain ⟨f',rest',rfl⟩:∃ f' rest',rest=f'::rest':=by
     cases rest with
     | nil=>exact absurd rfl hr
     | cons y ys=>exact⟨y,ys,rfl⟩
    have nF:(f::f'::rest').Nodup:=by rw[<- ef];exact Jbj Jbg pc.nd
    have mf':f'∈S.filter λx=>decide (2<(Zay (Za0 ps S)).count x):=by rw[ef];simp
    obtain⟨g1,g2⟩:=Jal.mp mf';exact .inr ⟨f,mf.1,f',g1,λz=>(Jbz.mp nF).1 (by rw[z];simp),mf.2,Jaj g2⟩
   .exact .inl ⟨f,mf.1,h4⟩
 .refine Zce (pc.three el ef h3 pm) λd a b c T hL e hs=>?_;have:=pc.le8;have ha:=(hL.2 a).mp (by simp);have pa:=T.pos ha.1 ha.2.1;subst e;have so1:=(Jbm.mp so).1 ((d b:Nat):Int) (by simp);have so2:=(Jbm.mp (Jbm.mp so).2).1 ((d c:Nat):Int) (by simp);unfold kd at hk;simp only[Jdl,Jd7,Jci,Jht] at hk;have n1:¬ (((d a:Nat):Int)=1/\((d b:Nat):Int)=1):=λz=>by rw[if_pos z] at hk;cases hk
  rw[if_neg n1] at hk;have n2:¬ (((d a:Nat):Int)=1/\((d b:Nat):Int)=2):=λz=>by rw[if_pos ⟨z,∅⟩] at hk;cases hk
  by_cases c1:d a=1
  .have e2:d b=3:=∅
   have e3:d c=3:=∅
   refine⟨_,λp hp=>if_neg hp,λp hp=>?_,⟨a,ha.1,by simp only[if_pos ha.1,Jdk];decide⟩,Int.le_of_eq (T.low7 hL c1 e2 e3)⟩;have:=T.d_le hL (N:=3) hp λz hz=>by
    simp only[Jao,List.not_mem_nil,or_false] at hz;rcases hz with rfl|rfl|rfl <;> omega
   simp only[if_pos hp];split <;> omega
  .have e1:d a=2:=∅
   have e2:d b=2:=∅
   refine⟨_,λp hp=>if_neg hp,λp hp=>?_,⟨a,ha.1,by simp only[if_pos ha.1,e1];decide⟩,Int.le_of_eq (T.low6 hL e1 e2 ∅)⟩;have:=T.d_le hL (N:=3) hp λz hz=>by
    simp only[Jao,List.not_mem_nil,or_false] at hz;rcases hz with rfl|rfl|rfl <;> omega
   simp only[if_pos hp];omega
def Zmp (n:Nat)(ps:List (Int×Int)):Prop:=∀ S∈Zbg n (Za3 ps),∃ r,Zh2 S (Za0 ps S) (some r)
def BadK (n:Nat)(ps:List (Int×Int)):Prop:=∃ S∈Zbg n (Za3 ps),Zh2 S (Za0 ps S) none
theorem Zjk {n:Nat}{ps:List (Int×Int)}(hin:InP (n:Nat) ps):L3.Ins (Zax n) ps:=λq hq=>by
 refine Zbq (hin q hq) λa1 a2 a3 a4=>?_;exact⟨Zal.mpr ⟨a1,a2⟩,Zal.mpr ⟨a3,a4⟩⟩
theorem Zue {n:Nat}{ps:List (Int×Int)}(hin:InP (n:Nat) ps)(n8:n<=8)(g:Zmp n ps):L3.DPos (Zax n) ps:=λX hX=>by
 have lb:=Zet hin;have mR:∀ k,k∈(Zax n).filter (λx=>decide (Za3 ps x=x)) ↔ (0<=k/\k<n)/\Za3 ps k=k:=λk=>by rw[Jal,Zal,Jb0]
 have toR:∀ x:Int,0<=x->x<(n:Nat)->Za3 ps x∈(Zax n).filter λx=>decide (Za3 ps x=x):=λx h0 h1=>(mR _).mpr ⟨⟨lb.1.lo x h0 h1,lb.1.lt h0 h1⟩,lb.1.co _ lb.2 x h0 h1⟩;have nR:((Zax n).filter λx=>decide (Za3 ps x=x)).Nodup:=Jbj Jbg (Zcy n);have e1:=L3.Zj7 (g:=λp=>X p*X p) (Za3 ps) (l:=Zax n) nR λx hx=>by
  obtain⟨h0,h1⟩:=Zal.mp hx;exact toR x h0 h1
 have e2:=L3.Zj7 (g:=λe:Int×Int=>X e.1*X e.2) (λe=>Za3 ps e.1) (l:=ps) nR λe he=>by
  refine Zap (hin e he) λa1 a2 _=>?_;exact toR _ a1 a2
 have e3:L3.qf (Zax n) ps X=L3.sI (λk=>L3.qf (Zdl n (Za3 ps) k) (Za0 ps (Zdl n (Za3 ps) k)) X) ((Zax n).filter λx=>decide (Za3 ps x=x)):=by
  unfold L3.qf;rw[e1,e2,<- L3.Zei];refine L3.Zak λk hk=>?_;have r1:(Zax n).filter (λx=>decide (Za3 ps x=k))=Zdl n (Za3 ps) k:=Zbl n _ k;have r2:ps.filter (λe=>decide (Za3 ps e.1=k))=Za0 ps (Zdl n (Za3 ps) k):=Jcu λe he=>by
   refine Zap (hin e he) λa1 a2 _=>?_;rw[Jen,Zb0];exact⟨λh=>⟨⟨a1,a2⟩,h⟩,λh=>h.2⟩
  rw[r1,r2]
 have inL:∀ k,k∈(Zax n).filter (λx=>decide (Za3 ps x=x))->Zdl n (Za3 ps) k∈Zbg n (Za3 ps):=λk hk=>by
  rw[<- Zcb];unfold Zdw;exact Jan.mpr ⟨k,hk,Zbl n _ k⟩
 have pos:∀ k∈(Zax n).filter (λx=>decide (Za3 ps x=x)),L3.DPos (Zdl n (Za3 ps) k) (Za0 ps (Zdl n (Za3 ps) k)):=λk hk=>by
  obtain⟨r,kp⟩:=g _ (inL k hk);exact Znm (Pc.of hin ∅ ∅ (by rw[Jaz];exact inL k hk)) kp
 have nn:∀ k∈(Zax n).filter (λx=>decide (Za3 ps x=x)),0<=L3.qf (Zdl n (Za3 ps) k) (Za0 ps (Zdl n (Za3 ps) k)) X:=λk hk=>by
  by_cases z:∃ p∈Zdl n (Za3 ps) k,X p≠0
  .exact Int.le_of_lt (pos k hk X z)
  .have z:∀ p∈Zdl n (Za3 ps) k,X p=0:=λp hp=>Jah λu=>z ⟨p,hp,u⟩;unfold L3.qf;rw[L3.Zch (λp hp=>by rw[z p hp];rfl),L3.Zch (λe he=>by rw[z _ (Jaj (Jal.mp he).2)];exact Jf9 _)];decide
 refine Zae hX λp hp hz=>?_;clear hX;obtain⟨h0,h1⟩:=Zal.mp hp;have:=L3.Zd4 (toR p h0 h1) nn;have:=pos _ (toR p h0 h1) X ⟨p,Zb0.mpr ⟨⟨h0,h1⟩,rfl⟩,hz⟩;rw[e3];omega
theorem bad_low {n:Nat}{ps:List (Int×Int)}(hin:InP (n:Nat) ps)(n8:n<=8)(g:BadK n ps):∃ X,L3.Low (Zax n) ps X/\∀ p∈Zax n,X p<=4/\(n<=6->X p<=2):=by
 refine Zae g λS hS kp=>?_;clear g;have pc:=Pc.of hin ∅ ∅ (by rw[Jaz];exact hS);refine Zla (Zt9 pc kp) λX x0 x1 e91 hq=>?_;obtain⟨p,hp,hz⟩:=e91;have inm:=pc.inm;refine Zau (Zd6 hS) λk ek hk e92=>?_;obtain rfl:=e92;have le:(Zdl n (Za3 ps) k).length<=n:=by
  rw[<- Zbl];unfold Zoh Zax;refine Ja8 (Ja9 _ _) ?_;simp
 refine⟨X,⟨λp _=>?_,⟨p,Zal.mpr (inm p hp),hz⟩,?_⟩,λp _=>?_⟩
 .by_cases h:p∈Zdl n (Za3 ps) k
  .exact (x1 p h).1
  .rw [x0 p h];decide
 .have e1:L3.sI (λp=>X p*X p) (Zax n)=L3.sI (λp=>X p*X p) (Zdl n (Za3 ps) k):=by
   rw[<- Zbl];refine L3.Zd5 λx hx h=>?_;have:x∉Zdl n (Za3 ps) k:=λz=>by
    have:=(Zb0.mp z).2;simp[this] at h
   rw[x0 x this];rfl
  have e2:L3.sI (λe:Int×Int=>X e.1*X e.2) ps=L3.sI (λe:Int×Int=>X e.1*X e.2) (Za0 ps (Zdl n (Za3 ps) k)):=L3.Zd5 λe he h=>by
   have:e.1∉Zdl n (Za3 ps) k:=λz=>by simp[z] at h
   rw[x0 _ this];exact Jf9 _
  unfold L3.qf at *;rw[e1,e2];exact hq
 .by_cases h:p∈Zdl n (Za3 ps) k
  .exact ⟨(x1 p h).2.1,λz=>(x1 p h).2.2 ∅⟩
  .rw [x0 p h];exact⟨⇑0,λ_=>⇑0⟩
theorem DPos.nn {pts:List Int}{ps:List (Int×Int)}(h:L3.DPos pts ps):L3.PosN pts ps:=λX _ hX=>h X hX
theorem Zne {n:Nat}{ps:List (Int×Int)}(hin:InP (n:Nat) ps)(n8:n<=8)(g:BadK n ps)(h:L3.PosN (Zax n) ps):False:=by
 refine Zae (bad_low hin n8 g) λX e93 _=>?_;obtain⟨h0,h1,h2⟩:=e93;have:=h X h0 h1;omega
theorem Zr4 {n:Nat}{ps:List (Int×Int)}{a:List Int}(hl:a.length=n):Zr5 ps a a=L3.qf (Zax n) ps (atZ a):=by
 have e1:∀ k:Nat,dotZ a a k=L3.sI (λp=>atZ a p*atZ a p) (Zax k):=λk=>by
  induction k with
  | zero=>rfl
  | succ k ih=>
   show dotZ a a k+atZ a k*atZ a k=_;unfold Zax at *;rw[Jde,Ja3,L3.Zde,<- ih];show _=_+(_+0);rw[Jfg]
 have e2:∀ l:List (Int×Int),arrZ a a l=L3.sI (λe:Int×Int=>atZ a e.1*atZ a e.2) l:=λl=>by
  induction l with
  | nil=>rfl
  | cons e l ih=>
   show arrZ a a l+atZ a e.1*atZ a e.2=_+L3.sI _ l;rw[ih,Int.add_comm]
 unfold Zr5 L3.qf Zk2;rw[hl,e1,e2,L3.Zeq (Je3 ps)]
theorem sm_kd {H:Hp}{v:V}{k:Kd}(h:KdV H v k):(!decide (v=V.non))=k.isSome:=by
 cases k with
 | none=>
  have h:v=.non:=h;subst h;rfl
 | some k=>
  refine Zae h λt e93 _=>?_;clear h;obtain rfl:=e93;rfl
theorem kds_all {H:Hp}{us:List V}{n:Nat}{ps:List (Int×Int)}(kf:KdsF H us (Zbg n (Za3 ps)) ps):((us.map λv=>!decide (v=V.non)).all id=true->Zmp n ps)/\((us.map λv=>!decide (v=V.non)).all id=false->BadK n ps):=by
 obtain⟨hl,h⟩:=kf;constructor
 .intro a S hS;obtain⟨i,hi,e⟩:=Jdf.mp hS;have eS:(Zbg n (Za3 ps))[i]?=some S:=by rw[Jac hi,e]
  have eu:us[i]?=some (us[i]'(by omega)):=Jac _;refine Zae (h i _ S eu eS) λr k1 k2=>?_;have:=sm_kd k2;rw[List.all_map,Jb1] at a;have a1:(!decide (us[i]'(by omega)=V.non))=true:=a _ (Jcb ∅);rw[a1] at this;cases r with
  | none=>cases this
  | some r=>exact⟨r,k1⟩
 .intro a;rw[List.all_map,List.all_eq_false] at a;refine Zae a λv hv e=>?_;clear a;obtain⟨i,hi,rfl⟩:=Jdf.mp hv;have eS:(Zbg n (Za3 ps))[i]?=some ((Zbg n (Za3 ps))[i]'(Zka hl hi)):=Jac _;refine Zae (h i _ _ (Jac hi) eS) λr k1 k2=>?_;have:=sm_kd k2;have e:¬ (!decide (us[i]=V.non))=true:=e;rw[this] at e;cases r with
  | none=>exact⟨_,Jai eS,k1⟩
  | some r=>exact absurd rfl e
theorem Zp9 (n:Nat)(f:Int->Int):(Zbg n f).length<=n:=by
 rw[<- Zcb];unfold Zdw Zax;rw[Jaa];refine Ja8 (Ja9 _ _) ?_;simp
def Zps (C:Addr):Sp:=λvs H Q _=>∃ (x:Addr) (n:Nat) (ps:List (Int×Int)),vs=[.ref x]/\Drw C H x (n:Nat) ps/\InP (n:Nat) ps/\1<=n/\n<=8 /\
 (Zmp n ps->∀ H',Same H H'->Q (.bl true) H')/\(BadK n ps->∀ H',Same H H'->Q (.bl false) H')
theorem ok_good (F:Fun K "is_good" "is_good" Zhh f fd)(T:Txt K mg C)(Yat:CalM P w K mg base C "kinds" 4 (Zli C)):FnOk P w K mg base CX0 5 f fd ["drawing"] (Zps C):=by
 have nd:=Zic.nd;refine F.ok Zic (λvs H Q E h=>?_) (λcdv A outer s H vs Q E hr h=>?_)
 .refine Zdv h λx n ps e94 _=>?_;clear h;obtain rfl:=e94;rfl
 .refine Zck h λx n ps e95 dw hin e96=>?_;clear h;obtain rfl:=e95;refine Zbq e96 λn0 n8 q1 q2=>?_;clear e96;refine⟨_,(~~~(Za4 (Zg0 rfl) rfl T.n_all boot_all ((Za1 (own:=["kind"]) (fr:=[]) rfl (Zbo (by kernel_rfl)) (Zav (Zqp T.cl_Drawing Yat hr.m (pv 0))) (λ_ _ _ _=>⟨(0<<<["kind"]),Za5,(Zlu op_notN (pv 0) Zhn (Zam _))⟩))<&>Zab))),?_⟩;refine Zbf (id dw) λlp xs e97 hl9 hps=>?_;obtain⟨dx,hx,hlp⟩:=e97;walk_at "wp";refine⟨_,rfl,x,dx,_,rfl,hx,Zr6 (n:Nat) lp ⇑0 ⇑0,x,(n:Nat),ps,rfl,dw,hin,∅,∅,λp us H1 s1 fp hp1 kf=>?_⟩;rw[Jaz] at kf;have ul:=kf.1;have lr:=Zp9 n (Za3 ps);refine⟨p,rfl,⟨_,SqL.of hp1⟩,λD hD=>Zbm (xs:=us) (λi vs H=>Same H1 H/\H D=some (.lst vs)/\vs=((us.take i).map λv=>!decide (v=V.non)).map V.bl) ⟨Same.new hD,Zaa,rfl⟩ (λi vs H _ k=>SqL.of (k.1 _ _ hp1)) ?_ ?_⟩
  .intro i x' vs σ' H' hi hx' sh e91;refine Zap e91 λs' e' e98=>?_;clear e91;obtain rfl:=e98;obtain⟨z,rfl⟩:=sh.one;simp only[Zcm,Za7,Zgi,List.set_cons_zero,Jdk];refine⟨_,rfl,rfl,leaf (ws:=((us.take (i+1)).map λv=>!decide (v=V.non)).map V.bl) hi Sh.mk1 e' (Zah (by rw[Jaa,Jaa,Ja4];omega)) ⟨s'.upd hD,?_,rfl⟩⟩;rw[Zaa,Jbe,hx',Ja3,Ja3];rfl
  .intro vs H4 e92;refine Zap e92 λs4 e4 e99=>?_;clear e92;obtain rfl:=e99;rw[Jbk] at e4;obtain⟨g1,g2⟩:=kds_all kf;refine⟨D,rfl,_,SqL.of e4,?_⟩;cases hb:(us.map λv=>!decide (v=V.non)).all id with
   | true=>exact q1 (g1 hb) _ (s1.trans s4)
   | false=>exact q2 (g2 hb) _ (s1.trans s4)
def spMir (C:Addr):Sp:=λvs H Q _=>∃ (p r:Addr) (m k:Int) (ps:List (Int×Int)) (ns:List Int),vs=[.ref p,.int k,.ref r]/\Drw C H p m ps/\InP m ps/\H r=some (.lst (ns.map V.int))/\ns.length=m.toNat/\0<=k/\k<m/\m<=8 /\
 ∀ (t:Addr) (H':Hp),Same H H'->H t=none->H' t=some (.lst ((Zgm k ns ps).map V.int))->Q (.ref t) H'
theorem Zfj (ns:List Int)(k:Nat)(v:Int):(ns.map V.int).set k (.int v)=(ns.set k v).map V.int:=(List.map_set).symm
theorem Zno {n:Nat}{k:Int}(h0:0<=k)(h1:k.toNat<n):ixN n k=some k.toNat:=by
 unfold ixN;simp[h0];omega
theorem ok_mir (F:Fun K "mirrored" "mirrored" Zfk f fd)(T:Txt K mg C):FnOk P w K mg base CX0 1 f fd ["drawing","point","row"] (spMir C):=by
 have nd:=Zg6.nd;refine F.ok Zg6 (λvs H Q E h=>?_) (λcdv A outer s H vs Q E hr h=>?_)
 .refine xE6_2 h λp r m k ps ns e93 _=>?_;clear h;obtain rfl:=e93;rfl
 .refine xE6_4 h λp r m k ps ns e94 e95 hin e96=>?_;clear h;obtain rfl:=e94;obtain⟨lp,xs,⟨dx,hp,hlp⟩,hl,hps⟩:=e95;refine Zfi e96 λhr1 hln k0 k1 m8 q=>?_;clear e96;have hlen:=hps.1;refine⟨_,((3|||nd|||(Zc5 Zcc rfl T.n_list Jem ((pv 2)<&>Zab)))<*>((Zd9 (pe_un Zpd (Zaw<|>(pv 2)<||>(pv 1))) (Zhm (pv 3) (pv 1) Zcn))<*>((Zb5 Jbu rfl (Zav (Zqr (pv 0) rfl)) (@Zgb _ _ _ _ _ 2 rfl ((4>>>nd)^^^((5>>>nd)^^^(@Zdo _))) ⇑1 ⇑1) (@Zan _ _ _ (@Zbb _ _ _ _ _ _ _ _ (Za6 Zcp (pv 4) (pv 1) (Zam _)) (@Zan _ _ _ (Zqg (pv 3) (pv 1) Znr (Zaw<|>(pv 2)<||>(pv 5)) Zvs Zcn)) (@Zan _ _ _ (@Zbb _ _ _ _ _ _ _ _ (Za6 Zcp (pv 5) (pv 1) (Zam _)) (@Zan _ _ _ (Zqg (pv 3) (pv 1) Znr (Zaw<|>(pv 2)<||>(pv 4)) Zvs Zcn)) Zao)))))<*>(~~~(pv 3))))),?_⟩;walk_at "wp";have hk:k.toNat<ns.length:=∅
  refine⟨_,.inl (SqL.of hr1),λl hl0=>⟨_,SqL.of (Same.new hl0 _ _ hr1),_,Zbp k0 (Zc4 hk),_,rfl,_,Zaa,_,Zno k0 (by rw[Jaa];exact hk),?_⟩⟩;rw[Zfj];have s0:Same H (upd (upd H l (.lst (ns.map V.int))) l (.lst ((ns.set k.toNat (-atZ ns k)).map V.int))):=(Same.new hl0).upd hl0;refine⟨_,rfl,p,C,dx,_,_,rfl,s0 _ _ hp,T.cl_Drawing,T.nA,Zhy _ _,lp,rfl,⟨_,SqL.of (s0 _ _ hlp)⟩,Zca (xs:=xs) (λi σ H2=>∃ (v4 v5:Option V),σ=[some (.ref p),some (.int k),some (.ref r),some (.ref l),v4,v5]/\Same H H2 /\
   H2 l=some (.lst ((ns.set k.toNat (Zk7 ns k (ps.take i)-atZ ns k)).map V.int))) ⟨none,none,rfl,s0,?_⟩ (λi σ H2 _ ⟨_,_,_,s2,_⟩=>SqL.of (s2 _ _ hlp)) ?_ ?_⟩
  .rw [Zaa];simp[Zk7,mirS]
  .intro i x σ H2 hi e91;refine Zbf e91 λv4 v5 e97 s2 hl2=>?_;clear e91;obtain rfl:=e97;have hi1:i<xs.length:=(Jak.mp hi).1;have hq:ps[i]?=some (ps[i]'(by omega)):=Jac _;refine Zae (hps.2 i x _ hi hq) λt e98 ht=>?_;obtain rfl:=e98;refine Zbq (hin _ (Jai hq)) λp0 p1 p2 p3=>?_;refine Za2 t _ ⟨rfl,SqT.of (s2 _ _ ht),rfl,_,_,rfl,_,_,rfl,rfl,?_⟩;walk_at "wp";have t0:(ps[i]'(by omega)).1.toNat<ns.length:=∅
   have t1:(ps[i]'(by omega)).2.toNat<ns.length:=∅
   have e1:ps.take (i+1)=ps.take i++[ps[i]'(by omega)]:=by rw[Jbe,hq];rfl
   have hk2:k.toNat<(ns.set k.toNat (Zk7 ns k (ps.take i)-atZ ns k)).length:=by rw[Jev];exact hk
   rw[e1,Zrg];generalize (ps[i]'(by omega))=pq at *;refine Zc8 (λhc=>?_) (λhc=>Zc8 (λhc2=>?_) (λhc2=>?_))
   .have hc:=Jaj hc;refine⟨k0,_,SqL.of hl2,_,Zc4 hk2,_,SqL.of (s2 _ _ hr1),_,Zbp p2 (Zc4 t1),_,rfl,_,rfl,_,hl2,_,Zno k0 (by rw[Jaa];exact hk2),_,_,⟨rfl,rfl⟩,s2.upd hl0,?_⟩;rw[Zaa,Zfj,List.set_set,Zju hk k0 k0,if_pos rfl,if_pos hc,(show Zk7 ns k (ps.take i)-atZ ns k+atZ ns pq.2=Zk7 ns k (ps.take i)+atZ ns pq.2-atZ ns k by omega)]
   .have hc:¬ pq.1=k:=λz=>hc (Jam z);have hc2:=Jaj hc2;refine⟨k0,_,SqL.of hl2,_,Zc4 hk2,_,SqL.of (s2 _ _ hr1),_,Zbp p0 (Zc4 t0),_,rfl,_,rfl,_,hl2,_,Zno k0 (by rw[Jaa];exact hk2),_,_,⟨rfl,rfl⟩,s2.upd hl0,?_⟩;rw[Zaa,Zfj,List.set_set,Zju hk k0 k0,if_pos rfl,if_neg hc,if_pos hc2,(show Zk7 ns k (ps.take i)-atZ ns k+atZ ns pq.1=Zk7 ns k (ps.take i)+atZ ns pq.1-atZ ns k by omega)]
   .have hc:¬ pq.1=k:=λz=>hc (Jam z);have hc2:¬ pq.2=k:=λz=>hc2 (Jam z);refine Za2 _ _ ⟨⟨rfl,rfl⟩,s2,?_⟩;rw[hl2,if_neg hc,if_neg hc2,Jfg]
  .intro σ H2 e92;refine Zbf e92 λv4 v5 e99 s2 hl2=>?_;clear e92;obtain rfl:=e99;rw[hlen,Jbk] at hl2;exact⟨_,rfl,q l H2 s2 hl0 hl2⟩
theorem mk_draw {H:Hp}{x dx a:Addr}{ys:List V}{B:List (Int×Int)}{n:Nat}{Q:VK}{E:XK}(hx:H x=none)(hdx:H dx=none)(ndx:dx≠x)(ha:H a=some (.lst ys))(l9:ys.length<=9)(pr:Prs H ys B)(iB:InP (n:Nat) B)(n0:1<=n)(n8:n<=8)(h:∀ H',Same H H'->Drw C H' x (n:Nat) B->Q .non H'):Zmx C [.ref x,.int (n:Nat),.ref a] (upd (upd H dx (.own x)) x (.ins C dx [])) Q E:=by
 have fx1:(upd H dx (.own x)) x=none:=by rw[Zag ndx.symm];exact hx
 have s1:Same H (upd (upd H dx (.own x)) x (.ins C dx [])):=(Same.new hdx).trans (Same.new fx1);refine Zit x dx _ a ys ⟨rfl,Zaa,∅,∅,s1 _ _ ha,l9,Zuk (pr.same s1) iB,λlp H8 ex8 hx8 flp hlp8=>?_⟩;have s8:Same H H8:=Same.thru s1 hx ex8;exact h H8 s8 ⟨lp,ys,⟨dx,hx8,hlp8⟩,l9,pr.same s8⟩
end
end Pf
namespace Pf
open PySem L2 PyProof.Rows
section
variable {C PL cL:Addr}
theorem at_int {ns:List Int}{i:Int}(h0:0<=i)(h1:i<ns.length):atI (ns.map V.int) i=some (.int (ns.getD i.toNat 0)):=by
 refine Zbp h0 ?_;rw[Jay,Jax,Jac (show i.toNat<ns.length by exact Zsy h0 h1)];rfl
def Zix:Sp:=λvs H Q _=>∃ (z:Addr) (ns:List Int) (k:Int),vs=[.ref z,.int k]/\H z=some (.lst (ns.map V.int))/\ns.length<=8/\0<=k/\k<ns.length/\∀ (z':Addr) (H':Hp),Same H H'->H z'=none->H' z'=some (.lst ((ns.set k.toNat (ns.getD k.toNat 0+1)).map V.int))->Q (.ref z') H'
theorem Zq2 (F:Fun K "raised" "raised" Zi4 f fd)(T:Txt K mg C):FnOk P w K mg base CX0 1 f fd ["row","point"] Zix:=by
 have nd:=Zj6.nd;refine F.ok Zj6 (λvs H Q E h=>?_) (λcdv A outer s H vs Q E hr h=>?_)
 .refine Zdv h λz ns k e91 _=>?_;clear h;obtain rfl:=e91;rfl
 .refine Zck h λz ns k e92 hz h8 e93=>?_;clear h;obtain rfl:=e92;refine Zap e93 λk0 k1 q=>?_;clear e93;refine⟨_,(~~~(Zhq<|>(Zhq<|>(@Zbz _ _ _ _ _ _ _ _ _ _ Zct (pvr 0) Zc0 (@Zcz _ _ _ (pvr 1)))<&&>(@Zbs _ _ _ _ ((Zbc<|>((ixJ Zaw)<|>(pvr 0)<||>(pvr 1))<&&>Zac)<&>Zab)))<&&>(@Zbz _ _ _ _ _ _ _ _ _ _ Zct (pvr 0) (@Zcz _ _ _ ((opJ0 Zbc)<|>(pvr 1)<&&>Zac)) Zc0))),?_⟩;walk_at "wp";have hat:atI (ns.map V.int) k=some (.int (ns.getD k.toNat 0)):=at_int k0 k1;have c1:=Zsh (ns.map V.int) k k0 (by rw[Jaa];omega);have c2:=Zsi (ns.map V.int) (k+1) ∅ (by rw[Jaa];omega);refine⟨_,SqL.of hz,λp1 h1=>?_⟩;rw[c1] at *;have s1:=Same.new (o:=.lst ((ns.map V.int).take k.toNat)) h1;refine⟨_,SqL.of (s1 _ _ hz),_,hat,_,rfl,⇑0,λp2 h2=>?_⟩;have s2:=Same.new (o:=.lst [V.int (ns.getD k.toNat 0+1)]) h2;refine⟨_,s2 _ _ Zaa,_,Zaa,Jb8 (Zah (by rw[Ja4,Jaa];show _+1<=1000;omega)),λp3 h3=>?_⟩;have s3:=Same.new (o:=.lst ((ns.map V.int).take k.toNat++[V.int (ns.getD k.toNat 0+1)])) h3;refine⟨_,SqL.of (s3 _ _ (s2 _ _ (s1 _ _ hz))),λp4 h4=>?_⟩;rw[c2] at *;have s4:=Same.new (o:=.lst ((ns.map V.int).drop (k+1).toNat)) h4;refine⟨_,s4 _ _ Zaa,_,Zaa,Jb8 (Zah (by rw[Jaq,Ja4,Jc7,Jaa];show _+1+_<=1000;omega)),λp5 h5=>?_⟩;have s5:=Same.new (o:=.lst ((ns.map V.int).take k.toNat++[V.int (ns.getD k.toNat 0+1)]++(ns.map V.int).drop (k+1).toNat)) h5;have sA:=(((s1.trans s2).trans s3).trans s4).trans s5;refine q p5 _ sA ((((s1.trans s2).trans s3).trans s4).free h5) ?_;rw[Zaa,List.set_eq_take_append_cons_drop,if_pos (Zsy k0 k1),Ja3,Jaw,Jho,List.map_drop,Ja5,show (k+1).toNat=k.toNat+1 by exact oz13 k0];rfl
theorem up_rs {n:Nat}{a:List Int}{i:Nat}(hl:a.length=n)(hi:i<n):∀ p∈Zax n,atZ (a.set i (a.getD i 0+1)) p=L3.rs (atZ a) (i:Nat) p:=λp hp=>by
 obtain⟨h0,h1⟩:=Zal.mp hp;have:=Zju (ns:=a) (k:=(i:Nat)) (i:=p) (v:=a.getD i 0+1) (by rw[Jaz];omega) ∅ h0;rw[Jaz] at this;rw[this];unfold L3.rs atZ;rw[Jaz]
theorem Zs9 {n:Nat}{f g:Int->Int}{r:Int}(hr:r∈Zax n)(h:∀ p∈Zax n,f p=g p):∀ p∈Zax n,L3.rs f r p=L3.rs g r p:=λp hp=>by
 unfold L3.rs;rw[h r hr,h p hp]
theorem Zdn (n:Nat):(Zax n).length=n:=by unfold Zax;simp
end
end Pf
namespace Pf
open PySem L2 PyProof.Rows
structure Cs where
 LimbError:Addr
 NoDrawing:Addr
 NoKind:Addr
structure Xt (K:Frag)(mg:Str->Option Value)(base:Heap)(cc:Cs):Prop where
 g_LimbError:mg "LimbError" = some (.ref cc.LimbError)
 g_NoDrawing:mg "NoDrawing" = some (.ref cc.NoDrawing)
 g_NoKind:mg "NoKind" = some (.ref cc.NoKind)
 o_LimbError:OwnCls "LimbError" cc.LimbError bmV newV mg base
 o_NoKind:OwnCls "NoKind" cc.NoKind bmV newV mg base
 u_NoKind:∃ C' nm q N bs bm hdct sn sub ab col dd k0 k1 k2 k3 k5 new,Value.ref cc.NoKind=.ref C'/\base.get? C'=some (excClassObj nm q C' N bs bm hdct sn sub ab col dd k0 k1 k2 k3 k5 new)/\bm.contains (.ref cc.LimbError)=true
 z:ExcCls K cc.NoKind
 i:(PySem.W.clsIn K cc.NoKind).isSome=true
 v:PySem.W.kitOne K (.ref cc.NoKind) (.type "ValueError")=some true
section
variable {C:Addr}{cc:Cs}
structure RtR (n:Nat)(ps:List (Int×Int))(a:List Int):Prop where
 len:a.length=n
 rt:L3.Rt (Zax n) ps (atZ a)
noncomputable def Zh5 (a:List Int):Int:=preSum (λi=>a.getD i 0) a.length
theorem Zvd (a:List Int):∀ n:Nat,preSum (λi=>a.getD i 0) n=L3.sI (atZ a) (Zax n)
 | 0=>rfl
 | n+1=>by
  have e:Zax (n+1)=Zax n++[((n:Nat):Int)]:=by unfold Zax;rw[Jde,Ja3];rfl
  rw[e,L3.Zde,<- Zvd a n];show preSum _ n+_=_;congr 1;show _=atZ a (n:Nat)+0;rw[Jfg];rfl
theorem Zj1 {n:Nat}{a:List Int}(hl:a.length=n):Zh5 a=L3.sI (atZ a) (Zax n):=by
 unfold Zh5;rw[hl];exact Zvd a n
theorem Zi8 {n:Nat}{a b:List Int}(ha:a.length=n)(hb:b.length=n)(h:∀ p∈Zax n,atZ a p=atZ b p):a=b:=by
 refine Je7 (by rw[ha,hb]) λi h1 h2=>?_;have:=h (i:Nat) (Zal.mpr ⟨∅,∅⟩);unfold atZ at this;rw[Jaz,Jax,Jax,Jac h1,Jac h2] at this;exact this
theorem Zf2 {n:Nat}{x:Int->Int}:∀ p∈Zax n,atZ ((Zax n).map x) p=x p:=by
 intro p hp;obtain⟨p0,p1⟩:=Zal.mp hp;unfold atZ Zax;rw[Jck,Jax,Jay,Jac (by rw[Jcm];exact Zsy p0 p1),List.getElem_range];show x ((p.toNat:Nat):Int)=x p;rw[Jcr p0]
theorem Zl2 {n:Nat}{a:List Int}(ha:a.length=n):(Zax n).map (atZ a)=a:=
 Zi8 (by rw[Jaa,Zdn]) ha Zf2
theorem Zt0 {pts:List Int}{ps:List (Int×Int)}{x y:Int->Int}{p:Int}(ins:L3.Ins pts ps)(h:∀ r∈pts,x r=y r):L3.nb ps x p=L3.nb ps y p:=by
 unfold L3.nb;exact L3.Zak λe he=>by rw[h _ (ins e he).1,h _ (ins e he).2]
theorem Zt1 {pts:List Int}{ps:List (Int×Int)}{x y:Int->Int}{p:Int}(ins:L3.Ins pts ps)(hp:p∈pts)(h:∀ r∈pts,x r=y r):∀ r∈pts,L3.mr ps x p r=L3.mr ps y p r:=by
 intro r hr;unfold L3.mr;rw[Zt0 ins h,h p hp,h r hr]
theorem Zi7 {pts:List Int}{ps:List (Int×Int)}{x y:Int->Int}(ins:L3.Ins pts ps)(h:∀ r∈pts,x r=y r)(R:L3.Rt pts ps x):L3.Rt pts ps y:=
 ⟨λp hp=>by rw[<- h p hp];exact R.nn p hp,by rw[<- L3.Zdm ins h];exact R.one⟩
theorem Zl0 (ns:List Int)(k:Int):∀ ps:List (Int×Int),(∀ q∈ps,¬ (q.1=k/\q.2=k))->mirS ns k ps=L3.nb ps (atZ ns) k
 | [],_=>rfl
 | q::ps,h=>by
  show mirS ns k ps+_=((if q.1=k then atZ ns q.2 else 0)+(if q.2=k then atZ ns q.1 else 0))+L3.nb ps (atZ ns) k;rw[Zl0 ns k ps λr hr=>h r (Jbd _ hr)];have:=h q (Jb4 ..);by_cases h1:q.1=k
  .have h2:¬ q.2=k:=λz=>this ⟨h1,z⟩;rw[if_pos h1,if_pos h1,if_neg h2];omega
  .rw [if_neg h1,if_neg h1];omega
theorem Zrb {n:Nat}{ps:List (Int×Int)}(d:L3.DPos (Zax n) ps){k:Int}(hk:k∈Zax n):∀ q∈ps,¬ (q.1=k/\q.2=k):=λq hq z=>by
 have l0:=L3.Ze7 d (Zcy n) hk;have:(if q.1=k/\q.2=k then (1:Int) else 0)<=_:=L3.Zd4 (g:=λe:Int×Int=>if e.1=k/\e.2=k then (1:Int) else 0) hq λe _=>by split <;> omega
 rw[if_pos z] at this;have l1:L3.sI (λe:Int×Int=>if e.1=k/\e.2=k then (1:Int) else 0) ps=0:=l0;rw[l1] at this;exact absurd this ⇑0
theorem Zrf {n:Nat}{ps:List (Int×Int)}(d:L3.DPos (Zax n) ps){k:Int}{a:List Int}(hl:a.length=n)(hk:k∈Zax n):∀ p∈Zax n,atZ (Zgm k a ps) p=L3.mr ps (atZ a) k p:=by
 intro p hp;obtain⟨k0,k1⟩:=Zal.mp hk;obtain⟨p0,p1⟩:=Zal.mp hp;unfold Zgm L3.mr;rw[Zju ∅ k0 p0];have e:Zk7 a k ps=L3.nb ps (atZ a) k:=by
  unfold Zk7;rw[Zl0 a k _ λq hq=>Zrb d hk q (List.mem_reverse.mp hq)];exact L3.Zeq (Je3 _)
 rw[e]
theorem Zhs {k:Int}{a:List Int}{ps:List (Int×Int)}:(Zgm k a ps).length=a.length:=by unfold Zgm;rw[Jev]
theorem RtR.up {n:Nat}{ps:List (Int×Int)}{a:List Int}{k:Int}(d:L3.DPos (Zax n) ps)(ins:L3.Ins (Zax n) ps)(R:RtR n ps a)(hk:k∈Zax n)(h:Zh5 a<Zh5 (Zgm k a ps)):RtR n ps (Zgm k a ps):=by
 have m:=Zrf d R.len hk;have hl:(Zgm k a ps).length=n:=Zhs.trans R.len;rw[Zj1 R.len,Zj1 hl,L3.Zak m] at h;exact⟨hl,Zi7 ins (λp hp=>(m p hp).symm) (R.rt.up d (Zcy n) hk h).1⟩
noncomputable def Zdx (n:Nat)(k:Int):List Int:=(List.replicate n 0).set k.toNat ((List.replicate n (0:Int)).getD k.toNat 0+1)
theorem Zpc {n:Nat}{k:Int}(hk:k∈Zax n):∀ p∈Zax n,atZ (Zdx n k) p=L3.rs L3.z0 k p:=by
 intro p hp;obtain⟨k0,k1⟩:=Zal.mp hk;have:=up_rs (n:=n) (a:=List.replicate n 0) (i:=k.toNat) (by rw[Jbt]) (Zsy k0 k1) p hp;unfold Zdx;rw[this,Jcr k0];refine Zs9 hk (λp _=>?_) p hp;unfold atZ L3.z0;rw[Jax,Jc2];split <;> rfl
theorem Zmr {n:Nat}{k:Int}:(Zdx n k).length=n:=by unfold Zdx;rw[Jev,Jbt]
theorem RtR.unit {n:Nat}{ps:List (Int×Int)}{k:Int}(d:L3.DPos (Zax n) ps)(ins:L3.Ins (Zax n) ps)(hk:k∈Zax n):RtR n ps (Zdx n k):=
 ⟨Zmr,Zi7 ins (λp hp=>(Zpc hk p hp).symm) (L3.Rt.unit d (Zcy n) hk)⟩
theorem RtR.count {n:Nat}{ps:List (Int×Int)}(d:L3.DPos (Zax n) ps)(ins:L3.Ins (Zax n) ps)(n8:n<=8){L:List (List Int)}(nL:L.Nodup)(h:∀ l∈L,RtR n ps l):L.length<=256:=by
 have:=L3.Zmz d ins nL λl hl=>⟨atZ l,(h l hl).rt,(Zl2 (h l hl).len).symm⟩
 rw[Zdn] at this;exact Ja8 this (Jgi ⇑0 n8)
theorem RtR.all {n:Nat}{ps:List (Int×Int)}(d:L3.DPos (Zax n) ps)(ins:L3.Ins (Zax n) ps){S:List Int->Prop}(h1:∀ k∈Zax n,S (Zdx n k))(h2:∀ a k,RtR n ps a->S a->k∈Zax n->Zh5 a<Zh5 (Zgm k a ps)->S (Zgm k a ps)){a:List Int}(R:RtR n ps a):S a:=by
 have:=L3.Zu5 d (Zcy n) ins (C:=λx=>∀ b:List Int,b.length=n->(∀ p∈Zax n,atZ b p=x p)->S b) (λx y hx e b hb eb=>hx b hb λp hp=>(eb p hp).trans (e p hp).symm)
  (λk hk b hb eb=>by rw[Zi8 hb Zmr λp hp=>(eb p hp).trans (Zpc hk p hp).symm];exact h1 k hk) (λx k rx cx hk hs b hb eb=>?_) (L3.sI (atZ a) (Zax n)).toNat R.rt (Int.le_of_eq (Jcr (L3.Zp5 R.rt.nn)).symm)
 .exact this a R.len λ_ _=>rfl
 .have hl:((Zax n).map x).length=n:=by rw[Jaa,Zdn]
  have hx:∀ p∈Zax n,atZ ((Zax n).map x) p=x p:=Zf2;have m:=Zrf d (k:=k) hl hk;have mc:=Zt1 (p:=k) ins hk hx;have em:b=Zgm k ((Zax n).map x) ps:=Zi8 hb (Zhs.trans hl) λp hp=>by rw[eb p hp,m p hp,mc p hp]
  rw[em];refine h2 _ k ⟨hl,Zi7 ins (λp hp=>(hx p hp).symm) rx⟩ (cx _ hl hx) hk ?_;rw[Zj1 hl,Zj1 (Zhs.trans hl),L3.Zak hx,L3.Zak m,L3.Zak mc];exact hs
theorem cutE {tb:TS}{D:Ends}{σ:L2.St}{H:Hp}(h:∀ D':Ends,D'=D->tb D' σ H):tb D σ H:=h D rfl
theorem Zuq {a D:Addr}{xs:List V}{fr:List (Str×Nat)}{σ:L2.St}{tt:TT}{H1:Hp}{Q:VK}(g:V->Bool)(ha:H1 a=some (.lst xs))(hD:H1 D=none)(hn:xs.length<=900)(h:∀ x H (Q:Bool->Hp->Prop),x∈xs->Same H1 H->Q (g x) H->tt (some x::Zb3 fr σ) H Q)(hQ:∀ H',Same H1 H'->H' D=some (.lst (xs.filter g))->Q (.ref D) H'):Zb4 (Za7 0) tt (Zgq 0) (Itl K a) D (Zfe 1 fr σ) H1 Q:=by
 refine Zbm (xs:=xs) (λi vs H=>Same H1 H/\H D=some (.lst vs)/\vs=(xs.take i).filter g) ⟨Same.new hD,Zaa,rfl⟩ (λi vs H _ p=>SqL.of (p.1 _ _ ha)) ?_ (λvs H ⟨s,e,hv⟩=>hQ H s (by rw[e,hv,Jbk]));intro i x vs σ' H hi hx sh e91;refine Zap e91 λs e hv=>?_;clear e91;obtain⟨z,rfl⟩:=sh.one;have et:xs.take (i+1)=xs.take i++[x]:=by rw[Jbe,hx];rfl
 have hl:=Ja9 g (xs.take i);rw[Ja4] at hl;simp only[Zcm,Za7,List.set_cons_zero];refine h x H _ (Jai hx) s (Zc8 (λhg=>?_) (λhg=>?_))
 .refine ⟨_,rfl,leaf (ws:=vs++[x]) hi Sh.mk1 e (Zah (by rw[hv];omega)) ⟨s.upd hD,Zaa,?_⟩⟩;rw[et,Jb5,hv];simp[hg]
 .refine Zow (ws:=vs) hi Sh.mk1 ⟨s,e,?_⟩;rw[et,Jb5,hv];simp[hg]
theorem Zsm {a D:Addr}{zs:List (List Int×Addr)}{fr:List (Str×Nat)}{σ:L2.St}{te:TE}{H1:Hp}{Q:VK}(ha:H1 a=some (.lst (zs.map (V.ref ·.2))))(hD:H1 D=none)(hn:zs.length<=900)(he:∀ z H (Q:VK),z∈zs->Same H1 H->(∀ t H',H t=none->Same H H'->H' t=some (.lst (z.1.map V.int))->Q (.ref t) H')->te (some (.ref z.2)::Zb3 fr σ) H Q)(hQ:∀ qs H',Same H1 H'->H' D=some (.lst qs)->RowsF D H1 H' qs (zs.map (·.1))->Q (.ref D) H'):Zb4 (Za7 0) Zgi te (Itl K a) D (Zfe 1 fr σ) H1 Q:=by
 refine Zbm (xs:=zs.map (V.ref ·.2)) (λi vs H=>Same H1 H/\H D=some (.lst vs)/\RowsF D H1 H vs ((zs.take i).map (·.1))) ⟨Same.new hD,Zaa,RowsF.nil⟩ (λi vs H _ p=>SqL.of (p.1 _ _ ha)) ?_ (λvs H ⟨s,e,hv⟩=>hQ vs H s e (by rw[Jaa,Jbk] at hv;exact hv));intro i x vs σ' H hi hx sh e92;refine Zap e92 λs e hv=>?_;clear e92;obtain⟨z0,rfl⟩:=sh.one;rw[Jay] at hx;refine Zae (Jcv.mp hx) λz ez e95=>?_;obtain rfl:=e95;have et:zs.take (i+1)=zs.take i++[z]:=by rw[Jbe,ez];rfl
 have hv1:=hv.1;rw[Jaa,Ja4] at hv1;simp only[Zcm,Za7,Zgi,List.set_cons_zero,Jdk];refine he z H _ (Jai ez) s λt H' ft s' ht=>?_;have nt:t≠D:=(Zad e ft).symm;refine leaf (ws:=vs++[.ref t]) hi Sh.mk1 (s' _ _ e) (Zah ∅) ⟨(s.trans s').upd hD,Zaa,?_⟩;have:=((hv.same s').add nt (s.free ft) ht).put (o:=.lst (vs++[.ref t]));rw[et,Ja3];exact this
def AllR (n:Nat)(ps:List (Int×Int))(rs:List (List Int)):Prop:=rs.Nodup/\(∀ r∈rs,RtR n ps r)/\∀ r,RtR n ps r->r∈rs
structure RI (n:Nat)(ps:List (Int×Int))(keys rows:List (List Int)):Prop where
 nd:keys.Nodup
 rk:∀ r∈keys,RtR n ps r
 rr:∀ r∈rows,RtR n ps r
 un:∀ k∈Zax n,Zdx n k∈keys\/Zdx n k∈rows
 cl:∀ r∈keys,∀ k∈Zax n,Zh5 r<Zh5 (Zgm k r ps)->Zgm k r ps∈keys\/Zgm k r ps∈rows
section
variable {n:Nat}{ps:List (Int×Int)}{keys keys' rows:List (List Int)}{r:List Int}
theorem RI.start (d:L3.DPos (Zax n) ps)(ins:L3.Ins (Zax n) ps):RI n ps [] ((Zax n).map (Zdx n)):=
 ⟨Jf4,λr h=>(by cases h),λr h=>by obtain⟨k,hk,rfl⟩:=Jan.mp h;exact RtR.unit d ins hk,λk hk=>.inr (Jei hk),λr h=>by cases h⟩
theorem RI.drop (I:RI n ps keys (rows++[r]))(h:r∈keys):RI n ps keys rows:=by
 have w:∀ a,a∈keys\/a∈rows++[r]->a∈keys\/a∈rows:=λa ha=>by
  rcases ha with ha|ha
  .exact .inl ha
  .rcases Jbf.mp ha with ha|ha
   .exact .inr ha
   .rw [Jas.mp ha];exact .inl h
 exact⟨I.nd,I.rk,λa ha=>I.rr a (Jb9 _ ha),λk hk=>w _ (I.un k hk),λa ha k hk hs=>w _ (I.cl a ha k hk hs)⟩
noncomputable def ups (n:Nat)(ps:List (Int×Int))(r:List Int):List (List Int):=((Zax n).map (Zgm · r ps)).filter λb=>decide (Zh5 r<Zh5 b)
theorem RI.step (d:L3.DPos (Zax n) ps)(ins:L3.Ins (Zax n) ps)(I:RI n ps keys (rows++[r]))(h:r∉keys)(p:keys'.Perm (r::keys)):RI n ps keys' (rows++ups n ps r):=by
 have rt:RtR n ps r:=I.rr r (Jap _ (Jas.mpr rfl));have mk:∀ a,a∈keys' ↔ a=r\/a∈keys:=λa=>by rw[p.mem_iff,Jao]
 have w:∀ a,a∈keys\/a∈rows++[r]->a∈keys'\/a∈rows++ups n ps r:=λa ha=>by
  rcases ha with ha|ha
  .exact .inl ((mk a).mpr (.inr ha))
  .rcases Jbf.mp ha with ha|ha
   .exact .inr (Jb9 _ ha)
   .exact .inl ((mk a).mpr (.inl (Jas.mp ha)))
 refine⟨p.nodup_iff.mpr (Jbz.mpr ⟨h,I.nd⟩),λa ha=>?_,λa ha=>?_,λk hk=>w _ (I.un k hk),λa ha k hk hs=>?_⟩
 .rcases (mk a).mp ha with rfl|ha
  .exact rt
  .exact I.rk a ha
 .rcases Jbf.mp ha with ha|ha
  .exact I.rr a (Jb9 _ ha)
  .obtain ⟨hm,hs⟩:=Jal.mp ha;refine Zae (Jan.mp hm) λk hk e96=>?_;obtain rfl:=e96;exact rt.up d ins hk (Jaj hs)
 .rcases (mk a).mp ha with rfl|ha
  .exact .inr (Jap _ (Jal.mpr ⟨Jan.mpr ⟨k,hk,rfl⟩,Jam hs⟩))
  .exact w _ (I.cl a ha k hk hs)
theorem RI.few (d:L3.DPos (Zax n) ps)(ins:L3.Ins (Zax n) ps)(n8:n<=8)(I:RI n ps keys (rows++[r]))(h:r∉keys):keys.length+1<=256:=
 RtR.count d ins n8 (L:=r::keys) (Jbz.mpr ⟨h,I.nd⟩) λa ha=>by
  rcases Jao.mp ha with rfl|ha
  .exact I.rr _ (Jap _ (Jas.mpr rfl))
  .exact I.rk a ha
theorem RI.all (d:L3.DPos (Zax n) ps)(ins:L3.Ins (Zax n) ps)(I:RI n ps keys []):AllR n ps keys:=
 ⟨I.nd,I.rk,λr hr=>RtR.all d ins (S:=λa=>a∈keys) (λk hk=>(I.un k hk).resolve_right (by simp)) (λa k _ ha hk hs=>(I.cl a ha k hk hs).resolve_right (by simp)) hr⟩
theorem AllR.perm {rs:List (List Int)}(h:AllR n ps rs)(p:keys.Perm rs):AllR n ps keys:=⟨p.nodup_iff.mpr h.1,λr hr=>h.2.1 r (p.mem_iff.mp hr),λr hr=>p.mem_iff.mpr (h.2.2 r hr)⟩
end
inductive RK (wl:Addr) (H:Hp):List V->List (List Int)->Prop
 | nil:RK wl H [] []
 | cons {t:Addr} {r:List Int} {ws:List V} {rows:List (List Int)}:t≠wl->H t=some (.lst (r.map V.int))->RK wl H ws rows->RK wl H (.ref t::ws) (r::rows)
section
variable {wl:Addr}{H H':Hp}{ws ws2:List V}{rows rows2:List (List Int)}
theorem RK.len (h:RK wl H ws rows):ws.length=rows.length:=by
 induction h with
 | nil=>rfl
 | cons _ _ _ ih=>rw[Jau,Jau,ih]
theorem RK.keep (h:RK wl H ws rows)(s:∀ t vs,t≠wl->H t=some (.lst vs)->H' t=some (.lst vs)):RK wl H' ws rows:=by
 induction h with
 | nil=>exact .nil
 | cons a b _ ih=>exact .cons a (s _ _ a b) ih
theorem RK.app (h:RK wl H ws rows)(h2:RK wl H ws2 rows2):RK wl H (ws++ws2) (rows++rows2):=by
 induction h with
 | nil=>exact h2
 | cons a b _ ih=>exact .cons a b ih
theorem RK.last (h:RK wl H ws rows)(ne:ws≠[]):∃ ws' t rows' r,ws=ws'++[.ref t]/\rows=rows'++[r]/\RK wl H ws' rows'/\t≠wl/\H t=some (.lst (r.map V.int)):=by
 induction h with
 | nil=>exact absurd rfl ne
 | @cons t r ws rows a b h ih=>
  by_cases e:ws=[]
  .subst e;have:rows=[]:=Jdu.mp h.len.symm;subst this;exact Zjx [] t [] r ⟨rfl,rfl,.nil,a,b⟩
  .refine Zce (ih e) λws' t' rows' r' e1 e2 h' e97=>?_;obtain⟨a',b'⟩:=e97;subst e1 e2;exact Zjx _ t' _ r' ⟨rfl,rfl,.cons a b h',a',b'⟩
theorem RK.of {D:Addr}{H0:Hp}{L:List (List Int)}(h:RowsF D H0 H ws L)(hw:∀ t,H0 t=none->t≠D->t≠wl):RK wl H ws L:=by
 obtain⟨hl,h⟩:=h
 induction ws generalizing L with
 | nil=>cases L with
  | nil=>exact .nil
  | cons _ _=>cases hl
 | cons q ws ih=>
  cases L with
  | nil=>cases hl
  | cons r L=>
   refine Zla (h 0 q r rfl rfl) λt e98 nD f e=>?_;obtain rfl:=e98;exact .cons (hw t f nD) e (ih (by simpa using hl) λi q r h1 h2=>h (i+1) q r h1 h2)
theorem Zrx {a b:List Int}(h:a.map V.int=b.map V.int):a=b:=by
 induction a generalizing b with
 | nil=>cases b with
  | nil=>rfl
  | cons _ _=>cases h
 | cons x a ih=>cases b with
  | nil=>cases h
  | cons y b=>
   rw[Jaw,Jaw,Jci] at h;rw[V.int.inj h.1,ih h.2]
open Classical in
noncomputable def gtV (H:Hp)(r:List Int)(v:V):Bool:=decide (∃ (t:Addr) (a:List Int),v=.ref t/\H t=some (.lst (a.map V.int))/\Zh5 r<Zh5 a)
open Classical in
theorem Zvu {t:Addr}{a r:List Int}(h:H t=some (.lst (a.map V.int))):gtV H r (.ref t)=decide (Zh5 r<Zh5 a):=by
 unfold gtV;by_cases c:Zh5 r<Zh5 a
 .rw [Jam c];exact Jam ⟨t,a,rfl,h,c⟩
 .rw [Jcg c];refine Jcg ?_;intro e93;refine Zbf e93 λt' a' e h' c'=>?_;clear e93;cases e;rw[h] at h';exact c (Zrx (HO.lst.inj (Jbn h')) ▸ c')
theorem RK.filt (h:RK wl H ws rows)(r:List Int):RK wl H (ws.filter (gtV H r)) (rows.filter λb=>decide (Zh5 r<Zh5 b)):=by
 induction h with
 | nil=>exact .nil
 | cons a b _ ih=>
  rw[List.filter_cons,List.filter_cons,Zvu b];split
  .exact .cons a b ih
  .exact ih
theorem RK.mem (h:RK wl H ws rows){v:V}(hv:v∈ws):∃ (t:Addr) (a:List Int),v=.ref t/\H t=some (.lst (a.map V.int)):=by
 induction h with
 | nil=>cases hv
 | cons a b _ ih=>
  rcases Jao.mp hv with rfl|hv
  .exact Za2 _ _ ⟨rfl,b⟩
  .exact ih hv
end
def Zlf (C NK:Addr):Sp:=λvs H Q E=>∃ (x:Addr) (n:Nat) (ps:List (Int×Int)),vs=[.ref x]/\Drw C H x (n:Nat) ps/\InP (n:Nat) ps/\1<=n/\n<=8 /\
 (BadK n ps->∀ H',Same H H'->E (.ref NK) none H') /\
 (Zmp n ps->∀ (l:Addr) (qs:List V) (rs:List (List Int)) (H':Hp),Same H H'->H l=none->H' l=some (.lst qs)->RowsF l H H' qs rs->AllR n ps rs->rs.Pairwise _root_.St.lexle->Q (.ref l) H')
theorem Ztt (F:Fun K "roots" "roots" Zll f fd)(T:Txt K mg C)(XT:Xt K mg base cc)(Yap:Cal P w K mg base "is_good" 5 (Zps C))(Yas:Cal P w K mg base "raised" 1 Zix)(Ya1:Cal P w K mg base "mirrored" 1 (spMir C)):FnOk P w K mg base (CXe P w) 6 f fd ["drawing"] (Zlf C cc.NoKind):=by
 have nd:=Zmy.nd;refine F.okE Zmy (λvs H Q E h=>?_) (λcdv A outer s H vs Q E hr h=>?_)
 .refine Zdv h λx n ps e99 _=>?_;clear h;obtain rfl:=e99;rfl
 .refine Zck h λx n ps e910 dw hin e911=>?_;clear h;obtain rfl:=e910;refine Zbq e911 λn0 n8 qb qg=>?_;clear e911;have hu1:=Zoi hr;refine⟨_,((@Zbb _ _ _ _ _ _ _ _ (Zej (Zga (Yap<$>hr<$>((pvr 0)<&>Zab)))) (@Zan _ _ _ (ps_rse XT.o_NoKind rfl (Ze9<&>Zab))) Zao)<*>((1|||nd|||(Zc5 (Zcq rfl) rfl T.n_list Jem ((Zc5 Zff rfl T.n_range Jhc ((Zlt (pvr 0) rfl)<&>Zab))<&>Zab)))<*>((Zft (i:=2) (own:=["point"]) (fr:=[("drawing",0)]) rfl (Zbo (by kernel_rfl)) (Zav (pv 1)) (λ_ _ _ _=>⟨(0<<<["point","drawing"]),Za5,(Yas<$>hr<$>((op_rep<|>(@Zbs _ _ _ _ (Zac<&>Zab))<&&>(Zqq K rfl (pv 1) rfl))<&>((pv 0)<&>Zab)))⟩) nd rfl rfl rfl)<*>((3|||nd|||(Zoj Zst rfl T.n_set boot_set))<*>((Zgt PassesOwn.leaving (Zm3 (pv 2) (λ_=>rfl)) ((Zat (i:=4) nd rfl (Or.inr rfl) (Zvh Jbh PySem.F.slot_list_pop PySem.F.type_list_pop mt_pop (pvr 2)))<*>(@Zan _ _ _ (@Zbb _ _ _ _ _ _ _ _ (Zaq (Zqy hu1) (Zc5 Zb2 rfl T.n_tuple Jgl ((pvr 4)<&>Zab)) (pvr 3) (by with_unfolding_all rfl)) ((Zb7 (pe_addR hu1 (pvr 3) ((Zc5 Zb2 rfl T.n_tuple Jgl ((pvr 4)<&>Zab))<&>Zab)))<*>((Zft (i:=5) (own:=["point"]) (fr:=[("drawing",0),("row",4)]) rfl (Zbo (by kernel_rfl)) (Zav (pv 1)) (λ_ _ _ _=>⟨(0<<<["point","drawing","row"]),Za5,(Ya1<$>hr<$>((pv 1)<&>((pv 0)<&>((pv 2)<&>Zab))))⟩) nd rfl rfl rfl)<*>(@Zan _ _ _ (Zb7 (Zfa Jbh PySem.F.slot_list_extend PySem.F.type_list_extend Zre (pvr 2) ((Za1 (own:=["mirror"]) (fr:=[("row",4)]) rfl (Zbo (by kernel_rfl)) (Zav (pv 5)) (λ_ _ _ _=>⟨(0<<<["mirror","row"]),(Zcx (Za6 Zh7 (Za4 (Zh0 K rfl rfl) rfl T.n_sum boot_sum ((pv 0)<&>Zab)) (Za4 (Zh0 K rfl rfl) rfl T.n_sum boot_sum ((pv 1)<&>Zab)) (Zam _))),(pv 0)⟩))<&>Zab)))))) Zao))))<*>(~~~(Za1 (own:=["row"]) (fr:=[]) rfl (Zbo (by kernel_rfl)) (Zav (Za4 (Zkt rfl) rfl T.n_sorted Jgz ((pv 3)<&>Zab))) (λ_ _ _ _=>⟨(0<<<["row"]),Za5,(Zc5 (Zfg K rfl) rfl T.n_list Jem ((pv 0)<&>Zab))⟩)))))))),?_⟩;refine Zbf (id dw) λlp xs e912 hl9 pr=>?_;obtain⟨dx,hx,hlp⟩:=e912;refine Zdb λX hX=>?_;walk_at "wp";refine Zcs x n ps ⟨rfl,dw,hin,n0,n8,λg H1 s1=>⟨true,rfl,Zc8 (λz=>by cases z) λ_=>?_⟩,λg H1 s1=>⟨false,rfl,iteP ⇑0 ⟨⇑0,qb g H1 s1⟩⟩⟩;have d:=Zue hin n8 g;have ins:=Zjk hin;refine hX _ _ _ ?_;refine Zdb λX hX=>?_;walk_at "wp";refine Zcs C dx _ ⟨s1 _ _ hx,T.cl_Drawing,T.nM,_,rfl,(n:Nat),rfl,λp hp=>⟨0,(n:Nat),Zaa,⟨⇑0,⇑0,∅,∅⟩,∅,λpl hpl=>?_⟩⟩;have s2:Same H1 (upd (upd H1 p (.rng 0 (n:Nat))) pl (.lst (Zk6 0 (n:Nat)))):=(Same.new hp).trans (Same.new hpl);have hpl2:upd (upd H1 p (.rng 0 (n:Nat))) pl (.lst (Zk6 0 (n:Nat))) pl=some (.lst ((Zax n).map V.int)):=by rw[Zaa,Zjd,Zvb,Jaz]
  generalize upd (upd H1 p (.rng 0 (n:Nat))) pl (.lst (Zk6 0 (n:Nat)))=H2 at *;have s12:=s1.trans s2;refine hX _ _ _ ?_;refine Zdb λX hX=>?_;walk_at "wp";simp only[Zgj,Zgn,Zgq];refine⟨_,rfl,pl,rfl,⟨_,SqL.of hpl2⟩,λwl hwl=>Zmd (λ_=>true) (λk=>Zdx n k) hpl2 hwl (by rw[Zdn];omega) (λk H' Q' _ _ q=>q) (λk H' Q' hk s' q=>?_) (λqs H3 s3 hw3 rf=>?_)⟩
  .obtain ⟨k0,k1⟩:=Zal.mp hk;walk_at "wp";refine⟨⇑0,λp3 hp3=>⟨_,rfl,x,rfl,C,dx,_,(s12.trans (s'.trans (Same.new hp3))) _ _ hx,T.cl_Drawing,T.nM,_,rfl,p3,(n:Nat),[V.int 0],rfl,rfl,Zaa,∅,∅,Jb8 (Zah (by rw[Jaz];show 1*n<=1000;omega)),λp4 hp4=>?_⟩⟩;have u4:=(Same.new (o:=.lst [V.int 0]) hp3).trans (Same.new (o:=.lst (List.replicate (Int.toNat (n:Nat)) [V.int 0]).flatten) hp4);have hp4':upd (upd H' p3 (.lst [V.int 0])) p4 (.lst (List.replicate (Int.toNat (n:Nat)) [V.int 0]).flatten) p4=some (.lst ((List.replicate n (0:Int)).map V.int)):=by rw[Zaa,Jaz,List.map_replicate];simp
   generalize upd (upd H' p3 (.lst [V.int 0])) p4 (.lst (List.replicate (Int.toNat (n:Nat)) [V.int 0]).flatten)=H4 at *;exact Zcs p4 (List.replicate n 0) k ⟨rfl,hp4',by rw[Jbt];exact n8,k0,by rw[Jbt];exact k1,λz' H5 s5 fz hz=>q z' H5 (u4.free fz) (u4.trans s5) hz⟩
  .rw [Jg0.mpr (λ_ _=>rfl)] at rf;refine hX _ _ _ ?_;refine Zdb λX hX=>?_;walk_at "wp";intro z hz;have f2z:H2 z=none:=s3.free hz;have nzw:z≠wl:=(Zad hw3 hz).symm;refine hX _ _ _ ?_;refine Zdb λX hX=>?_;refine⟨λm σ Hk=>∃ (v4 v5:Option V) (ws:List V) (rows:List (List Int)) (xs:List (List Int×Addr)),σ=[some (.ref x),some (.ref pl),some (.ref wl),some (.ref z),v4,v5]/\Same H2 Hk/\Hk wl=some (.lst ws)/\Hk z=some (Zk4 P w z xs) /\
    RK wl Hk ws rows/\(∀ y∈xs,Zo8 Hk y)/\RI n ps (xs.map (·.1)) rows/\m=(256-xs.length)*9+ws.length/\m<=2320,⟨256*9+qs.length,none,none,qs,_,[],rfl,s3.trans (Same.new hz),by rw[Zag nzw.symm];exact hw3,Zaa,?_,λy hy=>(by cases hy),RI.start d ins,rfl,?_⟩,?_⟩
   .refine (RK.of rf λt ft nt=>nt).keep λt vs _ e=>?_;rw[Zag (Zad e hz)];exact e
   .have:=rf.1;rw[Jaa,Zdn] at this;omega
   intro m σ Hk e94;refine Zel e94 λv4 v5 ws rows ys e913 sk hkw e914=>?_;clear e94;obtain rfl:=e913;refine Zfi e914 λhkz rk ry ri hm hm2=>?_;clear e914;refine⟨_,rfl,!ws.isEmpty,.inl ⟨ws,SqL.of hkw,rfl⟩,Zc8 (λhne=>⟨_,λσ' H' h=>h,?_⟩) (λhe=>?_)⟩
   .refine cutE λD' hD=>?_;have ne:ws≠[]:=λe=>by rw[e] at hne;cases hne
    refine Zce (rk.last ne) λws' t rows' r e915 e916 rk' e917=>?_;obtain rfl:=e915;obtain rfl:=e916;obtain⟨ntw,ht⟩:=e917;refine Zdb λX2 hX2=>?_;walk_at "wp";refine⟨.inl ⟨rfl,_,SqL.of hkw⟩,_,hkw,.ref t,by simp,?_⟩;rw[List.dropLast_concat];have hw5:(upd Hk wl (.lst ws')) wl=some (.lst ws'):=Zaa;have o5:∀ b o,b≠wl->Hk b=some o->(upd Hk wl (.lst ws')) b=some o:=λb o hb e=>by rw[Zag hb];exact e
    have s5:Same H2 (upd Hk wl (.lst ws')):=sk.upd hwl;generalize upd Hk wl (.lst ws')=H5 at *;have hz5:=o5 _ _ nzw hkz;have ht5:=o5 _ _ ntw ht;have ry5:∀ y∈ys,Zo8 H5 y:=λy hy=>o5 _ _ (Zh8 (ry y hy) hkw (by simp)) (ry y hy);have rk5:RK wl H5 ws' rows':=rk'.keep λt vs nt e=>o5 _ _ nt e;refine hX2 _ _ _ ?_;refine cutI λA2 hA2=>?_;walk_at "wp";have lw:(ws'++[V.ref t]).length=ws'.length+1:=by rw[Jaq,Jew]
    refine⟨r.map V.int,.inl ⟨SqL.of ht5,λb1 hb1=>⟨ys,r,Zaa,(Same.new hb1) _ _ hz5,λy hy=>(Same.new hb1) _ _ (ry5 y hy),λc hc=>?_⟩⟩⟩;have s6:=Same.new (o:=.tup (r.map V.int)) hb1;generalize upd H5 b1 (.tup (r.map V.int))=H6 at *;have hz6:=s6 _ _ hz5;have hw6:=s6 _ _ hw5;have ht6:=s6 _ _ ht5;have ry6:∀ y∈ys,Zo8 H6 y:=λy hy=>s6 _ _ (ry5 y hy);have rk6:RK wl H6 ws' rows':=rk5.keep λt vs _ e=>s6 _ _ e;have t6:=s5.trans s6;refine Zc8 (λc1=>?_) (λc0=>?_)
    .have hn:=hc.mp c1;have nk:r∉ys.map (·.1):=λz=>by
      refine Zae (Jan.mp z) λy hy e=>?_;exact hn y hy e
     have few:=ri.few d ins n8 nk;rw[Jaa] at few;subst hA2;refine Zdb λX2 hX2=>?_;walk_at "wp";refine⟨⟨_,hz6⟩,r.map V.int,.inl ⟨SqL.of ht6,λb2 hb2=>⟨ys,r,Zaa,(Same.new hb2) _ _ hz6,λy hy=>(Same.new hb2) _ _ (ry6 y hy),hn,few,λys' pm=>?_⟩⟩⟩;have s7:=Same.new (o:=.tup (r.map V.int)) hb2;have hb7:(upd H6 b2 (.tup (r.map V.int))) b2=some (.tup (r.map V.int)):=Zaa;generalize upd H6 b2 (.tup (r.map V.int))=H7 at *;have hz7:=s7 _ _ hz6;have o8:∀ b o,b≠z->H7 b=some o->(upd H7 z (Zk4 P w z ys')) b=some o:=λb o hb e=>by rw[Zag hb];exact e
     have hz8:(upd H7 z (Zk4 P w z ys')) z=some (Zk4 P w z ys'):=Zaa;have t8:Same H2 (upd H7 z (Zk4 P w z ys')):=(t6.trans s7).upd f2z;generalize upd H7 z (Zk4 P w z ys')=H8 at *;have ft:∀ b vs,H7 b=some (.tup vs)->H8 b=some (.tup vs):=λb vs e=>o8 _ _ (Zh8 e hz7 λq=>by cases q) e;have fl:∀ b vs,H7 b=some (.lst vs)->H8 b=some (.lst vs):=λb vs e=>o8 _ _ (Zh8 e hz7 λq=>by cases q) e;have ry8:∀ y∈ys',Zo8 H8 y:=λy hy=>by
      rcases Jao.mp (pm.mem_iff.mp hy) with rfl|hy
      .exact ft _ _ hb7
      .exact ft _ _ (s7 _ _ (ry6 y hy))
     have rk8:RK wl H8 ws' rows':=rk6.keep λt vs _ e=>fl _ _ (s7 _ _ e);have hw8:=fl _ _ (s7 _ _ hw6);have ht8:=fl _ _ (s7 _ _ ht6);have ri8:=ri.step d ins nk (keys':=ys'.map (·.1)) (pm.map (·.1));have ly:ys'.length=ys.length+1:=pm.length_eq;have rr:=ri.rr r (Jap _ (Jas.mpr rfl));refine hX2 _ _ _ ?_;refine Zdb λX2 hX2=>?_;walk_at "wp";simp only[Zgj,Zgn,Zgq];refine⟨_,rfl,pl,rfl,⟨_,SqL.of (t8 _ _ hpl2)⟩,λml hml=>Zmd (λ_=>true) (λk=>Zgm k r ps) (t8 _ _ hpl2) hml (by rw[Zdn];omega) (λk H' Q' _ _ q=>q) (λk H' Q' hk s' q=>?_) (λqs2 H9 s9 hm9 rf9=>?_)⟩
     .obtain ⟨k0,k1⟩:=Zal.mp hk;walk_at "wp";exact⟨_,rfl,_,rfl,x,t,(n:Nat),k,ps,r,rfl,dw.same ((s12.trans t8).trans s'),hin,s' _ _ ht8,by rw[Jaz];exact rr.len,k0,k1,∅,λt' H'' s'' ft' ht'=>q t' H'' ft' s'' ht'⟩
     .rw [Jg0.mpr (λ_ _=>rfl)] at rf9;have rk9:RK wl H9 qs2 ((Zax n).map (Zgm · r ps)):=RK.of rf9 λt' ft' _=>(Zad hw8 ft').symm;have l9:=rk9.len;rw[Jaa,Zdn] at l9;refine hX2 _ _ _ ?_;walk_at "wp";refine⟨.inl ⟨rfl,_,SqL.of (s9 _ _ hw8)⟩,?_⟩;simp only[Zgj,Zgn,Zgq];refine⟨_,rfl,ml,rfl,⟨_,SqL.of hm9⟩,λD hD10=>Zuq (gtV H9 r) hm9 hD10 ∅ (λv H' Q' hv s' q=>?_) (λH10 s10 e10=>?_)⟩
      .refine Zcl (rk9.mem hv) λt' a e918 ht'=>?_;obtain rfl:=e918;rw[Zvu ht'] at q;walk_at "wp";exact⟨_,SqL.of (s' _ _ ht'),_,rfl,t,rfl,_,SqL.of (s' _ _ (s9 _ _ ht8)),q⟩
      .have lf:=Ja9 (gtV H9 r) qs2;have hw10:=s10 _ _ (s9 _ _ hw8);have s810:=s9.trans s10;have nDw:D≠wl:=(Zad (s9 _ _ hw8) hD10).symm;refine⟨D,rfl,_,hw10,_,e10,by rw[Jc8];omega,?_⟩;subst hD;refine⟨(256-ys'.length)*9+(ws'++qs2.filter (gtV H9 r)).length,by rw[Jaq];omega,_,_,_,_,ys',rfl,(t8.trans s810).upd hwl,Zaa,?_,?_,λy hy=>?_,ri8,rfl,by rw[Jaq];omega⟩
       .rw [Zag nzw];exact s810 _ _ hz8
       .exact (rk8.keep λt vs nt e=>by rw[Zag nt];exact s810 _ _ e).app ((rk9.filt r).keep λt vs nt e=>by rw[Zag nt];exact s10 _ _ e)
       .show upd H10 wl _ y.2=_;rw[Zag (Zh8 (ry8 y hy) hw8 λq=>by cases q)];exact s810 _ _ (ry8 y hy)
    .have hk:r∈ys.map (·.1):=Jah λz=>c0 (hc.mpr λy hy e=>z (Jan.mpr ⟨y,hy,e⟩));subst hD;exact⟨(256-ys.length)*9+ws'.length,∅,_,_,ws',rows',ys,rfl,t6,hw6,hz6,rk6,ry6,ri.drop hk,rfl,∅⟩
   .have e:ws=[]:=by cases ws with
     | nil=>rfl
     | cons _ _=>exact absurd rfl he
    subst e;have e2:rows=[]:=Jdu.mp rk.len.symm;subst e2;have all:=ri.all d ins;have few:ys.length<=256:=by
     have:=RtR.count d ins n8 all.1 all.2.1;rwa [Jaa] at this
    refine hX _ _ _ ?_;walk_at "wp";simp only[Zgj,Zgn,tCB,Ze1,Zgq,Zmu];refine⟨_,rfl,z,rfl,ys,hkz,λy hy=>⟨ry y hy,by rw[(all.2.1 _ (Jei hy)).len];omega⟩,few,λl zs hl pm so=>⟨l,rfl,⟨_,SqL.of Zaa⟩,λD hD=>?_⟩⟩;have s4:=Same.new (o:=.lst (zs.map (V.ref ·.2))) hl;refine Zsm Zaa hD (by rw[pm.length_eq];omega) (λy H' Q' hy s' q=>?_) (λqs H' s' e' rf'=>?_)
    .refine ⟨_,rfl,y.2,rfl,_,.inr (SqT.of ((s4.trans s') _ _ (ry y (pm.mem_iff.mp hy)))),λl' hl'=>q l' _ hl' (Same.new hl') Zaa⟩
    .have t1:=(s12.trans sk).trans s4;exact qg g D qs _ H' (t1.trans s') (t1.free hD) e' (rf'.old t1) (all.perm (pm.map _)) so
end
end Pf
namespace Pf
open PySem L2 PyProof.Rows
section
variable {C:Addr}
def Zpr:Sp:=λvs H Q _=>∃ (l:Addr) (m:Int),vs=[.ref l,.int m]/\Bag H l/\0<=m/\m<=8 /\
 ∀ (p:Addr) (ys:List Int) (H':Hp),Ext l H H'->Bag H' l->H p=none->H' p=some (.lst (ys.map V.int))->(ys.length:Int)=m->InR m ys->ys.Nodup->Q (.ref p) H'
theorem ok_ordN (F:Fun K "_law_order" "_law_order" Zen f fd)(T:Txt K mg C)(Yaa:Cal P w K mg base "_law_draw" 1 Ze3):FnOk P w K mg base CX0 2 f fd ["_law_bag_here","_law_many_here"] Zpr:=by
 have nd:=Zf4.nd;refine F.ok Zf4 (λvs H Q E h=>?_) (λcdv A outer s H vs Q E hr h=>?_)
 .refine Zcl h λl m e92 _=>?_;clear h;obtain rfl:=e92;rfl
 .refine Zk9 h λl m e93 hb m0 m8 q=>?_;clear h;obtain rfl:=e93;refine⟨_,((2|||nd|||(Zc5 (Zcq rfl) rfl T.n_list Jem ((Zc5 Zff rfl T.n_range Jhc ((pvr 1)<&>Zab))<&>Zab)))<*>((3|||nd|||(@Zbs _ _ _ _ Zab))<*>((Zgt Jbu (Za6 Zh7 (Za4 Zaj rfl T.n_len Jbo ((pv 2)<&>Zab)) Zac (Zam _)) ((4|||nd|||(Yaa<$>hr<$>((pvr 0)<&>((Za4 Zaj rfl T.n_len Jbo ((pvr 2)<&>Zab))<&>Zab))))<*>((Zb7 (Zfa Jbh Jb6 Jb7 (mtJ Zbj) (pvr 3) ((Zaw<|>(pvr 2)<||>(pvr 4))<&>Zab)))<*>(@Zan _ _ _ (2|||nd|||(Zhq<|>(@Zbz _ _ _ _ _ _ _ _ _ _ Zct (pvr 2) Zc0 (@Zcz _ _ _ (pvr 4)))<&&>(@Zbz _ _ _ _ _ _ _ _ _ _ Zct (pvr 2) (@Zcz _ _ _ (Zbc<|>(pvr 4)<&&>Zac)) Zc0)))))))<*>(~~~(pvr 3))))),?_⟩;walk_at "wp";intro p hp;refine Za2 _ _ ⟨Zaa,⟨⇑0,⇑0,∅,∅⟩,∅,λl1 hl1=>⟨⇑0,λp1 hp1=>?_⟩⟩;have hpl:=hb.ne hp;have b1:Bag (upd H p (.rng 0 m)) l:=hb.new hpl;have hll:=b1.ne hl1;have b2:Bag (upd (upd H p (.rng 0 m)) l1 (.lst (Zk6 0 m))) l:=b1.new hll;have hl1p:p1≠l1:=(Zad Zaa hp1).symm;have hHp1:H p1=none:=((Same.new hp).trans (Same.new hl1)).free hp1;rw[Zqc] at *;refine⟨λk σ H2=>∃ (pl:Addr) (ls rs:List Int) (v:Option V),σ=[some (.ref l),some (.int m),some (.ref pl),some (.ref p1),v]/\k=ls.length/\Ext l H H2/\Bag H2 l /\
   H2 pl=some (.lst (ls.map V.int))/\H2 p1=some (.lst (rs.map V.int))/\pl≠p1/\pl≠l/\((ls.length:Int)+rs.length=m)/\InR m ls/\InR m rs/\(ls++rs).Nodup,?_,?_⟩
  .refine Zit _ l1 ((List.range (m-0).toNat).map λ(i:Nat)=>(0:Int)+(i:Int)) [] none ⟨rfl,rfl,?_,b2.new (b2.ne hp1),?_,Zaa,hl1p.symm,hll,?_,?_,(λ_ h=>nomatch h),?_⟩
   .exact ((Ext.new hp).trans (Ext.new hl1)).trans (Ext.new hp1)
   .rw [Zag hl1p.symm,Zaa]
   .rw [Jaa,Jcm];simp;omega
   .intro y hy;refine Zae (Jan.mp hy) λi hi e94=>?_;obtain rfl:=e94;have:=Jb3.mp hi;omega
   .rw [Jcy];exact Je2.mpr (Je8.imp λne e=>ne ∅)
  .intro k σ H2 e91;refine Zce e91 λpl ls rs v e95 e96 ex e97=>?_;clear e91;obtain rfl:=e95;obtain rfl:=e96;refine xE0_9 e97 λhb2 hpl2 hp12 n1 n2 hlen il ir nn=>?_;clear e97;walk_at "wp";refine⟨_,.inl (SqL.of hpl2),Zc8 (λhc=>?_) (λhc=>?_)⟩
   .refine ⟨_,λ_ _ h=>h,?_⟩;have hc:=Jaj hc;rw[Jaa] at hc;walk_at "wp";refine⟨_,.inl (SqL.of hpl2),?_⟩;refine Zbf hb2 λa b hla b0 b1'=>?_;clear hb2;rw[Jaa];refine Zjx l a b _ ⟨rfl,hla,b0,b1',hc,∅,λr a' b' r0 r1 c0 c1=>?_⟩;have hr1:r.toNat<ls.length:=∅
    have hp1l:p1≠l:=hb.ne hHp1;have h3pl:(upd H2 l (Zn9 a' b')) pl=some (.lst (ls.map V.int)):=by rw[Zag n2];exact hpl2
    have h3p1:(upd H2 l (Zn9 a' b')) p1=some (.lst (rs.map V.int)):=by rw[Zag hp1l];exact hp12
    have e1:Ext l H (upd H2 l (Zn9 a' b')):=ex.trans Ext.set;have B1:Bag (upd H2 l (Zn9 a' b')) l:=Bag.set c0 c1;refine⟨.inl ⟨rfl,_,SqL.of h3p1⟩,_,r,rfl,SqL.of h3pl,V.int (ls[r.toNat]),Zbp r0 (by rw[Jay,Jac hr1];rfl),_,h3p1,Zah (by rw[Jaa];omega),r,rfl,_,
     SqL.of (by rw[Zag n1];exact h3pl),λp2 hp2=>⟨r,rfl,ls.map V.int,SqL.of ?g1,λp3 hp3=>⟨Zf0 (ls.map V.int) none (some r),?g2,_,Zaa,?g3,λp4 hp4=>?g4⟩⟩⟩
    case g1=>
     have:pl≠p2:=Zad (by rw[Zag n1];exact h3pl) hp2;rw[Zag this,Zag n1];exact h3pl
    case g2=>rw[Zag (Zad Zaa hp3)];exact Zaa
    case g3=>
     have h1:=Zc3 (ls.map V.int) none (some r);have h2:=Zc3 (ls.map V.int) (some (r+1)) none;rw[Jaa] at h1 h2;exact Jb8 (Zah ∅)
    case g4=>
     have e2:=e1.upd (o:=.lst (rs.map V.int++[V.int ls[r.toNat]])) hHp1;have B2:Bag (upd (upd H2 l (Zn9 a' b')) p1 (.lst (rs.map V.int++[V.int ls[r.toNat]]))) l:=B1.new hp1l;have e3:=e2.trans (Ext.new (o:=.lst (Zf0 (ls.map V.int) none (some r))) hp2);have B3:=B2.new (o:=.lst (Zf0 (ls.map V.int) none (some r))) (B2.ne hp2);have e4:=e3.trans (Ext.new (o:=.lst (Zf0 (ls.map V.int) (some (r+1)) none)) hp3);have B4:=B3.new (o:=.lst (Zf0 (ls.map V.int) (some (r+1)) none)) (B3.ne hp3);have n21:p2≠p1:=(Zad Zaa hp2).symm;have q2:(upd (upd (upd H2 l (Zn9 a' b')) p1 (.lst (rs.map V.int++[V.int ls[r.toNat]]))) p2 (.lst (Zf0 (ls.map V.int) none (some r)))) p1=some (.lst (rs.map V.int++[V.int ls[r.toNat]])):=by
      rw[Zag n21.symm];exact Zaa
     have n31:p1≠p3:=Zad q2 hp3;have q3:(upd (upd (upd (upd H2 l (Zn9 a' b')) p1 (.lst (rs.map V.int++[V.int ls[r.toNat]]))) p2 (.lst (Zf0 (ls.map V.int) none (some r)))) p3 (.lst (Zf0 (ls.map V.int) (some (r+1)) none))) p1=some (.lst (rs.map V.int++[V.int ls[r.toNat]])):=by
      rw[Zag n31];exact q2
     have n41:p1≠p4:=Zad q3 hp4;refine⟨(ls.take r.toNat++ls.drop (r.toNat+1)).length,by rw[Jaq,Ja4,Jc7];exact oz51 hr1,p4,ls.take r.toNat++ls.drop (r.toNat+1),rs++[ls[r.toNat]],_,⟨rfl,rfl⟩,rfl,e4.trans (Ext.new hp4),B4.new (B4.ne hp4),?_,?_,n41.symm,B4.ne hp4,?_,?_,?_,?_⟩
     .rw [Zaa,Zsh _ _ r0 (by rw[Jaa];omega),Zsi _ _ ∅ (by rw[Jaa];omega),Ja3,Jho,List.map_drop,show (r+1).toNat=r.toNat+1 by exact oz13 r0]
     .rw [Zag n41,q3,Ja3];rfl
     .rw [Jaq,Jaq,Ja4,Jc7];simp;exact oz58 hlen hr1
     .intro y hy;rcases Jbf.mp hy with h|h
      .exact il y (Jdg h)
      .exact il y (Jea h)
     .intro y hy;rcases Jbf.mp hy with h|h
      .exact ir y h
      .rw [Jas.mp h];exact il _ (Jcb hr1)
     .refine (List.Perm.nodup_iff ?_).mp nn;have e:ls=ls.take r.toNat++ls[r.toNat]::ls.drop (r.toNat+1):=by rw[Jfy,Jbx]
      have p1:ls.Perm (ls[r.toNat]::(ls.take r.toNat++ls.drop (r.toNat+1))):=by
       have:=List.perm_middle (a:=ls[r.toNat]) (l₁:=ls.take r.toNat) (l₂:=ls.drop (r.toNat+1));rwa [<- e] at this
      refine (p1.append_right rs).trans ?_;rw[List.cons_append,<- Ja5];exact (List.perm_append_singleton _ _).symm
   .have hc:¬ (0:Int)<((ls.map V.int).length:Nat):=λz=>hc (Jam z);rw[Jaa] at hc;have e0:ls=[]:=Jdu.mp ∅;subst e0;exact q p1 rs H2 ex hb2 hHp1 hp12 ∅ ir nn
inductive PK (H:Hp):List V->List (Int×Int)->Prop
 | nil:PK H [] []
 | cons {t:Addr} {q:Int×Int} {ws:List V} {qs:List (Int×Int)}:H t=some (.tup [.int q.1,.int q.2])->PK H ws qs->PK H (.ref t::ws) (q::qs)
section
variable {H H':Hp}{ws ws2:List V}{qs qs2:List (Int×Int)}
theorem PK.len (h:PK H ws qs):ws.length=qs.length:=by
 induction h with
 | nil=>rfl
 | cons _ _ ih=>rw[Jau,Jau,ih]
theorem PK.keep (h:PK H ws qs)(s:∀ t vs,H t=some (.tup vs)->H' t=some (.tup vs)):PK H' ws qs:=by
 induction h with
 | nil=>exact .nil
 | cons a _ ih=>exact .cons (s _ _ a) ih
theorem PK.same (h:PK H ws qs)(s:Same H H'):PK H' ws qs:=h.keep λt vs e=>s _ _ e
theorem PK.put (h:PK H ws qs){D:Addr}{l:List V}{o:HO}(hD:H D=some (.lst l)):PK (upd H D o) ws qs:=h.keep λt vs e=>by rw[Zag (Zh8 e hD λz=>by cases z)];exact e
theorem PK.bag (h:PK H ws qs){l:Addr}(b:Bag H l)(e:Ext l H H'):PK H' ws qs:=by
 obtain⟨ys,hl⟩:=b.lst;exact h.keep λt vs q=>e _ _ (Zh8 q hl λz=>by cases z) q
theorem PK.app (h:PK H ws qs)(h2:PK H ws2 qs2):PK H (ws++ws2) (qs++qs2):=by
 induction h with
 | nil=>exact h2
 | cons a _ ih=>exact .cons a ih
theorem PK.snoc {t:Addr}{i j:Int}(h:PK H ws qs)(ht:H t=none):PK (upd H t (.tup [.int i,.int j])) (ws++[.ref t]) (qs++[(i,j)]):=
 (h.same (Same.new ht)).app (.cons Zaa .nil)
theorem PK.at_ {k:Nat}(h:PK H ws qs)(hk:k<ws.length):∃ t q,ws[k]?=some (.ref t)/\qs[k]?=some q/\H t=some (.tup [.int q.1,.int q.2]):=by
 induction h generalizing k with
 | nil=>cases hk
 | cons a _ ih=>
  cases k with
  | zero=>exact⟨_,_,rfl,rfl,a⟩
  | succ k=>
   refine Zbf (ih (Nat.lt_of_succ_lt_succ hk)) λt q e1 e2 e3=>?_;exact Za2 t q ⟨e1,e2,e3⟩
theorem PK.take (h:PK H ws qs)(k:Nat):PK H (ws.take k) (qs.take k):=by
 induction h generalizing k with
 | nil=>rw[List.take_nil,List.take_nil];exact .nil
 | cons a _ ih=>
  cases k with
  | zero=>exact .nil
  | succ k=>exact .cons a (ih k)
theorem PK.drop (h:PK H ws qs)(k:Nat):PK H (ws.drop k) (qs.drop k):=by
 induction h generalizing k with
 | nil=>rw[List.drop_nil,List.drop_nil];exact .nil
 | cons a h ih=>
  cases k with
  | zero=>exact .cons a h
  | succ k=>exact ih k
theorem PK.prs (h:PK H ws qs):Prs H ws qs:=by
 refine⟨h.len,λi x q h1 h2=>?_⟩;refine Zbf (h.at_ (k:=i) (Jak.mp h1).1) λt q' e1 e2 e3=>?_;rw[e1] at h1;rw[e2] at h2;cases h1;cases h2;exact⟨t,rfl,e3⟩
end
structure OutD (l:Addr)(H:Hp)(p e:Addr)(n:Nat)(xs:List V)(ps:List (Int×Int))(H':Hp):Prop where
 ext:Ext l H H'
 bag:Bag H' l
 tup:H' p=some (.tup [.int (n:Nat),.ref e])
 lst:H' e=some (.lst xs)
 new:H e=none
 lo:1<=n
 hi:n<=8
 pk:PK H' xs ps
 len:ps.length<=9
 ip:InP (n:Nat) ps
 dp:L3.DPos (Zax n) ps
def Ze2 (k0 k1:Int):Sp:=λvs H Q _=>∃ (l:Addr) (k:Int),vs=[.ref l,.int k]/\k0<=k/\k<=k1/\Bag H l/\∀ p e n xs ps H',OutD l H p e n xs ps H'->Q (.ref p) H'
theorem OutD.fin {l p t:Addr}{m:Int}{n:Nat}{xs:List V}{ps:List (Int×Int)}{H H2:Hp}(em:m=n)(ex:Ext l H H2)(b:Bag H2 l)(hp:H2 p=some (.lst xs))(new:H p=none)(lo:1<=n)(hi:n<=8)(pk:PK H2 xs ps)(len:ps.length<=9)(ip:InP (n:Nat) ps)(dp:L3.DPos (Zax n) ps)(ht:H2 t=none):
  OutD l H t p n xs ps (upd H2 t (.tup [.int m,.ref p])):=
 ⟨ex.trans (Ext.new ht),b.new (b.ne ht),by rw[Zaa,em],by rw[Zag (Zad hp ht)];exact hp,new,lo,hi,pk.same (Same.new ht),len,ip,dp⟩
theorem OutD.done {l p t:Addr}{m:Int}{n:Nat}{xs:List V}{ps:List (Int×Int)}{H H2 H5:Hp}(em:m=n)(ex:Ext l H H2)(b:Bag H2 l)(s:Same H2 H5)(hp:H5 p=none)(lo:1<=n)(hi:n<=8)(pk:PK H5 xs ps)(len:ps.length<=9)(ip:InP (n:Nat) ps)(dp:L3.DPos (Zax n) ps)(ht:(upd H5 p (.lst xs)) t=none):
  OutD l H t p n xs ps (upd (upd H5 p (.lst xs)) t (.tup [.int m,.ref p])):=
 have b5:=b.same s;have e5:Ext l H H5:=ex.trans s.ext
 OutD.fin em (e5.trans (Ext.new hp)) (b5.new (b5.ne hp)) Zaa (e5.free (b5.ne hp) hp) lo hi (pk.same (Same.new hp)) len ip dp ht
theorem aE_at {i:Nat}(h:i<7):L3.aE[i]?=some ((i:Int),(i:Int)+1):=by
 have:i=0\/i=1\/i=2\/i=3\/i=4\/i=5\/i=6:=∅
 rcases this with rfl|rfl|rfl|rfl|rfl|rfl|rfl <;> rfl
theorem sub_a {n:Nat}{ps:List (Int×Int)}(h1:1<=n)(h8:n<=8)(s:ps.Sublist (L3.aE.take (n-1))):InP (n:Nat) ps/\L3.DPos (Zax n) ps/\ps.length<=9:=
 ⟨λq hq=>L3.Zq6 (L3.okA h1 h8) q (s.subset hq),L3.Zun s (L3.bsD L3.pos_a h8 (L3.okA h1 h8)),by have:=s.length_le;rw[Ja4] at this;omega⟩
theorem Zew {fr:List (Str×Nat)}{σ:L2.St}{t1 t2:TE}{lo:Int}{n:Nat}{D:Addr}{H1:Hp}{Q:VK}(a b:Nat->Int)(hD:H1 D=none)(hn:n<=9)(h1:∀ i H Q,i<n->Q (.int (a i)) H->t1 (some (.int (lo+(i:Nat)))::Zb3 fr σ) H Q)(h2:∀ i H Q,i<n->Q (.int (b i)) H->t2 (some (.int (lo+(i:Nat)))::Zb3 fr σ) H Q)(hQ:∀ xs H',Same H1 H'->H' D=some (.lst xs)->PK H' xs ((List.range n).map λi=>(a i,b i))->Q (.ref D) H'):
  Zb4 (Za7 0) Zgi (tTup (Ze1 t1 (Ze1 t2 Zmu))) (Itr lo n) D (Zfe 1 fr σ) H1 Q:=by
 refine Zgy (λi vs H=>Same H1 H/\H D=some (.lst vs)/\PK H vs ((List.range i).map λi=>(a i,b i))) ⟨Same.new hD,Zaa,.nil⟩ ?_ (λvs H ⟨s,e,d⟩=>hQ vs H s e d);intro i x vs σ' H hi e91;obtain rfl:=e91;intro sh e92;refine Zap e92 λs e d=>?_;clear e92;obtain⟨z,rfl⟩:=sh.one;simp only[Zcm,Za7,Zgi,List.set_cons_zero,Jdk,tTup,Ze1,Zmu];refine h1 i H _ hi (h2 i H _ hi ⟨by show 2<=sizeLine;decide,λp hp=>?_⟩);have nD:D≠p:=Zad e hp;have e':(upd H p (.tup [.int (a i),.int (b i)])) D=some (.lst vs):=by rw[Zag nD];exact e
 have hl:=d.len;rw[Jaa,Jcm] at hl;refine leaf (ws:=vs++[.ref p]) hi Sh.mk1 e' (Zah ∅) ⟨(s.trans (Same.new hp)).upd hD,Zaa,?_⟩;rw[Jde,Ja3];exact (d.snoc hp).put e'
theorem Ztu (F:Fun K "_law_rest_edges" "_law_rest_edges" Zcf f fd)(T:Txt K mg C)(Yaa:Cal P w K mg base "_law_draw" 1 Ze3):FnOk P w K mg base CX0 2 f fd ["_law_bag_here","_law_way"] (Ze2 4 4):=by
 have nd:=Zdc.nd;refine F.ok Zdc (λvs H Q E h=>?_) (λcdv A outer s H vs Q E hr h=>?_)
 .refine Zcl h λl k e95 _=>?_;clear h;obtain rfl:=e95;rfl
 .refine Zk9 h λl k e96 k0 k1 hb q=>?_;clear h;obtain rfl:=e96;have ek:k=4:=∅
  subst ek;refine⟨_,((2|||nd|||(@Zbs _ _ _ _ Zab))<*>((3|||nd|||(Zbc<|>Zac<&&>(Yaa<$>hr<$>((pv 0)<&>(Zac<&>Zab)))))<*>((@Zbb _ _ _ _ _ _ _ _ (Za6 Zcp (pv 1) Zac (Zam _)) (@Zan _ _ _ (Zb5 Jbu rfl (Zqn rfl T.n_range (Zac<&>((pv 3)<&>Zab))) (4>>>nd) (@Zan _ _ _ (@Zbb _ _ _ _ _ _ _ _ (Za6 Zh7 (Yaa<$>hr<$>((pv 0)<&>(Zac<&>Zab))) Zac (Zam _)) (@Zan _ _ _ (Zb7 (Zfa Jbh Jb6 Jb7 Zbj (pv 2) ((@Zar _ _ _ _ _ ((Zc7<|>(pv 4)<&&>Zac)<&>((pv 4)<&>Zab)))<&>Zab)))) Zao)))) (@Zan _ _ _ (@Zbb _ _ _ _ _ _ _ _ (Za6 Zcp (pv 1) Zac (Zam _)) (@Zan _ _ _ (Zb5 Jbu rfl (Zgk rfl T.n_range ((Yaa<$>hr<$>((pv 0)<&>(Zac<&>Zab)))<&>Zab)) (4>>>nd) ((5|||nd|||(Yaa<$>hr<$>((pv 0)<&>((pv 3)<&>Zab))))<*>(@Zan _ _ _ (Zb7 (Zfa Jbh Jb6 Jb7 Zbj (pv 2) ((@Zar _ _ _ _ _ ((pv 5)<&>((Yaa<$>hr<$>((pv 0)<&>((pv 3)<&>Zab)))<&>Zab)))<&>Zab))))))) (@Zan _ _ _ (Zb5 Jbu rfl (Zqn rfl T.n_range (Zac<&>((pv 3)<&>Zab))) (4>>>nd) (@Zan _ _ _ (Zb7 (Zfa Jbh Jb6 Jb7 Zbj (pv 2) ((@Zar _ _ _ _ _ ((Yaa<$>hr<$>((pv 0)<&>((pv 4)<&>Zab)))<&>((pv 4)<&>Zab)))<&>Zab)))))))))<*>(~~~(@Zar _ _ _ _ _ ((pv 3)<&>((pv 2)<&>Zab))))))),?_⟩;walk_at "wp";refine⟨⇑0,λp hp=>?_⟩;have hpl:=hb.ne hp;refine (hb.new hpl).draw ⇑0 ⇑0 λx H2 x0 x1 e2 b2=>⟨x,rfl,?_⟩
  have hp2:H2 p=some (.lst []):=e2 _ _ hpl Zaa;have ex2:Ext l H H2:=(Ext.new hp).trans e2;obtain⟨n,en⟩:∃ n:Nat,1+x=n:=⟨(1+x).toNat,∅⟩
  refine Zc8 (λ_=>?_) (λz=>(z rfl).elim);refine⟨_,rfl,1,1+x,rfl,⟨⇑0,⇑0,∅,∅⟩,Zdh (λi σ H3=>∃ (xs:List V) (ps:List (Int×Int)) (v v5:Option V),σ=[some (.ref l),some (.int 4),some (.ref p),some (.int (1+x)),v,v5]/\Ext l H H3/\Bag H3 l/\H3 p=some (.lst xs)/\PK H3 xs ps/\ps.Sublist (L3.aE.take i))
   ⟨[],[],none,none,rfl,ex2,b2,hp2,.nil,List.Sublist.refl _⟩ ?_ ?_⟩
  .intro i σ H3 hi e93;refine Zce e93 λxs ps v v5 e97 ex b e98=>?_;clear e93;obtain rfl:=e97;refine Zap e98 λhx d sb=>?_;clear e98;have ls:=sb.length_le;rw[Ja4] at ls;have lx:=d.len;have et:L3.aE.take (i+1)=L3.aE.take i++[((i:Int),(i:Int)+1)]:=by rw[Jbe,aE_at ∅];rfl
   walk_at "wp";refine b.draw ⇑0 ⇑0 λr H4 r0 r1 e4 b4=>⟨r,rfl,Zc8 (λ_=>?_) (λ_=>?_)⟩
   .have hx4:H4 p=some (.lst xs):=e4 _ _ hpl hx;refine⟨.inl ⟨rfl,_,SqL.of hx4⟩,⇑0,λt ht=>?_⟩;have nt:p≠t:=Zad hx4 ht;have hx5:(upd H4 t (.tup [.int (1+(i:Int)-1),.int (1+(i:Int))])) p=some (.lst xs):=by rw[Zag nt];exact hx4
    refine⟨_,hx5,Zah ∅,xs++[.ref t],ps++[(1+(i:Int)-1,1+(i:Int))],_,_,⟨rfl,rfl⟩,((ex.trans e4).trans (Ext.new ht)).upd hp,(b4.new (b4.ne ht)).new hpl,Zaa,((d.bag b e4).snoc ht).put hx5,?_⟩;rw[et,show (1+(i:Int)-1,1+(i:Int))=((i:Int),(i:Int)+1) by rw[Int.add_comm 1,Int.add_sub_cancel]];exact sb.append (List.Sublist.refl _)
   .refine Zjx xs ps _ _ ⟨⟨rfl,rfl⟩,ex.trans e4,b4,e4 _ _ hpl hx,d.bag b e4,?_⟩;rw[et];exact sb.trans (List.sublist_append_left _ _)
  .intro σ H3 e94;refine Zce e94 λxs ps v v5 e99 ex b e910=>?_;clear e94;obtain rfl:=e99;refine Zap e910 λhx d sb=>?_;clear e910;rw[show (1+x-1).toNat=n-1 by exact oz29 en] at sb;refine Zap (sub_a (n:=n) ∅ ∅ sb) λs1 s2 s3=>?_;exact⟨_,rfl,_,rfl,by show 2<=sizeLine;decide,λt ht=>q _ _ _ _ _ _ (OutD.fin en ex b hx hp ∅ ∅ d s3 s1 s2 ht)⟩
end
end Pf
namespace Pf
open PySem L2 PyProof.Rows
section
variable {C:Addr}
theorem rngA {n:Nat}(h1:1<=n)(h8:n<=8):((List.range (n-1)).map λi:Nat=>(0+(i:Int),0+(i:Int)+1))=L3.aE.take (n-1):=
 L3.to8 (P:=λn=>((List.range (n-1)).map λi:Nat=>(0+(i:Int),0+(i:Int)+1))=L3.aE.take (n-1)) h1 h8 rfl rfl rfl rfl rfl rfl rfl rfl
theorem rngD {n:Nat}(h1:4<=n)(h8:n<=8):([((0:Int),(1:Int)),(0,2),(0,3)]++(List.range (n-4)).map λi:Nat=>(3+(i:Int),3+(i:Int)+1))=L3.dE.take (n-1):=by
 have:n=4\/n=5\/n=6\/n=7\/n=8:=∅
 rcases this with rfl|rfl|rfl|rfl|rfl <;> rfl
theorem rngE {n:Nat}(h1:6<=n)(h8:n<=8):([((0:Int),(1:Int)),(0,2),(2,3),(0,4)]++(List.range (n-5)).map λi:Nat=>(4+(i:Int),4+(i:Int)+1))=L3.eE.take (n-1):=by
 have:n=6\/n=7\/n=8:=∅
 rcases this with rfl|rfl|rfl <;> rfl
theorem Zed {E8:List (Int×Int)}{n:Nat}(d:L3.DPos (L3.pN 8) E8)(l8:E8.length=7)(n8:n<=8)(h:L3.okB E8 n=true):(E8.take (n-1)).length<=9/\InP (n:Nat) (E8.take (n-1))/\L3.DPos (Zax n) (E8.take (n-1)):=
 ⟨by rw[Ja4];omega,L3.Zq6 h,L3.bsD d n8 h⟩
theorem Zq3 (F:Fun K "_law_edges" "_law_edges" Zeo f fd)(T:Txt K mg C)(Yaa:Cal P w K mg base "_law_draw" 1 Ze3)(Yax:Cal P w K mg base "_law_bad_edges" 2 (spOut way0))(Yag:Cal P w K mg base "_law_rest_edges" 2 (Ze2 4 4)):FnOk P w K mg base CX0 3 f fd ["_law_bag_here","_law_way"] (Ze2 0 4):=by
 have nd:=Zf5.nd;refine F.ok Zf5 (λvs H Q E h=>?_) (λcdv A outer s H vs Q E hr h=>?_)
 .refine Zcl h λl k e91 _=>?_;clear h;obtain rfl:=e91;rfl
 .refine Zk9 h λl k e92 k0 k1 hb q=>?_;clear h;obtain rfl:=e92;refine⟨_,((@Zbb _ _ _ _ _ _ _ _ (Zaq (opJ0 Zom) (pvr 1) Zac (Zam _)) ((2|||nd|||(Zbc<|>Zac<&&>(Yaa<$>hr<$>((pvr 0)<&>(Zac<&>Zab)))))<*>(~~~(@Zar _ _ _ _ _ ((pvr 2)<&>((Za1 (own:=["_law_k"]) (fr:=[]) rfl (Zbo (by kernel_rfl)) (Zgk rfl T.n_range ((Zc7<|>(pv 2)<&&>Zac)<&>Zab)) (λ_ _ _ _=>⟨(0<<<["_law_k"]),Za5,(@Zar _ _ _ _ _ ((pv 0)<&>((Zbc<|>(pv 0)<&&>Zac)<&>Zab)))⟩))<&>Zab))))) Zao)<*>((@Zbb _ _ _ _ _ _ _ _ (Zaq (opEqJ Zcp) (pvr 1) Zac (Zam _)) ((2|||nd|||(Zbc<|>Zac<&&>(Yaa<$>hr<$>((pvr 0)<&>(Zac<&>Zab)))))<*>(~~~(@Zar _ _ _ _ _ ((pvr 2)<&>((Zhq<|>(@Zbs _ _ _ _ ((@Zar _ _ _ _ _ (Zac<&>(Zac<&>Zab)))<&>((@Zar _ _ _ _ _ (Zac<&>(Zac<&>Zab)))<&>((@Zar _ _ _ _ _ (Zac<&>(Zac<&>Zab)))<&>Zab))))<&&>(Za1 (own:=["_law_k"]) (fr:=[]) rfl (Zbo (by kernel_rfl)) (Zqn rfl T.n_range (Zac<&>((Zc7<|>(pv 2)<&&>Zac)<&>Zab))) (λ_ _ _ _=>⟨(0<<<["_law_k"]),Za5,(@Zar _ _ _ _ _ ((pv 0)<&>((Zbc<|>(pv 0)<&&>Zac)<&>Zab)))⟩)))<&>Zab))))) Zao)<*>((@Zbb _ _ _ _ _ _ _ _ (Zaq (opEqJ Zcp) (pvr 1) Zac (Zam _)) ((2|||nd|||(Zbc<|>Zac<&&>(Yaa<$>hr<$>((pvr 0)<&>(Zac<&>Zab)))))<*>(~~~(@Zar _ _ _ _ _ ((pvr 2)<&>((Zhq<|>(@Zbs _ _ _ _ ((@Zar _ _ _ _ _ (Zac<&>(Zac<&>Zab)))<&>((@Zar _ _ _ _ _ (Zac<&>(Zac<&>Zab)))<&>((@Zar _ _ _ _ _ (Zac<&>(Zac<&>Zab)))<&>((@Zar _ _ _ _ _ (Zac<&>(Zac<&>Zab)))<&>Zab)))))<&&>(Za1 (own:=["_law_k"]) (fr:=[]) rfl (Zbo (by kernel_rfl)) (Zqn rfl T.n_range (Zac<&>((Zc7<|>(pv 2)<&&>Zac)<&>Zab))) (λ_ _ _ _=>⟨(0<<<["_law_k"]),Za5,(@Zar _ _ _ _ _ ((pv 0)<&>((Zbc<|>(pv 0)<&&>Zac)<&>Zab)))⟩)))<&>Zab))))) Zao)<*>((@Zbb _ _ _ _ _ _ _ _ (Zaq (opEqJ Zcp) (pvr 1) Zac (Zam _)) (~~~(Yax<$>hr<$>((pvr 0)<&>Zab))) Zao)<*>(~~~(Yag<$>hr<$>((pvr 0)<&>((pvr 1)<&>Zab)))))))),?_⟩;walk_at "wp";refine Zc8 (λ_=>?_) (λc1=>Zc8 (λ_=>?_) (λc2=>Zc8 (λ_=>?_) (λc3=>Zc8 (λc4=>?_) (λ_=>⟨l,k,rfl,?_,k1,hb,q⟩))))
  .refine hb.draw ⇑0 ⇑0 λr H2 r0 r1 e2 b2=>⟨r,rfl,?_⟩
   obtain⟨n,en⟩:∃ n:Nat,1+r=n:=⟨(1+r).toNat,∅⟩
   refine⟨_,rfl,_,_,rfl,rfl,_,rfl,∅,∅,λD hD=>Zew (λi=>0+(i:Int)) (λi=>0+(i:Int)+1) hD ∅ (λi H Q _ h=>⟨_,rfl,h⟩) (λi H Q _ h=>⟨_,rfl,_,_,rfl,rfl,h⟩) λxs H' s e d=>⟨⇑0,λt ht=>?_⟩⟩;rw[show (1+r-1).toNat=n-1 by exact oz29 en,rngA ∅ ∅] at d;refine Zap (Zed (n:=n) L3.pos_a rfl ∅ (L3.okA ∅ ∅)) λa1 a2 a3=>?_;exact q _ _ _ _ _ _ (OutD.fin en (e2.trans s.ext) (b2.same s) e (e2.free (b2.ne hD) hD) ∅ ∅ d a1 a2 a3 ht)
  .refine hb.draw ⇑0 ⇑0 λr H2 r0 r1 e2 b2=>⟨r,rfl,?_⟩
   obtain⟨n,en⟩:∃ n:Nat,4+r=n:=⟨(4+r).toNat,∅⟩
   refine⟨⇑0,λp1 h1=>⟨⇑0,λp2 h2=>⟨⇑0,λp3 h3=>⟨⇑0,λp4 h4=>?_⟩⟩⟩⟩;have D1:=(PK.nil (H:=H2)).snoc (i:=0) (j:=1) h1;have D2:=D1.snoc (i:=0) (j:=2) h2;have D3:=D2.snoc (i:=0) (j:=3) h3;have S4:=(((Same.new h1).trans (Same.new h2)).trans (Same.new h3)).trans (Same.new (o:=.lst [.ref p1,.ref p2,.ref p3]) h4);refine⟨_,rfl,_,_,rfl,rfl,_,_,rfl,⟨⇑0,⇑0,∅,∅⟩,λD hD=>Zew (λi=>3+(i:Int)) (λi=>3+(i:Int)+1) hD ∅ (λi H Q _ h=>⟨_,rfl,h⟩) (λi H Q _ h=>⟨_,rfl,_,_,rfl,rfl,h⟩)
    λxs H' s e d=>⟨D,rfl,_,s _ _ Zaa,_,e,Jb8 (Zah ?_),λp6 h6=>⟨⇑0,λp7 h7=>?_⟩⟩⟩
   .have:=d.len;rw[Jaa,Jcm] at this;show 3+xs.length<=1000;omega
   .have dd:=((D3.same (Same.new h4)).same s).app d;rw[show (4+r-1-3).toNat=n-4 by exact oz70 en] at dd;have dd':PK H' ([V.ref p1,V.ref p2,V.ref p3]++xs) (L3.dE.take (n-1)):=by rw[<- rngD ∅ ∅];exact dd
    refine Zap (Zed (n:=n) L3.pos_d rfl ∅ (L3.okD ∅ ∅)) λa1 a2 a3=>?_;exact q _ _ _ _ _ _ (OutD.done en e2 b2 (S4.trans s) h6 ∅ ∅ dd' a1 a2 a3 h7)
  .refine hb.draw ⇑0 ⇑0 λr H2 r0 r1 e2 b2=>⟨r,rfl,?_⟩
   obtain⟨n,en⟩:∃ n:Nat,6+r=n:=⟨(6+r).toNat,∅⟩
   refine⟨⇑0,λp1 h1=>⟨⇑0,λp2 h2=>⟨⇑0,λp3 h3=>⟨⇑0,λp4 h4=>⟨⇑0,λp5 h5=>?_⟩⟩⟩⟩⟩;have D1:=(PK.nil (H:=H2)).snoc (i:=0) (j:=1) h1;have D2:=D1.snoc (i:=0) (j:=2) h2;have D3:=D2.snoc (i:=2) (j:=3) h3;have D4:=D3.snoc (i:=0) (j:=4) h4;have S5:=((((Same.new h1).trans (Same.new h2)).trans (Same.new h3)).trans (Same.new h4)).trans (Same.new (o:=.lst [.ref p1,.ref p2,.ref p3,.ref p4]) h5);refine⟨_,rfl,_,_,rfl,rfl,_,_,rfl,⟨⇑0,⇑0,∅,∅⟩,λD hD=>Zew (λi=>4+(i:Int)) (λi=>4+(i:Int)+1) hD ∅ (λi H Q _ h=>⟨_,rfl,h⟩) (λi H Q _ h=>⟨_,rfl,_,_,rfl,rfl,h⟩)
    λxs H' s e d=>⟨D,rfl,_,s _ _ Zaa,_,e,Jb8 (Zah ?_),λp6 h6=>⟨⇑0,λp7 h7=>?_⟩⟩⟩
   .have:=d.len;rw[Jaa,Jcm] at this;show 4+xs.length<=1000;omega
   .have dd:=((D4.same (Same.new h5)).same s).app d;rw[show (6+r-1-4).toNat=n-5 by omega] at dd;have dd':PK H' ([V.ref p1,V.ref p2,V.ref p3,V.ref p4]++xs) (L3.eE.take (n-1)):=by rw[<- rngE ∅ ∅];exact dd
    refine Zap (Zed (n:=n) L3.pos_e rfl ∅ (L3.okE ∅ ∅)) λa1 a2 a3=>?_;exact q _ _ _ _ _ _ (OutD.done en e2 b2 (S5.trans s) h6 ∅ ∅ dd' a1 a2 a3 h7)
  .have:=Jaj c4;omega
  .have h1:¬ k<2:=λz=>c1 (Jam z);have h2:¬ k=2:=λz=>c2 (by rw[z];rfl);have h3:¬ k=3:=λz=>c3 (by rw[z];rfl);omega
noncomputable def sE (X:Int->Int)(ys:List Int)(es:List (Int×Int)):Int:=L3.sI (λe=>X (L3.gt ys e.1)*X (L3.gt ys e.2)) es
noncomputable def sR (X:Int->Int)(es:List (Int×Int)):Int:=L3.sI (λe=>X e.1*X e.2) es
theorem sE_out {X:Int->Int}{ys:List Int}{es:List (Int×Int)}{k:Nat}{q:Int×Int}(h:es[k]?=some q):sE X ys es=X (L3.gt ys q.1)*X (L3.gt ys q.2)+sE X ys (es.take k++es.drop (k+1)):=by
 obtain⟨hk,rfl⟩:=Jak.mp h;have e:es=es.take k++es[k]::es.drop (k+1):=by rw[Jfy,Jbx]
 unfold sE
 conv=>lhs;rw[e]
 rw[L3.Zde,L3.Zde];show _+(X (L3.gt ys es[k].1)*X (L3.gt ys es[k].2)+_)=_;omega
theorem sR_add {X:Int->Int}{es:List (Int×Int)}{a b:Int}:sR X (es++[(a,b)])=sR X es+X a*X b:=by
 unfold sR;rw[L3.Zde];show _+(_+0)=_;rw[Jfg]
theorem gt_at {ys:List Int}{i:Int}(h:i.toNat<ys.length):L3.gt ys i=ys[i.toNat]:=by
 unfold L3.gt;rw[Jax,Jac h];rfl
theorem few9 {a b:Nat}(h:a+b<=9):b<=1000:=∅
theorem Zq4 (F:Fun K "_law_drawn" "_law_drawn" Zep f fd)(T:Txt K mg C)(Yaa:Cal P w K mg base "_law_draw" 1 Ze3)(Yah:Cal P w K mg base "_law_edges" 3 (Ze2 0 4))(Yan:Cal P w K mg base "_law_order" 2 Zpr):FnOk P w K mg base CX0 4 f fd ["_law_bag_here","_law_way"] (Ze2 0 4):=by
 have nd:=Zf6.nd;refine F.ok Zf6 (λvs H Q E h=>?_) (λcdv A outer s H vs Q E hr h=>?_)
 .refine Zcl h λl k e92 _=>?_;clear h;obtain rfl:=e92;rfl
 .refine Zk9 h λl k e93 k0 k1 hb q=>?_;clear h;obtain rfl:=e93;refine⟨_,((Zd9 (Yah<$>hr<$>((pvr 0)<&>((pvr 1)<&>Zab))) (@Zgb _ _ _ _ _ 2 rfl ((2>>>nd)^^^((3>>>nd)^^^(@Zdo _))) ⇑1 ⇑1))<*>((4|||nd|||(Yan<$>hr<$>((pvr 0)<&>((pvr 2)<&>Zab))))<*>((5|||nd|||(@Zbs _ _ _ _ Zab))<*>((Zgt Jbu (Za6 Zh7 (Za4 Zaj rfl T.n_len Jbo ((pv 3)<&>Zab)) Zac (Zam _)) ((6|||nd|||(Yaa<$>hr<$>((pvr 0)<&>((Za4 Zaj rfl T.n_len Jbo ((pvr 3)<&>Zab))<&>Zab))))<*>((Zd9 (Zaw<|>(pvr 3)<||>(pvr 6)) (@Zgb _ _ _ _ _ 2 rfl ((7>>>nd)^^^((8>>>nd)^^^(@Zdo _))) ⇑1 ⇑1))<*>((3|||nd|||(Zhq<|>(@Zbz _ _ _ _ _ _ _ _ _ _ Zct (pvr 3) Zc0 (@Zcz _ _ _ (pvr 6)))<&&>(@Zbz _ _ _ _ _ _ _ _ _ _ Zct (pvr 3) (@Zcz _ _ _ (Zbc<|>(pvr 6)<&&>Zac)) Zc0)))<*>((@Zbb _ _ _ _ _ _ _ _ (Zaq Zcp (Yaa<$>hr<$>((pvr 0)<&>(Zac<&>Zab))) Zac (Zam _)) (@Zan _ _ _ (ps_par (i:=7) (j:=8) rfl nd rfl rfl ⇑0 rfl rfl ((pvr 8)<&>((pvr 7)<&>Zab)) rfl)) Zao)<*>(@Zan _ _ _ (Zb7 (Zfa Jbh Jb6 Jb7 (mtJ Zbj) (pvr 5) ((@Zar _ _ _ _ _ ((Zaw<|>(pvr 4)<||>(pvr 7))<&>((Zaw<|>(pvr 4)<||>(pvr 8))<&>Zab)))<&>Zab)))))))))<*>(~~~(@Zar _ _ _ _ _ ((pvr 2)<&>((pvr 5)<&>Zab)))))))),?_⟩;walk_at "wp";refine Za2 l k ⟨rfl,k0,k1,hb,λp e n xs ps H1 O=>⟨p,rfl,_,SqT.of O.tup,rfl,_,_,rfl,_,_,rfl,rfl,?_⟩⟩;have m0:=O.lo;have m8:=O.hi;refine Za2 l (n:Nat) ⟨rfl,O.bag,∅,∅,λpo ys H2 ex2 b2 hpo hpo2 hlen inr ndy=>⟨⇑0,λpa hpa=>?_⟩⟩;have nel:e≠l:=hb.ne O.new;have e2e:H2 e=some (.lst xs):=ex2 _ _ nel O.lst;have nal:pa≠l:=b2.ne hpa;have nae:e≠pa:=Zad e2e hpa;have nao:po≠pa:=Zad hpo2 hpa;have exH:Ext l H H2:=O.ext.trans ex2;have fpa:H pa=none:=exH.free nal hpa;have noe:e≠po:=(Zad O.lst hpo)
  have nol:po≠l:=O.bag.ne hpo;have perm:=L3.perm_pN (n:=n) ndy ∅ inr;refine⟨λc σ H3=>∃ (pl:Addr) (ls as:List V) (lq aq:List (Int×Int)) (v6 v7 v8:Option V),σ=[some (.ref l),some (.int k),some (.int (n:Nat)),some (.ref pl),some (.ref po),some (.ref pa),v6,v7,v8]/\c=ls.length/\Ext l H H3/\Bag H3 l /\
   H3 pl=some (.lst ls)/\H3 po=some (.lst (ys.map V.int))/\H3 pa=some (.lst as)/\pl≠l/\pl≠pa/\ls.length+as.length<=9/\PK H3 ls lq/\PK H3 as aq/\InP (n:Nat) lq/\InP (n:Nat) aq/\∀ X,sR X aq+sE X ys lq=sE X ys ps,?_,?_⟩
  .exact xI9_1 _ e xs [] ps [] none none none ⟨rfl,rfl,exH.trans (Ext.new hpa),b2.new nal,by rw[Zag nae];exact e2e,by rw[Zag nao];exact hpo2,Zaa,nel,nae,by have h1:=O.len;have h2:=O.pk.len;show xs.length+0<=9;omega,(O.pk.bag O.bag ex2).same (Same.new hpa),.nil,O.ip,(λ_ h=>nomatch h),λX=>Int.zero_add _⟩
  .intro c σ H3 e91;refine xE8_4 e91 λpl ls as lq aq v6 v7 v8 e94 e95 ex e96=>?_;clear e91;obtain rfl:=e94;obtain rfl:=e95;refine xE0_12 e96 λb hpl hpo3 hpa3 n1 n2 hl dl da il ia sm=>?_;clear e96;walk_at "wp";refine⟨_,.inl (SqL.of hpl),Zc8 (λhc=>?_) (λhc=>?_)⟩
   .have hc:=Jaj hc;refine⟨_,λ_ _ h=>h,?_⟩;walk_at "wp";refine⟨_,.inl (SqL.of hpl),b.draw hc ∅ λr H4 r0 r1 e4 b4=>?_⟩;have hr1:r.toNat<ls.length:=by exact Zsy r0 r1
    have hpl4:=e4 _ _ n1 hpl;have hpo4:=e4 _ _ nol hpo3;have hpa4:=e4 _ _ nal hpa3;have dl4:=dl.bag b e4;have da4:=da.bag b e4;refine Zbf (dl4.at_ hr1) λt qq hx hq ht4=>?_;refine Zbq (il qq (Jai hq)) λi0 i1 j0 j1=>?_;have gi:=gt_at (ys:=ys) (i:=qq.1) (oz40 m0 hlen i1);have gj:=gt_at (ys:=ys) (i:=qq.2) (oz40 m0 hlen j1);have so:=λX=>sE_out (X:=X) (ys:=ys) hq;refine Za2 ls r ⟨rfl,SqL.of hpl4,.ref t,Zbp r0 hx,t,rfl,_,SqT.of ht4,rfl,_,_,rfl,_,_,rfl,rfl,r,rfl,ls,SqL.of hpl4,λp2 h2=>⟨r,rfl,ls,SqL.of (by rw[Zag (Zad hpl4 h2)];exact hpl4),λp3 h3=>?_⟩⟩;have l1:=Zsh ls r r0 ∅;have l2:=Zsi ls (r+1) ∅ ∅;rw[show (r+1).toNat=r.toNat+1 by exact oz13 r0] at l2;have hNL:(Zf0 ls none (some r)++Zf0 ls (some (r+1)) none).length<ls.length:=by
     rw[l1,l2,Jaq,Ja4,Jc7];exact oz51 hr1
    refine⟨Zf0 ls none (some r),by rw[Zag (Zad Zaa h3)];exact Zaa,_,Zaa,Jb8 (Zah (by rw[Jaq] at hNL;omega)),λp4 h4=>?_⟩;have S6:=(Same.new (o:=.lst (Zf0 ls none (some r))) h2).trans (Same.new (o:=.lst (Zf0 ls (some (r+1)) none)) h3);have S:=S6.trans (Same.new (o:=.lst (Zf0 ls none (some r)++Zf0 ls (some (r+1)) none)) h4);have b7:=b4.same S;have p4nl:p4≠l:=(b4.same S6).ne h4;have npa4:pa≠p4:=Zad (S6 _ _ hpa4) h4;refine b7.draw ⇑0 ⇑0 λz H8 z0 z1 e8 b8=>⟨rfl,?_⟩
    have pa8:=e8 _ _ nal (S _ _ hpa4);have po8:=e8 _ _ nol (S _ _ hpo4);have p48:=e8 _ _ p4nl Zaa;have exH8:Ext l H H8:=(ex.trans e4).trans (S.ext.trans e8);have dN8:PK H8 (Zf0 ls none (some r)++Zf0 ls (some (r+1)) none) (lq.take r.toNat++lq.drop (r.toNat+1)):=by
     rw[l1,l2];exact (((dl4.take r.toNat).app (dl4.drop (r.toNat+1))).same S).bag b7 e8
    have da8:=(da4.same S).bag b7 e8;have iN:InP (n:Nat) (lq.take r.toNat++lq.drop (r.toNat+1)):=λy hy=>by
     rcases Jbf.mp hy with h|h
     .exact il y (Jdg h)
     .exact il y (Jea h)
    have ia1:=inr _ (Jcb (show qq.1.toNat<ys.length by exact oz40 m0 hlen i1));have ia2:=inr _ (Jcb (show qq.2.toNat<ys.length by exact oz40 m0 hlen j1));have a1:atI (ys.map V.int) qq.1=some (V.int (ys[qq.1.toNat]'(oz40 m0 hlen i1))):=Zbp i0 (by rw[Jay,Jac ∅];rfl);have a2:atI (ys.map V.int) qq.2=some (V.int (ys[qq.2.toNat]'(by omega))):=Zbp j0 (by rw[Jay,Jac ∅];rfl);generalize ys[qq.1.toNat]'(by omega)=y1 at *;generalize ys[qq.2.toNat]'(by omega)=y2 at *;have fin:∀ (u v:Int) (w6 w7 w8:Option V),(∀ X:Int->Int,X u*X v=X (L3.gt ys qq.1)*X (L3.gt ys qq.2))->0<=u->u<(n:Nat)->0<=v->v<(n:Nat)->∀ p5,H8 p5=none->∃ m',m'<ls.length/\∃ (pl':Addr) (ls' as':List V) (lq' aq':List (Int×Int)) (u6 u7 u8:Option V),
      (p4=pl'/\w6=u6/\w7=u7/\w8=u8)/\m'=ls'.length/\Ext l H (upd (upd H8 p5 (.tup [.int u,.int v])) pa (.lst (as++[.ref p5])))/\Bag (upd (upd H8 p5 (.tup [.int u,.int v])) pa (.lst (as++[.ref p5]))) l /\
      (upd (upd H8 p5 (.tup [.int u,.int v])) pa (.lst (as++[.ref p5]))) pl'=some (.lst ls')/\(upd (upd H8 p5 (.tup [.int u,.int v])) pa (.lst (as++[.ref p5]))) po=some (.lst (ys.map V.int))/\(upd (upd H8 p5 (.tup [.int u,.int v])) pa (.lst (as++[.ref p5]))) pa=some (.lst as')/\pl'≠l/\pl'≠pa/\ls'.length+as'.length<=9/\PK (upd (upd H8 p5 (.tup [.int u,.int v])) pa (.lst (as++[.ref p5]))) ls' lq'/\PK (upd (upd H8 p5 (.tup [.int u,.int v])) pa (.lst (as++[.ref p5]))) as' aq'/\InP (n:Nat) lq'/\InP (n:Nat) aq'/\∀ X,sR X aq'+sE X ys lq'=sE X ys ps:=by
     intro u v w6 w7 w8 hX u0 u1 v0 v1 p5 h5;have pa9:(upd H8 p5 (.tup [.int u,.int v])) pa=some (.lst as):=by rw[Zag (Zad pa8 h5)];exact pa8
     have n5:p4≠p5:=Zad p48 h5;have n5o:po≠p5:=Zad po8 h5;have hL:(as++[V.ref p5]).length=as.length+1:=by rw[Jaq];rfl
     refine⟨_,hNL,p4,_,as++[.ref p5],_,aq++[(u,v)],w6,w7,w8,⟨rfl,rfl,rfl,rfl⟩,rfl,(exH8.trans (Ext.new h5)).upd fpa,(b8.new (b8.ne h5)).new nal,by rw[Zag npa4.symm,Zag n5];exact p48,by rw[Zag nao,Zag n5o];exact po8,Zaa,p4nl,npa4.symm,by rw[hL];omega,(dN8.same (Same.new h5)).put pa9,(da8.snoc h5).put pa9,iN,λy hy=>?_,λX=>?_⟩
     .rcases Jbf.mp hy with h|h
      .exact ia y h
      .rw [Jas.mp h];exact⟨u0,u1,v0,v1⟩
     .have h1:=sm X;have h2:=so X;rw[sR_add,hX X];omega
    refine Zc8 (λ_=>?_) (λ_=>?_)
    .refine Za2 _ _ ⟨⟨rfl,rfl⟩,.inl ⟨rfl,_,SqL.of pa8⟩,_,qq.2,rfl,SqL.of po8,_,a2,_,qq.1,rfl,SqL.of po8,_,a1,⇑0,λp5 h5=>?_⟩;have pa9:(upd H8 p5 (.tup [V.int y2,V.int y1])) pa=some (.lst as):=by rw[Zag (Zad pa8 h5)];exact pa8
     have f:=fin y2 y1 (some (.int r)) (some (.int qq.2)) (some (.int qq.1)) (λX=>by rw[gi,gj,Int.mul_comm]) ia2.1 ia2.2 ia1.1 ia1.2 p5 h5;exact⟨as,pa9,Zah (few9 hl),f⟩
    .refine ⟨.inl ⟨rfl,_,SqL.of pa8⟩,_,qq.1,rfl,SqL.of po8,_,a1,_,qq.2,rfl,SqL.of po8,_,a2,⇑0,λp5 h5=>?_⟩;have pa9:(upd H8 p5 (.tup [V.int y1,V.int y2])) pa=some (.lst as):=by rw[Zag (Zad pa8 h5)];exact pa8
     have f:=fin y1 y2 (some (.int r)) (some (.int qq.1)) (some (.int qq.2)) (λX=>by rw[gi,gj]) ia1.1 ia1.2 ia2.1 ia2.2 p5 h5;exact⟨as,pa9,Zah (few9 hl),f⟩
   .have hc:¬ (0:Int)<(ls.length:Nat):=λz=>hc (Jam z);have lz:lq=[]:=Jdu.mp (by have:=dl.len;omega);subst lz;refine⟨⇑0,λt ht=>q _ _ _ _ _ _ (OutD.fin rfl ex b hpa3 fpa m0 m8 da (by have:=da.len;omega) ia ?_ ht)⟩;exact L3.Zr8 perm (λX=>by have:=sm X;unfold sR sE at this;rw[<- this];show _=_+0;rw[Jfg]) O.dp
end
end Pf
namespace Pf
open PySem L2 PyProof.Rows
noncomputable def chE:Int->Int->Nat->List (Int×Int)
 | _,_,0=>[]
 | p,s,k+1=>(p,s)::chE s (s+1) k
noncomputable def shE (a b c:Nat):List (Int×Int):=chE 0 1 a++(chE 0 ((1+a:Nat):Int) b++chE 0 ((1+a+b:Nat):Int) c)
noncomputable def sqL (l:List Int):Int:=L3.sI (λv=>v*v) l
theorem Znz {Y:Int->Int}:∀ {l:List Int} {p s:Int},(∀ i:Nat,i<l.length->Y (s+(i:Nat))=l.getD i 0)->L3.pqL (Y p) l=sqL l-L3.sI (λe:L3.Ed=>Y e.1*Y e.2) (chE p s l.length)
 | [],_,_,_=>rfl
 | v::l,p,s,h=>by
  have h0:Y s=v:=by simpa using h 0 (by simp)
  have ih:=Znz (Y:=Y) (l:=l) (p:=s) (s:=s+1) λi hi=>by
   have:=h (i+1) (by simpa using hi);rw[show s+1+((i:Nat):Int)=s+((i+1:Nat):Int) by omega];simpa using this
  rw[h0] at ih;show v*v-Y p*v+L3.pqL v l=(v*v+sqL l)-(Y p*Y s+L3.sI _ (chE s (s+1) l.length));rw[h0];omega
theorem Zu2 {l m:List Int}:sqL (l++m)=sqL l+sqL m:=L3.Zde
theorem sq_pts {w:List Int}{n:Nat}(h:w.length=n):L3.sI (λp=>atZ w p*atZ w p) (Zax n)=sqL w:=by
 conv=>rhs;rw[<- Zl2 h]
 unfold sqL;rw[L3.Zf7]
theorem Zl8 (u:List Int)(l:List Int)(m:List Int)(i:Nat)(h:i<l.length):atZ (u++(l++m)) ((u.length:Nat)+(i:Nat))=l.getD i 0:=by
 unfold atZ;rw[show (((u.length:Nat):Int)+((i:Nat):Int)).toNat=u.length+i by omega];rw[Jax,Jax,Jbc ∅,Jba ∅];congr 2;omega
theorem sh_q {v:Int}{l1 l2 l3:List Int}:L3.qf (Zax (1+l1.length+l2.length+l3.length)) (shE l1.length l2.length l3.length) (atZ (v::(l1++(l2++l3))))=v*v+(L3.pqL v l1+(L3.pqL v l2+(L3.pqL v l3+0))):=by
 have y0:atZ (v::(l1++(l2++l3))) 0=v:=rfl;have c1:=Znz (Y:=atZ (v::(l1++(l2++l3)))) (l:=l1) (p:=0) (s:=1) λi hi=>Zl8 [v] l1 (l2++l3) i hi;have c2:=Znz (Y:=atZ (v::(l1++(l2++l3)))) (l:=l2) (p:=0) (s:=((1+l1.length:Nat):Int)) λi hi=>by
  have:=Zl8 (v::l1) l2 l3 i hi;rw[Jau,Nat.add_comm l1.length 1] at this;exact this
 have c3:=Znz (Y:=atZ (v::(l1++(l2++l3)))) (l:=l3) (p:=0) (s:=((1+l1.length+l2.length:Nat):Int)) λi hi=>by
  have:=Zl8 (v::(l1++l2)) l3 [] i hi;rw[Jau,Jaq,Nat.add_comm (l1.length+l2.length) 1,<- Jgk,Jcy,List.cons_append,Ja5] at this;exact this
 rw[y0] at c1 c2 c3;have hs:=sq_pts (w:=v::(l1++(l2++l3))) (n:=1+l1.length+l2.length+l3.length) (by simp only[Jau,Jaq];omega);have hq:sqL (v::(l1++(l2++l3)))=v*v+(sqL l1+(sqL l2+sqL l3)):=by
  rw[<- Zu2,<- Zu2];rfl
 unfold L3.qf shE;rw[hs,hq,L3.Zde,L3.Zde];omega
noncomputable def nodB:List (List Int)->Bool
 | []=>true
 | r::l=>!l.elem r && nodB l
theorem Zq9:∀ {l:List (List Int)},nodB l=true->l.Nodup
 | [],_=>Jf4
 | r::l,h=>by
  unfold nodB at h;rw[Jbv] at h;refine Jbz.mpr ⟨λz=>?_,Zq9 h.2⟩;rw[List.elem_eq_true_of_mem z] at h;cases h.1
noncomputable def isRt (n:Nat)(ps:List (Int×Int))(a:List Int):Bool:=decide (a.length=n) && (a.all (λv=>decide (0<=v)) && decide (Zr5 ps a a=1))
noncomputable def okL (n:Nat)(ps:List (Int×Int))(L:List (List Int)):Bool:=nodB L && (L.all (isRt n ps) && ((Zax n).all (λk=>L.elem (Zdx n k)) && L.all (λr=>(ups n ps r).all L.elem)))
noncomputable def insB (n:Nat)(ps:List (Int×Int)):Bool:=ps.all λe=>decide (0<=e.1) && (decide (e.1<(n:Int)) && (decide (0<=e.2) && decide (e.2<(n:Int))))
theorem Zub {n:Nat}{ps:List (Int×Int)}(h:insB n ps=true):L3.Ins (Zax n) ps:=λe he=>by
 have:=Jb1.mp h e he;simp only[Jbv,Jb0] at this;exact⟨Zal.mpr ⟨this.1,this.2.1⟩,Zal.mpr ⟨this.2.2.1,this.2.2.2⟩⟩
theorem Zn6 {a:List Int}(h:∀ v∈a,0<=v)(p:Int):0<=atZ a p:=by
 unfold atZ;rw[Jax];cases e:a[p.toNat]? with
 | none=>exact Jfd _
 | some v=>exact h v (Jai e)
theorem okL_ri {n:Nat}{ps:List (Int×Int)}{L:List (List Int)}(h:okL n ps L=true):RI n ps L []:=by
 unfold okL at h;simp only[Jbv,Jb1] at h;refine Zbq h λh1 h2 h3 h4=>?_;clear h;refine⟨Zq9 h1,λr hr=>?_,λr hr=>(by cases hr),λk hk=>.inl (List.mem_of_elem_eq_true (h3 k hk)),λr hr k hk hs=>.inl (List.mem_of_elem_eq_true (h4 r hr _ ?_))⟩
 .have:=h2 r hr;unfold isRt at this;simp only[Jbv,Jb1,Jb0] at this;exact⟨this.1,λp _=>Zn6 this.2.1 p,by rw[<- Zr4 this.1];exact this.2.2⟩
 .exact Jal.mpr ⟨Jei hk,Jam hs⟩
noncomputable def gen (n:Nat)(ps:List (Int×Int)):Nat->List (List Int)->List (List Int)->List (List Int)
 | 0,_,seen=>seen
 | _+1,[],seen=>seen
 | k+1,r::q,seen=>if seen.elem r=true then gen n ps k q seen else gen n ps k (ups n ps r++q) (r::seen)
noncomputable def tabR (s:Nat×Nat×Nat):List (List Int):=gen (1+s.1+s.2.1+s.2.2) (shE s.1 s.2.1 s.2.2) 2000 ((Zax (1+s.1+s.2.1+s.2.2)).map (Zdx (1+s.1+s.2.1+s.2.2))) []
noncomputable def dueK (r:Str×Int):Int:=if r.1=Str.ofString "A" then r.2*(r.2+1) / 2 else if r.1=Str.ofString "D" then r.2*(r.2-1) else if r.2=6 then 36 else if r.2=7 then 63 else 120
noncomputable def kdS (s:Nat×Nat×Nat):Str×Int:=(if s.2.2=0 then Str.ofString "A" else if s.2.1=1 then Str.ofString "D" else Str.ofString "E",((1+s.1+s.2.1+s.2.2:Nat):Int))
noncomputable def tabOk (s:Nat×Nat×Nat):Bool:=insB (1+s.1+s.2.1+s.2.2) (shE s.1 s.2.1 s.2.2) && (okL (1+s.1+s.2.1+s.2.2) (shE s.1 s.2.1 s.2.2) (tabR s) && decide (((tabR s).length:Int)=dueK (kdS s)))
noncomputable def shps:List (Nat×Nat×Nat):=((List.range 8).flatMap λa=>(List.range (8-a)).map λb=>(a,b,0))++([1,2,3,4,5].map λc=>(1,1,c))++[2,3,4].map λc=>(1,2,c)
theorem tb1:(shps.take 18).all tabOk=true:=⋯
theorem tb2:((shps.drop 18).take 18).all tabOk=true:=⋯
theorem tb3:((shps.drop 18).drop 18).all tabOk=true:=⋯
theorem tab_ok:shps.all tabOk=true:=by rw[<- List.take_append_drop 18 shps,List.all_append,tb1,<- List.take_append_drop 18 (shps.drop 18),List.all_append,tb2,tb3];rfl
structure ShQ (S:List Int)(es:List (Int×Int))(xs:List Int)(s:Nat×Nat×Nat):Prop where
 pm:S.Perm xs
 len:xs.length=1+s.1+s.2.1+s.2.2
 q:∀ X:Int->Int,L3.qf S es X=L3.qf (Zax (1+s.1+s.2.1+s.2.2)) (shE s.1 s.2.1 s.2.2) (atZ (xs.map X))
theorem Zuj {S:List Int}{es:List (Int×Int)}{f:Int}{d:Int->Nat}(T:L3.Fk S es f d){l1 l2 l3:List Int}(pm:(l1++(l2++l3)).Perm (L3.oth S f))(hq:∀ X:Int->Int,L3.qf S es X=X f*X f+(L3.pqL (X f) (l1.map X)+(L3.pqL (X f) (l2.map X)+(L3.pqL (X f) (l3.map X)+0)))):ShQ S es (f::(l1++(l2++l3))) (l1.length,l2.length,l3.length):=by
 refine⟨(L3.Zm8 T.nd T.fS).trans (pm.symm.cons f),by simp only[Jau,Jaq];omega,λX=>?_⟩;rw[hq];have:=sh_q (v:=X f) (l1:=l1.map X) (l2:=l2.map X) (l3:=l3.map X);rw[Jaa,Jaa,Jaa] at this;rw[Jaw,Ja3,Ja3];exact this.symm
theorem Zt2 {a b:Nat}(h:1+a+b<=8):(a,b,0)∈shps:=by
 unfold shps;refine Jb9 _ (Jb9 _ (Jgf.mpr ⟨a,Jb3.mpr ∅,Jan.mpr ⟨b,Jb3.mpr ∅,rfl⟩⟩))
theorem Zin {m:Int}{ps:List (Int×Int)}{S:List Int}{r:Str×Int}(pc:Pc m ps S)(k:Zh2 S (Za0 ps S) (some r)):∃ xs s,ShQ S (Za0 ps S) xs s/\s∈shps/\r=kdS s:=by
 have h8:=pc.le8;rcases k with ⟨_,h⟩|⟨el,k⟩
 .cases h
 rcases k with ⟨e0,hr⟩|⟨f,rest,ef,k⟩
 .obtain ⟨z,zS⟩:=Jdp S pc.ne;refine Zau (pc.tree el zS) λd d0 T cE=>?_;have le:∀ x∈S,L3.deg (Za0 ps S) x<=2:=λx hx=>Jah λh=>by
   have:x∈S.filter λx=>decide (2<(Zay (Za0 ps S)).count x):=Jal.mpr ⟨hx,Jam (by rw[cE];omega)⟩;rw[e0] at this;cases this
  have Tf:L3.Fk S (Za0 ps S) z d:=⟨T,d0,λx hx xf=>by
   have h6:=T.deg_x hx xf;have:=le x hx;omega⟩
  have fin:∀ l1 l2:List Int,ShQ S (Za0 ps S) (z::(l1++(l2++[]))) (l1.length,l2.length,0)->∃ xs s,ShQ S (Za0 ps S) xs s/\s∈shps/\r=kdS s:=λl1 l2 sh=>by
   have e1:=sh.pm.length_eq;have e2:=sh.len;dsimp only at e2;refine Za2 _ _ ⟨sh,Zt2 ∅,?_⟩;cases hr;unfold kdS;dsimp only;rw[if_pos rfl,show S.length=1+l1.length+l2.length+0 by omega]
  obtain⟨L,hL,h2⟩:∃ L,L3.Lvs S (Za0 ps S) z d L/\L.length<=2:=⟨_,Tf.ends_is,Ja8 (Tf.few_ends Tf.ends_is) (le z zS)⟩
  have al:=Tf.all hL
  match L,hL,h2,al with
  | [],hL,_,al=>exact fin [] [] (Zuj Tf (l3:=[]) al λX=>by rw[Tf.q_eq hL];rfl)
  | [a],hL,_,al=>exact fin (L3.arm d (Za0 ps S) a) [] (Zuj Tf (l3:=[]) (by simpa using al) λX=>by rw[Tf.q_eq hL];rfl)
  | [a,b],hL,_,al=>exact fin (L3.arm d (Za0 ps S) a) (L3.arm d (Za0 ps S) b) (Zuj Tf (l3:=[]) (by simpa using al) λX=>by rw[Tf.q_eq hL];rfl)
 .rcases k with ⟨_,h⟩|⟨rfl,h3,ns,pm,so,hk⟩
  .cases h
  refine Zce (pc.three el ef h3 pm) λd a b c T hL e hs=>?_;have al:=T.all hL;have sh:=Zuj T (l1:=L3.arm d (Za0 ps S) a) (l2:=L3.arm d (Za0 ps S) b) (l3:=L3.arm d (Za0 ps S) c) (by simpa using al) λX=>by rw[T.q_eq hL];rfl
  have pa:=(T.arm_ok ((hL.2 a).mp (by simp)).1).2.2.1;have pb:=(T.arm_ok ((hL.2 b).mp (by simp)).1).2.2.1;have hc':=(hL.2 c).mp (by simp);have pcc:=(T.arm_ok hc'.1).2.2.1;have c0:=T.pos hc'.1 hc'.2.1;rw[pa,pb,pcc] at sh;have e1:=sh.pm.length_eq;have e2:=sh.len;dsimp only at e2;unfold kd at hk;by_cases c1:ns.take 2=[1,1]
  .rw [if_pos c1] at hk;rw[e] at c1;simp only[Jdl,Jd7,Jci,Jht] at c1;cases hk;have a1:d a=1:=∅
   have b1:d b=1:=∅
   rw[a1,b1] at sh e2;refine Za2 _ _ ⟨sh,?_,?_⟩
   .have:d c=1\/d c=2\/d c=3\/d c=4\/d c=5:=∅
    rcases this with z|z|z|z|z <;> rw[z] <;> decide
   .unfold kdS;dsimp only;rw[if_neg ∅,if_pos rfl,show S.length=1+1+1+d c by omega]
  .rw [if_neg c1] at hk;by_cases c2:ns.take 2=[1,2]/\((S.length:Int)=6\/(S.length:Int)=7\/(S.length:Int)=8)
   .rw [if_pos c2] at hk;obtain⟨c2,hn⟩:=c2;rw[e] at c2;simp only[Jdl,Jd7,Jci,Jht] at c2;cases hk;have a1:d a=1:=∅
    have b1:d b=2:=∅
    rw[a1,b1] at sh e2;refine Za2 _ _ ⟨sh,?_,?_⟩
    .have:d c=2\/d c=3\/d c=4:=∅
     rcases this with z|z|z <;> rw[z] <;> decide
    .unfold kdS;dsimp only;rw[if_neg ∅,if_neg ⇑0,show S.length=1+1+2+d c by omega]
   .rw [if_neg c2] at hk;cases hk
theorem at_idx {xs:List Int}(nd:xs.Nodup)(X:Int->Int){p:Int}(h0:0<=p)(h1:p.toNat<xs.length):atZ (xs.map X) p=X xs[p.toNat]:=by
 unfold atZ;rw[Jax,Jay,Jac h1];rfl
theorem sh_all {S:List Int}{es:List (Int×Int)}{xs:List Int}{s:Nat×Nat×Nat}(sh:ShQ S es xs s)(nd:S.Nodup)(hs:s∈shps)(dp:L3.DPos S es):L3.Ins (Zax (1+s.1+s.2.1+s.2.2)) (shE s.1 s.2.1 s.2.2)/\AllR (1+s.1+s.2.1+s.2.2) (shE s.1 s.2.1 s.2.2) (tabR s)/\((tabR s).length:Int)=dueK (kdS s):=by
 have t:=Jb1.mp tab_ok s hs;unfold tabOk at t;rw[Jbv,Jbv,Jb0] at t;refine Zap t λt1 t2 t3=>?_;clear t;have ins:=Zub t1;have xn:xs.Nodup:=sh.pm.nodup_iff.mp nd;have xl:=sh.len;refine⟨ins,RI.all (λY hY=>?_) ins (okL_ri t2),t3⟩;refine Zae hY λi hi hz=>?_;clear hY;obtain⟨i0,i1⟩:=Zal.mp hi;have hi':i.toNat<xs.length:=∅
 have:=dp (λp=>Y ((xs.idxOf p:Nat):Int)) ⟨xs[i.toNat],sh.pm.mem_iff.mpr (Jcb _),by
  rw[xn.idxOf_getElem,Jcr i0];exact hz⟩
 rw[sh.q] at this;rwa [L3.Zdm (y:=Y) ins (λp hp=>by
  obtain⟨p0,p1⟩:=Zal.mp hp;rw[at_idx xn _ p0 ∅];rw[xn.idxOf_getElem,Jcr p0])] at this
section
variable {n:Nat}{ps:List (Int×Int)}{rs:List (List Int)}
theorem Zqe (hin:InP (n:Nat) ps)(X:Int->Int):L3.qf (Zax n) ps X=L3.sI (λS=>L3.qf S (Za0 ps S) X) (Zbg n (Za3 ps)):=by
 have lb:=Zet hin;have toR:∀ x:Int,0<=x->x<(n:Nat)->Za3 ps x∈(Zax n).filter λx=>decide (Za3 ps x=x):=λx h0 h1=>by
  rw[Jal,Zal,Jb0];exact⟨⟨lb.1.lo x h0 h1,lb.1.lt h0 h1⟩,lb.1.co _ lb.2 x h0 h1⟩
 have nR:((Zax n).filter λx=>decide (Za3 ps x=x)).Nodup:=Jbj Jbg (Zcy n);have e1:=L3.Zj7 (g:=λp=>X p*X p) (Za3 ps) (l:=Zax n) nR λx hx=>by
  obtain⟨h0,h1⟩:=Zal.mp hx;exact toR x h0 h1
 have e2:=L3.Zj7 (g:=λe:Int×Int=>X e.1*X e.2) (λe=>Za3 ps e.1) (l:=ps) nR λe he=>by
  refine Zap (hin e he) λa1 a2 _=>?_;exact toR _ a1 a2
 rw[<- Zcb];unfold Zdw;rw[L3.Zf7];unfold L3.qf;rw[e1,e2,<- L3.Zei];refine L3.Zak λk hk=>?_;rw[Zbl n _ k];have r1:(Zax n).filter (λx=>decide (Za3 ps x=k))=Zdl n (Za3 ps) k:=Zbl n _ k;have r2:ps.filter (λe=>decide (Za3 ps e.1=k))=Za0 ps (Zdl n (Za3 ps) k):=Jcu λe he=>by
  refine Zap (hin e he) λa1 a2 _=>?_;rw[Jen,Zb0];exact⟨λh=>⟨⟨a1,a2⟩,h⟩,λh=>h.2⟩
 rw[r1,r2]
theorem own_row (hin:InP (n:Nat) ps){p:Int}(hp:p∈Zax n):∃ S∈Zbg n (Za3 ps),p∈S:=by
 have lb:=Zet hin;obtain⟨h0,h1⟩:=Zal.mp hp;refine⟨Zdl n (Za3 ps) (Za3 ps p),?_,Zb0.mpr ⟨⟨h0,h1⟩,rfl⟩⟩;rw[<- Zcb];unfold Zdw;refine Jan.mpr ⟨Za3 ps p,?_,Zbl n _ _⟩;rw[Jal,Zal,Jb0];exact⟨⟨lb.1.lo p h0 h1,lb.1.lt h0 h1⟩,lb.1.co _ lb.2 p h0 h1⟩
theorem Zgu (hin:InP (n:Nat) ps)(n8:n<=8){S:List Int}(h:S∈Zbg n (Za3 ps)):Pc (n:Nat) ps S:=Pc.of hin ∅ ∅ (by rw[Jaz];exact h)
theorem Zhl (hin:InP (n:Nat) ps)(n8:n<=8)(g:Zmp n ps){S:List Int}(h:S∈Zbg n (Za3 ps)):L3.DPos S (Za0 ps S):=by
 obtain⟨r,k⟩:=g S h;exact Znm (Zgu hin n8 h) k
theorem Zp4 {α β:Type}{g:α->β->Int}{m:List β}:∀ {l:List α},L3.sI (λa=>L3.sI (g a) m) l=L3.sI (λb=>L3.sI (λa=>g a b) l) m
 | []=>(L3.Zch λ_ _=>rfl).symm
 | a::l=>by
  show L3.sI (g a) m+_=L3.sI (λb=>g a b+L3.sI (λa=>g a b) l) m;rw[L3.Zci,Zp4 (l:=l)]
theorem sI_01 {α:Type}{g:α->Int}:∀ {l:List α},(∀ x∈l,g x=0\/g x=1)->L3.sI g l=((l.filter λx=>decide (g x=1)).length:Nat)
 | [],_=>rfl
 | x::l,h=>by
  have ih:=sI_01 (g:=g) (l:=l) λy hy=>h y (Jbd _ hy);show g x+L3.sI g l=_;rcases h x (Jb4 ..) with e|e
  .rw [List.filter_cons_of_neg (by rw[e];decide),e,ih];omega
  .rw [List.filter_cons_of_pos (by rw[e];decide),e,ih,Jau];omega
noncomputable def cntS (ps:List (Int×Int))(rs:List (List Int))(S:List Int):Int:=L3.sI (λr=>L3.qf S (Za0 ps S) (atZ r)) rs
theorem cnt_sum (hin:InP (n:Nat) ps)(al:AllR n ps rs):L3.sI (cntS ps rs) (Zbg n (Za3 ps))=(rs.length:Nat):=by
 unfold cntS;rw[Zp4];rw[L3.Zak (h:=λ_=>(1:Int)) λr hr=>by rw[<- Zqe hin];exact (al.2.1 r hr).rt.one];rw[L3.Zbu];omega
theorem Zln (hin:InP (n:Nat) ps)(n8:n<=8)(g:Zmp n ps){r:List Int}(R:RtR n ps r){S:List Int}(h:S∈Zbg n (Za3 ps)):(L3.qf S (Za0 ps S) (atZ r)=0\/L3.qf S (Za0 ps S) (atZ r)=1)/\(L3.qf S (Za0 ps S) (atZ r)=1->∀ p∈Zax n,p∉S->atZ r p=0):=by
 have nn:∀ S∈Zbg n (Za3 ps),0<=L3.qf S (Za0 ps S) (atZ r):=λS hS=>(Zhl hin n8 g hS).nn (Zgu hin n8 hS).ins;have one:=R.rt.one;rw[Zqe hin] at one;have h1:=L3.Zd4 (g:=λS=>L3.qf S (Za0 ps S) (atZ r)) h nn;have h0:=nn S h;refine⟨∅,λe p hp np=>Jah λz=>?_⟩;refine Zae (own_row hin hp) λS' hS' hp'=>?_;have ne:S≠S':=λe=>np (e ▸ hp');have h2:=L3.Zp3 (g:=λS=>L3.qf S (Za0 ps S) (atZ r)) h hS' ne nn;have:=Zhl hin n8 g hS' (atZ r) ⟨p,hp',z⟩;omega
theorem q_off (hin:InP (n:Nat) ps)(n8:n<=8){S:List Int}(h:S∈Zbg n (Za3 ps)){X:Int->Int}(hX:∀ p,p∉S->X p=0):L3.qf (Zax n) ps X=L3.qf S (Za0 ps S) X:=by
 refine Zau (Zd6 h) λk ek hk e91=>?_;obtain rfl:=e91;have e1:L3.sI (λp=>X p*X p) (Zax n)=L3.sI (λp=>X p*X p) (Zdl n (Za3 ps) k):=by
  rw[<- Zbl];refine L3.Zd5 λx hx h=>?_;have:x∉Zdl n (Za3 ps) k:=λz=>by
   have:=(Zb0.mp z).2;simp[this] at h
  rw[hX x this];rfl
 have e2:L3.sI (λe:Int×Int=>X e.1*X e.2) ps=L3.sI (λe:Int×Int=>X e.1*X e.2) (Za0 ps (Zdl n (Za3 ps) k)):=L3.Zd5 λe he h=>by
  have:e.1∉Zdl n (Za3 ps) k:=λz=>by simp[z] at h
  rw[hX _ this];exact Jf9 _
 unfold L3.qf;rw[e1,e2]
theorem Zsp (hin:InP (n:Nat) ps)(n8:n<=8)(g:Zmp n ps)(al:AllR n ps rs){S:List Int}(h:S∈Zbg n (Za3 ps)){r:Str×Int}(k:Zh2 S (Za0 ps S) (some r)):cntS ps rs S=dueK r:=by
 have pc:=Zgu hin n8 h;refine Zbf (Zin pc k) λxs s sh hs e92=>?_;obtain rfl:=e92;refine Zap (sh_all sh pc.nd hs (Zhl hin n8 g h)) λins am tl=>?_;have xn:xs.Nodup:=sh.pm.nodup_iff.mp pc.nd;have xl:=sh.len;have xp:∀ x∈xs,x∈Zax n:=λx hx=>Zal.mpr (pc.inm x (sh.pm.mem_iff.mpr hx));rw[<- tl];unfold cntS;rw[sI_01 λr hr=>(Zln hin n8 g (al.2.1 r hr) h).1];congr 1
 -- there and back
 have toB:∀ r,RtR n ps r->L3.qf S (Za0 ps S) (atZ r)=1->xs.map (atZ r)∈tabR s:=λr R e=>am.2.2 _ ⟨by rw[Jaa];exact xl,λp _=>Zn6 (λv hv=>by
  refine Zae (Jan.mp hv) λx hx e93=>?_;obtain rfl:=e93;exact R.rt.nn x (xp x hx)) p,by rw[<- sh.q];exact e⟩
 have bk:∀ w:List Int,w.length=xs.length->xs.map (λp=>w.getD (xs.idxOf p) 0)=w:=λw hw=>by
  refine Je7 (by rw[Jaa];exact hw.symm) λi h1 h2=>?_;rw[Jcl,xn.idxOf_getElem,Jax,Jac h2];rfl
 have bk2:∀ w:List Int,w.length=xs.length->xs.map (atZ ((Zax n).map λp=>w.getD (xs.idxOf p) 0))=w:=λw hw=>by
  conv=>rhs;rw[<- bk w hw]
  exact Jc9 λx hx=>Zf2 x (xp x hx)
 have toA:∀ w∈tabR s,((Zax n).map λp=>w.getD (xs.idxOf p) 0)∈rs.filter λr=>decide (L3.qf S (Za0 ps S) (atZ r)=1):=λw hw=>by
  have W:=am.2.1 w hw;have wl:w.length=xs.length:=by rw[W.len,xl]
  have q1:L3.qf S (Za0 ps S) (λp=>w.getD (xs.idxOf p) 0)=1:=by rw[sh.q,bk w wl];exact W.rt.one
  have off:∀ p,p∉S->w.getD (xs.idxOf p) 0=0:=λp hp=>by
   have:xs.idxOf p=xs.length:=List.idxOf_eq_length λz=>hp (sh.pm.mem_iff.mpr z);rw[this,<- wl,Jax,Jgb (Jaf _)];rfl
  have wn:∀ v∈w,0<=v:=λv hv=>by
   obtain⟨i,hi,rfl⟩:=Jbl hv;have:=W.rt.nn (i:Nat) (Zal.mpr ⟨∅,by have:=W.len;omega⟩);unfold atZ at this;rw[Jaz,Jax,Jac hi] at this;exact this
  have inn:=Zjk hin;refine Jal.mpr ⟨al.2.2 _ ⟨by rw[Jaa,Zdn],λp hp=>?_,?_⟩,Jam ?_⟩
  .rw [Zf2 p hp];exact Zn6 wn ((xs.idxOf p:Nat):Int)
  .rw [L3.Zdm inn Zf2,q_off hin n8 h off,q1]
  .rw [L3.Zdm pc.ins λp hp=>Zf2 p (Zal.mpr (pc.inm p hp)),q1]
 refine Nat.le_antisymm ?_ ?_
 .rw [<- Jaa (f:=λr:List Int=>xs.map (atZ r))];refine L3.Zaz (L3.Zbd (Jbj Jbg al.1) λr hr r' hr' e=>?_) λw hw=>?_
  .obtain ⟨h1,h2⟩:=Jal.mp hr;obtain⟨h3,h4⟩:=Jal.mp hr';have R:=al.2.1 r h1;have R':=al.2.1 r' h3;refine Zi8 R.len R'.len λp hp=>?_;by_cases hS:p∈S
   .exact List.map_inj_left.mp e p (sh.pm.mem_iff.mp hS)
   .rw [(Zln hin n8 g R h).2 (Jaj h2) p hp hS,(Zln hin n8 g R' h).2 (Jaj h4) p hp hS]
  .refine Zae (Jan.mp hw) λr hr e94=>?_;obtain rfl:=e94;obtain⟨h1,h2⟩:=Jal.mp hr;exact toB r (al.2.1 r h1) (Jaj h2)
 .rw [<- Jaa (f:=λw:List Int=>(Zax n).map λp=>w.getD (xs.idxOf p) 0)];refine L3.Zaz (L3.Zbd am.1 λw hw w' hw' e=>?_) λr hr=>?_
  .rw [<- bk2 w (by rw[(am.2.1 w hw).len,xl]),<- bk2 w' (by rw[(am.2.1 w' hw').len,xl]),e]
  .refine Zae (Jan.mp hr) λw hw e95=>?_;obtain rfl:=e95;exact toA w hw
end
end Pf
namespace Pf
open PySem L2 PyProof.Rows
section
variable {C:Addr}
theorem room20 {k:Nat}{A:Around}(hr:Room k A):A.units+20<cLine:=by have:=hr.un;omega
theorem Zpn (a:List Int):Zh5 a=L3.sI (λv=>v) a:=by
 rw[Zj1 rfl]
 conv=>rhs;rw[<- Zl2 (a:=a) rfl]
 rw[L3.Zf7]
theorem Zv0 {k:Int}{x:Int->Int}:∀ {ps:List (Int×Int)},(∀ q∈ps,¬ (q.1=k/\q.2=k))->L3.sI (λv=>v) ((Zex ps k).map x)=L3.nb ps x k
 | [],_=>rfl
 | q::ps,h=>by
  have ih:=Zv0 (x:=x) (ps:=ps) λy hy=>h y (Jbd _ hy);have h0:=h q (Jb4 ..);show L3.sI (λv=>v) ((Zsw k q++Zex ps k).map x)=((if q.1=k then x q.2 else 0)+(if q.2=k then x q.1 else 0))+L3.nb ps x k;rw[Ja3,L3.Zde,ih];congr 1;unfold Zsw;by_cases h1:q.1=k
  .have h2:¬ q.2=k:=λz=>h0 ⟨h1,z⟩;rw[if_pos h1,if_pos h1,if_neg h2];rfl
  .rw [if_neg h1,if_neg h1];by_cases h2:q.2=k
   .rw [if_pos h2,if_pos h2];show x q.1+0=0+x q.1;omega
   .rw [if_neg h2,if_neg h2];rfl
theorem mirT_nb {k:Int}{ns:List Int}{ps:List (Int×Int)}(h:∀ q∈ps,¬ (q.1=k/\q.2=k)):Zk7 ns k ps=L3.nb ps (atZ ns) k:=by
 unfold Zk7;rw[Zl0 ns k _ λq hq=>h q (List.mem_reverse.mp hq)];exact L3.Zeq (Je3 _)
theorem bes_in {k m:Int}{ps:List (Int×Int)}(hin:InP m ps):∀ o∈Zex ps k,0<=o/\o<m:=λo ho=>by
 unfold Zex at ho;refine Zae (Jgf.mp ho) λq hq ho=>?_;refine Zbq (hin q hq) λa0 a1 b0 b1=>?_;unfold Zsw at ho;split at ho
 .rw [Jas.mp ho];exact⟨b0,b1⟩
 .split at ho
  .rw [Jas.mp ho];exact⟨a0,a1⟩
  .cases ho
def spLMi:Sp:=λvs H Q _=>∃ (e r:Addr) (n:Nat) (k:Int) (xs:List V) (ps:List (Int×Int)) (ns:List Int),vs=[.ref e,.int k,.ref r]/\H e=some (.lst xs)/\xs.length<=9/\Prs H xs ps/\InP (n:Nat) ps/\(∀ q∈ps,¬ (q.1=k/\q.2=k))/\H r=some (.lst (ns.map V.int))/\ns.length=n/\0<=k/\k<n/\n<=8 /\
 ∀ (t:Addr) (H':Hp),Same H H'->H t=none->H' t=some (.lst ((Zgm k ns ps).map V.int))->Q (.ref t) H'
theorem ok_lmi (F:Fun K "_law_mirrored" "_law_mirrored" Zc9 f fd)(T:Txt K mg C)(Yab:Cal P w K mg base "_law_beside" 1 Zpv):FnOk P w K mg base CX0 2 f fd ["_law_arrows","_law_point","_law_row"] spLMi:=by
 have nd:=Zdy.nd;refine F.ok Zdy (λvs H Q E h=>?_) (λcdv A outer s H vs Q E hr h=>?_)
 .refine xE7_2 h λe r n k xs ps ns e93 _=>?_;clear h;obtain rfl:=e93;rfl
 .refine xE7_4 h λe r n k xs ps ns e94 he hl e95=>?_;clear h;obtain rfl:=e94;refine xE0_9 e95 λhps hin hno hr1 hln k0 k1 m8 q=>?_;clear e95;refine⟨_,((3|||nd|||(Zc5 Zcc rfl T.n_list Jem ((pvr 2)<&>Zab)))<*>((Zd9 (Zc7<|>(Za4 (Zn1 rfl) rfl T.n_sum boot_sum ((Za1 (own:=["_law_other"]) (fr:=[("_law_row",2)]) rfl (Zbo (by kernel_rfl)) (Zav (Yab<$>hr<$>((pv 0)<&>((pv 1)<&>Zab)))) (λ_ _ _ _=>⟨(0<<<["_law_other","_law_row"]),Za5,((Znn K rfl)<|>(pv 1)<||>(pv 0))⟩))<&>Zab))<&&>((ixJ Zaw)<|>(pvr 2)<||>(pvr 1))) (Zhm (pvr 3) (pvr 1) Zcn))<*>(~~~(pvr 3)))),?_⟩;walk_at "wp";refine⟨_,.inl (SqL.of hr1),λl hl0=>?_⟩;have s0:=Same.new (o:=.lst (ns.map V.int)) hl0;have hl1:(upd H l (.lst (ns.map V.int))) l=some (.lst (ns.map V.int)):=Zaa;generalize upd H l (.lst (ns.map V.int))=H1 at *;refine⟨_,rfl,_,rfl,e,xs,ps,k,rfl,s0 _ _ he,hl,hps.same s0,λp H2 s2 hp hp2=>?_⟩;have hB:=bes_in (k:=k) hin;have lB:=Zsv k ps;have:=hps.1;refine⟨p,rfl,⟨_,SqL.of hp2⟩,λD hD=>Zbm (xs:=(Zex ps k).map V.int) (λi vs H'=>Same H2 H'/\H' D=some (.lst vs)/\vs=(((Zex ps k).take i).map (atZ ns)).map V.int) ⟨Same.new hD,Zaa,rfl⟩ (λi vs H' _ j=>SqL.of (j.1 _ _ hp2)) ?_ ?_⟩
  .intro i x vs σ' H' hi hx sh e91;refine Zap e91 λs3 e3 e96=>?_;clear e91;obtain rfl:=e96;obtain⟨z,rfl⟩:=sh.one;rw[Jay] at hx;refine Zae (Jcv.mp hx) λo eo e97=>?_;obtain rfl:=e97;obtain⟨o0,o1⟩:=hB o (Jai eo);simp only[Zcm,Za7,Zgi,List.set_cons_zero,Jdk];walk_at "wp";refine⟨_,rfl,r,rfl,_,SqL.of ((s2.trans s3) _ _ (s0 _ _ hr1)),_,Zbp o0 (Zc4 ∅),leaf (ws:=_) hi Sh.mk1 e3 (Zah (by rw[Jaa,Jaa,Ja4];omega)) ⟨s3.upd hD,Zaa,?_⟩⟩;rw[Jbe,eo,Ja3,Ja3];rfl
  .intro vs H3 e92;refine Zap e92 λs3 e3 e98=>?_;clear e92;obtain rfl:=e98;rw[Jaa,Jbk] at e3;have hk:k.toNat<ns.length:=∅
   have s13:=s2.trans s3;have sm:preSum (λi=>((Zex ps k).map (atZ ns)).getD i 0) ((Zex ps k).map (atZ ns)).length=Zk7 ns k ps:=by
    show Zh5 _=_;rw[Zpn,Zv0 hno,mirT_nb hno]
   refine⟨D,rfl,_,SqL.of e3,_,SqL.of (s13 _ _ (s0 _ _ hr1)),_,Zbp k0 (Zc4 hk),_,rfl,_,s13 _ _ hl1,_,Zno k0 (by rw[Jaa];exact hk),q l _ ?_ hl0 ?_⟩
   .exact (s0.trans s13).upd hl0
   .rw [Zaa,sm,Zfj];rfl
def Zlh:Sp:=λvs H Q _=>∃ (v:V) (r:Str×Int),vs=[v]/\KdV H v (some r)/\(r.1=Str.ofString "A" \/ r.1=Str.ofString "D" \/ (r.1=Str.ofString "E" /\ (r.2=6\/r.2=7\/r.2=8)))/\0<=r.2/\r.2<=8/\∀ H',Same H H'->Q (.int (dueK r)) H'
theorem Ztw (F:Fun K "_law_many" "_law_many" Zfl f fd)(T:Txt K mg C):FnOk P w K mg base CX0 1 f fd ["_law_kind_here"] Zlh:=by
 have nd:=Zg7.nd;refine F.ok Zg7 (λvs H Q E h=>?_) (λcdv A outer s H vs Q E hr h=>?_)
 .refine Zcl h λv r e99 _=>?_;clear h;obtain rfl:=e99;rfl
 .refine xE2_6 h λv r e910 e911 hr1 r0 r8 q=>?_;clear h;obtain rfl:=e910;obtain⟨t,rfl,ht⟩:=e911;refine⟨_,((@Zbb _ _ _ _ _ _ _ _ (Zaq Zcp ((ixTJ Zgf)<|>(pvr 0)<||>Zac) Ze9 (Zam _)) (~~~(Zjh<|>(Zkf<|>((ixTJ Zgf)<|>(pvr 0)<||>Zac)<&&>(Zbc<|>((ixTJ Zgf)<|>(pvr 0)<||>Zac)<&&>Zac))<&&>Zac)) Zao)<*>((@Zbb _ _ _ _ _ _ _ _ (Zaq Zcp ((ixTJ Zgf)<|>(pvr 0)<||>Zac) Ze9 (Zam _)) (~~~(Zkf<|>((ixTJ Zgf)<|>(pvr 0)<||>Zac)<&&>(Zc7<|>((ixTJ Zgf)<|>(pvr 0)<||>Zac)<&&>Zac))) Zao)<*>(~~~(Zaw<|>(@Zbs _ _ _ _ (Zac<&>(Zac<&>(Zac<&>Zab))))<||>(Zc7<|>((ixTJ Zgf)<|>(pvr 0)<||>Zac)<&&>Zac))))),?_⟩;walk_at "wp";obtain⟨r1,r2⟩:=r;dsimp only at *;have hT:SqT K H t [.str r1,.int r2]:=SqT.of ht;have cm:∀ z:Int,CMul r2 z:=λz=>.inl ⟨∅,∅⟩;have q0:=q H (Same.refl H);unfold dueK at q q0;dsimp only at q q0;refine⟨_,hT,_,rfl,rfl,Zc8 (λc1=>?_) (λc1=>⟨_,hT,_,rfl,rfl,Zc8 (λc2=>?_) (λc2=>?_)⟩)⟩
  .have c1:r1=Str.ofString "A" := V.str.inj (Jaj c1);rw[if_pos c1] at q0;exact⟨_,hT,_,rfl,_,hT,_,rfl,_,rfl,_,rfl,cm _,⟨⇑0,⇑0⟩,q0⟩
  .have c1:¬ r1=Str.ofString "A" := λz=>c1 (Jam (Jdr V.str z));have c2:r1=Str.ofString "D" := V.str.inj (Jaj c2);rw[if_neg c1,if_pos c2] at q0;exact⟨_,hT,_,rfl,_,hT,_,rfl,_,rfl,_,rfl,cm _,q0⟩
  .have c1:¬ r1=Str.ofString "A" := λz=>c1 (Jam (Jdr V.str z));have c2:¬ r1=Str.ofString "D" := λz=>c2 (Jam (Jdr V.str z));refine⟨⇑0,λp hp=>?_⟩;have s1:=Same.new (o:=.lst [V.int 36,V.int 63,V.int 120]) hp;have q1:=q _ s1;rw[if_neg c1,if_neg c2] at q1;refine⟨_,SqT.of (s1 _ _ ht),_,rfl,_,rfl,_,SqL.of Zaa,?_⟩;rcases (hr1.resolve_left c1).resolve_left c2 with ⟨_,rfl|rfl|rfl⟩
   .exact ⟨_,rfl,q1⟩
   .exact ⟨_,rfl,q1⟩
   .exact ⟨_,rfl,q1⟩
theorem mir_rt {n:Nat}{ps:List (Int×Int)}{a:List Int}{k:Int}(d:L3.DPos (Zax n) ps)(ins:L3.Ins (Zax n) ps)(R:RtR n ps a)(hk:k∈Zax n)(nn:∀ v∈Zgm k a ps,0<=v):RtR n ps (Zgm k a ps):=by
 have m:=Zrf d R.len hk;refine⟨by rw[Zhs,R.len],λp _=>Zn6 nn p,?_⟩;rw[L3.Zdm ins m,L3.mr_ad,L3.q_ad (Zcy n) hk (L3.Ze7 d (Zcy n) hk),R.rt.one]
 grind
theorem Zs1 (n:Nat){p:Int}(h0:0<=p)(h1:p<n):((Zax n).map λk=>if k=p then (1:Int) else 0)=Zdx n p:=by
 unfold Zdx Zax;refine Je7 (by simp) λi a b=>?_;simp only[Jaa,Jcm] at a;rw[Jcl,Jcl,List.getElem_range,List.getElem_set,List.getElem_replicate];have e:(List.replicate n (0:Int)).getD p.toNat 0=0:=by
  rw[Jax,Jc2,if_pos ∅];rfl
 rw[e];by_cases z:((i:Nat):Int)=p
 .rw [if_pos z,if_pos ∅];rfl
 .rw [if_neg z,if_neg ∅]
theorem Zug {n:Nat}{ps:List (Int×Int)}{a:List Int}(R:RtR n ps a):Zr5 ps a a=1:=by rw[Zr4 R.len];exact R.rt.one
theorem RtR.ge {n:Nat}{ps:List (Int×Int)}{a:List Int}(d:L3.DPos (Zax n) ps)(ins:L3.Ins (Zax n) ps)(n8:n<=8)(R:RtR n ps a):∀ v∈a,0<=v/\v<=256:=by
 intro v hv;obtain⟨i,hi,rfl⟩:=Jbl hv;have hp:((i:Nat):Int)∈Zax n:=Zal.mpr ⟨∅,by have:=R.len;omega⟩;have e:atZ a (i:Nat)=a[i]:=by
  unfold atZ;rw[Jaz,Jax,Jac hi];rfl
 have h0:=R.rt.nn _ hp;have h1:=L3.Zd4 (g:=atZ a) hp R.rt.nn;have h2:=R.rt.small d (Zcy n) ins;have h3:(2:Nat) ^ (Zax n).length<=256:=by rw[Zdn];exact Jgi ⇑0 n8
 rw[e] at h0 h1;omega
noncomputable def kI (r:List Int):List Key:=r.map Sum.inl
theorem kI_V (r:List Int):(kI r).map kV=r.map V.int:=by unfold kI;rw[Jck];rfl
theorem kI_inj {a b:List Int}(h:kI a=kI b):a=b:=by
 have:=Jdr (List.map kV) h;rw[kI_V,kI_V] at this;exact Zrx this
theorem putK_le {κ:Type}[DecidableEq κ](kvs:List (κ×V))(k:κ)(v:V):(Zez kvs k v).length<=kvs.length+1:=by
 unfold Zez;split
 .rw [Jaa];omega
 .rw [Jaq];exact Jaf _
theorem RtR.big {n:Nat}{ps:List (Int×Int)}{a:List Int}(d:L3.DPos (Zax n) ps)(ins:L3.Ins (Zax n) ps)(n8:n<=8)(R:RtR n ps a):∀ v∈a,Big v:=λv hv=>by
 have:=R.ge d ins n8 v hv;unfold Big;omega
theorem RK.at_ {wl:Addr}{H:Hp}{ws:List V}{rows:List (List Int)}{x:V}{i:Nat}(h:RK wl H ws rows)(hx:ws[i]?=some x):∃ (t:Addr) (r:List Int),x=.ref t/\rows[i]?=some r/\t≠wl/\H t=some (.lst (r.map V.int)):=by
 induction h generalizing i with
 | nil=>simp at hx
 | cons n1 e _ ih=>
  cases i with
  | zero=>cases hx;exact⟨_,_,rfl,rfl,n1,e⟩
  | succ i=>exact ih hx
theorem inV_rep (m:Nat):inV (V.bl true) (List.replicate m (V.bl false))=false:=by
 unfold inV;rw[List.any_eq_false];intro x hx;rw[(Jg8.mp hx).2];decide
theorem Zui (m:Nat):(List.replicate m (V.bl false)).all Zgo=true:=Jb1.mpr λx hx=>by
 rw[(Jg8.mp hx).2];rfl
theorem cutJ {c:TT}{A B:TS}{D:Ends}{σ:L2.St}{H:Hp}(h:∀ A' B',A'=A->B'=B->Zu1 c A' B' D σ H):Zu1 c A B D σ H:=h A B rfl rfl
def Ziz:Sp:=λvs H Q _=>∃ (e lr l:Addr) (n:Nat) (xs qs:List V) (ps:List (Int×Int)) (rs:List (List Int)),vs=[.int (n:Nat),.ref e,.ref lr]/\H e=some (.lst xs)/\xs.length<=9/\Prs H xs ps/\InP (n:Nat) ps/\1<=n/\n<=8/\L3.DPos (Zax n) ps/\H lr=some (.lst qs)/\RK l H qs rs/\AllR n ps rs /\
 ∀ H',Same H H'->Q (.bl true) H'
theorem Zq5 (F:Fun K "_law_closed" "_law_closed" Zd1 f fd)(T:Txt K mg C)(Ya3:Cal P w K mg base "_law_form" 1 Zpt)(Ya2:Cal P w K mg base "_law_mirrored" 2 spLMi):FnOk P w K mg base CX0 3 f fd ["_law_many_here","_law_arrows","_law_rows"] Ziz:=by
 have nd:=Ze5.nd;refine F.ok Ze5 (λvs H Q E h=>?_) (λcdv A outer s H vs Q E hr h=>?_)
 .refine xE8_2 h λe lr l n xs qs ps rs e915 _=>?_;clear h;obtain rfl:=e915;rfl
 .refine xE8_4 h λe lr l n xs qs ps rs e916 he hx9 e917=>?_;clear h;obtain rfl:=e916;refine xE0_9 e917 λhps hin n1 n8 dp hlr rk al q=>?_;clear e917;have hu1:=Zoi hr;have ins:=Zjk hin;have few:=RtR.count dp ins n8 al.1 al.2.1;have lq:=rk.len;refine⟨_,((Zat (i:=3) nd rfl (Or.inr rfl) Ztn)<*>((Zb5 Jbu rfl (Zav (pv 2)) (4>>>nd) ((@Zbb _ _ _ _ _ _ _ _ (PW.pt (Zhj (Zej (Zga (Za4 Zbv rfl T.n_isinstance Jef ((pvr 4)<&>((Zls rfl T.n_list Jem)<&>Zab))))) (Zhj (Zaq Zke (Za4 Zaj rfl T.n_len Jbo ((pvr 4)<&>Zab)) (pvr 0) (Zam _)) (Zhj (Zaq Zom (Za4 (Zkv rfl) rfl T.n_min boot_min ((pvr 4)<&>Zab)) Zac (Zam _)) (Zf9 (Zaq Zke (Ya3<$>hr<$>((pvr 1)<&>((pvr 4)<&>((pvr 4)<&>Zab)))) Zac (Zam _))))))) (~~~Zgl) Zao)<*>((@Zbb _ _ _ _ _ _ _ _ (Zaq Zhp Zgl (Za1 (own:=["_law_number"]) (fr:=[]) rfl (Zbo (by kernel_rfl)) (Zav (pv 4)) (λ_ _ _ _=>⟨(0<<<["_law_number"]),Za5,(Za4 (Zkx K rfl) rfl T.n_isinstance Jef ((pv 0)<&>((Zls rfl T.n_bool boot_bool)<&>Zab)))⟩)) (by with_unfolding_all rfl)) (~~~Zgl) Zao)<*>(@Zan _ _ _ (Zlr hu1 (pvr 3) (Zc5 Zb2 rfl T.n_tuple Jgl ((pvr 4)<&>Zab)) Zgl rfl)))))<*>((Zb5 Jbu rfl (Zav (pv 2)) (4>>>nd) (@Zan _ _ _ (Zb5 Jbu rfl (Zgk rfl T.n_range ((pv 0)<&>Zab)) (5>>>nd) ((6|||nd|||(Ya2<$>hr<$>((pvr 1)<&>((pvr 5)<&>((pvr 4)<&>Zab)))))<*>(@Zan _ _ _ (@Zbb _ _ _ _ _ _ _ _ (PW.pt (Zva (Zaq (Zkd hu1) (Zc5 Zb2 rfl T.n_tuple Jgl ((pvr 6)<&>Zab)) (pvr 3) (by with_unfolding_all rfl)) (Zqf (Zaq op_ge (Za4 (Zkv rfl) rfl T.n_min boot_min ((pvr 6)<&>Zab)) Zac (Zam _))))) (~~~Zgl) Zao))))))<*>(~~~(Za4 (Zg0 rfl) rfl T.n_all boot_all ((Za1 (own:=["_law_point"]) (fr:=[("_law_many_here",0),("_law_there",3)]) rfl (Zbo (by kernel_rfl)) (Zgk rfl T.n_range ((pv 0)<&>Zab)) (λ_ _ _ _=>⟨(@Zaf _ _ 0 _ (show (["_law_point","_law_many_here","_law_there"]:List Str).Nodup by decide +kernel) rfl (Or.inr rfl) (Or.inl rfl)),Za5,(Zlu (op_inD hu1) (Zc5 (Zek K rfl) rfl T.n_tuple Jgl ((Za1 (own:=["_law_k"]) (fr:=[("_law_point",0)]) rfl (Zbo (by kernel_rfl)) (Zgk rfl T.n_range ((pv 1)<&>Zab)) (λ_ _ _ _=>⟨(0<<<["_law_k","_law_point"]),Za5,(Zc5 Zsu rfl T.n_int boot_int ((Zlu Zcp (pv 0) (pv 1) (Zam _))<&>Zab))⟩))<&>Zab)) (pv 2) (by with_unfolding_all rfl))⟩))<&>Zab)))))),?_⟩;refine Zdb λX hX=>?_;walk_at "wp";intro th hth;have s0:=Same.new (o:=.dT []) hth;refine hX _ _ _ ?_;refine Zdb λX hX=>?_;refine⟨_,rfl,lr,rfl,⟨_,SqL.of (s0 _ _ hlr)⟩,Zca (xs:=qs) (λk σ Hk=>∃ (v4 v5 v6:Option V) (kvs:List (List Key×V)),σ=[some (.int (n:Nat)),some (.ref e),some (.ref lr),some (.ref th),v4,v5,v6]/\Same H Hk/\Hk th=some (.dT kvs)/\kvs.length<=k/\∀ r:List Int,Zey kvs (kI r)=if r∈rs.take k then some (.bl true) else none)
   ⟨none,none,none,[],rfl,s0,Zaa,Jaf _,λr=>by rw[Jd7,if_neg (by simp)];rfl⟩ (λk σ Hk _ ⟨_,_,_,_,_,sk,_⟩=>SqL.of (sk _ _ hlr)) ?_ ?_⟩
  .intro k x' σ Hk hx e91;refine Zce e91 λv4 v5 v6 kvs e918 sk hk e919=>?_;clear e91;obtain rfl:=e918;obtain⟨kl,kv⟩:=e919;have hk':k<qs.length:=(Jak.mp hx).1;refine Zg3 (rk.at_ hx) λtq rq e920 er ntq htq=>?_;obtain rfl:=e920;have R:=al.2.1 rq (Jai er);have htk:=sk _ _ htq;simp only[Za7,List.set_cons_zero,List.set_cons_succ];refine cutE λD' hD'=>?_;refine Zdb λX2 hX2=>?_;walk_at "wp";have ln:=R.len;have big:=R.big dp ins n8;refine Za2 _ _ ⟨⟨rfl,rfl⟩,_,rfl,_,.lst htk,_,Zeu K,Zl5 ⇑0 ⟨_,.inl (SqL.of htk),Zl5 (by rw[Jaa,ln,Jam rfl];decide) ⟨rq,SqL.of htk,(λz=>by rw[z] at ln;simp at ln;omega),λm hm _=>Zl5 (by have:=(R.ge dp ins n8 m hm).1;rw[Jcg ∅];decide) ?_⟩⟩⟩;refine xI8_1 e tq tq (n:Nat) xs ps rq rq ⟨rfl,sk _ _ he,hx9,hps.same sk,hin,htk,htk,by rw[Jaz];exact ln,by rw[Jaz];exact ln,∅,big,big,rfl,Zl5 (by rw[Zug R];decide) ?_⟩;refine hX2 _ _ _ ?_;refine Zdb λX2 hX2=>?_;walk_at "wp";simp only[Zgj,Zgn,Zgq];refine⟨_,rfl,tq,rfl,⟨_,SqL.of htk⟩,λD hD=>Zbm (xs:=rq.map V.int) (λi vs H'=>Same Hk H'/\H' D=some (.lst vs)/\vs=List.replicate i (V.bl false)) ⟨Same.new hD,Zaa,rfl⟩ (λi vs H' _ j=>SqL.of (j.1 _ _ htk)) ?_ ?_⟩
   .intro i x vs σ' H' hi hx sh e92;refine Zap e92 λs3 e3 e921=>?_;clear e92;obtain rfl:=e921;obtain⟨z,rfl⟩:=sh.one;rw[Jay] at hx;refine Zae (Jcv.mp hx) λo eo e922=>?_;obtain rfl:=e922;simp only[Zcm,Za7,Zgi,List.set_cons_zero,Jdk];walk_at "wp";rw[Jaa] at hi;refine Za2 _ _ ⟨⟨rfl,rfl⟩,_,rfl,_,.int _,_,Zio K,leaf (ws:=_) (by rw[Jaa];exact hi) Sh.mk1 e3 (Zah (by rw[Jbt];omega)) ⟨s3.upd hD,Zaa,?_⟩⟩;rw[List.replicate_succ']
   .intro vs H3 e93;refine Zap e93 λs3 e3 e923=>?_;clear e93;obtain rfl:=e923;have s4:=sk.trans s3;refine⟨D,rfl,_,.inl (SqL.of e3),rfl,Zui _,?_⟩;rw[inV_rep];refine Zl5 ⇑0 ?_;refine hX2 _ _ _ ?_;walk_at "wp";refine⟨_,.inl ⟨SqL.of (s3 _ _ htk),λb hb=>?_⟩⟩;subst hD';have s5:=Same.new (o:=.tup (rq.map V.int)) hb;refine⟨_,DPut.t (k:=kI rq) (s5 _ _ (s3 _ _ hk)) (by rw[Zaa,kI_V]) (by rw[Jc8];omega),_,_,_,_,rfl,(s4.trans s5).upd hth,Zaa,Ja8 (putK_le _ _ _) (oz54 kl),λr=>?_⟩;rw[Ze0,kv r,Jbe,er];by_cases c:kI r=kI rq
    .rw [if_pos c,if_pos (Jap _ (by rw[kI_inj c];simp))]
    .have c':r≠rq:=λz=>c (by rw[z]);rw[if_neg c];simp[c']
  .intro σ Hk e94;refine Zce e94 λv4 v5 v6 kvs e924 sk hk e925=>?_;clear e94;obtain rfl:=e924;obtain⟨kl,kv⟩:=e925;rw[lq,Jbk] at kv;rw[lq] at kl;show X _ _ _;refine hX _ _ _ ?_;refine Zdb λX hX=>?_;refine⟨_,rfl,lr,rfl,⟨_,SqL.of (sk _ _ hlr)⟩,Zca (xs:=qs) (λk σ H2=>∃ (v4 v5 v6:Option V),σ=[some (.int (n:Nat)),some (.ref e),some (.ref lr),some (.ref th),v4,v5,v6]/\Same Hk H2)
    ⟨v4,v5,v6,rfl,Same.refl _⟩ (λk σ H2 _ ⟨_,_,_,_,s2⟩=>SqL.of ((sk.trans s2) _ _ hlr)) ?_ ?_⟩
   .intro k x' σ H2 hx e95;refine Zdv e95 λv4 v5 v6 e926 s2=>?_;clear e95;obtain rfl:=e926;refine Zg3 (rk.at_ hx) λtq rq e927 er ntq htq=>?_;obtain rfl:=e927;have R:=al.2.1 rq (Jai er);simp only[Za7,List.set_cons_zero,List.set_cons_succ];refine cutE λD' hD'=>?_;refine⟨_,rfl,(n:Nat),rfl,∅,∅,Zdh (λi σ H3=>∃ (v5 v6:Option V),σ=[some (.int (n:Nat)),some (.ref e),some (.ref lr),some (.ref th),some (.ref tq),v5,v6]/\Same Hk H3) ⟨v5,v6,rfl,s2⟩ ?_ ?_⟩
    .intro i σ H3 hi e96;refine Zcl e96 λv5 v6 e928 s3=>?_;clear e96;obtain rfl:=e928;have hp:(0+((i:Nat):Int))∈Zax n:=Zal.mpr ⟨∅,∅⟩;generalize 0+((i:Nat):Int)=p at *;obtain⟨p0,p1⟩:=Zal.mp hp;have s03:=sk.trans s3;simp only[Za7,List.set_cons_zero,List.set_cons_succ];refine cutE λD2 hD2=>?_;refine Zdb λX2 hX2=>?_;walk_at "wp";refine xI7_1 e tq n p xs ps rq ⟨rfl,s03 _ _ he,hx9,hps.same s03,hin,Zrb dp hp,s03 _ _ htq,R.len,p0,p1,n8,λt H4 s4 ft ht=>?_⟩;have s34:=s3.trans s4;have lm:(Zgm p rq ps).length=n:=by rw[Zhs,R.len]
     refine hX2 _ _ _ ?_;refine cutJ λA2 B2 hA2 hB2=>?_;walk_at "wp";have nb:∀ b,H4 b=none->B2 D2 [some (.int (n:Nat)),some (.ref e),some (.ref lr),some (.ref th),some (.ref tq),some (.int p),some (.ref t)] (upd H4 b (.tup ((Zgm p rq ps).map V.int))):=λb hb=>by
      subst hB2 hD2;exact Za2 _ _ ⟨rfl,s34.trans (Same.new hb)⟩
     refine⟨_,.inl ⟨SqL.of ht,λb hb=>?_⟩⟩;have s5:=Same.new (o:=.tup ((Zgm p rq ps).map V.int)) hb;refine Za2 th _ ⟨rfl,DGet.t (k:=kI (Zgm p rq ps)) (s5 _ _ (s34 _ _ hk)) (by rw[Zaa,kI_V]),Zc8 (λc=>?_) (λ_=>nb b hb)⟩;rw[kv] at c;have nin:Zgm p rq ps∉rs:=λz=>by rw[if_pos z] at c;cases c
     refine⟨_,SqL.of (s5 _ _ ht),(λz=>by rw[z] at lm;simp at lm;omega),λm hm hle=>Zl5 ?_ (nb b hb)⟩;have:¬ 0<=m:=λz=>nin (al.2.2 _ (mir_rt dp ins R hp λv hv=>Int.le_trans z (hle v hv)));rw[Jcg this];decide
    .intro σ H3 e97;refine Zcl e97 λv5 v6 e929 s3=>?_;clear e97;obtain rfl:=e929;subst hD';exact Zcs _ _ _ ⟨rfl,s3⟩
   .intro σ H2 e98;refine Zdv e98 λv4 v5 v6 e930 s2=>?_;clear e98;obtain rfl:=e930;show X _ _ _;refine hX _ _ _ ?_;have s02:=sk.trans s2;walk_at "wp";simp only[Zgj,Zoz,Ze1,Zmu,Zgq];refine⟨_,rfl,(n:Nat),rfl,∅,∅,λD hD=>Zgy (n:=Int.toNat (n:Nat)) (λi vs H'=>Same H2 H'/\H' D=some (.lst vs)/\vs=List.replicate i (V.bl true)) ⟨Same.new hD,Zaa,rfl⟩ ?_ ?_⟩
    .intro i x vs σ' H' hi e99;obtain rfl:=e99;intro sh e910;refine Zap e910 λs3 e3 e931=>?_;clear e910;obtain rfl:=e931;obtain⟨z,rfl⟩:=sh.one;have hp:(0+((i:Nat):Int))∈Zax n:=Zal.mpr ⟨∅,∅⟩;have fin:∀ H6:Hp,Same H' H6->Lf D (Int.toNat (n:Nat)) 1 (Zb3 [("_law_many_here",0),("_law_there",3)] [some (.int (n:Nat)),some (.ref e),some (.ref lr),some (.ref th),v4,v5,v6]) (λi vs H'=>Same H2 H'/\H' D=some (.lst vs)/\vs=List.replicate i (V.bl true)) i (some (.int (0+((i:Nat):Int)))::Zb3 [("_law_many_here",0),("_law_there",3)] [some (.int (n:Nat)),some (.ref e),some (.ref lr),some (.ref th),v4,v5,v6]) (.bl true) H6:=λH6 s6=>by
      refine leaf (ws:=_) hi Sh.mk1 (s6 _ _ e3) (Zah (by rw[Jbt];omega)) ⟨(s3.trans s6).upd hD,Zaa,?_⟩;rw[List.replicate_succ']
     generalize 0+((i:Nat):Int)=p at *;obtain⟨p0,p1⟩:=Zal.mp hp;simp only[Zcm,Za7,Zgi,List.set_cons_zero,Jdk];walk_at "wp";simp only[Zgj,Zoz,Ze1,Zmu,Zgq];refine⟨_,rfl,(n:Nat),rfl,∅,∅,λD2 hD2=>Zgy (n:=Int.toNat (n:Nat)) (λi vs H5=>Same H' H5/\H5 D2=some (.lst vs)/\vs=((List.range i).map λj=>if ((j:Nat):Int)=p then (1:Int) else 0).map V.int) ⟨Same.new hD2,Zaa,rfl⟩ ?_ ?_⟩
     .intro j x vs σ5 H5 hj e911;obtain rfl:=e911;intro sh5 e912;refine Zap e912 λs5 e5 e932=>?_;clear e912;obtain rfl:=e932;obtain⟨z5,rfl⟩:=sh5.one;simp only[Zcm,Za7,Zgi,List.set_cons_zero,Jdk];walk_at "wp";refine⟨_,rfl,rfl,leaf (ws:=_) hj Sh.mk1 e5 (Zah (by rw[Jaa,Jaa,Jcm];omega)) ⟨s5.upd hD2,Zaa,?_⟩⟩;rw[Jde,Ja3,Ja3,Int.zero_add];congr 1;show [V.int _]=[V.int _];congr 2;dsimp only;by_cases c:((j:Nat):Int)=p
      .rw [if_pos c,if_pos (Jam (Jdr V.int c))]
      .rw [if_neg c,if_neg (λh=>c (V.int.inj (Jaj h)))]
     .intro vs H5 e913;refine Zap e913 λs5 e5 e933=>?_;clear e913;obtain rfl:=e933;have eu:((List.range (Int.toNat (n:Nat))).map λj=>if ((j:Nat):Int)=p then (1:Int) else 0)=Zdx n p:=by
       rw[<- Zs1 n p0 p1];unfold Zax;rw[Jck,Jaz];rfl
      rw[eu] at e5;refine⟨D2,rfl,_,.inl ⟨SqL.of e5,λb hb=>?_⟩⟩;have s6:=Same.new (o:=.tup ((Zdx n p).map V.int)) hb;refine⟨_,rfl,th,rfl,_,DGet.t (k:=kI (Zdx n p)) (s6 _ _ (s5 _ _ (s3 _ _ (s2 _ _ hk)))) (by rw[Zaa,kI_V]),?_⟩;rw[kv,if_pos (al.2.2 _ (RtR.unit dp ins hp))];exact fin _ (s5.trans s6)
    .intro vs H3 e914;refine Zap e914 λs3 e3 e934=>?_;clear e914;obtain rfl:=e934;refine⟨D,rfl,List.replicate n true,?_,?_⟩
     .rw [List.map_replicate];exact SqL.of e3
     .rw [show (List.replicate n true).all id=true from Jb1.mpr λb hb=>by rw[(Jg8.mp hb).2];rfl];exact q _ (s02.trans s3)
end
end Pf
namespace Pf
open PySem L2 PyProof.Rows
section
variable {C:Addr}{cc:Cs}
theorem RK.zs {wl:Addr}{H:Hp}{ws:List V}{rows:List (List Int)}(h:RK wl H ws rows):∃ zs:List (List Int×Addr),ws=zs.map (V.ref ·.2)/\zs.map (·.1)=rows/\∀ z∈zs,H z.2=some (.lst (z.1.map V.int))/\z.2≠wl:=by
 induction h with
 | nil=>exact⟨[],rfl,rfl,λz h=>by cases h⟩
 | @cons t r ws rows n e _ ih=>
  refine Zau ih λzs e1 e2 e3=>?_;clear ih;refine⟨(r,t)::zs,by rw[Jaw,e1],by rw[Jaw,e2],λz hz=>?_⟩;rcases Jao.mp hz with rfl|hz
  .exact ⟨e,n⟩
  .exact e3 z hz
theorem zs_eq {zs zs0:List (List Int×Addr)}(pm:zs.Perm zs0)(nd:(zs0.map (·.1)).Nodup)(e:zs.map (·.1)=zs0.map (·.1)):zs=zs0:=by
 refine Je7 pm.length_eq λi h1 h2=>?_;obtain⟨j,hj,ej⟩:=Jbl (pm.mem_iff.mp (Jcb h1));have a1:(zs.map (·.1))[i]'(by rw[Jaa];exact h1)=(zs0.map (·.1))[i]'(by rw[Jaa];exact h2):=by simp only[e]
 rw[Jcl,Jcl,<- ej] at a1;by_cases c:i=j
 .subst c;exact ej.symm
 .exfalso;have g:=Jc6.mp nd;rcases Nat.lt_or_gt_of_ne c with c|c
  .exact g i j (by rw[Jaa];exact h2) (by rw[Jaa];exact hj) c (by rw[Jcl,Jcl];exact a1.symm)
  .exact g j i (by rw[Jaa];exact hj) (by rw[Jaa];exact h2) c (by rw[Jcl,Jcl];exact a1)
theorem Zof {H:Hp}(zs:List (List Int×Addr)):Zh3 K H 6 (zs.map (V.ref ·.2)) (zs.map (V.ref ·.2)) (List.replicate zs.length true):=by
 refine⟨rfl,by rw[Jbt,Jaa],λj x y b h1 h2 h3=>?_⟩;rw[h1] at h2;cases h2;rw[Jay] at h1;refine Zae (Jcv.mp h1) λz ez e98=>?_;obtain rfl:=e98;have hj:j<zs.length:=(Jak.mp ez).1;rw[Jc2,if_pos hj] at h3;cases h3;exact .same
theorem Zua {H:Hp}(ns:List Int):∀ (j:Nat) x y b,(ns.map V.int)[j]?=some x->(ns.map V.int)[j]?=some y->(List.replicate (ns.map V.int).length true)[j]?=some b->EqD K H 5 x y b:=by
 intro j x y b h1 h2 h3;rw[h1] at h2;cases h2;rw[Jc2] at h3;split at h3
 .cases h3;rw[Jay] at h1;refine Zae (Jcv.mp h1) λz _ e99=>?_;obtain rfl:=e99;have:=EqD.flat (K:=K) (H:=H) (n:=5) (x:=.int z) (y:=.int z) rfl rfl;simpa [eqV] using this
 .cases h3
theorem rk_eq {w1 w2:Addr}{H:Hp}{us vs:List V}{L:List (List Int)}(h:RK w1 H us L)(h':RK w2 H vs L):Zh3 K H 6 us vs (List.replicate us.length true):=by
 refine⟨h.len.trans h'.len.symm,Jbt,λj x y b h1 h2 h3=>?_⟩;have hn:j<us.length:=(Jak.mp h1).1;rw[Jc2,if_pos hn] at h3;cases h3;refine Zg3 (h.at_ h1) λt r e910 e1 _ ht=>?_;obtain rfl:=e910;refine Zg3 (h'.at_ h2) λt' r' e911 e2 _ ht'=>?_;obtain rfl:=e911;rw[e1] at e2;cases e2;by_cases c:t=t'
 .subst c;exact .same
 .have:=EqD.list (K:=K) (n:=5) (bs:=List.replicate (r.map V.int).length true) c (SqL.of ht) (SqL.of ht') rfl Jbt (Zua r);rwa [Zmn] at this
theorem shp_kd:shps.all (λs=>decide (((kdS s).1=Str.ofString "A" \/ (kdS s).1=Str.ofString "D" \/ ((kdS s).1=Str.ofString "E" /\ ((kdS s).2=6\/(kdS s).2=7\/(kdS s).2=8)))/\0<=(kdS s).2/\(kdS s).2<=8))=true:=⋯
theorem kd_fine {m:Int}{ps:List (Int×Int)}{S:List Int}{r:Str×Int}(pc:Pc m ps S)(k:Zh2 S (Za0 ps S) (some r)):(r.1=Str.ofString "A" \/ r.1=Str.ofString "D" \/ (r.1=Str.ofString "E" /\ (r.2=6\/r.2=7\/r.2=8)))/\0<=r.2/\r.2<=8:=by
 refine Zbf (Zin pc k) λxs s _ hs e912=>?_;obtain rfl:=e912;exact Jaj (Jb1.mp shp_kd s hs)
theorem Zta (n:Nat)(f:Int->Int):(Zbg n f).length<=n:=by
 rw[<- Zcb];unfold Zdw Zax;rw[Jaa];refine Ja8 (Ja9 _ _) ?_;simp
theorem Zup {a D:Addr}{zs:List (List Int×Addr)}{fr:List (Str×Nat)}{σ:L2.St}{te:TE}{H1:Hp}{Q:VK}(ha:H1 a=some (.lst (zs.map (V.ref ·.2))))(hD:H1 D=none)(hn:zs.length<=900)(he:∀ z H (Q:VK),z∈zs->Same H1 H->(∀ t H',H t=none->Same H H'->H' t=some (.tup (z.1.map V.int))->Q (.ref t) H')->te (some (.ref z.2)::Zb3 fr σ) H Q)(hQ:∀ (ys:List (List Int×Addr)) H',Same H1 H'->H' D=some (.lst (ys.map (V.ref ·.2)))->ys.map (·.1)=zs.map (·.1)->(∀ y∈ys,Zo8 H' y)->Q (.ref D) H'):Zb4 (Za7 0) Zgi te (Itl K a) D (Zfe 1 fr σ) H1 Q:=by
 refine Zbm (xs:=zs.map (V.ref ·.2)) (λi vs H=>Same H1 H/\∃ ys:List (List Int×Addr),vs=ys.map (V.ref ·.2)/\H D=some (.lst vs)/\ys.map (·.1)=(zs.take i).map (·.1)/\∀ y∈ys,Zo8 H y/\y.2≠D) ⟨Same.new hD,[],rfl,Zaa,rfl,λy h=>by cases h⟩ (λi vs H _ p=>SqL.of (p.1 _ _ ha)) ?_ (λvs H ⟨s,ys,e0,e,hv,hr⟩=>hQ ys H s (by rw[e,e0]) (by rw[Jaa,Jbk] at hv;exact hv) λy hy=>(hr y hy).1);intro i x vs σ' H hi hx sh e91;obtain⟨s,ys,rfl,e,hv,hr⟩:=e91;obtain⟨z0,rfl⟩:=sh.one;rw[Jay] at hx;refine Zae (Jcv.mp hx) λz ez e913=>?_;obtain rfl:=e913;have hv1:=Jdr List.length hv;rw[Jaa,Jaa,Ja4] at hv1;simp only[Zcm,Za7,Zgi,List.set_cons_zero,Jdk];refine he z H _ (Jai ez) s λt H' ft s' ht=>?_;have nt:t≠D:=(Zad e ft).symm;refine leaf (ws:=(ys++[(z.1,t)]).map (V.ref ·.2)) hi Sh.mk1 (s' _ _ e) (Zah (by rw[Jaa];omega)) ⟨(s.trans s').upd hD,ys++[(z.1,t)],rfl,?_,?_,λy hy=>?_⟩
 .rw [Zaa,Ja3];rfl
 .rw [Jbe,ez,Ja3,Ja3,hv];rfl
 .rcases Jbf.mp hy with hy|hy
  .obtain ⟨h1,h2⟩:=hr y hy;exact⟨by unfold Zo8;rw[Zag h2];exact s' _ _ h1,h2⟩
  .rw [Jas.mp hy];exact⟨by unfold Zo8;rw[Zag nt];exact ht,nt⟩
def Zs7 (K:Frag):Sp:=λvs H Q _=>∃ (a:Addr) (ns:List Int),vs=[.ref a]/\SqL K H a (ns.map V.int)/\ns.length<=63/\∀ H',Q (.bl true) H'
theorem ok_law (F:Fun K "law" "law" Zi5 f fd)(T:Txt K mg C)(XT:Xt K mg base cc)(Ya0:Cal P w K mg base "_law_cell" 1 (Zpu K))(Yal:Cal P w K mg base "_law_bag" 1 spBag)(Yaa:Cal P w K mg base "_law_draw" 1 Ze3)(Yaz:Cal P w K mg base "_law_drawn" 4 (Ze2 0 4))(Yac:CalI P w K mg base "Drawing" C 4 (Zmx C))(Yaf:CalE P w K mg base "roots" 6 (Zlf C cc.NoKind))(Yaj:Cal P w K mg base "_law_closed" 3 Ziz)(Yau:Cal P w K mg base "_law_pieces" 1 Zg4)(Yam:Cal P w K mg base "_law_kind" 3 spLk)(Yav:Cal P w K mg base "_law_many" 1 Zlh):
  FnOk P w K mg base CX0 7 f fd ["_law_script"] (Zs7 K):=by
 have nd:=Zu3.nd;refine F.ok Zu3 (λvs H Q E h=>?_) (λcdv A outer s H vs Q E hr h=>?_)
 .refine Zcl h λa ns e914 _=>?_;clear h;obtain rfl:=e914;rfl
 .refine Zg3 h λa ns e915 hS hl q=>?_;clear h;obtain rfl:=e915;have hu1:=Zoi hr;refine⟨_,((Zb5 Jbu rfl (Zgk rfl T.n_range ((Zbc<|>(Za4 (Zkw rfl) rfl T.n_min boot_min ((Za4 Zaj rfl T.n_len Jbo ((pv 0)<&>Zab))<&>(Zac<&>Zab)))<&&>Zac)<&>Zab)) (1>>>nd) ((2|||nd|||(Yal<$>hr<$>((Ya0<$>hr<$>((pvr 0)<&>((pvr 1)<&>Zab)))<&>Zab)))<*>((Zd9 (Yaz<$>hr<$>((pvr 2)<&>((Yaa<$>hr<$>((pvr 2)<&>(Zac<&>Zab)))<&>Zab))) (@Zgb _ _ _ _ _ 2 rfl ((3>>>nd)^^^((@Zaf _ _ 4 _ nd rfl (Or.inr rfl) (Or.inl rfl))^^^(@Zdo _))) ⇑1 ⇑1))<*>((5|||nd|||(pe_n Yac hr.m rfl ((pvr 3)<&>((Zc5 Zcc rfl T.n_list Jem ((pvr 4)<&>Zab))<&>Zab))))<*>((6|||nd|||(pe_cE Yaf Zqu hr.m rfl ((pvr 5)<&>Zab)))<*>((@Zbb _ _ _ _ _ _ _ _ (PW.pt (Zhj (Zej (Zga (Za4 Zbv rfl T.n_isinstance Jef ((pvr 6)<&>((Zls rfl T.n_list Jem)<&>Zab))))) (Zhj (Zaq (Zvk (Zj8 hr)) (pvr 6) (Za4 (Zjr (Zj8 hr)) rfl T.n_sorted Jgz ((pvr 6)<&>Zab)) (Zam _)) (Zf9 (Zej (Zga (Yaj<$>hr<$>((pvr 3)<&>((pvr 4)<&>((pvr 6)<&>Zab)))))))))) (~~~Zgl) Zao)<*>((7|||nd|||(Za4 (Zh0 K rfl rfl) rfl T.n_sum boot_sum ((Za1 (own:=["_law_piece"]) (fr:=[("_law_arrows",4)]) rfl (Zbo (by kernel_rfl)) (Zav (Yau<$>hr<$>((pv 3)<&>((pv 4)<&>Zab)))) (λ_ _ _ _=>⟨(0<<<["_law_piece","_law_arrows"]),Za5,(Yav<$>hr<$>((Yam<$>hr<$>((pv 1)<&>((pv 0)<&>Zab)))<&>Zab))⟩))<&>Zab)))<*>((@Zbb _ _ _ _ _ _ _ _ (PW.pt (Zhj (Zaq Zke (Za4 Zaj rfl T.n_len Jbo ((pvr 6)<&>Zab)) (pvr 7) (Zam _)) (Zf9 (Zaq Zke (Za4 Zjs rfl T.n_len Jbo ((Zc5 (Zku rfl (room20 hr)) rfl T.n_set boot_set ((Za1 (own:=["_law_row"]) (fr:=[]) rfl (Zbo (by kernel_rfl)) (Zav (pv 6)) (λ_ _ _ _=>⟨(0<<<["_law_row"]),Za5,(Zc5 (Zek K rfl) rfl T.n_tuple Jgl ((pv 0)<&>Zab))⟩))<&>Zab))<&>Zab)) (pvr 7) (Zam _))))) (~~~Zgl) Zao)<*>((Zft (i:=8) (own:=["_law_row"]) (fr:=[]) rfl (Zbo (by kernel_rfl)) (Zav (pv 6)) (λ_ _ _ _=>⟨(0<<<["_law_row"]),Za5,(Zc5 (Zfg K rfl) rfl T.n_list Jem ((pv 0)<&>Zab))⟩) nd rfl rfl rfl)<*>((Zb5 Jbu rfl (Zav (pv 6)) (9>>>nd) (@Zan _ _ _ (Zb7 (Zfa Jbh Jb6 Jb7 (mtJ Zbj) (pvr 9) (Zac<&>Zab)))))<*>((Zb7 (Zvh Jbh PySem.F.slot_list_reverse PySem.F.type_list_reverse Zop (pvr 6)))<*>(@Zan _ _ _ (@Zbb _ _ _ _ _ _ _ _ (Zaq (Zvk (Zj8 hr)) (pe_cE Yaf Zqu hr.m rfl ((pvr 5)<&>Zab)) (pvr 8) (Zam _)) (~~~Zgl) Zao)))))))))))))<*>(~~~Zgl)),?_⟩;refine⟨_,rfl,a,_,rfl,.inl hS,_,_,rfl,_,_,rfl,rfl,_,rfl,?_,?_,Zdh (λi σ H2=>∃ v1 v2 v3 v4 v5 v6 v7 v8 v9:Option V,σ=[some (.ref a),v1,v2,v3,v4,v5,v6,v7,v8,v9]/\Same H H2) ⟨none,none,none,none,none,none,none,none,none,rfl,Same.refl H⟩ ?_ ?_⟩
  .split <;> omega
  .split <;> omega
  .intro i σ H2 hi e92;refine xE9_2 e92 λv1 v2 v3 v4 v5 v6 v7 v8 v9 e916 s2=>?_;clear e92;obtain rfl:=e916;refine Zdb λX hX=>?_;walk_at "wp";refine Zcs a ns (0+i) ⟨rfl,s2.seq hS,hl,∅,λc=>⟨c,rfl,λl xa xb hl0 xb0 xb1=>?_⟩⟩;have b3:Bag (upd H2 l (Zn9 xa xb)) l:=Bag.set xb0 xb1;have s3:Same H (upd H2 l (Zn9 xa xb)):=s2.trans (Same.new hl0);have fl:H l=none:=s2.free hl0;refine hX _ _ _ ?_;refine Zdb λX hX=>?_;walk_at "wp";refine b3.draw (n:=5) ⇑0 ⇑0 λr H4 r0 r1 e4 b4=>⟨l,r,rfl,r0,∅,b4,λp e n xs ps H5 O=>⟨p,rfl,_,SqT.of O.tup,rfl,_,_,rfl,_,_,rfl,rfl,?_⟩⟩
   have s5:Same H H5:=Same.thru (Same.thru s3 fl e4) fl O.ext;have m0:=O.lo;have m8:=O.hi;have hOl:=O.lst;have pk:=O.pk;have hin:=O.ip;have dp:=O.dp;have ins:=Zjk hin;have xl:xs.length<=9:=by rw[pk.len];exact O.len
   clear O;refine hX _ _ _ ?_;refine Zdb λX hX=>?_;walk_at "wp";refine⟨xs,.inl (SqL.of hOl),λlc hlc x dx hx hdx ndx=>mk_draw hx hdx ndx Zaa xl (pk.prs.same (Same.new hlc)) hin m0 m8 λH6 s6' D6=>?_⟩;have s6:Same H5 H6:=(Same.new hlc).trans s6';refine⟨rfl,hX _ _ _ ?_⟩;refine Zdb λX hX=>?_;walk_at "wp";refine Zcs x n ps ⟨rfl,D6,hin,m0,m8,λg=>(Zne hin m8 g (DPos.nn dp)).elim,λg lr qs rs H9 s9 flr hlr rf al so=>?_⟩;have s59:=s6.trans s9;have hO9:=s59 _ _ hOl;have pk9:=pk.same s59;have few:=RtR.count dp ins m8 al.1 al.2.1;have sH9:=s5.trans s59;have sH6:=s5.trans s6;clear s6 s6' hx hdx pk hOl s59;have ll:=(b4.same (Same.refl _)).lst;refine hX _ _ _ ?_;refine Zdb λX hX=>?_;walk_at "wp";have rk9:RK lr H9 qs rs:=RK.of rf λt _ nt=>nt;refine Zau rk9.zs λzs ez ek hz=>?_;subst ez;have fz:∀ z∈zs,H6 z.2=none:=λz hz'=>by
    obtain⟨i,hi,rfl⟩:=Jbl hz';obtain⟨t,e1,_,e2,_⟩:=rf.2 i (.ref zs[i].2) zs[i].1 (by rw[Jay,Jac hi];rfl) (by rw[<- ek,Jay,Jac hi];rfl);cases e1;exact e2
   have ndk:(zs.map (·.1)).Nodup:=by rw[ek];exact al.1
   have zl:zs.length=rs.length:=by rw[<- ek,Jaa]
   refine Za2 _ _ ⟨⟨rfl,rfl⟩,_,rfl,_,.lst hlr,_,Zeu K,Zl5 ⇑0 ⟨zs,SqL.of hlr,n,λz hz'=>⟨(hz z hz').1,(al.2.1 _ (by rw[<- ek];exact Jei hz')).len⟩,∅,λlb zs2 hlb pm so2=>?_⟩⟩;have e12:zs2=zs:=zs_eq pm ndk (St.lex_uniq (pm.map (·.1)) so2 (by rw[ek];exact so));subst e12;have sb:=Same.new (o:=.lst (zs2.map (V.ref ·.2))) hlb;refine⟨_,SqL.of (sb _ _ hlr),_,SqL.of Zaa,.inr ⟨_,Zof zs2,Zl5 (by rw[Zmn];decide) ⟨e,lr,lr,n,xs,_,ps,rs,rfl,sb _ _ hO9,xl,pk9.prs.same sb,hin,m0,m8,dp,sb _ _ hlr,rk9.keep λt vs _ e=>sb _ _ e,al,λH10 s10'=>⟨true,rfl,Zl5 ⇑0 ?_⟩⟩⟩⟩;have s10:=sb.trans s10';clear sb s10' pm so2;refine hX _ _ _ ?_;refine Zdb λX hX=>?_;walk_at "wp";have hO10:=s10 _ _ hO9;have pr10:=pk9.prs.same s10;have hlr10:=s10 _ _ hlr;simp only[Zgj,Zgn,Zlc,Ze1,Zmu,Zgq];refine⟨_,rfl,_,rfl,e,n,xs,ps,rfl,hO10,m8,xl,pr10,hin,λpd dqs H11 s11 fpd hpd rd=>?_⟩;rw[Ztb (Zok hin)] at rd;have rl:=rd.1;have lr8:=Zta n (Za3 ps);refine⟨pd,rfl,⟨_,SqL.of hpd⟩,λD hD=>Zbm (xs:=dqs) (λi vs H'=>Same H11 H'/\H' D=some (.lst vs)/\vs=(((Zbg n (Za3 ps)).take i).map (cntS ps rs)).map V.int) ⟨Same.new hD,Zaa,rfl⟩ (λi vs H' _ k=>SqL.of (k.1 _ _ hpd)) ?_ ?_⟩
   .intro i' x' vs σ' H' hi' hx' sh e93;refine Zap e93 λs' e' e917=>?_;clear e93;obtain rfl:=e917;obtain⟨z,rfl⟩:=sh.one;have hr':(Zbg n (Za3 ps))[i']?=some ((Zbg n (Za3 ps))[i']'(Zka rl hi')):=Jac _;refine Zla (rd.2 i' x' _ hx' hr') λt e918 _ _ ht=>?_;obtain rfl:=e918;have hS:=Jai hr';generalize (Zbg n (Za3 ps))[i']'(Zka rl hi')=S at *;have pc:=Zgu hin m8 hS;obtain⟨r0,kp0⟩:=g S hS;have sH:=s11.trans s';simp only[Zcm,Za7,Zgi,List.set_cons_zero,Jdk];refine⟨_,rfl,_,rfl,t,e,S,xs,ps,rfl,s' _ _ ht,sH _ _ hO10,pc.nd,pc.le8,pc.ne,xl,pr10.same sH,pc.cl,pc.cn,λr' v H3 kp s3 kv=>?_⟩;have er:=kind_eq pc kp0 kp;subst er;refine Zap (kd_fine pc kp0) λk1 k2 k3=>?_;refine Za2 v r0 ⟨rfl,kv,k1,k2,k3,λH4 s4=>?_⟩;have s34:=s3.trans s4;refine leaf (ws:=_) hi' Sh.mk1 (s34 _ _ e') (Zah (by rw[Jaa,Jaa,Ja4];omega)) ⟨(s'.trans s34).upd hD,Zaa,?_⟩;rw[Jbe,hr',Ja3,Ja3,<- Zsp hin m8 g al hS kp0];rfl
   .intro vs H12 e94;refine Zap e94 λs12 e12 e919=>?_;clear e94;obtain rfl:=e919;rw[rl,Jbk] at e12;have s102:=s11.trans s12;refine⟨D,rfl,_,SqL.of e12,?_⟩;have sm:preSum (λi=>((Zbg n (Za3 ps)).map (cntS ps rs)).getD i 0) ((Zbg n (Za3 ps)).map (cntS ps rs)).length=(rs.length:Nat):=by
     show Zh5 _=_;rw[Zpn,L3.Zf7];exact cnt_sum hin al
    rw[sm];have hlr12:=s102 _ _ hlr10;have hz12:∀ z∈zs2,H12 z.2=some (.lst (z.1.map V.int)):=λz hz'=>s102 _ _ (s10 _ _ (hz z hz').1);have s912:=s10.trans s102;clear rd rl s11 s12 hpd fpd sm;refine hX _ _ _ ?_;refine Zdb λX hX=>?_;walk_at "wp";refine⟨_,.inl (SqL.of hlr12),Zl5 (by rw[Jaa,zl,Jam rfl];decide) ?_⟩;simp only[Zgj,Zgn,Zgq];refine⟨_,rfl,lr,rfl,⟨_,SqL.of hlr12⟩,λD2 hD2=>Zup hlr12 hD2 ∅ (λz H' Q' hz' s' q'=>⟨_,rfl,z.2,rfl,_,.inl ⟨SqL.of (s' _ _ (hz12 z hz')),λl' hl'=>q' l' _ hl' (Same.new hl') Zaa⟩⟩) (λys H13 s13 e13 ek13 hr13=>?_)⟩;have yl:ys.length=rs.length:=by rw[<- zl,<- Jaa (f:=(·.1)) (as:=ys),ek13,Jaa]
    refine⟨D2,rfl,ys,SqL.of e13,hr13,by rw[ek13];exact ndk,∅,λls hls=>⟨_,Zaa,∅,Zl5 (by rw[yl,Jam rfl];decide) ?_⟩⟩;have s1213:=s13.trans (Same.new (o:=SetN P w ls ys.length) hls);generalize upd H13 ls (SetN P w ls ys.length)=H14 at *;have s914:=s912.trans s1213;have hlr14:=s1213 _ _ hlr12;have hz14:∀ z∈zs2,H14 z.2=some (.lst (z.1.map V.int)):=λz hz'=>s1213 _ _ (hz12 z hz');clear s13 e13 ek13 hr13 hls hD2 yl s1213 s912 hlr12 hz12 s102 hlr10 pr10 hO10 s10;refine hX _ _ _ ?_;refine Zdb λX hX=>?_;walk_at "wp";simp only[Zgj,Zgn,Zgq];refine⟨_,rfl,lr,rfl,⟨_,SqL.of hlr14⟩,λdk hdk=>Zsm hlr14 hdk ∅ (λz H' Q' hz' s' q'=>⟨_,rfl,z.2,rfl,_,.inl (SqL.of (s' _ _ (hz14 z hz'))),λl' hl'=>q' l' _ hl' (Same.new hl') Zaa⟩) (λqk H15 s15 e15 rf15=>?_)⟩;rw[ek] at rf15;have rk15:RK dk H15 qk rs:=RK.of rf15 λt _ nt=>nt;have fk:∀ z∈zs2,z.2≠dk:=λz hz'=>Zad (hz14 z hz') hdk;have s615:=(s9.trans s914).trans s15;have hlr15:=s15 _ _ hlr14;have hz15:∀ z∈zs2,∃ vs,H15 z.2=some (.lst vs)/\vs.length<=8+0:=λz hz'=>⟨_,s15 _ _ (hz14 z hz'),by rw[Jaa,(al.2.1 _ (by rw[<- ek];exact Jei hz')).len];omega⟩
    refine hX _ _ _ ?_;refine Zdb λX hX=>?_;refine⟨_,rfl,lr,rfl,⟨_,SqL.of hlr15⟩,Zca (xs:=zs2.map (V.ref ·.2)) (λk σ Hk=>∃ (v9:Option V),σ=[some (.ref a),some (.int (0+(i:Int))),some (.ref l),some (.int (n:Nat)),some (.ref e),some (.ref x),some (.ref lr),some (.int (rs.length:Nat)),some (.ref dk),v9]/\(∀ b o,(∀ z∈zs2,b≠z.2)->H15 b=some o->Hk b=some o)/\∀ z∈zs2,∃ vs,Hk z.2=some (.lst vs)/\vs.length<=8+k)
     ⟨v9,rfl,λb o _ h=>h,hz15⟩ (λk σ Hk _ ⟨_,_,fr,_⟩=>SqL.of (fr _ _ (λz hz'=>(hz z hz').2.symm) hlr15)) ?_ ?_⟩
    .intro k y σ Hk hy e95;refine Zau e95 λv9 e920 fr hv=>?_;clear e95;obtain rfl:=e920;rw[Jay] at hy;refine Zae (Jcv.mp hy) λz ez e921=>?_;obtain rfl:=e921;have hk':k<zs2.length:=(Jak.mp ez).1;refine Zae (hv z (Jai ez)) λvs hvs vl=>?_;simp only[Za7,List.set_cons_zero,List.set_cons_succ];walk_at "wp";refine⟨.inl ⟨rfl,_,SqL.of hvs⟩,vs,hvs,Zah ∅,λb o nb e=>?_,λz' hz'=>?_⟩
     .rw [Zag (nb z (Jai ez))];exact fr b o nb e
     .by_cases c:z'.2=z.2
      .rw [c];exact⟨_,Zaa,by rw[Jaq];show vs.length+1<=_;omega⟩
      .rw [Zag c];refine Zae (hv z' hz') λvs' e' l'=>?_;exact⟨vs',e',∅⟩
    .intro σ H16 e96;refine Zau e96 λv9 e922 fr hv=>?_;clear e96;obtain rfl:=e922;show X _ _ _;refine hX _ _ _ ?_;refine Zdb λX hX=>?_;walk_at "wp";have nlr:∀ z∈zs2,lr≠z.2:=λz hz'=>(hz z hz').2.symm;have hlr16:=fr _ _ nlr hlr15;refine⟨.inl ⟨rfl,_,SqL.of hlr16⟩,lr,_,rfl,rfl,hlr16,?_⟩;show X _ _ _;have n15:lr≠dk:=Zad hlr14 hdk;have fr7:∀ b o,b≠lr->(∀ z∈zs2,b≠z.2)->H15 b=some o->(upd H16 lr (.lst (zs2.map (V.ref ·.2)).reverse)) b=some o:=λb o n1 n2 e=>by rw[Zag n1];exact fr b o n2 e
     generalize upd H16 lr (.lst (zs2.map (V.ref ·.2)).reverse)=H17 at *;have s617:Same H6 H17:=λb o e=>fr7 b o (λc=>by rw[c,flr] at e;cases e) (λz hz' c=>by rw[c,fz z hz'] at e;cases e) (s615 b o e);have dk17:=fr7 _ _ n15.symm (λz hz'=>(fk z hz').symm) e15;have rf17:RowsF dk H14 H17 qk rs:=⟨rf15.1,λi q r h1 h2=>let ⟨t,e1,n1,f,e4⟩:=rf15.2 i q r h1 h2;⟨t,e1,n1,f,fr7 _ _ (Zad hlr14 f).symm (λz hz'=>(Zad (hz14 z hz') f).symm) e4⟩⟩
     have rk17:RK dk H17 qk rs:=RK.of rf17 λt _ nt=>nt;refine hX _ _ _ ?_;refine cutE λD' hD'=>?_;walk_at "wp";refine Zcs x n ps ⟨rfl,D6.same s617,hin,m0,m8,λg'=>(Zne hin m8 g' (DPos.nn dp)).elim,λg' lr2 qs2 rs2 H18 s18 flr2 hlr2 rf2 al2 so2=>?_⟩;have pm2:rs2.Perm rs:=L3.Zb8 al2.1 (λr hr=>al.2.2 r (al2.2.1 r hr)) (L3.Zaz al.1 λr hr=>al2.2.2 r (al.2.1 r hr));have e2:rs2=rs:=St.lex_uniq pm2 so2 so;subst e2;have rkA:RK lr2 H18 qs2 rs2:=RK.of rf2 λt _ nt=>nt;refine⟨lr2,rfl,_,SqL.of hlr2,_,SqL.of (s18 _ _ dk17),.inr ⟨_,rk_eq rkA (rk17.keep λt vs _ e=>s18 _ _ e),Zl5 (by rw[Zmn];decide) ?_⟩⟩;subst hD';exact xI9_1 _ _ _ _ _ _ _ _ _ ⟨rfl,(sH6.trans s617).trans s18⟩
  .intro σ H2 e97;refine xE9_2 e97 λv1 v2 v3 v4 v5 v6 v7 v8 v9 e923 s2=>?_;clear e97;obtain rfl:=e923;walk_at "wp";exact q _
end
end Pf
set_option maxHeartbeats 4000000
namespace Pf
open PySem L2 PyProof.Rows
open PySem.W (nsIn codeIn keepIn fnOf findIn isFn mg_of mg_none_of plainGet hasDictIn plainOver makesIn)
theorem ex1 {us:List Value}(hl:us.length=1):∃ a0,us=[a0]:=match us,hl with|[a0],_=>⟨a0,rfl⟩
theorem ex2 {us:List Value}(hl:us.length=2):∃ a0 a1,us=[a0,a1]:=match us,hl with|[a0,a1],_=>⟨a0,a1,rfl⟩
theorem ex3 {us:List Value}(hl:us.length=3):∃ a0 a1 a2,us=[a0,a1,a2]:=match us,hl with|[a0,a1,a2],_=>⟨a0,a1,a2,rfl⟩
def Gf (K:Frag)(x:Str)(st:Stmt)(f:Addr):Prop:=nsIn K mainGlobals x=some (some (.ref f))/\∃ fd,Fun K x x st f fd
theorem all_mk {l:PySem.W.OpenLaw}{w:World}{K:Frag}{h:Heap}{mg:Str->Option Value}{fa C:Addr}{t1 t2:Tok}(X:K.In h)(G:h.Ns mainGlobals mg)(hfa:mg "law" = some (.ref fa)){f1 f2 f3 f4 f5 f6 f7 f8 f9 f10 f11 f12 f13 f14 f15 f16 f17 f18 f19 f20 f21 f22 f23 f24 f25 f26 f27 f28 f29 f30 f31:Addr}{od28 an28:Option Addr}{sl28:Array (Option Value)}{oc28 kV28 dc28 pm28 ct28 cd28:Value}{x_LimbError x_NoDrawing x_NoKind:Addr}(u1:Gf K "is_whole" Zfq f1)(u2:Gf K "makes_drawing" Zcu f2)(u3:Gf K "is_arrow" Zfr f3)(u4:Gf K "hanging" Zhi f4)(u5:Gf K "kind_of" Zhg f5)(u6:Gf K "arms" Zp2 f6)(u7:Gf K "forked_kind" Zdk f7)(u8:Gf K "is_good" Zhh f8)(u9:Gf K "raised" Zi4 f9)(u10:Gf K "mirrored" Zfk f10)(u11:Gf K "roots" Zll f11)(u12:Gf K "_law_cell" Zfp f12)(u13:Gf K "_law_bag" Zhf f13)(u14:Gf K "_law_draw" Zfo f14)(u15:Gf K "_law_order" Zen f15)(u16:Gf K "_law_rest_edges" Zcf f16)(u17:Gf K "_law_bad_edges" Zcv f17)(u18:Gf K "_law_edges" Zeo f18)(u19:Gf K "_law_drawn" Zep f19)(u20:Gf K "_law_beside" Zd2 f20)(u21:Gf K "_law_pieces" Zd0 f21)(u22:Gf K "_law_far" Zhe f22)(u23:Gf K "_law_kind" Zfm f23)(u24:Gf K "_law_form" Zfn f24)(u25:Gf K "_law_mirrored" Zc9 f25)(u26:Gf K "_law_many" Zfl f26)(u27:Gf K "_law_closed" Zd1 f27)(a28:nsIn K mainGlobals "law" = some (some (.ref f28)))(l28:K.lookup f28=some ⟨oc28,od28,.func (fnOf "law" "law" (Zfz Zi5) (Zec Zi5) (Zai Zi5) .none kV28 dc28 pm28 an28 cd28 ct28),sl28⟩)(c28:codeIn K cd28 "law" = true)(k28:keepIn K (.ref f28)=true)(aC:nsIn K mainGlobals "Drawing" = some (some (.ref C)))(a29:findIn K (.ref C) "__init__" = some (some (.ref f29)))(i29:isFn K (.ref f29)=true)(u29:∃ fd,Fun K "__init__" "Drawing.__init__" Zda f29 fd)(a30:findIn K (.ref C) "pieces" = some (some (.ref f30)))(i30:isFn K (.ref f30)=true)(u30:∃ fd,Fun K "pieces" "Drawing.pieces" Zcg f30 fd)(a31:findIn K (.ref C) "kinds" = some (some (.ref f31)))(i31:isFn K (.ref f31)=true)(u31:∃ fd,Fun K "kinds" "Drawing.kinds" Zcw f31 fd)(pg:plainGet K C Str.empty=true)(hd:hasDictIn K C=true)(po:plainOver K C=true)(sa:findIn K (.ref C) "__setattr__" = some (some (.builtin "object.__setattr__")))(mk:makesIn K C=true)(kc:keepIn K (.ref C)=true)(nM:findIn K (.ref C) "many" = some none)(nA:findIn K (.ref C) "arrows" = some none)(g1:nsIn K mainGlobals "MOST_POINTS" = some (some (.int 8 t1)))(g2:nsIn K mainGlobals "MOST_ARROWS" = some (some (.int 9 t2)))(z0:nsIn K mainGlobals "len" = some none)(z1:nsIn K mainGlobals "range" = some none)(z2:nsIn K mainGlobals "list" = some none)(z3:nsIn K mainGlobals "min" = some none)(z4:nsIn K mainGlobals "int" = some none)(z5:nsIn K mainGlobals "bool" = some none)(z6:nsIn K mainGlobals "tuple" = some none)(z7:nsIn K mainGlobals "all" = some none)(z8:nsIn K mainGlobals "isinstance" = some none)(z9:nsIn K mainGlobals "sorted" = some none)(z10:nsIn K mainGlobals "sum" = some none)(z11:nsIn K mainGlobals "set" = some none)(a_LimbError:nsIn K mainGlobals "LimbError" = some (some (.ref x_LimbError)))(a_NoDrawing:nsIn K mainGlobals "NoDrawing" = some (some (.ref x_NoDrawing)))(a_NoKind:nsIn K mainGlobals "NoKind" = some (some (.ref x_NoKind)))(e_LimbError:PySem.W.excIn K x_LimbError [.type "ValueError",.type "Exception",.type "BaseException",.type "object"] "ValueError.__new__" = true)(e_NoKind:PySem.W.excIn K x_NoKind [.type "ValueError",.type "Exception",.type "BaseException",.type "object"] "ValueError.__new__" = true)(m_R:PySem.W.mroIn K x_NoKind (.ref x_LimbError)=some true)(n_R:x_NoKind≠x_LimbError)(y_ga:findIn K (.ref x_NoKind) "__getattribute__" = some (some (.builtin "BaseException.__getattribute__")))(y_gt:findIn K (.ref x_NoKind) "__getattr__" = some none)(y_cl:findIn K (.ref x_NoKind) "__class__" = some (some (.builtin "object.__class__")))(y_so:PySem.W.mroIn K x_NoKind (.type "object")=some true)(y_sb:PySem.W.mroIn K x_NoKind (.type "BaseException")=some true)(y_v:PySem.W.kitOne K (.ref x_NoKind) (.type "ValueError")=some true):
  ∃ fd:FuncData,(∀ (s:Shared) (v:Value),BindsTo s fd ⟨[v],[]⟩ [("_law_script",v)])/\∀ base:Heap,K.In base->base.Ns mainGlobals mg->FnOk l.prog w K mg base CX0 7 fa fd ["_law_script"] (Zs7 K):=by
 have e:=hfa.symm.trans (mg_of X G a28);cases e;have T:Txt K mg C:=⟨⟨pg,hd,po,sa⟩,nM,nA,mg_none_of X G z0,mg_none_of X G z1,mg_none_of X G z2,mg_none_of X G z3,mg_none_of X G z4,mg_none_of X G z5,mg_none_of X G z6,mg_none_of X G z7,mg_none_of X G z8,mg_none_of X G z9,mg_none_of X G z10,mg_none_of X G z11,⟨t1,mg_of X G g1⟩,⟨t2,mg_of X G g2⟩⟩
 obtain⟨a1,_,F1⟩:=u1;have b1:=F1.binds (ps:=["thing"]) λ_ _ _ _ _ _ us hl=>by obtain⟨_,rfl⟩:=ex1 hl;rfl
 obtain⟨a2,_,F2⟩:=u2;have b2:=F2.binds (ps:=["many","arrows"]) λ_ _ _ _ _ _ us hl=>by obtain⟨_,_,rfl⟩:=ex2 hl;rfl
 obtain⟨a3,_,F3⟩:=u3;have b3:=F3.binds (ps:=["many","thing"]) λ_ _ _ _ _ _ us hl=>by obtain⟨_,_,rfl⟩:=ex2 hl;rfl
 obtain⟨a4,_,F4⟩:=u4;have b4:=F4.binds (ps:=["points","arrows"]) λ_ _ _ _ _ _ us hl=>by obtain⟨_,_,rfl⟩:=ex2 hl;rfl
 obtain⟨a5,_,F5⟩:=u5;have b5:=F5.binds (ps:=["points","arrows"]) λ_ _ _ _ _ _ us hl=>by obtain⟨_,_,rfl⟩:=ex2 hl;rfl
 obtain⟨a6,_,F6⟩:=u6;have b6:=F6.binds (ps:=["points","arrows","fork"]) λ_ _ _ _ _ _ us hl=>by obtain⟨_,_,_,rfl⟩:=ex3 hl;rfl
 obtain⟨a7,_,F7⟩:=u7;have b7:=F7.binds (ps:=["many","lengths"]) λ_ _ _ _ _ _ us hl=>by obtain⟨_,_,rfl⟩:=ex2 hl;rfl
 obtain⟨a8,_,F8⟩:=u8;have b8:=F8.binds (ps:=["drawing"]) λ_ _ _ _ _ _ us hl=>by obtain⟨_,rfl⟩:=ex1 hl;rfl
 obtain⟨a9,_,F9⟩:=u9;have b9:=F9.binds (ps:=["row","point"]) λ_ _ _ _ _ _ us hl=>by obtain⟨_,_,rfl⟩:=ex2 hl;rfl
 obtain⟨a10,_,F10⟩:=u10;have b10:=F10.binds (ps:=["drawing","point","row"]) λ_ _ _ _ _ _ us hl=>by obtain⟨_,_,_,rfl⟩:=ex3 hl;rfl
 obtain⟨a11,_,F11⟩:=u11;have b11:=F11.binds (ps:=["drawing"]) λ_ _ _ _ _ _ us hl=>by obtain⟨_,rfl⟩:=ex1 hl;rfl
 obtain⟨a12,_,F12⟩:=u12;have b12:=F12.binds (ps:=["_law_script","_law_k"]) λ_ _ _ _ _ _ us hl=>by obtain⟨_,_,rfl⟩:=ex2 hl;rfl
 obtain⟨a13,_,F13⟩:=u13;have b13:=F13.binds (ps:=["_law_cell_here"]) λ_ _ _ _ _ _ us hl=>by obtain⟨_,rfl⟩:=ex1 hl;rfl
 obtain⟨a14,_,F14⟩:=u14;have b14:=F14.binds (ps:=["_law_bag_here","_law_many_here"]) λ_ _ _ _ _ _ us hl=>by obtain⟨_,_,rfl⟩:=ex2 hl;rfl
 obtain⟨a15,_,F15⟩:=u15;have b15:=F15.binds (ps:=["_law_bag_here","_law_many_here"]) λ_ _ _ _ _ _ us hl=>by obtain⟨_,_,rfl⟩:=ex2 hl;rfl
 obtain⟨a16,_,F16⟩:=u16;have b16:=F16.binds (ps:=["_law_bag_here","_law_way"]) λ_ _ _ _ _ _ us hl=>by obtain⟨_,_,rfl⟩:=ex2 hl;rfl
 obtain⟨a17,_,F17⟩:=u17;have b17:=F17.binds (ps:=["_law_bag_here"]) λ_ _ _ _ _ _ us hl=>by obtain⟨_,rfl⟩:=ex1 hl;rfl
 obtain⟨a18,_,F18⟩:=u18;have b18:=F18.binds (ps:=["_law_bag_here","_law_way"]) λ_ _ _ _ _ _ us hl=>by obtain⟨_,_,rfl⟩:=ex2 hl;rfl
 obtain⟨a19,_,F19⟩:=u19;have b19:=F19.binds (ps:=["_law_bag_here","_law_way"]) λ_ _ _ _ _ _ us hl=>by obtain⟨_,_,rfl⟩:=ex2 hl;rfl
 obtain⟨a20,_,F20⟩:=u20;have b20:=F20.binds (ps:=["_law_arrows","_law_point"]) λ_ _ _ _ _ _ us hl=>by obtain⟨_,_,rfl⟩:=ex2 hl;rfl
 obtain⟨a21,_,F21⟩:=u21;have b21:=F21.binds (ps:=["_law_many_here","_law_arrows"]) λ_ _ _ _ _ _ us hl=>by obtain⟨_,_,rfl⟩:=ex2 hl;rfl
 obtain⟨a22,_,F22⟩:=u22;have b22:=F22.binds (ps:=["_law_arrows","_law_first"]) λ_ _ _ _ _ _ us hl=>by obtain⟨_,_,rfl⟩:=ex2 hl;rfl
 obtain⟨a23,_,F23⟩:=u23;have b23:=F23.binds (ps:=["_law_arrows","_law_piece"]) λ_ _ _ _ _ _ us hl=>by obtain⟨_,_,rfl⟩:=ex2 hl;rfl
 obtain⟨a24,_,F24⟩:=u24;have b24:=F24.binds (ps:=["_law_arrows","_law_one","_law_other"]) λ_ _ _ _ _ _ us hl=>by obtain⟨_,_,_,rfl⟩:=ex3 hl;rfl
 obtain⟨a25,_,F25⟩:=u25;have b25:=F25.binds (ps:=["_law_arrows","_law_point","_law_row"]) λ_ _ _ _ _ _ us hl=>by obtain⟨_,_,_,rfl⟩:=ex3 hl;rfl
 obtain⟨a26,_,F26⟩:=u26;have b26:=F26.binds (ps:=["_law_kind_here"]) λ_ _ _ _ _ _ us hl=>by obtain⟨_,rfl⟩:=ex1 hl;rfl
 obtain⟨a27,_,F27⟩:=u27;have b27:=F27.binds (ps:=["_law_many_here","_law_arrows","_law_rows"]) λ_ _ _ _ _ _ us hl=>by obtain⟨_,_,_,rfl⟩:=ex3 hl;rfl
 have F28:=fun_mk (st:=Zi5) l28 c28 k28;obtain⟨_,F29⟩:=u29;have b29:=F29.binds (ps:=["self","many","arrows"]) λ_ _ _ _ _ _ us hl=>by obtain⟨_,_,_,rfl⟩:=ex3 hl;rfl
 obtain⟨_,F30⟩:=u30;have b30:=F30.binds (ps:=["self"]) λ_ _ _ _ _ _ us hl=>by obtain⟨_,rfl⟩:=ex1 hl;rfl
 obtain⟨_,F31⟩:=u31;have b31:=F31.binds (ps:=["self"]) λ_ _ _ _ _ _ us hl=>by obtain⟨_,rfl⟩:=ex1 hl;rfl
 refine⟨fnOf "law" "law" (Zfz Zi5) (Zec Zi5) (Zai Zi5) .none kV28 dc28 pm28 an28 cd28 ct28,λs v=>.of_eq rfl,λbase KB _=>?_⟩;have XT:Xt K mg base ⟨x_LimbError,x_NoDrawing,x_NoKind⟩:=⟨mg_of X G a_LimbError,mg_of X G a_NoDrawing,mg_of X G a_NoKind,Zqw KB (mg_of X G a_LimbError) e_LimbError,Zqw KB (mg_of X G a_NoKind) e_NoKind,Zqv KB e_NoKind m_R n_R,⟨y_ga,y_gt,y_cl,y_so,y_sb⟩,Zo6 y_so,y_v⟩
 have C1:Cal l.prog w K mg base "is_whole" 1 Ziw:=⟨_,_,_,Zts F1 T ,mg_of X G a1,F1.kp,b1⟩
 have C3:Cal l.prog w K mg base "is_arrow" 2 Zlj:=⟨_,_,_,Zty F3 T C1,mg_of X G a3,F3.kp,b3⟩
 have C2:Cal l.prog w K mg base "makes_drawing" 3 Zlg:=⟨_,_,_,Ztv F2 T C1 C3,mg_of X G a2,F2.kp,b2⟩
 have C12:Cal l.prog w K mg base "_law_cell" 1 (Zpu K):=⟨_,_,_,ok_cell F12 T ,mg_of X G a12,F12.kp,b12⟩
 have C13:Cal l.prog w K mg base "_law_bag" 1 spBag:=⟨_,_,_,ok_bag F13 T ,mg_of X G a13,F13.kp,b13⟩
 have C14:Cal l.prog w K mg base "_law_draw" 1 Ze3:=⟨_,_,_,ok_draw F14 T ,mg_of X G a14,F14.kp,b14⟩
 have C15:Cal l.prog w K mg base "_law_order" 2 Zpr:=⟨_,_,_,ok_ordN F15 T C14,mg_of X G a15,F15.kp,b15⟩
 have C16:Cal l.prog w K mg base "_law_rest_edges" 2 (Ze2 4 4):=⟨_,_,_,Ztu F16 T C14,mg_of X G a16,F16.kp,b16⟩
 have C17:Cal l.prog w K mg base "_law_bad_edges" 2 (spOut way0):=⟨_,_,_,ok_bad F17 T C14,mg_of X G a17,F17.kp,b17⟩
 have C18:Cal l.prog w K mg base "_law_edges" 3 (Ze2 0 4):=⟨_,_,_,Zq3 F18 T C14 C17 C16,mg_of X G a18,F18.kp,b18⟩
 have C19:Cal l.prog w K mg base "_law_drawn" 4 (Ze2 0 4):=⟨_,_,_,Zq4 F19 T C14 C18 C15,mg_of X G a19,F19.kp,b19⟩
 have C29:CalI l.prog w K mg base "Drawing" C 4 (Zmx C):=⟨_,_,_,ok_init F29 T C2,⟨mk,a29,i29,kc⟩,mg_of X G aC,b29⟩
 have C4:Cal l.prog w K mg base "hanging" 1 spHg:=⟨_,_,_,ok_hg F4 T ,mg_of X G a4,F4.kp,b4⟩
 have C7:Cal l.prog w K mg base "forked_kind" 1 spFk:=⟨_,_,_,ok_fk F7 T ,mg_of X G a7,F7.kp,b7⟩
 have C6:Cal l.prog w K mg base "arms" 2 Zpw:=⟨_,_,_,ok_arms F6 T C4,mg_of X G a6,F6.kp,b6⟩
 have C5:Cal l.prog w K mg base "kind_of" 3 spKo:=⟨_,_,_,ok_ko F5 T C6 C7,mg_of X G a5,F5.kp,b5⟩
 have C30:CalM l.prog w K mg base C "pieces" 2 (Ziy C):=⟨_,_,_,ok_pcs F30 T C4,⟨a30,i30,F30.kp⟩,b30⟩
 have C31:CalM l.prog w K mg base C "kinds" 4 (Zli C):=⟨_,_,_,Ztx F31 T C30 C5,⟨a31,i31,F31.kp⟩,b31⟩
 have C8:Cal l.prog w K mg base "is_good" 5 (Zps C):=⟨_,_,_,ok_good F8 T C31,mg_of X G a8,F8.kp,b8⟩
 have C9:Cal l.prog w K mg base "raised" 1 Zix:=⟨_,_,_,Zq2 F9 T ,mg_of X G a9,F9.kp,b9⟩
 have C10:Cal l.prog w K mg base "mirrored" 1 (spMir C):=⟨_,_,_,ok_mir F10 T ,mg_of X G a10,F10.kp,b10⟩
 have C11:CalE l.prog w K mg base "roots" 6 (Zlf C (⟨x_LimbError,x_NoDrawing,x_NoKind⟩:Pf.Cs).NoKind):=⟨_,_,_,Ztt F11 T XT C8 C9 C10,mg_of X G a11,F11.kp,b11⟩
 have C24:Cal l.prog w K mg base "_law_form" 1 Zpt:=⟨_,_,_,ok_form F24 T ,mg_of X G a24,F24.kp,b24⟩
 have C21:Cal l.prog w K mg base "_law_pieces" 1 Zg4:=⟨_,_,_,Zon F21 T ,mg_of X G a21,F21.kp,b21⟩
 have C20:Cal l.prog w K mg base "_law_beside" 1 Zpv:=⟨_,_,_,ok_bes F20 T ,mg_of X G a20,F20.kp,b20⟩
 have C22:Cal l.prog w K mg base "_law_far" 2 spFar:=⟨_,_,_,ok_far F22 T C20,mg_of X G a22,F22.kp,b22⟩
 have C23:Cal l.prog w K mg base "_law_kind" 3 spLk:=⟨_,_,_,ok_lk F23 T C20 C22,mg_of X G a23,F23.kp,b23⟩
 have C25:Cal l.prog w K mg base "_law_mirrored" 2 spLMi:=⟨_,_,_,ok_lmi F25 T C20,mg_of X G a25,F25.kp,b25⟩
 have C26:Cal l.prog w K mg base "_law_many" 1 Zlh:=⟨_,_,_,Ztw F26 T ,mg_of X G a26,F26.kp,b26⟩
 have C27:Cal l.prog w K mg base "_law_closed" 3 Ziz:=⟨_,_,_,Zq5 F27 T C24 C25,mg_of X G a27,F27.kp,b27⟩
 exact ok_law F28 T XT C12 C13 C14 C19 C29 C11 C27 C21 C23 C26
theorem walk {l:PySem.W.OpenLaw}{q:Program}{loose:List Str}{XP:(Str->Option Value)->Heap->Prop}{YP:World->Heap->Prop}{d:DefRec}{K:Params->Frag}(hq:importsNone q=true)(hn:l.most=some 63)(hdf:d.params.defaults=[])(hY:∀ (w:World) (h:Heap),YP w h->(K w.params).In h)(F:∀ (w:World) (mg:Str->Option Value) (fa:Addr) (h:Heap),(K w.params).In h->h.Ns mainGlobals mg->mg d.name=some (.ref fa)->
   ∃ fd:FuncData,(∀ (s:Shared) (u:Value),BindsTo s fd ⟨[u],[]⟩ [("_law_script",u)])/\∀ base:Heap,(K w.params).In base->base.Ns mainGlobals mg->FnOk l.prog w (K w.params) mg base CX0 7 fa fd ["_law_script"] (Zs7 (K w.params))):
  PySem.W.WalkO q loose XP YP l.row.toRowW d [] (λf vs=>PySem.call f vs):=
 L2.walk_of (n:=63) (k:=7) (x:="_law_script") (CX:=λ_=>CX0) (sp:=λw=>Zs7 (K w.params)) hq hn ⇑0 hdf ⟨rfl,⇑0,⇑0⟩ hY F (λ_ _ a ns hl _ hS=>⟨a,ns,rfl,hS,hl,λ_=>rfl⟩) (λ_ _ _ _ _ h=>h)
end Pf
namespace PySem.W.Fast
def tw10563460700434980928:=0
def tw13066709896935912358:=0
def tw125657195568690731:=0
def tw9288507274849160654:=0
def tw2820825492518129452:=0
def tw13722765812245248113:=0
def tw13350560880236399574:=0
def tw187095553165691602:=0
def tw6954432748766941667:=0
def tw7449915653856143106:=0
def tw9503399239318362026:=0
def tw5691354218982047030:=0
def tw17777153026608131601:=0
def tw952059352624467587:=0
def tw17606007330751736905:=0
def tw685026533071277804:=0
def tw16306230368821405489:=0
def tw1845908549715439425:=0
def tw16938822612781763532:=0
def tw4363808329073860290:=0
def tw16279813057125684325:=0
def tw1237650333026043074:=0
def tw10216483363784439910:=0
def tw2902653070932915309:=0
def tw16682694446503206858:=0
def tw12653031824807724294:=0
def tw9372553359466360295:=0
def tw10949097739230709068:=0
def tw4272330795715511507:=0
def tw11946851300519564142:=0
def tw1041020520065691146:=0
def tw18106218676800248732:=0
def tw2849529802643129923:=0
def tw3641071387243063294:=0
def tw4143826616748925223:=0
def tw5430397283068349787:=0
def tw6978121689244847434:=0
def tw14158790454593628010:=0
def tw10834648243630365499:=0
def tw12757697029483504308:=0
def tw14024843707238868416:=0
def tw13893001686191333651:=0
def tw16931310885972671189:=0
def tw14540117095551635986:=0
def tw5141702716025955830:=0
def tw4170334111219140046:=0
def tw10253696479592397882:=0
def tw6289555621574960005:=0
def tw2893639283261097498:=0
def tw14072397022376649506:=0
def tw4466822900698678245:=0
def tw15177868549154447131:=0
def tw11726405034430162236:=0
def tw8853474660616900064:=0
def tw14907256037613711059:=0
def tw16896306390088103724:=0
def tw10936585494217657761:=0
def tw18380735023708974399:=0
def tw13167125663300305174:=0
def tw17074935691563471595:=0
noncomputable def tw6473485883791224562:=0
def tw16752710621190404834:=0
def tw10017785019236598289:=0
def tw6303339700265661801:=0
def tw11039180719873131122:=0
def tw4542520828305177930:=0
def tw3503443338744296507:=0
def tw13733503634456924840:=0
def tw9301970225185482407:=0
def tw15288024028401864447:=0
def tw15452289642289000168:=0
def tw3112501212861295453:=0
def tw16969731604347142241:=0
def tw10106407219973262713:=0
def tw16000717514041003422:=0
def tw6297119838392882759:=0
def tw12233867752439954802:=0
def tw6576438271934990362:=0
def tw10650424067829853501:=0
def tw11713911229913203270:=0
def tw16404384156619500822:=0
def tw17062671374502898612:=0
def tw8083802848925054861:=0
def tw10107680678824129403:=0
def tw11518681423510234054:=0
def tw17561529664500390250:=0
def tw15606018631100031737:=0
def tw5654395761389206984:=0
def tw2092452275503655578:=0
def tw18405205386679968389:=0
def tw13247828067599213111:=0
def tw7180714852078316957:=0
def tw913796089130991223:=0
def tw3846997854906583456:=0
def tw4641304968917082658:=0
def tw8985153515588158002:=0
def tw3989282272130260565:=0
def tw13366406146590166231:=0
def tw6669398650609872441:=0
def tw3458305508124086744:=0
def tw1669476583298485559:=0
def tw13638999399619458557:=0
def tw8666337471552487326:=0
def tw17265993733040797157:=0
def tw3767025444528514699:=0
def tw4538583609496172007:=0
def tw253182787591529258:=0
def tw170696221774435762:=0
def tw5900945242929214755:=0
def tw2191212000982264852:=0
def tw5086748363355478949:=0
def tw430587074026753885:=0
def tw11422692773599564420:=0
def tw230846529135287459:=0
def tw14722358649956018628:=0
def tw7207357430562574785:=0
def tw9257403110732149526:=0
def tw18259210521133923382:=0
def tw11058344727522514984:=0
def tw12407266161355303053:=0
def tw11035068350562037725:=0
def tw3743305021320515470:=0
def tw10393596622277990200:=0
def tw17799408258501305933:=0
def tw14231103392102947431:=0
def tw5398300885554930819:=0
def tw9838390098522051289:=0
end PySem.W.Fast
open PySem PySem.W PyProof.Rows
local macro_rules | `(tactic| walk_at "v")=>`(tactic| exact⟨_,⟨⟨_,_,_,_,_,_,_,_,_,rfl,by k_is,by k_is⟩,by k_is⟩⟩)
local macro_rules | `(tactic| walk_at "u")=>`(tactic| exact⟨by k_is,_,⟨⟨_,_,_,_,_,_,_,_,_,rfl,by k_is,by k_is⟩,by k_is⟩⟩)
set_option maxRecDepth 100000 in
set_option maxHeartbeats 0 in
theorem PySem.Challenge.cw_limbtables_k22_roots_holds : PySem.Challenge.rw_limbtables_k22_roots.Holds := by
 w_on;o_law;k_head;(case hw=>w_witness2)
 k_fill
 refine Pf.walk (l:=PySem.Challenge.rw_limbtables_k22_roots) ⋯ rfl rfl (λw h Y=>by first|exact PySem.W.kIn_of Y|exact PySem.W.km_in_of Y) ?F
 case F=>
  intro w mg fa h KX G hmg;refine' Pf.all_mk KX G hmg ?u1 ?u2 ?u3 ?u4 ?u5 ?u6 ?u7 ?u8 ?u9 ?u10 ?u11 ?u12 ?u13 ?u14 ?u15 ?u16 ?u17 ?u18 ?u19 ?u20 ?u21 ?u22 ?u23 ?u24 ?u25 ?u26 ?u27 ?a28 ?l28 ?c28 ?k28 ?aC ?a29 ?i29 ?u29 ?a30 ?i30 ?u30 ?a31 ?i31 ?u31 ?pg ?hd ?po ?sa ?mk ?kc ?nM ?nA ?g1 ?g2 ?z0 ?z1 ?z2 ?z3 ?z4 ?z5 ?z6 ?z7 ?z8 ?z9 ?z10 ?z11 ?a_LimbError ?a_NoDrawing ?a_NoKind ?e_LimbError ?e_NoKind ?m_R ?n_R ?y_ga ?y_gt ?y_cl ?y_so ?y_sb ?y_v
  (case u1|u2|u3|u4|u5|u6|u7|u8|u9|u10|u11|u12|u13|u14|u15|u16|u17|u18|u19|u20|u21|u22|u23|u24|u25|u26|u27=>walk_at "u")
  (case a28|l28|c28|k28|aC|a29|i29=>k_is)
  (case u29=>walk_at "v")
  (case a30|i30=>k_is)
  (case u30=>walk_at "v")
  (case a31|i31=>k_is)
  (case u31=>walk_at "v")
  (case pg|hd|po|sa|mk|kc|nM|nA|g1|g2|z0|z1|z2|z3|z4|z5|z6|z7|z8|z9|z10|z11|a_LimbError|a_NoDrawing|a_NoKind=>k_is)
  (case e_LimbError|e_NoKind=>k_exc)
  (case m_R=>k_is)
  (case n_R=>decide)
  (case y_ga|y_gt|y_cl|y_so|y_sb=>k_is)
  (case y_v=>kit_is)
#print axioms PySem.Challenge.cw_limbtables_k22_roots_holds