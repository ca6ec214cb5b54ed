import PyProof.Rows.All
import Wide.All
import OpenK.AllK
import Wide.FinOn
import Lean
import PyProof.EqAt
import PyProof.EqKinds
import PyProof.TupleCall
import PyProof.ZipIter
import PyProof.Rows.ZipGen
import PyProof.SumWalkG
import PyProof.DictCompW
import PyProof.Rows.SortWalk
import PyProof.EnumMake
import PyProof.EnumFor
import PyProof.Rows.EnumRows
import KE.KRevIter
import PyProof.ListNew
import PyProof.Rows.CountFlat
import PyProof.EqAt
import PyProof.MinMaxWalk
import PyProof.Rows.SeqMore2
import PyProof.FactsAll.int_6
import PyProof.AutoIntG2
import PyProof.RulesAs
import PyProof.Rows.TopTwo
import PyProof.ExcArgsOwn
import PyProof.ExcBaseAll.ValueError
import OpenK.KDescr
import KE.RegKIsAll
import PyProof.NeKinds
import PySem.Challenge.RW_limbtables_k59_members_refused
open PySem.W (Frag)
variable{P:PySem.Program}{w:PySem.World}{K:PySem.W.Frag}{mg:PySem.Str->Option PySem.Value}{base:PySem.Heap}{f:PySem.Addr}{fd:PySem.FuncData}
local macro_rules|`(∅)=>`(by omega)
local macro_rules|`(⋯)=>`(by decide +kernel)
local macro_rules|`(⇑0)=>`(by decide)
local macro_rules|`(⇑1)=>`(by rfl)
noncomputable section
abbrev Jaa:=@List.getElem?_eq_getElem
abbrev Jab:=@List.length_map
abbrev Jac:=@PySem.wpAny_bind
abbrev Jad:=@PySem.Heap.get?_push_of_some
abbrev Jae:=@PySem.Heap.lt_size
abbrev Jaf:=@Nat.le_refl
abbrev Jag:=@decide_eq_true
abbrev Jah:=@List.getElem?_eq_some_iff
abbrev Jai:=@List.mem_of_getElem?
abbrev Jaj:=@List.size_toArray
abbrev Jak:=@List.length_append
abbrev Jal:=@PySem.wpAny_pure
abbrev Jam:=@List.mem_singleton
abbrev Jan:=@List.mem_map
abbrev Jao:=@List.getD_eq_getElem?_getD
abbrev Jap:=@List.mem_append_right
abbrev Jaq:=@of_decide_eq_true
abbrev Jar:=@List.getElem?_append_left
abbrev Jas:=@Classical.byContradiction
abbrev Jat:=@List.getElem?_append_right
abbrev Jau:=@List.getElem?_map
abbrev Jav:=@Bool.false_ne_true
abbrev Jaw:=@List.map_append
abbrev Jax:=@List.mem_cons
abbrev Jay:=@PySem.F.plainAttrs_list
abbrev Jaz:=@List.mem_filter
abbrev Ja0:=@List.length_take
abbrev Ja1:=@Nat.ne_of_lt
abbrev Ja2:=@PySem.Heap.get?_push_size
abbrev Ja3:=@Nat.lt_of_lt_of_le
abbrev Ja4:=@List.length_replicate
abbrev Ja5:=@decide_eq_false
abbrev Ja6:=@PySem.boot_len
abbrev Ja7:=@PySem.PassesOwn.never
abbrev Ja8:=@List.map_cons
abbrev Ja9:=@List.mem_cons_of_mem
abbrev Jba:=@List.filter_sublist
abbrev Jbb:=@List.take_add_one
abbrev Jbc:=@List.lookup_cons
abbrev Jbd:=@List.eq_nil_of_length_eq_zero
abbrev Jbe:=@List.Nodup.sublist
abbrev Jbf:=@Nat.le_trans
abbrev Jbg:=@PySem.wpAny_mono
abbrev Jbh:=@PyProof.Rows.callWith_type1
abbrev Jbi:=@List.length_filter_le
abbrev Jbj:=@PySem.Heap.get?_update_other
abbrev Jbk:=@List.take_length
abbrev Jbl:=@Nat.le_of_lt
abbrev Jbm:=@Nat.zero_le
abbrev Jbn:=@List.all_eq_true
abbrev Jbo:=@Option.some.inj
abbrev Jbp:=@List.mem_append
abbrev Jbq:=@List.length_cons
abbrev Jbr:=@List.getElem_mem
abbrev Jbs:=@PyProof.Rows.boot_isinstance
abbrev Jbt:=@beq_iff_eq
abbrev Jbu:=@List.mem_iff_getElem
abbrev Jbv:=@Nat.lt_irrefl
abbrev Jbw:=@Bool.eq_iff_iff
abbrev Jbx:=@List.nodup_cons
abbrev Jby:=@List.getElem?_replicate
abbrev Jbz:=@List.mem_range
abbrev Jb0:=@PySem.wpAny_truthy_bool
abbrev Jb1:=@PySem.F.slot_list_append
abbrev Jb2:=@PySem.F.type_list_append
abbrev Jb3:=@List.mem_cons_self
abbrev Jb4:=@PySem.Heap.get?_update_self
abbrev Jb5:=@Bool.and_eq_true
abbrev Jb6:=@List.length_range
abbrev Jb7:=@PySem.W.kia_one
abbrev Jb8:=@PySem.mem_of_lookup
abbrev Jb9:=@List.getElem?_eq_none
abbrev Jca:=@PySem.wpAny_holding
abbrev Jcb:=@PySem.wpAny_newObj_type
abbrev Jcc:=@decide_eq_true_iff
abbrev Jcd:=@PySem.wpAny_standAt
abbrev Jce:=@Option.isSome_iff_exists
abbrev Jcf:=@PyProof.Rows.boot_list
abbrev Jcg:=@PySem.Heap.size_push
abbrev Jch:=@List.cons.injEq
abbrev Jci:=@List.flatten_replicate_singleton
abbrev Jcj:=@List.filterMap_cons
abbrev Jck:=@if_true
abbrev Jcl:=@Int.toNat_of_nonneg
abbrev Jcm:=@List.getElem?_set
abbrev Jcn:=@List.map_map
abbrev Jco:=@List.count_pos_iff
abbrev Jcp:=@Nat.le_add_right
abbrev Jcq:=@Int.mul_nonneg
abbrev Jcr:=@Nat.le_of_succ_le
abbrev Jcs:=@Ne.symm
abbrev Jct:=@List.map_congr_left
abbrev Jcu:=@PySem.W.cellsFrom_some
abbrev Jcv:=@PySem.MeetsSeq.plain_remove_loop
abbrev Jcw:=@PyProof.Rows.assignInOrder_cons
abbrev Jcx:=@Nat.ne_of_gt
abbrev Jcy:=@List.filter_append
abbrev Jcz:=@List.mem_append_left
abbrev Jc0:=@PySem.wpAny_passesOwn
abbrev Jc1:=@PySem.wpAny_comprehension_free
abbrev Jc2:=@PyProof.Rows.slot_tuple_getitem
abbrev Jc3:=@Nat.not_lt_zero
abbrev Jc4:=@PySem.wpAny_updateSeq
abbrev Jc5:=@PySem.AutoSeq1.wpAny_loadPart'
abbrev Jc6:=@Int.toNat_natCast
abbrev Jc7:=@beq_eq_false_iff_ne
abbrev Jc8:=@List.replicate_succ
abbrev Jc9:=@List.length_drop
abbrev Jda:=@PySem.wpAny_Call_Name_kw
abbrev Jdb:=@Bool.false_eq_true
abbrev Jdc:=@List.find?_cons
abbrev Jdd:=@PySem.wpAny_specialOf
abbrev Jde:=@PySem.builtinLookup_eq_fast
abbrev Jdf:=@List.count_cons
abbrev Jdg:=@List.range_succ
abbrev Jdh:=@PySem.wpAny_pyIter_list
abbrev Jdi:=@List.all_cons
abbrev Jdj:=@List.any_cons
abbrev Jdk:=@List.flatten_cons
abbrev Jdl:=@PySem.wpAny_loadPart_at
abbrev Jdm:=@Array.getElem?_eq_some_iff
abbrev Jdn:=@List.drop_eq_getElem_cons
abbrev Jdo:=@List.exists_mem_of_ne_nil
abbrev Jdp:=@Nat.lt_succ_self
abbrev Jdq:=@List.mem_flatten
abbrev Jdr:=@decide_eq_decide
abbrev Jds:=@List.take_succ_cons
abbrev Jdt:=@Int.zero_mul
abbrev Jdu:=@List.length_erase_of_mem
abbrev Jdv:=@List.eq_of_mem_replicate
abbrev Jdw:=@PySem.F.slot_list_extend
abbrev Jdx:=@PySem.F.type_list_extend
abbrev Jdy:=@Int.mul_nonneg_of_nonpos_of_nonpos
abbrev Jdz:=@PySem.wpAny_execs_nil
abbrev Jd0:=@List.append_nil
abbrev Jd1:=@PySem.W.callWith_K
abbrev Jd2:=@Bool.or_eq_true
abbrev Jd3:=@PySem.Obj.data_mapFields
abbrev Jd4:=@List.append_assoc
abbrev Jd5:=@List.eraseIdxIfInBounds_toArray
abbrev Jd6:=@Nat.lt_succ_of_lt
abbrev Jd7:=@PySem.wpAny_field
abbrev Jd8:=@Int.le_refl
abbrev Jd9:=@List.filter_congr
abbrev Jea:=@Option.some.injEq
abbrev Jeb:=@List.nodup_append
abbrev Jec:=@congrArg
abbrev Jed:=@PySem.wpAny_bindName
abbrev Jee:=@List.drop_zero
abbrev Jef:=@PySem.wpAny_isTrue_Compare1
abbrev Jeg:=@PySem.W.methodCall_KW
abbrev Jeh:=@PySem.codeAny_mono
abbrev Jei:=@List.map_nil
abbrev Jej:=@List.take_append_drop
abbrev Jek:=@List.count_cons_of_ne
abbrev Jel:=@List.not_mem_nil
abbrev Jem:=@List.count_cons_self
abbrev Jen:=@List.length_eraseIdx
abbrev Jeo:=@if_false
abbrev Jep:=@Bool.true_and
abbrev Jeq:=@PySem.call_meets
abbrev Jer:=@Array.length_toList
abbrev Jes:=@PySem.W.plainGet_of
abbrev Jet:=@List.of_mem_zip
abbrev Jeu:=@Option.map_some
abbrev Jev:=@PySem.typeLookup_type
abbrev Jew:=@Int.mul_ne_zero
abbrev Jex:=@List.mem_filterMap
abbrev Jey:=@PySem.Calls.spliced_cons
abbrev Jez:=@PySem.Heap.IsSliceOf.new
abbrev Je0:=@Nat.lt_of_le_of_lt
abbrev Je1:=@PySem.SeqAt.EqAt.of_refs
abbrev Je2:=@Int.mul_zero
abbrev Je3:=@Int.add_zero
abbrev Je4:=@List.contains_cons
abbrev Je5:=@Int.emod_lt_of_pos
abbrev Je6:=@PyProof.Rows.boot_all
abbrev Je7:=@List.pairwise_cons
abbrev Je8:=@List.erase_sublist
abbrev Je9:=@List.map_replicate
abbrev Jfa:=@Bool.false_and
abbrev Jfb:=@PySem.wpAny_nameGoes
abbrev Jfc:=@PySem.Calls.spliced_nil
abbrev Jfd:=@List.take_sublist
abbrev Jfe:=@PySem.slot_list_getitem
abbrev Jff:=@Int.gcd_dvd_right
abbrev Jfg:=@PySem.wpAny_pyIter_enum
abbrev Jfh:=@List.mem_range'_1
abbrev Jfi:=@List.pairwise_map
abbrev Jfj:=@List.Sublist.refl
abbrev Jfk:=@Int.emod_eq_of_lt
abbrev Jfl:=@PySem.Paired.length
abbrev Jfm:=@List.set_comm
abbrev Jfn:=@Nat.le_succ
abbrev Jfo:=@PySem.evalPart_none
abbrev Jfp:=@Bool.or_false
abbrev Jfq:=@PySem.plainId_quiet
abbrev Jfr:=@PySem.wpAny_rule
set_option compiler.postponeCompile true
set_option bootstrap.genMatcherCode false
set_option genSizeOf false
set_option Elab.async false
set_option linter.all false
namespace L2
theorem Zn8 {p f1 f2 f3 f4 f5 f6 f7 f8 f9:Prop}{G:Prop}(h:p/\f1/\f2/\f3/\f4/\f5/\f6/\f7/\f8/\f9)(f:p->f1->f2->f3->f4->f5->f6->f7->f8->f9->G):G:=let ⟨h0,h1,h2,h3,h4,h5,h6,h7,h8,h9⟩:=h;f h0 h1 h2 h3 h4 h5 h6 h7 h8 h9
theorem xE0_12 {p f1 f2 f3 f4 f5 f6 f7 f8 f9 g0 g1:Prop}{G:Prop}(h:p/\f1/\f2/\f3/\f4/\f5/\f6/\f7/\f8/\f9/\g0/\g1)(f:p->f1->f2->f3->f4->f5->f6->f7->f8->f9->g0->g1->G):G:=let ⟨h0,h1,h2,h3,h4,h5,h6,h7,h8,h9,h10,h11⟩:=h;f h0 h1 h2 h3 h4 h5 h6 h7 h8 h9 h10 h11
theorem Zar {p f1 f2:Prop}{G:Prop}(h:p/\f1/\f2)(f:p->f1->f2->G):G:=let ⟨h0,h1,h2⟩:=h;f h0 h1 h2
theorem Zbx {p f1 f2 f3:Prop}{G:Prop}(h:p/\f1/\f2/\f3)(f:p->f1->f2->f3->G):G:=let ⟨h0,h1,h2,h3⟩:=h;f h0 h1 h2 h3
theorem Zdu {p f1 f2 f3 f4:Prop}{G:Prop}(h:p/\f1/\f2/\f3/\f4)(f:p->f1->f2->f3->f4->G):G:=let ⟨h0,h1,h2,h3,h4⟩:=h;f h0 h1 h2 h3 h4
theorem Zgf {p f1 f2 f3 f4 f5:Prop}{G:Prop}(h:p/\f1/\f2/\f3/\f4/\f5)(f:p->f1->f2->f3->f4->f5->G):G:=let ⟨h0,h1,h2,h3,h4,h5⟩:=h;f h0 h1 h2 h3 h4 h5
theorem Zlt {p f1 f2 f3 f4 f5 f6:Prop}{G:Prop}(h:p/\f1/\f2/\f3/\f4/\f5/\f6)(f:p->f1->f2->f3->f4->f5->f6->G):G:=let ⟨h0,h1,h2,h3,h4,h5,h6⟩:=h;f h0 h1 h2 h3 h4 h5 h6
theorem xE0_8 {p f1 f2 f3 f4 f5 f6 f7:Prop}{G:Prop}(h:p/\f1/\f2/\f3/\f4/\f5/\f6/\f7)(f:p->f1->f2->f3->f4->f5->f6->f7->G):G:=let ⟨h0,h1,h2,h3,h4,h5,h6,h7⟩:=h;f h0 h1 h2 h3 h4 h5 h6 h7
theorem xE0_9 {p f1 f2 f3 f4 f5 f6 f7 f8:Prop}{G:Prop}(h:p/\f1/\f2/\f3/\f4/\f5/\f6/\f7/\f8)(f:p->f1->f2->f3->f4->f5->f6->f7->f8->G):G:=let ⟨h0,h1,h2,h3,h4,h5,h6,h7,h8⟩:=h;f h0 h1 h2 h3 h4 h5 h6 h7 h8
theorem xE11_2 {A B C D E F I J K L M:Type}{p f1:A->B->C->D->E->F->I->J->K->L->M->Prop}{G:Prop}(h:∃ a b c d e i j k l m n,p a b c d e i j k l m n/\f1 a b c d e i j k l m n)(f:∀ a b c d e i j k l m n,p a b c d e i j k l m n->f1 a b c d e i j k l m n->G):G:=let ⟨a,b,c,d,e,i,j,k,l,m,n,h0,h1⟩:=h;f a b c d e i j k l m n h0 h1
theorem xE11_4 {A B C D E F I J K L M:Type}{p f1 f2 f3:A->B->C->D->E->F->I->J->K->L->M->Prop}{G:Prop}(h:∃ a b c d e i j k l m n,p a b c d e i j k l m n/\f1 a b c d e i j k l m n/\f2 a b c d e i j k l m n/\f3 a b c d e i j k l m n)(f:∀ a b c d e i j k l m n,p a b c d e i j k l m n->f1 a b c d e i j k l m n->f2 a b c d e i j k l m n->f3 a b c d e i j k l m n->G):G:=let ⟨a,b,c,d,e,i,j,k,l,m,n,h0,h1,h2,h3⟩:=h;f a b c d e i j k l m n h0 h1 h2 h3
theorem xE14_2 {A B C D E F I J K L M N O P:Type}{p f1:A->B->C->D->E->F->I->J->K->L->M->N->O->P->Prop}{G:Prop}(h:∃ a b c d e i j k l m n o q r,p a b c d e i j k l m n o q r/\f1 a b c d e i j k l m n o q r)(f:∀ a b c d e i j k l m n o q r,p a b c d e i j k l m n o q r->f1 a b c d e i j k l m n o q r->G):G:=let ⟨a,b,c,d,e,i,j,k,l,m,n,o,q,r,h0,h1⟩:=h;f a b c d e i j k l m n o q r h0 h1
theorem xE14_4 {A B C D E F I J K L M N O P:Type}{p f1 f2 f3:A->B->C->D->E->F->I->J->K->L->M->N->O->P->Prop}{G:Prop}(h:∃ a b c d e i j k l m n o q r,p a b c d e i j k l m n o q r/\f1 a b c d e i j k l m n o q r/\f2 a b c d e i j k l m n o q r/\f3 a b c d e i j k l m n o q r)(f:∀ a b c d e i j k l m n o q r,p a b c d e i j k l m n o q r->f1 a b c d e i j k l m n o q r->f2 a b c d e i j k l m n o q r->f3 a b c d e i j k l m n o q r->G):G:=let ⟨a,b,c,d,e,i,j,k,l,m,n,o,q,r,h0,h1,h2,h3⟩:=h;f a b c d e i j k l m n o q r h0 h1 h2 h3
theorem Zw4 {A B C D E F I J K L M N O P Q R S:Type}{p f1 f2 f3:A->B->C->D->E->F->I->J->K->L->M->N->O->P->Q->R->S->Prop}{G:Prop}(h:∃ a b c d e i j k l m n o q r s t u,p a b c d e i j k l m n o q r s t u/\f1 a b c d e i j k l m n o q r s t u/\f2 a b c d e i j k l m n o q r s t u/\f3 a b c d e i j k l m n o q r s t u)(f:∀ a b c d e i j k l m n o q r s t u,p a b c d e i j k l m n o q r s t u->f1 a b c d e i j k l m n o q r s t u->f2 a b c d e i j k l m n o q r s t u->f3 a b c d e i j k l m n o q r s t u->G):G:=let ⟨a,b,c,d,e,i,j,k,l,m,n,o,q,r,s,t,u,h0,h1,h2,h3⟩:=h;f a b c d e i j k l m n o q r s t u h0 h1 h2 h3
theorem xE18_3 {A B C D E F I J K L M N O P Q R S T:Type}{p f1 f2:A->B->C->D->E->F->I->J->K->L->M->N->O->P->Q->R->S->T->Prop}{G:Prop}(h:∃ a b c d e i j k l m n o q r s t u v,p a b c d e i j k l m n o q r s t u v/\f1 a b c d e i j k l m n o q r s t u v/\f2 a b c d e i j k l m n o q r s t u v)(f:∀ a b c d e i j k l m n o q r s t u v,p a b c d e i j k l m n o q r s t u v->f1 a b c d e i j k l m n o q r s t u v->f2 a b c d e i j k l m n o q r s t u v->G):G:=let ⟨a,b,c,d,e,i,j,k,l,m,n,o,q,r,s,t,u,v,h0,h1,h2⟩:=h;f a b c d e i j k l m n o q r s t u v h0 h1 h2
theorem Zah {A:Type}{p f1:A->Prop}{G:Prop}(h:∃ a,p a/\f1 a)(f:∀ a,p a->f1 a->G):G:=let ⟨a,h0,h1⟩:=h;f a h0 h1
theorem Zap {A:Type}{p f1 f2:A->Prop}{G:Prop}(h:∃ a,p a/\f1 a/\f2 a)(f:∀ a,p a->f1 a->f2 a->G):G:=let ⟨a,h0,h1,h2⟩:=h;f a h0 h1 h2
theorem Zm4 {A:Type}{p f1 f2 f3:A->Prop}{G:Prop}(h:∃ a,p a/\f1 a/\f2 a/\f3 a)(f:∀ a,p a->f1 a->f2 a->f3 a->G):G:=let ⟨a,h0,h1,h2,h3⟩:=h;f a h0 h1 h2 h3
theorem Zm3 {A:Type}{p f1 f2 f3 f4:A->Prop}{G:Prop}(h:∃ a,p a/\f1 a/\f2 a/\f3 a/\f4 a)(f:∀ a,p a->f1 a->f2 a->f3 a->f4 a->G):G:=let ⟨a,h0,h1,h2,h3,h4⟩:=h;f a h0 h1 h2 h3 h4
theorem xE1_6 {A:Type}{p f1 f2 f3 f4 f5:A->Prop}{G:Prop}(h:∃ a,p a/\f1 a/\f2 a/\f3 a/\f4 a/\f5 a)(f:∀ a,p a->f1 a->f2 a->f3 a->f4 a->f5 a->G):G:=let ⟨a,h0,h1,h2,h3,h4,h5⟩:=h;f a h0 h1 h2 h3 h4 h5
theorem Zpl {A B:Type}{p:A->B->Prop}{G:Prop}(h:∃ a b,p a b)(f:∀ a b,p a b->G):G:=let ⟨a,b,h0⟩:=h;f a b h0
theorem Zbg {A B:Type}{p f1:A->B->Prop}{G:Prop}(h:∃ a b,p a b/\f1 a b)(f:∀ a b,p a b->f1 a b->G):G:=let ⟨a,b,h0,h1⟩:=h;f a b h0 h1
theorem Za3 {A B:Type}{p f1 f2:A->B->Prop}{G:Prop}(h:∃ a b,p a b/\f1 a b/\f2 a b)(f:∀ a b,p a b->f1 a b->f2 a b->G):G:=let ⟨a,b,h0,h1,h2⟩:=h;f a b h0 h1 h2
theorem Zeh {A B:Type}{p f1 f2 f3:A->B->Prop}{G:Prop}(h:∃ a b,p a b/\f1 a b/\f2 a b/\f3 a b)(f:∀ a b,p a b->f1 a b->f2 a b->f3 a b->G):G:=let ⟨a,b,h0,h1,h2,h3⟩:=h;f a b h0 h1 h2 h3
theorem Zju {A B:Type}{p f1 f2 f3 f4:A->B->Prop}{G:Prop}(h:∃ a b,p a b/\f1 a b/\f2 a b/\f3 a b/\f4 a b)(f:∀ a b,p a b->f1 a b->f2 a b->f3 a b->f4 a b->G):G:=let ⟨a,b,h0,h1,h2,h3,h4⟩:=h;f a b h0 h1 h2 h3 h4
theorem Zqq {A B:Type}{p f1 f2 f3 f4 f5:A->B->Prop}{G:Prop}(h:∃ a b,p a b/\f1 a b/\f2 a b/\f3 a b/\f4 a b/\f5 a b)(f:∀ a b,p a b->f1 a b->f2 a b->f3 a b->f4 a b->f5 a b->G):G:=let ⟨a,b,h0,h1,h2,h3,h4,h5⟩:=h;f a b h0 h1 h2 h3 h4 h5
theorem Zum {A B C:Type}{p:A->B->C->Prop}{G:Prop}(h:∃ a b c,p a b c)(f:∀ a b c,p a b c->G):G:=let ⟨a,b,c,h0⟩:=h;f a b c h0
theorem Zfa {A B C:Type}{p f1:A->B->C->Prop}{G:Prop}(h:∃ a b c,p a b c/\f1 a b c)(f:∀ a b c,p a b c->f1 a b c->G):G:=let ⟨a,b,c,h0,h1⟩:=h;f a b c h0 h1
theorem Zim {A B C:Type}{p f1 f2:A->B->C->Prop}{G:Prop}(h:∃ a b c,p a b c/\f1 a b c/\f2 a b c)(f:∀ a b c,p a b c->f1 a b c->f2 a b c->G):G:=let ⟨a,b,c,h0,h1,h2⟩:=h;f a b c h0 h1 h2
theorem Zb3 {A B C:Type}{p f1 f2 f3:A->B->C->Prop}{G:Prop}(h:∃ a b c,p a b c/\f1 a b c/\f2 a b c/\f3 a b c)(f:∀ a b c,p a b c->f1 a b c->f2 a b c->f3 a b c->G):G:=let ⟨a,b,c,h0,h1,h2,h3⟩:=h;f a b c h0 h1 h2 h3
theorem Zm2 {A B C D:Type}{p f1:A->B->C->D->Prop}{G:Prop}(h:∃ a b c d,p a b c d/\f1 a b c d)(f:∀ a b c d,p a b c d->f1 a b c d->G):G:=let ⟨a,b,c,d,h0,h1⟩:=h;f a b c d h0 h1
theorem xE4_3 {A B C D:Type}{p f1 f2:A->B->C->D->Prop}{G:Prop}(h:∃ a b c d,p a b c d/\f1 a b c d/\f2 a b c d)(f:∀ a b c d,p a b c d->f1 a b c d->f2 a b c d->G):G:=let ⟨a,b,c,d,h0,h1,h2⟩:=h;f a b c d h0 h1 h2
theorem Zdt {A B C D:Type}{p f1 f2 f3:A->B->C->D->Prop}{G:Prop}(h:∃ a b c d,p a b c d/\f1 a b c d/\f2 a b c d/\f3 a b c d)(f:∀ a b c d,p a b c d->f1 a b c d->f2 a b c d->f3 a b c d->G):G:=let ⟨a,b,c,d,h0,h1,h2,h3⟩:=h;f a b c d h0 h1 h2 h3
theorem Zm1 {A B C D E:Type}{p f1:A->B->C->D->E->Prop}{G:Prop}(h:∃ a b c d e,p a b c d e/\f1 a b c d e)(f:∀ a b c d e,p a b c d e->f1 a b c d e->G):G:=let ⟨a,b,c,d,e,h0,h1⟩:=h;f a b c d e h0 h1
theorem xE5_3 {A B C D E:Type}{p f1 f2:A->B->C->D->E->Prop}{G:Prop}(h:∃ a b c d e,p a b c d e/\f1 a b c d e/\f2 a b c d e)(f:∀ a b c d e,p a b c d e->f1 a b c d e->f2 a b c d e->G):G:=let ⟨a,b,c,d,e,h0,h1,h2⟩:=h;f a b c d e h0 h1 h2
theorem Zcx {A B C D E:Type}{p f1 f2 f3:A->B->C->D->E->Prop}{G:Prop}(h:∃ a b c d e,p a b c d e/\f1 a b c d e/\f2 a b c d e/\f3 a b c d e)(f:∀ a b c d e,p a b c d e->f1 a b c d e->f2 a b c d e->f3 a b c d e->G):G:=let ⟨a,b,c,d,e,h0,h1,h2,h3⟩:=h;f a b c d e h0 h1 h2 h3
theorem Zls {A B C D E F:Type}{p f1:A->B->C->D->E->F->Prop}{G:Prop}(h:∃ a b c d e i,p a b c d e i/\f1 a b c d e i)(f:∀ a b c d e i,p a b c d e i->f1 a b c d e i->G):G:=let ⟨a,b,c,d,e,i,h0,h1⟩:=h;f a b c d e i h0 h1
theorem Zkl {A B C D E F:Type}{p f1 f2 f3:A->B->C->D->E->F->Prop}{G:Prop}(h:∃ a b c d e i,p a b c d e i/\f1 a b c d e i/\f2 a b c d e i/\f3 a b c d e i)(f:∀ a b c d e i,p a b c d e i->f1 a b c d e i->f2 a b c d e i->f3 a b c d e i->G):G:=let ⟨a,b,c,d,e,i,h0,h1,h2,h3⟩:=h;f a b c d e i h0 h1 h2 h3
theorem xE7_2 {A B C D E F I:Type}{p f1:A->B->C->D->E->F->I->Prop}{G:Prop}(h:∃ a b c d e i j,p a b c d e i j/\f1 a b c d e i j)(f:∀ a b c d e i j,p a b c d e i j->f1 a b c d e i j->G):G:=let ⟨a,b,c,d,e,i,j,h0,h1⟩:=h;f a b c d e i j h0 h1
theorem xE7_4 {A B C D E F I:Type}{p f1 f2 f3:A->B->C->D->E->F->I->Prop}{G:Prop}(h:∃ a b c d e i j,p a b c d e i j/\f1 a b c d e i j/\f2 a b c d e i j/\f3 a b c d e i j)(f:∀ a b c d e i j,p a b c d e i j->f1 a b c d e i j->f2 a b c d e i j->f3 a b c d e i j->G):G:=let ⟨a,b,c,d,e,i,j,h0,h1,h2,h3⟩:=h;f a b c d e i j h0 h1 h2 h3
theorem xE8_2 {A B C D E F I J:Type}{p f1:A->B->C->D->E->F->I->J->Prop}{G:Prop}(h:∃ a b c d e i j k,p a b c d e i j k/\f1 a b c d e i j k)(f:∀ a b c d e i j k,p a b c d e i j k->f1 a b c d e i j k->G):G:=let ⟨a,b,c,d,e,i,j,k,h0,h1⟩:=h;f a b c d e i j k h0 h1
theorem xE8_4 {A B C D E F I J:Type}{p f1 f2 f3:A->B->C->D->E->F->I->J->Prop}{G:Prop}(h:∃ a b c d e i j k,p a b c d e i j k/\f1 a b c d e i j k/\f2 a b c d e i j k/\f3 a b c d e i j k)(f:∀ a b c d e i j k,p a b c d e i j k->f1 a b c d e i j k->f2 a b c d e i j k->f3 a b c d e i j k->G):G:=let ⟨a,b,c,d,e,i,j,k,h0,h1,h2,h3⟩:=h;f a b c d e i j k h0 h1 h2 h3
theorem xE9_2 {A B C D E F I J K:Type}{p f1:A->B->C->D->E->F->I->J->K->Prop}{G:Prop}(h:∃ a b c d e i j k l,p a b c d e i j k l/\f1 a b c d e i j k l)(f:∀ a b c d e i j k l,p a b c d e i j k l->f1 a b c d e i j k l->G):G:=let ⟨a,b,c,d,e,i,j,k,l,h0,h1⟩:=h;f a b c d e i j k l h0 h1
theorem Zqp {A B C D E F I J K:Type}{p f1 f2:A->B->C->D->E->F->I->J->K->Prop}{G:Prop}(h:∃ a b c d e i j k l,p a b c d e i j k l/\f1 a b c d e i j k l/\f2 a b c d e i j k l)(f:∀ a b c d e i j k l,p a b c d e i j k l->f1 a b c d e i j k l->f2 a b c d e i j k l->G):G:=let ⟨a,b,c,d,e,i,j,k,l,h0,h1,h2⟩:=h;f a b c d e i j k l h0 h1 h2
theorem xI11_1 {A B C D E F I J K L M:Type}{p:A->B->C->D->E->F->I->J->K->L->M->Prop}(a:A)(b:B)(c:C)(d:D)(e:E)(i:F)(j:I)(k:J)(l:K)(m:L)(n:M)(h0:p a b c d e i j k l m n):∃ a b c d e i j k l m n,p a b c d e i j k l m n:=⟨a,b,c,d,e,i,j,k,l,m,n,h0⟩
theorem Zw3 {A B C D E F I J K L M N O P:Type}{p:A->B->C->D->E->F->I->J->K->L->M->N->O->P->Prop}(a:A)(b:B)(c:C)(d:D)(e:E)(i:F)(j:I)(k:J)(l:K)(m:L)(n:M)(o:N)(q:O)(r:P)(h0:p a b c d e i j k l m n o q r):∃ a b c d e i j k l m n o q r,p a b c d e i j k l m n o q r:=⟨a,b,c,d,e,i,j,k,l,m,n,o,q,r,h0⟩
theorem xI17_1 {A B C D E F I J K L M N O P Q R S:Type}{p:A->B->C->D->E->F->I->J->K->L->M->N->O->P->Q->R->S->Prop}(a:A)(b:B)(c:C)(d:D)(e:E)(i:F)(j:I)(k:J)(l:K)(m:L)(n:M)(o:N)(q:O)(r:P)(s:Q)(t:R)(u:S)(h0:p a b c d e i j k l m n o q r s t u):∃ a b c d e i j k l m n o q r s t u,p a b c d e i j k l m n o q r s t u:=⟨a,b,c,d,e,i,j,k,l,m,n,o,q,r,s,t,u,h0⟩
theorem xI18_1 {A B C D E F I J K L M N O P Q R S T:Type}{p:A->B->C->D->E->F->I->J->K->L->M->N->O->P->Q->R->S->T->Prop}(a:A)(b:B)(c:C)(d:D)(e:E)(i:F)(j:I)(k:J)(l:K)(m:L)(n:M)(o:N)(q:O)(r:P)(s:Q)(t:R)(u:S)(v:T)(h0:p a b c d e i j k l m n o q r s t u v):∃ a b c d e i j k l m n o q r s t u v,p a b c d e i j k l m n o q r s t u v:=⟨a,b,c,d,e,i,j,k,l,m,n,o,q,r,s,t,u,v,h0⟩
theorem Zav {A B:Type}{p:A->B->Prop}(a:A)(b:B)(h0:p a b):∃ a b,p a b:=⟨a,b,h0⟩
theorem Za9 {A B C:Type}{p:A->B->C->Prop}(a:A)(b:B)(c:C)(h0:p a b c):∃ a b c,p a b c:=⟨a,b,c,h0⟩
theorem Zkk {A B C D:Type}{p:A->B->C->D->Prop}(a:A)(b:B)(c:C)(d:D)(h0:p a b c d):∃ a b c d,p a b c d:=⟨a,b,c,d,h0⟩
theorem Zd1 {A B C D E:Type}{p:A->B->C->D->E->Prop}(a:A)(b:B)(c:C)(d:D)(e:E)(h0:p a b c d e):∃ a b c d e,p a b c d e:=⟨a,b,c,d,e,h0⟩
theorem Zlr {A B C D E F:Type}{p:A->B->C->D->E->F->Prop}(a:A)(b:B)(c:C)(d:D)(e:E)(i:F)(h0:p a b c d e i):∃ a b c d e i,p a b c d e i:=⟨a,b,c,d,e,i,h0⟩
theorem Zqo {A B C D E F I:Type}{p:A->B->C->D->E->F->I->Prop}(a:A)(b:B)(c:C)(d:D)(e:E)(i:F)(j:I)(h0:p a b c d e i j):∃ a b c d e i j,p a b c d e i j:=⟨a,b,c,d,e,i,j,h0⟩
theorem xI8_1 {A B C D E F I J:Type}{p:A->B->C->D->E->F->I->J->Prop}(a:A)(b:B)(c:C)(d:D)(e:E)(i:F)(j:I)(k:J)(h0:p a b c d e i j k):∃ a b c d e i j k,p a b c d e i j k:=⟨a,b,c,d,e,i,j,k,h0⟩
theorem xI9_1 {A B C D E F I J K:Type}{p:A->B->C->D->E->F->I->J->K->Prop}(a:A)(b:B)(c:C)(d:D)(e:E)(i:F)(j:I)(k:J)(l:K)(h0:p a b c d e i j k l):∃ a b c d e i j k l,p a b c d e i j k l:=⟨a,b,c,d,e,i,j,k,l,h0⟩
end L2
theorem oz1 {a:Nat}{z:Int}(h0:(↑a:Int)<=z)(h1:¬(↑a:Int)=z):z.toNat-(a+1)<z.toNat-a:=∅
theorem oz2 {z:Int}(h0:(0:Int)<=z):(z+(1:Int)).toNat=z.toNat+1:=∅
theorem oz3 {a b c:Nat}(h0:a=b)(h1:¬c<a)(h2:c-a=0):c=b:=∅
theorem oz5 {a b:Nat}(h0:¬a-b=0):1<=a-b:=∅
theorem oz6 {a b c:Nat}(h0:a=b)(h1:c<a):c<b:=∅
theorem oz7 {a b c d:Nat}(h0:a=b)(h1:c=b)(h2:d-a=0):d-c=0:=∅
theorem oz8 {z y x Z:Int}(h0:z=y\/z=x)(h1:y=Z\/y=z)(h2:x=Z\/x=z)(h3:Z=min y x):z=max y x:=∅
theorem oz9 {a:Nat}{z:Int}(h0:(1:Int)+z=(↑a:Int)):((1:Int)+z-(1:Int)).toNat=a-1:=∅
theorem oz10 {a b:Nat}(h0:a<b):b-(a+1)<b-a:=∅
theorem oz11 {z y x Z:Int}(h0:z<=y)(h1:z=x\/z=Z)(h2:x=z\/x=y)(h3:Z=z\/Z=y):z=min x Z:=∅
theorem oz12 {a b:Nat}{z:Int}(h0:1<=a)(h1:(↑b:Int)=(↑a:Int))(h2:z<(↑a:Int)):z.toNat<b:=∅
theorem Zpx {a:Nat}{z:Int}(h0:(0:Int)<=z)(h1:z<(↑a:Int)):z.toNat<a:=∅
theorem oz14 {a b c:Nat}(h0:a=b)(h1:c=b):a=c:=∅
theorem oz15 {a b c:Nat}(h0:a=b)(h1:c=a):c=b:=∅
theorem oz16 {a:Nat}{z:Int}(h0:z.toNat<a):min z.toNat a+(a-(z.toNat+1))<a:=∅
theorem oz17 {z y:Int}(h0:(0:Int)<=z)(h1:(0:Int)<=y)(h2:z≠y):¬y.toNat=z.toNat:=∅
theorem oz18 {z:Int}(h0:(0:Int)<=z):(↑z.toNat:Int)=z:=∅
theorem oz19 {a b:Nat}{z y:Int}(h0:(↑a:Int)+(↑b:Int)=z)(h1:y.toNat<a):(↑(min y.toNat a):Int)+(↑(a-(y.toNat+1)):Int)+((↑b:Int)+(1:Int))=z:=∅
theorem oz20 {a:Nat}{z:Int}(h0:z<=(↑a:Int)):min z.toNat a=z.toNat:=∅
theorem oz21 {a:Nat}:(↑(↑a:Int).toNat:Int)=(↑a:Int):=∅
theorem oz22 {a b:Nat}{z y x:Int}(h0:a=z.toNat)(h1:b=z.toNat)(h2:y<z)(h3:x.toNat<a):y.toNat<b:=∅
theorem oz23 {a:Nat}{z:Int}(h0:(4:Int)+z=(↑a:Int)):((4:Int)+z-(1:Int)-(3:Int)).toNat=a-4:=∅
theorem oz24 {a:Nat}{z:Int}(h0:(0:Int)<=z)(h1:z<(↑a:Int)):z.toNat<(↑a:Int).toNat:=∅
theorem oz26 {a b:Nat}(h0:a<=9)(h1:a=b):b<=9:=∅
theorem oz27 {z y:Int}(h0:z<y):z<(↑y.toNat:Int):=∅
theorem oz28 {a b:Nat}(h0:a<=b)(h1:¬a<b):a=b:=∅
theorem oz29 {a b c d:Nat}(h0:a=b)(h1:c=b)(h2:d<a):d<c:=∅
theorem oz30 {a:Nat}(h0:a<=8):(↑a:Int).toNat<=8:=∅
theorem oz32 {a b c d:Nat}(h0:a=b)(h1:b=c+1)(h2:d<a)(h3:¬d<c):d=c:=∅
theorem Zvh {a b:Nat}(h0:¬a<b):b<=a:=∅
theorem oz35 {a:Nat}{z:Int}(h0:a<=8):min z.toNat a+1+(a-(z+(1:Int)).toNat)<=1000:=∅
theorem oz36 {a:Nat}(h0:a<7):a=0\/a=1\/a=2\/a=3\/a=4\/a=5\/a=6:=∅
theorem oz37 {a b:Nat}(h0:a<=8):min b a<=1000:=∅
theorem oz38 {a:Nat}{z:Int}(h0:(6:Int)+z=(↑a:Int)):((6:Int)+z-(1:Int)-(4:Int)).toNat=a-5:=∅
theorem oz41 {a b c d:Nat}(h0:a=b)(h1:b=c+1)(h2:d<a)(h3:d≠c):d+1<=c:=∅
theorem oz42 {a b:Nat}{z:Int}(h0:z<(↑a:Int))(h1:(↑b:Int)<=z)(h2:¬(↑b:Int)=z):b+1<a:=∅
theorem oz43 {a b c d:Nat}{z:Int}(h0:z<(8:Int))(h1:a<((1:Int)+z-(1:Int)).toNat)(h2:b<=min a c)(h3:d=b):d<=1000:=∅
theorem oz44 {a:Nat}(h0:a<1):a=0:=∅
theorem oz45 {a b c d:Nat}(h0:a<=9)(h1:b=a)(h2:c<b)(h3:d=c):d<=1000:=∅
theorem oz47 {a:Nat}{z:Int}(h0:z<(8:Int))(h1:a<((1:Int)+z-(1:Int)).toNat):a<7:=∅
theorem oz49 {a b:Nat}{z:Int}(h0:z<(↑a:Int))(h1:(↑b:Int)<=z)(h2:¬(↑b:Int)=z):(↑(b+1):Int)<(↑a:Int):=∅
theorem oz50 {a:Nat}{z y:Int}(h0:a=z.toNat)(h1:y<z):y<(↑a:Int):=∅
theorem oz51 {a b:Nat}(h0:a=b):min a b=a:=∅
theorem oz52 {a b c d:Nat}(h0:a+b<=9)(h1:c+d<a):c+d<=1000:=∅
theorem oz53 {a:Nat}{z y x:Int}(h0:a=z.toNat)(h1:y<z)(h2:(0:Int)<=x)(h3:x<z):y.toNat<a:=∅
theorem oz54 {a b:Nat}(h0:a<=9)(h1:b=a):b<=9:=∅
theorem oz55 {a b c:Nat}(h0:a<=900)(h1:b<=min c a):b<=1000:=∅
theorem oz56 {a:Nat}{z y:Int}(h0:(↑a:Int)=z)(h1:(0:Int)<=y)(h2:y<z):y.toNat<a:=∅
theorem Zr7 {a:Nat}(h0:a<=8):(↑a:Int)<=(8:Int):=∅
theorem oz58 {a:Nat}:1+a=a+1:=∅
theorem oz59 {a b:Nat}(h0:a<b):min a b=a:=∅
theorem oz60 {z y x Z:Int}(h0:z=y)(h1:x=Z)(h2:y=Z):x=z:=∅
theorem oz61 {a b:Nat}{z:Int}(h0:a+1=b)(h1:(4:Int)<=z):(4:Int)*(↑b:Int)-(3:Int)*z-((4:Int)*(↑a:Int)-(2:Int)*z)<=(0:Int):=∅
theorem Zuj {a b c:Nat}(h0:a<b)(h1:b=c):a<c:=∅
theorem oz63 {a b:Nat}(h0:a<b):(↑a:Int)<(↑b:Int):=∅
theorem oz64 {a b c:Nat}{z:Int}(h0:a+1=b)(h1:3<c)(h2:(↑c:Int)-(2:Int)+(0:Int)<=(2:Int)*(↑a:Int)-(2:Int)*(↑b:Int)+z):(4:Int)<=z:=∅
theorem Zui {a:Nat}:(0:Int)<=(↑a:Int):=∅
theorem oz66 {a b c:Nat}(h0:a<=9)(h1:b=a)(h2:c=b):c<=9:=∅
theorem oz68 {z y:Int}(h0:(0:Int)<=z % y)(h1:z % y<y):(z % y).toNat<y.toNat:=∅
theorem oz69 {a:Nat}(h0:a<2):2-(a+1)<2-a:=∅
theorem oz70 {a:Nat}(h0:4<=a)(h1:a<=8):a=4\/a=5\/a=6\/a=7\/a=8:=∅
theorem oz71 {a:Nat}{z:Int}(h0:z<(↑a:Int)):z+(1:Int)<=(↑a:Int):=∅
theorem oz72 {a b c d:Nat}{z:Int}(h0:a+1=b)(h1:2<c)(h2:2<d)(h3:(↑c:Int)-(2:Int)+(0:Int)+((↑d:Int)-(2:Int)+(0:Int))<=(2:Int)*(↑a:Int)-(2:Int)*(↑b:Int)+z):(4:Int)<=z:=∅
theorem oz73 {a b c:Nat}(h0:a<=8)(h1:b<=min (a-1) c):b<=9:=∅
theorem oz74 {z:Int}(h0:(0:Int)<=z):max z (0:Int)=z:=∅
theorem oz75 {a b:Nat}(h0:a+1≠b)(h1:b<=a+1):(1:Int)*(↑b:Int)-(1:Int)*(↑a:Int)<=(0:Int):=∅
theorem oz76 {a b c:Nat}(h0:a=b)(h1:c=b):c=a:=∅
theorem oz77 {a:Nat}{z:Int}(h0:¬z.toNat=a):¬(↑a:Int)=z:=∅
theorem oz78 {a b c:Nat}(h0:a=b)(h1:c<b):c<a:=∅
theorem oz79 {z:Int}:(0:Int)<=(↑z.natAbs:Int):=∅
theorem oz80 {a b c:Nat}(h0:a<=8)(h1:b=min c a):b<=1000:=∅
theorem oz81 {z:Int}(h0:z<=(8:Int)):z.toNat<=8:=∅
theorem oz82 {a:Nat}(h0:a<=8):1*(↑a:Int).toNat<=1000:=∅
theorem oz83 {a:Nat}(h0:1<=a):(1:Int)<=(↑a:Int):=∅
theorem oz84 {a b c:Nat}(h0:a<=1000)(h1:b<a):min b c<=1000:=∅
theorem oz85 {a b c:Nat}(h0:a<=9)(h1:b=c)(h2:c<a):b<=1000:=∅
theorem oz86 {z y x Z:Int}(h0:z=y)(h1:x=Z)(h2:y=Z):z=x:=∅
theorem oz88 {a:Nat}{z:Int}(h0:(↑a:Int)<=z)(h1:¬(↑a:Int)=z):(↑(a+1):Int)<=z:=∅
theorem oz89 {a:Nat}{z:Int}(h0:z<(↑a:Int)):z<=(↑a:Int):=∅
theorem oz90 {a:Nat}{z:Int}(h0:z<(5:Int))(h1:a=((4:Int)+z-(1:Int)-(3:Int)).toNat):3+a<=1000:=∅
theorem oz91 {z:Int}(h0:(0:Int)<=z):(0:Int)<=z+(1:Int):=∅
theorem oz92 {z:Int}(h0:(0:Int)<=z):(1:Int)+z=(↑((1:Int)+z).toNat:Int):=∅
theorem oz93 {a b c d:Nat}(h0:a+b+c+1<=d)(h1:d<=8)(h2:(↑b:Int)<=(↑c:Int))(h3:a=2)(h4:b=2):c=2\/c=3:=∅
theorem oz94 {a:Nat}{z:Int}(h0:z<(3:Int))(h1:a=((6:Int)+z-(1:Int)-(4:Int)).toNat):4+a<=1000:=∅
theorem oz95 {a:Nat}{z:Int}(h0:z<(8:Int))(h1:(1:Int)+z=(↑a:Int)):a<=8:=∅
theorem oz96 {a:Nat}{z:Int}(h0:(0:Int)<=z)(h1:z.toNat=a):(↑a:Int)=z:=∅
theorem oz97 {a b c d:Nat}(h0:a+b+c+1<=d)(h1:d<=8)(h2:(↑a:Int)<=(↑b:Int))(h3:(↑b:Int)<=(↑c:Int))(h4:¬((↑a:Int)=(1:Int)/\(↑b:Int)=(1:Int)))(h5:¬((↑a:Int)=(1:Int)/\(↑b:Int)=(2:Int)))(h6:a=1):b=3:=∅
theorem oz98 {a b c d:Nat}(h0:a=b)(h1:b<=9)(h2:c<a)(h3:d=c):d<=1000:=∅
theorem oz99 {a b c:Nat}(h0:a<min b c):a<b:=∅
theorem oz100 {z:Int}(h0:z<(3:Int)):((6:Int)+z-(1:Int)-(4:Int)).toNat<=9:=∅
theorem oz101 {a b:Nat}(h0:a<b):a+1<=b:=∅
theorem oz103 {z y x:Int}(h0:z=y)(h1:x=y):z=x:=∅
theorem oz104 {a b:Nat}(h0:a<b):(0:Int)<=(0:Int)+(↑a:Int)/\(0:Int)+(↑a:Int)<(↑b:Int):=∅
theorem Zr8 {a:Nat}{z:Int}(h0:(0:Int)<=z)(h1:(1:Int)+z=(↑a:Int)):1<=a:=∅
theorem oz106 {a:Nat}{z:Int}(h0:(0:Int)<=z)(h1:a=z.toNat):(↑a:Int)=z:=∅
theorem oz107 {a:Nat}{z:Int}(h0:a<(z-(0:Int)).toNat):(0:Int)<=(0:Int)+(↑a:Int)/\(0:Int)+(↑a:Int)<z:=∅
theorem oz108 {z:Int}(h0:z<(5:Int)):((4:Int)+z-(1:Int)-(3:Int)).toNat<=9:=∅
theorem oz109 {z:Int}(h0:z<(8:Int)):((1:Int)+z-(1:Int)).toNat<=9:=∅
theorem oz110 {a b c d:Nat}(h0:a<=900)(h1:b<=min c a)(h2:d=b):d<=1000:=∅
theorem oz111 {z:Int}(h0:z<=(8:Int)):(z-(0:Int)).toNat<=2 ^ 24:=∅
theorem oz113 {a b c d:Nat}(h0:a=b)(h1:c=b)(h2:¬d<a):c<=d:=∅
theorem oz114 {a b c d:Nat}(h0:a<=8)(h1:b=c)(h2:c<=a):min d b<=1000:=∅
theorem oz115 {a b c d:Nat}(h0:a+b+c+1<=d)(h1:d<=8)(h2:(↑b:Int)<=(↑c:Int))(h3:(↑a:Int)=(1:Int)/\(↑b:Int)=(2:Int)):(↑d:Int)=(6:Int)\/(↑d:Int)=(7:Int)\/(↑d:Int)=(8:Int):=∅
theorem oz116 {a b c d:Nat}{z:Int}(h0:z<=(8:Int))(h1:(↑a:Int)+(↑b:Int)=z)(h2:c<=a)(h3:d<=a):c+d<=1000:=∅
theorem oz117 {a b c d:Nat}(h0:a+b+c+1<=d)(h1:d<=8)(h2:0<a)(h3:(↑a:Int)<=(↑b:Int))(h4:(↑b:Int)<=(↑c:Int))(h5:¬a=1):a=2:=∅
theorem oz119 {a:Nat}{z:Int}(h0:(0:Int)<(↑a:Int))(h1:z<(↑a:Int)):z.toNat<a:=∅
theorem oz120 {z:Int}(h0:(0:Int)<=z):z=(↑z.natAbs:Int):=∅
theorem Zvl {a:Nat}{z:Int}(h0:z<(5:Int))(h1:(4:Int)+z=(↑a:Int)):a<=8:=∅
theorem Zvk {a:Nat}{z:Int}(h0:z<(3:Int))(h1:(6:Int)+z=(↑a:Int)):a<=8:=∅
theorem oz124 {a b c d:Nat}(h0:a=b)(h1:c=b)(h2:d<c):d<a:=∅
theorem oz125 {a b c d e:Nat}(h0:a<=900)(h1:b<a)(h2:c<=min b d)(h3:e=c):e<=1000:=∅
theorem oz126 {z y:Int}(h0:(0:Int)<z)(h1:y % z<z):(y % z).toNat<z.toNat:=∅
theorem oz128 {a b c d:Nat}(h0:a+b+c+1<=d)(h1:d<=8)(h2:(↑b:Int)<=(↑c:Int))(h3:a=1)(h4:b=3):c=3:=∅
theorem oz129 {z:Int}(h0:(0:Int)<=z):(0:Int)<(1:Int)+z:=∅
theorem oz131 {a b c d:Nat}(h0:a+b+c+1<=d)(h1:d<=8)(h2:(↑a:Int)<=(↑b:Int))(h3:(↑b:Int)<=(↑c:Int))(h4:a=2):b=2:=∅
theorem oz132 {a b c:Nat}(h0:a<=8)(h1:b<a)(h2:c=b):c+1<=9:=∅
theorem oz133 {z:Int}(h0:(1:Int)<=z):(↑z.toNat:Int)=z:=∅
theorem oz134 {a b:Nat}(h0:a<=8)(h1:b<a):b<=1000:=∅
theorem oz135 {a:Nat}{z:Int}(h0:a=z.toNat)(h1:z<=(8:Int)):a<=1000:=∅
theorem oz136 {a b:Nat}(h0:a<=8)(h1:b<a):b<=8:=∅
theorem oz137 {z:Int}(h0:(0:Int)<=z)(h1:¬(0:Int)<z):z=(0:Int):=∅
theorem oz138 {a b c d:Nat}(h0:a<=1000)(h1:b<a)(h2:c=min b d):c<=1000:=∅
theorem oz139 {a:Nat}(h0:6<=a)(h1:a<=8):a=6\/a=7\/a=8:=∅
theorem Zvj {a b:Nat}(h0:a<=1000)(h1:b<a):b<=1000:=∅
theorem oz142 {a b:Nat}{z:Int}(h0:(↑a:Int)+(↑b:Int)=z)(h1:¬(0:Int)<(↑a:Int)):(↑b:Int)=z:=∅
theorem oz143 {a b c:Nat}(h0:a<=8)(h1:b<a)(h2:c=b):c+1<=1000:=∅
theorem oz144 {a:Nat}:(↑a:Int).toNat=a:=∅
theorem oz145 {a b:Nat}(h0:a<=9)(h1:b<a):b<=1000:=∅
theorem oz146 {a b c:Nat}(h0:a<=8)(h1:b<a)(h2:c=b):c<=9:=∅
theorem oz147 {a b:Nat}(h0:(↑a:Int)=(↑b:Int)):a=b:=∅
theorem oz148 {a b:Nat}{z:Int}(h0:z<(↑a:Int))(h1:(↑b:Int)=z):(↑b:Int)<(↑a:Int):=∅
theorem oz149 {a b c d e:Nat}(h0:a<=9)(h1:a=b)(h2:b=c+1)(h3:d=e)(h4:e=c):d<=1000:=∅
theorem oz150 {a b c d e:Nat}(h0:a+1<=b)(h1:c+(d+(e+0))=a):c+d+e+1<=b:=∅
theorem oz151 {a b c d e:Nat}(h0:a+b+c+1<=d)(h1:(↑b:Int)<=(↑c:Int))(h2:a=2)(h3:b=2)(h4:e<=3):(0:Int)<=(3:Int)-(↑e:Int)/\(3:Int)-(↑e:Int)<=(4:Int)/\(d<=6->(3:Int)-(↑e:Int)<=(2:Int)):=∅
theorem oz152 {z:Int}(h0:z<(8:Int)):(1:Int)+z<(2:Int) ^ 62:=∅
theorem oz153 {a b c:Nat}(h0:a<=8)(h1:b=a):min c b<=1000:=∅
theorem oz154 {a b:Nat}{z:Int}(h0:z<(↑a:Int))(h1:(↑b:Int)<=z):(↑b:Int)<(↑(↑a:Int).toNat:Int):=∅
theorem oz155 {z y:Int}(h0:(0:Int)<=z/\z<(↑y.toNat:Int)):(0:Int)<=z/\z<y:=∅
theorem oz157 {a b c d:Nat}(h0:a=b)(h1:b=c+1)(h2:d<a):d<=c:=∅
theorem oz158 {a b:Nat}(h0:a=1+b)(h1:¬2<a):b<=1:=∅
theorem oz159 {a b:Nat}{z:Int}(h0:z<=(24:Int))(h1:a<z.toNat)(h2:b=a):b<=1000:=∅
theorem oz160 {a:Nat}(h0:1<=a):(0:Int)<(↑a:Int):=∅
theorem oz163 {a b:Nat}(h0:a=b):¬a+1<=b:=∅
theorem oz164 {a b c d:Nat}(h0:a<=9)(h1:b<a)(h2:c<=2*b)(h3:d<=2):c+d<=1000:=∅
theorem oz165 {z:Int}(h0:(0:Int)<=z):(4:Int)+z=(↑((4:Int)+z).toNat:Int):=∅
theorem oz166 {z:Int}(h0:(0:Int)<=z):(6:Int)+z=(↑((6:Int)+z).toNat:Int):=∅
theorem oz167 {a b c d e:Nat}(h0:a<=9)(h1:a=b)(h2:b+1=c)(h3:d<=e)(h4:e<=c):d<=900:=∅
theorem oz168 {a b c:Nat}(h0:a<b)(h1:c=b):a<c:=∅
theorem oz170 {a:Nat}{z y:Int}(h0:z<(↑a:Int))(h1:(0:Int)<=y)(h2:y<(↑a:Int)):z.toNat<(↑a:Int).toNat:=∅
theorem Zvi {a:Nat}(h0:a<=9):a<=1000:=∅
theorem oz174 {z:Int}(h0:¬z<(2:Int))(h1:¬z=(2:Int))(h2:¬z=(3:Int)):(4:Int)<=z:=∅
theorem oz177 {a b c:Nat}{z:Int}(h0:z<(↑a:Int))(h1:(↑b:Int)=z)(h2:c<b):c<a:=∅
theorem oz179 {a:Nat}{z y:Int}(h0:(↑a:Int)=z)(h1:y<z):y<(↑a:Int):=∅
theorem oz180 {a:Nat}{z:Int}(h0:a<(z-(2:Int)).toNat):(2:Int)+(↑a:Int)<z:=∅
theorem oz181 {a b c:Nat}(h0:a<=9)(h1:b=c)(h2:a=c):b<=9:=∅
theorem oz182 {a:Nat}:(0:Int)<=(0:Int)+(↑a:Int):=∅
theorem oz183 {a:Nat}{z:Int}(h0:z<(3:Int))(h1:a=((2:Int)+z-(1:Int)).toNat):a+4<=1000:=∅
theorem oz184 {a b:Nat}(h0:a<=9)(h1:b<=a):b<=9:=∅
theorem oz185 {a:Nat}(h0:a+1<=1):a=0:=∅
theorem oz186 {a b c:Nat}(h0:a<=9)(h1:b<a)(h2:c=b):c<=1000:=∅
theorem oz187 {z:Int}(h0:z<(5:Int)):(4:Int)+z-(1:Int)<(2:Int) ^ 62:=∅
theorem oz188 {z:Int}(h0:(0:Int)<=z):(0:Int)<=(2:Int)+z-(1:Int):=∅
theorem oz189 {a b:Nat}{z:Int}(h0:z<=(8:Int))(h1:(↑a:Int)+(↑b:Int)=z):b<=1000:=∅
theorem oz190 {z:Int}(h0:z<(3:Int)):(6:Int)+z-(1:Int)<(2:Int) ^ 62:=∅
theorem oz191 {a:Nat}{z:Int}(h0:z<(4:Int))(h1:a=((5:Int)+z-(1:Int)).toNat):a<=9:=∅
theorem oz192 {a:Nat}{z:Int}(h0:a<((2:Int)+z-(1:Int)).toNat):(0:Int)+(↑a:Int)+(1:Int)<(2:Int)+z:=∅
theorem oz193 {z:Int}(h0:(0:Int)<=z):-(2:Int) ^ 62<=(1:Int)+z:=∅
theorem oz194 {a:Nat}(h0:2<a):¬a=1:=∅
theorem oz195 {a b c d:Nat}(h0:a+b+c+1<=d)(h1:d<=8)(h2:(↑a:Int)=(1:Int)/\(↑b:Int)=(2:Int)):c<=4:=∅
theorem oz197 {a b c:Nat}(h0:a<=0+1)(h1:b<=a+1)(h2:c<=b+1):c<1000:=∅
theorem oz198 {a:Nat}(h0:a<=2)(h1:¬a<2):a=2:=∅
theorem oz199 {a:Nat}{z:Int}(h0:z<=(24:Int))(h1:(↑a:Int)=z):a<=100:=∅
theorem oz201 {a:Nat}:(0:Int)<=(↑(a+1):Int):=∅
theorem oz202 {z:Int}(h0:z<(8:Int)):(1:Int)+z<=(8:Int):=∅
theorem oz203 {a:Nat}{z:Int}(h0:a<=8):min z.toNat a+1<=1000:=∅
theorem oz204 {z:Int}(h0:(0:Int)<=z):(1:Int)<=(1:Int)+z:=∅
theorem oz205 {a:Nat}:-(2:Int) ^ 63<=(↑a:Int):=∅
theorem oz206 {z y:Int}(h0:(0:Int)<=z)(h1:(0:Int)<=y):(0:Int)<=min z y:=∅
theorem oz207 {a:Nat}{z:Int}(h0:z<(8:Int))(h1:a=((1:Int)+z).toNat):a<=9:=∅
theorem oz208 {z:Int}(h0:(0:Int)<=z)(h1:z<(13:Int)):(z-(6:Int)).natAbs<=5000:=∅
theorem oz209 {a:Nat}{z:Int}(h0:z.natAbs<=100000000000000000000000000000000)(h1:(↑a:Int)<=z):(↑a:Int).natAbs<=100000000000000000000000000000000:=∅
theorem oz211 {z:Int}(h0:(1:Int)<=z):(0:Int)<=z:=∅
theorem oz212 {a:Nat}:(0:Int)<=(1:Int)+(↑a:Int):=∅
theorem oz215 {a:Nat}{z:Int}(h0:a<((5:Int)+z-(1:Int)).toNat):(1:Int)+(↑a:Int)<(5:Int)+z:=∅
theorem oz216 {z:Int}(h0:(0:Int)<=z)(h1:z<(2:Int)):z=(0:Int)\/z=(1:Int):=∅
theorem oz218 {z:Int}(h0:z<(8:Int)):(1:Int)+z-(1:Int)<(2:Int) ^ 62:=∅
theorem oz219 {a:Nat}{z:Int}(h0:(0:Int)<=z)(h1:(4:Int)+z=(↑a:Int)):4<=a:=∅
theorem oz220 {a:Nat}{z:Int}(h0:(0:Int)<=z)(h1:(6:Int)+z=(↑a:Int)):6<=a:=∅
theorem oz222 {a:Nat}{z:Int}(h0:z.toNat<a):z<(↑a:Int):=∅
theorem oz223 {a:Nat}{z:Int}(h0:z<(3:Int))(h1:a=((2:Int)+z-(1:Int)).toNat):a+4<=9:=∅
theorem oz224 {z:Int}(h0:(0:Int)<=z/\z<=(24:Int)):(-100000000000000000000000000000000:Int)<z/\z<(100000000000000000000000000000000:Int):=∅
theorem oz225 {z y x Z:Int}:z+(y*x+Z)=y*x+(z+Z):=∅
theorem oz226 {a b c:Nat}(h0:a=b)(h1:c=b):(↑a:Int)=(↑c:Int):=∅
theorem oz227 {a b c:Nat}(h0:a=b)(h1:(↑a:Int)=(↑c:Int)-(1:Int)):b+1=c:=∅
theorem oz228 {z:Int}:(z*(48271:Int)+(4099:Int)) % (2147483647:Int)<(2:Int) ^ 64:=∅
theorem oz230 {a b:Nat}{z y:Int}(h0:z<(↑a:Int))(h1:(↑b:Int)=z)(h2:(0:Int)<=y/\y<(↑b:Int)):y<(↑a:Int):=∅
theorem oz231 {z:Int}(h0:z<=(24:Int)):1*z.toNat<=1000:=∅
theorem oz232 {a:Nat}(h0:a<=8):(↑a:Int)<(2:Int) ^ 63:=∅
theorem oz233 {a:Nat}{z:Int}(h0:a<((2:Int)+z-(1:Int)).toNat):(0:Int)+(↑a:Int)<(2:Int)+z:=∅
theorem oz234 {z:Int}(h0:(0:Int)<=z):-(2:Int) ^ 62<=z:=∅
theorem oz237 {a b:Nat}{z:Int}(h0:a=z.toNat)(h1:b=z.toNat):b=a:=∅
theorem oz238 {a:Nat}{z:Int}(h0:a<((1:Int)+z).toNat):(0:Int)+(↑a:Int)<(1:Int)+z:=∅
theorem oz241 {z:Int}(h0:(0:Int)<=z):(0:Int)<(2:Int)+z+(4:Int):=∅
theorem oz242 {a b c:Nat}(h0:a=b)(h1:b+1=c):(↑a:Int)=(↑c:Int)-(1:Int):=∅
theorem oz243 {a b:Nat}{z:Int}(h0:z<=(8:Int))(h1:(↑a:Int)+(↑b:Int)=z):(↑a:Int)<(1000000000:Int):=∅
-- CHANGE: your row's module here,as the last of these rows
set_option Elab.async false
set_option linter.all false
set_option maxRecDepth 100000
namespace L2
open PySem PySem.Spec PyProof.Rows
abbrev Key:=Sum Int Str
def Zp4:Key->Value->Bool
 | .inl k,v=>Value.isInt k v
 | .inr x,v=>Value.isStrOf x v
def keyH (w:World):Key->Int
 | .inl k=>hashInt k
 | .inr x=>hashStr w x
theorem Zbu:∀ {k:Key} {v:Value},Zp4 k v=true->(∃ i t,k=Sum.inl i/\v=Value.int i t)\/(∃ x t,k=Sum.inr x/\v=Value.str x t)
 | .inl i,v,h=>by
  obtain⟨t,e⟩:=Value.isInt_shape (k:=i) (v:=v) h;exact .inl ⟨i,t,rfl,e⟩
 | .inr x,v,h=>by
  obtain⟨t,e⟩:=Value.isStrOf_shape (x:=x) (v:=v) h;exact .inr ⟨x,t,rfl,e⟩
theorem Zs7 (i:Int)(t:Tok):Zp4 (.inl i) (.int i t)=true:=by simp[Zp4,Value.isInt]
theorem Zs6 (x:Str)(t:Tok):Zp4 (.inr x) (.str x t)=true:=by simp[Zp4,Value.isStrOf]
theorem key_ll (a b:Int):decide ((Sum.inl a:Key)=Sum.inl b)=(a == b):=by
 by_cases e:a=b
 .subst e;simp
 .have h:¬ (Sum.inl a:Key)=Sum.inl b:=λq=>e (Sum.inl.inj q);rw[Ja5 h];exact (Jc7.mpr e).symm
theorem key_rr (a b:Str):decide ((Sum.inr a:Key)=Sum.inr b)=decide (a=b):=by
 by_cases e:a=b
 .subst e;simp
 .have h:¬ (Sum.inr a:Key)=Sum.inr b:=λq=>e (Sum.inr.inj q);rw[Ja5 h,Ja5 e]
theorem key_lr (a:Int)(b:Str):decide ((Sum.inl a:Key)=Sum.inr b)=false:=Ja5 (λq=>nomatch q)
theorem key_rl (a:Str)(b:Int):decide ((Sum.inr a:Key)=Sum.inl b)=false:=Ja5 (λq=>nomatch q)
def Zch (prog:Program)(w:World):PySem.KeyKind prog w Key where
 is:=Zp4
 hash:=keyH w
 inj:=λv a b ha hb=>by
  rcases Zbu ha with ⟨i,t,rfl,rfl⟩|⟨x,t,rfl,rfl⟩
  .rcases Zbu hb with ⟨j,u,rfl,e⟩|⟨y,u,rfl,e⟩
   .injection e with e1 _;rw[e1]
   .exact nomatch e
  .rcases Zbu hb with ⟨j,u,rfl,e⟩|⟨y,u,rfl,e⟩
   .exact nomatch e
   .injection e with e1 _;rw[e1]
 byValue:=λk v h=>by
  rcases Zbu h with ⟨i,t,rfl,rfl⟩|⟨x,t,rfl,rfl⟩ <;> rfl
 pyHash:=λhv h=>by
  rcases Zbu hv with ⟨i,t,rfl,rfl⟩|⟨x,t,rfl,rfl⟩
  .exact wpAny_pyHash_int h
  .exact wpAny_pyHash_str h
 eqBool:=λhu hv h=>by
  rcases Zbu hu with ⟨i,t,rfl,rfl⟩|⟨x,t,rfl,rfl⟩
  .rcases Zbu hv with ⟨j,u,rfl,rfl⟩|⟨y,u,rfl,rfl⟩
   .rw [key_ll] at h;exact wpAny_eqBool_int h
   .rw [key_lr] at h;exact SeqAt.EqAt.int_str i t y u _ _ _ _ h
  .rcases Zbu hv with ⟨j,u,rfl,rfl⟩|⟨y,u,rfl,rfl⟩
   .rw [key_rl] at h;exact SeqAt.EqAt.str_int x t j u _ _ _ _ h
   .rw [key_rr] at h;exact wpAny_eqBool_str h
 «strs»:=λk x t v h=>by
  rcases Zbu h with ⟨i,u,rfl,e⟩|⟨y,u,rfl,e⟩
  .exact nomatch e
  .injection e with e1 _
   subst e1;cases v <;> rfl
theorem Zno (prog:Program)(w:World)(i:Int)(t:Tok):(Zch prog w).is (.inl i) (.int i t)=true:=Zs7 i t
theorem Znn (prog:Program)(w:World)(x:Str)(t:Tok):(Zch prog w).is (.inr x) (.str x t)=true:=Zs6 x t
inductive V where
 | non|bl (b:Bool)|int (i:Int)|str (x:Str)|byt (b:Array UInt8)|flt (b:UInt64)|ref (a:Addr)|ty (n:String)
 deriving DecidableEq
def RelV:V->Value->Prop
 | .non,u=>u=Value.none
 | .bl b,u=>u=Value.bool b
 | .int i,u=>∃ t,u=Value.int i t
 | .str x,u=>∃ t,u=Value.str x t
 | .byt b,u=>∃ t,u=Value.bytes b t
 | .flt b,u=>∃ t,u=Value.float b t
 | .ref a,u=>u=Value.ref a
 | .ty n,u=>u=Value.type n
abbrev Vals:List V->List Value->Prop:=Paired RelV
theorem Vals.length {xs:List V}{us:List Value}(r:Vals xs us):xs.length=us.length:=Jfl r
theorem Vals.get:∀ {xs:List V} {us:List Value} {i:Nat} {x:V},Vals xs us->xs[i]?=some x->∃ u,us[i]?=some u/\RelV x u
 | _,_,_,_,.nil,e=>by simp at e
 | _,_,0,_,.cons r _,e=>by simp at e;subst e;exact⟨_,rfl,r⟩
 | _,_,i+1,x,.cons _ t,e=>by
  refine Zah (Vals.get (i:=i) (x:=x) t (by simpa using e)) λu h1 h2=>?_;exact⟨u,by simpa using h1,h2⟩
theorem Vals.set {x:V}{u:Value}(r:RelV x u):∀ {xs:List V} {us:List Value} (i:Nat),Vals xs us->Vals (xs.set i x) (us.set i u)
 | _,_,_,.nil=>.nil
 | _,_,0,.cons _ t=>.cons r t
 | _,_,i+1,.cons q t=>.cons q (Vals.set r i t)
theorem Vals.append:∀ {xs ys:List V} {us ws:List Value},Vals xs us->Vals ys ws->Vals (xs++ys) (us++ws)
 | _,_,_,_,.nil,s=>s
 | _,_,_,_,.cons r t,s=>.cons r (Vals.append t s)
theorem Vals.take:∀ {xs:List V} {us:List Value} (n:Nat),Vals xs us->Vals (xs.take n) (us.take n)
 | _,_,0,_=>.nil
 | _,_,_+1,.nil=>.nil
 | _,_,n+1,.cons r t=>.cons r (Vals.take n t)
theorem Vals.drop:∀ {xs:List V} {us:List Value} (n:Nat),Vals xs us->Vals (xs.drop n) (us.drop n)
 | _,_,0,r=>r
 | _,_,_+1,.nil=>.nil
 | _,_,n+1,.cons _ t=>Vals.drop n t
def RelO:Option V->Option Value->Prop
 | some v,some u=>RelV v u
 | none,none=>True
 | _,_=>False
def KV {κ:Type}:List (κ×V)->List (κ×Value)->Prop:=Paired λ(p:κ×V) (q:κ×Value)=>p.1=q.1/\RelV p.2 q.2
def kV:Key->V
 | .inl i=>.int i
 | .inr x=>.str x
inductive HO where
  | lst (xs:List V)
  | tup (xs:List V)
  | dK (kvs:List (Key×V))|dT (kvs:List (List Key×V))
  | set (S:Int->Bool) (n:Nat)
  | ins (C dx:Addr) (fs:List (Str×V))
  | own (x:Addr)
  | xd (fs:List (Str×V))
  | met (f x:Addr)
  | rng (lo hi:Int)
  | frz (o:Obj) (u:HO)
  | tbl (ps:Array Value)
  | ext (φ:Heap->Prop)
  | tab (l c:Int) (q:Str)
abbrev Hp:=Addr->Option HO
def upd (H:Hp)(a:Addr)(o:HO):Hp:=λb=>if b=a then some o else H b
theorem Zaa {H:Hp}{a:Addr}{o:HO}:upd H a o a=some o:=by unfold upd;rw[if_pos rfl]
theorem Zag {H:Hp}{a b:Addr}{o:HO}(h:b≠a):upd H a o b=H b:=by unfold upd;rw[if_neg h]
theorem upd_upd {H:Hp}{a:Addr}{o u:HO}:upd (upd H a o) a u=upd H a u:=by
 funext b;unfold upd;split <;> rfl
theorem Zcz {H:Hp}{a b:Addr}{o u:HO}(h:H a=some o)(h':H b=some u)(d:o≠u):a≠b:=by
 intro e;subst e;rw[h] at h';exact d (Jbo h')
theorem Zaf {H:Hp}{a b:Addr}{o:HO}(h:H a=some o)(h':H b=none):a≠b:=by
 intro e;subst e;rw[h] at h';cases h'
section
variable (P:Program)(w:World)
def ObjOk (H:Hp)(h:Heap)(a:Addr):HO->Prop
 | .lst xs=>xs.length<=sizeLine/\∃ (its:List Value) (n:Nat),Vals xs its/\h.get? a=some { cls:=.type "list",data:=.seq its.toArray n }
 | .tup xs=>xs.length<=sizeLine/\∃ its:List Value,Vals xs its/\IsTup h a its.toArray
 | .dK kvs=>kvs.length<=sizeLine/\(a == sysModules)=false/\∃ vs,KV kvs vs/\h.DictOf (Zch P w) a vs
 | .dT kvs=>kvs.length<=sizeLine/\(a == sysModules)=false/\∃ xs:List (List Key×Addr×Value),
   Paired (λ(p:List Key×V) (q:List Key×Addr×Value)=>p.1=q.1/\H q.2.1=some (.tup (p.1.map kV))/\RelV p.2 q.2.2) kvs xs /\
   ∃ o es ep,h.get? a=some o/\o.ExactDict/\o.data=.dict es ep/\es.toList=xs.map (entryOfKey (tupleKind (Zch P w)))/\(xs.map (·.1)).Nodup
 | .set S n=>h.SetOf (intKind P w) a S n
 | .ins C dx fs=>H dx=some (.own a)/\fs.length<=1000/\dx≠a/\h.get? a=some (PySem.W.instObj C dx) /\
   ∃ mA,h.Ns1 dx mA/\(∀ f,RelO (fs.lookup f) (mA f))/\PySem.Within mA (fs.map (·.1))
 | .own _=>∃ o,h.get? a=some o
 | .xd fs=>∃ mA,h.Ns1 a mA/\∀ f,RelO (fs.lookup f) (mA f)
 | .rng lo hi=>∃ t u v,h.get? a=some { cls:=.type "range",data:=.fields #[.int lo t,.int hi u,.int 1 v] }
 | .frz o u=>h.get? a=some o/\ObjOk H h a u
 | .tbl ps=>h.get? a=some { cls:=.none,data:=.fields ps }
 | .met f x=>h.get? a=some (PySem.W.methodObj (.ref f) (.ref x))
 | .ext φ=>φ h/\(∃ o,h.get? a=some o)/\∀ h1 h2:Heap,φ h1->(∀ o,h1.get? a=some o->h2.get? a=some o)->φ h2
 | .tab l c q=>h.get? a=some { cls:=.none,data:=.fields #[] }\/∃ c' oc vs t,h.get? a=some { cls:=.none,data:=.fields #[rawInt l,rawInt c,.ref c'] }/\c'≠a/\H c'=some (.frz oc (.own a))/\oc.data=.fields vs/\vs[1]?=some (.str q t)
def HOk (H:Hp)(h:Heap):Prop:=∀ a o,H a=some o->ObjOk P w H h a o
end
section
variable {P:Program}{w:World}{H H':Hp}{h h':Heap}{a:Addr}{o:HO}
theorem ObjOk.lt (x:ObjOk P w H h a o):a<h.objs.size:=by
 cases o with
 | lst xs=>obtain⟨_,_,_,_,e⟩:=x;exact Jae e
 | tup xs=>obtain⟨_,_,_,p⟩:=x;exact p.lt
 | dK kvs=>obtain⟨_,_,_,_,o,_,_,e,_⟩:=x;exact Jae e
 | dT kvs=>obtain⟨_,_,_,_,o,_,_,e,_⟩:=x;exact Jae e
 | set S n=>obtain⟨o,_,_,_,e,_⟩:=x;exact Jae e
 | ins C dx fs=>obtain⟨_,_,_,e,_⟩:=x;exact Jae e
 | own y=>obtain⟨_,e⟩:=x;exact Jae e
 | xd fs=>obtain⟨_,⟨_,_,_,e,_⟩,_⟩:=x;exact Jae e
 | rng lo hi=>obtain⟨_,_,_,e⟩:=x;exact Jae e
 | frz ob u=>obtain⟨e,_⟩:=x;exact Jae e
 | tbl ps=>exact Jae (show h.get? a=some _ from x)
 | met f y=>exact Jae (show h.get? a=some _ from x)
 | ext φ=>obtain⟨_,⟨_,e⟩,_⟩:=x;exact Jae e
 | tab l c q=>
  rcases x with e|⟨_,_,_,_,e,_⟩
  .exact Jae e
  .exact Jae e
theorem Paired.mapP {α β:Type}{F G:α->β->Prop}:∀ {l₁:List α} {l₂:List β},Paired F l₁ l₂->(∀ a b,F a b->G a b)->Paired G l₁ l₂
 | _,_,.nil,_=>.nil
 | _,_,.cons r t,f=>.cons (f _ _ r) (Paired.mapP t f)
theorem ObjOk.stay (x:ObjOk P w H h a o)(k:∀ b u,(b=a\/H b=some (.own a))->h.get? b=some u->h'.get? b=some u)(ho:∀ b,H b=some (.own a)->H' b=some (.own a))(ht:∀ b xs,H b=some (.tup xs)->H' b=some (.tup xs))(hz:∀ b o' u,H b=some (.frz o' u)->H' b=some (.frz o' u)):ObjOk P w H' h' a o:=by
 induction o with
 | lst xs=>obtain⟨z,its,n,r,e⟩:=x;exact⟨z,its,n,r,k _ _ (.inl rfl) e⟩
 | tup xs=>obtain⟨z,its,r,ob,e,c⟩:=x;exact⟨z,its,r,ob,k _ _ (.inl rfl) e,c⟩
 | dK kvs=>obtain⟨z,y,vs,r,ob,es,ep,e,c⟩:=x;exact⟨z,y,vs,r,ob,es,ep,k _ _ (.inl rfl) e,c⟩
 | dT kvs=>
  refine Zar x λz y e916=>?_;clear x;obtain⟨xs,r,ob,es,ep,e,c⟩:=e916;exact⟨z,y,xs,Paired.mapP r λp q z=>⟨z.1,ht _ _ z.2.1,z.2.2⟩,ob,es,ep,k _ _ (.inl rfl) e,c⟩
 | set S n=>obtain⟨ob,es,ep,t,e,c⟩:=x;exact⟨ob,es,ep,t,k _ _ (.inl rfl) e,c⟩
 | ins C dx fs=>
  refine Zdu x λd z ne e e917=>?_;clear x;obtain⟨mA,⟨od,es,ep,e2,c⟩,r⟩:=e917;exact⟨ho _ d,z,ne,k _ _ (.inl rfl) e,mA,⟨od,es,ep,k _ _ (.inr d) e2,c⟩,r⟩
 | own y=>obtain⟨ob,e⟩:=x;exact⟨ob,k _ _ (.inl rfl) e⟩
 | xd fs=>obtain⟨mA,⟨od,es,ep,e,c⟩,r⟩:=x;exact⟨mA,⟨od,es,ep,k _ _ (.inl rfl) e,c⟩,r⟩
 | rng lo hi=>obtain⟨t,u,v,e⟩:=x;exact⟨t,u,v,k _ _ (.inl rfl) e⟩
 | frz ob u ih=>obtain⟨e,q⟩:=x;exact⟨k _ _ (.inl rfl) e,ih q⟩
 | tbl ps=>
  have e:h.get? a=some { cls:=.none,data:=.fields ps }:=x;show h'.get? a=some { cls:=.none,data:=.fields ps };exact k a _ (.inl rfl) e
 | met f y=>
  have e:h.get? a=some (PySem.W.methodObj (.ref f) (.ref y)):=x;show h'.get? a=some (PySem.W.methodObj (.ref f) (.ref y));exact k a _ (.inl rfl) e
 | ext φ=>obtain⟨p,⟨o,e⟩,st⟩:=x;exact⟨st _ _ p λo q=>k _ _ (.inl rfl) q,⟨o,k _ _ (.inl rfl) e⟩,st⟩
 | tab l c q=>
  rcases x with e|⟨c',oc,vs,t,e,ne,e2,r⟩
  .exact .inl (k _ _ (.inl rfl) e)
  .exact .inr ⟨c',oc,vs,t,k _ _ (.inl rfl) e,ne,hz _ _ _ e2,r⟩
theorem HOk.lt (x:HOk P w H h)(e:H a=some o):a<h.objs.size:=(x a o e).lt
theorem HOk.fresh (x:HOk P w H h)(e:h.objs.size<=a):H a=none:=by
 cases q:H a with
 | none=>rfl
 | some u=>exact absurd (Ja3 (x.lt q) e) (Jbv _)
theorem HOk.kept (x:HOk P w H h)(k:∀ b u,h.get? b=some u->h'.get? b=some u):HOk P w H h':=λa o e=>
 (x a o e).stay (λb u _ q=>k b u q) (λ_ q=>q) (λ_ _ q=>q) λ_ _ _ q=>q
theorem HOk.laid (x:HOk P w H h)(k:∀ b u,h.get? b=some u->h'.get? b=some u)(hp:h.objs.size<=a)(new:ObjOk P w (upd H a o) h' a o):HOk P w (upd H a o) h':=λb u e=>by
 have hn:=x.fresh hp;by_cases hb:b=a
 .subst hb;rw[Zaa] at e;cases e;exact new
 .rw [Zag hb] at e;exact (x b u e).stay (λc v _ q=>k c v q) (λc q=>by rw[Zag (Zaf q hn)];exact q) (λc xs q=>by rw[Zag (Zaf q hn)];exact q) λc _ _ q=>by rw[Zag (Zaf q hn)];exact q
end
def Rd (H:Hp)(a:Addr)(u:HO):Prop:=H a=some u\/∃ o,H a=some (.frz o u)
theorem Rd.of {H:Hp}{a:Addr}{u:HO}(h:H a=some u):Rd H a u:=.inl h
theorem Rd.ok {P:Program}{w:World}{H:Hp}{h:Heap}{a:Addr}{u:HO}(r:Rd H a u)(x:HOk P w H h):ObjOk P w H h a u:=by
 rcases r with r|⟨o,r⟩
 .exact x a u r
 .obtain ⟨_,q⟩:=x a _ r;exact q
def Mut:Option HO->Prop
 | some (.lst _)=>True
 | some (.dK _)=>True
 | some (.dT _)=>True
 | some (.set _ _)=>True
 | some (.ins _ _ _)=>True
 | some (.ext _)=>True
 | some (.tab _ _ _)=>True
 | _=>False
section
variable {P:Program}{w:World}{H:Hp}{h h':Heap}{x e:Addr}{o':HO}
theorem HOk.write (ok:HOk P w H h)(mu:Mut (H x))(he:e=x\/H e=some (.own x))(k:∀ b u,b≠e->h.get? b=some u->h'.get? b=some u)(heo:∃ u,h'.get? e=some u)(new:ObjOk P w (upd H x o') h' x o'):HOk P w (upd H x o') h':=λb u q=>by
 have nown:∀ c y,H c=some (.own y)->c≠x:=λc y r z=>by subst z;rw[r] at mu;exact mu
 have ntup:∀ c xs,H c=some (.tup xs)->c≠x:=λc xs r z=>by subst z;rw[r] at mu;exact mu
 have nfrz:∀ c o' u',H c=some (.frz o' u')->c≠x:=λc o' u' r z=>by subst z;rw[r] at mu;exact mu
 by_cases hb:b=x
 .subst hb;rw[Zaa] at q;cases q;exact new
 .rw [Zag hb] at q;by_cases hbe:b=e
  .have q':H b=some (.own x):=by
    rcases he with z|z
    .exact absurd (hbe.trans z) hb
    .rw [hbe];exact z
   rw[q] at q';cases q';obtain⟨v,hv⟩:=heo;exact⟨v,by rw[hbe];exact hv⟩
  .refine (ok b u q).stay (λc v hc r=>k c v ?_ r) (λc r=>by rw[Zag (nown c b r)];exact r) (λc xs r=>by rw[Zag (ntup c xs r)];exact r) λc o' u' r=>by rw[Zag (nfrz c o' u' r)];exact r
   rcases hc with rfl|hc
   .exact hbe
   .rintro rfl;rcases he with z|z
    .exact nown c b hc z
    .rw [hc] at z;cases z;exact hb rfl
end
structure Un (fs ex:List Addr)(H H':Hp)(h h':Heap):Prop where
 keep:∀ b o,h.get? b=some o->H b=none->b∉fs->b∉ex->h'.get? b=some o
 slot:∀ b o,h.get? b=some o->H b=none->b∈fs->b∉ex->∃ sl,h'.get? b=some { o with slots:=sl }
 free:∀ b o,h.get? b=some o->H b=none->b∉ex->H' b=none
 there:∀ b o,h.get? b=some o->b∉ex->∃ o',h'.get? b=some o'
 tups:∀ b xs,H b=some (.tup xs)->H' b=some (.tup xs)
 frzs:∀ b o u,H b=some (.frz o u)->H' b=some (.frz o u)
 tbls:∀ b ps,H b=some (.tbl ps)->∃ more,H' b=some (.tbl (ps++more))
section
variable {fs fs' ex ex':List Addr}{H H1 H2:Hp}{h h1 h2 h':Heap}{a x e:Addr}{o:HO}
theorem Un.any (u:Un fs ex H H1 h h1){b:Addr}{ob:Obj}(q:h.get? b=some ob)(n:H b=none)(hx:b∉ex):∃ sl,h1.get? b=some { ob with slots:=sl }:=by
 by_cases hb:b∈fs
 .exact u.slot b ob q n hb hx
 .exact ⟨ob.slots,u.keep b ob q n hb hx⟩
theorem Un.kept (k:∀ b u,h.get? b=some u->h'.get? b=some u):Un fs ex H H h h':=
 ⟨λb ob q _ _ _=>k b ob q,λb ob q _ _ _=>⟨ob.slots,k b ob q⟩,λ_ _ _ n _=>n,λb ob q _=>⟨ob,k b ob q⟩,λ_ _ q=>q,λ_ _ _ q=>q,λ_ ps q=>⟨#[],by rw[q];simp⟩⟩
theorem Un.refl:Un fs ex H H h h:=Un.kept λ_ _ q=>q
theorem Un.laid (k:∀ b u,h.get? b=some u->h'.get? b=some u)(hp:h.objs.size<=a)(hn:H a=none):Un fs ex H (upd H a o) h h' where
 keep:=λb u q _ _ _=>k b u q
 slot:=λb u q _ _ _=>⟨u.slots,k b u q⟩
 free:=λb u q n _=>by rw[Zag (Ja1 (Ja3 (Jae q) hp))];exact n
 there:=λb u q _=>⟨u,k b u q⟩
 tups:=λb xs q=>by rw[Zag (Zaf q hn)];exact q
 frzs:=λb u xs q=>by rw[Zag (Zaf q hn)];exact q
 tbls:=λb ps q=>⟨#[],by rw[Zag (Zaf q hn),q];simp⟩
theorem Un.write (mu:Mut (H x))(he:e=x\/H e=some (.own x))(k:∀ b u,b≠e->h.get? b=some u->h'.get? b=some u)(heo:∃ u,h'.get? e=some u):Un fs ex H (upd H x o) h h':=by
 have hx:∀ b,H b=none->b≠x:=λb n z=>by subst z;rw[n] at mu;exact mu
 have hb:∀ b,H b=none->b≠e:=λb n z=>by
  subst z;rcases he with r|r
  .exact hx b n r
  .rw [n] at r;cases r
 have hm:∀ b u,H b=some u->¬ Mut (some u)->b≠x:=λb u q nm z=>by subst z;rw[q] at mu;exact nm mu
 refine⟨λb u q n _ _=>k b u (hb b n) q,λb u q n _ _=>⟨u.slots,k b u (hb b n) q⟩,λb u q n _=>by rw[Zag (hx b n)];exact n,λb u q _=>?_,
  λb xs q=>by rw[Zag (hm b _ q λz=>z)];exact q,λb u xs q=>by rw[Zag (hm b _ q λz=>z)];exact q,λb ps q=>⟨#[],by rw[Zag (hm b _ q λz=>z),q];simp⟩⟩
 by_cases hbe:b=e
 .subst hbe;exact heo
 .exact ⟨u,k b u hbe q⟩
end
def trk (h:Heap)(H:Hp):List Addr:=(List.range h.objs.size).filter λa=>(H a).isSome
def Zuk (h:Heap)(H:Hp):Heap:=PySem.W.hideAll h (trk h H)
theorem Zti (h:Heap)(H:Hp):(Zuk h H).objs.size=h.objs.size:=PySem.W.hideAll_size _ _
theorem Zwl {h:Heap}{H:Hp}{b:Addr}{o:Obj}(e:h.get? b=some o)(n:H b=none):(Zuk h H).get? b=some o:=
 PySem.W.hideAll_get _ e λhm=>by
  have q:(H b).isSome=true:=(Jaz.mp hm).2;rw[n] at q;simp at q
theorem of_hidT {h:Heap}{H:Hp}{b:Addr}{o:Obj}(e:(Zuk h H).get? b=some o):h.get? b=some o/\H b=none:=by
 have e':h.get? b=some o:=PySem.W.of_hideAll (trk h H) e;refine⟨e',?_⟩;cases q:H b with
 | none=>rfl
 | some x=>
  have hm:b∈trk h H:=Jaz.mpr ⟨Jbz.mpr (Jae e'),by simp[q]⟩;have z:(Zuk h H).get? b=none:=PySem.W.hideAll_none (trk h H) hm;rw[z] at e;cases e
def allNews (g h:Heap)(L:Addr):List (Addr×Obj):=(List.range h.objs.size).filterMap λa=>if a=L\/(g.get? a).isSome=true then none else (h.get? a).map λo=>(a,o)
def rest (g h:Heap)(L d:Addr):List (Addr×Obj):=(allNews g h L).filter λp=>decide (p.1≠d)
structure Mod (K:Frag)(mg:Str->Option Value)(base:Heap):Prop where
 kin:K.In base
 glob:base.Ns mainGlobals mg
 blt:∃ mb,base.Ns builtinsNs mb/\∀ x:Str,x ≠ "__name__" -> mb x=bootBuiltins x
 nolimit:base.NoLimit
 seer:base.NoSeer
 bmain:∃ bm ob,mg "__builtins__" = some (.ref bm)/\bm≠builtinsNs/\base.get? bm=some ob/\ob.cls=.type "module" /\ ob.dict=some builtinsNs/\ob.data=.plain
def Seen (l:List Env):Prop:=∃ e r,l=e::r/\e.scope.isGenerator=false/\e.scope.isCoroutine=false/\e.builtins=builtinsNs/\e.globals=mainGlobals
structure Cx where
 prog:Program
 w:World
 K:Frag
 mg:Str->Option Value
 base:Heap
 A:Around
 N:List Str
 s₀:Shared
 H₀:Hp
 env:Env
 outer:List Env
 stack:List Env
 ex:List Addr
 fn:Str->Bool
 calm:Bool
 pn:List (Addr×Obj)
 xe:Value->Shared->Prop
def frs (l:List Env):List Addr:=l.filterMap (·.frame)
abbrev Cx.fs (X:Cx):List Addr:=frs X.outer
def Vis (sc:Scope)(x:Str):Prop:=sc.names.lookup x=some .local\/sc.names.lookup x=some .cell\/sc.names.lookup x=some .free
def Loc (sc:Scope)(x:Str):Prop:=sc.names.lookup x=some .local\/sc.names.lookup x=some .cell
def Look (env:Env)(h:Heap)(m:Str->Option Value)(x:Str)(u:Value):Prop:=
 (env.kindOf x=some .local/\m x=some u)\/((env.kindOf x=some .cell\/env.kindOf x=some .free)/\∃ c,env.cells.lookup x=some c/\h.IsCell c (some u))
structure Cx.Ok (X:Cx):Prop where
 mod:Mod X.K X.mg X.base
 kind:X.env.scope.kind=.function
 glob:X.env.globals=mainGlobals
 blt:X.env.builtins=builtinsNs
 above:X.s₀.heap.objs.size<=X.env.locals
 inj:∀ x y c,X.env.cells.lookup x=some c->X.env.cells.lookup y=some c->x=y
 has:∀ x,(X.env.kindOf x=some .cell\/X.env.kindOf x=some .free)->∃ c,X.env.cells.lookup x=some c
 cab:∀ x c,X.fn x=true->X.env.cells.lookup x=some c->X.s₀.heap.objs.size<=c
 hd:X.calm=true->X.A.handled=none
 frames:X.A.frames=some X.stack
 stk:X.stack=X.outer\/(X.stack=X.env::X.outer/\X.env.frame=some X.env.locals)
 exf:∀ b∈X.ex,b≠X.env.locals/\∀ x c,X.env.cells.lookup x=some c->c≠b
 bs:∀ b o,X.base.get? b=some o->X.s₀.heap.get? b=some o/\X.H₀ b=none
 bsz:X.base.objs.size<=X.s₀.heap.objs.size
 noex:∀ b o,X.base.get? b=some o->b∉X.ex
 exfs:∀ b∈X.ex,b∉X.fs
 funs:X.s₀.heap.FunFrames X.base X.outer
 frf:∀ b∈X.fs,X.H₀ b=none
 top:Seen X.stack
structure Inv (X:Cx)(pins:List (Addr×Obj))(σ:List (Option V))(H:Hp)(s:Shared):Prop where
 ok:X.Ok
 os:s.os=X.s₀.os
 bare:AllBare s.gens
 base:Un X.fs X.ex X.H₀ H X.s₀.heap s.heap
 loc:∃ m,s.heap.Ns X.env.locals m/\∀ (i:Nat) (x:Str) (v:V),X.N[i]?=some x->σ[i]?=some (some v)->Vis X.env.scope x->∃ u,RelV v u/\Look X.env s.heap m x u
 cell:∀ x c,X.env.cells.lookup x=some c->∃ v,s.heap.IsCell c v
 free:H X.env.locals=none
 freeC:∀ x c,X.env.cells.lookup x=some c->H c=none
 pin:∀ p∈X.pn++pins,s.heap.get? p.1=some p.2/\H p.1=none/\p.1≠X.env.locals/\p.1∉X.fs/\∀ v,p.2.data≠.cell v
 hok:HOk X.prog X.w H s.heap
 len:σ.length=X.N.length
section
variable {X:Cx}{pins:List (Addr×Obj)}{σ:List (Option V)}{H H':Hp}{s:Shared}{h':Heap}
theorem Cx.Ok.nofr (ok:X.Ok){b:Addr}{o:Obj}(e:X.base.get? b=some o):b∉X.fs:=λhb=>by
 have:=(ok.funs.mem hb).1;rw[e] at this;cases this
theorem Inv.bs (I:Inv X pins σ H s):∀ b o,X.base.get? b=some o->s.heap.get? b=some o/\H b=none:=λb o e=>
 ⟨I.base.keep b o (I.ok.bs b o e).1 (I.ok.bs b o e).2 (I.ok.nofr e) (I.ok.noex b o e),I.base.free b o (I.ok.bs b o e).1 (I.ok.bs b o e).2 (I.ok.noex b o e)⟩
theorem Inv.bk (I:Inv X pins σ H s):∀ b o,X.base.get? b=some o->s.heap.get? b=some o:=λb o e=>(I.bs b o e).1
theorem Inv.mod (I:Inv X pins σ H s):Mod X.K X.mg X.base:=I.ok.mod
theorem Inv.kIn (I:Inv X pins σ H s):X.K.In s.heap:=I.ok.mod.kin.keeps I.bk
theorem Inv.lt (I:Inv X pins σ H s):X.env.locals<s.heap.objs.size:=let ⟨_,hn,_⟩:=I.loc;hn.lt
theorem Inv.sz (I:Inv X pins σ H s):X.s₀.heap.objs.size<=s.heap.objs.size:=Jbf I.ok.above (Jbl I.lt)
theorem Inv.nofs (I:Inv X pins σ H s){a:Addr}(h:s.heap.objs.size<=a):a∉X.fs:=λhb=>by
 obtain⟨_,o,ho,_⟩:=I.ok.funs.mem hb;exact absurd (Ja3 (Jae ho) (Jbf I.sz h)) (Jbv _)
theorem Inv.cne (I:Inv X pins σ H s):∀ x c,X.env.cells.lookup x=some c->c≠X.env.locals:=λx c e z=>by
 obtain⟨v,o,ho,hd⟩:=I.cell x c e;refine Zah I.loc λm e918 _=>?_;obtain⟨o',es,ep,ho',hd',_⟩:=e918;rw[z,ho'] at ho;cases ho;rw[hd'] at hd;cases hd
theorem Inv.funs (I:Inv X pins σ H s):s.heap.FunFrames X.base X.outer:=by
 have all:∀ (l:List Env),(∀ b∈frs l,b∈X.fs)->X.s₀.heap.FunFrames X.base l->s.heap.FunFrames X.base l:=by
  intro l
  induction l with
  | nil=>intro _ _;trivial
  | cons env r ih=>
   intro hs hl;refine Zar hl λhk e919 hr=>?_;clear hl;obtain⟨L,o,hf,hn,ho,hd⟩:=e919;have hL:L∈X.fs:=hs L (by unfold frs;rw[Jcj,hf];exact Jb3);obtain⟨sl,e⟩:=I.base.slot L o ho (I.ok.frf L hL) hL λz=>I.ok.exfs L z hL;exact⟨hk,⟨L,_,hf,hn,e,hd⟩,ih (λb hb=>hs b (by unfold frs;rw[Jcj,hf];exact Ja9 _ hb)) hr⟩
 exact all X.outer (λ_ hb=>hb) I.ok.funs
theorem Inv.stack (I:Inv X pins σ H s):s.heap.FunFrames X.base X.stack:=by
 rcases I.ok.stk with e|⟨e,hf⟩
 .rw [e];exact I.funs
 .rw [e];refine Zah I.loc λm hn _=>?_;refine .cons (by rw[I.ok.kind];decide) hf hn ?_ I.funs;exact Heap.get?_none_of_le (Jbf I.ok.bsz I.ok.above)
theorem Inv.stkSub (I:Inv X pins σ H s):∀ b∈frs X.stack,b∈X.env.locals::X.fs:=λb hb=>by
 rcases I.ok.stk with e|⟨e,hf⟩
 .rw [e] at hb;exact Ja9 _ hb
 .rw [e] at hb;unfold frs at hb;rw[Jcj,hf] at hb;exact hb
theorem Inv.stkFree (I:Inv X pins σ H s):∀ b∈frs X.stack,H b=none:=λb hb=>by
 rcases Jax.mp (I.stkSub b hb) with e|hb
 .rw [e];exact I.free
 .obtain ⟨_,o,ho,_⟩:=I.ok.funs.mem hb;exact I.base.free b o ho (I.ok.frf b hb) λz=>I.ok.exfs b z hb
theorem Inv.step {g':Array GenState}{t':Nat}{d':Drawn}{ch:List Addr}(I:Inv X pins σ H s)(hch:∀ b∈ch,(b∈X.ex\/X.s₀.heap.objs.size<=b)/\b≠X.env.locals/\(∀ x c,X.env.cells.lookup x=some c->c≠b)/\∀ p∈X.pn++pins,p.1≠b)(keep:∀ b o,b≠X.env.locals->b∉X.fs->b∉ch->s.heap.get? b=some o->H b=none->h'.get? b=some o)(slot:∀ b o,b≠X.env.locals->b∈X.fs->b∉ch->s.heap.get? b=some o->H b=none->∃ sl,h'.get? b=some { o with slots:=sl })(free:∀ b o,b∉ch->s.heap.get? b=some o->H b=none->H' b=none)(there:∀ b o,b∉ch->s.heap.get? b=some o->∃ o',h'.get? b=some o')(tups:∀ b xs,H b=some (.tup xs)->H' b=some (.tup xs))(frzs:∀ b o u,H b=some (.frz o u)->H' b=some (.frz o u))(tbls:∀ b ps,H b=some (.tbl ps)->∃ more,H' b=some (.tbl (ps++more)))(ns:∀ m,s.heap.Ns X.env.locals m->h'.Ns X.env.locals m)(hok:HOk X.prog X.w H' h')(hg:AllBare g'):
  Inv X pins σ H' { s with heap:=h',gens:=g',drawn:=d',toks:=t' }:=by
 have neL:∀ b o,X.s₀.heap.get? b=some o->b≠X.env.locals:=λb o e=>Ja1 (Ja3 (Jae e) I.ok.above);have neC:∀ b o,X.s₀.heap.get? b=some o->b∉X.ex->b∉ch:=λb o e hx hb=>by
  rcases (hch b hb).1 with z|z
  .exact hx z
  .exact absurd (Ja3 (Jae e) z) (Jbv _)
 have cellK:∀ x c,X.env.cells.lookup x=some c->∀ v,s.heap.IsCell c v->h'.IsCell c v:=λx c e v ⟨o,ho,hd⟩=>by
  have nch:c∉ch:=λz=>(hch c z).2.2.1 x c e rfl;by_cases hc:c∈X.fs
  .obtain ⟨sl,q⟩:=slot c o (I.cne x c e) hc nch ho (I.freeC x c e);exact⟨_,q,hd⟩
  .exact ⟨o,keep c o (I.cne x c e) hc nch ho (I.freeC x c e),hd⟩
 refine⟨I.ok,I.os,hg,⟨λb o e n hb hx=>?_,λb o e n hb hx=>?_,λb o e n hx=>?_,λb o e hx=>?_,λb xs e=>tups b xs (I.base.tups b xs e),λb o xs e=>frzs b o xs (I.base.frzs b o xs e),λb ps e=>?_⟩,?_,λx c e=>?_,?_,λx c e=>?_,λp hp=>?_,hok,I.len⟩
 .exact keep b o (neL b o e) hb (neC b o e hx) (I.base.keep b o e n hb hx) (I.base.free b o e n hx)
 .obtain ⟨sl,e1⟩:=I.base.slot b o e n hb hx;obtain⟨sl',e2⟩:=slot b _ (neL b o e) hb (neC b o e hx) e1 (I.base.free b o e n hx);exact⟨sl',e2⟩
 .obtain ⟨o',e1⟩:=I.base.there b o e hx;exact free b o' (neC b o e hx) e1 (I.base.free b o e n hx)
 .obtain ⟨o',e1⟩:=I.base.there b o e hx;exact there b o' (neC b o e hx) e1
 .obtain ⟨m1,e1⟩:=I.base.tbls b ps e;obtain⟨m2,e2⟩:=tbls b _ e1;exact⟨m1++m2,by rw[e2,Array.append_assoc]⟩
 .refine Zah I.loc λm hn hl=>?_;refine⟨m,ns m hn,λi x v e1 e2 e3=>?_⟩;refine Zah (hl i x v e1 e2 e3) λu r l=>?_;refine⟨u,r,?_⟩;rcases l with l|⟨k,c,e,z⟩
  .exact .inl l
  .exact .inr ⟨k,c,e,cellK x c e _ z⟩
 .obtain ⟨v,z⟩:=I.cell x c e;exact⟨v,cellK x c e v z⟩
 .refine Zah I.loc λm e920 _=>?_;obtain⟨o,_,_,ho,_⟩:=e920;exact free _ o (λz=>(hch _ z).2.1 rfl) ho I.free
 .obtain ⟨v,o,ho,hd⟩:=I.cell x c e;exact free c o (λz=>(hch c z).2.2.1 x c e rfl) ho (I.freeC x c e)
 .refine Zdu (I.pin p hp) λe n ne nf d=>?_;have nch:p.1∉ch:=λz=>(hch p.1 z).2.2.2 p hp rfl;exact⟨keep p.1 p.2 ne nf nch e n,free p.1 p.2 nch e n,ne,nf,d⟩
theorem Inv.un {t':Nat}(I:Inv X pins σ H s)(u:Un X.fs [] H H' s.heap h')(hok:HOk X.prog X.w H' h'):Inv X pins σ H' { s with heap:=h',toks:=t' }:=by
 refine Zah (id I.loc) λm e921 _=>?_;obtain⟨o,es,ep,ho,r⟩:=e921;obtain⟨sl,hL⟩:=u.any ho I.free (by simp);exact I.step (g':=s.gens) (d':=s.drawn) (ch:=[]) (λ_ z=>nomatch z) (λb o _ hb _ e n=>u.keep b o e n hb (by simp)) (λb o _ hb _ e n=>u.slot b o e n hb (by simp)) (λb o _ e n=>u.free b o e n (by simp)) (λb o _ e=>u.there b o e (by simp)) u.tups u.frzs u.tbls (λm' hm=>by
  refine Zfa hm λo' es' ep' ho' r'=>?_;clear hm;rw[ho] at ho';cases ho';exact⟨_,es',ep',hL,r'⟩) hok I.bare
theorem Inv.call {g':Array GenState}{t':Nat}{d':Drawn}{ch:List Addr}(I:Inv X pins σ H s)(u:Un (frs X.stack) ch H H' s.heap h')(hok:HOk X.prog X.w H' h')(hg:AllBare g')(hch:∀ b∈ch,(b∈X.ex\/X.s₀.heap.objs.size<=b)/\b≠X.env.locals/\(∀ x c,X.env.cells.lookup x=some c->c≠b)/\∀ p∈X.pn++pins,p.1≠b):
  Inv X pins σ H' { s with heap:=h',gens:=g',drawn:=d',toks:=t' }:=by
 refine Zah (id I.loc) λm e922 _=>?_;obtain⟨o,es,ep,ho,r⟩:=e922;obtain⟨sl,hL⟩:=u.any ho I.free λz=>(hch _ z).2.1 rfl;exact I.step (ch:=ch) hch (λb o hL hb hc e n=>u.keep b o e n (λz=>(Jax.mp (I.stkSub b z)).elim hL hb) hc) (λb o _ _ hc e n=>u.any e n hc) (λb o hc e n=>u.free b o e n hc) (λb o hc e=>u.there b o e hc) u.tups u.frzs u.tbls (λm' hm=>by
  refine Zfa hm λo' es' ep' ho' r'=>?_;clear hm;rw[ho] at ho';cases ho';exact⟨_,es',ep',hL,r'⟩) hok hg
theorem Inv.turned {t':Nat}{it:Addr}(I:Inv X pins σ H s)(k:∀ b o,b≠it->s.heap.get? b=some o->h'.get? b=some o)(hn:H it=none)(hL:it≠X.env.locals)(h1:it∈X.ex\/X.s₀.heap.objs.size<=it)(h2:∀ x c,X.env.cells.lookup x=some c->c≠it)(h3:∀ p∈X.pn++pins,p.1≠it):Inv X pins σ H { s with heap:=h',toks:=t' }:=by
 have nit:∀ b u,H b=some u->b≠it:=λb u e z=>by rw[z,hn] at e;cases e
 refine I.step (g':=s.gens) (d':=s.drawn) (ch:=[it]) (λb hb=>?_) (λb o _ _ hc e _=>k b o (λz=>hc (by simp[z])) e) (λb o _ _ hc e _=>⟨o.slots,k b o (λz=>hc (by simp[z])) e⟩) (λ_ _ _ _ n=>n)
  (λb o hc e=>⟨o,k b o (λz=>hc (by simp[z])) e⟩) (λ_ _ e=>e) (λ_ _ _ e=>e) (λb ps e=>⟨#[],by rw[e];simp⟩) (λm hm=>?_) (λb u e=>?_) I.bare
 .have e:b=it:=by simpa using hb
  subst e;exact⟨h1,hL,h2,h3⟩
 .refine Zfa hm λo es ep ho r=>?_;clear hm;exact Za9 o es ep ⟨k _ o (Jcs hL) ho,r⟩
 .refine (I.hok b u e).stay (λc v hc q=>k c v ?_ q) (λ_ q=>q) (λ_ _ q=>q) λ_ _ _ q=>q;rcases hc with z|z
  .rw [z];exact nit b u e
  .exact nit c _ z
theorem Inv.tok (I:Inv X pins σ H s)(t:Nat):Inv X pins σ H { s with toks:=t }:=I.un (h':=s.heap) (t':=t) Un.refl I.hok
theorem Inv.kept {t':Nat}(I:Inv X pins σ H s)(k:∀ b u,s.heap.get? b=some u->h'.get? b=some u):Inv X pins σ H { s with heap:=h',toks:=t' }:=I.un (Un.kept k) (I.hok.kept k)
theorem Inv.laid {a:Addr}{o:HO}{t':Nat}(I:Inv X pins σ H s)(k:∀ b u,s.heap.get? b=some u->h'.get? b=some u)(hp:s.heap.objs.size<=a)(new:ObjOk X.prog X.w (upd H a o) h' a o):
  Inv X pins σ (upd H a o) { s with heap:=h',toks:=t' }:=I.un (Un.laid k hp (I.hok.fresh hp)) (I.hok.laid k hp new)
theorem Inv.write {x e:Addr}{o:HO}{t':Nat}(I:Inv X pins σ H s)(mu:Mut (H x))(he:e=x\/H e=some (.own x))(k:∀ b u,b≠e->s.heap.get? b=some u->h'.get? b=some u)(heo:∃ u,h'.get? e=some u)(new:ObjOk X.prog X.w (upd H x o) h' x o):Inv X pins σ (upd H x o) { s with heap:=h',toks:=t' }:=I.un (Un.write mu he k heo) (I.hok.write mu he k heo new)
theorem Inv.pins_of {pins':List (Addr×Obj)}(I:Inv X pins σ H s)(h:∀ p∈pins',s.heap.get? p.1=some p.2/\H p.1=none/\p.1≠X.env.locals/\p.1∉X.fs/\∀ v,p.2.data≠.cell v):Inv X pins' σ H s:=
 ⟨I.ok,I.os,I.bare,I.base,I.loc,I.cell,I.free,I.freeC,λp hp=>(Jbp.mp hp).elim (λz=>I.pin p (Jcz _ z)) (h p),I.hok,I.len⟩
theorem Zo0 {N:List Str}(hN:N.Nodup){i j:Nat}{x:Str}(a:N[i]?=some x)(b:N[j]?=some x):i=j:=by
 obtain⟨h1,e1⟩:=Jah.mp a;obtain⟨h2,e2⟩:=Jah.mp b;exact (List.getElem_inj hN).mp (e1.trans e2.symm)
theorem Zl1 {M:Model}{A:Around}{E:Value->Shared->Prop}{i:Nat}{x:Str}{v:V}{u:Value}{Q:Unit->Shared->Prop}(I:Inv X pins σ H s)(hN:X.N.Nodup)(hi:X.N[i]?=some x)(hx:Loc X.env.scope x)(r:RelV v u)(h:∀ s',Inv X pins (σ.set i (some v)) H s'->(∃ a,Heap.SameBut a s.heap s'.heap/\(a=X.env.locals\/X.env.cells.lookup x=some a))->Q () s')(hf:X.fn x=true\/X.env.scope.names.lookup x=some .local:=by first|exact .inl rfl|exact .inr rfl|assumption):wpAny M A (storeName X.env x u) Q E s:=by
 refine Zah (id I.loc) λm hn hl=>?_;have hcls:(X.env.scope.kind == .class || (X.env.scope.kind == .module && X.env.locals != X.env.globals))=false:=by rw[I.ok.kind];rfl
 have hiσ:i<σ.length:=by rw[I.len];exact (Jah.mp hi).1
 have cne:=I.cne;have tracked:∀ {a:Addr} {h':Heap},(∃ o,s.heap.get? a=some o/\H a=none)->Heap.SameBut a s.heap h'->HOk X.prog X.w H h':=λ{a h'} ha hs b ob e=>by
  refine Zah ha λ_ _ hfree=>?_;clear ha;refine (I.hok b ob e).stay (λc w' hc q=>(hs.2 c ?_).trans q) (λ_ q=>q) (λ_ _ q=>q) λ_ _ _ q=>q;rintro rfl;rcases hc with rfl|hc
  .rw [hfree] at e;cases e
  .rw [hfree] at hc;cases hc
 rcases hx with hk|hk
 .refine wpAny_storeName_local hk hn (λh' hn' hs=>?_) hcls;refine Zfa (id hn) λoL _ _ hoL _=>?_;refine h _ ⟨I.ok,I.os,I.bare,⟨λb o e n hb hx=>?_,λb o e n hb hx=>?_,I.base.free,λb o e hx=>?_,I.base.tups,I.base.frzs,I.base.tbls⟩,⟨_,hn',λj y v' e1 e2 e3=>?_⟩,λy c e=>?_,I.free,I.freeC,λp hp=>?_,tracked ⟨oL,hoL,I.free⟩ hs,by simpa using I.len⟩ ⟨_,hs,.inl rfl⟩
  .exact (hs.2 b (Ja1 (Ja3 (Jae e) I.ok.above))).trans (I.base.keep b o e n hb hx)
  .obtain ⟨sl,e1⟩:=I.base.slot b o e n hb hx;exact⟨sl,(hs.2 b (Ja1 (Ja3 (Jae e) I.ok.above))).trans e1⟩
  .obtain ⟨o',e1⟩:=I.base.there b o e hx;exact⟨o',(hs.2 b (Ja1 (Ja3 (Jae e) I.ok.above))).trans e1⟩
  .by_cases hj:j=i
   .subst hj;rw[hi] at e1;cases e1;rw[List.getElem?_set_self hiσ] at e2;cases e2;exact⟨u,r,.inl ⟨hk,by simp⟩⟩
   .rw [List.getElem?_set_ne (Jcs hj)] at e2;refine Zah (hl j y v' e1 e2 e3) λu' r' q=>?_;refine⟨u',r',?_⟩;rcases q with ⟨k,e⟩|⟨k,c,e,z⟩
    .refine .inl ⟨k,?_⟩;have:y≠x:=λe=>hj (Zo0 hN e1 (e ▸ hi));simp[this,e]
    .exact .inr ⟨k,c,e,z.sameBut hs (cne y c e)⟩
  .obtain ⟨w',z⟩:=I.cell y c e;exact⟨w',z.sameBut hs (cne y c e)⟩
  .refine Zdu (I.pin p hp) λe n ne nf d=>?_;exact⟨(hs.2 p.1 ne).trans e,n,ne,nf,d⟩
 .have hfn:X.fn x=true:=by
   rcases hf with z|z
   .exact z
   .rw [z] at hk;cases hk
  obtain⟨c,hc⟩:=I.ok.has x (.inl hk);obtain⟨w',z⟩:=I.cell x c hc;refine wpAny_storeName_cell I.ok.kind hk hc z (λh' hc' hs=>?_);refine Zah (id z) λoc hoc hocd=>?_;refine h { s with heap:=h' } ⟨I.ok,I.os,I.bare,⟨λb o e n hb hx=>?_,λb o e n hb hx=>?_,I.base.free,λb o e hx=>?_,I.base.tups,I.base.frzs,I.base.tbls⟩,⟨m,hn.sameBut hs (Jcs (cne x c hc)),λj y v' e1 e2 e3=>?_⟩,λy c' e=>?_,I.free,I.freeC,λp hp=>?_,tracked ⟨oc,hoc,I.freeC x c hc⟩ hs,by simpa using I.len⟩ ⟨c,hs,.inr hc⟩
  .exact (hs.2 b (Ja1 (Ja3 (Jae e) (I.ok.cab x c hfn hc)))).trans (I.base.keep b o e n hb hx)
  .obtain ⟨sl,e1⟩:=I.base.slot b o e n hb hx;exact⟨sl,(hs.2 b (Ja1 (Ja3 (Jae e) (I.ok.cab x c hfn hc)))).trans e1⟩
  .obtain ⟨o',e1⟩:=I.base.there b o e hx;exact⟨o',(hs.2 b (Ja1 (Ja3 (Jae e) (I.ok.cab x c hfn hc)))).trans e1⟩
  .by_cases hj:j=i
   .subst hj;rw[hi] at e1;cases e1;rw[List.getElem?_set_self hiσ] at e2;cases e2;exact⟨u,r,.inr ⟨.inl hk,c,hc,hc'⟩⟩
   .rw [List.getElem?_set_ne (Jcs hj)] at e2;refine Zah (hl j y v' e1 e2 e3) λu' r' q=>?_;refine⟨u',r',?_⟩;rcases q with q|⟨k,c',e,z'⟩
    .exact .inl q
    .refine .inr ⟨k,c',e,z'.sameBut hs ?_⟩;rintro rfl;exact hj (Zo0 hN e1 (I.ok.inj _ _ _ e hc ▸ hi))
  .by_cases hcc:c'=c
   .subst hcc;exact⟨_,hc'⟩
   .obtain ⟨w2,z2⟩:=I.cell y c' e;exact⟨w2,z2.sameBut hs hcc⟩
  .refine Zdu (I.pin p hp) λe n ne nf d=>?_;refine⟨(hs.2 p.1 ?_).trans e,n,ne,nf,d⟩;intro q;rw[q,hoc] at e;have q':oc=p.2:=Jbo e;exact d w' (by rw[<- q'];exact hocd)
theorem Zdb {M:Model}{A:Around}{E:Value->Shared->Prop}{i:Nat}{x:Str}{v:V}{u:Value}{Q:Unit->Shared->Prop}(I:Inv X pins σ H s)(hN:X.N.Nodup)(hi:X.N[i]?=some x)(hx:Loc X.env.scope x)(r:RelV v u)(h:∀ s',Inv X pins (σ.set i (some v)) H s'->Q () s')(hf:X.fn x=true\/X.env.scope.names.lookup x=some .local:=by first|exact .inl rfl|exact .inr rfl|assumption):wpAny M A (storeName X.env x u) Q E s:=
 Zl1 I hN hi hx r (λs' I' _=>h s' I') hf
theorem Inv.call' {s':Shared}{ch:List Addr}(I:Inv X pins σ H s)(ho:s'.os=s.os)(u:Un (frs X.stack) ch H H' s.heap s'.heap)(hok:HOk X.prog X.w H' s'.heap)(hg:AllBare s'.gens)(hch:∀ b∈ch,(b∈X.ex\/X.s₀.heap.objs.size<=b)/\b≠X.env.locals/\(∀ x c,X.env.cells.lookup x=some c->c≠b)/\∀ p∈X.pn++pins,p.1≠b):Inv X pins σ H' s':=by
 obtain⟨h',g',d',t',o'⟩:=s';have e:o'=s.os:=ho;subst e;exact I.call (g':=g') (t':=t') (d':=d') u hok hg hch
end
abbrev XK:=Value->Option Addr->Hp->Prop
abbrev St:=List (Option V)
abbrev VK:=V->Hp->Prop
abbrev TE:=St->Hp->VK->Prop
abbrev TT:=St->Hp->(Bool->Hp->Prop)->Prop
abbrev TA:=St->Hp->(List V->Hp->Prop)->Prop
structure Ends where
 nx:St->Hp->Prop
 rt:VK
 bk:St->Hp->Prop:=λ_ _=>False
 ct:St->Hp->Prop:=λ_ _=>False
abbrev TS:=Ends->St->Hp->Prop
def EP (X:Cx)(pins:List (Addr×Obj))(σ:St)(Q:VK)(u:Value)(s':Shared):Prop:=∃ v H',Inv X pins σ H' s'/\RelV v u/\Q v H'
def TP (X:Cx)(pins:List (Addr×Obj))(σ:St)(Q:Bool->Hp->Prop)(b:Bool)(s':Shared):Prop:=∃ H',Inv X pins σ H' s'/\Q b H'
def AP (X:Cx)(pins:List (Addr×Obj))(σ:St)(Q:List V->Hp->Prop)(us:List Value)(s':Shared):Prop:=∃ vs H',Inv X pins σ H' s'/\Vals vs us/\Q vs H'
def SP (X:Cx)(pins:List (Addr×Obj))(D:Ends)(f:Flow)(s':Shared):Prop:=
 match f with
 | .next=>∃ σ' H',Inv X pins σ' H' s'/\D.nx σ' H'
 | .brk=>∃ σ' H',Inv X pins σ' H' s'/\D.bk σ' H'
 | .cont=>∃ σ' H',Inv X pins σ' H' s'/\D.ct σ' H'
 | .ret u=>∃ v σ' H',Inv X pins σ' H' s'/\RelV v u/\D.rt v H'
def PE (X:Cx)(e:Expr)(t:TE):Prop:=
 ∀ (pins:List (Addr×Obj)) (s:Shared) (σ:St) (H:Hp) (Q:VK),Inv X pins σ H s->t σ H Q->wpAny (model X.prog X.w) X.A (eval e X.env) (EP X pins σ Q) X.xe s
def PT (X:Cx)(e:Expr)(t:TT):Prop:=
 ∀ (pins:List (Addr×Obj)) (s:Shared) (σ:St) (H:Hp) (Q:Bool->Hp->Prop),Inv X pins σ H s->t σ H Q->wpAny (model X.prog X.w) X.A (isTrue e X.env (eval e X.env)) (TP X pins σ Q) X.xe s
def PW (X:Cx)(e:Expr)(t:TT):Prop:=
 ∀ (whole:Sem Value) (pins:List (Addr×Obj)) (s:Shared) (σ:St) (H:Hp) (Q:Bool->Hp->Prop),Inv X pins σ H s->t σ H Q->wpAny (model X.prog X.w) X.A (isTrue e X.env whole) (TP X pins σ Q) X.xe s
theorem PW.pt {X:Cx}{e:Expr}{t:TT}(h:PW X e t):PT X e t:=h _
def PA (X:Cx)(es:List Expr)(t:TA):Prop:=
 ∀ (pos:Pos) (pins:List (Addr×Obj)) (s:Shared) (σ:St) (H:Hp) (Q:List V->Hp->Prop),Inv X pins σ H s->t σ H Q->wpAny (model X.prog X.w) X.A (spliced (backTo pos (starEach es X.env))) (AP X pins σ Q) X.xe s
def PS (X:Cx)(st:Stmt)(t:TS):Prop:=
 ∀ (pins:List (Addr×Obj)) (s:Shared) (σ:St) (H:Hp) (D:Ends),Inv X pins σ H s->t D σ H->wpAny (model X.prog X.w) X.A (exec st X.env) (SP X pins D) X.xe s
def PSs (X:Cx)(st:List Stmt)(t:TS):Prop:=
 ∀ (pins:List (Addr×Obj)) (s:Shared) (σ:St) (H:Hp) (D:Ends),Inv X pins σ H s->t D σ H->wpAny (model X.prog X.w) X.A (execs st X.env) (SP X pins D) X.xe s
theorem thn {α:Type}{t:Sem α}{Q Q':α->Shared->Prop}{M:Model}{A:Around}{E:Value->Shared->Prop}{s:Shared}(h:wpAny M A t Q E s)(hQ:∀ a s,Q a s->Q' a s):wpAny M A t Q' E s:=Jbg h hQ λ_ _ x=>x
section
variable {X:Cx}
theorem bin {a b:Expr}{ta tb:TE}(ha:PE X a ta)(hb:PE X b tb){pins:List (Addr×Obj)}{s:Shared}{σ:St}{H:Hp}{R:V->V->Hp->Prop}(I:Inv X pins σ H s)(h:ta σ H λx H1=>tb σ H1 λy H2=>R x y H2){α:Type}{Q:α->Shared->Prop}{f:Value->Value->Sem α}(hf:∀ v u s2 x y H2,Inv X pins σ H2 s2->RelV x v->RelV y u->R x y H2->wpAny (model X.prog X.w) X.A (f v u) Q X.xe s2):
  wpAny (model X.prog X.w) X.A (eval a X.env) (λv s₁=>wpAny (model X.prog X.w) X.A (eval b X.env) (λu s₂=>wpAny (model X.prog X.w) X.A (f v u) Q X.xe s₂) X.xe s₁) X.xe s:=by
 refine thn (ha pins s σ H _ I h) λv s1 ⟨x,H1,I1,r1,q1⟩=>?_;refine thn (hb pins s1 σ H1 _ I1 q1) λu s2 ⟨y,H2,I2,r2,q2⟩=>?_;exact hf v u s2 x y H2 I2 r1 r2 q2
def Zlz (i:Nat):TE:=λσ H Q=>∃ v,σ[i]?=some (some v)/\Q v H
def tC (v:V):TE:=λ_ H Q=>Q v H
theorem pe_var {i:Nat}{x:Str}{pos:Pos}(hN:X.N[i]?=some x)(hv:Vis X.env.scope x)(hd:(x == ("__debug__" : Str))=false:=by decide)(hcd:(x == ("__classdict__" : Str))=false:=by decide):PE X (.Name x pos) (Zlz i):=by
 intro pins s σ H Q I h;obtain⟨v,e,h⟩:=h;obtain⟨m,hn,hl⟩:=I.loc;obtain⟨u,r,l⟩:=hl i x v hN e hv;have fin:EP X pins σ Q u s:=⟨v,H,I,r,h⟩
 rcases l with ⟨hk,hm⟩|⟨hk,c,hc,hcell⟩
 .exact wpAny_Name (wpAny_loadName_local I.ok.kind hk hn hm fin) hd
 .rcases hk with hk|hk
  .exact wpAny_Name (wpAny_loadName_cell I.ok.kind hk hc hcell fin) hd
  .exact wpAny_Name (wpAny_loadName_free I.ok.kind hk hc hcell fin hcd) hd
theorem Zac {i j pos}:PE X (.Constant (.int i) j pos) (tC (.int i)):=λ_ _ _ H _ I h=>wpAny_Constant_int ⟨.int i,H,I.tok _,⟨_,rfl⟩,h⟩
theorem Ze8 {b j pos}:PE X (.Constant (.bool b) j pos) (tC (.bl b)):=λ_ _ _ H _ I h=>Constant_bool ⟨.bl b,H,I,rfl,h⟩
theorem Zl9 {j pos}:PE X (.Constant .none j pos) (tC .non):=λ_ _ _ H _ I h=>Constant_none ⟨.non,H,I,rfl,h⟩
theorem Zoq {x j pos}:PE X (.Constant (.str x) j pos) (tC (.str x)):=λ_ _ _ H _ I h=>Calls.Constant_str ⟨.str x,H,I.tok _,⟨_,rfl⟩,h⟩
def Gl (X:Cx)(x:Str):Prop:=X.env.kindOf x=some .globalImplicit
theorem Zhr {E:Value->Shared->Prop}{pins:List (Addr×Obj)}{s:Shared}{σ:St}{H:Hp}{x:Str}{u:Value}{pos:Pos}{Q:Value->Shared->Prop}(I:Inv X pins σ H s)(hg:Gl X x)(hm:X.mg x=some u)(h:Q u s)(hd:(x == ("__debug__" : Str))=false:=by decide):wpAny (model X.prog X.w) X.A (eval (.Name x pos) X.env) Q E s:=
 Calls.Name_function_global I.ok.kind hg (Calls.loadGlobal_global (by rw[I.ok.glob];exact I.mod.glob.keeps I.bk) hm h) hd
theorem Ze7 {E:Value->Shared->Prop}{pins:List (Addr×Obj)}{s:Shared}{σ:St}{H:Hp}{x:Str}{u:Value}{pos:Pos}{Q:Value->Shared->Prop}(I:Inv X pins σ H s)(hg:Gl X x)(hm:X.mg x=none)(hv:bootBuiltins x=some u)(h:Q u s)(hn:x ≠ "__name__" := by decide)(hd:(x == ("__debug__" : Str))=false:=by decide):wpAny (model X.prog X.w) X.A (eval (.Name x pos) X.env) Q E s:=by
 refine Zah I.mod.blt λmb h1 h2=>?_;exact Calls.Name_function_global I.ok.kind hg (Calls.loadGlobal_builtin (by rw[I.ok.glob];exact I.mod.glob.keeps I.bk) hm (by rw[I.ok.blt];exact h1.keeps I.bk) ((h2 x hn).trans hv) h) hd
theorem Zcs {x:Str}{v:V}{u:Value}{pos:Pos}(hg:Gl X x)(hm:X.mg x=some u)(r:RelV v u)(hd:(x == ("__debug__" : Str))=false:=by decide):PE X (.Name x pos) (tC v):=
 λ_ _ _ H _ I h=>Zhr I hg hm ⟨v,H,I,r,h⟩ hd
theorem pe_bltn {x:Str}{v:V}{u:Value}{pos:Pos}(hg:Gl X x)(hm:X.mg x=none)(hv:bootBuiltins x=some u)(r:RelV v u)(hn:x ≠ "__name__" := by decide)(hd:(x == ("__debug__" : Str))=false:=by decide):PE X (.Name x pos) (tC v):=
 λ_ _ _ H _ I h=>Ze7 I hg hm hv ⟨v,H,I,r,h⟩ hn hd
variable {a b:Expr}{ta tb:TE}{pos:Pos}
def PC (X:Cx)(op:CmpOp)(a b:Expr)(t:TE):Prop:=
 ∀ (pins:List (Addr×Obj)) (s:Shared) (σ:St) (H:Hp) (Q:VK),Inv X pins σ H s->t σ H Q->
  wpAny (model X.prog X.w) X.A (eval a X.env) (λv s₁=>wpAny (model X.prog X.w) X.A (eval b X.env) (λu s₂=>wpAny (model X.prog X.w) X.A (compareOp op v u) (EP X pins σ Q) X.xe s₂) X.xe s₁) X.xe s
theorem Zv4 (b:Expr){op:CmpOp}(h:op≠.In)(h2:op≠.NotIn):behindInMarks op b=false:=by
 have e1:(op == CmpOp.In)=false:=by cases op <;> first|rfl|exact absurd rfl h
 have e2:(op == CmpOp.NotIn)=false:=by cases op <;> first|rfl|exact absurd rfl h2
 cases b <;> simp[behindInMarks,e1,e2]
def tB (t:TE):TT:=λσ H Q=>t σ H λx H1=>∃ c,x=.bl c/\Q c H1
theorem pt_cmp {op:CmpOp}{t:TE}(h:PC X op a b t)(h1:behindInMarks op b=false:=by first|exact Zv4 _ ⇑0 ⇑0|rfl):PT X (.Compare a [op] [b] pos) (tB t):=by
 intro pins s σ H Q I hw;refine Jef (thn (h pins s σ H _ I hw) λv s1 h1=>thn h1 λu s2 h2=>thn h2 λc s3 ⟨x,H1,I1,r1,q1⟩=>?_) h1;refine Zah q1 λd e923 q=>?_;clear q1;obtain rfl:=e923;cases r1;exact Jb0 ⟨H1,I1,q⟩
theorem Zbn {e:Expr}{t:TE}(h:PE X e t)(he:∀ whole,isTrue e X.env whole=(do let v <- whole;standAt e.pos;holding [v] (truthy v)):=by intro _;rfl):PT X e (tB t):=by
 intro pins s σ H Q I hw;refine isTrue_plain (thn (h pins s σ H _ I hw) λv s1 ⟨x,H1,I1,r1,q1⟩=>?_) (he _);refine Zah q1 λd e924 q=>?_;clear q1;obtain rfl:=e924;cases r1;exact Jb0 ⟨H1,I1,q⟩
variable {tA tB':TT}{rest:List Expr}
def tAnd (t u:TT):TT:=λσ H Q=>t σ H λc H1=>if c=true then u σ H1 Q else Q false H1
def tOr (t u:TT):TT:=λσ H Q=>t σ H λc H1=>if c=true then Q true H1 else u σ H1 Q
def tNot (t:TT):TT:=λσ H Q=>t σ H λc H1=>Q (!c) H1
theorem pw_and1 (ha:PT X a tA):PW X (.BoolOp .And [a] pos) tA:=by
 intro wh pins s σ H Q I h;refine isTrue_and (thn (ha pins s σ H Q I h) λc s1 e=>?_);cases c with
 | true=>exact isTrue_and_nil e
 | false=>exact e
theorem Zdq (ha:PT X a tA):PW X (.BoolOp .Or [a] pos) tA:=by
 intro wh pins s σ H Q I h;refine isTrue_or (thn (ha pins s σ H Q I h) λc s1 e=>?_);cases c with
 | false=>exact isTrue_or_nil e
 | true=>exact e
theorem pw_and (ha:PT X a tA)(hb:PW X (.BoolOp .And (b::rest) pos) tB'):PW X (.BoolOp .And (a::b::rest) pos) (tAnd tA tB'):=by
 intro wh pins s σ H Q I h;refine isTrue_and (thn (ha pins s σ H _ I h) λc s1 ⟨H1,I1,q1⟩=>?_);cases c with
 | true=>exact hb wh pins s1 σ H1 Q I1 q1
 | false=>exact⟨H1,I1,q1⟩
theorem Zes (ha:PT X a tA)(hb:PW X (.BoolOp .Or (b::rest) pos) tB'):PW X (.BoolOp .Or (a::b::rest) pos) (tOr tA tB'):=by
 intro wh pins s σ H Q I h;refine isTrue_or (thn (ha pins s σ H _ I h) λc s1 ⟨H1,I1,q1⟩=>?_);cases c with
 | true=>exact⟨H1,I1,q1⟩
 | false=>exact hb wh pins s1 σ H1 Q I1 q1
theorem Zbq (ha:PT X a tA):PT X (.UnaryOp .Not a pos) (tNot tA):=by
 intro pins s σ H Q I h;exact isTrue_not (ha pins s σ H (λc H1=>Q (!c) H1) I h)
def tAndV (ta tb:TE):TE:=λσ H Q=>ta σ H λx H1=>∃ c,x=.bl c/\if c=true then tb σ H1 Q else Q (.bl false) H1
def tOrV (ta tb:TE):TE:=λσ H Q=>ta σ H λx H1=>∃ c,x=.bl c/\if c=true then Q (.bl true) H1 else tb σ H1 Q
def tNotV (ta:TE):TE:=λσ H Q=>ta σ H λx H1=>∃ c,x=.bl c/\Q (.bl (!c)) H1
theorem Zf9 {op}{t:TE}(h:PE X a t):PE X (.BoolOp op [a] pos) t:=λpins s σ H Q I hw=>BoolOp_one (h pins s σ H Q I hw)
theorem Zga (ha:PE X a ta)(hb:PE X (.BoolOp .And (b::rest) pos) tb):PE X (.BoolOp .And (a::b::rest) pos) (tAndV ta tb):=by
 intro pins s σ H Q I h;refine BoolOp_and (thn (ha pins s σ H _ I h) λv s1 ⟨x,H1,I1,r1,q1⟩=>?_);obtain⟨c,rfl,q1⟩:=q1;cases r1;refine Jb0 ?_;cases c with
 | true=>exact hb pins s1 σ H1 Q I1 q1
 | false=>exact⟨.bl false,H1,I1,rfl,q1⟩
theorem pe_or (ha:PE X a ta)(hb:PE X (.BoolOp .Or (b::rest) pos) tb):PE X (.BoolOp .Or (a::b::rest) pos) (tOrV ta tb):=by
 intro pins s σ H Q I h;refine BoolOp_or (thn (ha pins s σ H _ I h) λv s1 ⟨x,H1,I1,r1,q1⟩=>?_);obtain⟨c,rfl,q1⟩:=q1;cases r1;refine Jb0 ?_;cases c with
 | false=>exact hb pins s1 σ H1 Q I1 q1
 | true=>exact⟨.bl true,H1,I1,rfl,q1⟩
theorem Zxf (ha:PE X a ta):PE X (.UnaryOp .Not a pos) (tNotV ta):=by
 intro pins s σ H Q I h;refine UnaryOp_ (thn (ha pins s σ H _ I h) λv s1 ⟨x,H1,I1,r1,q1⟩=>?_);obtain⟨c,rfl,q1⟩:=q1;cases r1;exact not_of (Jb0 ⟨.bl (!c),H1,I1,rfl,q1⟩)
def tIf (t:TT)(ta tb:TE):TE:=λσ H Q=>t σ H λc H1=>if c=true then ta σ H1 Q else tb σ H1 Q
theorem Zk6 {c:Expr}(hc:PT X c tA)(ha:PE X a ta)(hb:PE X b tb):PE X (.IfExp c a b pos) (tIf tA ta tb):=by
 intro pins s σ H Q I h;refine wpAny_IfExp (thn (hc pins s σ H _ I h) λd s1 ⟨H1,I1,q1⟩=>?_);cases d with
 | true=>exact ha pins s1 σ H1 Q I1 q1
 | false=>exact hb pins s1 σ H1 Q I1 q1
end
def SqL (K:Frag)(H:Hp)(a:Addr)(xs:List V):Prop:=
 Rd H a (.lst xs) \/
  ∃ (o:Obj) (its:Array Value) (n:Nat),K.lookup a=some o/\o.cls=.type "list" /\ o.dict=none/\o.data=.seq its n/\its.size<=sizeLine/\Vals xs its.toList
def SqT (K:Frag)(H:Hp)(a:Addr)(xs:List V):Prop:=
 Rd H a (.tup xs) \/
  ∃ (o:Obj) (its:Array Value) (n:Nat),K.lookup a=some o/\o.cls=.type "tuple" /\ o.data=.seq its n/\its.size<=sizeLine/\Vals xs its.toList
def absV:Value->Option V
 | .none=>some .non
 | .bool b=>some (.bl b)
 | .int i _=>some (.int i)
 | .str x _=>some (.str x)
 | .bytes b _=>some (.byt b)
 | .float b _=>some (.flt b)
 | .ref a=>some (.ref a)
 | .type n=>some (.ty n)
 | _=>none
theorem RelV.abs {x:V}{u:Value}(r:RelV x u):absV u=some x:=by
 cases x with
 | non=>cases r;rfl
 | bl _=>cases r;rfl
 | int _=>obtain⟨t,rfl⟩:=r;rfl
 | str _=>obtain⟨t,rfl⟩:=r;rfl
 | byt _=>obtain⟨t,rfl⟩:=r;rfl
 | flt _=>obtain⟨t,rfl⟩:=r;rfl
 | ref _=>cases r;rfl
 | ty _=>cases r;rfl
theorem RelV.inj {x y:V}{u:Value}(r:RelV x u)(q:RelV y u):x=y:=Jbo (r.abs.symm.trans q.abs)
theorem Vals.inj:∀ {xs ys:List V} {us:List Value},Vals xs us->Vals ys us->xs=ys
 | _,_,_,.nil,.nil=>rfl
 | _,_,_,.cons r t,.cons r' t'=>by rw[r.inj r',Vals.inj t t']
section
variable {X:Cx}{pins:List (Addr×Obj)}{σ:St}{H:Hp}{s:Shared}{a:Addr}{xs ys:List V}
theorem SqL.of {K:Frag}(h:H a=some (.lst xs)):SqL K H a xs:=.inl (.inl h)
theorem SqT.of {K:Frag}(h:H a=some (.tup xs)):SqT K H a xs:=.inl (.inl h)
theorem Inv.list (I:Inv X pins σ H s)(h:SqL X.K H a xs):∃ its:List Value,Vals xs its/\PlainL s.heap a its.toArray/\xs.length<=sizeLine:=by
 rcases h with h|⟨o,its,n,hk,hc,hd,hs,hz,r⟩
 .obtain ⟨z,its,n,r,e⟩:=h.ok I.hok;exact⟨its,r,⟨_,n,e,rfl,rfl,rfl⟩,z⟩
 .refine ⟨its.toList,r,⟨o,n,I.kIn a o hk,hc,hd,by simpa using hs⟩,?_⟩;have e:=r.length;simp only[Jer] at e;omega
theorem Inv.tuple (I:Inv X pins σ H s)(h:SqT X.K H a xs):∃ its:List Value,Vals xs its/\IsTup s.heap a its.toArray/\xs.length<=sizeLine:=by
 rcases h with h|⟨o,its,n,hk,hc,hs,hz,r⟩
 .obtain ⟨z,its,r,p⟩:=h.ok I.hok;exact⟨its,r,p,z⟩
 .refine ⟨its.toList,r,⟨o,I.kIn a o hk,hc,n,by simpa using hs⟩,?_⟩;have e:=r.length;simp only[Jer] at e;omega
theorem Inv.list_inj (I:Inv X pins σ H s)(h:SqL X.K H a xs)(h':SqL X.K H a ys):xs=ys:=by
 refine Zap (I.list h) λits r e925 _=>?_;obtain⟨o,n,e,_,_,d⟩:=e925;refine Zap (I.list h') λits' r' e926 _=>?_;obtain⟨o',n',e',_,_,d'⟩:=e926;rw[e] at e';cases e';rw[d] at d'
 injection d' with d1 _
 have:its=its':=by simpa using Jec Array.toList d1
 subst this;exact r.inj r'
theorem Inv.tuple_inj (I:Inv X pins σ H s)(h:SqT X.K H a xs)(h':SqT X.K H a ys):xs=ys:=by
 refine Zap (I.tuple h) λits r e927 _=>?_;obtain⟨o,e,_,n,d⟩:=e927;refine Zap (I.tuple h') λits' r' e928 _=>?_;obtain⟨o',e',_,n',d'⟩:=e928;rw[e] at e';cases e';rw[d] at d'
 injection d' with d1 _
 have:its=its':=by simpa using Jec Array.toList d1
 subst this;exact r.inj r'
end
abbrev Cx.wish (X:Cx)(E:Value->Shared->Prop):Cx:={ X with xe:=E }
abbrev Cx.nox (X:Cx):Cx:=X.wish λ_ _=>False
theorem Cx.Ok.wish {X:Cx}(ok:X.Ok)(E:Value->Shared->Prop):(X.wish E).Ok:=
 ⟨ok.mod,ok.kind,ok.glob,ok.blt,ok.above,ok.inj,ok.has,ok.cab,ok.hd,ok.frames,ok.stk,ok.exf,ok.bs,ok.bsz,ok.noex,ok.exfs,ok.funs,ok.frf,ok.top⟩
theorem Cx.Ok.unwish {X:Cx}{E:Value->Shared->Prop}(ok:(X.wish E).Ok):X.Ok:=
 ⟨ok.mod,ok.kind,ok.glob,ok.blt,ok.above,ok.inj,ok.has,ok.cab,ok.hd,ok.frames,ok.stk,ok.exf,ok.bs,ok.bsz,ok.noex,ok.exfs,ok.funs,ok.frf,ok.top⟩
section
variable {X:Cx}{pins:List (Addr×Obj)}{σ:St}{H:Hp}{s:Shared}{E:Value->Shared->Prop}
theorem Inv.wish (I:Inv X pins σ H s)(E:Value->Shared->Prop):Inv (X.wish E) pins σ H s:=⟨I.ok.wish E,I.os,I.bare,I.base,I.loc,I.cell,I.free,I.freeC,I.pin,I.hok,I.len⟩
theorem Inv.unwish (I:Inv (X.wish E) pins σ H s):Inv X pins σ H s:=⟨I.ok.unwish,I.os,I.bare,I.base,I.loc,I.cell,I.free,I.freeC,I.pin,I.hok,I.len⟩
theorem SP.unwish {D:Ends}{f:Flow}{s':Shared}(h:SP (X.wish E) pins D f s'):SP X pins D f s':=by
 cases f with
 | next=>obtain⟨σ',H',I,q⟩:=h;exact⟨σ',H',I.unwish,q⟩
 | brk=>obtain⟨σ',H',I,q⟩:=h;exact⟨σ',H',I.unwish,q⟩
 | cont=>obtain⟨σ',H',I,q⟩:=h;exact⟨σ',H',I.unwish,q⟩
 | ret u=>obtain⟨v,σ',H',I,r,q⟩:=h;exact⟨v,σ',H',I.unwish,r,q⟩
theorem PSs.nox {st:List Stmt}{t:TS}(h:PSs X.nox st t):PSs X st t:=λpins s σ H D I hw=>
 Jbg (h pins s σ H D (I.wish _) hw) (λ_ _ q=>q.unwish) λ_ _ z=>False.elim z
end
section
variable {X:Cx}{st:Stmt}{rest:List Stmt}{t u:TS}{e:Expr}{te:TE}{pos:Pos}
def tNext:TS:=λD σ H=>D.nx σ H
def Zqy (t u:TS):TS:=λD σ H=>t { D with nx:=u D } σ H
theorem Zan:PSs X [] tNext:=λ_ _ σ H _ I h=>Jdz ⟨σ,H,I,h⟩
theorem Zu9 (h1:PS X st t)(h2:PSs X rest u):PSs X (st::rest) (Zqy t u):=by
 intro pins s σ H D I h;refine wpAny_execs_cons (thn (h1 pins s σ H { D with nx:=u D } I h) λf s1 q=>?_);cases f with
 | next=>
  obtain⟨σ',H',I',q⟩:=q;exact h2 pins s1 σ' H' D I' q
 | ret v=>exact q
 | brk=>exact q
 | cont=>exact q
theorem Zam (h1:PS X st t):PSs X [st] t:=by
 intro pins s σ H D I h;refine wpAny_execs_cons (thn (h1 pins s σ H D I h) λf s1 q=>?_);cases f with
 | next=>exact Jdz q
 | ret v=>exact q
 | brk=>exact q
 | cont=>exact q
theorem Inv.quiet {pins:List (Addr×Obj)}{σ:St}{H:Hp}{s:Shared}(I:Inv X pins σ H s):interactive X.env=false:=by simp[interactive,I.ok.kind]
def tDrop (te:TE):TS:=λD σ H=>te σ H λ_ H1=>D.nx σ H1
theorem Zcf (he:PE X e te)(hs:swapsWith e none pos.line X.env=pure false:=by rfl):PS X (.Expr e pos) (tDrop te):=by
 intro pins s σ H D I h;exact wpAny_Expr_any (thn (he pins s σ H _ I h) λv s1 ⟨x,H1,I1,r1,q1⟩=>⟨σ,H1,I1,q1⟩) I.quiet hs
def tRet (te:TE):TS:=λD σ H=>te σ H D.rt
theorem ps_ret (he:PE X e te):PS X (.Return (some e) pos) (tRet te):=by
 intro pins s σ H D I h;exact wpAny_Return_some (thn (he pins s σ H _ I h) λv s1 ⟨x,H1,I1,r1,q1⟩=>⟨x,σ,H1,I1,r1,q1⟩)
def tRetN:TS:=λD _ H=>D.rt .non H
def tIfS (c:TT)(t u:TS):TS:=λD σ H=>c σ H λb H1=>if b=true then t D σ H1 else u D σ H1
theorem Za7 {c:Expr}{a b:List Stmt}{tc:TT}(hc:PT X c tc)(ha:PSs X a t)(hb:PSs X b u):PS X (.If c a b pos) (tIfS tc t u):=by
 intro pins s σ H D I h;refine wpAny_If (thn (hc pins s σ H _ I h) λd s1 ⟨H1,I1,q1⟩=>?_);cases d with
 | true=>exact ha pins s1 σ H1 D I1 q1
 | false=>exact hb pins s1 σ H1 D I1 q1
def tNever:TS:=λ_ _ _=>False
theorem Zbm:PS X st tNever:=λ_ _ _ _ _ _ h=>h.elim
end
abbrev TG:=V->St->Hp->(St->Hp->Prop)->Prop
abbrev TGs:=List V->St->Hp->(St->Hp->Prop)->Prop
def PG (X:Cx)(target:Expr)(t:TG):Prop:=
 ∀ (pins:List (Addr×Obj)) (s:Shared) (σ:St) (H:Hp) (v:V) (u:Value) (Q:St->Hp->Prop),Inv X pins σ H s->RelV v u->t v σ H Q->
  wpAny (model X.prog X.w) X.A (assign target X.env u) (λ_ s'=>∃ σ' H',Inv X pins σ' H' s'/\Q σ' H') X.xe s
def PGs (X:Cx)(ts:List Expr)(t:TGs):Prop:=
 ∀ (pins:List (Addr×Obj)) (s:Shared) (σ:St) (H:Hp) (vs:List V) (us:List Value) (Q:St->Hp->Prop),Inv X pins σ H s->Vals vs us->t vs σ H Q->
  wpAny (model X.prog X.w) X.A (assignInOrder ((assignEach ts X.env).map (·.2)) us) (λ_ s'=>∃ σ' H',Inv X pins σ' H' s'/\Q σ' H') X.xe s
abbrev TSet:=V->V->V->Hp->(Hp->Prop)->Prop
def PSet (X:Cx)(t:TSet):Prop:=
 ∀ (pins:List (Addr×Obj)) (s:Shared) (σ:St) (H:Hp) (o i v:V) (ov iv u:Value) (Q:Hp->Prop),Inv X pins σ H s->RelV o ov->RelV i iv->RelV v u->t o i v H Q->
  wpAny (model X.prog X.w) X.A (setItem ov iv u) (λ_ s'=>∃ H',Inv X pins σ H' s'/\Q H') X.xe s
abbrev TIp:=V->V->Hp->VK->Prop
def PIp (X:Cx)(op:Operator)(t:TIp):Prop:=
 ∀ (pins:List (Addr×Obj)) (s:Shared) (σ:St) (H:Hp) (x y:V) (v u:Value) (Q:VK),Inv X pins σ H s->RelV x v->RelV y u->t x y H Q->
  wpAny (model X.prog X.w) X.A (inplaceOp op v u) (EP X pins σ Q) X.xe s
section
variable {X:Cx}{pos:Pos}
def Zbd (i:Nat):TG:=λv σ H Q=>Q (σ.set i (some v)) H
theorem Zad {i:Nat}{x:Str}(hN:X.N.Nodup)(hi:X.N[i]?=some x)(hx:Loc X.env.scope x)(hf:X.fn x=true\/X.env.scope.names.lookup x=some .local:=by first|exact .inl rfl|exact .inr rfl|assumption):PG X (.Name x pos) (Zbd i):=by
 intro pins s σ H v u Q I r h;exact wpAny_assign_Name (Zdb I hN hi hx r (λs' I'=>⟨_,H,I',h⟩) hf)
def Zxp:TGs:=λvs σ H Q=>vs=[]/\Q σ H
def Zhv (t:TG)(u:TGs):TGs:=λvs σ H Q=>∃ v r,vs=v::r/\t v σ H λσ' H'=>u r σ' H' Q
theorem Za2:PGs X [] Zxp:=by
 intro pins s σ H vs us Q I r h;obtain⟨e,h⟩:=h;subst e;cases r;exact assignInOrder_nil ⟨σ,H,I,h⟩
theorem Zai {e:Expr}{es:List Expr}{t:TG}{u:TGs}(h1:PG X e t)(h2:PGs X es u)(hs:(assignEach (e::es) X.env).map (·.2)=assign e X.env::(assignEach es X.env).map (·.2):=by rfl):PGs X (e::es) (Zhv t u):=by
 intro pins s σ H vs us Q I r h;obtain⟨v,vr,e1,h⟩:=h;subst e1;cases r with
 | cons r rr=>
  rw[hs];refine Jcw (thn (h1 pins s σ H _ _ _ I r h) λ_ s1 ⟨σ1,H1,I1,q1⟩=>?_);exact h2 pins s1 σ1 H1 _ _ Q I1 rr q1
def Zwq (K:Frag)(n:Nat)(t:TGs):TG:=λv σ H Q=>∃ a xs,v=.ref a/\SqT K H a xs/\xs.length=n/\t xs σ H Q
theorem Zb8 {es:List Expr}{k:Nat}{t:TGs}{n:Nat}(hc:X.calm=true)(h:PGs X es t)(hn:(assignEach es X.env).length=n:=by rfl)(hst:(assignEach es X.env).findIdx? (·.1)=none:=by rfl):PG X (.Tuple es k pos) (Zwq X.K n t):=by
 intro pins s σ H v u Q I r hw;obtain⟨a,xs,e1,hq,hl,hw⟩:=hw;subst e1;cases r;obtain⟨its,rv,ht,hz⟩:=I.tuple hq;refine assign_Tuple_tuple (I.ok.hd hc) ht (by simp[hn,<- hl,rv.length]) hst λh' hx=>?_;have I1:Inv X pins σ H { s with heap:=h' }:=I.kept (t':=s.toks) λb o e=>hx b o (Ja1 (Jae e)) e;exact h pins _ σ H xs _ Q I1 (by simpa using rv) hw
def gSub (to ti:TE)(t:TSet):TG:=λv σ H Q=>to σ H λo H1=>ti σ H1 λi H2=>t o i v H2 λH3=>Q σ H3
theorem Zl8 {o i:Expr}{to ti:TE}{t:TSet}(ho:PE X o to)(hi:PE X i ti)(hs:PSet X t)(ha:∀ v,assign (.Subscript o i pos) X.env v=(do
   let ov <- holding [v] (eval o X.env)
   let iv <- holding [v,ov] (eval i X.env)
   standAt pos
   holding [v,ov,iv] (setItem ov iv v)
   release [v,ov,iv] []):=by intro _;rfl):PG X (.Subscript o i pos) (gSub to ti t):=by
 intro pins s σ H v u Q I r h;rw[ha];refine Jac (Jca (thn (ho pins s σ H _ I h) λov s1 ⟨x,H1,I1,r1,q1⟩=>?_));refine Jac (Jca (thn (hi pins s1 σ H1 _ I1 q1) λiv s2 ⟨y,H2,I2,r2,q2⟩=>?_));refine Jac (Jcd (Jac (Jca (thn (hs pins s2 σ H2 x y v ov iv u _ I2 r1 r2 r q2) λ_ s3 ⟨H3,I3,q3⟩=>?_))));exact wpAny_release ⟨σ,H3,I3,q3⟩
def tAsg (te:TE)(g:TG):TS:=λD σ H=>te σ H λx H1=>g x σ H1 D.nx
theorem Zcl {tg e:Expr}{te:TE}{g:TG}(he:PE X e te)(hg:PG X tg g)(hs:swapsWithSole [tg] e pos.line X.env=pure false:=by rfl)(hw:swappedStores [tg] e X.env=pure none:=by rfl)(h1:(assignEach [tg] X.env).map (·.2)=[assign tg X.env]:=by rfl):PS X (.Assign [tg] e pos) (tAsg te g):=by
 intro pins s σ H D I h;refine wpAny_Assign_stores (thn (he pins s σ H _ I h) λv s1 ⟨x,H1,I1,r1,q1⟩=>?_) hs hw;rw[h1];exact thn (hg pins s1 σ H1 x v _ I1 r1 q1) λ_ s2 q=>q
theorem Zal {i:Nat}{x:Str}{e:Expr}{te:TE}{pos':Pos}(hN:X.N.Nodup)(hi:X.N[i]?=some x)(hx:Loc X.env.scope x)(he:PE X e te)(hs:swapsWith e (some (.Name x pos')) pos.line X.env=pure false:=by rfl)(hf:X.fn x=true\/X.env.scope.names.lookup x=some .local:=by first|exact .inl rfl|exact .inr rfl|assumption):
  PS X (.Assign [.Name x pos'] e pos) (tAsg te (Zbd i)):=by
 intro pins s σ H D I h;refine wpAny_Assign_Name (thn (he pins s σ H _ I h) λv s1 ⟨y,H1,I1,r1,q1⟩=>?_) hs;exact Zdb I1 hN hi hx r1 (λs2 I2=>⟨_,H1,I2,q1⟩) hf
def tPar (i j:Nat)(ta:TA):TS:=λD σ H=>ta σ H λvs H1=>∃ v w,vs=[v,w]/\D.nx ((σ.set i (some v)).set j (some w)) H1
theorem Zj9 {i j:Nat}{x y:Str}{a b:Expr}{ta:TA}{px py pt:Pos}{kt k2 pt2}(hc:X.calm=true)(hN:X.N.Nodup)(hi:X.N[i]?=some x)(hj:X.N[j]?=some y)(hij:i≠j)(hx:X.env.scope.names.lookup x=some .local)(hy:X.env.scope.names.lookup y=some .local)(ha:PA X [a,b] ta)(hw:swappedStores [.Tuple [.Name x px,.Name y py] kt pt] (.Tuple [a,b] k2 pt2) X.env=pure (some [x,y]))(hs:swapsWithSole [.Tuple [.Name x px,.Name y py] kt pt] (.Tuple [a,b] k2 pt2) pos.line X.env=pure false:=by rfl):
  PS X (.Assign [.Tuple [.Name x px,.Name y py] kt pt] (.Tuple [a,b] k2 pt2) pos) (tPar i j ta):=by
 intro pins s σ H D I h;rw[exec_Assign_arm];refine Jac (Jcd ?_);rw[hs];refine Jac (Jal ?_);rw[if_neg ⇑0];refine Jac (Tuple_ (thn (ha _ pins s σ H _ I h) λus s1 ⟨vs,H1,I1,r1,q1⟩=>?_));obtain⟨v,w,e1,q1⟩:=q1;subst e1;obtain⟨u1,u2,rfl,rv,rw'⟩:∃ u1 u2,us=[u1,u2]/\RelV v u1/\RelV w u2:=by
  cases r1 with
  | cons p q=>
   cases q with
   | cons p' q'=>
    cases q';exact⟨_,_,rfl,p,p'⟩
 refine Jcb ?_ (by show 2<=sizeLine;decide);have I2:Inv X pins σ H1 { s1 with heap:=s1.heap.push { cls:=.type "tuple",data:=.seq [u1,u2].toArray } }:=I1.kept (t':=s1.toks) λb o e=>Jad _ e;rw[hw];refine Jac (Jal ?_);show wpAny (model X.prog X.w) X.A (do rule "assign.swapped-stores";let items <- unpackItems (.ref s1.heap.objs.size) 2 none;assignInOrder [λv=>bindName X.env y v,λv=>bindName X.env x v] items.reverse;pure Flow.next) _ _ _;refine Jac (Jfr (Jac (unpackItems_tuple (items:=#[u1,u2]) (I.ok.hd hc) (IsTup.new s1.heap _) λh' hx'=>?_)));have I3:=I2.kept (h':=h') (t':=s1.toks) λb o e=>hx' b o (Ja1 (Jae e)) e;show wpAny _ _ (assignInOrder [λv=>bindName X.env y v,λv=>bindName X.env x v] [u2,u1] >>= λ_=>pure Flow.next) _ _ _;refine Jac (Jcw (Jed (Zdb I3 hN hj (.inl hy) rw' (λs2 I4=>?_) (.inr hy))));refine Jcw (Jed (Zdb I4 hN hi (.inl hx) rv (λs3 I5=>assignInOrder_nil (Jal ?_)) (.inr hx)));rw[Jfm _ _ (Jcs hij)] at I5;exact⟨_,H1,I5,q1⟩
def tAug (i:Nat)(te:TE)(ti:TIp):TS:=λD σ H=>∃ x,σ[i]?=some (some x)/\te σ H λy H1=>ti x y H1 λz H2=>D.nx (σ.set i (some z)) H2
theorem ps_aug {i:Nat}{x:Str}{e:Expr}{te:TE}{op:Operator}{ti:TIp}{pos':Pos}(hN:X.N.Nodup)(hi:X.N[i]?=some x)(hx:Loc X.env.scope x)(he:PE X e te)(ho:PIp X op ti)(hf:X.fn x=true\/X.env.scope.names.lookup x=some .local:=by first|exact .inl rfl|exact .inr rfl|assumption):
  PS X (.AugAssign (.Name x pos') op e pos) (tAug i te ti):=by
 intro pins s σ H D I h;obtain⟨v,e1,h⟩:=h;obtain⟨m,hn,hl⟩:=I.loc;have vis:Vis X.env.scope x:=by rcases hx with k|k;exact .inl k;exact .inr (.inl k)
 obtain⟨u,r,l⟩:=hl i x v hi e1 vis;refine wpAny_AugAssign_Name ?_;have go:wpAny (model X.prog X.w) X.A (eval e X.env) (λw s₂=>wpAny (model X.prog X.w) X.A (inplaceOp op u w) (λr s₃=>wpAny (model X.prog X.w) X.A (storeName X.env x r) (λ_=>SP X pins D .next) X.xe s₃) X.xe s₂) X.xe s:=by
  refine thn (he pins s σ H _ I h) λw s1 ⟨y,H1,I1,r1,q1⟩=>?_;refine thn (ho pins s1 σ H1 v y u w _ I1 r r1 q1) λz s2 ⟨zv,H2,I2,r2,q2⟩=>?_;exact Zdb I2 hN hi hx r2 (λs3 I3=>⟨_,H2,I3,q2⟩) hf
 rcases l with ⟨hk,hm⟩|⟨hk,c,hc,hcell⟩
 .exact wpAny_loadName_local I.ok.kind hk hn hm go
 .rcases hk with hk|hk
  .exact wpAny_loadName_cell I.ok.kind hk hc hcell go
  .rcases hx with k|k
   .have:X.env.scope.names.lookup x=some .free:=hk;rw[k] at this;cases this
   .have:X.env.scope.names.lookup x=some .free:=hk;rw[k] at this;cases this
def tAugS (to ti te:TE)(tget:V->V->Hp->VK->Prop)(tip:TIp)(tset:TSet):TS:=λD σ H=>to σ H λo H1=>ti σ H1 λi H2=>tget o i H2 λx H3=>te σ H3 λy H4=>tip x y H4 λz H5=>tset o i z H5 λH6=>D.nx σ H6
def PGet (X:Cx)(t:V->V->Hp->VK->Prop):Prop:=
 ∀ (pins:List (Addr×Obj)) (s:Shared) (σ:St) (H:Hp) (o i:V) (ov iv:Value) (Q:VK),Inv X pins σ H s->RelV o ov->RelV i iv->t o i H Q->
  wpAny (model X.prog X.w) X.A (getItem ov iv) (EP X pins σ Q) X.xe s
theorem Zru {o i e:Expr}{to ti te:TE}{tget:V->V->Hp->VK->Prop}{tip:TIp}{tset:TSet}{op:Operator}{tpos:Pos}(ho:PE X o to)(hi:PE X i ti)(hg:PGet X tget)(he:PE X e te)(hp:PIp X op tip)(hs:PSet X tset)(ha:∀ ov iv new,augStore i ov iv new=(do holding [new,ov,iv] (setItem ov iv new);release [new,ov,iv] [];pure .next):=by intros;rfl):PS X (.AugAssign (.Subscript o i tpos) op e pos) (tAugS to ti te tget tip tset):=by
 intro pins s σ H D I h;refine wpAny_AugAssign_SubscriptAny (thn (ho pins s σ H _ I h) λov s1 ⟨x1,H1,I1,r1,q1⟩=>?_) ha;refine thn (hi pins s1 σ H1 _ I1 q1) λiv s2 ⟨x2,H2,I2,r2,q2⟩=>?_;refine thn (hg pins s2 σ H2 x1 x2 ov iv _ I2 r1 r2 q2) λold s3 ⟨x3,H3,I3,r3,q3⟩=>?_;refine thn (he pins s3 σ H3 _ I3 q3) λv s4 ⟨x4,H4,I4,r4,q4⟩=>?_;refine thn (hp pins s4 σ H4 x3 x4 old v _ I4 r3 r4 q4) λnew s5 ⟨x5,H5,I5,r5,q5⟩=>?_;exact thn (hs pins s5 σ H5 x1 x2 x5 ov iv new _ I5 r1 r2 r5 q5) λ_ s6 ⟨H6,I6,q6⟩=>⟨σ,H6,I6,q6⟩
def ipI (f:Int->Int->Int):TIp:=λx y H Q=>∃ i j,x=.int i/\y=.int j/\Q (.int (f i j)) H
theorem Ztc:PIp X .Add (ipI λi j=>i+j):=by
 intro pins s σ H x y v u Q I r1 r2 h;refine Za3 h λi j e1 e2 q=>?_;clear h;subst e1;subst e2;obtain⟨t,rfl⟩:=r1;obtain⟨t',rfl⟩:=r2;exact iadd_int ⟨.int _,H,I.tok _,⟨_,rfl⟩,q⟩
end
section
variable {X:Cx}{pos:Pos}
def tWhile (c:TT)(tb:TS):TS:=λD σ H=>∃ W:Nat->St->Hp->Prop,(∃ m,W m σ H)/\∀ m σ H,W m σ H->
 c σ H λb H1=>if b=true then ∃ N:St->Hp->Prop,(∀ σ' H',N σ' H'->∃ m',m'<m/\W m' σ' H')/\tb { D with nx:=N,ct:=N,bk:=D.nx } σ H1 else D.nx σ H1
theorem Zdx {c:Expr}{body:List Stmt}{tc:TT}{tb:TS}(hp:PassesOwn (model X.prog X.w) X.A X.env X.xe)(hc:PT X c tc)(hb:PSs X body tb):PS X (.While c body [] pos) (tWhile tc tb):=by
 intro pins s σ H D I h;refine Zah h λW e929 turn=>?_;clear h;obtain⟨m0,w0⟩:=e929;refine wpAny_While (codeAny_whileLoop (λn s'=>∃ σ' H',Inv X pins σ' H' s'/\W n σ' H') ?_ m0 ⟨σ,H,I,w0⟩);intro n s1 e91;refine Zbg e91 λσ1 H1 I1 w1=>?_;clear e91;refine Jc0 hp (thn (hc pins s1 σ1 H1 _ I1 (turn n σ1 H1 w1)) λb s2 ⟨H2,I2,q2⟩=>?_);cases b with
 | true=>
  obtain⟨N,hN,q2⟩:=q2;rw[if_pos rfl];refine Jc0 hp (thn (hb pins s2 σ1 H2 _ I2 q2) λf s3 q3=>?_);cases f with
  | next=>
   refine Zbg q3 λσ3 H3 I3 n3=>?_;clear q3;refine Zah (hN σ3 H3 n3) λm' hm w3=>?_;exact⟨m',hm,σ3,H3,I3,w3⟩
  | cont=>
   refine Zbg q3 λσ3 H3 I3 n3=>?_;clear q3;refine Zah (hN σ3 H3 n3) λm' hm w3=>?_;exact⟨m',hm,σ3,H3,I3,w3⟩
  | brk=>exact q3
  | ret v=>exact q3
 | false=>
  rw[if_neg Jav];exact Jdz ⟨σ1,H2,I2,q2⟩
end
structure It where
 go:Nat->Hp->Prop
 yld:Nat->Hp->V->Hp->Prop
 stop:Nat->Hp->Prop
def Zlp (X:Cx)(pins:List (Addr×Obj))(H:Hp)(b:Addr):Prop:=
 H b=none/\b≠X.env.locals/\b∉X.fs/\(b∈X.ex\/X.s₀.heap.objs.size<=b)/\(∀ x c,X.env.cells.lookup x=some c->c≠b)/\∀ p∈X.pn++pins,p.1≠b
theorem Inv.fpOk {X:Cx}{pins:List (Addr×Obj)}{σ:St}{H H':Hp}{s:Shared}{b:Addr}(I:Inv X pins σ H s)(hb:s.heap.objs.size<=b)(hn:H' b=none):Zlp X pins H' b:=by
 refine⟨hn,Jcx (Ja3 I.lt hb),I.nofs hb,.inr (Jbf I.sz hb),λx c e z=>?_,λp hp z=>?_⟩
 .obtain ⟨v,q⟩:=I.cell x c e;exact absurd (Ja3 q.lt (by rw[z];exact hb)) (Jbv _)
 .exact absurd (Ja3 (Jae (I.pin p hp).1) (by rw[z];exact hb)) (Jbv _)
structure Turn (P:Program)(w:World)(K:Frag)(tg:Expr)(J:It)(fp:List Addr)(it:Addr)(tn:Nat->Heap->Prop):Prop where
 mem:it∈fp
 obj:∀ i h,tn i h->∀ b∈fp,∃ o,h.get? b=some o/\∀ v,o.data≠.cell v
 keep:∀ i h h',tn i h->(∀ b∈fp,∀ o,h.get? b=some o->h'.get? b=some o)->tn i h'
 item:∀ (X:Cx),X.prog=P->X.w=w->X.K=K->X.calm=true->∀ (i:Nat) (pins:List (Addr×Obj)) (s:Shared) (σ:St) (H:Hp) (E:Value->Shared->Prop),Inv X pins σ H s->(∀ b∈fp,Zlp X pins H b)->tn i s.heap->J.go i H->
  wpAny (model P w) X.A (pyNext (.ref it)) (λr s1=>∃ u,r=some u /\
   wpAny (model P w) X.A (letOwnedTupleGo tg (.ref it) u) (λ_ s2=>∃ x H',Inv X pins σ H' s2/\RelV x u/\J.yld i H x H'/\tn (i+1) s2.heap/\∀ b∈fp,H' b=none) E s1) E s
 done:∀ (X:Cx),X.prog=P->X.w=w->X.K=K->X.calm=true->∀ (i:Nat) (pins:List (Addr×Obj)) (s:Shared) (σ:St) (H:Hp) (E:Value->Shared->Prop),Inv X pins σ H s->(∀ b∈fp,Zlp X pins H b)->tn i s.heap->J.stop i H->
  wpAny (model P w) X.A (pyNext (.ref it)) (λr s1=>r=none/\Inv X pins σ H s1) E s
 self:∀ (A:Around) (i:Nat) (s:Shared) (Q:Value->Shared->Prop) (E:Value->Shared->Prop),tn i s.heap->Q (.ref it) s->wpAny (model P w) A (pyIter (.ref it)) Q E s
abbrev TI:=St->Hp->(It->Hp->Prop)->Prop
def PIE (X:Cx)(pins:List (Addr×Obj))(σ:St)(tg:Expr)(R:It->Hp->Prop)(itv:Value)(s2:Shared):Prop:=
 ∃ (it:Addr) (fp:List Addr) (tn:Nat->Heap->Prop) (J:It) (H':Hp),itv=.ref it/\Inv X pins σ H' s2/\Turn X.prog X.w X.K tg J fp it tn/\tn 0 s2.heap/\(∀ b∈fp,Zlp X pins H' b)/\R J H'
def PI (X:Cx)(tg iter:Expr)(wi:TI):Prop:=
 ∀ (pins:List (Addr×Obj)) (s:Shared) (σ:St) (H:Hp) (R:It->Hp->Prop),Inv X pins σ H s->wi σ H R->
  wpAny (model X.prog X.w) X.A (eval iter X.env) (λv s1=>wpAny (model X.prog X.w) X.A (pyIter v) (PIE X pins σ tg R) X.xe s1) X.xe s
theorem Zwo {M:Model}{A:Around}{E:Value->Shared->Prop}{s:Shared}{tg:Expr}{it:Addr}{u:Value}{o:Obj}{n:String}{vs:Array Value}{Q:Unit->Shared->Prop}(ho:s.heap.get? it=some o)(hc:o.cls=.type n)(hd:o.data=.fields vs)(hn:["enumerate","zip","dict_itemiterator","dict_reverseitemiterator","odict_iterator","itertools.zip_longest","itertools.pairwise"].contains n=false)(hQ:Q () s):wpAny M A (letOwnedTupleGo tg (.ref it) u) Q E s:=by
 unfold letOwnedTupleGo;cases tg <;> first
  | exact Jal hQ
  | (cases u <;> first
    | exact Jal hQ
    | (refine Jac (wpAny_load ho ?_);rw[hc,hd];show wpAny M A (if (["enumerate","zip","dict_itemiterator","dict_reverseitemiterator","odict_iterator","itertools.zip_longest","itertools.pairwise"].contains n && vs[0]? == some (rawInt _))=true then _ else _) Q E s;rw[if_neg (by intro h;rw[hn,Jfa] at h;cases h)];exact Jal hQ))
def Itl (K:Frag)(a:Addr):It:=
 ⟨λi H=>∃ xs x,SqL K H a xs/\xs[i]?=some x,λi H x H'=>H'=H/\∀ xs,SqL K H a xs->xs[i]?=some x,λi H=>∃ xs,SqL K H a xs/\xs.length<=i⟩
def Itt (K:Frag)(a:Addr):It:=
 ⟨λi H=>∃ xs x,SqT K H a xs/\xs[i]?=some x,λi H x H'=>H'=H/\∀ xs,SqT K H a xs->xs[i]?=some x,λi H=>∃ xs,SqT K H a xs/\xs.length<=i⟩
def Itr (lo:Int)(n:Nat):It:=⟨λi _=>i<n,λi H x H'=>H'=H/\x=.int (lo+i),λi _=>n<=i⟩
theorem Zqw {P:Program}{w:World}{K:Frag}{tg:Expr}(a it:Addr):Turn P w K tg (Itl K a) [it] it (λi h=>h.IsListIter it a i) where
 mem:=by simp
 obj:=λi h st b hb=>by
  have e:b=it:=by simpa using hb
  subst e;refine Zap st λo e c d=>?_;clear st;exact⟨o,e,λv z=>by rw[d] at z;cases z⟩
 keep:=λi h h' st k=>st.at λo e=>k it (by simp) o e
 item:=by
  intro X hP hw hK hc i pins s σ H E I hf st hg;subst hP hw hK;refine Zbg hg λxs x hq hx=>?_;clear hg;refine Zap (I.list hq) λits rv p hz=>?_;refine Zah (rv.get hx) λu hu ru=>?_;refine Zgf (hf it (by simp)) λf0 f1 f2 f3 f4 f5=>?_;refine wpAny_pyNext_list_item st p.isList (x:=u) (by simpa using hu) λh' st' sb=>?_;have I1:Inv X pins σ H { s with heap:=h' }:=I.turned (t':=s.toks) (λb o hb e=>(sb.2 b hb).trans e) f0 f1 f3 f4 f5;refine Zap (id st') λo e c d=>?_;exact⟨u,rfl,Zwo (s:={ s with heap:=h' }) e c d ⇑0 ⟨x,H,I1,ru,⟨rfl,λys hy=>by rw[I.list_inj hy hq];exact hx⟩,st',λb hb=>(hf b hb).1⟩⟩
 done:=by
  intro X hP hw hK hc i pins s σ H E I hf st hg;subst hP hw hK;refine Zah hg λxs hq hx=>?_;clear hg;refine Zap (I.list hq) λits rv p hz=>?_;refine Zgf (hf it (by simp)) λf0 f1 f2 f3 f4 f5=>?_;have hl:=rv.length;exact wpAny_pyNext_list_end (I.ok.hd hc) st p.isList (by simp;omega) λh' eb=>⟨rfl,I.turned (t':=s.toks) (λb o hb e=>eb b o hb e) f0 f1 f3 f4 f5⟩
 self:=λ_ _ _ _ _ st h=>wpAny_pyIter_listiter st h
theorem Zpn {P:Program}{w:World}{K:Frag}{tg:Expr}(a it:Addr):Turn P w K tg (Itt K a) [it] it (λi h=>h.IsTupleIter it a i) where
 mem:=by simp
 obj:=λi h st b hb=>by
  have e:b=it:=by simpa using hb
  subst e;refine Zap st λo e c d=>?_;clear st;exact⟨o,e,λv z=>by rw[d] at z;cases z⟩
 keep:=λi h h' st k=>st.at λo e=>k it (by simp) o e
 item:=by
  intro X hP hw hK hc i pins s σ H E I hf st hg;subst hP hw hK;refine Zbg hg λxs x hq hx=>?_;clear hg;refine Zap (I.tuple hq) λits rv p hz=>?_;refine Zah (rv.get hx) λu hu ru=>?_;refine Zgf (hf it (by simp)) λf0 f1 f2 f3 f4 f5=>?_;refine wpAny_pyNext_tuple_item st (show s.heap.IsTuple a its.toArray from p) (x:=u) (by simpa using hu) λh' st' sb=>?_;have I1:Inv X pins σ H { s with heap:=h' }:=I.turned (t':=s.toks) (λb o hb e=>(sb.2 b hb).trans e) f0 f1 f3 f4 f5;refine Zap (id st') λo e c d=>?_;exact⟨u,rfl,Zwo (s:={ s with heap:=h' }) e c d ⇑0 ⟨x,H,I1,ru,⟨rfl,λys hy=>by rw[I.tuple_inj hy hq];exact hx⟩,st',λb hb=>(hf b hb).1⟩⟩
 done:=by
  intro X hP hw hK hc i pins s σ H E I hf st hg;subst hP hw hK;refine Zah hg λxs hq hx=>?_;clear hg;refine Zap (I.tuple hq) λits rv p hz=>?_;refine Zgf (hf it (by simp)) λf0 f1 f2 f3 f4 f5=>?_;have hl:=rv.length;exact wpAny_pyNext_tuple_end (I.ok.hd hc) st (show s.heap.IsTuple a its.toArray from p) (by simp;omega) λh' eb=>⟨rfl,I.turned (t':=s.toks) (λb o hb e=>eb b o hb e) f0 f1 f3 f4 f5⟩
 self:=λ_ _ _ _ _ st h=>wpAny_pyIter_tupleiter st h
theorem Zpo {P:Program}{w:World}{K:Frag}{tg:Expr}(it:Addr)(lo:Int)(n:Nat):Turn P w K tg (Itr lo n) [it] it (λi h=>IsRangeIter h it (lo+(i:Nat)*1) ((n:Int)-(i:Nat)) 1) where
 mem:=by simp
 obj:=λi h st b hb=>by
  have e:b=it:=by simpa using hb
  subst e;exact⟨_,st,λv z=>by
   have z':Data.fields _=Data.cell v:=z;cases z'⟩
 keep:=λi h h' st k=>k it (by simp) _ st
 item:=by
  intro X hP hw hK hc i pins s σ H E I hf st hg;subst hP hw hK;refine Zgf (hf it (by simp)) λf0 f1 f2 f3 f4 f5=>?_;have W:=Walks.range (prog:=X.prog) (w:=X.w) (I.ok.hd hc) it lo 1 n;refine W.item i s _ _ hg st λv h' tk hv st' kk=>?_;obtain⟨t,rfl⟩:=hv;have I1:Inv X pins σ H { s with heap:=h',toks:=tk }:=I.turned (λb o hb e=>kk b o (by simpa using hb) e) f0 f1 f3 f4 f5;refine⟨_,rfl,Zwo (s:={ s with heap:=h',toks:=tk }) (n:="range_iterator") st' rfl rfl ⇑0 ⟨.int (lo+i),H,I1,⟨t,?_⟩,⟨rfl,rfl⟩,st',λb hb=>(hf b hb).1⟩⟩;rw[Int.mul_one]
 done:=by
  intro X hP hw hK hc i pins s σ H E I hf st hg;subst hP hw hK;refine Zgf (hf it (by simp)) λf0 f1 f2 f3 f4 f5=>?_;exact wpAny_pyNext_range_end (I.ok.hd hc) st (by have:n<=i:=hg;omega) λh' eb=>⟨rfl,I.turned (t':=s.toks) (λb o hb e=>eb b o hb e) f0 f1 f3 f4 f5⟩
 self:=λ_ _ _ _ _ st h=>wpAny_pyIter_rangeiter st h
section
variable {X:Cx}{tg:Expr}
def Zth (K:Frag)(tl:TE):TI:=λσ H R=>tl σ H λx H1=>∃ a,x=.ref a/\(∃ xs,SqL K H1 a xs)/\R (Itl K a) H1
def iTup (K:Frag)(tl:TE):TI:=λσ H R=>tl σ H λx H1=>∃ a,x=.ref a/\(∃ xs,SqT K H1 a xs)/\R (Itt K a) H1
theorem Za1 {l:Expr}{tl:TE}(hl:PE X l tl):PI X tg l (Zth X.K tl):=by
 intro pins s σ H R I h;refine thn (hl pins s σ H _ I h) λv s1 ⟨x,H1,I1,r1,q1⟩=>?_;refine Zap q1 λa e e930 q=>?_;clear q1;obtain⟨xs,hq⟩:=e930;subst e;cases r1;refine Zap (I1.list hq) λits rv p hz=>?_;refine Jdh p.isList ?_;refine Zd1 s1.heap.objs.size [s1.heap.objs.size] _ _ H1 ⟨rfl,I1.kept (t':=s1.toks) λb o e=>Jad _ e,Zqw a _,⟨_,Ja2 _ rfl,rfl,rfl⟩,λb hb=>?_,q⟩;have e:b=s1.heap.objs.size:=by simpa using hb
 subst e;exact I1.fpOk (Jaf _) (I1.hok.fresh (Jaf _))
theorem Zxd {l:Expr}{tl:TE}(hl:PE X l tl):PI X tg l (iTup X.K tl):=by
 intro pins s σ H R I h;refine thn (hl pins s σ H _ I h) λv s1 ⟨x,H1,I1,r1,q1⟩=>?_;refine Zap q1 λa e e931 q=>?_;clear q1;obtain⟨xs,hq⟩:=e931;subst e;cases r1;refine Zap (I1.tuple hq) λits rv p hz=>?_;refine wpAny_pyIter_tuple (show s1.heap.IsTuple a its.toArray from p) ?_;refine Zd1 s1.heap.objs.size [s1.heap.objs.size] _ _ H1 ⟨rfl,I1.kept (t':=s1.toks) λb o e=>Jad _ e,Zpn a _,⟨_,Ja2 _ rfl,rfl,rfl⟩,λb hb=>?_,q⟩;have e:b=s1.heap.objs.size:=by simpa using hb
 subst e;exact I1.fpOk (Jaf _) (I1.hok.fresh (Jaf _))
theorem Zon {pins:List (Addr×Obj)}{σ:St}{H:Hp}{s:Shared}{R:It->Hp->Prop}{E:Value->Shared->Prop}{lo hi:Int}{t u v:Tok}{tk:Nat}(I:Inv X pins σ H s)(h1:-(2 ^ 62)<=lo)(h2:lo<2 ^ 62)(h3:-(2 ^ 62)<=hi)(h4:hi<2 ^ 62)(q:R (Itr lo (hi-lo).toNat) H):wpAny (model X.prog X.w) X.A (pyIter (.ref s.heap.objs.size)) (PIE X pins σ tg R) E { s with heap:=s.heap.push { cls:=.type "range",data:=.fields #[.int lo t,.int hi u,.int 1 v] },toks:=tk }:=by
 refine wpAny_pyIter_range (IsRange.new ..) (small_one h1 h2 h3 h4) ?_;have I1:Inv X pins σ H { s with heap:=s.heap.push { cls:=.type "range",data:=.fields #[.int lo t,.int hi u,.int 1 v] },toks:=tk }:=I.kept λb o e=>Jad _ e;refine Zd1 ((s.heap.push { cls:=.type "range",data:=.fields #[.int lo t,.int hi u,.int 1 v] }).objs.size) [(s.heap.push { cls:=.type "range",data:=.fields #[.int lo t,.int hi u,.int 1 v] }).objs.size] _ _ H ⟨rfl,I1.kept (t':=tk) λb o e=>Jad _ e,Zpo _ lo (hi-lo).toNat,?_,λb hb=>?_,q⟩
 .have e1:lo+((0:Nat):Int)*1=lo:=by simp
  have e2:(((hi-lo).toNat:Nat):Int)-((0:Nat):Int)=Builtin.Range.rangeSize lo hi 1:=by rw[rangeSize_one];split <;> omega
  show IsRangeIter _ _ (lo+((0:Nat):Int)*1) ((((hi-lo).toNat:Nat):Int)-((0:Nat):Int)) 1;rw[e1,e2];exact Ja2 _ rfl
 .have e:b=(s.heap.push { cls:=.type "range",data:=.fields #[.int lo t,.int hi u,.int 1 v] }).objs.size:=by simpa using hb
  subst e;exact I1.fpOk (Jaf _) (I1.hok.fresh (Jaf _))
def Zwk (ta:TA):TI:=λσ H R=>ta σ H λvs H1=>∃ j:Int,vs=[.int j]/\-(2 ^ 62)<=j/\j<2 ^ 62/\R (Itr 0 j.toNat) H1
def Zwj (ta:TA):TI:=λσ H R=>ta σ H λvs H1=>∃ i j:Int,vs=[.int i,.int j]/\(-(2 ^ 62)<=i/\i<2 ^ 62/\-(2 ^ 62)<=j/\j<2 ^ 62)/\R (Itr i (j-i).toNat) H1
theorem Zrz {a:Expr}{ta:TA}{p pos:Pos}(hg:Gl X "range")(hm:X.mg "range" = none)(ha:PA X [a] ta)(hs:starEach [a] X.env=[(false,eval a X.env)]:=by rfl):PI X tg (.Call (.Name "range" p) [a] [] pos) (Zwk ta):=by
 intro pins s σ H R I h;refine Call_ (Ze7 I hg hm boot_range (Jbh (thn (ha pos pins s σ H _ I h) λus s1 ⟨vs,H1,I1,r1,q1⟩=>?_) hs rfl));obtain⟨j,e,q1,q2,q⟩:=q1;subst e;cases r1 with
 | cons r rr=>
  cases rr;obtain⟨t,rfl⟩:=r;exact call_range_1 (Zon I1 ∅ ∅ q1 q2 (by simpa using q))
theorem Zry {a b:Expr}{ta:TA}{p pos:Pos}(hg:Gl X "range")(hm:X.mg "range" = none)(ha:PA X [a,b] ta)(hs:starEach [a,b] X.env=[(false,eval a X.env),(false,eval b X.env)]:=by rfl)(hs2:starEach [b] X.env=[(false,eval b X.env)]:=by rfl):
  PI X tg (.Call (.Name "range" p) [a,b] [] pos) (Zwj ta):=by
 intro pins s σ H R I h;refine Call_ (Ze7 I hg hm boot_range (Jbh (thn (ha pos pins s σ H _ I h) λus s1 ⟨vs,H1,I1,r1,q1⟩=>?_) (by rw[hs,hs2]) (by rw[hs2];rfl)));refine Za3 q1 λi j e e932 q=>?_;clear q1;obtain⟨q1,q2,q3,q4⟩:=e932;subst e;cases r1 with
 | cons r rr=>
  cases rr with
  | cons r' rr=>
   cases rr;obtain⟨t,rfl⟩:=r;obtain⟨t',rfl⟩:=r';exact call_range_2 (Zon I1 q1 q2 q3 q4 q)
def tFor (wi:TI)(g:TG)(tb:TS):TS:=λD σ H=>wi σ H λJ H1=>∃ W:Nat->Nat->St->Hp->Prop,(∃ m,W 0 m σ H1)/\∀ i m σ H,W i m σ H->
 (J.stop i H/\D.nx σ H)\/(J.go i H/\∃ N:St->Hp->Prop,(∀ σ' H',N σ' H'->∃ m',m'<m/\W (i+1) m' σ' H')/\∀ x H',J.yld i H x H'->g x σ H' λσ2 H2=>tb { D with nx:=N,ct:=N,bk:=D.nx } σ2 H2)
def Zg3 (fp:List Addr)(h:Heap):List (Addr×Obj):=fp.filterMap λb=>(h.get? b).map λo=>(b,o)
theorem Zbw {fp:List Addr}{h:Heap}{b:Addr}{o:Obj}(hb:b∈fp)(e:h.get? b=some o):(b,o)∈Zg3 fp h:=Jex.mpr ⟨b,hb,by rw[e];rfl⟩
theorem Zst {fp:List Addr}{h:Heap}{p:Addr×Obj}(hp:p∈Zg3 fp h):p.1∈fp/\h.get? p.1=some p.2:=by
 refine Zah (Jex.mp hp) λb hb e=>?_;cases q:h.get? b with
 | none=>rw[q] at e;cases e
 | some o=>
  rw[q] at e;have e':(b,o)=p:=Jbo e;subst e';exact⟨hb,q⟩
theorem Inv.pinned {pins:List (Addr×Obj)}{σ:St}{H:Hp}{s:Shared}{fp:List Addr}(I:Inv X pins σ H s)(hf:∀ b∈fp,Zlp X pins H b)(ho:∀ b∈fp,∃ o,s.heap.get? b=some o/\∀ v,o.data≠.cell v):Inv X (pins++Zg3 fp s.heap) σ H s:=
 I.pins_of λp hp=>(Jbp.mp hp).elim (λz=>I.pin p (Jap _ z)) λz=>by
  obtain⟨hb,e⟩:=Zst z;refine Zbx (hf p.1 hb) λf0 f1 f2 _=>?_;refine Zah (ho p.1 hb) λo e' d=>?_;rw[e] at e';cases e';exact⟨e,f0,f1,f2,d⟩
theorem Inv.unpinned {pins pl:List (Addr×Obj)}{σ:St}{H:Hp}{s:Shared}(I:Inv X (pins++pl) σ H s):Inv X pins σ H s:=I.pins_of λp hp=>I.pin p (Jap _ (Jcz _ hp))
theorem Zcy {iter:Expr}{body:List Stmt}{wi:TI}{g:TG}{tb:TS}{pos:Pos}(hp:PassesOwn (model X.prog X.w) X.A X.env X.xe)(hc:X.calm=true)(hi:PI X tg iter wi)(hg:PG X tg g)(hb:PSs X body tb)(hs:∀ x,foldedSetIterable iter X.env x=pure x:=by intro _;rfl):PS X (.For tg iter body [] pos) (tFor wi g tb):=by
 intro pins s σ H D I h;refine wpAny_For (thn (hi pins s σ H _ I h) λv s1 h1=>thn h1 λitv s2 h2=>?_) hs;refine Zcx h2 λit fp tn J H2 e I2 T e933=>?_;clear h2;refine Zar e933 λst2 f2 e934=>?_;clear e933;obtain⟨W,⟨m0,w0⟩,turn⟩:=e934;subst e
 -- what stays true of the iterator's objects through the loop
 have stat:∀ {H':Hp},(∀ b∈fp,H' b=none)->∀ b∈fp,Zlp X pins H' b:=λhn b hb=>⟨hn b hb,(f2 b hb).2⟩
 refine codeAny_forLoop_any (λn s'=>∃ i σ' H',Inv X pins σ' H' s'/\tn i s'.heap/\(∀ b∈fp,H' b=none)/\W i n σ' H') ?_ m0 ⟨0,σ,H2,I2,st2,λb hb=>(f2 b hb).1,w0⟩;intro n s3 e92;refine Zb3 e92 λi σ3 H3 I3 st3 fr3 w3=>?_;clear e92;rcases turn i n σ3 H3 w3 with ⟨stop,qn⟩|⟨go,N,hN,step⟩
 .refine Jc0 hp (thn (T.done X rfl rfl rfl hc i pins s3 σ3 H3 X.xe I3 (stat fr3) st3 stop) λr s4 ⟨hr,I4⟩=>?_);subst hr;exact Jdz ⟨σ3,H3,I4,qn⟩
 .refine Jc0 hp (thn (T.item X rfl rfl rfl hc i pins s3 σ3 H3 X.xe I3 (stat fr3) st3 go) λr s4 ⟨u,hr,h4⟩=>?_);subst hr;refine Jc0 hp (thn h4 λ_ s5 ⟨x,H5,I5,r5,y5,st5,fr5⟩=>?_);have I5':=I5.pinned (stat fr5) (T.obj _ _ st5);refine Jc0 hp (thn (hg _ s5 σ3 H5 x u _ I5' r5 (step x H5 y5)) λ_ s6 ⟨σ6,H6,I6,q6⟩=>?_);refine Jc0 hp (thn (hb _ s6 σ6 H6 _ I6 q6) λf s7 q7=>?_);have again:∀ {σ7:St} {H7:Hp},Inv X (pins++Zg3 fp s5.heap) σ7 H7 s7->N σ7 H7->∃ m,m<n/\∃ i σ' H',Inv X pins σ' H' s7/\tn i s7.heap/\(∀ b∈fp,H' b=none)/\W i m σ' H':=λ{σ7 H7} I7 n7=>by
   refine Zah (hN σ7 H7 n7) λm' hm w7=>?_;refine⟨m',hm,i+1,σ7,H7,I7.unpinned,T.keep _ _ _ st5 λb hb o e=>(I7.pin (b,o) (Jap _ (Jap _ (Zbw hb e)))).1,λb hb=>?_,w7⟩;refine Zah (T.obj _ _ st5 b hb) λo e d=>?_;exact (I7.pin (b,o) (Jap _ (Jap _ (Zbw hb e)))).2.1
  cases f with
  | next=>obtain⟨σ7,H7,I7,n7⟩:=q7;exact again I7 n7
  | cont=>obtain⟨σ7,H7,I7,n7⟩:=q7;exact again I7 n7
  | brk=>obtain⟨σ7,H7,I7,q7⟩:=q7;exact⟨σ7,H7,I7.unpinned,q7⟩
  | ret v=>obtain⟨x7,σ7,H7,I7,r7,q7⟩:=q7;exact⟨x7,σ7,H7,I7.unpinned,r7,q7⟩
end
theorem Zd0 {K:Frag}{a:Addr}{xs:List V}{g:TG}{tb:TS}{D:Ends}{σ:St}{H:Hp}(Pv:Nat->St->Hp->Prop)(h0:Pv 0 σ H)(hl:∀ i σ H,i<=xs.length->Pv i σ H->SqL K H a xs)(hs:∀ i x σ H,xs[i]?=some x->Pv i σ H->g x σ H λσ2 H2=>tb { D with nx:=Pv (i+1),ct:=Pv (i+1),bk:=D.nx } σ2 H2)(hd:∀ σ H,Pv xs.length σ H->D.nx σ H):
  ∃ W:Nat->Nat->St->Hp->Prop,(∃ m,W 0 m σ H)/\∀ i m σ H,W i m σ H->
   ((Itl K a).stop i H/\D.nx σ H)\/((Itl K a).go i H/\∃ N:St->Hp->Prop,(∀ σ' H',N σ' H'->∃ m',m'<m/\W (i+1) m' σ' H')/\∀ x H',(Itl K a).yld i H x H'->g x σ H' λσ2 H2=>tb { D with nx:=N,ct:=N,bk:=D.nx } σ2 H2):=by
 refine⟨λi m σ H=>m=xs.length-i/\i<=xs.length/\Pv i σ H,⟨xs.length,by simp,Jbm _,h0⟩,?_⟩;intro i m σ H e93;refine Zar e93 λe935 hi p=>?_;clear e93;obtain rfl:=e935;have q:=hl i σ H hi p;by_cases hlt:i<xs.length
 .refine .inr ⟨⟨xs,xs[i],q,by simp[hlt]⟩,Pv (i+1),λσ' H' p'=>⟨xs.length-(i+1),∅,rfl,hlt,p'⟩,λx H' y=>?_⟩;obtain⟨e,y⟩:=y;subst e;exact hs i x σ _ (y xs q) p
 .have e:i=xs.length:=∅
  subst e;exact .inl ⟨⟨xs,q,Jaf _⟩,hd σ H p⟩
theorem Zjn {lo:Int}{n:Nat}{g:TG}{tb:TS}{D:Ends}{σ:St}{H:Hp}(Pv:Nat->St->Hp->Prop)(h0:Pv 0 σ H)(hs:∀ i σ H,i<n->Pv i σ H->g (.int (lo+i)) σ H λσ2 H2=>tb { D with nx:=Pv (i+1),ct:=Pv (i+1),bk:=D.nx } σ2 H2)(hd:∀ σ H,Pv n σ H->D.nx σ H):
  ∃ W:Nat->Nat->St->Hp->Prop,(∃ m,W 0 m σ H)/\∀ i m σ H,W i m σ H->
   ((Itr lo n).stop i H/\D.nx σ H)\/((Itr lo n).go i H/\∃ N:St->Hp->Prop,(∀ σ' H',N σ' H'->∃ m',m'<m/\W (i+1) m' σ' H')/\∀ x H',(Itr lo n).yld i H x H'->g x σ H' λσ2 H2=>tb { D with nx:=N,ct:=N,bk:=D.nx } σ2 H2):=by
 refine⟨λi m σ H=>m=n-i/\i<=n/\Pv i σ H,⟨n,by simp,Jbm _,h0⟩,?_⟩;intro i m σ H e95;refine Zar e95 λe937 hi p=>?_;clear e95;obtain rfl:=e937;by_cases hlt:i<n
 .refine .inr ⟨hlt,Pv (i+1),λσ' H' p'=>⟨n-(i+1),∅,rfl,hlt,p'⟩,λx H' y=>?_⟩;obtain⟨e,y⟩:=y;subst e y;exact hs i σ _ hlt p
 .have e:i=n:=∅
  subst e;exact .inl ⟨Jaf _,hd σ H p⟩
abbrev R2:=V->V->Hp->VK->Prop
def OpR (X:Cx)(f:Value->Value->Sem Value)(r:R2):Prop:=
 ∀ (pins:List (Addr×Obj)) (s:Shared) (σ:St) (H:Hp) (x y:V) (v u:Value) (Q:VK),Inv X pins σ H s->RelV x v->RelV y u->r x y H Q->
  wpAny (model X.prog X.w) X.A (f v u) (EP X pins σ Q) X.xe s
def UnR (X:Cx)(f:Value->Sem Value)(r:V->Hp->VK->Prop):Prop:=
 ∀ (pins:List (Addr×Obj)) (s:Shared) (σ:St) (H:Hp) (x:V) (v:Value) (Q:VK),Inv X pins σ H s->RelV x v->r x H Q->
  wpAny (model X.prog X.w) X.A (f v) (EP X pins σ Q) X.xe s
def Zd9 (X:Cx)(f:Value)(r:List V->Hp->VK->Prop):Prop:=
 ∀ (pins:List (Addr×Obj)) (s:Shared) (σ:St) (H:Hp) (xs:List V) (us:List Value) (Q:VK),Inv X pins σ H s->Vals xs us->r xs H Q->
  wpAny (model X.prog X.w) X.A (call f us) (EP X pins σ Q) X.xe s
def TruR (X:Cx)(r:V->Hp->(Bool->Hp->Prop)->Prop):Prop:=
 ∀ (pins:List (Addr×Obj)) (s:Shared) (σ:St) (H:Hp) (x:V) (v:Value) (Q:Bool->Hp->Prop),Inv X pins σ H s->RelV x v->r x H Q->
  wpAny (model X.prog X.w) X.A (truthy v) (TP X pins σ Q) X.xe s
def tOp (r:R2)(ta tb:TE):TE:=λσ H Q=>ta σ H λx H1=>tb σ H1 λy H2=>r x y H2 Q
def tUn (r:V->Hp->VK->Prop)(ta:TE):TE:=λσ H Q=>ta σ H λx H1=>r x H1 Q
def rI (C:Int->Int->Prop)(g:Int->Int->V):R2:=λx y H Q=>∃ i j,x=.int i/\y=.int j/\C i j/\Q (g i j) H
def rI0 (g:Int->Int->V):R2:=λx y H Q=>∃ i j,x=.int i/\y=.int j/\Q (g i j) H
def rU (g:Int->V):V->Hp->VK->Prop:=λx H Q=>∃ i,x=.int i/\Q (g i) H
section
variable {X:Cx}{a b c:Expr}{ta tb tc:TE}{pos:Pos}
theorem binT (ha:PE X a ta)(hb:PE X b tb){pins:List (Addr×Obj)}{s:Shared}{σ:St}{H:Hp}{R:V->V->Hp->Prop}(I:Inv X pins σ H s)(h:ta σ H λx H1=>tb σ H1 λy H2=>R x y H2){Q:Value->Shared->Prop}{f:Value->Value->Sem Value}(hf:∀ v u s2 x y H2,Inv X pins σ H2 s2->RelV x v->RelV y u->R x y H2->wpAny (model X.prog X.w) X.A (f v u) Q X.xe s2):
  wpAny (model X.prog X.w) X.A (eval a X.env) (λv s₁=>wpAny (model X.prog X.w) X.A (eval b X.env) (λu s₂=>wpAny (model X.prog X.w) X.A (f v u) Q X.xe s₂) X.xe s₁) X.xe s:=by
 refine thn (ha pins s σ H _ I h) λv s1 ⟨x,H1,I1,r1,q1⟩=>?_;refine thn (hb pins s1 σ H1 _ I1 q1) λu s2 ⟨y,H2,I2,r2,q2⟩=>?_;exact hf v u s2 x y H2 I2 r1 r2 q2
theorem pe_op {op:Operator}{r:R2}(ho:OpR X (binaryOp op) r)(ha:PE X a ta)(hb:PE X b tb):PE X (.BinOp a op b pos) (tOp r ta tb):=by
 intro pins s σ H Q I h;exact wpAny_BinOp (binT ha hb I h λv u s2 x y H2 I2 rx ry q=>ho pins s2 σ H2 x y v u Q I2 rx ry q)
theorem Zr1 {op:UnaryOp}{r:V->Hp->VK->Prop}(ho:UnR X (unaryOp op) r)(ha:PE X a ta):PE X (.UnaryOp op a pos) (tUn r ta):=by
 intro pins s σ H Q I h;exact UnaryOp_ (thn (ha pins s σ H _ I h) λv s1 ⟨x,H1,I1,r1,q1⟩=>ho pins s1 σ H1 x v Q I1 r1 q1)
theorem opI {f:Value->Value->Sem Value}{C:Int->Int->Prop}{g:Int->Int->Int}(rule:∀ (i j:Int) (t u:Tok) (s:Shared) (Q:Value->Shared->Prop) (E:Value->Shared->Prop),C i j->Q (.int (g i j) s.toks) { s with toks:=s.toks+1 }->wpAny (model X.prog X.w) X.A (f (.int i t) (.int j u)) Q E s):
  OpR X f (rI C λi j=>.int (g i j)):=by
 intro pins s σ H x y v u Q I rx ry h;refine Zeh h λi j e938 e939 hc q=>?_;clear h;obtain rfl:=e938;obtain rfl:=e939;obtain⟨t,rfl⟩:=rx;obtain⟨t',rfl⟩:=ry;exact rule i j t t' s _ _ hc ⟨.int (g i j),H,I.tok _,⟨_,rfl⟩,q⟩
theorem opI0 {f:Value->Value->Sem Value}{g:Int->Int->Int}(rule:∀ (i j:Int) (t u:Tok) (s:Shared) (Q:Value->Shared->Prop) (E:Value->Shared->Prop),Q (.int (g i j) s.toks) { s with toks:=s.toks+1 }->wpAny (model X.prog X.w) X.A (f (.int i t) (.int j u)) Q E s):
  OpR X f (rI0 λi j=>.int (g i j)):=by
 intro pins s σ H x y v u Q I rx ry h;refine Za3 h λi j e940 e941 q=>?_;clear h;obtain rfl:=e940;obtain rfl:=e941;obtain⟨t,rfl⟩:=rx;obtain⟨t',rfl⟩:=ry;exact rule i j t t' s _ _ ⟨.int (g i j),H,I.tok _,⟨_,rfl⟩,q⟩
theorem opB0 {f:Value->Value->Sem Value}{g:Int->Int->Bool}(rule:∀ (i j:Int) (t u:Tok) (s:Shared) (Q:Value->Shared->Prop) (E:Value->Shared->Prop),Q (.bool (g i j)) s->wpAny (model X.prog X.w) X.A (f (.int i t) (.int j u)) Q E s):
  OpR X f (rI0 λi j=>.bl (g i j)):=by
 intro pins s σ H x y v u Q I rx ry h;refine Za3 h λi j e942 e943 q=>?_;clear h;obtain rfl:=e942;obtain rfl:=e943;obtain⟨t,rfl⟩:=rx;obtain⟨t',rfl⟩:=ry;exact rule i j t t' s _ _ ⟨.bl (g i j),H,I,rfl,q⟩
def CDiv (i j:Int):Prop:=0<j/\j<1073741824
def CPow (i j:Int):Prop:=0<=j/\j<=1000000/\i.natAbs<2 ^ 64
def CMul (i j:Int):Prop:=(-(2 ^ 64)<i/\i<2 ^ 64)\/(-(2 ^ 64)<j/\j<2 ^ 64)
theorem CMul.ok {i j:Int}(h:CMul i j):IntMulOk i j:=by
 rcases h with ⟨h1,h2⟩|⟨h1,h2⟩
 .exact .of_left (intBits_le_64 h1 h2)
 .exact .of_right (intBits_le_64 h1 h2)
theorem Zbo:OpR X (binaryOp .Add) (rI0 λi j=>.int (i+j)):=opI0 λ_ _ _ _ _ _ _ q=>add_int q
theorem Zdy:OpR X (binaryOp .Sub) (rI0 λi j=>.int (i-j)):=opI0 λ_ _ _ _ _ _ _ q=>sub_int q
theorem Zh9:OpR X (binaryOp .Mult) (rI CMul λi j=>.int (i*j)):=opI λ_ _ _ _ _ _ _ hc q=>mul_int q hc.ok
theorem Zk8:OpR X (binaryOp .FloorDiv) (rI CDiv λi j=>.int (i / j)):=opI λi j _ _ _ _ _ hc q=>by
 have h1:(0:Int)<j:=hc.1;have h2:j<1073741824:=hc.2;exact floordiv_int ∅ (by rw[Int.fdiv_eq_ediv_of_nonneg i ∅];exact q) (.inl (PyProof.noPylong_small ∅))
theorem Zc9:OpR X (binaryOp .Mod) (rI (λ_ j=>0<j) λi j=>.int (i % j)):=opI λi j _ _ _ _ _ hc q=>by
 have h1:(0:Int)<j:=hc;exact mod_int' ∅ (by rw[Int.fmod_eq_emod_of_nonneg i ∅];exact q)
theorem Zsb:OpR X (binaryOp .Pow) (rI CPow λi j=>.int (i ^ j.toNat)):=opI λ_ _ _ _ _ _ _ hc q=>pow_int_small hc.1 hc.2.1 hc.2.2 q
theorem unI {f:Value->Sem Value}{g:Int->Int}(rule:∀ (i:Int) (t:Tok) (s:Shared) (Q:Value->Shared->Prop) (E:Value->Shared->Prop),Q (.int (g i) s.toks) { s with toks:=s.toks+1 }->wpAny (model X.prog X.w) X.A (f (.int i t)) Q E s):
  UnR X f (rU λi=>.int (g i)):=by
 intro pins s σ H x v Q I rx h;refine Zah h λi e944 q=>?_;clear h;obtain rfl:=e944;obtain⟨t,rfl⟩:=rx;exact rule i t s _ _ ⟨.int (g i),H,I.tok _,⟨_,rfl⟩,q⟩
theorem Zlw:UnR X (unaryOp .USub) (rU λi=>.int (-i)):=unI λ_ _ _ _ _ q=>neg_int q
end
def scal:V->V->Bool
 | .non,.non=>true | .non,.int _=>true | .int _,.non=>true | .non,.bl _=>true | .bl _,.non=>true | .non,.str _=>true | .str _,.non=>true
 | .int _,.int _=>true | .bl _,.bl _=>true | .str _,.str _=>true | .byt _,.byt _=>true
 | .int _,.str _=>true | .str _,.int _=>true | .bl _,.str _=>true | .str _,.bl _=>true
 | _,_=>false
def rEq:R2:=λx y H Q=>scal x y=true/\Q (.bl (decide (x=y))) H
def rNe:R2:=λx y H Q=>scal x y=true/\Q (.bl (!decide (x=y))) H
theorem Ztp {i j:Int}:decide (V.int i=V.int j)=(i == j):=by
 rw[Jbw];simp
theorem Zxy {i j:Bool}:decide (V.bl i=V.bl j)=(i == j):=by
 rw[Jbw];simp
theorem Zto {i j:Str}:decide (V.str i=V.str j)=(i == j):=by
 rw[Jbw];simp
theorem Ztq {i j:Array UInt8}:decide (V.byt i=V.byt j)=(i.toList == j.toList):=by
 rw[Jbw];cases i;cases j;simp
section
variable {X:Cx}{a b c:Expr}{ta tb tc:TE}{pos:Pos}
theorem Zbl {pins:List (Addr×Obj)}{σ:St}{H:Hp}{s:Shared}{Q:VK}{k k':Bool}(I:Inv X pins σ H s)(q:Q (.bl k) H)(e:k=k'):EP X pins σ Q (.bool k') s:=by
 subst e;exact Zav (.bl k) H ⟨I,rfl,q⟩
theorem Zc5:OpR X (compareOp .Eq) rEq:=by
 intro pins s σ H x y v u Q I rx ry h;obtain⟨hs,q⟩:=h;cases x with
 | non=>
  cases rx;cases y with
  | non=>cases ry;exact PySem.EqNone.eq_none_none (Zbl I q (by simp))
  | bl j=>cases ry;exact PySem.EqNone.eq_none_bool (Zbl I q (by simp))
  | int j=>obtain⟨t',rfl⟩:=ry;exact PySem.EqNone.eq_none_int (Zbl I q (by simp))
  | str j=>obtain⟨t',rfl⟩:=ry;exact PySem.EqNone.eq_none_str (Zbl I q (by simp))
  | _=>exact absurd (show false=true from hs) Jav
 | bl i=>
  cases rx;cases y with
  | non=>cases ry;exact PySem.EqNone.eq_bool_none (Zbl I q (by simp))
  | bl j=>cases ry;exact eq_bool (Zbl I q Zxy)
  | str j=>obtain⟨t',rfl⟩:=ry;exact PySem.EqMixed.eq_bool_str (Zbl I q (by simp))
  | _=>exact absurd (show false=true from hs) Jav
 | int i=>
  obtain⟨t,rfl⟩:=rx;cases y with
  | non=>cases ry;exact PySem.EqNone.eq_int_none (Zbl I q (by simp))
  | int j=>obtain⟨t',rfl⟩:=ry;exact eq_int (Zbl I q Ztp)
  | str j=>obtain⟨t',rfl⟩:=ry;exact PySem.EqMixed.eq_int_str (Zbl I q (by simp))
  | _=>exact absurd (show false=true from hs) Jav
 | str i=>
  obtain⟨t,rfl⟩:=rx;cases y with
  | non=>cases ry;exact PySem.EqNone.eq_str_none (Zbl I q (by simp))
  | bl j=>cases ry;exact PySem.EqMixed.eq_str_bool (Zbl I q (by simp))
  | int j=>obtain⟨t',rfl⟩:=ry;exact PySem.EqMixed.eq_str_int (Zbl I q (by simp))
  | str j=>obtain⟨t',rfl⟩:=ry;exact eq_str (Zbl I q Zto)
  | _=>exact absurd (show false=true from hs) Jav
 | byt i=>
  obtain⟨t,rfl⟩:=rx;cases y with
  | byt j=>obtain⟨t',rfl⟩:=ry;exact PySem.W.eq_bytes (Zbl I q Ztq)
  | _=>exact absurd (show false=true from hs) Jav
 | _=>cases y <;> exact absurd (show false=true from hs) Jav
theorem Zhq:OpR X (compareOp .NotEq) rNe:=by
 intro pins s σ H x y v u Q I rx ry h;obtain⟨hs,q⟩:=h;cases x with
 | non=>
  cases rx;cases y with
  | non=>cases ry;exact PySem.EqNone.ne_none_none (Zbl I q (by simp))
  | bl j=>cases ry;exact PySem.EqNone.ne_none_bool (Zbl I q (by simp))
  | int j=>obtain⟨t',rfl⟩:=ry;exact PySem.EqNone.ne_none_int (Zbl I q (by simp))
  | str j=>obtain⟨t',rfl⟩:=ry;exact PySem.EqNone.ne_none_str (Zbl I q (by simp))
  | _=>exact absurd (show false=true from hs) Jav
 | bl i=>
  cases rx;cases y with
  | non=>cases ry;exact PySem.EqNone.ne_bool_none (Zbl I q (by simp))
  | bl j=>cases ry;exact ne_bool (Zbl I q (Jec not Zxy))
  | str j=>obtain⟨t',rfl⟩:=ry;exact PySem.EqMixed.ne_bool_str (Zbl I q (by simp))
  | _=>exact absurd (show false=true from hs) Jav
 | int i=>
  obtain⟨t,rfl⟩:=rx;cases y with
  | non=>cases ry;exact PySem.EqNone.ne_int_none (Zbl I q (by simp))
  | int j=>obtain⟨t',rfl⟩:=ry;exact ne_int (Zbl I q (Jec not Ztp))
  | str j=>obtain⟨t',rfl⟩:=ry;exact PySem.EqMixed.ne_int_str (Zbl I q (by simp))
  | _=>exact absurd (show false=true from hs) Jav
 | str i=>
  obtain⟨t,rfl⟩:=rx;cases y with
  | non=>cases ry;exact PySem.EqNone.ne_str_none (Zbl I q (by simp))
  | bl j=>cases ry;exact PySem.EqMixed.ne_str_bool (Zbl I q (by simp))
  | int j=>obtain⟨t',rfl⟩:=ry;exact PySem.EqMixed.ne_str_int (Zbl I q (by simp))
  | str j=>obtain⟨t',rfl⟩:=ry;exact ne_str (Zbl I q (Jec not Zto))
  | _=>exact absurd (show false=true from hs) Jav
 | byt i=>
  obtain⟨t,rfl⟩:=rx;cases y with
  | byt j=>obtain⟨t',rfl⟩:=ry;exact PySem.W.ne_bytes (Zbl I q (Jec not Ztq))
  | _=>exact absurd (show false=true from hs) Jav
 | _=>cases y <;> exact absurd (show false=true from hs) Jav
theorem Zjg:OpR X (compareOp .Lt) (rI0 λi j=>.bl (decide (i<j))):=opB0 λ_ _ _ _ _ _ _ q=>lt_int q
theorem Zpy:OpR X (compareOp .LtE) (rI0 λi j=>.bl (decide (i<=j))):=opB0 λ_ _ _ _ _ _ _ q=>le_int q
theorem Zg4:OpR X (compareOp .Gt) (rI0 λi j=>.bl (decide (j<i))):=opB0 λ_ _ _ _ _ _ _ q=>gt_int q
theorem op_ge:OpR X (compareOp .GtE) (rI0 λi j=>.bl (decide (j<=i))):=opB0 λ_ _ _ _ _ _ _ q=>ge_int q
theorem op_notN:OpR X (compareOp .IsNot) (λx y H Q=>y=.non/\Q (.bl (!decide (x=.non))) H):=by
 intro pins s σ H x y v u Q I rx ry h;obtain⟨rfl,q⟩:=h;cases ry;refine isnot_none_gen (Zbl I q ?_);cases x <;> first
  | (cases rx;rfl)
  | (obtain⟨t,rfl⟩:=rx;rfl)
theorem Zao (b:Expr){op:CmpOp}(h:op≠.In:=by decide)(h2:op≠.NotIn:=by decide):behindInMarks op b=false:=by
 have e1:(op == CmpOp.In)=false:=by cases op <;> first|rfl|exact absurd rfl h
 have e2:(op == CmpOp.NotIn)=false:=by cases op <;> first|rfl|exact absurd rfl h2
 cases b <;> simp[behindInMarks,e1,e2]
theorem Zd6 {op:CmpOp}{r:R2}(ho:OpR X (compareOp op) r)(ha:PE X a ta)(hb:PE X b tb)(hm:behindInMarks op b=false):PE X (.Compare a [op] [b] pos) (tOp r ta tb):=by
 intro pins s σ H Q I h;exact wpAny_Compare1 (binT ha hb I h λv u s2 x y H2 I2 rx ry q=>ho pins s2 σ H2 x y v u Q I2 rx ry q) hm
def Zpq (t:TE):TT:=λσ H Q=>t σ H λx H'=>∃ k,x=.bl k/\Q k H'
theorem Za5 {op:CmpOp}{r:R2}(ho:OpR X (compareOp op) r)(ha:PE X a ta)(hb:PE X b tb)(hm:behindInMarks op b=false):PT X (.Compare a [op] [b] pos) (Zpq (tOp r ta tb)):=by
 intro pins s σ H Q I h;refine Jef (thn (ha pins s σ H _ I h) λv s1 ⟨x,H1,I1,r1,q1⟩=>thn (hb pins s1 σ H1 _ I1 q1) λu s2 ⟨y,H2,I2,r2,q2⟩=>
  thn (ho pins s2 σ H2 x y v u _ I2 r1 r2 q2) λc s3 ⟨z,H3,I3,r3,k,e,q3⟩=>?_) hm
 subst e;cases r3;exact Jb0 ⟨H3,I3,q3⟩
def Zoe (r r':R2)(ta tb tc:TE):TE:=λσ H Q=>ta σ H λx H1=>tb σ H1 λy H2=>r x y H2 λz H3=>∃ k,z=.bl k /\
 (if k=true then tc σ H3 λw' H4=>r' y w' H4 Q else Q (.bl false) H3)
theorem Zos {op op':CmpOp}{r r':R2}(ho:OpR X (compareOp op) r)(ho':OpR X (compareOp op') r')(ha:PE X a ta)(hb:PE X b tb)(hc:PE X c tc)(hm:lastMarks [op,op'] [b,c]=false:=by with_unfolding_all rfl):PE X (.Compare a [op,op'] [b,c] pos) (Zoe r r' ta tb tc):=by
 intro pins s σ H Q I h;refine Compare_chain (thn (ha pins s σ H _ I h) λv s1 ⟨x,H1,I1,r1,q1⟩=>chain_link (thn (hb pins s1 σ H1 _ I1 q1) λu s2 ⟨y,H2,I2,r2,q2⟩=>
  thn (ho pins s2 σ H2 x y v u _ I2 r1 r2 q2) λd s3 ⟨z,H3,I3,r3,k,e,q3⟩=>?_)) hm
 subst e;cases r3;refine Jb0 ?_;cases k with
 | false=>exact ite_ff ⟨.bl false,H3,I3,rfl,q3⟩
 | true=>exact ite_tt (chain_last (thn (hc pins s3 σ H3 _ I3 q3) λw' s4 ⟨z',H4,I4,r4,q4⟩=>ho' pins s4 σ H4 y z' u w' Q I4 r2 r4 q4))
theorem Zop {op op':CmpOp}{r r':R2}(ho:OpR X (compareOp op) r)(ho':OpR X (compareOp op') r')(ha:PE X a ta)(hb:PE X b tb)(hc:PE X c tc)(hm:lastMarks [op,op'] [b,c]=false:=by with_unfolding_all rfl):PT X (.Compare a [op,op'] [b,c] pos) (Zpq (Zoe r r' ta tb tc)):=by
 intro pins s σ H Q I h;refine isTrue_chain (thn (ha pins s σ H _ I h) λv s1 ⟨x,H1,I1,r1,q1⟩=>test_link (thn (hb pins s1 σ H1 _ I1 q1) λu s2 ⟨y,H2,I2,r2,q2⟩=>
  thn (ho pins s2 σ H2 x y v u _ I2 r1 r2 q2) λd s3 ⟨z,H3,I3,r3,k,e,q3⟩=>?_)) hm
 subst e;cases r3;refine Jb0 ?_;cases k with
 | false=>
  refine Zah q3 λk' e' q'=>?_;clear q3;cases e';exact ite_ff ⟨H3,I3,q'⟩
 | true=>
  refine ite_tt (test_last (thn (hc pins s3 σ H3 _ I3 q3) λw' s4 ⟨z',H4,I4,r4,q4⟩=>thn (ho' pins s4 σ H4 y z' u w' _ I4 r2 r4 q4) λd' s5 ⟨z2,H5,I5,r5,k2,e2,q5⟩=>?_));subst e2;cases r5;exact Jb0 ⟨H5,I5,q5⟩
def TruV (K:Frag)(x:V)(H:Hp)(k:Bool):Prop:=
 match x with
 | .non=>k=false
 | .bl b=>k=b
 | .int i=>k=(i != 0)
 | .str y=>y.length<=sizeLine/\k=((y.length:Int) != 0)
 | .byt y=>y.size<=sizeLine/\k=((y.size:Int) != 0)
 | .ref p=>(∃ xs,SqL K H p xs/\k=!xs.isEmpty)\/(∃ xs,SqT K H p xs/\k=!xs.isEmpty)\/∃ kvs,H p=some (.dK kvs)/\k=!kvs.isEmpty
 | _=>False
theorem Zp6 {κ:Type}{kvs:List (κ×V)}{vs:List (κ×Value)}(r:KV kvs vs):(!vs.isEmpty)=!kvs.isEmpty:=by
 cases r <;> rfl
theorem Zkf {xs:List V}{its:List Value}(r:Vals xs its):(!its.toArray.isEmpty)=!xs.isEmpty:=by
 cases r <;> simp
theorem Zkd:(sizeLine:Nat)<2 ^ 63:=by rw[sizeLine_eq];decide
theorem tru_ok:TruR X (λx H Q=>∃ k,TruV X.K x H k/\Q k H):=by
 intro pins s σ H x v Q I rx h;refine Zah h λk e q=>?_;clear h;have hl:=Zkd;have hs:sizeLine=16777216:=sizeLine_eq;cases x with
 | non=>
  cases rx;have e':k=false:=e;subst e';exact truthy_none ⟨H,I,q⟩
 | bl b=>
  cases rx;have e':k=b:=e;subst e';exact Jb0 ⟨H,I,q⟩
 | int i=>
  obtain⟨t,rfl⟩:=rx;have e':k=(i != 0):=e;subst e';exact PySem.P.truthy_int ⟨H,I,q⟩
 | str y=>
  obtain⟨t,rfl⟩:=rx;obtain⟨hy,e'⟩:y.length<=sizeLine/\k=((y.length:Int) != 0):=e;subst e';exact PySem.P.truthy_str ∅ ⟨H,I.tok _,q⟩
 | byt y=>
  obtain⟨t,rfl⟩:=rx;obtain⟨hy,e'⟩:y.size<=sizeLine/\k=((y.size:Int) != 0):=e;subst e';exact PySem.W.truthy_bytes ∅ ⟨H,I.tok _,q⟩
 | ref p=>
  cases rx;have e':(∃ xs,SqL X.K H p xs/\k=!xs.isEmpty)\/(∃ xs,SqT X.K H p xs/\k=!xs.isEmpty)\/∃ kvs,H p=some (.dK kvs)/\k=!kvs.isEmpty:=e;rcases e' with ⟨xs,hx,e'⟩|⟨xs,hx,e'⟩|⟨kvs,hx,e'⟩
  .subst e';refine Zap (I.list hx) λits r pl hz=>?_;have hlen:=r.length;exact wpAny_truthy_list pl.isList (by simp only[Jaj];omega) ⟨H,I.tok _,by rw[Zkf r];exact q⟩
  .subst e';refine Zap (I.tuple hx) λits r pl hz=>?_;have hlen:=r.length;exact truthy_tuple pl (by simp only[Jaj];omega) ⟨H,I.tok _,by rw[Zkf r];exact q⟩
  .subst e';obtain⟨hz,hS,vs,r,m⟩:kvs.length<=sizeLine/\(p == sysModules)=false/\∃ vs,KV kvs vs/\s.heap.DictOf (Zch X.prog X.w) p vs:=I.hok p _ hx;have hlen:kvs.length=vs.length:=Jfl r;exact wpAny_truthy_dict hS m ∅ ⟨H,I.tok _,by rw[Zp6 r];exact q⟩
 | _=>exact (show False from e).elim
theorem Zoo (ha:PE X a ta)(he:∀ whole,isTrue a X.env whole=(do let v <- whole;standAt a.pos;holding [v] (truthy v))):
  PT X a (λσ H Q=>ta σ H λx H'=>∃ k,TruV X.K x H' k/\Q k H'):=by
 intro pins s σ H Q I h;exact isTrue_plain (thn (ha pins s σ H _ I h) λv s1 ⟨x,H1,I1,r1,q1⟩=>tru_ok pins s1 σ H1 x v Q I1 r1 q1) (he _)
theorem Zkm {x:V}{us:List Value}(r:Vals [x] us):∃ u,us=[u]/\RelV x u:=by
 cases r with
 | cons r1 r2=>cases r2;exact⟨_,rfl,r1⟩
theorem Zuo {x y:V}{us:List Value}(r:Vals [x,y] us):∃ u w',us=[u,w']/\RelV x u/\RelV y w':=by
 cases r with
 | cons r1 r2=>
  cases r2 with
  | cons r3 r4=>cases r4;exact⟨_,_,rfl,r1,r3⟩
theorem Zll:Zd9 X (.builtin "abs") (λxs H Q=>∃ i,xs=[.int i]/\Q (.int (if i<0 then -i else i)) H):=by
 intro pins s σ H xs us Q I r h;refine Zah h λi e968 q=>?_;clear h;obtain rfl:=e968;refine Zah (Zkm r) λu e969 e970=>?_;obtain rfl:=e969;obtain⟨t,rfl⟩:=e970;exact call_abs_int λu tk=>⟨.int (if i<0 then -i else i),H,I.tok _,⟨_,rfl⟩,q⟩
theorem Zt9 (hc:X.calm=true):Zd9 X (.builtin "min") (λxs H Q=>∃ i j,xs=[.int i,.int j]/\Q (.int (if j<i then j else i)) H):=by
 intro pins s σ H xs us Q I r h;refine Zbg h λi j e975 q=>?_;clear h;obtain rfl:=e975;refine Za3 (Zuo r) λu w' e976 e977 e978=>?_;obtain rfl:=e976;obtain⟨t,rfl⟩:=e977;obtain⟨t',rfl⟩:=e978;refine min_two_ints (I.ok.hd hc) λh' tk k=>⟨_,H,I.kept k,?_,q⟩
 by_cases hj:j<i
 .rw [if_pos hj,if_pos hj];exact⟨_,rfl⟩
 .rw [if_neg hj,if_neg hj];exact⟨_,rfl⟩
end
structure ObjM (h:Heap)(x dx C:Addr)(mA:Str->Option Value):Prop where
 obj:h.get? x=some (PySem.W.instObj C dx)
 ns:h.Ns1 dx mA
 ne:dx≠x
theorem Zs1 {h:Heap}{dx:Addr}{mA:Str->Option Value}(n:h.Ns1 dx mA):∃ od,h.get? dx=some od/\∀ name,PySem.W.lookIn name od=some (mA name):=by
 refine Zb3 n λo es ep ho hd hk e9101=>?_;clear n;obtain⟨_,hm⟩:=e9101;refine⟨o,ho,λname=>?_⟩;have e:=hm name;unfold nsFind findBy at e;rw[<- Array.find?_toList] at e;unfold PySem.W.lookIn;rw[hd];dsimp only;split
 .rename_i y q
  rw[q] at e;exact Jec some e
 .rename_i q
  rw[q] at e;have a:es.toList.any (·.refKey)=false:=by
   rw[List.any_eq_false];intro y hy;refine Zpl (hk y (Array.mem_toList_iff.mp hy)) λz t hkey=>?_;simp[DictEntry.refKey,hkey]
  have a':¬ es.toList.any (·.refKey)=true:=by rw[a];exact Jav
  rw[if_neg a'];exact Jec some e
theorem ObjM.look {h:Heap}{x dx C:Addr}{mA:Str->Option Value}(I:ObjM h x dx C mA):∃ od,PySem.W.InstAt h x (PySem.W.instObj C dx) C (some od)/\∀ name,PySem.W.lookIn name od=some (mA name):=
 let ⟨od,ho,hl⟩:=Zs1 I.ns
 ⟨od,⟨I.obj,rfl,rfl,ho⟩,hl⟩
section
variable {prog:Program}{w:World}{A:Around}{E:Value->Shared->Prop}{s:Shared}{K:Frag}{x dx C f:Addr}{mA:Str->Option Value}{name:Str}{v:Value}
theorem get_map {expr:Bool}{Q:Value->Shared->Prop}(X:K.In s.heap)(I:ObjM s.heap x dx C mA)(hg:PySem.W.plainGet K C name=true)(hh:PySem.W.hasDictIn K C=true)(ha:PySem.W.findIn K (.ref C) name=some none)(hv:mA name=some v)(hv':PySem.W.handedIn v=true)(h:Q v { s with toks:=s.toks+1 }):
  wpAny (model prog w) A (getAttr (.ref x) name expr) Q E s:=by
 refine Zah I.look λod J hl=>?_;exact PySem.W.get_value X J (Jes hg).1 (PySem.W.findObj_own hh ha rfl (by rw[hl,hv])) hv' h
theorem Zwp {pl:Sem Bool}{Q:Value×List Value->Shared->Prop}(X:K.In s.heap)(I:ObjM s.heap x dx C mA)(hg:PySem.W.plainGet K C name=true)(hf:PySem.W.findIn K (.ref C) name=some (some (.ref f)))(ht:PySem.W.isFn K (.ref f)=true)(hv:mA name=none)(h:Q (.ref f,[.ref x]) s):
  wpAny (model prog w) A (getMethod (.ref x) name pl) Q E s:=by
 refine Zah I.look λod J hl=>?_;exact PySem.W.method_fn X J (Jes hg).1 (Jes hg).2 hf (Jbt.mp ht) (by show (PySem.W.lookIn name od).map (·.isSome)=some false;rw[hl,hv];rfl) h
theorem Zis {ns:List Str}{Q:Unit->Shared->Prop}(X:K.In s.heap)(I:ObjM s.heap x dx C mA)(hs:PySem.W.findIn K (.ref C) "__setattr__" = some (some (.builtin "object.__setattr__")))(hp:PySem.W.plainOver K C=true)(ht:PySem.W.takerIn K C name=some none)(hh:PySem.W.hasDictIn K C=true)(hw:PySem.Within mA ns)(hsz:ns.length<=sizeLine)(h:∀ h',ObjM h' x dx C (λy=>if y=name then some v else mA y)->Heap.SameBut dx s.heap h'->Q () { s with heap:=h',toks:=s.toks+2 }):
  wpAny (model prog w) A (setAttr (.ref x) name v) Q E s:=by
 refine Zah I.look λod J hl=>?_;refine PySem.W.set_plain X J hs (PySem.W.osa_open (s:={ s with toks:=s.toks+1 }) (r:=none) X J hp ht λb=>?_);refine Zah (PySem.W.any_some hh) λcd hc hd'=>?_;have hx:s.heap.get? x=some ⟨.ref C,some dx,.plain,#[]⟩:=I.obj;refine Jac (Jal (Jac (Jac (wpAny_loadPart hx (Jac (PySem.W.Looks.here (s:={ s with toks:=s.toks+1 }) (PySem.W.looks_clsIn X hc) ?_))))));rw[hd'];refine Jal (a:=some dx) (Jac (Jal (Jac ?_)));refine wpAny_nsSet1 (s:={ s with toks:=s.toks+1 }) I.ns λh' hn2 hs2=>?_;refine Zim (hn2.count (PySem.Within.cons name v hw)) λoD esD epD hoD hdD hcD=>?_;refine Jac (wpAny_lookBehind hoD (by rw[hdD];exact pastItsLine_dict (Jbf hcD (by rw[Jbq];omega))) ?_);exact Jal (h _ ⟨(hs2.2 _ (Jcs I.ne)).trans I.obj,hn2,I.ne⟩ hs2)
theorem Zv6 {R:Result->Shared->Prop}{vs:List Value}{kw:List (Str×Value)}(X:K.In s.heap)(hm:PySem.W.makesIn K C=true)(hi:PySem.W.findIn K (.ref C) "__init__" = some (some (.ref f)))(hf:PySem.W.typeIn K (.ref f)=some (.type "function"))(h:codeAny (model prog w) (A.under (.builtin "type.__call__" ⟨.ref C::vs,kw⟩)) (.call (.ref f) ⟨.ref (s.heap.objs.size+1)::vs,kw⟩) (PySem.W.InitBack (s.heap.objs.size+1) R)
   { s with heap:=(s.heap.push PySem.W.emptyDict).push (PySem.W.instObj C s.heap.objs.size) }):
  codeAny (model prog w) A (.call (.ref C) ⟨vs,kw⟩) R s:=by
 obtain⟨hh,g,d,t,os⟩:=s;exact PySem.W.make_core (PySem.W.makes_of X hm) (PySem.W.looks_findIn X hi) (λself=>PySem.W.bind_fn X self hf) (.inl rfl) h
end
def Zcu (f:Str)(v:V):List (Str×V)->List (Str×V)
 | []=>[(f,v)]
 | (g,x)::r=>if g=f then (g,v)::r else (g,x)::Zcu f v r
theorem Zau (f g:Str)(v:V):∀ fs:List (Str×V),(Zcu f v fs).lookup g=if g=f then some v else fs.lookup g
 | []=>by
  show List.lookup g [(f,v)]=_;by_cases h:g=f
  .have hb:(g == f)=true:=Jbt.mpr h;simp only[List.lookup,hb,if_pos h]
  .have hb:(g == f)=false:=Jc7.mpr h;simp only[List.lookup,hb,if_neg h]
 | (k,x)::r=>by
  have ih:=Zau f g v r;rw[show Zcu f v ((k,x)::r)=(if k=f then (k,v)::r else (k,x)::Zcu f v r) from rfl];by_cases hk:k=f
  .rw [if_pos hk];by_cases h:g=k
   .have hb:(g == k)=true:=Jbt.mpr h;simp only[List.lookup,hb,if_pos (h.trans hk)]
   .have hb:(g == k)=false:=Jc7.mpr h;simp only[List.lookup,hb,if_neg (λe:g=f=>h (e.trans hk.symm))]
  .rw [if_neg hk];by_cases h:g=k
   .have hb:(g == k)=true:=Jbt.mpr h;simp only[List.lookup,hb,if_neg (λe:g=f=>hk (h.symm.trans e))]
   .have hb:(g == k)=false:=Jc7.mpr h;simp only[List.lookup,hb];exact ih
theorem Zjk (f:Str)(v:V):∀ fs:List (Str×V),f∈(Zcu f v fs).map (·.1)/\∀ g,g∈fs.map (·.1)->g∈(Zcu f v fs).map (·.1)
 | []=>⟨by simp[Zcu],λg h=>by simp at h⟩
 | (k,x)::r=>by
  obtain⟨i1,i2⟩:=Zjk f v r;rw[show Zcu f v ((k,x)::r)=(if k=f then (k,v)::r else (k,x)::Zcu f v r) from rfl];by_cases hk:k=f
  .rw [if_pos hk];subst hk;exact⟨by simp,λg h=>by simpa using h⟩
  .rw [if_neg hk];refine⟨?_,λg h=>?_⟩
   .rw [Ja8];exact Ja9 _ i1
   .rw [Ja8] at h ⊢;rcases Jax.mp h with e|e
    .exact Jax.mpr (.inl e)
    .exact Ja9 _ (i2 g e)
theorem Zb7 (f:Str)(v:V):∀ fs:List (Str×V),(Zcu f v fs).length<=fs.length+1
 | []=>by simp[Zcu]
 | (k,x)::r=>by
  have ih:=Zb7 f v r;rw[show Zcu f v ((k,x)::r)=(if k=f then (k,v)::r else (k,x)::Zcu f v r) from rfl];by_cases hk:k=f
  .rw [if_pos hk,Jbq,Jbq];omega
  .rw [if_neg hk,Jbq,Jbq];omega
theorem RelO.some_of {v:V}{o:Option Value}(r:RelO (some v) o):∃ u,o=some u/\RelV v u:=by
 cases o with
 | none=>exact (show False from r).elim
 | some u=>exact⟨u,rfl,r⟩
theorem RelO.none_of {o:Option Value}(r:RelO none o):o=none:=by
 cases o with
 | none=>rfl
 | some u=>exact (show False from r).elim
theorem Ztj {v:V}{u:Value}(r:RelV v u):PySem.W.handedIn u=true:=by
 cases v with
 | non=>cases (show u=Value.none from r);rfl
 | bl b=>cases (show u=Value.bool b from r);rfl
 | int i=>obtain⟨t,e⟩:=(show ∃ t,u=Value.int i t from r);cases e;rfl
 | str x=>obtain⟨t,e⟩:=(show ∃ t,u=Value.str x t from r);cases e;rfl
 | byt b=>obtain⟨t,e⟩:=(show ∃ t,u=Value.bytes b t from r);cases e;rfl
 | flt b=>obtain⟨t,e⟩:=(show ∃ t,u=Value.float b t from r);cases e;rfl
 | ref a=>cases (show u=Value.ref a from r);rfl
 | ty n=>cases (show u=Value.type n from r);rfl
section
variable {P:Program}{w:World}{H H':Hp}{h h':Heap}{a C dx:Addr}{fs fs':List (Str×V)}
theorem Zld (hok:HOk P w H h)(e:H a=some (.ins C dx fs)):∃ mA,ObjM h a dx C mA/\(∀ f,RelO (fs.lookup f) (mA f))/\PySem.Within mA (fs.map (·.1))/\fs.length<=1000/\H dx=some (.own a):=by
 refine Zdu (show ObjOk P w H h a (.ins C dx fs) from hok a _ e) λd z ne ob e9102=>?_;obtain⟨mA,n,r,q⟩:=e9102;exact⟨mA,⟨ob,n,ne⟩,r,q,z,d⟩
end
structure Cls (K:Frag)(C:Addr):Prop where
 pg:PySem.W.plainGet K C Str.empty=true
 hd:PySem.W.hasDictIn K C=true
 po:PySem.W.plainOver K C=true
 sa:PySem.W.findIn K (.ref C) "__setattr__" = some (some (.builtin "object.__setattr__"))
theorem Cls.get {K:Frag}{C:Addr}(c:Cls K C)(f:Str):PySem.W.plainGet K C f=true:=c.pg
def NoAttr (K:Frag)(C:Addr)(f:Str):Prop:=PySem.W.findIn K (.ref C) f=some none
theorem NoAttr.taker {K:Frag}{C:Addr}{f:Str}(n:NoAttr K C f):PySem.W.takerIn K C f=some none:=by
 unfold PySem.W.takerIn;rw[show PySem.W.findIn K (.ref C) f=some none from n];rfl
structure Con (K:Frag)(C:Addr)(f:Str)(v:V)(u:Value):Prop where
 at_:PySem.W.findIn K (.ref C) f=some (some u)
 rel:RelV v u
 get:PySem.W.specialIn K u "__get__" = some none
 cp:PySem.W.copiedNames.contains f=false
structure Meth (K:Frag)(C:Addr)(m:Str)(f:Addr):Prop where
 at_:PySem.W.findIn K (.ref C) m=some (some (.ref f))
 fn:PySem.W.isFn K (.ref f)=true
 kp:PySem.W.keepIn K (.ref f)=true
section
variable {X:Cx}{pins:List (Addr×Obj)}{σ:St}{H:Hp}{s:Shared}{a C dx:Addr}{fs:List (Str×V)}{f:Str}{v:V}{A:Around}{E:Value->Shared->Prop}
theorem Zqa {b:Bool}{Q:Value->Shared->Prop}(I:Inv X pins σ H s)(e:H a=some (.ins C dx fs))(c:Cls X.K C)(n:NoAttr X.K C f)(l:fs.lookup f=some v)(h:∀ u s',Inv X pins σ H s'->RelV v u->Q u s'):wpAny (model X.prog X.w) A (getAttr (.ref a) f b) Q E s:=by
 refine Zm3 (Zld I.hok e) λmA O r _ _ _=>?_;obtain⟨u,hu,ru⟩:=RelO.some_of (v:=v) (o:=mA f) (by rw[<- l];exact r f);exact get_map I.kIn O (c.get f) c.hd n hu (Ztj ru) (h u _ (I.tok _) ru)
theorem Zhu {m:Str}{g:Addr}{pl:Sem Bool}{Q:Value×List Value->Shared->Prop}(I:Inv X pins σ H s)(e:H a=some (.ins C dx fs))(c:Cls X.K C)(k:Meth X.K C m g)(l:fs.lookup m=none)(h:Q (.ref g,[.ref a]) s):wpAny (model X.prog X.w) A (getMethod (.ref a) m pl) Q E s:=by
 refine Zm3 (Zld I.hok e) λmA O r _ _ _=>?_;have hn:mA m=none:=RelO.none_of (by rw[<- l];exact r m);exact Zwp I.kIn O (c.get m) k.at_ k.fn hn h
theorem Zpt {y:V}{u:Value}{Q:Unit->Shared->Prop}(I:Inv X pins σ H s)(e:H a=some (.ins C dx fs))(c:Cls X.K C)(n:NoAttr X.K C f)(hl:fs.length<1000)(ry:RelV y u)(h:∀ s',Inv X pins σ (upd H a (.ins C dx (Zcu f y fs))) s'->Q () s'):wpAny (model X.prog X.w) A (setAttr (.ref a) f u) Q E s:=by
 refine Zm3 (Zld I.hok e) λmA O r wi _ ho=>?_;have hz:(fs.map (·.1)).length<=sizeLine:=by rw[Jab,sizeLine_eq];omega
 refine Zis I.kIn O c.sa c.po n.taker c.hd wi hz λh' O' sb=>h _ ?_;have hd:∃ o,h'.get? dx=some o:=let ⟨o,_,_,e',_⟩:=O'.ns;⟨o,e'⟩;refine I.write (x:=a) (e:=dx) (by rw[e];exact True.intro) (.inr ho) (λb q hb z=>(sb.2 b hb).trans z) hd ?_;refine⟨by rw[Zag O.ne];exact ho,?_,O.ne,O'.obj,_,O'.ns,λg=>?_,λg hg=>?_⟩
 .have:=Zb7 f y fs;omega
 .show RelO ((Zcu f y fs).lookup g) (if g=f then some u else mA g);rw[Zau];by_cases q:g=f
  .rw [if_pos q,if_pos q];exact ry
  .rw [if_neg q,if_neg q];exact r g
 .by_cases q:g=f
  .rw [q];exact (Zjk f y fs).1
  .refine (Zjk f y fs).2 g (wi g λz=>hg ?_);show (if g=f then some u else mA g)=none;rw[if_neg q];exact z
theorem Inv.made (I:Inv X pins σ H s):Inv X pins σ (upd (upd H s.heap.objs.size (.own (s.heap.objs.size+1))) (s.heap.objs.size+1) (.ins C s.heap.objs.size []))
  { s with heap:=(s.heap.push PySem.W.emptyDict).push (PySem.W.instObj C s.heap.objs.size) }:=by
 have e1:(s.heap.push PySem.W.emptyDict).get? s.heap.objs.size=some PySem.W.emptyDict:=Ja2 s.heap rfl;have e2:((s.heap.push PySem.W.emptyDict).push (PySem.W.instObj C s.heap.objs.size)).get? (s.heap.objs.size+1)=some (PySem.W.instObj C s.heap.objs.size):=by
  have:=Ja2 (s.heap.push PySem.W.emptyDict) (o:=PySem.W.instObj C s.heap.objs.size) rfl;rwa [Jcg] at this
 have e3:(s.heap.push PySem.W.emptyDict).Ns s.heap.objs.size (λ_=>none):=⟨PySem.W.emptyDict,#[],_,e1,rfl,(λe he=>absurd he (by simp)),λ_=>rfl⟩
 have I1:=I.laid (a:=s.heap.objs.size) (o:=.own (s.heap.objs.size+1)) (h':=s.heap.push PySem.W.emptyDict) (t':=s.toks) (λb u q=>Jad _ q) (Jaf _) ⟨_,e1⟩;refine I1.laid (a:=s.heap.objs.size+1) (o:=.ins C s.heap.objs.size []) (t':=s.toks) (λb u q=>Jad _ q) (Nat.le_of_eq (Jcg _ _)) ?_;have ne:s.heap.objs.size≠s.heap.objs.size+1:=Ja1 (Jdp _);refine⟨by rw[Zag ne,Zaa],Jbm _,ne,e2,λ_=>none,(Heap.Ns1.of_empty e3).at λo q=>Jad _ q,λ_=>True.intro,λy hy=>absurd rfl hy⟩
theorem attr_of {prog:Program}{w:World}{env:Env}{e:Expr}{f:Str}{pos:Pos}{s:Shared}{Q:Value->Shared->Prop}(hb:attributeBase e f env (eval e env)=eval e env)(h:wpAny (model prog w) A (eval e env) (λo s₁=>wpAny (model prog w) A (getAttr o f true) Q E s₁) E s):wpAny (model prog w) A (eval (.Attribute e f pos) env) Q E s:=
 Attribute_any_ h (by rw[arm_eval_Attribute,hb])
end
def tFld (K:Frag)(ta:TE)(f:Str):TE:=λσ H Q=>ta σ H λx H1=>∃ a C dx fs v,x=.ref a/\H1 a=some (.ins C dx fs)/\Cls K C/\NoAttr K C f/\fs.lookup f=some v/\Q v H1
def sFld (K:Frag)(ta tv:TE)(f:Str):TS:=λD σ H=>tv σ H λy H1=>ta σ H1 λx H2=>∃ a C dx fs,x=.ref a/\H2 a=some (.ins C dx fs)/\Cls K C/\NoAttr K C f/\fs.length<1000 /\
 D.nx σ (upd H2 a (.ins C dx (Zcu f y fs)))
section
variable {X:Cx}{o e value:Expr}{f:Str}{pos pos' tpos:Pos}{ta tv:TE}
theorem Zbk (he:PE X e ta)(hb:attributeBase e f X.env (eval e X.env)=eval e X.env):PE X (.Attribute e f pos) (tFld X.K ta f):=by
 intro pins s σ H Q I h;refine attr_of hb (thn (he pins s σ H _ I h) λu s1 ⟨x,H1,I1,rx,a,C,dx,fs,v,ex,ea,c,n,l,q⟩=>?_);subst ex;obtain rfl:u=Value.ref a:=rx;exact Zqa I1 ea c n l λu' s2 I2 ru=>⟨v,H1,I2,ru,q⟩
theorem Zjd (ha:PE X o ta)(hv:PE X value tv)(hs:swapsWith value (some (.Attribute o f pos')) pos.line X.env=pure false):PS X (.Assign [.Attribute o f pos'] value pos) (sFld X.K ta tv f):=by
 intro pins s σ H D I h;refine plainObj_wpAny_Assign_Attribute (thn (hv pins s σ H _ I h) λu s1 ⟨y,H1,I1,ry,q⟩=>thn (ha pins s1 σ H1 _ I1 q) λov s2 ⟨x,H2,I2,rx,a,C,dx,fs,ex,ea,c,n,l,q2⟩=>?_) hs;subst ex;obtain rfl:ov=Value.ref a:=rx;exact Zpt I2 ea c n l ry λs3 I3=>⟨σ,_,I3,q2⟩
theorem methcall_of {pl:Sem Bool}{m:Str}{apos:Pos}{args:List Expr}{pins:List (Addr×Obj)}{s:Shared}{σ:St}{H:Hp}{Q:Value->Shared->Prop}{te:TE}(he:PE X e te)(I:Inv X pins σ H s)(h:te σ H λx H1=>∃ a C dx fs g,x=.ref a/\H1 a=some (.ins C dx fs)/\Cls X.K C/\Meth X.K C m g/\fs.lookup m=none /\
   ∀ s1,Inv X pins σ H1 s1->wpAny (model X.prog X.w) X.A (callWith pos (.ref g) [.ref a] (backTo pos (starEach args X.env)) (backToKw pos (keywordEach [] X.env))) Q X.xe s1)(ht:eval (.Call (.Attribute e m apos) args [] pos) X.env=(do
   let ov <- eval e X.env
   standAt apos.atName
   let (f,first) <- holding [ov] (getMethod ov m pl)
   callWith pos f first (backTo pos (starEach args X.env)) (backToKw pos (keywordEach [] X.env)))):
  wpAny (model X.prog X.w) X.A (eval (.Call (.Attribute e m apos) args [] pos) X.env) Q X.xe s:=by
 refine Jeg (pl:=pl) (thn (he pins s σ H _ I h) λu s1 ⟨x,H1,I1,rx,a,C,dx,fs,g,ex,ea,c,k,l,q⟩=>?_) ht;subst ex;obtain rfl:u=Value.ref a:=rx;exact Zhu I1 ea c k l (q s1 I1)
end
section
variable {X:Cx}{pins:List (Addr×Obj)}{σ:St}{H:Hp}{s:Shared}{A:Around}{E:Value->Shared->Prop}{Q:Value->Shared->Prop}{c:Value}{b:Bool}
inductive TyOf (K:Frag) (H:Hp):V->Value->Prop where
 | non:TyOf K H .non (.type "NoneType")
 | bl (x:Bool):TyOf K H (.bl x) (.type "bool")
 | int (i:Int):TyOf K H (.int i) (.type "int")
 | str (x:Str):TyOf K H (.str x) (.type "str")
 | flt (x:UInt64):TyOf K H (.flt x) (.type "float")
 | lst {a:Addr} {xs:List V} (e:H a=some (.lst xs)):TyOf K H (.ref a) (.type "list")
 | frz {a:Addr} {o:Obj} {xs:List V} (e:H a=some (.frz o (.lst xs))):TyOf K H (.ref a) (.type "list")
 | tup {a:Addr} {xs:List V} (e:H a=some (.tup xs)):TyOf K H (.ref a) (.type "tuple")
 | dK {a:Addr} {kvs:List (Key×V)} (e:H a=some (.dK kvs)):TyOf K H (.ref a) (.type "dict")
 | dT {a:Addr} {kvs:List (List Key×V)} (e:H a=some (.dT kvs)):TyOf K H (.ref a) (.type "dict")
 | ins {a C dx:Addr} {fs:List (Str×V)} (e:H a=some (.ins C dx fs)) (cl:Cls K C) (ha:PySem.W.findIn K (.ref C) "__class__" = some (some (.builtin "object.__class__")))
   (hn:PySem.W.specialIn K (.builtin "object.__class__") "__get__" = some (some (.builtin "getset_descriptor.__get__"))) (htk:PySem.W.takesIn K (.builtin "object.__class__")=some true)
   (hm:PySem.W.mroIn K C (.type "object")=some true):TyOf K H (.ref a) (.ref C)
theorem Zta {x:V}{u t:Value}(I:Inv X pins σ H s)(rx:RelV x u)(ty:TyOf X.K H x t)(e:PySem.W.kitOne X.K t c=some b)(h:∀ tk,Q (.bool b) { s with toks:=tk }):
  wpAny (model X.prog X.w) A (call (.builtin "isinstance") [u,c]) Q E s:=by
 cases ty with
 | non=>cases (show u=Value.none from rx);exact Jb7 PySem.W.kitx_none I.kIn True.intro e (λz=>nomatch z) h
 | bl y=>cases (show u=Value.bool y from rx);exact Jb7 PySem.W.kitx_bool I.kIn True.intro e (λz=>nomatch z) h
 | int i=>obtain⟨t,q⟩:=(show ∃ t,u=Value.int i t from rx);cases q;exact Jb7 PySem.W.kitx_int I.kIn True.intro e (λz=>nomatch z) h
 | str y=>obtain⟨t,q⟩:=(show ∃ t,u=Value.str y t from rx);cases q;exact Jb7 PySem.W.kitx_str I.kIn True.intro e (λz=>nomatch z) h
 | flt y=>obtain⟨t,q⟩:=(show ∃ t,u=Value.float y t from rx);cases q;exact Jb7 PySem.W.kitx_float I.kIn True.intro e (λz=>nomatch z) h
 | @lst a xs ea=>
  cases (show u=Value.ref a from rx);obtain⟨_,_,n,_,h1⟩:=(show ObjOk X.prog X.w H s.heap a (.lst xs) from I.hok a _ ea)
  exact Jb7 PySem.W.kitx_list I.kIn ⟨_,h1,rfl⟩ e (λz=>nomatch z) h
 | @frz a ob xs ea=>
  cases (show u=Value.ref a from rx);obtain⟨_,_,_,n,_,h1⟩:=(show ObjOk X.prog X.w H s.heap a (.frz ob (.lst xs)) from I.hok a _ ea)
  exact Jb7 PySem.W.kitx_list I.kIn ⟨_,h1,rfl⟩ e (λz=>nomatch z) h
 | @tup a xs ea=>
  cases (show u=Value.ref a from rx);obtain⟨_,_,_,p⟩:=(show ObjOk X.prog X.w H s.heap a (.tup xs) from I.hok a _ ea)
  refine Zap p λo h1 h2 _=>?_;clear p;exact Jb7 PySem.W.kitx_tuple I.kIn ⟨o,h1,h2⟩ e (λz=>nomatch z) h
 | @dK a kvs ea=>
  cases (show u=Value.ref a from rx);refine Zar (show ObjOk X.prog X.w H s.heap a (.dK kvs) from I.hok a _ ea) λ_ _ e9107=>?_;obtain⟨vs,_,p⟩:=e9107;refine Zim p λo es ep h1 h2 _=>?_;clear p;exact Jb7 PySem.W.kitx_dict I.kIn ⟨o,h1,h2.1⟩ e (λz=>nomatch z) h
 | @dT a kvs ea=>
  cases (show u=Value.ref a from rx);refine Zar (show ObjOk X.prog X.w H s.heap a (.dT kvs) from I.hok a _ ea) λ_ _ e9108=>?_;obtain⟨xs,_,o,es,ep,h1,h2,_⟩:=e9108;exact Jb7 PySem.W.kitx_dict I.kIn ⟨o,h1,h2.1⟩ e (λz=>nomatch z) h
 | @ins a C dx fs ea cl ha hn htk hm=>
  cases (show u=Value.ref a from rx);refine Zah (Zld I.hok ea) λmA O _=>?_;refine Zah O.look λod J _=>?_;exact Jb7 (PySem.W.kitx_own (cl.get _) cl.hd ha hn htk hm) I.kIn J e (λz=>nomatch z) h
end
structure Room (k:Nat)(A:Around):Prop where
 hd:A.handled=none
 dp:A.depth+3*k+205<recursionLimit
 un:A.units+16*k+200<cLine
theorem Room.mono {j k:Nat}{A:Around}(r:Room k A)(h:j<=k):Room j A:=⟨r.hd,by have:=r.dp;omega,by have:=r.un;omega⟩
theorem Room.m {j k:Nat}{A:Around}(r:Room k A)(h:j<=k:=by decide):Room j A:=r.mono h
theorem Room.deeper {k:Nat}{A:Around}(r:Room (k+1) A)(env:Env):Room k (A.deeper env):=
 ⟨r.hd,by have:=r.dp;show A.depth+1+3*k+205<_;omega,by have:=r.un;show A.units+3+16*k+200<_;omega⟩
theorem Zp2 {A:Around}{C:Addr}{us:List Value}{kw:List (Str×Value)}:(A.under (.builtin "type.__call__" ⟨.ref C::us,kw⟩)).depth=A.depth+1:=by
 first|rfl|simp[Around.under,Code.weight,Code.isCreation,Code.isGuard,Code.isCaller,Code.frames,Code.isFrame,guardIds]
theorem Zp1 {A:Around}{C:Addr}{us:List Value}{kw:List (Str×Value)}:(A.under (.builtin "type.__call__" ⟨.ref C::us,kw⟩)).units=A.units+1:=by
 first|rfl|simp[Around.under,Code.cUnits,Code.frames,Code.isFrame]
theorem Room.make {k:Nat}{A:Around}(r:Room (k+1) A)(C:Addr)(us:List Value)(kw:List (Str×Value)):Room k (A.under (.builtin "type.__call__" ⟨.ref C::us,kw⟩)):=
 ⟨r.hd,by have:=r.dp;rw[Zp2];omega,by have:=r.un;rw[Zp1];omega⟩
theorem Room.depth {k:Nat}{A:Around}(r:Room k A):A.depth<recursionLimit:=by have:=r.dp;omega
theorem Room.units {k:Nat}{A:Around}(r:Room k A):A.units+64<cLine:=by have:=r.un;omega
def Zqz:TA:=λ_ H Q=>Q [] H
def Zgr (ta:TE)(tr:TA):TA:=λσ H Q=>ta σ H λx H1=>tr σ H1 λxs H2=>Q (x::xs) H2
section
variable {X:Cx}{e:Expr}{es:List Expr}{te:TE}{t:TA}{pos:Pos}
theorem Zab:PA X [] Zqz:=λ_ _ _ _ H Q I h=>Jfc ⟨[],H,I,.nil,h⟩
theorem pa_cons (ha:PE X e te)(hr:PA X es t)(hs:starEach (e::es) X.env=(false,eval e X.env)::starEach es X.env:=by rfl):PA X (e::es) (Zgr te t):=by
 intro pos pins s σ H Q I h;rw[hs];show wpAny _ _ (spliced ((false,eval e X.env)::backTo pos (starEach es X.env))) _ _ s;refine Jey (thn (ha pins s σ H _ I h) λu s1 ⟨x,H1,I1,r1,q1⟩=>?_);exact thn (hr pos pins s1 σ H1 _ I1 q1) λus s2 ⟨xs,H2,I2,r2,q2⟩=>⟨x::xs,H2,I2,.cons r1 r2,q2⟩
def Zw7 (t:TA):TE:=λσ H Q=>t σ H λxs H1=>xs.length<=sizeLine/\∀ p,H1 p=none->Q (.ref p) (upd H1 p (.tup xs))
def tLst (t:TA):TE:=λσ H Q=>t σ H λxs H1=>xs.length<=sizeLine/\∀ p,H1 p=none->Q (.ref p) (upd H1 p (.lst xs))
theorem Zaq {x1}(h:PA X es t):PE X (.Tuple es x1 pos) (Zw7 t):=by
 intro pins s σ H Q I hq;refine wpAny_Tuple_spliced (thn (h pos pins s σ H _ I hq) λus s1 ⟨xs,H1,I1,r,z,q⟩=>⟨by rw[<- r.length];exact z,?_⟩);have hf:H1 s1.heap.objs.size=none:=I1.hok.fresh (Jaf _);refine Zav (.ref s1.heap.objs.size) (upd H1 s1.heap.objs.size (.tup xs)) ⟨I1.laid (t':=s1.toks) (λb u e=>Jad _ e) (Jaf _) ?_,rfl,q _ hf⟩;exact⟨z,us,r,⟨_,Ja2 _ rfl,rfl,_,rfl⟩⟩
theorem Zbj (h:PA X es t):PE X (.List es pos) (tLst t):=by
 intro pins s σ H Q I hq;refine wpAny_List_spliced (thn (h pos pins s σ H _ I hq) λus s1 ⟨xs,H1,I1,r,z,q⟩=>⟨by rw[<- r.length];exact z,?_⟩);have hf:H1 s1.heap.objs.size=none:=I1.hok.fresh (Jaf _);refine Zav (.ref s1.heap.objs.size) (upd H1 s1.heap.objs.size (.lst xs)) ⟨I1.laid (t':=s1.toks) (λb u e=>Jad _ e) (Jaf _) ?_,rfl,q _ hf⟩;exact⟨z,us,0,r,Ja2 _ rfl⟩
end
abbrev Sp:=List V->Hp->VK->XK->Prop
abbrev CXT:=List Env->Hp->Shared->XK->Value->Shared->Prop
structure Env0 (P:Program)(w:World)(K:Frag)(mg:Str->Option Value)(base:Heap)(A:Around)(outer:List Env)(s:Shared)(H:Hp):Prop where
 frames:A.frames=some outer
 mod:Mod K mg base
 bs:∀ b o,base.get? b=some o->s.heap.get? b=some o/\H b=none
 bsz:base.objs.size<=s.heap.objs.size
 funs:s.heap.FunFrames base outer
 frf:∀ b∈frs outer,H b=none
 hok:HOk P w H s.heap
 bare:AllBare s.gens
def CE (outer:List Env)(P:Program)(w:World)(H:Hp)(s:Shared)(Q:VK)(u:Value)(s':Shared):Prop:=
 ∃ v H',s'.os=s.os/\AllBare s'.gens/\Un (frs outer) [] H H' s.heap s'.heap/\HOk P w H' s'.heap/\RelV v u/\Q v H'
def CR (CX:CXT)(outer:List Env)(P:Program)(w:World)(H:Hp)(s:Shared)(Q:VK)(E:XK)(r:Result)(s':Shared):Prop:=
 match r with
 | .ok (.ret u)=>CE outer P w H s Q u s'
 | .ok _=>False
 | .error e=>CX outer H s E e s'
structure FnOk (P:Program)(w:World)(K:Frag)(mg:Str->Option Value)(base:Heap)(CX:CXT)(k:Nat)(f:Addr)(fd:FuncData)(ps:List Str)(sp:Sp):Prop where
 len:∀ vs H Q E,sp vs H Q E->vs.length=ps.length
 run:∀ (A:Around) (outer:List Env) (s:Shared) (H:Hp) (args:Args) (us:List Value) (vs:List V) (Q:VK) (E:XK),Room k A->Env0 P w K mg base A outer s H->BindsTo s fd args (ps.zip us)->Vals vs us->sp vs H Q E->
  codeAny (model P w) A (.call (.ref f) args) (CR CX outer P w H s Q E) s
theorem Env0.make {P:Program}{w:World}{K:Frag}{mg:Str->Option Value}{base:Heap}{A:Around}{outer:List Env}{s:Shared}{H:Hp}(e:Env0 P w K mg base A outer s H)(C:Addr)(us:List Value)(kw:List (Str×Value)):
  Env0 P w K mg base (A.under (.builtin "type.__call__" ⟨.ref C::us,kw⟩)) outer s H:=⟨by first|exact e.frames|(simpa [Around.under,Code.envs,Code.isFrame,pushEnvs] using e.frames),e.mod,e.bs,e.bsz,e.funs,e.frf,e.hok,e.bare⟩
section
variable {X:Cx}{pins:List (Addr×Obj)}{σ:St}{H:Hp}{s s':Shared}
theorem Inv.env0 (I:Inv X pins σ H s):Env0 X.prog X.w X.K X.mg X.base X.A X.stack s H:=
 ⟨I.ok.frames,I.ok.mod,I.bs,Jbf I.ok.bsz I.sz,I.stack,I.stkFree,I.hok,I.bare⟩
theorem Inv.after {Q:VK}{u:Value}(I:Inv X pins σ H s)(h:CE X.stack X.prog X.w H s Q u s'):EP X pins σ Q u s':=by
 refine Zqq h λv H' os bare un hok r q=>?_;clear h;obtain⟨hh,g,d,t,os'⟩:=s';obtain rfl:os'=s.os:=os;exact Zav v H' ⟨I.call (h':=hh) (g':=g) (d':=d) (t':=t) (ch:=[]) un hok bare (λb z=>absurd z (by simp)),r,q⟩
end
def Zl0 (sp:Sp)(dvs:List V)(E:XK)(t:TA):TE:=λσ H Q=>t σ H λvs H1=>sp (vs++dvs) H1 Q E
def Zm7 (C:Addr)(m:Str)(sp:Sp)(dvs:List V)(E:XK)(ta:TE)(t:TA):TE:=λσ H Q=>ta σ H λx H1=>∃ a dx fs,x=.ref a/\H1 a=some (.ins C dx fs)/\fs.lookup m=none /\
 t σ H1 λvs H2=>sp (x::(vs++dvs)) H2 Q E
def Zq0 (C:Addr)(sp:Sp)(dvs:List V)(E:XK)(t:TA):TE:=λσ H Q=>t σ H λvs H1=>∀ x dx,H1 x=none->H1 dx=none->dx≠x->
 sp (.ref x::(vs++dvs)) (upd (upd H1 dx (.own x)) x (.ins C dx [])) (λv H2=>v=.non/\Q (.ref x) H2) E
def Binds (K:Frag)(fd:FuncData)(ps:List Str)(ds:List Value):Prop:=
 ∀ (s:Shared) (us:List Value),K.In s.heap->(us++ds).length=ps.length->BindsTo s fd ⟨us,[]⟩ (ps.zip (us++ds))
theorem Binds.all {K:Frag}{fd:FuncData}{ps:List Str}(h:∀ us:List Value,us.length=ps.length->bindArgs fd ⟨us,[]⟩=pure (ps.zip us)):Binds K fd ps []:=λs us _ hl=>by
 rw[Jd0] at hl ⊢;exact .of_eq (h us hl)
def Zeg (CX:CXT)(X:Cx)(E:XK):Prop:=∀ (pins:List (Addr×Obj)) (σ:St) (H:Hp) (s:Shared) (e:Value) (s':Shared),Inv X pins σ H s->CX X.stack H s E e s'->X.xe e s'
section
variable {X:Cx}{CX:CXT}{k:Nat}{f C:Addr}{fd:FuncData}{ps:List Str}{sp:Sp}{dvs:List V}{ds:List Value}{E:XK}{x m:Str}{p pos apos:Pos}{e o:Expr}{es:List Expr}{ta:TE}{t:TA}
theorem Zro {pins:List (Addr×Obj)}{σ:St}{H:Hp}{s:Shared}{Q:VK}{us:List Value}{vs:List V}(F:FnOk X.prog X.w X.K X.mg X.base CX k f fd ps sp)(hr:Room k X.A)(hb:Binds X.K fd ps ds)(hd:Vals dvs ds)(hx:Zeg CX X E)(I:Inv X pins σ H s)(r:Vals vs us)(h:sp (vs++dvs) H Q E):wpAny (model X.prog X.w) X.A (call (.ref f) us) (EP X pins σ Q) X.xe s:=by
 have r2:Vals (vs++dvs) (us++ds):=r.append hd;have hl:(us++ds).length=ps.length:=by rw[<- r2.length];exact F.len _ _ _ _ h
 refine wpAny_call (Jeh (F.run X.A X.stack s H ⟨us,[]⟩ (us++ds) (vs++dvs) Q E hr I.env0 (hb s us I.kIn hl) r2 h) λr s' hq=>?_);cases r with
 | error e=>exact hx pins σ H s e s' I hq
 | ok fl=>
  cases fl with
  | ret u=>exact I.after hq
  | next=>exact False.elim hq
  | brk=>exact False.elim hq
  | cont=>exact False.elim hq
theorem Zr5 (F:FnOk X.prog X.w X.K X.mg X.base CX k f fd ps sp)(hr:Room k X.A)(hg:Gl X x)(hm:X.mg x=some (.ref f))(hk:PySem.W.keepIn X.K (.ref f)=true)(hb:Binds X.K fd ps ds)(hd:Vals dvs ds)(hx:Zeg CX X E)(ha:PA X (e::es) t)(hdb:(x == ("__debug__" : Str))=false:=by decide)(he:starEach (e::es) X.env=(false,eval e X.env)::starEach es X.env:=by rfl)(hpl:(backTo pos (starEach es X.env)).any (·.1)=false:=by rfl):
  PE X (.Call (.Name x p) (e::es) [] pos) (Zl0 sp dvs E t):=by
 intro pins s σ H Q I h;refine Jda (Zhr I hg hm ?_ hdb);refine Jd1 (h₀:=X.base) I.ok.mod.kin hk (thn (ha pos pins s σ H _ I h) λus s1 ⟨vs,H1,I1,r,q⟩=>⟨I1.kIn,?_⟩) he hpl;exact Zro F hr hb hd hx I1 r q
theorem Zr3 {pl:Sem Bool}(he:PE X o ta)(c:Cls X.K C)(hm:Meth X.K C m f)(F:FnOk X.prog X.w X.K X.mg X.base CX k f fd ps sp)(hr:Room k X.A)(hb:Binds X.K fd ps ds)(hd:Vals dvs ds)(hx:Zeg CX X E)(ha:PA X (e::es) t)(hst:starEach (e::es) X.env=(false,eval e X.env)::starEach es X.env:=by rfl)(hpl:(backTo pos (starEach es X.env)).any (·.1)=false:=by rfl)(ht:eval (.Call (.Attribute o m apos) (e::es) [] pos) X.env=(do
   let ov <- eval o X.env
   standAt apos.atName
   let (f,first) <- holding [ov] (getMethod ov m pl)
   callWith pos f first (backTo pos (starEach (e::es) X.env)) (backToKw pos (keywordEach [] X.env))):=by rfl):
  PE X (.Call (.Attribute o m apos) (e::es) [] pos) (Zm7 C m sp dvs E ta t):=by
 intro pins s σ H Q I h;refine Jeg (pl:=pl) (thn (he pins s σ H _ I h) λu s1 ⟨x,H1,I1,rx,a,dx,fs,ex,ea,l,q⟩=>?_) ht;subst ex;obtain rfl:u=Value.ref a:=rx;refine Zhu I1 ea c hm l ?_;refine Jd1 (first:=[.ref a]) (h₀:=X.base) I.ok.mod.kin hm.kp (thn (ha pos pins s1 σ H1 _ I1 q) λus s2 ⟨vs,H2,I2,r,q2⟩=>⟨I2.kIn,?_⟩) hst hpl;exact Zro (us:=.ref a::us) (vs:=.ref a::vs) F hr hb hd hx I2 (.cons rfl r) q2
theorem Zvc {pl:Sem Bool}(he:PE X o ta)(c:Cls X.K C)(hm:Meth X.K C m f)(F:FnOk X.prog X.w X.K X.mg X.base CX k f fd ps sp)(hr:Room k X.A)(hb:Binds X.K fd ps ds)(hd:Vals dvs ds)(hx:Zeg CX X E)(ht:eval (.Call (.Attribute o m apos) [] [] pos) X.env=(do
   let ov <- eval o X.env
   standAt apos.atName
   let (f,first) <- holding [ov] (getMethod ov m pl)
   callWith pos f first (backTo pos (starEach [] X.env)) (backToKw pos (keywordEach [] X.env))):=by rfl):
  PE X (.Call (.Attribute o m apos) [] [] pos) (Zm7 C m sp dvs E ta Zqz):=by
 intro pins s σ H Q I h;refine Jeg (pl:=pl) (thn (he pins s σ H _ I h) λu s1 ⟨x,H1,I1,rx,a,dx,fs,ex,ea,l,q⟩=>?_) ht;subst ex;obtain rfl:u=Value.ref a:=rx;refine Zhu I1 ea c hm l ?_;exact PySem.W.callWith_K0 (first:=[.ref a]) I1.kIn hm.kp (Zro (us:=[.ref a]) (vs:=[.ref a]) F hr hb hd hx I1 (.cons rfl .nil) q)
structure Mk (K:Frag)(C f:Addr):Prop where
 makes:PySem.W.makesIn K C=true
 init:PySem.W.findIn K (.ref C) "__init__" = some (some (.ref f))
 fn:PySem.W.isFn K (.ref f)=true
 kp:PySem.W.keepIn K (.ref C)=true
theorem Zu2 {pins:List (Addr×Obj)}{σ:St}{H:Hp}{s:Shared}{Q:VK}{us:List Value}{vs:List V}(M:Mk X.K C f)(F:FnOk X.prog X.w X.K X.mg X.base CX k f fd ps sp)(hr:Room (k+1) X.A)(hb:Binds X.K fd ps ds)(hd:Vals dvs ds)(hx:Zeg CX X E)(I:Inv X pins σ H s)(r:Vals vs us)(h:∀ x dx,H x=none->H dx=none->dx≠x->sp (.ref x::(vs++dvs)) (upd (upd H dx (.own x)) x (.ins C dx [])) (λv H2=>v=.non/\Q (.ref x) H2) E):
  wpAny (model X.prog X.w) X.A (call (.ref C) us) (EP X pins σ Q) X.xe s:=by
 have hq:=h (s.heap.objs.size+1) s.heap.objs.size (I.hok.fresh (Jfn _)) (I.hok.fresh (Jaf _)) (Ja1 (Jdp _));have I2:=Inv.made (C:=C) I;have r2:Vals (V.ref (s.heap.objs.size+1)::(vs++dvs)) (Value.ref (s.heap.objs.size+1)::(us++ds)):=.cons rfl (r.append hd);have hl:(Value.ref (s.heap.objs.size+1)::us++ds).length=ps.length:=by
  have e:=r2.length;rw[F.len _ _ _ _ hq] at e;exact e.symm
 refine wpAny_call (Zv6 (f:=f) I.kIn M.makes M.init (Jbt.mp M.fn) (Jeh (F.run _ X.stack _ _ ⟨Value.ref (s.heap.objs.size+1)::us,[]⟩ (Value.ref (s.heap.objs.size+1)::(us++ds)) _ _ E (hr.make C us [])
  (I2.env0.make C us []) (hb _ (Value.ref (s.heap.objs.size+1)::us) I2.kIn hl) r2 hq) λr s' hq'=>?_))
 cases r with
 | error e=>exact hx pins σ _ _ e s' I2 hq'
 | ok fl=>
  cases fl with
  | ret u=>
   refine Zeh (I2.after hq') λv H' I3 rv ev q3=>?_;subst ev;exact⟨rv,⟨V.ref (s.heap.objs.size+1),H',I3,rfl,q3⟩⟩
  | next=>exact False.elim hq'
  | brk=>exact False.elim hq'
  | cont=>exact False.elim hq'
theorem pe_make (M:Mk X.K C f)(F:FnOk X.prog X.w X.K X.mg X.base CX k f fd ps sp)(hr:Room (k+1) X.A)(hg:Gl X x)(hm:X.mg x=some (.ref C))(hb:Binds X.K fd ps ds)(hd:Vals dvs ds)(hx:Zeg CX X E)(ha:PA X (e::es) t)(hdb:(x == ("__debug__" : Str))=false:=by decide)(he:starEach (e::es) X.env=(false,eval e X.env)::starEach es X.env:=by rfl)(hpl:(backTo pos (starEach es X.env)).any (·.1)=false:=by rfl):
  PE X (.Call (.Name x p) (e::es) [] pos) (Zq0 C sp dvs E t):=by
 intro pins s σ H Q I h;refine Jda (Zhr I hg hm ?_ hdb);refine Jd1 (h₀:=X.base) I.ok.mod.kin M.kp (thn (ha pos pins s σ H _ I h) λus s1 ⟨vs,H1,I1,r,q⟩=>⟨I1.kIn,?_⟩) he hpl;exact Zu2 M F hr hb hd hx I1 r q
end
def PK (X:Cx)(kws:List Keyword)(t:TA):Prop:=
 ∀ (pos:Pos) (pins:List (Addr×Obj)) (s:Shared) (σ:St) (H:Hp) (Q:List V->Hp->Prop),Inv X pins σ H s->t σ H Q->wpAny (model X.prog X.w) X.A (evalAll ((backToKw pos (keywordEach kws X.env)).map (·.2))) (AP X pins σ Q) X.xe s
section
variable {X:Cx}{CX:CXT}{k:Nat}{f C:Addr}{fd:FuncData}{ps ks:List Str}{sp:Sp}{E:XK}{x m:Str}{p pos apos kpos:Pos}{e o:Expr}{es:List Expr}{kws:List Keyword}{te ta:TE}{t tk:TA}{nm:Option Str}
structure KBinds (K:Frag)(fd:FuncData)(ps ks:List Str)(g:List Value->List Value->List Value)(gV:List V->List V->List V):Prop where
 to:∀ (s:Shared) (us ws:List Value),K.In s.heap->(g us ws).length=ps.length->BindsTo s fd ⟨us,ks.zip ws⟩ (ps.zip (g us ws))
 rel:∀ {vs:List V} {us:List Value} {zs:List V} {ws:List Value},Vals vs us->Vals zs ws->Vals (gV vs zs) (g us ws)
variable {g:List Value->List Value->List Value}{gV:List V->List V->List V}
end
structure FnScope (N P:List Str)(sc:Scope):Prop where
 kind:sc.kind=.function
 co:sc.isCoroutine=false
 gen:sc.isGenerator=false
 nd:N.Nodup
 pre:N.take P.length=P
 par:∀ x∈P,sc.names.lookup x=some .local\/sc.names.lookup x=some .cell
 nofree:∀ y∈sc.names,y.2≠.free
theorem Zmu {kindOf:Str->Option NameKind}{x:Str}:∀ {binds:List (Str×Value)} {m:Str->Option Value},(∀ v,(x,v)∉binds)->bindL kindOf binds m x=m x
 | [],_,_=>rfl
 | (n,v)::r,m,h=>by
  unfold bindL;rw[Zmu λw hw=>h w (Ja9 _ hw)];split
  .have:x≠n:=by rintro rfl;exact h v Jb3
   simp[this]
  .rfl
theorem Zmw {kindOf:Str->Option NameKind}{x:Str}:∀ {binds:List (Str×Value)} {m:Str->Option Value},(∀ v,(x,v)∉binds)->bindC kindOf binds m x=m x
 | [],_,_=>rfl
 | (n,v)::r,m,h=>by
  unfold bindC;rw[Zmw λw hw=>h w (Ja9 _ hw)];split
  .rfl
  .have:x≠n:=by rintro rfl;exact h v Jb3
   simp[this]
theorem Zmv {kindOf:Str->Option NameKind}{x:Str}{v:Value}:∀ {P:List Str} {vs:List Value} {i:Nat} {m:Str->Option Value},P.Nodup->P[i]?=some x->vs[i]?=some v->kindOf x=some .local->
  bindL kindOf (P.zip vs) m x=some v
 | [],_,_,_,_,h,_,_=>by simp at h
 | _::_,[],_,_,_,_,h,_=>by simp at h
 | p::P,w::vs,0,m,nd,h1,h2,hk=>by
  simp at h1 h2;subst h1;subst h2;show bindL kindOf ((p,w)::P.zip vs) m p=_;unfold bindL;rw[Zmu λv hv=>(Jbx.mp nd).1 (Jet hv).1,if_pos hk];simp
 | p::P,w::vs,i+1,m,nd,h1,h2,hk=>by
  show bindL kindOf ((p,w)::P.zip vs) m x=_;unfold bindL;exact Zmv (i:=i) (Jbx.mp nd).2 (by simpa using h1) (by simpa using h2) hk
theorem Zmx {kindOf:Str->Option NameKind}{x:Str}{v:Value}:∀ {P:List Str} {vs:List Value} {i:Nat} {m:Str->Option Value},P.Nodup->P[i]?=some x->vs[i]?=some v->kindOf x≠some .local->
  bindC kindOf (P.zip vs) m x=some v
 | [],_,_,_,_,h,_,_=>by simp at h
 | _::_,[],_,_,_,_,h,_=>by simp at h
 | p::P,w::vs,0,m,nd,h1,h2,hk=>by
  simp at h1 h2;subst h1;subst h2;show bindC kindOf ((p,w)::P.zip vs) m p=_;unfold bindC;rw[Zmw λv hv=>(Jbx.mp nd).1 (Jet hv).1,if_neg hk];simp
 | p::P,w::vs,i+1,m,nd,h1,h2,hk=>by
  show bindC kindOf ((p,w)::P.zip vs) m x=_;unfold bindC;exact Zmx (i:=i) (Jbx.mp nd).2 (by simpa using h1) (by simpa using h2) hk
def start (N:List Str)(vs:List V):St:=vs.map some++List.replicate (N.length-vs.length) none
def Zny (CX:CXT)(P:Program)(w:World)(K:Frag)(mg:Str->Option Value)(base:Heap)(N:List Str)(qual:Str)(scope:Scope)(f:Addr)(cd:Value)(A:Around)(outer:List Env)(s:Shared)(H:Hp)(E:XK):Cx where
 prog:=P
 w:=w
 K:=K
 mg:=mg
 base:=base
 A:=A.deeper (envOfC qual scope s.heap.objs.size f cd)
 N:=N
 s₀:=s
 H₀:=H
 env:=envOfC qual scope s.heap.objs.size f cd
 outer:=outer
 stack:=envOfC qual scope s.heap.objs.size f cd::outer
 ex:=[]
 calm:=true
 fn:=λ_=>true
 pn:=[]
 xe:=λe s'=>wpAny (model P w) (A.deeper (envOfC qual scope s.heap.objs.size f cd)) (leaving (envOfC qual scope s.heap.objs.size f cd) e) (λ_ s''=>CX outer H s E e s'') (λe' s''=>CX outer H s E e' s'') s'
theorem Zpe {sc:Scope}{n:Nat}{x:Str}(h:sc.names.lookup x=some .cell):∃ c,(cellsFrom n sc.names []).lookup x=some c:=by
 have q:=Jcu sc.names n [] (.inl h);exact Jce.mp q
theorem Zmk {CX:CXT}{P:Program}{w:World}{K:Frag}{mg:Str->Option Value}{base:Heap}{N ps:List Str}{qual:Str}{scope:Scope}{f:Addr}{cd:Value}{A:Around}{outer:List Env}{s s1:Shared}{H:Hp}{E:XK}{us:List Value}{vs:List V}(S:FnScope N ps scope)(hd:A.handled=none)(e0:Env0 P w K mg base A outer s H)(hl:vs.length=ps.length)(r:Vals vs us)(x:InCallC s s.heap.objs.size (bindL (envOfC qual scope s.heap.objs.size f cd).kindOf (ps.zip us) λ_=>none) (cellsFrom (s.heap.objs.size+1) scope.names []) (bindC (envOfC qual scope s.heap.objs.size f cd).kindOf (ps.zip us) λ_=>none) s1):
  Inv (Zny CX P w K mg base N qual scope f cd A outer s H E) [] (start N vs) H s1:=by
 have hpl:ps.length<=N.length:=by have:=Jec List.length S.pre;rw[Ja0] at this;omega
 refine Zbg x.done λh1 tk e9109 hk=>?_;obtain rfl:=e9109;have noA:∀ b:Addr,b∉(Zny CX P w K mg base N qual scope f cd A outer s H E).ex:=λb z=>absurd (show b∈([]:List Addr) from z) (by simp);refine⟨⟨e0.mod,S.kind,rfl,rfl,Jaf _,λy z c h1 h2=>?_,λy hy=>?_,λy c _ h=>?_,λ_=>hd,Around.frames_deeper e0.frames,.inr ⟨rfl,rfl⟩,λb z=>absurd z (noA b),e0.bs,e0.bsz,λb _ _=>noA b,λb z=>absurd z (noA b),e0.funs,e0.frf,⟨_,_,rfl,S.gen,S.co,rfl,rfl⟩⟩,
  rfl,e0.bare,Un.kept hk,⟨_,x.toInCall.ns,λi y v h1 h2 h3=>?_⟩,λy c h=>⟨_,x.cell y c h⟩,e0.hok.fresh (Jaf _),λy c h=>?_,λp hp=>absurd (show p∈([]:List (Addr×Obj)) from hp) (by simp),e0.hok.kept hk,?_⟩
 .exact name_of_addr x.apart (Jb8 h1) (Jb8 h2)
 .have hy:scope.names.lookup y=some .cell\/scope.names.lookup y=some .free:=hy;rcases hy with hy|hy
  .exact Zpe hy
  .exact absurd rfl (S.nofree _ (Jb8 hy))
 .exact Jbl (x.above y c (Jb8 h))
 .have hi:i<vs.length:=by
   unfold start at h2;by_cases hi:i<vs.length
   .exact hi
   .rw [Jat (by simpa using hi)] at h2;rw[Jby] at h2;split at h2 <;> cases h2
  have ha:vs[i]?=some v:=by
   unfold start at h2;rw[Jar (by simpa using hi),Jau] at h2;cases e:vs[i]? with
   | none=>rw[e] at h2;cases h2
   | some a=>rw[e] at h2;cases h2;rfl
  refine Zah (r.get ha) λu hu rv=>?_;have hp:ps[i]?=some y:=by
   rw[<- S.pre,List.getElem?_take_of_lt ∅];exact h1
  have ndP:ps.Nodup:=by rw[<- S.pre];exact S.nd.sublist (Jfd _ _)
  refine⟨u,rv,?_⟩;rcases S.par y (Jai hp) with k|k
  .exact .inl ⟨k,Zmv ndP hp hu k⟩
  .obtain ⟨c,e⟩:=Zpe (n:=s.heap.objs.size+1) k;refine .inr ⟨.inl k,c,e,?_⟩;have q:=x.cell y c e;rw[Zmx ndP hp hu (by show scope.names.lookup y≠_;rw[k];decide)] at q;exact q
 .exact e0.hok.fresh (Jbl (x.above y c (Jb8 h)))
 .unfold start;show _=N.length;rw[Jak,Jab,Ja4];omega
theorem fn_of {CX:CXT}{P:Program}{w:World}{K:Frag}{mg:Str->Option Value}{base:Heap}{k:Nat}{f:Addr}{name qual:Str}{params:Arguments}{body:List Stmt}{scope:Scope}{dV kV doc pm cdv ct oc:Value}{an od:Option Addr}{osl:Array (Option Value)}{N ps:List Str}{sp:Sp}(lk:K.lookup f=some ⟨oc,od,.func (PySem.W.fnOf name qual params body scope dV kV doc pm an cdv ct),osl⟩)(hcd:PySem.W.codeIn K cdv qual=true)(S:FnScope N ps scope)(len:∀ vs H Q E,sp vs H Q E->vs.length=ps.length)(hbody:∀ (A:Around) (outer:List Env) (s:Shared) (H:Hp) (vs:List V) (Q:VK) (E:XK),Room k (A.deeper (envOfC qual scope s.heap.objs.size f cdv))->sp vs H Q E->
   ∃ t,PSs (Zny CX P w K mg base N qual scope f cdv A outer s H E) body t/\t { nx:=λ_ H'=>Q .non H',rt:=Q } (start N vs) H):
  FnOk P w K mg base CX (k+1) f (PySem.W.fnOf name qual params body scope dV kV doc pm an cdv ct) ps sp:=by
 refine⟨len,λA outer s H args us vs Q E hr e0 hb r hsp=>?_⟩;have hl:=len _ _ _ _ hsp;have KX:K.In s.heap:=e0.mod.kin.keeps λb o e=>(e0.bs b o e).1;have lim:s.heap.NoLimit:=e0.mod.nolimit.keeps λb o e=>(e0.bs b o e).1;have hkind:∀ y∈ps.zip us,scope.names.lookup y.1=some .local\/(scope.names.lookup y.1=some .cell/\((cellsFrom (s.heap.objs.size+1) scope.names []).lookup y.1).isSome=true):=λ⟨n,v⟩ hy=>by
  rcases S.par n (Jet hy).1 with q|q
  .exact .inl q
  .exact .inr ⟨q,Jcu _ _ _ (.inl q)⟩
 refine codeAny_call_function hr.depth (KX _ _ lk) rfl S.co S.gen rfl (PySem.W.codeRec_of KX hcd) (hb _ _ _ _ ?_);refine wpAny_newFunctionEnv_cells S.kind hkind λenv he s1 x=>?_;subst he;refine⟨lim.keeps x.toInCall.keep,codeAny_func ?_⟩;refine Zah (hbody A outer s H vs Q E (hr.deeper _) hsp) λt ht hq=>?_;have I:Inv (Zny CX P w K mg base N qual scope f cdv A outer s H E) [] (start N vs) H s1:=Zmk S hr.hd e0 hl r x;refine Jbg (ht [] s1 (start N vs) H _ I hq) (λfl s' hs=>?_) λe s' hs=>hs;have fin:∀ {σ':St} {H':Hp} {v:V} {u:Value},Inv (Zny CX P w K mg base N qual scope f cdv A outer s H E) [] σ' H' s'->RelV v u->Q v H'->CE outer P w H s Q u s':=
  λ{σ' H' v u} J rv q=>⟨v,H',J.os,J.bare,J.base,J.hok,rv,q⟩
 cases fl with
 | ret u=>
  refine Zim hs λv σ' H' J rv q=>?_;clear hs;exact fin J rv q
 | next=>
  refine Zbg hs λσ' H' J q=>?_;clear hs;exact fin (v:=V.non) (u:=Value.none) J rfl q
 | brk=>
  refine Zbg hs λ_ _ _ q=>?_;clear hs;exact False.elim q
 | cont=>
  refine Zbg hs λ_ _ _ q=>?_;clear hs;exact False.elim q
section
variable {X:Cx}{x:Str}{p pos:Pos}{e:Expr}{es:List Expr}{t:TA}{id T:String}{r:List V->Hp->VK->Prop}
def tCB (r:List V->Hp->VK->Prop)(t:TA):TE:=λσ H Q=>t σ H λvs H1=>r vs H1 Q
theorem Zvg (hc:Zd9 X (.builtin id) r)(hg:Gl X x)(hm:X.mg x=none)(hv:bootBuiltins x=some (.builtin id))(ha:PA X (e::es) t)(hn:x ≠ "__name__" := by decide)(hdb:(x == ("__debug__" : Str))=false:=by decide)(he:starEach (e::es) X.env=(false,eval e X.env)::starEach es X.env:=by rfl)(hpl:(backTo pos (starEach es X.env)).any (·.1)=false:=by rfl):PE X (.Call (.Name x p) (e::es) [] pos) (tCB r t):=by
 intro pins s σ H Q I h;refine Jda (Ze7 I hg hm hv ?_ hn hdb);exact PyProof.Rows.callWith_builtin1 (thn (ha pos pins s σ H _ I h) λus s1 ⟨vs,H1,I1,r1,q1⟩=>hc pins s1 σ H1 vs us Q I1 r1 q1) he hpl
theorem Zr4 (hc:Zd9 X (.type T) r)(hg:Gl X x)(hm:X.mg x=none)(hv:bootBuiltins x=some (.type T))(ha:PA X (e::es) t)(hn:x ≠ "__name__" := by decide)(hdb:(x == ("__debug__" : Str))=false:=by decide)(he:starEach (e::es) X.env=(false,eval e X.env)::starEach es X.env:=by rfl)(hpl:(backTo pos (starEach es X.env)).any (·.1)=false:=by rfl):PE X (.Call (.Name x p) (e::es) [] pos) (tCB r t):=by
 intro pins s σ H Q I h;refine Jda (Ze7 I hg hm hv ?_ hn hdb);exact Jbh (thn (ha pos pins s σ H _ I h) λus s1 ⟨vs,H1,I1,r1,q1⟩=>hc pins s1 σ H1 vs us Q I1 r1 q1) he hpl
end
end L2
namespace HT
open PySem PyProof.Rows
section
open PySem.SeqAt
open PySem.AutoSeq1 (wpAny_loadPart')
open PySem.MeetsSeq PySem.MeetsSeq2 PySem.MeetsSeq3
end
section
variable {prog:Program}{w:World}{A:Around}{E:Value->Shared->Prop}{s:Shared}
def sIx (n d:Nat):Option Int->Nat
 | none=>d
 | some v=>if v<0 then (v+(n:Int)).toNat else min v.toNat n
end
end HT
namespace L2
open PySem PySem.Spec PyProof.Rows
abbrev TO:=St->Hp->(Option Int->Hp->Prop)->Prop
def PO (X:Cx)(e:Option Expr)(t:TO):Prop:=
 ∀ (pins:List (Addr×Obj)) (s:Shared) (σ:St) (H:Hp) (Q:Option Int->Hp->Prop),Inv X pins σ H s->t σ H Q->
  wpAny (model X.prog X.w) X.A (evalPart e X.env) (λu s'=>∃ o H',Inv X pins σ H' s'/\IsPart u o/\Q o H') X.xe s
def Zm6:TO:=λ_ H Q=>Q none H
def tPart (t:TE):TO:=λσ H Q=>t σ H λx H1=>∃ i,x=.int i/\Q (some i) H1
theorem Zp8 {ns:List Int}:∀ {us:List Value},Vals (ns.map V.int) us->IntsAre us ns:=by
 induction ns with
 | nil=>intro us r;rw[Jei] at r;cases r;exact .nil
 | cons n ns ih=>
  intro us r;rw[Ja8] at r;cases r with
  | cons r1 r2=>
   obtain⟨t,e⟩:=r1;subst e;exact .cons n t (ih r2)
section
variable {X:Cx}{e:Expr}{te:TE}{lo hi:Option Expr}{tl th:TO}{pos p2:Pos}
theorem Zet:PO X none Zm6:=by
 intro pins s σ H Q I h;rw[Jfo];exact Jal ⟨none,H,I,.none,h⟩
theorem Zcq (h:PE X e te):PO X (some e) (tPart te):=by
 intro pins s σ H Q I hw;rw[evalPart_some];refine thn (h pins s σ H _ I hw) λu s1 ⟨x,H1,I1,r1,q1⟩=>?_;refine Zah q1 λi e9110 q=>?_;clear q1;obtain rfl:=e9110;obtain⟨t,rfl⟩:=r1;exact Zav (some i) H1 ⟨I1,.int i t,q⟩
def SlR (X:Cx)(r:V->Option Int->Option Int->Hp->VK->Prop):Prop:=
 ∀ (pins:List (Addr×Obj)) (s:Shared) (σ:St) (H:Hp) (x:V) (v vl vu:Value) (lo hi:Option Int) (sl:Addr) (Q:VK),Inv X pins σ H s->RelV x v->s.heap.IsSliceOf sl vl vu .none->IsPart vl lo->IsPart vu hi->r x lo hi H Q->
  ∃ T id,typeLookup (.type T) "__getitem__" = pure (some (.builtin id))/\s.TypeIs v T/\wpAny (model X.prog X.w) X.A (getItem v (.ref sl)) (EP X pins σ Q) X.xe s
def tSl (r:V->Option Int->Option Int->Hp->VK->Prop)(te:TE)(tl th:TO):TE:=λσ H Q=>te σ H λx H1=>tl σ H1 λl H2=>th σ H2 λu H3=>r x l u H3 Q
theorem Zcg {r:V->Option Int->Option Int->Hp->VK->Prop}(hr:SlR X r)(he:PE X e te)(hl:PO X lo tl)(hu:PO X hi th):PE X (.Subscript e (.Slice lo hi none p2) pos) (tSl r te tl th):=by
 intro pins s σ H Q I h;refine Subscript_ (thn (he pins s σ H _ I h) λv s1 ⟨x,H1,I1,r1,q1⟩=>?_);refine wpAny_Slice (thn (hl pins s1 σ H1 _ I1 q1) λvl s2 ⟨l,H2,I2,pl,q2⟩=>thn (hu pins s2 σ H2 _ I2 q2) λvu s3 ⟨u,H3,I3,pu,q3⟩=>?_);rw[Jfo];refine Jal ?_;have I4:Inv X pins σ H3 { s3 with heap:=s3.heap.push { cls:=.type "slice",data:=.fields #[vl,vu,.none] } }:=I3.kept (t':=s3.toks) λb ob q=>Jad _ q;refine Za3 (hr pins { s3 with heap:=s3.heap.push { cls:=.type "slice",data:=.fields #[vl,vu,.none] } } σ H3 x v vl vu l u s3.heap.objs.size Q I4 r1 (Jez ..) pl pu q3) λT id hT ht hg=>?_;show wpAny (model X.prog X.w) X.A (subscriptTail e (.Slice lo hi none p2) v (.ref s3.heap.objs.size)) (EP X pins σ Q) X.xe { s3 with heap:=s3.heap.push { cls:=.type "slice",data:=.fields #[vl,vu,.none] } };exact tail_any (ops:=[.ref s3.heap.objs.size,v]) ht hT hg (by with_unfolding_all rfl)
def Zhw (xs:List V)(lo hi:Option Int):List V:=(xs.drop (HT.sIx xs.length 0 lo)).take (HT.sIx xs.length xs.length hi-HT.sIx xs.length 0 lo)
theorem Zds (xs:List V)(lo hi:Option Int):(Zhw xs lo hi).length<=xs.length:=by
 unfold Zhw;rw[Ja0,Jc9];omega
end
def ixN (n:Nat)(i:Int):Option Nat:=if 0<=i then (if i<n then some i.toNat else none) else if -(n:Int)<=i then some (i+n).toNat else none
def atI {α:Type}(xs:List α)(i:Int):Option α:=(ixN xs.length i).bind λj=>xs[j]?
theorem Zs8 {n:Nat}{i:Int}{j:Nat}(h:ixN n i=some j):seqIndex? i n=some j/\j<n/\-(n:Int)<=i/\i<n:=by
 unfold ixN at h;by_cases h0:0<=i
 .rw [if_pos h0] at h;by_cases h1:i<n
  .rw [if_pos h1] at h;have e:i.toNat=j:=Jbo h;exact⟨by rw[seqIndex_of h0 h1,e],∅,∅,h1⟩
  .rw [if_neg h1] at h;cases h
 .rw [if_neg h0] at h;by_cases h1:-(n:Int)<=i
  .rw [if_pos h1] at h;have e:(i+n).toNat=j:=Jbo h;exact⟨by rw[seqIndex_neg ∅ h1,e],∅,h1,∅⟩
  .rw [if_neg h1] at h;cases h
theorem Zue {α:Type}{xs:List α}{i:Int}{v:α}(h:atI xs i=some v):∃ j,seqIndex? i xs.length=some j/\xs[j]?=some v/\j<xs.length/\-(xs.length:Int)<=i/\i<xs.length:=by
 unfold atI at h;cases e:ixN xs.length i with
 | none=>rw[e] at h;cases h
 | some j=>
  rw[e] at h;refine Zbx (Zs8 e) λh1 h2 h3 h4=>?_;exact⟨j,h1,h,h2,h3,h4⟩
theorem atI_nat {α:Type}{xs:List α}{j:Nat}{v:α}(h:xs[j]?=some v):atI xs (j:Int)=some v:=by
 have hj:j<xs.length:=(Jah.mp h).1;have e:ixN xs.length (j:Int)=some j:=by
  unfold ixN;rw[if_pos ∅,if_pos ∅];simp
 unfold atI;rw[e];exact h
def PlainIx (b:Expr):Prop:=∀ o i,subscripted b false o i=operate [o,i] (getItem o i)
def IxR (X:Cx)(r:R2):Prop:=
 ∀ (value slice:Expr) (pins:List (Addr×Obj)) (s:Shared) (σ:St) (H:Hp) (x y:V) (v u:Value) (Q:VK),Inv X pins σ H s->RelV x v->RelV y u->r x y H Q->
  subscripted slice false v u=operate [v,u] (getItem v u)->wpAny (model X.prog X.w) X.A (subscriptTail value slice v u) (EP X pins σ Q) X.xe s
def MtR (X:Cx)(id:String)(r:V->List V->Hp->VK->Prop):Prop:=
 ∀ (pins:List (Addr×Obj)) (s:Shared) (σ:St) (H:Hp) (x:V) (xs:List V) (v:Value) (us:List Value) (Q:VK),Inv X pins σ H s->RelV x v->Vals xs us->r x xs H Q->
  wpAny (model X.prog X.w) X.A (call (.builtin id) (v::us)) (EP X pins σ Q) X.xe s
section
variable {X:Cx}{a b:Expr}{ta tb:TE}{pos:Pos}
theorem pe_ix {r:R2}(hr:IxR X r)(ha:PE X a ta)(hb:PE X b tb)(hs:PlainIx b):PE X (.Subscript a b pos) (tOp r ta tb):=by
 intro pins s σ H Q I h;exact Subscript_ (binT ha hb I h λv u s2 x y H2 I2 rx ry q=>hr a b pins s2 σ H2 x y v u Q I2 rx ry q (hs _ _))
def rIxL (K:Frag):R2:=λx y H Q=>∃ p xs i v,x=.ref p/\y=.int i/\SqL K H p xs/\atI xs i=some v/\Q v H
def rIxT (K:Frag):R2:=λx y H Q=>∃ p xs i v,x=.ref p/\y=.int i/\SqT K H p xs/\atI xs i=some v/\Q v H
theorem Za6:IxR X (rIxL X.K):=by
 intro value slice pins s σ H x y v u Q I rx ry h hs;refine Zdt h λp xs i z e9120 e9121 hq e9122=>?_;clear h;obtain rfl:=e9120;obtain rfl:=e9121;obtain⟨he,q⟩:=e9122;cases rx;obtain⟨t,rfl⟩:=ry;refine Zap (I.list hq) λits r pl hz=>?_;refine Zm3 (Zue he) λj h1 h2 h3 h4 h5=>?_;refine Zah (r.get h2) λw ew rw'=>?_;have hl:=r.length;have hn:=Zkd;have fin:EP X pins σ Q w s:=⟨z,H,I,rw',q⟩
 by_cases h0:0<=i
 .have hj:i.toNat=j:=by
   rw[seqIndex_of h0 h5] at h1;exact Jbo h1
  exact item_listR pl.isList h0 ∅ (by rw[hj];simpa using ew) fin hs
 .have hj:(i+(its.toArray.size:Int)).toNat=j:=by
   rw[seqIndex_neg ∅ h4] at h1;rw[Jaj,<- hl];exact Jbo h1
  exact subscriptTail_builtinR (x:=w) pl.isList.typeIs Jfe.lookup
   (wpAny_getItem_list_neg (Q:=λr s'=>r=w/\EP X pins σ Q r s') pl.isList ∅ (by rw[Jaj] <;> omega) ∅ (by rw[hj];simpa using ew) ⟨rfl,fin⟩) hs
theorem Zg6:IxR X (rIxT X.K):=by
 intro value slice pins s σ H x y v u Q I rx ry h hs;refine Zdt h λp xs i z e9123 e9124 hq e9125=>?_;clear h;obtain rfl:=e9123;obtain rfl:=e9124;obtain⟨he,q⟩:=e9125;cases rx;obtain⟨t,rfl⟩:=ry;refine Zap (I.tuple hq) λits r pl hz=>?_;refine Zm3 (Zue he) λj h1 h2 h3 h4 h5=>?_;refine Zah (r.get h2) λw ew rw'=>?_;have hl:=r.length;have hn:=Zkd;have fin:EP X pins σ Q w s:=⟨z,H,I,rw',q⟩
 exact subscriptTail_builtinR (x:=w) pl.typeIs slot_tuple_getitem.lookup
  (getItem_tuple (j:=j) (Q:=λr s'=>r=w/\EP X pins σ Q r s') pl ∅ ∅ (by rw[Jaj,<- hl];exact h1) (by simpa using ew) ⟨rfl,fin⟩) hs
theorem Zp0 (its:List Value)(n j:Nat)(u:Value):Obj.mapSeq (·.setIfInBounds j u) { cls:=.type "list",data:=.seq its.toArray n }={ cls:=.type "list",data:=.seq (its.set j u).toArray n }:=by
 simp[Obj.mapSeq]
theorem Inv.lst {pins:List (Addr×Obj)}{σ:St}{H:Hp}{s:Shared}{p:Addr}{xs:List V}(I:Inv X pins σ H s)(h:H p=some (.lst xs)):
  ∃ (its:List Value) (n:Nat),Vals xs its/\s.heap.get? p=some { cls:=.type "list",data:=.seq its.toArray n }/\xs.length<=sizeLine:=by
 obtain⟨z,its,n,r,e⟩:=I.hok p _ h;exact Zav its n ⟨r,e,z⟩
theorem Inv.lstUpd {pins:List (Addr×Obj)}{σ:St}{H:Hp}{s:Shared}{p:Addr}{xs ys:List V}{its its':List Value}{n n':Nat}{f:Obj->Obj}(I:Inv X pins σ H s)(h:H p=some (.lst xs))(ho:s.heap.get? p=some { cls:=.type "list",data:=.seq its.toArray n })(hf:f { cls:=.type "list",data:=.seq its.toArray n }={ cls:=.type "list",data:=.seq its'.toArray n' })(r:Vals ys its')(hz:ys.length<=sizeLine)(t:Nat):
  Inv X pins σ (upd H p (.lst ys)) { s with heap:=s.heap.update p f,toks:=t }:=by
 have e:(s.heap.update p f).get? p=some { cls:=.type "list",data:=.seq its'.toArray n' }:=by
  rw[Jb4 f ho (by rw[hf] <;> rfl),hf]
 refine I.write (x:=p) (e:=p) (by rw[h];trivial) (.inl rfl) (λb u hb q=>(Jbj _ _ (Jcs hb)).trans q) ⟨_,e⟩ ?_;exact⟨hz,its',n',r,e⟩
def rSetL:V->V->V->Hp->(Hp->Prop)->Prop:=λo i v H Q=>∃ p xs k j,o=.ref p/\i=.int k/\H p=some (.lst xs)/\ixN xs.length k=some j/\Q (upd H p (.lst (xs.set j v)))
theorem Zei:PSet X rSetL:=by
 intro pins s σ H o i v ov iv u Q I ro ri rv h;refine Zdt h λp xs k j e9129 e9130 hp e9131=>?_;clear h;obtain rfl:=e9129;obtain rfl:=e9130;obtain⟨hj,q⟩:=e9131;cases ro;obtain⟨t,rfl⟩:=ri;refine Za3 (I.lst hp) λits n r ho hz=>?_;refine Zbx (Zs8 hj) λh1 h2 h3 h4=>?_;have hl:=r.length;have hn:=Zkd;have I':Inv X pins σ (upd H p (.lst (xs.set j v))) { s with heap:=s.heap.update p (Obj.mapSeq (·.setIfInBounds j u)) }:=
  I.lstUpd hp ho (Zp0 its n j u) (r.set rv j) (by rw[List.length_set];exact hz) s.toks
 by_cases h0:0<=k
 .have hk:k.toNat=j:=by
   rw[seqIndex_of h0 h4] at h1;exact Jbo h1
  exact PySem.W.ki_setAt ho h0 ∅ (by rw[Jaj,<- hl];exact h4) (by rw[hk];exact⟨_,I',q⟩)
 .have hk:(k+(its.toArray.size:Int)).toNat=j:=by
   rw[seqIndex_neg ∅ h3] at h1;rw[Jaj,<- hl];exact Jbo h1
  exact PySem.W.ki_setBack ho ∅ (by rw[Jaj,<- hl];exact h3) ∅ (by rw[hk];exact⟨_,I',q⟩)
theorem Zl2 (lo hi:Option Int)(n:Nat):(sliceBounds lo hi none n).1=((HT.sIx n 0 lo:Nat):Int)/\(sliceBounds lo hi none n).2.1=((HT.sIx n n hi:Nat):Int)/\(sliceBounds lo hi none n).2.2=1:=by
 refine⟨?_,?_,rfl⟩
 .cases lo with
  | none=>simp[sliceBounds,HT.sIx]
  | some i=>
   simp only[sliceBounds,HT.sIx,Option.getD_none,show (1:Int) > 0 by decide,Jck];by_cases h:i<0
   .simp only [h,Jck] <;> omega
   .simp only [h,Jeo] <;> omega
 .cases hi with
  | none=>simp[sliceBounds,HT.sIx]
  | some i=>
   simp only[sliceBounds,HT.sIx,Option.getD_none,show (1:Int) > 0 by decide,Jck];by_cases h:i<0
   .simp only [h,Jck] <;> omega
   .simp only [h,Jeo] <;> omega
theorem Zks (its:List Value)(lo hi:Option Int):slicePick its.toArray lo hi none=((its.drop (HT.sIx its.length 0 lo)).take (HT.sIx its.length its.length hi-HT.sIx its.length 0 lo)).toArray:=by
 refine Zar (Zl2 lo hi its.toArray.size) λh1 h2 h3=>?_;unfold slicePick;rw[h1,h2,h3];simp only[sliceRange_one,pick_run,Jaj] <;> rfl
def rSlL (K:Frag):V->Option Int->Option Int->Hp->VK->Prop:=λx lo hi H Q=>∃ a xs,x=.ref a/\SqL K H a xs/\∀ p,H p=none->Q (.ref p) (upd H p (.lst (Zhw xs lo hi)))
theorem Zdg:SlR X (rSlL X.K):=by
 intro pins s σ H x v vl vu lo hi sl Q I rx hs pl pu h;refine Za3 h λa xs e9132 hx q=>?_;clear h;obtain rfl:=e9132;cases rx;refine Zap (I.list hx) λits r ht hz=>?_;have hlen:=r.length;refine Zav ("list") _ ⟨Jfe.lookup,ht.isList.typeIs,?_⟩;refine wpAny_getItem_list_slice ht.isList hs pl pu .none (by simp) ?_ (by rw[Jaj] <;> omega);rw[Zks,<- hlen];refine Zav (.ref s.heap.objs.size) _ ⟨I.laid (t':=s.toks) (o:=.lst (Zhw xs lo hi)) (λb ob q=>Jad _ q) (Jaf _) ?_,rfl,q _ (I.hok.fresh (Jaf _))⟩;exact⟨Jbf (Zds xs lo hi) hz,_,0,(r.drop (HT.sIx xs.length 0 lo)).take (HT.sIx xs.length xs.length hi-HT.sIx xs.length 0 lo),Ja2 _ rfl⟩
def Zif:V->Bool
 | .non=>true
 | .bl _=>true
 | .int _=>true
 | .str _=>true
 | _=>false
def eqV:V->V->Bool
 | .non,.non=>true
 | .bl a,.bl b=>a == b
 | .bl a,.int b=>(if a then 1 else 0) == b
 | .int a,.bl b=>a == (if b then 1 else 0)
 | .int a,.int b=>a == b
 | .str a,.str b=>a == b
 | _,_=>false
theorem Zxu {A:Around}{s:Shared}{y x:V}{u v:Value}(ry:RelV y u)(rx:RelV x v)(fy:Zif y=true)(fx:Zif x=true):SeqAt.EqAt A s u v (eqV y x):=by
 cases y with
 | non=>
  cases ry;cases x with
  | non=>cases rx;exact SeqAt.EqAt.same _
  | bl b=>cases rx;exact SeqAt.EqAt.none_bool b
  | int b=>obtain⟨t,rfl⟩:=rx;exact SeqAt.EqAt.none_int b t
  | str b=>obtain⟨t,rfl⟩:=rx;exact SeqAt.EqAt.none_str b t
  | _=>exact absurd (show false=true from fx) Jav
 | bl a=>
  cases ry;cases x with
  | non=>cases rx;exact SeqAt.EqAt.bool_none a
  | bl b=>cases rx;exact SeqAt.EqAt.bool_bool a b
  | int b=>obtain⟨t,rfl⟩:=rx;exact SeqAt.EqAt.bool_int a b t
  | str b=>obtain⟨t,rfl⟩:=rx;exact SeqAt.EqAt.bool_str a b t
  | _=>exact absurd (show false=true from fx) Jav
 | int a=>
  obtain⟨t',rfl⟩:=ry;cases x with
  | non=>cases rx;exact SeqAt.EqAt.int_none a t'
  | bl b=>cases rx;exact SeqAt.EqAt.int_bool a t' b
  | int b=>obtain⟨t,rfl⟩:=rx;exact SeqAt.EqAt.int_int a t' b t
  | str b=>obtain⟨t,rfl⟩:=rx;exact SeqAt.EqAt.int_str a t' b t
  | _=>exact absurd (show false=true from fx) Jav
 | str a=>
  obtain⟨t',rfl⟩:=ry;cases x with
  | non=>cases rx;exact SeqAt.EqAt.str_none a t'
  | bl b=>cases rx;exact SeqAt.EqAt.str_bool a t' b
  | int b=>obtain⟨t,rfl⟩:=rx;exact SeqAt.EqAt.str_int a t' b t
  | str b=>obtain⟨t,rfl⟩:=rx;exact SeqAt.EqAt.str_str a t' b t
  | _=>exact absurd (show false=true from fx) Jav
 | _=>exact absurd (show false=true from fy) Jav
def eqU (x:V)(u:Value):Bool:=match u with
 | .none=>eqV .non x
 | .bool b=>eqV (.bl b) x
 | .int i _=>eqV (.int i) x
 | .str z _=>eqV (.str z) x
 | _=>false
theorem Zxs {x y:V}{u:Value}(r:RelV y u)(f:Zif y=true):eqU x u=eqV y x:=by
 cases y with
 | non=>cases r;rfl
 | bl b=>cases r;rfl
 | int i=>obtain⟨t,rfl⟩:=r;rfl
 | str z=>obtain⟨t,rfl⟩:=r;rfl
 | _=>exact absurd (show false=true from f) Jav
theorem Zjr {x:V}:∀ {xs:List V} {us:List Value},Vals xs us->xs.all Zif=true->us.any (eqU x)=xs.any λy=>eqV y x
 | _,_,.nil,_=>rfl
 | y::xs,u::us,.cons r t,f=>by
  rw[Jdi,Jb5] at f;rw[Jdj,Jdj,Zxs r f.1,Zjr t f.2]
theorem Zg5 {A:Around}{s:Shared}{x:V}{v:Value}(rx:RelV x v)(fx:Zif x=true):∀ {xs:List V} {us:List Value},Vals xs us->xs.all Zif=true->∀ u∈us,SeqAt.EqAt A s u v (eqU x u)
 | _,_,.nil,_=>λu hu=>by cases hu
 | y::xs,u::us,.cons r t,f=>λu' hu=>by
  rw[Jdi,Jb5] at f;rcases Jax.mp hu with rfl|hu
  .rw [Zxs r f.1];exact Zxu r rx f.1 fx
  .exact Zg5 rx fx t f.2 u' hu
def inV (x:V)(xs:List V):Bool:=xs.any λy=>eqV y x
def rIn (K:Frag)(neg:Bool):R2:=λx y H Q=>∃ p xs,y=.ref p/\(SqL K H p xs\/SqT K H p xs)/\Zif x=true/\xs.all Zif=true/\Q (.bl (if neg then !inV x xs else inV x xs)) H
theorem Zmc:OpR X (compareOp .In) (rIn X.K false):=by
 intro pins s σ H x y v u Q I rx ry h;refine Zju h λp xs e9133 hq fx fs q=>?_;clear h;obtain rfl:=e9133;cases ry;rcases hq with hq|hq
 .refine Zap (I.list hq) λits r pl hz=>?_;refine SeqAt.in_listAt (eqU x) pl.isList (λw hw=>Zg5 rx fx r fs w (by simpa using hw)) ⟨.bl _,H,I,rfl,?_⟩;rw[show its.toArray.any (eqU x)=its.any (eqU x) by simp,Zjr r fs];exact q
 .refine Zap (I.tuple hq) λits r pl hz=>?_;refine SeqAt.in_tupleAt (eqU x) pl (λw hw=>Zg5 rx fx r fs w (by simpa using hw)) ⟨.bl _,H,I,rfl,?_⟩;rw[show its.toArray.any (eqU x)=its.any (eqU x) by simp,Zjr r fs];exact q
theorem Zmb:OpR X (compareOp .NotIn) (rIn X.K true):=by
 intro pins s σ H x y v u Q I rx ry h;refine Zju h λp xs e9134 hq fx fs q=>?_;clear h;obtain rfl:=e9134;cases ry;rcases hq with hq|hq
 .refine Zap (I.list hq) λits r pl hz=>?_;refine SeqAt.notIn_listAt (eqU x) pl.isList (λw hw=>Zg5 rx fx r fs w (by simpa using hw)) ⟨.bl _,H,I,rfl,?_⟩;rw[show its.toArray.any (eqU x)=its.any (eqU x) by simp,Zjr r fs];exact q
 .refine Zap (I.tuple hq) λits r pl hz=>?_;refine SeqAt.notIn_tupleAt (eqU x) pl (λw hw=>Zg5 rx fx r fs w (by simpa using hw)) ⟨.bl _,H,I,rfl,?_⟩;rw[show its.toArray.any (eqU x)=its.any (eqU x) by simp,Zjr r fs];exact q
theorem Zak:Zd9 X (.builtin "len") (λxs H Q=>∃ p ys,xs=[.ref p]/\(SqL X.K H p ys\/SqT X.K H p ys)/\Q (.int ys.length) H):=by
 intro pins s σ H xs us Q I r h;refine Za3 h λp ys e9137 hq q=>?_;clear h;obtain rfl:=e9137;refine Zah (Zkm r) λu e9138 rx=>?_;obtain rfl:=e9138;cases rx;have hn:=Zkd;rcases hq with hq|hq
 .refine Zap (I.list hq) λits r' pl hz=>?_;have hlen:=r'.length;exact Calls.call_len_list pl.isList (by simp only[Jaj] <;> omega) ⟨.int ys.length,H,I.tok _,⟨s.toks+1,by rw[Jaj,hlen]⟩,q⟩
 .refine Zap (I.tuple hq) λits r' pl hz=>?_;have hlen:=r'.length;exact len_tuple pl (by simp only[Jaj] <;> omega) ⟨.int ys.length,H,I.tok _,⟨s.toks+1,by rw[Jaj,hlen]⟩,q⟩
theorem Zbb:Zd9 X (.type "list") (λxs H Q=>∃ p ys,xs=[.ref p]/\(SqL X.K H p ys\/SqT X.K H p ys)/\∀ l,H l=none->Q (.ref l) (upd H l (.lst ys))):=by
 intro pins s σ H xs us Q I r h;refine Za3 h λp ys e9142 hq q=>?_;clear h;obtain rfl:=e9142;refine Zah (Zkm r) λu e9143 rx=>?_;obtain rfl:=e9143;cases rx;have fin:∀ (its:List Value),Vals ys its->ys.length<=sizeLine->∀ (h':Heap) (c':Nat),(∀ b o',s.heap.get? b=some o'->h'.get? b=some o')->
   h'.get? s.heap.objs.size=some { cls:=.type "list",dict:=none,data:=.seq its.toArray c',slots:=#[] }->EP X pins σ Q (.ref s.heap.objs.size) { s with heap:=h' }:=λits r' hz h' c' kp e=>
  ⟨.ref s.heap.objs.size,_,I.laid (t':=s.toks) kp (Jaf _) (show ObjOk X.prog X.w _ h' _ (.lst ys) from ⟨hz,its,c',r',e⟩),rfl,q _ (I.hok.fresh (Jaf _))⟩
 rcases hq with hq|hq
 .refine Zap (I.list hq) λits r' pl hz=>?_;have hlen:=r'.length;obtain⟨o,ho,hc,n,hd⟩:=pl.isList;exact call_list_seq p (.inl rfl) ho hc hd (λh' c' kp e=>fin its r' hz h' c' kp e) (by simp only[Jaj] <;> omega)
 .obtain ⟨its,r',pl,hz⟩:=I.tuple hq;have hlen:=r'.length;obtain⟨o,ho,hc,n,hd⟩:=pl;exact call_list_seq p (.inr rfl) ho hc hd (λh' c' kp e=>fin its r' hz h' c' kp e) (by simp only[Jaj] <;> omega)
def tyV (K:Frag)(T:String)(x:V)(H:Hp):Prop:=match x with
 | .str _=>T="str"
 | .int _=>T="int"
 | .ref p=>(T="list" /\ ∃ xs,SqL K H p xs)\/(T="tuple" /\ ∃ o,K.lookup p=some o/\o.cls=.type "tuple" /\ o.dict=none) \/
   (T="dict" /\ ((∃ kvs,H p=some (.dK kvs))\/∃ kvs,H p=some (.dT kvs)))\/(T="set" /\ ∃ S n,H p=some (.set S n))
 | _=>False
theorem Zw6 {pins:List (Addr×Obj)}{σ:St}{H:Hp}{s:Shared}{T:String}{x:V}{v:Value}(I:Inv X pins σ H s)(r:RelV x v)(ty:tyV X.K T x H):
  s.TypeIs v T/\∀ a,v=.ref a->∃ ob,s.heap.get? a=some ob/\ob.dict=none:=by
 cases x with
 | str z=>
  obtain⟨t,rfl⟩:=r;cases (show T="str" from ty);exact⟨typeIs_str s z t,λ_ e=>nomatch e⟩
 | int i=>
  obtain⟨t,rfl⟩:=r;cases (show T="int" from ty);exact⟨typeIs_int s i t,λ_ e=>nomatch e⟩
 | ref p=>
  cases r;rcases ty with ⟨rfl,xs,hq⟩|⟨rfl,o,hk,hc,hd⟩|⟨rfl,hk⟩|⟨rfl,S,n,hk⟩
  .refine Zap (I.list hq) λits _ pl _=>?_;refine⟨pl.isList.typeIs,λa e=>?_⟩;cases e;refine Zeh pl λo n e c hd _=>?_;clear pl;exact⟨o,e,hd⟩
  .refine ⟨⟨o,I.kIn p o hk,hc⟩,λa e=>?_⟩;cases e;exact⟨o,I.kIn _ o hk,hd⟩
  .have z:∃ o,s.heap.get? p=some o/\o.ExactDict:=by
    rcases hk with ⟨kvs,hk⟩|⟨kvs,hk⟩
    .refine Zar (I.hok p _ hk) λ_ _ e9144=>?_;obtain⟨_,_,o,_,_,e,ex,_⟩:=e9144;exact⟨o,e,ex⟩
    .refine Zar (I.hok p _ hk) λ_ _ e9145=>?_;obtain⟨_,_,o,_,_,e,ex,_⟩:=e9145;exact⟨o,e,ex⟩
   refine Zah z λo e ex=>?_;clear z;refine⟨⟨o,e,ex.1⟩,λa e2=>?_⟩;cases e2;exact⟨o,e,ex.2.1⟩
  .refine xE4_3 (I.hok p _ hk) λo _ _ _ e ex _=>?_;refine⟨⟨o,e,ex.1⟩,λa e2=>?_⟩;cases e2;exact⟨o,e,ex.2.1⟩
 | _=>exact False.elim ty
def tBM0 (K:Frag)(T:String)(r:V->List V->Hp->VK->Prop)(to:TE):TE:=λσ H Q=>to σ H λx H1=>tyV K T x H1/\r x [] H1 Q
def tBM (K:Frag)(T:String)(r:V->List V->Hp->VK->Prop)(to:TE)(t:TA):TE:=λσ H Q=>to σ H λx H1=>tyV K T x H1/\t σ H1 λxs H2=>r x xs H2 Q
variable {o e:Expr}{es:List Expr}{to:TE}{t:TA}{name:Str}{apos cpos:Pos}{T id:String}{r:V->List V->Hp->VK->Prop}
theorem pe_bm0 (pa:PlainAttrs T)(slot:Slot T name id)(hty:typeOf (.builtin id)=pure (.type "method_descriptor"))(hm:MtR X id r)(ho:PE X o to)(hbase:attributeBase o name X.env (eval o X.env)=eval o X.env:=by rfl)(hline:(apos.endLine == cpos.line)=true:=by rfl):PE X (.Call (.Attribute o name apos) [] [] cpos) (tBM0 X.K T r to):=by
 intro pins s σ H Q I h;refine wpAny_Call_method0_late hbase hline (thn (ho pins s σ H _ I h) λv s1 ⟨x,H1,I1,r1,ty,q1⟩=>?_);obtain⟨h1,h2⟩:=Zw6 I1 r1 ty;exact Zav T id ⟨pa,slot,hty,h1,h2,Calls.callWith_builtin rfl (PySem.evalArgs_none (hm pins s1 σ H1 x [] v [] Q I1 r1 .nil q1))⟩
theorem Zfp (pa:PlainAttrs T)(slot:Slot T name id)(hty:typeOf (.builtin id)=pure (.type "method_descriptor"))(hm:MtR X id r)(ho:PE X o to)(ha:PA X (e::es) t)(hbase:attributeBase o name X.env (eval o X.env)=eval o X.env:=by rfl)(hfew:((backTo cpos (starEach (e::es) X.env)).all (λx=>!x.1) && (backToKw cpos (keywordEach [] X.env)).all (λx=>x.1.isSome)
   && decide ((e::es).length+([]:List Keyword).length+(if ([]:List Keyword).isEmpty then 0 else 1)<30))=true:=by rfl)(hline:(apos.endLine == cpos.line)=true:=by rfl)(hs:starEach (e::es) X.env=(false,eval e X.env)::starEach es X.env:=by rfl)(hplain:(backTo cpos (starEach es X.env)).any (·.1)=false:=by rfl):
  PE X (.Call (.Attribute o name apos) (e::es) [] cpos) (tBM X.K T r to t):=by
 intro pins s σ H Q I h;refine wpAny_Call_method_late hbase hfew hline rfl (thn (ho pins s σ H _ I h) λv s1 ⟨x,H1,I1,r1,ty,q1⟩=>?_);obtain⟨h1,h2⟩:=Zw6 I1 r1 ty;refine Zav T id ⟨pa,slot,hty,h1,h2,?_⟩;have hA:=ha cpos pins s1 σ H1 _ I1 q1;rw[hs] at hA ⊢;refine Calls.callWith_builtin (by show (false || (backTo cpos (starEach es X.env)).any (·.1))=false;rw[hplain] <;> rfl) (Calls.evalArgs_plain ?_);exact thn hA λus s2 ⟨vs,H2,I2,r2,q2⟩=>hm pins s2 σ H2 x vs v us Q I2 r1 r2 q2
end
def MtM (X:Cx)(id:String)(r:V->List V->Hp->VK->Prop):Prop:=
 ∀ (pins:List (Addr×Obj)) (s:Shared) (σ:St) (H:Hp) (x:V) (xs:List V) (v:Value) (us:List Value) (Q:VK),Inv X pins σ H s->RelV x v->Vals xs us->r x xs H Q->
  wpAny (model X.prog X.w) X.A (call (.builtin id) (v::us)) (EP X pins σ Q) X.xe s
theorem Vals.one:∀ {x:V} {us:List Value},Vals [x] us->∃ u,us=[u]/\RelV x u
 | _,_,.cons r .nil=>⟨_,rfl,r⟩
theorem Vals.zero:∀ {us:List Value},Vals [] us->us=[]
 | _,.nil=>rfl
theorem Vals.dropLast {xs:List V}{us:List Value}(h:Vals xs us):Vals xs.dropLast us.dropLast:=by
 induction h with
 | nil=>exact .nil
 | cons r t ih=>
  cases t with
  | nil=>exact .nil
  | cons q t'=>exact .cons r ih
theorem Vals.eraseIdx:∀ {xs:List V} {us:List Value} (i:Nat),Vals xs us->Vals (xs.eraseIdx i) (us.eraseIdx i)
 | _,_,_,.nil=>.nil
 | _,_,0,.cons _ t=>t
 | _,_,i+1,.cons r t=>.cons r (Vals.eraseIdx i t)
theorem Vals.reverse {xs:List V}{us:List Value}(h:Vals xs us):Vals xs.reverse us.reverse:=by
 induction h with
 | nil=>exact .nil
 | cons r t ih=>rw[List.reverse_cons,List.reverse_cons];exact Vals.append ih (.cons r .nil)
theorem Vals.rep {xs:List V}{us:List Value}(h:Vals xs us):∀ k:Nat,Vals (List.replicate k xs).flatten (List.replicate k us).flatten
 | 0=>.nil
 | k+1=>by
  rw[Jc8,Jc8,Jdk,Jdk];exact Vals.append h (Vals.rep h k)
theorem Zjj {α:Type}:∀ (l:List α) (i:Nat),(l.eraseIdx i).length<=l.length
 | [],_=>Jaf _
 | _::_,0=>Jfn _
 | _::r,i+1=>Nat.succ_le_succ (Zjj r i)
theorem Zml (its:List Value):∀ (k:Nat) (acc:List Value),
  List.foldl (λx1 x2=>x1++x2) acc.toArray (List.replicate k its.toArray)=(acc++(List.replicate k its).flatten).toArray
 | 0,acc=>by simp
 | k+1,acc=>by
  have e:acc.toArray++its.toArray=(acc++its).toArray:=by simp
  have e2:(acc++its)++(List.replicate k its).flatten=acc++(List.replicate (k+1) its).flatten:=by
   rw[Jc8,Jdk,Jd4]
  rw[<- e2,<- Zml its k (acc++its),<- e,Jc8,List.foldl_cons]
section
variable {X:Cx}{pins:List (Addr×Obj)}{σ:St}{H:Hp}{s:Shared}{l b:Addr}{xs ys zs:List V}
theorem Inv.lset {its its':List Value}{n:Nat}{f:Array Value->Array Value}{t':Nat}(I:Inv X pins σ H s)(hH:H l=some (.lst xs))(e:s.heap.get? l=some { cls:=.type "list",data:=.seq its.toArray n })(hf:f its.toArray=its'.toArray)(hv:Vals ys its')(hz:ys.length<=sizeLine):
  Inv X pins σ (upd H l (.lst ys)) { s with heap:=s.heap.update l (Obj.mapSeq f),toks:=t' }:=by
 have q:=PySem.IsL.update e f;rw[hf] at q;refine I.write (x:=l) (e:=l) (by rw[hH];exact trivial) (.inl rfl) (λb' u hb hu=>(Jbj s.heap (Obj.mapSeq f) (Jcs hb)).trans hu) ⟨_,q⟩ ?_;exact⟨hz,its',_,hv,q⟩
theorem Inv.lnew {its:List Value}{t':Nat}(I:Inv X pins σ H s)(hv:Vals ys its)(hz:ys.length<=sizeLine):
  Inv X pins σ (upd H s.heap.objs.size (.lst ys)) { s with heap:=s.heap.push { cls:=.type "list",data:=.seq its.toArray },toks:=t' }:=
 I.laid (λ_ _ q=>Jad _ q) (Jaf _) ⟨hz,its,0,hv,Ja2 _ rfl⟩
theorem Inv.fresh (I:Inv X pins σ H s):H s.heap.objs.size=none:=I.hok.fresh (Jaf _)
theorem Inv.lstM (I:Inv X pins σ H s)(hH:H l=some (.lst xs)):xs.length<=sizeLine/\∃ (its:List Value) (n:Nat),Vals xs its/\xs.length=its.length/\s.heap.get? l=some { cls:=.type "list",data:=.seq its.toArray n }:=by
 obtain⟨z,its,n,r,e⟩:=I.hok l _ hH;exact⟨z,its,n,r,r.length,e⟩
theorem Zoz {n:Nat}(h:n<=sizeLine):Builtin.List.listTooLong n=false:=by
 unfold Builtin.List.listTooLong;exact Ja5 ∅
end
section
variable {X:Cx}
def Zk1:V->List V->Hp->VK->Prop:=λx vs H Q=>∃ l xs y,x=.ref l/\vs=[y]/\H l=some (.lst xs)/\xs.length<sizeLine/\Q .non (upd H l (.lst (xs++[y])))
theorem Zb5:MtM X "list.append" Zk1:=by
 intro pins s σ H x vs v us Q I rx rv h;refine Zb3 h λl xs y e9146 e9147 hH e9148=>?_;clear h;obtain rfl:=e9146;obtain rfl:=e9147;obtain⟨hz,q⟩:=e9148;cases rx;refine Zah rv.one λu e9149 ru=>?_;obtain rfl:=e9149;obtain⟨z,its,n,r,hl,e⟩:=I.lstM hH;refine Jeq F.slot_list_append ⟨_,e,rfl⟩ F.entry_list_append (F.args_list_append_2 _ _) (PySem.list_append l its.toArray n u (by rw[Jaj];omega)) ⟨e,?_⟩;refine Zav .non _ ⟨I.lset (its':=its++[u]) hH e (by simp) (r.append (.cons ru .nil)) ?_,rfl,q⟩;rw[Jak,List.length_singleton];omega
def rExtend:V->List V->Hp->VK->Prop:=λx vs H Q=>∃ l b xs zs,x=.ref l/\vs=[.ref b]/\H l=some (.lst xs)/\H b=some (.lst zs)/\xs.length+zs.length<=sizeLine/\Q .non (upd H l (.lst (xs++zs)))
theorem Zjh:MtM X "list.extend" rExtend:=by
 intro pins s σ H x vs v us Q I rx rv h;refine Zdt h λl b xs zs e9150 e9151 hH e9152=>?_;clear h;obtain rfl:=e9150;obtain rfl:=e9151;refine Zar e9152 λhB hz q=>?_;clear e9152;cases rx;refine Zah rv.one λu e9153 ru=>?_;obtain rfl:=e9153;cases ru;obtain⟨z,its,n,r,hl,e⟩:=I.lstM hH;obtain⟨z2,its2,n2,r2,hl2,e2⟩:=I.lstM hB;have hsz:its.toArray.size+its2.toArray.size<=sizeLine:=by rw[Jaj,Jaj];omega
 have hlong:¬ (!its.toArray.isEmpty && Builtin.List.listTooLong (its.toArray.size+its2.toArray.size))=true:=by
  rw[Zoz hsz,Bool.and_false];exact Jav
 refine Jeq F.slot_list_extend ⟨_,e,rfl⟩ F.entry_list_extend (F.args_list_extend_2 _ _)
  (AutoSeq1.list_extend_list_list_0 l its.toArray n b its2.toArray n2 hlong (by rw[Jaj];omega) ∅) ⟨e,e2,?_⟩
 refine Zav .non _ ⟨I.lset (its':=its++its2) hH e (by simp) (r.append r2) ?_,rfl,q⟩;rw[Jak];omega
def rPop:V->List V->Hp->VK->Prop:=λx vs H Q=>∃ l xs y,x=.ref l/\vs=[]/\H l=some (.lst xs)/\xs[xs.length-1]?=some y/\Q y (upd H l (.lst xs.dropLast))
def Zrt:V->List V->Hp->VK->Prop:=λx vs H Q=>∃ l xs i k y,x=.ref l/\vs=[.int i]/\H l=some (.lst xs)/\-(2 ^ 63)<=i/\i<2 ^ 63/\seqIndex? i xs.length=some k/\xs[k]?=some y/\Q y (upd H l (.lst (xs.eraseIdx k)))
theorem Zv5:MtM X "list.pop" Zrt:=by
 intro pins s σ H x vs v us Q I rx rv h;refine Zcx h λl xs i k y e9157 e9158 hH e9159=>?_;clear h;obtain rfl:=e9157;obtain rfl:=e9158;refine Zdu e9159 λh1 h2 hk hy q=>?_;clear e9159;cases rx;refine Zah rv.one λu e9160 ru=>?_;obtain rfl:=e9160;obtain⟨t,rfl⟩:=ru;obtain⟨z,its,n,r,hl,e⟩:=I.lstM hH;refine Zah (r.get hy) λw hw rw'=>?_;refine Jeq F.slot_list_pop ⟨_,e,rfl⟩ F.entry_list_pop (F.args_list_pop_2 _ _)
  (MeetsSeq.list_pop_at l its.toArray n i t k w (fitsIndex_both h1 h2) (by rw[Jaj,<- hl];exact hk) (by rw[<- Array.getElem?_toList];exact hw) (by rw[Jaj];omega)) ⟨e,?_⟩
 refine Zav y _ ⟨I.lset (its':=its.eraseIdx k) hH e ?_ (r.eraseIdx k) ?_,rw',q⟩
 .show its.toArray.eraseIdxIfInBounds k=(its.eraseIdx k).toArray;rw[Jd5]
 .have:=Zjj xs k;omega
def rCat:R2:=λx y H Q=>∃ l b xs zs,x=.ref l/\y=.ref b/\H l=some (.lst xs)/\H b=some (.lst zs)/\xs.length+zs.length<=sizeLine/\∀ p,H p=none->Q (.ref p) (upd H p (.lst (xs++zs)))
theorem Zgb:OpR X (binaryOp .Add) rCat:=by
 intro pins s σ H x y v u Q I rx ry h;refine Zdt h λl b xs zs e9165 e9166 hH e9167=>?_;clear h;obtain rfl:=e9165;obtain rfl:=e9166;refine Zar e9167 λhB hz q=>?_;clear e9167;cases rx;cases ry;obtain⟨z,its,n,r,hl,e⟩:=I.lstM hH;obtain⟨z2,its2,n2,r2,hl2,e2⟩:=I.lstM hB;refine PySem.P.add_list e e2 ?_ (by rw[Jaj,Jaj];omega);have ea:its.toArray++its2.toArray=(its++its2).toArray:=by simp
 rw[ea];exact Zav (.ref _) _ ⟨I.lnew (t':=s.toks) (r.append r2) (by rw[Jak];omega),rfl,q _ I.fresh⟩
def rRep:R2:=λx y H Q=>∃ l k xs,x=.ref l/\y=.int k/\H l=some (.lst xs)/\-(2 ^ 63)<=k/\k<2 ^ 63/\xs.length*k.toNat<=sizeLine /\
 ∀ p,H p=none->Q (.ref p) (upd H p (.lst (List.replicate k.toNat xs).flatten))
theorem len_rep {α:Type}(xs:List α)(k:Nat):(List.replicate k xs).flatten.length=k*xs.length:=by
 induction k with
 | zero=>simp
 | succ k ih=>rw[Jc8,Jdk,Jak,ih,Nat.succ_mul,Nat.add_comm]
theorem Zma:OpR X (binaryOp .Mult) rRep:=by
 intro pins s σ H x y v u Q I rx ry h;refine Zb3 h λl k xs e9168 e9169 hH e9170=>?_;clear h;obtain rfl:=e9168;obtain rfl:=e9169;refine Zbx e9170 λh1 h2 hz q=>?_;clear e9170;cases rx;obtain⟨t,rfl⟩:=ry;obtain⟨z,its,n,r,hl,e⟩:=I.lstM hH;have hlen:its.toArray.size*k.toNat<=sizeLine:=by rw[Jaj,<- hl];exact hz
 have hcap:¬ its.toArray.size*k.toNat > (2 ^ 63-1) / 8:=by
  have:(sizeLine:Nat)<=(2 ^ 63-1) / 8:=⇑0
  omega
 have hfit:¬ (!Builtin.List.listFitsIndex k)=true:=by
  rw[fitsIndex_both h1 h2];exact Jav
 have hlong:¬ Builtin.List.listTooLong (its.toArray.size*k.toNat)=true:=by
  rw[Zoz hlen];exact Jav
 have hnew:List.foldl (λx1 x2=>x1++x2) #[] (List.replicate (if its.toArray.isEmpty=true then 0 else k.toNat) its.toArray)=(List.replicate k.toNat its).flatten.toArray:=by
  have f0:∀ m:Nat,List.foldl (λx1 x2=>x1++x2) #[] (List.replicate m its.toArray)=(List.replicate m its).flatten.toArray:=λm=>by
   have:=Zml its m [];rw[List.nil_append] at this;exact this
  rw[f0];cases its with
  | nil=>simp
  | cons a r'=>rw[if_neg (by simp)]
 refine wpAny_binaryOp_repeat_ref (T:="list") (U:="int") ⇑0 ⟨_,e,rfl⟩ (λs'=>typeIs_int s' k t) noFill_list_mul F.fills_int_mul F.slot_int_rmul repeat_list F.slot_int_index.lookup
  (Jeq F.slot_int_rmul (typeIs_int s k t) F.entry_int_rmul (F.args_int_rmul_2 _ _) (int___rmul___int_list k t l its.toArray n)
   ⟨e,rfl,⟨_,e,rfl⟩,Jeq F.slot_list_mul ⟨_,e,rfl⟩ F.entry_list_mul (F.args_list_mul_2 _ _) (AutoListH.list___mul___list_int_3 l its.toArray n k t hfit hcap hlong) ⟨e,?_⟩⟩)
 rw[hnew];exact Zav (.ref _) _ ⟨I.lnew (t':=s.toks) (r.rep k.toNat) (by rw[len_rep,Nat.mul_comm];exact hz),rfl,q _ I.fresh⟩
end
section
variable {prog:Program}{w:World}{A:Around}{E:Value->Shared->Prop}{s:Shared}
end
section
variable {X:Cx}
end
end L2
namespace Att
open PySem PySem.W PySem.Calls PyProof.Rows
theorem Zjm {P:Params}{h:Heap}:∀ (ns:List Int) (vs:List Value),WellAll P h vs (ns.map WData.int)->IntsAre vs ns:=by
 intro ns
 induction ns with
 | nil=>
  intro vs w;rw[Jei] at w;cases w;exact .nil
 | cons n ns ih=>
  intro vs w;rw[Ja8] at w;cases w with
  | cons a b=>
   cases a;exact .cons _ _ (ih _ b)
theorem Zri {l:OpenLaw}{n:Nat}(hn:l.most=some n){P:Params}{h:Heap}{args:List WData}{vals:List Value}(hpre:l.row.toRowW.claim.pre args=true)(hwl:WellAll P h vals args):
  ∃ a vs ns,vals=[Value.ref a]/\args=[WData.list (ns.map WData.int)]/\h.get? a=some { cls:=.type "list",data:=.seq vs.toArray }/\IntsAre vs ns/\ns.length<=n:=by
 have hsh:WShape.hasAll [] args [.list .int]=true:=(pre_splitW hpre).1;have hc:l.pre.holds [] { args:=args }=true:=(pre_splitW hpre).2;obtain⟨d,r,rfl,h1,h2⟩:=hasAllW_cons hsh;obtain rfl:=hasAllW_nil h2;obtain⟨xs,rfl,h3⟩:=hasW_list h1;obtain⟨ns,rfl⟩:=items_int h3;have hlen:ns.length<=n:=by
  unfold OpenLaw.pre at hc;have h4:(WTm.not (.lt (.lit (.int (n:Int))) (.len (.arg 0)))).holds [] { args:=[.list (ns.map .int)] }=true:=by
   have h4:=(holds_andW hc).1;rw[hn] at h4;exact h4
  have h5:=condW_of h4 (w_not (w_lt w_lit (w_len_list (w_arg rfl))));rw[Jab] at h5;refine Nat.le_of_not_lt λq=>?_;have q':(n:Int)<((ns.length:Nat):Int):=∅
  first
   | (rw[Jag q'] at h5;exact absurd h5 ⇑0)
   | (simp at h5;omega)
 cases hwl with
 | cons w1 w2=>
  cases w2;cases w1 with
  | list ho hall=>exact⟨_,_,ns,rfl,rfl,ho,Zjm ns _ hall,hlen⟩
theorem Zrw (l:OpenLaw)(args:List WData):l.row.toRowW.claim.post args (.bool true) args=true:=
 postW_of (r:=l.row.toRowW) (X:=(true == true))
  (show WShape.has [] (.bool true) .bool=true by first|rfl|decide|simp[WShape.has,WShape.arms,WShape.armsAll])
  (show (WTm.eq .res (.lit (.bool true))).value [] { args:=args,res:=some (.bool true),after:=args }=some (.bool (true == true)) from w_eq_bool (w_res rfl) w_lit) rfl
theorem attach_call {l:OpenLaw}{n:Nat}{q:Program}{loose:List Str}{XP:(Str->Option Value)->Heap->Prop}{YP:World->Heap->Prop}{d:DefRec}(hn:l.most=some n)(hdf:d.params.defaults=[])(call:∀ (w:World) (s₀ s₁:Shared) (mg mb:Str->Option Value) (fa:Addr) (o:Obj) (pm cd doc:Value) (a:Addr) (vs:List Value) (ns:List Int),
   Ground q loose [] XP w s₀ mg mb s₁.heap->YP w s₁.heap->
   s₁.heap.get? fa=some o->o.data=.func (docDef d.name d.params d.body d.scope pm cd doc)->s₁.heap.CodeRec cd d.name->mg d.name=some (.ref fa)->
   s₁.heap.get? a=some { cls:=.type "list",data:=.seq vs.toArray }->IntsAre vs ns->ns.length<=n->s₁.gens=#[]->
   codeAny (model l.prog w) callerA (.call (.ref fa) ⟨[.ref a],[]⟩) (λr s'=>r=.ok (.ret (.bool true))/\OldK s₁.heap s'.heap/\s'.os=s₁.os/\AllBare s'.gens) s₁):
  WalkO q loose XP YP l.row.toRowW d [] (λf vs=>PySem.call f vs):=by
 intro w s₀ s₁ mg mb G Y fa o pm cd doc dV kV ho hd hcd hD hmg hg args vals as hpre hlay hrd hwl hlo;obtain rfl:dV=.none:=Dflts.none hD hdf;obtain rfl:kV=.none:=Dflts.noKw hD;obtain⟨a,vs,ns,rfl,rfl,hobj,hints,hlen⟩:=Zri hn hpre hwl;refine enter_call (Jeh (call w s₀ s₁ mg mb fa o pm cd doc a vs ns G Y ho (fd_plain hd) hcd hmg hobj hints hlen hg) λr s' hq=>?_);obtain⟨rfl,h2,h3,h4⟩:=hq;exact⟨.inl ⟨.bool true,.bool true,[],rfl,λ_=>rfl,.bool true,Zrw l _,λ_=>⟨List.Pairwise.nil,λ_ hm=>(nomatch hm)⟩⟩,h2,h3,h4⟩
section
variable {prog:Program}{w:World}{A:Around}{E:Value->Shared->Prop}{s:Shared}{K:Frag}
end
end Att
namespace L2
open PySem PySem.Spec PyProof.Rows
theorem Zlu:∀ {vs:List Value} {ns:List Int},IntsAre vs ns->Vals (ns.map V.int) vs
 | _,_,.nil=>.nil
 | _,_,.cons n t h=>.cons ⟨t,rfl⟩ (Zlu h)
def Only (H:Hp):Prop:=∀ b,H b=none\/∃ o xs,H b=some (.frz o (.lst xs))
theorem Zwa {P:Program}{w:World}{K:Frag}{mg mb:Str->Option Value}{CX:CXT}{k:Nat}{fa a:Addr}{fd:FuncData}{x:Str}{sp:Sp}{s₁:Shared}{vs:List Value}{ns:List Int}(KX:K.In s₁.heap)(hns:s₁.heap.Ns mainGlobals mg)(hb:s₁.heap.Ns builtinsNs mb)(hbb:∀ x:Str,x ≠ "__name__" -> mb x=bootBuiltins x)(hlim:s₁.heap.NoLimit)(hseer:s₁.heap.NoSeer)(hbm:∃ bm ob,mg "__builtins__" = some (.ref bm)/\bm≠builtinsNs/\s₁.heap.get? bm=some ob/\ob.cls=.type "module" /\ ob.dict=some builtinsNs/\ob.data=.plain)(hg:s₁.gens=#[])(ha:s₁.heap.get? a=some { cls:=.type "list",data:=.seq vs.toArray })(hi:IntsAre vs ns)(hl:ns.length<=sizeLine)(hr:Room k callerA)(F:∀ base:Heap,K.In base->base.Ns mainGlobals mg->FnOk P w K mg base CX k fa fd [x] sp)(hbind:∀ (s:Shared) (u:Value),BindsTo s fd ⟨[u],[]⟩ [(x,u)])(hsp:∀ H:Hp,Only H->SqL K H a (ns.map V.int)->sp [.ref a] H (λv _=>v=.bl true) λ_ _ _=>False)(hCX:∀ H e s',CX [] H s₁ (λ_ _ _=>False) e s'->False):
  codeAny (model P w) callerA (.call (.ref fa) ⟨[.ref a],[]⟩) (λr s'=>r=.ok (.ret (.bool true))/\OldK s₁.heap s'.heap/\s'.os=s₁.os/\AllBare s'.gens) s₁:=by
 have rv:=Zlu hi;have lenV:=hi.length
 -- from an abstract heap in which nothing but the script may be tracked
 have core:∀ H:Hp,Only H->SqL K H a (ns.map V.int)->HOk P w H s₁.heap->(∀ b,H b≠none->b=a)->(H a≠none->K.lookup a=none)->
   codeAny (model P w) callerA (.call (.ref fa) ⟨[.ref a],[]⟩) (λr s'=>r=.ok (.ret (.bool true))/\OldK s₁.heap s'.heap/\s'.os=s₁.os/\AllBare s'.gens) s₁:=by
  intro H hO hS hok hA hK;have Zfr:∀ {b:Addr} {o:Obj},s₁.heap.get? b=some o->H b=none->(Zuk s₁.heap H).get? b=some o:=λe n=>Zwl e n;have noA:∀ {b:Addr} {o:Obj} {es:Array DictEntry} {ep:Nat},s₁.heap.get? b=some o->o.data=.dict es ep->H b=none:=λ{b o es ep} e d=>by
   cases q:H b with
   | none=>rfl
   | some u=>
    have e':b=a:=hA b (by rw[q];simp);subst e';rw[ha] at e;cases e;have d':Data.seq vs.toArray _=Data.dict es ep:=d;cases d'
  have nsK:∀ {b:Addr} {m:Str->Option Value},s₁.heap.Ns b m->(Zuk s₁.heap H).Ns b m:=λ{b m} ⟨o,es,ep,e,d,r⟩=>⟨o,es,ep,Zfr e (noA e d),d,r⟩
  have hKb:K.In (Zuk s₁.heap H):=λb o e=>Zfr (KX b o e) (by
   cases q:H b with
   | none=>rfl
   | some u=>
    have e':b=a:=hA b (by rw[q];simp);subst e';rw[hK (by rw[q];simp)] at e;cases e)
  have seerB:(Zuk s₁.heap H).NoSeer:=⟨let ⟨mc,x,y⟩:=hseer.statics;⟨mc,nsK x,y⟩,let ⟨mc,x,y⟩:=hseer.mods;⟨mc,nsK x,y⟩,let ⟨mc,x,y⟩:=hseer.imp;⟨mc,nsK x,y⟩,let ⟨mg',bm,ob,x,y,z,u,v⟩:=hseer.main;⟨mg',bm,ob,nsK x,y,Zfr z (by
   cases q:H bm with
   | none=>rfl
   | some o=>
    have e':bm=a:=hA bm (by rw[q];simp);subst e';rw[ha] at z;cases z;have u':Value.type "list" = Value.type "module" := u
    injection u' with u'
    exact absurd u' ⇑0),u,v⟩⟩
  have hM:Mod K mg (Zuk s₁.heap H):=⟨hKb,nsK hns,⟨mb,nsK hb,hbb⟩,let ⟨mc,h1,h2⟩:=hlim;⟨mc,nsK h1,h2⟩,seerB,let ⟨bm,ob,x1,x2,x3,x4,x5,x6⟩:=hbm;⟨bm,ob,x1,x2,Zfr x3 (by
   cases q:H bm with
   | none=>rfl
   | some o=>
    have e':bm=a:=hA bm (by rw[q];simp);subst e';rw[ha] at x3;cases x3;cases x6),x4,x5,x6⟩⟩
  have e0:Env0 P w K mg (Zuk s₁.heap H) callerA [] s₁ H:=⟨rfl,hM,λb o e=>of_hidT e,Nat.le_of_eq (Zti _ _),trivial,λb hb=>absurd (show b∈([]:List Addr) from hb) (by simp),hok,.of_eq hg⟩
  refine Jeh ((F _ hKb (nsK hns)).run callerA [] s₁ H ⟨[.ref a],[]⟩ [.ref a] [.ref a] _ _ hr e0 (hbind s₁ (.ref a)) (.cons rfl .nil) (hsp H hO hS)) λr s' h=>?_;cases r with
  | error e=>exact (hCX H e s' h).elim
  | ok fl=>
   cases fl with
   | next=>exact False.elim h
   | brk=>exact False.elim h
   | cont=>exact False.elim h
   | ret u=>
    refine Zqq h λv H' os bare un hok' r' q=>?_;clear h;have q':v=.bl true:=q;subst q';obtain rfl:u=Value.bool true:=r';refine⟨rfl,OldK.of_keep λb o e=>?_,os,bare⟩;cases q:H b with
    | none=>exact un.keep b o e q (by intro z;exact absurd (show b∈([]:List Addr) from z) (by simp)) (by simp)
    | some u=>
     rcases hO b with z|⟨ob,xs,z⟩
     .rw [q] at z;cases z
     .have z2:=un.frzs b ob _ z;obtain⟨e1,_⟩:=hok b _ z;obtain⟨e2,_⟩:=hok' b _ z2;rw[e] at e1;cases e1;exact e2
 cases hk:K.lookup a with
 | some o=>
  -- the script is one of the module's own objects
  have e:=KX a o hk;rw[ha] at e;cases e;refine core (λ_=>none) (λ_=>.inl rfl) (.inr ⟨_,vs.toArray,_,hk,rfl,rfl,rfl,by rw[Jaj,lenV];exact hl,by simpa using rv⟩) (λb u z=>by have z':(none:Option HO)=some u:=z;cases z') (λb z=>absurd rfl z) λz=>absurd rfl z
 | none=>
  refine core (λb=>if b=a then some (.frz { cls:=.type "list",data:=.seq vs.toArray } (.lst (ns.map V.int))) else none) (λb=>?_) (.inl (.inr ⟨{ cls:=.type "list",data:=.seq vs.toArray },if_pos rfl⟩)) (λb u z=>?_) (λb z=>?_) λ_=>hk
  .by_cases hb:b=a
   .exact .inr ⟨_,_,if_pos hb⟩
   .exact .inl (if_neg hb)
  .by_cases hb:b=a
   .have z':=(if_pos hb).symm.trans z;cases z';subst hb;exact⟨ha,by rw[Jab];exact hl,vs,_,rv,ha⟩
   .have z':=(if_neg hb).symm.trans z;cases z'
  .by_cases hb:b=a
   .exact hb
   .exact absurd (if_neg hb) z
theorem walk_of {l:PySem.W.OpenLaw}{n k:Nat}{q:Program}{loose:List Str}{XP:(Str->Option Value)->Heap->Prop}{YP:World->Heap->Prop}{d:DefRec}{K:Params->Frag}{CX:World->CXT}{sp:World->Sp}{x:Str}(hq:importsNone q=true)(hn:l.most=some n)(hn2:n<=sizeLine)(hdf:d.params.defaults=[])(hr:Room k callerA)(hY:∀ (w:World) (h:Heap),YP w h->(K w.params).In h)(F:∀ (w:World) (mg:Str->Option Value) (fa:Addr) (h:Heap),(K w.params).In h->h.Ns mainGlobals mg->mg d.name=some (.ref fa)->
   ∃ fd:FuncData,(∀ (s:Shared) (u:Value),BindsTo s fd ⟨[u],[]⟩ [(x,u)]) /\
    ∀ base:Heap,(K w.params).In base->base.Ns mainGlobals mg->FnOk l.prog w (K w.params) mg base (CX w) k fa fd [x] (sp w))(hsp:∀ (w:World) (H:Hp) (a:Addr) (ns:List Int),ns.length<=n->Only H->SqL (K w.params) H a (ns.map V.int)->sp w [.ref a] H (λv _=>v=.bl true) λ_ _ _=>False)(hCX:∀ (w:World) (H:Hp) (s:Shared) (e:Value) (s':Shared),CX w [] H s (λ_ _ _=>False) e s'->False):
  PySem.W.WalkO q loose XP YP l.row.toRowW d [] (λf vs=>PySem.call f vs):=by
 refine Att.attach_call hn hdf λw s₀ s₁ mg mb fa o pm cd doc a vs ns G Y ho hd hcd hmg hobj hints hlen hg=>?_;have KX:=hY w _ Y;refine Zah (F w mg fa _ KX G.T.g hmg) λfd hb hF=>?_;exact Zwa KX G.T.g G.T.b G.T.builtins G.T.nolimit (G.T.seer hq) G.T.bmain hg hobj hints (Jbf hlen hn2) hr hF hb (λH hO hS=>hsp w H a ns hlen hO hS) λH e s'=>hCX w H s₁ e s'
def Zex (s:Stmt)(j:Nat):Stmt:=match s with
 | .ClassDef _ _ _ body _ _ _ _ _ _ _=>body.getD j (.Pass ⟨0,0,0,0⟩)
 | _=>.Pass ⟨0,0,0,0⟩
def Zd7 (s:Stmt):Arguments:=match s with
 | .FunctionDef _ a _ _ _ _ _ _ _ _=>a
 | _=>{ posonlyargs:=[],args:=[],vararg:=none,kwonlyargs:=[],kw_defaults:=[],kwarg:=none,defaults:=[] }
def Zci (s:Stmt):List Stmt:=match s with
 | .FunctionDef _ _ b _ _ _ _ _ _ _=>b
 | _=>[]
def Zae (s:Stmt):Scope:=match s with
 | .FunctionDef _ _ _ _ _ _ sc _ _ _=>sc
 | _=>{ kind:=.function,names:=[],isGenerator:=false,isCoroutine:=false }
abbrev CX0:CXT:=λ_ _ _ _ _ _=>False
abbrev E0:XK:=λ_ _ _=>False
theorem Zpw {X:Cx}:Zeg CX0 X E0:=λ_ _ _ _ _ _ _ h=>h.elim
structure Fun (K:Frag)(x qual:Str)(st:Stmt)(f:Addr)(fd:FuncData):Prop where
 ex:∃ (oc:Value) (od:Option Addr) (kV doc pm:Value) (an:Option Addr) (cdv ct:Value) (osl:Array (Option Value)),
  fd=PySem.W.fnOf x qual (Zd7 st) (Zci st) (Zae st) .none kV doc pm an cdv ct/\K.lookup f=some ⟨oc,od,.func fd,osl⟩/\PySem.W.codeIn K cdv qual=true
 kp:PySem.W.keepIn K (.ref f)=true
section
theorem Fun.ok {x qual:Str}{st:Stmt}{f:Addr}{fd:FuncData}{N ps:List Str}{k:Nat}{sp:Sp}(F:Fun K x qual st f fd)(S:FnScope N ps (Zae st))(len:∀ vs H Q E,sp vs H Q E->vs.length=ps.length)(hbody:∀ (cdv:Value) (A:Around) (outer:List Env) (s:Shared) (H:Hp) (vs:List V) (Q:VK) (E:XK),Room k (A.deeper (envOfC qual (Zae st) s.heap.objs.size f cdv))->sp vs H Q E->
   ∃ t,PSs (Zny CX0 P w K mg base N qual (Zae st) f cdv A outer s H E).nox (Zci st) t/\t { nx:=λ_ H'=>Q .non H',rt:=Q } (start N vs) H):FnOk P w K mg base CX0 (k+1) f fd ps sp:=by
 refine Zqp F.ex λoc od kV doc pm an cdv ct osl e9171 lk hcd=>?_;obtain rfl:=e9171;refine fn_of lk hcd S len λA outer s H vs Q E hr hsp=>?_;refine Zah (hbody cdv A outer s H vs Q E hr hsp) λt h q=>?_;exact⟨t,h.nox,q⟩
theorem Fun.binds {x qual:Str}{st:Stmt}{f:Addr}{fd:FuncData}{ps:List Str}(F:Fun K x qual st f fd)(h:∀ (kV doc pm:Value) (an:Option Addr) (cdv ct:Value) (us:List Value),us.length=ps.length->bindArgs (PySem.W.fnOf x qual (Zd7 st) (Zci st) (Zae st) .none kV doc pm an cdv ct) ⟨us,[]⟩=pure (ps.zip us)):Binds K fd ps []:=by
 refine Zqp F.ex λoc od kV doc pm an cdv ct osl e9172 lk hcd=>?_;obtain rfl:=e9172;exact .all (h kV doc pm an cdv ct)
theorem fun_mk {x qual:Str}{st:Stmt}{f:Addr}{oc:Value}{od an:Option Addr}{osl:Array (Option Value)}{kV doc pm cdv ct:Value}(l:K.lookup f=some ⟨oc,od,.func (PySem.W.fnOf x qual (Zd7 st) (Zci st) (Zae st) .none kV doc pm an cdv ct),osl⟩)(c:PySem.W.codeIn K cdv qual=true)(k:PySem.W.keepIn K (.ref f)=true):Fun K x qual st f (PySem.W.fnOf x qual (Zd7 st) (Zci st) (Zae st) .none kV doc pm an cdv ct):=⟨⟨oc,od,kV,doc,pm,an,cdv,ct,osl,rfl,l,c⟩,k⟩
end
theorem Zaj {n:Nat}(h:n<=1000):n<sizeLine:=Je0 h ⇑0
section
variable {X:Cx}
theorem pv (i:Nat){x:Str}{pos:Pos}(hN:X.N[i]?=some x:=by rfl)(hv:Vis X.env.scope x:=by first|exact Or.inl rfl|exact Or.inr (Or.inl rfl)|exact Or.inr (Or.inr rfl))(hd:(x == ("__debug__" : Str))=false:=by decide)(hcd:(x == ("__classdict__" : Str))=false:=by decide):PE X (.Name x pos) (Zlz i):=pe_var hN hv hd hcd
end
theorem Zwf {A B:Prop}(h:B):if false=true then A else B:=by
 rw[if_neg Jav];exact h
theorem iteT {A B:Prop}(h:A):if true=true then A else B:=by
 rw[if_pos rfl];exact h
theorem Zc6 {c A B:Prop}[Decidable c](h1:c->A)(h2:¬ c->B):if c then A else B:=by
 by_cases h:c
 .rw [if_pos h];exact h1 h
 .rw [if_neg h];exact h2 h
def Same (H H':Hp):Prop:=∀ b o,H b=some o->H' b=some o
theorem Same.refl (H:Hp):Same H H:=λ_ _ h=>h
theorem Same.trans {H H1 H2:Hp}(a:Same H H1)(b:Same H1 H2):Same H H2:=λc o h=>b c o (a c o h)
theorem Same.free {H H':Hp}(e:Same H H'){l:Addr}(h:H' l=Option.none):H l=Option.none:=by
 cases q:H l with
 | none=>rfl
 | some o=>
  rw[e l o q] at h;cases h
theorem Same.seq {K:Frag}{H H':Hp}{a:Addr}{xs:List V}(e:Same H H')(h:SqL K H a xs):SqL K H' a xs:=by
 rcases h with (h|⟨o,h⟩)|h
 .exact .inl (.inl (e _ _ h))
 .exact .inl (.inr ⟨o,e _ _ h⟩)
 .exact .inr h
theorem Zwx {x:Str}{c:Addr}:∀ (names:List (Str×NameKind)) (n:Nat) (acc:List (Str×Addr)),(cellsFrom n names acc).lookup x=some c->n<=c\/acc.lookup x=some c
 | [],_,_,h=>.inr h
 | (y,k)::r,n,acc,h=>by
  unfold cellsFrom at h;split at h
  .rcases Zwx r (n+1) _ h with z|z
   .exact .inl (Jcr z)
   .rw [Jbc] at z;cases e:x == y with
    | true=>rw[e] at z;cases z;exact .inl (Jaf _)
    | false=>rw[e] at z;exact .inr z
  .exact Zwx r n acc h
theorem Zt6 {x:Str}{c:Addr}:∀ (names:List (Str×NameKind)) (n:Nat) (acc:List (Str×Addr)),(x,NameKind.cell)∈names->(cellsFrom n names acc).lookup x=some c->n<=c
 | [],_,_,m,_=>nomatch m
 | (y,k)::r,n,acc,m,h=>by
  unfold cellsFrom at h;split at h
  .by_cases m':(x,NameKind.cell)∈r
   .exact Jcr (Zt6 r (n+1) _ m' h)
   .have e:(x,NameKind.cell)=(y,k):=(Jax.mp m).resolve_right m';cases e;rcases Zwx r (n+1) _ h with z|z
    .exact Jcr z
    .rw [Jbc,beq_self_eq_true] at z;cases z;exact Jaf _
  .rename_i hk
   have m':(x,NameKind.cell)∈r:=by
    rcases Jax.mp m with e|m'
    .cases e;exact absurd rfl hk
    .exact m'
   exact Zt6 r n acc m' h
theorem Zt7 {x:Str}:∀ {names:List (Str×NameKind)} {n:Nat} {acc:List (Str×Addr)},(x,NameKind.cell)∉names->(cellsFrom n names acc).lookup x=acc.lookup x
 | [],_,_,_=>rfl
 | (y,k)::r,n,acc,h=>by
  unfold cellsFrom;have hr:(x,NameKind.cell)∉r:=λm=>h (Ja9 _ m);split
  .rename_i hk
   have hy:(x == y)=false:=by
    cases e:x == y with
    | false=>rfl
    | true=>
     exfalso;refine h ?_;rw[Jbt.mp e,Jbt.mp hk];exact Jb3
   rw[Zt7 hr,Jbc,hy]
  .exact Zt7 hr
theorem Zt8:∀ (names:List (Str×NameKind)) (n:Nat) (acc:List (Str×Addr)),(∀ x c,acc.lookup x=some c->c<n)->(∀ x y c,acc.lookup x=some c->acc.lookup y=some c->x=y)->
  ∀ x y c,(cellsFrom n names acc).lookup x=some c->(cellsFrom n names acc).lookup y=some c->x=y
 | [],_,_,_,hi=>hi
 | (z,k)::r,n,acc,hl,hi=>by
  unfold cellsFrom;split
  .refine Zt8 r (n+1) _ (λx c h=>?_) (λx y c h1 h2=>?_)
   .rw [Jbc] at h;cases e:x == z with
    | true=>rw[e] at h;cases h;exact Jdp _
    | false=>rw[e] at h;exact Jd6 (hl x c h)
   .rw [Jbc] at h1 h2;cases e1:x == z with
    | true=>
     rw[e1] at h1;cases h1;cases e2:y == z with
     | true=>rw[Jbt.mp e1,Jbt.mp e2]
     | false=>rw[e2] at h2;exact absurd (hl y _ h2) (Jbv _)
    | false=>
     rw[e1] at h1;cases e2:y == z with
     | true=>rw[e2] at h2;cases h2;exact absurd (hl x _ h1) (Jbv _)
     | false=>rw[e2] at h2;exact hi x y c h1 h2
  .exact Zt8 r n acc hl hi
theorem Zn4 {x:Str}{c:Addr}:∀ (names:List (Str×NameKind)) (h:Heap) (acc:List (Str×Addr)),(cellsFrom h.objs.size names acc).lookup x=some c->(pushCells h names).IsCell c none\/acc.lookup x=some c
 | [],_,_,z=>.inr z
 | (y,k)::r,h,acc,z=>by
  unfold cellsFrom at z;unfold pushCells;split at z
  .rename_i hk
   rw[if_pos hk];have z':(cellsFrom (h.push { cls:=.type "cell",data:=.cell none }).objs.size r ((y,h.objs.size)::acc)).lookup x=some c:=by rw[Jcg];exact z
   rcases Zn4 r _ _ z' with q|q
   .exact .inl q
   .rw [Jbc] at q;cases e:x == y with
    | true=>
     rw[e] at q;cases q;exact .inl ⟨_,pushCells_keeps _ _ _ _ (Ja2 _ rfl),rfl⟩
    | false=>rw[e] at q;exact .inr q
  .rename_i hk
   rw[if_neg hk];exact Zn4 r h acc z
theorem Zn3 {env:Env}(f:Str×NameKind->List (Str×Addr)->Sem (ForInStep (List (Str×Addr))))(hf:∀ name kind cs,f (name,kind) cs=if kind == .free then (do let a <- cellOf env name;pure (.yield ((name,a)::cs))) else pure (.yield cs)):
  ∀ (names:List (Str×NameKind)) (acc:List (Str×Addr)),(∀ y∈names,y.2=.free->∃ c,env.cells.lookup y.1=some c)->(∀ x c,acc.lookup x=some c->env.cells.lookup x=some c)->
  ∃ cl,forIn names acc f=pure cl/\(∀ x c,cl.lookup x=some c->env.cells.lookup x=some c)/\(∀ y∈names,y.2=.free->∃ c,cl.lookup y.1=some c)/\∀ x c,acc.lookup x=some c->∃ c',cl.lookup x=some c'
 | [],acc,_,ha=>⟨acc,rfl,ha,(λ_ m=>nomatch m),λx c e=>⟨c,e⟩⟩
 | (y,k)::r,acc,h,ha=>by
  rw[List.forIn_cons,hf];have hr:∀ y∈r,y.2=NameKind.free->∃ c,env.cells.lookup y.1=some c:=λz m=>h z (Ja9 _ m);by_cases hk:(k == NameKind.free)=true
  .obtain ⟨c,hc⟩:=h (y,k) Jb3 (Jbt.mp hk);have e:cellOf env y=pure c:=by unfold cellOf;rw[hc]
   rw[if_pos hk,e,pure_bind,pure_bind];have ha':∀ x d,((y,c)::acc).lookup x=some d->env.cells.lookup x=some d:=λx d e=>by
    rw[Jbc] at e;cases e1:x == y with
    | true=>rw[e1] at e;cases e;rw[Jbt.mp e1];exact hc
    | false=>rw[e1] at e;exact ha x d e
   refine Zm4 (Zn3 f hf r ((y,c)::acc) hr ha') λcl q1 q2 q3 q4=>?_;refine⟨cl,q1,q2,λz m hz=>?_,λx d e=>?_⟩
   .rcases Jax.mp m with e|m
    .subst e;exact q4 y c (by rw[Jbc,beq_self_eq_true])
    .exact q3 z m hz
   .by_cases e1:(x == y)=true
    .exact q4 x c (by rw[Jbc,e1])
    .exact q4 x d (by rw[Jbc];simp only[e1];exact e)
  .rw [if_neg hk,pure_bind];refine Zm4 (Zn3 f hf r acc hr ha) λcl q1 q2 q3 q4=>?_;refine⟨cl,q1,q2,λz m hz=>?_,q4⟩;rcases Jax.mp m with e|m
   .subst e;exact absurd (Jbt.mpr hz) hk
   .exact q3 z m hz
theorem Zlj {scope:Scope}{env:Env}(h:∀ y∈scope.names,y.2=.free->∃ c,env.cells.lookup y.1=some c):
  ∃ cl,closureFor scope env=pure cl/\(∀ x c,cl.lookup x=some c->env.cells.lookup x=some c)/\∀ y∈scope.names,y.2=.free->∃ c,cl.lookup y.1=some c:=by
 obtain⟨cl,q1,q2,q3,_⟩:=Zn3 (env:=env) (λx cs=>if x.2 == .free then (do let a <- cellOf env x.1;pure (.yield ((x.1,a)::cs))) else pure (.yield cs)) (λ_ _ _=>rfl) scope.names [] h (λ_ _ e=>nomatch e);refine⟨cl,?_,q2,q3⟩;unfold closureFor;have e:(λ(x:Str×NameKind) (r:List (Str×Addr))=>(match x with
   | (name,kind)=>if (kind == NameKind.free)=true then (do let __do_lift <- cellOf env name;pure (ForInStep.yield ((name,__do_lift)::r))) else pure (ForInStep.yield r):Sem (ForInStep (List (Str×Addr))))) =
   λx cs=>if x.2 == .free then (do let a <- cellOf env x.1;pure (.yield ((x.1,a)::cs))) else pure (.yield cs):=by
  funext x cs
  rfl
 have q:(forIn scope.names ([]:List (Str×Addr)) λ(x:Str×NameKind) (r:List (Str×Addr))=>(match x with
   | (name,kind)=>if (kind == NameKind.free)=true then (do let __do_lift <- cellOf env name;pure (ForInStep.yield ((name,__do_lift)::r))) else pure (ForInStep.yield r):Sem (ForInStep (List (Str×Addr)))))=pure cl:=by
  rw[e];exact q1
 simpa using q
theorem Zfq {M:Model}{A:Around}{E:Value->Shared->Prop}{s:Shared}{scope:Scope}{globals:Addr}{cl:List (Str×Addr)}{qual:Str}{env:Env}{Q:Env->Shared->Prop}(hQ:∀ h',h'.Ns s.heap.objs.size (λ_=>none)->(∀ b o,s.heap.get? b=some o->h'.get? b=some o)->
   (∀ x c,(cellsFrom (s.heap.objs.size+1) scope.names cl).lookup x=some c->h'.IsCell c none\/cl.lookup x=some c)->
   Q { scope,locals:=s.heap.objs.size,globals,cells:=cellsFrom (s.heap.objs.size+1) scope.names cl,qual,func:=none,code:=env.code,frame:=env.frame,builtins:=env.builtins } { s with heap:=h' }):
  wpAny M A (newFunctionEnv scope globals cl [] qual none .none (some env)) Q E s:=by
 simp only[newFunctionEnv,Option.isSome_some,Jck];refine Jac (wpAny_alloc ?_);refine Jac (wpAny_layCells _ (λname kind cells=>by cases hkc:kind == NameKind.cell <;> simp[hkc]) _ _ _ _ ?_);have hsz:(s.heap.push { cls:=.type "dict",data:=.dict #[] }).objs.size=s.heap.objs.size+1:=Jcg ..;have q:=hQ (pushCells (s.heap.push { cls:=.type "dict",data:=.dict #[] }) scope.names) ((Heap.Ns.new s.heap (.type "dict")).keeps (pushCells_keeps _ _)) (λb o e=>pushCells_keeps _ _ b o (Jad _ e))
  (λx c e=>Zn4 scope.names (s.heap.push { cls:=.type "dict",data:=.dict #[] }) cl (by rw[hsz];exact e))
 show wpAny _ _ _ _ _ _;rw[show ({ s with heap:=s.heap.push { cls:=.type "dict",data:=.dict #[] } }:Shared).heap.objs.size=s.heap.objs.size+1 from hsz];exact Jac (Jal (Jal q))
theorem Zh8 {env:Env}{x:Str}:∀ {names:List (Str×NameKind)},names.lookup x=some .free->
  (names.map λ(n,k)=>if (k == NameKind.free && env.scope.kind == .function && env.kindOf n == some .cell) then (n,NameKind.cell) else (n,k)).lookup x=some .cell \/
  (names.map λ(n,k)=>if (k == NameKind.free && env.scope.kind == .function && env.kindOf n == some .cell) then (n,NameKind.cell) else (n,k)).lookup x=some .free
 | [],h=>by simp at h
 | (n,k)::r,h=>by
  have ih:=@Zh8 env x r;show List.lookup x ((if (k == NameKind.free && env.scope.kind == .function && env.kindOf n == some .cell)=true then (n,NameKind.cell) else (n,k))::_)=_\/List.lookup x ((if (k == NameKind.free && env.scope.kind == .function && env.kindOf n == some .cell)=true then (n,NameKind.cell) else (n,k))::_)=_;cases hx:x == n with
  | true=>
   simp only[Jbc,hx] at h;cases h;split <;> simp[Jbc,hx]
  | false=>
   simp only[Jbc,hx] at h;split <;> (simp only[Jbc,hx];exact ih h)
theorem Zfn {env:Env}{x:Str}{kd:NameKind}:∀ {names:List (Str×NameKind)},
  (names.map λ(n,k)=>if (k == NameKind.free && env.scope.kind == .function && env.kindOf n == some .cell) then (n,NameKind.cell) else (n,k)).lookup x=some kd->
  names.lookup x=some kd\/names.lookup x=some .free
 | [],h=>by simp at h
 | (n,k)::r,h=>by
  have ih:=@Zfn env x kd r;have h':List.lookup x ((if (k == NameKind.free && env.scope.kind == .function && env.kindOf n == some .cell)=true then (n,NameKind.cell) else (n,k))::(r.map λ(n,k)=>if (k == NameKind.free && env.scope.kind == .function && env.kindOf n == some .cell) then (n,NameKind.cell) else (n,k)))=some kd:=h;cases hx:x == n with
  | true=>
   by_cases hc:(k == NameKind.free && env.scope.kind == .function && env.kindOf n == some .cell)=true
   .have hk:k=.free:=by
     have:=(Jb5 _ _ ▸ (Jb5 _ _ ▸ hc).1).1;exact Jbt.mp this
    subst hk;exact .inr (by simp[Jbc,hx])
   .rw [if_neg hc] at h';simp only[Jbc,hx] at h';cases h';exact .inl (by simp[Jbc,hx])
  | false=>
   have h2:List.lookup x (r.map λ(n,k)=>if (k == NameKind.free && env.scope.kind == .function && env.kindOf n == some .cell) then (n,NameKind.cell) else (n,k))=some kd:=by
    split at h' <;> simpa only [Jbc,hx] using h'
   rcases ih h2 with z|z
   .exact .inl (by simp only[Jbc,hx];exact z)
   .exact .inr (by simp only[Jbc,hx];exact z)
def Zcm (X:Cx)(N:List Str)(scope:Scope)(cl:List (Str×Addr))(s:Shared)(H:Hp)(fp:List Addr):Cx where
 prog:=X.prog
 w:=X.w
 K:=X.K
 mg:=X.mg
 base:=X.base
 A:=X.A
 N:=N
 s₀:=s
 H₀:=H
 env:={ scope:=relabel scope X.env,locals:=s.heap.objs.size,globals:=X.env.globals,cells:=cellsFrom (s.heap.objs.size+1) scope.names cl,qual:=X.env.qual,func:=none,code:=X.env.code,frame:=X.env.frame,builtins:=X.env.builtins }
 outer:=X.stack
 stack:=X.stack
 ex:=fp
 fn:=λx=>scope.names.lookup x == some .cell
 calm:=X.calm
 pn:=[]
 xe:=λ_ _=>False
structure BlScope (X:Cx)(scope:Scope)(own:List Str)(fr:List (Str×Nat)):Prop where
 kind:scope.kind=.function
 free:∀ y∈scope.names,y.2=.free->X.env.scope.names.lookup y.1=some .cell\/X.env.scope.names.lookup y.1=some .free
 loc:∀ y∈scope.names,y.2=.local->scope.names.lookup y.1=some .local
 look:∀ y∈scope.names,scope.names.lookup y.1=some y.2
 cap:∀ y∈fr,scope.names.lookup y.1=some .free/\X.N[y.2]?=some y.1
def Ze9 (k:Nat)(fr:List (Str×Nat))(σ:St):St:=List.replicate k none++fr.map λy=>(σ[y.2]?).getD none
def Zcj (own:List Str)(fr:List (Str×Nat)):List Str:=own++fr.map (·.1)
section
variable {X:Cx}{pins:List (Addr×Obj)}{σ:St}{H:Hp}{s:Shared}
theorem Zjl {scope:Scope}{own:List Str}{fr:List (Str×Nat)}{cl:List (Str×Addr)}{fp:List Addr}{h':Heap}(I:Inv X pins σ H s)(B:BlScope X scope own fr)(hcl:∀ x c,cl.lookup x=some c->X.env.cells.lookup x=some c)(hcl2:∀ y∈scope.names,y.2=.free->∃ c,cl.lookup y.1=some c)(hfp:∀ b∈fp,Zlp X pins H b)(hfo:∀ b∈fp,∃ o,s.heap.get? b=some o)(hn:h'.Ns s.heap.objs.size (λ_=>none))(hk:∀ b o,s.heap.get? b=some o->h'.get? b=some o)(hc:∀ x c,(cellsFrom (s.heap.objs.size+1) scope.names cl).lookup x=some c->h'.IsCell c none\/cl.lookup x=some c):
  Inv (Zcm X (Zcj own fr) scope cl s H fp) [] (Ze9 own.length fr σ) H { s with heap:=h' }:=by
 have clt:∀ x c,cl.lookup x=some c->c<s.heap.objs.size:=λx c e=>by
  obtain⟨v,z⟩:=I.cell x c (hcl x c e);exact z.lt
 have ownC:∀ x c,(cellsFrom (s.heap.objs.size+1) scope.names cl).lookup x=some c->s.heap.objs.size+1<=c\/cl.lookup x=some c:=λx c e=>Zwx _ _ _ e;have bsz:X.base.objs.size<=s.heap.objs.size:=Jbf I.ok.bsz I.sz;refine⟨⟨I.ok.mod,B.kind,I.ok.glob,I.ok.blt,Jaf _,?_,?_,?_,I.ok.hd,I.ok.frames,.inl rfl,?_,I.bs,bsz,?_,?_,I.stack,I.stkFree,I.ok.top⟩,rfl,I.bare,Un.kept hk,⟨_,hn,?_⟩,?_,I.hok.fresh (Jaf _),?_,?_,I.hok.kept hk,?_⟩
 .exact Zt8 _ _ _ (λx c e=>Jd6 (clt x c e)) λx y c e1 e2=>I.ok.inj x y c (hcl x c e1) (hcl y c e2)
 .intro x hx;have hx:(relabel scope X.env).names.lookup x=some .cell\/(relabel scope X.env).names.lookup x=some .free:=hx;have q:scope.names.lookup x=some .cell\/scope.names.lookup x=some .free:=by
   rcases hx with z|z
   .exact Zfn z
   .exact (Zfn z).elim .inr .inr
  refine Jce.mp (Jcu scope.names _ _ ?_);rcases q with z|z
  .exact .inl z
  .obtain ⟨c,e⟩:=hcl2 _ (Jb8 z) rfl;exact .inr (by rw[e];rfl)
 .intro x c hf e;have hf:(scope.names.lookup x == some .cell)=true:=hf;exact Jcr (Zt6 _ _ _ (Jb8 (Jbt.mp hf)) e)
 .intro b hb;obtain⟨o,ho⟩:=hfo b hb;refine⟨Ja1 (Jae ho),λx c e=>?_⟩;rcases ownC x c e with z|z
  .intro q;subst q;exact absurd (Ja3 (Jae ho) (Jcr z)) (Jbv _)
  .exact (hfp b hb).2.2.2.2.1 x c (hcl x c z)
 .intro b o e hb;rcases (hfp b hb).2.2.2.1 with z|z
  .exact I.ok.noex b o e z
  .exact absurd (Ja3 (Jae e) (Jbf I.ok.bsz z)) (Jbv _)
 .intro b hb z;rcases Jax.mp (I.stkSub b z) with q|q
  .exact (hfp b hb).2.1 q
  .exact (hfp b hb).2.2.1 q
 .intro i x v h1 h2 h3;have h1:(Zcj own fr)[i]?=some x:=h1;unfold Zcj at h1;unfold Ze9 at h2;by_cases hi:i<own.length
  .rw [Jar (by rw[Ja4];exact hi),Jby,if_pos hi] at h2;cases h2
  .have hi':own.length<=i:=Nat.le_of_not_lt hi;rw[Jat hi',Jau] at h1;rw[Jat (by rw[Ja4];exact hi'),Ja4,Jau] at h2;cases e:fr[i-own.length]? with
   | none=>rw[e] at h1;cases h1
   | some y=>
    rw[e] at h1 h2;have hy1:y.1=x:=Jbo h1;have hy2:(σ[y.2]?).getD none=some v:=Jbo h2;obtain⟨c1,c2⟩:=B.cap y (Jai e);rw[hy1] at c1 c2;have hs:σ[y.2]?=some (some v):=by
     cases e2:σ[y.2]? with
     | none=>rw[e2] at hy2;cases hy2
     | some o=>rw[e2] at hy2;cases o with
      | none=>cases hy2
      | some w=>cases hy2;rfl
    refine Zah I.loc λm hm hl=>?_;have hfree:=B.free _ (Jb8 c1) rfl;refine Zah (hl y.2 x v c2 hs (hfree.elim (λz=>.inr (.inl z)) λz=>.inr (.inr z))) λu r l=>?_;refine⟨u,r,?_⟩;obtain⟨k,c,e3,z⟩:(X.env.kindOf x=some .cell\/X.env.kindOf x=some .free)/\∃ c,X.env.cells.lookup x=some c/\s.heap.IsCell c (some u):=by
     rcases l with ⟨k,_⟩|q
     .have k:X.env.scope.names.lookup x=some .local:=k;rcases hfree with z|z <;> (rw[z] at k;cases k)
     .exact q
    obtain⟨d,hd⟩:=hcl2 _ (Jb8 c1) rfl;have hd':=hcl x d hd;rw[e3] at hd';cases hd';obtain⟨c',hc'⟩:∃ c',(cellsFrom (s.heap.objs.size+1) scope.names cl).lookup x=some c':=Jce.mp (Jcu scope.names _ _ (.inr (by rw[hd];rfl)));have hcc:c'=c:=by
     rcases ownC x c' hc' with q|q
     .-- an own cell of that name: it is free,so no
      exfalso;have:(x,NameKind.cell)∉scope.names:=λm=>by
       have:=B.look _ m;rw[c1] at this;cases this
      exact absurd hc' (by
       rw[Zt7 this];intro z;rw[hd] at z;cases z;exact absurd (clt x _ hd) (Nat.not_lt.mpr (Jcr q)))
     .rw [hd] at q;cases q;rfl
    subst hcc;refine .inr ⟨?_,c',hc',z.keeps hk⟩;exact Zh8 c1
 .intro x c e;rcases hc x c e with z|z
  .exact ⟨_,z⟩
  .obtain ⟨v,q⟩:=I.cell x c (hcl x c z);exact⟨v,q.keeps hk⟩
 .intro x c e;rcases ownC x c e with z|z
  .exact I.hok.fresh (Jcr z)
  .exact I.freeC x c (hcl x c z)
 .intro p hp;exact absurd (show p∈([]:List (Addr×Obj)) from hp) (by simp)
 .show (Ze9 _ _ _).length=(Zcj _ _).length;unfold Ze9 Zcj;simp
end
def PTs (X:Cx)(ifs:List Expr)(t:TT):Prop:=
 ∀ (pins:List (Addr×Obj)) (s:Shared) (σ:St) (H:Hp) (Q:Bool->Hp->Prop),Inv X pins σ H s->t σ H Q->
  wpAny (model X.prog X.w) X.A (forIn ifs true λc r=>if r=true then do let ok <- isTrue c X.env (eval c X.env);pure (ForInStep.yield ok) else pure (ForInStep.yield r)) (TP X pins σ Q) X.xe s
def Zfb:TT:=λ_ H Q=>Q true H
theorem Za0 {X:Cx}:PTs X [] Zfb:=λpins s σ H Q I h=>wpAny_tests_nil ⟨H,I,h⟩
theorem Zcp {X:Cx}{c:Expr}{t:TT}(hc:PT X c t):PTs X [c] t:=λpins s σ H Q I h=>wpAny_tests_one (hc pins s σ H Q I h)
section
variable {prog:Program}{w:World}{A:Around}{R:Result->Shared->Prop}{s:Shared}
theorem Zmq {elt target iter:Expr}{ifs:List Expr}{scope:Scope}{pos:Pos}{it acc:Value}{env:Env}(I:Nat->Shared->Prop)(turn:∀ n s,I n s->wpAny (model prog w) A (pyNext it) (λr s₁=>match r with
   | none=>R (.ok .next) s₁
   | some v=>wpAny (model prog w) A (letOwnedTupleGo target it v) (λ_ s₁=>wpAny (model prog w) A (assign target env v) (λ_ s₂=>
     wpAny (model prog w) A (forIn ifs true λc r=>if r=true then do let ok <- isTrue c env (eval c env);pure (ForInStep.yield ok) else pure (ForInStep.yield r)) (λok s₃=>
      if ok=true then wpAny (model prog w) A (eval elt env) (λx s₄=>
       wpAny (model prog w) A (call (.builtin "list.append") [acc,x]) (λ_ s₅=>∃ m,m<n/\I m s₅) (λ_ _=>False) s₄) (λ_ _=>False) s₃
      else ∃ m,m<n/\I m s₃) (λ_ _=>False) s₂) (λ_ _=>False) s₁) (λ_ _=>False) s₁) (λ_ _=>False) s)(n:Nat)(h:I n s):
  codeAny (model prog w) A (.compLoop (.ListComp elt [⟨target,iter,ifs,0⟩] scope pos) 0 it acc env) R s:=by
 refine codeAny_loop rfl I (λn s hI=>?_) n h;show wpAny _ A ((compTurn (.ListComp elt [⟨target,iter,ifs,0⟩] scope pos) 0 it acc env).onRaise (λx=>do noteFrame x env;theTreesLotGoes x)) _ _ s;refine wpAny_noted ?_;rw[compTurn_list];refine Jac (Jcd (Jac (Jbg (turn n s hI) (λr s₁ h₁=>?_) λ_ _ h'=>h'.elim)));cases r with
 | none=>exact Jal h₁
 | some v=>
  refine Jac (Jbg h₁ (λ_ s₁' h₁'=>?_) λ_ _ h'=>h'.elim);refine Jac (Jbg h₁' (λ_ s₂ h₂=>Jac (Jbg h₂ (λok s₃ h₃=>?_) λ_ _ h'=>h'.elim)) λ_ _ h'=>h'.elim);cases ok with
  | false=>exact Jal ⟨rfl,h₃⟩
  | true=>
   exact Jac (Jac (Jbg h₃ (λx s₄ h₄=>Jac (Jbg h₄ (λ_ s₅ h₅=>Jal (Jal ⟨rfl,h₅⟩)) λ_ _ h'=>h'.elim)) λ_ _ h'=>h'.elim))
end
def Zbv (g:TG)(tt:TT)(te:TE)(J:It)(D:Addr)(σ0:St)(H1:Hp)(Q:VK):Prop:=
 ∃ W:Nat->Nat->St->Hp->Prop,(∃ m,W 0 m σ0 (upd H1 D (.lst [])))/\∀ i m σ' H2,W i m σ' H2->
  (J.stop i H2/\Q (.ref D) H2)\/(J.go i H2/\∀ x H3,J.yld i H2 x H3->g x σ' H3 λσ4 H4=>tt σ4 H4 λb H5=>
   if b=true then te σ4 H5 λy H6=>∃ vs,H6 D=some (.lst vs)/\vs.length<sizeLine/\∃ m',m'<m/\W (i+1) m' σ4 (upd H6 D (.lst (vs++[y])))
   else ∃ m',m'<m/\W (i+1) m' σ4 H5)
def tComp (k:Nat)(fr:List (Str×Nat))(wi:TI)(g:TG)(tt:TT)(te:TE):TE:=λσ H Q=>wi σ H λJ H1=>∀ D,H1 D=none->Zbv g tt te J D (Ze9 k fr σ) H1 Q
section
variable {X:Cx}{tg iter elt:Expr}{ifs:List Expr}{scope:Scope}{pos:Pos}{own:List Str}{fr:List (Str×Nat)}{wi:TI}{g:TG}{tt:TT}{te:TE}
theorem Zpd {pins:List (Addr×Obj)}{s2:Shared}{σ:St}{H2:Hp}{it:Addr}{fp:List Addr}{tn:Nat->Heap->Prop}{J:It}{Q:VK}{cl:List (Str×Addr)}{RR:Value->Addr->Result->Shared->Prop}{E:Value->Shared->Prop}(hc:X.calm=true)(B:BlScope X scope own fr)(hb:∀ cl s H fp,PG (Zcm X (Zcj own fr) scope cl s H fp) tg g/\PTs (Zcm X (Zcj own fr) scope cl s H fp) ifs tt/\PE (Zcm X (Zcj own fr) scope cl s H fp) elt te)(hcl:∀ x c,cl.lookup x=some c->X.env.cells.lookup x=some c)(hcl2:∀ y∈scope.names,y.2=.free->∃ c,cl.lookup y.1=some c)(I2:Inv X pins σ H2 s2)(T:Turn X.prog X.w X.K tg J fp it tn)(st2:tn 0 s2.heap)(f2:∀ b∈fp,Zlp X pins H2 b)(q:∀ D,H2 D=none->Zbv g tt te J D (Ze9 own.length fr σ) H2 Q)(hRR:∀ D C s' H',Inv X pins σ H' s'->Q (.ref D) H'->(∃ m,s'.heap.Ns C m)->C≠X.env.locals->(∀ x c,X.env.cells.lookup x=some c->c≠C)->(∀ p∈X.pn++pins,p.1≠C)->X.s₀.heap.objs.size<=C->H' C=none->RR (.ref D) C (.ok .next) s'):
  wpAny (model X.prog X.w) X.A (newList []) (λacc s₃=>wpAny (model X.prog X.w) X.A (newFunctionEnv scope X.env.globals cl [] X.env.qual none .none (some X.env)) (λcenv s₄=>
   codeAny (model X.prog X.w) X.A (.compStart (.ListComp elt [⟨tg,iter,ifs,0⟩] scope pos) 0 (.ref it) acc { cenv with scope:=relabel scope X.env }) (RR acc cenv.locals) s₄) E s₃) E s2:=by
 refine Jcb ?_;have fr0:H2 s2.heap.objs.size=none:=I2.hok.fresh (Jaf _);have I3:=I2.lnew (its:=[]) (ys:=[]) (t':=s2.toks) .nil (Jbm _);generalize hs3:({ s2 with heap:=s2.heap.push { cls:=.type "list",data:=.seq ([]:List Value).toArray } }:Shared)=s3 at *;have k23:∀ b o,s2.heap.get? b=some o->s3.heap.get? b=some o:=λb o e=>by rw[<- hs3];exact Jad _ e
 have sz3:s3.heap.objs.size=s2.heap.objs.size+1:=by rw[<- hs3];exact Jcg ..
 have I3':Inv X pins σ (upd H2 s2.heap.objs.size (.lst [])) s3:=I3;have fne:∀ b∈fp,b≠s2.heap.objs.size:=λb hb z=>by
  refine Zah (T.obj 0 _ st2 b hb) λo ho _=>?_;exact absurd (Jae ho) (by rw[z];exact Jbv _)
 have f3:∀ b∈fp,Zlp X pins (upd H2 s2.heap.objs.size (.lst [])) b:=λb hb=>⟨by rw[Zag (fne b hb)];exact (f2 b hb).1,(f2 b hb).2⟩
 have st3:tn 0 s3.heap:=T.keep 0 _ _ st2 λb _ o e=>k23 b o e;have hfo:∀ b∈fp,∃ o,s3.heap.get? b=some o:=λb hb=>let ⟨o,ho,_⟩:=T.obj 0 _ st3 b hb;⟨o,ho⟩;refine Zfq λh' hn hk hce=>?_;have I4:=Zjl (own:=own) I3' B hcl hcl2 f3 hfo hn hk hce;refine Zar (hb cl s3 (upd H2 s2.heap.objs.size (.lst [])) fp) λhg ht he=>?_;have st4:tn 0 h':=T.keep 0 _ _ st3 λb _ o e=>hk b o e;have stat:∀ {H':Hp},(∀ b∈fp,H' b=none)->∀ b∈fp,Zlp (Zcm X (Zcj own fr) scope cl s3 (upd H2 s2.heap.objs.size (.lst [])) fp) [] H' b:=λ{H'} hnn b hb=>
  ⟨hnn b hb,(I4.ok.exf b hb).1,I4.ok.exfs b hb,.inl hb,(I4.ok.exf b hb).2,λp hp=>absurd (show p∈([]:List (Addr×Obj)) from hp) (by simp)⟩
 refine Zah (q s2.heap.objs.size fr0) λW e92 turn=>?_;obtain⟨m0,w0⟩:=e92;have loop:codeAny (model X.prog X.w) X.A (.compLoop (.ListComp elt [⟨tg,iter,ifs,0⟩] scope pos) 0 (.ref it) (.ref s2.heap.objs.size) (Zcm X (Zcj own fr) scope cl s3 (upd H2 s2.heap.objs.size (.lst [])) fp).env)
   (RR (.ref s2.heap.objs.size) s3.heap.objs.size) { s3 with heap:=h' }:=by
  refine Zmq (λn s'=>∃ i σ' H',Inv (Zcm X (Zcj own fr) scope cl s3 (upd H2 s2.heap.objs.size (.lst [])) fp) [] σ' H' s'/\tn i s'.heap/\(∀ b∈fp,H' b=none)/\W i n σ' H') ?_ m0
   ⟨0,_,_,I4,st4,λb hb=>(f3 b hb).1,w0⟩
  intro n s5 e91;refine Zb3 e91 λi σ5 H5 I5 st5 fr5 w5=>?_;clear e91;rcases turn i n σ5 H5 w5 with ⟨stop,qn⟩|⟨go,step⟩
  .refine thn (T.done (Zcm X (Zcj own fr) scope cl s3 (upd H2 s2.heap.objs.size (.lst [])) fp) rfl rfl rfl hc i [] s5 σ5 H5 _ I5 (stat fr5) st5 stop) λr s6 ⟨hr,I6⟩=>?_;subst hr;have I7:Inv X pins σ H5 s6:=I3'.call' (ch:=fp) I6.os I6.base I6.hok I6.bare λb hb=>⟨(f3 b hb).2.2.2.1,(f3 b hb).2.1,(f3 b hb).2.2.2.2.1,(f3 b hb).2.2.2.2.2⟩
   refine Zah I6.loc λm6 hn6 _=>?_;refine hRR _ _ s6 H5 I7 qn ⟨m6,hn6⟩ (Jcx I3'.lt) (λx c e=>?_) (λp hp=>?_) I3'.sz I6.free
   .obtain ⟨v,z⟩:=I3'.cell x c e;exact Ja1 z.lt
   .exact Ja1 (Jae (I3'.pin p hp).1)
  .refine thn (T.item (Zcm X (Zcj own fr) scope cl s3 (upd H2 s2.heap.objs.size (.lst [])) fp) rfl rfl rfl hc i [] s5 σ5 H5 _ I5 (stat fr5) st5 go) λr s6 ⟨u,hr,h6⟩=>?_;subst hr;refine thn h6 λ_ s7 ⟨x,H7,I7,r7,y7,st7,fr7⟩=>?_;have I7':=I7.pinned (stat fr7) (T.obj _ _ st7);refine thn (hg _ s7 σ5 H7 x u _ I7' r7 (step x H7 y7)) λ_ s8 ⟨σ8,H8,I8,q8⟩=>?_;refine thn (ht _ s8 σ8 H8 _ I8 q8) λb s9 ⟨H9,I9,q9⟩=>?_;have again:∀ {sA:Shared} {σA:St} {HA:Hp} {m':Nat},Inv (Zcm X (Zcj own fr) scope cl s3 (upd H2 s2.heap.objs.size (.lst [])) fp) ([]++Zg3 fp s7.heap) σA HA sA->m'<n->W (i+1) m' σA HA->
     ∃ m,m<n/\∃ i σ' H',Inv (Zcm X (Zcj own fr) scope cl s3 (upd H2 s2.heap.objs.size (.lst [])) fp) [] σ' H' sA/\tn i sA.heap/\(∀ b∈fp,H' b=none)/\W i m σ' H':=λ{sA σA HA m'} IA hm wA=>by
    refine⟨m',hm,i+1,σA,HA,IA.unpinned,T.keep _ _ _ st7 λb hb o e=>(IA.pin (b,o) (Jap _ (Jap _ (Zbw hb e)))).1,λb hb=>?_,wA⟩;refine Zah (T.obj _ _ st7 b hb) λo e d=>?_;exact (IA.pin (b,o) (Jap _ (Jap _ (Zbw hb e)))).2.1
   cases b with
   | false=>
    refine Zah q9 λm' hm w9=>?_;clear q9;exact again I9 hm w9
   | true=>
    have q9:te σ8 H9 _:=q9;show wpAny _ _ _ _ _ _;refine thn (he _ s9 σ8 H9 _ I9 q9) λy sA ⟨vy,HA,IA,rA,vs,hvs,hlen,m',hm,wA⟩=>?_;refine thn (Zb5 (X:=Zcm X (Zcj own fr) scope cl s3 (upd H2 s2.heap.objs.size (.lst [])) fp) _ sA σ8 HA (.ref s2.heap.objs.size) [vy] (.ref s2.heap.objs.size) [y] (λ_ HB=>W (i+1) m' σ8 HB) IA rfl (.cons rA .nil) ⟨_,vs,vy,rfl,rfl,hvs,hlen,wA⟩) λ_ sB ⟨_,HB,IB,_,wB⟩=>?_;exact again IB hm wB
 exact codeAny_compStart_list loop (T.self _ 0 _ _ _ st4 loop)
theorem SameBut.get {a:Addr}{h h':Heap}(x:Heap.SameBut a h h'):∀ b o,b≠a->h.get? b=some o->h'.get? b=some o:=λb o n e=>(x.2 b n).trans e
theorem Zax (hc:X.calm=true)(B:BlScope X scope own fr)(hi:PI X tg iter wi)(hb:∀ cl s H fp,PG (Zcm X (Zcj own fr) scope cl s H fp) tg g/\PTs (Zcm X (Zcj own fr) scope cl s H fp) ifs tt/\PE (Zcm X (Zcj own fr) scope cl s H fp) elt te)(hs:∀ x,foldedSetIterable iter X.env x=pure x:=by intro _;rfl):
  PE X (.ListComp elt [⟨tg,iter,ifs,0⟩] scope pos) (tComp own.length fr wi g tt te):=by
 intro pins s σ H Q I h;refine Zap (Zlj (scope:=scope) (env:=X.env) λy hy hf=>I.ok.has y.1 (B.free y hy hf)) λcl hclos hcl hcl2=>?_;rw[eval_ListComp];refine Jc1 (use:=none) rfl hs hclos B.kind B.loc (thn (hi pins s σ H _ I h) λv s1 h1=>thn h1 λitv s2 h2=>?_);refine Zcx h2 λit fp tn J H2 e I2 T e93=>?_;clear h2;refine Zar e93 λst2 f2 q=>?_;clear e93;subst e;refine Zpd (RR:=λacc C=>compPost (model X.prog X.w) X.A X.xe none (EP X pins σ Q) acc C) (Q:=Q) hc B hb hcl hcl2 I2 T st2 f2 q ?_;intro D C s' H' I' hq hn n1 n2 n3 n4 n5;obtain⟨m,hn⟩:=hn;refine⟨m,hn,λh' hs'=>⟨.ref D,H',I'.turned (it:=C) (t':=s'.toks) (λb o hb e=>SameBut.get hs' b o hb e) n5 (Jcs (Jcs n1)) (.inr n4) n2 n3,rfl,hq⟩⟩
theorem Zfo {i:Nat}{x:Str}{pos' spos:Pos}(hc:X.calm=true)(B:BlScope X scope own fr)(hi:PI X tg iter wi)(hb:∀ cl s H fp,PG (Zcm X (Zcj own fr) scope cl s H fp) tg g/\PTs (Zcm X (Zcj own fr) scope cl s H fp) ifs tt/\PE (Zcm X (Zcj own fr) scope cl s H fp) elt te)(hN:X.N.Nodup)(hix:X.N[i]?=some x)(hx:X.env.scope.names.lookup x=some .local)(hsw:swapsWith (.ListComp elt [⟨tg,iter,ifs,0⟩] scope pos) (some (.Name x pos')) spos.line X.env=pure true)(hs:∀ x,foldedSetIterable iter X.env x=pure x:=by intro _;rfl):
  PS X (.Assign [.Name x pos'] (.ListComp elt [⟨tg,iter,ifs,0⟩] scope pos) spos) (tAsg (tComp own.length fr wi g tt te) (Zbd i)):=by
 intro pins s σ H D I h;refine Zap (Zlj (scope:=scope) (env:=X.env) λy hy hf=>I.ok.has y.1 (B.free y hy hf)) λcl hclos hcl hcl2=>?_;rw[exec_Assign_Name_used _ _ _ _ hsw];refine Jac (Jcd (Jac ?_));show wpAny _ _ (do let _ <- comprehension (.ListComp elt [⟨tg,iter,ifs,0⟩] scope pos) scope X.env _ (newList []) false (eval iter X.env) (some (assign (.Name x pos') X.env))) _ _ s;refine Jac (Jbg (Jc1 (use:=some (assign (.Name x pos') X.env)) (Q:=λ_ s'=>SP X pins D .next s') rfl hs hclos B.kind B.loc (thn (hi pins s σ H _ I h) λv s1 h1=>thn h1 λitv s2 h2=>?_))
  (λ_ s' hq=>Jal (Jal hq)) λ_ _ e=>e)
 refine Zcx h2 λit fp tn J H2 e I2 T e94=>?_;clear h2;refine Zar e94 λst2 f2 q=>?_;clear e94;subst e;refine Zpd (RR:=λacc C=>compPost (model X.prog X.w) X.A X.xe (some (assign (.Name x pos') X.env)) (λ_ s'=>SP X pins D .next s') acc C) (Q:=λv H'=>Zbd i v σ H' D.nx) hc B hb hcl hcl2 I2 T st2 f2 q ?_;intro DD C s' H' I' hq hn n1 n2 n3 n4 n5;obtain⟨m,hn⟩:=hn;show wpAny _ _ (assign (.Name x pos') X.env (.ref DD)) _ _ s';refine wpAny_assign_Name (Zl1 I' hN hix (.inl hx) (v:=.ref DD) rfl (λs3 I3 ⟨a,hsa,ha⟩=>?_) (.inr hx));have hCa:C≠a:=by
  rcases ha with z|z
  .rw [z];exact n1
  .exact (n2 x a z).symm
 refine⟨m,hn.sameBut hsa hCa,λh' hs'=>⟨σ.set i (some (.ref DD)),H',I3.turned (it:=C) (t':=s3.toks) (λb o hb e=>SameBut.get hs' b o hb e) n5 n1 (.inr n4) n2 n3,hq⟩⟩
end
section
variable {X:Cx}
theorem Zk7:OpR X (binaryOp .Mult) (rI IntMulOk λi j=>.int (i*j)):=
 opI λi j t u s Q E c h=>PyProof.Rows.mul_int h c
def cV:V->Option Value
 | .ty n=>some (.type n)
 | .ref a=>some (.ref a)
 | _=>none
theorem Zbe:Zd9 X (.builtin "isinstance") (λxs H Q=>∃ x y c t b,xs=[x,y]/\cV y=some c/\TyOf X.K H x t/\PySem.W.kitOne X.K t c=some b/\Q (.bl b) H):=by
 intro pins s σ H xs us Q I r h;refine Zcx h λx y c t b e93 hc ty e94=>?_;clear h;obtain rfl:=e93;obtain⟨e,q⟩:=e94;refine Za3 (Zuo r) λu v e95 rx ry=>?_;obtain rfl:=e95;have hv:v=c:=by
  cases y <;> first|(cases hc;done)|(cases hc;cases ry;rfl)
 subst hv;exact Zta I rx ty e λtk=>⟨.bl b,H,I.tok _,rfl,q⟩
theorem Zef (bs:List Bool):(List.range bs.length).all (λi=>(bs[i]?).getD true)=bs.all id:=by
 rw[Jbw,Jbn,Jbn];constructor
 .intro h b hb;obtain⟨i,hi,rfl⟩:=Jbu.mp hb;have:=h i (Jbz.mpr hi);rw[Jaa hi] at this;exact this
 .intro h i hi;have hi:=Jbz.mp hi;rw[Jaa hi];exact h _ (Jbr hi)
theorem Zn5 {A:Around}{prog:Program}{w:World}{bs:List Bool}{its:List Value}(r:Vals (bs.map V.bl) its):TruthOf prog w A (λi v=>its.toArray[i]?=some v) (λi=>(bs[i]?).getD true):=by
 intro i v s Q E hP hQ;have hP:its[i]?=some v:=by simpa using hP
 have hl:=r.length;rw[Jab] at hl;have hi:i<bs.length:=by rw[hl];exact (Jah.mp hP).1
 obtain⟨u,hu,rv⟩:=r.get (i:=i) (x:=.bl bs[i]) (by rw[Jau,Jaa hi];rfl);rw[hP] at hu;cases hu;cases rv;have hQ:Q ((bs[i]?).getD true) s:=hQ;rw[Jaa hi] at hQ;exact Jb0 hQ
theorem Zdf (hc:X.calm=true):Zd9 X (.builtin "all") (λxs H Q=>∃ (p:Addr) (bs:List Bool),xs=[.ref p]/\SqL X.K H p (bs.map V.bl)/\Q (.bl (bs.all id)) H):=by
 intro pins s σ H xs us Q I r h;refine Za3 h λp bs e96 hq q=>?_;clear h;obtain rfl:=e96;refine Zah (Zkm r) λu e97 rx=>?_;obtain rfl:=e97;cases rx;refine Zap (I.list hq) λits rv pl hz=>?_;have hl:=rv.length;rw[Jab] at hl;refine call_all_walk (Jdh pl.isList ?_);have hne:p≠s.heap.objs.size:=λe=>by
  refine Zbg pl λo n ho _=>?_;clear pl;exact absurd (Jae ho) (by rw[e];exact Jbv _)
 refine Zqo s.heap.objs.size _ _ _ _ _ (λi=>(bs[i]?).getD true) ⟨rfl,Walks.list (A:=X.A.in1) (I.ok.hd hc) _ p hne its.toArray,⟨⟨_,Ja2 _ rfl,rfl,rfl⟩,pl.isList.at λo e=>Jad _ e⟩,Zn5 rv,λh' tk kp=>?_⟩;have e:(List.range its.toArray.size).all (λi=>(bs[i]?).getD true)=bs.all id:=by
  rw[Jaj,<- hl];exact Zef bs
 rw[e];have f:=I.fpOk (H':=H) (Jaf s.heap.objs.size) (I.hok.fresh (Jaf _));exact Zav (.bl _) H ⟨(I.kept (h':=s.heap.push { cls:=.type "list_iterator",data:=.fields #[.ref p,.int 0 0] }) (t':=s.toks) λb o e=>Jad _ e).turned (it:=s.heap.objs.size) (t':=tk) (λb o hb e=>kp b o (by simpa using hb) e) f.1 f.2.1 f.2.2.2.1 f.2.2.2.2.1 f.2.2.2.2.2,rfl,q⟩
theorem Zmr:Zd9 X (.type "range") (λxs H Q=>∃ j,xs=[.int j]/\∀ p,H p=none->Q (.ref p) (upd H p (.rng 0 j))):=by
 intro pins s σ H xs us Q I r h;refine Zah h λj e910 q=>?_;clear h;obtain rfl:=e910;refine Zah (Zkm r) λu e911 e912=>?_;obtain rfl:=e911;obtain⟨t,rfl⟩:=e912;refine call_range_1 ⟨.ref s.heap.objs.size,_,I.laid (a:=s.heap.objs.size) (o:=.rng 0 j) (λb o e=>Jad _ e) (Jaf _) ?_,rfl,q _ (I.hok.fresh (Jaf _))⟩;exact Za9 _ _ _ (Ja2 _ rfl)
def Zuh (lo hi:Int):List V:=(List.range (hi-lo).toNat).map λi=>V.int (lo+(i:Nat))
theorem Zha (hc:X.calm=true):Zd9 X (.type "list") (λxs H Q=>∃ p lo hi,xs=[.ref p]/\H p=some (.rng lo hi)/\(-(2 ^ 62)<=lo/\lo<2 ^ 62/\-(2 ^ 62)<=hi/\hi<2 ^ 62)/\(hi-lo).toNat<=2 ^ 24 /\
  ∀ l,H l=none->Q (.ref l) (upd H l (.lst (Zuh lo hi)))):=by
 intro pins s σ H xs us Q I r h;refine Zb3 h λp lo hi e917 hp e918 e919=>?_;clear h;obtain rfl:=e917;obtain⟨h1,h2,h3,h4⟩:=e918;obtain⟨hz,q⟩:=e919;refine Zah (Zkm r) λu e920 rx=>?_;obtain rfl:=e920;cases rx;refine Zum (show ObjOk X.prog X.w H s.heap p (.rng lo hi) from I.hok p _ hp) λt u v ho=>?_;have hn:Builtin.Range.rangeSize lo hi 1=(((hi-lo).toNat:Nat):Int):=by rw[rangeSize_one];split <;> omega
 refine call_list_range (I.ok.hd hc) (show IsRange s.heap p lo hi 1 t u v from ho) (small_one h1 h2 h3 h4) hn hz λh' tk acc' c' kp e it=>?_;refine Zav (.ref s.heap.objs.size) _ ⟨I.laid (a:=s.heap.objs.size) (o:=.lst (Zuh lo hi)) (t':=tk) kp (Jaf _) ?_,rfl,q _ (I.hok.fresh (Jaf _))⟩;refine⟨by unfold Zuh;rw[Jab,Jb6];exact hz,acc'.toList,c',?_,by simpa using e⟩;have hlen:acc'.toList.length=(hi-lo).toNat:=by rw[Jer];exact it.1
 have gen:∀ (n:Nat) (k:Nat) (us:List Value),us.length=n->(∀ (i:Nat) w',us[i]?=some w'->∃ t,w'=Value.int (lo+((k+i:Nat):Int)) t)->Vals ((List.range' k n).map λ(i:Nat)=>V.int (lo+(i:Nat))) us:=by
  intro n
  induction n with
  | zero=>intro k us hl _;cases us with|nil=>exact .nil|cons _ _=>cases hl
  | succ n ih=>
   intro k us hl hv;cases us with
   | nil=>cases hl
   | cons x us=>
    refine .cons ?_ (ih (k+1) us (by simpa using hl) λi w' e=>?_)
    .obtain ⟨t,e⟩:=hv 0 x rfl;exact⟨t,by simpa using e⟩
    .obtain ⟨t,e'⟩:=hv (i+1) w' (by simpa using e);exact⟨t,by rw[e',show ((k+(i+1):Nat):Int)=((k+1+i:Nat):Int) by omega]⟩
 unfold Zuh;rw[List.range_eq_range'];refine gen _ 0 _ hlen λi w' e'=>?_;obtain⟨t,e2⟩:=it.2 i w' (by simpa using e');exact⟨t,by rw[e2];congr 1 <;> simp⟩
end
inductive EqD (K:Frag) (H:Hp):Nat->V->V->Bool->Prop where
 | flat {n:Nat} {x y:V} (hx:Zif x=true) (hy:Zif y=true):EqD K H n x y (eqV x y)
 | same {n:Nat} {a:Addr}:EqD K H n (.ref a) (.ref a) true
 | list {n:Nat} {a c:Addr} {xs ys:List V} {bs:List Bool} (ne:a≠c) (ha:SqL K H a xs) (hc:SqL K H c ys) (hl:xs.length=ys.length) (hb:bs.length=xs.length)
   (he:∀ (j:Nat) x y b,xs[j]?=some x->ys[j]?=some y->bs[j]?=some b->EqD K H n x y b):EqD K H (n+1) (.ref a) (.ref c) (bs.all id)
 | listL {n:Nat} {a c:Addr} {xs ys:List V} (ne:a≠c) (ha:SqL K H a xs) (hc:SqL K H c ys) (hl:xs.length≠ys.length):EqD K H (n+1) (.ref a) (.ref c) false
 | tuple {n:Nat} {a c:Addr} {xs ys:List V} {bs:List Bool} (ne:a≠c) (ha:SqT K H a xs) (hc:SqT K H c ys) (hl:xs.length=ys.length) (hb:bs.length=xs.length)
   (he:∀ (j:Nat) x y b,xs[j]?=some x->ys[j]?=some y->bs[j]?=some b->EqD K H n x y b):EqD K H (n+1) (.ref a) (.ref c) (bs.all id)
def Zjs (K:Frag)(H:Hp)(n:Nat)(xs ys:List V)(bs:List Bool):Prop:=
 xs.length=ys.length/\bs.length=xs.length/\∀ (j:Nat) x y b,xs[j]?=some x->ys[j]?=some y->bs[j]?=some b->EqD K H n x y b
section
variable {X:Cx}{pins:List (Addr×Obj)}{σ:St}{H:Hp}{s:Shared}
theorem Zg7 {A:Around}{xs ys:List V}{us vs:List Value}{bs:List Bool}(rx:Vals xs us)(ry:Vals ys vs)(hl:xs.length=ys.length)(hb:bs.length=xs.length)(ih:∀ (j:Nat) x y b,xs[j]?=some x->ys[j]?=some y->bs[j]?=some b->∀ u v,RelV x u->RelV y v->SeqAt.EqAt A s u v b):
  ∀ j (h1:j<us.toArray.size) (h2:j<vs.toArray.size),SeqAt.EqAt A s us.toArray[j] vs.toArray[j] ((bs[j]?).getD true):=by
 intro j h1 h2;have e1:=rx.length;have e2:=ry.length;have h1':j<us.length:=by simpa using h1
 have h2':j<vs.length:=by simpa using h2
 have g1:xs[j]?=some (xs[j]'(by omega)):=Jaa _;have g2:ys[j]?=some (ys[j]'(by omega)):=Jaa _;have g3:bs[j]?=some (bs[j]'(by omega)):=Jaa _;refine Zah (rx.get g1) λu hu ru=>?_;refine Zah (ry.get g2) λv hv rv=>?_;have eu:us.toArray[j]=u:=by
  rw[Jaa h1'] at hu;simpa using hu
 have ev:vs.toArray[j]=v:=by
  rw[Jaa h2'] at hv;simpa using hv
 rw[eu,ev,g3];exact ih j _ _ _ g1 g2 g3 u v ru rv
theorem EqD.at {n:Nat}{x y:V}{b:Bool}(I:Inv X pins σ H s)(e:EqD X.K H n x y b):∀ {A:Around} {u v:Value},A.units+n<cLine->RelV x u->RelV y v->SeqAt.EqAt A s u v b:=by
 induction e with
 | flat hx hy=>intro A u v _ ru rv;exact Zxu ru rv hx hy
 | same=>intro A u v _ ru rv;cases ru;cases rv;exact SeqAt.EqAt.same _
 | @list n a c xs ys bs ne ha hc hl hb he ih=>
  intro A u v hA ru rv;cases ru;cases rv;refine Zap (I.list ha) λits r1 p1 _=>?_;refine Zap (I.list hc) λits' r2 p2 _=>?_;have e1:=r1.length;have e2:=r2.length;have q:=SeqAt.RcAt.lists (e:=λj=>(bs[j]?).getD true) p1.isList p2.isList (by simp;omega) ∅ (Zg7 (A:=A.in1) r1 r2 hl hb λj x y b h1 h2 h3 u v ru rv=>ih j x y b h1 h2 h3 (show A.units+1+n<cLine by omega) ru rv);rw[show its.toArray.size=bs.length by simp;omega,Zef] at q;exact Je1 ne q
 | @listL n a c xs ys ne ha hc hl=>
  intro A u v hA ru rv;cases ru;cases rv;refine Zap (I.list ha) λits r1 p1 _=>?_;refine Zap (I.list hc) λits' r2 p2 _=>?_;have e1:=r1.length;have e2:=r2.length;exact Je1 ne (SeqAt.RcAt.lists_lengths p1.isList p2.isList (by simp;omega) ∅)
 | @tuple n a c xs ys bs ne ha hc hl hb he ih=>
  intro A u v hA ru rv;cases ru;cases rv;refine Zap (I.tuple ha) λits r1 p1 _=>?_;refine Zap (I.tuple hc) λits' r2 p2 _=>?_;have e1:=r1.length;have e2:=r2.length;have q:=SeqAt.RcAt.tuples (e:=λj=>(bs[j]?).getD true) p1 p2 ∅ (Zg7 (A:=A.in1) r1 r2 hl hb λj x y b h1 h2 h3 u v ru rv=>ih j x y b h1 h2 h3 (show A.units+1+n<cLine by omega) ru rv);rw[show min its.toArray.size its'.toArray.size=bs.length by simp;omega,Zef,show (its.toArray.size == its'.toArray.size)=true by simp;omega,Bool.and_true] at q;exact Je1 ne q
def rEqL (K:Frag)(neg:Bool):R2:=λx y H Q=>∃ a c xs ys,x=.ref a/\y=.ref c/\SqL K H a xs/\SqL K H c ys /\
 ((xs.length≠ys.length/\Q (.bl neg) H)\/∃ bs,Zjs K H 6 xs ys bs/\Q (.bl (if neg then !bs.all id else bs.all id)) H)
def rEqT (K:Frag)(neg:Bool):R2:=λx y H Q=>∃ a c xs ys bs,x=.ref a/\y=.ref c/\SqT K H a xs/\SqT K H c ys/\Zjs K H 6 xs ys bs/\Q (.bl (if neg then !bs.all id else bs.all id)) H
theorem Zxi (hu:X.A.units+8<cLine):OpR X (compareOp .Eq) (rEqL X.K false):=by
 intro pins s σ H x y v u Q I rx ry h;refine Zdt h λa c xs ys e921 e922 ha e923=>?_;clear h;obtain rfl:=e921;obtain rfl:=e922;obtain⟨hc,h⟩:=e923;cases rx;cases ry;refine Zap (I.list ha) λits r1 p1 _=>?_;refine Zap (I.list hc) λits' r2 p2 _=>?_;have e1:=r1.length;have e2:=r2.length;rcases h with ⟨hne,q⟩|⟨bs,⟨hl,hb,he⟩,q⟩
 .exact SeqAt.eq_list_lengthsAt p1.isList p2.isList (by simp;omega) ∅ ⟨.bl false,H,I,rfl,q⟩
 .refine SeqAt.eq_listAt (e:=λj=>(bs[j]?).getD true) p1.isList p2.isList (by simp;omega) ∅ (Zg7 (A:=X.A.in1) r1 r2 hl hb λj x y b h1 h2 h3 u v ru rv=>(he j x y b h1 h2 h3).at I (show X.A.units+1+6<cLine by omega) ru rv) ?_;rw[show its.toArray.size=bs.length by simp;omega,Zef];exact Zav (.bl (bs.all id)) H ⟨I,rfl,q⟩
theorem Zxh (hu:X.A.units+8<cLine):OpR X (compareOp .NotEq) (rEqL X.K true):=by
 intro pins s σ H x y v u Q I rx ry h;refine Zdt h λa c xs ys e924 e925 ha e926=>?_;clear h;obtain rfl:=e924;obtain rfl:=e925;obtain⟨hc,h⟩:=e926;cases rx;cases ry;refine Zap (I.list ha) λits r1 p1 _=>?_;refine Zap (I.list hc) λits' r2 p2 _=>?_;have e1:=r1.length;have e2:=r2.length;rcases h with ⟨hne,q⟩|⟨bs,⟨hl,hb,he⟩,q⟩
 .exact SeqAt.RcNeAt.lists_lengths p1.isList p2.isList (by simp;omega) ∅ _ _ _ _ ⟨.bl true,H,I,rfl,q⟩
 .refine SeqAt.RcNeAt.lists (e:=λj=>(bs[j]?).getD true) p1.isList p2.isList (by simp;omega) ∅ (Zg7 (A:=X.A.in1) r1 r2 hl hb λj x y b h1 h2 h3 u v ru rv=>(he j x y b h1 h2 h3).at I (show X.A.units+1+6<cLine by omega) ru rv) _ _ _ _ ?_;rw[show its.toArray.size=bs.length by simp;omega,Zef];exact Zav (.bl (!bs.all id)) H ⟨I,rfl,q⟩
theorem op_eqT (hu:X.A.units+8<cLine):OpR X (compareOp .Eq) (rEqT X.K false):=by
 intro pins s σ H x y v u Q I rx ry h;refine Zcx h λa c xs ys bs e927 e928 ha e929=>?_;clear h;obtain rfl:=e927;obtain rfl:=e928;refine Zar e929 λhc e930 q=>?_;clear e929;obtain⟨hl,hb,he⟩:=e930;cases rx;cases ry;refine Zap (I.tuple ha) λits r1 p1 _=>?_;refine Zap (I.tuple hc) λits' r2 p2 _=>?_;have e1:=r1.length;have e2:=r2.length;refine SeqAt.eq_tupleAt (e:=λj=>(bs[j]?).getD true) p1 p2 ∅ (Zg7 (A:=X.A.in1) r1 r2 hl hb λj x y b h1 h2 h3 u v ru rv=>(he j x y b h1 h2 h3).at I (show X.A.units+1+6<cLine by omega) ru rv) ?_;rw[show min its.toArray.size its'.toArray.size=bs.length by simp;omega,Zef,show (its.toArray.size == its'.toArray.size)=true by simp;omega,Bool.and_true];exact Zav (.bl (bs.all id)) H ⟨I,rfl,q⟩
end
theorem Zmi (K:Frag):PySem.W.kitOne K (.type "int") (.type "int")=some true:=by rfl
theorem Zke (K:Frag):PySem.W.kitOne K (.type "int") (.type "bool")=some false:=by kernel_rfl
theorem Znq (K:Frag):PySem.W.kitOne K (.type "bool") (.type "bool")=some true:=by rfl
theorem Zp5 (K:Frag):PySem.W.kitOne K (.type "bool") (.type "int")=some true:=by kernel_rfl
theorem Zmh (K:Frag):PySem.W.kitOne K (.type "tuple") (.type "tuple")=some true:=by rfl
theorem Zev (K:Frag):PySem.W.kitOne K (.type "list") (.type "list")=some true:=by rfl
structure Cal (P:Program)(w:World)(K:Frag)(mg:Str->Option Value)(base:Heap)(x:Str)(k:Nat)(sp:Sp):Prop where
 ex:∃ (f:Addr) (fd:FuncData) (ps:List Str),FnOk P w K mg base CX0 k f fd ps sp/\mg x=some (.ref f)/\PySem.W.keepIn K (.ref f)=true/\Binds K fd ps []
theorem pe_cal {X:Cx}{x:Str}{k:Nat}{sp:Sp}{e:Expr}{es:List Expr}{t:TA}{p pos:Pos}(C:Cal X.prog X.w X.K X.mg X.base x k sp)(hr:Room k X.A)(hg:Gl X x)(ha:PA X (e::es) t)(hdb:(x == ("__debug__" : Str))=false:=by decide)(he:starEach (e::es) X.env=(false,eval e X.env)::starEach es X.env:=by rfl)(hpl:(backTo pos (starEach es X.env)).any (·.1)=false:=by rfl):
  PE X (.Call (.Name x p) (e::es) [] pos) (Zl0 sp [] E0 t):=by
 refine Zb3 C.ex λf fd ps F hm hk hb=>?_;exact Zr5 F hr hg hm hk hb .nil Zpw ha hdb he hpl
structure CalM (P:Program)(w:World)(K:Frag)(mg:Str->Option Value)(base:Heap)(C:Addr)(m:Str)(k:Nat)(sp:Sp):Prop where
 ex:∃ (f:Addr) (fd:FuncData) (ps:List Str),FnOk P w K mg base CX0 k f fd ps sp/\Meth K C m f/\Binds K fd ps []
structure CalI (P:Program)(w:World)(K:Frag)(mg:Str->Option Value)(base:Heap)(x:Str)(C:Addr)(k:Nat)(sp:Sp):Prop where
 ex:∃ (f:Addr) (fd:FuncData) (ps:List Str),FnOk P w K mg base CX0 k f fd ps sp/\Mk K C f/\mg x=some (.ref C)/\Binds K fd ps []
theorem pe_new {X:Cx}{x:Str}{C:Addr}{k:Nat}{sp:Sp}{e:Expr}{es:List Expr}{t:TA}{p pos:Pos}(M:CalI X.prog X.w X.K X.mg X.base x C k sp)(hr:Room (k+1) X.A)(hg:Gl X x)(ha:PA X (e::es) t)(hdb:(x == ("__debug__" : Str))=false:=by decide)(he:starEach (e::es) X.env=(false,eval e X.env)::starEach es X.env:=by rfl)(hpl:(backTo pos (starEach es X.env)).any (·.1)=false:=by rfl):
  PE X (.Call (.Name x p) (e::es) [] pos) (Zq0 C sp [] E0 t):=by
 refine Zb3 M.ex λf fd ps F hm hk hb=>?_;exact pe_make hm F hr hg hk hb .nil Zpw ha hdb he hpl
theorem Zor {X:Cx}{m:Str}{C:Addr}{k:Nat}{sp:Sp}{o e:Expr}{es:List Expr}{ta:TE}{t:TA}{apos pos:Pos}{pl:Sem Bool}(c:Cls X.K C)(M:CalM X.prog X.w X.K X.mg X.base C m k sp)(hr:Room k X.A)(ho:PE X o ta)(ha:PA X (e::es) t)(hst:starEach (e::es) X.env=(false,eval e X.env)::starEach es X.env:=by rfl)(hpl:(backTo pos (starEach es X.env)).any (·.1)=false:=by rfl)(ht:eval (.Call (.Attribute o m apos) (e::es) [] pos) X.env=(do
   let ov <- eval o X.env
   standAt apos.atName
   let (f,first) <- holding [ov] (getMethod ov m pl)
   callWith pos f first (backTo pos (starEach (e::es) X.env)) (backToKw pos (keywordEach [] X.env))):=by rfl):
  PE X (.Call (.Attribute o m apos) (e::es) [] pos) (Zm7 C m sp [] E0 ta t):=by
 refine Zim M.ex λf fd ps F hm hb=>?_;exact Zr3 ho c hm F hr hb .nil Zpw ha hst hpl ht
def blOk (outer:List (Str×NameKind))(N:List Str)(scope:Scope)(fr:List (Str×Nat)):Bool:=
 scope.kind == .function && scope.names.all (λy=>y.2 != .free || outer.lookup y.1 == some .cell || outer.lookup y.1 == some .free) && scope.names.all (λy=>scope.names.lookup y.1 == some y.2) &&
 fr.all λy=>scope.names.lookup y.1 == some .free && N[y.2]? == some y.1
theorem Zbh {X:Cx}{scope:Scope}{own:List Str}{fr:List (Str×Nat)}(h:blOk X.env.scope.names X.N scope fr=true):BlScope X scope own fr:=by
 unfold blOk at h;simp only[Jb5,Jbn] at h;obtain⟨⟨⟨h1,h2⟩,h3⟩,h4⟩:=h;refine⟨?_,λy hy hf=>?_,λy hy hl=>?_,λy hy=>?_,λy hy=>?_⟩
 .cases e:scope.kind <;> rw[e] at h1 <;> first|rfl|(exact absurd h1 ⇑0)
 .have:=h2 y hy;rw[hf] at this;simp only[Jd2,Jbt] at this;rcases this with (q|q)|q
  .exact absurd q ⇑0
  .exact .inl q
  .exact .inr q
 .have:=h3 y hy;rw[hl] at this;exact Jbt.mp this
 .exact Jbt.mp (h3 y hy)
 .have:=h4 y hy;exact⟨Jbt.mp this.1,Jbt.mp this.2⟩
def Sh (k:Nat)(cap σ:St):Prop:=∃ o,o.length=k/\σ=o++cap
theorem Sh.mk1 {cap:St}{a:Option V}:Sh 1 cap (a::cap):=⟨[a],rfl,rfl⟩
theorem Sh.mk2 {cap:St}{a b:Option V}:Sh 2 cap (a::b::cap):=⟨[a,b],rfl,rfl⟩
theorem Sh.one {cap σ:St}(h:Sh 1 cap σ):∃ a,σ=a::cap:=by
 refine Zah h λo h1 e92=>?_;clear h;obtain rfl:=e92
 match o,h1 with
 | [a],_=>exact⟨a,rfl⟩
theorem Sh.two {cap σ:St}(h:Sh 2 cap σ):∃ a b,σ=a::b::cap:=by
 refine Zah h λo h1 e93=>?_;clear h;obtain rfl:=e93
 match o,h1 with
 | [a,b],_=>exact⟨a,b,rfl⟩
def Zb0 (fr:List (Str×Nat))(σ:St):St:=fr.map λy=>(σ[y.2]?).getD none
def Wv (n k:Nat)(cap:St)(Pv:Nat->List V->Hp->Prop):Nat->Nat->St->Hp->Prop:=λi m σ H=>m=n-i/\i<=n/\Sh k cap σ/\∃ vs,Pv i vs H
def Lf (D:Addr)(n k:Nat)(cap:St)(Pv:Nat->List V->Hp->Prop)(i:Nat)(σ4:St)(y:V)(H6:Hp):Prop:=
 ∃ vs,H6 D=some (.lst vs)/\vs.length<sizeLine/\∃ m',m'<n-i/\Wv n k cap Pv (i+1) m' σ4 (upd H6 D (.lst (vs++[y])))
def Lf0 (n k:Nat)(cap:St)(Pv:Nat->List V->Hp->Prop)(i:Nat)(σ4:St)(H5:Hp):Prop:=∃ m',m'<n-i/\Wv n k cap Pv (i+1) m' σ4 H5
theorem leaf {D:Addr}{n k:Nat}{cap:St}{Pv:Nat->List V->Hp->Prop}{i:Nat}{σ4:St}{y:V}{H6:Hp}{vs ws:List V}(hi:i<n)(sh:Sh k cap σ4)(hD:H6 D=some (.lst vs))(hl:vs.length<sizeLine)(p:Pv (i+1) ws (upd H6 D (.lst (vs++[y])))):Lf D n k cap Pv i σ4 y H6:=⟨vs,hD,hl,n-(i+1),∅,rfl,hi,sh,ws,p⟩
theorem Zv9 {n k:Nat}{cap:St}{Pv:Nat->List V->Hp->Prop}{i:Nat}{σ4:St}{H5:Hp}{ws:List V}(hi:i<n)(sh:Sh k cap σ4)(p:Pv (i+1) ws H5):Lf0 n k cap Pv i σ4 H5:=⟨n-(i+1),∅,rfl,hi,sh,ws,p⟩
def Zda (g:TG)(tt:TT)(te:TE)(D:Addr)(n k:Nat)(cap:St)(Pv:Nat->List V->Hp->Prop)(i:Nat)(x:V)(σ':St)(H:Hp):Prop:=
 g x σ' H λσ4 H4=>tt σ4 H4 λb H5=>if b=true then te σ4 H5 λy H6=>Lf D n k cap Pv i σ4 y H6 else Lf0 n k cap Pv i σ4 H5
section
variable {K:Frag}{a D:Addr}{xs:List V}{g:TG}{tt:TT}{te:TE}{k:Nat}{fr:List (Str×Nat)}{σ:St}{H1:Hp}{Q:VK}
theorem sh0:Sh k (Zb0 fr σ) (Ze9 k fr σ):=⟨List.replicate k none,Ja4,rfl⟩
theorem Zlh {J:It}{n:Nat}(it:Nat->V->Prop)(Pv:Nat->List V->Hp->Prop)(h0:Pv 0 [] (upd H1 D (.lst [])))(go:∀ i vs H,i<n->Pv i vs H->J.go i H/\∀ x H',J.yld i H x H'->H'=H/\it i x)(stop:∀ vs H,Pv n vs H->J.stop n H)(hs:∀ i x vs σ' H,i<n->it i x->Sh k (Zb0 fr σ) σ'->Pv i vs H->Zda g tt te D n k (Zb0 fr σ) Pv i x σ' H)(hd:∀ vs H,Pv n vs H->Q (.ref D) H):Zbv g tt te J D (Ze9 k fr σ) H1 Q:=by
 refine⟨Wv n k (Zb0 fr σ) Pv,⟨n,by simp,Jbm _,sh0,[],h0⟩,?_⟩;intro i m σ' H2 e91;refine Zbx e91 λe94 hi sh e95=>?_;clear e91;obtain rfl:=e94;obtain⟨vs,p⟩:=e95;by_cases hlt:i<n
 .obtain ⟨g1,g2⟩:=go i vs H2 hlt p;refine .inr ⟨g1,λx H3 y=>?_⟩;obtain⟨rfl,hx⟩:=g2 x H3 y;exact hs i x vs σ' _ hlt hx sh p
 .have e:i=n:=∅
  subst e;exact .inl ⟨stop vs H2 p,hd vs H2 p⟩
theorem Zbp (Pv:Nat->List V->Hp->Prop)(h0:Pv 0 [] (upd H1 D (.lst [])))(hl:∀ i vs H,i<=xs.length->Pv i vs H->SqL K H a xs)(hs:∀ i x vs σ' H,i<xs.length->xs[i]?=some x->Sh k (Zb0 fr σ) σ'->Pv i vs H->Zda g tt te D xs.length k (Zb0 fr σ) Pv i x σ' H)(hd:∀ vs H,Pv xs.length vs H->Q (.ref D) H):Zbv g tt te (Itl K a) D (Ze9 k fr σ) H1 Q:=
 Zlh (λi x=>xs[i]?=some x) Pv h0 (λi vs H hi p=>⟨⟨xs,xs[i],hl i vs H (Jbl hi) p,by simp[hi]⟩,λx H' y=>⟨y.1,y.2 xs (hl i vs H (Jbl hi) p)⟩⟩)
  (λvs H p=>⟨xs,hl _ vs H (Jaf _) p,Jaf _⟩) hs hd
theorem Zwv (Pv:Nat->List V->Hp->Prop)(h0:Pv 0 [] (upd H1 D (.lst [])))(hl:∀ i vs H,i<=xs.length->Pv i vs H->SqT K H a xs)(hs:∀ i x vs σ' H,i<xs.length->xs[i]?=some x->Sh k (Zb0 fr σ) σ'->Pv i vs H->Zda g tt te D xs.length k (Zb0 fr σ) Pv i x σ' H)(hd:∀ vs H,Pv xs.length vs H->Q (.ref D) H):Zbv g tt te (Itt K a) D (Ze9 k fr σ) H1 Q:=
 Zlh (λi x=>xs[i]?=some x) Pv h0 (λi vs H hi p=>⟨⟨xs,xs[i],hl i vs H (Jbl hi) p,by simp[hi]⟩,λx H' y=>⟨y.1,y.2 xs (hl i vs H (Jbl hi) p)⟩⟩)
  (λvs H p=>⟨xs,hl _ vs H (Jaf _) p,Jaf _⟩) hs hd
theorem Zey {lo:Int}{n:Nat}(Pv:Nat->List V->Hp->Prop)(h0:Pv 0 [] (upd H1 D (.lst [])))(hs:∀ i x vs σ' H,i<n->x=.int (lo+i)->Sh k (Zb0 fr σ) σ'->Pv i vs H->Zda g tt te D n k (Zb0 fr σ) Pv i x σ' H)(hd:∀ vs H,Pv n vs H->Q (.ref D) H):Zbv g tt te (Itr lo n) D (Ze9 k fr σ) H1 Q:=
 Zlh (λi x=>x=.int (lo+i)) Pv h0 (λi vs H hi p=>⟨hi,λx H' y=>y⟩) (λvs H p=>Jaf _) hs hd
end
def Ext (l:Addr)(H H':Hp):Prop:=∀ b o,b≠l->H b=some o->H' b=some o
theorem Ext.trans {l:Addr}{H H1 H2:Hp}(a:Ext l H H1)(b:Ext l H1 H2):Ext l H H2:=λc o n e=>b c o n (a c o n e)
theorem Ext.new {l p:Addr}{H:Hp}{o:HO}(h:H p=none):Ext l H (upd H p o):=λc u _ e=>by rw[Zag (Zaf e h)];exact e
theorem Ext.set {l:Addr}{H:Hp}{o:HO}:Ext l H (upd H l o):=λc u n e=>by rw[Zag n];exact e
theorem Same.ext {l:Addr}{H H':Hp}(s:Same H H'):Ext l H H':=λc o _ e=>s c o e
theorem Same.new {p:Addr}{H:Hp}{o:HO}(h:H p=none):Same H (upd H p o):=λc u e=>by rw[Zag (Zaf e h)];exact e
theorem Same.upd {p:Addr}{H H':Hp}{o:HO}(s:Same H H')(h:H p=none):Same H (upd H' p o):=λc u e=>by rw[Zag (Zaf e h)];exact s c u e
theorem Ext.upd {l p:Addr}{H H':Hp}{o:HO}(s:Ext l H H')(h:H p=none):Ext l H (upd H' p o):=λc u n e=>by rw[Zag (Zaf e h)];exact s c u n e
theorem Ext.free {l p:Addr}{H H':Hp}(s:Ext l H H')(n:p≠l)(h:H' p=none):H p=none:=by
 cases e:H p with
 | none=>rfl
 | some o=>rw[s p o n e] at h;cases h
theorem cx_K {CX:CXT}{P:Program}{w:World}{K:Frag}{mg:Str->Option Value}{base:Heap}{N:List Str}{qual:Str}{scope:Scope}{f:Addr}{cd:Value}{A:Around}{outer:List Env}{s:Shared}{H:Hp}{E:XK}:(Zny CX P w K mg base N qual scope f cd A outer s H E).K=K:=rfl
theorem in_K {X:Cx}{N:List Str}{scope:Scope}{cl:List (Str×Addr)}{s:Shared}{H:Hp}{fp:List Addr}:(Zcm X N scope cl s H fp).K=X.K:=rfl
theorem Zw5 {X:Cx}{E:Value->Shared->Prop}:(X.wish E).K=X.K:=rfl
theorem Zij {X:Cx}{x:Str}{i:Int}{pos:Pos}(hg:Gl X x)(hm:∃ t,X.mg x=some (.int i t))(hd:(x == ("__debug__" : Str))=false:=by decide):PE X (.Name x pos) (tC (.int i)):=by
 obtain⟨t,e⟩:=hm;exact Zcs hg e ⟨t,rfl⟩ hd
theorem Zck {α:Type}{xs:List α}{i:Int}{v:α}(h0:0<=i)(h:xs[i.toNat]?=some v):atI xs i=some v:=by
 have e:((i.toNat:Nat):Int)=i:=Jcl h0;rw[<- e];exact atI_nat h
def Zbf:Expr->Bool
 | .Starred _ _=>true
 | _=>false
theorem Zaz {e:Expr}{es:List Expr}{env:Env}(h:Zbf e=false):starEach (e::es) env=(false,eval e env)::starEach es env:=by
 cases e <;> first|rfl|cases h
theorem Zdc {pos:Pos}{env:Env}:∀ {es:List Expr},es.all (λx=>!Zbf x)=true->(backTo pos (starEach es env)).any (·.1)=false
 | [],_=>rfl
 | e::es,h=>by
  rw[Jdi,Jb5] at h;have h1:Zbf e=false:=by simpa using h.1
  rw[Zaz h1];show ((false,_).1 || (backTo pos (starEach es env)).any (·.1))=false;rw[Zdc h.2];rfl
section
variable {X:Cx}{x:Str}{p pos:Pos}{e:Expr}{es:List Expr}{te:TE}{t:TA}{id T:String}{r:List V->Hp->VK->Prop}
theorem pa_c (ha:PE X e te)(hr:PA X es t)(h:Zbf e=false:=by rfl):PA X (e::es) (Zgr te t):=pa_cons ha hr (Zaz h)
theorem Za4 (hc:Zd9 X (.builtin id) r)(hg:Gl X x)(hm:X.mg x=none)(hv:bootBuiltins x=some (.builtin id))(ha:PA X (e::es) t)(h:Zbf e=false:=by rfl)(h2:es.all (λx=>!Zbf x)=true:=by rfl)(hn:x ≠ "__name__" := by decide)(hdb:(x == ("__debug__" : Str))=false:=by decide):PE X (.Call (.Name x p) (e::es) [] pos) (tCB r t):=Zvg hc hg hm hv ha hn hdb (Zaz h) (Zdc h2)
theorem Zfz (hc:Zd9 X (.type T) r)(hg:Gl X x)(hm:X.mg x=none)(hv:bootBuiltins x=some (.type T))(ha:PA X (e::es) t)(h:Zbf e=false:=by rfl)(h2:es.all (λx=>!Zbf x)=true:=by rfl)(hn:x ≠ "__name__" := by decide)(hdb:(x == ("__debug__" : Str))=false:=by decide):PE X (.Call (.Name x p) (e::es) [] pos) (tCB r t):=Zr4 hc hg hm hv ha hn hdb (Zaz h) (Zdc h2)
theorem Zbc {k:Nat}{sp:Sp}(C:Cal X.prog X.w X.K X.mg X.base x k sp)(hr:Room k X.A)(hg:Gl X x)(ha:PA X (e::es) t)(h:Zbf e=false:=by rfl)(h2:es.all (λx=>!Zbf x)=true:=by rfl)(hdb:(x == ("__debug__" : Str))=false:=by decide):PE X (.Call (.Name x p) (e::es) [] pos) (Zl0 sp [] E0 t):=pe_cal C hr hg ha hdb (Zaz h) (Zdc h2)
theorem Zqk {C:Addr}{k:Nat}{sp:Sp}(M:CalI X.prog X.w X.K X.mg X.base x C k sp)(hr:Room (k+1) X.A)(hg:Gl X x)(ha:PA X (e::es) t)(h:Zbf e=false:=by rfl)(h2:es.all (λx=>!Zbf x)=true:=by rfl)(hdb:(x == ("__debug__" : Str))=false:=by decide):PE X (.Call (.Name x p) (e::es) [] pos) (Zq0 C sp [] E0 t):=pe_new M hr hg ha hdb (Zaz h) (Zdc h2)
theorem Zid {tg a:Expr}{ta:TA}(hg:Gl X "range")(hm:X.mg "range" = none)(ha:PA X [a] ta)(h:Zbf a=false:=by rfl):PI X tg (.Call (.Name "range" p) [a] [] pos) (Zwk ta):=Zrz hg hm ha (Zaz h)
theorem Zpv {tg a b:Expr}{ta:TA}(hg:Gl X "range")(hm:X.mg "range" = none)(ha:PA X [a,b] ta)(h:Zbf a=false:=by rfl)(h2:Zbf b=false:=by rfl):PI X tg (.Call (.Name "range" p) [a,b] [] pos) (Zwj ta):=
 Zry hg hm ha (by rw[Zaz h,Zaz h2];rfl) (Zaz h2)
end
theorem scal_ii {i j:Int}:scal (.int i) (.int j)=true:=rfl
theorem scal_bb {i j:Bool}:scal (.bl i) (.bl j)=true:=rfl
theorem scal_ss {i j:Str}:scal (.str i) (.str j)=true:=rfl
theorem Zhp {X:Cx}{x:Str}{n:String}{pos:Pos}(hg:Gl X x)(hm:X.mg x=none)(hv:bootBuiltins x=some (.type n))(hn:x ≠ "__name__" := by decide)(hd:(x == ("__debug__" : Str))=false:=by decide):PE X (.Name x pos) (tC (.ty n)):=pe_bltn (v:=.ty n) hg hm hv rfl hn hd
section
variable {X:Cx}(K:Frag)(hK:X.K=K)
include hK
theorem Zcr {pos:Pos}{es:List Expr}{k:Nat}{t:TGs}{n:Nat}(hc:X.calm=true)(h:PGs X es t)(hn:(assignEach es X.env).length=n)(hst:(assignEach es X.env).findIdx? (·.1)=none):PG X (.Tuple es k pos) (Zwq K n t):=by subst hK;exact Zb8 hc h hn hst
theorem Zlk:Zd9 X (.builtin "len") (λxs H Q=>∃ p ys,xs=[.ref p]/\(SqL K H p ys\/SqT K H p ys)/\Q (.int ys.length) H):=by subst hK;exact Zak
theorem Zhb:Zd9 X (.type "list") (λxs H Q=>∃ p ys,xs=[.ref p]/\(SqL K H p ys\/SqT K H p ys)/\∀ l,H l=none->Q (.ref l) (upd H l (.lst ys))):=by subst hK;exact Zbb
theorem Zew:IxR X (rIxL K):=by subst hK;exact Za6
theorem ix_tupK:IxR X (rIxT K):=by subst hK;exact Zg6
theorem Zu0:SlR X (rSlL K):=by subst hK;exact Zdg
theorem pe_fldK {e:Expr}{f:Str}{pos:Pos}{ta:TE}(he:PE X e ta)(hb:attributeBase e f X.env (eval e X.env)=eval e X.env):PE X (.Attribute e f pos) (tFld K ta f):=by subst hK;exact Zbk he hb
theorem Zk5 {tg l:Expr}{tl:TE}(hl:PE X l tl):PI X tg l (Zth K tl):=by subst hK;exact Za1 hl
theorem pi_tupK {tg l:Expr}{tl:TE}(hl:PE X l tl):PI X tg l (iTup K tl):=by subst hK;exact Zxd hl
theorem Zee:OpR X (compareOp .In) (rIn K false):=by subst hK;exact Zmc
theorem Zdd:OpR X (compareOp .NotIn) (rIn K true):=by subst hK;exact Zmb
theorem op_eqTK (hu:X.A.units+8<cLine):OpR X (compareOp .Eq) (rEqT K false):=by subst hK;exact op_eqT hu
end
theorem cutD {g:TG}{tb:TS}{D:Ends}{x:V}{σ:St}{H:Hp}(h:∀ D':Ends,D'=D->g x σ H λσ2 H2=>tb D' σ2 H2):g x σ H λσ2 H2=>tb D σ2 H2:=h D rfl
end L2
set_option maxHeartbeats 1000000
namespace HT
open PySem PySem.Spec PyProof.Rows
section
variable {prog:Program}{w:World}{A:Around}{E:Value->Shared->Prop}{s:Shared}
theorem Zhf {sl:Addr}{u:Tok}{Q:Int×Int×Nat->Shared->Prop}(hs:s.heap.IsSliceOf sl .none .none (.int (-1) u))(h:Q (1,-1,2) s):wpAny (model prog w) A (Builtin.Slice.sliceApplied (.ref sl) (pure ((2:Nat):Int))) Q E s:=by
 obtain⟨os,hos,hcs,hds⟩:=id hs;unfold Builtin.Slice.sliceApplied Builtin.Slice.sliceFields;refine Jac (Jac (Jd7 hos hds (x:=.none) rfl (Jac (Jd7 hos hds (x:=.none) rfl (Jac (Jd7 hos hds (x:=.int (-1) u) rfl (Jal ?_)))))));refine Jac (slicePart_int ?_);show wpAny _ _ (if ((-1:Int) == 0)=true then _ else _) _ _ s;rw[if_neg ⇑0];refine Jac (slicePart_none (Jac (slicePart_none (Jac (Jal ?_)))));exact Jal h
theorem getItem_tuple_rev2 {t sl:Addr}{a b:Value}{u:Tok}{Q:Value->Shared->Prop}(ht:IsTup s.heap t #[a,b])(hs:s.heap.IsSliceOf sl .none .none (.int (-1) u))(h:Q (.ref s.heap.objs.size) { s with heap:=s.heap.push { cls:=.type "tuple",data:=.seq #[b,a] } }):wpAny (model prog w) A (getItem (.ref t) (.ref sl)) Q E s:=by
 have htake:sizeOk (.seq #[b,a]):=by
  show 2<=sizeLine;decide
 obtain⟨os,hos,hcs,hds⟩:=id hs;have hTs:s.TypeIs (.ref sl) "slice" := ⟨os,hos,hcs⟩
 unfold getItem
 try with_reducible refine Jca ?_
 first|refine Jac (Jal ?_)|skip
 refine Jac (wpAny_sequenceKey ht.typeIs ⇑0 ?_);refine Jac (wpAny_callSpecial?_slot (name:=Str.ofString "__getitem__") ht.typeIs Jc2
  (wpAny_call_entry Jc2 ht.typeIs entry_tuple_getitem ?_ (args_tuple_getitem _ _)))
 show wpAny _ _ (Builtin.Tuple.tupleItemsOf (.ref t) >>= _) _ _ s;refine Jac (tupleItemsOf_ ht ?_);refine Jac (wpAny_typeOf hTs ?_);rw[if_pos ⇑0];refine Jac (Zhf hs ?_)
 first
  | exact Jac (m:=Builtin.Tuple.tupleExact _) (Jcb (Jal ⟨_,rfl,Jal h⟩) htake)
  | exact Jac (m:=Builtin.Tuple.tupleExact _) (Jcb (Jac (Jal (Jal ⟨_,rfl,Jal h⟩))) htake)
  | exact Jac (Jac (m:=Builtin.Tuple.tupleExact _) (Jcb (Jal (Jal ⟨_,rfl,Jal h⟩)) htake))
  | exact Jac (Jac (m:=Builtin.Tuple.tupleExact _) (Jcb (Jal ⟨_,rfl,Jal h⟩) htake))
end
end HT
namespace L2
open PySem PySem.Spec PyProof.Rows
def tRev (K:Frag)(te:TE):TE:=λσ H Q=>te σ H λx H1=>∃ a u v,x=.ref a/\SqT K H1 a [u,v]/\∀ p,H1 p=none->Q (.ref p) (upd H1 p (.tup [v,u]))
section
variable {X:Cx}{e es:Expr}{te ts:TE}{pos p2:Pos}
theorem pe_rev (K:Frag)(hK:X.K=K)(he:PE X e te)(hs:PE X es ts)(hts:∀ σ H Q,Q (.int (-1)) H->ts σ H Q):PE X (.Subscript e (.Slice none none (some es) p2) pos) (tRev K te):=by
 subst hK;intro pins s σ H Q I h;refine Subscript_ (thn (he pins s σ H _ I h) λv s1 ⟨x,H1,I1,r1,q1⟩=>?_);refine Zim q1 λa y1 y2 e91 hx q=>?_;clear q1;obtain rfl:=e91;cases r1;refine wpAny_Slice ?_;rw[Jfo];refine Jal ?_;refine Jal ?_;rw[evalPart_some];refine thn (hs pins s1 σ H1 (λx H2=>x=.int (-1)/\H2=H1) I1 (hts _ _ _ ⟨rfl,rfl⟩)) λvu s3 ⟨u,H3,I3,pu,q3⟩=>?_;obtain⟨rfl,rfl⟩:=q3;obtain⟨t,rfl⟩:=pu;have I4:Inv X pins σ H3 { s3 with heap:=s3.heap.push { cls:=.type "slice",data:=.fields #[.none,.none,.int (-1) t] } }:=I3.kept (t':=s3.toks) λb ob q=>Jad _ q;refine Zap (I4.tuple hx) λits r ht hz=>?_;show wpAny (model X.prog X.w) X.A (subscriptTail e (.Slice none none (some es) p2) (.ref a) (.ref s3.heap.objs.size)) (EP X pins σ Q) X.xe { s3 with heap:=s3.heap.push { cls:=.type "slice",data:=.fields #[.none,.none,.int (-1) t] } };cases r with
 | cons g1 r=>
  cases r with
  | cons g2 r=>
   cases r;refine tail_any (ops:=[.ref a,.ref s3.heap.objs.size]) ht.typeIs Jc2.lookup (HT.getItem_tuple_rev2 ht (Jez ..) ?_) (by with_unfolding_all rfl);refine Zav (.ref (Heap.push _ _).objs.size) _ ⟨I4.laid (t':=s3.toks) (o:=.tup [y2,y1]) (λb ob q=>Jad _ q) (Jaf _) ?_,rfl,q _ (I4.hok.fresh (Jaf _))⟩;exact⟨by show 2<=sizeLine;decide,_,.cons g2 (.cons g1 .nil),IsTup.new _ _⟩
end
end L2
namespace L2
open PySem PySem.Spec PyProof.Rows
section
variable {X:Cx}
def rGetL (K:Frag):V->V->Hp->VK->Prop:=λx y H Q=>∃ p xs i v,x=.ref p/\y=.int i/\0<=i/\SqL K H p xs/\xs[i.toNat]?=some v/\Q v H
theorem Zo6:PGet X (rGetL X.K):=by
 intro pins s σ H x y v u Q I rx ry h;refine Zdt h λp xs i z e91 e92 h0 e93=>?_;clear h;obtain rfl:=e91;obtain rfl:=e92;refine Zar e93 λhq he q=>?_;clear e93;cases rx;obtain⟨t,rfl⟩:=ry;refine Zap (I.list hq) λits r pl hz=>?_;refine Zah (r.get he) λw ew rw'=>?_;have hl:=r.length;have hn:=Zkd;have hi:i.toNat<xs.length:=(Jah.mp he).1;exact wpAny_getItem_list pl.isList h0 ∅ (by simpa using ew) ⟨z,H,I,rw',q⟩
end
def Big (x:Int):Prop:=-(100000000000000000000000000000000)<x/\x<100000000000000000000000000000000
theorem Big.mul {x y:Int}(hx:Big x)(hy:Big y):IntMulOk x y:=by
 have e:(2:Nat) ^ 200 > 100000000000000000000000000000000:=⋯
 have b:∀ {z:Int},Big z->Builtin.Int.intBits z<=2 ^ 20:=λ{z} h=>by
  have hz:z.natAbs<2 ^ 200:=by have:=h.1;have:=h.2;omega
  unfold Builtin.Int.intBits;split
  .exact Jbm _
  .rename_i h0
   have:z.natAbs.log2<200:=(Nat.log2_lt (by intro c;apply h0;simpa using c)).mpr hz;have e2:(2:Nat) ^ 20=1048576:=⇑0
   rw[e2];omega
 exact .of_bits (b hx) (b hy)
def atZ (ns:List Int)(i:Int):Int:=ns.getD i.toNat 0
theorem Zd8 {ns:List Int}{i:Int}(h:i.toNat<ns.length):(ns.map V.int)[i.toNat]?=some (.int (atZ ns i)):=by
 rw[Jau,Jaa h];simp[atZ,h]
theorem Zud {ns:List Int}{i:Int}(h:i.toNat<ns.length):atZ ns i∈ns:=by
 unfold atZ;rw[Jao,Jaa h];exact Jbr h
theorem Zuc {ns:List Int}{k i v:Int}(h:k.toNat<ns.length)(h0:0<=k)(hi:0<=i):atZ (ns.set k.toNat v) i=if i=k then v else atZ ns i:=by
 unfold atZ;rw[Jao,Jcm];by_cases e:i=k
 .subst e;simp[h]
 .rw [if_neg e,if_neg ∅,Jao]
def arrZ (a b:List Int):List (Int×Int)->Int
 | []=>0
 | q::ps=>arrZ a b ps+atZ a q.1*atZ b q.2
def Zuf (a b:List Int)(ps:List (Int×Int)):Int:=arrZ a b ps.reverse
theorem Zqg (a b:List Int)(ps:List (Int×Int))(q:Int×Int):Zuf a b (ps++[q])=Zuf a b ps+atZ a q.1*atZ b q.2:=by
 unfold Zuf;rw[List.reverse_append];rfl
def dotZ (a b:List Int):Nat->Int
 | 0=>0
 | n+1=>dotZ a b n+atZ a n*atZ b n
def Zqb (ps:List (Int×Int))(a b:List Int):Int:=dotZ a b a.length-Zuf a b ps
def mirS (ns:List Int)(k:Int):List (Int×Int)->Int
 | []=>0
 | q::ps=>mirS ns k ps+(if q.1=k then atZ ns q.2 else if q.2=k then atZ ns q.1 else 0)
def Zql (ns:List Int)(k:Int)(ps:List (Int×Int)):Int:=mirS ns k ps.reverse
theorem Zsy (ns:List Int)(k:Int)(ps:List (Int×Int))(q:Int×Int):Zql ns k (ps++[q])=Zql ns k ps+(if q.1=k then atZ ns q.2 else if q.2=k then atZ ns q.1 else 0):=by
 unfold Zql;rw[List.reverse_append];rfl
def mirZ (k:Int)(ns:List Int)(ps:List (Int×Int)):List Int:=ns.set k.toNat (Zql ns k ps-atZ ns k)
theorem Zln {ns:List Int}(h:∀ n∈ns,Big n){i:Int}(hi:i.toNat<ns.length):Big (atZ ns i):=h _ (Zud hi)
end L2
namespace L2
open PySem PySem.Spec PyProof.Rows
section
variable {X:Cx}{pins:List (Addr×Obj)}{σ:St}{H:Hp}{s:Shared}{h':Heap}
theorem Inv.turnedL {t':Nat}{fp:List Addr}(I:Inv X pins σ H s)(hf:∀ b∈fp,Zlp X pins H b)(k:∀ b o,b∉fp->s.heap.get? b=some o->h'.get? b=some o):Inv X pins σ H { s with heap:=h',toks:=t' }:=by
 have nit:∀ b u,H b=some u->b∉fp:=λb u e z=>by rw[(hf b z).1] at e;cases e
 refine I.step (g':=s.gens) (d':=s.drawn) (ch:=fp) (λb hb=>?_) (λb o _ _ hc e _=>k b o hc e) (λb o _ _ hc e _=>⟨o.slots,k b o hc e⟩) (λ_ _ _ _ n=>n)
  (λb o hc e=>⟨o,k b o hc e⟩) (λ_ _ e=>e) (λ_ _ _ e=>e) (λb ps e=>⟨#[],by rw[e];simp⟩) (λm hm=>?_) (λb u e=>?_) I.bare
 .refine Zgf (hf b hb) λf0 f1 f2 f3 f4 f5=>?_;exact⟨f3,f1,f4,f5⟩
 .refine Zfa hm λo es ep ho r=>?_;clear hm;exact Za9 o es ep ⟨k _ o (λz=>(hf _ z).2.1 rfl) ho,r⟩
 .refine (I.hok b u e).stay (λc v hc q=>k c v ?_ q) (λ_ q=>q) (λ_ _ q=>q) λ_ _ _ q=>q;rcases hc with z|z
  .rw [z];exact nit b u e
  .exact nit c _ z
theorem Inv.turnedT {t':Nat}{fp:List Addr}{p:Addr}{o:HO}(I:Inv X pins σ H s)(hf:∀ b∈fp,Zlp X pins H b)(k:∀ b o,b∉fp->s.heap.get? b=some o->h'.get? b=some o)(hp:s.heap.objs.size<=p)(new:ObjOk X.prog X.w (upd H p o) h' p o):Inv X pins σ (upd H p o) { s with heap:=h',toks:=t' }:=by
 have hn:H p=none:=I.hok.fresh hp;have nit:∀ b u,H b=some u->b∉fp:=λb u e z=>by rw[(hf b z).1] at e;cases e
 have npp:∀ b u,s.heap.get? b=some u->b≠p:=λb u e=>Ja1 (Ja3 (Jae e) hp);refine I.step (g':=s.gens) (d':=s.drawn) (ch:=fp) (λb hb=>?_) (λb o _ _ hc e _=>k b o hc e) (λb o _ _ hc e _=>⟨o.slots,k b o hc e⟩) (λb o _ e n=>by rw[Zag (npp b o e)];exact n)
  (λb o hc e=>⟨o,k b o hc e⟩) (λb xs e=>by rw[Zag (Zaf e hn)];exact e) (λb u xs e=>by rw[Zag (Zaf e hn)];exact e) (λb ps e=>⟨#[],by rw[Zag (Zaf e hn),e];simp⟩) (λm hm=>?_) (λb u e=>?_) I.bare
 .refine Zgf (hf b hb) λf0 f1 f2 f3 f4 f5=>?_;exact⟨f3,f1,f4,f5⟩
 .refine Zfa hm λo es ep ho r=>?_;clear hm;exact Za9 o es ep ⟨k _ o (λz=>(hf _ z).2.1 rfl) ho,r⟩
 .by_cases hb:b=p
  .subst hb;rw[Zaa] at e;cases e;exact new
  .rw [Zag hb] at e;refine (I.hok b u e).stay (λc v hc q=>k c v ?_ q) (λc q=>by rw[Zag (Zaf q hn)];exact q) (λc xs q=>by rw[Zag (Zaf q hn)];exact q) λc _ _ q=>by rw[Zag (Zaf q hn)];exact q
   rcases hc with z|z
   .rw [z];exact nit b u e
   .exact nit c _ z
end
def Itz (K:Frag)(a b:Addr):It:=
 ⟨λi H=>∃ xs ys x y,SqL K H a xs/\SqL K H b ys/\xs[i]?=some x/\ys[i]?=some y,λi H v H'=>∃ x y p,v=.ref p/\H p=none/\H'=upd H p (.tup [x,y])/\(∀ xs,SqL K H a xs->xs[i]?=some x)/\∀ ys,SqL K H b ys->ys[i]?=some y,λi H=>∃ xs ys,SqL K H a xs/\SqL K H b ys/\(xs.length<=i\/ys.length<=i)⟩
theorem Zup {P:Program}{w:World}{K:Frag}{elts:List Expr}{x1:Nat}{pos:Pos}{z TI TO i1 i2 a b:Addr}(D:ZipApart z TI TO i1 i2 a b):
  Turn P w K (.Tuple elts x1 pos) (Itz K a b) [z,TI,TO,i1,i2] z (λi h=>IsZip h z TI TO .none/\IsPair h TI (.ref i1) (.ref i2)/\(∃ u v,IsPair h TO u v)/\h.IsListIter i1 a i/\h.IsListIter i2 b i) where
 mem:=by simp
 obj:=λi h st c hc=>by
  refine Zdu st λhz hTI e92 e93 e94=>?_;clear st;obtain⟨u,v,hTO⟩:=e92;obtain⟨o1,e1,c1,d1⟩:=e93;obtain⟨o2,e2,c2,d2⟩:=e94;simp at hc;rcases hc with rfl|rfl|rfl|rfl|rfl
  .exact ⟨_,hz,λv z=>by have z':Data.fields _=Data.cell v:=z;cases z'⟩
  .exact ⟨_,hTI,λv z=>by have z':Data.seq _ _=Data.cell v:=z;cases z'⟩
  .exact ⟨_,hTO,λv z=>by have z':Data.seq _ _=Data.cell v:=z;cases z'⟩
  .exact ⟨o1,e1,λv z=>by rw[d1] at z;cases z⟩
  .exact ⟨o2,e2,λv z=>by rw[d2] at z;cases z⟩
 keep:=λi h h' st k=>by
  refine Zdu st λhz hTI e95 h1 h2=>?_;clear st;obtain⟨u,v,hTO⟩:=e95;exact⟨k z (by simp) _ hz,k TI (by simp) _ hTI,⟨u,v,k TO (by simp) _ hTO⟩,h1.at λo e=>k i1 (by simp) o e,h2.at λo e=>k i2 (by simp) o e⟩
 item:=by
  intro X hP hw hK hc i pins s σ H E I hf st hg;subst hP hw hK;refine Zdt hg λxs ys x y hqa hqb hx hy=>?_;clear hg;refine Zap (I.list hqa) λits rv p hz1=>?_;refine Zap (I.list hqb) λits2 rv2 p2 hz2=>?_;refine Zah (rv.get hx) λu hu ru=>?_;refine Zah (rv2.get hy) λu2 hu2 ru2=>?_;refine Zdu st λhz hTI e96 h1 h2=>?_;clear st;obtain⟨c,d,hTO⟩:=e96;refine wpAny_pyNext_zip_item D hz hTI hTO h1 h2 p.isList p2.isList (by simpa using hu) (by simpa using hu2) λh' a1 a2 a3 a4 a5 a6 a7=>?_;refine⟨_,rfl,wpAny_letOwnedTupleGo_zip a1 λh'' b1 b2=>?_⟩;have nz:s.heap.objs.size≠z:=Jcx (Jae hz);have k2:∀ c o,c∉[z,TI,TO,i1,i2]->s.heap.get? c=some o->h''.get? c=some o:=λc o hc e=>by
   simp at hc;exact b2.extBut _ _ hc.1 (a7 c o hc.1 hc.2.2.1 hc.2.2.2.1 hc.2.2.2.2 e)
  have I2:Inv X pins σ (upd H s.heap.objs.size (.tup [x,y])) { s with heap:=h'' }:=I.turnedT (t':=s.toks) hf k2 (Jaf _)
   ⟨by show 2<=sizeLine;decide,[u,u2],.cons ru (.cons ru2 .nil),_,b2.extBut _ _ nz a5,rfl,_,rfl⟩
  refine Zav (.ref s.heap.objs.size) _ ⟨I2,rfl,⟨x,y,_,rfl,I.hok.fresh (Jaf _),rfl,λxs' hq=>by rw[I.list_inj hq hqa];exact hx,λys' hq=>by rw[I.list_inj hq hqb];exact hy⟩,⟨b1,b2.extBut _ _ D.TIz (a7 _ _ D.TIz D.TITO D.TIi1 D.TIi2 hTI),⟨_,_,b2.extBut _ _ D.TOz a2⟩,a3.extBut b2.extBut D.i1z,a4.extBut b2.extBut D.i2z⟩,λc hc=>?_⟩;have hlt:∀ c∈[z,TI,TO,i1,i2],c<s.heap.objs.size:=λc hc=>by
   simp at hc;refine Zah h1 λo1 e1 _=>?_;clear h1;refine Zah h2 λo2 e2 _=>?_;clear h2;rcases hc with rfl|rfl|rfl|rfl|rfl
   .exact Jae hz
   .exact Jae hTI
   .exact Jae hTO
   .exact Jae e1
   .exact Jae e2
  rw[Zag (Ja1 (hlt c hc))];exact (hf c hc).1
 done:=by
  intro X hP hw hK hc i pins s σ H E I hf st hg;subst hP hw hK;refine Za3 hg λxs ys hqa hqb hx=>?_;clear hg;refine Zap (I.list hqa) λits rv p hz1=>?_;refine Zap (I.list hqb) λits2 rv2 p2 hz2=>?_;refine Zdu st λhz hTI e97 h1 h2=>?_;clear st;obtain⟨c,d,hTO⟩:=e97;have l1:=rv.length;have l2:=rv2.length;refine wpAny_pyNext_zip_end (I.ok.hd hc) D hz hTI hTO h1 h2 p.isList p2.isList ?_ λh' kk=>⟨rfl,I.turnedL (t':=s.toks) hf λc o hc e=>?_⟩
  .rcases hx with hx|hx
   .exact .inl (by simp;omega)
   .exact .inr (by simp;omega)
  .simp at hc;exact kk c o hc.1 hc.2.2.1 hc.2.2.2.1 hc.2.2.2.2 e
 self:=λ_ _ _ _ _ st h=>wpAny_pyIter_zip st.1 h
section
variable {X:Cx}
def iZip (K:Frag)(ta:TA):TI:=λσ H R=>ta σ H λvs H1=>∃ a b,vs=[.ref a,.ref b]/\(∃ xs,SqL K H1 a xs)/\(∃ ys,SqL K H1 b ys)/\R (Itz K a b) H1
theorem Zje {elts:List Expr}{x1:Nat}{pt p pos:Pos}{a b:Expr}{ta:TA}(hg:Gl X "zip")(hm:X.mg "zip" = none)(ha:PA X [a,b] ta)(h:Zbf a=false:=by rfl)(h2:Zbf b=false:=by rfl):
  PI X (.Tuple elts x1 pt) (.Call (.Name "zip" p) [a,b] [] pos) (iZip X.K ta):=by
 intro pins s σ H R I hh;refine Call_ (Ze7 I hg hm boot_zip (Jbh (thn (ha pos pins s σ H _ I hh) λus s1 ⟨vs,H1,I1,r1,q1⟩=>?_) (by rw[Zaz h,Zaz h2]) (by rw[Zaz h2];rfl)));refine Zeh q1 λc d e e98 e99 q=>?_;clear q1;obtain⟨xs,hq1⟩:=e98;obtain⟨ys,hq2⟩:=e99;subst e;cases r1 with
 | cons r rr=>
  cases rr with
  | cons r' rr=>
   cases rr;cases r;cases r';refine Zap (I1.list hq1) λits rv p1 hz1=>?_;refine Zap (I1.list hq2) λits2 rv2 p2 hz2=>?_;have lt1:c<s1.heap.objs.size:=by obtain⟨o,ho,_⟩:=p1.isList;exact Jae ho
   have lt2:d<s1.heap.objs.size:=by obtain⟨o,ho,_⟩:=p2.isList;exact Jae ho
   refine call_zip_2 p1.isList p2.isList λh' a1 a2 a3 a4 a5 a6 a7=>wpAny_pyIter_zip (s:={ s1 with heap:=h' }) a1 ?_;refine Zd1 _ _ _ _ H1 ⟨rfl,I1.kept (t':=s1.toks) a7,Zup (zipApart_new lt1 lt2),⟨a1,a2,⟨_,_,a3⟩,a4,a5⟩,λb hb=>?_,q⟩;have hb':s1.heap.objs.size<=b:=by
    simp at hb;rcases hb with rfl|rfl|rfl|rfl|rfl
    .exact Jcp _ _
    .exact Jcp _ _
    .exact Jcp _ _
    .exact Jaf _
    .exact Jcp _ _
   have:=(I1.fpOk (H':=H1) hb' (I1.hok.fresh hb'))
   exact this
theorem Zpf (hc:X.calm=true):Zd9 X (.builtin "sum") (λxs H Q=>∃ (p:Addr) (ns:List Int),xs=[.ref p]/\SqL X.K H p (ns.map V.int)/\Q (.int (preSum (λi=>ns.getD i 0) ns.length)) H):=by
 intro pins s σ H xs us Q I r h;refine Za3 h λp ns e910 hq q=>?_;clear h;obtain rfl:=e910;refine Zah (Zkm r) λu e911 rx=>?_;obtain rfl:=e911;cases rx;refine Zap (I.list hq) λits rv pl hz=>?_;have hl:=rv.length;rw[Jab] at hl;refine call_sum_walkG (Jdh pl.isList ?_);have hne:p≠s.heap.objs.size:=λe=>by
  refine Zbg pl λo n ho _=>?_;clear pl;exact absurd (Jae ho) (by rw[e];exact Jbv _)
 refine Zqo s.heap.objs.size _ _ _ _ _ (λi=>ns.getD i 0) ⟨rfl,Walks.list (A:=X.A.in1) (I.ok.hd hc) _ p hne its.toArray,⟨⟨_,Ja2 _ rfl,rfl,rfl⟩,pl.isList.at λo e=>Jad _ e⟩,?_,?_,λh' tk t' kp=>?_⟩
 .intro b hb;simp at hb;rcases hb with rfl|rfl
  .rw [Jcg];exact Jdp _
  .rw [Jcg];refine Zah pl.isList λo ho _=>?_;exact Jd6 (Jae ho)
 .intro i v hv;have hv:its[i]?=some v:=by simpa using hv
  have hi:i<ns.length:=by rw[hl];exact (Jah.mp hv).1
  obtain⟨u,hu,ru⟩:=rv.get (i:=i) (x:=.int ns[i]) (by rw[Jau,Jaa hi];rfl);rw[hv] at hu;cases hu;obtain⟨t,rfl⟩:=ru;exact⟨t,by simp[hi]⟩
 .rw [Jaj,<- hl];have f:=I.fpOk (H':=H) (Jaf s.heap.objs.size) (I.hok.fresh (Jaf _));exact Zav (.int _) H ⟨(I.kept (h':=s.heap.push { cls:=.type "list_iterator",data:=.fields #[.ref p,.int 0 0] }) (t':=s.toks) λb o e=>Jad _ e).turned (it:=s.heap.objs.size) (t':=tk) (λb o hb e=>kp b o (by simpa using hb) e) f.1 f.2.1 f.2.2.2.1 f.2.2.2.2.1 f.2.2.2.2.2,⟨t',rfl⟩,q⟩
end
section
variable {K:Frag}{a b D:Addr}{xs ys:List V}{g:TG}{tt:TT}{te:TE}{k:Nat}{fr:List (Str×Nat)}{σ:St}{H1:Hp}{Q:VK}
theorem Zlg (Pv:Nat->List V->Hp->Prop)(hlen:ys.length=xs.length)(h0:Pv 0 [] (upd H1 D (.lst [])))(hl:∀ i vs H,i<=xs.length->Pv i vs H->SqL K H a xs/\SqL K H b ys)(hs:∀ i x y p vs σ' H,i<xs.length->xs[i]?=some x->ys[i]?=some y->H p=none->Sh k (Zb0 fr σ) σ'->Pv i vs H->Zda g tt te D xs.length k (Zb0 fr σ) Pv i (.ref p) σ' (upd H p (.tup [x,y])))(hd:∀ vs H,Pv xs.length vs H->Q (.ref D) H):
  Zbv g tt te (Itz K a b) D (Ze9 k fr σ) H1 Q:=by
 refine⟨Wv xs.length k (Zb0 fr σ) Pv,⟨xs.length,by simp,Jbm _,sh0,[],h0⟩,?_⟩;intro i m σ' H2 e91;refine Zbx e91 λe912 hi sh e913=>?_;clear e91;obtain rfl:=e912;obtain⟨vs,p⟩:=e913;obtain⟨q1,q2⟩:=hl i vs H2 hi p;by_cases hlt:i<xs.length
 .refine .inr ⟨⟨xs,ys,xs[i],ys[i]'(by omega),q1,q2,by simp[hlt],by simp[hlen,hlt]⟩,λx H3 y=>?_⟩;refine Zb3 y λu v pp e914 hp e915 e916=>?_;clear y;obtain rfl:=e914;obtain rfl:=e915;obtain⟨e1,e2⟩:=e916;exact hs i u v pp vs σ' _ hlt (e1 _ q1) (e2 _ q2) hp sh p
 .have e:i=xs.length:=∅
  subst e;exact .inl ⟨⟨xs,ys,q1,q2,.inl (Jaf _)⟩,hd vs H2 p⟩
end
end L2
namespace L2
open PySem PySem.Spec PyProof.Rows
def nrm (a b:Int):Int×Int:=(a / (Int.gcd a b:Int),b / (Int.gcd a b:Int))
def Low (x:Int×Int):Prop:=0<x.2/\Int.gcd x.1 x.2=1
theorem Zg8 {a b:Int}(hb:0<b):0<(Int.gcd a b:Int):=by
 have:0<Int.gcd a b:=Int.gcd_pos_of_ne_zero_right a ∅;omega
theorem nrm_fst {a b:Int}:(nrm a b).1*(Int.gcd a b:Int)=a:=Int.ediv_mul_cancel (Int.gcd_dvd_left ..)
theorem Zsv {a b:Int}:(nrm a b).2*(Int.gcd a b:Int)=b:=Int.ediv_mul_cancel (Jff ..)
theorem nrm_pos {a b:Int}(hb:0<b):0<(nrm a b).2:=by
 have h2:=@Zsv a b;have g0:=Zg8 (a:=a) hb;rcases Int.lt_trichotomy 0 (nrm a b).2 with h|h|h
 .exact h
 .rw [<- h,Jdt] at h2;omega
 .have:=Int.mul_neg_of_neg_of_pos h g0;omega
theorem nrm_low {a b:Int}(hb:0<b):Low (nrm a b):=by
 refine⟨nrm_pos hb,?_⟩;have h:=Int.gcd_mul_right (nrm a b).1 (Int.gcd a b:Int) (nrm a b).2;rw[nrm_fst,Zsv] at h;have g0:=Zg8 (a:=a) hb;have:Int.gcd a b=Int.gcd (nrm a b).1 (nrm a b).2*Int.gcd a b:=by simpa using h
 have g1:0<Int.gcd a b:=∅
 exact (Nat.eq_of_mul_eq_mul_right g1 ∅).symm
theorem Zgc (a:Int){g:Int}(hg:0<g)(hd:g ∣ a):(a / g).natAbs<=a.natAbs:=by
 obtain⟨k,rfl⟩:=hd;rw[Int.mul_ediv_cancel_left _ ∅,Int.natAbs_mul];exact Nat.le_mul_of_pos_left _ ∅
def Bd (B:Nat)(x:Int×Int):Prop:=x.1.natAbs<=B/\x.2.natAbs<=B
theorem nrm_bd {a b:Int}{B:Nat}(hb:0<b)(h1:a.natAbs<=B)(h2:b.natAbs<=B):Bd B (nrm a b):=
 ⟨Jbf (Zgc a (Zg8 hb) (Int.gcd_dvd_left ..)) h1,Jbf (Zgc b (Zg8 hb) (Jff ..)) h2⟩
def Isn (p:Int)(x:Int×Int):Prop:=(p=0/\Low x)\/(0<p/\0<=x.1/\x.1<p/\x.2=1)
theorem isn_nrm {p a b:Int}(hp:p=0)(hb:0<b):Isn p (nrm a b):=.inl ⟨hp,nrm_low hb⟩
theorem Zo7 (a b:Int):Int.gcd b (a % b)=Int.gcd a b:=by
 rw[Int.emod_def,Int.sub_eq_add_neg,<- Int.mul_neg,Int.gcd_add_mul_left_right,Int.gcd_comm]
def CDivG (i j:Int):Prop:=0<j/\j.natAbs<=100000000000000000000000000000000
theorem Zik {X:Cx}:OpR X (binaryOp .FloorDiv) (rI CDivG λi j=>.int (i / j)):=opI λi j _ _ _ _ _ hc q=>by
 have h1:(0:Int)<j:=hc.1;have h2:=hc.2;refine floordiv_int ∅ (by rw[Int.fdiv_eq_ediv_of_nonneg i ∅];exact q) (.inl (PyProof.noPylong_of_log2 ?_));have:j.natAbs.log2<200:=(Nat.log2_lt ∅).mpr (Je0 h2 ⋯);omega
structure FunD (K:Frag)(x qual:Str)(st:Stmt)(f:Addr)(fd:FuncData)(T:Addr):Prop where
 ex:∃ (oc:Value) (od:Option Addr) (kV doc pm:Value) (an:Option Addr) (cdv ct:Value) (osl:Array (Option Value)),
  fd=PySem.W.fnOf x qual (Zd7 st) (Zci st) (Zae st) (.ref T) kV doc pm an cdv ct/\K.lookup f=some ⟨oc,od,.func fd,osl⟩/\PySem.W.codeIn K cdv qual=true
section
theorem FunD.ok {x qual:Str}{st:Stmt}{f T:Addr}{fd:FuncData}{N ps:List Str}{k:Nat}{sp:Sp}(F:FunD K x qual st f fd T)(S:FnScope N ps (Zae st))(len:∀ vs H Q E,sp vs H Q E->vs.length=ps.length)(hbody:∀ (cdv:Value) (A:Around) (outer:List Env) (s:Shared) (H:Hp) (vs:List V) (Q:VK) (E:XK),Room k (A.deeper (envOfC qual (Zae st) s.heap.objs.size f cdv))->sp vs H Q E->
   ∃ t,PSs (Zny CX0 P w K mg base N qual (Zae st) f cdv A outer s H E).nox (Zci st) t/\t { nx:=λ_ H'=>Q .non H',rt:=Q } (start N vs) H):FnOk P w K mg base CX0 (k+1) f fd ps sp:=by
 refine Zqp F.ex λoc od kV doc pm an cdv ct osl e91 lk hcd=>?_;obtain rfl:=e91;refine fn_of lk hcd S len λA outer s H vs Q E hr hsp=>?_;refine Zah (hbody cdv A outer s H vs Q E hr hsp) λt h q=>?_;exact⟨t,h.nox,q⟩
end
structure CalD (P:Program)(w:World)(K:Frag)(mg:Str->Option Value)(base:Heap)(C:Addr)(m:Str)(k:Nat)(sp:Sp)(dvs:List V):Prop where
 ex:∃ (f:Addr) (fd:FuncData) (ps:List Str) (ds:List Value),FnOk P w K mg base CX0 k f fd ps sp/\Meth K C m f/\Binds K fd ps ds/\Vals dvs ds
theorem pe_mthD {X:Cx}{m:Str}{C:Addr}{k:Nat}{sp:Sp}{dvs:List V}{o e:Expr}{es:List Expr}{ta:TE}{t:TA}{apos pos:Pos}{pl:Sem Bool}(c:Cls X.K C)(M:CalD X.prog X.w X.K X.mg X.base C m k sp dvs)(hr:Room k X.A)(ho:PE X o ta)(ha:PA X (e::es) t)(h:Zbf e=false:=by rfl)(h2:es.all (λx=>!Zbf x)=true:=by rfl)(ht:eval (.Call (.Attribute o m apos) (e::es) [] pos) X.env=(do
   let ov <- eval o X.env
   standAt apos.atName
   let (f,first) <- holding [ov] (getMethod ov m pl)
   callWith pos f first (backTo pos (starEach (e::es) X.env)) (backToKw pos (keywordEach [] X.env))):=by rfl):
  PE X (.Call (.Attribute o m apos) (e::es) [] pos) (Zm7 C m sp dvs E0 ta t):=by
 refine Zdt M.ex λf fd ps ds F hm hb hd=>?_;exact Zr3 ho c hm F hr hb hd Zpw ha (Zaz h) (Zdc h2) ht
theorem Zhc {K:Frag}{fd:FuncData}{ps:List Str}{T:Addr}{oc:Value}{od:Option Addr}{osl:Array (Option Value)}{items:Array Value}{n:Nat}{ds:List Value}(lk:K.lookup T=some ⟨oc,od,.seq items n,osl⟩)(hd:fd.defaults=.ref T)(h:∀ us:List Value,(us++ds).length=ps.length->∃ k,bindArgs fd ⟨us,[]⟩=seqItems? fd.defaults >>= k/\k (some items)=pure (ps.zip (us++ds))):Binds K fd ps ds:=λs us KX hl=>by
 refine Zah (h us hl) λk h1 h2=>?_;exact .of_defaults hd (KX T _ lk) rfl h1 h2
theorem Zr6 {K:Frag}{H:Hp}{t u:Addr}{a b:Int}(neg:Bool){Q:VK}(ht:H t=some (.tup [.int a,.int b]))(hu:H u=some (.tup [.int a,.int b]))(q:Q (.bl !neg) H):rEqT K neg (.ref t) (.ref u) H Q:=by
 have e:∀ i:Int,eqV (.int i) (.int i)=true:=λi=>by simp[eqV]
 refine Zd1 t u _ _ [true,true] ⟨rfl,rfl,SqT.of ht,SqT.of hu,⟨rfl,rfl,λj x y c e1 e2 e3=>?_⟩,?_⟩
 .match j,e1,e2,e3 with
  | 0,e1,e2,e3=>
   cases e1;cases e2;cases e3;have:=EqD.flat (K:=K) (H:=H) (n:=6) (x:=.int a) (y:=.int a) rfl rfl;rw[e] at this;exact this
  | 1,e1,e2,e3=>
   cases e1;cases e2;cases e3;have:=EqD.flat (K:=K) (H:=H) (n:=6) (x:=.int b) (y:=.int b) rfl rfl;rw[e] at this;exact this
  | j+2,e1,_,_=>cases e1
 .cases neg <;> exact q
def rBits:V->List V->Hp->VK->Prop:=λx vs H Q=>∃ i:Int,x=.int i/\vs=[]/\Q (.int ((Builtin.Int.intBits i:Nat):Int)) H
theorem mt_bits {X:Cx}:MtM X "int.bit_length" rBits:=by
 intro pins s σ H x vs v us Q I rx rv h;refine Zap h λi e91 e92 q=>?_;clear h;obtain rfl:=e91;obtain rfl:=e92;obtain⟨t,rfl⟩:=rx;have hus:=rv.zero;subst hus;exact call_gives F.slot_int_bit_length (typeIs_int s i t) F.entry_int_bit_length (F.args_int_bit_length_1 _) (AutoIntG2.int_bit_length_int_0 i t) ⟨.int ((Builtin.Int.intBits i:Nat):Int),H,I.tok _,⟨_,rfl⟩,q⟩
theorem bits_le {i:Int}{n:Nat}(h:i.natAbs<2 ^ n):Builtin.Int.intBits i<=n:=by
 unfold Builtin.Int.intBits;split
 .exact Jbm _
 .rename_i h0
  have h1:i.natAbs≠0:=by
   intro e;exact h0 (by simp[Int.natAbs_eq_zero.mp e])
  exact (Nat.log2_lt h1).mpr h
section
variable {κ:Type}[DecidableEq κ]
def Zhz (kvs:List (κ×V))(k:κ):Option V:=(kvs.find? λkv=>decide (kv.1=k)).map (·.2)
def Zjt (kvs:List (κ×V))(k:κ)(v:V):List (κ×V):=
 if (kvs.any λkv=>decide (kv.1=k))=true then kvs.map (λkv=>if kv.1=k then (kv.1,v) else kv) else kvs++[(k,v)]
theorem Zca {p:κ×V}{r:List (κ×V)}{k:κ}(e:p.1=k):Zhz (p::r) k=some p.2:=by simp[Zhz,Jdc,e]
theorem Zcb {p:κ×V}{r:List (κ×V)}{k:κ}(e:¬ p.1=k):Zhz (p::r) k=Zhz r k:=by simp[Zhz,Jdc,e]
theorem Zfs (k:κ):∀ kvs:List (κ×V),(kvs.any λkv=>decide (kv.1=k))=(Zhz kvs k).isSome
 | []=>rfl
 | p::r=>by
  rw[Jdj];by_cases e:p.1=k
  .simp only [Zca e,Jag e,Bool.true_or,Option.isSome_some]
  .rw [Zcb e,Ja5 e,Bool.false_or];exact Zfs k r
theorem Zob (k j:κ)(y:V):∀ kvs:List (κ×V),Zhz (kvs.map λkv=>if kv.1=k then (kv.1,y) else kv) j=(Zhz kvs j).map λx=>if j=k then y else x
 | []=>rfl
 | p::r=>by
  have ih:=Zob k j y r;rw[Ja8];by_cases h:p.1=k
  .rw [if_pos h];by_cases e:p.1=j
   .rw [Zca (p:=(p.1,y)) e,Zca e,Jeu,if_pos (e.symm.trans h)]
   .rw [Zcb (p:=(p.1,y)) e,Zcb e,ih]
  .rw [if_neg h];by_cases e:p.1=j
   .rw [Zca (p:=p) e,Zca e,Jeu,if_neg (λz=>h (e.trans z))]
   .rw [Zcb (p:=p) e,Zcb e,ih]
theorem Zlv (k j:κ)(y:V):∀ kvs:List (κ×V),Zhz kvs k=none->Zhz (kvs++[(k,y)]) j=if j=k then some y else Zhz kvs j
 | [],_=>by
  by_cases e:k=j
  .rw [if_pos e.symm];exact Zca (p:=(k,y)) e
  .rw [if_neg (λz=>e z.symm)];exact Zcb (p:=(k,y)) e
 | p::r,hn=>by
  rw[List.cons_append];have hk:¬ p.1=k:=λz=>by rw[Zca z] at hn;cases hn
  rw[Zcb hk] at hn;have ih:=Zlv k j y r hn;by_cases e:p.1=j
  .rw [Zca e,Zca e,if_neg (λz=>hk (e.trans z))]
  .rw [Zcb e,Zcb e,ih]
theorem Zoa (kvs:List (κ×V))(k j:κ)(y:V):Zhz (Zjt kvs k y) j=if j=k then some y else Zhz kvs j:=by
 unfold Zjt;by_cases a:(kvs.any λkv=>decide (kv.1=k))=true
 .rw [if_pos a,Zob];rw[Zfs] at a;by_cases e:j=k
  .obtain ⟨x,hx⟩:=Jce.mp a;rw[if_pos e,e,hx,Jeu,if_pos rfl]
  .rw [if_neg e];cases Zhz kvs j with
   | none=>rfl
   | some x=>rw[Jeu,if_neg e]
 .rw [if_neg a];refine Zlv k j y kvs ?_;rw[Zfs] at a;cases q:Zhz kvs k with
  | none=>rfl
  | some x=>rw[q] at a;exact (a rfl).elim
theorem Zgo (kvs:List (κ×V))(k:κ)(v:V):(Zjt kvs k v).length<=kvs.length+1:=by
 unfold Zjt;split
 .rw [Jab];omega
 .rw [Jak,Jbq,List.length_nil];omega
theorem Zu6 {kvs:List (κ×V)}{k:κ}(v:V)(h:Zhz kvs k=none):Zjt kvs k v=kvs++[(k,v)]:=by
 unfold Zjt;rw[Zfs,h];exact if_neg ⇑0
theorem RelO.isSome_eq {o:Option V}{u:Option Value}(r:RelO o u):o.isSome=u.isSome:=by
 cases o with
 | none=>cases u with
  | none=>rfl
  | some _=>exact (show False from r).elim
 | some _=>cases u with
  | none=>exact (show False from r).elim
  | some _=>rfl
theorem KV.val {kvs:List (κ×V)}{vs:List (κ×Value)}(r:KV kvs vs)(k:κ):RelO (Zhz kvs k) (valueAt vs k):=by
 unfold KV at r
 induction r with
 | nil=>exact True.intro
 | @cons p q ps qs h t ih=>
  obtain⟨h1,h2⟩:=h;by_cases e:p.1=k
  .have e':q.1=k:=h1.symm.trans e;have b:valueAt (q::qs) k=some q.2:=by simp[valueAt,Jdc,e']
   rw[Zca e,b];exact h2
  .have e':¬ q.1=k:=λz=>e (h1.trans z);have b:valueAt (q::qs) k=valueAt qs k:=by simp[valueAt,Jdc,e']
   rw[Zcb e,b];exact ih
theorem KV.any {kvs:List (κ×V)}{vs:List (κ×Value)}(r:KV kvs vs)(k:κ):(kvs.any λkv=>decide (kv.1=k))=vs.any λkv=>decide (kv.1=k):=by
 unfold KV at r
 induction r with
 | nil=>rfl
 | cons h t ih=>rw[Jdj,Jdj,ih,h.1]
theorem KV.repl {kvs:List (κ×V)}{vs:List (κ×Value)}(r:KV kvs vs)(k:κ){y:V}{u:Value}(ry:RelV y u):
  KV (kvs.map λkv=>if kv.1=k then (kv.1,y) else kv) (vs.map λkv=>if kv.1=k then (kv.1,u) else kv):=by
 unfold KV at r ⊢
 induction r with
 | nil=>exact .nil
 | @cons p q ps qs h t ih=>
  rw[Ja8,Ja8];refine .cons ?_ ih;obtain⟨h1,h2⟩:=h;by_cases e:p.1=k
  .rw [if_pos e,if_pos (h1.symm.trans e)];exact⟨h1,ry⟩
  .rw [if_neg e,if_neg (λz=>e (h1.trans z))];exact⟨h1,h2⟩
theorem KV.put {kvs:List (κ×V)}{vs:List (κ×Value)}(r:KV kvs vs)(k:κ){y:V}{u:Value}(ry:RelV y u):KV (Zjt kvs k y) (stored vs k u):=by
 unfold Zjt stored;rw[r.any k];by_cases e:(vs.any λkv=>decide (kv.1=k))=true
 .rw [if_pos e,if_pos e];exact r.repl k ry
 .rw [if_neg e,if_neg e];exact Paired.snoc r ⟨rfl,ry⟩
theorem KV.length {kvs:List (κ×V)}{vs:List (κ×Value)}(r:KV kvs vs):kvs.length=vs.length:=Jfl r
end
theorem Zwe {P:Program}{w:World}{k:Key}{u:Value}(r:RelV (kV k) u):(Zch P w).is k u=true:=by
 cases k with
 | inl i=>obtain⟨t,e⟩:=(show ∃ t,u=Value.int i t from r);subst e;exact Zno P w i t
 | inr x=>obtain⟨t,e⟩:=(show ∃ t,u=Value.str x t from r);subst e;exact Znn P w x t
theorem Zmj {P:Program}{w:World}:∀ {ks:List Key} {us:List Value},Vals (ks.map kV) us->ItemsAre (Zch P w) ks us
 | [],_,r=>by rw[Jei] at r;cases r;exact .nil
 | k::ks,_,r=>by
  rw[Ja8] at r;cases r with
  | cons h t=>exact .cons (Zwe h) (Zmj t)
abbrev KT (H:Hp):List (List Key×V)->List (List Key×Addr×Value)->Prop:=Paired λp q=>p.1=q.1/\H q.2.1=some (.tup (p.1.map kV))/\RelV p.2 q.2.2
theorem KT.val {H:Hp}{kvs:List (List Key×V)}{xs:List (List Key×Addr×Value)}(r:KT H kvs xs)(k:List Key):RelO (Zhz kvs k) ((atKey xs k).map (·.2)):=by
 induction r with
 | nil=>exact True.intro
 | @cons p q ps qs h t ih=>
  refine Zar h λh1 _ h2=>?_;clear h;by_cases e:p.1=k
  .have e':q.1=k:=h1.symm.trans e;have b:atKey (q::qs) k=some q.2:=by simp[atKey,Jdc,e']
   rw[Zca e,b];exact h2
  .have e':¬ q.1=k:=λz=>e (h1.trans z);have b:atKey (q::qs) k=atKey qs k:=by simp[atKey,Jdc,e']
   rw[Zcb e,b];exact ih
theorem KT.repl {H:Hp}{kvs:List (List Key×V)}{xs:List (List Key×Addr×Value)}(r:KT H kvs xs)(k:List Key){y:V}{u:Value}(ry:RelV y u):
  KT H (kvs.map λkv=>if kv.1=k then (kv.1,y) else kv) (xs.map (putAt k u)):=by
 induction r with
 | nil=>exact .nil
 | @cons p q ps qs h t ih=>
  rw[Ja8,Ja8];refine .cons ?_ ih;refine Zar h λh1 h2 h3=>?_;clear h;unfold putAt;by_cases e:p.1=k
  .rw [if_pos e,if_pos (h1.symm.trans e)];exact⟨h1,h2,ry⟩
  .rw [if_neg e,if_neg (λz=>e (h1.trans z))];exact⟨h1,h2,h3⟩
theorem KT.put {H:Hp}{kvs:List (List Key×V)}{xs:List (List Key×Addr×Value)}(r:KT H kvs xs)(k:List Key){b:Addr}{y:V}{u:Value}(hb:H b=some (.tup (k.map kV)))(ry:RelV y u):
  KT H (Zjt kvs k y) (storedH xs k b u):=by
 have e:(kvs.any λkv=>decide (kv.1=k))=(atKey xs k).isSome:=by
  rw[Zfs,(r.val k).isSome_eq,Option.isSome_map]
 unfold Zjt storedH;rw[e];by_cases q:(atKey xs k).isSome=true
 .rw [if_pos q,if_pos q];exact r.repl k ry
 .rw [if_neg q,if_neg q];exact Paired.snoc r ⟨rfl,hb,ry⟩
theorem KT.keeps {H H':Hp}{kvs:List (List Key×V)}{xs:List (List Key×Addr×Value)}(r:KT H kvs xs)(ht:∀ b ys,H b=some (.tup ys)->H' b=some (.tup ys)):KT H' kvs xs:=
 Paired.mapP r λ_ _ z=>⟨z.1,ht _ _ z.2.1,z.2.2⟩
section
variable {P:Program}{w:World}{H:Hp}{h:Heap}{a:Addr}
theorem rd_of {u:HO}(ok:HOk P w H h)(e:Rd H a u):ObjOk P w H h a u:=e.ok ok
theorem dk_rd {kvs:List (Key×V)}(ok:HOk P w H h)(e:Rd H a (.dK kvs)):kvs.length<=sizeLine/\(a == sysModules)=false/\∃ vs,KV kvs vs/\h.DictOf (Zch P w) a vs:=
 show ObjOk P w H h a (.dK kvs) from rd_of ok e
theorem dk_of {kvs:List (Key×V)}(ok:HOk P w H h)(e:H a=some (.dK kvs)):kvs.length<=sizeLine/\(a == sysModules)=false/\∃ vs,KV kvs vs/\h.DictOf (Zch P w) a vs:=dk_rd ok (.inl e)
theorem Zs5 {ks:List Key}(ok:HOk P w H h)(e:H a=some (.tup (ks.map kV))):(tupleKind (Zch P w)).is h ks a:=by
 obtain⟨_,its,r,o,h1,h2,n,h3⟩:=(show ObjOk P w H h a (.tup (ks.map kV)) from ok a _ e)
 exact Za9 o its.toArray n ⟨h1,h2,h3,by simpa using Zmj r⟩
theorem dt_rd {kvs:List (List Key×V)}(ok:HOk P w H h)(e:Rd H a (.dT kvs)):kvs.length<=sizeLine/\(a == sysModules)=false /\
  ∃ xs,KT H kvs xs/\h.DictOfH (tupleKind (Zch P w)) a xs:=by
 refine Zar (show ObjOk P w H h a (.dT kvs) from rd_of ok e) λz y e91=>?_;obtain⟨xs,r,o,es,ep,h1,h2,h3,h4,h5⟩:=e91;refine⟨z,y,xs,r,o,es,ep,h1,h2,h3,h4,λx hx=>?_,h5⟩;have all:∀ {l:List (List Key×V)} {m:List (List Key×Addr×Value)},KT H l m->∀ x∈m,(tupleKind (Zch P w)).is h x.1 x.2.1:=by
  intro l m q
  induction q with
  | nil=>intro x hx;exact nomatch hx
  | @cons p q ps qs hq t ih=>
   intro x hx;rcases Jax.mp hx with e|hx
   .subst e;exact Zs5 ok (by rw[<- hq.1];exact hq.2.1)
   .exact ih x hx
 exact all r x hx
theorem dt_of {kvs:List (List Key×V)}(ok:HOk P w H h)(e:H a=some (.dT kvs)):kvs.length<=sizeLine/\(a == sysModules)=false /\
  ∃ xs,KT H kvs xs/\h.DictOfH (tupleKind (Zch P w)) a xs:=dt_rd ok (.inl e)
end
def DGet (H:Hp)(a:Addr)(y:V)(r:Option V):Prop:=
 (∃ kvs k,Rd H a (.dK kvs)/\y=kV k/\r=Zhz kvs k)\/∃ kvs k b,Rd H a (.dT kvs)/\y=.ref b/\H b=some (.tup (k.map kV))/\r=Zhz kvs k
def DPut (H:Hp)(a:Addr)(y v:V)(H':Hp):Prop:=
 (∃ kvs k,H a=some (.dK kvs)/\y=kV k/\kvs.length<sizeLine/\H'=upd H a (.dK (Zjt kvs k v))) \/
 ∃ kvs k b,H a=some (.dT kvs)/\y=.ref b/\H b=some (.tup (k.map kV))/\kvs.length<sizeLine/\H'=upd H a (.dT (Zjt kvs k v))
theorem DGet.k {H:Hp}{a:Addr}{kvs:List (Key×V)}{k:Key}(e:H a=some (.dK kvs)):DGet H a (kV k) (Zhz kvs k):=.inl ⟨kvs,k,.inl e,rfl,rfl⟩
theorem DPut.k {H:Hp}{a:Addr}{kvs:List (Key×V)}{k:Key}{v:V}(e:H a=some (.dK kvs))(hl:kvs.length<sizeLine):DPut H a (kV k) v (upd H a (.dK (Zjt kvs k v))):=.inl ⟨kvs,k,e,rfl,hl,rfl⟩
section
variable {X:Cx}{pins:List (Addr×Obj)}{σ:St}{H:Hp}{s:Shared}{a:Addr}{y v:V}{u r:Value}{o:Option V}{A:Around}{E:Value->Shared->Prop}
theorem Inv.big (I:Inv X pins σ H s):sysModules<s.heap.objs.size:=by
 have h:mainGlobals<s.heap.objs.size:=(I.mod.glob.keeps I.bk).lt;exact Nat.lt_trans ⇑0 h
theorem Zts {Q:Value->Shared->Prop}(hu:A.units+1<cLine)(I:Inv X pins σ H s)(g:DGet H a y (some v))(ry:RelV y u)(h:∀ w' s',Inv X pins σ H s'->RelV v w'->Q w' s'):
  wpAny (model X.prog X.w) A (getItem (.ref a) u) Q E s:=by
 rcases g with ⟨kvs,k,e,ey,l⟩|⟨kvs,k,b,e,ey,eb,l⟩
 .subst ey;refine Zar (dk_rd I.hok e) λz hd e92=>?_;obtain⟨vs,rel,dd⟩:=e92;obtain⟨w',hw,rw'⟩:=RelO.some_of (v:=v) (o:=valueAt vs k) (by rw[l];exact rel.val k);exact wpAny_getItem_of (Zwe ry) dd.mapOf hw (h w' _ (I.tok _) rw')
 .subst ey;cases (show u=Value.ref b from ry);refine Zar (dt_rd I.hok e) λz hd e93=>?_;obtain⟨xs,rel,dd⟩:=e93;obtain⟨w',hw,rw'⟩:=RelO.some_of (v:=v) (o:=(atKey xs k).map (·.2)) (by rw[l];exact rel.val k);refine Zah (Option.map_eq_some_iff.mp hw) λp hp hp2=>?_;refine wpAny_getItem_heap (tupleKind_room_in1 hu) (Zs5 I.hok eb) dd hp ?_;rw[hp2];exact h w' _ (I.tok _) rw'
theorem Znx {h':Heap}{t':Nat}{ob:HO}(I:Inv X pins σ H s)(mu:Mut (H a))(hs:Heap.SameBut a s.heap h')(he:∃ q,h'.get? a=some q)(new:ObjOk X.prog X.w (upd H a ob) h' a ob):
  Inv X pins σ (upd H a ob) { s with heap:=h',toks:=t' }:=
 I.write (x:=a) (e:=a) mu (.inl rfl) (λb q hb z=>(hs.2 b hb).trans z) he new
theorem Zxw {P:Program}{w:World}{H':Hp}{h':Heap}{kvs:List (Key×V)}{vs:List (Key×Value)}(z:kvs.length<=sizeLine)(hd:(a == sysModules)=false)(rel:KV kvs vs)(dd:h'.DictOf (Zch P w) a vs):
  ObjOk P w H' h' a (.dK kvs):=⟨z,hd,vs,rel,dd⟩
theorem Ztr {H':Hp}{Q:Unit->Shared->Prop}(hu:A.units+1<cLine)(I:Inv X pins σ H s)(g:DPut H a y v H')(ry:RelV y u)(rv:RelV v r)(h:∀ s',Inv X pins σ H' s'->Q () s'):
  wpAny (model X.prog X.w) A (setItem (.ref a) u r) Q E s:=by
 rcases g with ⟨kvs,k,e,ey,l,eH⟩|⟨kvs,k,b,e,ey,eb,l,eH⟩
 .subst ey eH;refine Zar (dk_of I.hok e) λz hd e98=>?_;obtain⟨vs,rel,dd⟩:=e98;have hz:vs.length<=sizeLine:=by rw[<- rel.length];exact z
  have hl:(Zjt kvs k v).length<=sizeLine:=by have:=Zgo kvs k v;omega
  refine wpAny_setItem_pairs (hsz:=hz) (Zwe ry) dd λh' dd' hs=>h _ ?_;have he:∃ q,h'.get? a=some q:=let ⟨q,_,_,hq,_⟩:=dd';⟨q,hq⟩;exact Znx I (by rw[e];exact True.intro) hs he (Zxw hl hd (rel.put k rv) dd')
 .subst ey eH;cases (show u=Value.ref b from ry);refine Zar (dt_of I.hok e) λz hd e99=>?_;obtain⟨xs,rel,dd⟩:=e99;have hz:xs.length<=sizeLine:=by rw[<- Jfl rel];exact z
  have hl:(Zjt kvs k v).length<=sizeLine:=by have:=Zgo kvs k v;omega
  refine wpAny_setItem_heap (hsz:=hz) (tupleKind_room_in1 hu) (Zs5 I.hok eb) dd λh' dd' hs=>h _ ?_;refine Zb3 dd' λq es ep hq h2 h3 e910=>?_;clear dd';refine Zar e910 λh4 _ h5=>?_;clear e910;refine Znx I (by rw[e];exact True.intro) hs ⟨q,hq⟩ ⟨hl,hd,_,(rel.put k eb rv).keeps λc ys ec=>?_,q,es,ep,hq,h2,h3,h4,h5⟩;rw[Zag (Zcz ec e (λz=>nomatch z))];exact ec
end
section
variable {X:Cx}{pins:List (Addr×Obj)}{σ:St}{H:Hp}{s:Shared}{a:Addr}{kvs:List (Key×V)}{k:Key}{u:Value}{A:Around}{E:Value->Shared->Prop}
end
def NoSl (i:Expr):Prop:=∀ ov iv,subscripted i false ov iv=operate [ov,iv] (getItem ov iv)
theorem subD_of {prog:Program}{w:World}{A:Around}{E:Value->Shared->Prop}{s:Shared}{env:Env}{value slice:Expr}{pos:Pos}{T id:String}{Q:Value->Shared->Prop}(hl:typeLookup (.type T) "__getitem__" = pure (some (.builtin id)))(hs:NoSl slice)(h:wpAny (model prog w) A (eval value env) (λo s₁=>wpAny (model prog w) A (eval slice env) (λi s₂=>s₂.TypeIs o T/\wpAny (model prog w) A (getItem o i) Q E s₂) E s₁) E s):
  wpAny (model prog w) A (eval (.Subscript value slice pos) env) Q E s:=by
 refine Subscript_ (Jbg h (λo s₁ h₁=>Jbg h₁ (λi s₂ h₂=>?_) λ_ _ x=>x) λ_ _ x=>x);obtain⟨hT,h₂⟩:=h₂;unfold subscriptTail;refine Jac ?_;rw[getitemInPython_of_ne hT.not_modules];refine Jac (Jdd hT hl ?_);have fin:wpAny (model prog w) A (subscripted slice false o i) (λr s₃=>wpAny (model prog w) A (letTemporaryGo value o r >>= λ_=>pure r) Q E s₃) E s₂:=by
  rw[hs o i];exact wpAny_operating (Jbg h₂ (λr s₃ h₃=>Jac (wpAny_letTemporaryGo (Jal h₃))) λ_ _ x=>x)
 first
  | exact Jal (Jac fin)
  | exact Jac (Jal (Jac fin))
  | exact Jac fin
theorem Znw {X:Cx}{pins:List (Addr×Obj)}{σ:St}{H:Hp}{s:Shared}{a:Addr}{y:V}{o:Option V}(I:Inv X pins σ H s)(g:DGet H a y o):s.TypeIs (.ref a) "dict" := by
 rcases g with ⟨kvs,k,e,_,_⟩|⟨kvs,k,b,e,_,_,_⟩
 .refine Zar (dk_rd I.hok e) λ_ _ e917=>?_;obtain⟨vs,_,dd⟩:=e917;exact dd.typeIs
 .refine Zar (dt_rd I.hok e) λ_ _ e918=>?_;obtain⟨xs,_,dd⟩:=e918;exact dd.typeIs
def tDGet (td ty:TE):TE:=λσ H Q=>td σ H λx H1=>ty σ H1 λy H2=>∃ a v,x=.ref a/\DGet H2 a y (some v)/\Q v H2
def sDPut (td ty tv:TE):TS:=λD σ H=>tv σ H λv H1=>td σ H1 λx H2=>ty σ H2 λy H3=>∃ a H4,x=.ref a/\DPut H3 a y v H4/\D.nx σ H4
section
variable {X:Cx}{o i e value:Expr}{pos pos' tpos:Pos}{td ty tv:TE}
theorem Zjf (hu:X.A.units+1<cLine)(ho:PE X o td)(hi:PE X i ty)(hs:NoSl i):PE X (.Subscript o i pos) (tDGet td ty):=by
 intro pins s σ H Q I h;refine subD_of PySem.F.slot_dict_getitem.lookup hs (thn (ho pins s σ H _ I h) λu s1 ⟨x,H1,I1,rx,q1⟩=>thn (hi pins s1 σ H1 _ I1 q1) λiv s2 ⟨y,H2,I2,ry,a,v,ex,g,q2⟩=>?_);subst ex;obtain rfl:u=Value.ref a:=rx;exact⟨Znw I2 g,Zts hu I2 g ry λw' s3 I3 rw'=>⟨v,H2,I3,rw',q2⟩⟩
theorem ps_dput (hu:X.A.units+1<cLine)(ho:PE X o td)(hi:PE X i ty)(hv:PE X value tv)(hs:swapsWith value (some (.Subscript o i pos')) pos.line X.env=pure false):
  PS X (.Assign [.Subscript o i pos'] value pos) (sDPut td ty tv):=by
 intro pins s σ H D I h;refine wpAny_Assign_Subscript (thn (hv pins s σ H _ I h) λr s1 ⟨v,H1,I1,rv,q1⟩=>thn (ho pins s1 σ H1 _ I1 q1) λu s2 ⟨x,H2,I2,rx,q2⟩=>thn (hi pins s2 σ H2 _ I2 q2) λiv s3 ⟨y,H3,I3,ry,a,H4,ex,g,q3⟩=>?_) hs;subst ex;obtain rfl:u=Value.ref a:=rx;exact Ztr hu I3 g ry rv λs4 I4=>⟨σ,H4,I4,q3⟩
end
theorem Zwt {P:Program}{w:World}{H:Hp}(h:Heap)(hb:sysModules<h.objs.size):ObjOk P w H (h.push { cls:=.type "dict",data:=.dict #[] }) h.objs.size (.dK []):=
 ⟨Jbm _,Jc7.mpr (Jcs (Ja1 hb)),[],.nil,Heap.DictOf.new h⟩
section
variable {X:Cx}{pos:Pos}
end
def Zod:List (TE×TE)->St->Hp->(List (V×V)->Hp->Prop)->Prop
 | [],_,H,Q=>Q [] H
 | (tk,tv)::r,σ,H,Q=>tk σ H λx H1=>tv σ H1 λy H2=>Zod r σ H2 λps H3=>Q ((x,y)::ps) H3
def mergeK (kvs more:List (Key×V)):List (Key×V):=more.foldl (λacc kv=>Zjt acc kv.1 kv.2) kvs
def tDisp (trs:List (TE×TE)):TE:=λσ H Q=>∀ p,H p=none->Zod trs σ (upd H p (.dK [])) λps H2=>H2 p=some (.dK [])/\∃ kvs:List (Key×V),ps=kvs.map (λkv=>(kV kv.1,kv.2))/\kvs.length<=15/\Q (.ref p) (upd H2 p (.dK (mergeK [] kvs)))
structure M1 (X:Cx)(o:Expr)(m:Str)(apos:Pos)(e:Expr)(cpos:Pos):Prop where
 base:attributeBase o m X.env (eval o X.env)=eval o X.env
 few:((backTo cpos (starEach [e] X.env)).all (λx=>!x.1) && (backToKw cpos (keywordEach [] X.env)).all (λx=>x.1.isSome)
  && decide (([e]:List Expr).length+([]:List Keyword).length+(if ([]:List Keyword).isEmpty then 0 else 1)<30))=true
 line:(apos.endLine == cpos.line)=true
 trees:backTo cpos (starEach [e] X.env)=[(false,eval e X.env)]
structure M2 (X:Cx)(o:Expr)(m:Str)(apos:Pos)(e f:Expr)(cpos:Pos):Prop where
 base:attributeBase o m X.env (eval o X.env)=eval o X.env
 few:((backTo cpos (starEach [e,f] X.env)).all (λx=>!x.1) && (backToKw cpos (keywordEach [] X.env)).all (λx=>x.1.isSome)
  && decide (([e,f]:List Expr).length+([]:List Keyword).length+(if ([]:List Keyword).isEmpty then 0 else 1)<30))=true
 line:(apos.endLine == cpos.line)=true
 trees:backTo cpos (starEach [e,f] X.env)=[(false,eval e X.env),(false,eval f X.env)]
section
variable {X:Cx}{pins:List (Addr×Obj)}{σ:St}{H:Hp}{s:Shared}{a:Addr}{y d:V}{u r:Value}{o:Option V}{A:Around}{E:Value->Shared->Prop}
end
section
variable {X:Cx}{o e f:Expr}{apos cpos:Pos}{td ty tx:TE}
end
section
variable {X:Cx}{pins:List (Addr×Obj)}{σ:St}{H:Hp}{s:Shared}{a:Addr}{kvs:List (Key×V)}{A:Around}{E:Value->Shared->Prop}
end
section
variable {X:Cx}{pins:List (Addr×Obj)}{σ:St}{H:Hp}{s:Shared}{a:Addr}{y:V}{u:Value}{A:Around}{E:Value->Shared->Prop}
end
section
variable {κ:Type}[DecidableEq κ]
end
section
variable {prog:Program}{w:World}{A:Around}{R:Result->Shared->Prop}{s:Shared}
theorem Zli {kx vx target iter:Expr}{ifs:List Expr}{scope:Scope}{pos:Pos}{it:Value}{D:Addr}{env:Env}(I:Nat->Shared->Prop)(turn:∀ n s,I n s->wpAny (model prog w) A (pyNext it) (λr s₁=>match r with
   | none=>R (.ok .next) s₁
   | some v=>wpAny (model prog w) A (letOwnedTupleGo target it v) (λ_ s₁=>wpAny (model prog w) A (assign target env v) (λ_ s₂=>
     wpAny (model prog w) A (forIn ifs true λc r=>if r=true then do let ok <- isTrue c env (eval c env);pure (ForInStep.yield ok) else pure (ForInStep.yield r)) (λok s₃=>
      if ok=true then wpAny (model prog w) A (eval kx env) (λx s₄=>wpAny (model prog w) A (eval vx env) (λy s₅=>
       wpAny (model prog w) A (dictSet D x y) (λ_ s₆=>∃ m,m<n/\I m s₆) (λ_ _=>False) s₅) (λ_ _=>False) s₄) (λ_ _=>False) s₃
      else ∃ m,m<n/\I m s₃) (λ_ _=>False) s₂) (λ_ _=>False) s₁) (λ_ _=>False) s₁) (λ_ _=>False) s)(n:Nat)(h:I n s):
  codeAny (model prog w) A (.compLoop (.DictComp kx vx [⟨target,iter,ifs,0⟩] scope pos) 0 it (.ref D) env) R s:=by
 refine codeAny_loop rfl I (λn s hI=>?_) n h;show wpAny _ A ((compTurn (.DictComp kx vx [⟨target,iter,ifs,0⟩] scope pos) 0 it (.ref D) env).onRaise (λx=>do noteFrame x env;theTreesLotGoes x)) _ _ s;refine wpAny_noted ?_;rw[compTurn_dict];refine Jac (Jcd (Jac (Jbg (turn n s hI) (λr s₁ h₁=>?_) λ_ _ h'=>h'.elim)));cases r with
 | none=>exact Jal h₁
 | some v=>
  refine Jac (Jbg h₁ (λ_ s₁' h₁'=>?_) λ_ _ h'=>h'.elim);refine Jac (Jbg h₁' (λ_ s₂ h₂=>Jac (Jbg h₂ (λok s₃ h₃=>?_) λ_ _ h'=>h'.elim)) λ_ _ h'=>h'.elim);cases ok with
  | false=>exact Jal ⟨rfl,h₃⟩
  | true=>
   refine Jac (Jac (Jbg h₃ (λx s₄ h₄=>?_) λ_ _ h'=>h'.elim));refine Jac (Jca (Jbg h₄ (λy s₅ h₅=>?_) λ_ _ h'=>h'.elim));exact Jac (Jcd (Jca (Jbg h₅ (λ_ s₆ h₆=>Jal ⟨rfl,h₆⟩) λ_ _ h'=>h'.elim)))
end
def Zm8 (g:TG)(tt:TT)(tk tv:TE)(J:It)(D:Addr)(σ0:St)(H1:Hp)(Q:VK):Prop:=
 ∃ W:Nat->Nat->St->Hp->Prop,(∃ m,W 0 m σ0 (upd H1 D (.dK [])))/\∀ i m σ' H2,W i m σ' H2->
  (J.stop i H2/\Q (.ref D) H2)\/(J.go i H2/\∀ x H3,J.yld i H2 x H3->g x σ' H3 λσ4 H4=>tt σ4 H4 λb H5=>
   if b=true then tk σ4 H5 λx H6=>tv σ4 H6 λy H7=>∃ kvs k,x=kV k/\H7 D=some (.dK kvs)/\kvs.length<sizeLine/\∃ m',m'<m/\W (i+1) m' σ4 (upd H7 D (.dK (Zjt kvs k y)))
   else ∃ m',m'<m/\W (i+1) m' σ4 H5)
def tCompD (k:Nat)(fr:List (Str×Nat))(wi:TI)(g:TG)(tt:TT)(tk tv:TE):TE:=λσ H Q=>wi σ H λJ H1=>∀ D,H1 D=none->Zm8 g tt tk tv J D (Ze9 k fr σ) H1 Q
section
variable {X:Cx}{tg iter kx vx:Expr}{ifs:List Expr}{scope:Scope}{pos:Pos}{own:List Str}{fr:List (Str×Nat)}{wi:TI}{g:TG}{tt:TT}{tk tv:TE}
theorem Zt0 {pins:List (Addr×Obj)}{s2:Shared}{σ:St}{H2:Hp}{it:Addr}{fp:List Addr}{tn:Nat->Heap->Prop}{J:It}{Q:VK}{cl:List (Str×Addr)}{RR:Value->Addr->Result->Shared->Prop}{E:Value->Shared->Prop}(hc:X.calm=true)(B:BlScope X scope own fr)(hb:∀ cl s H fp,PG (Zcm X (Zcj own fr) scope cl s H fp) tg g/\PTs (Zcm X (Zcj own fr) scope cl s H fp) ifs tt/\PE (Zcm X (Zcj own fr) scope cl s H fp) kx tk/\PE (Zcm X (Zcj own fr) scope cl s H fp) vx tv)(hcl:∀ x c,cl.lookup x=some c->X.env.cells.lookup x=some c)(hcl2:∀ y∈scope.names,y.2=.free->∃ c,cl.lookup y.1=some c)(I2:Inv X pins σ H2 s2)(T:Turn X.prog X.w X.K tg J fp it tn)(st2:tn 0 s2.heap)(f2:∀ b∈fp,Zlp X pins H2 b)(q:∀ D,H2 D=none->Zm8 g tt tk tv J D (Ze9 own.length fr σ) H2 Q)(hRR:∀ D C s' H',Inv X pins σ H' s'->Q (.ref D) H'->(∃ m,s'.heap.Ns C m)->C≠X.env.locals->(∀ x c,X.env.cells.lookup x=some c->c≠C)->(∀ p∈X.pn++pins,p.1≠C)->X.s₀.heap.objs.size<=C->H' C=none->RR (.ref D) C (.ok .next) s'):
  wpAny (model X.prog X.w) X.A newDict (λacc s₃=>wpAny (model X.prog X.w) X.A (newFunctionEnv scope X.env.globals cl [] X.env.qual none .none (some X.env)) (λcenv s₄=>
   codeAny (model X.prog X.w) X.A (.compStart (.DictComp kx vx [⟨tg,iter,ifs,0⟩] scope pos) 0 (.ref it) acc { cenv with scope:=relabel scope X.env }) (RR acc cenv.locals) s₄) E s₃) E s2:=by
 refine Jcb ?_;have fr0:H2 s2.heap.objs.size=none:=I2.hok.fresh (Jaf _);have I3:=I2.laid (a:=s2.heap.objs.size) (o:=.dK []) (t':=s2.toks) (λ_ _ q=>Jad _ q) (Jaf _) (Zwt s2.heap I2.big);generalize hs3:({ s2 with heap:=s2.heap.push { cls:=.type "dict",data:=.dict #[] } }:Shared)=s3 at *;have k23:∀ b o,s2.heap.get? b=some o->s3.heap.get? b=some o:=λb o e=>by rw[<- hs3];exact Jad _ e
 have sz3:s3.heap.objs.size=s2.heap.objs.size+1:=by rw[<- hs3];exact Jcg ..
 have I3':Inv X pins σ (upd H2 s2.heap.objs.size (.dK [])) s3:=I3;have fne:∀ b∈fp,b≠s2.heap.objs.size:=λb hb z=>by
  refine Zah (T.obj 0 _ st2 b hb) λo ho _=>?_;exact absurd (Jae ho) (by rw[z];exact Jbv _)
 have f3:∀ b∈fp,Zlp X pins (upd H2 s2.heap.objs.size (.dK [])) b:=λb hb=>⟨by rw[Zag (fne b hb)];exact (f2 b hb).1,(f2 b hb).2⟩
 have st3:tn 0 s3.heap:=T.keep 0 _ _ st2 λb _ o e=>k23 b o e;have hfo:∀ b∈fp,∃ o,s3.heap.get? b=some o:=λb hb=>let ⟨o,ho,_⟩:=T.obj 0 _ st3 b hb;⟨o,ho⟩;refine Zfq λh' hn hk hce=>?_;have I4:=Zjl (own:=own) I3' B hcl hcl2 f3 hfo hn hk hce;refine Zbx (hb cl s3 (upd H2 s2.heap.objs.size (.dK [])) fp) λhg ht hkx hvx=>?_;have st4:tn 0 h':=T.keep 0 _ _ st3 λb _ o e=>hk b o e;have stat:∀ {H':Hp},(∀ b∈fp,H' b=none)->∀ b∈fp,Zlp (Zcm X (Zcj own fr) scope cl s3 (upd H2 s2.heap.objs.size (.dK [])) fp) [] H' b:=λ{H'} hnn b hb=>
  ⟨hnn b hb,(I4.ok.exf b hb).1,I4.ok.exfs b hb,.inl hb,(I4.ok.exf b hb).2,λp hp=>absurd (show p∈([]:List (Addr×Obj)) from hp) (by simp)⟩
 refine Zah (q s2.heap.objs.size fr0) λW e92 turn=>?_;obtain⟨m0,w0⟩:=e92;have loop:codeAny (model X.prog X.w) X.A (.compLoop (.DictComp kx vx [⟨tg,iter,ifs,0⟩] scope pos) 0 (.ref it) (.ref s2.heap.objs.size) (Zcm X (Zcj own fr) scope cl s3 (upd H2 s2.heap.objs.size (.dK [])) fp).env)
   (RR (.ref s2.heap.objs.size) s3.heap.objs.size) { s3 with heap:=h' }:=by
  refine Zli (λn s'=>∃ i σ' H',Inv (Zcm X (Zcj own fr) scope cl s3 (upd H2 s2.heap.objs.size (.dK [])) fp) [] σ' H' s'/\tn i s'.heap/\(∀ b∈fp,H' b=none)/\W i n σ' H') ?_ m0
   ⟨0,_,_,I4,st4,λb hb=>(f3 b hb).1,w0⟩
  intro n s5 e91;refine Zb3 e91 λi σ5 H5 I5 st5 fr5 w5=>?_;clear e91;rcases turn i n σ5 H5 w5 with ⟨stop,qn⟩|⟨go,step⟩
  .refine thn (T.done (Zcm X (Zcj own fr) scope cl s3 (upd H2 s2.heap.objs.size (.dK [])) fp) rfl rfl rfl hc i [] s5 σ5 H5 _ I5 (stat fr5) st5 stop) λr s6 ⟨hr,I6⟩=>?_;subst hr;have I7:Inv X pins σ H5 s6:=I3'.call' (ch:=fp) I6.os I6.base I6.hok I6.bare λb hb=>⟨(f3 b hb).2.2.2.1,(f3 b hb).2.1,(f3 b hb).2.2.2.2.1,(f3 b hb).2.2.2.2.2⟩
   refine Zah I6.loc λm6 hn6 _=>?_;refine hRR _ _ s6 H5 I7 qn ⟨m6,hn6⟩ (Jcx I3'.lt) (λx c e=>?_) (λp hp=>?_) I3'.sz I6.free
   .obtain ⟨v,z⟩:=I3'.cell x c e;exact Ja1 z.lt
   .exact Ja1 (Jae (I3'.pin p hp).1)
  .refine thn (T.item (Zcm X (Zcj own fr) scope cl s3 (upd H2 s2.heap.objs.size (.dK [])) fp) rfl rfl rfl hc i [] s5 σ5 H5 _ I5 (stat fr5) st5 go) λr s6 ⟨u,hr,h6⟩=>?_;subst hr;refine thn h6 λ_ s7 ⟨x,H7,I7,r7,y7,st7,fr7⟩=>?_;have I7':=I7.pinned (stat fr7) (T.obj _ _ st7);refine thn (hg _ s7 σ5 H7 x u _ I7' r7 (step x H7 y7)) λ_ s8 ⟨σ8,H8,I8,q8⟩=>?_;refine thn (ht _ s8 σ8 H8 _ I8 q8) λb s9 ⟨H9,I9,q9⟩=>?_;have again:∀ {sA:Shared} {σA:St} {HA:Hp} {m':Nat},Inv (Zcm X (Zcj own fr) scope cl s3 (upd H2 s2.heap.objs.size (.dK [])) fp) ([]++Zg3 fp s7.heap) σA HA sA->m'<n->W (i+1) m' σA HA->
     ∃ m,m<n/\∃ i σ' H',Inv (Zcm X (Zcj own fr) scope cl s3 (upd H2 s2.heap.objs.size (.dK [])) fp) [] σ' H' sA/\tn i sA.heap/\(∀ b∈fp,H' b=none)/\W i m σ' H':=λ{sA σA HA m'} IA hm wA=>by
    refine⟨m',hm,i+1,σA,HA,IA.unpinned,T.keep _ _ _ st7 λb hb o e=>(IA.pin (b,o) (Jap _ (Jap _ (Zbw hb e)))).1,λb hb=>?_,wA⟩;refine Zah (T.obj _ _ st7 b hb) λo e d=>?_;exact (IA.pin (b,o) (Jap _ (Jap _ (Zbw hb e)))).2.1
   cases b with
   | false=>
    refine Zah q9 λm' hm w9=>?_;clear q9;exact again I9 hm w9
   | true=>
    have q9:tk σ8 H9 _:=q9;show wpAny _ _ _ _ _ _;refine thn (hkx _ s9 σ8 H9 _ I9 q9) λx sA ⟨vx',HA,IA,rA,qA⟩=>?_;refine thn (hvx _ sA σ8 HA _ IA qA) λy sB ⟨vy,HB,IB,rB,kvs,k,ek,e,l,m',hm,wB⟩=>?_;subst ek;refine Zar (dk_of IB.hok e) λz hd e93=>?_;obtain⟨vs,rel,dd⟩:=e93;have hz:vs.length<=sizeLine:=by rw[<- rel.length];exact z
    have hl:(Zjt kvs k vy).length<=sizeLine:=by have:=Zgo kvs k vy;omega
    refine wpAny_dictSet_pairs (hsz:=hz) (Zwe rA) dd λh' dd' hs=>?_;have he:∃ q,h'.get? s2.heap.objs.size=some q:=let ⟨q,_,_,hq,_⟩:=dd';⟨q,hq⟩;exact again (Znx IB (by rw[e];exact True.intro) hs he (Zxw hl hd (rel.put k rB) dd')) hm wB
 exact codeAny_compStart_dict loop (T.self _ 0 _ _ _ st4 loop)
theorem Zvd (hc:X.calm=true)(B:BlScope X scope own fr)(hi:PI X tg iter wi)(hb:∀ cl s H fp,PG (Zcm X (Zcj own fr) scope cl s H fp) tg g/\PTs (Zcm X (Zcj own fr) scope cl s H fp) ifs tt/\PE (Zcm X (Zcj own fr) scope cl s H fp) kx tk/\PE (Zcm X (Zcj own fr) scope cl s H fp) vx tv)(hs:∀ x,foldedSetIterable iter X.env x=pure x:=by intro _;rfl):
  PE X (.DictComp kx vx [⟨tg,iter,ifs,0⟩] scope pos) (tCompD own.length fr wi g tt tk tv):=by
 intro pins s σ H Q I h;refine Zap (Zlj (scope:=scope) (env:=X.env) λy hy hf=>I.ok.has y.1 (B.free y hy hf)) λcl hclos hcl hcl2=>?_;rw[arm_eval_DictComp];refine Jc1 (use:=none) rfl hs hclos B.kind B.loc (thn (hi pins s σ H _ I h) λv s1 h1=>thn h1 λitv s2 h2=>?_);refine Zcx h2 λit fp tn J H2 e I2 T e94=>?_;clear h2;refine Zar e94 λst2 f2 q=>?_;clear e94;subst e;refine Zt0 (RR:=λacc C=>compPost (model X.prog X.w) X.A X.xe none (EP X pins σ Q) acc C) (Q:=Q) hc B hb hcl hcl2 I2 T st2 f2 q ?_;intro D C s' H' I' hq hn n1 n2 n3 n4 n5;obtain⟨m,hn⟩:=hn;refine⟨m,hn,λh' hs'=>⟨.ref D,H',I'.turned (it:=C) (t':=s'.toks) (λb o hb e=>SameBut.get hs' b o hb e) n5 (Jcs (Jcs n1)) (.inr n4) n2 n3,rfl,hq⟩⟩
end
end L2
namespace L2
open PySem PySem.Spec PyProof.Rows
theorem Ztd:∀ {ns:List Int} {us:List Value},Vals (ns.map V.int) us->IntsAre us ns
 | [],us,r=>by cases r;exact .nil
 | n::ns,us,r=>by
  cases r with
  | cons r1 r2=>obtain⟨t,rfl⟩:=r1;exact .cons n t (Ztd r2)
theorem Zqs:∀ {us:List Value} {ns:List Int},IntsAre us ns->Vals (ns.map V.int) us
 | _,_,.nil=>.nil
 | _,_,.cons n t h=>.cons ⟨t,rfl⟩ (Zqs h)
section
variable {X:Cx}
theorem Zjp:Zd9 X (.builtin "sorted") (λxs H Q=>∃ (p:Addr) (ns:List Int),xs=[.ref p]/\SqL X.K H p (ns.map V.int)/\ns.length<64 /\
  ∀ (l:Addr) (ns':List Int),H l=none->ns'.Perm ns->ns'.Pairwise (·<=·)->Q (.ref l) (upd H l (.lst (ns'.map V.int)))):=by
 intro pins s σ H xs us Q I r h;refine Zeh h λp ns e91 hq h64 q=>?_;clear h;obtain rfl:=e91;refine Zah (Zkm r) λu e92 rx=>?_;obtain rfl:=e92;cases rx;refine Zap (I.list hq) λits rv pl hz=>?_;have hl:=rv.length;rw[Jab] at hl;refine PyProof.Rows.sorted_ints pl.isList (Ztd rv) (by rw[<- hl];exact h64) λout ns' hi hp hs=>?_;obtain⟨e,he⟩:=sortedAll_at s.heap its out;have hlen:ns'.length<64:=by rw[hp.length_eq];exact h64
 refine Zav (.ref (s.heap.objs.size+1)) _ ⟨I.laid (a:=s.heap.objs.size+1) (o:=.lst (ns'.map V.int)) (t':=s.toks) (λb o z=>sortedAll_old z) (Jfn _) ?_,rfl,q _ ns' (I.hok.fresh (Jfn _)) hp hs⟩;refine⟨by rw[Jab];exact Jbf (Jbl hlen) (by rw[sizeLine_eq];omega),out.toList,e,Zqs hi,?_⟩;simpa [seqObj] using he
end
section
variable {prog:Program}{w:World}{A:Around}{E:Value->Shared->Prop}{s:Shared}
theorem Zmo {it t:Addr}{items:Array Value}(hne:t≠it):∀ (n i:Nat) (s:Shared) (Q:List Value->Shared->Prop),s.heap.IsListIter it t i->s.heap.IsList t items->i+n<=items.size->
  (∀ h',h'.IsListIter it t (i+n)->Heap.SameBut it s.heap h'->Q ((items.toList.drop i).take n) { s with heap:=h' })->wpAny (model prog w) A (draw (.ref it) n) Q E s
 | 0,i,s,Q,hit,_,_,hQ=>by
  show wpAny _ _ (pure []) Q E s;exact Jal (by simpa using hQ s.heap hit (Heap.SameBut.refl ..))
 | n+1,i,s,Q,hit,ht,hle,hQ=>by
  have hlt:i<items.size:=∅
  show wpAny _ _ (pyNext (.ref it) >>= _) Q E s;refine Jac (wpAny_pyNext_list_item hit ht (x:=items[i]) (by simp[hlt]) λh₁ hit₁ hs₁=>?_);refine Jac (Jca (Zmo hne n (i+1) _ _ hit₁ (ht.at λo e=>(hs₁.2 t hne).trans e) ∅ λh₂ hit₂ hs₂=>Jal ?_));have hd:items.toList.drop i=items[i]::items.toList.drop (i+1):=by simp[Jdn,hlt]
  have:=hQ h₂ (by rw[show i+(n+1)=i+1+n by omega];exact hit₂) (hs₁.trans hs₂);rw[hd,Jds] at this;exact this
theorem Zic {t:Addr}{items:Array Value}{Q:List Value->Shared->Prop}(hh:A.handled=none)(ht:s.heap.IsList t items)(hQ:∀ h',Heap.ExtBut s.heap.objs.size s.heap h'->Q items.toList { s with heap:=h' }):wpAny (model prog w) A (unpackItems (.ref t) items.size none) Q E s:=by
 have hlt:t≠s.heap.objs.size:=by obtain⟨o,ho,_⟩:=ht;exact Ja1 (Jae ho)
 unfold unpackItems;refine Jac ?_
 .unfold notIterableAtAll;refine Jac (Jdd ht.typeIs slot_list_iter.lookup ?_);refine Jal ?_;simp only[Jdb,Jeo];refine Jac (Jca (Jdh ht ?_));refine Jac (Jca (Zmo hlt items.size 0 _ _ ⟨_,Ja2 _ rfl,rfl,rfl⟩ (ht.at λo e=>Jad _ e) ∅ λh₁ hit₁ hs₁=>?_));have hall:List.take items.size (List.drop 0 items.toList)=items.toList:=by
   rw[Jee];exact List.take_of_length_le (by simp)
  rw[hall];rw[if_neg (by simp)];have ht₁:h₁.IsList t items:=(ht.at (h':=s.heap.push { cls:=.type "list_iterator",data:=.fields #[.ref t,.int 0 0] }) λo e=>Jad _ e).at λo e=>(hs₁.2 t hlt).trans e;refine Jac (Jca (wpAny_pyNext_list_end hh hit₁ ht₁ (by simp) λh₂ he₂=>?_));simp only[Option.isSome_none,Jdb,Jeo];refine Jal (hQ h₂ λb o hb e=>he₂ b o hb (hs₁.extBut b o hb (Jad _ e)))
theorem Zhy {env:Env}{elts:List Expr}{x1}{pos:Pos}{t:Addr}{items:Array Value}{Q:Unit->Shared->Prop}(hh:A.handled=none)(ht:s.heap.IsList t items)(hn:(assignEach elts env).length=items.size)(hstar:(assignEach elts env).findIdx? (·.1)=none)(h:∀ h',Heap.ExtBut s.heap.objs.size s.heap h'->wpAny (model prog w) A (assignInOrder ((assignEach elts env).map (·.2)) items.toList) Q E { s with heap:=h' }):
  wpAny (model prog w) A (assign (.Tuple elts x1 pos) env (.ref t)) Q E s:=by
 rw[PyProof.Rows.assign_Tuple];refine Jac (Jcd ?_);unfold unpack;rw[hn,hstar];exact Jac (Jca (Zic hh ht h))
end
section
variable {X:Cx}{pos:Pos}
def gLst (K:Frag)(n:Nat)(t:TGs):TG:=λv σ H Q=>∃ a xs,v=.ref a/\SqL K H a xs/\xs.length=n/\t xs σ H Q
theorem pg_lst {es:List Expr}{k:Nat}{t:TGs}{n:Nat}(hc:X.calm=true)(h:PGs X es t)(hn:(assignEach es X.env).length=n:=by rfl)(hst:(assignEach es X.env).findIdx? (·.1)=none:=by rfl):PG X (.Tuple es k pos) (gLst X.K n t):=by
 intro pins s σ H v u Q I r hw;obtain⟨a,xs,e1,hq,hl,hw⟩:=hw;subst e1;cases r;obtain⟨its,rv,ht,hz⟩:=I.list hq;refine Zhy (I.ok.hd hc) ht.isList (by simp[hn,<- hl,rv.length]) hst λh' hx=>?_;have I1:Inv X pins σ H { s with heap:=h' }:=I.kept (t':=s.toks) λb o e=>hx b o (Ja1 (Jae e)) e;exact h pins _ σ H xs _ Q I1 (by simpa using rv) hw
end
theorem Zr2 {X:Cx}{m:Str}{C:Addr}{k:Nat}{sp:Sp}{o:Expr}{ta:TE}{apos pos:Pos}{pl:Sem Bool}(c:Cls X.K C)(M:CalM X.prog X.w X.K X.mg X.base C m k sp)(hr:Room k X.A)(ho:PE X o ta)(ht:eval (.Call (.Attribute o m apos) [] [] pos) X.env=(do
   let ov <- eval o X.env
   standAt apos.atName
   let (f,first) <- holding [ov] (getMethod ov m pl)
   callWith pos f first (backTo pos (starEach [] X.env)) (backToKw pos (keywordEach [] X.env))):=by rfl):
  PE X (.Call (.Attribute o m apos) [] [] pos) (Zm7 C m sp [] E0 ta Zqz):=by
 refine Zim M.ex λf fd ps F hm hb=>?_;exact Zvc ho c hm F hr hb .nil Zpw ht
end L2
namespace L2
open PySem PySem.Spec PyProof.Rows
def Ite (K:Frag)(a:Addr):It:=
 ⟨λi H=>∃ xs x,SqL K H a xs/\xs[i]?=some x,λi H v H'=>∃ x p,v=.ref p/\H p=none/\H'=upd H p (.tup [.int i,x])/\(∀ xs,SqL K H a xs->xs[i]?=some x),λi H=>∃ xs,SqL K H a xs/\xs.length<=i⟩
theorem Zur {P:Program}{w:World}{K:Frag}{elts:List Expr}{x1:Nat}{pos:Pos}{e i1 a:Addr}(hne:e≠i1):
  Turn P w K (.Tuple elts x1 pos) (Ite K a) [e,i1] e (λi h=>(∃ old,IsEnum h e i1 (i:Int) old)/\h.IsListIter i1 a i) where
 mem:=by simp
 obj:=λi h st c hc=>by
  obtain⟨⟨old,hz⟩,⟨o1,e1,c1,d1⟩⟩:=st;simp at hc;rcases hc with rfl|rfl
  .exact ⟨_,hz,λv z=>by have z':Data.fields _=Data.cell v:=z;cases z'⟩
  .exact ⟨o1,e1,λv z=>by rw[d1] at z;cases z⟩
 keep:=λi h h' st k=>by
  obtain⟨⟨old,hz⟩,h1⟩:=st;exact⟨⟨old,k e (by simp) _ hz⟩,h1.at λo e=>k i1 (by simp) o e⟩
 item:=by
  intro X hP hw hK hc i pins s σ H E I hf st hg;subst hP hw hK;refine Zbg hg λxs x hqa hx=>?_;clear hg;refine Zap (I.list hqa) λits rv p hz1=>?_;refine Zah (rv.get hx) λu hu ru=>?_;obtain⟨⟨old,hz⟩,h1⟩:=st;refine wpAny_pyNext_enum_item hz h1 p.isList (by simpa using hu) hne λh' a1 a2 a3 a4 a5=>?_;refine⟨_,rfl,wpAny_letOwnedTupleGo_enum a1 λh'' b1 b2=>?_⟩;have nz:s.heap.objs.size≠e:=Jcx (Jae hz);have k2:∀ c o,c∉[e,i1]->s.heap.get? c=some o->h''.get? c=some o:=λc o hc q=>by
   simp at hc;exact b2.extBut _ _ hc.1 (a5 c o hc.1 hc.2 q)
  have I2:Inv X pins σ (upd H s.heap.objs.size (.tup [.int i,x])) { s with heap:=h'',toks:=s.toks+1 }:=I.turnedT (t':=s.toks+1) hf k2 (Jaf _)
   ⟨by show 2<=sizeLine;decide,[.int i s.toks,u],.cons ⟨_,rfl⟩ (.cons ru .nil),_,b2.extBut _ _ nz a3,rfl,_,rfl⟩
  refine Zav (.ref s.heap.objs.size) _ ⟨I2,rfl,⟨x,_,rfl,I.hok.fresh (Jaf _),rfl,λxs' hq=>by rw[I.list_inj hq hqa];exact hx⟩,⟨⟨x |> λ_=>u,by simpa using b1⟩,a2.extBut b2.extBut hne.symm⟩,λc hc=>?_⟩;have hlt:∀ c∈[e,i1],c<s.heap.objs.size:=λc hc=>by
   simp at hc;refine Zah h1 λo1 e1 _=>?_;clear h1;rcases hc with rfl|rfl
   .exact Jae hz
   .exact Jae e1
  rw[Zag (Ja1 (hlt c hc))];exact (hf c hc).1
 done:=by
  intro X hP hw hK hc i pins s σ H E I hf st hg;subst hP hw hK;refine Zah hg λxs hqa hx=>?_;clear hg;refine Zap (I.list hqa) λits rv p hz1=>?_;obtain⟨⟨old,hz⟩,h1⟩:=st;have l1:=rv.length;refine wpAny_pyNext_enum_end (I.ok.hd hc) hz h1 p.isList (by simp;omega) λh' kk=>⟨rfl,I.turnedL (t':=s.toks) hf λc o hc q=>?_⟩
  simp at hc;exact kk c o hc.2 q
 self:=λ_ _ _ _ _ st h=>by
  obtain⟨⟨old,hz⟩,h1⟩:=st;exact Jfg hz h
section
variable {X:Cx}
def iEnm (K:Frag)(ta:TA):TI:=λσ H R=>ta σ H λvs H1=>∃ a,vs=[.ref a]/\(∃ xs,SqL K H1 a xs)/\R (Ite K a) H1
theorem Zxe {elts:List Expr}{x1:Nat}{pt p pos:Pos}{a:Expr}{ta:TA}(hg:Gl X "enumerate")(hm:X.mg "enumerate" = none)(ha:PA X [a] ta)(h:Zbf a=false:=by rfl):
  PI X (.Tuple elts x1 pt) (.Call (.Name "enumerate" p) [a] [] pos) (iEnm X.K ta):=by
 intro pins s σ H R I hh;refine Call_ (Ze7 I hg hm boot_enumerate (Jbh (thn (ha pos pins s σ H _ I hh) λus s1 ⟨vs,H1,I1,r1,q1⟩=>?_) (by rw[Zaz h]) ⇑1));refine Zap q1 λc e e93 q=>?_;clear q1;obtain⟨xs,hq1⟩:=e93;subst e;cases r1 with
 | cons r rr=>
   cases rr;cases r;refine Zap (I1.list hq1) λits rv p1 hz1=>?_;refine call_enumerate_list p1.isList λh' a1 a2 a3 a4=>Jfg (s:={ s1 with heap:=h' }) a1 ?_;refine Zd1 _ _ _ _ H1 ⟨rfl,I1.kept (t':=s1.toks) a4,Zur (Nat.succ_ne_self _),⟨⟨_,a1⟩,a2⟩,λb hb=>?_,q⟩;have hb':s1.heap.objs.size<=b:=by
    simp at hb;rcases hb with rfl|rfl
    .exact Jcp _ _
    .exact Jaf _
   have:=(I1.fpOk (H':=H1) hb' (I1.hok.fresh hb'))
   exact this
end
section
variable {K:Frag}{a b D:Addr}{xs ys:List V}{g:TG}{tt:TT}{te:TE}{k:Nat}{fr:List (Str×Nat)}{σ:St}{H1:Hp}{Q:VK}
theorem for_enm {tb:TS}{Dn:Ends}{σ:St}{H:Hp}(Pv:Nat->St->Hp->Prop)(h0:Pv 0 σ H)(hl:∀ i σ H,i<=xs.length->Pv i σ H->SqL K H a xs)(hs:∀ (i:Nat) x p σ H,xs[i]?=some x->H p=none->Pv i σ H->g (.ref p) σ (upd H p (.tup [.int i,x])) λσ2 H2=>tb { Dn with nx:=Pv (i+1),ct:=Pv (i+1),bk:=Dn.nx } σ2 H2)(hd:∀ σ H,Pv xs.length σ H->Dn.nx σ H):
  ∃ W:Nat->Nat->St->Hp->Prop,(∃ m,W 0 m σ H)/\∀ i m σ H,W i m σ H->
   ((Ite K a).stop i H/\Dn.nx σ H)\/((Ite K a).go i H/\∃ N:St->Hp->Prop,(∀ σ' H',N σ' H'->∃ m',m'<m/\W (i+1) m' σ' H')/\∀ x H',(Ite K a).yld i H x H'->g x σ H' λσ2 H2=>tb { Dn with nx:=N,ct:=N,bk:=Dn.nx } σ2 H2):=by
 refine⟨λi m σ H=>m=xs.length-i/\i<=xs.length/\Pv i σ H,⟨xs.length,by simp,Jbm _,h0⟩,?_⟩;intro i m σ H e91;refine Zar e91 λe94 hi p=>?_;clear e91;obtain rfl:=e94;have q:=hl i σ H hi p;by_cases hlt:i<xs.length
 .refine .inr ⟨⟨xs,xs[i],q,by simp[hlt]⟩,Pv (i+1),λσ' H' p'=>⟨xs.length-(i+1),∅,rfl,hlt,p'⟩,λx H' y=>?_⟩;refine Zeh y λu pp e95 hp e96 e1=>?_;clear y;obtain rfl:=e95;obtain rfl:=e96;exact hs i u pp σ _ (e1 xs q) hp p
 .have e:i=xs.length:=∅
  subst e;exact .inl ⟨⟨xs,q,Jaf _⟩,hd σ H p⟩
theorem Zww (Pv:Nat->List V->Hp->Prop)(h0:Pv 0 [] (upd H1 D (.lst [])))(hl:∀ i vs H,i<=xs.length->Pv i vs H->SqL K H a xs)(hs:∀ (i:Nat) x p vs σ' H,i<xs.length->xs[i]?=some x->H p=none->Sh k (Zb0 fr σ) σ'->Pv i vs H->Zda g tt te D xs.length k (Zb0 fr σ) Pv i (.ref p) σ' (upd H p (.tup [.int i,x])))(hd:∀ vs H,Pv xs.length vs H->Q (.ref D) H):
  Zbv g tt te (Ite K a) D (Ze9 k fr σ) H1 Q:=by
 refine⟨Wv xs.length k (Zb0 fr σ) Pv,⟨xs.length,by simp,Jbm _,sh0,[],h0⟩,?_⟩;intro i m σ' H2 e92;refine Zbx e92 λe97 hi sh e98=>?_;clear e92;obtain rfl:=e97;obtain⟨vs,p⟩:=e98;have q1:=hl i vs H2 hi p;by_cases hlt:i<xs.length
 .refine .inr ⟨⟨xs,xs[i],q1,by simp[hlt]⟩,λx H3 y=>?_⟩;refine Zeh y λu pp e99 hp e910 e1=>?_;clear y;obtain rfl:=e99;obtain rfl:=e910;exact hs i u pp vs σ' _ hlt (e1 _ q1) hp sh p
 .have e:i=xs.length:=∅
  subst e;exact .inl ⟨⟨xs,q1,Jaf _⟩,hd vs H2 p⟩
end
end L2
namespace L2
open PySem PySem.Spec PyProof.Rows
theorem Zvb (vs:List Value):slicePick vs.toArray none none (some (-1))=vs.reverse.toArray:=by
 unfold slicePick;have e:sliceRange (sliceBounds none none (some (-1)) vs.toArray.size).1 (sliceBounds none none (some (-1)) vs.toArray.size).2.1 (sliceBounds none none (some (-1)) vs.toArray.size).2.2=(List.range vs.length).map λk=>vs.length-1-k:=by
  have h1:¬ ((some (-1:Int)).getD 1 > 0):=⇑0
  have b:sliceBounds none none (some (-1)) vs.toArray.size=((vs.length:Int)-1,-1,-1):=by
   simp[sliceBounds]
  rw[b];unfold sliceRange;have h0:¬ ((-1:Int) > 0):=⇑0
  simp only[h0,Jeo];have hc:(if (vs.length:Int)-1 > -1 then ((vs.length:Int)-1 - -1 - -1-1) / (- -1) else 0).toNat=vs.length:=by
   by_cases hn:(vs.length:Int)-1 > -1
   .rw [if_pos hn];have:((vs.length:Int)-1 - -1 - -1-1) / (- -1)=vs.length:=by
     have e:(- -1:Int)=1:=⇑0
     rw[e,Int.ediv_one];omega
    rw[this];simp
   .rw [if_neg hn];omega
  rw[hc];apply Jct;intro k hk;have hk':k<vs.length:=Jbz.mp hk;omega
 rw[e];congr 1;apply List.ext_getElem?;intro i;have g:∀ l:List Nat,(∀ j∈l,j<vs.length)->∀ i:Nat,(l.filterMap (vs.toArray[·]?))[i]?=(l[i]?).bind (vs[·]?):=by
  intro l
  induction l with
  | nil=>intro _ i;simp
  | cons a r ih=>
   intro h i;have ha:a<vs.length:=h a (Jb3 ..);have e:vs.toArray[a]?=some vs[a]:=by simp[ha]
   rw[Jcj,e];cases i with
   | zero=>simp[ha]
   | succ i=>simpa using ih (λj hj=>h j (Ja9 _ hj)) i
 rw[g _ (λj hj=>by obtain⟨k,hk,rfl⟩:=Jan.mp hj;have:=Jbz.mp hk;omega) i];by_cases hi:i<vs.length
 .rw [Jau,List.getElem?_range hi,List.getElem?_reverse hi];rfl
 .rw [Jb9 (by simp;omega),Jb9 (by simp;omega)];rfl
def tRevL (K:Frag)(te:TE):TE:=λσ H Q=>te σ H λx H1=>∃ a xs,x=.ref a/\SqL K H1 a xs/\∀ p,H1 p=none->Q (.ref p) (upd H1 p (.lst xs.reverse))
section
variable {X:Cx}{e es:Expr}{te ts:TE}{pos p2:Pos}
theorem pe_revL (K:Frag)(hK:X.K=K)(he:PE X e te)(hs:PE X es ts)(hts:∀ σ H Q,Q (.int (-1)) H->ts σ H Q):PE X (.Subscript e (.Slice none none (some es) p2) pos) (tRevL K te):=by
 subst hK;intro pins s σ H Q I h;refine Subscript_ (thn (he pins s σ H _ I h) λv s1 ⟨x,H1,I1,r1,q1⟩=>?_);refine Za3 q1 λa ys e91 hx q=>?_;clear q1;obtain rfl:=e91;cases r1;refine wpAny_Slice ?_;rw[Jfo];refine Jal ?_;refine Jal ?_;rw[evalPart_some];refine thn (hs pins s1 σ H1 (λx H2=>x=.int (-1)/\H2=H1) I1 (hts _ _ _ ⟨rfl,rfl⟩)) λvu s3 ⟨u,H3,I3,pu,q3⟩=>?_;obtain⟨rfl,rfl⟩:=q3;obtain⟨t,rfl⟩:=pu;have I4:Inv X pins σ H3 { s3 with heap:=s3.heap.push { cls:=.type "slice",data:=.fields #[.none,.none,.int (-1) t] } }:=I3.kept (t':=s3.toks) λb ob q=>Jad _ q;refine Zap (I4.list hx) λits r ht hz=>?_;have hlen:=r.length;show wpAny (model X.prog X.w) X.A (subscriptTail e (.Slice none none (some es) p2) (.ref a) (.ref s3.heap.objs.size)) (EP X pins σ Q) X.xe { s3 with heap:=s3.heap.push { cls:=.type "slice",data:=.fields #[.none,.none,.int (-1) t] } };refine tail_any (ops:=[.ref a,.ref s3.heap.objs.size]) ht.isList.typeIs Jfe.lookup (wpAny_getItem_list_slice ht.isList (Jez ..) .none .none (.int (-1) t) (by simp) ?_ (by rw[Jaj] <;> omega)) (by with_unfolding_all rfl);rw[Zvb];refine Zav (.ref (Heap.push _ _).objs.size) _ ⟨I4.laid (t':=s3.toks) (o:=.lst ys.reverse) (λb ob q=>Jad _ q) (Jaf _) ?_,rfl,q _ (I4.hok.fresh (Jaf _))⟩;exact⟨by rw[List.length_reverse];exact hz,_,0,Vals.reverse r,Ja2 _ rfl⟩
end
end L2
namespace L2
open PySem PySem.Spec PyProof.Rows
theorem Znu:typeLookup (.type "enumerate") "__len__" = pure none:=by rw[Jev,Jde];kernel_rfl
theorem Zmn:typeLookup (.type "enumerate") "__length_hint__" = pure none:=by rw[Jev,Jde];kernel_rfl
section
variable {prog:Program}{w:World}{A:Around}{s:Shared}{E:Value->Shared->Prop}
theorem Zm5 (hh:A.handled=none)(e it l:Addr):Walks prog w A e [e,it,l] [e,it] 0 (λ_ _=>False) (λ_ h=>(∃ old,IsEnum h e it 0 old)/\h.IsListIter it l 0/\h.IsList l #[]) where
 sub:=λb hb=>by simp at hb ⊢;rcases hb with rfl|rfl <;> simp
 frame:=λi h h' hst hk=>by
  refine Zar hst λe92 hit hl=>?_;clear hst;obtain⟨old,he⟩:=e92;exact⟨⟨old,hk e (by simp) _ he⟩,hit.at λo x=>hk it (by simp) o x,hl.at λo x=>hk l (by simp) o x⟩
 item:=λi s Q E hi=>absurd hi (Jc3 _)
 done:=λs Q E hst hQ=>by
  refine Zar hst λe93 hit hl=>?_;clear hst;obtain⟨old,he⟩:=e93;exact wpAny_pyNext_enum_end (i:=0) hh he hit hl rfl λh' hx=>hQ h' s.toks λb o hb y=>hx b o (λe'=>hb (by simp[e'])) y
 self:=λi s Q E hst hQ=>by
  refine Zar hst λe94 _ _=>?_;clear hst;obtain⟨old,he⟩:=e94;exact Jfg he hQ
theorem Zmm {R:Result->Shared->Prop}{e it l S:Addr}{res:Value}{c₀:Nat}(hh:A.handled=none)(he:∃ old,IsEnum s.heap e it 0 old)(hit:s.heap.IsListIter it l 0)(hl:s.heap.IsList l #[])(hSf:S∉[e,it,l])(hS:s.heap.get? S=some { cls:=.type "list",data:=.seq #[] c₀ })(hR:∀ s' acc' c',Moved (S::[e,it]) (λa b=>b=a) s s'->s'.heap.get? S=some { cls:=.type "list",dict:=none,data:=.seq acc' c',slots:=#[] }->ItemsOf (λ_ _=>False) acc' 0->R (.ok (.ret res)) s'):
  wpAny (model prog w) A.in1 (Builtin.List.listExtendWith (.ref S) (.ref e) res)
   (λfin s'=>match fin with | .done f=>R (.ok f) s' | .again c'=>c'.quiet=true/\codeAny (model prog w) A c' R s') (λe s'=>R (.error e) s') s:=by
 have W:=(Zm5 (prog:=prog) (w:=w) (A:=A.in1) hh e it l).toS;have hSI:S≠e:=λz=>hSf (by simp[z]);have hT:∀ (s:Shared),(∃ old,IsEnum s.heap e it 0 old)->s.TypeIs (.ref e) "enumerate" := λs ⟨_,h⟩=>⟨_,h,rfl⟩
 unfold Builtin.List.listExtendWith;refine Jac (wpAny_typeOf (hT _ he) ?_);have h1:Builtin.List.listSameRef (.ref S) (.ref e)=false:=by simp[Builtin.List.listSameRef,hSI]
 have h2:(Value.type "enumerate" == Value.type "list")=false:=⇑0
 have h3:(Value.type "enumerate" == Value.type "tuple")=false:=⇑0
 simp only[h1,h2,h3,Jfp,Jdb,Jeo];refine Jac (W.self 0 _ _ _ ⟨he,hit,hl⟩ ?_);refine Jac (Jca ?_);unfold Builtin.List.listLengthHint;refine Jac (Jdd (hT _ he) Znu ?_);refine Jac (Jdd (hT _ he) Zmn ?_);refine Jal ?_;refine Jac (Jfr ?_);refine Jac ?_;show wpAny _ A.in1 (updateSeq S (·.push .none) >>= λ_=>updateSeq S (·.pop)) _ _ _;refine Jac (Jc4 hS rfl ?_);have hS₂:=Jb4 (Obj.mapSeq (·.push Value.none)) hS rfl;refine Jc4 (hz:=by seq_fits) hS₂ rfl ?_;have hS₃:=Jb4 (Obj.mapSeq (·.pop)) hS₂ rfl;have oth:∀ b o,b≠S->s.heap.get? b=some o->((s.heap.update S (Obj.mapSeq (·.push Value.none))).update S (Obj.mapSeq (·.pop))).get? b=some o:=
  λb o hb e=>(Jbj _ _ (Jcs hb)).trans ((Jbj _ _ (Jcs hb)).trans e)
 refine Jal ⟨Jfq F.plain_extend_loop _,codeAny_extend_loopS W (Jbm _) _ hSf _ 0 0 _ _ _ rfl (Jbm _)
  (W.frame 0 s _ s.toks ⟨he,hit,hl⟩ (Jaf _) λb hb o e=>oth b o (λh=>hSf (h ▸ hb)) e) hS₃ (ItemsOf.nil _) λs' acc' c' hm hS' hacc=>?_⟩
 exact hR s' acc' c' (Moved.trans W.gtrans ((Moved.refl (wr:=S::[e,it]) (G:=λa b=>b=a) (λ_=>rfl)).then_heap (Jaf _) λb o hb e=>oth b o (λh=>hb (by rw[h];exact Jb3)) e) hm) hS' hacc
theorem Zp3 {Q:Value->Shared->Prop}{e it l:Addr}(hh:A.handled=none)(he:IsEnum s.heap e it 0 .none)(hit:s.heap.IsListIter it l 0)(hl:s.heap.IsList l #[])(hQ:∀ h' t' c',(∀ b o,b≠e->b≠it->s.heap.get? b=some o->h'.get? b=some o)->h'.get? s.heap.objs.size=some { cls:=.type "list",dict:=none,data:=.seq #[] c',slots:=#[] }->Q (.ref s.heap.objs.size) { s with heap:=h',toks:=t' }):
  wpAny (model prog w) A (call (.type "list") [.ref e]) Q E s:=by
 refine Zah (id hit) λoi hoi _=>?_;refine Zah (id hl) λol hol _=>?_;have l1:e<s.heap.objs.size:=Jae he;have l2:it<s.heap.objs.size:=Jae hoi;have l3:l<s.heap.objs.size:=Jae hol;have hSf:s.heap.objs.size∉[e,it,l]:=λhm=>by
  simp at hm;rcases hm with h|h|h
  .exact absurd h (Jcx l1)
  .exact absurd h (Jcx l2)
  .exact absurd h (Jcx l3)
 refine callType_codes (Q₁:=λobj s₁=>obj=.ref s.heap.objs.size/\s₁={ s with heap:=s.heap.push { cls:=.type "list",data:=.seq #[] } }) F.called_list (F.typeCall_list_1 _) F.entry_list_init
  (code_list_new _ ⟨rfl,rfl⟩) λobj s₁ h₁=>?_
 obtain⟨rfl,rfl⟩:=h₁;have hS:(s.heap.push { cls:=.type "list",data:=.seq #[] }).get? s.heap.objs.size=some { cls:=.type "list",data:=.seq #[] }:=Ja2 _ rfl;refine⟨⟨_,hS,rfl⟩,F.args_list_init_2 _ _,?_⟩;generalize hS0:s.heap.objs.size=S at *;have old:∀ b o,s.heap.get? b=some o->(s.heap.push { cls:=.type "list",data:=.seq #[] }).get? b=some o:=λb o e=>Jad _ e;generalize s.heap.push { cls:=.type "list",data:=.seq #[] }=h1 at *;show wpAny _ _ (do let old <- Builtin.List.listItems (.ref S);Builtin.List.listUpdate (.ref S) (λ_=>#[]);letGo old.toList.reverse;Builtin.List.listExtendWith (.ref S) (.ref e) .none) _ _ _;refine Jac ?_;unfold Builtin.List.listItems;refine Jac (wpAny_seqItems (s:={ s with heap:=h1 }) hS rfl (Jal ?_));show wpAny _ _ (updateSeq S (λ_=>#[]) >>= λ_=>letGo (#[]:Array Value).toList.reverse >>= λ_=>Builtin.List.listExtendWith (.ref S) (.ref e) .none) _ _ _;refine Jac (Jc4 hS rfl ?_);have hS₂:=Jb4 (Obj.mapSeq (λ_=>(#[]:Array Value))) hS rfl;have oth:∀ b o,b≠S->s.heap.get? b=some o->(h1.update S (Obj.mapSeq (λ_=>(#[]:Array Value)))).get? b=some o:=
  λb o hb e=>(Jbj _ _ (Jcs hb)).trans (old b o e)
 have ne1:e≠S:=λz=>hSf (by simp[z]);have ne2:it≠S:=λz=>hSf (by simp[z]);have ne3:l≠S:=λz=>hSf (by simp[z]);refine Jac (wpAny_letGo ?_);refine Zmm (A:=A.in1) hh ⟨_,oth _ _ ne1 he⟩ (hit.at λo x=>oth _ _ ne2 x) (hl.at λo x=>oth _ _ ne3 x) hSf hS₂ λs' acc' c' hm hS' hacc=>?_;have hacc0:acc'=#[]:=Array.eq_empty_of_size_eq_zero hacc.1;subst hacc0;obtain⟨hh',g,d,t,os'⟩:=s';obtain rfl:os'=s.os:=hm.os;obtain rfl:g=s.gens:=hm.gens;obtain rfl:d=s.drawn:=hm.drawn;refine⟨rfl,hQ hh' t c' (λb o n1 n2 q=>hm.heap b o ?_ ?_) hS'⟩
 .have:b<S:=by rw[<- hS0];exact Jae q
  simp;exact⟨Ja1 this,n1,n2⟩
 .have:b<S:=by rw[<- hS0];exact Jae q
  exact oth b o (Ja1 this) q
end
def tLE0 (K:Frag)(ta:TA):TE:=λσ H Q=>ta σ H λvs H1=>∃ a,vs=[.ref a]/\SqL K H1 a []/\∀ l,H1 l=none->Q (.ref l) (upd H1 l (.lst []))
section
variable {X:Cx}
theorem pe_le0 {p p2 pos pos2:Pos}{a:Expr}{ta:TA}(hc:X.calm=true)(hg:Gl X "list")(hm:X.mg "list" = none)(hg2:Gl X "enumerate")(hm2:X.mg "enumerate" = none)(ha:PA X [a] ta)(h:Zbf a=false:=by rfl):
  PE X (.Call (.Name "list" p) [.Call (.Name "enumerate" p2) [a] [] pos2] [] pos) (tLE0 X.K ta):=by
 intro pins s σ H Q I hh;refine Call_ (Ze7 I hg hm Jcf (Jbh ?_ ⇑1 ⇑1));show wpAny _ _ (spliced ((false,eval (.Call (.Name "enumerate" p2) [a] [] pos2) X.env)::backTo pos (starEach [] X.env))) _ _ s;refine Jey (Call_ (Ze7 I hg2 hm2 boot_enumerate (Jbh (thn (ha pos2 pins s σ H _ I hh) λus s1 ⟨vs,H1,I1,r1,q1⟩=>?_) (by rw[Zaz h]) ⇑1)));refine Zap q1 λc e hq1 q=>?_;clear q1;subst e;cases r1 with
 | cons r rr=>
  cases rr;cases r;refine Zap (I1.list hq1) λits rv p1 hz1=>?_;cases rv;refine call_enumerate_list p1.isList λh' a1 a2 a3 a4=>?_;refine Jfc ?_;have I2:Inv X pins σ H1 { s1 with heap:=h' }:=I1.kept (t':=s1.toks) a4;refine Zp3 (I.ok.hd hc) a1 a2 (p1.isList.at λo x=>a4 _ _ x) λh'' t' c' kp hn=>?_;have lt:s1.heap.objs.size<h'.objs.size:=by rw[a3];omega
  have old:∀ b o,s1.heap.get? b=some o->h''.get? b=some o:=λb o x=>kp b o (λz=>absurd (Jae x) (by rw[z];exact Nat.not_lt.mpr (Jfn _))) (λz=>absurd (Jae x) (by rw[z];exact Jbv _)) (a4 b o x);refine Zav (.ref h'.objs.size) _ ⟨I1.laid (a:=h'.objs.size) (o:=.lst []) (t':=t') old (Jbl lt) ?_,rfl,q _ (I1.hok.fresh (Jbl lt))⟩;exact⟨Jbm _,[],c',.nil,hn⟩
end
def Itv (K:Frag)(a:Addr)(n:Nat):It:=
 ⟨λi H=>∃ xs,SqL K H a xs/\xs.length=n/\i<n,λi H v H'=>H'=H/\∀ xs,SqL K H a xs->xs[n-1-i]?=some v,λi H=>∃ xs,SqL K H a xs/\xs.length=n/\i=n⟩
theorem Zuq {P:Program}{w:World}{K:Frag}{tg:Expr}{it a:Addr}{n:Nat}(hne:a≠it):Turn P w K tg (Itv K a n) [it] it (λi h=>h.IsRevIter it a ((n:Int)-1-(i:Int))) where
 mem:=by simp
 obj:=λi h st c hc=>by
  refine Zap st λo1 e1 c1 d1=>?_;clear st;simp at hc;subst hc;exact⟨o1,e1,λv z=>by rw[d1] at z;cases z⟩
 keep:=λi h h' st k=>st.at λo e=>k it (by simp) o e
 item:=by
  intro X hP hw hK hc i pins s σ H E I hf st hg;subst hP hw hK;refine Zap hg λxs hqa hn hi=>?_;clear hg;refine Zap (I.list hqa) λits rv p hz1=>?_;have hx:xs[n-1-i]?=some (xs[n-1-i]'(by omega)):=Jaa _;refine Zah (rv.get hx) λu hu ru=>?_;have e:(n:Int)-1-(i:Int)=((n-1-i:Nat):Int):=∅
  rw[e] at st;refine wpAny_pyNext_rev_item st p.isList (by simpa using hu) λh' hit' sb=>?_;refine Zap (id hit') λo' ho' hc' hd'=>?_;refine⟨u,rfl,Zwo (s:={ s with heap:=h' }) ho' hc' hd' ⇑0 ?_⟩;have f:=hf it (by simp);have I2:Inv X pins σ H { s with heap:=h' }:=I.turnedL (t':=s.toks) hf λc o hc q=>(sb.2 c (by simpa using hc)).trans q;refine Zav _ _ ⟨I2,ru,⟨rfl,λxs' hq=>by rw[I.list_inj hq hqa];exact hx⟩,?_,λc hc=>(hf c hc).1⟩;have e2:((n-1-i:Nat):Int)-1=(n:Int)-1-((i+1:Nat):Int):=∅
  rw[e2] at hit';exact hit'
 done:=by
  intro X hP hw hK hc i pins s σ H E I hf st hg;subst hP hw hK;refine Zap hg λxs hqa hn e95=>?_;clear hg;obtain rfl:=e95;have e:(i:Int)-1-(i:Int)=-1:=∅
  rw[e] at st;exact wpAny_pyNext_rev_end (I.ok.hd hc) st λh' kk=>⟨rfl,I.turnedL (t':=s.toks) hf λc o hc q=>kk c o (by simpa using hc) q⟩
 self:=λ_ _ _ _ _ st h=>wpAny_pyIter_revIter st h
theorem Zlm:bootBuiltins "reversed" = some (.type "reversed"):=⋯
section
variable {X:Cx}
def iRvl (K:Frag)(ta:TA):TI:=λσ H R=>ta σ H λvs H1=>∃ a xs,vs=[.ref a]/\SqL K H1 a xs/\R (Itv K a xs.length) H1
theorem pi_rvl {tg:Expr}{p pos:Pos}{a:Expr}{ta:TA}(hg:Gl X "reversed")(hm:X.mg "reversed" = none)(ha:PA X [a] ta)(h:Zbf a=false:=by rfl):
  PI X tg (.Call (.Name "reversed" p) [a] [] pos) (iRvl X.K ta):=by
 intro pins s σ H R I hh;refine Call_ (Ze7 I hg hm Zlm (Jbh (thn (ha pos pins s σ H _ I hh) λus s1 ⟨vs,H1,I1,r1,q1⟩=>?_) (by rw[Zaz h]) ⇑1));refine Za3 q1 λc xs e hq1 q=>?_;clear q1;subst e;cases r1 with
 | cons r rr=>
  cases rr;cases r;refine Zap (I1.list hq1) λits rv p1 hz1=>?_;have hlen:=rv.length;have lt1:c<s1.heap.objs.size:=by obtain⟨o,ho,_⟩:=p1.isList;exact Jae ho
  refine call_reversed_list p1.isList ?_;have hit:(s1.heap.push (revObj c ((its.toArray.size:Int)-1))).IsRevIter s1.heap.objs.size c ((its.toArray.size:Int)-1):=⟨_,Ja2 _ rfl,rfl,rfl⟩
  refine wpAny_pyIter_revIter (s:={ s1 with heap:=s1.heap.push (revObj c ((its.toArray.size:Int)-1)) }) hit ?_;refine Zd1 _ _ _ _ H1 ⟨rfl,I1.kept (t':=s1.toks) λb o e=>Jad _ e,Zuq (n:=xs.length) (Ja1 lt1),?_,λb hb=>?_,q⟩
  .have e:((xs.length:Nat):Int)-1-((0:Nat):Int)=(its.toArray.size:Int)-1:=by rw[Jaj,hlen];omega
   show Heap.IsRevIter _ _ _ (((xs.length:Nat):Int)-1-((0:Nat):Int));rw[e];exact hit
  .have hb':s1.heap.objs.size<=b:=by
    simp at hb;subst hb;exact Jaf _
   exact I1.fpOk (H':=H1) hb' (I1.hok.fresh hb')
end
section
variable {K:Frag}{a:Addr}{xs:List V}{g:TG}
theorem for_rvl {tb:TS}{Dn:Ends}{σ:St}{H:Hp}(Pv:Nat->St->Hp->Prop)(h0:Pv 0 σ H)(hl:∀ i σ H,i<=xs.length->Pv i σ H->SqL K H a xs)(hs:∀ (i:Nat) x σ H,i<xs.length->xs[xs.length-1-i]?=some x->Pv i σ H->g x σ H λσ2 H2=>tb { Dn with nx:=Pv (i+1),ct:=Pv (i+1),bk:=Dn.nx } σ2 H2)(hd:∀ σ H,Pv xs.length σ H->Dn.nx σ H):
  ∃ W:Nat->Nat->St->Hp->Prop,(∃ m,W 0 m σ H)/\∀ i m σ H,W i m σ H->
   ((Itv K a xs.length).stop i H/\Dn.nx σ H)\/((Itv K a xs.length).go i H/\∃ N:St->Hp->Prop,(∀ σ' H',N σ' H'->∃ m',m'<m/\W (i+1) m' σ' H')/\∀ x H',(Itv K a xs.length).yld i H x H'->g x σ H' λσ2 H2=>tb { Dn with nx:=N,ct:=N,bk:=Dn.nx } σ2 H2):=by
 refine⟨λi m σ H=>m=xs.length-i/\i<=xs.length/\Pv i σ H,⟨xs.length,by simp,Jbm _,h0⟩,?_⟩;intro i m σ H e91;refine Zar e91 λe96 hi p=>?_;clear e91;obtain rfl:=e96;have q:=hl i σ H hi p;by_cases hlt:i<xs.length
 .refine .inr ⟨⟨xs,q,rfl,hlt⟩,Pv (i+1),λσ' H' p'=>⟨xs.length-(i+1),∅,rfl,hlt,p'⟩,λx H' y=>?_⟩;obtain⟨rfl,e1⟩:=y;exact hs i x σ _ hlt (e1 xs q) p
 .have e:i=xs.length:=∅
  subst e;exact .inl ⟨⟨xs,q,rfl,rfl⟩,hd σ H p⟩
end
end L2
namespace L3
theorem Zdr {α:Type}[DecidableEq α]:∀ {l m:List α},l.Nodup->(∀ x∈l,x∈m)->m.length<=l.length->l.Perm m
 | [],m,_,_,h=>by
  have:m=[]:=Jbd (by simpa using h);rw[this]
 | a::l,m,nd,hs,h=>by
  have ha:a∈m:=hs a (by simp);have nd':=Jbx.mp nd;have p:=List.perm_cons_erase ha;refine (List.Perm.cons a (Zdr nd'.2 (λx hx=>?_) ?_)).trans p.symm
  .have hne:x≠a:=λz=>nd'.1 (z ▸ hx);exact (List.mem_erase_of_ne hne).mpr (hs x (by simp[hx]))
  .rw [Jdu ha];rw[Jbq] at h;omega
abbrev Ed:=Int×Int
def ce (d:Int->Nat)(q:Ed):Int:=if d q.2+1=d q.1 then q.1 else q.2
def pe (d:Int->Nat)(q:Ed):Int:=if d q.2+1=d q.1 then q.2 else q.1
structure Tr (S:List Int)(ps:List Ed)(f:Int)(d:Int->Nat):Prop where
 nd:S.Nodup
 fS:f∈S
 inS:∀ q∈ps,q.1∈S/\q.2∈S
 par:∀ x∈S,x≠f->∃ q∈ps,(q.1=x/\d q.2+1=d x)\/(q.2=x/\d q.1+1=d x)
 len:ps.length+1=S.length
section
variable {S:List Int}{ps:List Ed}{f:Int}{d:Int->Nat}
def oth (S:List Int)(f:Int):List Int:=S.filter λx=>decide (x≠f)
theorem Zbr {x:Int}:x∈oth S f ↔ x∈S/\x≠f:=by unfold oth;simp[Jaz]
theorem Zot {q:Ed}{x:Int}(h:(q.1=x/\d q.2+1=d x)\/(q.2=x/\d q.1+1=d x)):ce d q=x/\d (pe d q)+1=d x:=by
 unfold ce pe;rcases h with ⟨e,h⟩|⟨e,h⟩
 .rw [<- e] at h ⊢;rw[if_pos h,if_pos h];exact⟨rfl,h⟩
 .rw [<- e] at h ⊢;rw[if_neg ∅,if_neg ∅];exact⟨rfl,h⟩
theorem Znm (nd:S.Nodup)(h:f∈S):(oth S f).length+1=S.length:=by
 have e:oth S f=S.erase f:=by
  unfold oth;rw[List.Nodup.erase_eq_filter nd];congr 1
  funext x
  rw[Jbw];simp
 rw[e,Jdu h];have:=List.length_pos_of_mem h;omega
theorem Tr.perm (T:Tr S ps f d):(oth S f).Perm (ps.map (ce d)):=by
 refine Zdr (Jbe Jba T.nd) (λx hx=>?_) ?_
 .obtain ⟨h1,h2⟩:=Zbr.mp hx;obtain⟨q,hq,h⟩:=T.par x h1 h2;exact Jan.mpr ⟨q,hq,(Zot h).1⟩
 .have:=Znm T.nd T.fS;have:=T.len;rw[Jab];omega
theorem Tr.cend (T:Tr S ps f d):(ps.map (ce d)).Nodup:=T.perm.nodup_iff.mp (Jbe Jba T.nd)
theorem Tr.one (T:Tr S ps f d){q q':Ed}(h:q∈ps)(h':q'∈ps)(e:ce d q=ce d q'):q=q':=by
 obtain⟨i,hi,rfl⟩:=Jbu.mp h;obtain⟨j,hj,rfl⟩:=Jbu.mp h';have:=T.cend;have hij:i=j:=(List.getElem_inj (h₀:=by rw[Jab];exact hi) (h₁:=by rw[Jab];exact hj) this).mp (by rw[List.getElem_map,List.getElem_map];exact e);subst hij;rfl
theorem Tr.prop (T:Tr S ps f d){q:Ed}(h:q∈ps):ce d q∈S/\ce d q≠f/\pe d q∈S/\d (pe d q)+1=d (ce d q):=by
 have hm:ce d q∈oth S f:=T.perm.mem_iff.mpr (Jan.mpr ⟨q,h,rfl⟩);obtain⟨h1,h2⟩:=Zbr.mp hm;obtain⟨q',hq',hp⟩:=T.par _ h1 h2;obtain⟨e1,e2⟩:=Zot hp;have:=T.one hq' h e1;subst this;refine⟨h1,h2,?_,e2⟩;unfold pe;split
 .exact (T.inS _ h).2
 .exact (T.inS _ h).1
theorem Tr.up (T:Tr S ps f d){x:Int}(h:x∈S)(hf:x≠f):∃ q∈ps,ce d q=x:=by
 obtain⟨q,hq,hp⟩:=T.par x h hf;exact⟨q,hq,(Zot hp).1⟩
theorem Zgp (q:Ed):(q.1=ce d q/\q.2=pe d q)\/(q.1=pe d q/\q.2=ce d q):=by
 unfold ce pe;split
 .exact .inl ⟨rfl,rfl⟩
 .exact .inr ⟨rfl,rfl⟩
def chn (d:Int->Nat)(ps:List Ed)(x:Int):Nat:=(ps.map (pe d)).count x
def deg (ps:List Ed)(x:Int):Nat:=ps.countP λq=>decide (q.1=x\/q.2=x)
theorem Tr.ne (T:Tr S ps f d){q:Ed}(h:q∈ps):q.1≠q.2:=λe=>by
 have:=(T.prop h).2.2.2;rcases Zgp (d:=d) q with ⟨a,b⟩|⟨a,b⟩
 .rw [<- a,<- b,e] at this;omega
 .rw [<- a,<- b,e] at this;omega
theorem Zxx (x:Int):∀ (l:List Ed),(∀ q∈l,ce d q≠pe d q)->l.countP (λq=>decide (q.1=x\/q.2=x))=(l.map (ce d)).count x+(l.map (pe d)).count x
 | [],_=>rfl
 | q::l,h=>by
  have hq:=h q (by simp);have ih:=Zxx x l λq' h'=>h q' (by simp[h']);rw[List.countP_cons,ih,Ja8,Ja8,Jdf,Jdf];have e:(decide (q.1=x\/q.2=x))=((ce d q == x) || (pe d q == x)):=by
   rw[Jbw];simp only[Jcc,Jd2,Jbt];rcases Zgp (d:=d) q with ⟨a,b⟩|⟨a,b⟩
   .rw [a,b]
   .rw [a,b];exact Or.comm
  rw[e];by_cases h1:ce d q=x
  .have h2:pe d q≠x:=λz=>hq (h1.trans z.symm);simp[h1,h2];omega
  .by_cases h2:pe d q=x
   .simp [h1,h2];omega
   .simp [h1,h2]
theorem Tr.deg (T:Tr S ps f d)(x:Int):deg ps x=(ps.map (ce d)).count x+chn d ps x:=Zxx x ps λq h e=>by
 have:=(T.prop h).2.2.2;rw[e] at this;omega
theorem Tr.deg_f (T:Tr S ps f d):L3.deg ps f=chn d ps f:=by
 rw[T.deg,List.count_eq_zero.mpr (λh=>?_),Nat.zero_add];obtain⟨q,hq,e⟩:=Jan.mp h;exact (T.prop hq).2.1 e
theorem Tr.deg_x (T:Tr S ps f d){x:Int}(h:x∈S)(hf:x≠f):L3.deg ps x=1+chn d ps x:=by
 rw[T.deg];congr 1;obtain⟨q,hq,e⟩:=T.up h hf;have h1:(ps.map (ce d)).count x<=1:=List.nodup_iff_count.mp T.cend x;have h2:0<(ps.map (ce d)).count x:=Jco.mpr (Jan.mpr ⟨q,hq,e⟩);omega
def up1 (d:Int->Nat)(ps:List Ed)(x:Int):Int:=((ps.find? λq=>decide (ce d q=x)).map (pe d)).getD x
theorem Tr.up1_of (T:Tr S ps f d){x:Int}(h:x∈S)(hf:x≠f):∃ q∈ps,ce d q=x/\up1 d ps x=pe d q:=by
 obtain⟨q,hq,e⟩:=T.up h hf;unfold up1;cases hfd:ps.find? (λq=>decide (ce d q=x)) with
 | none=>
  have:=List.find?_eq_none.mp hfd q hq;exact absurd (Jag e) this
 | some q'=>exact⟨q',List.mem_of_find?_eq_some hfd,Jaq (List.find?_some (p:=λq=>decide (ce d q=x)) hfd),rfl⟩
theorem Tr.up1_prop (T:Tr S ps f d){x:Int}(h:x∈S)(hf:x≠f):up1 d ps x∈S/\d (up1 d ps x)+1=d x:=by
 obtain⟨q,hq,e,e'⟩:=T.up1_of h hf;rw[e',<- e];exact⟨(T.prop hq).2.2.1,(T.prop hq).2.2.2⟩
theorem Tr.up1_ce (T:Tr S ps f d){q:Ed}(h:q∈ps):up1 d ps (ce d q)=pe d q:=by
 obtain⟨q',hq',e,e'⟩:=T.up1_of (T.prop h).1 (T.prop h).2.1;rw[e',T.one hq' h e]
def rt (d:Int->Nat)(ps:List Ed)(f:Int):Nat->Int->Int
 | 0,x=>x
 | k+1,x=>if up1 d ps x=f then x else rt d ps f k (up1 d ps x)
def Zc8 (d:Int->Nat)(ps:List Ed)(f x:Int):Int:=rt d ps f (d x) x
theorem Tr.root_step (T:Tr S ps f d){x:Int}(h:x∈S)(hf:x≠f)(hu:up1 d ps x≠f):Zc8 d ps f x=Zc8 d ps f (up1 d ps x):=by
 have:=(T.up1_prop h hf).2;unfold Zc8;rw[<- this];show (if up1 d ps x=f then x else rt d ps f (d (up1 d ps x)) (up1 d ps x))=_;rw[if_neg hu]
theorem Tr.root_base (T:Tr S ps f d){x:Int}(h:x∈S)(hf:x≠f)(hu:up1 d ps x=f):Zc8 d ps f x=x:=by
 have:=(T.up1_prop h hf).2;unfold Zc8;rw[<- this];show (if up1 d ps x=f then x else rt d ps f (d (up1 d ps x)) (up1 d ps x))=_;rw[if_pos hu]
theorem Tr.pos (T:Tr S ps f d){x:Int}(h:x∈S)(hf:x≠f):0<d x:=by have:=(T.up1_prop h hf).2;omega
theorem Tr.root_ok (T:Tr S ps f d):∀ (k:Nat) {x:Int},d x<=k->x∈S->x≠f->Zc8 d ps f x∈S/\Zc8 d ps f x≠f/\up1 d ps (Zc8 d ps f x)=f
 | 0,x,hk,h,hf=>by have:=T.pos h hf;omega
 | k+1,x,hk,h,hf=>by
  by_cases hu:up1 d ps x=f
  .rw [T.root_base h hf hu];exact⟨h,hf,hu⟩
  .have:=T.up1_prop h hf;rw[T.root_step h hf hu];exact T.root_ok k ∅ this.1 hu
theorem Zmp {g:Ed->Int}{z:Int}:∀ {l:List Ed} {q q':Ed},q∈l->q'∈l->q≠q'->g q=z->g q'=z->2<=(l.map g).count z
 | a::l,q,q',h,h',n,e,e'=>by
  rw[Ja8,Jdf];rcases Jax.mp h with h1|h1
  .rcases Jax.mp h' with h2|h2
   .exact absurd (h1.trans h2.symm) n
   .have:0<(l.map g).count z:=Jco.mpr (Jan.mpr ⟨q',h2,e'⟩);rw[if_pos (by rw[<- h1,e];simp)];omega
  .rcases Jax.mp h' with h2|h2
   .have:0<(l.map g).count z:=Jco.mpr (Jan.mpr ⟨q,h1,e⟩);rw[if_pos (by rw[<- h2,e'];simp)];omega
   .have:=Zmp h1 h2 n e e';omega
structure Fk (S:List Int)(ps:List Ed)(f:Int)(d:Int->Nat):Prop extends Tr S ps f d where
 d0:d f=0
 few:∀ x∈S,x≠f->chn d ps x<=1
theorem Fk.zero (T:Fk S ps f d){x:Int}(h:x∈S)(h0:d x=0):x=f:=Jas λz=>by have:=T.pos h z;omega
theorem Fk.inj (T:Fk S ps f d):∀ (k:Nat) {x y:Int},d x=k->d y=k->x∈S->x≠f->y∈S->y≠f->Zc8 d ps f x=Zc8 d ps f y->x=y
 | 0,x,y,hx,hy,h,hf,_,_,_=>by have:=T.pos h hf;omega
 | k+1,x,y,hx,hy,h,hf,h',hf',e=>by
  have ux:=T.up1_prop h hf;have uy:=T.up1_prop h' hf';by_cases hu:up1 d ps x=f
  .have:d (up1 d ps y)=0:=by rw[hu,T.d0] at ux;omega
   rw[T.root_base h hf hu,T.root_base h' hf' (T.zero uy.1 this)] at e;exact e
  .have hu':up1 d ps y≠f:=λz=>by
    rw[z,T.d0] at uy;exact hu (T.zero ux.1 ∅)
   rw[T.root_step h hf hu,T.root_step h' hf' hu'] at e;have ih:=T.inj k ∅ ∅ ux.1 hu uy.1 hu' e;obtain⟨q,hq,e1,e2⟩:=T.up1_of h hf;obtain⟨q',hq',e1',e2'⟩:=T.up1_of h' hf';by_cases hqq:q=q'
   .rw [<- e1,<- e1',hqq]
   .have:=Zmp (g:=pe d) hq hq' hqq (e2.symm.trans ih) e2'.symm;have h1:=T.few _ uy.1 hu';unfold chn at h1;omega
def cls (S:List Int)(d:Int->Nat)(ps:List Ed)(f a:Int):List Int:=(oth S f).filter λx=>decide (Zc8 d ps f x=a)
theorem Zeu {a x:Int}:x∈cls S d ps f a ↔ (x∈S/\x≠f)/\Zc8 d ps f x=a:=by unfold cls;rw[Jaz,Zbr];simp
theorem Fk.desc (T:Fk S ps f d){a:Int}:∀ (j:Nat) {y:Int} {k:Nat},y∈cls S d ps f a->1<=k->k+j=d y->∃ z∈cls S d ps f a,d z=k
 | 0,y,k,hy,h1,e=>⟨y,hy,∅⟩
 | j+1,y,k,hy,h1,e=>by
  obtain⟨⟨h,hf⟩,hr⟩:=Zeu.mp hy;have u:=T.up1_prop h hf;have hu:up1 d ps y≠f:=λz=>by rw[z,T.d0] at u;omega
  exact T.desc j (y:=up1 d ps y) (Zeu.mpr ⟨⟨u.1,hu⟩,by rw[<- T.root_step h hf hu];exact hr⟩) h1 ∅
theorem Zbz {α:Type}[DecidableEq α]:∀ {l m:List α},l.Nodup->(∀ x∈l,x∈m)->l.length<=m.length
 | [],m,_,_=>Jbm _
 | a::l,m,nd,hs=>by
  have ha:a∈m:=hs a (by simp);have nd':=Jbx.mp nd;have:=Zbz (l:=l) (m:=m.erase a) nd'.2 λx hx=>(List.mem_erase_of_ne (show x≠a from λz=>nd'.1 (z ▸ hx))).mpr (hs x (by simp[hx]));rw[Jdu ha] at this;have:=List.length_pos_of_mem ha;rw[Jbq];omega
theorem Zb9 {α β:Type}{g:α->β}:∀ {l:List α},l.Nodup->(∀ x∈l,∀ y∈l,g x=g y->x=y)->(l.map g).Nodup
 | [],_,_=>List.nodup_nil
 | a::l,nd,h=>by
  have nd':=Jbx.mp nd;rw[Ja8,Jbx];refine⟨λz=>?_,Zb9 nd'.2 λx hx y hy=>h x (by simp[hx]) y (by simp[hy])⟩;obtain⟨y,hy,e⟩:=Jan.mp z;have:=h y (by simp[hy]) a (by simp) e;exact nd'.1 (this ▸ hy)
theorem Fk.size (T:Fk S ps f d){x:Int}(h:x∈S)(hf:x≠f)(h0:chn d ps x=0):(cls S d ps f (Zc8 d ps f x)).length=d x:=by
 have hx:x∈cls S d ps f (Zc8 d ps f x):=Zeu.mpr ⟨⟨h,hf⟩,rfl⟩;have top:∀ y∈cls S d ps f (Zc8 d ps f x),d y<=d x:=λy hy=>Jas λz=>by
  obtain⟨y',hy',e'⟩:=T.desc (d y-(d x+1)) hy (k:=d x+1) ∅ ∅;obtain⟨⟨h1,h2⟩,h3⟩:=Zeu.mp hy';have u:=T.up1_prop h1 h2;have hu:up1 d ps y'≠f:=λw=>by
   rw[w,T.d0] at u;have:=T.pos h hf;omega
  have e2:up1 d ps y'=x:=T.inj (d x) ∅ rfl u.1 hu h hf (by rw[<- T.root_step h1 h2 hu];exact h3);obtain⟨q,hq,e3,e4⟩:=T.up1_of h1 h2;have:0<chn d ps x:=Jco.mpr (Jan.mpr ⟨q,hq,e4.symm.trans e2⟩);omega
 have ndc:(cls S d ps f (Zc8 d ps f x)).Nodup:=Jbe (Jba.trans Jba) T.nd;have ndm:((cls S d ps f (Zc8 d ps f x)).map d).Nodup:=Zb9 ndc λy hy z hz e=>by
  obtain⟨⟨a1,a2⟩,a3⟩:=Zeu.mp hy;obtain⟨⟨b1,b2⟩,b3⟩:=Zeu.mp hz;exact T.inj (d z) e rfl a1 a2 b1 b2 (a3.trans b3.symm)
 have l1:=Zbz (m:=List.range' 1 (d x)) ndm λk hk=>by
  obtain⟨y,hy,rfl⟩:=Jan.mp hk;have:=top y hy;obtain⟨⟨a1,a2⟩,a3⟩:=Zeu.mp hy;have:=T.pos a1 a2;rw[Jfh];omega
 have l2:=Zbz (l:=List.range' 1 (d x)) (m:=(cls S d ps f (Zc8 d ps f x)).map d) (List.nodup_range' ..) λk hk=>by
  rw[Jfh] at hk;obtain⟨z,hz,e⟩:=T.desc (d x-k) hx (k:=k) ∅ ∅;exact Jan.mpr ⟨z,hz,e⟩
 rw[Jab,List.length_range'] at l1 l2;omega
theorem Fk.leaf_one (T:Fk S ps f d){x y:Int}(h:x∈S)(hf:x≠f)(h0:chn d ps x=0)(h':y∈S)(hf':y≠f)(h0':chn d ps y=0)(e:Zc8 d ps f x=Zc8 d ps f y):x=y:=by
 have a:=T.size h hf h0;have b:=T.size h' hf' h0';rw[e] at a;exact T.inj (d y) ∅ rfl h hf h' hf' e
theorem Zpg (d:Int->Nat):∀ (S:List Int),∃ B,∀ x∈S,d x<=B
 | []=>⟨0,by simp⟩
 | a::S=>by
  obtain⟨B,h⟩:=Zpg d S;refine⟨max (d a) B,λx hx=>?_⟩;rcases Jax.mp hx with rfl|hx
  .omega
  .have:=h x hx;omega
theorem Fk.leaf_go (T:Fk S ps f d){B:Nat}(hB:∀ x∈S,d x<=B):∀ (k:Nat) {x:Int},B-d x<=k->x∈S->x≠f->∃ z∈S,z≠f/\chn d ps z=0/\Zc8 d ps f z=Zc8 d ps f x
 | k,x,hk,h,hf=>by
  by_cases h0:chn d ps x=0
  .exact ⟨x,h,hf,h0,rfl⟩
  .obtain ⟨q,hq,e⟩:=Jan.mp (Jco.mp (Nat.pos_of_ne_zero h0));obtain⟨p1,p2,p3,p4⟩:=T.prop hq;rw[e] at p4;have b:=hB _ p1;have u:up1 d ps (ce d q)=x:=(T.up1_ce hq).trans e;have r:Zc8 d ps f (ce d q)=Zc8 d ps f x:=by rw[T.root_step p1 p2 (by rw[u];exact hf),u]
   match k with
   | 0=>omega
   | k+1=>
    obtain⟨z,z1,z2,z3,z4⟩:=T.leaf_go hB k (x:=ce d q) ∅ p1 p2;exact⟨z,z1,z2,z3,z4.trans r⟩
theorem Fk.leaf (T:Fk S ps f d){x:Int}(h:x∈S)(hf:x≠f):∃ z∈S,z≠f/\chn d ps z=0/\Zc8 d ps f z=Zc8 d ps f x:=by
 obtain⟨B,hB⟩:=Zpg d S;exact T.leaf_go hB (B-d x) (Jaf _) h hf
def lvs (S:List Int)(ps:List Ed):List Int:=S.filter λx=>decide (deg ps x=1)
theorem Fk.arms (T:Fk S ps f d)(hf3:deg ps f≠1){R:List Int}(nR:R.Nodup)(hR:∀ r∈R,r∈S/\r≠f)(hone:∀ r∈R,∀ r'∈R,Zc8 d ps f r=Zc8 d ps f r'->r=r')(hall:∀ x∈S,x≠f->∃ r∈R,Zc8 d ps f r=Zc8 d ps f x):
  (R.map λr=>(cls S d ps f (Zc8 d ps f r)).length).Perm ((lvs S ps).map d):=by
 have ml:∀ x,x∈lvs S ps ↔ x∈S/\x≠f/\chn d ps x=0:=λx=>by
  unfold lvs;rw[Jaz,Jcc];constructor
  .rintro ⟨h,e⟩;have hf:x≠f:=λz=>hf3 (z ▸ e);have:=T.deg_x h hf;exact⟨h,hf,∅⟩
  .rintro ⟨h,hf,e⟩;exact⟨h,by have:=T.deg_x h hf;omega⟩
 have nL:(lvs S ps).Nodup:=Jbe Jba T.nd;have n1:(R.map (Zc8 d ps f)).Nodup:=Zb9 nR hone;have n2:((lvs S ps).map (Zc8 d ps f)).Nodup:=Zb9 nL λx hx y hy e=>by
  obtain⟨a1,a2,a3⟩:=(ml x).mp hx;obtain⟨b1,b2,b3⟩:=(ml y).mp hy;exact T.leaf_one a1 a2 a3 b1 b2 b3 e
 have s1:∀ a∈R.map (Zc8 d ps f),a∈(lvs S ps).map (Zc8 d ps f):=λa ha=>by
  obtain⟨r,hr,rfl⟩:=Jan.mp ha;obtain⟨z,z1,z2,z3,z4⟩:=T.leaf (hR r hr).1 (hR r hr).2;exact Jan.mpr ⟨z,(ml z).mpr ⟨z1,z2,z3⟩,z4⟩
 have s2:∀ a∈(lvs S ps).map (Zc8 d ps f),a∈R.map (Zc8 d ps f):=λa ha=>by
  obtain⟨x,hx,rfl⟩:=Jan.mp ha;obtain⟨a1,a2,_⟩:=(ml x).mp hx;obtain⟨r,hr,e⟩:=hall x a1 a2;exact Jan.mpr ⟨r,hr,e⟩
 have p:=(Zdr n1 s1 (Zbz n2 s2)).map λa=>(cls S d ps f a).length;rw[Jcn,Jcn] at p;refine p.trans (List.Perm.of_eq (Jct λx hx=>?_));obtain⟨a1,a2,a3⟩:=(ml x).mp hx;exact T.size a1 a2 a3
def Conn (S:List Int)(es:List Ed):Prop:=∀ h:Int->Int,(∀ q∈es,h q.1=h q.2)->∀ x∈S,∀ y∈S,h x=h y
def Zw0 (A:List Int)(es:List Ed)(f:Int)(d:Int->Nat):Prop:=∀ x∈A,x≠f->∃ q∈es,(q.1=x/\q.2∈A/\d q.2+1=d x)\/(q.2=x/\q.1∈A/\d q.1+1=d x)
theorem Ztz {es:List Ed}(hc:Conn S es)(hin:∀ q∈es,q.1∈S/\q.2∈S){A:List Int}{d:Int->Nat}(hA:∀ x∈A,x∈S)(hf:f∈A)(hne:∃ y∈S,y∉A)(d0:d f=0)(hp:Zw0 A es f d):
  ∃ v∈S,v∉A/\∃ d',d' f=0/\Zw0 (v::A) es f d':=by
 have cross:∃ q∈es,¬ (q.1∈A ↔ q.2∈A):=Jas λz=>by
  obtain⟨y,hy,ny⟩:=hne;have:=hc (λx=>if x∈A then 1 else 0) (λq hq=>by
   have:q.1∈A ↔ q.2∈A:=Jas λw=>z ⟨q,hq,w⟩;by_cases h:q.1∈A
   .rw [if_pos h,if_pos (this.mp h)]
   .rw [if_neg h,if_neg (λw=>h (this.mpr w))]) f (hA f hf) y hy
  rw[if_pos hf,if_neg ny] at this;exact absurd this ⇑0
 obtain⟨q,hq,hx⟩:=cross;have go:∀ u v,u∈A->v∈S->v∉A->((q.1=v/\q.2=u)\/(q.2=v/\q.1=u))->∃ v∈S,v∉A/\∃ d',d' f=0/\Zw0 (v::A) es f d':=λu v hu hv nv hq2=>by
  have nf:f≠v:=λz=>nv (z ▸ hf);refine⟨v,hv,nv,λx=>if x=v then d u+1 else d x,by simp only;rw[if_neg nf];exact d0,λx hx xf=>?_⟩;rcases Jax.mp hx with rfl|hxA
  .refine ⟨q,hq,?_⟩;have nu:u≠x:=λz=>nv (z ▸ hu);rcases hq2 with ⟨e1,e2⟩|⟨e1,e2⟩
   .exact .inl ⟨e1,by rw[e2];simp[hu],by rw[e2];simp[nu]⟩
   .exact .inr ⟨e1,by rw[e2];simp[hu],by rw[e2];simp[nu]⟩
  .have nx:x≠v:=λz=>nv (z ▸ hxA);obtain⟨q',hq',h⟩:=hp x hxA xf;refine⟨q',hq',?_⟩;rcases h with ⟨e1,e2,e3⟩|⟨e1,e2,e3⟩
   .have n2:q'.2≠v:=λz=>nv (z ▸ e2);exact .inl ⟨e1,by simp[e2],by simp only;rw[if_neg n2,if_neg nx];exact e3⟩
   .have n2:q'.1≠v:=λz=>nv (z ▸ e2);exact .inr ⟨e1,by simp[e2],by simp only;rw[if_neg n2,if_neg nx];exact e3⟩
 obtain⟨i1,i2⟩:=hin q hq;by_cases h1:q.1∈A
 .have h2:q.2∉A:=λw=>hx ⟨λ_=>w,λ_=>h1⟩;exact go q.1 q.2 h1 i2 h2 (.inr ⟨rfl,rfl⟩)
 .have h2:q.2∈A:=Jas λw=>hx ⟨λz=>absurd z h1,λz=>absurd z w⟩;exact go q.2 q.1 h2 i1 h1 (.inl ⟨rfl,rfl⟩)
theorem Znz {es:List Ed}(hc:Conn S es)(hin:∀ q∈es,q.1∈S/\q.2∈S)(nS:S.Nodup):∀ (k:Nat) {A:List Int} {d:Int->Nat},S.length-A.length<=k->A.Nodup->(∀ x∈A,x∈S)->f∈A->d f=0->Zw0 A es f d->
  ∃ d':Int->Nat,d' f=0/\∀ x∈S,x≠f->∃ q∈es,(q.1=x/\d' q.2+1=d' x)\/(q.2=x/\d' q.1+1=d' x)
 | k,A,d,hk,nA,hA,hf,d0,hp=>by
  by_cases hall:∀ y∈S,y∈A
  .refine ⟨d,d0,λx hx xf=>?_⟩;obtain⟨q,hq,h⟩:=hp x (hall x hx) xf;exact⟨q,hq,h.imp (λz=>⟨z.1,z.2.2⟩) (λz=>⟨z.1,z.2.2⟩)⟩
  .have hne:∃ y∈S,y∉A:=Jas λz=>hall λy hy=>Jas λw=>z ⟨y,hy,w⟩;obtain⟨v,hv,nv,d',e0,hp'⟩:=Ztz hc hin hA hf hne d0 hp;have nvA:(v::A).Nodup:=Jbx.mpr ⟨nv,nA⟩;have sub:∀ x∈v::A,x∈S:=λx hx=>by
    rcases Jax.mp hx with rfl|hx
    .exact hv
    .exact hA x hx
   have:=Zbz nvA sub;rw[Jbq] at this
   match k with
   | 0=>omega
   | k+1=>exact Znz hc hin nS k (A:=v::A) (by rw[Jbq];omega) nvA sub (by simp[hf]) e0 hp'
theorem Zty {es:List Ed}(hc:Conn S es)(hin:∀ q∈es,q.1∈S/\q.2∈S)(nS:S.Nodup)(hf:f∈S)(hl:es.length+1=S.length):∃ d:Int->Nat,d f=0/\Tr S es f d:=by
 obtain⟨d,e0,hp⟩:=Znz (f:=f) hc hin nS S.length (A:=[f]) (d:=λ_=>0) ∅ (by simp) (λx hx=>by rw[Jam.mp hx];exact hf) (by simp) rfl (λx hx xf=>absurd (Jam.mp hx) xf);exact⟨d,e0,nS,hf,hin,hp,hl⟩
end
end L3
namespace L3
def sI {α:Type}(g:α->Int):List α->Int
 | []=>0
 | x::l=>g x+sI g l
section
variable {α β:Type}
theorem Zjc {g:α->Int}:∀ {l m:List α},sI g (l++m)=sI g l+sI g m
 | [],m=>by simp[sI]
 | x::l,m=>by
  have:=Zjc (g:=g) (l:=l) (m:=m);simp only[List.cons_append,sI];omega
theorem Zk0 {g:α->Int}{l m:List α}(p:l.Perm m):sI g l=sI g m:=by
 induction p with
 | nil=>rfl
 | cons x _ ih=>simp only[sI];omega
 | swap x y l=>simp only[sI];omega
 | trans _ _ h1 h2=>exact h1.trans h2
theorem Zbt {g h:α->Int}:∀ {l:List α},(∀ x∈l,g x=h x)->sI g l=sI h l
 | [],_=>rfl
 | x::l,e=>by simp only[sI];rw[e x (by simp),Zbt λy hy=>e y (by simp[hy])]
theorem Zol {f:β->α}{g:α->Int}:∀ {l:List β},sI g (l.map f)=sI (λx=>g (f x)) l
 | []=>rfl
 | x::l=>by simp only[Ja8,sI];rw[Zol]
theorem Zom {g h:α->Int}:∀ {l:List α},sI (λx=>g x+h x) l=sI g l+sI h l
 | []=>rfl
 | x::l=>by have:=Zom (g:=g) (h:=h) (l:=l);simp only[sI];omega
theorem Zj8 {g h:α->Int}:∀ {l:List α},sI (λx=>g x-h x) l=sI g l-sI h l
 | []=>rfl
 | x::l=>by have:=Zj8 (g:=g) (h:=h) (l:=l);simp only[sI];omega
theorem Zrl {c:Int}{g:α->Int}:∀ {l:List α},sI (λx=>c*g x) l=c*sI g l
 | []=>by simp[sI]
 | x::l=>by have:=Zrl (c:=c) (g:=g) (l:=l);simp only[sI];rw[this,Int.mul_add]
theorem Zce {c:Int}:∀ {l:List α},sI (λ_=>c) l=c*(l.length:Nat)
 | []=>by simp[sI]
 | x::l=>by
  have:=Zce (c:=c) (l:=l);simp only[sI,Jbq];rw[this,Int.natCast_add,Int.mul_add];omega
theorem Zu1 {g h:α->Int}:∀ {l:List α},(∀ x∈l,g x<=h x)->sI g l<=sI h l
 | [],_=>Jd8 _
 | x::l,e=>by have:=Zu1 (l:=l) λy hy=>e y (by simp[hy]);have:=e x (by simp);simp only[sI];omega
theorem sI_nn {g:α->Int}{l:List α}(h:∀ x∈l,0<=g x):0<=sI g l:=by
 have:=Zu1 (g:=λ_=>0) (h:=g) (l:=l) h;rw[Zce] at this;omega
theorem Zfl {g:α->Int}{l:List α}(h:∀ x∈l,g x=0):sI g l=0:=by
 rw[Zbt (h:=λ_=>0) h,Zce];omega
theorem Zh7 {g:α->Int}:∀ {l:List α} {x:α},x∈l->(∀ y∈l,0<=g y)->g x<=sI g l
 | y::l,x,hx,h=>by
  have h1:=h y (by simp);have h2:=sI_nn (g:=g) (l:=l) λz hz=>h z (by simp[hz]);simp only[sI];rcases Jax.mp hx with rfl|hx
  .omega
  .have:=Zh7 hx λz hz=>h z (by simp[hz]);omega
theorem Zxa {g:α->Int}:∀ {l:List α} {x y:α},x∈l->y∈l->x≠y->(∀ z∈l,0<=g z)->g x+g y<=sI g l
 | a::l,x,y,hx,hy,n,h=>by
  have h1:=h a (by simp);have h':=λz (hz:z∈l)=>h z (Ja9 _ hz);simp only[sI];rcases Jax.mp hx with e|hx
  .rcases Jax.mp hy with e'|hy
   .exact absurd (e.trans e'.symm) n
   .have:=Zh7 hy h';subst e;omega
  .rcases Jax.mp hy with e'|hy
   .have:=Zh7 hx h';subst e';omega
   .have:=Zxa hx hy n h';omega
theorem Zj7 {g:α->Int}{l m:List α}(s:l.Sublist m)(h:∀ x∈m,0<=g x):sI g l<=sI g m:=by
 induction s with
 | slnil=>exact Jd8 _
 | cons a _ ih=>have:=ih λx hx=>h x (by simp[hx]);have:=h a (by simp);simp only[sI];omega
 | cons_cons a _ ih=>have:=ih λx hx=>h x (by simp[hx]);simp only[sI];omega
theorem Zjb {g:α->Int}{p:α->Bool}:∀ {l:List α},(∀ x∈l,p x=false->g x=0)->sI g l=sI g (l.filter p)
 | [],_=>rfl
 | x::l,h=>by
  have ih:=Zjb (g:=g) (p:=p) (l:=l) λy hy=>h y (by simp[hy]);cases e:p x with
  | true=>rw[List.filter_cons_of_pos e];simp only[sI];omega
  | false=>
   rw[List.filter_cons_of_neg (by simp[e])];have:=h x (by simp) e;simp only[sI];omega
theorem Zrn {g:α->Int}:∀ {L:List (List α)},sI g L.flatten=sI (λl=>sI g l) L
 | []=>rfl
 | l::L=>by have:=Zrn (g:=g) (L:=L);simp only[Jdk,Zjc,sI];omega
theorem Zrm {g:α->Int}(lab:α->Int):∀ {R:List Int} {l:List α},R.Nodup->(∀ x∈l,lab x∈R)->sI g l=sI (λk=>sI g (l.filter λx=>decide (lab x=k))) R
 | [],[],_,_=>rfl
 | [],x::l,_,h=>absurd (h x (by simp)) (by simp)
 | r::R,l,nd,h=>by
  have nd':=Jbx.mp nd;have ih:=Zrm (g:=g) lab (R:=R) (l:=l.filter λx=>!decide (lab x=r)) nd'.2 λx hx=>by
   obtain⟨h1,h2⟩:=Jaz.mp hx;rcases Jax.mp (h x h1) with e|e
   .simp [e] at h2
   .exact e
  have e:sI (λk=>sI g ((l.filter λx=>!decide (lab x=r)).filter λx=>decide (lab x=k))) R=sI (λk=>sI g (l.filter λx=>decide (lab x=k))) R:=Zbt λk hk=>by
   rw[List.filter_filter];congr 1;refine Jd9 λx _=>?_;by_cases z:lab x=k
   .have:lab x≠r:=λu=>nd'.1 (by rw[<- u,z];exact hk);simp[z];rw[<- z];exact this
   .simp [z]
  rw[e] at ih;have sp:∀ l:List α,sI g l=sI g (l.filter λx=>decide (lab x=r))+sI g (l.filter λx=>!decide (lab x=r)):=λl=>by
   induction l with
   | nil=>rfl
   | cons x l ih=>
    by_cases z:lab x=r
    .simp [z,sI];omega
    .simp [z,sI];omega
  have:=sp l;simp only[sI];omega
end
section
variable {pts:List Int}{ps:List Ed}
def qf (pts:List Int)(ps:List Ed)(x:Int->Int):Int:=sI (λp=>x p*x p) pts-sI (λe=>x e.1*x e.2) ps
def nb (ps:List Ed)(x:Int->Int)(p:Int):Int:=sI (λe=>(if e.1=p then x e.2 else 0)+(if e.2=p then x e.1 else 0)) ps
def Ins (pts:List Int)(ps:List Ed):Prop:=∀ e∈ps,e.1∈pts/\e.2∈pts
theorem pick {y:Int->Int}{a c:Int}:∀ {l:List Int},l.Nodup->a∈l->sI (λp=>y p*(if a=p then c else 0)) l=y a*c
 | p::l,nd,ha=>by
  have nd':=Jbx.mp nd;simp only[sI];rcases Jax.mp ha with e|h
  .subst e;rw[if_pos rfl,Zfl λq hq=>by rw[if_neg (show ¬ a=q from λz=>nd'.1 (z ▸ hq)),Je2]];omega
  .rw [if_neg (show ¬ a=p from λz=>nd'.1 (z ▸ h)),pick nd'.2 h];omega
theorem dbl {x y:Int->Int}(nd:pts.Nodup):∀ {ps:List Ed},Ins pts ps->sI (λp=>y p*nb ps x p) pts=sI (λe=>y e.1*x e.2+y e.2*x e.1) ps
 | [],_=>by
  unfold nb;exact Zfl λp _=>by simp[sI]
 | e::ps,h=>by
  have ih:=dbl (x:=x) (y:=y) nd (ps:=ps) λq hq=>h q (by simp[hq]);have he:=h e (by simp);have e1:∀ p,y p*nb (e::ps) x p=(y p*(if e.1=p then x e.2 else 0)+y p*(if e.2=p then x e.1 else 0))+y p*nb ps x p:=λp=>by
   unfold nb;simp only[sI];rw[Int.mul_add,Int.mul_add]
  rw[Zbt λp _=>e1 p,Zom,Zom,ih,pick nd he.1,pick nd he.2];rfl
def rs (x:Int->Int)(p:Int):Int->Int:=λr=>if r=p then x p+1 else x r
end
end L3
namespace L3
section
variable {pts:List Int}{ps K:List Ed}
def Low (pts:List Int)(ps:List Ed)(x:Int->Int):Prop:=(∀ p∈pts,0<=x p)/\(∃ p∈pts,x p≠0)/\qf pts ps x<=0
def PosN (pts:List Int)(ps:List Ed):Prop:=∀ x:Int->Int,(∀ p∈pts,0<=x p)->(∃ p∈pts,x p≠0)->0<qf pts ps x
theorem PosN.sub {ps':List Ed}(h:PosN pts ps)(hi:Ins pts ps)(s:ps'.Sublist ps):PosN pts ps':=λx h0 h1=>by
 have:=h x h0 h1;have:=Zj7 (g:=λe:Ed=>x e.1*x e.2) s λe he=>Jcq (h0 _ (hi e he).1) (h0 _ (hi e he).2);unfold qf at *;omega
def ds (x:Int->Int)(p:Int):Int->Int:=λr=>if r=p then x p-1 else x r
def z0:Int->Int:=λ_=>0
end
end L3
namespace L3
section
variable {S:List Int}{ps:List Ed}{f:Int}{d:Int->Nat}
def upsA (d:Int->Nat)(ps:List Ed):Nat->Int->List Int->List Int
 | 0,_,acc=>acc
 | k+1,x,acc=>upsA d ps k (up1 d ps x) (x::acc)
def Ch (u:Int->Int):Int->List Int->Prop
 | _,[]=>True
 | f,p::l=>u p=f/\Ch u p l
theorem Fk.ups (T:Fk S ps f d):∀ (k:Nat) {x:Int} {acc:List Int},d x=k->x∈S->Ch (up1 d ps) x acc->Ch (up1 d ps) f (upsA d ps k x acc)/\(upsA d ps k x acc).map d=List.range' 1 k++acc.map d/\∀ y∈upsA d ps k x acc,y∈acc\/(y∈S/\y≠f/\Zc8 d ps f y=Zc8 d ps f x)
 | 0,x,acc,hk,hx,c=>by
  have:=T.zero hx hk;subst this;exact⟨c,rfl,λy hy=>.inl hy⟩
 | k+1,x,acc,hk,hx,c=>by
  have xf:x≠f:=λz=>by rw[z,T.d0] at hk;omega
  have u:=T.up1_prop hx xf;obtain⟨h1,h2,h3⟩:=T.ups k (x:=up1 d ps x) (acc:=x::acc) ∅ u.1 ⟨rfl,c⟩;refine⟨h1,?_,λy hy=>?_⟩
  .show (upsA d ps k (up1 d ps x) (x::acc)).map d=_;rw[h2,List.range'_concat,Ja8,hk,Jd4];simp;omega
  .have hy:y∈upsA d ps k (up1 d ps x) (x::acc):=hy;by_cases hu:up1 d ps x=f
   .have:k=0:=by rw[hu,T.d0] at u;omega
    subst this;rcases Jax.mp hy with rfl|hy
    .exact .inr ⟨hx,xf,rfl⟩
    .exact .inl hy
   .rcases h3 y hy with h|⟨a,b,e⟩
    .rcases Jax.mp h with rfl|h
     .exact .inr ⟨hx,xf,rfl⟩
     .exact .inl h
    .exact .inr ⟨a,b,e.trans (T.root_step hx xf hu).symm⟩
def arm (d:Int->Nat)(ps:List Ed)(z:Int):List Int:=upsA d ps (d z) z []
theorem Fk.arm_ok (T:Fk S ps f d){z:Int}(h:z∈S):Ch (up1 d ps) f (arm d ps z)/\(arm d ps z).map d=List.range' 1 (d z)/\(arm d ps z).length=d z/\(arm d ps z).Nodup/\∀ y∈arm d ps z,y∈S/\y≠f/\Zc8 d ps f y=Zc8 d ps f z:=by
 obtain⟨h1,h2,h3⟩:=T.ups (d z) (x:=z) (acc:=[]) rfl h True.intro;rw[Jei,Jd0] at h2;refine⟨h1,h2,?_,?_,λy hy=>?_⟩
 .have:=Jec List.length h2;rw[Jab,List.length_range'] at this;exact this
 .have n:((arm d ps z).map d).Nodup:=by unfold arm;rw[h2];exact List.nodup_range' ..
  exact List.Pairwise.of_map d (λa b hab e=>hab (by rw[e])) n
 .rcases h3 y hy with h|h
  .simp at h
  .exact h
theorem Fk.arm_perm (T:Fk S ps f d){z:Int}(h:z∈S)(hf:z≠f)(h0:chn d ps z=0):(arm d ps z).Perm (cls S d ps f (Zc8 d ps f z)):=by
 obtain⟨_,_,hl,nd,hm⟩:=T.arm_ok h;refine Zdr nd (λy hy=>?_) (by rw[T.size h hf h0,hl];exact Jaf _);obtain⟨a,b,c⟩:=hm y hy;exact Zeu.mpr ⟨⟨a,b⟩,c⟩
def Lvs (S:List Int)(ps:List Ed)(f:Int)(d:Int->Nat)(L:List Int):Prop:=L.Nodup/\∀ z,z∈L ↔ (z∈S/\z≠f/\chn d ps z=0)
theorem Fk.all (T:Fk S ps f d){L:List Int}(hL:Lvs S ps f d L):((L.map (arm d ps)).flatten).Perm (oth S f):=by
 obtain⟨nL,mL⟩:=hL;have nd:((L.map (arm d ps)).flatten).Nodup:=by
  refine List.pairwise_flatten.mpr ⟨λl hl=>?_,?_⟩
  .obtain ⟨z,hz,rfl⟩:=Jan.mp hl;exact (T.arm_ok ((mL z).mp hz).1).2.2.2.1
  .rw [Jfi];refine List.Pairwise.imp_of_mem ?_ nL;intro a b ha hb hab x hx y hy e;obtain⟨a1,a2,a3⟩:=(mL a).mp ha;obtain⟨b1,b2,b3⟩:=(mL b).mp hb;have r1:=((T.arm_ok a1).2.2.2.2 x hx).2.2;have r2:=((T.arm_ok b1).2.2.2.2 y hy).2.2;rw[e] at r1;exact hab (T.leaf_one a1 a2 a3 b1 b2 b3 (r1.symm.trans r2))
 have s1:∀ x∈(L.map (arm d ps)).flatten,x∈oth S f:=λx hx=>by
  obtain⟨l,hl,hx⟩:=Jdq.mp hx;obtain⟨z,hz,rfl⟩:=Jan.mp hl;obtain⟨a,b,_⟩:=(T.arm_ok ((mL z).mp hz).1).2.2.2.2 x hx;exact Zbr.mpr ⟨a,b⟩
 refine Zdr nd s1 (Zbz (Jbe Jba T.nd) λx hx=>?_);obtain⟨h,hf⟩:=Zbr.mp hx;obtain⟨z,z1,z2,z3,z4⟩:=T.leaf h hf;exact Jdq.mpr ⟨_,Jan.mpr ⟨z,(mL z).mpr ⟨z1,z2,z3⟩,rfl⟩,(T.arm_perm z1 z2 z3).mem_iff.mpr (Zeu.mpr ⟨⟨h,hf⟩,z4.symm⟩)⟩
def pqL:Int->List Int->Int
 | _,[]=>0
 | v,a::l=>a*a-v*a+pqL a l
theorem Ch.sum {u:Int->Int}(X:Int->Int):∀ {l:List Int} {f:Int},Ch u f l->sI (λp=>X p*X p-X p*X (u p)) l=pqL (X f) (l.map X)
 | [],_,_=>rfl
 | p::l,f,h=>by
  have ih:=Ch.sum X (l:=l) (f:=p) h.2;simp only[sI,Ja8,pqL];rw[ih,h.1,Int.mul_comm (X f)]
theorem Zvm (nd:S.Nodup)(h:f∈S):S.Perm (f::oth S f):=by
 have e:oth S f=S.erase f:=by
  unfold oth;rw[List.Nodup.erase_eq_filter nd];congr 1
  funext x
  rw[Jbw];simp
 rw[e];exact List.perm_cons_erase h
theorem Fk.q_eq (T:Fk S ps f d){L:List Int}(hL:Lvs S ps f d L)(X:Int->Int):qf S ps X=X f*X f+sI (λz=>pqL (X f) ((arm d ps z).map X)) L:=by
 have e1:sI (λe:Ed=>X e.1*X e.2) ps=sI (λp=>X p*X (up1 d ps p)) (oth S f):=by
  rw[Zk0 T.perm,Zol];refine Zbt λe he=>?_;rw[T.up1_ce he];rcases Zgp (d:=d) e with ⟨a,b⟩|⟨a,b⟩
  .rw [a,b]
  .rw [a,b,Int.mul_comm]
 have e2:sI (λp=>X p*X p) S=X f*X f+sI (λp=>X p*X p) (oth S f):=by
  rw[Zk0 (Zvm T.nd T.fS)];rfl
 have e3:sI (λp=>X p*X p-X p*X (up1 d ps p)) (oth S f)=sI (λz=>pqL (X f) ((arm d ps z).map X)) L:=by
  rw[<- Zk0 (T.all hL),Zrn,Zol];exact Zbt λz hz=>(T.arm_ok ((hL.2 z).mp hz).1).1.sum X
 rw[Zj8] at e3;unfold qf;omega
theorem pq_id (a v m P:Int):(m+1)*(2*(m+1+1)*(a*a-v*a+P)+(m+1)*(v*v))=(m+2)*(2*(m+1)*P+m*(a*a))+((m+2)*a-(m+1)*v)*((m+2)*a-(m+1)*v):=by grind
theorem Zb4 (a:Int):0<=a*a:=by
 rcases Int.le_total 0 a with h|h
 .exact Jcq h h
 .exact Jdy h h
theorem Zrv:∀ (l:List Int) (v:Int),0<=2*((l.length:Int)+1)*pqL v l+l.length*(v*v)
 | [],v=>by simp[pqL]
 | a::l,v=>by
  have ih:=Zrv l a;have hm:(0:Int)<=l.length:=∅
  simp only[pqL,Jbq,Int.natCast_add,Int.natCast_one];generalize (l.length:Int)=m at *;generalize pqL a l=P at *;have e:=pq_id a v m P;have h1:=Jcq (show 0<=m+2 by omega) ih;have h2:=Zb4 ((m+2)*a-(m+1)*v);refine Int.nonneg_of_mul_nonneg_right (a:=m+1) ?_ ∅;omega
theorem pq_z:∀ (l:List Int),pqL 0 l<=0->∀ a∈l,a=0
 | [],_,a,ha=>by simp at ha
 | b::l,h,a,ha=>by
  have ih:=Zrv l b;have hm:(0:Int)<=l.length:=∅
  simp only[pqL,Jdt,Int.sub_zero] at h;have e:=pq_id b 0 l.length (pqL b l);have hb:b=0:=Jas λz=>by
   have h1:=Jcq (show 0<=(l.length:Int)+2 by omega) ih;have h2:0<(((l.length:Int)+2)*b)*(((l.length:Int)+2)*b):=by
    have:((l.length:Int)+2)*b≠0:=Jew ∅ z;have:=Zb4 (((l.length:Int)+2)*b);have h3:((l.length:Int)+2)*b*(((l.length:Int)+2)*b)≠0:=Jew (by assumption) (by assumption);omega
   simp only[Jdt,Je2,Int.sub_zero,Je3] at e;have h4:=Jcq (show 0<=((l.length:Int)+1)*(2*((l.length:Int)+1+1)) from Jcq ∅ ∅) (show 0<=-(b*b+pqL b l) by omega);rw[Int.mul_neg,Int.mul_assoc] at h4;omega
  subst hb;rcases Jax.mp ha with rfl|ha
  .rfl
  .exact pq_z l ∅ a ha
theorem Zk4 {l:List Int}{v:Int}(h:v≠0):-(v*v)<2*pqL v l:=by
 have h1:=Zrv l v;have h2:0<v*v:=by
  have:=Zb4 v;have:=Jew h h;omega
 have hm:(0:Int)<=l.length:=∅
 generalize (l.length:Int)=m at *;generalize v*v=u at *;generalize pqL v l=P at *;refine Jas λz=>?_;have h3:=Int.mul_le_mul_of_nonneg_left (show 2*P<=-u by omega) (show 0<=m+1 by omega);have e1:2*(m+1)*P=(m+1)*(2*P):=by grind
 have e2:(m+1) * -u=-(m*u)-u:=by grind
 omega
theorem pq_nn {l:List Int}:0<=pqL 0 l:=by
 have h1:=Zrv l 0;rw[Je2,Je2,Je3] at h1;exact Int.nonneg_of_mul_nonneg_right h1 ∅
def DPos (S:List Int)(ps:List Ed):Prop:=∀ X:Int->Int,(∃ p∈S,X p≠0)->0<qf S ps X
theorem Fk.dpos (T:Fk S ps f d){L:List Int}(hL:Lvs S ps f d L)(h:∀ X:Int->Int,X f≠0->0<X f*X f+sI (λz=>pqL (X f) ((arm d ps z).map X)) L):DPos S ps:=λX hX=>by
 rw[T.q_eq hL];by_cases z:X f=0
 .refine Jas λw=>?_;rw[z] at w;have nn:∀ y∈L,0<=pqL 0 ((arm d ps y).map X):=λy _=>pq_nn;obtain⟨p,hp,hz⟩:=hX;have pf:p≠f:=λe=>hz (e ▸ z);obtain⟨l,hl,hpl⟩:=Jdq.mp ((T.all hL).mem_iff.mpr (Zbr.mpr ⟨hp,pf⟩));obtain⟨y,hy,rfl⟩:=Jan.mp hl;have:=Zh7 hy nn;exact hz (pq_z _ ∅ _ (Jan.mpr ⟨p,hpl,rfl⟩))
 .exact h X z
theorem Zq4 {a:Int}(h:a≠0):0<a*a:=by
 have:=Zb4 a;have:=Jew h h;omega
theorem Fk.posA (T:Fk S ps f d){L:List Int}(hL:Lvs S ps f d L)(h2:L.length<=2):DPos S ps:=T.dpos hL λX hz=>by
 have hu:=Zq4 hz
 match L,h2 with
 | [],_=>simpa [sI] using hu
 | [a],_=>
  have:=Zk4 (l:=(arm d ps a).map X) hz;simp only[sI];omega
 | [a,b],_=>
  have:=Zk4 (l:=(arm d ps a).map X) hz;have:=Zk4 (l:=(arm d ps b).map X) hz;simp only[sI];omega
theorem Fk.arm_lo (T:Fk S ps f d)(X:Int->Int){z:Int}(h:z∈S):0<=2*((d z:Int)+1)*pqL (X f) ((arm d ps z).map X)+d z*(X f*X f):=by
 have:=Zrv ((arm d ps z).map X) (X f);rw[Jab,(T.arm_ok h).2.2.1] at this;exact this
theorem Fk.posD (T:Fk S ps f d){a b c:Int}(hL:Lvs S ps f d [a,b,c])(ha:d a=1)(hb:d b=1):DPos S ps:=T.dpos hL λX hz=>by
 have hu:=Zq4 hz;have h1:=T.arm_lo X ((hL.2 a).mp (by simp)).1;have h2:=T.arm_lo X ((hL.2 b).mp (by simp)).1;have h3:=Zk4 (l:=(arm d ps c).map X) hz;rw[ha] at h1;rw[hb] at h2;simp only[sI];omega
theorem Fk.posE (T:Fk S ps f d){a b c:Int}(hL:Lvs S ps f d [a,b,c])(ha:d a=1)(hb:d b=2)(hc:d c<=4):DPos S ps:=T.dpos hL λX hz=>by
 have hu:=Zq4 hz;have h1:=T.arm_lo X ((hL.2 a).mp (by simp)).1;have h2:=T.arm_lo X ((hL.2 b).mp (by simp)).1;have h3:=T.arm_lo X ((hL.2 c).mp (by simp)).1;rw[ha] at h1;rw[hb] at h2;simp only[sI];have:d c=0\/d c=1\/d c=2\/d c=3\/d c=4:=∅
 rcases this with e|e|e|e|e
 all_goals
  rw[e] at h3;omega
theorem Fk.few_ends (T:Fk S ps f d){L:List Int}(hL:Lvs S ps f d L):L.length<=deg ps f:=by
 rw[T.deg_f];have lc:((ps.filter λq=>decide (pe d q=f)).map (ce d)).length=chn d ps f:=by
  unfold chn;rw[Jab,List.count,List.countP_map,List.countP_eq_length_filter];rfl
 rw[<- lc,<- Jab (f:=Zc8 d ps f) (as:=L)];refine Zbz (Zb9 hL.1 λx hx y hy e=>?_) λr hr=>?_
 .obtain ⟨a1,a2,a3⟩:=(hL.2 x).mp hx;obtain⟨b1,b2,b3⟩:=(hL.2 y).mp hy;exact T.leaf_one a1 a2 a3 b1 b2 b3 e
 .obtain ⟨z,hz,rfl⟩:=Jan.mp hr;obtain⟨a1,a2,a3⟩:=(hL.2 z).mp hz;obtain⟨r1,r2,r3⟩:=T.root_ok (d z) (Jaf _) a1 a2;obtain⟨q,hq,e1,e2⟩:=T.up1_of r1 r2;exact Jan.mpr ⟨q,Jaz.mpr ⟨hq,Jag (e2.symm.trans r3)⟩,e1⟩
theorem Fk.d_le (T:Fk S ps f d){L:List Int}(hL:Lvs S ps f d L){p:Int}{N:Nat}(hp:p∈S)(h:∀ z∈L,d z<=N):d p<=N:=by
 by_cases hf:p=f
 .rw [hf,T.d0];exact Jbm _
 .obtain ⟨l,hl,hpl⟩:=Jdq.mp ((T.all hL).mem_iff.mpr (Zbr.mpr ⟨hp,hf⟩));obtain⟨z,hz,rfl⟩:=Jan.mp hl;have:d p∈(arm d ps z).map d:=Jan.mpr ⟨p,hpl,rfl⟩;rw[(T.arm_ok ((hL.2 z).mp hz).1).2.1,Jfh] at this;have:=h z hz;omega
theorem Zr0 {α β:Type}{g:α->β}{m1 m2:List β}(p:m1.Perm m2):∀ l:List α,l.map g=m2->∃ l':List α,l'.Perm l/\l'.map g=m1:=by
 induction p with
 | nil=>exact λl e=>⟨l,List.Perm.refl _,e⟩
 | cons x _ ih=>
  intro l e
  match l,e with
  | y::l,e=>
   rw[Ja8,Jch] at e;obtain⟨l',h1,h2⟩:=ih l e.2;exact⟨y::l',h1.cons y,by rw[Ja8,e.1,h2]⟩
 | swap x y m=>
  intro l e
  match l,e with
  | a::b::l,e=>
   rw[Ja8,Ja8,Jch,Jch] at e;exact⟨b::a::l,List.Perm.swap ..,by rw[Ja8,Ja8,e.1,e.2.1,e.2.2]⟩
 | trans _ _ ih1 ih2=>
  intro l e;obtain⟨l2,h1,h2⟩:=ih2 l e;obtain⟨l1,h3,h4⟩:=ih1 l2 h2;exact⟨l1,h3.trans h1,h4⟩
theorem Lvs.perm {L L':List Int}(h:Lvs S ps f d L)(p:L'.Perm L):Lvs S ps f d L':=⟨p.nodup_iff.mpr h.1,λz=>by rw[p.mem_iff];exact h.2 z⟩
theorem Fk.lvs_is (T:Fk S ps f d)(h:deg ps f≠1):Lvs S ps f d (lvs S ps):=⟨Jbe Jba T.nd,λx=>by
 unfold lvs;rw[Jaz,Jcc];constructor
 .rintro ⟨h1,e⟩;have hf:x≠f:=λz=>h (z ▸ e);have:=T.deg_x h1 hf;exact⟨h1,hf,∅⟩
 .rintro ⟨h1,hf,e⟩;exact⟨h1,by have:=T.deg_x h1 hf;omega⟩⟩
theorem Fk.ends_is (T:Fk S ps f d):Lvs S ps f d ((oth S f).filter λx=>decide (chn d ps x=0)):=⟨Jbe (Jba.trans Jba) T.nd,λx=>by
 rw[Jaz,Jcc,Zbr,and_assoc]⟩
theorem Zxm {l:List Int}{g:Int->Int}{k:Nat}(e:l.map d=List.range' 1 k)(r:Nat->Int)(hg:∀ p∈l,g p=r (d p)):l.map g=(List.range' 1 k).map r:=by
 rw[<- e,Jcn];exact Jct hg
theorem Fk.low6 (T:Fk S ps f d){a b c:Int}(hL:Lvs S ps f d [a,b,c])(ha:d a=2)(hb:d b=2)(hc:d c=2\/d c=3):qf S ps (λp=>if p∈S then (3:Int)-d p else 0)=0:=by
 rw[T.q_eq hL];have ar:∀ z∈[a,b,c],(arm d ps z).map (λp=>if p∈S then (3:Int)-d p else 0)=(List.range' 1 (d z)).map λk:Nat=>(3:Int)-(k:Nat):=λz hz=>by
  have hz:=((hL.2 z).mp hz).1;refine Zxm (T.arm_ok hz).2.1 _ λp hp=>?_;rw[if_pos ((T.arm_ok hz).2.2.2.2 p hp).1]
 simp only[sI];rw[ar a (by simp),ar b (by simp),ar c (by simp),if_pos T.fS,T.d0,ha,hb];rcases hc with e|e
 .rw [e];rfl
 .rw [e];rfl
theorem Fk.low7 (T:Fk S ps f d){a b c:Int}(hL:Lvs S ps f d [a,b,c])(ha:d a=1)(hb:d b=3)(hc:d c=3):qf S ps (λp=>if p∈S then (if p=a then (2:Int) else 4-d p) else 0)=0:=by
 rw[T.q_eq hL];have nL:=hL.1;have ha':=(hL.2 a).mp (by simp);have ar:∀ z∈[b,c],(arm d ps z).map (λp=>if p∈S then (if p=a then (2:Int) else 4-d p) else 0)=(List.range' 1 (d z)).map λk:Nat=>(4:Int)-(k:Nat):=λz hz=>by
  have hz':=(hL.2 z).mp (Ja9 _ hz);have nz:z≠a:=λe=>(Jbx.mp nL).1 (e ▸ hz);refine Zxm (T.arm_ok hz'.1).2.1 _ λp hp=>?_;obtain⟨h1,h2,h3⟩:=(T.arm_ok hz'.1).2.2.2.2 p hp;rw[if_pos h1,if_neg];intro e;rw[e] at h3;exact nz (T.leaf_one hz'.1 hz'.2.1 hz'.2.2 ha'.1 ha'.2.1 ha'.2.2 h3.symm)
 have a1:arm d ps a=[a]:=by
  unfold arm;rw[ha];rfl
 simp only[sI];rw[ar b (by simp),ar c (by simp),a1,if_pos T.fS,if_neg (λe=>ha'.2.1 e.symm),T.d0,hb,hc];simp only[Ja8,Jei,if_pos ha'.1,Jck];rfl
end
end L3
namespace L3
section
variable {pts:List Int}{ps:List Ed}
theorem q_zero {x:Int->Int}(ins:Ins pts ps)(h:∀ p∈pts,x p=0):qf pts ps x=0:=by
 unfold qf;rw[Zfl λp hp=>by rw[h p hp];rfl,Zfl λe he=>by rw[h _ (ins e he).1];exact Jdt _];rfl
theorem DPos.nn {x:Int->Int}(d:DPos pts ps)(ins:Ins pts ps):0<=qf pts ps x:=by
 by_cases h:∃ p∈pts,x p≠0
 .exact Int.le_of_lt (d x h)
 .rw [q_zero ins λp hp=>Jas λz=>h ⟨p,hp,z⟩];exact Jd8 _
structure Rt (pts:List Int)(ps:List Ed)(x:Int->Int):Prop where
 nn:∀ p∈pts,0<=x p
 one:qf pts ps x=1
end
end L3
set_option maxRecDepth 10000
namespace L3
def pN (n:Nat):List Int:=(List.range n).map λj=>((j:Nat):Int)
theorem Zkc {n:Nat}{x:Int}:x∈pN n ↔ 0<=x/\x<n:=by
 unfold pN;rw[Jan];constructor
 .rintro ⟨j,hj,rfl⟩;have:=Jbz.mp hj;omega
 .intro ⟨h0,h1⟩;exact⟨x.toNat,Jbz.mpr ∅,∅⟩
def aE:List Ed:=[(0,1),(1,2),(2,3),(3,4),(4,5),(5,6),(6,7)]
def dE:List Ed:=[(0,1),(0,2),(0,3),(3,4),(4,5),(5,6),(6,7)]
def eE:List Ed:=[(0,1),(0,2),(2,3),(0,4),(4,5),(5,6),(6,7)]
theorem Zig {x:Int}(h:x*x=0):x=0:=by
 rcases Int.mul_eq_zero.mp h with h|h <;> exact h
theorem Zlo {X:Int->Int}{p:Int}(hp:p∈pN 8)(h0:X 0=0)(h1:X 1=0)(h2:X 2=0)(h3:X 3=0)(h4:X 4=0)(h5:X 5=0)(h6:X 6=0)(h7:X 7=0):X p=0:=by
 have:=Zkc.mp hp;have:p=0\/p=1\/p=2\/p=3\/p=4\/p=5\/p=6\/p=7:=∅
 rcases this with rfl|rfl|rfl|rfl|rfl|rfl|rfl|rfl <;> assumption
theorem q8 {es:List Ed}{X:Int->Int}:qf (pN 8) es X=(X 0*X 0+(X 1*X 1+(X 2*X 2+(X 3*X 3+(X 4*X 4+(X 5*X 5+(X 6*X 6+(X 7*X 7+0))))))))-sI (λe=>X e.1*X e.2) es:=rfl
theorem pos_a:DPos (pN 8) aE:=by
 rintro X ⟨p,hp,hx⟩;refine Jas λc=>hx ?_;have e:=q8 (es:=aE) (X:=X);rw[show sI (λe=>X e.1*X e.2) aE=X 0*X 1+(X 1*X 2+(X 2*X 3+(X 3*X 4+(X 4*X 5+(X 5*X 6+(X 6*X 7+0)))))) from rfl] at e;have id:2*qf (pN 8) aE X=X 0*X 0+(X 0-X 1)*(X 0-X 1)+(X 1-X 2)*(X 1-X 2)+(X 2-X 3)*(X 2-X 3)+(X 3-X 4)*(X 3-X 4)+(X 4-X 5)*(X 4-X 5)+(X 5-X 6)*(X 5-X 6)+(X 6-X 7)*(X 6-X 7)+X 7*X 7:=by rw[e];grind
 have n0:=Zb4 (X 0);have n1:=Zb4 (X 0-X 1);have n2:=Zb4 (X 1-X 2);have n3:=Zb4 (X 2-X 3);have n4:=Zb4 (X 3-X 4);have n5:=Zb4 (X 4-X 5);have n6:=Zb4 (X 5-X 6);have n7:=Zb4 (X 6-X 7);have n8:=Zb4 (X 7);have z0:=Zig (x:=X 0) ∅;have z1:=Zig (x:=X 0-X 1) ∅;have z2:=Zig (x:=X 1-X 2) ∅;have z3:=Zig (x:=X 2-X 3) ∅;have z4:=Zig (x:=X 3-X 4) ∅;have z5:=Zig (x:=X 4-X 5) ∅;have z6:=Zig (x:=X 5-X 6) ∅;have z7:=Zig (x:=X 6-X 7) ∅;exact Zlo hp z0 ∅ ∅ ∅ ∅ ∅ ∅ ∅
theorem pos_d:DPos (pN 8) dE:=by
 rintro X ⟨p,hp,hx⟩;refine Jas λc=>hx ?_;have e:=q8 (es:=dE) (X:=X);rw[show sI (λe=>X e.1*X e.2) dE=X 0*X 1+(X 0*X 2+(X 0*X 3+(X 3*X 4+(X 4*X 5+(X 5*X 6+(X 6*X 7+0)))))) from rfl] at e;have id:4*qf (pN 8) dE X=(2*X 1-X 0)*(2*X 1-X 0)+(2*X 2-X 0)*(2*X 2-X 0)+2*((X 0-X 3)*(X 0-X 3))+2*((X 3-X 4)*(X 3-X 4))+2*((X 4-X 5)*(X 4-X 5))+2*((X 5-X 6)*(X 5-X 6))+2*((X 6-X 7)*(X 6-X 7))+2*(X 7*X 7):=by rw[e];grind
 have n0:=Zb4 (X 7);have n1:=Zb4 (2*X 1-X 0);have n2:=Zb4 (2*X 2-X 0);have n3:=Zb4 (X 0-X 3);have n4:=Zb4 (X 3-X 4);have n5:=Zb4 (X 4-X 5);have n6:=Zb4 (X 5-X 6);have n7:=Zb4 (X 6-X 7);have z0:=Zig (x:=X 7) ∅;have z1:=Zig (x:=2*X 1-X 0) ∅;have z2:=Zig (x:=2*X 2-X 0) ∅;have z3:=Zig (x:=X 0-X 3) ∅;have z4:=Zig (x:=X 3-X 4) ∅;have z5:=Zig (x:=X 4-X 5) ∅;have z6:=Zig (x:=X 5-X 6) ∅;have z7:=Zig (x:=X 6-X 7) ∅;exact Zlo hp ∅ ∅ ∅ ∅ ∅ ∅ ∅ ∅
theorem pos_e:DPos (pN 8) eE:=by
 rintro X ⟨p,hp,hx⟩;refine Jas λc=>hx ?_;have e:=q8 (es:=eE) (X:=X);rw[show sI (λe=>X e.1*X e.2) eE=X 0*X 1+(X 0*X 2+(X 2*X 3+(X 0*X 4+(X 4*X 5+(X 5*X 6+(X 6*X 7+0)))))) from rfl] at e;have id:120*qf (pN 8) eE X=2*(X 0*X 0)+30*((2*X 1-X 0)*(2*X 1-X 0))+30*((2*X 3-X 2)*(2*X 3-X 2))+10*((3*X 2-2*X 0)*(3*X 2-2*X 0))+30*((2*X 7-X 6)*(2*X 7-X 6))+10*((3*X 6-2*X 5)*(3*X 6-2*X 5))+5*((4*X 5-3*X 4)*(4*X 5-3*X 4))+3*((5*X 4-4*X 0)*(5*X 4-4*X 0)):=by rw[e];grind
 have n0:=Zb4 (X 0);have n1:=Zb4 (2*X 1-X 0);have n2:=Zb4 (2*X 3-X 2);have n3:=Zb4 (3*X 2-2*X 0);have n4:=Zb4 (2*X 7-X 6);have n5:=Zb4 (3*X 6-2*X 5);have n6:=Zb4 (4*X 5-3*X 4);have n7:=Zb4 (5*X 4-4*X 0);have z0:=Zig (x:=X 0) ∅;have z1:=Zig (x:=2*X 1-X 0) ∅;have z2:=Zig (x:=2*X 3-X 2) ∅;have z3:=Zig (x:=3*X 2-2*X 0) ∅;have z4:=Zig (x:=2*X 7-X 6) ∅;have z5:=Zig (x:=3*X 6-2*X 5) ∅;have z6:=Zig (x:=4*X 5-3*X 4) ∅;have z7:=Zig (x:=5*X 4-4*X 0) ∅;exact Zlo hp z0 ∅ ∅ ∅ ∅ ∅ ∅ ∅
theorem Zxg (n m:Nat):pN (n+m)=pN n++(List.range m).map λj=>((n+j:Nat):Int):=by
 unfold pN;rw[List.range_add,Jaw,Jcn];rfl
def bel (n:Nat)(X:Int->Int)(r:Int):Int:=if r<(n:Int) then X r else 0
theorem Znv {es rest:List Ed}{n m:Nat}(h:DPos (pN (n+m)) (es++rest))(hr:∀ e∈rest,(n:Int)<=e.2)(ins:Ins (pN n) es):DPos (pN n) es:=by
 rintro X ⟨p,hp,hx⟩;have key:∀ r∈pN n,bel n X r=X r:=λr hr=>if_pos (Zkc.mp hr).2;have out:∀ r,(n:Int)<=r->bel n X r=0:=λr hr=>if_neg ∅;have:=h (bel n X) ⟨p,by rw[Zxg];exact Jcz _ hp,by rw[key p hp];exact hx⟩;have e:qf (pN (n+m)) (es++rest) (bel n X)=qf (pN n) es X:=by
  unfold qf;rw[Zxg,Zjc,Zjc];rw[Zfl (l:=(List.range m).map λj=>((n+j:Nat):Int)) λr hr=>by
   obtain⟨j,_,rfl⟩:=Jan.mp hr;rw[out _ ∅];rfl]
  rw[Zfl (l:=rest) λe he=>by rw[out _ (hr e he)];exact Je2 _];rw[Zbt (h:=λp=>X p*X p) λr hr=>by rw[key r hr],Zbt (l:=es) (h:=λe=>X e.1*X e.2) λe he=>by rw[key _ (ins e he).1,key _ (ins e he).2]];omega
 rw[e] at this;exact this
theorem Zpb {pts:List Int}{es es':List Ed}(s:es.Sublist es')(h:DPos pts es'):DPos pts es:=by
 rintro X ⟨p,hp,hx⟩;have:=h (λr=>((X r).natAbs:Int)) ⟨p,hp,∅⟩;have e1:sI (λp=>((X p).natAbs:Int)*((X p).natAbs:Int)) pts=sI (λp=>X p*X p) pts:=Zbt λr _=>Int.natAbs_mul_self' ..;have e2:sI (λe:Ed=>((X e.1).natAbs:Int)*((X e.2).natAbs:Int)) es<=sI (λe:Ed=>((X e.1).natAbs:Int)*((X e.2).natAbs:Int)) es':=Zj7 s λe _=>Jcq (Int.natCast_nonneg _) (Int.natCast_nonneg _);have e3:sI (λe:Ed=>X e.1*X e.2) es<=sI (λe:Ed=>((X e.1).natAbs:Int)*((X e.2).natAbs:Int)) es:=Zu1 λe _=>by
  rw[<- Int.natCast_mul,<- Int.natAbs_mul];exact Int.le_natAbs
 unfold qf at *;dsimp only at this;omega
def gt (ys:List Int)(i:Int):Int:=ys.getD i.toNat 0
theorem Ztn {n:Nat}{es rs:List Ed}{ys:List Int}(hy:ys.Perm (pN n))(h:∀ X:Int->Int,sI (λe=>X e.1*X e.2) rs=sI (λe=>X (gt ys e.1)*X (gt ys e.2)) es)(d:DPos (pN n) es):DPos (pN n) rs:=by
 have hl:ys.length=n:=by rw[hy.length_eq];unfold pN;simp
 have em:(pN n).map (gt ys)=ys:=by
  refine List.ext_getElem (by unfold pN;simp[hl]) λi h1 h2=>?_;unfold pN gt;simp[h2]
 rintro X ⟨p,hp,hx⟩;obtain⟨i,hi,rfl⟩:=List.getElem_of_mem (hy.mem_iff.mpr hp);have gi:gt ys (i:Nat)=ys[i]:=by unfold gt;simp[hi]
 have:=d (λr=>X (gt ys r)) ⟨(i:Nat),Zkc.mpr ⟨∅,∅⟩,by rw[gi];exact hx⟩;have e1:sI (λp=>X p*X p) (pN n)=sI (λr=>X (gt ys r)*X (gt ys r)) (pN n):=by
  rw[<- Zk0 (g:=λp=>X p*X p) hy]
  conv=>lhs;rw[<- em]
  rw[Zol]
 unfold qf at *;rw[h X,e1];exact this
end L3
namespace L3
def okB (E8:List Ed)(n:Nat):Bool:=(E8.drop (n-1)).all (λe=>decide ((n:Int)<=e.2)) && (E8.take (n-1)).all λe=>decide (0<=e.1) && decide (e.1<(n:Int)) && decide (0<=e.2) && decide (e.2<(n:Int))
theorem Zss {E8:List Ed}{n:Nat}(h:okB E8 n=true):∀ e∈E8.take (n-1),0<=e.1/\e.1<(n:Int)/\0<=e.2/\e.2<(n:Int):=λe he=>by
 unfold okB at h;rw[Jb5,Jbn,Jbn] at h;have:=h.2 e he;simp at this;omega
theorem bsD {E8:List Ed}(d:DPos (pN 8) E8){n:Nat}(n8:n<=8)(h:okB E8 n=true):DPos (pN n) (E8.take (n-1)):=by
 have h':=h;unfold okB at h';rw[Jb5,Jbn,Jbn] at h';refine Znv (m:=8-n) (rest:=E8.drop (n-1)) ?_ (λe he=>Jaq (h'.1 e he)) λe he=>?_
 .rw [Jej,show n+(8-n)=8 by omega];exact d
 .have:=Zss h e he;exact⟨Zkc.mpr ⟨this.1,this.2.1⟩,Zkc.mpr this.2.2⟩
theorem to8 {P:Nat->Prop}{n:Nat}(h1:1<=n)(h8:n<=8)(p1:P 1)(p2:P 2)(p3:P 3)(p4:P 4)(p5:P 5)(p6:P 6)(p7:P 7)(p8:P 8):P n:=by
 have:n=1\/n=2\/n=3\/n=4\/n=5\/n=6\/n=7\/n=8:=∅
 rcases this with rfl|rfl|rfl|rfl|rfl|rfl|rfl|rfl <;> assumption
theorem okA {n:Nat}(h1:1<=n)(h8:n<=8):okB aE n=true:=to8 (P:=λn=>okB aE n=true) h1 h8 ⇑0 ⇑0 ⇑0 ⇑0 ⇑0 ⇑0 ⇑0 ⇑0
theorem okD {n:Nat}(h1:4<=n)(h8:n<=8):okB dE n=true:=by
 have:n=4\/n=5\/n=6\/n=7\/n=8:=∅
 rcases this with rfl|rfl|rfl|rfl|rfl <;> decide
theorem okE {n:Nat}(h1:6<=n)(h8:n<=8):okB eE n=true:=by
 have:n=6\/n=7\/n=8:=∅
 rcases this with rfl|rfl|rfl <;> decide
theorem perm_pN {n:Nat}{ys:List Int}(nd:ys.Nodup)(hl:ys.length=n)(h:∀ y∈ys,0<=y/\y<(n:Int)):ys.Perm (pN n):=by
 have ndp:(pN n).Nodup:=by
  unfold pN;refine Jfi.mpr (List.nodup_range.imp λne e=>ne ∅)
 have sub:∀ y∈ys,y∈pN n:=λy hy=>Zkc.mpr (h y hy);have sup:∀ y∈pN n,y∈ys:=λy hy=>Jas λz=>by
  have:(y::ys).length<=(pN n).length:=(Jbx.mpr ⟨z,nd⟩).length_le_of_subset λa ha=>by
   rcases Jax.mp ha with rfl|ha
   .exact hy
   .exact sub a ha
  rw[Jbq,hl] at this;unfold pN at this;simp at this;omega
 exact (List.perm_ext_iff_of_nodup nd ndp).mpr λa=>⟨sub a,sup a⟩
end L3
namespace L2
open PySem PySem.Spec PyProof.Rows
section
variable {X:Cx}{o e:Expr}{es:List Expr}{to:TE}{t:TA}{name:Str}{apos cpos:Pos}{T id:String}{r:V->List V->Hp->VK->Prop}
theorem pe_bmK (K:Frag)(hK:X.K=K)(pa:PlainAttrs T)(slot:Slot T name id)(hty:typeOf (.builtin id)=pure (.type "method_descriptor"))(hm:MtR X id r)(ho:PE X o to)(ha:PA X (e::es) t)(hbase:attributeBase o name X.env (eval o X.env)=eval o X.env:=by rfl)(hfew:((backTo cpos (starEach (e::es) X.env)).all (λx=>!x.1) && (backToKw cpos (keywordEach [] X.env)).all (λx=>x.1.isSome)
   && decide ((e::es).length+([]:List Keyword).length+(if ([]:List Keyword).isEmpty then 0 else 1)<30))=true:=by rfl)(hline:(apos.endLine == cpos.line)=true:=by rfl)(hs:starEach (e::es) X.env=(false,eval e X.env)::starEach es X.env:=by rfl)(hplain:(backTo cpos (starEach es X.env)).any (·.1)=false:=by rfl):
  PE X (.Call (.Attribute o name apos) (e::es) [] cpos) (tBM K T r to t):=by
 subst hK;exact Zfp pa slot hty hm ho ha hbase hfew hline hs hplain
end
end L2
namespace L2
open PySem PySem.Spec PyProof.Rows
abbrev two (elt t1 i1 t2 i2:Expr)(scope:Scope)(pos:Pos):Expr:=.ListComp elt [⟨t1,i1,[],0⟩,⟨t2,i2,[],0⟩] scope pos
section
variable {prog:Program}{w:World}{A:Around}{R:Result->Shared->Prop}{s:Shared}{elt t1 i1 t2 i2:Expr}{scope:Scope}{pos:Pos}{it acc:Value}{env:Env}
theorem Zq3 (h0:codeAny (model prog w) A (.compLoop (two elt t1 i1 t2 i2 scope pos) 1 it acc env) R s)(h:wpAny (model prog w) A (pyIter it) (λit' s'=>codeAny (model prog w) A (.compLoop (two elt t1 i1 t2 i2 scope pos) 1 it' acc env) R s') (notedBy (model prog w) A env λx s'=>R (.error x) s') s):
  codeAny (model prog w) A (.compStart (two elt t1 i1 t2 i2 scope pos) 1 it acc env) R s:=by
 refine codeAny_of_tree ?_;refine wpAny_notedAt ?_;unfold compStart;refine Jac (wpAny_askSetting (wpAny_ite ?_));split
 .exact Jac (Jal (Jal ⟨rfl,h0⟩))
 .refine Jac (Jfr (Jac (Jcd (Jac ?_))));exact Jbg h (λit' s' h'=>Jal ⟨rfl,h'⟩) λx x_1 x_2=>x_2
theorem Zqu:compTurn (two elt t1 i1 t2 i2 scope pos) 1 it acc env=(do
  standAt i2.pos
  let r <- pyNext it
  match r with
  | none=>pure (Fin.done Flow.next)
  | some v=>do
   letOwnedTupleGo t2 it v
   assign t2 env v
   ((eval elt env >>= λx=>call (.builtin "list.append") [acc,x] >>= λ_=>(pure ():Sem Unit)) >>= λ_=>again (.compLoop (two elt t1 i1 t2 i2 scope pos) 1 it acc env))):=by
 rfl
theorem Zqv:compTurn (two elt t1 i1 t2 i2 scope pos) 0 it acc env=(do
  standAt i1.pos
  let r <- pyNext it
  match r with
  | none=>pure (Fin.done Flow.next)
  | some v=>do
   letOwnedTupleGo t1 it v
   assign t1 env v
   let x <- eval i2 env
   standAt i2.pos
   let x <- foldedSetIterable i2 env x
   let j <- holding [x] (pyIter x)
   let _ <- runOwn (.compStart (two elt t1 i1 t2 i2 scope pos) 1 j acc env) env
   again (.compLoop (two elt t1 i1 t2 i2 scope pos) 0 it acc env)):=by
 rfl
theorem Zsz (I:Nat->Shared->Prop)(turn:∀ n s,I n s->wpAny (model prog w) A (pyNext it) (λr s₁=>match r with
   | none=>R (.ok .next) s₁
   | some v=>wpAny (model prog w) A (letOwnedTupleGo t2 it v) (λ_ s₁'=>wpAny (model prog w) A (assign t2 env v) (λ_ s₂=>wpAny (model prog w) A (eval elt env) (λx s₄=>wpAny (model prog w) A (call (.builtin "list.append") [acc,x]) (λ_ s₅=>∃ m,m<n/\I m s₅) (λ_ _=>False) s₄) (λ_ _=>False) s₂) (λ_ _=>False) s₁') (λ_ _=>False) s₁) (λ_ _=>False) s)(n:Nat)(h:I n s):codeAny (model prog w) A (.compLoop (two elt t1 i1 t2 i2 scope pos) 1 it acc env) R s:=by
 refine codeAny_loop rfl I (λn s hI=>?_) n h;show wpAny _ A ((compTurn (two elt t1 i1 t2 i2 scope pos) 1 it acc env).onRaise (λx=>do noteFrame x env;theTreesLotGoes x)) _ _ s;refine wpAny_noted ?_;rw[Zqu];refine Jac (Jcd (Jac (Jbg (turn n s hI) (λr s₁ h₁=>?_) λ_ _ h'=>h'.elim)));cases r with
 | none=>exact Jal h₁
 | some v=>
  refine Jac (Jbg h₁ (λ_ s₁' h₁'=>?_) λ_ _ h'=>h'.elim);refine Jac (Jbg h₁' (λ_ s₂ h₂=>?_) λ_ _ h'=>h'.elim);exact Jac (Jac (Jbg h₂ (λx s₄ h₄=>Jac (Jbg h₄ (λ_ s₅ h₅=>Jal (Jal ⟨rfl,h₅⟩)) λ_ _ h'=>h'.elim)) λ_ _ h'=>h'.elim))
theorem Zs0 (hs:∀ x,foldedSetIterable i2 env x=pure x)(I:Nat->Shared->Prop)(turn:∀ n s,I n s->wpAny (model prog w) A (pyNext it) (λr s₁=>match r with
   | none=>R (.ok .next) s₁
   | some v=>wpAny (model prog w) A (letOwnedTupleGo t1 it v) (λ_ s₁'=>wpAny (model prog w) A (assign t1 env v) (λ_ s₂=>wpAny (model prog w) A (eval i2 env) (λx s₄=>wpAny (model prog w) A (pyIter x) (λj s₅=>codeAny (model prog w) A (.compStart (two elt t1 i1 t2 i2 scope pos) 1 j acc env) (λr s₆=>r=.ok .next/\∃ m,m<n/\I m s₆) s₅) (λ_ _=>False) s₄) (λ_ _=>False) s₂) (λ_ _=>False) s₁') (λ_ _=>False) s₁) (λ_ _=>False) s)(n:Nat)(h:I n s):codeAny (model prog w) A (.compLoop (two elt t1 i1 t2 i2 scope pos) 0 it acc env) R s:=by
 refine codeAny_loop rfl I (λn s hI=>?_) n h;show wpAny _ A ((compTurn (two elt t1 i1 t2 i2 scope pos) 0 it acc env).onRaise (λx=>do noteFrame x env;theTreesLotGoes x)) _ _ s;refine wpAny_noted ?_;rw[Zqv];refine Jac (Jcd (Jac (Jbg (turn n s hI) (λr s₁ h₁=>?_) λ_ _ h'=>h'.elim)));cases r with
 | none=>exact Jal h₁
 | some v=>
  refine Jac (Jbg h₁ (λ_ s₁' h₁'=>?_) λ_ _ h'=>h'.elim);refine Jac (Jbg h₁' (λ_ s₂ h₂=>?_) λ_ _ h'=>h'.elim);refine Jac (Jbg h₂ (λx s₄ h₄=>?_) λ_ _ h'=>h'.elim);refine Jac (Jcd (Jac (wpAny_of_eq (hs x) ?_)));refine Jac (Jca (Jbg h₄ (λj s₅ h₅=>?_) λ_ _ h'=>h'.elim));refine Jac (wpAny_runOwn (Jeh h₅ λr s₆ h₆=>?_));obtain⟨rfl,h6⟩:=h₆;exact Jal ⟨rfl,h6⟩
end
def Zm9 (g:TG)(wi2:TI)(g2:TG)(te:TE)(J:It)(D:Addr)(σ0:St)(H1:Hp)(Q:VK):Prop:=
 ∃ W:Nat->Nat->St->Hp->Prop,(∃ m,W 0 m σ0 (upd H1 D (.lst [])))/\∀ i m σ' H2,W i m σ' H2->
  (J.stop i H2/\Q (.ref D) H2)\/(J.go i H2/\∀ x H3,J.yld i H2 x H3->g x σ' H3 λσ4 H4=>wi2 σ4 H4 λJ2 H5=>
   ∃ W2:Nat->Nat->St->Hp->Prop,(∃ m2,W2 0 m2 σ4 H5)/\∀ j m2 σ5 H6,W2 j m2 σ5 H6->
    (J2.stop j H6/\∃ m',m'<m/\W (i+1) m' σ5 H6)\/(J2.go j H6/\∀ y H7,J2.yld j H6 y H7->g2 y σ5 H7 λσ8 H8=>te σ8 H8 λz H9=>
     ∃ vs,H9 D=some (.lst vs)/\vs.length<sizeLine/\∃ m2',m2'<m2/\W2 (j+1) m2' σ8 (upd H9 D (.lst (vs++[z])))))
def tComp2 (k:Nat)(fr:List (Str×Nat))(wi:TI)(g:TG)(wi2:TI)(g2:TG)(te:TE):TE:=λσ H Q=>wi σ H λJ H1=>∀ D,H1 D=none->Zm9 g wi2 g2 te J D (Ze9 k fr σ) H1 Q
section
variable {X:Cx}{tg iter t2 i2 elt:Expr}{scope:Scope}{pos:Pos}{own:List Str}{fr:List (Str×Nat)}{wi wi2:TI}{g g2:TG}{te:TE}
theorem Zt1 {pins:List (Addr×Obj)}{s2:Shared}{σ:St}{H2:Hp}{it:Addr}{fp:List Addr}{tn:Nat->Heap->Prop}{J:It}{Q:VK}{cl:List (Str×Addr)}{RR:Value->Addr->Result->Shared->Prop}{E:Value->Shared->Prop}(hc:X.calm=true)(B:BlScope X scope own fr)(hs:∀ env x,foldedSetIterable i2 env x=pure x)(hb:∀ cl s H fp,PG (Zcm X (Zcj own fr) scope cl s H fp) tg g/\PI (Zcm X (Zcj own fr) scope cl s H fp) t2 i2 wi2/\PG (Zcm X (Zcj own fr) scope cl s H fp) t2 g2/\PE (Zcm X (Zcj own fr) scope cl s H fp) elt te)(hcl:∀ x c,cl.lookup x=some c->X.env.cells.lookup x=some c)(hcl2:∀ y∈scope.names,y.2=.free->∃ c,cl.lookup y.1=some c)(I2:Inv X pins σ H2 s2)(T:Turn X.prog X.w X.K tg J fp it tn)(st2:tn 0 s2.heap)(f2:∀ b∈fp,Zlp X pins H2 b)(q:∀ D,H2 D=none->Zm9 g wi2 g2 te J D (Ze9 own.length fr σ) H2 Q)(hRR:∀ D C s' H',Inv X pins σ H' s'->Q (.ref D) H'->(∃ m,s'.heap.Ns C m)->C≠X.env.locals->(∀ x c,X.env.cells.lookup x=some c->c≠C)->(∀ p∈X.pn++pins,p.1≠C)->X.s₀.heap.objs.size<=C->H' C=none->RR (.ref D) C (.ok .next) s'):
  wpAny (model X.prog X.w) X.A (newList []) (λacc s₃=>wpAny (model X.prog X.w) X.A (newFunctionEnv scope X.env.globals cl [] X.env.qual none .none (some X.env)) (λcenv s₄=>
   codeAny (model X.prog X.w) X.A (.compStart (two elt tg iter t2 i2 scope pos) 0 (.ref it) acc { cenv with scope:=relabel scope X.env }) (RR acc cenv.locals) s₄) E s₃) E s2:=by
 refine Jcb ?_;have fr0:H2 s2.heap.objs.size=none:=I2.hok.fresh (Jaf _);have I3:=I2.lnew (its:=[]) (ys:=[]) (t':=s2.toks) .nil (Jbm _);generalize hs3:({ s2 with heap:=s2.heap.push { cls:=.type "list",data:=.seq ([]:List Value).toArray } }:Shared)=s3 at *;have k23:∀ b o,s2.heap.get? b=some o->s3.heap.get? b=some o:=λb o e=>by rw[<- hs3];exact Jad _ e
 have sz3:s3.heap.objs.size=s2.heap.objs.size+1:=by rw[<- hs3];exact Jcg ..
 have I3':Inv X pins σ (upd H2 s2.heap.objs.size (.lst [])) s3:=I3;have fne:∀ b∈fp,b≠s2.heap.objs.size:=λb hb z=>by
  refine Zah (T.obj 0 _ st2 b hb) λo ho _=>?_;exact absurd (Jae ho) (by rw[z];exact Jbv _)
 have f3:∀ b∈fp,Zlp X pins (upd H2 s2.heap.objs.size (.lst [])) b:=λb hb=>⟨by rw[Zag (fne b hb)];exact (f2 b hb).1,(f2 b hb).2⟩
 have st3:tn 0 s3.heap:=T.keep 0 _ _ st2 λb _ o e=>k23 b o e;have hfo:∀ b∈fp,∃ o,s3.heap.get? b=some o:=λb hb=>let ⟨o,ho,_⟩:=T.obj 0 _ st3 b hb;⟨o,ho⟩;refine Zfq λh' hn hk hce=>?_;have I4:=Zjl (own:=own) I3' B hcl hcl2 f3 hfo hn hk hce;refine Zbx (hb cl s3 (upd H2 s2.heap.objs.size (.lst [])) fp) λhg hi2 hg2 he=>?_;have st4:tn 0 h':=T.keep 0 _ _ st3 λb _ o e=>hk b o e;have stat:∀ {H':Hp},(∀ b∈fp,H' b=none)->∀ b∈fp,Zlp (Zcm X (Zcj own fr) scope cl s3 (upd H2 s2.heap.objs.size (.lst [])) fp) [] H' b:=λ{H'} hnn b hb=>
  ⟨hnn b hb,(I4.ok.exf b hb).1,I4.ok.exfs b hb,.inl hb,(I4.ok.exf b hb).2,λp hp=>absurd (show p∈([]:List (Addr×Obj)) from hp) (by simp)⟩
 refine Zah (q s2.heap.objs.size fr0) λW e93 turn=>?_;obtain⟨m0,w0⟩:=e93;have loop:codeAny (model X.prog X.w) X.A (.compLoop (two elt tg iter t2 i2 scope pos) 0 (.ref it) (.ref s2.heap.objs.size) (Zcm X (Zcj own fr) scope cl s3 (upd H2 s2.heap.objs.size (.lst [])) fp).env)
   (RR (.ref s2.heap.objs.size) s3.heap.objs.size) { s3 with heap:=h' }:=by
  refine Zs0 (λx=>hs _ x) (λn s'=>∃ i σ' H',Inv (Zcm X (Zcj own fr) scope cl s3 (upd H2 s2.heap.objs.size (.lst [])) fp) [] σ' H' s'/\tn i s'.heap/\(∀ b∈fp,H' b=none)/\W i n σ' H') ?_ m0
   ⟨0,_,_,I4,st4,λb hb=>(f3 b hb).1,w0⟩
  intro n s5 e91;refine Zb3 e91 λi σ5 H5 I5 st5 fr5 w5=>?_;clear e91;rcases turn i n σ5 H5 w5 with ⟨stop,qn⟩|⟨go,step⟩
  .refine thn (T.done (Zcm X (Zcj own fr) scope cl s3 (upd H2 s2.heap.objs.size (.lst [])) fp) rfl rfl rfl hc i [] s5 σ5 H5 _ I5 (stat fr5) st5 stop) λr s6 ⟨hr,I6⟩=>?_;subst hr;have I7:Inv X pins σ H5 s6:=I3'.call' (ch:=fp) I6.os I6.base I6.hok I6.bare λb hb=>⟨(f3 b hb).2.2.2.1,(f3 b hb).2.1,(f3 b hb).2.2.2.2.1,(f3 b hb).2.2.2.2.2⟩
   refine Zah I6.loc λm6 hn6 _=>?_;refine hRR _ _ s6 H5 I7 qn ⟨m6,hn6⟩ (Jcx I3'.lt) (λx c e=>?_) (λp hp=>?_) I3'.sz I6.free
   .obtain ⟨v,z⟩:=I3'.cell x c e;exact Ja1 z.lt
   .exact Ja1 (Jae (I3'.pin p hp).1)
  .refine thn (T.item (Zcm X (Zcj own fr) scope cl s3 (upd H2 s2.heap.objs.size (.lst [])) fp) rfl rfl rfl hc i [] s5 σ5 H5 _ I5 (stat fr5) st5 go) λr s6 ⟨u,hr,h6⟩=>?_;subst hr;refine thn h6 λ_ s7 ⟨x,H7,I7,r7,y7,st7,fr7⟩=>?_;have I7':=I7.pinned (stat fr7) (T.obj _ _ st7);refine thn (hg _ s7 σ5 H7 x u _ I7' r7 (step x H7 y7)) λ_ s8 ⟨σ8,H8,I8,q8⟩=>?_;have again:∀ {sA:Shared} {σA:St} {HA:Hp} {m':Nat},Inv (Zcm X (Zcj own fr) scope cl s3 (upd H2 s2.heap.objs.size (.lst [])) fp) ([]++Zg3 fp s7.heap) σA HA sA->m'<n->W (i+1) m' σA HA->
     ∃ m,m<n/\∃ i σ' H',Inv (Zcm X (Zcj own fr) scope cl s3 (upd H2 s2.heap.objs.size (.lst [])) fp) [] σ' H' sA/\tn i sA.heap/\(∀ b∈fp,H' b=none)/\W i m σ' H':=λ{sA σA HA m'} IA hm wA=>by
    refine⟨m',hm,i+1,σA,HA,IA.unpinned,T.keep _ _ _ st7 λb hb o e=>(IA.pin (b,o) (Jap _ (Jap _ (Zbw hb e)))).1,λb hb=>?_,wA⟩;refine Zah (T.obj _ _ st7 b hb) λo e d=>?_;exact (IA.pin (b,o) (Jap _ (Jap _ (Zbw hb e)))).2.1
   refine thn (hi2 _ s8 σ8 H8 _ I8 q8) λv s9 h9=>thn h9 λitv s10 h10=>?_;refine Zcx h10 λit2 fp2 tn2 J2 H10 e I10 T2 e94=>?_;clear h10;refine Zar e94 λst10 f10 e95=>?_;clear e94;obtain⟨W2,⟨m2,w2⟩,turn2⟩:=e95;subst e;have stat2:∀ {H':Hp},(∀ b∈fp2,H' b=none)->∀ b∈fp2,Zlp (Zcm X (Zcj own fr) scope cl s3 (upd H2 s2.heap.objs.size (.lst [])) fp) ([]++Zg3 fp s7.heap) H' b:=λhn b hb=>⟨hn b hb,(f10 b hb).2⟩
   have loop2:codeAny (model X.prog X.w) X.A (.compLoop (two elt tg iter t2 i2 scope pos) 1 (.ref it2) (.ref s2.heap.objs.size) (Zcm X (Zcj own fr) scope cl s3 (upd H2 s2.heap.objs.size (.lst [])) fp).env)
     (λr s₆=>r=.ok .next/\∃ m,m<n/\∃ i σ' H',Inv (Zcm X (Zcj own fr) scope cl s3 (upd H2 s2.heap.objs.size (.lst [])) fp) [] σ' H' s₆/\tn i s₆.heap/\(∀ b∈fp,H' b=none)/\W i m σ' H') s10:=by
    refine Zsz (λn2 s'=>∃ j σ' H',Inv (Zcm X (Zcj own fr) scope cl s3 (upd H2 s2.heap.objs.size (.lst [])) fp) ([]++Zg3 fp s7.heap) σ' H' s'/\tn2 j s'.heap/\(∀ b∈fp2,H' b=none)/\W2 j n2 σ' H') ?_ m2 ⟨0,σ8,H10,I10,st10,λb hb=>(f10 b hb).1,w2⟩;intro n2 s11 e92;refine Zb3 e92 λj σ11 H11 I11 st11 fr11 w11=>?_;clear e92;rcases turn2 j n2 σ11 H11 w11 with ⟨stop,m',hm,wn⟩|⟨go,step2⟩
    .refine thn (T2.done (Zcm X (Zcj own fr) scope cl s3 (upd H2 s2.heap.objs.size (.lst [])) fp) rfl rfl rfl hc j _ s11 σ11 H11 _ I11 (stat2 fr11) st11 stop) λr s12 ⟨hr,I12⟩=>?_;subst hr;exact⟨rfl,again I12 hm wn⟩
    .refine thn (T2.item (Zcm X (Zcj own fr) scope cl s3 (upd H2 s2.heap.objs.size (.lst [])) fp) rfl rfl rfl hc j _ s11 σ11 H11 _ I11 (stat2 fr11) st11 go) λr s12 ⟨u2,hr,h12⟩=>?_;subst hr;refine thn h12 λ_ s13 ⟨y,H13,I13,r13,y13,st13,fr13⟩=>?_;have I13':=I13.pinned (stat2 fr13) (T2.obj _ _ st13);refine thn (hg2 _ s13 σ11 H13 y u2 _ I13' r13 (step2 y H13 y13)) λ_ s14 ⟨σ14,H14,I14,q14⟩=>?_;refine thn (he _ s14 σ14 H14 _ I14 q14) λz s15 ⟨vz,H15,I15,r15,vs,hvs,hlen,m2',hm2,w15⟩=>?_;refine thn (Zb5 (X:=Zcm X (Zcj own fr) scope cl s3 (upd H2 s2.heap.objs.size (.lst [])) fp) _ s15 σ14 H15 (.ref s2.heap.objs.size) [vz] (.ref s2.heap.objs.size) [z] (λ_ HB=>W2 (j+1) m2' σ14 HB) I15 rfl (.cons r15 .nil) ⟨_,vs,vz,rfl,rfl,hvs,hlen,w15⟩) λ_ s16 ⟨_,H16,I16,_,w16⟩=>?_;refine⟨m2',hm2,j+1,σ14,H16,I16.unpinned,T2.keep _ _ _ st13 λb hb o e=>(I16.pin (b,o) (Jap _ (Jap _ (Zbw hb e)))).1,λb hb=>?_,w16⟩;refine Zah (T2.obj _ _ st13 b hb) λo e d=>?_;exact (I16.pin (b,o) (Jap _ (Jap _ (Zbw hb e)))).2.1
   exact Zq3 loop2 (T2.self _ 0 _ _ _ st10 loop2)
 exact codeAny_compStart_list loop (T.self _ 0 _ _ _ st4 loop)
theorem Zve (hc:X.calm=true)(B:BlScope X scope own fr)(hi:PI X tg iter wi)(hb:∀ cl s H fp,PG (Zcm X (Zcj own fr) scope cl s H fp) tg g/\PI (Zcm X (Zcj own fr) scope cl s H fp) t2 i2 wi2/\PG (Zcm X (Zcj own fr) scope cl s H fp) t2 g2/\PE (Zcm X (Zcj own fr) scope cl s H fp) elt te)(hs2:∀ env x,foldedSetIterable i2 env x=pure x:=by intro _ _;rfl)(hs:∀ x,foldedSetIterable iter X.env x=pure x:=by intro _;rfl):
  PE X (two elt tg iter t2 i2 scope pos) (tComp2 own.length fr wi g wi2 g2 te):=by
 intro pins s σ H Q I h;refine Zap (Zlj (scope:=scope) (env:=X.env) λy hy hf=>I.ok.has y.1 (B.free y hy hf)) λcl hclos hcl hcl2=>?_;rw[eval_ListComp];refine Jc1 (use:=none) rfl hs hclos B.kind B.loc (thn (hi pins s σ H _ I h) λv s1 h1=>thn h1 λitv s2 h2=>?_);refine Zcx h2 λit fp tn J H2 e I2 T e96=>?_;clear h2;refine Zar e96 λst2 f2 q=>?_;clear e96;subst e;refine Zt1 (RR:=λacc C=>compPost (model X.prog X.w) X.A X.xe none (EP X pins σ Q) acc C) (Q:=Q) hc B hs2 hb hcl hcl2 I2 T st2 f2 q ?_;intro D C s' H' I' hq hn n1 n2 n3 n4 n5;obtain⟨m,hn⟩:=hn;refine⟨m,hn,λh' hs'=>⟨.ref D,H',I'.turned (it:=C) (t':=s'.toks) (λb o hb e=>SameBut.get hs' b o hb e) n5 (Jcs (Jcs n1)) (.inr n4) n2 n3,rfl,hq⟩⟩
end
def Znl:V->List V->Hp->VK->Prop:=λx vs H Q=>∃ (l:Addr) (ns:List Int) (k:Int),x=.ref l/\vs=[.int k]/\H l=some (.lst (ns.map V.int))/\Q (.int ((ns.count k:Nat):Int)) H
def intU (k:Int):Value->Bool
 | .int i _=>i == k
 | _=>false
theorem Zhs (k:Int):∀ {ns:List Int} {its:List Value},Vals (ns.map V.int) its->its.countP (intU k)=ns.count k
 | [],_,.nil=>rfl
 | n::ns,_,.cons r rs=>by
  obtain⟨t,rfl⟩:=r;rw[List.countP_cons,Zhs k rs,Jdf];rfl
theorem Zo1 {A:Around}{s:Shared}(k:Int)(t':Tok):∀ {ns:List Int} {its:List Value},Vals (ns.map V.int) its->∀ y∈its,SeqAt.EqAt A s y (.int k t') (intU k y)
 | [],_,.nil=>λy hy=>by cases hy
 | n::ns,_,.cons r rs=>λy hy=>by
  obtain⟨t,rfl⟩:=r;rcases Jax.mp hy with rfl|hy
  .exact SeqAt.EqAt.int_int n t k t'
  .exact Zo1 k t' rs y hy
theorem Zmf {X:Cx}:MtM X "list.count" Znl:=by
 intro pins s σ H x vs v us Q I rx rv h;refine Zb3 h λl ns k e91 e92 hH q=>?_;clear h;obtain rfl:=e91;obtain rfl:=e92;cases rx;refine Zah rv.one λu e93 e94=>?_;obtain rfl:=e93;obtain⟨t,rfl⟩:=e94;obtain⟨z,its,n,r,hl,e⟩:=I.lstM hH;refine Jeq F.slot_list_count ⟨_,e,rfl⟩ F.entry_list_count (F.args_list_count_2 _ _) (SeqAt.list_countAt l its.toArray n _ _ (.int k t) (intU k)) ⟨e,λy hy=>?_,?_⟩
 .exact Zo1 k t r y (by simpa using hy)
 .refine Zav (.int _) H ⟨I.tok _,⟨_,rfl⟩,?_⟩;have ec:List.countP (intU k) its.toArray.toList=ns.count k:=by
   rw[show its.toArray.toList=its by simp];exact Zhs k r
  first|(rw[ec];exact q)|(rw[Zhs k r];exact q)
end L2
namespace L2
open PySem PySem.Spec PyProof.Rows
theorem Zu5 (l:Addr)(items:Array Value)(n:Nat)(x:Value)(j:Nat)(hj:j<items.size)(hs1:items.size<=sizeLine)(k:Nat):
  ∀ i:Nat,j-i=k->i<=j->Meets (Builtin.«list.remove.loop» ⟨[.ref l,x,rawInt i],[]⟩)
   (λA R s=>s.heap.get? l=some { cls:=.type "list",dict:=none,data:=.seq items n,slots:=#[] }/\(∀ m (hm:m<items.size),m<=j->SeqAt.EqAt A.in1 s items[m] x (decide (m=j)))/\R (.ok (.ret .none)) { s with heap:=s.heap.update l (Obj.mapSeq λxs=>xs.eraseIdxIfInBounds j) }):=by
 induction k with
 | zero=>
  intro i hk hij prog w A R s h;obtain⟨hp,g,d,tk,os⟩:=s;obtain⟨hl,he,h⟩:=h;have hij':i=j:=∅
  subst hij'
  wp_walk using Jc5 hl
  have hi:items[((i:Nat):Int).toNat]?=some items[i]:=by simp[hj]
  rw[hi];refine Jac (he i hj (Jaf _) prog w _ _ ?_);rw[Jag rfl];have hz':(items.eraseIdxIfInBounds i).size<=sizeLine+1:=Jbf (MeetsSeq.size_erased items _) (Nat.le_succ_of_le hs1)
  wp_walk using (Jc4 hl rfl (hz:=hs1) (_hz':=hz')),Jc5 hl
  simpa using h
 | succ k ih=>
  intro i hk hij prog w A R s h;obtain⟨hp,g,d,tk,os⟩:=s;obtain⟨hl,he,h⟩:=h;have hlt:i<items.size:=∅
  wp_walk using Jc5 hl
  have hi:items[((i:Nat):Int).toNat]?=some items[i]:=by simp[hlt]
  have hc:((i:Int)+1)=((i+1:Nat):Int):=by push_cast;rfl
  rw[hi];refine Jac (he i hlt ∅ prog w _ _ ?_);rw[Ja5 ∅]
  wp_walk
  rw[hc];exact⟨Jfq Jcv _,codeAny_builtin MeetsSeq.entry_remove_loop (by
   rw[Around.under_plainId Jcv _];exact ih (i+1) ∅ ∅ prog w A R _ ⟨hl,he,h⟩)⟩
theorem rem_at (l:Addr)(items:Array Value)(n:Nat)(x:Value)(j:Nat)(hj:j<items.size)(hs1:items.size<=sizeLine):
  Meets (Builtin.«list.remove» ⟨[.ref l,x],[]⟩)
   (λA R s=>s.heap.get? l=some { cls:=.type "list",dict:=none,data:=.seq items n,slots:=#[] }/\(∀ m (hm:m<items.size),m<=j->SeqAt.EqAt A.in1 s items[m] x (decide (m=j)))/\R (.ok (.ret .none)) { s with heap:=s.heap.update l (Obj.mapSeq λxs=>xs.eraseIdxIfInBounds j) }):=by
 intro prog w A R s h;obtain⟨hp,g,d,tk,os⟩:=s;obtain⟨hl,he,h⟩:=h
 wp_walk using Jc5 hl
 exact⟨Jfq Jcv _,codeAny_builtin MeetsSeq.entry_remove_loop (by
  rw[Around.under_plainId Jcv _];exact Zu5 l items n x j hj hs1 _ 0 rfl (Jbm _) prog w A R _ ⟨hl,he,h⟩)⟩
def rRem (K:Frag):V->List V->Hp->VK->Prop:=λx vs H Q=>∃ (l:Addr) (xs:List V) (y:V) (j:Nat),x=.ref l/\vs=[y]/\H l=some (.lst xs)/\j<xs.length/\(∀ (m:Nat) v,m<=j->xs[m]?=some v->EqD K H 4 v y (decide (m=j)))/\Q .non (upd H l (.lst (xs.eraseIdx j)))
theorem Zxl {X:Cx}(hu:X.A.units+8<cLine):MtM X "list.remove" (rRem X.K):=by
 intro pins s σ H x vs v us Q I rx rv h;refine Zdt h λl xs y j e91 e92 hH e93=>?_;clear h;obtain rfl:=e91;obtain rfl:=e92;refine Zar e93 λhj he q=>?_;clear e93;cases rx;refine Zah rv.one λu e94 ru=>?_;obtain rfl:=e94;obtain⟨z,its,n,r,hl,e⟩:=I.lstM hH;refine Jeq F.slot_list_remove ⟨_,e,rfl⟩ F.entry_list_remove (F.args_list_remove_2 _ _) (rem_at l its.toArray n u j (by rw[Jaj];omega) (by rw[Jaj];omega)) ⟨e,λm hm hmj=>?_,?_⟩
 .have hm':m<xs.length:=by rw[Jaj] at hm;omega
  have hx:xs[m]?=some (xs[m]'hm'):=Jaa hm';refine Zah (r.get hx) λw hw rw'=>?_;have ew:its.toArray[m]=w:=by
   rw[Jaa ∅] at hw;simpa using hw
  rw[ew];exact (he m _ hmj hx).at I (by show X.A.units+1+4<cLine;omega) rw' ru
 .refine Zav .non _ ⟨I.lset (its':=its.eraseIdx j) hH e ?_ (r.eraseIdx j) ?_,rfl,q⟩
  .rw [Jd5]
  .have:=Zjj xs j;omega
end L2
namespace L2
open PySem PySem.Spec PyProof.Rows
theorem Zub (kf:Nat->Int):∀ k,argBest (λi j=>decide (kf i > kf j)) k<=k/\∀ j,j<=k->kf j<=kf (argBest (λi j=>decide (kf i > kf j)) k)
 | 0=>by
  refine⟨Jaf _,λj hj=>?_⟩;have:j=0:=∅
  subst this;exact Jd8 _
 | k+1=>by
  obtain⟨h1,h2⟩:=Zub kf k;unfold argBest;by_cases h:kf (k+1) > kf (argBest (λi j=>decide (kf i > kf j)) k)
  .rw [if_pos (Jag h)];refine⟨Jaf _,λj hj=>?_⟩;by_cases e:j=k+1
   .subst e;exact Jd8 _
   .have:=h2 j ∅;omega
  .rw [if_neg (by simpa using h)];refine⟨∅,λj hj=>?_⟩;by_cases e:j=k+1
   .subst e;omega
   .exact h2 j ∅
section
variable {X:Cx}
theorem Zms (hc:X.calm=true):Zd9 X (.builtin "max") (λxs H Q=>∃ (p:Addr) (ns:List Int),xs=[.ref p]/\SqL X.K H p (ns.map V.int)/\ns≠[]/\∀ m,m∈ns->(∀ x∈ns,x<=m)->Q (.int m) H):=by
 intro pins s σ H xs us Q I r h;refine Zeh h λp ns e91 hq h0 q=>?_;clear h;obtain rfl:=e91;refine Zah (Zkm r) λu e92 rx=>?_;obtain rfl:=e92;cases rx;refine Zap (I.list hq) λits rv pl hz=>?_;have hl:=rv.length;rw[Jab] at hl;have hpos:0<ns.length:=List.length_pos_iff.mpr h0;have at':∀ (i:Nat) v,its.toArray[i]?=some v->∃ t,v=.int (ns.getD i 0) t:=by
  intro i v hv;have hv:its[i]?=some v:=by simpa using hv
  have hi:i<ns.length:=by rw[hl];exact (Jah.mp hv).1
  obtain⟨u,hu,ru⟩:=rv.get (i:=i) (x:=.int ns[i]) (by rw[Jau,Jaa hi];rfl);rw[hv] at hu;cases hu;obtain⟨t,rfl⟩:=ru;exact⟨t,by simp[hi]⟩
 refine call_max_walk (Jdh pl.isList ?_);have hne:p≠s.heap.objs.size:=λe=>by
  refine Zbg pl λo n ho _=>?_;clear pl;exact absurd (Jae ho) (by rw[e];exact Jbv _)
 refine Zqo s.heap.objs.size _ _ _ _ _ (λi j=>decide (ns.getD i 0 > ns.getD j 0)) ⟨rfl,Walks.list (A:=X.A.in1) (I.ok.hd hc) _ p hne its.toArray,⟨⟨_,Ja2 _ rfl,rfl,rfl⟩,pl.isList.at λo e=>Jad _ e⟩,?_,?_,?_,λv h' tk hv kp=>?_⟩
 .intro b hb;simp at hb;rcases hb with rfl|rfl
  .rw [Jcg];exact Jdp _
  .rw [Jcg];refine Zah pl.isList λo ho _=>?_;exact Jd6 (Jae ho)
 .rw [Jaj,<- hl];exact hpos
 .exact CmpOf.ints_gt (λi=>ns.getD i 0) at'
 .obtain ⟨t,rfl⟩:=at' _ v hv;rw[Jaj,<- hl];obtain⟨b1,b2⟩:=Zub (λi=>ns.getD i 0) (ns.length-1);have f:=I.fpOk (H':=H) (Jaf s.heap.objs.size) (I.hok.fresh (Jaf _));generalize argBest (λi j=>decide (ns.getD i 0 > ns.getD j 0)) (ns.length-1)=b at *;refine Zav (.int (ns.getD b 0)) H ⟨(I.kept (h':=s.heap.push { cls:=.type "list_iterator",data:=.fields #[.ref p,.int 0 0] }) (t':=s.toks) λb o e=>Jad _ e).turned (it:=s.heap.objs.size) (t':=tk) (λb o hb e=>kp b o (by simpa using hb) e) f.1 f.2.1 f.2.2.2.1 f.2.2.2.2.1 f.2.2.2.2.2,⟨t,rfl⟩,q _ ?_ λx hx=>?_⟩
  .have hb:b<ns.length:=∅
   rw[Jao,Jaa hb];exact Jbr hb
  .obtain ⟨j,hj,rfl⟩:=Jbu.mp hx;have:=b2 j ∅;rw[show ns.getD j 0=ns[j] by simp[hj]] at this;exact this
end
end L2
namespace L2
open PySem PySem.Spec PyProof.Rows
section
variable {X:Cx}{pos:Pos}
def tPar3 (i j k:Nat)(ta:TA):TS:=λD σ H=>ta σ H λvs H1=>∃ v w o,vs=[v,w,o]/\D.nx (((σ.set i (some v)).set j (some w)).set k (some o)) H1
theorem ps_par3 {i j k:Nat}{x y z:Str}{a b c:Expr}{ta:TA}{px py pz pt:Pos}{kt k2 pt2}(hc:X.calm=true)(hN:X.N.Nodup)(hi:X.N[i]?=some x)(hj:X.N[j]?=some y)(hk:X.N[k]?=some z)(hij:i≠j)(hik:i≠k)(hjk:j≠k)(hx:X.env.scope.names.lookup x=some .local)(hy:X.env.scope.names.lookup y=some .local)(hz:X.env.scope.names.lookup z=some .local)(ha:PA X [a,b,c] ta)(hw:swappedStores [.Tuple [.Name x px,.Name y py,.Name z pz] kt pt] (.Tuple [a,b,c] k2 pt2) X.env=pure (some [x,y,z]))(hs:swapsWithSole [.Tuple [.Name x px,.Name y py,.Name z pz] kt pt] (.Tuple [a,b,c] k2 pt2) pos.line X.env=pure false:=by rfl):
  PS X (.Assign [.Tuple [.Name x px,.Name y py,.Name z pz] kt pt] (.Tuple [a,b,c] k2 pt2) pos) (tPar3 i j k ta):=by
 intro pins s σ H D I h;rw[exec_Assign_arm];refine Jac (Jcd ?_);rw[hs];refine Jac (Jal ?_);rw[if_neg ⇑0];refine Jac (Tuple_ (thn (ha _ pins s σ H _ I h) λus s1 ⟨vs,H1,I1,r1,q1⟩=>?_));obtain⟨v,w,o,e1,q1⟩:=q1;subst e1;obtain⟨u1,u2,u3,rfl,rv,rw',ro⟩:∃ u1 u2 u3,us=[u1,u2,u3]/\RelV v u1/\RelV w u2/\RelV o u3:=by
  cases r1 with
  | cons p q=>
   cases q with
   | cons p' q'=>
    cases q' with
    | cons p3 q3=>
     cases q3;exact⟨_,_,_,rfl,p,p',p3⟩
 refine Jcb ?_ (by show 3<=sizeLine;decide);have I2:Inv X pins σ H1 { s1 with heap:=s1.heap.push { cls:=.type "tuple",data:=.seq [u1,u2,u3].toArray } }:=I1.kept (t':=s1.toks) λb o e=>Jad _ e;rw[hw];refine Jac (Jal ?_);show wpAny (model X.prog X.w) X.A (do rule "assign.swapped-stores";let items <- unpackItems (.ref s1.heap.objs.size) 3 none;assignInOrder [λv=>bindName X.env z v,λv=>bindName X.env y v,λv=>bindName X.env x v] items.reverse;pure Flow.next) _ _ _;refine Jac (Jfr (Jac (unpackItems_tuple (items:=#[u1,u2,u3]) (I.ok.hd hc) (IsTup.new s1.heap _) λh' hx'=>?_)));have I3:=I2.kept (h':=h') (t':=s1.toks) λb o e=>hx' b o (Ja1 (Jae e)) e;show wpAny _ _ (assignInOrder [λv=>bindName X.env z v,λv=>bindName X.env y v,λv=>bindName X.env x v] [u3,u2,u1] >>= λ_=>pure Flow.next) _ _ _;refine Jac (Jcw (Jed (Zdb I3 hN hk (.inl hz) ro (λs2 I4=>?_) (.inr hz))));refine Jcw (Jed (Zdb I4 hN hj (.inl hy) rw' (λs3 I5=>?_) (.inr hy)));refine Jcw (Jed (Zdb I5 hN hi (.inl hx) rv (λs4 I6=>assignInOrder_nil (Jal ?_)) (.inr hx)));rw[Jfm _ _ (Jcs hij),Jfm _ _ (Jcs hik),Jfm _ _ (Jcs hjk)] at I6;exact⟨_,H1,I6,q1⟩
end
end L2
namespace L2
open PySem PySem.Spec PyProof.Rows
theorem Zpi:typeLookup (.type "zip") "__len__" = pure none:=by rw[Jev,Jde];kernel_rfl
theorem Zmz:typeLookup (.type "zip") "__length_hint__" = pure none:=by rw[Jev,Jde];kernel_rfl
def ZS (h:Heap)(z TI TO i1 i2 l1 l2:Addr):Prop:=IsZip h z TI TO .none/\IsPair h TI (.ref i1) (.ref i2)/\(∃ u v,IsPair h TO u v)/\h.IsListIter i1 l1 0/\h.IsListIter i2 l2 0/\h.IsList l1 #[]/\h.IsList l2 #[]
theorem ZS.at {h h':Heap}{z TI TO i1 i2 l1 l2:Addr}(H:ZS h z TI TO i1 i2 l1 l2)(k:∀ b o,b∈[z,TI,TO,i1,i2,l1,l2]->h.get? b=some o->h'.get? b=some o):ZS h' z TI TO i1 i2 l1 l2:=by
 refine Zlt H λa b e91 d e f g=>?_;clear H;obtain⟨u,v,c⟩:=e91;exact⟨k z _ (by simp) a,k TI _ (by simp) b,⟨u,v,k TO _ (by simp) c⟩,d.at λo x=>k i1 o (by simp) x,e.at λo x=>k i2 o (by simp) x,f.at λo x=>k l1 o (by simp) x,g.at λo x=>k l2 o (by simp) x⟩
theorem ZS.lt {h:Heap}{z TI TO i1 i2 l1 l2:Addr}(H:ZS h z TI TO i1 i2 l1 l2):∀ b∈[z,TI,TO,i1,i2,l1,l2],b<h.objs.size:=by
 refine Zlt H λa b e92 e93 e94 e95 e96=>?_;clear H;obtain⟨u,v,c⟩:=e92;obtain⟨_,d,_⟩:=e93;obtain⟨_,e,_⟩:=e94;obtain⟨_,f,_⟩:=e95;obtain⟨_,g,_⟩:=e96;intro x hx;simp at hx;rcases hx with rfl|rfl|rfl|rfl|rfl|rfl|rfl
 .exact Jae a
 .exact Jae b
 .exact Jae c
 .exact Jae d
 .exact Jae e
 .exact Jae f
 .exact Jae g
section
variable {prog:Program}{w:World}{A:Around}{s:Shared}{E:Value->Shared->Prop}
theorem Zpm {z TI TO i1 i2 l1 l2:Addr}(hh:A.handled=none)(D:ZipApart z TI TO i1 i2 l1 l2):Walks prog w A z [z,TI,TO,i1,i2,l1,l2] [z,TO,i1,i2] 0 (λ_ _=>False) (λ_ h=>ZS h z TI TO i1 i2 l1 l2) where
 sub:=λb hb=>by simp at hb ⊢;rcases hb with rfl|rfl|rfl|rfl <;> simp
 frame:=λi h h' hst hk=>hst.at λb o hb e=>hk b hb o e
 item:=λi s Q E hi=>absurd hi (Jc3 _)
 done:=λs Q E hst hQ=>by
  refine Zlt hst λa b e97 d e f g=>?_;clear hst;obtain⟨u,v,c⟩:=e97;exact wpAny_pyNext_zip_end hh D a b c d e f g (.inl rfl) λh' hx=>hQ h' s.toks λb o hb y=>hx b o (λe'=>hb (by simp[e'])) (λe'=>hb (by simp[e'])) (λe'=>hb (by simp[e'])) (λe'=>hb (by simp[e'])) y
 self:=λi s Q E hst hQ=>wpAny_pyIter_zip hst.1 hQ
theorem Znt {R:Result->Shared->Prop}{z TI TO i1 i2 l1 l2 S:Addr}{res:Value}{c₀:Nat}(hh:A.handled=none)(D:ZipApart z TI TO i1 i2 l1 l2)(he:ZS s.heap z TI TO i1 i2 l1 l2)(hSf:S∉[z,TI,TO,i1,i2,l1,l2])(hS:s.heap.get? S=some { cls:=.type "list",data:=.seq #[] c₀ })(hR:∀ s' acc' c',Moved (S::[z,TO,i1,i2]) (λa b=>b=a) s s'->s'.heap.get? S=some { cls:=.type "list",dict:=none,data:=.seq acc' c',slots:=#[] }->ItemsOf (λ_ _=>False) acc' 0->R (.ok (.ret res)) s'):
  wpAny (model prog w) A.in1 (Builtin.List.listExtendWith (.ref S) (.ref z) res)
   (λfin s'=>match fin with | .done f=>R (.ok f) s' | .again c'=>c'.quiet=true/\codeAny (model prog w) A c' R s') (λe s'=>R (.error e) s') s:=by
 have W:=(Zpm (prog:=prog) (w:=w) (A:=A.in1) hh D).toS;have hSI:S≠z:=λe=>hSf (by simp[e]);have hT:∀ (s:Shared),ZS s.heap z TI TO i1 i2 l1 l2->s.TypeIs (.ref z) "zip" := λs h=>⟨_,h.1,rfl⟩
 unfold Builtin.List.listExtendWith;refine Jac (wpAny_typeOf (hT _ he) ?_);have h1:Builtin.List.listSameRef (.ref S) (.ref z)=false:=by simp[Builtin.List.listSameRef,hSI]
 have h2:(Value.type "zip" == Value.type "list")=false:=⇑0
 have h3:(Value.type "zip" == Value.type "tuple")=false:=⇑0
 simp only[h1,h2,h3,Jfp,Jdb,Jeo];refine Jac (W.self 0 _ _ _ he ?_);refine Jac (Jca ?_);unfold Builtin.List.listLengthHint;refine Jac (Jdd (hT _ he) Zpi ?_);refine Jac (Jdd (hT _ he) Zmz ?_);refine Jal ?_;refine Jac (Jfr ?_);refine Jac ?_;show wpAny _ A.in1 (updateSeq S (·.push .none) >>= λ_=>updateSeq S (·.pop)) _ _ _;refine Jac (Jc4 hS rfl ?_);have hS₂:=Jb4 (Obj.mapSeq (·.push Value.none)) hS rfl;refine Jc4 (hz:=by seq_fits) hS₂ rfl ?_;have hS₃:=Jb4 (Obj.mapSeq (·.pop)) hS₂ rfl;have oth:∀ b o,b≠S->s.heap.get? b=some o->((s.heap.update S (Obj.mapSeq (·.push Value.none))).update S (Obj.mapSeq (·.pop))).get? b=some o:=
  λb o hb e=>(Jbj _ _ (Jcs hb)).trans ((Jbj _ _ (Jcs hb)).trans e)
 refine Jal ⟨Jfq F.plain_extend_loop _,codeAny_extend_loopS W (Jbm _) _ hSf _ 0 0 _ _ _ rfl (Jbm _)
  (W.frame 0 s _ s.toks he (Jaf _) λb hb o e=>oth b o (λh=>hSf (h ▸ hb)) e) hS₃ (ItemsOf.nil _) λs' acc' c' hm hS' hacc=>?_⟩
 exact hR s' acc' c' (Moved.trans W.gtrans ((Moved.refl (wr:=S::[z,TO,i1,i2]) (G:=λa b=>b=a) (λ_=>rfl)).then_heap (Jaf _) λb o hb e=>oth b o (λh=>hb (by rw[h];exact Jb3)) e) hm) hS' hacc
theorem Zs2 {Q:Value->Shared->Prop}{z TI TO i1 i2 l1 l2:Addr}(hh:A.handled=none)(D:ZipApart z TI TO i1 i2 l1 l2)(he:ZS s.heap z TI TO i1 i2 l1 l2)(hQ:∀ h' t' c',(∀ b o,b≠z->b≠TO->b≠i1->b≠i2->s.heap.get? b=some o->h'.get? b=some o)->h'.get? s.heap.objs.size=some { cls:=.type "list",dict:=none,data:=.seq #[] c',slots:=#[] }->Q (.ref s.heap.objs.size) { s with heap:=h',toks:=t' }):
  wpAny (model prog w) A (call (.type "list") [.ref z]) Q E s:=by
 have lz:=he.lt;have hSf:s.heap.objs.size∉[z,TI,TO,i1,i2,l1,l2]:=λhm=>absurd (lz _ hm) (Jbv _);refine callType_codes (Q₁:=λobj s₁=>obj=.ref s.heap.objs.size/\s₁={ s with heap:=s.heap.push { cls:=.type "list",data:=.seq #[] } }) F.called_list (F.typeCall_list_1 _) F.entry_list_init
  (code_list_new _ ⟨rfl,rfl⟩) λobj s₁ h₁=>?_
 obtain⟨rfl,rfl⟩:=h₁;have hS:(s.heap.push { cls:=.type "list",data:=.seq #[] }).get? s.heap.objs.size=some { cls:=.type "list",data:=.seq #[] }:=Ja2 _ rfl;refine⟨⟨_,hS,rfl⟩,F.args_list_init_2 _ _,?_⟩;generalize hS0:s.heap.objs.size=S at *;have old:∀ b o,s.heap.get? b=some o->(s.heap.push { cls:=.type "list",data:=.seq #[] }).get? b=some o:=λb o e=>Jad _ e;generalize s.heap.push { cls:=.type "list",data:=.seq #[] }=h1 at *;show wpAny _ _ (do let old <- Builtin.List.listItems (.ref S);Builtin.List.listUpdate (.ref S) (λ_=>#[]);letGo old.toList.reverse;Builtin.List.listExtendWith (.ref S) (.ref z) .none) _ _ _;refine Jac ?_;unfold Builtin.List.listItems;refine Jac (wpAny_seqItems (s:={ s with heap:=h1 }) hS rfl (Jal ?_));show wpAny _ _ (updateSeq S (λ_=>#[]) >>= λ_=>letGo (#[]:Array Value).toList.reverse >>= λ_=>Builtin.List.listExtendWith (.ref S) (.ref z) .none) _ _ _;refine Jac (Jc4 hS rfl ?_);have hS₂:=Jb4 (Obj.mapSeq (λ_=>(#[]:Array Value))) hS rfl;have oth:∀ b o,b≠S->s.heap.get? b=some o->(h1.update S (Obj.mapSeq (λ_=>(#[]:Array Value)))).get? b=some o:=
  λb o hb e=>(Jbj _ _ (Jcs hb)).trans (old b o e)
 refine Jac (wpAny_letGo ?_);refine Znt (A:=A.in1) hh D (he.at λb o hb e=>oth b o (λx=>hSf (x ▸ hb)) e) hSf hS₂ λs' acc' c' hm hS' hacc=>?_;have hacc0:acc'=#[]:=Array.eq_empty_of_size_eq_zero hacc.1;subst hacc0;obtain⟨hh',g,d,t,os'⟩:=s';obtain rfl:os'=s.os:=hm.os;obtain rfl:g=s.gens:=hm.gens;obtain rfl:d=s.drawn:=hm.drawn;refine⟨rfl,hQ hh' t c' (λb o n1 n2 n3 n4 q=>hm.heap b o ?_ ?_) hS'⟩
 .have:b<S:=by rw[<- hS0];exact Jae q
  simp;exact⟨Ja1 this,n1,n2,n3,n4⟩
 .have:b<S:=by rw[<- hS0];exact Jae q
  exact oth b o (Ja1 this) q
end
def tLZ0 (K:Frag)(ta:TA):TE:=λσ H Q=>ta σ H λvs H1=>∃ a b,vs=[.ref a,.ref b]/\SqL K H1 a []/\SqL K H1 b []/\∀ l,H1 l=none->Q (.ref l) (upd H1 l (.lst []))
section
variable {X:Cx}
theorem pe_lz0 {p p2 pos pos2:Pos}{a b:Expr}{ta:TA}(hc:X.calm=true)(hg:Gl X "list")(hm:X.mg "list" = none)(hg2:Gl X "zip")(hm2:X.mg "zip" = none)(ha:PA X [a,b] ta)(h:Zbf a=false:=by rfl)(h2:Zbf b=false:=by rfl):
  PE X (.Call (.Name "list" p) [.Call (.Name "zip" p2) [a,b] [] pos2] [] pos) (tLZ0 X.K ta):=by
 intro pins s σ H Q I hh;refine Call_ (Ze7 I hg hm Jcf (Jbh ?_ ⇑1 ⇑1));show wpAny _ _ (spliced ((false,eval (.Call (.Name "zip" p2) [a,b] [] pos2) X.env)::backTo pos (starEach [] X.env))) _ _ s;refine Jey (Call_ (Ze7 I hg2 hm2 boot_zip (Jbh (thn (ha pos2 pins s σ H _ I hh) λus s1 ⟨vs,H1,I1,r1,q1⟩=>?_) (by rw[Zaz h,Zaz h2]) (by rw[Zaz h2];rfl))));refine Zeh q1 λc d e hq1 hq2 q=>?_;clear q1;subst e;cases r1 with
 | cons r rr=>
  cases rr with
  | cons r' rr=>
   cases rr;cases r;cases r';refine Zap (I1.list hq1) λits rv p1 hz1=>?_;cases rv;refine Zap (I1.list hq2) λits2 rv2 p2 hz2=>?_;cases rv2;have lt1:c<s1.heap.objs.size:=by obtain⟨o,ho,_⟩:=p1.isList;exact Jae ho
   have lt2:d<s1.heap.objs.size:=by obtain⟨o,ho,_⟩:=p2.isList;exact Jae ho
   refine call_zip_2 p1.isList p2.isList λh' a1 a2 a3 a4 a5 a6 a7=>?_;refine Jfc ?_;have lt:s1.heap.objs.size+5=h'.objs.size:=a6.symm;refine Zs2 (I.ok.hd hc) (zipApart_new lt1 lt2) ⟨a1,a2,⟨_,_,a3⟩,a4,a5,p1.isList.at λo x=>a7 _ _ x,p2.isList.at λo x=>a7 _ _ x⟩ λh'' t' c' kp hn=>?_;have old:∀ b o,s1.heap.get? b=some o->h''.get? b=some o:=λb o x=>by
    have:=Jae x;exact kp b o (Ja1 (Ja3 this (Jcp _ _))) (Ja1 (Ja3 this (Jcp _ _))) (Ja1 this) (Ja1 (Ja3 this (Jcp _ _))) (a7 b o x)
   have le:s1.heap.objs.size<=h'.objs.size:=∅
   refine Zav (.ref h'.objs.size) _ ⟨I1.laid (a:=h'.objs.size) (o:=.lst []) (t':=t') old le ?_,rfl,q _ (I1.hok.fresh le)⟩;exact⟨Jbm _,[],c',.nil,hn⟩
def Znk:V->List V->Hp->VK->Prop:=λx vs H Q=>∃ (l:Addr) (ns:List Int) (k:Int),x=.ref l/\vs=[.int k]/\H l=some (.lst (ns.map V.int))/\k∈ns/\(PyData.list (ns.map PyData.int)).layable0=true/\Q (.int (ns.idxOf k:Nat)) H
theorem Zsx:MtM X "list.index" Znk:=by
 intro pins s σ H x vs v us Q I rx rv h;refine Zb3 h λl ns k e98 e99 hH e910=>?_;clear h;obtain rfl:=e98;obtain rfl:=e99;refine Zar e910 λhk ly q=>?_;clear e910;cases rx;refine Zah rv.one λu e911 e912=>?_;obtain rfl:=e911;obtain⟨t,rfl⟩:=e912;refine Zap (I.list (SqL.of (K:=X.K) hH)) λits r p1 hz=>?_;exact index_list_ints p1.isList (Zp8 r) ly hk ⟨.int _,H,I.tok _,⟨_,rfl⟩,q⟩
end
end L2
namespace L2
open PySem PySem.Spec PyProof.Rows PySem.W
structure Trk (B:Heap)(fr:List Env)(e:Addr)(cls c0 fl:Value)(h:Heap):Prop where
 st:B.StaysIn h
 nw:B.get? e=none
 ff:h.FunFrames B fr
 ob:∃ (o:Obj) (vs:Array Value) (T:Addr) (oT:Obj) (us:Array Value),h.get? e=some o/\o.cls=cls/\o.data=.fields vs/\vs[2]?=some c0/\vs[1]?=some (.ref T)/\B.get? T=none/\T≠e/\h.get? T=some oT/\oT.data=.fields us/\us[3]?=some fl
theorem Trk.there {B h:Heap}{fr:List Env}{e:Addr}{cls c0 fl:Value}(x:Trk B fr e cls c0 fl h):∃ o,h.get? e=some o/\o.cls=cls:=
 let ⟨o,_,_,_,_,a,b,_⟩:=x.ob;⟨o,a,b⟩
theorem Trk.outer {B h:Heap}{env:Env}{fr:List Env}{e:Addr}{cls c0 fl:Value}(x:Trk B (env::fr) e cls c0 fl h):Trk B fr e cls c0 fl h:=⟨x.st,x.nw,x.ff.2.2,x.ob⟩
section
variable {M:Model}{A:Around}{E:Value->Shared->Prop}{s:Shared}{B:Heap}{fr:List Env}{e L:Addr}{cls c0:Value}{Q:Unit->Shared->Prop}
theorem Zf1 {h h':Heap}{T:Addr}{oT:Obj}{us:Array Value}(hT:h.get? T=some oT)(hd:oT.data=.fields us)(k:∀ b,b≠T->h'.get? b=h.get? b):h.UpToSlots h':=λb o hb hn=>
 ⟨o.slots,by rw[k b (λz=>by rw[z,hT] at hb;cases hb;exact hn us hd)];exact hb⟩
theorem Zle {h h':Heap}{B:Heap}{fr:List Env}(x:h.FunFrames B fr)(k:h.UpToSlots h'):h'.FunFrames B fr:=x.of_keeps λb o hb hn=>let ⟨_,q⟩:=k b o hb hn;⟨_,q,rfl⟩
theorem Zkn {f0:Value}(fo:Option Addr)(x:Trk B fr e cls c0 f0 s.heap)(k:∀ h',Trk B fr e cls c0 (fo.elim .none λf=>rawInt f) h'->s.heap.UpToSlots h'->Q () { s with heap:=h' }):wpAny M A (setFlight (.ref e) fo) Q E s:=by
 refine Zcx x.ob λo vs T oT us he hc hd e91=>?_;refine Zlt e91 λg2 g1 nT ne hT dT g3=>?_;clear e91;have z3:3<us.size:=(Jdm.mp g3).1;unfold setFlight;refine Jac (Jd7 he hd g1 ?_);rw[if_pos (by simp)];have oth:∀ b,b≠T->(s.heap.update T (Obj.mapFields (·.setIfInBounds 3 (fo.elim Value.none λf=>rawInt f)))).get? b=s.heap.get? b:=λb hb=>Jbj _ _ hb.symm;have up:=Zf1 hT dT oth;have me:=Jb4 (Obj.mapFields (·.setIfInBounds 3 (fo.elim Value.none λf=>rawInt f))) hT (Obj.isFreed_of_fields (Jd3 dT _));exact wpAny_setField hT dT z3 (k _ ⟨λb u hb=>by rw[oth b (λz=>by rw[z,nT] at hb;cases hb)];exact x.st b u hb,x.nw,Zle x.ff up,o,vs,T,_,_,by rw[oth e ne.symm];exact he,hc,hd,g2,g1,nT,ne,me,Jd3 dT _,by simp[z3]⟩ up)
theorem Zlx {env:Env}{o:Obj}{vs:Array Value}{hd0:Value}{bb:Bool}(fA:A.frames=some (env::fr))(ff:s.heap.FunFrames B (env::fr))(fE:env.frame=some L)(st:B.StaysIn s.heap)(nw:B.get? e=none)(he:s.heap.get? e=some o)(hd:o.data=.fields vs)(g2:vs[2]?=some c0)(k:∀ h',Trk B (env::fr) e o.cls c0 (rawInt L) h'->s.heap.UpToSlots h'->Q () { s with heap:=h' }):
  wpAny M A (do let a <- frameOf env;let pl <- entryPlaceOf L bb;let b <- EntryCells.newEntry hd0 a .none (rawInt L) .none pl;setField (.ref e) 1 b) Q E s:=by
 have z2:2<vs.size:=(Jdm.mp g2).1;have nfr:e∉(env::fr).filterMap (·.frame):=λz=>by
  obtain⟨_,u,hu,hn⟩:=ff.mem z;rw[he] at hu;cases hu;exact hn vs hd
 refine Jac (wpAny_frameOf_fun fA ff fE λg sg=>Jac (wpAny_entryPlaceOf λpl ip=>?_));unfold EntryCells.newEntry newFields;refine Jac (Jcb (?_:_) (ip.sizeOk5 _ _ _ _ _));have ge:g.get? e=some o:=(sg.2.1 e nfr).trans he;have stg:B.StaysIn g:=λb u hb=>(sg.2.1 b λz=>by rw[(ff.mem z).1] at hb;cases hb).trans (st b u hb);have gs:s.heap.UpToSlots g:=λb u hb _=>sg.2.2 b u hb;generalize htb:({ cls:=.type "traceback",dict:=none,data:=.fields ([hd0,.ref L,.none,rawInt L,.none]++(if pl.isEmpty then List.replicate 6 Value.none else pl)).toArray }:Obj)=tb;have tbf:tb.isFreed=false:=by rw[<- htb];rfl
 have ge2:(g.push tb).get? e=some o:=Jad tb ge;have nT:g.objs.size≠e:=Jcx (Jae ge);have oth:∀ b u,b≠e->g.get? b=some u->((g.push tb).update e (Obj.mapFields (·.setIfInBounds 1 (Value.ref g.objs.size)))).get? b=some u:=λb u hb q=>by
  rw[Jbj _ _ hb.symm];exact Jad tb q
 have up:g.UpToSlots ((g.push tb).update e (Obj.mapFields (·.setIfInBounds 1 (Value.ref g.objs.size)))):=λb u q hn=>⟨u.slots,oth b u (λz=>by rw[z,ge] at q;cases q;exact hn vs hd) q⟩
 have me:=Jb4 (Obj.mapFields (·.setIfInBounds 1 (Value.ref g.objs.size))) ge2 (Obj.isFreed_of_fields (Jd3 hd _));have hT:((g.push tb).update e (Obj.mapFields (·.setIfInBounds 1 (Value.ref g.objs.size)))).get? g.objs.size=some tb:=by
  rw[Jbj _ _ nT.symm];exact Ja2 g tbf
 refine wpAny_setField ge2 hd ∅ (k _ ⟨λb u hb=>oth b u (λz=>by rw[z,nw] at hb;cases hb) (stg b u hb),nw,Zle ff (gs.trans up),_,_,g.objs.size,tb,_,me,Obj.cls_mapFields _ _,Jd3 hd _,by rw[Array.getElem?_setIfInBounds_ne ⇑0];exact g2,by simp[show 1<vs.size by omega],stg.fresh,nT,hT,by rw[<- htb],?_⟩ (gs.trans up))
 first|(simp;done)|(rcases ip with rfl|⟨_,_,_,_,_,_,_,rfl⟩ <;> simp)
theorem Zqx {env:Env}{o:Obj}{vs:Array Value}(fA:A.frames=some (env::fr))(ff:s.heap.FunFrames B (env::fr))(fE:env.frame=some L)(st:B.StaysIn s.heap)(nw:B.get? e=none)(he:s.heap.get? e=some o)(hd:o.data=.fields vs)(g2:vs[2]?=some c0)(g1:vs[1]?=some .none)(k:∀ h',Trk B (env::fr) e o.cls c0 (rawInt L) h'->s.heap.UpToSlots h'->Q () { s with heap:=h' }):wpAny M A (noteFrame (.ref e) env) Q E s:=by
 unfold noteFrame;rw[fE];refine Jac (Jd7 he hd g1 ?_);exact Zlx fA ff fE st nw he hd g2 k
theorem Zus {env:Env}(fA:A.frames=some (env::fr))(fE:env.frame=some L)(x:Trk B (env::fr) e cls c0 .none s.heap)(k:∀ h',Trk B (env::fr) e cls c0 (rawInt L) h'->s.heap.UpToSlots h'->Q () { s with heap:=h' }):wpAny M A (noteFrame (.ref e) env) Q E s:=by
 refine Zcx x.ob λo vs T oT us he hc hd e92=>?_;refine Zlt e92 λg2 g1 nT ne hT dT g3=>?_;clear e92;have z3:3<us.size:=(Jdm.mp g3).1;have oth:∀ b,b≠T->(s.heap.update T (Obj.mapFields (·.setIfInBounds 3 Value.none))).get? b=s.heap.get? b:=λb hb=>Jbj _ _ hb.symm;have up:=Zf1 hT dT oth;unfold noteFrame;rw[fE];refine Jac (Jd7 he hd g1 ?_);rw[if_pos (by simp)];refine Jac (Jd7 hT dT g3 ?_);rw[if_neg (by simp[rawInt])];refine Jac (wpAny_setField hT dT z3 ?_);exact Zlx fA (Zle x.ff up) fE (λb u hb=>by rw[oth b (λz=>by rw[z,nT] at hb;cases hb)];exact x.st b u hb) x.nw ((oth e ne.symm).trans he) hd g2 λh' y q=>k h' (hc ▸ y) (up.trans q)
theorem Zut {env:Env}{h0:Heap}{as:List Value}(fA:A.frames=some (env::fr))(fE:env.frame=some L)(st:B.StaysIn h0)(ff:h0.FunFrames B (env::fr))(x:Heap.MadeExcOf h0 s.heap e cls as)(k:∀ h',Trk B fr e cls .none .none h'->s.heap.UpToSlots h'->Q () { s with heap:=h' }):wpAny M A (leaving env (.ref e)) Q E s:=by
 refine Zap x.there λt he _ _=>?_;have nw:B.get? e=none:=by
  cases q:B.get? e with
  | none=>rfl
  | some u=>have:=st e u q;rw[x.new] at this;cases this
 unfold leaving;exact Jac (Zqx fA (ff.of_keeps λb u hb _=>⟨u,x.keeps b u hb,rfl⟩) fE (λb u hb=>x.keeps b u (st b u hb)) nw he rfl rfl rfl λh1 y q=>Zkn (s:={ s with heap:=h1 }) none y λh2 y2 q2=>k h2 y2.outer (q.trans q2))
end
end L2
namespace L2
open PySem PySem.Spec PyProof.Rows PySem.W
theorem HOk.track {P:Program}{w:World}{H:Hp}{h h':Heap}(x:HOk P w H h)(k:∀ b u o,H b=some u->h.get? b=some o->h'.get? b=some o):HOk P w H h':=λa o e=>
 (x a o e).stay (λb u hb q=>by
  rcases hb with rfl|hb
  .exact k b o u e q
  .exact k b _ u hb q) (λ_ z=>z) (λ_ _ z=>z) λ_ _ _ z=>z
theorem ObjOk.there {P:Program}{w:World}{H:Hp}{h:Heap}{a:Addr}{o:HO}(x:ObjOk P w H h a o):∃ u,h.get? a=some u:=by
 cases o with
 | lst xs=>obtain⟨_,_,_,_,e⟩:=x;exact⟨_,e⟩
 | tup xs=>obtain⟨_,_,_,p⟩:=x;obtain⟨o,e,_⟩:=p;exact⟨_,e⟩
 | dK kvs=>obtain⟨_,_,_,_,o,_,_,e,_⟩:=x;exact⟨_,e⟩
 | dT kvs=>obtain⟨_,_,_,_,o,_,_,e,_⟩:=x;exact⟨_,e⟩
 | set S n=>obtain⟨o,_,_,_,e,_⟩:=x;exact⟨_,e⟩
 | ins C dx fs=>obtain⟨_,_,_,e,_⟩:=x;exact⟨_,e⟩
 | own y=>obtain⟨_,e⟩:=x;exact⟨_,e⟩
 | xd fs=>obtain⟨_,⟨_,_,_,e,_⟩,_⟩:=x;exact⟨_,e⟩
 | rng lo hi=>obtain⟨_,_,_,e⟩:=x;exact⟨_,e⟩
 | frz ob u=>obtain⟨e,_⟩:=x;exact⟨_,e⟩
 | tbl ps=>exact⟨_,(show h.get? a=some _ from x)⟩
 | met f y=>exact⟨_,(show h.get? a=some _ from x)⟩
 | ext φ=>obtain⟨_,⟨_,e⟩,_⟩:=x;exact⟨_,e⟩
 | tab l c q=>
  rcases x with e|⟨_,_,_,_,e,_⟩
  .exact ⟨_,e⟩
  .exact ⟨_,e⟩
structure Fly (P:Program)(w:World)(outer:List Env)(H:Hp)(s:Shared)(a:Addr)(cls c0:Value)(H':Hp)(s':Shared):Prop where
 os:s'.os=s.os
 bare:AllBare s'.gens
 hok:HOk P w H' s'.heap
 un:Un (frs outer) [] H H' s.heap s'.heap
 fly:∃ B,Trk B outer a cls c0 .none s'.heap/\(∀ b o,s.heap.get? b=some o->b∉frs outer->∃ o',B.get? b=some o')/\∀ b u,H' b=some u->∃ o',B.get? b=some o'
 new:∀ o,s.heap.get? a≠some o
 free:H' a=none
def CXe (P:Program)(w:World):CXT:=λouter H s E e s'=>∃ (a:Addr) (cls c0:Value) (H':Hp),e=.ref a/\Fly P w outer H s a cls c0 H' s'/\E cls none H'/\(c0=.none\/E cls (some 0) H')
section
variable {N:List Str}{qual:Str}{scope:Scope}{f:Addr}{cd:Value}{A:Around}{outer:List Env}{s:Shared}{H:Hp}{E:XK}{pins:List (Addr×Obj)}{σ:St}{H1:Hp}{s1 s2:Shared}{e:Addr}{cls:Value}
theorem xe_made {vs:List Value}(I:Inv (Zny (CXe P w) P w K mg base N qual scope f cd A outer s H E) pins σ H1 s1)(hx:Heap.MadeExcOf s1.heap s2.heap e cls vs)(ho:s2.os=s1.os)(hg:AllBare s2.gens)(hE:E cls none H1):
  (Zny (CXe P w) P w K mg base N qual scope f cd A outer s H E).xe (.ref e) s2:=by
 show wpAny (model P w) (A.deeper (envOfC qual scope s.heap.objs.size f cd)) (leaving (envOfC qual scope s.heap.objs.size f cd) (.ref e)) (λ_ s''=>CXe P w outer H s E (.ref e) s'') (λe' s''=>CXe P w outer H s E e' s'') s2;have hin:∀ env∈(envOfC qual scope s.heap.objs.size f cd::outer),∀ b,env.frame=some b->b∈frs (envOfC qual scope s.heap.objs.size f cd::outer):=λenv he b hb=>Jex.mpr ⟨env,he,hb⟩;have hstk:s1.heap.FunFrames base (envOfC qual scope s.heap.objs.size f cd::outer):=I.stack;have hfree:∀ b∈frs (envOfC qual scope s.heap.objs.size f cd::outer),H1 b=none:=I.stkFree;have hsub:∀ b∈frs (envOfC qual scope s.heap.objs.size f cd::outer),b∈s.heap.objs.size::frs outer:=I.stkSub;refine Zut (B:=hideAll s1.heap (frs (envOfC qual scope s.heap.objs.size f cd::outer))) (h0:=s1.heap) I.ok.frames rfl (λb o q=>of_hideAll _ q) (funFrames_hide hstk hin) hx λh' x1 x4=>?_;have keepB:∀ b o,s1.heap.get? b=some o->b∉frs (envOfC qual scope s.heap.objs.size f cd::outer)->h'.get? b=some o:=λb o q nb=>x1.st b o (hideAll_get _ q nb);have hne:s1.heap.get? e=none:=hx.new;have ub:Un (frs outer) [] H H1 s.heap s1.heap:=I.base;have nst:∀ b o,s.heap.get? b=some o->b∉frs outer->b∉frs (envOfC qual scope s.heap.objs.size f cd::outer):=λb o q nb z=>by
  rcases Jax.mp (hsub b z) with e1|z
  .exact absurd (Jae q) (by rw[e1];exact Jbv _)
  .exact nb z
 have slotS:∀ b o,s1.heap.get? b=some o->b∈frs (envOfC qual scope s.heap.objs.size f cd::outer)->∃ sl,h'.get? b=some { o with slots:=sl }:=λb o q hb=>by
  obtain⟨_,o',ho',hd⟩:=hstk.mem hb;rw[q] at ho';cases ho';exact x4 b o (hx.keeps b o q) hd
 refine Zkk e cls .none H1 ⟨rfl,⟨ho.trans I.os,hg,HOk.track I.hok (λb u o hb q=>keepB b o q (λz=>by rw[hfree b z] at hb;cases hb)),⟨λb o q n hb hx=>?_,λb o q n hb hx=>?_,λb o q n hx=>ub.free b o q n hx,λb o q hx=>?_,ub.tups,ub.frzs,ub.tbls⟩,⟨_,x1,λb o q nb=>?_,λb u hb=>?_⟩,λo q=>?_,?_⟩,hE,.inl rfl⟩
 .exact keepB b o (ub.keep b o q n hb hx) (nst b o q hb)
 .obtain ⟨sl,e1⟩:=ub.slot b o q n hb hx;obtain⟨sl',e2⟩:=slotS b _ e1 (by unfold frs at hb ⊢;rw[Jcj];split <;> first|exact hb|exact Ja9 _ hb);exact⟨sl',e2⟩
 .obtain ⟨o',e1⟩:=ub.there b o q hx;by_cases z:b∈frs (envOfC qual scope s.heap.objs.size f cd::outer)
  .obtain ⟨sl,e2⟩:=slotS b o' e1 z;exact⟨_,e2⟩
  .exact ⟨o',keepB b o' e1 z⟩
 .obtain ⟨o',e1⟩:=ub.there b o q (by simp);exact⟨o',hideAll_get _ e1 (nst b o q nb)⟩
 .obtain ⟨o',e1⟩:=ObjOk.there (I.hok b u hb);exact⟨o',hideAll_get _ e1 λz=>by rw[hfree b z] at hb;cases hb⟩
 .obtain ⟨o',e1⟩:=ub.there e o q (by simp);rw[hne] at e1;cases e1
 .cases z:H1 e with
  | none=>rfl
  | some u=>
   obtain⟨o',e1⟩:=ObjOk.there (I.hok e u z);rw[hne] at e1;cases e1
end
end L2
namespace L2
open PySem PySem.Spec PyProof.Rows PySem.W
def Zoc (t:TA)(R:Hp->Prop):TS:=λ_ σ H=>t σ H λvs H1=>vs.length<=1000/\R H1
section
variable {X:Cx}{x:Str}{C:Addr}{bm bmN:List Value}{B Bn newId nid initId inN:String}{np cpos pos:Pos}{e₀:Expr}{rest:List Expr}{t:TA}{R:Hp->Prop}
theorem Zva (hc:X.calm=true)(O:OwnCls x C bm newId X.mg X.base)(Fn:ExcBaseFacts Bn newId inN bmN)(hBn:bm.contains (.type Bn)=true)(FB:ExcBaseFacts B nid initId bm)(hg:Gl X x)(ha:PA X (e₀::rest) t)(hxe:∀ pins σ H1 s1 s2 e vs,Inv X pins σ H1 s1->Heap.MadeExcOf s1.heap s2.heap e (.ref C) vs->s2.os=s1.os->AllBare s2.gens->R H1->X.xe (.ref e) s2)(h1:Zbf e₀=false:=by rfl)(h2:rest.all (λx=>!Zbf x)=true:=by rfl)(hd:(x == ("__debug__" : Str))=false:=by decide):
  PS X (.Raise (some (.Call (.Name x np) (e₀::rest) [] cpos)) none pos) (Zoc t R):=by
 intro pins s σ H D I h;have he:=Zaz (e:=e₀) (es:=rest) (env:=X.env) h1;have hpl:=Zdc (pos:=cpos) (env:=X.env) h2;refine Zw4 O.obj λtl N nm q bs hdct sn sub ab col dd k0 k1 k2 k3 k5 mN hC hN hni T=>?_;refine wpAny_Raise_call_subU (C:=C) (nm:=nm) (q:=q) (N:=N) (bs:=bs) (bm:=tl) (hdct:=hdct) (sn:=sn) (sub:=sub) (ab:=ab) (col:=col) (dd:=dd) (k0:=k0) (k1:=k1) (k2:=k2) (k3:=k3) (k5:=k5)
  Fn hBn FB (mN:=mN) (T.hasType FB.hasBase) (I.ok.hd hc) (by rw[he];show (false || (backTo cpos (starEach rest X.env)).any (·.1))=false;rw[hpl];rfl) hni (Zhr I hg O.bound ⟨rfl,?_⟩ hd)
 have hA:=ha cpos pins s σ H _ I h;rw[he] at hA ⊢;refine Calls.evalArgs_plain (Jbg hA (λus s2 ⟨vs,H2,I2,rv,hl,r2⟩=>⟨rfl,?_,I2.bk _ _ hC,hN.keeps I2.bk,T.keeps I2.bk,λh' e hm=>?_⟩) λ_ _ y=>y)
 .rw [<- rv.length];exact Jbl (Zaj hl)
 .exact hxe pins σ H2 s2 _ e us I2 hm rfl I2.bare r2
end
end L2
namespace L2
open PySem PySem.Spec PyProof.Rows PySem.W
section
theorem Fun.okE {x qual:Str}{st:Stmt}{f:Addr}{fd:FuncData}{N ps:List Str}{k:Nat}{sp:Sp}(F:Fun K x qual st f fd)(S:FnScope N ps (Zae st))(len:∀ vs H Q E,sp vs H Q E->vs.length=ps.length)(hbody:∀ (cdv:Value) (A:Around) (outer:List Env) (s:Shared) (H:Hp) (vs:List V) (Q:VK) (E:XK),Room k (A.deeper (envOfC qual (Zae st) s.heap.objs.size f cdv))->sp vs H Q E->
   ∃ t,PSs (Zny (CXe P w) P w K mg base N qual (Zae st) f cdv A outer s H E) (Zci st) t/\t { nx:=λ_ H'=>Q .non H',rt:=Q } (start N vs) H):FnOk P w K mg base (CXe P w) (k+1) f fd ps sp:=by
 refine Zqp F.ex λoc od kV doc pm an cdv ct osl e91 lk hcd=>?_;obtain rfl:=e91;exact fn_of lk hcd S len λA outer s H vs Q E hr hsp=>hbody cdv A outer s H vs Q E hr hsp
theorem Zsa {x:Str}{C:Addr}{bmB:List Value}{newId:String}{h:Heap}(X:K.In h)(b:mg x=some (.ref C))(q:excIn K C bmB newId=true):OwnCls x C bmB newId mg h:=by
 refine⟨b,?_⟩;unfold excIn at q;split at q
 .rename_i dd cd sl ho
  split at q
  .rename_i C' bm k0 k1 k2 k3 n k5 hm hs
   simp only[Jb5,Jbt,Bool.not_eq_true'] at q;obtain⟨⟨⟨⟨⟨rfl,rfl⟩,hdel⟩,ht⟩,hok⟩,hni⟩:=q;obtain⟨nm,bs,mro,ns,qn,hd,sn,sub,ab,col,del⟩:=cd;dsimp only at hm hdel hok hni;subst hm hdel;have hsl:sl=#[k0,k1,k2,k3,some (.builtin n),k5]:=by
    obtain⟨l⟩:=sl;simp only at hs;rw[hs]
   subst hsl;exact xI17_1 bm ns nm qn bs hd sn sub ab col dd k0 k1 k2 k3 k5 _ ⟨X _ _ ho,.of_isNs (isNs_of_in X hok),nsMap_none_of_in X hok hni,tail_of_in X ht⟩
  .cases q
 .cases q
end
section
variable {X:Cx}{pins:List (Addr×Obj)}{σ:St}{H H':Hp}{s s':Shared}{a:Addr}{cls:Value}
theorem Fly.land {B:Heap}{c0 f0:Value}(I:Inv X pins σ H s)(hl:X.env.locals∈frs X.stack)(F:Fly X.prog X.w X.stack H s a cls c0 H' s')(fl:Trk B X.stack a cls c0 f0 s'.heap)(inB:∀ b o,s.heap.get? b=some o->b∉frs X.stack->∃ o',B.get? b=some o')(trB:∀ b u,H' b=some u->∃ o',B.get? b=some o'){h':Heap}(st:B.StaysIn h')(x4:s'.heap.UpToSlots h'):Inv X pins σ H' { s' with heap:=h' }:=by
 have keepB:∀ b o,(∃ o',B.get? b=some o')->s'.heap.get? b=some o->h'.get? b=some o:=λb o ⟨o',hb⟩ q=>by
  have:=fl.st b o' hb;rw[q] at this;cases this;exact st b _ hb
 have slotS:∀ b o,s'.heap.get? b=some o->b∈frs X.stack->∃ sl,h'.get? b=some { o with slots:=sl }:=λb o q hb=>by
  obtain⟨_,o',ho',hd⟩:=fl.ff.mem hb;rw[q] at ho';cases ho';exact x4 b o q hd
 have sup:∀ b,b∈X.fs->b∈frs X.stack:=λb hb=>by
  rcases I.ok.stk with e|⟨e,hf⟩
  .rw [e];exact hb
  .rw [e];unfold Cx.fs frs at *;rw[Jcj,hf];exact Ja9 _ hb
 have nst:∀ b,b≠X.env.locals->b∉X.fs->b∉frs X.stack:=λb h1 h2 z=>by
  rcases Jax.mp (I.stkSub b z) with e|z
  .exact h1 e
  .exact h2 z
 obtain⟨hh,g,d,t,os'⟩:=s';obtain rfl:os'=s.os:=F.os;show Inv X pins σ H' { s with heap:=h',gens:=g,drawn:=d,toks:=t };refine I.step (ch:=[]) (λb z=>absurd z (by simp)) (λb o n1 n2 _ q n=>?_) (λb o n1 n2 _ q n=>?_) (λb o _ q n=>F.un.free b o q n (by simp)) (λb o _ q=>?_) F.un.tups F.un.frzs F.un.tbls (λm hn=>?_) (HOk.track F.hok λb u o hb q=>keepB b o (trB b u hb) q) F.bare
 .exact keepB b o (inB b o q (nst b n1 n2)) (F.un.keep b o q n (nst b n1 n2) (by simp))
 .obtain ⟨sl,e1⟩:=F.un.slot b o q n (sup b n2) (by simp);obtain⟨sl',e2⟩:=slotS b _ e1 (sup b n2);exact⟨sl',e2⟩
 .obtain ⟨o',e1⟩:=F.un.there b o q (by simp);by_cases z:b∈frs X.stack
  .obtain ⟨sl,e2⟩:=slotS b o' e1 z;exact⟨_,e2⟩
  .exact ⟨o',keepB b o' (inB b o q z) e1⟩
 .refine Zim hn λo es ep ho hd r=>?_;clear hn;obtain⟨sl,e1⟩:=F.un.slot _ o ho I.free hl (by simp);obtain⟨sl',e2⟩:=slotS _ _ e1 hl;exact Za9 _ es ep ⟨e2,hd,r⟩
end
end L2
namespace L2
open PySem PySem.Spec PyProof.Rows PySem.W
section
variable {M:Model}{A:Around}{E:Value->Shared->Prop}
variable {nm q:Str}{C N:Addr}{bs bm:List Value}{hdct:Bool}{sn:List Str}{sub:List Value}{ab:Bool}{col:Option Bool}{dd:Option Addr}{k0 k1 k2 k3 k5:Option Value}{newId:String}
variable {nm' q':Str}{C' N':Addr}{bs' bm':List Value}{hdct':Bool}{sn':List Str}{sub':List Value}{ab':Bool}{col':Option Bool}{dd':Option Addr}{j0 j1 j2 j3 j5:Option Value}{newId':String}
theorem Znp {h:Heap}{g:Array GenState}{d:Drawn}{t:Nat}{os:OsState}{e:Addr}{oe:Obj}{Q:Bool->Shared->Prop}(hC:h.get? C=some (excClassObj nm q C N bs bm hdct sn sub ab col dd k0 k1 k2 k3 k5 newId))(hD:h.get? C'=some (excClassObj nm' q' C' N' bs' bm' hdct' sn' sub' ab' col' dd' j0 j1 j2 j3 j5 newId'))(he:h.get? e=some oe)(hcls:oe.cls=.ref C)(hbase:bm'.contains (.type "BaseException")=true)(hsub:bm.contains (.ref C')=true)(hq:Q true ⟨h,g,d,t,os⟩):wpAny M A (excMatches (.ref e) (.ref C')) Q E ⟨h,g,d,t,os⟩:=by
 have hcB:(Value.ref C'::bm').contains (.type "BaseException")=true:=by rw[Je4,hbase,Bool.or_true]
 have hcC:(Value.ref C::bm).contains (.ref C')=true:=by rw[Je4,hsub,Bool.or_true]
 have f:=tc_notTuple;unfold excMatches
 repeat (first|(with_reducible refine Jdl he ?_;rw[hcls])|with_reducible refine Jdl hD ?_|(with_reducible refine wpAny_isSubtype_exc hD ?_;rw[hcB])|(with_reducible refine wpAny_isSubtype_exc hC ?_;rw[hcC])|wp_step)
 exact hq
end
end L2
namespace L2
open PySem PySem.Spec PyProof.Rows PySem.W
abbrev Cx.pnx (X:Cx)(pins:List (Addr×Obj)):Cx:={ X with pn:=X.pn++pins }
abbrev Cx.hnd (X:Cx)(pins:List (Addr×Obj))(a:Addr):Cx:={ X with pn:=X.pn++pins,A:=X.A.mark (some (.ref a)),calm:=false,xe:=λ_ _=>False }
section
variable {X:Cx}{pins pins':List (Addr×Obj)}{σ:St}{H:Hp}{s:Shared}{a:Addr}
theorem Inv.pnx (I:Inv X pins σ H s):Inv (X.pnx pins) [] σ H s:=
 ⟨⟨I.ok.mod,I.ok.kind,I.ok.glob,I.ok.blt,I.ok.above,I.ok.inj,I.ok.has,I.ok.cab,I.ok.hd,I.ok.frames,I.ok.stk,I.ok.exf,I.ok.bs,I.ok.bsz,I.ok.noex,I.ok.exfs,I.ok.funs,I.ok.frf,I.ok.top⟩,I.os,I.bare,I.base,I.loc,I.cell,I.free,I.freeC,λp hp=>I.pin p (by simpa using hp),I.hok,I.len⟩
theorem Inv.unpnx (I:Inv (X.pnx pins) pins' σ H s):Inv X pins σ H s:=
 ⟨⟨I.ok.mod,I.ok.kind,I.ok.glob,I.ok.blt,I.ok.above,I.ok.inj,I.ok.has,I.ok.cab,I.ok.hd,I.ok.frames,I.ok.stk,I.ok.exf,I.ok.bs,I.ok.bsz,I.ok.noex,I.ok.exfs,I.ok.funs,I.ok.frf,I.ok.top⟩,I.os,I.bare,I.base,I.loc,I.cell,I.free,I.freeC,λp hp=>I.pin p (Jcz _ hp),I.hok,I.len⟩
theorem Inv.hnd (I:Inv X pins σ H s)(a:Addr):Inv (X.hnd pins a) [] σ H s:=
 ⟨⟨I.ok.mod,I.ok.kind,I.ok.glob,I.ok.blt,I.ok.above,I.ok.inj,I.ok.has,I.ok.cab,(λz=>nomatch z),I.ok.frames,I.ok.stk,I.ok.exf,I.ok.bs,I.ok.bsz,I.ok.noex,I.ok.exfs,I.ok.funs,I.ok.frf,I.ok.top⟩,I.os,I.bare,I.base,I.loc,I.cell,I.free,I.freeC,λp hp=>I.pin p (by simpa using hp),I.hok,I.len⟩
theorem Inv.unhnd (ok:X.Ok)(I:Inv (X.hnd pins a) pins' σ H s):Inv X pins σ H s:=
 ⟨ok,I.os,I.bare,I.base,I.loc,I.cell,I.free,I.freeC,λp hp=>I.pin p (Jcz _ hp),I.hok,I.len⟩
theorem Inv.track {o:HO}(I:Inv X pins σ H s)(hn:H a=none)(h0:∀ u,X.s₀.heap.get? a≠some u)(hL:a≠X.env.locals)(hc:∀ x c,X.env.cells.lookup x=some c->c≠a)(hp:∀ p∈X.pn++pins,p.1≠a)(new:ObjOk X.prog X.w (upd H a o) s.heap a o):Inv X pins σ (upd H a o) s:=by
 have ne:∀ {b:Addr} {u:HO},H b=some u->b≠a:=λ{b u} hb z=>by rw[z,hn] at hb;cases hb
 refine⟨I.ok,I.os,I.bare,⟨I.base.keep,I.base.slot,λb u q n hx=>?_,I.base.there,λb xs z=>?_,λb u v z=>?_,λb ps z=>?_⟩,I.loc,I.cell,?_,λx c e=>?_,λp hp'=>?_,λb u hb=>?_,I.len⟩
 .rw [Zag (λz=>h0 u (by rw[<- z];exact q))];exact I.base.free b u q n hx
 .have:=I.base.tups b xs z;rw[Zag (ne this)];exact this
 .have:=I.base.frzs b u v z;rw[Zag (ne this)];exact this
 .obtain ⟨m,e⟩:=I.base.tbls b ps z;exact⟨m,by rw[Zag (ne e)];exact e⟩
 .rw [Zag hL.symm];exact I.free
 .rw [Zag (hc x c e)];exact I.freeC x c e
 .refine Zdu (I.pin p hp') λp1 p2 p3 p4 p5=>?_;exact⟨p1,by rw[Zag (hp p hp')];exact p2,p3,p4,p5⟩
 .by_cases hb':b=a
  .subst hb';rw[Zaa] at hb;cases hb;exact new
  .rw [Zag hb'] at hb;exact (I.hok b u hb).stay (λ_ _ _ q=>q) (λc z=>by rw[Zag (ne z)];exact z) (λc xs z=>by rw[Zag (ne z)];exact z) λc _ _ z=>by rw[Zag (ne z)];exact z
theorem Inv.goes {h':Heap}{m':Str->Option Value}{t':Nat}(I:Inv X pins σ H s)(hn:h'.Ns X.env.locals m')(sb:Heap.SameBut X.env.locals s.heap h'):Inv X pins (List.replicate X.N.length none) H { s with heap:=h',toks:=t' }:=by
 have neL:∀ b o,X.s₀.heap.get? b=some o->b≠X.env.locals:=λb o e=>Ja1 (Ja3 (Jae e) I.ok.above);have k:∀ b o,b≠X.env.locals->s.heap.get? b=some o->h'.get? b=some o:=λb o n e=>(sb.2 b n).trans e;refine⟨I.ok,I.os,I.bare,⟨λb o q n hb hx=>k b o (neL b o q) (I.base.keep b o q n hb hx),λb o q n hb hx=>?_,I.base.free,λb o q hx=>?_,I.base.tups,I.base.frzs,I.base.tbls⟩,⟨m',hn,λi x v e1 e2=>?_⟩,λx c e=>?_,I.free,I.freeC,λp hp=>?_,HOk.track I.hok λb u o hb q=>k b o (λz=>by rw[z,I.free] at hb;cases hb) q,by simp⟩
 .obtain ⟨sl,e1⟩:=I.base.slot b o q n hb hx;exact⟨sl,k b _ (neL b o q) e1⟩
 .obtain ⟨o',e1⟩:=I.base.there b o q hx;exact⟨o',k b o' (neL b o q) e1⟩
 .rw [Jby] at e2;split at e2
  .cases e2
  .cases e2
 .obtain ⟨v,o,ho,hd⟩:=I.cell x c e;exact⟨v,o,k c o (I.cne x c e) ho,hd⟩
 .refine Zdu (I.pin p hp) λp1 p2 p3 p4 p5=>?_;exact⟨k _ _ p3 p1,p2,p3,p4,p5⟩
end
def Zie (a:Addr)(cls:Value):HO:=.ext λh=>∃ ob,h.get? a=some ob/\ob.cls=cls
theorem Zwh {P:Program}{w:World}{H:Hp}{h:Heap}{a:Addr}{cls:Value}{ob:Obj}(e:h.get? a=some ob)(c:ob.cls=cls):ObjOk P w H h a (Zie a cls):=
 ⟨⟨ob,e,c⟩,⟨ob,e⟩,λh1 h2 ⟨o,e1,c1⟩ k=>⟨o,k o e1,c1⟩⟩
def Zwm (X:Cx)(D:Ends):Ends:={ nx:=λ_ H=>D.nx (List.replicate X.N.length none) H,rt:=D.rt,bk:=λ_ H=>D.bk (List.replicate X.N.length none) H,ct:=λ_ H=>D.ct (List.replicate X.N.length none) H }
def tTry (X:Cx)(E':XK)(tb:TS)(i:Nat)(th:TS):TS:=λD σ H=>tb D σ H/\∀ (cls:Value) (H':Hp) (a:Addr) (σ':St),E' cls none H'->H' a=none->σ'.length=X.N.length->th (Zwm X D) (σ'.set i (some (.ref a))) (upd H' a (Zie a cls))
section
variable {X:Cx}{x n:Str}{np hpos pos:Pos}{body suite:List Stmt}{b₀:Stmt}{E':XK}{tb th:TS}{i:Nat}{D:Addr}{bmD:List Value}{newD:String}
theorem ps_try (hstk:X.stack=X.env::X.outer)(hfr:X.env.frame=some X.env.locals)(hex:X.ex=[])(hb:∀ pins xt,Zeg (CXe X.prog X.w) ((X.pnx pins).wish xt) E'->PSs ((X.pnx pins).wish xt) body tb)(hs:∀ pins a,PSs (X.hnd pins a) (b₀::suite) th)(hg:Gl X x)(OD:OwnCls x D bmD newD X.mg X.base)(hDB:bmD.contains (.type "BaseException")=true)(hC:∀ cls H',E' cls none H'->∃ C nm q N bs bm hdct sn sub ab col dd k0 k1 k2 k3 k5 new,cls=.ref C/\X.base.get? C=some (excClassObj nm q C N bs bm hdct sn sub ab col dd k0 k1 k2 k3 k5 new)/\bm.contains (.ref D)=true)(hN:X.N.Nodup)(hi:X.N[i]?=some n)(hn:X.env.scope.names.lookup n=some .local)(hd:(x == ("__debug__" : Str))=false:=by decide):
  PS X (.Try body [.ExceptHandler (some (.Name x np)) (some n) (b₀::suite) hpos] [] [] pos) (tTry X E' tb i th):=by
 intro pins s σ H Dn I h;obtain⟨hbody,hhand⟩:=h;rw[arm_exec_Try];refine Jac (Jcd (wpAny_tryStmt_except ?_));have hp:Zeg (CXe X.prog X.w) ((X.pnx pins).wish λe s'=>∃ pins' σ' H1 s1,Inv (X.pnx pins) pins' σ' H1 s1/\CXe X.prog X.w X.stack H1 s1 E' e s') E':=λpins' σ' H1 s1 e s' I1 h=>⟨pins',σ',H1,s1,I1.unwish,h⟩
 have hl:X.env.locals∈frs X.stack:=by rw[hstk];unfold frs;rw[Jcj,hfr];exact Jb3
 refine Jbg (hb pins _ hp [] s σ H Dn (I.pnx.wish _) hbody) (λf s₁ h₁=>?_) (λe s₁ h₁=>?_)
 .cases f with
  | next=>obtain⟨σ',H',J,q⟩:=h₁;exact Jdz ⟨σ',H',J.unwish.unpnx,q⟩
  | brk=>obtain⟨σ',H',J,q⟩:=h₁;exact⟨σ',H',J.unwish.unpnx,q⟩
  | cont=>obtain⟨σ',H',J,q⟩:=h₁;exact⟨σ',H',J.unwish.unpnx,q⟩
  | ret u=>obtain⟨v,σ',H',J,r,q⟩:=h₁;exact⟨v,σ',H',J.unwish.unpnx,r,q⟩
 .refine Zm2 h₁ λpins' σ' H1 s1 I1 e91=>?_;clear h₁;obtain⟨a,cls,c0,H',rfl,F,hE,_⟩:=e91;refine Zap F.fly λB fl inB trB=>?_;have J1:Inv X pins σ' H1 s1:=I1.unpnx;refine Zus (B:=B) (env:=X.env) (fr:=X.outer) (by rw[I.ok.frames,hstk]) hfr (hstk ▸ fl) λh₄ held₄ sm₄=>?_;refine Zkn (s:={ s₁ with heap:=h₄ }) none held₄ λh₅ fl₅ sm₅=>?_;have J5:Inv X pins σ' H' { s₁ with heap:=h₅ }:=F.land J1 hl fl inB trB fl₅.st (sm₄.trans sm₅);refine xE18_3 (hC cls H' hE) λC nm q N bs bm hdct sn sub ab col dd k0 k1 k2 k3 k5 new e92 hCb hsub=>?_;obtain rfl:=e92;refine Zw4 OD.obj λtl N' nm' q' bs' hdct' sn' sub' ab' col' dd' j0 j1 j2 j3 j5 mN hDb _ _ T=>?_;refine Zah fl₅.there λob hob hobc=>?_;refine wpAny_handleBy_cons (codeAny_handlers_test (Zhr (X:=X.hnd pins a) (J5.hnd a) hg OD.bound ?_ hd)) (by intro q;cases q);refine Znp (J5.bk _ _ hCb) (J5.bk _ _ hDb) hob hobc (T.hasType hDB) hsub ?_;refine codeAny_handlers_suite_as (Zkn (s:={ s₁ with heap:=h₅ }) none fl₅ λh₆ fl₆ sm₆=>?_);have J6:Inv X pins σ' H' { s₁ with heap:=h₆ }:=F.land J1 hl fl inB trB fl₆.st ((sm₄.trans sm₅).trans sm₆);refine Zah fl₆.there λob6 hob6 hobc6=>?_;have new1:∀ b o,s1.heap.get? b=some o->b≠a:=λb o e z=>F.new o (by rw[<- z];exact e);have J7:=J6.track (a:=a) (o:=Zie a (.ref C)) F.free (λu z=>by
    obtain⟨o',e1⟩:=J1.base.there a u z (by rw[hex];simp);exact F.new o' e1) (by
    refine Zah J1.loc λm e93 _=>?_;obtain⟨o,_,_,ho,_⟩:=e93;exact (new1 _ o ho).symm) (λy c e=>by
    obtain⟨v,o,ho,_⟩:=J1.cell y c e;exact new1 _ o ho) (λp hp=>new1 _ _ (J1.pin p hp).1) (Zwh hob6 hobc6)
  refine Zdb J7 hN hi (.inl hn) (v:=.ref a) rfl (λs7 J8=>?_) (.inr hn);have hk:X.env.kindOf n=some .local:=hn;have hcls:(X.env.scope.kind == .class || (X.env.scope.kind == .module && X.env.locals != X.env.globals))=false:=by rw[I.ok.kind];rfl
  refine Jbg (hs pins a [] s7 _ _ (Zwm X Dn) (J8.hnd a) (hhand _ _ _ _ hE F.free J1.len)) (λf s8 h8=>?_) λ_ _ z=>z.elim;cases f with
  | next=>
   refine Zbg h8 λσ8 H8 J q=>?_;clear h8;have J9:=Inv.unhnd I.ok J;refine Zah J9.loc λm hn8 _=>?_;exact Jfb hk hn8 hcls λh' m' hn' sb=>⟨_,_,J9.goes hn' sb,q⟩
  | brk=>
   refine Zbg h8 λσ8 H8 J q=>?_;clear h8;have J9:=Inv.unhnd I.ok J;refine Zah J9.loc λm hn8 _=>?_;exact Jfb hk hn8 hcls λh' m' hn' sb=>⟨_,_,J9.goes hn' sb,q⟩
  | cont=>
   refine Zbg h8 λσ8 H8 J q=>?_;clear h8;have J9:=Inv.unhnd I.ok J;refine Zah J9.loc λm hn8 _=>?_;exact Jfb hk hn8 hcls λh' m' hn' sb=>⟨_,_,J9.goes hn' sb,q⟩
  | ret u=>
   refine Zim h8 λv σ8 H8 J r q=>?_;clear h8;have J9:=Inv.unhnd I.ok J;refine Zah J9.loc λm hn8 _=>?_;exact Jfb hk hn8 hcls λh' m' hn' sb=>⟨v,_,_,J9.goes hn' sb,r,q⟩
end
end L2
namespace L2
open PySem PySem.Spec PySem.Calls PyProof.Rows PySem.W Builtin Builtin.ObjectAttr Builtin.Getset_descriptor
structure ExcCls (K:Frag)(C:Addr):Prop where
 ga:findIn K (.ref C) "__getattribute__" = some (some (.builtin "BaseException.__getattribute__"))
 gt:findIn K (.ref C) "__getattr__" = some none
 cl:findIn K (.ref C) "__class__" = some (some (.builtin "object.__class__"))
 so:mroIn K C (.type "object")=some true
 sb:mroIn K C (.type "BaseException")=some true
section
variable {prog:Program}{w:World}{A:Around}{E:Value->Shared->Prop}{h:Heap}{g:Array GenState}{d:Drawn}{t:Nat}{os:OsState}{a C:Addr}{ox:Obj}{K:Frag}
theorem Zul {tp:Value}{R:Result->Shared->Prop}(Z:ExcCls K C)(X:K.In h)(hx:h.get? a=some ox)(hc:ox.cls=.ref C)(hq:R (.ok (.ret (.ref C))) ⟨h,g,d,t,os⟩):
  codeAny (model prog w) A (.call (.builtin "getset_descriptor.__get__") ⟨[.builtin "object.__class__",.ref a,tp],[]⟩) R ⟨h,g,d,t,os⟩:=by
 have L0:Looks (model prog w) h (typeOf (.ref a)) (.ref C):=hc ▸ (Looks.ld hx).andThen .now;have L1:=looks_mroIn (M:=model prog w) X Z.so;refine codeAny_call_builtin KF.slot_gs.plain KF.entry_gs (KF.slot_gs.check _ _ _ _ _ _ _ _ KF.type_class (KF.args_gs _ _ _) ?_);unfold Builtin.«getset_descriptor.__get__» descrGet;rw[dga_obj];refine Jac (Jal ?_);unfold descrGetter descrCheckInstance descrNameAndClass isInstance;simp only[KF.owner_class]
 repeat lk
 refine⟨Code.quiet_builtin _ ⋯,codeAny_builtin KF.entry_class ?_⟩;unfold Builtin.«object.__class__» shownTypeOf
 repeat lk
 exact hq
theorem Zpj {tk:Tok}{Q:Fin->Shared->Prop}(Z:ExcCls K C)(X:K.In h)(hx:h.get? a=some ox)(hc:ox.cls=.ref C)(hq:Q (.done (.ret (.ref C))) ⟨h,g,d,t,os⟩):
  wpAny (model prog w) A (Builtin.«object.__getattribute__» ⟨[.ref a,.str "__class__" tk],[]⟩) Q E ⟨h,g,d,t,os⟩:=by
 have hT5:(⟨h,g,d,t,os⟩:Shared).TypeIs (.builtin "object.__class__") "getset_descriptor" := F.typeOf_object_class;have f5:=F.typeOf_object_class;have f6:=F.slot_gs_get.lookup;have f7:=F.slot_gs_set.lookup;have L4:=looks_findIn (M:=model prog w) X Z.cl
 repeat (any_goals (first|assumption|(with_reducible refine Jdl hx ?_;rw[hc])|with_reducible refine L4.at ?_|wp_step))
 refine Zul Z X hx hc ?_
 repeat (any_goals (first|assumption|wp_step))
theorem Zpk {M:Model}{nameV:Value}{Q:Unit->Shared->Prop}(Z:ExcCls K C)(X:K.In h)(hx:h.get? a=some ox)(hc:ox.cls=.ref C)(hq:Q () ⟨h,g,d,t,os⟩):
  wpAny M A (checkBuiltinCall "BaseException.__getattribute__" ⟨[.ref a,nameV],[]⟩) Q E ⟨h,g,d,t,os⟩:=by
 have hk:builtinKind "BaseException.__getattribute__" = some .slot:=⋯
 have hsplit:splitId "BaseException.__getattribute__" = some ("BaseException","__getattribute__"):=⋯
 have L1:=looks_mroIn (M:=M) X Z.sb;have ha:=F.args_bexc_ga (.ref a) nameV;simp only[checkBuiltinCall,hk,hsplit];refine Jac ?_;unfold isInstance
 repeat (first|(with_reducible refine Jdl hx ?_;rw[hc])|with_reducible refine L1.at ?_|wp_step)
 exact hq
theorem Zqm {tk:Tok}{R:Result->Shared->Prop}(Z:ExcCls K C)(X:K.In h)(hx:h.get? a=some ox)(hc:ox.cls=.ref C)(hq:R (.ok (.ret (.ref C))) ⟨h,g,d,t,os⟩):
  codeAny (model prog w) A (.call (.builtin "BaseException.__getattribute__") ⟨[.ref a,.str "__class__" tk],[]⟩) R ⟨h,g,d,t,os⟩:=
 codeAny_call_builtin F.excAttr_ValueError.ga.plain F.entry_bexc_ga (Zpk Z X hx hc (Zpj Z X hx hc hq))
theorem xcls_by {tk:Tok}{fill expr:Bool}{Q:Value->Shared->Prop}(Z:ExcCls K C)(X:K.In h)(hx:h.get? a=some ox)(hc:ox.cls=.ref C)(hq:Q (.ref C) ⟨h,g,d,t,os⟩):
  wpAny (model prog w) A (getAttrBy (.ref a) (.str "__class__" tk) fill expr) Q E ⟨h,g,d,t,os⟩:=by
 have f3:=F.excAttr_ValueError.ga.bind (.ref a);have hx0:(expr && onTheHeap (Value.builtin "BaseException.__getattribute__"))=false:=by cases expr <;> rfl
 have hx2:(Value.builtin "BaseException.__getattribute__" == Value.builtin "object.__getattribute__")=false:=⋯
 have hx1:(onTheHeap (Value.ref C) && Value.builtin "BaseException.__getattribute__" == Value.builtin "object.__getattribute__")=false:=by rw[hx2];rfl
 have L1:=looks_findIn (M:=model prog w) X Z.ga;have L2:=looks_findIn (M:=model prog w) X Z.gt
 repeat (any_goals (first|assumption|(with_reducible refine Jdl hx ?_;rw[hc])|with_reducible refine L1.at ?_|with_reducible refine L2.at ?_|wp_step))
 refine Zqm Z X hx hc ?_
 repeat (any_goals (first|assumption|wp_step))
theorem Zqn {Q:Option Value->Shared->Prop}(Z:ExcCls K C)(X:K.In h)(hx:h.get? a=some ox)(hc:ox.cls=.ref C)(hq:Q (some (.ref C)) ⟨h,g,d,t+1,os⟩):
  wpAny (model prog w) A (getAttr? (.ref a) "__class__") Q E ⟨h,g,d,t,os⟩:=by
 unfold getAttr? getAttrBy?;refine Jac (wpAny_mkText (Jac (wpAny_attempt (xcls_by Z X hx hc ?_))));exact Jal hq
def ExcAt (a C:Addr)(h:Heap):Prop:=∃ ob,h.get? a=some ob/\ob.cls=.ref C
theorem Zo2 (Z:ExcCls K C)(hC:(clsIn K C).isSome=true):KitX K (.ref a) (.ref C) (ExcAt a C) where
 ty:=λ_ _ _ ⟨ob,hx,hc⟩=>hc ▸ (Looks.ld hx).andThen .now
 it:=λ_ _ X _=>by
  obtain⟨cdD,hcD⟩:=Jce.mp hC;unfold clsIn at hcD;split at hcD
  .rename_i c' d' cd' sl' ho
   intro A' Q' E' s' k q;unfold isType loadHead;exact Jac (wpAny_loadPart (k _ _ (X _ _ ho)) (Jal q))
  .cases hcD
 ne:=λh tp dd its n sl X htp=>by
  obtain⟨cdD,hcD⟩:=Jce.mp hC;refine Bool.eq_false_iff.mpr λq=>?_;have e:C=tp:=Value.ref.inj (Jbt.mp q);subst e;unfold clsIn at hcD;split at hcD
  .rename_i c' d' cd' sl' ho
   have z:=(X _ _ ho).symm.trans htp;cases z
  .cases hcD
 ca:=λ{_ _ _ _ _ s} X ⟨ob,hx,hc⟩ k=>by
  obtain⟨hh,g,d,t,os⟩:=s;exact Zqn Z X hx hc k
end
end L2
namespace L2
open PySem PySem.Spec PyProof.Rows PySem.W
section
variable {X:Cx}
theorem Zxr {pins:List (Addr×Obj)}{σ:St}{H:Hp}{s:Shared}{a C:Addr}(I:Inv X pins σ H s)(ha:H a=some (Zie a (.ref C))):ExcAt a C s.heap:=(I.hok a _ ha).1
theorem Zwy:Zd9 X (.builtin "isinstance") (λxs H Q=>∃ (a C:Addr) (y:V) (c:Value) (b:Bool),xs=[.ref a,y]/\cV y=some c/\H a=some (Zie a (.ref C))/\ExcCls X.K C/\(clsIn X.K C).isSome=true/\PySem.W.kitOne X.K (.ref C) c=some b/\Q (.bl b) H):=by
 intro pins s σ H xs us Q I r h;refine Zcx h λa C y c b e91 hc ha e92=>?_;clear h;obtain rfl:=e91;refine Zbx e92 λZ hC e q=>?_;clear e92;refine Za3 (Zuo r) λu v e93 rx ry=>?_;obtain rfl:=e93;have hv:v=c:=by
  cases y <;> first|(cases hc;done)|(cases hc;cases ry;rfl)
 subst hv;cases rx;exact Jb7 (Zo2 Z hC) I.kIn (Zxr I ha) e (λz=>nomatch z) λtk=>⟨.bl b,H,I.tok _,rfl,q⟩
theorem Zqt:∀ {ys:List V} {cs us:List Value},Vals ys us->ys.map cV=cs.map some->us=cs
 | [],[],_,.nil,_=>rfl
 | y::ys,c::cs,_,.cons r rs,h=>by
  simp only[Ja8,Jch] at h;rw[Zqt rs h.2];congr 1;obtain⟨hc,_⟩:=h;cases y <;> first|(cases hc;done)|(cases hc;cases r;rfl)
theorem Zua:Zd9 X (.builtin "isinstance") (λxs H Q=>∃ (a C t:Addr) (ys:List V) (cs:List Value) (b:Bool),xs=[.ref a,.ref t]/\H t=some (.tup ys)/\ys.map cV=cs.map some/\H a=some (Zie a (.ref C))/\ExcCls X.K C/\(clsIn X.K C).isSome=true/\PySem.W.kitAny X.K (.ref C) cs=some b/\Q (.bl b) H):=by
 intro pins s σ H xs us Q I r h;refine Zkl h λa C t ys cs b e94 ht hc e95=>?_;clear h;obtain rfl:=e94;refine Zdu e95 λha Z hC e q=>?_;clear e95;refine Za3 (Zuo r) λu v e96 rx ry=>?_;obtain rfl:=e96;cases rx;cases ry;obtain⟨_,its,rv,p⟩:=(show ObjOk X.prog X.w H s.heap t (.tup ys) from I.hok t _ ht)
 obtain rfl:=Zqt rv hc;refine Zap p λe97 h1 h2 e98=>?_;clear p;obtain⟨oc,odd,oda,osl⟩:=e97;obtain⟨n,h3⟩:=e98;dsimp only at h2 h3;subst h2 h3;exact PySem.W.kia_tup (Zo2 Z hC) I.kIn (Zxr I ha) h1 e (λz=>nomatch z) λtk=>⟨.bl b,H,I.tok _,rfl,q⟩
theorem Zmt (K:Frag)(hK:X.K=K):Zd9 X (.builtin "isinstance") (λxs H Q=>∃ (a C:Addr) (y:V) (c:Value) (b:Bool),xs=[.ref a,y]/\cV y=some c/\H a=some (Zie a (.ref C))/\ExcCls K C/\(clsIn K C).isSome=true/\PySem.W.kitOne K (.ref C) c=some b/\Q (.bl b) H):=by subst hK;exact Zwy
theorem Zkh (K:Frag)(hK:X.K=K):Zd9 X (.builtin "isinstance") (λxs H Q=>∃ (a C t:Addr) (ys:List V) (cs:List Value) (b:Bool),xs=[.ref a,.ref t]/\H t=some (.tup ys)/\ys.map cV=cs.map some/\H a=some (Zie a (.ref C))/\ExcCls K C/\(clsIn K C).isSome=true/\PySem.W.kitAny K (.ref C) cs=some b/\Q (.bl b) H):=by subst hK;exact Zua
end
end L2
namespace L2
open PySem PySem.Spec PyProof.Rows PySem.W
structure CalE (P:Program)(w:World)(K:Frag)(mg:Str->Option Value)(base:Heap)(x:Str)(k:Nat)(sp:Sp):Prop where
 ex:∃ (f:Addr) (fd:FuncData) (ps:List Str),FnOk P w K mg base (CXe P w) k f fd ps sp/\mg x=some (.ref f)/\PySem.W.keepIn K (.ref f)=true/\Binds K fd ps []
structure CalME (P:Program)(w:World)(K:Frag)(mg:Str->Option Value)(base:Heap)(C:Addr)(m:Str)(k:Nat)(sp:Sp):Prop where
 ex:∃ (f:Addr) (fd:FuncData) (ps:List Str),FnOk P w K mg base (CXe P w) k f fd ps sp/\Meth K C m f/\Binds K fd ps []
structure CalIE (P:Program)(w:World)(K:Frag)(mg:Str->Option Value)(base:Heap)(x:Str)(C:Addr)(k:Nat)(sp:Sp):Prop where
 ex:∃ (f:Addr) (fd:FuncData) (ps:List Str),FnOk P w K mg base (CXe P w) k f fd ps sp/\Mk K C f/\mg x=some (.ref C)/\Binds K fd ps []
section
variable {X:Cx}{x m:Str}{k:Nat}{sp:Sp}{e o:Expr}{es:List Expr}{ta:TE}{t:TA}{p pos apos:Pos}{E:XK}{C:Addr}
theorem pe_cE (M:CalE X.prog X.w X.K X.mg X.base x k sp)(hx:Zeg (CXe X.prog X.w) X E)(hr:Room k X.A)(hg:Gl X x)(ha:PA X (e::es) t)(h:Zbf e=false:=by rfl)(h2:es.all (λx=>!Zbf x)=true:=by rfl)(hdb:(x == ("__debug__" : Str))=false:=by decide):PE X (.Call (.Name x p) (e::es) [] pos) (Zl0 sp [] E t):=by
 refine Zb3 M.ex λf fd ps F hm hk hb=>?_;exact Zr5 F hr hg hm hk hb .nil hx ha hdb (Zaz h) (Zdc h2)
end
theorem hnd_K {X:Cx}{pins:List (Addr×Obj)}{a:Addr}:(X.hnd pins a).K=X.K:=rfl
theorem pnx_K {X:Cx}{pins:List (Addr×Obj)}:(X.pnx pins).K=X.K:=rfl
theorem pass_no {X:Cx}:Zeg (CXe X.prog X.w) X (λ_ _ _=>False):=λ_ _ _ _ _ _ _ ⟨_,_,_,_,_,_,h,_⟩=>h.elim
structure CalDE (P:Program)(w:World)(K:Frag)(mg:Str->Option Value)(base:Heap)(C:Addr)(m:Str)(k:Nat)(sp:Sp)(dvs:List V):Prop where
 ex:∃ (f:Addr) (fd:FuncData) (ps:List Str) (ds:List Value),FnOk P w K mg base (CXe P w) k f fd ps sp/\Meth K C m f/\Binds K fd ps ds/\Vals dvs ds
abbrev bmV:List Value:=[.type "ValueError",.type "Exception",.type "BaseException",.type "object"]
abbrev newV:String:="ValueError.__new__"
theorem Zjq:bootBuiltins "ValueError" = some (.type "ValueError"):=⋯
section
variable {N:List Str}{qual:Str}{scope:Scope}{f:Addr}{cd:Value}{A:Around}{outer:List Env}{s:Shared}{H:Hp}{E:XK}
theorem ps_rse {x:Str}{C:Addr}{np cpos pos:Pos}{e₀:Expr}{rest:List Expr}{t:TA}(O:OwnCls x C bmV newV mg base)(hg:Gl (Zny (CXe P w) P w K mg base N qual scope f cd A outer s H E) x)(ha:PA (Zny (CXe P w) P w K mg base N qual scope f cd A outer s H E) (e₀::rest) t)(h1:Zbf e₀=false:=by rfl)(h2:rest.all (λx=>!Zbf x)=true:=by rfl)(hd:(x == ("__debug__" : Str))=false:=by decide):
  PS (Zny (CXe P w) P w K mg base N qual scope f cd A outer s H E) (.Raise (some (.Call (.Name x np) (e₀::rest) [] cpos)) none pos) (Zoc t (E (.ref C) none)):=
 Zva rfl O PySem.F.excBase_ValueError rfl PySem.F.excBase_ValueError hg ha (λpins σ H1 s1 s2 e vs I hm ho hg hE=>xe_made I hm ho hg hE) h1 h2 hd
theorem Zqf {C:Addr}{b:Value}{r:Bool}(m:mroIn K C b=some r):(clsIn K C).isSome=true:=by
 unfold mroIn at m;cases h:clsIn K C with
 | none=>rw[h] at m;cases m
 | some cd=>rfl
theorem Zr9 {C D:Addr}{bmB:List Value}{newId:String}{h:Heap}(X:K.In h)(q:excIn K C bmB newId=true)(m:mroIn K C (.ref D)=some true)(ne:C≠D):
  ∃ C' nm q N bs bm hdct sn sub ab col dd k0 k1 k2 k3 k5 new,Value.ref C=.ref C'/\h.get? C'=some (excClassObj nm q C' N bs bm hdct sn sub ab col dd k0 k1 k2 k3 k5 new)/\bm.contains (.ref D)=true:=by
 unfold excIn at q;split at q
 .rename_i dd cd sl ho
  split at q
  .rename_i C' bm k0 k1 k2 k3 n k5 hm hs
   simp only[Jb5,Jbt,Bool.not_eq_true'] at q;obtain⟨⟨⟨⟨⟨rfl,rfl⟩,hdel⟩,ht⟩,hok⟩,hni⟩:=q;have hcl:clsIn K C'=some cd:=by unfold clsIn;rw[ho]
   obtain⟨nm,bs,mro,ns,qn,hd,sn,sub,ab,col,del⟩:=cd;dsimp only at hm hdel hok hni;subst hm hdel;have hsl:sl=#[k0,k1,k2,k3,some (.builtin n),k5]:=by
    obtain⟨l⟩:=sl;simp only at hs;rw[hs]
   subst hsl;refine xI18_1 C' nm qn ns bs bm hd sn sub ab col dd k0 k1 k2 k3 k5 _ ⟨rfl,X _ _ ho,?_⟩;unfold mroIn at m;rw[hcl] at m;have m:(Value.ref C'::bm).contains (.ref D)=true:=Jbo m;rw[Je4,Jd2] at m;rcases m with m|m
   .exact absurd (Value.ref.inj (Jbt.mp m)).symm ne
   .exact m
  .cases q
 .cases q
end
end L2
namespace L2
open PySem PySem.Spec PyProof.Rows
structure RoomH (k:Nat)(A:Around):Prop where
 dp:A.depth+3*k+205<recursionLimit
 un:A.units+16*k+200<cLine
theorem Room.mark {k:Nat}{A:Around}(r:Room k A)(v:Option Value):RoomH k (A.mark v):=⟨r.dp,r.un⟩
theorem RoomH.depth {k:Nat}{A:Around}(r:RoomH k A):A.depth<recursionLimit:=by have:=r.dp;omega
theorem RoomH.deeper {k:Nat}{A:Around}(r:RoomH (k+1) A)(env:Env):RoomH k (A.deeper env):=by
 have h1:=r.dp;have h2:=r.un;constructor
 .show A.depth+1+3*k+205<_;omega
 .show A.units+3+16*k+200<_;omega
structure FnOkH (P:Program)(w:World)(K:Frag)(mg:Str->Option Value)(base:Heap)(CX:CXT)(k:Nat)(f:Addr)(fd:FuncData)(ps:List Str)(sp:Sp):Prop where
 len:∀ vs H Q E,sp vs H Q E->vs.length=ps.length
 run:∀ (A:Around) (outer:List Env) (s:Shared) (H:Hp) (args:Args) (us:List Value) (vs:List V) (Q:VK) (E:XK),RoomH k A->Env0 P w K mg base A outer s H->BindsTo s fd args (ps.zip us)->Vals vs us->sp vs H Q E->
  codeAny (model P w) A (.call (.ref f) args) (CR CX outer P w H s Q E) s
abbrev Ztt (CX:CXT)(P:Program)(w:World)(K:Frag)(mg:Str->Option Value)(base:Heap)(N:List Str)(qual:Str)(scope:Scope)(f:Addr)(cd:Value)(A:Around)(outer:List Env)(s:Shared)(H:Hp)(E:XK):Cx:={ Zny CX P w K mg base N qual scope f cd A outer s H E with calm:=false }
theorem Zp7 {CX:CXT}{P:Program}{w:World}{K:Frag}{mg:Str->Option Value}{base:Heap}{N ps:List Str}{qual:Str}{scope:Scope}{f:Addr}{cd:Value}{A:Around}{outer:List Env}{s s1:Shared}{H:Hp}{E:XK}{us:List Value}{vs:List V}(S:FnScope N ps scope)(e0:Env0 P w K mg base A outer s H)(hl:vs.length=ps.length)(r:Vals vs us)(x:InCallC s s.heap.objs.size (bindL (envOfC qual scope s.heap.objs.size f cd).kindOf (ps.zip us) λ_=>none) (cellsFrom (s.heap.objs.size+1) scope.names []) (bindC (envOfC qual scope s.heap.objs.size f cd).kindOf (ps.zip us) λ_=>none) s1):
  Inv (Ztt CX P w K mg base N qual scope f cd A outer s H E) [] (start N vs) H s1:=by
 have I:=Zmk (CX:=CX) (E:=E) (A:={ A with handled:=none }) S rfl ⟨e0.frames,e0.mod,e0.bs,e0.bsz,e0.funs,e0.frf,e0.hok,e0.bare⟩ hl r x;exact⟨⟨I.ok.mod,I.ok.kind,I.ok.glob,I.ok.blt,I.ok.above,I.ok.inj,I.ok.has,I.ok.cab,(λz=>nomatch z),Around.frames_deeper e0.frames,I.ok.stk,I.ok.exf,I.ok.bs,I.ok.bsz,I.ok.noex,I.ok.exfs,I.ok.funs,I.ok.frf,I.ok.top⟩,I.os,I.bare,I.base,I.loc,I.cell,I.free,I.freeC,I.pin,I.hok,I.len⟩
theorem fn_ofH {CX:CXT}{P:Program}{w:World}{K:Frag}{mg:Str->Option Value}{base:Heap}{k:Nat}{f:Addr}{name qual:Str}{params:Arguments}{body:List Stmt}{scope:Scope}{dV kV doc pm cdv ct oc:Value}{an od:Option Addr}{osl:Array (Option Value)}{N ps:List Str}{sp:Sp}(lk:K.lookup f=some ⟨oc,od,.func (PySem.W.fnOf name qual params body scope dV kV doc pm an cdv ct),osl⟩)(hcd:PySem.W.codeIn K cdv qual=true)(S:FnScope N ps scope)(len:∀ vs H Q E,sp vs H Q E->vs.length=ps.length)(hbody:∀ (A:Around) (outer:List Env) (s:Shared) (H:Hp) (vs:List V) (Q:VK) (E:XK),RoomH k (A.deeper (envOfC qual scope s.heap.objs.size f cdv))->sp vs H Q E->
   ∃ t,PSs (Ztt CX P w K mg base N qual scope f cdv A outer s H E) body t/\t { nx:=λ_ H'=>Q .non H',rt:=Q } (start N vs) H):
  FnOkH P w K mg base CX (k+1) f (PySem.W.fnOf name qual params body scope dV kV doc pm an cdv ct) ps sp:=by
 refine⟨len,λA outer s H args us vs Q E hr e0 hb r hsp=>?_⟩;have hl:=len _ _ _ _ hsp;have KX:K.In s.heap:=e0.mod.kin.keeps λb o e=>(e0.bs b o e).1;have lim:s.heap.NoLimit:=e0.mod.nolimit.keeps λb o e=>(e0.bs b o e).1;have hkind:∀ y∈ps.zip us,scope.names.lookup y.1=some .local\/(scope.names.lookup y.1=some .cell/\((cellsFrom (s.heap.objs.size+1) scope.names []).lookup y.1).isSome=true):=λ⟨n,v⟩ hy=>by
  rcases S.par n (Jet hy).1 with q|q
  .exact .inl q
  .exact .inr ⟨q,Jcu _ _ _ (.inl q)⟩
 refine codeAny_call_function hr.depth (KX _ _ lk) rfl S.co S.gen rfl (PySem.W.codeRec_of KX hcd) (hb _ _ _ _ ?_);refine wpAny_newFunctionEnv_cells S.kind hkind λenv he s1 x=>?_;subst he;refine⟨lim.keeps x.toInCall.keep,codeAny_func ?_⟩;refine Zah (hbody A outer s H vs Q E (hr.deeper _) hsp) λt ht hq=>?_;have I:Inv (Ztt CX P w K mg base N qual scope f cdv A outer s H E) [] (start N vs) H s1:=Zp7 S e0 hl r x;refine Jbg (ht [] s1 (start N vs) H _ I hq) (λfl s' hs=>?_) λe s' hs=>hs;have fin:∀ {σ':St} {H':Hp} {v:V} {u:Value},Inv (Ztt CX P w K mg base N qual scope f cdv A outer s H E) [] σ' H' s'->RelV v u->Q v H'->CE outer P w H s Q u s':=
  λ{σ' H' v u} J rv q=>⟨v,H',J.os,J.bare,J.base,J.hok,rv,q⟩
 cases fl with
 | ret u=>
  refine Zim hs λv σ' H' J rv q=>?_;clear hs;exact fin J rv q
 | next=>
  refine Zbg hs λσ' H' J q=>?_;clear hs;exact fin (v:=V.non) (u:=Value.none) J rfl q
 | brk=>
  refine Zbg hs λ_ _ _ q=>?_;clear hs;exact False.elim q
 | cont=>
  refine Zbg hs λ_ _ _ q=>?_;clear hs;exact False.elim q
section
theorem Fun.okH {x qual:Str}{st:Stmt}{f:Addr}{fd:FuncData}{N ps:List Str}{k:Nat}{sp:Sp}(F:Fun K x qual st f fd)(S:FnScope N ps (Zae st))(len:∀ vs H Q E,sp vs H Q E->vs.length=ps.length)(hbody:∀ (cdv:Value) (A:Around) (outer:List Env) (s:Shared) (H:Hp) (vs:List V) (Q:VK) (E:XK),RoomH k (A.deeper (envOfC qual (Zae st) s.heap.objs.size f cdv))->sp vs H Q E->
   ∃ t,PSs (Ztt CX0 P w K mg base N qual (Zae st) f cdv A outer s H E).nox (Zci st) t/\t { nx:=λ_ H'=>Q .non H',rt:=Q } (start N vs) H):FnOkH P w K mg base CX0 (k+1) f fd ps sp:=by
 refine Zqp F.ex λoc od kV doc pm an cdv ct osl e91 lk hcd=>?_;obtain rfl:=e91;refine fn_ofH lk hcd S len λA outer s H vs Q E hr hsp=>?_;refine Zah (hbody cdv A outer s H vs Q E hr hsp) λt h q=>?_;exact⟨t,h.nox,q⟩
structure CalH (P:Program)(w:World)(K:Frag)(mg:Str->Option Value)(base:Heap)(x:Str)(k:Nat)(sp:Sp):Prop where
 ex:∃ (f:Addr) (fd:FuncData) (ps:List Str),FnOkH P w K mg base CX0 k f fd ps sp/\mg x=some (.ref f)/\PySem.W.keepIn K (.ref f)=true/\Binds K fd ps []
end
section
variable {X:Cx}{CX:CXT}{k:Nat}{f C:Addr}{fd:FuncData}{ps:List Str}{sp:Sp}{dvs:List V}{ds:List Value}{E:XK}{x m:Str}{p pos apos:Pos}{e o:Expr}{es:List Expr}{ta:TE}{t:TA}
theorem run_fnH {pins:List (Addr×Obj)}{σ:St}{H:Hp}{s:Shared}{Q:VK}{us:List Value}{vs:List V}(F:FnOkH X.prog X.w X.K X.mg X.base CX k f fd ps sp)(hr:RoomH k X.A)(hb:Binds X.K fd ps ds)(hd:Vals dvs ds)(hx:Zeg CX X E)(I:Inv X pins σ H s)(r:Vals vs us)(h:sp (vs++dvs) H Q E):wpAny (model X.prog X.w) X.A (call (.ref f) us) (EP X pins σ Q) X.xe s:=by
 have r2:Vals (vs++dvs) (us++ds):=r.append hd;have hl:(us++ds).length=ps.length:=by rw[<- r2.length];exact F.len _ _ _ _ h
 refine wpAny_call (Jeh (F.run X.A X.stack s H ⟨us,[]⟩ (us++ds) (vs++dvs) Q E hr I.env0 (hb s us I.kIn hl) r2 h) λr s' hq=>?_);cases r with
 | error e=>exact hx pins σ H s e s' I hq
 | ok fl=>
  cases fl with
  | ret u=>exact I.after hq
  | next=>exact False.elim hq
  | brk=>exact False.elim hq
  | cont=>exact False.elim hq
theorem Zvf (F:FnOkH X.prog X.w X.K X.mg X.base CX k f fd ps sp)(hr:RoomH k X.A)(hg:Gl X x)(hm:X.mg x=some (.ref f))(hk:PySem.W.keepIn X.K (.ref f)=true)(hb:Binds X.K fd ps ds)(hd:Vals dvs ds)(hx:Zeg CX X E)(ha:PA X (e::es) t)(hdb:(x == ("__debug__" : Str))=false:=by decide)(he:starEach (e::es) X.env=(false,eval e X.env)::starEach es X.env:=by rfl)(hpl:(backTo pos (starEach es X.env)).any (·.1)=false:=by rfl):
  PE X (.Call (.Name x p) (e::es) [] pos) (Zl0 sp dvs E t):=by
 intro pins s σ H Q I h;refine Jda (Zhr I hg hm ?_ hdb);refine Jd1 (h₀:=X.base) I.ok.mod.kin hk (thn (ha pos pins s σ H _ I h) λus s1 ⟨vs,H1,I1,r,q⟩=>⟨I1.kIn,?_⟩) he hpl;exact run_fnH F hr hb hd hx I1 r q
theorem pe_cH (C:CalH X.prog X.w X.K X.mg X.base x k sp)(hr:RoomH k X.A)(hg:Gl X x)(ha:PA X (e::es) t)(h:Zbf e=false:=by rfl)(h2:es.all (λx=>!Zbf x)=true:=by rfl)(hdb:(x == ("__debug__" : Str))=false:=by decide):PE X (.Call (.Name x p) (e::es) [] pos) (Zl0 sp [] E0 t):=by
 refine Zb3 C.ex λf fd ps F hm hk hb=>?_;exact Zvf F hr hg hm hk hb .nil Zpw ha hdb (Zaz h) (Zdc h2)
end
def onV:Option (Option V)->(V->Prop)->Prop
 | some (some v),k=>k v
 | _,_=>False
theorem Zov (v:V)(k:V->Prop):onV (some (some v)) k=k v:=rfl
def tVr (i:Nat):TE:=λσ H Q=>onV σ[i]? λv=>Q v H
theorem tVr_old {i:Nat}{σ:St}{H:Hp}{Q:VK}(h:tVr i σ H Q):Zlz i σ H Q:=by
 unfold tVr at h;cases e:σ[i]? with
 | none=>rw[e] at h;exact h.elim
 | some o=>
  rw[e] at h;cases o with
  | none=>exact h.elim
  | some v=>exact⟨v,e,h⟩
theorem pvr {X:Cx}(i:Nat){x:Str}{pos:Pos}(hN:X.N[i]?=some x:=by rfl)(hv:Vis X.env.scope x:=by first|exact Or.inl rfl|exact Or.inr (Or.inl rfl)|exact Or.inr (Or.inr rfl))(hd:(x == ("__debug__" : Str))=false:=by decide)(hcd:(x == ("__classdict__" : Str))=false:=by decide):PE X (.Name x pos) (tVr i):=λpins s σ H Q I h=>pv i hN hv hd hcd pins s σ H Q I (tVr_old h)
def onI:V->(Int->Prop)->Prop
 | .int i,k=>k i
 | _,_=>False
def onR:V->(Addr->Prop)->Prop
 | .ref a,k=>k a
 | _,_=>False
def onB:V->(Bool->Prop)->Prop
 | .bl b,k=>k b
 | _,_=>False
def on1:List V->(V->Prop)->Prop
 | [y],k=>k y
 | _,_=>False
theorem Zsf (i:Int)(k:Int->Prop):onI (.int i) k=k i:=rfl
theorem Zse (a:Addr)(k:Addr->Prop):onR (.ref a) k=k a:=rfl
theorem Zxk (b:Bool)(k:Bool->Prop):onB (.bl b) k=k b:=rfl
theorem Zsg (y:V)(k:V->Prop):on1 [y] k=k y:=rfl
theorem Zia {x:V}{k:Int->Prop}(h:onI x k):∃ i,x=.int i/\k i:=by
 cases x <;> first|exact⟨_,rfl,h⟩|exact False.elim h
theorem Zow {x:V}{k:Addr->Prop}(h:onR x k):∃ a,x=.ref a/\k a:=by
 cases x <;> first|exact⟨_,rfl,h⟩|exact False.elim h
theorem onB_of {x:V}{k:Bool->Prop}(h:onB x k):∃ b,x=.bl b/\k b:=by
 cases x <;> first|exact⟨_,rfl,h⟩|exact False.elim h
theorem on1_of {vs:List V}{k:V->Prop}(h:on1 vs k):∃ y,vs=[y]/\k y:=by
 match vs,h with
 | [y],h=>exact⟨y,rfl,h⟩
def rJ0 (g:Int->Int->V):R2:=λx y H Q=>onI x λi=>onI y λj=>Q (g i j) H
def rJ (C:Int->Int->Prop)(g:Int->Int->V):R2:=λx y H Q=>onI x λi=>onI y λj=>C i j/\Q (g i j) H
def rEqJ:R2:=λx y H Q=>onI x λi=>onI y λj=>Q (.bl (decide (i=j))) H
def rNeJ:R2:=λx y H Q=>onI x λi=>onI y λj=>Q (.bl (!decide (i=j))) H
section
variable {X:Cx}{f:Value->Value->Sem Value}
theorem Zsc {g:Int->Int->V}(h:OpR X f (rI0 g)):OpR X f (rJ0 g):=λpins s σ H x y v u Q I rx ry q=>h pins s σ H x y v u Q I rx ry (let ⟨i,ei,q⟩:=Zia q;let ⟨j,ej,q⟩:=Zia q;⟨i,j,ei,ej,q⟩)
theorem opJ {C:Int->Int->Prop}{g:Int->Int->V}(h:OpR X f (rI C g)):OpR X f (rJ C g):=λpins s σ H x y v u Q I rx ry q=>h pins s σ H x y v u Q I rx ry (let ⟨i,ei,q⟩:=Zia q;let ⟨j,ej,q⟩:=Zia q;⟨i,j,ei,ej,q⟩)
theorem dec_ij {i j:Int}:decide (V.int i=V.int j)=decide (i=j):=by
 by_cases c:i=j
 .rw [Jag c,Jag (by rw[c])]
 .rw [Ja5 c,Ja5 λz=>c (V.int.inj z)]
theorem Zpz (h:OpR X f rEq):OpR X f rEqJ:=λpins s σ H x y v u Q I rx ry q=>h pins s σ H x y v u Q I rx ry (by
 refine Zah (Zia q) λi e91 q1=>?_;obtain rfl:=e91;refine Zah (Zia q1) λj e92 q2=>?_;obtain rfl:=e92;exact⟨rfl,by rw[dec_ij];exact q2⟩)
def tTst (t:TE):TT:=λσ H Q=>t σ H λx H'=>onB x λk=>Q k H'
theorem Zat {op:CmpOp}{r:R2}{a b:Expr}{ta tb:TE}{pos:Pos}(ho:OpR X (compareOp op) r)(ha:PE X a ta)(hb:PE X b tb)(hm:behindInMarks op b=false):PT X (.Compare a [op] [b] pos) (tTst (tOp r ta tb)):=by
 intro pins s σ H Q I h;refine Jef (thn (ha pins s σ H _ I h) λv s1 ⟨x,H1,I1,r1,q1⟩=>thn (hb pins s1 σ H1 _ I1 q1) λu s2 ⟨y,H2,I2,r2,q2⟩=>
  thn (ho pins s2 σ H2 x y v u _ I2 r1 r2 q2) λc s3 ⟨z,H3,I3,r3,q3⟩=>?_) hm
 refine Zah (onB_of q3) λk e q3=>?_;subst e;cases r3;exact Jb0 ⟨H3,I3,q3⟩
def rIxJ (K:Frag):R2:=λx y H Q=>onR x λp=>onI y λi=>∃ xs,SqL K H p xs/\∃ v,atI xs i=some v/\Q v H
def rIxTJ (K:Frag):R2:=λx y H Q=>onR x λp=>onI y λi=>∃ xs,SqT K H p xs/\∃ v,atI xs i=some v/\Q v H
theorem ixJ {K:Frag}(h:IxR X (rIxL K)):IxR X (rIxJ K):=λa b pins s σ H x y v u Q I rx ry q=>h a b pins s σ H x y v u Q I rx ry (by
 refine Zah (Zow q) λp e95 q1=>?_;obtain rfl:=e95;refine Zah (Zia q1) λi e96 e97=>?_;obtain rfl:=e96;obtain⟨xs,h1,v,h2,q2⟩:=e97;exact⟨p,xs,i,v,rfl,rfl,h1,h2,q2⟩)
theorem ixTJ {K:Frag}(h:IxR X (rIxT K)):IxR X (rIxTJ K):=λa b pins s σ H x y v u Q I rx ry q=>h a b pins s σ H x y v u Q I rx ry (by
 refine Zah (Zow q) λp e98 q1=>?_;obtain rfl:=e98;refine Zah (Zia q1) λi e99 e910=>?_;obtain rfl:=e99;obtain⟨xs,h1,v,h2,q2⟩:=e910;exact⟨p,xs,i,v,rfl,rfl,h1,h2,q2⟩)
def rAppJ:V->List V->Hp->VK->Prop:=λx vs H Q=>onR x λl=>on1 vs λy=>∃ xs,H l=some (.lst xs)/\xs.length<sizeLine/\Q .non (upd H l (.lst (xs++[y])))
theorem mtJ {id:String}(h:MtR X id Zk1):MtR X id rAppJ:=λpins s σ H x xs v us Q I rx rv q=>h pins s σ H x xs v us Q I rx rv (by
 refine Zah (Zow q) λl e911 q1=>?_;obtain rfl:=e911;refine Zah (on1_of q1) λy e912 e913=>?_;obtain rfl:=e912;obtain⟨ys,h1,h2,q2⟩:=e913;exact⟨l,ys,y,rfl,rfl,h1,h2,q2⟩)
def tFldJ (K:Frag)(ta:TE)(f:Str):TE:=λσ H Q=>ta σ H λx H1=>onR x λa=>∃ C dx fs,H1 a=some (.ins C dx fs)/\Cls K C/\NoAttr K C f/\∃ v,fs.lookup f=some v/\Q v H1
theorem Zuw {i:Nat}{σ:St}{H:Hp}{Q Q':VK}(h:tVr i σ H Q)(m:∀ x H1,Q x H1->Q' x H1):tVr i σ H Q':=by
 unfold tVr at *;cases e:σ[i]? with
 | none=>rw[e] at h;exact h.elim
 | some o=>
  rw[e] at h;cases o with
  | none=>exact h.elim
  | some v=>exact m _ _ h
theorem Zby {e:Expr}{i:Nat}{f:Str}{pos:Pos}(he:PE X e (tVr i))(hb:attributeBase e f X.env (eval e X.env)=eval e X.env):PE X (.Attribute e f pos) (tFldJ X.K (tVr i) f):=λpins s σ H Q I h=>Zbk he hb pins s σ H Q I (Zuw h λx H1 q=>by
 refine Zah (Zow q) λa e914 e915=>?_;obtain rfl:=e914;obtain⟨C,dx,fs,h1,h2,h3,v,h4,q⟩:=e915;exact⟨a,C,dx,fs,v,rfl,h1,h2,h3,h4,q⟩)
end
end L2
set_option maxHeartbeats 4000000
open PySem L2 PyProof.Rows
local macro_rules|`($i>>>$n)=>`(@Zad _ _ $i _ $n rfl (Or.inl rfl) (Or.inl rfl))
local macro_rules|`($i<<<$l)=>`(@Zad _ _ $i _ (show (($l) : List Str).Nodup by decide +kernel) rfl (Or.inl rfl) (Or.inr rfl))
local macro_rules|`($i|||$n|||$x)=>`(Zal (i:=$i) $n rfl (Or.inl rfl) $x)
local macro_rules|`($a^^^$b)=>`(@Zai _ _ _ _ _ $a $b (by rfl))
local macro_rules|`($c<$>$h<$>$x)=>`(Zbc $c ($h).m rfl $x)
local macro_rules | `($a<&>$b)=>`(@pa_c _ _ _ _ _ $a $b ⇑1)
local macro_rules | `($a<*>$b)=>`(@Zu9 _ _ _ _ _ $a $b)
local macro_rules | `($o<|>$a<&&>$b)=>`(@pe_op _ _ _ _ _ _ _ _ $o $a $b)
local macro_rules | `($o<|>$a<||>$b)=>`(@pe_ix _ _ _ _ _ _ _ $o $a $b (λ_ _=>rfl))
local macro_rules | `(~~~$x)=>`(@Zam _ _ _ (@ps_ret _ _ _ _ $x))
local macro_rules | `(tactic| walk_at "wp")=>do
 let f (s:String):=(s.splitOn " ").toArray.map λx=>Lean.mkIdent x.toName
 let b:=f "Zqy tIfS Zpq tOp tUn Zlz tVr Zov Zsf Zse Zxk Zsg rJ0 rJ rEqJ rNeJ tTst rIxJ rIxTJ rAppJ tFldJ tC tCB Zgr Zqz tRet tRetN tNext tDrop tAsg tAug ipI Zbd Zwq Zhv Zxp gSub Zw7 tLst tSl Zm6 tPart Zoe Zl0 tBM tBM0 tPar tPar3 tB tAnd tOr tNot tAndV tOrV tNotV tIf Zfb Zq0 Zm7 tFld sFld tDGet Znl tDisp Zod tRevL iEnm tLE0 iRvl sDPut gLst tAugS rGetL rI0 rI rU rIxL rIxT rSetL rSlL Zk1 rRem Zrt rPop Znk tLZ0 rBits tTry Zwm Zoc hnd_K pnx_K rCat rEq rNe rEqL rEqT rIn Zth iTup Zwk Zwj cV cx_K in_K Zw5 E0 L2.start List.map List.length List.replicate List.cons_append List.nil_append List.getElem?_cons_zero List.getElem?_cons_succ List.set_cons_zero List.set_cons_succ"
 let c:=f "scal_ii scal_bb scal_ss Jd0 Jea exists_eq_left' exists_eq_left exists_and_left V.int.injEq V.bl.injEq V.ref.injEq V.ty.injEq Jch reduceCtorEq false_and and_false exists_false or_false false_or and_true true_and Nat.reduceSub Nat.reduceAdd Nat.reduceLT Jck Jeo Jdb"
 `(tactic| ((try dsimp only [$[$b:term],*]);(try simp only[$[$b:term],*,$[$c:term],*])))
namespace Pf
open PySem L2 PyProof.Rows
def top (i:Nat):Stmt:=PySem.Challenge.pw_limbtables_k59_members_refused.main.body.getD i (.Pass ⟨0,0,0,0⟩)
abbrev Zfw:Stmt:=top 18
abbrev Zdl:Stmt:=top 27
abbrev Zhm:Stmt:=top 28
abbrev Zja:Stmt:=top 29
abbrev Zi6:Stmt:=top 30
abbrev Zrk:Stmt:=top 31
abbrev Zep:Stmt:=top 32
abbrev Zd5:Stmt:=Zex (top 33) 0
abbrev Zc4:Stmt:=Zex (top 33) 1
abbrev Zb6:Stmt:=Zex (top 33) 3
abbrev Zc3:Stmt:=Zex (top 33) 4
abbrev Zdp:Stmt:=Zex (top 33) 5
abbrev Zgg:Stmt:=top 35
abbrev Zni:Stmt:=top 36
abbrev Zi8:Stmt:=top 37
abbrev Zco:Stmt:=top 38
abbrev Zkw:Stmt:=top 39
abbrev Zi3:Stmt:=top 40
abbrev Zhk:Stmt:=top 42
abbrev Zkz:Stmt:=top 43
abbrev Zg1:Stmt:=top 44
abbrev Zd2:Stmt:=top 46
abbrev Zcc:Stmt:=top 47
abbrev Znj:Stmt:=top 51
abbrev Zd4:Stmt:=top 52
abbrev Zgh:Stmt:=top 54
abbrev Zel:Stmt:=top 55
abbrev Zgm:Stmt:=top 57
abbrev Zen:Stmt:=top 58
abbrev Zfk:Stmt:=top 59
abbrev Zdo:Stmt:=Zex (top 60) 0
abbrev Zgi:Stmt:=top 62
abbrev Zfh:Stmt:=top 63
abbrev Zfi:Stmt:=top 64
abbrev Zdn:Stmt:=top 65
abbrev Zek:Stmt:=top 66
abbrev Zfg:Stmt:=top 67
abbrev Zdj:Stmt:=top 68
abbrev Zkv:Stmt:=top 69
abbrev Zhg:Stmt:=top 71
abbrev Zi7:Stmt:=top 73
abbrev Zi2:Stmt:=top 74
abbrev Zcn:Stmt:=top 76
abbrev Zdk:Stmt:=top 77
abbrev Zkx:Stmt:=top 78
abbrev Zc2:Stmt:=top 19
abbrev Zhl:Stmt:=top 81
abbrev Zd3:Stmt:=top 82
abbrev Zhn:Stmt:=top 83
abbrev Zi9:Stmt:=top 84
abbrev Zi1:Stmt:=top 85
abbrev Zeo:Stmt:=top 86
abbrev Zeq:Stmt:=Zex (top 87) 0
abbrev Zaw:Stmt:=Zex (top 87) 1
abbrev Zcd:Stmt:=Zex (top 87) 6
abbrev Zhj:Stmt:=top 89
abbrev Zi5:Stmt:=top 90
abbrev Zhi:Stmt:=top 91
abbrev Zgj:Stmt:=top 92
abbrev Zc1:Stmt:=top 93
abbrev Zdm:Stmt:=top 94
abbrev Zgk:Stmt:=top 95
abbrev Zgl:Stmt:=top 96
abbrev Zi4:Stmt:=top 97
abbrev Zfj:Stmt:=top 98
abbrev Zhh:Stmt:=top 99
abbrev Zem:Stmt:=top 100
abbrev Zky:Stmt:=top 101
theorem Zej:FnScope ["thing"] ["thing"] (Zae Zfw):=⟨rfl,rfl,rfl,⋯,rfl,⋯,⋯⟩
theorem Ze1:FnScope ["many","arrows"] ["many","arrows"] (Zae Zdl):=⟨rfl,rfl,rfl,⋯,rfl,⋯,⋯⟩
theorem Ziz:FnScope ["many","thing"] ["many","thing"] (Zae Zhm):=⟨rfl,rfl,rfl,⋯,rfl,⋯,⋯⟩
theorem Zj6:FnScope ["points","arrows","least","tail","head","low","high","point"] ["points","arrows"] (Zae Zja):=⟨rfl,rfl,rfl,⋯,rfl,⋯,⋯⟩
theorem Zj2:FnScope ["points","arrows","many","ends","forks"] ["points","arrows"] (Zae Zi6):=⟨rfl,rfl,rfl,⋯,rfl,⋯,⋯⟩
theorem Zrj:FnScope ["points","arrows","fork","others"] ["points","arrows","fork"] (Zae Zrk):=⟨rfl,rfl,rfl,⋯,rfl,⋯,⋯⟩
theorem Zf7:FnScope ["many","lengths"] ["many","lengths"] (Zae Zep):=⟨rfl,rfl,rfl,⋯,rfl,⋯,⋯⟩
theorem Zff:FnScope ["self","many","arrows"] ["self","many","arrows"] (Zae Zd5):=⟨rfl,rfl,rfl,⋯,rfl,⋯,⋯⟩
theorem Zed:FnScope ["self"] ["self"] (Zae Zc4):=⟨rfl,rfl,rfl,⋯,rfl,⋯,⋯⟩
theorem Zc7:FnScope ["self","point"] ["self","point"] (Zae Zb6):=⟨rfl,rfl,rfl,⋯,rfl,⋯,⋯⟩
theorem Zec:FnScope ["self","point"] ["self","point"] (Zae Zc3):=⟨rfl,rfl,rfl,⋯,rfl,⋯,⋯⟩
theorem Ze6:FnScope ["self"] ["self"] (Zae Zdp):=⟨rfl,rfl,rfl,⋯,rfl,⋯,⋯⟩
theorem Zh0:FnScope ["drawing","one","other","at_points"] ["drawing","one","other"] (Zae Zgg):=⟨rfl,rfl,rfl,⋯,rfl,⋯,⋯⟩
theorem Zoj:FnScope ["drawing","row"] ["drawing","row"] (Zae Zni):=⟨rfl,rfl,rfl,⋯,rfl,⋯,⋯⟩
theorem Zj4:FnScope ["drawing"] ["drawing"] (Zae Zi8):=⟨rfl,rfl,rfl,⋯,rfl,⋯,⋯⟩
theorem Zdw:FnScope ["drawing","kept","arrow","fewer"] ["drawing"] (Zae Zco):=⟨rfl,rfl,rfl,⋯,rfl,⋯,⋯⟩
theorem Zl4:FnScope ["row","point"] ["row","point"] (Zae Zkw):=⟨rfl,rfl,rfl,⋯,rfl,⋯,⋯⟩
theorem Zjz:FnScope ["drawing","bare","row"] ["drawing"] (Zae Zi3):=⟨rfl,rfl,rfl,⋯,rfl,⋯,⋯⟩
theorem Zix:FnScope ["ground","thing","high","wide","rows"] ["ground","thing"] (Zae Zhk):=⟨rfl,rfl,rfl,⋯,rfl,⋯,⋯⟩
theorem Zl6:FnScope ["ground","wide","thing"] ["ground","wide","thing"] (Zae Zkz):=⟨rfl,rfl,rfl,⋯,rfl,⋯,⋯⟩
theorem Zfv:FnScope ["ground","high","wide"] ["ground","high","wide"] (Zae Zg1):=⟨rfl,rfl,rfl,⋯,rfl,⋯,⋯⟩
theorem Zfc:FnScope ["table","high","wide","rows"] ["table"] (Zae Zd2):=⟨rfl,rfl,rfl,⋯,rfl,⋯,⋯⟩
theorem Zdh:FnScope ["ground","wide","tables","rows","table"] ["ground","wide","tables"] (Zae Zcc):=⟨rfl,rfl,rfl,⋯,rfl,⋯,⋯⟩
theorem Zok:FnScope ["ground","rows","wide","done","left","places","place","at","lead"] ["ground","rows","wide"] (Zae Znj):=⟨rfl,rfl,rfl,⋯,rfl,⋯,⋯⟩
theorem Zfe:FnScope ["ground","rows","wide","found","places","at","place","leads"] ["ground","rows","wide"] (Zae Zd4):=⟨rfl,rfl,rfl,⋯,rfl,⋯,⋯⟩
theorem Zh1:FnScope ["ground","table","high","wide","given","rows","places","free","found","row","place","at"] ["ground","table"] (Zae Zgh):=⟨rfl,rfl,rfl,⋯,rfl,⋯,⋯⟩
theorem Zf3:FnScope ["ground","table"] ["ground","table"] (Zae Zel):=⟨rfl,rfl,rfl,⋯,rfl,⋯,⋯⟩
theorem Zh6:FnScope ["drawing","thing"] ["drawing","thing"] (Zae Zgm):=⟨rfl,rfl,rfl,⋯,rfl,⋯,⋯⟩
theorem Zf5:FnScope ["ground","high","wide","thing"] ["ground","high","wide","thing"] (Zae Zen):=⟨rfl,rfl,rfl,⋯,rfl,⋯,⋯⟩
theorem Zg0:FnScope ["ground","drawing","sizes","thing"] ["ground","drawing","sizes","thing"] (Zae Zfk):=⟨rfl,rfl,rfl,⋯,rfl,⋯,⋯⟩
theorem Ze4:FnScope ["self","ground","drawing","sizes","tables"] ["self","ground","drawing","sizes","tables"] (Zae Zdo):=⟨rfl,rfl,rfl,⋯,rfl,⋯,⋯⟩
theorem Zh2:FnScope ["standing","point"] ["standing","point"] (Zae Zgi):=⟨rfl,rfl,rfl,⋯,rfl,⋯,⋯⟩
theorem Zgx:FnScope ["standing","point"] ["standing","point"] (Zae Zfh):=⟨rfl,rfl,rfl,⋯,rfl,⋯,⋯⟩
theorem Zgy:FnScope ["table","heights","high","wide","rows","found","start","height"] ["table","heights"] (Zae Zfi):=⟨rfl,rfl,rfl,⋯,rfl,⋯,⋯⟩
theorem Ze3:FnScope ["table","widths"] ["table","widths"] (Zae Zdn):=⟨rfl,rfl,rfl,⋯,rfl,⋯,⋯⟩
theorem Zf2:FnScope ["standing","point","size","parts","sizes","left","tables","arrow","table"] ["standing","point","size","parts"] (Zae Zek):=⟨rfl,rfl,rfl,⋯,rfl,⋯,⋯⟩
theorem Zgw:FnScope ["standing","point","found","parts"] ["standing","point"] (Zae Zfg):=⟨rfl,rfl,rfl,⋯,rfl,⋯,⋯⟩
theorem Zez:FnScope ["drawing","found","left","tails"] ["drawing"] (Zae Zdj):=⟨rfl,rfl,rfl,⋯,rfl,⋯,⋯⟩
theorem Zl3:FnScope ["ground","drawing","point","sizes","tables"] ["ground","drawing","point"] (Zae Zkv):=⟨rfl,rfl,rfl,⋯,rfl,⋯,⋯⟩
theorem Zit:FnScope ["drawing","point","row","found","tail","head"] ["drawing","point","row"] (Zae Zhg):=⟨rfl,rfl,rfl,⋯,rfl,⋯,⋯⟩
theorem Zj3:FnScope ["drawing","thing"] ["drawing","thing"] (Zae Zi7):=⟨rfl,rfl,rfl,⋯,rfl,⋯,⋯⟩
theorem Zjy:FnScope ["ground","drawing","root","order","turned","here","row","point","part"] ["ground","drawing","root"] (Zae Zi2):=⟨rfl,rfl,rfl,⋯,rfl,⋯,⋯⟩
theorem Zdv:FnScope ["ground","high","wide","number","numbers"] ["ground","high","wide","number"] (Zae Zcn):=⟨rfl,rfl,rfl,⋯,rfl,⋯,⋯⟩
theorem Ze0:FnScope ["ground","bare","sizes","number","end","free","rest","root","part","tail","head"] ["ground","bare","sizes","number"] (Zae Zdk):=⟨rfl,rfl,rfl,⋯,rfl,⋯,⋯⟩
theorem Zl5:FnScope ["ground","drawing","number","sizes","left","tables","tail","head","fitting"] ["ground","drawing","number"] (Zae Zkx):=⟨rfl,rfl,rfl,⋯,rfl,⋯,⋯⟩
theorem Zeb:FnScope ["one","other"] ["one","other"] (Zae Zc2):=⟨rfl,rfl,rfl,⋯,rfl,⋯,⋯⟩
theorem Ziy:FnScope ["number"] ["number"] (Zae Zhl):=⟨rfl,rfl,rfl,⋯,rfl,⋯,⋯⟩
theorem Zfd:FnScope ["thing"] ["thing"] (Zae Zd3):=⟨rfl,rfl,rfl,⋯,rfl,⋯,⋯⟩
theorem Zi0:FnScope ["top","bottom","divisor"] ["top","bottom"] (Zae Zhn):=⟨rfl,rfl,rfl,⋯,rfl,⋯,⋯⟩
theorem Zj5:FnScope ["rest","prime","low","high","low_times","high_times","many"] ["rest","prime"] (Zae Zi9):=⟨rfl,rfl,rfl,⋯,rfl,⋯,⋯⟩
theorem Zjx:FnScope ["top","bottom","prime","below"] ["top","bottom","prime"] (Zae Zi1):=⟨rfl,rfl,rfl,⋯,rfl,⋯,⋯⟩
theorem Zf6:FnScope ["thing","top","bottom"] ["thing"] (Zae Zeo):=⟨rfl,rfl,rfl,⋯,rfl,⋯,⋯⟩
theorem Zf8:FnScope ["self","prime"] ["self","prime"] (Zae Zeq):=⟨rfl,rfl,rfl,⋯,rfl,⋯,⋯⟩
theorem Ze5:FnScope ["self","top","bottom"] ["self","top","bottom"] (Zae Zaw):=⟨rfl,rfl,rfl,⋯,rfl,⋯,⋯⟩
theorem Zdi:FnScope ["self","thing"] ["self","thing"] (Zae Zcd):=⟨rfl,rfl,rfl,⋯,rfl,⋯,⋯⟩
theorem Ziw:FnScope ["_law_script","_law_k"] ["_law_script","_law_k"] (Zae Zhj):=⟨rfl,rfl,rfl,⋯,rfl,⋯,⋯⟩
theorem Zj1:FnScope ["_law_cell_here"] ["_law_cell_here"] (Zae Zi5):=⟨rfl,rfl,rfl,⋯,rfl,⋯,⋯⟩
theorem Ziv:FnScope ["_law_bag_here","_law_many","_law_found"] ["_law_bag_here","_law_many"] (Zae Zhi):=⟨rfl,rfl,rfl,⋯,rfl,⋯,⋯⟩
theorem Zh3:FnScope ["_law_bag_here","_law_many","_law_left","_law_row","_law_at"] ["_law_bag_here","_law_many"] (Zae Zgj):=⟨rfl,rfl,rfl,⋯,rfl,⋯,⋯⟩
theorem Zea:FnScope ["_law_bag_here","_law_way","_law_edges_here","_law_many","_law_k","_law_one"] ["_law_bag_here","_law_way"] (Zae Zc1):=⟨rfl,rfl,rfl,⋯,rfl,⋯,⋯⟩
theorem Ze2:FnScope ["_law_bag_here","_law_sort","_law_many","_law_long","_law_edges_here"] ["_law_bag_here"] (Zae Zdm):=⟨rfl,rfl,rfl,⋯,rfl,⋯,⋯⟩
theorem Zh4:FnScope ["_law_bag_here","_law_way","_law_many"] ["_law_bag_here","_law_way"] (Zae Zgk):=⟨rfl,rfl,rfl,⋯,rfl,⋯,⋯⟩
theorem Zh5:FnScope ["_law_bag_here","_law_way","_law_many","_law_left","_law_order_here","_law_arrows","_law_at","_law_one","_law_other"] ["_law_bag_here","_law_way"] (Zae Zgl):=⟨rfl,rfl,rfl,⋯,rfl,⋯,⋯⟩
theorem Zj0:FnScope ["_law_top","_law_bottom","_law_one","_law_other","_law_rest"] ["_law_top","_law_bottom"] (Zae Zi4):=⟨rfl,rfl,rfl,⋯,rfl,⋯,⋯⟩
theorem Zgz:FnScope ["_law_bag_here","_law_p","_law_top"] ["_law_bag_here","_law_p"] (Zae Zfj):=⟨rfl,rfl,rfl,⋯,rfl,⋯,⋯⟩
theorem Ziu:FnScope ["_law_e"] ["_law_e"] (Zae Zhh):=⟨rfl,rfl,rfl,⋯,rfl,⋯,⋯⟩
theorem Zf4:FnScope ["_law_ground","_law_drawing","_law_number_here","_law_e"] ["_law_ground","_law_drawing","_law_number_here"] (Zae Zem):=⟨rfl,rfl,rfl,⋯,rfl,⋯,⋯⟩
theorem Zw9:FnScope ["_law_script","_law_k","_law_bag_here","_law_p","_law_many","_law_arrows","_law_number_here","_law_point","_law_drawing","_law_told"] ["_law_script"] (Zae Zky):=⟨rfl,rfl,rfl,⋯,rfl,⋯,⋯⟩
structure Txt (K:Frag)(mg:Str->Option Value)(C G S:Addr):Prop where
 cl_Drawing:Cls K C
 nM:NoAttr K C "many"
 nA:NoAttr K C "arrows"
 cl_Ground:Cls K G
 nP:NoAttr K G "prime"
 cl_Standing:Cls K S
 nSg:NoAttr K S "ground"
 nSd:NoAttr K S "drawing"
 nSs:NoAttr K S "sizes"
 nSt:NoAttr K S "tables"
 n_len:mg "len" = none
 n_range:mg "range" = none
 n_list:mg "list" = none
 n_min:mg "min" = none
 n_max:mg "max" = none
 n_int:mg "int" = none
 n_bool:mg "bool" = none
 n_tuple:mg "tuple" = none
 n_all:mg "all" = none
 n_isinstance:mg "isinstance" = none
 n_abs:mg "abs" = none
 n_zip:mg "zip" = none
 n_enumerate:mg "enumerate" = none
 n_reversed:mg "reversed" = none
 n_sum:mg "sum" = none
 n_sorted:mg "sorted" = none
 n_ValueError:mg "ValueError" = none
 g_MOST_POINTS:∃ t,mg "MOST_POINTS" = some (.int 8 t)
 g_MOST_ARROWS:∃ t,mg "MOST_ARROWS" = some (.int 9 t)
 g_LARGEST_PRIME:∃ t,mg "LARGEST_PRIME" = some (.int 97 t)
 g_LONG:∃ t,mg "LONG" = some (.int 4000 t)
def Zn7 (a b:Int):HO:=.lst [.int a,.int b]
def Bag (H:Hp)(l:Addr):Prop:=∃ a b:Int,H l=some (Zn7 a b)/\0<=b/\b<2147483647
def Zrg (K:Frag):Sp:=λvs H Q _=>∃ (a:Addr) (ns:List Int) (k:Int),vs=[.ref a,.int k]/\SqL K H a (ns.map V.int)/\ns.length<=63/\0<=k/\∀ c,Q (.int c) H
def spBag:Sp:=λvs H Q _=>∃ c:Int,vs=[.int c]/\∀ (l:Addr) (a b:Int),H l=none->0<=b->b<2147483647->Q (.ref l) (upd H l (Zn7 a b))
def Zf0:Sp:=λvs H Q _=>∃ (l:Addr) (a b n:Int),vs=[.ref l,.int n]/\H l=some (Zn7 a b)/\0<=b/\b<2147483647/\0<n/\n<1000000000 /\
 ∀ (r a' b':Int),0<=r->r<n->0<=b'->b'<2147483647->Q (.int r) (upd H l (Zn7 a' b'))
section
variable {C G S:Addr}
theorem ok_cell (F:Fun K "_law_cell" "_law_cell" Zhj f fd)(T:Txt K mg C G S):FnOk P w K mg base CX0 1 f fd ["_law_script","_law_k"] (Zrg K):=by
 have nd:=Ziw.nd;refine F.ok Ziw (λvs H Q E h=>?_) (λcdv A outer s H vs Q E hr h=>?_)
 .refine Zfa h λa ns k e91 _=>?_;clear h;obtain rfl:=e91;rfl
 .refine Zb3 h λa ns k e92 hS hl e93=>?_;clear h;obtain rfl:=e92;obtain⟨h0,q⟩:=e93;refine⟨_,((@Za7 _ _ _ _ _ _ _ _ (Zat Zjg (pvr 1) (Za4 Zak rfl T.n_len Ja6 ((pvr 0)<&>Zab)) (Zao _)) (~~~((ixJ Za6)<|>(pvr 0)<||>(pvr 1))) Zan)<*>(~~~Zac)),?_⟩;walk_at "wp";refine⟨_,.inl hS,Zc6 (λhc=>?_) (λ_=>q 0)⟩;have hc:=Jaq hc;rw[Jab] at hc;refine⟨_,hS,V.int (ns[k.toNat]'(Zpx h0 hc)),Zck h0 ?_,q _⟩;rw[Jau,Jaa (Zpx h0 hc)];rfl
theorem pow60:IntMulOk (10 ^ (60:Int).toNat) (10 ^ (60:Int).toNat):=IntMulOk.of_bits ⋯ ⋯
theorem cpow (k:Int)(h0:0<=k)(h1:k<=1000):CPow 10 k:=⟨h0,∅,⇑0⟩
theorem Zka (c n:Int)(h:0<n):0<=c % n:=Int.emod_nonneg _ ∅
theorem Zkb (c n:Int)(h:0<n):c % n<n:=Je5 _ h
theorem ok_bag (F:Fun K "_law_bag" "_law_bag" Zi5 f fd)(T:Txt K mg C G S):FnOk P w K mg base CX0 1 f fd ["_law_cell_here"] spBag:=by
 have nd:=Zj1.nd;refine F.ok Zj1 (λvs H Q E h=>?_) (λcdv A outer s H vs Q E hr h=>?_)
 .refine Zah h λc e94 _=>?_;clear h;obtain rfl:=e94;rfl
 .refine Zah h λc e95 q=>?_;clear h;obtain rfl:=e95;refine⟨_,((@Za7 _ _ _ _ _ _ _ _ (Zat op_ge (pvr 0) ((opJ Zsb)<|>Zac<&&>Zac) (Zao _)) (~~~(@Zbj _ _ _ _ ((Zc9<|>(pvr 0)<&&>(Zk7<|>((opJ Zsb)<|>Zac<&&>Zac)<&&>((opJ Zsb)<|>Zac<&&>Zac)))<&>(((opJ Zc9)<|>(pvr 0)<&&>Zac)<&>Zab)))) Zan)<*>(~~~(@Zbj _ _ _ _ (Zac<&>(((opJ Zc9)<|>((Zsc Zbo)<|>((opJ Zh9)<|>((opJ Zc9)<|>(pvr 0)<&&>Zac)<&&>Zac)<&&>Zac)<&&>Zac)<&>Zab))))),?_⟩;walk_at "wp";refine⟨cpow _ ⇑0 ⇑0,Zc6 (λ_=>?_) (λ_=>?_)⟩
  .exact ⟨cpow _ ⇑0 ⇑0,cpow _ ⇑0 ⇑0,pow60,⋯,⇑0,⇑0,λp hp=>q p _ _ hp (Zka _ _ ⇑0) (Zkb _ _ ⇑0)⟩
  .exact ⟨⇑0,.inr ⟨⇑0,⇑0⟩,⇑0,⇑0,λp hp=>q p _ _ hp (Zka _ _ ⇑0) (Zkb _ _ ⇑0)⟩
theorem ok_draw (F:Fun K "_law_draw" "_law_draw" Zhi f fd)(T:Txt K mg C G S):FnOk P w K mg base CX0 1 f fd ["_law_bag_here","_law_many"] Zf0:=by
 have nd:=Ziv.nd;refine F.ok Ziv (λvs H Q E h=>?_) (λcdv A outer s H vs Q E hr h=>?_)
 .refine Zm2 h λl a b n e96 _=>?_;clear h;obtain rfl:=e96;rfl
 .refine Zdt h λl a b n e97 hl b0 e98=>?_;clear h;obtain rfl:=e97;refine Zbx e98 λb1 n0 n1 q=>?_;clear e98;refine⟨_,((@Za7 _ _ _ _ _ _ _ _ (Zat op_ge ((ixJ Za6)<|>(pvr 0)<||>Zac) (pvr 1) (Zao _)) ((2|||nd|||(Zc9<|>((ixJ Za6)<|>(pvr 0)<||>Zac)<&&>(pvr 1)))<*>((Zcl (Zk8<|>((ixJ Za6)<|>(pvr 0)<||>Zac)<&&>(pvr 1)) (Zl8 (pvr 0) Zac Zei))<*>(~~~(pvr 2)))) Zan)<*>((Zcl Zac (Zl8 (pvr 0) Zac Zei))<*>((Zcl (Zc9<|>(Zbo<|>(Zh9<|>((ixJ Za6)<|>(pvr 0)<||>Zac)<&&>Zac)<&&>Zac)<&&>Zac) (Zl8 (pvr 0) Zac Zei))<*>(~~~(Zc9<|>(Zk8<|>(Zc9<|>(Zh9<|>((ixJ Za6)<|>(pvr 0)<||>Zac)<&&>(Zbo<|>(Zk8<|>((ixJ Za6)<|>(pvr 0)<||>Zac)<&&>Zac)<&&>Zac))<&&>Zac)<&&>Zac)<&&>(pvr 1)))))),?_⟩;walk_at "wp";refine⟨_,SqL.of hl,_,rfl,_,rfl,Zc6 (λhc=>?_) (λhc=>?_)⟩
  .refine ⟨_,SqL.of hl,_,rfl,_,rfl,n0,_,SqL.of hl,_,rfl,_,rfl,⟨n0,∅⟩,_,hl,_,rfl,?_⟩;exact q _ _ _ (Zka _ _ n0) (Zkb _ _ n0) b0 b1
  .refine ⟨_,hl,_,rfl,_,SqL.of Zaa,_,rfl,_,rfl,.inr ⟨⇑0,⇑0⟩,⇑0,_,Zaa,_,rfl,_,SqL.of Zaa,_,rfl,_,SqL.of Zaa,_,rfl,_,rfl,⟨⇑0,⇑0⟩,_,rfl,?_⟩;have h1:=Zka (b*48271+4099) 2147483647 ⇑0;have h2:=Zkb (b*48271+4099) 2147483647 ⇑0;refine⟨.inl ⟨∅,oz228⟩,⇑0,⟨⇑0,⇑0⟩,n0,?_⟩;rw[upd_upd];exact q _ _ _ (Zka _ _ n0) (Zkb _ _ n0) h1 h2
end
end Pf
namespace Pf
open PySem L2 PyProof.Rows
section
variable {C G S:Addr}
def InR (m:Int)(ys:List Int):Prop:=∀ y∈ys,0<=y/\y<m
theorem Zrs (lo hi:Int):Zuh lo hi=((List.range (hi-lo).toNat).map λ(i:Nat)=>lo+(i:Int)).map V.int:=by
 unfold Zuh;rw[Jcn];rfl
theorem Ztu (xs:List V)(k:Int)(h0:0<=k)(h1:k<=xs.length):Zhw xs none (some k)=xs.take k.toNat:=by
 unfold Zhw HT.sIx;have:¬ k<0:=∅
 simp only[this,Jeo,Jee,Nat.sub_zero];congr 1;exact oz20 h1
theorem Ztv (xs:List V)(k:Int)(h0:0<=k)(h1:k<=xs.length):Zhw xs (some k) none=xs.drop k.toNat:=by
 unfold Zhw HT.sIx;have e:¬ k<0:=∅
 have e2:min k.toNat xs.length=k.toNat:=by exact oz20 h1
 simp only[e,Jeo,e2];rw[List.take_of_length_le];rw[Jc9];omega
theorem Bag.ne {H:Hp}{l p:Addr}(h:Bag H l)(hp:H p=none):p≠l:=by
 refine Zbg h λa b e _=>?_;clear h;exact (Zaf e hp).symm
theorem Bag.new {H:Hp}{l p:Addr}{o:HO}(h:Bag H l)(hp:p≠l):Bag (upd H p o) l:=by
 refine Za3 h λa b e h1 h2=>?_;clear h;exact Zav a b ⟨by rw[Zag hp.symm];exact e,h1,h2⟩
theorem Bag.set {H:Hp}{l:Addr}{a b:Int}(h1:0<=b)(h2:b<2147483647):Bag (upd H l (Zn7 a b)) l:=⟨a,b,Zaa,h1,h2⟩
def Edge (H:Hp)(m:Int)(x:V):Prop:=∃ (t:Addr) (i j:Int),x=.ref t/\H t=some (.tup [.int i,.int j])/\0<=i/\i<m/\0<=j/\j<m
def Edges (H:Hp)(m:Int)(xs:List V):Prop:=∀ x∈xs,Edge H m x
theorem Edge.same {H H':Hp}{m:Int}{x:V}(e:Edge H m x)(s:Same H H'):Edge H' m x:=by
 refine Zim e λt i j h1 h2 h3=>?_;clear e;exact Za9 t i j ⟨h1,s _ _ h2,h3⟩
theorem Edges.same {H H':Hp}{m:Int}{xs:List V}(e:Edges H m xs)(s:Same H H'):Edges H' m xs:=λx hx=>(e x hx).same s
theorem Edge.ext {H H':Hp}{m:Int}{l:Addr}{x:V}{ys:List V}(e:Edge H m x)(s:Ext l H H')(hl:H l=some (.lst ys)):Edge H' m x:=by
 refine Zim e λt i j h1 h2 h3=>?_;clear e;exact Za9 t i j ⟨h1,s _ _ (Zcz h2 hl (by intro z;cases z)) h2,h3⟩
theorem Edges.ext {H H':Hp}{m:Int}{l:Addr}{xs ys:List V}(e:Edges H m xs)(s:Ext l H H')(hl:H l=some (.lst ys)):Edges H' m xs:=λx hx=>(e x hx).ext s hl
theorem Edges.nil {H:Hp}{m:Int}:Edges H m []:=λ_ h=>nomatch h
theorem Edges.snoc {H:Hp}{m:Int}{xs:List V}{x:V}(e:Edges H m xs)(h:Edge H m x):Edges H m (xs++[x]):=λy hy=>by
 rcases Jbp.mp hy with z|z
 .exact e y z
 .rw [Jam.mp z];exact h
theorem Edges.append {H:Hp}{m:Int}{xs ys:List V}(e:Edges H m xs)(h:Edges H m ys):Edges H m (xs++ys):=λy hy=>by
 rcases Jbp.mp hy with z|z
 .exact e y z
 .exact h y z
theorem Edges.lift {H:Hp}{m m':Int}{xs:List V}(e:Edges H m xs)(h:m<=m'):Edges H m' xs:=λy hy=>by
 refine Zb3 (e y hy) λt i j h1 h2 h3 e99=>?_;refine Zar e99 λh4 h5 h6=>?_;clear e99;exact Za9 t i j ⟨h1,h2,h3,∅,h5,∅⟩
theorem Edges.put {H:Hp}{m:Int}{xs ys:List V}{p:Addr}{o:HO}(e:Edges H m xs)(hp:H p=some (.lst ys)):Edges (upd H p o) m xs:=e.ext (l:=p) Ext.set hp
structure Out (l:Addr)(H:Hp)(p e:Addr)(m:Int)(xs:List V)(H':Hp):Prop where
 ext:Ext l H H'
 bag:Bag H' l
 tup:H' p=some (.tup [.int m,.ref e])
 lst:H' e=some (.lst xs)
 new:H e=none
 lo:1<=m
 hi:m<=8
 len:xs.length<=9
 ed:Edges H' m xs
def spOut (K0:List V->Prop):Sp:=λvs H Q _=>∃ (l:Addr) (r:List V),vs=.ref l::r/\K0 r/\Bag H l/\∀ p e m xs H',Out l H p e m xs H'->Q (.ref p) H'
def way0 (r:List V):Prop:=r=[]
theorem Edge.mk {H:Hp}{p:Addr}{i j m:Int}(h1:0<=i)(h2:i<m)(h3:0<=j)(h4:j<m):Edge (upd H p (.tup [.int i,.int j])) m (.ref p):=⟨p,i,j,rfl,Zaa,h1,h2,h3,h4⟩
theorem Edges.add {H:Hp}{p:Addr}{i j m:Int}{xs:List V}(e:Edges H m xs)(hp:H p=none)(h1:0<=i)(h2:i<m)(h3:0<=j)(h4:j<m):Edges (upd H p (.tup [.int i,.int j])) m (xs++[.ref p]):=
 (e.same (Same.new hp)).snoc (Edge.mk h1 h2 h3 h4)
theorem Zhx {fr:List (Str×Nat)}{σ:L2.St}{t1 t2:TE}{lo m:Int}{n:Nat}{D:Addr}{H1:Hp}{Q:VK}(a b:Nat->Int)(hD:H1 D=none)(hn:n<=9)(h1:∀ i H Q,i<n->Q (.int (a i)) H->t1 (some (.int (lo+(i:Nat)))::Zb0 fr σ) H Q)(h2:∀ i H Q,i<n->Q (.int (b i)) H->t2 (some (.int (lo+(i:Nat)))::Zb0 fr σ) H Q)(hr:∀ i,i<n->0<=a i/\a i<m/\0<=b i/\b i<m)(hQ:∀ xs H',Same H1 H'->H' D=some (.lst xs)->xs.length=n->Edges H' m xs->Q (.ref D) H'):
  Zbv (Zbd 0) Zfb (Zw7 (Zgr t1 (Zgr t2 Zqz))) (Itr lo n) D (Ze9 1 fr σ) H1 Q:=by
 refine Zey (λi vs H=>Same H1 H/\H D=some (.lst vs)/\vs.length=i/\Edges H m vs) ⟨Same.new hD,Zaa,rfl,Edges.nil⟩ ?_ (λvs H ⟨s,e,l,d⟩=>hQ vs H s e l d);intro i x vs σ' H hi e91;obtain rfl:=e91;intro sh e92;refine Zbx e92 λs e hl d=>?_;clear e92;obtain⟨z,rfl⟩:=sh.one;simp only[Zda,Zbd,Zfb,List.set_cons_zero,Jck,Zw7,Zgr,Zqz];refine h1 i H _ hi (h2 i H _ hi ⟨by show 2<=sizeLine;decide,λp hp=>?_⟩);refine Zbx (hr i hi) λr1 r2 r3 r4=>?_;have nD:D≠p:=Zaf e hp;have e':(upd H p (.tup [.int (a i),.int (b i)])) D=some (.lst vs):=by rw[Zag nD];exact e
 exact leaf (ws:=vs++[.ref p]) hi Sh.mk1 e' (Zaj (oz186 hn hi hl)) ⟨(s.trans (Same.new hp)).upd hD,Zaa,by rw[Jak,hl];rfl,(d.add hp r1 r2 r3 r4).put e'⟩
theorem Out.fin {l p t:Addr}{m:Int}{xs:List V}{H H2:Hp}(ex:Ext l H H2)(b:Bag H2 l)(hp:H2 p=some (.lst xs))(new:H p=none)(lo:1<=m)(hi:m<=8)(len:xs.length<=9)(d:Edges H2 m xs)(ht:H2 t=none):
  Out l H t p m xs (upd H2 t (.tup [.int m,.ref p])):=
 ⟨ex.trans (Ext.new ht),b.new (b.ne ht),Zaa,by rw[Zag (Zaf hp ht)];exact hp,new,lo,hi,len,d.same (Same.new ht)⟩
theorem Bag.draw {H:Hp}{l:Addr}{n:Int}{Q:VK}{E:XK}(b:Bag H l)(h0:0<n)(h1:n<1000000000)(q:∀ (r:Int) (H':Hp),0<=r->r<n->Ext l H H'->Bag H' l->Q (.int r) H'):Zf0 [.ref l,.int n] H Q E:=by
 refine Za3 b λx y e y0 y1=>?_;clear b;exact Zkk l x y n ⟨rfl,e,y0,y1,h0,h1,λr a' b' r0 r1 c0 c1=>q r _ r0 r1 Ext.set (Bag.set c0 c1)⟩
theorem Bag.lst {H:Hp}{l:Addr}(b:Bag H l):∃ ys,H l=some (.lst ys):=by
 refine Zbg b λx y e _=>?_;clear b;exact⟨_,e⟩
theorem Bag.same {H H':Hp}{l:Addr}(b:Bag H l)(s:Same H H'):Bag H' l:=by
 refine Za3 b λx y e h1 h2=>?_;clear b;exact Zav x y ⟨s _ _ e,h1,h2⟩
theorem Out.done {l p t:Addr}{m:Int}{xs:List V}{H H2 H5:Hp}(ex:Ext l H H2)(b:Bag H2 l)(s:Same H2 H5)(hp:H5 p=none)(lo:1<=m)(hi:m<=8)(len:xs.length<=9)(d:Edges H5 m xs)(ht:(upd H5 p (.lst xs)) t=none):
  Out l H t p m xs (upd (upd H5 p (.lst xs)) t (.tup [.int m,.ref p])):=
 have b5:=b.same s;have e5:Ext l H H5:=ex.trans s.ext
 Out.fin (e5.trans (Ext.new hp)) (b5.new (b5.ne hp)) Zaa (e5.free (b5.ne hp) hp) lo hi len (d.same (Same.new hp)) ht
theorem ok_bad (F:Fun K "_law_bad_edges" "_law_bad_edges" Zdm f fd)(T:Txt K mg C G S)(Yaa:Cal P w K mg base "_law_draw" 1 Zf0):FnOk P w K mg base CX0 2 f fd ["_law_bag_here"] (spOut way0):=by
 have nd:=Ze2.nd;refine F.ok Ze2 (λvs H Q E h=>?_) (λcdv A outer s H vs Q E hr h=>?_)
 .refine Za3 h λl r e91 e92 _=>?_;clear h;obtain rfl:=e91;obtain rfl:=e92;rfl
 .refine Zeh h λl r e93 e94 hb q=>?_;clear h;obtain rfl:=e93;obtain rfl:=e94;refine⟨_,((1|||nd|||(Yaa<$>hr<$>((pvr 0)<&>(Zac<&>Zab))))<*>((@Za7 _ _ _ _ _ _ _ _ (Zat Zc5 (pvr 1) Zac (Zao _)) ((Zal (i:=2) nd rfl (Or.inr rfl) (Zbo<|>Zac<&&>(Yaa<$>hr<$>((pvr 0)<&>(Zac<&>Zab)))))<*>(~~~(@Zaq _ _ _ _ _ ((pvr 2)<&>((Zax (own:=["_law_k"]) (fr:=[("_law_many",2)]) rfl (Zbh (by kernel_rfl)) (Zid rfl T.n_range ((pv 2)<&>Zab)) (λ_ _ _ _=>⟨(0<<<["_law_k","_law_many"]),Za0,(@Zaq _ _ _ _ _ ((pv 0)<&>((Zc9<|>(Zbo<|>(pv 0)<&&>Zac)<&&>(pv 1))<&>Zab)))⟩))<&>Zab))))) Zan)<*>((@Za7 _ _ _ _ _ _ _ _ (Zat Zc5 (pvr 1) Zac (Zao _)) ((Zal (i:=2) nd rfl (Or.inr rfl) (Zbo<|>Zac<&&>(Yaa<$>hr<$>((pvr 0)<&>(Zac<&>Zab)))))<*>(~~~(@Zaq _ _ _ _ _ ((pvr 2)<&>((Zax (own:=["_law_k"]) (fr:=[]) rfl (Zbh (by kernel_rfl)) (Zpv rfl T.n_range (Zac<&>((pv 2)<&>Zab))) (λ_ _ _ _=>⟨(0<<<["_law_k"]),Za0,(@Zaq _ _ _ _ _ (Zac<&>((pv 0)<&>Zab)))⟩))<&>Zab))))) Zan)<*>((@Za7 _ _ _ _ _ _ _ _ (Zat Zc5 (pvr 1) Zac (Zao _)) ((3|||nd|||(Zbo<|>Zac<&&>(Yaa<$>hr<$>((pvr 0)<&>(Zac<&>Zab)))))<*>((Zfo (i:=4) (own:=["_law_k"]) (fr:=[]) rfl (Zbh (by kernel_rfl)) (Zid rfl T.n_range ((Zdy<|>(pv 3)<&&>Zac)<&>Zab)) (λ_ _ _ _=>⟨(0<<<["_law_k"]),Za0,(@Zaq _ _ _ _ _ ((pv 0)<&>((Zbo<|>(pv 0)<&&>Zac)<&>Zab)))⟩) nd rfl rfl rfl)<*>(~~~(@Zaq _ _ _ _ _ ((Zbo<|>(pvr 3)<&&>Zac)<&>((Zgb<|>(pvr 4)<&&>(@Zbj _ _ _ _ ((@Zaq _ _ _ _ _ (Zac<&>((pvr 3)<&>Zab)))<&>((@Zaq _ _ _ _ _ (Zac<&>((Zbo<|>(pvr 3)<&&>Zac)<&>Zab)))<&>((@Zaq _ _ _ _ _ ((Zdy<|>(pvr 3)<&&>Zac)<&>((Zbo<|>(pvr 3)<&&>Zac)<&>Zab)))<&>((@Zaq _ _ _ _ _ ((Zdy<|>(pvr 3)<&&>Zac)<&>((Zbo<|>(pvr 3)<&&>Zac)<&>Zab)))<&>Zab))))))<&>Zab)))))) Zan)<*>((@Za7 _ _ _ _ _ _ _ _ (Zat Zc5 (pvr 1) Zac (Zao _)) ((Zal (i:=2) nd rfl (Or.inr rfl) (Zbo<|>Zac<&&>(Yaa<$>hr<$>((pvr 0)<&>(Zac<&>Zab)))))<*>(~~~(@Zaq _ _ _ _ _ ((pvr 2)<&>((@Zcg _ _ _ _ _ _ _ _ _ _ Zdg (@Zbj _ _ _ _ ((@Zaq _ _ _ _ _ (Zac<&>(Zac<&>Zab)))<&>((@Zaq _ _ _ _ _ (Zac<&>(Zac<&>Zab)))<&>((@Zaq _ _ _ _ _ (Zac<&>(Zac<&>Zab)))<&>((@Zaq _ _ _ _ _ (Zac<&>(Zac<&>Zab)))<&>((@Zaq _ _ _ _ _ (Zac<&>(Zac<&>Zab)))<&>((@Zaq _ _ _ _ _ (Zac<&>(Zac<&>Zab)))<&>((@Zaq _ _ _ _ _ (Zac<&>(Zac<&>Zab)))<&>Zab)))))))) Zet (@Zcq _ _ _ (Zdy<|>(pvr 2)<&&>Zac)))<&>Zab))))) Zan)<*>(~~~(@Zaq _ _ _ _ _ (Zac<&>((@Zbj _ _ _ _ ((@Zaq _ _ _ _ _ (Zac<&>(Zac<&>Zab)))<&>((@Zaq _ _ _ _ _ (Zac<&>(Zac<&>Zab)))<&>((@Zaq _ _ _ _ _ (Zac<&>(Zac<&>Zab)))<&>((@Zaq _ _ _ _ _ (Zac<&>(Zac<&>Zab)))<&>((@Zaq _ _ _ _ _ (Zac<&>(Zac<&>Zab)))<&>((@Zaq _ _ _ _ _ (Zac<&>(Zac<&>Zab)))<&>((@Zaq _ _ _ _ _ (Zac<&>(Zac<&>Zab)))<&>Zab))))))))<&>Zab))))))))),?_⟩;walk_at "wp";refine hb.draw ⇑0 ⇑0 λz H1 z0 z1 e1 b1=>⟨rfl,Zc6 (λ_=>?_) (λ_=>⟨rfl,Zc6 (λ_=>?_) (λ_=>⟨rfl,Zc6 (λ_=>?_) (λ_=>⟨rfl,Zc6 (λ_=>?_) (λ_=>?_)⟩)⟩)⟩)⟩
  .refine b1.draw ⇑0 ⇑0 λr H2 r0 r1 e2 b2=>⟨r,rfl,?_⟩
   refine⟨_,rfl,1+r,rfl,oz193 r0,oz152 r1,λD hD=>Zhx (m:=1+r) (λi=>0+(i:Int)) (λi=>(0+(i:Int)+1) % (1+r)) hD ∅ (λi H Q _ h=>⟨_,rfl,h⟩) (λi H Q _ h=>⟨_,rfl,_,_,rfl,rfl,_,rfl,_,_,rfl,rfl,∅,h⟩)
    (λi hi=>⟨oz182,oz238 hi,Zka _ _ (oz129 r0),Zkb _ _ (oz129 r0)⟩) λxs H' s e hl d=>⟨⇑0,λt ht=>?_⟩⟩
   have n1:=b2.ne hD;have ex:Ext l H H2:=e1.trans e2;refine Za3 (id b2) λya yb ye y0 y1=>?_;exact q _ _ _ _ _ (Out.fin (ex.trans s.ext) ⟨ya,yb,s _ _ ye,y0,y1⟩ e (ex.free n1 hD) (oz204 r0) (oz202 r1) (oz207 r1 hl) d ht)
  .refine b1.draw ⇑0 ⇑0 λr H2 r0 r1 e2 b2=>⟨r,rfl,?_⟩
   refine⟨_,rfl,1,5+r,rfl,⟨⇑0,⇑0,∅,∅⟩,λD hD=>Zhx (m:=5+r) (λi=>0) (λi=>1+(i:Int)) hD ∅ (λi H Q _ h=>h) (λi H Q _ h=>⟨_,rfl,h⟩)
    (λi hi=>⟨∅,∅,oz212,oz215 hi⟩) λxs H' s e hl d=>⟨⇑0,λt ht=>?_⟩⟩
   have n1:=b2.ne hD;have ex:Ext l H H2:=e1.trans e2;refine Za3 (id b2) λya yb ye y0 y1=>?_;exact q _ _ _ _ _ (Out.fin (ex.trans s.ext) ⟨ya,yb,s _ _ ye,y0,y1⟩ e (ex.free n1 hD) ∅ ∅ (oz191 r1 hl) d ht)
  .refine b1.draw ⇑0 ⇑0 λr H2 r0 r1 e2 b2=>⟨r,rfl,?_⟩
   refine⟨_,rfl,_,_,rfl,rfl,_,rfl,∅,∅,λD hD=>Zhx (m:=2+r) (λi=>0+(i:Int)) (λi=>0+(i:Int)+1) hD ∅ (λi H Q _ h=>⟨_,rfl,h⟩) (λi H Q _ h=>⟨_,rfl,_,_,rfl,rfl,h⟩)
    (λi hi=>⟨oz182,oz233 hi,∅,oz192 hi⟩) λxs H' s e hl d=>?_⟩
   refine⟨⇑0,λp1 h1=>⟨⇑0,λp2 h2=>⟨⇑0,λp3 h3=>⟨⇑0,λp4 h4=>⟨⇑0,λp5 h5=>?_⟩⟩⟩⟩⟩;have D1:=(Edges.nil (H:=H') (m:=2+r+4)).add (i:=0) (j:=2+r) h1 ∅ (oz241 r0) ∅ ∅;have D2:=D1.add (i:=0) (j:=2+r+1) h2 ∅ (oz241 r0) ∅ ∅;have D3:=D2.add (i:=2+r-1) (j:=2+r+2) h3 (oz188 r0) ∅ ∅ ∅;have D4:=D3.add (i:=2+r-1) (j:=2+r+3) h4 (oz188 r0) ∅ ∅ ∅;have S5:=((((Same.new h1).trans (Same.new h2)).trans (Same.new h3)).trans (Same.new h4)).trans (Same.new (o:=.lst [.ref p1,.ref p2,.ref p3,.ref p4]) h5);refine⟨D,rfl,xs,S5 _ _ e,_,Zaa,Zaj (by show xs.length+4<=1000;exact oz183 r1 hl) |> Jbl,λp6 h6=>⟨⇑0,λp7 h7=>?_⟩⟩;exact q _ _ _ _ _ (Out.done (e1.trans e2) b2 (s.trans S5) h6 ∅ ∅ (by rw[Jak];show xs.length+4<=9;exact oz223 r1 hl) (Edges.append ((d.lift ∅).same S5) (D4.same (Same.new h5))) h7)
  .refine b1.draw ⇑0 ⇑0 λr H2 r0 r1 e2 b2=>⟨r,rfl,?_⟩
   refine⟨⇑0,λp1 h1=>⟨⇑0,λp2 h2=>⟨⇑0,λp3 h3=>⟨⇑0,λp4 h4=>⟨⇑0,λp5 h5=>⟨⇑0,λp6 h6=>⟨⇑0,λp7 h7=>⟨⇑0,λp8 h8=>⟨_,SqL.of Zaa,λp9 h9=>⟨⇑0,λp10 h10=>?_⟩⟩⟩⟩⟩⟩⟩⟩⟩⟩;have D1:=(Edges.nil (H:=H2) (m:=7)).add (i:=0) (j:=1) (m:=7) h1 ∅ ∅ ∅ ∅;have D2:=D1.add (i:=1) (j:=2) (m:=7) h2 ∅ ∅ ∅ ∅;have D3:=D2.add (i:=0) (j:=3) (m:=7) h3 ∅ ∅ ∅ ∅;have D4:=D3.add (i:=3) (j:=4) (m:=7) h4 ∅ ∅ ∅ ∅;have D5:=D4.add (i:=0) (j:=5) (m:=7) h5 ∅ ∅ ∅ ∅;have D6:=D5.add (i:=5) (j:=6) (m:=7) h6 ∅ ∅ ∅ ∅;have S8:=(((((((Same.new h1).trans (Same.new h2)).trans (Same.new h3)).trans (Same.new h4)).trans (Same.new h5)).trans (Same.new h6)).trans (Same.new h7)).trans (Same.new (o:=.lst [.ref p1,.ref p2,.ref p3,.ref p4,.ref p5,.ref p6,.ref p7]) h8);have E6:=D6.same ((Same.new (o:=.tup [.int 6,.int 7]) h7).trans (Same.new (o:=.lst [.ref p1,.ref p2,.ref p3,.ref p4,.ref p5,.ref p6,.ref p7]) h8));rcases (show r=0\/r=1 by exact oz216 r0 r1) with rfl|rfl
   .exact q _ _ _ _ _ (Out.done (e1.trans e2) b2 S8 h9 ⇑0 ⇑0 (Jbf (Zds _ _ _) (by show 7<=9;decide)) (E6.lift ⇑0) h10)
   .exact q _ _ _ _ _ (Out.done (e1.trans e2) b2 S8 h9 ⇑0 ⇑0 (Jbf (Zds _ _ _) (by show 7<=9;decide)) (((D6.lift (m':=8) ⇑0).add (i:=6) (j:=7) h7 ⇑0 ⇑0 ⇑0 ⇑0).same (Same.new h8)) h10)
  .refine ⟨⇑0,λp1 h1=>⟨⇑0,λp2 h2=>⟨⇑0,λp3 h3=>⟨⇑0,λp4 h4=>⟨⇑0,λp5 h5=>⟨⇑0,λp6 h6=>⟨⇑0,λp7 h7=>⟨⇑0,λp8 h8=>⟨⇑0,λp9 h9=>?_⟩⟩⟩⟩⟩⟩⟩⟩⟩;have D1:=(Edges.nil (H:=H1) (m:=8)).add (i:=0) (j:=1) (m:=8) h1 ∅ ∅ ∅ ∅;have D2:=D1.add (i:=0) (j:=2) (m:=8) h2 ∅ ∅ ∅ ∅;have D3:=D2.add (i:=2) (j:=3) (m:=8) h3 ∅ ∅ ∅ ∅;have D4:=D3.add (i:=3) (j:=4) (m:=8) h4 ∅ ∅ ∅ ∅;have D5:=D4.add (i:=0) (j:=5) (m:=8) h5 ∅ ∅ ∅ ∅;have D6:=D5.add (i:=5) (j:=6) (m:=8) h6 ∅ ∅ ∅ ∅;have D7:=D6.add (i:=6) (j:=7) (m:=8) h7 ∅ ∅ ∅ ∅;exact q _ _ _ _ _ (Out.done e1 b1 (((((((Same.new h1).trans (Same.new h2)).trans (Same.new h3)).trans (Same.new h4)).trans (Same.new h5)).trans (Same.new h6)).trans (Same.new h7)) h8 ⇑0 ⇑0 (by show 7<=9;decide) D7 h9)
end
end Pf
set_option maxHeartbeats 1000000
namespace Pf
open PySem L2 PyProof.Rows
section
variable {C G S:Addr}
theorem Zlq {c A B:Prop}[Decidable c](hc:c)(h:A):if c then A else B:=by rw[if_pos hc];exact h
theorem Zgd {c A B:Prop}[Decidable c](hc:¬ c)(h:B):if c then A else B:=by rw[if_neg hc];exact h
theorem Zg9 {a D:Addr}{xs:List V}{fr:List (Str×Nat)}{σ:L2.St}{te:TE}{H1:Hp}{Q:VK}(fb:Nat->Bool)(ha:H1 a=some (.lst xs))(hD:H1 D=none)(hn:xs.length<=1000)(h:∀ (i:Nat) x H (Q:VK),xs[i]?=some x->Same H1 H->(∀ H',Same H H'->Q (.bl (fb i)) H')->te (some x::Zb0 fr σ) H Q)(hQ:∀ H',Same H1 H'->H' D=some (.lst (((List.range xs.length).map fb).map V.bl))->Q (.ref D) H'):Zbv (Zbd 0) Zfb te (Itl K a) D (Ze9 1 fr σ) H1 Q:=by
 refine Zbp (xs:=xs) (λi vs H=>Same H1 H/\H D=some (.lst vs)/\vs=((List.range i).map fb).map V.bl) ⟨Same.new hD,Zaa,rfl⟩ (λi vs H _ p=>SqL.of (p.1 _ _ ha)) ?_ (λvs H ⟨s,e,hv⟩=>hQ H s (by rw[e,hv]));intro i x vs σ' H hi hx sh e91;refine Zar e91 λs e e93=>?_;clear e91;obtain rfl:=e93;obtain⟨z,rfl⟩:=sh.one;simp only[Zda,Zbd,Zfb,List.set_cons_zero,Jck];refine h i x H _ hx s λH' s'=>?_;exact leaf (ws:=((List.range (i+1)).map fb).map V.bl) hi Sh.mk1 (s' _ _ e) (Zaj (by rw[Jab,Jab,Jb6];exact Zvj hn hi)) ⟨(s.trans s').upd hD,by rw[Zaa,Jdg,Jaw,Jaw];rfl,rfl⟩
theorem Zt3 {a D:Addr}{xs:List V}{fr:List (Str×Nat)}{σ:L2.St}{te:TE}{H1:Hp}{Q:VK}(fb:Nat->Bool)(ha:H1 a=some (.tup xs))(hD:H1 D=none)(hn:xs.length<=1000)(h:∀ (i:Nat) x H (Q:VK),xs[i]?=some x->Same H1 H->(∀ H',Same H H'->Q (.bl (fb i)) H')->te (some x::Zb0 fr σ) H Q)(hQ:∀ H',Same H1 H'->H' D=some (.lst (((List.range xs.length).map fb).map V.bl))->Q (.ref D) H'):Zbv (Zbd 0) Zfb te (Itt K a) D (Ze9 1 fr σ) H1 Q:=by
 refine Zwv (xs:=xs) (λi vs H=>Same H1 H/\H D=some (.lst vs)/\vs=((List.range i).map fb).map V.bl) ⟨Same.new hD,Zaa,rfl⟩ (λi vs H _ p=>SqT.of (p.1 _ _ ha)) ?_ (λvs H ⟨s,e,hv⟩=>hQ H s (by rw[e,hv]));intro i x vs σ' H hi hx sh e92;refine Zar e92 λs e e94=>?_;clear e92;obtain rfl:=e94;obtain⟨z,rfl⟩:=sh.one;simp only[Zda,Zbd,Zfb,List.set_cons_zero,Jck];refine h i x H _ hx s λH' s'=>?_;exact leaf (ws:=((List.range (i+1)).map fb).map V.bl) hi Sh.mk1 (s' _ _ e) (Zaj (by rw[Jab,Jab,Jb6];exact Zvj hn hi)) ⟨(s.trans s').upd hD,by rw[Zaa,Jdg,Jaw,Jaw];rfl,rfl⟩
theorem Zhd (n:Nat):((List.range n).map λ_=>true).all id=true:=by
 rw[Jbn];intro b hb;refine Zah (Jan.mp hb) λ_ _ e95=>?_;obtain rfl:=e95;rfl
def Zhe:Sp:=λvs H Q _=>∃ i:Int,vs=[.int i]/\Q (.bl true) H
theorem Zvq (F:Fun K "is_whole" "is_whole" Zfw f fd)(T:Txt K mg C G S):FnOk P w K mg base CX0 1 f fd ["thing"] Zhe:=by
 have nd:=Zej.nd;refine F.ok Zej (λvs H Q E h=>?_) (λcdv A outer s H vs Q E hr h=>?_)
 .refine Zah h λi e96 _=>?_;clear h;obtain rfl:=e96;rfl
 .refine Zah h λi e97 q=>?_;clear h;obtain rfl:=e97;refine⟨_,(~~~(Zga (Za4 Zbe rfl T.n_isinstance Jbs ((pvr 0)<&>((Zhp rfl T.n_int boot_int)<&>Zab))) (Zf9 (Zxf (Za4 Zbe rfl T.n_isinstance Jbs ((pvr 0)<&>((Zhp rfl T.n_bool boot_bool)<&>Zab))))))),?_⟩;walk_at "wp";exact Zav _ _ ⟨⟨rfl,rfl⟩,_,rfl,_,.int i,_,Zmi K,iteT ⟨_,_,⟨rfl,rfl⟩,_,rfl,_,.int i,_,Zke K,q⟩⟩
def Znh:Sp:=λvs H Q _=>∃ (m:Int) (x:V),vs=[.int m,x]/\Edge H m x/\∀ H',Same H H'->Q (.bl true) H'
theorem Zv3 (F:Fun K "is_arrow" "is_arrow" Zhm f fd)(T:Txt K mg C G S)(Yac:Cal P w K mg base "is_whole" 1 Zhe):FnOk P w K mg base CX0 2 f fd ["many","thing"] Znh:=by
 have nd:=Ziz.nd;refine F.ok Ziz (λvs H Q E h=>?_) (λcdv A outer s H vs Q E hr h=>?_)
 .refine Zbg h λm x e98 _=>?_;clear h;obtain rfl:=e98;rfl
 .refine Za3 h λm x e99 e910 q=>?_;clear h;obtain rfl:=e99;obtain⟨t,i,j,rfl,ht,i0,i1,j0,j1⟩:=e910;refine⟨_,((@Za7 _ _ _ _ _ _ _ _ (PW.pt (Zes (Zbq (Zbn (Za4 Zbe rfl T.n_isinstance Jbs ((pvr 1)<&>((Zhp rfl T.n_tuple boot_tuple)<&>Zab))))) (Zdq (Zat Zhq (Za4 Zak rfl T.n_len Ja6 ((pvr 1)<&>Zab)) Zac (Zao _))))) (~~~Ze8) Zan)<*>(~~~(Za4 (Zdf rfl) rfl T.n_all Je6 ((Zax (own:=["end"]) (fr:=[("many",0)]) rfl (Zbh (by kernel_rfl)) (Zxd (pv 1)) (λ_ _ _ _=>⟨(0<<<["end","many"]),Za0,(Zga (Yac<$>hr<$>((pv 0)<&>Zab)) (Zf9 (Zos Zpy Zjg Zac (pv 0) (pv 1))))⟩))<&>Zab)))),?_⟩;walk_at "wp";refine Zav _ _ ⟨⟨rfl,rfl⟩,_,rfl,_,.tup ht,_,Zmh K,Zwf ⟨_,.inr (SqT.of ht),Zwf ?_⟩⟩;refine⟨_,rfl,t,rfl,⟨_,SqT.of ht⟩,λD hD=>Zt3 (λ_=>true) ht hD (by show 2<=1000;decide) (λk x H' Q' hx s' q'=>?_) λH' s' e'=>⟨D,rfl,_,SqL.of e',?_⟩⟩
  .have hx':∃ z:Int,x=.int z/\0<=z/\z<m:=by
    match k,hx with
    | 0,hx=>exact⟨i,(Jbo hx).symm,i0,i1⟩
    | 1,hx=>exact⟨j,(Jbo hx).symm,j0,j1⟩
    | k+2,hx=>cases hx
   refine Zap hx' λz e911 z0 z1=>?_;clear hx';obtain rfl:=e911;refine⟨_,rfl,⟨z,rfl,true,rfl,iteT ⟨_,rfl,_,_,rfl,rfl,_,rfl,?_⟩⟩⟩;refine Zlq (Jag z0) ⟨_,rfl,_,_,rfl,rfl,?_⟩;show Q' (V.bl (decide (z<m))) H';rw[Jag z1];exact q' H' (Same.refl _)
  .rw [Zhd];exact q H' s'
def Zne:Sp:=λvs H Q _=>∃ (m:Int) (a:Addr) (xs:List V),vs=[.int m,.ref a]/\1<=m/\m<=8/\H a=some (.lst xs)/\xs.length<=9/\Edges H m xs/\∀ H',Same H H'->Q (.bl true) H'
theorem Zvx (F:Fun K "makes_drawing" "makes_drawing" Zdl f fd)(T:Txt K mg C G S)(Yac:Cal P w K mg base "is_whole" 1 Zhe)(Ybj:Cal P w K mg base "is_arrow" 2 Znh):FnOk P w K mg base CX0 3 f fd ["many","arrows"] Zne:=by
 have nd:=Ze1.nd;refine F.ok Ze1 (λvs H Q E h=>?_) (λcdv A outer s H vs Q E hr h=>?_)
 .refine Zfa h λm a xs e912 _=>?_;clear h;obtain rfl:=e912;rfl
 .refine Zb3 h λm a xs e913 m0 m8 e914=>?_;clear h;obtain rfl:=e913;refine Zbx e914 λha hl d q=>?_;clear e914;refine⟨_,((@Za7 _ _ _ _ _ _ _ _ (PW.pt (Zes (Zbq (Zbn (Yac<$>hr<$>((pvr 0)<&>Zab)))) (Zdq (Zbq (Zop Zpy Zpy Zac (pvr 0) (Zij rfl T.g_MOST_POINTS)))))) (~~~Ze8) Zan)<*>((@Za7 _ _ _ _ _ _ _ _ (PW.pt (Zes (Zbq (Zbn (Za4 Zbe rfl T.n_isinstance Jbs ((pvr 1)<&>((Zhp rfl T.n_list Jcf)<&>Zab))))) (Zdq (Zat Zg4 (Za4 Zak rfl T.n_len Ja6 ((pvr 1)<&>Zab)) (Zij rfl T.g_MOST_ARROWS) (Zao _))))) (~~~Ze8) Zan)<*>(~~~(Za4 (Zdf rfl) rfl T.n_all Je6 ((Zax (own:=["arrow"]) (fr:=[("many",0)]) rfl (Zbh (by kernel_rfl)) (Za1 (pv 1)) (λ_ _ _ _=>⟨(0<<<["arrow","many"]),Za0,(Ybj<$>hr<$>((pv 1)<&>((pv 0)<&>Zab)))⟩))<&>Zab))))),?_⟩;walk_at "wp";refine⟨m,rfl,true,rfl,Zwf (Zlq (Jag m0) (Zgd (by rw[Jag m8];decide) ⟨_,_,⟨rfl,rfl⟩,_,rfl,_,.lst ha,_,Zev K,Zwf ⟨_,.inl (SqL.of ha),Zgd (by rw[Ja5 ∅];decide) ?_⟩⟩))⟩;refine⟨_,rfl,a,rfl,⟨_,SqL.of ha⟩,λD hD=>Zg9 (λ_=>true) ha hD (Zvi hl) (λk x H' Q' hx s' q'=>?_) λH' s' e'=>⟨D,rfl,_,SqL.of e',?_⟩⟩
  .exact ⟨_,rfl,_,rfl,m,x,rfl,(d x (Jai hx)).same s',q'⟩
  .rw [Zhd];exact q H' s'
def Zxq (m:Int)(lp:Addr):List (Str×V):=Zcu "arrows" (.ref lp) (Zcu "many" (.int m) [])
theorem Zay (m:Int)(lp:Addr):(Zxq m lp).lookup ("arrows" : Str)=some (.ref lp):=by
 unfold Zxq;rw[Zau,if_pos rfl]
theorem Zc0 (m:Int)(lp:Addr):(Zxq m lp).lookup ("many" : Str)=some (.int m):=by
 unfold Zxq;rw[Zau,if_neg ⋯,Zau,if_pos rfl]
theorem Zjo (m:Int)(lp:Addr){x:Str}(h1:¬ x="arrows")(h2:¬ x="many"):(Zxq m lp).lookup x=none:=by
 unfold Zxq;rw[Zau,if_neg h1,Zau,if_neg h2];rfl
theorem Zwr (m:Int):(Zcu "many" (.int m) ([]:List (Str×V))).length<1000:=by
 have:=Zb7 "many" (.int m) [];simp at this;omega
def Zio (C:Addr):Sp:=λvs H Q _=>∃ (p dx:Addr) (m:Int) (a:Addr) (xs:List V),vs=[.ref p,.int m,.ref a]/\H p=some (.ins C dx [])/\1<=m/\m<=8/\H a=some (.lst xs)/\xs.length<=9/\Edges H m xs /\
 ∀ (lp:Addr) (H':Hp),Ext p H H'->H' p=some (.ins C dx (Zxq m lp))->H lp=none->H' lp=some (.lst xs)->Q .non H'
theorem ok_init (F:Fun K "__init__" "Drawing.__init__" Zd5 f fd)(T:Txt K mg C G S)(Ya2:Cal P w K mg base "makes_drawing" 3 Zne):FnOk P w K mg base CX0 4 f fd ["self","many","arrows"] (Zio C):=by
 have nd:=Zff.nd;refine F.ok Zff (λvs H Q E h=>?_) (λcdv A outer s H vs Q E hr h=>?_)
 .refine Zm1 h λp dx m a xs e92 _=>?_;clear h;obtain rfl:=e92;rfl
 .refine Zcx h λp dx m a xs e93 hp m0 e94=>?_;clear h;obtain rfl:=e93;refine Zdu e94 λm8 ha hl d q=>?_;clear e94;refine⟨_,((@Za7 _ _ _ _ _ _ _ _ (Zbq (Zbn (Ya2<$>hr<$>((pvr 1)<&>((pvr 2)<&>Zab))))) (@Zam _ _ _ Zbm) Zan)<*>((Zjd (pvr 0) (pvr 1) rfl)<*>(@Zam _ _ _ (Zjd (pvr 0) (Zfz Zbb rfl T.n_list Jcf ((pvr 2)<&>Zab)) rfl)))),?_⟩;walk_at "wp";refine Za9 m a xs ⟨rfl,m0,m8,ha,hl,d,λH1 s1=>⟨true,rfl,Zwf ?_⟩⟩;have nap:a≠p:=Zcz ha hp (by intro z;cases z);refine Za9 C dx [] ⟨s1 _ _ hp,T.cl_Drawing,T.nM,by show 0<1000;decide,xs,.inl (SqL.of (by rw[Zag nap];exact s1 _ _ ha)),λl hl0=>?_⟩;have npl:p≠l:=Zaf Zaa hl0;refine Za9 C dx _ ⟨by rw[Zag npl];exact Zaa,T.cl_Drawing,T.nA,Zwr m,?_⟩;have fl:H l=none:=by
   rw[Zag npl.symm] at hl0;exact s1.free hl0
  refine q l _ (λb o nb e=>?_) Zaa fl (by rw[Zag npl.symm];exact Zaa);rw[Zag nb,Zag (Zaf e fl),Zag nb];exact s1 _ _ e
def Prs (H:Hp)(xs:List V)(ps:List (Int×Int)):Prop:=xs.length=ps.length/\∀ (i:Nat) (x:V) (q:Int×Int),xs[i]?=some x->ps[i]?=some q->∃ t,x=.ref t/\H t=some (.tup [.int q.1,.int q.2])
theorem Prs.same {H H':Hp}{xs:List V}{ps:List (Int×Int)}(h:Prs H xs ps)(s:Same H H'):Prs H' xs ps:=⟨h.1,λi x q h1 h2=>let ⟨t,e1,e2⟩:=h.2 i x q h1 h2;⟨t,e1,s _ _ e2⟩⟩
def Zge (C:Addr)(H:Hp)(p:Addr)(m:Int)(lp:Addr)(xs:List V):Prop:=∃ dx,H p=some (.ins C dx (Zxq m lp))/\H lp=some (.lst xs)
theorem Zt5 {a D:Addr}{xs:List V}{ps:List (Int×Int)}{fr:List (Str×Nat)}{σ:L2.St}{te:TE}{H1:Hp}{Q:VK}(g:Int×Int->Bool)(ha:H1 a=some (.lst xs))(hps:Prs H1 xs ps)(hD:H1 D=none)(hn:xs.length<=1000)(h:∀ (i:Nat) q H (Q:VK),ps[i]?=some q->Same H1 H->(∀ H',Same H H'->Q (.bl (g q)) H')->te (some (.int q.1)::some (.int q.2)::Zb0 fr σ) H Q)(hQ:∀ H',Same H1 H'->H' D=some (.lst ((ps.map g).map V.bl))->Q (.ref D) H'):Zbv (Zwq K 2 (Zhv (Zbd 0) (Zhv (Zbd 1) Zxp))) Zfb te (Itl K a) D (Ze9 2 fr σ) H1 Q:=by
 have hlen:=hps.1;refine Zbp (xs:=xs) (λi vs H=>Same H1 H/\H D=some (.lst vs)/\vs=((ps.take i).map g).map V.bl) ⟨Same.new hD,Zaa,rfl⟩ (λi vs H _ p=>SqL.of (p.1 _ _ ha)) ?_ (λvs H ⟨s,e,hv⟩=>hQ H s (by rw[e,hv,hlen,Jbk]));intro i x vs σ' H hi hx sh e91;refine Zar e91 λs e e96=>?_;clear e91;obtain rfl:=e96;refine Zpl sh.two λz1 z2 e97=>?_;obtain rfl:=e97;have hi':i<ps.length:=by exact oz6 hlen hi
 have hq:ps[i]?=some ps[i]:=Jaa hi';refine Zah (hps.2 i x _ hx hq) λt e98 ht=>?_;obtain rfl:=e98;refine Zav t _ ⟨rfl,SqT.of (s _ _ ht),rfl,_,_,rfl,_,_,rfl,rfl,?_⟩;simp only[Zfb,List.set_cons_zero,List.set_cons_succ,Jck];refine h i _ H _ hq s λH' s'=>?_;refine leaf (ws:=((ps.take (i+1)).map g).map V.bl) hi Sh.mk2 (s' _ _ e) (Zaj (by rw[Jab,Jab,Ja0];exact oz84 hn hi)) ⟨(s.trans s').upd hD,?_,rfl⟩;rw[Zaa,Jbb,hq,Jaw,Jaw];rfl
def InP (m:Int)(ps:List (Int×Int)):Prop:=∀ q∈ps,0<=q.1/\q.1<m/\0<=q.2/\q.2<m
theorem Prs.nil {H:Hp}:Prs H [] []:=⟨rfl,λi x q h=>by simp at h⟩
theorem Prs.put {H:Hp}{D:Addr}{l:List V}{o:HO}{xs:List V}{ps:List (Int×Int)}(h:Prs H xs ps)(hD:H D=some (.lst l)):Prs (upd H D o) xs ps:=
 ⟨h.1,λi x q h1 h2=>let ⟨t,e1,e2⟩:=h.2 i x q h1 h2;⟨t,e1,by rw[Zag (Zcz e2 hD (by intro z;cases z))];exact e2⟩⟩
theorem Prs.add {H:Hp}{xs:List V}{ps:List (Int×Int)}{t:Addr}{q:Int×Int}(h:Prs H xs ps)(ht:H t=some (.tup [.int q.1,.int q.2])):Prs H (xs++[.ref t]) (ps++[q]):=by
 refine⟨by simp[h.1],λi x r h1 h2=>?_⟩;by_cases hi:i<xs.length
 .rw [Jar hi] at h1;rw[Jar (by rw[<- h.1];exact hi)] at h2;exact h.2 i x r h1 h2
 .rw [Jat (Zvh hi)] at h1;rw[Jat (by rw[<- h.1];exact Zvh hi)] at h2;have hl:=h.1;by_cases h0:i-xs.length=0
  .rw [h0] at h1;rw[<- hl,h0] at h2;simp at h1 h2;exact⟨t,h1.symm,by rw[<- h2];exact ht⟩
  .rw [Jb9 (by simp;exact oz5 h0)] at h1;cases h1
theorem Zpa {H:Hp}{m:Int}{xs:List V}{ps:List (Int×Int)}(h:Prs H xs ps)(r:InP m ps):Edges H m xs:=by
 intro x hx;obtain⟨i,hi,rfl⟩:=Jbu.mp hx;have hl:=h.1;have hq:ps[i]?=some (ps[i]'(Zuj hi hl)):=Jaa _;refine Zah (h.2 i _ _ (Jaa hi) hq) λt e1 e2=>?_;exact Za9 t _ _ ⟨e1,e2,r _ (Jai hq)⟩
def Drw (C:Addr)(H:Hp)(p:Addr)(m:Int)(ps:List (Int×Int)):Prop:=∃ lp xs,Zge C H p m lp xs/\xs.length<=9/\Prs H xs ps
theorem Drw.same {H H':Hp}{p:Addr}{m:Int}{ps:List (Int×Int)}(h:Drw C H p m ps)(s:Same H H'):Drw C H' p m ps:=by
 refine Za3 h λlp xs e94 h3 h4=>?_;clear h;obtain⟨dx,h1,h2⟩:=e94;exact Zav lp xs ⟨⟨dx,s _ _ h1,s _ _ h2⟩,h3,h4.same s⟩
theorem comp_tp {a D:Addr}{xs:List V}{ps:List (Int×Int)}{fr:List (Str×Nat)}{σ:L2.St}{te:TE}{H1:Hp}{Q:VK}(g:Int×Int->Int×Int)(ha:H1 a=some (.lst xs))(hps:Prs H1 xs ps)(hD:H1 D=none)(hn:xs.length<=1000)(h:∀ (i:Nat) x q H (Q:VK),xs[i]?=some x->ps[i]?=some q->Same H1 H->(∀ t H',Same H H'->H' t=some (.tup [.int (g q).1,.int (g q).2])->Q (.ref t) H')->te (some x::Zb0 fr σ) H Q)(hQ:∀ ys H',Same H1 H'->H' D=some (.lst ys)->Prs H' ys (ps.map g)->Q (.ref D) H'):Zbv (Zbd 0) Zfb te (Itl K a) D (Ze9 1 fr σ) H1 Q:=by
 have hlen:=hps.1;refine Zbp (xs:=xs) (λi vs H=>Same H1 H/\H D=some (.lst vs)/\Prs H vs ((ps.take i).map g)) ⟨Same.new hD,Zaa,Prs.nil⟩ (λi vs H _ p=>SqL.of (p.1 _ _ ha)) ?_ (λvs H ⟨s,e,hv⟩=>hQ vs H s e (by rw[hlen,Jbk] at hv;exact hv));intro i x vs σ' H hi hx sh e91;refine Zar e91 λs e hv=>?_;clear e91;obtain⟨z,rfl⟩:=sh.one;have hi':i<ps.length:=by exact oz6 hlen hi
 have hq:ps[i]?=some ps[i]:=Jaa hi';simp only[Zda,Zbd,Zfb,List.set_cons_zero,Jck];refine h i x _ H _ hx hq s λt H' s' ht=>?_;have hv':=(hv.same s').add ht;have hl:=hv'.1;refine leaf (ws:=vs++[.ref t]) hi Sh.mk1 (s' _ _ e) (Zaj (by have:=hv.1;rw[Jab,Ja0] at this;exact oz138 hn hi this)) ⟨(s.trans s').upd hD,Zaa,?_⟩;have:=hv'.put (o:=.lst (vs++[.ref t])) (s' _ _ e);rw[Jbb,hq,Jaw];exact this
theorem Zl7 {k:Nat}{A:Around}(hr:Room k A):A.units+8<cLine:=by have:=hr.units;omega
theorem all_rep (n:Nat):(List.replicate n true).all id=true:=by simp
theorem prs_eq {H:Hp}{xs ys:List V}{ps:List (Int×Int)}(h:Prs H xs ps)(h':Prs H ys ps):Zjs K H 6 xs ys (List.replicate xs.length true):=by
 refine⟨h.1.trans h'.1.symm,Ja4,λn y z b h1 h2 h3=>?_⟩;have hn:n<xs.length:=(Jah.mp h1).1;rw[Jby,if_pos hn] at h3;cases h3;have hl:=h.1;have hq:ps[n]?=some (ps[n]'(Zuj hn hl)):=Jaa _;refine Zah (h.2 n y _ h1 hq) λt e95 ht=>?_;obtain rfl:=e95;refine Zah (h'.2 n z _ h2 hq) λu e96 hu=>?_;obtain rfl:=e96;by_cases e:t=u
 .subst e;exact .same
 .refine .tuple (bs:=[true,true]) e (SqT.of ht) (SqT.of hu) rfl rfl λj x y b e1 e2 e3=>?_
  match j,e1,e2,e3 with
  | 0,e1,e2,e3=>
   cases e1;cases e2;cases e3;have:=EqD.flat (K:=K) (H:=H) (n:=5) (x:=.int (ps[n]'(Zuj hn hl)).1) (y:=.int (ps[n]'(Zuj hn hl)).1) rfl rfl;rw[show eqV (.int (ps[n]'(Zuj hn hl)).1) (.int (ps[n]'(Zuj hn hl)).1)=true from by simp[eqV]] at this;exact this
  | 1,e1,e2,e3=>
   cases e1;cases e2;cases e3;have:=EqD.flat (K:=K) (H:=H) (n:=5) (x:=.int (ps[n]'(Zuj hn hl)).2) (y:=.int (ps[n]'(Zuj hn hl)).2) rfl rfl;rw[show eqV (.int (ps[n]'(Zuj hn hl)).2) (.int (ps[n]'(Zuj hn hl)).2)=true from by simp[eqV]] at this;exact this
  | j+2,e1,_,_=>cases e1
theorem Same.thru {l:Addr}{H H1 H2:Hp}(s:Same H H1)(h:H l=none)(e:Ext l H1 H2):Same H H2:=λb o eb=>e b o (Zaf eb h) (s b o eb)
end
end Pf
namespace Pf
open PySem L2 PyProof.Rows
def stepL (f:Int->Int)(q:Int×Int):Int->Int:=λx=>if f x=max (f q.1) (f q.2) then min (f q.1) (f q.2) else f x
def Zb1 (ps:List (Int×Int)):Int->Int:=ps.foldl stepL id
def Zw2 (h:Int->Int)(ps:List (Int×Int)):Prop:=∀ q∈ps,h q.1=h q.2
structure Lab (m:Int)(ps:List (Int×Int))(f:Int->Int):Prop where
 le:∀ x,0<=x->x<m->f x<=x
 lo:∀ x,0<=x->x<m->0<=f x
 co:∀ h,Zw2 h ps->∀ x,0<=x->x<m->h (f x)=h x
theorem Lab.lt {m:Int}{ps:List (Int×Int)}{f:Int->Int}(L:Lab m ps f){x:Int}(h0:0<=x)(h1:x<m):f x<m:=Int.lt_of_le_of_lt (L.le x h0 h1) h1
theorem Lab.id (m:Int)(ps:List (Int×Int)):Lab m ps id:=⟨λx _ _=>Jd8 x,λx h _=>h,λ_ _ _ _ _=>rfl⟩
theorem Lab.stepL {m:Int}{ps:List (Int×Int)}{f:Int->Int}{q:Int×Int}(L:Lab m ps f)(hp:InP m ps)(hq:q∈ps):Lab m ps (stepL f q):=by
 refine Zbx (hp q hq) λa0 a1 b0 b1=>?_;have fa:=L.lo _ a0 a1;have fb:=L.lo _ b0 b1;refine⟨λx h0 h1=>?_,λx h0 h1=>?_,λh c x h0 h1=>?_⟩
 .have:=L.le x h0 h1;unfold Pf.stepL;split <;> omega
 .have:=L.lo x h0 h1;unfold Pf.stepL;split <;> omega
 .have e:=L.co h c x h0 h1;have ea:=L.co h c _ a0 a1;have eb:=L.co h c _ b0 b1;have eq:=c q hq;unfold Pf.stepL;split
  .rename_i hx
   rw[<- e,hx];rcases Int.le_total (f q.1) (f q.2) with z|z
   .rw [Int.min_eq_left z,Int.max_eq_right z];exact oz86 ea eb eq
   .rw [Int.min_eq_right z,Int.max_eq_left z];exact oz60 ea eb eq
  .exact e
theorem Zpr {f:Int->Int}{q:Int×Int}{x y:Int}(h:f x=f y):stepL f q x=stepL f q y:=by unfold stepL;rw[h]
theorem Zps {f:Int->Int}{q:Int×Int}:stepL f q q.1=stepL f q q.2:=by
 unfold stepL;split <;> split <;> omega
theorem Zs3 {m:Int}{ps:List (Int×Int)}(hp:InP m ps):∀ (r:List (Int×Int)) (d:List (Int×Int)) (f:Int->Int),(∀ q∈r,q∈ps)->Lab m ps f->Zw2 f d->Lab m ps (r.foldl stepL f)/\Zw2 (r.foldl stepL f) (d++r)
 | [],d,f,_,L,c=>⟨L,by simpa using c⟩
 | q::r,d,f,hr,L,c=>by
  have L':=L.stepL hp (hr q Jb3);have:=Zs3 hp r (d++[q]) (stepL f q) (λz hz=>hr z (Ja9 _ hz)) L' (λz hz=>by
   rcases Jbp.mp hz with hz|hz
   .exact Zpr (c z hz)
   .rw [Jam.mp hz];exact Zps)
  simpa using this
theorem Zlc {m:Int}{ps:List (Int×Int)}(hp:InP m ps):Lab m ps (Zb1 ps)/\Zw2 (Zb1 ps) ps:=by
 have:=Zs3 hp ps [] id (λ_ h=>h) (Lab.id m ps) (λq h=>by simp at h);simpa [Zb1] using this
def Zho (n:Nat)(f:Int->Int)(k:Int):List Int:=((List.range n).filter λj=>decide (f (j:Nat)=k)).map λj=>((j:Nat):Int)
def Zer (n:Nat)(f:Int->Int):List (List Int):=((List.range n).filter λi=>decide (f (i:Nat)=(i:Nat))).map λi=>Zho n f (i:Nat)
end Pf
namespace Pf
open PySem L2 PyProof.Rows
section
variable {C G S:Addr}
theorem room1 {k:Nat}{A:Around}(hr:Room k A):A.units+1<cLine:=by have:=hr.units;omega
def ptsV (n:Nat):List V:=(List.range n).map λj=>V.int ((j:Nat):Int)
theorem Zu8 {m:Int}:Zuh 0 m=ptsV m.toNat:=by unfold Zuh ptsV;simp
structure Pts (J:It)(H1:Hp)(n:Nat):Prop where
 go:∀ i H,i<n->Same H1 H->J.go i H/\∀ x H',J.yld i H x H'->H'=H/\x=V.int (i:Nat)
 stop:∀ H,Same H1 H->J.stop n H
def RowsF (D:Addr)(H0 H:Hp)(qs:List V)(L:List (List Int)):Prop:=
 qs.length=L.length/\∀ (i:Nat) q r,qs[i]?=some q->L[i]?=some r->∃ t,q=.ref t/\t≠D/\H0 t=none/\H t=some (.lst (r.map V.int))
theorem RowsF.nil {D:Addr}{H0 H:Hp}:RowsF D H0 H [] []:=⟨rfl,λi q r h=>by simp at h⟩
theorem RowsF.same {D:Addr}{H0 H H':Hp}{qs:List V}{L:List (List Int)}(h:RowsF D H0 H qs L)(s:Same H H'):RowsF D H0 H' qs L:=
 ⟨h.1,λi q r h1 h2=>let ⟨t,e1,e2,e3,e4⟩:=h.2 i q r h1 h2;⟨t,e1,e2,e3,s _ _ e4⟩⟩
theorem RowsF.put {D:Addr}{H0 H:Hp}{o:HO}{qs:List V}{L:List (List Int)}(h:RowsF D H0 H qs L):RowsF D H0 (upd H D o) qs L:=
 ⟨h.1,λi q r h1 h2=>let ⟨t,e1,e2,e3,e4⟩:=h.2 i q r h1 h2;⟨t,e1,e2,e3,by rw[Zag e2];exact e4⟩⟩
theorem RowsF.old {D:Addr}{H0 H1 H:Hp}{qs:List V}{L:List (List Int)}(h:RowsF D H1 H qs L)(s:Same H0 H1):RowsF D H0 H qs L:=
 ⟨h.1,λi q r h1 h2=>let ⟨t,e1,e2,e3,e4⟩:=h.2 i q r h1 h2;⟨t,e1,e2,s.free e3,e4⟩⟩
theorem RowsF.add {D:Addr}{H0 H:Hp}{qs:List V}{L:List (List Int)}{t:Addr}{r:List Int}(h:RowsF D H0 H qs L)(n:t≠D)(f:H0 t=none)(ht:H t=some (.lst (r.map V.int))):RowsF D H0 H (qs++[.ref t]) (L++[r]):=by
 refine⟨by simp[h.1],λi x r' h1 h2=>?_⟩;by_cases hi:i<qs.length
 .rw [Jar hi] at h1;rw[Jar (by rw[<- h.1];exact hi)] at h2;exact h.2 i x r' h1 h2
 .rw [Jat (Zvh hi)] at h1;rw[Jat (by rw[<- h.1];exact Zvh hi)] at h2;have hl:=h.1;by_cases h0:i-qs.length=0
  .rw [h0] at h1;rw[<- hl,h0] at h2;simp at h1 h2;exact⟨t,h1.symm,n,f,by rw[<- h2];exact ht⟩
  .rw [Jb9 (by simp;exact oz5 h0)] at h1;cases h1
def DRep (n:Nat)(kvs:List (Key×V))(f:Int->Int):Prop:=kvs.length<=n/\∀ x:Int,0<=x->x<n->Zhz kvs (.inl x)=some (.int (f x))
theorem Zu7 {kvs:List (Key×V)}{k:Key}{v:V}(h:(Zhz kvs k).isSome=true):(Zjt kvs k v).length=kvs.length:=by
 unfold Zjt;rw[Zfs,h,if_pos rfl,Jab]
theorem DRep.get {n:Nat}{kvs:List (Key×V)}{f:Int->Int}{H:Hp}{D:Addr}{x:Int}(h:DRep n kvs f)(e:H D=some (.dK kvs))(h0:0<=x)(h1:x<n):DGet H D (.int x) (some (.int (f x))):=by
 have:=DGet.k (k:=.inl x) e;rwa [h.2 x h0 h1] at this
theorem sort2 {ns:List Int}{x y:Int}(hp:ns.Perm [x,y])(hs:ns.Pairwise (·<=·)):ns=[min x y,max x y]:=by
 have hl:=hp.length_eq
 match ns,hl with
 | [u,v],_=>
  have h1:u∈[x,y]:=hp.mem_iff.mp (by simp);have h2:v∈[x,y]:=hp.mem_iff.mp (by simp);have h3:x∈[u,v]:=hp.mem_iff.mpr (by simp);have h4:y∈[u,v]:=hp.mem_iff.mpr (by simp);have h5:u<=v:=by simpa using hs
  simp at h1 h2 h3 h4;have e1:u=min x y:=by exact oz11 h5 h1 h3 h4
  have e2:v=max x y:=by exact oz8 h2 h3 h4 e1
  rw[e1,e2]
theorem ixN_at {n:Nat}{k:Int}(h0:0<=k)(h1:k<n):ixN n k=some k.toNat:=by
 unfold ixN;rw[if_pos h0,if_pos h1]
def Zkr (C:Addr):Sp:=λvs H Q _=>∃ (x:Addr) (m:Int) (ps:List (Int×Int)),vs=[.ref x]/\Drw C H x m ps/\InP m ps/\1<=m/\m<=8 /\
 ∀ p qs H',Same H H'->H p=none->H' p=some (.lst qs)->RowsF p H H' qs (Zer m.toNat (Zb1 ps))->Q (.ref p) H'
theorem Zht {L:List Int}{i:Nat}{x:V}(h:(L.map V.int)[i]?=some x):∃ y,L[i]?=some y/\x=.int y:=by
 rw[Jau] at h;cases e:L[i]? with
 | none=>rw[e] at h;cases h
 | some y=>rw[e] at h;cases h;exact⟨y,rfl,rfl⟩
theorem Zn2 {a D:Addr}{L:List Int}{fr:List (Str×Nat)}{σ:L2.St}{tt:TT}{H1:Hp}{Q:VK}(g:Int->Bool)(ha:H1 a=some (.lst (L.map V.int)))(hD:H1 D=none)(hn:L.length<=900)(h:∀ x H (Q:Bool->Hp->Prop),x∈L->Same H1 H->Q (g x) H->tt (some (.int x)::Zb0 fr σ) H Q)(hQ:∀ H',Same H1 H'->H' D=some (.lst ((L.filter g).map V.int))->Q (.ref D) H'):Zbv (Zbd 0) tt (Zlz 0) (Itl K a) D (Ze9 1 fr σ) H1 Q:=by
 refine Zbp (xs:=L.map V.int) (λi vs H=>Same H1 H/\H D=some (.lst vs)/\vs=((L.take i).filter g).map V.int) ⟨Same.new hD,Zaa,rfl⟩ (λi vs H _ p=>SqL.of (p.1 _ _ ha)) ?_ (λvs H ⟨s,e,hv⟩=>hQ H s (by rw[e,hv,Jab,Jbk]));intro i x vs σ' H hi hx sh e91;refine Zar e91 λs e hv=>?_;clear e91;obtain⟨z,rfl⟩:=sh.one;refine Zah (Zht hx) λy ey e94=>?_;obtain rfl:=e94;have et:L.take (i+1)=L.take i++[y]:=by rw[Jbb,ey];rfl
 have hl:=Jbi g (L.take i);rw[Ja0] at hl;simp only[Zda,Zbd,List.set_cons_zero];refine h y H _ (Jai ey) s (Zc6 (λhg=>?_) (λhg=>?_))
 .refine ⟨_,rfl,leaf (ws:=vs++[.int y]) hi Sh.mk1 e (Zaj (by rw[hv,Jab];exact oz55 hn hl)) ⟨s.upd hD,Zaa,?_⟩⟩;rw[et,Jcy,hv];simp[hg]
 .refine Zv9 (ws:=vs) hi Sh.mk1 ⟨s,e,?_⟩;rw[et,Jcy,hv];simp[hg]
theorem comp_rl {a D:Addr}{L:List Int}{fr:List (Str×Nat)}{σ:L2.St}{tt:TT}{te:TE}{H1:Hp}{Q:VK}(g:Int->Bool)(row:Int->List Int)(ha:H1 a=some (.lst (L.map V.int)))(hD:H1 D=none)(hn:L.length<=900)(h:∀ x H (Q:Bool->Hp->Prop),x∈L->Same H1 H->Q (g x) H->tt (some (.int x)::Zb0 fr σ) H Q)(he:∀ x H (Q:VK),x∈L->Same H1 H->(∀ t H',H t=none->Same H H'->H' t=some (.lst ((row x).map V.int))->Q (.ref t) H')->te (some (.int x)::Zb0 fr σ) H Q)(hQ:∀ qs H',Same H1 H'->H' D=some (.lst qs)->RowsF D H1 H' qs ((L.filter g).map row)->Q (.ref D) H'):Zbv (Zbd 0) tt te (Itl K a) D (Ze9 1 fr σ) H1 Q:=by
 refine Zbp (xs:=L.map V.int) (λi vs H=>Same H1 H/\H D=some (.lst vs)/\RowsF D H1 H vs (((L.take i).filter g).map row)) ⟨Same.new hD,Zaa,RowsF.nil⟩ (λi vs H _ p=>SqL.of (p.1 _ _ ha)) ?_ (λvs H ⟨s,e,hv⟩=>hQ vs H s e (by rw[Jab,Jbk] at hv;exact hv));intro i x vs σ' H hi hx sh e92;refine Zar e92 λs e hv=>?_;clear e92;obtain⟨z,rfl⟩:=sh.one;refine Zah (Zht hx) λy ey e95=>?_;obtain rfl:=e95;have et:L.take (i+1)=L.take i++[y]:=by rw[Jbb,ey];rfl
 have hl:=Jbi g (L.take i);rw[Ja0] at hl;have hv1:=hv.1;rw[Jab] at hv1;simp only[Zda,Zbd,List.set_cons_zero];refine h y H _ (Jai ey) s (Zc6 (λhg=>?_) (λhg=>?_))
 .refine he y H _ (Jai ey) s λt H' ft s' ht=>?_;have nt:t≠D:=(Zaf e ft).symm;refine leaf (ws:=vs++[.ref t]) hi Sh.mk1 (s' _ _ e) (Zaj (oz110 hn hl hv1)) ⟨(s.trans s').upd hD,Zaa,?_⟩;have:=((hv.same s').add nt (s.free ft) ht).put (o:=.lst (vs++[.ref t]));rw[et,Jcy,Jaw];simpa [hg] using this
 .refine Zv9 (ws:=vs) hi Sh.mk1 ⟨s,e,?_⟩;rw[et,Jcy,Jaw];simpa [hg] using hv
def DRepL (L:List Int)(kvs:List (Key×V))(f:Int->Int):Prop:=kvs.length<=L.length/\∀ x∈L,Zhz kvs (.inl x)=some (.int (f x))
theorem DRepL.put {L:List Int}{kvs:List (Key×V)}{f:Int->Int}{k v:Int}(h:DRepL L kvs f)(hk:k∈L):DRepL L (Zjt kvs (.inl k) (.int v)) (λy=>if y=k then v else f y):=by
 refine⟨by rw[Zu7 (by rw[h.2 k hk];rfl)];exact h.1,λx hx=>?_⟩;rw[Zoa];by_cases e:x=k
 .subst e;simp
 .show _=some (V.int (if x=k then v else f x));rw[if_neg (by intro z;exact e (Sum.inl.inj z)),if_neg e];exact h.2 x hx
theorem DRepL.congr {L:List Int}{kvs:List (Key×V)}{f g:Int->Int}(h:DRepL L kvs f)(e:∀ x∈L,f x=g x):DRepL L kvs g:=⟨h.1,λx hx=>by rw[h.2 x hx,e x hx]⟩
theorem DRepL.get {L:List Int}{kvs:List (Key×V)}{f:Int->Int}{H:Hp}{D:Addr}{x:Int}(h:DRepL L kvs f)(e:H D=some (.dK kvs))(hx:x∈L):DGet H D (.int x) (some (.int (f x))):=by
 have:=DGet.k (k:=.inl x) e;rwa [h.2 x hx] at this
theorem comp_dl {a D:Addr}{L:List Int}{σ:L2.St}{H1:Hp}{Q:VK}(ha:H1 a=some (.lst (L.map V.int)))(nd:L.Nodup)(hD:H1 D=none)(hn:L.length<=900)(hQ:∀ kvs H',Same H1 H'->H' D=some (.dK kvs)->DRepL L kvs id->Q (.ref D) H'):Zm8 (Zbd 0) Zfb (Zlz 0) (Zlz 0) (Itl K a) D (Ze9 1 [] σ) H1 Q:=by
 refine⟨λi m σ' H2=>m=L.length-i/\i<=L.length/\(∃ z,σ'=[z])/\∃ kvs,Same H1 H2/\H2 D=some (.dK kvs)/\kvs.length=i/\∀ x:Int,Zhz kvs (.inl x)=if x∈L.take i then some (.int x) else none,⟨L.length,by simp,Jbm _,⟨none,rfl⟩,[],Same.new hD,Zaa,rfl,λx=>by simp;rfl⟩,?_⟩;intro i m σ' H2 e93;refine Zbx e93 λe96 hi e97 e98=>?_;clear e93;obtain rfl:=e96;obtain⟨z,rfl⟩:=e97;obtain⟨kvs,s,e,hl,hv⟩:=e98;by_cases hlt:i<L.length
 .refine .inr ⟨⟨_,_,SqL.of (s _ _ ha),Jaa (by rw[Jab];exact hlt)⟩,λx H3 y=>?_⟩;obtain⟨rfl,y2⟩:=y;refine Zah (Zht (y2 _ (SqL.of (s _ _ ha)))) λu eu e99=>?_;obtain rfl:=e99;have et:L.take (i+1)=L.take i++[u]:=by rw[Jbb,eu];rfl
  have nu:u∉L.take i:=λzz=>by
   have h1:(L.take (i+1)).Nodup:=Jbe (Jfd _ _) nd;rw[et] at h1;exact (Jeb.mp h1).2.2 u zz u (by simp) rfl
  simp only[Zbd,Zfb,Jck,List.set_cons_zero];refine⟨_,rfl,_,rfl,kvs,.inl u,rfl,e,Zaj ∅,L.length-(i+1),oz10 hlt,rfl,oz101 hlt,⟨_,rfl⟩,Zjt kvs (.inl u) (.int u),s.upd hD,Zaa,?_,λx=>?_⟩
  .rw [Zu6 _ (by rw[hv,if_neg nu])];simp[hl]
  .rw [Zoa,et];by_cases ex:x=u
   .subst ex;simp
   .rw [if_neg (by intro z;exact ex (Sum.inl.inj z)),hv];by_cases c:x∈L.take i
    .rw [if_pos c,if_pos (by simp[c])]
    .rw [if_neg c,if_neg (by simp[c,ex])]
 .have ei:i=L.length:=by exact oz28 hi hlt
  subst ei;exact .inl ⟨⟨_,SqL.of (s _ _ ha),by rw[Jab];exact Jaf _⟩,hQ kvs H2 s e ⟨∅,λx hx=>by rw[hv,if_pos (by rw[Jbk];exact hx)];rfl⟩⟩
def Zpu (L:List Int)(f:Int->Int)(k:Int):List Int:=L.filter λx=>decide (f x=k)
def Zgn (L:List Int)(f:Int->Int):List (List Int):=(L.filter λx=>decide (f x=x)).map λk=>Zpu L f k
def spHg:Sp:=λvs H Q _=>∃ (a b:Addr) (L:List Int) (xs:List V) (ps:List (Int×Int)),vs=[.ref a,.ref b]/\H a=some (.lst (L.map V.int))/\H b=some (.lst xs)/\L.Nodup/\L.length<=8/\xs.length<=9/\Prs H xs ps/\(∀ q∈ps,q.1∈L/\q.2∈L) /\
 ∀ p qs H',Same H H'->H p=none->H' p=some (.lst qs)->RowsF p H H' qs (Zgn L (Zb1 ps))->Q (.ref p) H'
theorem ok_hg (F:Fun K "hanging" "hanging" Zja f fd)(T:Txt K mg C G S):FnOk P w K mg base CX0 1 f fd ["points","arrows"] spHg:=by
 have nd:=Zj6.nd;refine F.ok Zj6 (λvs H Q E h=>?_) (λcdv A outer s H vs Q E hr h=>?_)
 .refine Zm1 h λa b L xs ps e95 _=>?_;clear h;obtain rfl:=e95;rfl
 .refine Zcx h λa b L xs ps e96 ha hb e97=>?_;clear h;obtain rfl:=e96;refine Zgf e97 λnL hn hx hps hin q=>?_;clear e97;have hu1:=room1 hr;refine⟨_,((Zal (i:=2) nd rfl (Or.inr rfl) (Zvd (own:=["point"]) (fr:=[]) rfl (Zbh (by kernel_rfl)) (Za1 (pv 0)) (λ_ _ _ _=>⟨(0<<<["point"]),Za0,(pv 0),(pv 0)⟩)))<*>((Zcy Ja7 rfl (Za1 (pv 1)) (@Zb8 _ _ _ _ _ 2 rfl ((3>>>nd)^^^((4>>>nd)^^^(@Za2 _))) ⇑1 ⇑1) ((Zcl (Za4 Zjp rfl T.n_sorted boot_sorted ((@Zbj _ _ _ _ ((Zjf hu1 (pvr 2) (pvr 3) (λ_ _=>rfl))<&>((Zjf hu1 (pvr 2) (pvr 4) (λ_ _=>rfl))<&>Zab)))<&>Zab)) (@pg_lst _ _ _ _ _ 2 rfl ((5>>>nd)^^^((6>>>nd)^^^(@Za2 _))) ⇑1 ⇑1))<*>(@Zam _ _ _ (Zcy Ja7 rfl (Za1 (pv 0)) (7>>>nd) (@Zam _ _ _ (@Za7 _ _ _ _ _ _ _ _ (Zat Zc5 (Zjf hu1 (pvr 2) (pvr 7) (λ_ _=>rfl)) (pvr 6) (Zao _)) (@Zam _ _ _ (ps_dput hu1 (pvr 2) (pvr 7) (pvr 5) rfl)) Zan))))))<*>(~~~(Zax (own:=["first"]) (fr:=[("points",0),("least",2)]) rfl (Zbh (by kernel_rfl)) (Za1 (pv 0)) (λ_ _ _ _=>⟨(@Zad _ _ 0 _ (show (["first","points","least"]:List Str).Nodup by decide +kernel) rfl (Or.inr rfl) (Or.inl rfl)),(Zcp (Za5 Zc5 (Zjf hu1 (pv 2) (pv 0) (λ_ _=>rfl)) (pv 0) (Zao _))),(Zax (own:=["point"]) (fr:=[("least",2),("first",0)]) rfl (Zbh (by kernel_rfl)) (Zk5 K rfl (pv 1)) (λ_ _ _ _=>⟨(0<<<["point","least","first"]),(Zcp (Za5 Zc5 (Zjf hu1 (pv 1) (pv 0) (λ_ _=>rfl)) (pv 2) (Zao _))),(pv 0)⟩))⟩))))),?_⟩;walk_at "wp";refine⟨_,rfl,a,rfl,⟨_,SqL.of ha⟩,λD hD=>comp_dl ha nL hD ∅ λkvs0 H1 s1 hD1 r1=>?_⟩;refine⟨_,rfl,b,rfl,⟨_,SqL.of (s1 _ _ hb)⟩,Zd0 (xs:=xs) (λi σ Hi=>∃ v3 v4 v5 v6 v7:Option V,σ=[some (.ref a),some (.ref b),some (.ref D),v3,v4,v5,v6,v7]/\Same H Hi/\∃ kvs,Hi D=some (.dK kvs)/\DRepL L kvs ((ps.take i).foldl stepL id)) ⟨none,none,none,none,none,rfl,s1,kvs0,hD1,r1⟩ (λi σ Hi _ ⟨_,_,_,_,_,_,si,_⟩=>SqL.of (si _ _ hb)) ?_ ?_⟩
  .intro i x σ Hi hxi e91;refine xE5_3 e91 λv3 v4 v5 v6 v7 e98 si e99=>?_;clear e91;obtain rfl:=e98;obtain⟨kvs,hDi,ri⟩:=e99;have hi:i<ps.length:=by have:=(Jah.mp hxi).1;have:=hps.1;omega
   have hq:ps[i]?=some ps[i]:=Jaa hi;refine Zah (hps.2 i x _ hxi hq) λt e910 ht=>?_;obtain rfl:=e910;obtain⟨a0,b0⟩:=hin _ (Jai hq);have ef:(ps.take (i+1)).foldl stepL id=stepL ((ps.take i).foldl stepL id) ps[i]:=by rw[Jbb,hq,List.foldl_append];rfl
   generalize ps[i]=qq at *;generalize (ps.take i).foldl stepL id=f0 at *;walk_at "wp";refine⟨_,SqT.of (si _ _ ht),rfl,_,_,rfl,_,_,rfl,rfl,_,ri.get hDi a0,_,ri.get hDi b0,⇑0,λp hp=>⟨[f0 qq.1,f0 qq.2],SqL.of Zaa,by simp,λl ns' hl hpm hso=>?_⟩⟩;have hns:=sort2 hpm hso;subst hns;refine⟨_,SqL.of Zaa,rfl,_,_,rfl,_,_,rfl,rfl,?_⟩;have s2:Same Hi (upd (upd Hi p (.lst [.int (f0 qq.1),.int (f0 qq.2)])) l (.lst ([min (f0 qq.1) (f0 qq.2),max (f0 qq.1) (f0 qq.2)].map V.int))):=(Same.new hp).trans (Same.new hl);generalize upd (upd Hi p (.lst [.int (f0 qq.1),.int (f0 qq.2)])) l (.lst ([min (f0 qq.1) (f0 qq.2),max (f0 qq.1) (f0 qq.2)].map V.int))=H2 at *;refine⟨_,rfl,a,rfl,⟨_,SqL.of (s2 _ _ (si _ _ ha))⟩,Zd0 (xs:=L.map V.int) (λj σ Hj=>∃ w7:Option V,σ=[some (.ref a),some (.ref b),some (.ref D),some (.int qq.1),some (.int qq.2),some (.int (min (f0 qq.1) (f0 qq.2))),some (.int (max (f0 qq.1) (f0 qq.2))),w7]/\Same H Hj/\∃ kvs,Hj D=some (.dK kvs)/\DRepL L kvs (λx=>if x∈L.take j/\f0 x=max (f0 qq.1) (f0 qq.2) then min (f0 qq.1) (f0 qq.2) else f0 x))
    ⟨v7,rfl,si.trans s2,kvs,s2 _ _ hDi,ri.congr λx _=>by rw[if_neg (by simp)]⟩ (λj σ Hj _ ⟨_,_,sj,_⟩=>SqL.of (sj _ _ ha)) ?_ ?_⟩
   .intro j x σ Hj hxj e92;refine Zap e92 λw7 e911 sj e912=>?_;clear e92;obtain rfl:=e911;obtain⟨kvs',hDj,rj⟩:=e912;refine Zah (Zht hxj) λu eu e913=>?_;obtain rfl:=e913;have hu:=Jai eu;have et:L.take (j+1)=L.take j++[u]:=by rw[Jbb,eu];rfl
    have nu:u∉L.take j:=λzz=>by
     have h1:(L.take (j+1)).Nodup:=Jbe (Jfd _ _) nL;rw[et] at h1;exact (Jeb.mp h1).2.2 u zz u (by simp) rfl
    walk_at "wp";have gj:=rj.get (x:=u) hDj hu;rw[if_neg (λz=>nu z.1)] at gj;refine⟨_,gj,rfl,Zc6 (λhc=>?_) (λhc=>?_)⟩
    .have hc:f0 u=max (f0 qq.1) (f0 qq.2):=V.int.inj (Jaq hc);refine⟨_,DPut.k (k:=.inl u) hDj (Zaj (by have:=rj.1;omega)),sj.upd hD,_,Zaa,(rj.put (k:=u) hu).congr λx hxL=>?_⟩;rw[et];by_cases ex:x=u
     .subst ex;rw[if_pos rfl,if_pos ⟨by simp,hc⟩]
     .rw [if_neg ex];by_cases c:x∈L.take j/\f0 x=max (f0 qq.1) (f0 qq.2)
      .rw [if_pos c,if_pos ⟨by simp[c.1],c.2⟩]
      .rw [if_neg c,if_neg (by intro z;exact c ⟨by simpa [ex] using z.1,z.2⟩)]
    .have hc:¬ f0 u=max (f0 qq.1) (f0 qq.2):=λz=>hc (Jag (Jec V.int z));refine⟨sj,kvs',hDj,rj.congr λx hxL=>?_⟩;rw[et];by_cases ex:x=u
     .subst ex;rw[if_neg (λz=>hc z.2),if_neg (λz=>hc z.2)]
     .by_cases c:x∈L.take j/\f0 x=max (f0 qq.1) (f0 qq.2)
      .rw [if_pos c,if_pos ⟨by simp[c.1],c.2⟩]
      .rw [if_neg c,if_neg (by intro z;exact c ⟨by simpa [ex] using z.1,z.2⟩)]
   .intro σ Hj e93;refine Zap e93 λw7 e914 sj e915=>?_;clear e93;obtain rfl:=e914;obtain⟨kvs',hDj,rj⟩:=e915;refine Zd1 _ _ _ _ _ ⟨rfl,sj,kvs',hDj,?_⟩;rw[ef];refine rj.congr λx hxL=>?_;rw[Jab,Jbk];unfold stepL;by_cases c:f0 x=max (f0 qq.1) (f0 qq.2)
    .rw [if_pos ⟨hxL,c⟩,if_pos c]
    .rw [if_neg (λz=>c z.2),if_neg c]
  .intro σ Hi e94;refine xE5_3 e94 λv3 v4 v5 v6 v7 e916 si e917=>?_;clear e94;obtain rfl:=e916;obtain⟨kvs,hDi,ri⟩:=e917;have hl:ps.take xs.length=ps:=by rw[hps.1,Jbk]
   rw[hl] at ri;have ri:DRepL L kvs (Zb1 ps):=ri;generalize Zb1 ps=f0 at *;refine⟨_,rfl,a,rfl,⟨_,SqL.of (si _ _ ha)⟩,λp hp=>comp_rl (λx=>decide (f0 x=x)) (λk=>Zpu L f0 k) (si _ _ ha) hp ∅ ?_ ?_ λqs H' s' hp' rr=>q p qs H' (si.trans s') (si.free hp) hp' (rr.old si)⟩
   .intro x H2 Q2 hx s2 k2;walk_at "wp";refine⟨_,rfl,D,rfl,_,ri.get (s2 _ _ hDi) hx,rfl,?_⟩;have e:decide (V.int (f0 x)=V.int x)=decide (f0 x=x):=by simp only[V.int.injEq]
    rw[e];exact k2
   .intro x H2 Q2 hx s2 k2;refine⟨_,rfl,a,rfl,⟨_,SqL.of (s2 _ _ (si _ _ ha))⟩,λt ft=>Zn2 (λy=>decide (f0 y=x)) (s2 _ _ (si _ _ ha)) ft ∅ ?_ λH' s' ht=>k2 t H' ft s' ht⟩;intro y H3 Q3 hy s3 k3;walk_at "wp";refine⟨_,rfl,D,rfl,_,ri.get (s3 _ _ (s2 _ _ hDi)) hy,_,rfl,rfl,?_⟩;have e:decide (V.int (f0 y)=V.int x)=decide (f0 y=x):=by simp only[V.int.injEq]
    rw[e];exact k3
theorem Zcw {A X:TS}{D:Ends}{σ:L2.St}{H:Hp}(h:∀ X',X'=X->Zqy A X' D σ H):Zqy A X D σ H:=h X rfl
def Za8 (es:List (Int×Int)):List Int:=es.flatMap λq=>[q.1,q.2]
def esF (es:List (Int×Int))(f:Int):List (Int×Int):=es.filter λq=>decide (q.1≠f/\q.2≠f)
def Zmy (S:List Int)(es:List (Int×Int))(f:Int):List Int:=(Zgn (L3.oth S f) (Zb1 (esF es f))).map λr=>(r.length:Int)
abbrev Kd:=Option (Str×Int)
def KdV (H:Hp)(v:V):Kd->Prop
 | none=>v=.non
 | some k=>∃ t,v=.ref t/\H t=some (.tup [.str k.1,.int k.2])
theorem KdV.same {H H':Hp}{v:V}{k:Kd}(h:KdV H v k)(s:Same H H'):KdV H' v k:=by
 cases k with
 | none=>exact h
 | some k=>obtain⟨t,e,ht⟩:=h;exact⟨t,e,s _ _ ht⟩
def kd (n:Int)(ns:List Int):Kd:=if ns.take 2=[1,1] then some ("D",n) else if ns.take 2=[1,2]/\(n=6\/n=7\/n=8) then some ("E",n) else none
theorem Znr {H:Hp}{n:Nat}{i j:Int}:EqD K H n (.int i) (.int j) (decide (i=j)):=by
 have:=EqD.flat (K:=K) (H:=H) (n:=n) (x:=.int i) (y:=.int j) rfl rfl;rwa [show eqV (.int i) (.int j)=decide (i=j) by simp[eqV];rw[Jbw];simp] at this
theorem Zm0:∀ {ns ms:List Int},ns.length=ms.length->((List.zipWith (λa b=>decide (a=b)) ns ms).all id=true ↔ ns=ms)
 | [],[],_=>by simp
 | a::ns,b::ms,h=>by
  have:=Zm0 (ns:=ns) (ms:=ms) (by simpa using h);simp only[List.zipWith_cons_cons,Jdi,Jb5,this,id_eq,Jcc,Jch]
theorem Zxt {H:Hp}{ns ms:List Int}{A B:Prop}(h1:ns=ms->B)(h2:ns≠ms->A):((ns.map V.int).length≠(ms.map V.int).length/\A)\/∃ bs,Zjs K H 6 (ns.map V.int) (ms.map V.int) bs/\if bs.all id=true then B else A:=by
 by_cases hl:ns.length=ms.length
 .refine .inr ⟨List.zipWith (λa b=>decide (a=b)) ns ms,⟨by rw[Jab,Jab];exact hl,by rw[List.length_zipWith,Jab];exact oz51 hl,λj x y b e1 e2 e3=>?_⟩,?_⟩
  .refine Zah (Zht e1) λu eu e91=>?_;obtain rfl:=e91;refine Zah (Zht e2) λv ev e92=>?_;obtain rfl:=e92;rw[List.getElem?_zipWith,eu,ev] at e3;cases e3;exact Znr
  .by_cases e:ns=ms
   .rw [if_pos ((Zm0 hl).mpr e)];exact h1 e
   .rw [if_neg (λz=>e ((Zm0 hl).mp z))];exact h2 e
 .exact .inl ⟨by rw[Jab,Jab];exact hl,h2 λz=>hl (by rw[z])⟩
theorem Zpc (ns:List Int):Zhw (ns.map V.int) none (some 2)=(ns.take 2).map V.int:=by
 unfold Zhw;have e1:HT.sIx (ns.map V.int).length (ns.map V.int).length (some 2)=min 2 (ns.map V.int).length:=by
  simp only[HT.sIx];rw[if_neg ⇑0];rfl
 have e0:HT.sIx (ns.map V.int).length 0 none=0:=rfl;rw[e1,e0,Jee,Nat.sub_zero,List.map_take];exact (List.take_eq_take_min).symm
theorem in678 (n:Int):inV (V.int n) [V.int 6,V.int 7,V.int 8]=true ↔ (n=6\/n=7\/n=8):=by
 simp only[inV,Jdj,List.any_nil,Jfp,Jd2,eqV,Jbt];constructor
 .rintro (h|h|h)
  .exact .inl ∅
  .exact .inr (.inl ∅)
  .exact .inr (.inr ∅)
 .rintro (h|h|h)
  .exact .inl ∅
  .exact .inr (.inl ∅)
  .exact .inr (.inr ∅)
def spFk:Sp:=λvs H Q _=>∃ (n:Int) (a:Addr) (ns:List Int),vs=[.int n,.ref a]/\H a=some (.lst (ns.map V.int))/\ns.length<=900/\∀ v H',Same H H'->KdV H' v (kd n ns)->Q v H'
theorem ok_fk (F:Fun K "forked_kind" "forked_kind" Zep f fd)(T:Txt K mg C G S):FnOk P w K mg base CX0 1 f fd ["many","lengths"] spFk:=by
 have nd:=Zf7.nd;refine F.ok Zf7 (λvs H Q E h=>?_) (λcdv A outer s H vs Q E hr h=>?_)
 .refine Zfa h λn a ns e93 _=>?_;clear h;obtain rfl:=e93;rfl
 .refine Zb3 h λn a ns e94 ha hn q=>?_;clear h;obtain rfl:=e94;refine⟨_,((@Za7 _ _ _ _ _ _ _ _ (Zat (Zxi (Zl7 hr)) (@Zcg _ _ _ _ _ _ _ _ _ _ Zdg (pvr 1) Zet (@Zcq _ _ _ Zac)) (@Zbj _ _ _ _ (Zac<&>(Zac<&>Zab))) (Zao _)) (~~~(@Zaq _ _ _ _ _ (Zoq<&>((pvr 0)<&>Zab)))) Zan)<*>((@Za7 _ _ _ _ _ _ _ _ (PW.pt (pw_and (Zat (Zxi (Zl7 hr)) (@Zcg _ _ _ _ _ _ _ _ _ _ Zdg (pvr 1) Zet (@Zcq _ _ _ Zac)) (@Zbj _ _ _ _ (Zac<&>(Zac<&>Zab))) (Zao _)) (pw_and1 (Zat Zmc (pvr 0) (@Zaq _ _ _ _ _ (Zac<&>(Zac<&>(Zac<&>Zab)))) (by with_unfolding_all rfl))))) (~~~(@Zaq _ _ _ _ _ (Zoq<&>((pvr 0)<&>Zab)))) Zan)<*>(~~~Zl9))),?_⟩;have hu:=Zl7 hr;refine Zcw λX hX=>?_;walk_at "wp";refine⟨_,SqL.of ha,λp hp=>⟨⇑0,λp1 hp1=>?_⟩⟩;rw[Zpc] at *;have s1:=Same.new (o:=.lst ((ns.take 2).map V.int)) hp;have s2:=Same.new (o:=.lst [V.int 1,V.int 1]) hp1;have s12:=s1.trans s2;have e1:upd (upd H p (.lst ((ns.take 2).map V.int))) p1 (.lst [V.int 1,V.int 1]) p=some (.lst ((ns.take 2).map V.int)):=s2 _ _ Zaa;have e2:upd (upd H p (.lst ((ns.take 2).map V.int))) p1 (.lst [V.int 1,V.int 1]) p1=some (.lst (([1,1]:List Int).map V.int)):=Zaa;generalize upd (upd H p (.lst ((ns.take 2).map V.int))) p1 (.lst [V.int 1,V.int 1])=H2 at *;refine⟨_,SqL.of e1,_,SqL.of e2,Zxt (λh=>⟨⇑0,λt ht=>q _ _ (s12.trans (Same.new ht)) ?_⟩) (λh=>?_)⟩
  .unfold kd;rw[if_pos h];exact⟨t,rfl,Zaa⟩
  subst hX;refine Zcw λX hX=>?_;walk_at "wp";refine⟨_,SqL.of (s12 _ _ ha),λp2 hp2=>⟨⇑0,λp3 hp3=>?_⟩⟩;rw[Zpc] at *;have s3:=Same.new (o:=.lst ((ns.take 2).map V.int)) hp2;have s4:=Same.new (o:=.lst [V.int 1,V.int 2]) hp3;have s34:=s3.trans s4;have s14:=s12.trans s34;have e3:upd (upd H2 p2 (.lst ((ns.take 2).map V.int))) p3 (.lst [V.int 1,V.int 2]) p2=some (.lst ((ns.take 2).map V.int)):=s4 _ _ Zaa;have e4:upd (upd H2 p2 (.lst ((ns.take 2).map V.int))) p3 (.lst [V.int 1,V.int 2]) p3=some (.lst (([1,2]:List Int).map V.int)):=Zaa;generalize upd (upd H2 p2 (.lst ((ns.take 2).map V.int))) p3 (.lst [V.int 1,V.int 2])=H4 at *;have fin:kd n ns=none->∀ H',Same H H'->X { nx:=λx H'=>Q V.non H',rt:=Q } [some (V.int n),some (V.ref a)] H':=λek H' s'=>by
   subst hX;exact q .non H' s' (by rw[ek];rfl)
  refine⟨_,SqL.of e3,_,SqL.of e4,Zxt (λh2=>⟨⇑0,λp4 hp4=>?_⟩) (λh2=>fin (by unfold kd;rw[if_neg h,if_neg λz=>h2 z.1]) H4 s14)⟩;have s5:=Same.new (o:=.tup [V.int 6,V.int 7,V.int 8]) hp4;refine⟨_,.inr (SqT.of Zaa),rfl,rfl,Zc6 (λhc=>⟨⇑0,λt ht=>q _ _ ((s14.trans s5).trans (Same.new ht)) ?_⟩) (λhc=>fin ?_ _ (s14.trans s5))⟩
  .unfold kd;rw[if_neg h,if_pos ⟨h2,(in678 n).mp hc⟩];exact⟨t,rfl,Zaa⟩
  .unfold kd;rw[if_neg h,if_neg λz=>hc ((in678 n).mpr z.2)]
theorem Zt2 {a D:Addr}{xs:List V}{es:List (Int×Int)}{fr:List (Str×Nat)}{σ:L2.St}{tt:TT}{H1:Hp}{Q:VK}(g:Int×Int->Bool)(ha:H1 a=some (.lst xs))(hp:Prs H1 xs es)(hD:H1 D=none)(hn:xs.length<=900)(h:∀ t q H (Q:Bool->Hp->Prop),q∈es->H t=some (.tup [.int q.1,.int q.2])->Same H1 H->Q (g q) H->tt (some (.ref t)::Zb0 fr σ) H Q)(hQ:∀ ys H',Same H1 H'->H' D=some (.lst ys)->Prs H' ys (es.filter g)->ys.length<=xs.length->Q (.ref D) H'):Zbv (Zbd 0) tt (Zlz 0) (Itl K a) D (Ze9 1 fr σ) H1 Q:=by
 have hlen:=hp.1;refine Zbp (xs:=xs) (λi vs H=>Same H1 H/\H D=some (.lst vs)/\Prs H vs ((es.take i).filter g)) ⟨Same.new hD,Zaa,Prs.nil⟩ (λi vs H _ p=>SqL.of (p.1 _ _ ha)) ?_ (λvs H ⟨s,e,hv⟩=>?_)
 .intro i x vs σ' H hi hx sh e91;refine Zar e91 λs e hv=>?_;clear e91;obtain⟨z,rfl⟩:=sh.one;have hi':i<es.length:=by exact oz6 hlen hi
  have hq:es[i]?=some es[i]:=Jaa hi';refine Zah (hp.2 i x _ hx hq) λt e96 ht=>?_;obtain rfl:=e96;have et:es.take (i+1)=es.take i++[es[i]]:=by rw[Jbb,hq];rfl
  have hl:=Jbi g (es.take i);rw[Ja0] at hl;have hv1:=hv.1;simp only[Zda,Zbd,List.set_cons_zero];refine h t _ H _ (Jai hq) (s _ _ ht) s (Zc6 (λhg=>?_) (λhg=>?_))
  .refine ⟨_,rfl,leaf (ws:=vs++[.ref t]) hi Sh.mk1 e (Zaj (oz125 hn hi hl hv1)) ⟨s.upd hD,Zaa,?_⟩⟩;rw[et,Jcy];have:=(hv.add (s _ _ ht)).put (o:=.lst (vs++[.ref t])) e;simpa [hg] using this
  .refine Zv9 (ws:=vs) hi Sh.mk1 ⟨s,e,?_⟩;rw[et,Jcy];simpa [hg] using hv
 .rw [hlen,Jbk] at hv;refine hQ vs H s e hv ?_;have:=Jbi g es;rw[hv.1];omega
theorem Zqe {b D:Addr}{xs:List V}{es:List (Int×Int)}{σ:L2.St}{H1:Hp}{Q:VK}(hb:H1 b=some (.lst xs))(hp:Prs H1 xs es)(hD:H1 D=none)(hn:xs.length<=9)(hQ:∀ H',Same H1 H'->H' D=some (.lst ((Za8 es).map V.int))->Q (.ref D) H'):Zm9 (Zbd 0) (iTup K (Zlz 0)) (Zbd 1) (Zlz 1) (Itl K b) D (Ze9 2 [] σ) H1 Q:=by
 have hlen:=hp.1;refine⟨λi m σ' H2=>m=xs.length-i/\i<=xs.length/\∃ v0 v1:Option V,σ'=[v0,v1]/\Same H1 H2/\H2 D=some (.lst ((Za8 (es.take i)).map V.int)),⟨xs.length,rfl,Jbm _,none,none,rfl,Same.new hD,Zaa⟩,?_⟩;intro i m σ' H2 e92;refine Zar e92 λe97 hi e98=>?_;clear e92;obtain rfl:=e97;obtain⟨v0,v1,rfl,s2,hD2⟩:=e98;by_cases hlt:i<xs.length
 .refine .inr ⟨⟨xs,xs[i],SqL.of (s2 _ _ hb),Jaa hlt⟩,λx H3 y=>?_⟩;obtain⟨rfl,hy⟩:=y;have hx:=hy xs (SqL.of (s2 _ _ hb));have hq:es[i]?=some es[i]:=Jaa (oz6 hlen hlt);refine Zah (hp.2 i x _ hx hq) λt e99 ht=>?_;obtain rfl:=e99;have ht2:=s2 _ _ ht;have nt:t≠D:=λz=>by rw[z,hD2] at ht2;cases ht2
  have et:Za8 (es.take (i+1))=Za8 (es.take i)++[es[i].1,es[i].2]:=by
   unfold Za8;rw[Jbb,hq,List.flatMap_append];simp
  have le:(Za8 (es.take i)).length<=2*i:=by
   unfold Za8;rw[List.length_flatMap];have:((es.take i).map λq=>[q.1,q.2].length)=List.replicate (es.take i).length 2:=by
    rw[List.eq_replicate_iff];refine⟨by rw[Jab],λz hz=>?_⟩;refine Zah (Jan.mp hz) λq _ e910=>?_;obtain rfl:=e910;rfl
   rw[this,List.sum_replicate_nat,Ja0];have:min i es.length<=i:=Nat.min_le_left _ _;omega
  generalize es[i]=q at *;refine⟨_,rfl,t,rfl,⟨_,SqT.of ht2⟩,λj m2 σ5 H6=>m2=2-j/\j<=2/\∃ v1':Option V,σ5=[some (.ref t),v1']/\Same H1 H6/\H6 D=some (.lst ((Za8 (es.take i)++[q.1,q.2].take j).map V.int)),⟨2,rfl,⇑0,v1,rfl,s2,by rw[hD2];simp⟩,?_⟩;intro j m2 σ5 H6 e93;refine Zar e93 λe911 hj e912=>?_;clear e93;obtain rfl:=e911;obtain⟨v1',rfl,s6,hD6⟩:=e912;have ht6:=s6 _ _ ht;by_cases hj2:j<2
  .have ej:([V.int q.1,V.int q.2]:List V)[j]?=some (V.int ([q.1,q.2].getD j 0)):=by
    match j,hj2 with
    | 0,_=>rfl
    | 1,_=>rfl
   refine .inr ⟨⟨_,_,SqT.of ht6,ej⟩,λy H7 yy=>?_⟩;obtain⟨rfl,hyy⟩:=yy;have hyj:=hyy _ (SqT.of ht6);rw[ej] at hyj;cases hyj;refine⟨_,rfl,_,hD6,Zaj ?_,2-(j+1),oz69 hj2,rfl,∅,_,rfl,s6.upd hD,?_⟩
   .rw [Jab,Jak];have:([q.1,q.2].take j).length<=2:=by rw[Ja0];exact Nat.min_le_right _ _
    exact oz164 hn hlt le this
   .rw [Zaa]
    match j,hj2 with
    | 0,_=>simp
    | 1,_=>simp
  .have:j=2:=by exact oz198 hj hj2
   subst this;refine .inl ⟨⟨_,SqT.of ht6,by show 2<=2;decide⟩,xs.length-(i+1),oz10 hlt,rfl,oz101 hlt,_,_,rfl,s6,?_⟩;rw[hD6,et];rfl
 .have:i=xs.length:=by exact oz28 hi hlt
  subst this;refine .inl ⟨⟨_,SqL.of (s2 _ _ hb),Jaf _⟩,hQ H2 s2 ?_⟩;rw[hD2,hlen,Jbk]
def Zrh:Sp:=λvs H Q _=>∃ (a b:Addr) (S:List Int) (xs:List V) (es:List (Int×Int)) (f:Int),vs=[.ref a,.ref b,.int f]/\H a=some (.lst (S.map V.int))/\H b=some (.lst xs)/\S.Nodup/\S.length<=8/\xs.length<=9/\Prs H xs es/\(∀ q∈es,q.1∈S/\q.2∈S) /\
 ∀ (l:Addr) (ns:List Int) (H':Hp),Same H H'->H l=none->H' l=some (.lst (ns.map V.int))->ns.Perm (Zmy S es f)->ns.Pairwise (·<=·)->Q (.ref l) H'
theorem ok_arms (F:Fun K "arms" "arms" Zrk f fd)(T:Txt K mg C G S)(Yam:Cal P w K mg base "hanging" 1 spHg):FnOk P w K mg base CX0 2 f fd ["points","arrows","fork"] Zrh:=by
 have nd:=Zrj.nd;refine F.ok Zrj (λvs H Q E h=>?_) (λcdv A outer s H vs Q E hr h=>?_)
 .refine Zls h λa b S xs es f e913 _=>?_;clear h;obtain rfl:=e913;rfl
 .refine Zkl h λa b S xs es f e914 ha hb e915=>?_;clear h;obtain rfl:=e914;refine Zgf e915 λnS h8 h9 hp hin q=>?_;clear e915;refine⟨_,((Zfo (i:=3) (own:=["point"]) (fr:=[("fork",2)]) rfl (Zbh (by kernel_rfl)) (Za1 (pv 0)) (λ_ _ _ _=>⟨(0<<<["point","fork"]),(Zcp (Za5 Zhq (pv 0) (pv 1) (Zao _))),(pv 0)⟩) nd rfl rfl rfl)<*>(~~~(Za4 Zjp rfl T.n_sorted boot_sorted ((Zax (own:=["arm"]) (fr:=[]) rfl (Zbh (by kernel_rfl)) (Za1 (Yam<$>hr<$>((pv 3)<&>((Zax (own:=["arrow"]) (fr:=[("fork",2)]) rfl (Zbh (by kernel_rfl)) (Za1 (pv 1)) (λ_ _ _ _=>⟨(0<<<["arrow","fork"]),(Zcp (Za5 (Zdd K rfl) (pv 1) (pv 0) (by with_unfolding_all rfl))),(pv 0)⟩))<&>Zab)))) (λ_ _ _ _=>⟨(0<<<["arm"]),Za0,(Za4 (Zlk K rfl) rfl T.n_len Ja6 ((pv 0)<&>Zab))⟩))<&>Zab)))),?_⟩;refine Zcw λX hX=>?_;walk_at "wp";refine⟨_,rfl,a,rfl,⟨_,SqL.of ha⟩,λD hD=>Zn2 (λx=>decide (x≠f)) ha hD ∅ (λx H' Q' hx s' q'=>?_) λH1 s1 e1=>?_⟩
  .have e:(!decide (V.int x=V.int f))=decide (x≠f):=by
    by_cases z:x=f
    .simp [z]
    .simp [z]
   exact⟨_,rfl,_,rfl,rfl,_,rfl,e ▸ q'⟩
  subst hX;walk_at "wp";refine⟨_,rfl,_,rfl,b,rfl,⟨_,SqL.of (s1 _ _ hb)⟩,λD2 hD2=>Zt2 (λq=>decide (q.1≠f/\q.2≠f)) (s1 _ _ hb) (hp.same s1) hD2 ∅ (λt q' H' Q' hq ht s' k'=>?_) λys H2 s2 e2 pr2 ly=>?_⟩
  .have e:(!inV (V.int f) [V.int q'.1,V.int q'.2])=decide (q'.1≠f/\q'.2≠f):=by
    have:inV (V.int f) [V.int q'.1,V.int q'.2]=(decide (q'.1=f) || decide (q'.2=f)):=by
     simp only[inV,Jdj,List.any_nil,Jfp,eqV];rw[Jbw];simp
    rw[this];by_cases z:q'.1=f <;> by_cases y:q'.2=f <;> simp[z,y]
   exact⟨_,rfl,_,rfl,t,_,rfl,.inr (SqT.of ht),rfl,rfl,_,rfl,e ▸ k'⟩
  have nO:(L3.oth S f).Nodup:=Jbe Jba nS;have lO:(L3.oth S f).length<=8:=Jbf (Jbi _ _) h8;refine Zd1 D D2 (L3.oth S f) ys (esF es f) ⟨rfl,s2 _ _ e1,e2,nO,lO,oz184 h9 ly,pr2,λq' hq'=>?_,λp qs H3 s3 fp hp3 rf=>?_⟩
  .obtain ⟨m1,m2⟩:=Jaz.mp hq';have m2:=Jaq m2;exact⟨L3.Zbr.mpr ⟨(hin q' m1).1,m2.1⟩,L3.Zbr.mpr ⟨(hin q' m1).2,m2.2⟩⟩
  have rl:=rf.1;have lr:(Zgn (L3.oth S f) (Zb1 (esF es f))).length<=8:=by
   unfold Zgn;rw[Jab];exact Jbf (Jbi _ _) lO
  refine⟨p,rfl,⟨_,SqL.of hp3⟩,λD3 hD3=>Zbp (xs:=qs) (λi vs H=>Same H3 H/\H D3=some (.lst vs)/\vs=(((Zgn (L3.oth S f) (Zb1 (esF es f))).take i).map λr=>((r.length:Nat):Int)).map V.int) ⟨Same.new hD3,Zaa,rfl⟩ (λi vs H _ k=>SqL.of (k.1 _ _ hp3)) ?_ ?_⟩
  .intro i x vs σ' H' hi hx sh e94;refine Zar e94 λs' e' e916=>?_;clear e94;obtain rfl:=e916;obtain⟨z,rfl⟩:=sh.one;have hi':i<(Zgn (L3.oth S f) (Zb1 (esF es f))).length:=by exact oz6 rl hi
   have hr':=Jaa hi';refine Zm4 (rf.2 i x _ hx hr') λt e917 _ _ ht=>?_;obtain rfl:=e917;simp only[Zda,Zbd,Zfb,List.set_cons_zero,Jck];refine⟨_,rfl,_,rfl,_,.inl (SqL.of (s' _ _ ht)),?_⟩;refine leaf (ws:=(((Zgn (L3.oth S f) (Zb1 (esF es f))).take (i+1)).map λr=>((r.length:Nat):Int)).map V.int) hi Sh.mk1 e' (Zaj (by rw[Jab,Jab,Ja0];exact oz37 lr)) ⟨s'.upd hD3,?_,rfl⟩;rw[Zaa,Jbb,hr',Jaw,Jaw,Jab];rfl
  .intro vs H4 e95;refine Zar e95 λs4 e4 e918=>?_;clear e95;obtain rfl:=e918;rw[rl,Jbk] at e4;refine⟨D3,rfl,_,SqL.of e4,by rw[Jab];omega,λl ns' hl pm so=>q l ns' _ ?_ ?_ Zaa pm so⟩
   .exact (((s1.trans s2).trans s3).trans s4).trans (Same.new hl)
   .exact (((s1.trans s2).trans s3).trans s4).free hl
def Zn6 (S:List Int)(es:List (Int×Int))(r:Kd):Prop:=
 (es.length+1≠S.length/\r=none)\/(es.length+1=S.length/\(((S.filter λx=>decide (2<(Za8 es).count x))=[]/\r=(some (Str.ofString "A",(S.length:Int)):Kd)) \/
  ∃ f rest,(S.filter λx=>decide (2<(Za8 es).count x))=f::rest/\(((rest≠[]\/3<(Za8 es).count f)/\r=none)\/(rest=[]/\¬ 3<(Za8 es).count f/\∃ ns:List Int,ns.Perm (Zmy S es f)/\ns.Pairwise (·<=·)/\r=kd S.length ns))))
def spKo:Sp:=λvs H Q _=>∃ (a b:Addr) (S:List Int) (xs:List V) (es:List (Int×Int)),vs=[.ref a,.ref b]/\H a=some (.lst (S.map V.int))/\H b=some (.lst xs)/\S.Nodup/\S.length<=8/\xs.length<=9/\Prs H xs es/\(∀ q∈es,q.1∈S/\q.2∈S) /\
 ∀ r v H',Zn6 S es r->Same H H'->KdV H' v r->Q v H'
theorem ok_ko (F:Fun K "kind_of" "kind_of" Zi6 f fd)(T:Txt K mg C G S)(Ybl:Cal P w K mg base "arms" 2 Zrh)(Ya3:Cal P w K mg base "forked_kind" 1 spFk):FnOk P w K mg base CX0 3 f fd ["points","arrows"] spKo:=by
 have nd:=Zj2.nd;refine F.ok Zj2 (λvs H Q E h=>?_) (λcdv A outer s H vs Q E hr h=>?_)
 .refine Zm1 h λa b S xs es e919 _=>?_;clear h;obtain rfl:=e919;rfl
 .refine Zcx h λa b S xs es e920 ha hb e921=>?_;clear h;obtain rfl:=e920;refine Zgf e921 λnS h8 h9 hp hin q=>?_;clear e921;refine⟨_,((2|||nd|||(Za4 Zak rfl T.n_len Ja6 ((pvr 0)<&>Zab)))<*>((@Za7 _ _ _ _ _ _ _ _ (Zat Zhq (Za4 Zak rfl T.n_len Ja6 ((pvr 1)<&>Zab)) ((Zsc Zdy)<|>(pvr 2)<&&>Zac) (Zao _)) (~~~Zl9) Zan)<*>((Zal (i:=3) nd rfl (Or.inr rfl) (Zve (own:=["arrow","end"]) (fr:=[]) rfl (Zbh (by kernel_rfl)) (Za1 (pv 1)) (λ_ _ _ _=>⟨(0<<<["arrow","end"]),(pi_tupK K rfl (pv 0)),(1<<<["arrow","end"]),(pv 1)⟩)))<*>((Zfo (i:=4) (own:=["point"]) (fr:=[("ends",3)]) rfl (Zbh (by kernel_rfl)) (Za1 (pv 0)) (λ_ _ _ _=>⟨(0<<<["point","ends"]),(Zcp (Za5 Zg4 (pe_bmK K rfl Jay PySem.F.slot_list_count PySem.F.type_list_count Zmf (pv 1) ((pv 0)<&>Zab)) Zac (Zao _))),(pv 0)⟩) nd rfl rfl rfl)<*>((@Za7 _ _ _ _ _ _ _ _ (Zbq (Zoo (pvr 4) (λ_=>rfl))) (~~~(@Zaq _ _ _ _ _ (Zoq<&>((pvr 2)<&>Zab)))) Zan)<*>((@Za7 _ _ _ _ _ _ _ _ (PW.pt (Zes (Zat Zg4 (Za4 Zak rfl T.n_len Ja6 ((pvr 4)<&>Zab)) Zac (Zao _)) (Zdq (Zat Zg4 (Zfp Jay PySem.F.slot_list_count PySem.F.type_list_count Zmf (pvr 3) (((ixJ Za6)<|>(pvr 4)<||>Zac)<&>Zab)) Zac (Zao _))))) (~~~Zl9) Zan)<*>(~~~(Ya3<$>hr<$>((pvr 2)<&>((Ybl<$>hr<$>((pvr 0)<&>((pvr 1)<&>(((ixJ Za6)<|>(pvr 4)<||>Zac)<&>Zab))))<&>Zab)))))))))),?_⟩;have hl:=hp.1;refine Zcw λX hX=>?_;walk_at "wp";refine⟨_,.inl (SqL.of ha),?_⟩;rw[Jab];subst hX;refine Zcw λX hX=>?_;walk_at "wp";refine⟨_,.inl (SqL.of hb),Zc6 (λhc=>?_) (λhc=>?_)⟩
  .refine q none .non H (.inl ⟨λz=>?_,rfl⟩) (Same.refl _) rfl;rw[Jag (oz242 hl z)] at hc;cases hc
  have el:es.length+1=S.length:=by
   have:decide ((xs.length:Int)=(S.length:Int)-1)=true:=by simpa using hc
   have:=Jaq this;exact oz227 hl this
  subst hX;refine Zcw λX hX=>?_;walk_at "wp";refine⟨_,rfl,b,rfl,⟨_,SqL.of hb⟩,λD hD=>Zqe hb hp hD h9 λH1 s1 e1=>?_⟩;subst hX;refine Zcw λX hX=>?_;walk_at "wp";refine⟨_,rfl,a,rfl,⟨_,SqL.of (s1 _ _ ha)⟩,λD2 hD2=>Zn2 (λx=>decide (2<(Za8 es).count x)) (s1 _ _ ha) hD2 ∅ (λx H' Q' hx s' q'=>?_) λH2 s2 e2=>?_⟩
  .have e:decide ((2:Int)<((Za8 es).count x:Nat))=decide (2<(Za8 es).count x):=by rw[Jdr];omega
   have h1:=s' _ _ e1;exact⟨_,rfl,.inl ⟨rfl,_,SqL.of h1⟩,_,rfl,D,_,x,rfl,rfl,h1,_,_,rfl,rfl,_,rfl,e ▸ q'⟩
  have s12:=s1.trans s2;subst hX;refine Zcw λX hX=>?_;walk_at "wp";cases ef:S.filter (λx=>decide (2<(Za8 es).count x)) with
  | nil=>
   rw[ef] at e2;refine⟨false,.inl ⟨_,SqL.of e2,rfl⟩,Zlq rfl ⟨⇑0,λt ht=>?_⟩⟩;exact q (some (Str.ofString "A",(S.length:Int))) _ _ (.inr ⟨el,.inl ⟨ef,rfl⟩⟩) (s12.trans (Same.new ht)) ⟨t,rfl,Zaa⟩
  | cons f0 rest=>
   rw[ef] at e2;refine⟨true,.inl ⟨_,SqL.of e2,rfl⟩,Zgd ⇑0 ?_⟩;subst hX;refine Zcw λX hX=>?_;walk_at "wp";have h1:=s2 _ _ e1;have no:(rest≠[]\/3<(Za8 es).count f0)->Q .non H2:=λz=>q none .non H2 (.inr ⟨el,.inr ⟨f0,rest,ef,.inl ⟨z,rfl⟩⟩⟩) s12 rfl;refine⟨_,.inl (SqL.of e2),Zc6 (λhc=>no (.inl λz=>?_)) (λhc=>⟨.inl ⟨rfl,_,SqL.of h1⟩,_,SqL.of e2,V.int f0,Zck ⇑0 (by simp),_,f0,rfl,h1,Zc6 (λh3=>no (.inr ?_)) (λh3=>?_)⟩)⟩
   .rw [z] at hc;simp at hc
   .have:=Jaq h3;omega
   have hr0:rest=[]:=by
    cases rest with
    | nil=>rfl
    | cons y ys=>exact absurd (Jag (by simp;omega)) hc
   have h3':¬ 3<(Za8 es).count f0:=λz=>h3 (Jag ∅);subst hX;walk_at "wp";refine⟨_,SqL.of e2,V.int f0,Zck ⇑0 (by simp),a,b,S,xs,es,f0,rfl,s12 _ _ ha,s12 _ _ hb,nS,h8,h9,hp.same s12,hin,λl ns H3 s3 fl hl3 pm so=>?_⟩;have ln:ns.length<=900:=by
    rw[pm.length_eq];unfold Zmy Zgn;rw[Jab,Jab];have l1:=Jbi (λx=>decide (Zb1 (esF es f0) x=x)) (L3.oth S f0);have l2:(L3.oth S f0).length<=S.length:=Jbi _ _;exact oz167 h9 hl el l1 l2
   exact Za9 _ l ns ⟨rfl,hl3,ln,λv H4 s4 kv=>q _ v H4 (.inr ⟨el,.inr ⟨f0,rest,ef,.inr ⟨hr0,h3',ns,pm,so,rfl⟩⟩⟩) ((s12.trans s3).trans s4) kv⟩
def Zbi (n:Nat):List Int:=(List.range n).map λj=>((j:Nat):Int)
theorem ptsI_V (n:Nat):(Zbi n).map V.int=ptsV n:=by unfold Zbi ptsV;rw[Jcn];rfl
theorem Zk2 (n:Nat):(Zbi n).Nodup:=by
 unfold Zbi;refine L3.Zb9 List.nodup_range λx _ y _ e=>by exact oz147 e
theorem Zcv {n:Nat}{x:Int}:x∈Zbi n ↔ 0<=x/\x<n:=by
 unfold Zbi;rw[Jan];constructor
 .intro e91;refine Zah e91 λj hj e96=>?_;clear e91;obtain rfl:=e96;have:=Jbz.mp hj;omega
 .intro e92;obtain⟨h0,h1⟩:=e92;exact⟨x.toNat,Jbz.mpr (Zpx h0 h1),oz18 h0⟩
theorem Zct (n:Nat)(f:Int->Int)(k:Int):Zpu (Zbi n) f k=Zho n f k:=by
 unfold Zpu Zbi Zho;rw[List.filter_map];rfl
theorem Zfm (n:Nat)(f:Int->Int):Zgn (Zbi n) f=Zer n f:=by
 unfold Zgn Zer Zbi;rw[List.filter_map,Jcn];refine Jct λi _=>?_;exact Zct n f _
theorem ok_pcs (F:Fun K "pieces" "Drawing.pieces" Zc4 f fd)(T:Txt K mg C G S)(Yam:Cal P w K mg base "hanging" 1 spHg):FnOk P w K mg base CX0 2 f fd ["self"] (Zkr C):=by
 have nd:=Zed.nd;refine F.ok Zed (λvs H Q E h=>?_) (λcdv A outer s H vs Q E hr h=>?_)
 .refine Zfa h λx m ps e97 _=>?_;clear h;obtain rfl:=e97;rfl
 .refine Zb3 h λx m ps e98 e99 hin e910=>?_;clear h;obtain rfl:=e98;obtain⟨lp,xs,⟨dx,hx,hlp⟩,hl9,hps⟩:=e99;refine Zar e910 λm0 m8 q=>?_;clear e910;refine⟨_,(~~~(Yam<$>hr<$>((Zfz (Zha rfl) rfl T.n_list Jcf ((Zfz Zmr rfl T.n_range boot_range ((Zby (pvr 0) rfl)<&>Zab))<&>Zab))<&>((Zby (pvr 0) rfl)<&>Zab)))),?_⟩;walk_at "wp";refine Za9 _ _ _ ⟨hx,T.cl_Drawing,T.nM,_,rfl,m,rfl,λp hp=>⟨_,_,Zaa,⟨∅,∅,∅,∅⟩,oz111 m8,λl hl=>?_⟩⟩;have s2:Same H (upd (upd H p (.rng 0 m)) l (.lst (Zuh 0 m))):=(Same.new hp).trans (Same.new hl);have em:((m.toNat:Nat):Int)=m:=Jcl (oz211 m0);have lp8:(Zbi m.toNat).length=m.toNat:=by unfold Zbi;simp
  refine Za9 _ _ _ ⟨s2 _ _ hx,T.cl_Drawing,T.nA,_,rfl,l,lp,Zbi m.toNat,xs,ps,rfl,by rw[Zaa,Zu8,ptsI_V],s2 _ _ hlp,Zk2 _,by rw[lp8];exact oz81 m8,hl9,hps.same s2,λq' hq'=>?_,λp qs H' s' fp hp' rr=>q p qs H' (s2.trans s') (s2.free fp) hp' (by rw[Zfm] at rr;exact rr.old s2)⟩;refine Zbx (hin q' hq') λa1 a2 a3 a4=>?_;exact⟨Zcv.mpr ⟨a1,oz27 a2⟩,Zcv.mpr ⟨a3,oz27 a4⟩⟩
def Zb2 (ps:List (Int×Int))(S:List Int):List (Int×Int):=ps.filter λq=>decide (q.1∈S)
def KdsF (H:Hp)(vs:List V)(L:List (List Int))(ps:List (Int×Int)):Prop:=vs.length=L.length/\∀ (i:Nat) v S,vs[i]?=some v->L[i]?=some S->∃ r,Zn6 S (Zb2 ps S) r/\KdV H v r
theorem Zdz {n:Nat}{f:Int->Int}{k x:Int}:x∈Zho n f k ↔ (0<=x/\x<n)/\f x=k:=by
 rw[<- Zct];unfold Zpu;rw[Jaz,Zcv,Jcc]
theorem Zg2 {n:Nat}{f:Int->Int}{S:List Int}(h:S∈Zer n f):∃ k:Int,f k=k/\(0<=k/\k<n)/\S=Zho n f k:=by
 rw[<- Zfm] at h;unfold Zgn at h;refine Zah (Jan.mp h) λk hk e=>?_;obtain⟨h1,h2⟩:=Jaz.mp hk;exact⟨k,Jaq h2,Zcv.mp h1,by rw[<- e,Zct]⟩
theorem Zxc {n:Nat}{f:Int->Int}{k:Int}:(Zho n f k).Nodup:=by
 rw[<- Zct];exact Jbe Jba (Zk2 n)
theorem Zxo {m:Int}{ps:List (Int×Int)}(hin:InP m ps)(m0:0<=m){S:List Int}(h:S∈Zer m.toNat (Zb1 ps)){q:Int×Int}(hq:q∈ps):q.1∈S ↔ q.2∈S:=by
 refine Zap (Zg2 h) λk _ _ e911=>?_;obtain rfl:=e911;have c:=(Zlc hin).2 q hq;refine Zbx (hin q hq) λa1 a2 a3 a4=>?_;rw[Zdz,Zdz,c];constructor
 .rintro ⟨_,e⟩;exact⟨⟨a3,oz27 a4⟩,e⟩
 .rintro ⟨_,e⟩;exact⟨⟨a1,oz27 a2⟩,e⟩
theorem Zte (S:List Int):(S.map V.int).all Zif=true:=by
 rw[Jbn];intro v hv;refine Zah (Jan.mp hv) λx _ e912=>?_;obtain rfl:=e912;rfl
theorem in_ints (x:Int)(S:List Int):inV (V.int x) (S.map V.int)=decide (x∈S):=by
 rw[Jbw,Jcc];unfold inV;rw[List.any_eq_true];constructor
 .intro e93;refine Zah e93 λv hv e=>?_;clear e93;refine Zah (Jan.mp hv) λy hy e913=>?_;obtain rfl:=e913;simp only[eqV,Jbt] at e;rw[<- e];exact hy
 .intro h;exact⟨V.int x,Jan.mpr ⟨x,h,rfl⟩,by simp[eqV]⟩
theorem KdsF.same {H H':Hp}{vs:List V}{L:List (List Int)}{ps:List (Int×Int)}(h:KdsF H vs L ps)(s:Same H H'):KdsF H' vs L ps:=⟨h.1,λi v S e1 e2=>let ⟨r,k1,k2⟩:=h.2 i v S e1 e2;⟨r,k1,k2.same s⟩⟩
theorem KdV.put {H:Hp}{D:Addr}{l:List V}{o:HO}{v:V}{k:Kd}(h:KdV H v k)(hD:H D=some (.lst l)):KdV (upd H D o) v k:=by
 cases k with
 | none=>exact h
 | some k=>
  refine Zah h λt e ht=>?_;clear h;exact⟨t,e,by rw[Zag (λz=>by rw[z,hD] at ht;cases ht)];exact ht⟩
theorem KdsF.add {H:Hp}{D:Addr}{l vs:List V}{o:HO}{L:List (List Int)}{ps:List (Int×Int)}{v:V}{S:List Int}{r:Kd}(h:KdsF H vs L ps)(hD:H D=some (.lst l))(k1:Zn6 S (Zb2 ps S) r)(k2:KdV H v r):KdsF (upd H D o) (vs++[v]) (L++[S]) ps:=by
 refine⟨by rw[Jak,Jak,h.1];rfl,λi v' S' e1 e2=>?_⟩;have hl:=h.1;by_cases hi:i<vs.length
 .rw [Jar hi] at e1;rw[Jar (oz6 hl hi)] at e2;refine Zah (h.2 i v' S' e1 e2) λr' a1 a2=>?_;exact⟨r',a1,a2.put hD⟩
 .rw [Jat (Zvh hi)] at e1;rw[Jat ∅,<- hl] at e2;cases ei:i-vs.length with
  | zero=>
   rw[ei] at e1 e2;cases e1;cases e2;exact⟨r,k1,k2.put hD⟩
  | succ j=>
   rw[ei] at e1;cases e1
def Znf (C:Addr):Sp:=λvs H Q _=>∃ (x:Addr) (m:Int) (ps:List (Int×Int)),vs=[.ref x]/\Drw C H x m ps/\InP m ps/\1<=m/\m<=8 /\
 ∀ p us H',Same H H'->H p=none->H' p=some (.lst us)->KdsF H' us (Zer m.toNat (Zb1 ps)) ps->Q (.ref p) H'
theorem Zvz (F:Fun K "kinds" "Drawing.kinds" Zdp f fd)(T:Txt K mg C G S)(Ya4:CalM P w K mg base C "pieces" 2 (Zkr C))(Ybr:Cal P w K mg base "kind_of" 3 spKo):FnOk P w K mg base CX0 4 f fd ["self"] (Znf C):=by
 have nd:=Ze6.nd;refine F.ok Ze6 (λvs H Q E h=>?_) (λcdv A outer s H vs Q E hr h=>?_)
 .refine Zfa h λx m ps e914 _=>?_;clear h;obtain rfl:=e914;rfl
 .refine Zb3 h λx m ps e915 dw hin e916=>?_;clear h;obtain rfl:=e915;refine Zar e916 λm0 m8 q=>?_;clear e916;refine⟨_,(~~~(Zax (own:=["piece"]) (fr:=[("self",0)]) rfl (Zbh (by kernel_rfl)) (Za1 (Zr2 T.cl_Drawing Ya4 hr.m (pv 0))) (λ_ _ _ _=>⟨(@Zad _ _ 0 _ (show (["piece","self"]:List Str).Nodup by decide +kernel) rfl (Or.inr rfl) (Or.inl rfl)),Za0,(Ybr<$>hr<$>((pv 0)<&>((Zax (own:=["arrow"]) (fr:=[("piece",0)]) rfl (Zbh (by kernel_rfl)) (Zk5 K rfl (pe_fldK K rfl (pv 1) rfl)) (λ_ _ _ _=>⟨(0<<<["arrow","piece"]),(Zcp (Za5 (Zee K rfl) ((ix_tupK K rfl)<|>(pv 0)<||>Zac) (pv 1) (by with_unfolding_all rfl))),(pv 0)⟩))<&>Zab)))⟩))),?_⟩;refine Za3 (id dw) λlp xs e917 hl9 hps=>?_;obtain⟨dx,hx,hlp⟩:=e917;walk_at "wp";refine⟨_,rfl,x,dx,_,rfl,hx,Zjo m lp ⇑0 ⇑0,x,m,ps,rfl,dw,hin,m0,m8,λp qs H1 s1 fp hp1 rf=>?_⟩;have rl:=rf.1;have lr:(Zer m.toNat (Zb1 ps)).length<=8:=by
   rw[<- Zfm];unfold Zgn Zbi;rw[Jab];refine Jbf (Jbi _ _) ?_;simp;omega
  refine⟨p,rfl,⟨_,SqL.of hp1⟩,λD hD=>Zbp (xs:=qs) (λi vs H=>Same H1 H/\H D=some (.lst vs)/\KdsF H vs ((Zer m.toNat (Zb1 ps)).take i) ps) ⟨Same.new hD,Zaa,rfl,λi v S e1 _=>by simp at e1⟩ (λi vs H _ k=>SqL.of (k.1 _ _ hp1)) ?_ ?_⟩
  .intro i x' vs σ' H' hi hx' sh e94;refine Zar e94 λs' e' kf=>?_;clear e94;obtain⟨z,rfl⟩:=sh.one;have hi':i<(Zer m.toNat (Zb1 ps)).length:=by exact oz6 rl hi
   have hr':=Jaa hi';refine Zm4 (rf.2 i x' _ hx' hr') λt e918 _ _ ht=>?_;obtain rfl:=e918;have mS:=Jai hr';generalize (Zer m.toNat (Zb1 ps))[i]=S at *;simp only[Zda,Zbd,Zfb,List.set_cons_zero,Jck];have sH:=s1.trans s';have hx1:=sH _ _ hx;have hl1:=sH _ _ hlp;have ht1:=s' _ _ ht;refine Zap (Zg2 mS) λk _ _ eS=>?_;have nS:S.Nodup:=by rw[eS];exact Zxc
   have lS:S.length<=8:=by
    rw[eS,<- Zct];unfold Zpu Zbi;refine Jbf (Jbi _ _) ?_;simp;omega
   refine⟨_,rfl,_,rfl,x,C,dx,_,_,rfl,hx1,T.cl_Drawing,T.nA,Zay _ _,lp,rfl,⟨_,SqL.of hl1⟩,λD2 hD2=>Zt2 (λq=>decide (q.1∈S)) hl1 (hps.same sH) hD2 ∅ (λt' q' H2 Q' hq ht' s2 k'=>?_) λys H2 s2 e2 pr2 ly=>?_⟩
   .exact ⟨_,rfl,t',_,0,V.int q'.1,rfl,rfl,SqT.of ht',Zck ⇑0 (by simp),_,rfl,t,_,rfl,.inl (SqL.of (s2 _ _ ht1)),rfl,Zte S,_,rfl,in_ints q'.1 S ▸ k'⟩
   refine Zd1 t D2 S ys (Zb2 ps S) ⟨rfl,s2 _ _ ht1,e2,nS,lS,oz184 hl9 ly,pr2,λq' hq'=>?_,λr v H3 kp s3 kv=>?_⟩
   .obtain ⟨m1,m2⟩:=Jaz.mp hq';have m2:=Jaq m2;exact⟨m2,(Zxo hin (oz211 m0) mS m1).mp m2⟩
   have s23:=s2.trans s3;have kl:=kf.1;rw[Ja0] at kl;refine leaf (ws:=vs++[v]) hi Sh.mk1 (s23 _ _ e') (Zaj (oz80 lr kl)) ⟨(s'.trans s23).upd hD,Zaa,?_⟩;rw[Jbb,hr'];exact (kf.same s23).add (s23 _ _ e') kp kv
  .intro vs H4 e95;refine Zar e95 λs4 e4 kf=>?_;clear e95;rw[rl,Jbk] at kf;exact q D vs H4 (s1.trans s4) (s1.free hD) e4 kf
end
end Pf
namespace Pf
open PySem L2 PyProof.Rows
section
variable {C G S:Addr}
structure Far (ps:List (Int×Int))(S:List Int)(f:Int)(R:List Int)(d:Int->Nat)(kvs:List (Key×V)):Prop where
 nd:R.Nodup
 fR:f∈R
 sub:∀ x∈R,x∈S
 d0:d f=0
 vals:∀ x:Int,Zhz kvs (.inl x)=if x∈R then some (.int ((d x:Nat):Int)) else none
 par:∀ x∈R,x≠f->∃ q∈ps,(q.1=x/\q.2∈R/\d q.2+1=d x)\/(q.2=x/\q.1∈R/\d q.1+1=d x)
 len:kvs.length=R.length
end
end Pf
namespace Pf
open PySem L2 PyProof.Rows
section
variable {C G S:Addr}
structure Pc (m:Int)(ps:List (Int×Int))(S:List Int):Prop where
 nd:S.Nodup
 le8:S.length<=8
 ne:S≠[]
 cl:∀ q∈ps,q.1∈S ↔ q.2∈S
 cn:L3.Conn S (Zb2 ps S)
 inm:∀ x∈S,0<=x/\x<m
 inp:InP m ps
theorem Pc.of {m:Int}{ps:List (Int×Int)}{S:List Int}(hin:InP m ps)(m0:0<=m)(m8:m<=8)(h:S∈Zer m.toNat (Zb1 ps)):Pc m ps S:=by
 have lb:=Zlc hin;refine Zap (Zg2 h) λk ek hk e91=>?_;obtain rfl:=e91;have inS:∀ x∈Zho m.toNat (Zb1 ps) k,(0<=x/\x<m)/\Zb1 ps x=k:=λx hx=>by
  obtain⟨h1,h2⟩:=Zdz.mp hx;exact⟨oz155 h1,h2⟩
 refine⟨Zxc,?_,λz=>?_,λq hq=>Zxo hin m0 h hq,λg hg x hx y hy=>?_,λx hx=>(inS x hx).1,hin⟩
 .rw [<- Zct];unfold Zpu Zbi;refine Jbf (Jbi _ _) ?_;simp;omega
 .have:k∈Zho m.toNat (Zb1 ps) k:=Zdz.mpr ⟨hk,ek⟩;rw[z] at this;cases this
 .have co:=lb.1.co (λz=>if Zb1 ps z=k then g z else 0) (λq hq=>by
   have e:=lb.2 q hq;refine Zbx (hin q hq) λa1 a2 a3 a4=>?_;by_cases z:Zb1 ps q.1=k
   .simp only [if_pos z,if_pos (e ▸ z)];refine hg q (Jaz.mpr ⟨hq,Jag (Zdz.mpr ⟨⟨a1,oz27 a2⟩,z⟩)⟩)
   .simp only [if_neg z,if_neg (λu=>z (e.trans u))])
  have one:∀ x∈Zho m.toNat (Zb1 ps) k,g x=g k:=λx hx=>by
   obtain⟨⟨h1,h2⟩,h3⟩:=inS x hx;have:=co x h1 h2;simp only[h3,ek,Jck] at this;exact this.symm
  rw[one x hx,one y hy]
theorem Zkg {x:Int}:∀ {es:List (Int×Int)},(∀ q∈es,q.1≠q.2)->(Za8 es).count x=L3.deg es x
 | [],_=>rfl
 | q::es,h=>by
  have ih:=Zkg (x:=x) (es:=es) λq' hq'=>h q' (Ja9 _ hq');have nq:=h q (by simp);unfold Za8 L3.deg at *;rw[List.flatMap_cons,List.count_append,ih,List.countP_cons];by_cases h1:q.1=x
  .by_cases h2:q.2=x
   .exact absurd (h1.trans h2.symm) nq
   .rw [if_pos (by simp[h1])];simp[h1,h2];exact oz58
  .by_cases h2:q.2=x
   .rw [if_pos (by simp[h2])];simp[h1,h2];exact oz58
   .rw [if_neg (by simp[h1,h2])];simp[h1,h2]
theorem Zmg (p:Int->Bool):∀ l:List Int,l.length=(l.filter p).length+(l.filter λx=>!p x).length
 | []=>rfl
 | x::l=>by
  have:=Zmg p l;by_cases h:p x=true
  .simp [h];omega
  .simp [h];omega
theorem Zof (g:Int->Int):∀ {R:List Int} (l:List Int),R.Nodup->(R.map λr=>(l.filter λx=>decide (g x=r)).length).sum<=l.length
 | [],l,_=>Jbm _
 | r::R,l,nd=>by
  have nd':=Jbx.mp nd;have ih:=Zof g (R:=R) (l.filter λx=>!decide (g x=r)) nd'.2;have e:(R.map λr'=>((l.filter λx=>!decide (g x=r)).filter λx=>decide (g x=r')).length)=R.map λr'=>(l.filter λx=>decide (g x=r')).length:=by
   refine Jct λr' hr'=>?_;rw[List.filter_filter];congr 1;refine Jd9 λx _=>?_;by_cases z:g x=r'
   .have:g x≠r:=λu=>nd'.1 (by rw[<- u,z];exact hr');simp[z];rw[<- z];exact this
   .simp [z]
  rw[e] at ih;have h2:l.length=(l.filter λx=>decide (g x=r)).length+(l.filter λx=>!decide (g x=r)).length:=Zmg _ l;rw[Ja8,List.sum_cons];omega
theorem Zwz {m:Int}{ps:List (Int×Int)}{S:List Int}{f:Int}{d:Int->Nat}(pc:Pc m ps S)(T:L3.Fk S (Zb2 ps S) f d)(hf3:L3.deg (Zb2 ps S) f=3):
  (Zmy S (Zb2 ps S) f).Perm ((S.filter λx=>decide (L3.deg (Zb2 ps S) x=1)).map λx=>((d x:Nat):Int))/\∃ ls:List Nat,Zmy S (Zb2 ps S) f=ls.map (λn=>((n:Nat):Int))/\3<=ls.length/\ls.sum+1<=S.length:=by
 have ie:InP m (esF (Zb2 ps S) f):=λq hq=>pc.inp q (Jaz.mp (Jaz.mp hq).1).1;have mF:∀ q∈esF (Zb2 ps S) f,q∈Zb2 ps S/\q.1≠f/\q.2≠f:=λq hq=>by
  obtain⟨h1,h2⟩:=Jaz.mp hq;exact⟨h1,Jaq h2⟩
 have lb:=Zlc ie;have ar:Zmy S (Zb2 ps S) f=((L3.oth S f).filter λx=>decide (Zb1 (esF (Zb2 ps S) f) x=x)).map λr=>(((Zpu (L3.oth S f) (Zb1 (esF (Zb2 ps S) f)) r).length:Nat):Int):=by
  unfold Zmy Zgn;rw[Jcn];rfl
 rw[ar];have mFi:∀ q∈Zb2 ps S,q.1≠f->q.2≠f->q∈esF (Zb2 ps S) f:=λq hq h1 h2=>Jaz.mpr ⟨hq,Jag ⟨h1,h2⟩⟩;generalize Zb1 (esF (Zb2 ps S) f)=lab at *;have nO:(L3.oth S f).Nodup:=Jbe Jba pc.nd;have iO:∀ x∈L3.oth S f,0<=x/\x<m:=λx hx=>pc.inm x (L3.Zbr.mp hx).1;have labO:∀ x∈L3.oth S f,lab x∈L3.oth S f:=λx hx=>by
  have:=lb.1.co (λz=>if z∈L3.oth S f then 1 else 0) (λq hq=>by
   refine Zar (mF q hq) λh1 h2 h3=>?_;obtain⟨i1,i2⟩:=T.inS q h1;simp only[if_pos (L3.Zbr.mpr ⟨i1,h2⟩),if_pos (L3.Zbr.mpr ⟨i2,h3⟩)]) x (iO x hx).1 (iO x hx).2
  simp only[if_pos hx] at this;by_cases z:lab x∈L3.oth S f
  .exact z
  .rw [if_neg z] at this;cases this
 have lab2:∀ x∈L3.oth S f,lab (lab x)=lab x:=λx hx=>lb.1.co lab lb.2 x (iO x hx).1 (iO x hx).2;have rl:∀ x∈L3.oth S f,L3.Zc8 d (Zb2 ps S) f (lab x)=L3.Zc8 d (Zb2 ps S) f x:=λx hx=>lb.1.co _ (λq hq=>by
  refine Zar (mF q hq) λh1 h2 h3=>?_;refine Zbx (T.prop h1) λp1 p2 p3 p4=>?_;have u:=T.up1_ce h1;have np:L3.pe d q≠f:=by
   rcases L3.Zgp (d:=d) q with ⟨e1,e2⟩|⟨e1,e2⟩
   .rw [<- e2];exact h3
   .rw [<- e1];exact h2
  have st:=T.root_step p1 p2 (by rw[u];exact np);rw[u] at st;rcases L3.Zgp (d:=d) q with ⟨e1,e2⟩|⟨e1,e2⟩
  .rw [e1,e2];exact st
  .rw [e1,e2];exact st.symm) x (iO x hx).1 (iO x hx).2
 have lr:∀ (k:Nat) {x:Int},d x<=k->x∈L3.oth S f->lab (L3.Zc8 d (Zb2 ps S) f x)=lab x:=by
  intro k
  induction k with
  | zero=>
   intro x hk hx;have:=T.pos (L3.Zbr.mp hx).1 (L3.Zbr.mp hx).2;omega
  | succ k ih=>
   intro x hk hx;obtain⟨xS,xf⟩:=L3.Zbr.mp hx;by_cases hu:L3.up1 d (Zb2 ps S) x=f
   .rw [T.root_base xS xf hu]
   .refine Zap (T.up1_of xS xf) λq hq e1 e2=>?_;obtain⟨u1,u2⟩:=T.up1_prop xS xf;rw[T.root_step xS xf hu,ih ∅ (L3.Zbr.mpr ⟨u1,hu⟩)];have hc:lab q.1=lab q.2:=lb.2 q (by
     rcases L3.Zgp (d:=d) q with ⟨c1,c2⟩|⟨c1,c2⟩
     .exact mFi q hq (by rw[c1,e1];exact xf) (by rw[c2,<- e2];exact hu)
     .exact mFi q hq (by rw[c1,<- e2];exact hu) (by rw[c2,e1];exact xf))
    rcases L3.Zgp (d:=d) q with ⟨c1,c2⟩|⟨c1,c2⟩
    .rw [c1,c2,e1,<- e2] at hc;exact hc.symm
    .rw [c1,c2,e1,<- e2] at hc;exact hc
 have mR:∀ r,r∈(L3.oth S f).filter (λx=>decide (lab x=x)) ↔ r∈L3.oth S f/\lab r=r:=λr=>by rw[Jaz,Jcc]
 have nR:((L3.oth S f).filter λx=>decide (lab x=x)).Nodup:=Jbe Jba nO;have same:∀ r∈(L3.oth S f).filter (λx=>decide (lab x=x)),(Zpu (L3.oth S f) lab r).length=(L3.cls S d (Zb2 ps S) f (L3.Zc8 d (Zb2 ps S) f r)).length:=λr hr=>by
  obtain⟨h1,h2⟩:=(mR r).mp hr;unfold Zpu L3.cls;congr 1;refine Jd9 λx hx=>?_;rw[Jdr];constructor
  .intro e;rw[<- rl x hx,e]
  .intro e;rw[<- lr _ (Jaf _) hx,e,lr _ (Jaf _) h1,h2]
 have hall:∀ x∈S,x≠f->∃ r∈(L3.oth S f).filter (λx=>decide (lab x=x)),L3.Zc8 d (Zb2 ps S) f r=L3.Zc8 d (Zb2 ps S) f x:=λx hx xf=>by
  have xo:=L3.Zbr.mpr ⟨hx,xf⟩;exact⟨lab x,(mR _).mpr ⟨labO x xo,lab2 x xo⟩,rl x xo⟩
 have pm:=T.arms ∅ nR (λr hr=>L3.Zbr.mp ((mR r).mp hr).1) (λr hr r' hr' e=>by
  obtain⟨h1,h2⟩:=(mR r).mp hr;obtain⟨h3,h4⟩:=(mR r').mp hr';rw[<- h2,<- h4,<- lr _ (Jaf _) h1,<- lr _ (Jaf _) h3,e]) hall
 rw[<- Jct same] at pm;have sm:=Zof lab (L3.oth S f) nR;have ol:=L3.Znm pc.nd T.fS;refine⟨?_,_,(Jcn (f:=λr=>(Zpu (L3.oth S f) lab r).length) (g:=λn=>((n:Nat):Int))).symm,?_,?_⟩
 .have:=pm.map (λn=>((n:Nat):Int));rw[Jcn,Jcn] at this;exact this
 .have lc:((Zb2 ps S).filter λq=>decide (L3.pe d q=f)).length=3:=by
   rw[<- hf3,T.deg_f];unfold L3.chn;rw[List.count,List.countP_map,List.countP_eq_length_filter];rfl
  have:=L3.Zbz (l:=((Zb2 ps S).filter λq=>decide (L3.pe d q=f)).map (L3.ce d)) (m:=((L3.oth S f).filter λx=>decide (lab x=x)).map (L3.Zc8 d (Zb2 ps S) f)) (Jbe (List.Sublist.map _ Jba) T.cend) λc hc=>by
   refine Zah (Jan.mp hc) λq hq e91=>?_;obtain rfl:=e91;obtain⟨h1,h2⟩:=Jaz.mp hq;have h2:=Jaq h2;refine Zbx (T.prop h1) λp1 p2 p3 p4=>?_;refine Zah (hall _ p1 p2) λr hr er=>?_;exact Jan.mpr ⟨r,hr,by rw[er,T.root_base p1 p2 (by rw[T.up1_ce h1,h2])]⟩
  rw[Jab,Jab,lc] at this;rw[Jab];exact this
 .unfold Zpu;omega
end
end Pf
namespace Pf
open PySem L2 PyProof.Rows
section
variable {C G S:Addr}
theorem Zqd {a D:Addr}{xs:List V}{ps:List (Int×Int)}{fr:List (Str×Nat)}{σ:L2.St}{te:TE}{H1:Hp}{Q:VK}(g:Int×Int->Int)(ha:H1 a=some (.lst xs))(hps:Prs H1 xs ps)(hD:H1 D=none)(hn:xs.length<=1000)(h:∀ (i:Nat) q H (Q:VK),ps[i]?=some q->Same H1 H->(∀ H',Same H H'->Q (.int (g q)) H')->te (some (.int q.1)::some (.int q.2)::Zb0 fr σ) H Q)(hQ:∀ H',Same H1 H'->H' D=some (.lst ((ps.map g).map V.int))->Q (.ref D) H'):Zbv (Zwq K 2 (Zhv (Zbd 0) (Zhv (Zbd 1) Zxp))) Zfb te (Itl K a) D (Ze9 2 fr σ) H1 Q:=by
 have hlen:=hps.1;refine Zbp (xs:=xs) (λi vs H=>Same H1 H/\H D=some (.lst vs)/\vs=((ps.take i).map g).map V.int) ⟨Same.new hD,Zaa,rfl⟩ (λi vs H _ p=>SqL.of (p.1 _ _ ha)) ?_ (λvs H ⟨s,e,hv⟩=>hQ H s (by rw[e,hv,hlen,Jbk]));intro i x vs σ' H hi hx sh e91;refine Zar e91 λs e e93=>?_;clear e91;obtain rfl:=e93;refine Zpl sh.two λz1 z2 e94=>?_;obtain rfl:=e94;have hi':i<ps.length:=by exact oz6 hlen hi
 have hq:ps[i]?=some ps[i]:=Jaa hi';refine Zah (hps.2 i x _ hx hq) λt e95 ht=>?_;obtain rfl:=e95;refine Zav t _ ⟨rfl,SqT.of (s _ _ ht),rfl,_,_,rfl,_,_,rfl,rfl,?_⟩;simp only[Zfb,List.set_cons_zero,List.set_cons_succ,Jck];refine h i _ H _ hq s λH' s'=>?_;refine leaf (ws:=((ps.take (i+1)).map g).map V.int) hi Sh.mk2 (s' _ _ e) (Zaj (by rw[Jab,Jab,Ja0];exact oz84 hn hi)) ⟨(s.trans s').upd hD,?_,rfl⟩;rw[Zaa,Jbb,hq,Jaw,Jaw];rfl
theorem Zqc {a b D:Addr}{as bs:List Int}{fr:List (Str×Nat)}{σ:L2.St}{te:TE}{H1:Hp}{Q:VK}(g:Int->Int->Int)(ha:H1 a=some (.lst (as.map V.int)))(hb:H1 b=some (.lst (bs.map V.int)))(hl:bs.length=as.length)(hD:H1 D=none)(hn:as.length<=1000)(h:∀ (i:Nat) H (Q:VK),i<as.length->Same H1 H->(∀ H',Same H H'->Q (.int (g (atZ as i) (atZ bs i))) H')->te (some (.int (atZ as i))::some (.int (atZ bs i))::Zb0 fr σ) H Q)(hQ:∀ H',Same H1 H'->H' D=some (.lst (((List.range as.length).map λi:Nat=>g (atZ as i) (atZ bs i)).map V.int))->Q (.ref D) H'):Zbv (Zwq K 2 (Zhv (Zbd 0) (Zhv (Zbd 1) Zxp))) Zfb te (Itz K a b) D (Ze9 2 fr σ) H1 Q:=by
 refine Zlg (xs:=as.map V.int) (ys:=bs.map V.int) (λi vs H=>Same H1 H/\H D=some (.lst vs)/\vs=((List.range i).map λi:Nat=>g (atZ as i) (atZ bs i)).map V.int) (by rw[Jab,Jab];exact hl) ⟨Same.new hD,Zaa,rfl⟩ (λi vs H _ p=>⟨SqL.of (p.1 _ _ ha),SqL.of (p.1 _ _ hb)⟩) ?_ (λvs H ⟨s,e,hv⟩=>hQ H s (by rw[e,hv,Jab]));intro i x y p vs σ' H hi hx hy hp sh e92;refine Zar e92 λs e e96=>?_;clear e92;obtain rfl:=e96;refine Zpl sh.two λz1 z2 e97=>?_;obtain rfl:=e97;rw[Jab] at hi;have ex:=Zd8 (ns:=as) (i:=(i:Int)) (by simpa using hi);have ey:=Zd8 (ns:=bs) (i:=(i:Int)) (by simpa [hl] using hi);rw[Jc6] at ex ey;rw[ex] at hx;rw[ey] at hy;cases hx;cases hy;refine Zav p _ ⟨rfl,SqT.of Zaa,rfl,_,_,rfl,_,_,rfl,rfl,?_⟩;simp only[Zfb,List.set_cons_zero,List.set_cons_succ,Jck];have s1:=s.trans (Same.new (o:=.tup [.int (atZ as i),.int (atZ bs i)]) hp);refine h i _ _ hi s1 λH' s'=>?_;have e':=s' _ _ ((Same.new (o:=.tup [.int (atZ as i),.int (atZ bs i)]) hp) _ _ e);refine leaf (ws:=((List.range (i+1)).map λi:Nat=>g (atZ as i) (atZ bs i)).map V.int) (by rw[Jab];exact hi) Sh.mk2 e' (Zaj (by rw[Jab,Jab,Jb6];exact Zvj hn hi)) ⟨(s1.trans s').upd hD,?_,rfl⟩;rw[Zaa,Jdg,Jaw,Jaw];rfl
theorem Zq1 (a b:List Int):∀ (n N:Nat),n<=N->preSum (λi=>((List.range N).map λi:Nat=>atZ a i*atZ b i).getD i 0) n=dotZ a b n
 | 0,_,_=>rfl
 | n+1,N,h=>by
  unfold preSum dotZ;rw[Zq1 a b n N ∅];congr 1;simp[Jao,show n<N by omega]
theorem Zq2 (a b:List Int)(ps:List (Int×Int)):∀ n,n<=ps.length->preSum (λi=>(ps.map λq=>atZ a q.1*atZ b q.2).getD i 0) n=Zuf a b (ps.take n)
 | 0,_=>rfl
 | n+1,h=>by
  have hq:ps[n]?=some (ps[n]'(by omega)):=Jaa _;have e:ps.take (n+1)=ps.take n++[ps[n]'(by omega)]:=by rw[Jbb,hq];rfl
  rw[e,Zqg,<- Zq2 a b ps n ∅];show _+_=_;congr 1;simp[Jao,hq]
def spTwo (C:Addr):Sp:=λvs H Q _=>∃ (p r1 r2:Addr) (m:Int) (ps:List (Int×Int)) (a b:List Int),vs=[.ref p,.ref r1,.ref r2]/\Drw C H p m ps/\InP m ps/\H r1=some (.lst (a.map V.int))/\H r2=some (.lst (b.map V.int)) /\
 a.length=m.toNat/\b.length=m.toNat/\m<=8/\(∀ n∈a,Big n)/\(∀ n∈b,Big n)/\∀ H',Same H H'->Q (.int (Zqb ps a b)) H'
theorem ok_two (F:Fun K "two_sided" "two_sided" Zgg f fd)(T:Txt K mg C G S):FnOk P w K mg base CX0 1 f fd ["drawing","one","other"] (spTwo C):=by
 have nd:=Zh0.nd;refine F.ok Zh0 (λvs H Q E h=>?_) (λcdv A outer s H vs Q E hr h=>?_)
 .refine xE7_2 h λp r1 r2 m ps a b e98 _=>?_;clear h;obtain rfl:=e98;rfl
 .refine xE7_4 h λp r1 r2 m ps a b e99 e910 hin e911=>?_;clear h;obtain rfl:=e99;obtain⟨lp,xs,⟨dx,hp,hlp⟩,hl,hps⟩:=e910;refine xE0_8 e911 λh1 h2 l1 l2 m8 b1 b2 q=>?_;clear e911;have hlen:=hps.1;refine⟨_,((3|||nd|||(Za4 (Zpf rfl) rfl T.n_sum boot_sum ((Zax (own:=["a","b"]) (fr:=[]) rfl (Zbh (by kernel_rfl)) (Zje rfl T.n_zip ((pv 1)<&>((pv 2)<&>Zab))) (λ_ _ _ _=>⟨(@Zcr _ K rfl _ _ _ _ 2 rfl ((0<<<["a","b"])^^^((1<<<["a","b"])^^^(@Za2 _))) ⇑1 ⇑1),Za0,(Zk7<|>(pv 0)<&&>(pv 1))⟩))<&>Zab)))<*>(~~~(Zdy<|>(pvr 3)<&&>(Za4 (Zpf rfl) rfl T.n_sum boot_sum ((Zax (own:=["tail","head"]) (fr:=[("one",1),("other",2)]) rfl (Zbh (by kernel_rfl)) (Za1 (Zbk (pv 0) rfl)) (λ_ _ _ _=>⟨(@Zcr _ K rfl _ _ _ _ 2 rfl ((0<<<["tail","head","one","other"])^^^((1<<<["tail","head","one","other"])^^^(@Za2 _))) ⇑1 ⇑1),Za0,(Zk7<|>((Zew K rfl)<|>(pv 2)<||>(pv 0))<&&>((Zew K rfl)<|>(pv 3)<||>(pv 1)))⟩))<&>Zab))))),?_⟩;walk_at "wp";refine⟨_,rfl,_,rfl,r1,r2,rfl,⟨_,SqL.of h1⟩,⟨_,SqL.of h2⟩,λD hD=>Zqc (λx y=>x*y) h1 h2 (oz237 l1 l2) hD (oz135 l1 m8) (λi H' Q' hi s' q'=>?_) λH1 s1 e1=>⟨D,rfl,_,SqL.of e1,?_⟩⟩
  .refine ⟨_,rfl,_,rfl,_,_,rfl,rfl,?_,q' H' (Same.refl _)⟩;exact (Zln b1 (by simpa using hi)).mul (Zln b2 (by simp;omega))
  .have hp1:=s1 _ _ hp;have hlp1:=s1 _ _ hlp;refine⟨_,rfl,p,C,dx,_,_,rfl,hp1,T.cl_Drawing,T.nA,Zay _ _,lp,rfl,⟨_,SqL.of hlp1⟩,λD2 hD2=>Zqd (λq=>atZ a q.1*atZ b q.2) hlp1 (hps.same s1) hD2 (Zvi hl) (λi q H' Q' hq s' q'=>?_) λH2 s2 e2=>⟨D2,rfl,_,SqL.of e2,?_⟩⟩
   .refine Zbx (hin _ (Jai hq)) λp0 p1 p2 p3=>?_;have t0:q.1.toNat<a.length:=by exact oz53 l1 p1 p2 p3
    have t1:q.2.toNat<b.length:=by exact oz22 l1 l2 p3 t0
    have hh1:=s' _ _ (s1 _ _ h1);have hh2:=s' _ _ (s1 _ _ h2);refine⟨_,rfl,_,rfl,r1,_,_,_,rfl,rfl,SqL.of hh1,Zck p0 (Zd8 t0),_,rfl,_,rfl,r2,_,_,_,rfl,rfl,SqL.of hh2,Zck p2 (Zd8 t1),_,_,rfl,rfl,(Zln b1 t0).mul (Zln b2 t1),q' H' (Same.refl _)⟩
   .rw [Jab,Jab,Jb6,Zq1 a b _ _ (Jaf _),Zq2 a b ps _ (Jaf _),Jbk];exact q H2 (s1.trans s2)
def Zko (C:Addr):Sp:=λvs H Q _=>∃ (p r1:Addr) (m:Int) (ps:List (Int×Int)) (a:List Int),vs=[.ref p,.ref r1]/\Drw C H p m ps/\InP m ps/\H r1=some (.lst (a.map V.int)) /\
 a.length=m.toNat/\m<=8/\(∀ n∈a,Big n)/\∀ H',Same H H'->Q (.int (Zqb ps a a)) H'
theorem Zvp (F:Fun K "worth" "worth" Zni f fd)(T:Txt K mg C G S)(Yb0:Cal P w K mg base "two_sided" 1 (spTwo C)):FnOk P w K mg base CX0 2 f fd ["drawing","row"] (Zko C):=by
 have nd:=Zoj.nd;refine F.ok Zoj (λvs H Q E h=>?_) (λcdv A outer s H vs Q E hr h=>?_)
 .refine Zm1 h λp r1 m ps a e912 _=>?_;clear h;obtain rfl:=e912;rfl
 .refine Zcx h λp r1 m ps a e913 hd hin e914=>?_;clear h;obtain rfl:=e913;refine Zdu e914 λh1 l1 m8 b1 q=>?_;clear e914;refine⟨_,(~~~(Yb0<$>hr<$>((pvr 0)<&>((pvr 1)<&>((pvr 1)<&>Zab))))),?_⟩;walk_at "wp";exact Zqo p r1 r1 m ps a a ⟨rfl,hd,hin,h1,h1,l1,l1,m8,b1,b1,q⟩
theorem Zsw (p:Int):∀ es:List (Int×Int),L3.nb es (λ_=>1) p=((Za8 es).count p:Nat)
 | []=>rfl
 | e::es=>by
  have ih:=Zsw p es;unfold L3.nb Za8 at *;rw[List.flatMap_cons,List.count_append,L3.sI,ih];by_cases h1:e.1=p <;> by_cases h2:e.2=p <;> simp[h1,h2] <;> omega
theorem Zv7 {S:List Int}{es:List (Int×Int)}(nd:S.Nodup)(ins:L3.Ins S es)(el:es.length+1=S.length)(one:∀ p∈S,1<=(Za8 es).count p)(fk:(∃ f∈S,3<(Za8 es).count f)\/∃ f∈S,∃ f'∈S,f≠f'/\2<(Za8 es).count f/\2<(Za8 es).count f'):
  L3.qf S es (λp=>if p∈S then (if (Za8 es).count p=1 then 1 else 2) else 0)<=0:=by
 have d1:=L3.dbl (x:=λ_=>1) (y:=λ_=>1) nd ins;have d2:=L3.dbl (x:=λ_=>1) (y:=λp=>if (Za8 es).count p=1 then 1 else 0) nd ins;have e1:L3.sI (λp=>(1:Int)*L3.nb es (λ_=>1) p) S=L3.sI (λp=>(((Za8 es).count p:Nat):Int)) S:=L3.Zbt λp _=>by rw[Zsw];omega
 have e2:L3.sI (λp=>(if (Za8 es).count p=1 then (1:Int) else 0)*L3.nb es (λ_=>1) p) S=L3.sI (λp=>if (Za8 es).count p=1 then (1:Int) else 0) S:=L3.Zbt λp _=>by
  rw[Zsw];by_cases z:(Za8 es).count p=1
  .simp [z]
  .simp [z]
 have e3:L3.sI (λ_:Int×Int=>(1:Int)*1+1*1) es=2*(es.length:Nat):=by rw[L3.Zce];rfl
 rw[e1,e3] at d1;rw[e2] at d2;have g0:∀ p∈S,0<=(((Za8 es).count p:Nat):Int)-2+(if (Za8 es).count p=1 then (1:Int) else 0):=λp hp=>by
  have:=one p hp;split <;> omega
 have sg:L3.sI (λp=>(((Za8 es).count p:Nat):Int)-2+(if (Za8 es).count p=1 then (1:Int) else 0)) S=2*(es.length:Nat)-2*(S.length:Nat)+L3.sI (λp=>if (Za8 es).count p=1 then (1:Int) else 0) S:=by
  rw[L3.Zom,L3.Zj8,d1,L3.Zce]
 have l4:4<=L3.sI (λp=>if (Za8 es).count p=1 then (1:Int) else 0) S:=by
  rcases fk with ⟨f,hf,h3⟩|⟨f,hf,f',hf',ne,h3,h4⟩
  .have:=L3.Zh7 hf g0;rw[sg,if_neg ∅] at this;exact oz64 el h3 this
  .have:=L3.Zxa hf hf' ne g0;rw[sg,if_neg (oz194 h3),if_neg (oz194 h4)] at this;exact oz72 el h3 h4 this
 have sq:L3.sI (λp=>(if p∈S then (if (Za8 es).count p=1 then (1:Int) else 2) else 0)*(if p∈S then (if (Za8 es).count p=1 then (1:Int) else 2) else 0)) S=4*(S.length:Nat)-3*L3.sI (λp=>if (Za8 es).count p=1 then (1:Int) else 0) S:=by
  rw[<- L3.Zrl,<- L3.Zce,<- L3.Zj8];refine L3.Zbt λp hp=>?_;rw[if_pos hp];split <;> rfl
 have pr:4*(es.length:Nat)-2*L3.sI (λe:Int×Int=>(if (Za8 es).count e.1=1 then (1:Int) else 0)*1+(if (Za8 es).count e.2=1 then (1:Int) else 0)*1) es<=L3.sI (λe:Int×Int=>(if e.1∈S then (if (Za8 es).count e.1=1 then (1:Int) else 2) else 0)*(if e.2∈S then (if (Za8 es).count e.2=1 then (1:Int) else 2) else 0)) es:=by
  rw[<- L3.Zrl,<- L3.Zce,<- L3.Zj8];refine L3.Zu1 λe he=>?_;rw[if_pos (ins e he).1,if_pos (ins e he).2];split <;> split <;> decide
 unfold L3.qf;dsimp only;rw[sq];rw[<- d2] at pr;refine Int.le_trans (Int.sub_le_sub_left pr _) ?_;exact oz61 el l4
theorem Zwu {S:List Int}{es:List (Int×Int)}(cn:L3.Conn S es)(ins:L3.Ins S es)(nd:S.Nodup)(ne:S≠[]):S.length<=es.length+1:=by
 obtain⟨z,zS⟩:=Jdo S ne;obtain⟨d,e0,hp⟩:=L3.Znz (f:=z) cn ins nd S.length (A:=[z]) (d:=λ_=>0) ∅ (by simp) (λx hx=>by rw[Jam.mp hx];exact zS) (by simp) rfl (λx hx xf=>absurd (Jam.mp hx) xf);have:=L3.Zbz (l:=L3.oth S z) (m:=es.map (L3.ce d)) (Jbe Jba nd) λx hx=>by
  obtain⟨h1,h2⟩:=L3.Zbr.mp hx;refine Zah (hp x h1 h2) λq hq h=>?_;exact Jan.mpr ⟨q,hq,(L3.Zot h).1⟩
 rw[Jab] at this;have:=L3.Znm nd zS;omega
theorem Pc.ins {m:Int}{ps:List (Int×Int)}{S:List Int}(pc:Pc m ps S):L3.Ins S (Zb2 ps S):=λq hq=>by
 obtain⟨h1,h2⟩:=Jaz.mp hq;have h2:=Jaq h2;exact⟨h2,(pc.cl q h1).mp h2⟩
theorem Pc.tree {m:Int}{ps:List (Int×Int)}{S:List Int}(pc:Pc m ps S)(el:(Zb2 ps S).length+1=S.length){f:Int}(hf:f∈S):∃ d:Int->Nat,d f=0/\L3.Tr S (Zb2 ps S) f d/\∀ x,(Za8 (Zb2 ps S)).count x=L3.deg (Zb2 ps S) x:=by
 refine Zah (L3.Zty pc.cn pc.ins pc.nd hf el) λd e0 T=>?_;exact⟨d,e0,T,λx=>Zkg λq hq=>T.ne hq⟩
theorem Pc.three {m:Int}{ps:List (Int×Int)}{S:List Int}(pc:Pc m ps S)(el:(Zb2 ps S).length+1=S.length){f:Int}{ns:List Int}(hf:(S.filter λx=>decide (2<(Za8 (Zb2 ps S)).count x))=[f])(h3:¬ 3<(Za8 (Zb2 ps S)).count f)(pm:ns.Perm (Zmy S (Zb2 ps S) f)):
  ∃ (d:Int->Nat) (a b c:Int),L3.Fk S (Zb2 ps S) f d/\L3.Lvs S (Zb2 ps S) f d [a,b,c]/\ns=[((d a:Nat):Int),((d b:Nat):Int),((d c:Nat):Int)]/\d a+d b+d c+1<=S.length:=by
 have mf:f∈S/\2<(Za8 (Zb2 ps S)).count f:=by
  have:f∈S.filter λx=>decide (2<(Za8 (Zb2 ps S)).count x):=by rw[hf];simp
  obtain⟨h,h'⟩:=Jaz.mp this;exact⟨h,Jaq h'⟩
 have only:∀ x∈S,2<(Za8 (Zb2 ps S)).count x->x=f:=λx hx h=>by
  have:x∈S.filter λx=>decide (2<(Za8 (Zb2 ps S)).count x):=Jaz.mpr ⟨hx,Jag h⟩;rw[hf] at this;exact Jam.mp this
 refine Zap (pc.tree el mf.1) λd e0 T cE=>?_;have f3:L3.deg (Zb2 ps S) f=3:=by rw[<- cE];omega
 have Tf:L3.Fk S (Zb2 ps S) f d:=⟨T,e0,λx hx xf=>by
  have h6:=T.deg_x hx xf;rw[<- cE] at h6;have:¬ 2<(Za8 (Zb2 ps S)).count x:=λu=>xf (only x hx u);exact oz158 h6 this⟩
 obtain⟨pa,ls,e2,l3,lsum⟩:=Zwz pc Tf f3;refine Zah (L3.Zr0 (pm.trans pa) _ rfl) λL pL eL=>?_;have hL:=(Tf.lvs_is ∅).perm pL;have lL:=Tf.few_ends hL;rw[f3] at lL;have l1:=pm.length_eq;rw[e2,Jab,<- eL,Jab] at l1;have p2:=pm.map Int.toNat;have eid:(Int.toNat ∘ λn:Nat=>(n:Int))=id:=funext λx=>Jc6 x;rw[e2,Jcn,eid,List.map_id] at p2;have s2:=p2.sum_nat
 match L,eL,hL,lL,l1 with
 | [a,b,c],eL,hL,_,_=>
  refine Zkk d a b c ⟨Tf,hL,eL.symm,?_⟩;rw[<- eL] at s2;simp only[Ja8,Jei,List.sum_cons,List.sum_nil,Jc6] at s2;exact oz150 lsum s2
 | [],_,_,_,l1=>simp at l1;omega
 | [_],_,_,_,l1=>simp at l1;omega
 | [_,_],_,_,_,l1=>simp at l1;omega
 | _::_::_::_::_,_,_,lL,_=>simp at lL
theorem Zwc {m:Int}{ps:List (Int×Int)}{S:List Int}{r:Str×Int}(pc:Pc m ps S)(k:Zn6 S (Zb2 ps S) (some r)):L3.DPos S (Zb2 ps S):=by
 rcases k with ⟨_,h⟩|⟨el,k⟩
 .cases h
 rcases k with ⟨e0,_⟩|⟨f,rest,ef,k⟩
 .obtain ⟨z,zS⟩:=Jdo S pc.ne;refine Zap (pc.tree el zS) λd d0 T cE=>?_;have le:∀ x∈S,L3.deg (Zb2 ps S) x<=2:=λx hx=>Jas λh=>by
   have:x∈S.filter λx=>decide (2<(Za8 (Zb2 ps S)).count x):=Jaz.mpr ⟨hx,Jag (by rw[cE];omega)⟩;rw[e0] at this;cases this
  have Tf:L3.Fk S (Zb2 ps S) z d:=⟨T,d0,λx hx xf=>by
   have h6:=T.deg_x hx xf;have:=le x hx;omega⟩
  exact Tf.posA Tf.ends_is (Jbf (Tf.few_ends Tf.ends_is) (le z zS))
 .rcases k with ⟨_,h⟩|⟨rfl,h3,ns,pm,so,hk⟩
  .cases h
  refine Zdt (pc.three el ef h3 pm) λd a b c T hL e hs=>?_;have:=pc.le8;unfold kd at hk;by_cases c1:ns.take 2=[1,1]
  .rw [e] at c1;simp only[Jds,List.take_zero,Jch,and_true] at c1;exact T.posD hL ∅ ∅
  .rw [if_neg c1] at hk;by_cases c2:ns.take 2=[1,2]
   .rw [e] at c2;simp only[Jds,List.take_zero,Jch,and_true] at c2;exact T.posE hL ∅ ∅ (oz195 hs this c2)
   .rw [if_neg λz=>c2 z.1] at hk;cases hk
theorem Zwd {m:Int}{ps:List (Int×Int)}{S:List Int}(pc:Pc m ps S)(k:Zn6 S (Zb2 ps S) none):∃ X:Int->Int,(∀ p,p∉S->X p=0)/\(∀ p∈S,0<=X p/\X p<=4/\(S.length<=6->X p<=2))/\(∃ p∈S,X p≠0)/\L3.qf S (Zb2 ps S) X<=0:=by
 rcases k with ⟨hl,_⟩|⟨el,k⟩
 .obtain ⟨z,zS⟩:=Jdo S pc.ne;refine⟨λp=>if p∈S then 1 else 0,λp hp=>if_neg hp,λp hp=>by simp only[if_pos hp];omega,⟨z,zS,by simp only[if_pos zS];decide⟩,?_⟩;have:=Zwu pc.cn pc.ins pc.nd pc.ne;have e1:L3.sI (λp=>(if p∈S then (1:Int) else 0)*(if p∈S then (1:Int) else 0)) S=1*(S.length:Nat):=by
   rw[<- L3.Zce];exact L3.Zbt λp hp=>by rw[if_pos hp];rfl
  have e2:L3.sI (λe:Int×Int=>(if e.1∈S then (1:Int) else 0)*(if e.2∈S then (1:Int) else 0)) (Zb2 ps S)=1*((Zb2 ps S).length:Nat):=by
   rw[<- L3.Zce];exact L3.Zbt λe he=>by rw[if_pos (pc.ins e he).1,if_pos (pc.ins e he).2];rfl
  unfold L3.qf;rw[e1,e2];exact oz75 hl this
 rcases k with ⟨_,h⟩|⟨f,rest,ef,k⟩
 .cases h
 have mf:f∈S/\2<(Za8 (Zb2 ps S)).count f:=by
  have:f∈S.filter λx=>decide (2<(Za8 (Zb2 ps S)).count x):=by rw[ef];simp
  obtain⟨h,h'⟩:=Jaz.mp this;exact⟨h,Jaq h'⟩
 rcases k with ⟨hh,_⟩|⟨rfl,h3,ns,pm,so,hk⟩
 .refine Zap (pc.tree el mf.1) λd d0 T cE=>?_;refine⟨λp=>if p∈S then (if (Za8 (Zb2 ps S)).count p=1 then 1 else 2) else 0,λp hp=>if_neg hp,λp hp=>by simp only[if_pos hp];split <;> omega,⟨f,mf.1,by simp only[if_pos mf.1];rw[if_neg ∅];decide⟩,?_⟩;refine Zv7 pc.nd pc.ins el (λp hp=>?_) ?_
  .by_cases z:p=f
   .rw [z];omega
   .rw [cE,T.deg_x hp z];omega
  .rcases hh with hr|h4
   .obtain ⟨f',rest',rfl⟩:∃ f' rest',rest=f'::rest':=by
     cases rest with
     | nil=>exact absurd rfl hr
     | cons y ys=>exact⟨y,ys,rfl⟩
    have nF:(f::f'::rest').Nodup:=by rw[<- ef];exact Jbe Jba pc.nd
    have mf':f'∈S.filter λx=>decide (2<(Za8 (Zb2 ps S)).count x):=by rw[ef];simp
    obtain⟨g1,g2⟩:=Jaz.mp mf';exact .inr ⟨f,mf.1,f',g1,λz=>(Jbx.mp nF).1 (by rw[z];simp),mf.2,Jaq g2⟩
   .exact .inl ⟨f,mf.1,h4⟩
 .refine Zdt (pc.three el ef h3 pm) λd a b c T hL e hs=>?_;have:=pc.le8;have ha:=(hL.2 a).mp (by simp);have pa:=T.pos ha.1 ha.2.1;subst e;have so1:=(Je7.mp so).1 ((d b:Nat):Int) (by simp);have so2:=(Je7.mp (Je7.mp so).2).1 ((d c:Nat):Int) (by simp);unfold kd at hk;simp only[Jds,List.take_zero,Jch,and_true] at hk;have n1:¬ (((d a:Nat):Int)=1/\((d b:Nat):Int)=1):=λz=>by rw[if_pos z] at hk;cases hk
  rw[if_neg n1] at hk;have n2:¬ (((d a:Nat):Int)=1/\((d b:Nat):Int)=2):=λz=>by rw[if_pos ⟨z,oz115 hs this so2 z⟩] at hk;cases hk
  by_cases c1:d a=1
  .have e2:d b=3:=by exact oz97 hs this so1 so2 n1 n2 c1
   have e3:d c=3:=by exact oz128 hs this so2 c1 e2
   refine⟨_,λp hp=>if_neg hp,λp hp=>?_,⟨a,ha.1,by simp only[if_pos ha.1,Jck];decide⟩,Int.le_of_eq (T.low7 hL c1 e2 e3)⟩;have:=T.d_le hL (N:=3) hp λz hz=>by
    simp only[Jax,Jel,or_false] at hz;rcases hz with rfl|rfl|rfl <;> omega
   simp only[if_pos hp];split <;> omega
  .have e1:d a=2:=by exact oz117 hs this pa so1 so2 c1
   have e2:d b=2:=by exact oz131 hs this so1 so2 e1
   refine⟨_,λp hp=>if_neg hp,λp hp=>?_,⟨a,ha.1,by simp only[if_pos ha.1,e1];decide⟩,Int.le_of_eq (T.low6 hL e1 e2 (oz93 hs this so2 e1 e2))⟩;have:=T.d_le hL (N:=3) hp λz hz=>by
    simp only[Jax,Jel,or_false] at hz;rcases hz with rfl|rfl|rfl <;> omega
   simp only[if_pos hp];exact oz151 hs so2 e1 e2 this
def Zw1 (n:Nat)(ps:List (Int×Int)):Prop:=∀ S∈Zer n (Zb1 ps),∃ r,Zn6 S (Zb2 ps S) (some r)
def Zqh (n:Nat)(ps:List (Int×Int)):Prop:=∃ S∈Zer n (Zb1 ps),Zn6 S (Zb2 ps S) none
theorem ins_pts {n:Nat}{ps:List (Int×Int)}(hin:InP (n:Nat) ps):L3.Ins (Zbi n) ps:=λq hq=>by
 refine Zbx (hin q hq) λa1 a2 a3 a4=>?_;exact⟨Zcv.mpr ⟨a1,a2⟩,Zcv.mpr ⟨a3,a4⟩⟩
theorem Zo3 {n:Nat}{ps:List (Int×Int)}(hin:InP (n:Nat) ps)(n8:n<=8)(g:Zw1 n ps):L3.DPos (Zbi n) ps:=λX hX=>by
 have lb:=Zlc hin;have mR:∀ k,k∈(Zbi n).filter (λx=>decide (Zb1 ps x=x)) ↔ (0<=k/\k<n)/\Zb1 ps k=k:=λk=>by rw[Jaz,Zcv,Jcc]
 have toR:∀ x:Int,0<=x->x<(n:Nat)->Zb1 ps x∈(Zbi n).filter λx=>decide (Zb1 ps x=x):=λx h0 h1=>(mR _).mpr ⟨⟨lb.1.lo x h0 h1,lb.1.lt h0 h1⟩,lb.1.co _ lb.2 x h0 h1⟩;have nR:((Zbi n).filter λx=>decide (Zb1 ps x=x)).Nodup:=Jbe Jba (Zk2 n);have e1:=L3.Zrm (g:=λp=>X p*X p) (Zb1 ps) (l:=Zbi n) nR λx hx=>by
  obtain⟨h0,h1⟩:=Zcv.mp hx;exact toR x h0 h1
 have e2:=L3.Zrm (g:=λe:Int×Int=>X e.1*X e.2) (λe=>Zb1 ps e.1) (l:=ps) nR λe he=>by
  refine Zar (hin e he) λa1 a2 _=>?_;exact toR _ a1 a2
 have e3:L3.qf (Zbi n) ps X=L3.sI (λk=>L3.qf (Zho n (Zb1 ps) k) (Zb2 ps (Zho n (Zb1 ps) k)) X) ((Zbi n).filter λx=>decide (Zb1 ps x=x)):=by
  unfold L3.qf;rw[e1,e2,<- L3.Zj8];refine L3.Zbt λk hk=>?_;have r1:(Zbi n).filter (λx=>decide (Zb1 ps x=k))=Zho n (Zb1 ps) k:=Zct n _ k;have r2:ps.filter (λe=>decide (Zb1 ps e.1=k))=Zb2 ps (Zho n (Zb1 ps) k):=Jd9 λe he=>by
   refine Zar (hin e he) λa1 a2 _=>?_;rw[Jdr,Zdz];exact⟨λh=>⟨⟨a1,a2⟩,h⟩,λh=>h.2⟩
  rw[r1,r2]
 have inL:∀ k,k∈(Zbi n).filter (λx=>decide (Zb1 ps x=x))->Zho n (Zb1 ps) k∈Zer n (Zb1 ps):=λk hk=>by
  rw[<- Zfm];unfold Zgn;exact Jan.mpr ⟨k,hk,Zct n _ k⟩
 have pos:∀ k∈(Zbi n).filter (λx=>decide (Zb1 ps x=x)),L3.DPos (Zho n (Zb1 ps) k) (Zb2 ps (Zho n (Zb1 ps) k)):=λk hk=>by
  obtain⟨r,kp⟩:=g _ (inL k hk);exact Zwc (Pc.of hin Zui (Zr7 n8) (by rw[Jc6];exact inL k hk)) kp
 have nn:∀ k∈(Zbi n).filter (λx=>decide (Zb1 ps x=x)),0<=L3.qf (Zho n (Zb1 ps) k) (Zb2 ps (Zho n (Zb1 ps) k)) X:=λk hk=>by
  by_cases z:∃ p∈Zho n (Zb1 ps) k,X p≠0
  .exact Int.le_of_lt (pos k hk X z)
  .have z:∀ p∈Zho n (Zb1 ps) k,X p=0:=λp hp=>Jas λu=>z ⟨p,hp,u⟩;unfold L3.qf;rw[L3.Zfl (λp hp=>by rw[z p hp];rfl),L3.Zfl (λe he=>by rw[z _ (Jaq (Jaz.mp he).2)];exact Jdt _)];decide
 refine Zah hX λp hp hz=>?_;clear hX;obtain⟨h0,h1⟩:=Zcv.mp hp;have:=L3.Zh7 (toR p h0 h1) nn;have:=pos _ (toR p h0 h1) X ⟨p,Zdz.mpr ⟨⟨h0,h1⟩,rfl⟩,hz⟩;rw[e3];omega
theorem bad_low {n:Nat}{ps:List (Int×Int)}(hin:InP (n:Nat) ps)(n8:n<=8)(g:Zqh n ps):∃ X,L3.Low (Zbi n) ps X/\∀ p∈Zbi n,X p<=4/\(n<=6->X p<=2):=by
 refine Zah g λS hS kp=>?_;clear g;have pc:=Pc.of hin Zui (Zr7 n8) (by rw[Jc6];exact hS);refine Zm4 (Zwd pc kp) λX x0 x1 e91 hq=>?_;obtain⟨p,hp,hz⟩:=e91;have inm:=pc.inm;refine Zap (Zg2 hS) λk ek hk e92=>?_;obtain rfl:=e92;have le:(Zho n (Zb1 ps) k).length<=n:=by
  rw[<- Zct];unfold Zpu Zbi;refine Jbf (Jbi _ _) ?_;simp
 refine⟨X,⟨λp _=>?_,⟨p,Zcv.mpr (inm p hp),hz⟩,?_⟩,λp _=>?_⟩
 .by_cases h:p∈Zho n (Zb1 ps) k
  .exact (x1 p h).1
  .rw [x0 p h];decide
 .have e1:L3.sI (λp=>X p*X p) (Zbi n)=L3.sI (λp=>X p*X p) (Zho n (Zb1 ps) k):=by
   rw[<- Zct];refine L3.Zjb λx hx h=>?_;have:x∉Zho n (Zb1 ps) k:=λz=>by
    have:=(Zdz.mp z).2;simp[this] at h
   rw[x0 x this];rfl
  have e2:L3.sI (λe:Int×Int=>X e.1*X e.2) ps=L3.sI (λe:Int×Int=>X e.1*X e.2) (Zb2 ps (Zho n (Zb1 ps) k)):=L3.Zjb λe he h=>by
   have:e.1∉Zho n (Zb1 ps) k:=λz=>by simp[z] at h
   rw[x0 _ this];exact Jdt _
  unfold L3.qf at *;rw[e1,e2];exact hq
 .by_cases h:p∈Zho n (Zb1 ps) k
  .exact ⟨(x1 p h).2.1,λz=>(x1 p h).2.2 ∅⟩
  .rw [x0 p h];exact⟨⇑0,λ_=>⇑0⟩
theorem DPos.nn {pts:List Int}{ps:List (Int×Int)}(h:L3.DPos pts ps):L3.PosN pts ps:=λX _ hX=>h X hX
theorem Zla {n:Nat}{ps:List (Int×Int)}(hin:InP (n:Nat) ps)(n8:n<=8)(g:Zqh n ps)(h:L3.PosN (Zbi n) ps):False:=by
 refine Zah (bad_low hin n8 g) λX e93 _=>?_;obtain⟨h0,h1,h2⟩:=e93;have:=h X h0 h1;omega
theorem sm_kd {H:Hp}{v:V}{k:Kd}(h:KdV H v k):(!decide (v=V.non))=k.isSome:=by
 cases k with
 | none=>
  have h:v=.non:=h;subst h;rfl
 | some k=>
  refine Zah h λt e93 _=>?_;clear h;obtain rfl:=e93;rfl
theorem kds_all {H:Hp}{us:List V}{n:Nat}{ps:List (Int×Int)}(kf:KdsF H us (Zer n (Zb1 ps)) ps):((us.map λv=>!decide (v=V.non)).all id=true->Zw1 n ps)/\((us.map λv=>!decide (v=V.non)).all id=false->Zqh n ps):=by
 obtain⟨hl,h⟩:=kf;constructor
 .intro a S hS;obtain⟨i,hi,e⟩:=Jbu.mp hS;have eS:(Zer n (Zb1 ps))[i]?=some S:=by rw[Jaa hi,e]
  have eu:us[i]?=some (us[i]'(oz78 hl hi)):=Jaa _;refine Zah (h i _ S eu eS) λr k1 k2=>?_;have:=sm_kd k2;rw[List.all_map,Jbn] at a;have a1:(!decide (us[i]'(oz78 hl hi)=V.non))=true:=a _ (Jbr (oz78 hl hi));rw[a1] at this;cases r with
  | none=>cases this
  | some r=>exact⟨r,k1⟩
 .intro a;rw[List.all_map,List.all_eq_false] at a;refine Zah a λv hv e=>?_;clear a;obtain⟨i,hi,rfl⟩:=Jbu.mp hv;have eS:(Zer n (Zb1 ps))[i]?=some ((Zer n (Zb1 ps))[i]'(oz6 hl hi)):=Jaa _;refine Zah (h i _ _ (Jaa hi) eS) λr k1 k2=>?_;have:=sm_kd k2;have e:¬ (!decide (us[i]=V.non))=true:=e;rw[this] at e;cases r with
  | none=>exact⟨_,Jai eS,k1⟩
  | some r=>exact absurd rfl e
theorem Zrp (n:Nat)(f:Int->Int):(Zer n f).length<=n:=by
 rw[<- Zfm];unfold Zgn Zbi;rw[Jab];refine Jbf (Jbi _ _) ?_;simp
def Zjw (C:Addr):Sp:=λvs H Q _=>∃ (x:Addr) (n:Nat) (ps:List (Int×Int)),vs=[.ref x]/\Drw C H x (n:Nat) ps/\InP (n:Nat) ps/\1<=n/\n<=8 /\
 (Zw1 n ps->∀ H',Same H H'->Q (.bl true) H')/\(Zqh n ps->∀ H',Same H H'->Q (.bl false) H')
theorem ok_good (F:Fun K "is_good" "is_good" Zi8 f fd)(T:Txt K mg C G S)(Ybk:CalM P w K mg base C "kinds" 4 (Znf C)):FnOk P w K mg base CX0 5 f fd ["drawing"] (Zjw C):=by
 have nd:=Zj4.nd;refine F.ok Zj4 (λvs H Q E h=>?_) (λcdv A outer s H vs Q E hr h=>?_)
 .refine Zfa h λx n ps e94 _=>?_;clear h;obtain rfl:=e94;rfl
 .refine Zb3 h λx n ps e95 dw hin e96=>?_;clear h;obtain rfl:=e95;refine Zbx e96 λn0 n8 q1 q2=>?_;clear e96;refine⟨_,(~~~(Za4 (Zdf rfl) rfl T.n_all Je6 ((Zax (own:=["kind"]) (fr:=[]) rfl (Zbh (by kernel_rfl)) (Za1 (Zr2 T.cl_Drawing Ybk hr.m (pv 0))) (λ_ _ _ _=>⟨(0<<<["kind"]),Za0,(Zd6 op_notN (pv 0) Zl9 (Zao _))⟩))<&>Zab))),?_⟩;refine Za3 (id dw) λlp xs e97 hl9 hps=>?_;obtain⟨dx,hx,hlp⟩:=e97;walk_at "wp";refine⟨_,rfl,x,dx,_,rfl,hx,Zjo (n:Nat) lp ⇑0 ⇑0,x,(n:Nat),ps,rfl,dw,hin,oz83 n0,Zr7 n8,λp us H1 s1 fp hp1 kf=>?_⟩;rw[Jc6] at kf;have ul:=kf.1;have lr:=Zrp n (Zb1 ps);refine⟨p,rfl,⟨_,SqL.of hp1⟩,λD hD=>Zbp (xs:=us) (λi vs H=>Same H1 H/\H D=some (.lst vs)/\vs=((us.take i).map λv=>!decide (v=V.non)).map V.bl) ⟨Same.new hD,Zaa,rfl⟩ (λi vs H _ k=>SqL.of (k.1 _ _ hp1)) ?_ ?_⟩
  .intro i x' vs σ' H' hi hx' sh e91;refine Zar e91 λs' e' e98=>?_;clear e91;obtain rfl:=e98;obtain⟨z,rfl⟩:=sh.one;simp only[Zda,Zbd,Zfb,List.set_cons_zero,Jck];refine⟨_,rfl,rfl,leaf (ws:=((us.take (i+1)).map λv=>!decide (v=V.non)).map V.bl) hi Sh.mk1 e' (Zaj (by rw[Jab,Jab,Ja0];exact oz114 n8 ul lr)) ⟨s'.upd hD,?_,rfl⟩⟩;rw[Zaa,Jbb,hx',Jaw,Jaw];rfl
  .intro vs H4 e92;refine Zar e92 λs4 e4 e99=>?_;clear e92;obtain rfl:=e99;rw[Jbk] at e4;obtain⟨g1,g2⟩:=kds_all kf;refine⟨D,rfl,_,SqL.of e4,?_⟩;cases hb:(us.map λv=>!decide (v=V.non)).all id with
   | true=>exact q1 (g1 hb) _ (s1.trans s4)
   | false=>exact q2 (g2 hb) _ (s1.trans s4)
def spMir (C:Addr):Sp:=λvs H Q _=>∃ (p r:Addr) (m k:Int) (ps:List (Int×Int)) (ns:List Int),vs=[.ref p,.int k,.ref r]/\Drw C H p m ps/\InP m ps/\H r=some (.lst (ns.map V.int))/\ns.length=m.toNat/\0<=k/\k<m/\m<=8 /\
 ∀ (t:Addr) (H':Hp),Same H H'->H t=none->H' t=some (.lst ((mirZ k ns ps).map V.int))->Q (.ref t) H'
theorem Zis (ns:List Int)(k:Nat)(v:Int):(ns.map V.int).set k (.int v)=(ns.set k v).map V.int:=(List.map_set).symm
theorem Zs9 {n:Nat}{k:Int}(h0:0<=k)(h1:k.toNat<n):ixN n k=some k.toNat:=by
 unfold ixN;simp[h0];omega
theorem ok_mir (F:Fun K "mirrored" "mirrored" Zhg f fd)(T:Txt K mg C G S):FnOk P w K mg base CX0 1 f fd ["drawing","point","row"] (spMir C):=by
 have nd:=Zit.nd;refine F.ok Zit (λvs H Q E h=>?_) (λcdv A outer s H vs Q E hr h=>?_)
 .refine Zls h λp r m k ps ns e93 _=>?_;clear h;obtain rfl:=e93;rfl
 .refine Zkl h λp r m k ps ns e94 e95 hin e96=>?_;clear h;obtain rfl:=e94;obtain⟨lp,xs,⟨dx,hp,hlp⟩,hl,hps⟩:=e95;refine Zgf e96 λhr1 hln k0 k1 m8 q=>?_;clear e96;have hlen:=hps.1;refine⟨_,((3|||nd|||(Zfz Zbb rfl T.n_list Jcf ((pv 2)<&>Zab)))<*>((Zcl (Zr1 Zlw (Za6<|>(pv 2)<||>(pv 1))) (Zl8 (pv 3) (pv 1) Zei))<*>((Zcy Ja7 rfl (Za1 (Zbk (pv 0) rfl)) (@Zb8 _ _ _ _ _ 2 rfl ((4>>>nd)^^^((5>>>nd)^^^(@Za2 _))) ⇑1 ⇑1) (@Zam _ _ _ (@Za7 _ _ _ _ _ _ _ _ (Za5 Zc5 (pv 4) (pv 1) (Zao _)) (@Zam _ _ _ (Zru (pv 3) (pv 1) Zo6 (Za6<|>(pv 2)<||>(pv 5)) Ztc Zei)) (@Zam _ _ _ (@Za7 _ _ _ _ _ _ _ _ (Za5 Zc5 (pv 5) (pv 1) (Zao _)) (@Zam _ _ _ (Zru (pv 3) (pv 1) Zo6 (Za6<|>(pv 2)<||>(pv 4)) Ztc Zei)) Zan)))))<*>(~~~(pv 3))))),?_⟩;walk_at "wp";have hk:k.toNat<ns.length:=∅
  refine⟨_,.inl (SqL.of hr1),λl hl0=>⟨_,SqL.of (Same.new hl0 _ _ hr1),_,Zck k0 (Zd8 hk),_,rfl,_,Zaa,_,Zs9 k0 (by rw[Jab];exact hk),?_⟩⟩;rw[Zis];have s0:Same H (upd (upd H l (.lst (ns.map V.int))) l (.lst ((ns.set k.toNat (-atZ ns k)).map V.int))):=(Same.new hl0).upd hl0;refine⟨_,rfl,p,C,dx,_,_,rfl,s0 _ _ hp,T.cl_Drawing,T.nA,Zay _ _,lp,rfl,⟨_,SqL.of (s0 _ _ hlp)⟩,Zd0 (xs:=xs) (λi σ H2=>∃ (v4 v5:Option V),σ=[some (.ref p),some (.int k),some (.ref r),some (.ref l),v4,v5]/\Same H H2 /\
   H2 l=some (.lst ((ns.set k.toNat (Zql ns k (ps.take i)-atZ ns k)).map V.int))) ⟨none,none,rfl,s0,?_⟩ (λi σ H2 _ ⟨_,_,_,s2,_⟩=>SqL.of (s2 _ _ hlp)) ?_ ?_⟩
  .rw [Zaa];simp[Zql,mirS]
  .intro i x σ H2 hi e91;refine Za3 e91 λv4 v5 e97 s2 hl2=>?_;clear e91;obtain rfl:=e97;have hi1:i<xs.length:=(Jah.mp hi).1;have hq:ps[i]?=some (ps[i]'(by omega)):=Jaa _;refine Zah (hps.2 i x _ hi hq) λt e98 ht=>?_;obtain rfl:=e98;refine Zbx (hin _ (Jai hq)) λp0 p1 p2 p3=>?_;refine Zav t _ ⟨rfl,SqT.of (s2 _ _ ht),rfl,_,_,rfl,_,_,rfl,rfl,?_⟩;walk_at "wp";have t0:(ps[i]'(by omega)).1.toNat<ns.length:=∅
   have t1:(ps[i]'(by omega)).2.toNat<ns.length:=∅
   have e1:ps.take (i+1)=ps.take i++[ps[i]'(by omega)]:=by rw[Jbb,hq];rfl
   have hk2:k.toNat<(ns.set k.toNat (Zql ns k (ps.take i)-atZ ns k)).length:=by rw[List.length_set];exact hk
   rw[e1,Zsy];generalize (ps[i]'(by omega))=pq at *;refine Zc6 (λhc=>?_) (λhc=>Zc6 (λhc2=>?_) (λhc2=>?_))
   .have hc:=Jaq hc;refine⟨k0,_,SqL.of hl2,_,Zd8 hk2,_,SqL.of (s2 _ _ hr1),_,Zck p2 (Zd8 t1),_,rfl,_,rfl,_,hl2,_,Zs9 k0 (by rw[Jab];exact hk2),_,_,⟨rfl,rfl⟩,s2.upd hl0,?_⟩;rw[Zaa,Zis,List.set_set,Zuc hk k0 k0,if_pos rfl,if_pos hc,(show Zql ns k (ps.take i)-atZ ns k+atZ ns pq.2=Zql ns k (ps.take i)+atZ ns pq.2-atZ ns k by omega)]
   .have hc:¬ pq.1=k:=λz=>hc (Jag z);have hc2:=Jaq hc2;refine⟨k0,_,SqL.of hl2,_,Zd8 hk2,_,SqL.of (s2 _ _ hr1),_,Zck p0 (Zd8 t0),_,rfl,_,rfl,_,hl2,_,Zs9 k0 (by rw[Jab];exact hk2),_,_,⟨rfl,rfl⟩,s2.upd hl0,?_⟩;rw[Zaa,Zis,List.set_set,Zuc hk k0 k0,if_pos rfl,if_neg hc,if_pos hc2,(show Zql ns k (ps.take i)-atZ ns k+atZ ns pq.1=Zql ns k (ps.take i)+atZ ns pq.1-atZ ns k by omega)]
   .have hc:¬ pq.1=k:=λz=>hc (Jag z);have hc2:¬ pq.2=k:=λz=>hc2 (Jag z);refine Zav _ _ ⟨⟨rfl,rfl⟩,s2,?_⟩;rw[hl2,if_neg hc,if_neg hc2,Je3]
  .intro σ H2 e92;refine Za3 e92 λv4 v5 e99 s2 hl2=>?_;clear e92;obtain rfl:=e99;rw[hlen,Jbk] at hl2;exact⟨_,rfl,q l H2 s2 hl0 hl2⟩
structure Bare (n:Nat)(ps B:List (Int×Int)):Prop where
 sub:B.Sublist ps
 bad:Zqh n B
 mn:∀ a∈B,L3.PosN (Zbi n) (B.erase a)
structure Bre (n:Nat)(ps B:List (Int×Int))(i:Nat):Prop where
 sub:B.Sublist ps
 bad:Zqh n B
 lo:∀ a,(ps.drop i).count a<=B.count a
 mn:∀ a,(ps.drop i).count a<B.count a->L3.PosN (Zbi n) (B.erase a)
theorem InP.sub {m:Int}{ps B:List (Int×Int)}(h:InP m ps)(s:B.Sublist ps):InP m B:=λq hq=>h q (s.subset hq)
theorem Bre.mem {n i:Nat}{ps B:List (Int×Int)}{q:Int×Int}(h:Bre n ps B i)(e:ps[i]?=some q):q∈B:=by
 have hi:=(Jah.mp e).1;have ed:ps.drop i=q::ps.drop (i+1):=by
  rw[Jdn hi];congr 1;rw[Jaa hi] at e;exact Jbo e
 have:=h.lo q;rw[ed,Jem] at this;exact Jco.mp ∅
theorem Zxv {i:Nat}{ps:List (Int×Int)}{q:Int×Int}(e:ps[i]?=some q):ps.drop i=q::ps.drop (i+1):=by
 have hi:=(Jah.mp e).1;rw[Jdn hi];congr 1;rw[Jaa hi] at e;exact Jbo e
theorem Bre.less {n i:Nat}{ps B:List (Int×Int)}{q:Int×Int}(h:Bre n ps B i)(hin:InP (n:Nat) ps)(e:ps[i]?=some q)(bad:Zqh n (B.erase q)):Bre n ps (B.erase q) (i+1):=by
 have ed:=Zxv e;have iB:=ins_pts (hin.sub h.sub);refine⟨Je8.trans h.sub,bad,λa=>?_,λa ha=>?_⟩
 .have:=h.lo a;rw[ed] at this;by_cases z:q=a
  .subst z;rw[Jem] at this;rw[List.count_erase_self];omega
  .rw [Jek z] at this;rw[List.count_erase_of_ne (λy=>z y.symm)];exact this
 .have hlt:(ps.drop i).count a<B.count a:=by
   rw[ed];by_cases z:q=a
   .subst z;rw[List.count_erase_self] at ha;rw[Jem];omega
   .rw [List.count_erase_of_ne (λy=>z y.symm)] at ha;rw[Jek z];exact ha
  rw[List.erase_comm];exact (h.mn a hlt).sub (λe' he=>iB e' (List.mem_of_mem_erase he)) Je8
theorem Bre.keep {n i:Nat}{ps B:List (Int×Int)}{q:Int×Int}(h:Bre n ps B i)(e:ps[i]?=some q)(good:L3.PosN (Zbi n) (B.erase q)):Bre n ps B (i+1):=by
 have ed:=Zxv e;refine⟨h.sub,h.bad,λa=>?_,λa ha=>?_⟩
 .have:=h.lo a;rw[ed,Jdf] at this;omega
 .by_cases z:a=q
  .rw [z];exact good
  .refine h.mn a ?_;rw[ed,Jek (λy=>z y.symm)];exact ha
theorem Bre.fin {n:Nat}{ps B:List (Int×Int)}(h:Bre n ps B ps.length):Bare n ps B:=⟨h.sub,h.bad,λa ha=>h.mn a (by rw[List.drop_length];exact Jco.mpr ha)⟩
theorem Bre.start {n:Nat}{ps:List (Int×Int)}(h:Zqh n ps):Bre n ps ps 0:=⟨Jfj _,h,λa=>by rw[Jee];exact Jaf _,λa ha=>by rw[Jee] at ha;omega⟩
theorem Zr6 {H:Hp}{t t':Addr}{p q:Int×Int}(h1:H t'=some (.tup [.int p.1,.int p.2]))(h2:H t=some (.tup [.int q.1,.int q.2])):EqD K H 4 (.ref t') (.ref t) (decide (p=q)):=by
 by_cases e:t'=t
 .subst e;rw[h1] at h2;simp only[Jea,HO.tup.injEq,Jch,V.int.injEq,and_true] at h2;rw[Jag (Prod.ext h2.1 h2.2)];exact .same
 .have:EqD K H 4 (.ref t') (.ref t) ([decide (p.1=q.1),decide (p.2=q.2)].all id):=.tuple e (SqT.of h1) (SqT.of h2) rfl rfl λj x y b e1 e2 e3=>by
   match j,e1,e2,e3 with
   | 0,e1,e2,e3=>cases e1;cases e2;cases e3;exact Znr
   | 1,e1,e2,e3=>cases e1;cases e2;cases e3;exact Znr
   | j+2,e1,_,_=>cases e1
  rw[show ([decide (p.1=q.1),decide (p.2=q.2)].all id)=decide (p=q) by rw[Jbw];simp[Prod.ext_iff]] at this;exact this
theorem Ztg {B:List (Int×Int)}{q:Int×Int}{m:Nat}(hm:m<=B.idxOf q)(hl:m<B.length):decide (B[m]=q)=decide (m=B.idxOf q):=by
 rw[Jdr];constructor
 .intro e;by_cases z:m<B.idxOf q
  .have:=List.not_of_lt_findIdx (p:=(· == q)) (xs:=B) (i:=m) z;simp[e] at this
  .exact oz28 hm z
 .rintro e;have:=List.getElem_idxOf (x:=q) (xs:=B) ∅;simp only[e];exact this
theorem Prs.del {H:Hp}{ys:List V}{B:List (Int×Int)}(h:Prs H ys B)(j:Nat):Prs H (ys.eraseIdx j) (B.eraseIdx j):=by
 obtain⟨hl,h⟩:=h;refine⟨by rw[Jen,Jen,hl],λi x q e1 e2=>?_⟩;rw[List.getElem?_eraseIdx] at e1 e2;by_cases z:i<j
 .rw [if_pos z] at e1 e2;exact h i x q e1 e2
 .rw [if_neg z] at e1 e2;exact h _ x q e1 e2
theorem Zji {H:Hp}{x dx a:Addr}{ys:List V}{B:List (Int×Int)}{n:Nat}{Q:VK}{E:XK}(hx:H x=none)(hdx:H dx=none)(ndx:dx≠x)(ha:H a=some (.lst ys))(l9:ys.length<=9)(pr:Prs H ys B)(iB:InP (n:Nat) B)(n0:1<=n)(n8:n<=8)(h:∀ H',Same H H'->Drw C H' x (n:Nat) B->Q .non H'):Zio C [.ref x,.int (n:Nat),.ref a] (upd (upd H dx (.own x)) x (.ins C dx [])) Q E:=by
 have fx1:(upd H dx (.own x)) x=none:=by rw[Zag ndx.symm];exact hx
 have s1:Same H (upd (upd H dx (.own x)) x (.ins C dx [])):=(Same.new hdx).trans (Same.new fx1);refine Zd1 x dx _ a ys ⟨rfl,Zaa,oz83 n0,Zr7 n8,s1 _ _ ha,l9,Zpa (pr.same s1) iB,λlp H8 ex8 hx8 flp hlp8=>?_⟩;have s8:Same H H8:=Same.thru s1 hx ex8;exact h H8 s8 ⟨lp,ys,⟨dx,hx8,hlp8⟩,l9,pr.same s8⟩
def Zoh (C:Addr):Sp:=λvs H Q _=>∃ (x:Addr) (n:Nat) (ps:List (Int×Int)),vs=[.ref x]/\Drw C H x (n:Nat) ps/\InP (n:Nat) ps/\1<=n/\n<=8/\Zqh n ps /\
 ∀ (y:Addr) (B:List (Int×Int)) (H':Hp),Same H H'->Drw C H' y (n:Nat) B->Bare n ps B->Q (.ref y) H'
theorem ok_bare (F:Fun K "barely_not_good" "barely_not_good" Zco f fd)(T:Txt K mg C G S)(Yae:Cal P w K mg base "is_good" 5 (Zjw C))(Yab:CalI P w K mg base "Drawing" C 4 (Zio C)):FnOk P w K mg base CX0 6 f fd ["drawing"] (Zoh C):=by
 have nd:=Zdw.nd;refine F.ok Zdw (λvs H Q E h=>?_) (λcdv A outer s H vs Q E hr h=>?_)
 .refine Zfa h λx n ps e93 _=>?_;clear h;obtain rfl:=e93;rfl
 .refine Zb3 h λx n ps e94 dw hin e95=>?_;clear h;obtain rfl:=e94;refine Zbx e95 λn0 n8 bd q=>?_;clear e95;refine⟨_,((1|||nd|||(Zfz Zbb rfl T.n_list Jcf ((Zby (pvr 0) rfl)<&>Zab)))<*>((Zcy Ja7 rfl (Za1 (Zbk (pv 0) rfl)) (2>>>nd) ((3|||nd|||(Zfz Zbb rfl T.n_list Jcf ((pvr 1)<&>Zab)))<*>((Zcf (Zfp Jay PySem.F.slot_list_remove PySem.F.type_list_remove (Zxl (Zl7 hr)) (pvr 3) ((pvr 2)<&>Zab)))<*>(@Zam _ _ _ (@Za7 _ _ _ _ _ _ _ _ (Zbq (Zbn (Yae<$>hr<$>((Zqk Yab hr.m rfl ((Zby (pvr 0) rfl)<&>((pvr 3)<&>Zab)))<&>Zab)))) (@Zam _ _ _ (1|||nd|||(pvr 3))) Zan)))))<*>(~~~(Zqk Yab hr.m rfl ((Zby (pvr 0) rfl)<&>((pvr 1)<&>Zab)))))),?_⟩;refine Za3 (id dw) λlp xs e96 hl9 hps=>?_;obtain⟨dx,hx,hlp⟩:=e96;refine Zcw λX hX=>?_;walk_at "wp";refine Za9 _ _ _ ⟨hx,T.cl_Drawing,T.nA,_,Zay _ _,?_⟩;refine⟨lp,rfl,xs,.inl (SqL.of hlp),λk hk=>?_⟩;have s1:Same H (upd H k (.lst xs)):=Same.new hk;have hlen:=hps.1;subst hX;refine Zcw λX hX=>?_;refine⟨_,rfl,x,C,dx,_,_,rfl,s1 _ _ hx,T.cl_Drawing,T.nA,Zay _ _,lp,rfl,⟨_,SqL.of (s1 _ _ hlp)⟩,Zd0 (xs:=xs) (λi σ Hi=>∃ (k:Addr) (ys:List V) (B:List (Int×Int)) (v2 v3:Option V),σ=[some (.ref x),some (.ref k),v2,v3]/\Same H Hi/\Hi k=some (.lst ys)/\Prs Hi ys B/\ys.length<=9/\Bre n ps B i)
   ⟨k,xs,ps,none,none,rfl,s1,Zaa,hps.same s1,hl9,Bre.start bd⟩ (λi σ Hi _ ⟨_,_,_,_,_,_,sh,_⟩=>SqL.of (sh _ _ hlp)) ?_ ?_⟩
  .intro i z σ Hi hzi e91;refine Zcx e91 λk ys B v2 v3 e97 si hki e98=>?_;clear e91;obtain rfl:=e97;refine Zar e98 λpr l9 br=>?_;clear e98;have hi:i<xs.length:=(Jah.mp hzi).1;have hq:ps[i]?=some (ps[i]'(oz6 hlen hi)):=Jaa _;refine Zah (hps.2 i z _ hzi hq) λt e99 ht=>?_;obtain rfl:=e99;have hin1:=hin _ (Jai hq);generalize ps[i]'(oz6 hlen hi)=q' at *;simp only[Zbd,List.set_cons_zero,List.set_cons_succ];refine Zcw λX1 hX1=>?_;walk_at "wp";refine⟨ys,.inl (SqL.of hki),λfw hfw=>?_⟩;subst hX1;refine Zcw λX1 hX1=>?_;walk_at "wp";have u1:Same Hi (upd Hi fw (.lst ys)):=Same.new hfw;have hqB:=br.mem hq;have hj:=List.idxOf_lt_length_of_mem hqB;have yl:=pr.1;refine⟨.inl ⟨rfl,_,SqL.of Zaa⟩,ys,Zaa,B.idxOf q',oz168 hj yl,λm v hm hv=>?_,?_⟩
   .have hml:m<B.length:=∅
    refine Zah (pr.2 m v _ hv (Jaa hml)) λt' e910 ht'=>?_;obtain rfl:=e910;rw[<- Ztg hm hml];exact Zr6 (u1 _ _ ht') (u1 _ _ (si _ _ ht))
   have u2:Same Hi (upd (upd Hi fw (.lst ys)) fw (.lst (ys.eraseIdx (B.idxOf q')))):=u1.upd hfw;have hfw2:upd (upd Hi fw (.lst ys)) fw (.lst (ys.eraseIdx (B.idxOf q'))) fw=some (.lst (ys.eraseIdx (B.idxOf q'))):=Zaa;have pr2:Prs Hi (ys.eraseIdx (B.idxOf q')) (B.erase q'):=by rw[List.erase_eq_eraseIdx_of_idxOf rfl];exact pr.del _
   have l92:(ys.eraseIdx (B.idxOf q')).length<=9:=by rw[Jen];split <;> omega
   generalize upd (upd Hi fw (.lst ys)) fw (.lst (ys.eraseIdx (B.idxOf q')))=H2 at *;generalize ys.eraseIdx (B.idxOf q')=ys2 at *;have sB:(B.erase q').Sublist ps:=Je8.trans br.sub;have iB:=hin.sub sB;have s2:=si.trans u2;subst hX1;walk_at "wp";refine Za9 C dx _ ⟨s2 _ _ hx,T.cl_Drawing,T.nM,_,rfl,λx' dx' hx' hdx' ndx'=>Zji hx' hdx' ndx' hfw2 l92 (pr2.same u2) iB n0 n8 λH3 s3 D3=>⟨rfl,x',n,_,rfl,D3,iB,n0,n8,λg H4 s4=>⟨true,rfl,Zgd ⇑0 ?_⟩,λg H4 s4=>⟨false,rfl,Zlq rfl ?_⟩⟩⟩
   .have u4:=(u2.trans s3).trans s4;exact Zd1 k ys B _ _ ⟨⟨rfl,rfl,rfl⟩,si.trans u4,u4 _ _ hki,pr.same u4,l9,br.keep hq (DPos.nn (Zo3 iB n8 g))⟩
   .have u4:=(u2.trans s3).trans s4;exact Zd1 fw ys2 (B.erase q') _ _ ⟨⟨rfl,rfl,rfl⟩,si.trans u4,(s3.trans s4) _ _ hfw2,pr2.same u4,l92,br.less hin hq g⟩
  .intro σ Hi e92;refine Zcx e92 λk ys B v2 v3 e911 si hki e912=>?_;clear e92;obtain rfl:=e911;refine Zar e912 λpr l9 br=>?_;clear e912;subst hX;walk_at "wp";rw[hlen] at br;exact Za9 C dx _ ⟨si _ _ hx,T.cl_Drawing,T.nM,_,rfl,λx' dx' hx' hdx' ndx'=>Zji hx' hdx' ndx' hki l9 pr (hin.sub br.sub) n0 n8 λH3 s3 D3=>⟨rfl,q x' B H3 (si.trans s3) D3 br.fin⟩⟩
def Zrc:Sp:=λvs H Q _=>∃ (l:Addr) (m:Int),vs=[.ref l,.int m]/\Bag H l/\0<=m/\m<=8 /\
 ∀ (p:Addr) (ys:List Int) (H':Hp),Ext l H H'->Bag H' l->H p=none->H' p=some (.lst (ys.map V.int))->(ys.length:Int)=m->InR m ys->ys.Nodup->Q (.ref p) H'
theorem ok_ordN (F:Fun K "_law_order" "_law_order" Zgj f fd)(T:Txt K mg C G S)(Yaa:Cal P w K mg base "_law_draw" 1 Zf0):FnOk P w K mg base CX0 2 f fd ["_law_bag_here","_law_many"] Zrc:=by
 have nd:=Zh3.nd;refine F.ok Zh3 (λvs H Q E h=>?_) (λcdv A outer s H vs Q E hr h=>?_)
 .refine Zbg h λl m e92 _=>?_;clear h;obtain rfl:=e92;rfl
 .refine Zju h λl m e93 hb m0 m8 q=>?_;clear h;obtain rfl:=e93;refine⟨_,((2|||nd|||(Zfz (Zha rfl) rfl T.n_list Jcf ((Zfz Zmr rfl T.n_range boot_range ((pvr 1)<&>Zab))<&>Zab)))<*>((3|||nd|||(@Zbj _ _ _ _ Zab))<*>((Zdx Ja7 (Za5 Zg4 (Za4 Zak rfl T.n_len Ja6 ((pv 2)<&>Zab)) Zac (Zao _)) ((4|||nd|||(Yaa<$>hr<$>((pvr 0)<&>((Za4 Zak rfl T.n_len Ja6 ((pvr 2)<&>Zab))<&>Zab))))<*>((Zcf (Zfp Jay Jb1 Jb2 (mtJ Zb5) (pvr 3) ((Za6<|>(pvr 2)<||>(pvr 4))<&>Zab)))<*>(@Zam _ _ _ (2|||nd|||(Zgb<|>(@Zcg _ _ _ _ _ _ _ _ _ _ Zdg (pvr 2) Zet (@Zcq _ _ _ (pvr 4)))<&&>(@Zcg _ _ _ _ _ _ _ _ _ _ Zdg (pvr 2) (@Zcq _ _ _ (Zbo<|>(pvr 4)<&&>Zac)) Zet)))))))<*>(~~~(pvr 3))))),?_⟩;walk_at "wp";intro p hp;refine Zav _ _ ⟨Zaa,⟨⇑0,⇑0,oz234 m0,∅⟩,oz111 m8,λl1 hl1=>⟨⇑0,λp1 hp1=>?_⟩⟩;have hpl:=hb.ne hp;have b1:Bag (upd H p (.rng 0 m)) l:=hb.new hpl;have hll:=b1.ne hl1;have b2:Bag (upd (upd H p (.rng 0 m)) l1 (.lst (Zuh 0 m))) l:=b1.new hll;have hl1p:p1≠l1:=(Zaf Zaa hp1).symm;have hHp1:H p1=none:=((Same.new hp).trans (Same.new hl1)).free hp1;rw[Zrs] at *;refine⟨λk σ H2=>∃ (pl:Addr) (ls rs:List Int) (v:Option V),σ=[some (.ref l),some (.int m),some (.ref pl),some (.ref p1),v]/\k=ls.length/\Ext l H H2/\Bag H2 l /\
   H2 pl=some (.lst (ls.map V.int))/\H2 p1=some (.lst (rs.map V.int))/\pl≠p1/\pl≠l/\((ls.length:Int)+rs.length=m)/\InR m ls/\InR m rs/\(ls++rs).Nodup,?_,?_⟩
  .refine Zd1 _ l1 ((List.range (m-0).toNat).map λ(i:Nat)=>(0:Int)+(i:Int)) [] none ⟨rfl,rfl,?_,b2.new (b2.ne hp1),?_,Zaa,hl1p.symm,hll,?_,?_,(λ_ h=>nomatch h),?_⟩
   .exact ((Ext.new hp).trans (Ext.new hl1)).trans (Ext.new hp1)
   .rw [Zag hl1p.symm,Zaa]
   .rw [Jab,Jb6];simp;exact oz74 m0
   .intro y hy;refine Zah (Jan.mp hy) λi hi e94=>?_;obtain rfl:=e94;have:=Jbz.mp hi;exact oz107 this
   .rw [Jd0];exact Jfi.mpr (List.nodup_range.imp λne e=>ne ∅)
  .intro k σ H2 e91;refine Zdt e91 λpl ls rs v e95 e96 ex e97=>?_;clear e91;obtain rfl:=e95;obtain rfl:=e96;refine xE0_9 e97 λhb2 hpl2 hp12 n1 n2 hlen il ir nn=>?_;clear e97;walk_at "wp";refine⟨_,.inl (SqL.of hpl2),Zc6 (λhc=>?_) (λhc=>?_)⟩
   .refine ⟨_,λ_ _ h=>h,?_⟩;have hc:=Jaq hc;rw[Jab] at hc;walk_at "wp";refine⟨_,.inl (SqL.of hpl2),?_⟩;refine Za3 hb2 λa b hla b0 b1'=>?_;clear hb2;rw[Jab];refine Zkk l a b _ ⟨rfl,hla,b0,b1',hc,oz243 m8 hlen,λr a' b' r0 r1 c0 c1=>?_⟩;have hr1:r.toNat<ls.length:=by exact oz119 hc r1
    have hp1l:p1≠l:=hb.ne hHp1;have h3pl:(upd H2 l (Zn7 a' b')) pl=some (.lst (ls.map V.int)):=by rw[Zag n2];exact hpl2
    have h3p1:(upd H2 l (Zn7 a' b')) p1=some (.lst (rs.map V.int)):=by rw[Zag hp1l];exact hp12
    have e1:Ext l H (upd H2 l (Zn7 a' b')):=ex.trans Ext.set;have B1:Bag (upd H2 l (Zn7 a' b')) l:=Bag.set c0 c1;refine⟨.inl ⟨rfl,_,SqL.of h3p1⟩,_,r,rfl,SqL.of h3pl,V.int (ls[r.toNat]),Zck r0 (by rw[Jau,Jaa hr1];rfl),_,h3p1,Zaj (by rw[Jab];exact oz189 m8 hlen),r,rfl,_,
     SqL.of (by rw[Zag n1];exact h3pl),λp2 hp2=>⟨r,rfl,ls.map V.int,SqL.of ?g1,λp3 hp3=>⟨Zhw (ls.map V.int) none (some r),?g2,_,Zaa,?g3,λp4 hp4=>?g4⟩⟩⟩
    case g1=>
     have:pl≠p2:=Zaf (by rw[Zag n1];exact h3pl) hp2;rw[Zag this,Zag n1];exact h3pl
    case g2=>rw[Zag (Zaf Zaa hp3)];exact Zaa
    case g3=>
     have h1:=Zds (ls.map V.int) none (some r);have h2:=Zds (ls.map V.int) (some (r+1)) none;rw[Jab] at h1 h2;exact Jbl (Zaj (oz116 m8 hlen h1 h2))
    case g4=>
     have e2:=e1.upd (o:=.lst (rs.map V.int++[V.int ls[r.toNat]])) hHp1;have B2:Bag (upd (upd H2 l (Zn7 a' b')) p1 (.lst (rs.map V.int++[V.int ls[r.toNat]]))) l:=B1.new hp1l;have e3:=e2.trans (Ext.new (o:=.lst (Zhw (ls.map V.int) none (some r))) hp2);have B3:=B2.new (o:=.lst (Zhw (ls.map V.int) none (some r))) (B2.ne hp2);have e4:=e3.trans (Ext.new (o:=.lst (Zhw (ls.map V.int) (some (r+1)) none)) hp3);have B4:=B3.new (o:=.lst (Zhw (ls.map V.int) (some (r+1)) none)) (B3.ne hp3);have n21:p2≠p1:=(Zaf Zaa hp2).symm;have q2:(upd (upd (upd H2 l (Zn7 a' b')) p1 (.lst (rs.map V.int++[V.int ls[r.toNat]]))) p2 (.lst (Zhw (ls.map V.int) none (some r)))) p1=some (.lst (rs.map V.int++[V.int ls[r.toNat]])):=by
      rw[Zag n21.symm];exact Zaa
     have n31:p1≠p3:=Zaf q2 hp3;have q3:(upd (upd (upd (upd H2 l (Zn7 a' b')) p1 (.lst (rs.map V.int++[V.int ls[r.toNat]]))) p2 (.lst (Zhw (ls.map V.int) none (some r)))) p3 (.lst (Zhw (ls.map V.int) (some (r+1)) none))) p1=some (.lst (rs.map V.int++[V.int ls[r.toNat]])):=by
      rw[Zag n31];exact q2
     have n41:p1≠p4:=Zaf q3 hp4;refine⟨(ls.take r.toNat++ls.drop (r.toNat+1)).length,by rw[Jak,Ja0,Jc9];exact oz16 hr1,p4,ls.take r.toNat++ls.drop (r.toNat+1),rs++[ls[r.toNat]],_,⟨rfl,rfl⟩,rfl,e4.trans (Ext.new hp4),B4.new (B4.ne hp4),?_,?_,n41.symm,B4.ne hp4,?_,?_,?_,?_⟩
     .rw [Zaa,Ztu _ _ r0 (by rw[Jab];exact oz89 r1),Ztv _ _ (oz91 r0) (by rw[Jab];exact oz71 r1),Jaw,List.map_take,List.map_drop,show (r+1).toNat=r.toNat+1 by exact oz2 r0]
     .rw [Zag n41,q3,Jaw];rfl
     .rw [Jak,Jak,Ja0,Jc9];simp;exact oz19 hlen hr1
     .intro y hy;rcases Jbp.mp hy with h|h
      .exact il y (List.mem_of_mem_take h)
      .exact il y (List.mem_of_mem_drop h)
     .intro y hy;rcases Jbp.mp hy with h|h
      .exact ir y h
      .rw [Jam.mp h];exact il _ (Jbr hr1)
     .refine (List.Perm.nodup_iff ?_).mp nn;have e:ls=ls.take r.toNat++ls[r.toNat]::ls.drop (r.toNat+1):=by rw[List.getElem_cons_drop,Jej]
      have p1:ls.Perm (ls[r.toNat]::(ls.take r.toNat++ls.drop (r.toNat+1))):=by
       have:=List.perm_middle (a:=ls[r.toNat]) (l₁:=ls.take r.toNat) (l₂:=ls.drop (r.toNat+1));rwa [<- e] at this
      refine (p1.append_right rs).trans ?_;rw[List.cons_append,<- Jd4];exact (List.perm_append_singleton _ _).symm
   .have hc:¬ (0:Int)<((ls.map V.int).length:Nat):=λz=>hc (Jag z);rw[Jab] at hc;have e0:ls=[]:=List.length_eq_zero_iff.mp ∅;subst e0;exact q p1 rs H2 ex hb2 hHp1 hp12 (oz142 hlen hc) ir nn
inductive PK (H:Hp):List V->List (Int×Int)->Prop
 | nil:PK H [] []
 | cons {t:Addr} {q:Int×Int} {ws:List V} {qs:List (Int×Int)}:H t=some (.tup [.int q.1,.int q.2])->PK H ws qs->PK H (.ref t::ws) (q::qs)
section
variable {H H':Hp}{ws ws2:List V}{qs qs2:List (Int×Int)}
theorem PK.len (h:PK H ws qs):ws.length=qs.length:=by
 induction h with
 | nil=>rfl
 | cons _ _ ih=>rw[Jbq,Jbq,ih]
theorem PK.keep (h:PK H ws qs)(s:∀ t vs,H t=some (.tup vs)->H' t=some (.tup vs)):PK H' ws qs:=by
 induction h with
 | nil=>exact .nil
 | cons a _ ih=>exact .cons (s _ _ a) ih
theorem PK.same (h:PK H ws qs)(s:Same H H'):PK H' ws qs:=h.keep λt vs e=>s _ _ e
theorem PK.put (h:PK H ws qs){D:Addr}{l:List V}{o:HO}(hD:H D=some (.lst l)):PK (upd H D o) ws qs:=h.keep λt vs e=>by rw[Zag (Zcz e hD λz=>by cases z)];exact e
theorem PK.bag (h:PK H ws qs){l:Addr}(b:Bag H l)(e:Ext l H H'):PK H' ws qs:=by
 obtain⟨ys,hl⟩:=b.lst;exact h.keep λt vs q=>e _ _ (Zcz q hl λz=>by cases z) q
theorem PK.app (h:PK H ws qs)(h2:PK H ws2 qs2):PK H (ws++ws2) (qs++qs2):=by
 induction h with
 | nil=>exact h2
 | cons a _ ih=>exact .cons a ih
theorem PK.snoc {t:Addr}{i j:Int}(h:PK H ws qs)(ht:H t=none):PK (upd H t (.tup [.int i,.int j])) (ws++[.ref t]) (qs++[(i,j)]):=
 (h.same (Same.new ht)).app (.cons Zaa .nil)
theorem PK.at_ {k:Nat}(h:PK H ws qs)(hk:k<ws.length):∃ t q,ws[k]?=some (.ref t)/\qs[k]?=some q/\H t=some (.tup [.int q.1,.int q.2]):=by
 induction h generalizing k with
 | nil=>cases hk
 | cons a _ ih=>
  cases k with
  | zero=>exact⟨_,_,rfl,rfl,a⟩
  | succ k=>
   refine Za3 (ih (Nat.lt_of_succ_lt_succ hk)) λt q e1 e2 e3=>?_;exact Zav t q ⟨e1,e2,e3⟩
theorem PK.take (h:PK H ws qs)(k:Nat):PK H (ws.take k) (qs.take k):=by
 induction h generalizing k with
 | nil=>rw[List.take_nil,List.take_nil];exact .nil
 | cons a _ ih=>
  cases k with
  | zero=>exact .nil
  | succ k=>exact .cons a (ih k)
theorem PK.drop (h:PK H ws qs)(k:Nat):PK H (ws.drop k) (qs.drop k):=by
 induction h generalizing k with
 | nil=>rw[List.drop_nil,List.drop_nil];exact .nil
 | cons a h ih=>
  cases k with
  | zero=>exact .cons a h
  | succ k=>exact ih k
theorem PK.prs (h:PK H ws qs):Prs H ws qs:=by
 refine⟨h.len,λi x q h1 h2=>?_⟩;refine Za3 (h.at_ (k:=i) (Jah.mp h1).1) λt q' e1 e2 e3=>?_;rw[e1] at h1;rw[e2] at h2;cases h1;cases h2;exact⟨t,rfl,e3⟩
end
structure OutD (l:Addr)(H:Hp)(p e:Addr)(n:Nat)(xs:List V)(ps:List (Int×Int))(H':Hp):Prop where
 ext:Ext l H H'
 bag:Bag H' l
 tup:H' p=some (.tup [.int (n:Nat),.ref e])
 lst:H' e=some (.lst xs)
 new:H e=none
 lo:1<=n
 hi:n<=8
 pk:PK H' xs ps
 len:ps.length<=9
 ip:InP (n:Nat) ps
 dp:L3.DPos (Zbi n) ps
def Zgu (k0 k1:Int):Sp:=λvs H Q _=>∃ (l:Addr) (k:Int),vs=[.ref l,.int k]/\k0<=k/\k<=k1/\Bag H l/\∀ p e n xs ps H',OutD l H p e n xs ps H'->Q (.ref p) H'
theorem OutD.fin {l p t:Addr}{m:Int}{n:Nat}{xs:List V}{ps:List (Int×Int)}{H H2:Hp}(em:m=n)(ex:Ext l H H2)(b:Bag H2 l)(hp:H2 p=some (.lst xs))(new:H p=none)(lo:1<=n)(hi:n<=8)(pk:PK H2 xs ps)(len:ps.length<=9)(ip:InP (n:Nat) ps)(dp:L3.DPos (Zbi n) ps)(ht:H2 t=none):
  OutD l H t p n xs ps (upd H2 t (.tup [.int m,.ref p])):=
 ⟨ex.trans (Ext.new ht),b.new (b.ne ht),by rw[Zaa,em],by rw[Zag (Zaf hp ht)];exact hp,new,lo,hi,pk.same (Same.new ht),len,ip,dp⟩
theorem OutD.done {l p t:Addr}{m:Int}{n:Nat}{xs:List V}{ps:List (Int×Int)}{H H2 H5:Hp}(em:m=n)(ex:Ext l H H2)(b:Bag H2 l)(s:Same H2 H5)(hp:H5 p=none)(lo:1<=n)(hi:n<=8)(pk:PK H5 xs ps)(len:ps.length<=9)(ip:InP (n:Nat) ps)(dp:L3.DPos (Zbi n) ps)(ht:(upd H5 p (.lst xs)) t=none):
  OutD l H t p n xs ps (upd (upd H5 p (.lst xs)) t (.tup [.int m,.ref p])):=
 have b5:=b.same s;have e5:Ext l H H5:=ex.trans s.ext
 OutD.fin em (e5.trans (Ext.new hp)) (b5.new (b5.ne hp)) Zaa (e5.free (b5.ne hp) hp) lo hi (pk.same (Same.new hp)) len ip dp ht
theorem aE_at {i:Nat}(h:i<7):L3.aE[i]?=some ((i:Int),(i:Int)+1):=by
 have:i=0\/i=1\/i=2\/i=3\/i=4\/i=5\/i=6:=by exact oz36 h
 rcases this with rfl|rfl|rfl|rfl|rfl|rfl|rfl <;> rfl
theorem sub_a {n:Nat}{ps:List (Int×Int)}(h1:1<=n)(h8:n<=8)(s:ps.Sublist (L3.aE.take (n-1))):InP (n:Nat) ps/\L3.DPos (Zbi n) ps/\ps.length<=9:=
 ⟨λq hq=>L3.Zss (L3.okA h1 h8) q (s.subset hq),L3.Zpb s (L3.bsD L3.pos_a h8 (L3.okA h1 h8)),by have:=s.length_le;rw[Ja0] at this;exact oz73 h8 this⟩
theorem Zgq {fr:List (Str×Nat)}{σ:L2.St}{t1 t2:TE}{lo:Int}{n:Nat}{D:Addr}{H1:Hp}{Q:VK}(a b:Nat->Int)(hD:H1 D=none)(hn:n<=9)(h1:∀ i H Q,i<n->Q (.int (a i)) H->t1 (some (.int (lo+(i:Nat)))::Zb0 fr σ) H Q)(h2:∀ i H Q,i<n->Q (.int (b i)) H->t2 (some (.int (lo+(i:Nat)))::Zb0 fr σ) H Q)(hQ:∀ xs H',Same H1 H'->H' D=some (.lst xs)->PK H' xs ((List.range n).map λi=>(a i,b i))->Q (.ref D) H'):
  Zbv (Zbd 0) Zfb (Zw7 (Zgr t1 (Zgr t2 Zqz))) (Itr lo n) D (Ze9 1 fr σ) H1 Q:=by
 refine Zey (λi vs H=>Same H1 H/\H D=some (.lst vs)/\PK H vs ((List.range i).map λi=>(a i,b i))) ⟨Same.new hD,Zaa,.nil⟩ ?_ (λvs H ⟨s,e,d⟩=>hQ vs H s e d);intro i x vs σ' H hi e91;obtain rfl:=e91;intro sh e92;refine Zar e92 λs e d=>?_;clear e92;obtain⟨z,rfl⟩:=sh.one;simp only[Zda,Zbd,Zfb,List.set_cons_zero,Jck,Zw7,Zgr,Zqz];refine h1 i H _ hi (h2 i H _ hi ⟨by show 2<=sizeLine;decide,λp hp=>?_⟩);have nD:D≠p:=Zaf e hp;have e':(upd H p (.tup [.int (a i),.int (b i)])) D=some (.lst vs):=by rw[Zag nD];exact e
 have hl:=d.len;rw[Jab,Jb6] at hl;refine leaf (ws:=vs++[.ref p]) hi Sh.mk1 e' (Zaj (oz186 hn hi hl)) ⟨(s.trans (Same.new hp)).upd hD,Zaa,?_⟩;rw[Jdg,Jaw];exact (d.snoc hp).put e'
theorem Zvu (F:Fun K "_law_rest_edges" "_law_rest_edges" Zc1 f fd)(T:Txt K mg C G S)(Yaa:Cal P w K mg base "_law_draw" 1 Zf0):FnOk P w K mg base CX0 2 f fd ["_law_bag_here","_law_way"] (Zgu 4 4):=by
 have nd:=Zea.nd;refine F.ok Zea (λvs H Q E h=>?_) (λcdv A outer s H vs Q E hr h=>?_)
 .refine Zbg h λl k e95 _=>?_;clear h;obtain rfl:=e95;rfl
 .refine Zju h λl k e96 k0 k1 hb q=>?_;clear h;obtain rfl:=e96;have ek:k=4:=∅
  subst ek;refine⟨_,((2|||nd|||(@Zbj _ _ _ _ Zab))<*>((3|||nd|||(Zbo<|>Zac<&&>(Yaa<$>hr<$>((pv 0)<&>(Zac<&>Zab)))))<*>((@Za7 _ _ _ _ _ _ _ _ (Za5 Zc5 (pv 1) Zac (Zao _)) (@Zam _ _ _ (Zcy Ja7 rfl (Zpv rfl T.n_range (Zac<&>((pv 3)<&>Zab))) (4>>>nd) (@Zam _ _ _ (@Za7 _ _ _ _ _ _ _ _ (Za5 Zg4 (Yaa<$>hr<$>((pv 0)<&>(Zac<&>Zab))) Zac (Zao _)) (@Zam _ _ _ (Zcf (Zfp Jay Jb1 Jb2 Zb5 (pv 2) ((@Zaq _ _ _ _ _ ((Zdy<|>(pv 4)<&&>Zac)<&>((pv 4)<&>Zab)))<&>Zab)))) Zan)))) (@Zam _ _ _ (@Za7 _ _ _ _ _ _ _ _ (Za5 Zc5 (pv 1) Zac (Zao _)) (@Zam _ _ _ (Zcy Ja7 rfl (Zid rfl T.n_range ((Yaa<$>hr<$>((pv 0)<&>(Zac<&>Zab)))<&>Zab)) (4>>>nd) ((5|||nd|||(Yaa<$>hr<$>((pv 0)<&>((pv 3)<&>Zab))))<*>(@Zam _ _ _ (Zcf (Zfp Jay Jb1 Jb2 Zb5 (pv 2) ((@Zaq _ _ _ _ _ ((pv 5)<&>((Yaa<$>hr<$>((pv 0)<&>((pv 3)<&>Zab)))<&>Zab)))<&>Zab))))))) (@Zam _ _ _ (Zcy Ja7 rfl (Zpv rfl T.n_range (Zac<&>((pv 3)<&>Zab))) (4>>>nd) (@Zam _ _ _ (Zcf (Zfp Jay Jb1 Jb2 Zb5 (pv 2) ((@Zaq _ _ _ _ _ ((Yaa<$>hr<$>((pv 0)<&>((pv 4)<&>Zab)))<&>((pv 4)<&>Zab)))<&>Zab)))))))))<*>(~~~(@Zaq _ _ _ _ _ ((pv 3)<&>((pv 2)<&>Zab))))))),?_⟩;walk_at "wp";refine⟨⇑0,λp hp=>?_⟩;have hpl:=hb.ne hp;refine (hb.new hpl).draw ⇑0 ⇑0 λx H2 x0 x1 e2 b2=>⟨x,rfl,?_⟩
  have hp2:H2 p=some (.lst []):=e2 _ _ hpl Zaa;have ex2:Ext l H H2:=(Ext.new hp).trans e2;obtain⟨n,en⟩:∃ n:Nat,1+x=n:=⟨(1+x).toNat,oz92 x0⟩
  refine Zc6 (λ_=>?_) (λz=>(z rfl).elim);refine⟨_,rfl,1,1+x,rfl,⟨⇑0,⇑0,∅,oz152 x1⟩,Zjn (λi σ H3=>∃ (xs:List V) (ps:List (Int×Int)) (v v5:Option V),σ=[some (.ref l),some (.int 4),some (.ref p),some (.int (1+x)),v,v5]/\Ext l H H3/\Bag H3 l/\H3 p=some (.lst xs)/\PK H3 xs ps/\ps.Sublist (L3.aE.take i))
   ⟨[],[],none,none,rfl,ex2,b2,hp2,.nil,Jfj _⟩ ?_ ?_⟩
  .intro i σ H3 hi e93;refine Zdt e93 λxs ps v v5 e97 ex b e98=>?_;clear e93;obtain rfl:=e97;refine Zar e98 λhx d sb=>?_;clear e98;have ls:=sb.length_le;rw[Ja0] at ls;have lx:=d.len;have et:L3.aE.take (i+1)=L3.aE.take i++[((i:Int),(i:Int)+1)]:=by rw[Jbb,aE_at (oz47 x1 hi)];rfl
   walk_at "wp";refine b.draw ⇑0 ⇑0 λr H4 r0 r1 e4 b4=>⟨r,rfl,Zc6 (λ_=>?_) (λ_=>?_)⟩
   .have hx4:H4 p=some (.lst xs):=e4 _ _ hpl hx;refine⟨.inl ⟨rfl,_,SqL.of hx4⟩,⇑0,λt ht=>?_⟩;have nt:p≠t:=Zaf hx4 ht;have hx5:(upd H4 t (.tup [.int (1+(i:Int)-1),.int (1+(i:Int))])) p=some (.lst xs):=by rw[Zag nt];exact hx4
    refine⟨_,hx5,Zaj (oz43 x1 hi ls lx),xs++[.ref t],ps++[(1+(i:Int)-1,1+(i:Int))],_,_,⟨rfl,rfl⟩,((ex.trans e4).trans (Ext.new ht)).upd hp,(b4.new (b4.ne ht)).new hpl,Zaa,((d.bag b e4).snoc ht).put hx5,?_⟩;rw[et,show (1+(i:Int)-1,1+(i:Int))=((i:Int),(i:Int)+1) by rw[Int.add_comm 1,Int.add_sub_cancel]];exact sb.append (Jfj _)
   .refine Zkk xs ps _ _ ⟨⟨rfl,rfl⟩,ex.trans e4,b4,e4 _ _ hpl hx,d.bag b e4,?_⟩;rw[et];exact sb.trans (List.sublist_append_left _ _)
  .intro σ H3 e94;refine Zdt e94 λxs ps v v5 e99 ex b e910=>?_;clear e94;obtain rfl:=e99;refine Zar e910 λhx d sb=>?_;clear e910;rw[show (1+x-1).toNat=n-1 by exact oz9 en] at sb;refine Zar (sub_a (n:=n) (Zr8 x0 en) (oz95 x1 en) sb) λs1 s2 s3=>?_;exact⟨_,rfl,_,rfl,by show 2<=sizeLine;decide,λt ht=>q _ _ _ _ _ _ (OutD.fin en ex b hx hp (Zr8 x0 en) (oz95 x1 en) d s3 s1 s2 ht)⟩
end
end Pf
namespace Pf
open PySem L2 PyProof.Rows
section
variable {C G S:Addr}
theorem rngA {n:Nat}(h1:1<=n)(h8:n<=8):((List.range (n-1)).map λi:Nat=>(0+(i:Int),0+(i:Int)+1))=L3.aE.take (n-1):=
 L3.to8 (P:=λn=>((List.range (n-1)).map λi:Nat=>(0+(i:Int),0+(i:Int)+1))=L3.aE.take (n-1)) h1 h8 rfl rfl rfl rfl rfl rfl rfl rfl
theorem rngD {n:Nat}(h1:4<=n)(h8:n<=8):([((0:Int),(1:Int)),(0,2),(0,3)]++(List.range (n-4)).map λi:Nat=>(3+(i:Int),3+(i:Int)+1))=L3.dE.take (n-1):=by
 have:n=4\/n=5\/n=6\/n=7\/n=8:=by exact oz70 h1 h8
 rcases this with rfl|rfl|rfl|rfl|rfl <;> rfl
theorem rngE {n:Nat}(h1:6<=n)(h8:n<=8):([((0:Int),(1:Int)),(0,2),(2,3),(0,4)]++(List.range (n-5)).map λi:Nat=>(4+(i:Int),4+(i:Int)+1))=L3.eE.take (n-1):=by
 have:n=6\/n=7\/n=8:=by exact oz139 h1 h8
 rcases this with rfl|rfl|rfl <;> rfl
theorem Zfr {E8:List (Int×Int)}{n:Nat}(d:L3.DPos (L3.pN 8) E8)(l8:E8.length=7)(n8:n<=8)(h:L3.okB E8 n=true):(E8.take (n-1)).length<=9/\InP (n:Nat) (E8.take (n-1))/\L3.DPos (Zbi n) (E8.take (n-1)):=
 ⟨by rw[Ja0];omega,L3.Zss h,L3.bsD d n8 h⟩
theorem Zsp (F:Fun K "_law_edges" "_law_edges" Zgk f fd)(T:Txt K mg C G S)(Yaa:Cal P w K mg base "_law_draw" 1 Zf0)(Yb2:Cal P w K mg base "_law_bad_edges" 2 (spOut way0))(Ybw:Cal P w K mg base "_law_rest_edges" 2 (Zgu 4 4)):FnOk P w K mg base CX0 3 f fd ["_law_bag_here","_law_way"] (Zgu 0 4):=by
 have nd:=Zh4.nd;refine F.ok Zh4 (λvs H Q E h=>?_) (λcdv A outer s H vs Q E hr h=>?_)
 .refine Zbg h λl k e91 _=>?_;clear h;obtain rfl:=e91;rfl
 .refine Zju h λl k e92 k0 k1 hb q=>?_;clear h;obtain rfl:=e92;refine⟨_,((@Za7 _ _ _ _ _ _ _ _ (Zat (Zsc Zjg) (pvr 1) Zac (Zao _)) ((2|||nd|||(Zbo<|>Zac<&&>(Yaa<$>hr<$>((pvr 0)<&>(Zac<&>Zab)))))<*>(~~~(@Zaq _ _ _ _ _ ((pvr 2)<&>((Zax (own:=["_law_k"]) (fr:=[]) rfl (Zbh (by kernel_rfl)) (Zid rfl T.n_range ((Zdy<|>(pv 2)<&&>Zac)<&>Zab)) (λ_ _ _ _=>⟨(0<<<["_law_k"]),Za0,(@Zaq _ _ _ _ _ ((pv 0)<&>((Zbo<|>(pv 0)<&&>Zac)<&>Zab)))⟩))<&>Zab))))) Zan)<*>((@Za7 _ _ _ _ _ _ _ _ (Zat (Zpz Zc5) (pvr 1) Zac (Zao _)) ((2|||nd|||(Zbo<|>Zac<&&>(Yaa<$>hr<$>((pvr 0)<&>(Zac<&>Zab)))))<*>(~~~(@Zaq _ _ _ _ _ ((pvr 2)<&>((Zgb<|>(@Zbj _ _ _ _ ((@Zaq _ _ _ _ _ (Zac<&>(Zac<&>Zab)))<&>((@Zaq _ _ _ _ _ (Zac<&>(Zac<&>Zab)))<&>((@Zaq _ _ _ _ _ (Zac<&>(Zac<&>Zab)))<&>Zab))))<&&>(Zax (own:=["_law_k"]) (fr:=[]) rfl (Zbh (by kernel_rfl)) (Zpv rfl T.n_range (Zac<&>((Zdy<|>(pv 2)<&&>Zac)<&>Zab))) (λ_ _ _ _=>⟨(0<<<["_law_k"]),Za0,(@Zaq _ _ _ _ _ ((pv 0)<&>((Zbo<|>(pv 0)<&&>Zac)<&>Zab)))⟩)))<&>Zab))))) Zan)<*>((@Za7 _ _ _ _ _ _ _ _ (Zat (Zpz Zc5) (pvr 1) Zac (Zao _)) ((2|||nd|||(Zbo<|>Zac<&&>(Yaa<$>hr<$>((pvr 0)<&>(Zac<&>Zab)))))<*>(~~~(@Zaq _ _ _ _ _ ((pvr 2)<&>((Zgb<|>(@Zbj _ _ _ _ ((@Zaq _ _ _ _ _ (Zac<&>(Zac<&>Zab)))<&>((@Zaq _ _ _ _ _ (Zac<&>(Zac<&>Zab)))<&>((@Zaq _ _ _ _ _ (Zac<&>(Zac<&>Zab)))<&>((@Zaq _ _ _ _ _ (Zac<&>(Zac<&>Zab)))<&>Zab)))))<&&>(Zax (own:=["_law_k"]) (fr:=[]) rfl (Zbh (by kernel_rfl)) (Zpv rfl T.n_range (Zac<&>((Zdy<|>(pv 2)<&&>Zac)<&>Zab))) (λ_ _ _ _=>⟨(0<<<["_law_k"]),Za0,(@Zaq _ _ _ _ _ ((pv 0)<&>((Zbo<|>(pv 0)<&&>Zac)<&>Zab)))⟩)))<&>Zab))))) Zan)<*>((@Za7 _ _ _ _ _ _ _ _ (Zat (Zpz Zc5) (pvr 1) Zac (Zao _)) (~~~(Yb2<$>hr<$>((pvr 0)<&>Zab))) Zan)<*>(~~~(Ybw<$>hr<$>((pvr 0)<&>((pvr 1)<&>Zab)))))))),?_⟩;walk_at "wp";refine Zc6 (λ_=>?_) (λc1=>Zc6 (λ_=>?_) (λc2=>Zc6 (λ_=>?_) (λc3=>Zc6 (λc4=>?_) (λ_=>⟨l,k,rfl,?_,k1,hb,q⟩))))
  .refine hb.draw ⇑0 ⇑0 λr H2 r0 r1 e2 b2=>⟨r,rfl,?_⟩
   obtain⟨n,en⟩:∃ n:Nat,1+r=n:=⟨(1+r).toNat,oz92 r0⟩
   refine⟨_,rfl,_,_,rfl,rfl,_,rfl,∅,oz218 r1,λD hD=>Zgq (λi=>0+(i:Int)) (λi=>0+(i:Int)+1) hD (oz109 r1) (λi H Q _ h=>⟨_,rfl,h⟩) (λi H Q _ h=>⟨_,rfl,_,_,rfl,rfl,h⟩) λxs H' s e d=>⟨⇑0,λt ht=>?_⟩⟩;rw[show (1+r-1).toNat=n-1 by exact oz9 en,rngA (Zr8 r0 en) (oz95 r1 en)] at d;refine Zar (Zfr (n:=n) L3.pos_a rfl (oz95 r1 en) (L3.okA (Zr8 r0 en) (oz95 r1 en))) λa1 a2 a3=>?_;exact q _ _ _ _ _ _ (OutD.fin en (e2.trans s.ext) (b2.same s) e (e2.free (b2.ne hD) hD) (Zr8 r0 en) (oz95 r1 en) d a1 a2 a3 ht)
  .refine hb.draw ⇑0 ⇑0 λr H2 r0 r1 e2 b2=>⟨r,rfl,?_⟩
   obtain⟨n,en⟩:∃ n:Nat,4+r=n:=⟨(4+r).toNat,oz165 r0⟩
   refine⟨⇑0,λp1 h1=>⟨⇑0,λp2 h2=>⟨⇑0,λp3 h3=>⟨⇑0,λp4 h4=>?_⟩⟩⟩⟩;have D1:=(PK.nil (H:=H2)).snoc (i:=0) (j:=1) h1;have D2:=D1.snoc (i:=0) (j:=2) h2;have D3:=D2.snoc (i:=0) (j:=3) h3;have S4:=(((Same.new h1).trans (Same.new h2)).trans (Same.new h3)).trans (Same.new (o:=.lst [.ref p1,.ref p2,.ref p3]) h4);refine⟨_,rfl,_,_,rfl,rfl,_,_,rfl,⟨⇑0,⇑0,∅,oz187 r1⟩,λD hD=>Zgq (λi=>3+(i:Int)) (λi=>3+(i:Int)+1) hD (oz108 r1) (λi H Q _ h=>⟨_,rfl,h⟩) (λi H Q _ h=>⟨_,rfl,_,_,rfl,rfl,h⟩)
    λxs H' s e d=>⟨D,rfl,_,s _ _ Zaa,_,e,Jbl (Zaj ?_),λp6 h6=>⟨⇑0,λp7 h7=>?_⟩⟩⟩
   .have:=d.len;rw[Jab,Jb6] at this;show 3+xs.length<=1000;exact oz90 r1 this
   .have dd:=((D3.same (Same.new h4)).same s).app d;rw[show (4+r-1-3).toNat=n-4 by exact oz23 en] at dd;have dd':PK H' ([V.ref p1,V.ref p2,V.ref p3]++xs) (L3.dE.take (n-1)):=by rw[<- rngD (oz219 r0 en) (Zvl r1 en)];exact dd
    refine Zar (Zfr (n:=n) L3.pos_d rfl (Zvl r1 en) (L3.okD (oz219 r0 en) (Zvl r1 en))) λa1 a2 a3=>?_;exact q _ _ _ _ _ _ (OutD.done en e2 b2 (S4.trans s) h6 ∅ (Zvl r1 en) dd' a1 a2 a3 h7)
  .refine hb.draw ⇑0 ⇑0 λr H2 r0 r1 e2 b2=>⟨r,rfl,?_⟩
   obtain⟨n,en⟩:∃ n:Nat,6+r=n:=⟨(6+r).toNat,oz166 r0⟩
   refine⟨⇑0,λp1 h1=>⟨⇑0,λp2 h2=>⟨⇑0,λp3 h3=>⟨⇑0,λp4 h4=>⟨⇑0,λp5 h5=>?_⟩⟩⟩⟩⟩;have D1:=(PK.nil (H:=H2)).snoc (i:=0) (j:=1) h1;have D2:=D1.snoc (i:=0) (j:=2) h2;have D3:=D2.snoc (i:=2) (j:=3) h3;have D4:=D3.snoc (i:=0) (j:=4) h4;have S5:=((((Same.new h1).trans (Same.new h2)).trans (Same.new h3)).trans (Same.new h4)).trans (Same.new (o:=.lst [.ref p1,.ref p2,.ref p3,.ref p4]) h5);refine⟨_,rfl,_,_,rfl,rfl,_,_,rfl,⟨⇑0,⇑0,∅,oz190 r1⟩,λD hD=>Zgq (λi=>4+(i:Int)) (λi=>4+(i:Int)+1) hD (oz100 r1) (λi H Q _ h=>⟨_,rfl,h⟩) (λi H Q _ h=>⟨_,rfl,_,_,rfl,rfl,h⟩)
    λxs H' s e d=>⟨D,rfl,_,s _ _ Zaa,_,e,Jbl (Zaj ?_),λp6 h6=>⟨⇑0,λp7 h7=>?_⟩⟩⟩
   .have:=d.len;rw[Jab,Jb6] at this;show 4+xs.length<=1000;exact oz94 r1 this
   .have dd:=((D4.same (Same.new h5)).same s).app d;rw[show (6+r-1-4).toNat=n-5 by exact oz38 en] at dd;have dd':PK H' ([V.ref p1,V.ref p2,V.ref p3,V.ref p4]++xs) (L3.eE.take (n-1)):=by rw[<- rngE (oz220 r0 en) (Zvk r1 en)];exact dd
    refine Zar (Zfr (n:=n) L3.pos_e rfl (Zvk r1 en) (L3.okE (oz220 r0 en) (Zvk r1 en))) λa1 a2 a3=>?_;exact q _ _ _ _ _ _ (OutD.done en e2 b2 (S5.trans s) h6 ∅ (Zvk r1 en) dd' a1 a2 a3 h7)
  .have:=Jaq c4;omega
  .have h1:¬ k<2:=λz=>c1 (Jag z);have h2:¬ k=2:=λz=>c2 (by rw[z];rfl);have h3:¬ k=3:=λz=>c3 (by rw[z];rfl);exact oz174 h1 h2 h3
def sE (X:Int->Int)(ys:List Int)(es:List (Int×Int)):Int:=L3.sI (λe=>X (L3.gt ys e.1)*X (L3.gt ys e.2)) es
def sR (X:Int->Int)(es:List (Int×Int)):Int:=L3.sI (λe=>X e.1*X e.2) es
theorem sE_out {X:Int->Int}{ys:List Int}{es:List (Int×Int)}{k:Nat}{q:Int×Int}(h:es[k]?=some q):sE X ys es=X (L3.gt ys q.1)*X (L3.gt ys q.2)+sE X ys (es.take k++es.drop (k+1)):=by
 obtain⟨hk,rfl⟩:=Jah.mp h;have e:es=es.take k++es[k]::es.drop (k+1):=by rw[List.getElem_cons_drop,Jej]
 unfold sE
 conv=>lhs;rw[e]
 rw[L3.Zjc,L3.Zjc];show _+(X (L3.gt ys es[k].1)*X (L3.gt ys es[k].2)+_)=_;exact oz225
theorem sR_add {X:Int->Int}{es:List (Int×Int)}{a b:Int}:sR X (es++[(a,b)])=sR X es+X a*X b:=by
 unfold sR;rw[L3.Zjc];show _+(_+0)=_;rw[Je3]
theorem gt_at {ys:List Int}{i:Int}(h:i.toNat<ys.length):L3.gt ys i=ys[i.toNat]:=by
 unfold L3.gt;rw[Jao,Jaa h];rfl
theorem Zsq (F:Fun K "_law_drawn" "_law_drawn" Zgl f fd)(T:Txt K mg C G S)(Yaa:Cal P w K mg base "_law_draw" 1 Zf0)(Yb3:Cal P w K mg base "_law_edges" 3 (Zgu 0 4))(Yaz:Cal P w K mg base "_law_order" 2 Zrc):FnOk P w K mg base CX0 4 f fd ["_law_bag_here","_law_way"] (Zgu 0 4):=by
 have nd:=Zh5.nd;refine F.ok Zh5 (λvs H Q E h=>?_) (λcdv A outer s H vs Q E hr h=>?_)
 .refine Zbg h λl k e92 _=>?_;clear h;obtain rfl:=e92;rfl
 .refine Zju h λl k e93 k0 k1 hb q=>?_;clear h;obtain rfl:=e93;refine⟨_,((Zcl (Yb3<$>hr<$>((pvr 0)<&>((pvr 1)<&>Zab))) (@Zb8 _ _ _ _ _ 2 rfl ((2>>>nd)^^^((3>>>nd)^^^(@Za2 _))) ⇑1 ⇑1))<*>((4|||nd|||(Yaz<$>hr<$>((pvr 0)<&>((pvr 2)<&>Zab))))<*>((5|||nd|||(@Zbj _ _ _ _ Zab))<*>((Zdx Ja7 (Za5 Zg4 (Za4 Zak rfl T.n_len Ja6 ((pv 3)<&>Zab)) Zac (Zao _)) ((6|||nd|||(Yaa<$>hr<$>((pvr 0)<&>((Za4 Zak rfl T.n_len Ja6 ((pvr 3)<&>Zab))<&>Zab))))<*>((Zcl (Za6<|>(pvr 3)<||>(pvr 6)) (@Zb8 _ _ _ _ _ 2 rfl ((7>>>nd)^^^((8>>>nd)^^^(@Za2 _))) ⇑1 ⇑1))<*>((3|||nd|||(Zgb<|>(@Zcg _ _ _ _ _ _ _ _ _ _ Zdg (pvr 3) Zet (@Zcq _ _ _ (pvr 6)))<&&>(@Zcg _ _ _ _ _ _ _ _ _ _ Zdg (pvr 3) (@Zcq _ _ _ (Zbo<|>(pvr 6)<&&>Zac)) Zet)))<*>((@Za7 _ _ _ _ _ _ _ _ (Zat Zc5 (Yaa<$>hr<$>((pvr 0)<&>(Zac<&>Zab))) Zac (Zao _)) (@Zam _ _ _ (Zj9 (i:=7) (j:=8) rfl nd rfl rfl ⇑0 rfl rfl ((pvr 8)<&>((pvr 7)<&>Zab)) rfl)) Zan)<*>(@Zam _ _ _ (Zcf (Zfp Jay Jb1 Jb2 (mtJ Zb5) (pvr 5) ((@Zaq _ _ _ _ _ ((Za6<|>(pvr 4)<||>(pvr 7))<&>((Za6<|>(pvr 4)<||>(pvr 8))<&>Zab)))<&>Zab)))))))))<*>(~~~(@Zaq _ _ _ _ _ ((pvr 2)<&>((pvr 5)<&>Zab)))))))),?_⟩;walk_at "wp";refine Zav l k ⟨rfl,k0,k1,hb,λp e n xs ps H1 O=>⟨p,rfl,_,SqT.of O.tup,rfl,_,_,rfl,_,_,rfl,rfl,?_⟩⟩;have m0:=O.lo;have m8:=O.hi;refine Zav l (n:Nat) ⟨rfl,O.bag,Zui,Zr7 m8,λpo ys H2 ex2 b2 hpo hpo2 hlen inr ndy=>⟨⇑0,λpa hpa=>?_⟩⟩;have nel:e≠l:=hb.ne O.new;have e2e:H2 e=some (.lst xs):=ex2 _ _ nel O.lst;have nal:pa≠l:=b2.ne hpa;have nae:e≠pa:=Zaf e2e hpa;have nao:po≠pa:=Zaf hpo2 hpa;have exH:Ext l H H2:=O.ext.trans ex2;have fpa:H pa=none:=exH.free nal hpa;have noe:e≠po:=(Zaf O.lst hpo)
  have nol:po≠l:=O.bag.ne hpo;have perm:=L3.perm_pN (n:=n) ndy (oz147 hlen) inr;refine⟨λc σ H3=>∃ (pl:Addr) (ls as:List V) (lq aq:List (Int×Int)) (v6 v7 v8:Option V),σ=[some (.ref l),some (.int k),some (.int (n:Nat)),some (.ref pl),some (.ref po),some (.ref pa),v6,v7,v8]/\c=ls.length/\Ext l H H3/\Bag H3 l /\
   H3 pl=some (.lst ls)/\H3 po=some (.lst (ys.map V.int))/\H3 pa=some (.lst as)/\pl≠l/\pl≠pa/\ls.length+as.length<=9/\PK H3 ls lq/\PK H3 as aq/\InP (n:Nat) lq/\InP (n:Nat) aq/\∀ X,sR X aq+sE X ys lq=sE X ys ps,?_,?_⟩
  .exact xI9_1 _ e xs [] ps [] none none none ⟨rfl,rfl,exH.trans (Ext.new hpa),b2.new nal,by rw[Zag nae];exact e2e,by rw[Zag nao];exact hpo2,Zaa,nel,nae,by have h1:=O.len;have h2:=O.pk.len;show xs.length+0<=9;omega,(O.pk.bag O.bag ex2).same (Same.new hpa),.nil,O.ip,(λ_ h=>nomatch h),λX=>Int.zero_add _⟩
  .intro c σ H3 e91;refine xE8_4 e91 λpl ls as lq aq v6 v7 v8 e94 e95 ex e96=>?_;clear e91;obtain rfl:=e94;obtain rfl:=e95;refine xE0_12 e96 λb hpl hpo3 hpa3 n1 n2 hl dl da il ia sm=>?_;clear e96;walk_at "wp";refine⟨_,.inl (SqL.of hpl),Zc6 (λhc=>?_) (λhc=>?_)⟩
   .have hc:=Jaq hc;refine⟨_,λ_ _ h=>h,?_⟩;walk_at "wp";refine⟨_,.inl (SqL.of hpl),b.draw hc ∅ λr H4 r0 r1 e4 b4=>?_⟩;have hr1:r.toNat<ls.length:=by exact Zpx r0 r1
    have hpl4:=e4 _ _ n1 hpl;have hpo4:=e4 _ _ nol hpo3;have hpa4:=e4 _ _ nal hpa3;have dl4:=dl.bag b e4;have da4:=da.bag b e4;refine Za3 (dl4.at_ hr1) λt qq hx hq ht4=>?_;refine Zbx (il qq (Jai hq)) λi0 i1 j0 j1=>?_;have gi:=gt_at (ys:=ys) (i:=qq.1) (oz12 m0 hlen i1);have gj:=gt_at (ys:=ys) (i:=qq.2) (oz12 m0 hlen j1);have so:=λX=>sE_out (X:=X) (ys:=ys) hq;refine Zav ls r ⟨rfl,SqL.of hpl4,.ref t,Zck r0 hx,t,rfl,_,SqT.of ht4,rfl,_,_,rfl,_,_,rfl,rfl,r,rfl,ls,SqL.of hpl4,λp2 h2=>⟨r,rfl,ls,SqL.of (by rw[Zag (Zaf hpl4 h2)];exact hpl4),λp3 h3=>?_⟩⟩;have l1:=Ztu ls r r0 (oz89 r1);have l2:=Ztv ls (r+1) (oz91 r0) (oz71 r1);rw[show (r+1).toNat=r.toNat+1 by exact oz2 r0] at l2;have hNL:(Zhw ls none (some r)++Zhw ls (some (r+1)) none).length<ls.length:=by
     rw[l1,l2,Jak,Ja0,Jc9];exact oz16 hr1
    refine⟨Zhw ls none (some r),by rw[Zag (Zaf Zaa h3)];exact Zaa,_,Zaa,Jbl (Zaj (by rw[Jak] at hNL;exact oz52 hl hNL)),λp4 h4=>?_⟩;have S6:=(Same.new (o:=.lst (Zhw ls none (some r))) h2).trans (Same.new (o:=.lst (Zhw ls (some (r+1)) none)) h3);have S:=S6.trans (Same.new (o:=.lst (Zhw ls none (some r)++Zhw ls (some (r+1)) none)) h4);have b7:=b4.same S;have p4nl:p4≠l:=(b4.same S6).ne h4;have npa4:pa≠p4:=Zaf (S6 _ _ hpa4) h4;refine b7.draw ⇑0 ⇑0 λz H8 z0 z1 e8 b8=>⟨rfl,?_⟩
    have pa8:=e8 _ _ nal (S _ _ hpa4);have po8:=e8 _ _ nol (S _ _ hpo4);have p48:=e8 _ _ p4nl Zaa;have exH8:Ext l H H8:=(ex.trans e4).trans (S.ext.trans e8);have dN8:PK H8 (Zhw ls none (some r)++Zhw ls (some (r+1)) none) (lq.take r.toNat++lq.drop (r.toNat+1)):=by
     rw[l1,l2];exact (((dl4.take r.toNat).app (dl4.drop (r.toNat+1))).same S).bag b7 e8
    have da8:=(da4.same S).bag b7 e8;have iN:InP (n:Nat) (lq.take r.toNat++lq.drop (r.toNat+1)):=λy hy=>by
     rcases Jbp.mp hy with h|h
     .exact il y (List.mem_of_mem_take h)
     .exact il y (List.mem_of_mem_drop h)
    have ia1:=inr _ (Jbr (show qq.1.toNat<ys.length by exact oz12 m0 hlen i1));have ia2:=inr _ (Jbr (show qq.2.toNat<ys.length by exact oz12 m0 hlen j1));have a1:atI (ys.map V.int) qq.1=some (V.int (ys[qq.1.toNat]'(oz12 m0 hlen i1))):=Zck i0 (by rw[Jau,Jaa ∅];rfl);have a2:atI (ys.map V.int) qq.2=some (V.int (ys[qq.2.toNat]'(by omega))):=Zck j0 (by rw[Jau,Jaa ∅];rfl);generalize ys[qq.1.toNat]'(by omega)=y1 at *;generalize ys[qq.2.toNat]'(by omega)=y2 at *;have fin:∀ (u v:Int) (w6 w7 w8:Option V),(∀ X:Int->Int,X u*X v=X (L3.gt ys qq.1)*X (L3.gt ys qq.2))->0<=u->u<(n:Nat)->0<=v->v<(n:Nat)->∀ p5,H8 p5=none->∃ m',m'<ls.length/\∃ (pl':Addr) (ls' as':List V) (lq' aq':List (Int×Int)) (u6 u7 u8:Option V),
      (p4=pl'/\w6=u6/\w7=u7/\w8=u8)/\m'=ls'.length/\Ext l H (upd (upd H8 p5 (.tup [.int u,.int v])) pa (.lst (as++[.ref p5])))/\Bag (upd (upd H8 p5 (.tup [.int u,.int v])) pa (.lst (as++[.ref p5]))) l /\
      (upd (upd H8 p5 (.tup [.int u,.int v])) pa (.lst (as++[.ref p5]))) pl'=some (.lst ls')/\(upd (upd H8 p5 (.tup [.int u,.int v])) pa (.lst (as++[.ref p5]))) po=some (.lst (ys.map V.int))/\(upd (upd H8 p5 (.tup [.int u,.int v])) pa (.lst (as++[.ref p5]))) pa=some (.lst as')/\pl'≠l/\pl'≠pa/\ls'.length+as'.length<=9/\PK (upd (upd H8 p5 (.tup [.int u,.int v])) pa (.lst (as++[.ref p5]))) ls' lq'/\PK (upd (upd H8 p5 (.tup [.int u,.int v])) pa (.lst (as++[.ref p5]))) as' aq'/\InP (n:Nat) lq'/\InP (n:Nat) aq'/\∀ X,sR X aq'+sE X ys lq'=sE X ys ps:=by
     intro u v w6 w7 w8 hX u0 u1 v0 v1 p5 h5;have pa9:(upd H8 p5 (.tup [.int u,.int v])) pa=some (.lst as):=by rw[Zag (Zaf pa8 h5)];exact pa8
     have n5:p4≠p5:=Zaf p48 h5;have n5o:po≠p5:=Zaf po8 h5;have hL:(as++[V.ref p5]).length=as.length+1:=by rw[Jak];rfl
     refine⟨_,hNL,p4,_,as++[.ref p5],_,aq++[(u,v)],w6,w7,w8,⟨rfl,rfl,rfl,rfl⟩,rfl,(exH8.trans (Ext.new h5)).upd fpa,(b8.new (b8.ne h5)).new nal,by rw[Zag npa4.symm,Zag n5];exact p48,by rw[Zag nao,Zag n5o];exact po8,Zaa,p4nl,npa4.symm,by rw[hL];omega,(dN8.same (Same.new h5)).put pa9,(da8.snoc h5).put pa9,iN,λy hy=>?_,λX=>?_⟩
     .rcases Jbp.mp hy with h|h
      .exact ia y h
      .rw [Jam.mp h];exact⟨u0,u1,v0,v1⟩
     .have h1:=sm X;have h2:=so X;rw[sR_add,hX X];omega
    refine Zc6 (λ_=>?_) (λ_=>?_)
    .refine Zav _ _ ⟨⟨rfl,rfl⟩,.inl ⟨rfl,_,SqL.of pa8⟩,_,qq.2,rfl,SqL.of po8,_,a2,_,qq.1,rfl,SqL.of po8,_,a1,⇑0,λp5 h5=>?_⟩;have pa9:(upd H8 p5 (.tup [V.int y2,V.int y1])) pa=some (.lst as):=by rw[Zag (Zaf pa8 h5)];exact pa8
     have f:=fin y2 y1 (some (.int r)) (some (.int qq.2)) (some (.int qq.1)) (λX=>by rw[gi,gj,Int.mul_comm]) ia2.1 ia2.2 ia1.1 ia1.2 p5 h5;exact⟨as,pa9,Zaj ∅,f⟩
    .refine ⟨.inl ⟨rfl,_,SqL.of pa8⟩,_,qq.1,rfl,SqL.of po8,_,a1,_,qq.2,rfl,SqL.of po8,_,a2,⇑0,λp5 h5=>?_⟩;have pa9:(upd H8 p5 (.tup [V.int y1,V.int y2])) pa=some (.lst as):=by rw[Zag (Zaf pa8 h5)];exact pa8
     have f:=fin y1 y2 (some (.int r)) (some (.int qq.1)) (some (.int qq.2)) (λX=>by rw[gi,gj]) ia1.1 ia1.2 ia2.1 ia2.2 p5 h5;exact⟨as,pa9,Zaj ∅,f⟩
   .have hc:¬ (0:Int)<(ls.length:Nat):=λz=>hc (Jag z);have lz:lq=[]:=List.length_eq_zero_iff.mp (by have:=dl.len;omega);subst lz;refine⟨⇑0,λt ht=>q _ _ _ _ _ _ (OutD.fin rfl ex b hpa3 fpa m0 m8 da (by have:=da.len;omega) ia ?_ ht)⟩;exact L3.Ztn perm (λX=>by have:=sm X;unfold sR sE at this;rw[<- this];show _=_+0;rw[Je3]) O.dp
theorem Zt4 {lo:Int}{n:Nat}{D:Addr}{fr:List (Str×Nat)}{σ:L2.St}{te:TE}{H1:Hp}{Q:VK}(fb:Nat->Bool)(hD:H1 D=none)(hn:n<=1000)(h:∀ (i:Nat) H (Q:VK),i<n->Same H1 H->(∀ H',Same H H'->Q (.bl (fb i)) H')->te (some (.int (lo+(i:Nat)))::Zb0 fr σ) H Q)(hQ:∀ H',Same H1 H'->H' D=some (.lst (((List.range n).map fb).map V.bl))->Q (.ref D) H'):Zbv (Zbd 0) Zfb te (Itr lo n) D (Ze9 1 fr σ) H1 Q:=by
 refine Zey (λi vs H=>Same H1 H/\H D=some (.lst vs)/\vs=((List.range i).map fb).map V.bl) ⟨Same.new hD,Zaa,rfl⟩ ?_ (λvs H ⟨s,e,hv⟩=>hQ H s (by rw[e,hv]));intro i x vs σ' H hi e91;obtain rfl:=e91;intro sh e92;refine Zar e92 λs e e94=>?_;clear e92;obtain rfl:=e94;obtain⟨z,rfl⟩:=sh.one;simp only[Zda,Zbd,Zfb,List.set_cons_zero,Jck];refine h i H _ hi s λH' s'=>?_;exact leaf (ws:=((List.range (i+1)).map fb).map V.bl) hi Sh.mk1 (s' _ _ e) (Zaj (by rw[Jab,Jab,Jb6];exact Zvj hn hi)) ⟨(s.trans s').upd hD,by rw[Zaa,Jdg,Jaw,Jaw];rfl,rfl⟩
def Top (a:Int):Prop:=a.natAbs<2 ^ 4000
theorem Top.of {a:Int}(h:a.natAbs<=100000000000000000000000000000000000000000000000000000000000000000000000000000000):Top a:=Je0 h ⋯
def spCd:Sp:=λvs H Q _=>∃ a b:Int,vs=[.int a,.int b]/\Top a/\0<=b/\Q (.int (Int.gcd a b:Int)) H
theorem ok_cd (F:Fun K "common_divisor" "common_divisor" Zc2 f fd)(T:Txt K mg C G S):FnOk P w K mg base CX0 1 f fd ["one","other"] spCd:=by
 have nd:=Zeb.nd;refine F.ok Zeb (λvs H Q E h=>?_) (λcdv A outer s H vs Q E hr h=>?_)
 .refine Zbg h λa b e95 _=>?_;clear h;obtain rfl:=e95;rfl
 .refine Zeh h λa b e96 ht hb q=>?_;clear h;obtain rfl:=e96;refine⟨_,((@Za7 _ _ _ _ _ _ _ _ (Zat Zg4 (pe_bm0 PySem.F.plainAttrs_int PySem.F.slot_int_bit_length PySem.F.type_int_bit_length mt_bits (pvr 0)) (Zij rfl T.g_LONG) (Zao _)) (@Zam _ _ _ Zbm) Zan)<*>((Zdx Ja7 (Za5 Zhq (pv 1) Zac (Zao _)) (@Zam _ _ _ (Zj9 (i:=0) (j:=1) rfl nd rfl rfl ⇑0 rfl rfl ((pvr 1)<&>((Zc9<|>(pvr 0)<&&>(pvr 1))<&>Zab)) rfl)))<*>(~~~(Za4 Zll rfl T.n_abs boot_abs ((pvr 0)<&>Zab))))),?_⟩;have hbits:=bits_le ht;walk_at "wp";refine⟨rfl,Zgd (by rw[Ja5 ∅];decide) ?_⟩;refine⟨λn σ H2=>∃ x y:Int,σ=[some (.int x),some (.int y)]/\H2=H/\0<=y/\n=y.toNat/\Int.gcd x y=Int.gcd a b,⟨_,a,b,rfl,rfl,hb,rfl,rfl⟩,?_⟩;intro n σ H2 e93;refine Zju e93 λx y e97 e98 hy e99 hg=>?_;clear e93;obtain rfl:=e97;obtain rfl:=e98;obtain rfl:=e99;walk_at "wp";refine Zc6 (λhc=>?_) (λhc=>?_)
  .have hy0:¬ y=0:=by simpa using hc
   have y1:0<y:=∅
   have l1:=Int.emod_nonneg x (show y≠0 by omega);have l2:=Je5 x y1;exact⟨_,λ_ _ h=>h,y1,_,_,⟨rfl,rfl⟩,(x % y).toNat,oz126 y1 l2,y,x % y,rfl,rfl,l1,rfl,by rw[Zo7];exact hg⟩
  .have hy0:y=0:=by simpa using hc
   subst hy0;have e:(if x<0 then -x else x)=(Int.gcd a b:Int):=by
    rw[<- hg,Int.gcd_zero];split <;> omega
   rw[e];exact q
def Zx0 (p:Int):Prop:=1<p/\p<=97/\∀ d:Int,2<=d->d<p->p % d≠0
def Znc:Sp:=λvs H Q _=>∃ p:Int,vs=[.int p]/\Zx0 p/\∀ H',Same H H'->Q (.bl true) H'
theorem Zvv (F:Fun K "is_prime" "is_prime" Zhl f fd)(T:Txt K mg C G S):FnOk P w K mg base CX0 1 f fd ["number"] Znc:=by
 have nd:=Ziy.nd;refine F.ok Ziy (λvs H Q E h=>?_) (λcdv A outer s H vs Q E hr h=>?_)
 .refine Zah h λp e910 _=>?_;clear h;obtain rfl:=e910;rfl
 .refine Zap h λp e911 e912 q=>?_;clear h;obtain rfl:=e911;obtain⟨p1,p2,p3⟩:=e912;refine⟨_,(~~~(Zga (Zd6 (Zsc Zg4) (pvr 0) Zac (Zao _)) (Zf9 (Za4 (Zdf rfl) rfl T.n_all Je6 ((Zax (own:=["divisor"]) (fr:=[("number",0)]) rfl (Zbh (by kernel_rfl)) (Zpv rfl T.n_range (Zac<&>((pv 0)<&>Zab))) (λ_ _ _ _=>⟨(0<<<["divisor","number"]),Za0,(Zd6 Zhq (Zc9<|>(pv 1)<&&>(pv 0)) Zac (Zao _))⟩))<&>Zab))))),?_⟩;walk_at "wp";refine Zlq (Jag p1) ⟨_,rfl,2,p,rfl,⟨⇑0,⇑0,∅,∅⟩,λD hD=>Zt4 (λ_=>true) hD ∅ (λi H' Q' hi s' q'=>?_) λH' s' e'=>⟨D,rfl,_,SqL.of e',?_⟩⟩
  .have h0:(0:Int)<2+(i:Int):=∅
   have hne:=p3 (2+(i:Int)) ∅ (oz180 hi);refine⟨_,rfl,_,rfl,_,_,rfl,rfl,h0,rfl,?_⟩;have:(!decide (V.int (p % (2+(i:Int)))=V.int 0))=true:=by simp only[V.int.injEq,Ja5 hne];rfl
   rw[this];exact q' H' (Same.refl _)
  .rw [Zhd];exact q H' s'
def GroundP (p:Int):Prop:=p=0\/Zx0 p
def Zna:Sp:=λvs H Q _=>∃ p:Int,vs=[.int p]/\GroundP p/\∀ H',Same H H'->Q (.bl true) H'
theorem Zvr (F:Fun K "tells_ground" "tells_ground" Zd3 f fd)(T:Txt K mg C G S)(Yac:Cal P w K mg base "is_whole" 1 Zhe)(Yat:Cal P w K mg base "is_prime" 1 Znc):FnOk P w K mg base CX0 2 f fd ["thing"] Zna:=by
 have nd:=Zfd.nd;refine F.ok Zfd (λvs H Q E h=>?_) (λcdv A outer s H vs Q E hr h=>?_)
 .refine Zah h λp e913 _=>?_;clear h;obtain rfl:=e913;rfl
 .refine Zap h λp e914 hp q=>?_;clear h;obtain rfl:=e914;have p0:0<=p:=by rcases hp with rfl|⟨h,_⟩ <;> omega
  have p97:p<=97:=by rcases hp with rfl|⟨_,h,_⟩ <;> omega
  refine⟨_,((@Za7 _ _ _ _ _ _ _ _ (PW.pt (Zes (Zbq (Zbn (Yac<$>hr<$>((pvr 0)<&>Zab)))) (Zdq (Zbq (Zop Zpy Zpy Zac (pvr 0) (Zij rfl T.g_LARGEST_PRIME)))))) (~~~Ze8) Zan)<*>(~~~(pe_or (Zd6 (Zpz Zc5) (pvr 0) Zac (Zao _)) (Zf9 (Yat<$>hr<$>((pvr 0)<&>Zab)))))),?_⟩;walk_at "wp";refine⟨p,rfl,true,rfl,Zwf (Zlq (Jag p0) (Zgd (by rw[Jag p97];decide) (Zc6 (λ_=>q H (Same.refl _)) (λhc=>?_))))⟩;rcases hp with rfl|hp
  .exact absurd (Jag rfl) hc
  .exact ⟨p,rfl,hp,q⟩
def Zip:Sp:=λvs H Q _=>∃ a b:Int,vs=[.int a,.int b]/\Top a/\0<b/\b.natAbs<=100000000000000000000000000000000/\∀ t,H t=none->Q (.ref t) (upd H t (.tup [.int (nrm a b).1,.int (nrm a b).2]))
theorem Zil {x a b:Int}(hb:0<b)(h:b.natAbs<=100000000000000000000000000000000):CDivG x (Int.gcd a b:Int):=by
 have h1:=Zg8 (a:=a) hb;have h2:=Int.le_of_dvd hb (Jff a b);exact⟨h1,oz209 h h2⟩
theorem ok_frac (F:Fun K "fraction" "fraction" Zhn f fd)(T:Txt K mg C G S)(Yap:Cal P w K mg base "common_divisor" 1 spCd):FnOk P w K mg base CX0 2 f fd ["top","bottom"] Zip:=by
 have nd:=Zi0.nd;refine F.ok Zi0 (λvs H Q E h=>?_) (λcdv A outer s H vs Q E hr h=>?_)
 .refine Zbg h λa b e915 _=>?_;clear h;obtain rfl:=e915;rfl
 .refine Zju h λa b e916 ht hb hB q=>?_;clear h;obtain rfl:=e916;refine⟨_,((@Za7 _ _ _ _ _ _ _ _ (Zat (Zpz Zc5) (pvr 1) Zac (Zao _)) (@Zam _ _ _ Zbm) Zan)<*>((2|||nd|||(Yap<$>hr<$>((pvr 0)<&>((pvr 1)<&>Zab))))<*>((@Za7 _ _ _ _ _ _ _ _ (Zat (Zsc Zjg) (pvr 1) Zac (Zao _)) (@Zam _ _ _ (2|||nd|||(Zr1 Zlw (pvr 2)))) Zan)<*>(~~~(@Zaq _ _ _ _ _ ((Zik<|>(pvr 0)<&&>(pvr 2))<&>((Zik<|>(pvr 1)<&&>(pvr 2))<&>Zab))))))),?_⟩;walk_at "wp";refine Zgd (by rw[Ja5 ∅];decide) ⟨a,b,rfl,ht,∅,Zgd (by rw[Ja5 ∅];decide) ?_⟩;exact⟨_,rfl,Zil hb hB,_,rfl,Zil hb hB,⇑0,λt ht=>q t ht⟩
def Zp9 (p:Int):List (Str×V):=Zcu "prime" (.int p) []
theorem Zfy (p:Int):(Zp9 p).lookup ("prime" : Str)=some (.int p):=by
 unfold Zp9;rw[Zau,if_pos rfl]
theorem Zo4 (p:Int){x:Str}(h1:¬ x="prime"):(Zp9 p).lookup x=none:=by
 unfold Zp9;rw[Zau,if_neg h1];rfl
def Zng (G:Addr):Sp:=λvs H Q _=>∃ (g dx:Addr) (p:Int),vs=[.ref g,.int p]/\H g=some (.ins G dx [])/\GroundP p/\∀ (H':Hp),Ext g H H'->H' g=some (.ins G dx (Zp9 p))->Q .non H'
theorem Zv2 (F:Fun K "__init__" "Ground.__init__" Zeq f fd)(T:Txt K mg C G S)(Yav:Cal P w K mg base "tells_ground" 2 Zna):FnOk P w K mg base CX0 3 f fd ["self","prime"] (Zng G):=by
 have nd:=Zf8.nd;refine F.ok Zf8 (λvs H Q E h=>?_) (λcdv A outer s H vs Q E hr h=>?_)
 .refine Zfa h λg dx p e917 _=>?_;clear h;obtain rfl:=e917;rfl
 .refine Zb3 h λg dx p e918 hg hp q=>?_;clear h;obtain rfl:=e918;refine⟨_,((@Za7 _ _ _ _ _ _ _ _ (Zbq (Zbn (Yav<$>hr<$>((pvr 1)<&>Zab)))) (@Zam _ _ _ Zbm) Zan)<*>(@Zam _ _ _ (Zjd (pvr 0) (pvr 1) rfl))),?_⟩;walk_at "wp";refine⟨p,rfl,hp,λH1 s1=>⟨true,rfl,Zwf ⟨G,dx,[],s1 _ _ hg,T.cl_Ground,T.nP,by show 0<1000;decide,?_⟩⟩⟩;exact q _ (λb o nb e=>by rw[Zag nb];exact s1 _ _ e) Zaa
def goodB (p:Int):Bool:=p == 0 || (decide (1<p) && decide (p<=97) && (List.range 98).all λd=>decide ((d:Int)<2) || decide (p<=(d:Int)) || decide (p % (d:Int)≠0))
theorem Zwn {p:Int}(h:goodB p=true):GroundP p:=by
 unfold goodB at h;simp only[Jd2,Jb5,Jbt,decide_eq_true_eq,Jbn,Jbz] at h;rcases h with h|⟨⟨h1,h2⟩,h3⟩
 .exact .inl h
 .refine .inr ⟨h1,h2,λd d2 dp=>?_⟩;have:=h3 d.toNat ∅;rw[show ((d.toNat:Nat):Int)=d by omega] at this;rcases this with (h|h)|h
  .omega
  .omega
  .exact h
theorem Zrx {L:List Int}(h:L.all goodB=true){i:Int}(i0:0<=i)(i1:i<L.length):∃ p,atI (L.map V.int) i=some (.int p)/\GroundP p:=by
 have hi:i.toNat<L.length:=by exact Zpx i0 i1
 exact⟨_,Zck i0 (Zd8 hi),Zwn (Jbn.mp h _ (Zud hi))⟩
def NumV (H:Hp)(p:Int)(v:V)(x:Int×Int):Prop:=if p=0 then ∃ t,v=.ref t/\H t=some (.tup [.int x.1,.int x.2]) else v=.int x.1
theorem NumV.same {H H':Hp}{p:Int}{v:V}{x:Int×Int}(h:NumV H p v x)(s:Same H H'):NumV H' p v x:=by
 unfold NumV at *;split
 .rename_i hp
  rw[if_pos hp] at h;refine Zah h λt e ht=>?_;clear h;exact⟨t,e,s _ _ ht⟩
 .rename_i hp
  rw[if_neg hp] at h;exact h
theorem NumV.tup {H:Hp}{p:Int}{t:Addr}{x:Int×Int}(hp:p=0)(h:H t=some (.tup [.int x.1,.int x.2])):NumV H p (.ref t) x:=by
 unfold NumV;rw[if_pos hp];exact⟨t,rfl,h⟩
theorem NumV.of {H:Hp}{p:Int}{x:Int×Int}(hp:¬ p=0):NumV H p (.int x.1) x:=by
 unfold NumV;rw[if_neg hp]
theorem NumV.ref {H:Hp}{p:Int}{v:V}{x:Int×Int}(h:NumV H p v x)(hp:p=0):∃ t,v=.ref t/\H t=some (.tup [.int x.1,.int x.2]):=by
 unfold NumV at h;rw[if_pos hp] at h;exact h
theorem NumV.int {H:Hp}{p:Int}{v:V}{x:Int×Int}(h:NumV H p v x)(hp:¬ p=0):v=.int x.1:=by
 unfold NumV at h;rw[if_neg hp] at h;exact h
theorem GroundP.lo {p:Int}(h:GroundP p):0<=p:=by rcases h with rfl|⟨h,_⟩ <;> omega
theorem GroundP.hi {p:Int}(h:GroundP p):p<=97:=by rcases h with rfl|⟨_,h,_⟩ <;> omega
def GAt (G:Addr)(H:Hp)(g:Addr)(p:Int):Prop:=∃ dx,H g=some (.ins G dx (Zp9 p))
theorem GAt.same {H H':Hp}{g:Addr}{p:Int}(h:GAt G H g p)(s:Same H H'):GAt G H' g p:=let ⟨dx,e⟩:=h;⟨dx,s _ _ e⟩
def Kn (H:Hp)(v:V):Prop:=v=.non\/(∃ b,v=.bl b)\/(∃ i,v=.int i)\/(∃ s,v=.str s)\/(∃ a xs,v=.ref a/\H a=some (.lst xs)/\xs.length<=1000)\/∃ a xs,v=.ref a/\H a=some (.tup xs)/\xs.length<=1000
theorem Kn.same {H H':Hp}{v:V}(h:Kn H v)(s:Same H H'):Kn H' v:=by
 rcases h with h|h|h|h|⟨a,xs,h1,h2,h3⟩|⟨a,xs,h1,h2,h3⟩
 .exact .inl h
 .exact .inr (.inl h)
 .exact .inr (.inr (.inl h))
 .exact .inr (.inr (.inr (.inl h)))
 .exact .inr (.inr (.inr (.inr (.inl ⟨a,xs,h1,s _ _ h2,h3⟩))))
 .exact .inr (.inr (.inr (.inr (.inr ⟨a,xs,h1,s _ _ h2,h3⟩))))
theorem Kn.int {H:Hp}{i:Int}:Kn H (.int i):=.inr (.inr (.inl ⟨i,rfl⟩))
theorem Kn.bl {H:Hp}{i:Bool}:Kn H (.bl i):=.inr (.inl ⟨i,rfl⟩)
theorem Kn.str {H:Hp}{i:Str}:Kn H (.str i):=.inr (.inr (.inr (.inl ⟨i,rfl⟩)))
theorem Kn.lst {H:Hp}{a:Addr}{xs:List V}(h:H a=some (.lst xs))(hl:xs.length<=1000):Kn H (.ref a):=.inr (.inr (.inr (.inr (.inl ⟨a,xs,rfl,h,hl⟩))))
theorem Kn.tup {H:Hp}{a:Addr}{xs:List V}(h:H a=some (.tup xs))(hl:xs.length<=1000):Kn H (.ref a):=.inr (.inr (.inr (.inr (.inr ⟨a,xs,rfl,h,hl⟩))))
def isI:V->Bool
 | .int _=>true
 | .bl _=>true
 | _=>false
def isBl:V->Bool
 | .bl _=>true
 | _=>false
def Ztb (H:Hp):V->Bool
 | .ref a=>match H a with
  | some (.tup _)=>true
  | _=>false
 | _=>false
def Zwg (H:Hp):V->Bool
 | .ref a=>match H a with
  | some (.lst _)=>true
  | _=>false
 | _=>false
def whB:V->Bool
 | .int _=>true
 | _=>false
theorem kn_int {H:Hp}{v:V}(h:Kn H v):∃ t,TyOf K H v t/\PySem.W.kitOne K t (.type "int")=some (isI v):=by
 rcases h with rfl|⟨b,rfl⟩|⟨i,rfl⟩|⟨z,rfl⟩|⟨a,xs,rfl,h2,_⟩|⟨a,xs,rfl,h2,_⟩
 .exact ⟨_,.non,by kernel_rfl⟩
 .exact ⟨_,.bl b,Zp5 K⟩
 .exact ⟨_,.int i,Zmi K⟩
 .exact ⟨_,.str z,by kernel_rfl⟩
 .exact ⟨_,.lst h2,by kernel_rfl⟩
 .exact ⟨_,.tup h2,by kernel_rfl⟩
theorem kn_bool {H:Hp}{v:V}(h:Kn H v):∃ t,TyOf K H v t/\PySem.W.kitOne K t (.type "bool")=some (isBl v):=by
 rcases h with rfl|⟨b,rfl⟩|⟨i,rfl⟩|⟨z,rfl⟩|⟨a,xs,rfl,h2,_⟩|⟨a,xs,rfl,h2,_⟩
 .exact ⟨_,.non,by kernel_rfl⟩
 .exact ⟨_,.bl b,Znq K⟩
 .exact ⟨_,.int i,Zke K⟩
 .exact ⟨_,.str z,by kernel_rfl⟩
 .exact ⟨_,.lst h2,by kernel_rfl⟩
 .exact ⟨_,.tup h2,by kernel_rfl⟩
theorem Zxn {H:Hp}{v:V}(h:Kn H v):∃ t,TyOf K H v t/\PySem.W.kitOne K t (.type "tuple")=some (Ztb H v):=by
 rcases h with rfl|⟨b,rfl⟩|⟨i,rfl⟩|⟨z,rfl⟩|⟨a,xs,rfl,h2,_⟩|⟨a,xs,rfl,h2,_⟩
 .exact ⟨_,.non,by kernel_rfl⟩
 .exact ⟨_,.bl b,by kernel_rfl⟩
 .exact ⟨_,.int i,by kernel_rfl⟩
 .exact ⟨_,.str z,by kernel_rfl⟩
 .refine ⟨_,.lst h2,?_⟩;simp only[Ztb,h2]
  kernel_rfl
 .refine ⟨_,.tup h2,?_⟩;simp only[Ztb,h2];exact Zmh K
theorem Zs4 {H:Hp}{v:V}(h:Kn H v):∃ t,TyOf K H v t/\PySem.W.kitOne K t (.type "list")=some (Zwg H v):=by
 rcases h with rfl|⟨b,rfl⟩|⟨i,rfl⟩|⟨z,rfl⟩|⟨a,xs,rfl,h2,_⟩|⟨a,xs,rfl,h2,_⟩
 .exact ⟨_,.non,by kernel_rfl⟩
 .exact ⟨_,.bl b,by kernel_rfl⟩
 .exact ⟨_,.int i,by kernel_rfl⟩
 .exact ⟨_,.str z,by kernel_rfl⟩
 .refine ⟨_,.lst h2,?_⟩;simp only[Zwg,h2];exact Zev K
 .refine ⟨_,.tup h2,?_⟩;simp only[Zwg,h2]
  kernel_rfl
def Zgs:Sp:=λvs H Q _=>∃ v:V,vs=[v]/\Kn H v/\Q (.bl (whB v)) H
theorem Zsh (F:Fun K "is_whole" "is_whole" Zfw f fd)(T:Txt K mg C G S):FnOk P w K mg base CX0 1 f fd ["thing"] Zgs:=by
 have nd:=Zej.nd;refine F.ok Zej (λvs H Q E h=>?_) (λcdv A outer s H vs Q E hr h=>?_)
 .refine Zah h λi e91 _=>?_;clear h;obtain rfl:=e91;rfl
 .refine Zap h λv e92 hk q=>?_;clear h;obtain rfl:=e92;refine⟨_,(~~~(Zga (Za4 Zbe rfl T.n_isinstance Jbs ((pvr 0)<&>((Zhp rfl T.n_int boot_int)<&>Zab))) (Zf9 (Zxf (Za4 Zbe rfl T.n_isinstance Jbs ((pvr 0)<&>((Zhp rfl T.n_bool boot_bool)<&>Zab))))))),?_⟩;walk_at "wp";refine Zah (kn_int (K:=K) hk) λt1 h1 h2=>?_;refine Zah (kn_bool (K:=K) hk) λt2 h3 h4=>?_;refine Zav _ _ ⟨⟨rfl,rfl⟩,_,rfl,_,h1,_,h2,Zc6 (λhc=>⟨_,_,⟨rfl,rfl⟩,_,rfl,_,h3,_,h4,?_⟩) (λhc=>?_)⟩
  .cases v <;> first|exact q|cases hc
  .cases v <;> first|exact q|exact absurd rfl hc
def frB (H:Hp):V->Bool
 | .ref a=>match H a with
  | some (.tup [.int x,.int y])=>decide (1<=y) && decide (Int.gcd x y=1)
  | _=>false
 | _=>false
def Zoy (p:Int)(H:Hp)(v:V):Bool:=if p=0 then frB H v else match v with
 | .int i=>decide (0<=i) && decide (i<p)
 | _=>false
def Zqj (p wd:Int)(H:Hp):V->Bool
 | .ref a=>match H a with
  | some (.lst xs)=>decide ((xs.length:Int)=wd) && xs.all (Zoy p H)
  | _=>false
 | _=>false
def Zqi (p:Int)(H:Hp):V->Bool
 | .ref a=>match H a with
  | some (.tup [.int h,.int wd,.ref r])=>match H r with
   | some (.lst rows)=>decide (0<=h) && decide (0<=wd) && decide ((rows.length:Int)=h) && rows.all (Zqj p wd H)
   | _=>false
  | _=>false
 | _=>false
def TopV (y:V):Prop:=∀ i,y=.int i->Top i
def WfN (H:Hp)(v:V):Prop:=Kn H v/\∀ a xs,v=.ref a->H a=some (.tup xs)->∀ y∈xs,Kn H y/\TopV y
def WfR (H:Hp)(v:V):Prop:=Kn H v/\∀ a xs,v=.ref a->H a=some (.lst xs)->∀ y∈xs,WfN H y
def WfT (H:Hp)(v:V):Prop:=Kn H v/\∀ a xs,v=.ref a->H a=some (.tup xs)->∀ y∈xs,Kn H y/\∀ r rows,y=.ref r->H r=some (.lst rows)->∀ z∈rows,WfR H z
theorem Kn.back {H H':Hp}{a:Addr}{o:HO}(h:Kn H (.ref a))(s:Same H H')(e:H' a=some o):H a=some o:=by
 rcases h with h|⟨_,h⟩|⟨_,h⟩|⟨_,h⟩|⟨b,xs,h1,h2,_⟩|⟨b,xs,h1,h2,_⟩
 .cases h
 .cases h
 .cases h
 .cases h
 .cases h1;rw[s _ _ h2] at e;rw[h2,e]
 .cases h1;rw[s _ _ h2] at e;rw[h2,e]
theorem Kn.at {H H':Hp}{a:Addr}(h:Kn H (.ref a))(s:Same H H'):H' a=H a:=by
 rcases h with h|⟨_,h⟩|⟨_,h⟩|⟨_,h⟩|⟨b,xs,h1,h2,_⟩|⟨b,xs,h1,h2,_⟩
 .cases h
 .cases h
 .cases h
 .cases h
 .cases h1;rw[s _ _ h2,h2]
 .cases h1;rw[s _ _ h2,h2]
theorem WfN.same {H H':Hp}{v:V}(h:WfN H v)(s:Same H H'):WfN H' v:=
 ⟨h.1.same s,λa xs e1 e2 y hy=>by subst e1;exact⟨(h.2 a xs rfl (h.1.back s e2) y hy).1.same s,(h.2 a xs rfl (h.1.back s e2) y hy).2⟩⟩
theorem WfR.same {H H':Hp}{v:V}(h:WfR H v)(s:Same H H'):WfR H' v:=
 ⟨h.1.same s,λa xs e1 e2 y hy=>by subst e1;exact (h.2 a xs rfl (h.1.back s e2) y hy).same s⟩
theorem Zme {H H':Hp}{p:Int}{v:V}(h:WfN H v)(s:Same H H'):Zoy p H' v=Zoy p H v:=by
 unfold Zoy;split
 .cases v <;> try rfl
  simp only[frB,h.1.at s]
 .rfl
theorem Zkj {α:Type}{f g:α->Bool}:∀ {xs:List α},(∀ x∈xs,f x=g x)->xs.all f=xs.all g
 | [],_=>rfl
 | x::xs,h=>by
  rw[Jdi,Jdi,h x Jb3,Zkj λy hy=>h y (Ja9 _ hy)]
theorem Zrq {H H':Hp}{p wd:Int}{v:V}(h:WfR H v)(s:Same H H'):Zqj p wd H' v=Zqj p wd H v:=by
 cases v <;> try rfl
 rename_i a
 simp only[Zqj,h.1.at s];split
 .rename_i xs e
  rw[Zkj λy hy=>Zme (h.2 a xs rfl e y hy) s]
 .rfl
theorem tu_of {H:Hp}{v:V}(h:Kn H v)(ht:Ztb H v=true):∃ a xs,v=.ref a/\H a=some (.tup xs)/\xs.length<=1000:=by
 rcases h with rfl|⟨b,rfl⟩|⟨i,rfl⟩|⟨z,rfl⟩|⟨a,xs,rfl,h2,_⟩|h
 .cases ht
 .cases ht
 .cases ht
 .cases ht
 .simp only [Ztb,h2] at ht;cases ht
 .exact h
theorem li_of {H:Hp}{v:V}(h:Kn H v)(ht:Zwg H v=true):∃ a xs,v=.ref a/\H a=some (.lst xs)/\xs.length<=1000:=by
 rcases h with rfl|⟨b,rfl⟩|⟨i,rfl⟩|⟨z,rfl⟩|h|⟨a,xs,rfl,h2,_⟩
 .cases ht
 .cases ht
 .cases ht
 .cases ht
 .exact h
 .simp only [Zwg,h2] at ht;cases ht
theorem Zqr {v:V}(h:whB v=true):∃ i,v=.int i:=by
 cases v <;> first|exact⟨_,rfl⟩|cases h
theorem frB_noT {H:Hp}{v:V}(h:Ztb H v=false):frB H v=false:=by
 cases v <;> try rfl
 simp only[Ztb] at h;simp only[frB];split
 .rename_i e;rw[e] at h;cases h
 .rfl
theorem frB_len {H:Hp}{a:Addr}{xs:List V}(h:H a=some (.tup xs))(hl:xs.length≠2):frB H (.ref a)=false:=by
 simp only[frB,h];split
 .rename_i e;cases e;exact absurd rfl hl
 .rfl
theorem Ztl {H:Hp}{a:Addr}{x y:V}(h:H a=some (.tup [x,y]))(hw:whB x=false\/whB y=false):frB H (.ref a)=false:=by
 simp only[frB,h];split
 .rename_i e
  cases e;rcases hw with hw|hw <;> cases hw
 .rfl
theorem Zo8 {H:Hp}{a:Addr}{x y:Int}(h:H a=some (.tup [.int x,.int y])):frB H (.ref a)=(decide (1<=y) && decide (Int.gcd x y=1)):=by
 simp only[frB,h]
def spFr:Sp:=λvs H Q _=>∃ v:V,vs=[v]/\WfN H v/\Q (.bl (frB H v)) H
theorem ok_fr (F:Fun K "is_fraction" "is_fraction" Zeo f fd)(T:Txt K mg C G S)(Yac:Cal P w K mg base "is_whole" 1 Zgs)(Yap:Cal P w K mg base "common_divisor" 1 spCd):FnOk P w K mg base CX0 2 f fd ["thing"] spFr:=by
 have nd:=Zf6.nd;refine F.ok Zf6 (λvs H Q E h=>?_) (λcdv A outer s H vs Q E hr h=>?_)
 .refine Zah h λv e91 _=>?_;clear h;obtain rfl:=e91;rfl
 .refine Zap h λv e92 e93 q=>?_;clear h;obtain rfl:=e92;obtain⟨hk,hx⟩:=e93;refine⟨_,((@Za7 _ _ _ _ _ _ _ _ (PW.pt (Zes (Zbq (Zbn (Za4 Zbe rfl T.n_isinstance Jbs ((pvr 0)<&>((Zhp rfl T.n_tuple boot_tuple)<&>Zab))))) (Zdq (Zat Zhq (Za4 Zak rfl T.n_len Ja6 ((pvr 0)<&>Zab)) Zac (Zao _))))) (~~~Ze8) Zan)<*>((Zcl (pvr 0) (@Zb8 _ _ _ _ _ 2 rfl ((1>>>nd)^^^((2>>>nd)^^^(@Za2 _))) ⇑1 ⇑1))<*>((@Za7 _ _ _ _ _ _ _ _ (PW.pt (Zes (Zbq (Zbn (Yac<$>hr<$>((pvr 1)<&>Zab)))) (Zes (Zbq (Zbn (Yac<$>hr<$>((pvr 2)<&>Zab)))) (Zdq (Zat Zjg (pvr 2) Zac (Zao _)))))) (~~~Ze8) Zan)<*>(~~~(Zd6 Zc5 (Yap<$>hr<$>((pvr 1)<&>((pvr 2)<&>Zab))) Zac (Zao _)))))),?_⟩;walk_at "wp";refine Zah (Zxn (K:=K) hk) λt1 h1 h2=>?_;refine Zav _ _ ⟨⟨rfl,rfl⟩,_,rfl,_,h1,_,h2,?_⟩;refine Zc6 (λhc=>?_) (λhc=>?_)
  .have hc:Ztb H v=false:=by simpa using hc
   rw[frB_noT hc] at q;exact q
  .have hc:Ztb H v=true:=by simpa using hc
   refine Za3 (tu_of hk hc) λa xs e94 ha hl=>?_;obtain rfl:=e94;refine⟨a,rfl,xs,.inr (SqT.of ha),Zc6 (λhn=>?_) (λhn=>?_)⟩
   .have hn:¬ xs.length=2:=by intro z;rw[z] at hn;exact absurd hn ⇑0
    rw[frB_len ha hn] at q;exact q
   .have hn:xs.length=2:=by
     have:((xs.length:Nat):Int)=2:=by simpa using hn
     omega
    obtain⟨x,y,rfl⟩:∃ x y,xs=[x,y]:=by
     match xs,hn with
     | [x,y],_=>exact⟨x,y,rfl⟩
    refine⟨a,rfl,_,SqT.of ha,rfl,_,_,rfl,_,_,rfl,rfl,x,rfl,(hx a _ rfl ha x (by simp)).1,_,rfl,Zc6 (λh1=>?_) (λh1=>?_)⟩
    .rw [Ztl ha (.inl (by simpa using h1))] at q;exact q
    .obtain ⟨i,rfl⟩:=Zqr (v:=x) (by simpa using h1);refine⟨y,rfl,(hx a _ rfl ha y (by simp)).1,_,rfl,Zc6 (λh2=>?_) (λh2=>?_)⟩
     .rw [Ztl ha (.inr (by simpa using h2))] at q;exact q
     .obtain ⟨j,rfl⟩:=Zqr (v:=y) (by simpa using h2);rw[Zo8 ha] at q;refine⟨j,rfl,Zc6 (λh3=>?_) (λh3=>?_)⟩
      .have h3:=Jaq h3;rw[Ja5 (show ¬ 1<=j by omega)] at q;exact q
      .have h3:¬ j<1:=λz=>h3 (Jag z);refine Zav i j ⟨rfl,(hx a _ rfl ha _ (by simp)).2 i rfl,∅,rfl,?_⟩;rw[Jag (show 1<=j by omega)] at q;have:decide (V.int (Int.gcd i j:Int)=V.int 1)=decide (Int.gcd i j=1):=by
        simp only[V.int.injEq];by_cases e:Int.gcd i j=1
        .rw [Jag e,Jag ∅]
        .rw [Ja5 e,Ja5 ∅]
       rw[this];exact q
def spIsN (G:Addr):Sp:=λvs H Q _=>∃ (g:Addr) (p:Int) (v:V),vs=[.ref g,v]/\GAt G H g p/\GroundP p/\WfN H v/\Q (.bl (Zoy p H v)) H
theorem numB_pr {p:Int}{H:Hp}{v:V}(hp:¬ p=0)(h:whB v=false):Zoy p H v=false:=by
 unfold Zoy;rw[if_neg hp];cases v <;> first|rfl|cases h
theorem Zox {p i:Int}{H:Hp}(hp:¬ p=0):Zoy p H (.int i)=(decide (0<=i) && decide (i<p)):=by
 unfold Zoy;rw[if_neg hp]
theorem Zsu {p:Int}{H:Hp}{v:V}(hp:p=0):Zoy p H v=frB H v:=by
 unfold Zoy;rw[if_pos hp]
theorem ok_isn (F:Fun K "is_number" "Ground.is_number" Zcd f fd)(T:Txt K mg C G S)(Yac:Cal P w K mg base "is_whole" 1 Zgs)(Ya5:Cal P w K mg base "is_fraction" 2 spFr):FnOk P w K mg base CX0 3 f fd ["self","thing"] (spIsN G):=by
 have nd:=Zdi.nd;refine F.ok Zdi (λvs H Q E h=>?_) (λcdv A outer s H vs Q E hr h=>?_)
 .refine Zfa h λg p v e95 _=>?_;clear h;obtain rfl:=e95;rfl
 .refine Zb3 h λg p v e96 e97 hp e98=>?_;clear h;obtain rfl:=e96;obtain⟨dx,hg⟩:=e97;obtain⟨hw,q⟩:=e98;refine⟨_,((@Za7 _ _ _ _ _ _ _ _ (Zat Zc5 (Zby (pvr 0) rfl) Zac (Zao _)) (~~~(Ya5<$>hr<$>((pvr 1)<&>Zab))) Zan)<*>(~~~(Zga (Yac<$>hr<$>((pvr 1)<&>Zab)) (Zf9 (Zos Zpy Zjg Zac (pvr 1) (Zby (pvr 0) rfl)))))),?_⟩;walk_at "wp";refine Za9 G dx _ ⟨hg,T.cl_Ground,T.nP,_,Zfy p,rfl,Zc6 (λhc=>?_) (λhc=>?_)⟩
  .have hp0:p=0:=by simpa using hc
   rw[Zsu hp0] at q;exact⟨v,rfl,hw,q⟩
  .have hp0:¬ p=0:=by simpa using hc
   refine⟨v,rfl,hw.1,_,rfl,Zc6 (λh1=>?_) (λh1=>?_)⟩
   .obtain ⟨i,rfl⟩:=Zqr h1;rw[Zox hp0] at q;refine⟨i,rfl,Zc6 (λh2=>⟨G,dx,_,hg,T.cl_Ground,T.nP,_,Zfy p,i,rfl,p,rfl,?_⟩) (λh2=>?_)⟩
    .rw [h2,Jep] at q;exact q
    .rw [show decide (0<=i)=false by simpa using h2,Jfa] at q;exact q
   .rw [numB_pr hp0 (by simpa using h1)] at q;exact q
theorem Zxz {f:V->Bool}(xs:List V):((List.range xs.length).map λi=>f (xs.getD i .non)).all id=xs.all f:=by
 rw[Jbw,Jbn,Jbn];constructor
 .intro h x hx;obtain⟨i,hi,rfl⟩:=Jbu.mp hx;have:=h (f (xs.getD i .non)) (Jan.mpr ⟨i,Jbz.mpr hi,rfl⟩);simpa [hi] using this
 .intro h b hb;refine Zah (Jan.mp hb) λi hi e99=>?_;obtain rfl:=e99;have hi:=Jbz.mp hi;simpa [hi] using h _ (Jbr hi)
theorem Ztk {xs:List V}{i:Nat}{x:V}(h:xs[i]?=some x):xs.getD i .non=x:=by rw[Jao,h];rfl
def Zq9 (G:Addr):Sp:=λvs H Q _=>∃ (g:Addr) (p wd:Int) (v:V),vs=[.ref g,.int wd,v]/\GAt G H g p/\GroundP p/\WfR H v/\∀ H',Same H H'->Q (.bl (Zqj p wd H v)) H'
theorem Zu4 {p wd:Int}{H:Hp}{v:V}(h:Zwg H v=false):Zqj p wd H v=false:=by
 cases v <;> try rfl
 simp only[Zwg] at h;simp only[Zqj];split
 .rename_i e;rw[e] at h;cases h
 .rfl
theorem Zrr {p wd:Int}{H:Hp}{a:Addr}{xs:List V}(h:H a=some (.lst xs)):Zqj p wd H (.ref a)=(decide ((xs.length:Int)=wd) && xs.all (Zoy p H)):=by
 simp only[Zqj,h]
theorem Zv1 (F:Fun K "is_row" "is_row" Zkz f fd)(T:Txt K mg C G S)(Ybe:CalM P w K mg base G "is_number" 3 (spIsN G)):FnOk P w K mg base CX0 4 f fd ["ground","wide","thing"] (Zq9 G):=by
 have nd:=Zl6.nd;refine F.ok Zl6 (λvs H Q E h=>?_) (λcdv A outer s H vs Q E hr h=>?_)
 .refine Zm2 h λg p wd v e910 _=>?_;clear h;obtain rfl:=e910;rfl
 .refine Zdt h λg p wd v e911 e912 hp e913=>?_;clear h;obtain rfl:=e911;obtain⟨dx,hg⟩:=e912;obtain⟨⟨hk,hx⟩,q⟩:=e913;refine⟨_,((@Za7 _ _ _ _ _ _ _ _ (PW.pt (Zes (Zbq (Zbn (Za4 Zbe rfl T.n_isinstance Jbs ((pvr 2)<&>((Zhp rfl T.n_list Jcf)<&>Zab))))) (Zdq (Zat Zhq (Za4 Zak rfl T.n_len Ja6 ((pvr 2)<&>Zab)) (pvr 1) (Zao _))))) (~~~Ze8) Zan)<*>(~~~(Za4 (Zdf rfl) rfl T.n_all Je6 ((Zax (own:=["number"]) (fr:=[("ground",0)]) rfl (Zbh (by kernel_rfl)) (Za1 (pv 2)) (λ_ _ _ _=>⟨(0<<<["number","ground"]),Za0,(Zor T.cl_Ground Ybe hr.m (pv 1) ((pv 0)<&>Zab))⟩))<&>Zab)))),?_⟩;walk_at "wp";refine Zah (Zs4 (K:=K) hk) λt1 h1 h2=>?_;refine Zav _ _ ⟨⟨rfl,rfl⟩,_,rfl,_,h1,_,h2,Zc6 (λhc=>?_) (λhc=>?_)⟩
  .rw [Zu4 (by simpa using hc)] at q;exact q H (Same.refl _)
  .refine Za3 (li_of hk (by simpa using hc)) λa xs e914 ha hl=>?_;obtain rfl:=e914;rw[Zrr ha] at q;refine⟨a,rfl,xs,.inl (SqL.of ha),Zc6 (λhn=>?_) (λhn=>?_)⟩
   .rw [show decide ((xs.length:Int)=wd)=false by simpa using hn,Jfa] at q;exact q H (Same.refl _)
   .rw [show decide ((xs.length:Int)=wd)=true by simpa using hn,Jep] at q;refine⟨_,rfl,a,rfl,⟨_,SqL.of ha⟩,λD hD=>Zg9 (λi=>Zoy p H (xs.getD i .non)) ha hD ∅ (λi y H' Q' hy s' q'=>?_) λH' s' e'=>⟨D,rfl,_,SqL.of e',?_⟩⟩
    .have wy:=hx a xs rfl ha y (Jai hy);refine⟨_,rfl,g,dx,_,rfl,s' _ _ hg,Zo4 _ ⋯,_,rfl,g,p,y,rfl,⟨dx,s' _ _ hg⟩,hp,wy.same s',?_⟩;rw[Zme wy s',<- Ztk hy];exact q' H' (Same.refl _)
    .rw [Zxz];exact q H' s'
def Zq8 (G:Addr):Sp:=λvs H Q _=>∃ (g:Addr) (p:Int) (v:V),vs=[.ref g,v]/\GAt G H g p/\GroundP p/\WfT H v/\∀ H',Same H H'->Q (.bl (Zqi p H v)) H'
theorem Zuu {p:Int}{H:Hp}{v:V}(h:Ztb H v=false):Zqi p H v=false:=by
 cases v <;> try rfl
 simp only[Ztb] at h;simp only[Zqi];split
 .rename_i e;rw[e] at h;cases h
 .rfl
theorem Zuv {p:Int}{H:Hp}{a:Addr}{xs:List V}(h:H a=some (.tup xs))(hl:xs.length≠3):Zqi p H (.ref a)=false:=by
 simp only[Zqi,h];split
 .rename_i e;cases e;exact absurd rfl hl
 .rfl
theorem Zjv {p:Int}{H:Hp}{a:Addr}{x y z:V}(h:H a=some (.tup [x,y,z]))(hw:whB x=false\/whB y=false):Zqi p H (.ref a)=false:=by
 simp only[Zqi,h];split
 .rename_i e
  cases e;rcases hw with hw|hw <;> cases hw
 .rfl
theorem Zin {p:Int}{H:Hp}{a:Addr}{i j:Int}{z:V}(h:H a=some (.tup [.int i,.int j,z]))(hw:(i<0\/j<0)\/Zwg H z=false):Zqi p H (.ref a)=false:=by
 simp only[Zqi,h];split
 .rename_i e
  cases e;split
  .rename_i rows e2
   rcases hw with (hw|hw)|hw
   .rw [Ja5 (show ¬ 0<=i by omega)];simp
   .rw [Ja5 (show ¬ 0<=j by omega)];simp
   .simp only [Zwg,e2] at hw;cases hw
  .rfl
 .rfl
theorem Zly {p:Int}{H:Hp}{a r:Addr}{i j:Int}{rows:List V}(h:H a=some (.tup [.int i,.int j,.ref r]))(hr:H r=some (.lst rows))(h0:¬ i<0)(h1:¬ j<0):Zqi p H (.ref a)=(decide ((rows.length:Int)=i) && rows.all (Zqj p j H)):=by
 simp only[Zqi,h,hr];rw[Jag (show 0<=i by omega),Jag (show 0<=j by omega)];rfl
theorem Zv0 (F:Fun K "is_table" "is_table" Zhk f fd)(T:Txt K mg C G S)(Yac:Cal P w K mg base "is_whole" 1 Zgs)(Yay:Cal P w K mg base "is_row" 4 (Zq9 G)):FnOk P w K mg base CX0 5 f fd ["ground","thing"] (Zq8 G):=by
 have nd:=Zix.nd;refine F.ok Zix (λvs H Q E h=>?_) (λcdv A outer s H vs Q E hr h=>?_)
 .refine Zfa h λg p v e915 _=>?_;clear h;obtain rfl:=e915;rfl
 .refine Zb3 h λg p v e916 e917 hp e918=>?_;clear h;obtain rfl:=e916;obtain⟨dx,hg⟩:=e917;obtain⟨⟨hk,hx⟩,q⟩:=e918;refine⟨_,((@Za7 _ _ _ _ _ _ _ _ (PW.pt (Zes (Zbq (Zbn (Za4 Zbe rfl T.n_isinstance Jbs ((pvr 1)<&>((Zhp rfl T.n_tuple boot_tuple)<&>Zab))))) (Zdq (Zat Zhq (Za4 Zak rfl T.n_len Ja6 ((pvr 1)<&>Zab)) Zac (Zao _))))) (~~~Ze8) Zan)<*>((Zcl (pvr 1) (@Zb8 _ _ _ _ _ 3 rfl ((2>>>nd)^^^((@Zad _ _ 3 _ nd rfl (Or.inr rfl) (Or.inl rfl))^^^((4>>>nd)^^^(@Za2 _)))) ⇑1 ⇑1))<*>((@Za7 _ _ _ _ _ _ _ _ (PW.pt (Zes (Zbq (Zbn (Yac<$>hr<$>((pvr 2)<&>Zab)))) (Zes (Zbq (Zbn (Yac<$>hr<$>((pvr 3)<&>Zab)))) (Zes (Zat Zjg (pvr 2) Zac (Zao _)) (Zdq (Zat Zjg (pvr 3) Zac (Zao _))))))) (~~~Ze8) Zan)<*>((@Za7 _ _ _ _ _ _ _ _ (PW.pt (Zes (Zbq (Zbn (Za4 Zbe rfl T.n_isinstance Jbs ((pvr 4)<&>((Zhp rfl T.n_list Jcf)<&>Zab))))) (Zdq (Zat Zhq (Za4 Zak rfl T.n_len Ja6 ((pvr 4)<&>Zab)) (pvr 2) (Zao _))))) (~~~Ze8) Zan)<*>(~~~(Za4 (Zdf rfl) rfl T.n_all Je6 ((Zax (own:=["row"]) (fr:=[("ground",0),("wide",3)]) rfl (Zbh (by kernel_rfl)) (Za1 (pv 4)) (λ_ _ _ _=>⟨(0<<<["row","ground","wide"]),Za0,(Yay<$>hr<$>((pv 1)<&>((pv 2)<&>((pv 0)<&>Zab))))⟩))<&>Zab))))))),?_⟩;walk_at "wp";refine Zah (Zxn (K:=K) hk) λt1 h1 h2=>?_;refine Zav _ _ ⟨⟨rfl,rfl⟩,_,rfl,_,h1,_,h2,Zc6 (λhc=>?_) (λhc=>?_)⟩
  .rw [Zuu (by simpa using hc)] at q;exact q H (Same.refl _)
  .refine Za3 (tu_of hk (by simpa using hc)) λa xs e919 ha hl=>?_;obtain rfl:=e919;refine⟨a,rfl,xs,.inr (SqT.of ha),Zc6 (λhn=>?_) (λhn=>?_)⟩
   .have hn:¬ xs.length=3:=by intro z;rw[z] at hn;exact absurd hn ⇑0
    rw[Zuv ha hn] at q;exact q H (Same.refl _)
   .have hn:xs.length=3:=by
     have:((xs.length:Nat):Int)=3:=by simpa using hn
     omega
    obtain⟨x,y,z,rfl⟩:∃ x y z,xs=[x,y,z]:=by
     match xs,hn with
     | [x,y,z],_=>exact⟨x,y,z,rfl⟩
    have kx:=(hx a _ rfl ha x (by simp)).1;have ky:=(hx a _ rfl ha y (by simp)).1;obtain⟨kz,hz⟩:=hx a _ rfl ha z (by simp);refine⟨a,rfl,_,SqT.of ha,rfl,_,_,rfl,_,_,rfl,_,_,rfl,rfl,x,rfl,kx,_,rfl,Zc6 (λh1=>?_) (λh1=>?_)⟩
    .rw [Zjv ha (.inl (by simpa using h1))] at q;exact q H (Same.refl _)
    .obtain ⟨i,rfl⟩:=Zqr (v:=x) (by simpa using h1);refine⟨y,rfl,ky,_,rfl,Zc6 (λh2=>?_) (λh2=>?_)⟩
     .rw [Zjv ha (.inr (by simpa using h2))] at q;exact q H (Same.refl _)
     .obtain ⟨j,rfl⟩:=Zqr (v:=y) (by simpa using h2);refine⟨i,rfl,Zc6 (λh3=>?_) (λh3=>⟨j,rfl,Zc6 (λh4=>?_) (λh4=>?_)⟩)⟩
      .rw [Zin ha (.inl (.inl (Jaq h3)))] at q;exact q H (Same.refl _)
      .rw [Zin ha (.inl (.inr (Jaq h4)))] at q;exact q H (Same.refl _)
      .have h3:¬ i<0:=λz=>h3 (Jag z);have h4:¬ j<0:=λz=>h4 (Jag z);refine Zah (Zs4 (K:=K) kz) λt3 h5 h6=>?_;refine Zav _ _ ⟨⟨rfl,rfl⟩,_,rfl,_,h5,_,h6,Zc6 (λhc2=>?_) (λhc2=>?_)⟩
       .rw [Zin ha (.inr (by simpa using hc2))] at q;exact q H (Same.refl _)
       .refine Za3 (li_of kz (by simpa using hc2)) λr rows e920 hr1 hrl=>?_;obtain rfl:=e920;rw[Zly ha hr1 h3 h4] at q;have ed:decide (V.int ((rows.length:Nat):Int)=V.int i)=decide ((rows.length:Int)=i):=by simp only[V.int.injEq]
        refine⟨r,rfl,rows,.inl (SqL.of hr1),rfl,Zc6 (λhn2=>?_) (λhn2=>?_)⟩
        .rw [ed] at hn2;rw[show decide ((rows.length:Int)=i)=false by simpa using hn2,Jfa] at q;exact q H (Same.refl _)
        .rw [ed] at hn2;rw[show decide ((rows.length:Int)=i)=true by simpa using hn2,Jep] at q;refine⟨_,rfl,r,rfl,⟨_,SqL.of hr1⟩,λD hD=>Zg9 (λk=>Zqj p j H (rows.getD k .non)) hr1 hD ∅ (λk y H' Q' hy s' q'=>?_) λH' s' e'=>⟨D,rfl,_,SqL.of e',?_⟩⟩
         .have wy:=hz r rows rfl hr1 y (Jai hy);refine⟨_,rfl,_,rfl,_,rfl,g,p,j,y,rfl,⟨dx,s' _ _ hg⟩,hp,wy.same s',λH2 s2=>?_⟩;rw[Zrq wy s',<- Ztk hy];exact q' H2 s2
         .rw [Zxz];exact q H' s'
def NumO (H:Hp)(p:Int)(B:Nat)(v:V):Prop:=∃ x,NumV H p v x/\Isn p x/\Bd B x
theorem NumO.same {H H':Hp}{p:Int}{B:Nat}{v:V}(h:NumO H p B v)(s:Same H H'):NumO H' p B v:=let ⟨x,a,b,c⟩:=h;⟨x,a.same s,b,c⟩
theorem NumO.weak {H:Hp}{p:Int}{B B':Nat}{v:V}(h:NumO H p B v)(hB:B<=B'):NumO H p B' v:=let ⟨x,a,b,c⟩:=h;⟨x,a,b,Jbf c.1 hB,Jbf c.2 hB⟩
theorem NumO.put {H:Hp}{D:Addr}{l:List V}{o:HO}{p:Int}{B:Nat}{v:V}(h:NumO H p B v)(hD:H D=some (.lst l)):NumO (upd H D o) p B v:=by
 refine Zap h λx a b c=>?_;clear h;refine⟨x,?_,b,c⟩;by_cases hp:p=0
 .refine Zah (a.ref hp) λt e93 ht=>?_;obtain rfl:=e93;exact NumV.tup hp (by rw[Zag (Zcz ht hD (by intro z;cases z))];exact ht)
 .obtain rfl:=a.int hp;exact NumV.of hp
theorem NumV.ext {l:Addr}{H H':Hp}{p:Int}{v:V}{x:Int×Int}(h:NumV H p v x)(b:Bag H l)(e:Ext l H H'):NumV H' p v x:=by
 by_cases hp:p=0
 .refine Zah (h.ref hp) λt e94 ht=>?_;obtain rfl:=e94;refine Zbg b λa c hb _=>?_;clear b;exact NumV.tup hp (e _ _ (Zcz ht hb (by intro z;cases z)) ht)
 .obtain rfl:=h.int hp;exact NumV.of hp
theorem NumO.ext {l:Addr}{H H':Hp}{p:Int}{B:Nat}{v:V}(h:NumO H p B v)(b:Bag H l)(e:Ext l H H'):NumO H' p B v:=let ⟨x,a,c,d⟩:=h;⟨x,a.ext b e,c,d⟩
def RowO (H:Hp)(p:Int)(B:Nat)(wd:Int)(a:Addr):Prop:=∃ xs,H a=some (.lst xs)/\(xs.length:Int)=wd/\∀ x∈xs,NumO H p B x
theorem RowO.same {H H':Hp}{p wd:Int}{B:Nat}{a:Addr}(h:RowO H p B wd a)(s:Same H H'):RowO H' p B wd a:=let ⟨xs,h1,h2,h3⟩:=h;⟨xs,s _ _ h1,h2,λx hx=>(h3 x hx).same s⟩
theorem RowO.put {H:Hp}{D:Addr}{l:List V}{o:HO}{p wd:Int}{B:Nat}{a:Addr}(h:RowO H p B wd a)(hD:H D=some (.lst l))(n:a≠D):RowO (upd H D o) p B wd a:=let ⟨xs,h1,h2,h3⟩:=h;⟨xs,by rw[Zag n];exact h1,h2,λx hx=>(h3 x hx).put hD⟩
theorem Zbs (rs:List Addr)(a:Addr):rs.map V.ref++[.ref a]=(rs++[a]).map V.ref:=by rw[Jaw];rfl
abbrev BB:Nat:=10000
theorem Zo5 {rs:List Addr}{j:Nat}(h:j<rs.length):(rs.map V.ref)[j]?=some (.ref rs[j]):=by rw[Jau,Jaa h];rfl
structure Tab (H:Hp)(p:Int)(hh wd:Int)(t r:Addr)(rs:List Addr):Prop where
 tup:H t=some (.tup [.int hh,.int wd,.ref r])
 lst:H r=some (.lst (rs.map V.ref))
 len:(rs.length:Int)=hh
 row:∀ a∈rs,RowO H p BB wd a
 nin:r∉rs
theorem Tab.same {H H':Hp}{p hh wd:Int}{t r:Addr}{rs:List Addr}(h:Tab H p hh wd t r rs)(s:Same H H'):Tab H' p hh wd t r rs:=⟨s _ _ h.tup,s _ _ h.lst,h.len,λa ha=>(h.row a ha).same s,h.nin⟩
def Fl (v:V):Prop:=v=.non\/(∃ b,v=.bl b)\/(∃ i,v=.int i)\/∃ s,v=.str s
theorem Fl.kn {H:Hp}{v:V}(h:Fl v):Kn H v:=by
 rcases h with h|h|h|h
 .exact .inl h
 .exact .inr (.inl h)
 .exact .inr (.inr (.inl h))
 .exact .inr (.inr (.inr (.inl h)))
theorem Zun {H:Hp}{v:V}(h:Kn H v)(hn:∀ a,v≠.ref a):WfN H v:=⟨h,λa xs e=>absurd e (hn a)⟩
theorem wfn_tup {H:Hp}{a:Addr}{xs:List V}(h:H a=some (.tup xs))(hl:xs.length<=1000)(hk:∀ y∈xs,Kn H y/\TopV y):WfN H (.ref a):=⟨.tup h hl,λb ys e1 e2 y hy=>by cases e1;rw[h] at e2;cases e2;exact hk y hy⟩
def Zib (H:Hp)(v:V):Prop:=Kn H v/\∀ r rows,v=.ref r->H r=some (.lst rows)->∀ z∈rows,WfR H z
theorem NumO.wf {H:Hp}{p:Int}{B:Nat}{v:V}(h:NumO H p B v)(hB:B<=100000000000000000000000000000000:=by decide):WfN H v:=by
 refine Zap h λx nv _ bd=>?_;clear h;by_cases hp:p=0
 .refine Zah (nv.ref hp) λt e96 ht=>?_;obtain rfl:=e96;refine wfn_tup ht (by show 2<=1000;decide) λu hu=>?_;simp only[Jax,Jel,or_false] at hu;rcases hu with rfl|rfl
  .exact ⟨Kn.int,λj e=>by cases e;exact Top.of (Jbf bd.1 ∅)⟩
  .exact ⟨Kn.int,λj e=>by cases e;exact Top.of (Jbf bd.2 ∅)⟩
 .obtain rfl:=nv.int hp;exact Zun Kn.int (by intro a z;cases z)
theorem RowO.wf {H:Hp}{p wd:Int}{B:Nat}{a:Addr}(h:RowO H p B wd a)(w24:wd<=24)(hB:B<=100000000000000000000000000000000:=by decide):WfR H (.ref a):=by
 refine Zap h λxs h1 h2 h3=>?_;clear h;exact⟨.lst h1 ∅,λb ys e1 e2 y hy=>by cases e1;rw[h1] at e2;cases e2;exact (h3 y hy).wf hB⟩
theorem wfs_lst {H:Hp}{a:Addr}{xs:List V}(h:H a=some (.lst xs))(hl:xs.length<=1000)(hk:∀ y∈xs,WfR H y):Zib H (.ref a):=⟨.lst h hl,λb ys e1 e2 y hy=>by cases e1;rw[h] at e2;cases e2;exact hk y hy⟩
theorem wft_tup {H:Hp}{a:Addr}{xs:List V}(h:H a=some (.tup xs))(hl:xs.length<=1000)(hk:∀ y∈xs,Zib H y):WfT H (.ref a):=⟨.tup h hl,λb ys e1 e2 y hy=>by cases e1;rw[h] at e2;cases e2;exact hk y hy⟩
theorem Zn9 {H:Hp}{v:V}(h:Fl v):Zib H v:=⟨h.kn,λa xs e=>by subst e;rcases h with h|⟨_,h⟩|⟨_,h⟩|⟨_,h⟩ <;> cases h⟩
theorem fi {i:Int}:Fl (.int i):=.inr (.inr (.inl ⟨_,rfl⟩))
theorem fb {i:Bool}:Fl (.bl i):=.inr (.inl ⟨_,rfl⟩)
theorem Tab.wfs {H:Hp}{p hh wd:Int}{t r:Addr}{rs:List Addr}(h:Tab H p hh wd t r rs)(h24:hh<=24)(w24:wd<=24):Zib H (.ref r):=by
 have:=h.len;exact wfs_lst h.lst (by rw[Jab];omega) λy hy=>by obtain⟨a,ha,rfl⟩:=Jan.mp hy;exact (h.row a ha).wf w24
theorem three {H:Hp}{x y z:V}(hx:Zib H x)(hy:Zib H y)(hz:Zib H z):∀ u∈[x,y,z],Zib H u:=λu hu=>by
 simp only[Jax,Jel,or_false] at hu;rcases hu with rfl|rfl|rfl
 .exact hx
 .exact hy
 .exact hz
theorem Tab.wft {H:Hp}{p hh wd:Int}{t r:Addr}{rs:List Addr}(h:Tab H p hh wd t r rs)(h24:hh<=24)(w24:wd<=24):WfT H (.ref t):=
 wft_tup h.tup (by show 3<=1000;decide) (three (Zn9 fi) (Zn9 fi) (h.wfs h24 w24))
theorem NumO.is {H:Hp}{p:Int}{B:Nat}{v:V}(h:NumO H p B v):Zoy p H v=true:=by
 refine Zap h λx nv ix _=>?_;clear h;by_cases hp:p=0
 .refine Zah (nv.ref hp) λt e97 ht=>?_;obtain rfl:=e97;rw[Zsu hp,Zo8 ht];rcases ix with ⟨_,lo⟩|⟨h,_⟩
  .have:=lo.1;rw[Jag (show 1<=x.2 by omega),Jag lo.2];rfl
  .omega
 .obtain rfl:=nv.int hp;rw[Zox hp];rcases ix with ⟨h,_⟩|⟨_,h1,h2,_⟩
  .exact absurd h hp
  .rw [Jag h1,Jag h2];rfl
theorem RowO.is {H:Hp}{p wd:Int}{B:Nat}{a:Addr}(h:RowO H p B wd a):Zqj p wd H (.ref a)=true:=by
 refine Zap h λxs h1 h2 h3=>?_;clear h;rw[Zrr h1,Jag h2,Jep];exact Jbn.mpr λx hx=>(h3 x hx).is
theorem Tab.is {H:Hp}{p hh wd:Int}{t r:Addr}{rs:List Addr}(h:Tab H p hh wd t r rs)(h0:0<=hh)(w0:0<=wd):Zqi p H (.ref t)=true:=by
 rw[Zly h.tup h.lst ∅ ∅,Jab,Jag h.len,Jep];exact Jbn.mpr λy hy=>by obtain⟨a,ha,rfl⟩:=Jan.mp hy;exact (h.row a ha).is
def Zrf:Sp:=λvs H Q _=>∃ p:Int,vs=[.int 1,.int p]/\1<p/\∀ H',Same H H'->Q (.int 1) H'
theorem ok_inv (F:Fun K "inverse" "inverse" Zi9 f fd)(T:Txt K mg C G S):FnOk P w K mg base CX0 1 f fd ["rest","prime"] Zrf:=by
 have nd:=Zj5.nd;refine F.ok Zj5 (λvs H Q E h=>?_) (λcdv A outer s H vs Q E hr h=>?_)
 .refine Zah h λp e92 _=>?_;clear h;obtain rfl:=e92;rfl
 .refine Zap h λp e93 hp q=>?_;clear h;obtain rfl:=e93;refine⟨_,((Zj9 (i:=2) (j:=3) rfl nd rfl rfl ⇑0 rfl rfl ((pvr 0)<&>((pvr 1)<&>Zab)) rfl)<*>((Zcl (@Zaq _ _ _ _ _ (Zac<&>(Zac<&>Zab))) (@Zb8 _ _ _ _ _ 2 rfl ((4>>>nd)^^^((5>>>nd)^^^(@Za2 _))) ⇑1 ⇑1))<*>((Zdx Ja7 (Za5 Zg4 (pv 2) Zac (Zao _)) ((6|||nd|||((opJ Zk8)<|>(pvr 3)<&&>(pvr 2)))<*>((Zj9 (i:=2) (j:=3) rfl nd rfl rfl ⇑0 rfl rfl (((Zsc Zdy)<|>(pvr 3)<&&>((opJ Zh9)<|>(pvr 6)<&&>(pvr 2)))<&>((pvr 2)<&>Zab)) rfl)<*>(@Zam _ _ _ (Zj9 (i:=4) (j:=5) rfl nd rfl rfl ⇑0 rfl rfl (((Zsc Zdy)<|>(pvr 5)<&&>((opJ Zh9)<|>(pvr 6)<&&>(pvr 4)))<&>((pvr 4)<&>Zab)) rfl)))))<*>(~~~((opJ Zc9)<|>(pvr 4)<&&>(pvr 1)))))),?_⟩;walk_at "wp";refine Zav _ _ ⟨⟨rfl,rfl⟩,⇑0,λt ht=>⟨_,SqT.of Zaa,rfl,_,_,rfl,_,_,rfl,rfl,?_⟩⟩;refine⟨λn σ H2=>σ=[some (V.int 1),some (V.int p),some (V.int 1),some (V.int p),some (V.int 1),some (V.int 0),none]/\H2=upd H t (.tup [V.int 1,V.int 0]),⟨0,rfl,rfl⟩,?_⟩;intro n σ H2 e91;obtain⟨rfl,rfl⟩:=e91;walk_at "wp";have e:(1:Int) % p=1:=Jfk ⇑0 hp;refine Zgd ⇑0 ⟨∅,?_⟩;rw[e];exact q _ (Same.new ht)
def Zkq:Sp:=λvs H Q _=>∃ p:Int,vs=[.int 0,.int 1,.int p]/\1<p/\∀ H',Same H H'->Q (.int 0) H'
theorem Zsl (F:Fun K "rest_of" "rest_of" Zi1 f fd)(T:Txt K mg C G S)(Yaw:Cal P w K mg base "inverse" 1 Zrf):FnOk P w K mg base CX0 2 f fd ["top","bottom","prime"] Zkq:=by
 have nd:=Zjx.nd;refine F.ok Zjx (λvs H Q E h=>?_) (λcdv A outer s H vs Q E hr h=>?_)
 .refine Zah h λp e94 _=>?_;clear h;obtain rfl:=e94;rfl
 .refine Zap h λp e95 hp q=>?_;clear h;obtain rfl:=e95;refine⟨_,((3|||nd|||((opJ Zc9)<|>(pvr 1)<&&>(pvr 2)))<*>((@Za7 _ _ _ _ _ _ _ _ (Zat (Zpz Zc5) (pvr 3) Zac (Zao _)) (@Zam _ _ _ Zbm) Zan)<*>(~~~(Zc9<|>(Zh9<|>(pvr 0)<&&>(Yaw<$>hr<$>((pvr 3)<&>((pvr 2)<&>Zab))))<&&>(pvr 2))))),?_⟩;walk_at "wp";have e:(1:Int) % p=1:=Jfk ⇑0 hp;rw[e];refine⟨∅,Zgd ⇑0 ⟨p,rfl,hp,λH' s'=>⟨1,rfl,.inl ⟨⇑0,⇑0⟩,∅,?_⟩⟩⟩;rw[Jdt,Int.zero_emod];exact q H' s'
def Zrd (G:Addr):Sp:=λvs H Q _=>∃ (g:Addr) (p:Int),vs=[.ref g,.int 0,.int 1]/\GAt G H g p/\GroundP p/\∀ v H',Same H H'->NumV H' p v (0,1)->Q v H'
theorem ok_numb {f D:Addr}{fd:FuncData}(F:FunD K "number" "Ground.number" Zaw f fd D)(T:Txt K mg C G S)(Ybd:Cal P w K mg base "fraction" 2 Zip)(Ybu:Cal P w K mg base "rest_of" 2 Zkq):FnOk P w K mg base CX0 3 f fd ["self","top","bottom"] (Zrd G):=by
 have nd:=Ze5.nd;refine F.ok Ze5 (λvs H Q E h=>?_) (λcdv A outer s H vs Q E hr h=>?_)
 .refine Zbg h λg p e96 _=>?_;clear h;obtain rfl:=e96;rfl
 .refine Zeh h λg p e97 e98 hp q=>?_;clear h;obtain rfl:=e97;obtain⟨dx,hg⟩:=e98;refine⟨_,((@Za7 _ _ _ _ _ _ _ _ (Zat Zc5 (Zby (pvr 0) rfl) Zac (Zao _)) (~~~(Ybd<$>hr<$>((pvr 1)<&>((pvr 2)<&>Zab)))) Zan)<*>(~~~(Ybu<$>hr<$>((pvr 1)<&>((pvr 2)<&>((Zby (pvr 0) rfl)<&>Zab)))))),?_⟩;walk_at "wp";refine Za9 G dx _ ⟨hg,T.cl_Ground,T.nP,_,Zfy p,rfl,Zc6 (λhc=>?_) (λhc=>?_)⟩
  .have hp0:p=0:=by simpa using hc
   exact Zav 0 1 ⟨rfl,Top.of ⇑0,⇑0,⇑0,λt ht=>q _ _ (Same.new ht) (NumV.tup hp0 (by rw[Zaa];rfl))⟩
  .have hp0:¬ p=0:=by simpa using hc
   have hp1:1<p:=by rcases hp with h|⟨h,_⟩ <;> omega
   exact Za9 G dx _ ⟨hg,T.cl_Ground,T.nP,_,Zfy p,p,rfl,hp1,λH' s'=>q _ H' s' (NumV.of (x:=(0,1)) hp0)⟩
structure TabC (H:Hp)(p hh wd:Int)(t r:Addr)(rs:List Addr)(M:List (List V)):Prop where
 tab:Tab H p hh wd t r rs
 con:∀ (i:Nat) (a:Addr),rs[i]?=some a->H a=some (.lst (M.getD i []))
theorem TabC.same {H H':Hp}{p hh wd:Int}{t r:Addr}{rs:List Addr}{M:List (List V)}(h:TabC H p hh wd t r rs M)(s:Same H H'):TabC H' p hh wd t r rs M:=⟨h.tab.same s,λi a e=>s _ _ (h.con i a e)⟩
def Sizes (H:Hp)(z:Addr)(ns:List Int):Prop:=H z=some (.lst (ns.map V.int))/\ns.length<=8/\∀ n∈ns,0<=n/\n<=24
theorem Sizes.same {H H':Hp}{z:Addr}{ns:List Int}(h:Sizes H z ns)(s:Same H H'):Sizes H' z ns:=⟨s _ _ h.1,h.2⟩
def spSz (C:Addr):Sp:=λvs H Q _=>∃ (d z lp:Addr) (m:Int) (xs:List V) (ns:List Int),vs=[.ref d,.ref z]/\Zge C H d m lp xs/\Sizes H z ns/\(ns.length:Int)=m/\∀ H',Same H H'->Q (.bl true) H'
theorem ok_sz (F:Fun K "are_sizes" "are_sizes" Zgm f fd)(T:Txt K mg C G S)(Yac:Cal P w K mg base "is_whole" 1 Zhe):FnOk P w K mg base CX0 2 f fd ["drawing","thing"] (spSz C):=by
 have nd:=Zh6.nd;refine F.ok Zh6 (λvs H Q E h=>?_) (λcdv A outer s H vs Q E hr h=>?_)
 .refine Zls h λd z lp m xs ns e94 _=>?_;clear h;obtain rfl:=e94;rfl
 .refine Zkl h λd z lp m xs ns e95 e96 e97 e98=>?_;clear h;obtain rfl:=e95;obtain⟨dx,hd,hlp⟩:=e96;obtain⟨hz,h8,hn⟩:=e97;obtain⟨hm,q⟩:=e98;refine⟨_,((@Za7 _ _ _ _ _ _ _ _ (PW.pt (Zes (Zbq (Zbn (Za4 Zbe rfl T.n_isinstance Jbs ((pvr 1)<&>((Zhp rfl T.n_list Jcf)<&>Zab))))) (Zdq (Zat Zhq (Za4 Zak rfl T.n_len Ja6 ((pvr 1)<&>Zab)) (Zby (pvr 0) rfl) (Zao _))))) (~~~Ze8) Zan)<*>(~~~(Za4 (Zdf rfl) rfl T.n_all Je6 ((Zax (own:=["size"]) (fr:=[]) rfl (Zbh (by kernel_rfl)) (Za1 (pv 1)) (λ_ _ _ _=>⟨(0<<<["size"]),Za0,(Zga (Yac<$>hr<$>((pv 0)<&>Zab)) (Zf9 (Zd6 op_ge (pv 0) Zac (Zao _))))⟩))<&>Zab)))),?_⟩;walk_at "wp";refine Zav _ _ ⟨⟨rfl,rfl⟩,_,rfl,_,.lst hz,true,Zev K,Zgd ⇑0 ⟨_,.inl (SqL.of hz),C,dx,_,hd,T.cl_Drawing,T.nM,_,Zc0 m lp,rfl,Zgd ?_ ⟨_,rfl,z,rfl,⟨_,SqL.of hz⟩,λD hD=>Zg9 (λ_=>true) hz hD (by rw[Jab];omega) (λk x H' Q' hx s' q'=>?_) λH' s' e'=>⟨D,rfl,_,SqL.of e',?_⟩⟩⟩⟩
  .rw [Jag (by rw[Jab,hm])];decide
  .rw [Jau] at hx;cases e:ns[k]? with
   | none=>rw[e] at hx;cases hx
   | some n=>
    rw[e] at hx;cases hx;have n0:=(hn n (Jai e)).1;refine⟨_,rfl,n,rfl,true,rfl,iteT ⟨_,rfl,_,_,rfl,rfl,?_⟩⟩;show Q' (V.bl (decide (0<=n))) H';rw[Jag n0];exact q' H' (Same.refl _)
  .rw [Zhd];exact q H' s'
def spTo (G:Addr):Sp:=λvs H Q _=>∃ (g t r:Addr) (p hh wd:Int) (rs:List Addr),vs=[.ref g,.int hh,.int wd,.ref t]/\GAt G H g p/\GroundP p/\Tab H p hh wd t r rs/\0<=hh/\hh<=24/\0<=wd/\wd<=24/\∀ H',Same H H'->Q (.bl true) H'
theorem ok_to (F:Fun K "is_table_of" "is_table_of" Zen f fd)(T:Txt K mg C G S)(Yar:Cal P w K mg base "is_table" 5 (Zq8 G)):FnOk P w K mg base CX0 6 f fd ["ground","high","wide","thing"] (spTo G):=by
 have nd:=Zf5.nd;refine F.ok Zf5 (λvs H Q E h=>?_) (λcdv A outer s H vs Q E hr h=>?_)
 .refine xE7_2 h λg t r p hh wd rs e99 _=>?_;clear h;obtain rfl:=e99;rfl
 .refine xE7_4 h λg t r p hh wd rs e910 hg hp e911=>?_;clear h;obtain rfl:=e910;refine Zgf e911 λtb h0 h24 w0 w24 q=>?_;clear e911;refine⟨_,(~~~(Zga (Yar<$>hr<$>((pvr 0)<&>((pvr 3)<&>Zab))) (Zga (Zd6 Zc5 ((ixTJ Zg6)<|>(pvr 3)<||>Zac) (pvr 1) (Zao _)) (Zf9 (Zd6 Zc5 ((ixTJ Zg6)<|>(pvr 3)<||>Zac) (pvr 2) (Zao _)))))),?_⟩;walk_at "wp";exact Za9 g p (.ref t) ⟨rfl,hg,hp,tb.wft h24 w24,λH1 s1=>⟨_,rfl,Zlq (tb.is h0 w0) ⟨_,SqT.of (s1 _ _ tb.tup),_,rfl,rfl,Zlq (Jag rfl) ⟨_,SqT.of (s1 _ _ tb.tup),_,rfl,rfl,by rw[Jag rfl];exact q H1 s1⟩⟩⟩⟩
theorem Zoi {cap:L2.St}{a b c:Option V}:Sh 3 cap (a::b::c::cap):=⟨[a,b,c],rfl,rfl⟩
theorem Zkt {cap σ:L2.St}(h:Sh 3 cap σ):∃ a b c,σ=a::b::c::cap:=by
 refine Zah h λo h1 e912=>?_;clear h;obtain rfl:=e912
 match o,h1 with
 | [a,b,c],_=>exact⟨a,b,c,rfl⟩
theorem Zki {ns:List Int}{i:Int}(h0:0<=i)(h1:i<ns.length):atI (ns.map V.int) i=some (.int (ns.getD i.toNat 0)):=by
 refine Zck h0 ?_;rw[Jau,Jao,Jaa (show i.toNat<ns.length by exact Zpx h0 h1)];rfl
def spTs (C G:Addr):Sp:=λvs H Q _=>∃ (g d z l lp:Addr) (p m:Int) (xs:List V) (ps:List (Int×Int)) (ns:List Int) (ts:List Addr),vs=[.ref g,.ref d,.ref z,.ref l]/\GAt G H g p/\GroundP p/\Zge C H d m lp xs/\Prs H xs ps/\InP m ps/\ps.length<=9/\Sizes H z ns/\(ns.length:Int)=m /\
 H l=some (.lst (ts.map V.ref))/\ts.length=ps.length/\(∀ (i:Nat) t q,ts[i]?=some t->ps[i]?=some q->∃ r rs,Tab H p (ns.getD q.2.toNat 0) (ns.getD q.1.toNat 0) t r rs)/\∀ H',Same H H'->Q (.bl true) H'
theorem ok_ts (F:Fun K "are_tables" "are_tables" Zfk f fd)(T:Txt K mg C G S)(Yb1:Cal P w K mg base "is_table_of" 6 (spTo G)):FnOk P w K mg base CX0 7 f fd ["ground","drawing","sizes","thing"] (spTs C G):=by
 have nd:=Zg0.nd;refine F.ok Zg0 (λvs H Q E h=>?_) (λcdv A outer s H vs Q E hr h=>?_)
 .refine xE11_2 h λg d z l lp p m xs ps ns ts e913 _=>?_;clear h;obtain rfl:=e913;rfl
 .refine xE11_4 h λg d z l lp p m xs ps ns ts e914 hg hp e915=>?_;clear h;obtain rfl:=e914;refine Zn8 e915 λe916 pr ip p9 hz hm hl hlen tb q=>?_;clear e915;obtain⟨dx,hd,hlp⟩:=e916;refine⟨_,((@Za7 _ _ _ _ _ _ _ _ (PW.pt (Zes (Zbq (Zbn (Za4 Zbe rfl T.n_isinstance Jbs ((pvr 3)<&>((Zhp rfl T.n_list Jcf)<&>Zab))))) (Zdq (Zat Zhq (Za4 Zak rfl T.n_len Ja6 ((pvr 3)<&>Zab)) (Za4 Zak rfl T.n_len Ja6 ((Zby (pvr 1) rfl)<&>Zab)) (Zao _))))) (~~~Ze8) Zan)<*>(~~~(Za4 (Zdf rfl) rfl T.n_all Je6 ((Zax (own:=["tail","head","table"]) (fr:=[("ground",0),("sizes",2)]) rfl (Zbh (by kernel_rfl)) (Zje rfl T.n_zip ((Zbk (pv 1) rfl)<&>((pv 3)<&>Zab))) (λ_ _ _ _=>⟨(@Zcr _ K rfl _ _ _ _ 2 rfl ((@Zcr _ K rfl _ _ _ _ 2 rfl ((0<<<["tail","head","table","ground","sizes"])^^^((1<<<["tail","head","table","ground","sizes"])^^^(@Za2 _))) ⇑1 ⇑1)^^^((2<<<["tail","head","table","ground","sizes"])^^^(@Za2 _))) ⇑1 ⇑1),Za0,(Yb1<$>hr<$>((pv 3)<&>(((Zew K rfl)<|>(pv 4)<||>(pv 1))<&>(((Zew K rfl)<|>(pv 4)<||>(pv 0))<&>((pv 2)<&>Zab)))))⟩))<&>Zab)))),?_⟩;walk_at "wp";have hxl:=pr.1;refine Zav _ _ ⟨⟨rfl,rfl⟩,_,rfl,_,.lst hl,true,Zev K,Zgd ⇑0 ⟨_,.inl (SqL.of hl),C,dx,_,hd,T.cl_Drawing,T.nA,_,Zay m lp,lp,rfl,_,.inl (SqL.of hlp),Zgd ?_ ?_⟩⟩
  .rw [Jag (by rw[Jab];exact oz226 hlen hxl)];decide
  .refine ⟨_,rfl,d,C,dx,_,_,rfl,hd,T.cl_Drawing,T.nA,Zay m lp,_,rfl,lp,l,rfl,⟨_,SqL.of hlp⟩,⟨_,SqL.of hl⟩,λD hD=>?_⟩;refine Zlg (k:=3) (xs:=xs) (ys:=ts.map V.ref) (λi vs H'=>Same H H'/\H' D=some (.lst vs)/\vs=((List.range i).map λ_=>true).map V.bl) (by rw[Jab];exact oz14 hlen hxl) ⟨Same.new hD,Zaa,rfl⟩ (λi vs H' _ pv=>⟨SqL.of (pv.1 _ _ hlp),SqL.of (pv.1 _ _ hl)⟩) ?_ ?_
   .intro i x y pz vs σ' H' hi hx hy hpz sh e91;refine Zar e91 λs' e' e917=>?_;clear e91;obtain rfl:=e917;refine Zum (Zkt sh) λz1 z2 z3 e918=>?_;obtain rfl:=e918;have hi':i<ps.length:=by exact oz6 hxl hi
    have hq:ps[i]?=some ps[i]:=Jaa hi';refine Zah (pr.2 i x _ hx hq) λta e919 hta=>?_;obtain rfl:=e919;have hti:ts[i]?=some (ts[i]'(oz124 hlen hxl hi)):=Jaa (oz124 hlen hxl hi);rw[Jau,hti] at hy;cases hy;refine Zpl (tb i _ _ hti hq) λr rs tb1=>?_;refine Zbx (ip _ (Jai hq)) λi0 i1 j0 j1=>?_;have s0:=s'.trans (Same.new (o:=.tup [V.ref ta,V.ref (ts[i]'(oz78 hlen hi'))]) hpz);have hz0:=hz.same s0;have a1:=Zki (ns:=ns) i0 (oz179 hm i1);have a2:=Zki (ns:=ns) j0 (oz179 hm j1);have b1:=hz.2.2 (ns.getD ps[i].1.toNat 0) (by rw[Jao,Jaa (show ps[i].1.toNat<ns.length by exact oz56 hm i0 i1)];exact Jbr _);have b2:=hz.2.2 (ns.getD ps[i].2.toNat 0) (by rw[Jao,Jaa (show ps[i].2.toNat<ns.length by exact oz56 hm j0 j1)];exact Jbr _);refine Zav pz _ ⟨rfl,SqT.of Zaa,rfl,_,_,rfl,ta,_,rfl,SqT.of (s0 _ _ hta),rfl,_,_,rfl,_,_,rfl,rfl,_,_,rfl,rfl,?_⟩;simp only[Zfb,List.set_cons_zero,List.set_cons_succ,Jck];refine⟨_,rfl,_,rfl,_,rfl,z,_,_,_,rfl,rfl,SqL.of hz0.1,a2,_,rfl,_,rfl,z,_,_,_,rfl,rfl,SqL.of hz0.1,a1,_,rfl,g,_,r,p,_,_,rs,rfl,hg.same s0,hp,tb1.same s0,b2.1,b2.2,b1.1,b1.2,λH'' s''=>?_⟩;have s1:=(Same.new (o:=.tup [V.ref ta,V.ref (ts[i]'(oz78 hlen hi'))]) hpz).trans s'';exact leaf (ws:=((List.range (i+1)).map λ_=>true).map V.bl) hi Zoi (s1 _ _ e') (Zaj (by rw[Jab,Jab,Jb6];exact oz145 p9 hi')) ⟨(s'.trans s1).upd hD,by rw[Zaa,Jdg,Jaw,Jaw];rfl,rfl⟩
   .intro vs H' e92;refine Zar e92 λs' e' e920=>?_;clear e92;obtain rfl:=e920;exact⟨D,rfl,_,SqL.of e',by rw[Zhd];exact q H' s'⟩
def TabF (H0 H:Hp)(p hh wd:Int)(t:Addr)(M:List (List V)):Prop:=∃ r rs,TabC H p hh wd t r rs M/\H0 t=none/\H0 r=none/\∀ a∈rs,H0 a=none
def Tbs (H:Hp)(p:Int)(l:Addr)(ts:List Addr)(cs:List (Int×Int×List (List V))):Prop:=H l=some (.lst (ts.map V.ref))/\ts.length=cs.length/\cs.length<=9/\∀ (i:Nat) t c,ts[i]?=some t->cs[i]?=some c->(∃ r rs,TabC H p c.1 c.2.1 t r rs c.2.2)/\0<=c.1/\c.1<=24/\0<=c.2.1/\c.2.1<=24
theorem TabC.put {H:Hp}{p hh wd:Int}{t r D:Addr}{rs:List Addr}{M:List (List V)}{l:List V}{o:HO}(h:TabC H p hh wd t r rs M)(hD:H D=some (.lst l))(nr:r≠D)(ns:D∉rs):TabC (upd H D o) p hh wd t r rs M:=by
 have nt:t≠D:=Zcz h.tab.tup hD (by intro z;cases z);have na:∀ a∈rs,a≠D:=λa ha z=>ns (z ▸ ha);exact⟨⟨by rw[Zag nt];exact h.tab.tup,by rw[Zag nr];exact h.tab.lst,h.tab.len,λa ha=>(h.tab.row a ha).put hD (na a ha),h.tab.nin⟩,λi a e=>by rw[Zag (na a (Jai e))];exact h.con i a e⟩
abbrev teRow (K:Frag):TE:=tCB (λxs H Q=>∃ p,xs=[V.ref p]/\∃ x,(SqL K H p x\/SqT K H p x)/\∀ (l:Addr),H l=none->Q (V.ref l) (upd H l (HO.lst x))) (Zgr (Zlz 0) Zqz)
abbrev teTab (K:Frag):TE:=Zw7 (Zgr (Zlz 0) (Zgr (Zlz 1) (Zgr (tComp 1 [] (Zth K (Zlz 2)) (Zbd 0) Zfb (teRow K)) Zqz)))
theorem Ztx {r D:Addr}{rs:List Addr}{M:List (List V)}{fr:List (Str×Nat)}{σ:L2.St}{H1:Hp}{Q:VK}(hr:H1 r=some (.lst (rs.map V.ref)))(hc:∀ (i:Nat) (a:Addr),rs[i]?=some a->H1 a=some (.lst (M.getD i [])))(hn:rs.length<=100)(hD:H1 D=none)(hQ:∀ (rs':List Addr) H',Same H1 H'->H' D=some (.lst (rs'.map V.ref))->rs'.length=rs.length->(∀ (i:Nat) (a:Addr),rs'[i]?=some a->H' a=some (.lst (M.getD i [])))->(∀ a∈rs',H1 a=none/\a≠D)->rs'.Nodup->Q (.ref D) H'):
  Zbv (Zbd 0) Zfb (teRow K) (Itl K r) D (Ze9 1 fr σ) H1 Q:=by
 refine Zbp (xs:=rs.map V.ref) (λi vs H=>∃ rs':List Addr,vs=rs'.map V.ref/\Same H1 H/\H D=some (.lst vs)/\rs'.length=i/\(∀ (j:Nat) (a:Addr),rs'[j]?=some a->H a=some (.lst (M.getD j [])))/\(∀ a∈rs',H1 a=none/\a≠D)/\rs'.Nodup)
  ⟨[],rfl,Same.new hD,Zaa,rfl,λj a e=>by simp at e,(λa ha=>by simp at ha),List.nodup_nil⟩ (λi vs H _ ⟨_,_,s,_⟩=>SqL.of (s _ _ hr)) ?_ (λvs H ⟨rs',hv,s,e,hl,hc',fr',nd'⟩=>hQ rs' H s (hv ▸ e) (by rw[hl,Jab]) hc' fr' nd')
 intro i x vs σ' H hi hx sh e91;refine xE1_6 e91 λrs' e93 s e hl hc' e94=>?_;clear e91;obtain rfl:=e93;obtain⟨fr',nd'⟩:=e94;obtain⟨z,rfl⟩:=sh.one;rw[Jab] at hi;rw[Zo5 hi] at hx;cases hx;have ha:=s _ _ (hc i _ (Jaa hi));simp only[Zda,Zbd,Zfb,List.set_cons_zero,Jck];refine⟨_,rfl,_,rfl,_,.inl (SqL.of ha),λc hc0=>?_⟩;have nDc:D≠c:=Zaf e hc0;have hDc:(upd H c (.lst (M.getD i []))) D=some (.lst (rs'.map V.ref)):=by rw[Zag nDc];exact e
 have sc:=s.trans (Same.new (o:=.lst (M.getD i [])) hc0);refine leaf (ws:=rs'.map V.ref++[.ref c]) (by rw[Jab];exact hi) Sh.mk1 hDc (Zaj (by rw[Jab];omega)) ⟨rs'++[c],Zbs _ _,sc.upd hD,by rw[Zaa,Zbs],by rw[Jak,hl];rfl,λj a ej=>?_,λa ha=>?_,?_⟩
 .by_cases hj:j<rs'.length
  .rw [Jar hj] at ej;have:=hc' j a ej;have naD:=(fr' a (Jai ej)).2;rw[Zag naD,Zag (Zaf this hc0)];exact this
  .rw [Jat (Zvh hj)] at ej;have hj0:j-rs'.length=0:=by
    by_cases z:j-rs'.length=0
    .exact z
    .rw [Jb9 (by simp;exact oz5 z)] at ej;cases ej
   rw[hj0] at ej;cases ej;rw[Zag nDc.symm,Zaa,show j=i by exact oz3 hl hj hj0]
 .rcases Jbp.mp ha with ha|ha
  .exact fr' a ha
  .rw [Jam.mp ha];exact⟨s.free hc0,nDc.symm⟩
 .refine Jeb.mpr ⟨nd',by simp,λa ha b hb z=>?_⟩;rw[Jam.mp hb] at z;subst z;obtain⟨j,hj,rfl⟩:=Jbu.mp ha;have:=hc' j _ (Jaa hj);rw[hc0] at this;cases this
def Sep (H:Hp)(D:Addr)(ts:List Addr):Prop:=∃ rr:List (Addr×List Addr),rr.length=ts.length/\(∀ (i:Nat) t x,ts[i]?=some t->rr[i]?=some x->(∃ h w:V,H t=some (.tup [h,w,.ref x.1]))/\H x.1=some (.lst (x.2.map V.ref)))/\(∀ x∈rr,x.1≠D/\D∉x.2)/\(∀ x∈rr,∀ y∈rr,x.1∉y.2)/\(rr.map (·.2)).flatten.Nodup
theorem Ztw {l D:Addr}{p:Int}{ts:List Addr}{cs:List (Int×Int×List (List V))}{fr:List (Str×Nat)}{σ:L2.St}{H1:Hp}{Q:VK}(hT:Tbs H1 p l ts cs)(hD:H1 D=none)(hQ:∀ (ts':List Addr) H',Same H1 H'->H' D=some (.lst (ts'.map V.ref))->ts'.length=cs.length->(∀ (i:Nat) t c,ts'[i]?=some t->cs[i]?=some c->TabF H1 H' p c.1 c.2.1 t c.2.2)->Sep H' D ts'->Q (.ref D) H'):
  Zbv (Zwq K 3 (Zhv (Zbd 0) (Zhv (Zbd 1) (Zhv (Zbd 2) Zxp)))) Zfb (teTab K) (Itl K l) D (Ze9 3 fr σ) H1 Q:=by
 refine Zbx hT λhl hlen h9 hc=>?_;clear hT;refine Zbp (k:=3) (xs:=ts.map V.ref) (λi vs H=>∃ (ts':List Addr) (rr:List (Addr×List Addr)),vs=ts'.map V.ref/\Same H1 H/\H D=some (.lst vs)/\ts'.length=i/\rr.length=i/\((∀ x∈rr,∀ y∈rr,x.1∉y.2)/\(rr.map (·.2)).flatten.Nodup)/\(∀ x∈rr,x.1≠D/\D∉x.2/\(∃ o,H x.1=some o)/\∀ a∈x.2,∃ o,H a=some o)/\∀ (j:Nat) t c x,ts'[j]?=some t->cs[j]?=some c->rr[j]?=some x->TabC H p c.1 c.2.1 t x.1 x.2 c.2.2/\H1 t=none/\H1 x.1=none/\∀ a∈x.2,H1 a=none)
  ⟨[],[],rfl,Same.new hD,Zaa,rfl,rfl,⟨by simp,by simp⟩,by simp,λj t c x e=>by simp at e⟩ (λi vs H _ ⟨_,_,_,s,_⟩=>SqL.of (s _ _ hl)) ?_ (λvs H ⟨ts',rr,hv,s,e,hl',hrr,sp,sD,hc'⟩=>?_)
 rotate_left
 .have hrl:rr.length=ts'.length:=by exact oz76 hl' hrr
  have htl:ts'.length=cs.length:=by rw[hl',Jab,hlen]
  refine hQ ts' H s (hv ▸ e) htl (λi t c e1 e2=>?_) ⟨rr,hrl,λi t x e1 e2=>?_,λx hx=>⟨(sD x hx).1,(sD x hx).2.1⟩,sp⟩
  .have hi:i<rr.length:=by have:=(Jah.mp e1).1;exact oz29 hl' hrr this
   refine Zbx (hc' i t c _ e1 e2 (Jaa hi)) λa1 a2 a3 a4=>?_;exact Zav _ _ ⟨a1,a2,a3,a4⟩
  .have hi:i<cs.length:=by have:=(Jah.mp e1).1;exact oz6 htl this
   obtain⟨a1,_⟩:=hc' i t _ x e1 (Jaa hi) e2;exact⟨⟨_,_,a1.tab.tup⟩,a1.tab.lst⟩
 intro i x vs σ' H hi hx sh e92;refine Zqq e92 λts' rr e95 s e hl' hrr e96=>?_;clear e92;obtain rfl:=e95;refine Zar e96 λsp sD hc'=>?_;clear e96;refine Zum (Zkt sh) λz1 z2 z3 e97=>?_;obtain rfl:=e97;rw[Jab] at hi;rw[Zo5 hi] at hx;cases hx;have hci:cs[i]?=some (cs[i]'(oz6 hlen hi)):=Jaa (oz6 hlen hi);refine Zdu (hc i _ _ (Jaa hi) hci) λe98 c0 c24 w0 w24=>?_;obtain⟨r,rs,tc⟩:=e98;have tcH:=tc.same s;have hrl:=tc.tab.len;refine Zav _ _ ⟨rfl,SqT.of tcH.tab.tup,rfl,_,_,rfl,_,_,rfl,_,_,rfl,rfl,?_⟩;simp only[Zfb,List.set_cons_zero,List.set_cons_succ,Jck];refine⟨_,rfl,_,rfl,_,rfl,r,rfl,⟨_,SqL.of tcH.tab.lst⟩,λD2 hD2=>Ztx (M:=(cs[i]'(oz6 hlen hi)).2.2) tcH.tab.lst tcH.con (oz199 c24 hrl) hD2 λrs' H' s' hD2' hl2 hc2 fr2 nd2=>?_⟩;refine⟨by show 3<=sizeLine;decide,λpt hpt=>?_⟩;have s0:=Same.new (o:=.tup [V.int (cs[i]'(oz6 hlen hi)).1,V.int (cs[i]'(oz6 hlen hi)).2.1,V.ref D2]) hpt;have s1:=s'.trans s0;have sA:=s.trans s1;have hDpt:=s1 _ _ e;have nDp:D≠pt:=Zaf (s' _ _ e) hpt;have nD2:D2≠D:=λz=>by rw[z,e] at hD2;cases hD2
 have nDr:D∉rs':=λz=>by have:=(fr2 D z).1;rw[e] at this;cases this
 have tcN:TabC (upd H' pt (.tup [V.int (cs[i]'(oz6 hlen hi)).1,V.int (cs[i]'(oz6 hlen hi)).2.1,V.ref D2])) p (cs[i]'(oz6 hlen hi)).1 (cs[i]'(oz6 hlen hi)).2.1 pt D2 rs' (cs[i]'(oz6 hlen hi)).2.2:=by
  refine⟨⟨Zaa,s0 _ _ hD2',∅,λa ha=>?_,λz=>(fr2 D2 z).2 rfl⟩,λj a ej=>s0 _ _ (hc2 j a ej)⟩;obtain⟨j,hj,rfl⟩:=Jbu.mp ha;have hj':j<rs.length:=by exact oz6 hl2 hj
  refine Zap (tcH.tab.row rs[j] (Jbr hj')) λys hy hyl hyn=>?_;rw[tcH.con j _ (Jaa hj')] at hy;cases hy;exact⟨_,s0 _ _ (hc2 j _ (Jaa hj)),hyl,λy hy=>(hyn y hy).same s1⟩
 have sep':∀ x∈rr++[(D2,rs')],∀ y∈rr++[(D2,rs')],x.1∉y.2:=λx hx y hy z=>by
  rcases Jbp.mp hx with hx|hx <;> rcases Jbp.mp hy with hy|hy
  .exact sp.1 x hx y hy z
  .rw [Jam.mp hy] at z;obtain⟨o,ho⟩:=(sD x hx).2.2.1;have:=(fr2 x.1 z).1;rw[ho] at this;cases this
  .rw [Jam.mp hx] at z;obtain⟨o,ho⟩:=(sD y hy).2.2.2 _ z;rw[hD2] at ho;cases ho
  .rw [Jam.mp hx,Jam.mp hy] at z;exact (fr2 D2 z).2 rfl
 have nodup':((rr++[(D2,rs')]).map (·.2)).flatten.Nodup:=by
  rw[Jaw,List.flatten_append];refine Jeb.mpr ⟨sp.2,by simpa using nd2,λa ha b hb z=>?_⟩;subst z;refine Zah (Jdq.mp ha) λu hu hau=>?_;refine Zah (Jan.mp hu) λy hy e99=>?_;obtain rfl:=e99;obtain⟨o,ho⟩:=(sD y hy).2.2.2 a hau;have:=(fr2 a (by simpa using hb)).1;rw[ho] at this;cases this
 refine leaf (ws:=ts'.map V.ref++[.ref pt]) (by rw[Jab];exact hi) Zoi hDpt (Zaj (by rw[Jab];exact oz98 hlen h9 hi hl')) ⟨ts'++[pt],rr++[(D2,rs')],Zbs _ _,sA.upd hD,by rw[Zaa,Zbs],by rw[Jak,hl'];rfl,by rw[Jak,hrr];rfl,⟨sep',nodup'⟩,λx hx=>?_,λj t c x e1 e2 e3=>?_⟩
 .have keep:∀ b o,b≠D->(upd H' pt (.tup [V.int (cs[i]'(oz6 hlen hi)).1,V.int (cs[i]'(oz6 hlen hi)).2.1,V.ref D2])) b=some o->∀ o',(upd (upd H' pt (.tup [V.int (cs[i]'(oz6 hlen hi)).1,V.int (cs[i]'(oz6 hlen hi)).2.1,V.ref D2])) D o') b=some o:=λb o nb h o'=>by rw[Zag nb];exact h
  rcases Jbp.mp hx with hx|hx
  .refine Zbx (sD x hx) λx1 x2 e910 x4=>?_;obtain⟨o,ho⟩:=e910;refine⟨x1,x2,⟨o,keep _ _ x1 (s1 _ _ ho) _⟩,λa ha=>?_⟩;obtain⟨o,ho⟩:=x4 a ha;exact⟨o,keep _ _ (λz=>x2 (z ▸ ha)) (s1 _ _ ho) _⟩
  .rw [Jam.mp hx];refine⟨nD2,nDr,⟨_,keep _ _ nD2 tcN.tab.lst _⟩,λa ha=>?_⟩;refine Zah (tcN.tab.row a ha) λys hy _=>?_;exact⟨_,keep _ _ (λz=>nDr (z ▸ ha)) hy _⟩
 by_cases hj:j<ts'.length
 .rw [Jar hj] at e1;rw[Jar (oz29 hl' hrr hj)] at e3;refine Zbx (hc' j t c x e1 e2 e3) λa1 a2 a3 a4=>?_;refine Zar (sD x (Jai e3)) λa5 a6 _=>?_;exact⟨(a1.same s1).put hDpt a5 a6,a2,a3,a4⟩
 .rw [Jat (Zvh hj)] at e1;rw[Jat (oz113 hl' hrr hj)] at e3;have hj0:j-ts'.length=0:=by
   by_cases z:j-ts'.length=0
   .exact z
   .rw [Jb9 (by simp;exact oz5 z)] at e1;cases e1
  rw[show j-rr.length=0 by exact oz7 hl' hrr hj0] at e3;rw[hj0] at e1;cases e1;cases e3;have hji:j=i:=by exact oz3 hl' hj hj0
  subst hji;rw[hci] at e2;cases e2;exact⟨tcN.put hDpt nD2 nDr,(s.trans s').free hpt,s.free hD2,λa ha=>s.free (fr2 a ha).1⟩
theorem NumO.extI {x C0 dx:Addr}{fs:List (Str×V)}{H H':Hp}{p:Int}{B:Nat}{v:V}(h:NumO H p B v)(hx:H x=some (.ins C0 dx fs))(e:Ext x H H'):NumO H' p B v:=by
 refine Zap h λy nv b c=>?_;clear h;refine⟨y,?_,b,c⟩;by_cases hp:p=0
 .refine Zah (nv.ref hp) λt e911 ht=>?_;obtain rfl:=e911;exact NumV.tup hp (e _ _ (Zcz ht hx (by intro z;cases z)) ht)
 .obtain rfl:=nv.int hp;exact NumV.of hp
theorem TabC.extI {x C0 dx:Addr}{fs:List (Str×V)}{H H':Hp}{p hh wd:Int}{t r:Addr}{rs:List Addr}{M:List (List V)}(h:TabC H p hh wd t r rs M)(hx:H x=some (.ins C0 dx fs))(e:Ext x H H'):TabC H' p hh wd t r rs M:=by
 refine⟨⟨e _ _ (Zcz h.tab.tup hx (by intro z;cases z)) h.tab.tup,e _ _ (Zcz h.tab.lst hx (by intro z;cases z)) h.tab.lst,h.tab.len,λa ha=>?_,h.tab.nin⟩,λi a ei=>e _ _ (Zcz (h.con i a ei) hx (by intro z;cases z)) (h.con i a ei)⟩;refine Zap (h.tab.row a ha) λys h1 h2 h3=>?_;exact⟨ys,e _ _ (Zcz h1 hx (by intro z;cases z)) h1,h2,λy hy=>(h3 y hy).extI hx e⟩
theorem Tbs.extI {x C0 dx:Addr}{fs:List (Str×V)}{H H':Hp}{p:Int}{l:Addr}{ts:List Addr}{cs:List (Int×Int×List (List V))}(h:Tbs H p l ts cs)(hx:H x=some (.ins C0 dx fs))(e:Ext x H H'):Tbs H' p l ts cs:=
 ⟨e _ _ (Zcz h.1 hx (by intro z;cases z)) h.1,h.2.1,h.2.2.1,λi t c e1 e2=>let ⟨⟨r,rs,a⟩,b⟩:=h.2.2.2 i t c e1 e2;⟨⟨r,rs,a.extI hx e⟩,b⟩⟩
theorem Tbs.same {H H':Hp}{p:Int}{l:Addr}{ts:List Addr}{cs:List (Int×Int×List (List V))}(h:Tbs H p l ts cs)(s:Same H H'):Tbs H' p l ts cs:=
 ⟨s _ _ h.1,h.2.1,h.2.2.1,λi t c e1 e2=>let ⟨⟨r,rs,a⟩,b⟩:=h.2.2.2 i t c e1 e2;⟨⟨r,rs,a.same s⟩,b⟩⟩
def Zgv (g d z l:Addr):List (Str×V):=Zcu "tables" (.ref l) (Zcu "sizes" (.ref z) (Zcu "drawing" (.ref d) (Zcu "ground" (.ref g) [])))
theorem Ziq (g d z l:Addr):(Zgv g d z l).lookup ("tables" : Str)=some (.ref l):=by unfold Zgv;rw[Zau,if_pos rfl]
theorem Zku (g d z l:Addr):(Zgv g d z l).lookup ("sizes" : Str)=some (.ref z):=by unfold Zgv;rw[Zau,if_neg ⋯,Zau,if_pos rfl]
theorem Zfu (g d z l:Addr):(Zgv g d z l).lookup ("drawing" : Str)=some (.ref d):=by unfold Zgv;rw[Zau,if_neg ⋯,Zau,if_neg ⋯,Zau,if_pos rfl]
theorem Zir (g d z l:Addr):(Zgv g d z l).lookup ("ground" : Str)=some (.ref g):=by unfold Zgv;rw[Zau,if_neg ⋯,Zau,if_neg ⋯,Zau,if_neg ⋯,Zau,if_pos rfl]
def Fits (ns:List Int)(cs:List (Int×Int×List (List V)))(ps:List (Int×Int)):Prop:=cs.length=ps.length/\∀ (i:Nat) c q,cs[i]?=some c->ps[i]?=some q->c.1=ns.getD q.2.toNat 0/\c.2.1=ns.getD q.1.toNat 0
def spSI (S C G:Addr):Sp:=λvs H Q _=>∃ (x dx g d z l lp:Addr) (p m:Int) (xs:List V) (ps:List (Int×Int)) (ns:List Int) (ts:List Addr) (cs:List (Int×Int×List (List V))),vs=[.ref x,.ref g,.ref d,.ref z,.ref l]/\H x=some (.ins S dx [])/\GAt G H g p/\GroundP p /\
 Zge C H d m lp xs/\Prs H xs ps/\InP m ps/\ps.length<=9/\Sizes H z ns/\(ns.length:Int)=m/\Tbs H p l ts cs/\Fits ns cs ps /\
 ∀ (z' l':Addr) (ts':List Addr) (H':Hp),Ext x H H'->H' x=some (.ins S dx (Zgv g d z' l'))->H z'=none->H l'=none->Sizes H' z' ns->H' l'=some (.lst (ts'.map V.ref))->ts'.length=cs.length->(∀ (i:Nat) t c,ts'[i]?=some t->cs[i]?=some c->TabF H H' p c.1 c.2.1 t c.2.2)->Q .non H'
theorem Zvt (F:Fun K "__init__" "Standing.__init__" Zdo f fd)(T:Txt K mg C G S)(Yaq:Cal P w K mg base "are_sizes" 2 (spSz C))(Ybh:Cal P w K mg base "are_tables" 7 (spTs C G)):FnOk P w K mg base CX0 8 f fd ["self","ground","drawing","sizes","tables"] (spSI S C G):=by
 have nd:=Ze4.nd;refine F.ok Ze4 (λvs H Q E h=>?_) (λcdv A outer s H vs Q E hr h=>?_)
 .refine xE14_2 h λx dx g d z l lp p m xs ps ns ts cs e912 _=>?_;clear h;obtain rfl:=e912;rfl
 .refine xE14_4 h λx dx g d z l lp p m xs ps ns ts cs e913 hx hg e914=>?_;clear h;obtain rfl:=e913;refine Zn8 e914 λhp hd pr ip p9 hz hm hT ft q=>?_;clear e914;refine⟨_,((@Za7 _ _ _ _ _ _ _ _ (PW.pt (Zes (Zbq (Zbn (Yaq<$>hr<$>((pvr 2)<&>((pvr 3)<&>Zab))))) (Zdq (Zbq (Zbn (Ybh<$>hr<$>((pvr 1)<&>((pvr 2)<&>((pvr 3)<&>((pvr 4)<&>Zab)))))))))) (@Zam _ _ _ Zbm) Zan)<*>((Zjd (pvr 0) (pvr 1) rfl)<*>((Zjd (pvr 0) (pvr 2) rfl)<*>((Zjd (pvr 0) (Zfz Zbb rfl T.n_list Jcf ((pvr 3)<&>Zab)) rfl)<*>(@Zam _ _ _ (Zjd (pvr 0) (Zax (own:=["high","wide","rows"]) (fr:=[]) rfl (Zbh (by kernel_rfl)) (Za1 (pv 4)) (λ_ _ _ _=>⟨(@Zcr _ K rfl _ _ _ _ 3 rfl ((0<<<["high","wide","rows"])^^^((1<<<["high","wide","rows"])^^^((2<<<["high","wide","rows"])^^^(@Za2 _)))) ⇑1 ⇑1),Za0,(@Zaq _ _ _ _ _ ((pv 0)<&>((pv 1)<&>((Zax (own:=["row"]) (fr:=[]) rfl (Zbh (by kernel_rfl)) (Zk5 K rfl (pv 2)) (λ_ _ _ _=>⟨(0<<<["row"]),Za0,(Zfz (Zhb K rfl) rfl T.n_list Jcf ((pv 0)<&>Zab))⟩))<&>Zab))))⟩)) rfl)))))),?_⟩;walk_at "wp";refine Zlr d z lp m xs ns ⟨rfl,hd,hz,hm,λH1 s1=>⟨true,rfl,Zgd ⇑0 ?_⟩⟩;have hT1:=hT;refine Zbx hT λhl hlen h9 hc=>?_;clear hT;refine Zah hd λdxd hd1 hd2=>?_;clear hd;refine xI11_1 g d z l lp p m xs ps ns ts ⟨rfl,hg.same s1,hp,⟨dxd,s1 _ _ hd1,s1 _ _ hd2⟩,pr.same s1,ip,p9,hz.same s1,hm,s1 _ _ hl,by rw[hlen,ft.1],λi t q' e1 e2=>?_,λH2 s2=>⟨true,rfl,Zgd ⇑0 ?_⟩⟩
  .have hi:i<ps.length:=(Jah.mp e2).1;have hci:cs[i]?=some (cs[i]'(by have:=ft.1;exact oz168 hi this)):=Jaa _;obtain⟨⟨r,rs,tc⟩,_⟩:=hc i t _ e1 hci;obtain⟨f1,f2⟩:=ft.2 i _ _ hci e2;rw[<- f1,<- f2];exact⟨r,rs,tc.tab.same s1⟩
  .have s12:=s1.trans s2;have hx2:=s12 _ _ hx;have nzx:z≠x:=Zcz hz.1 hx (by intro w;cases w);refine Za9 S dx [] ⟨hx2,T.cl_Standing,T.nSg,by show 0<1000;decide,S,dx,_,Zaa,T.cl_Standing,T.nSd,by have l1:=Zb7 "ground" (.ref g) [];simp at l1;omega,_,.inl (SqL.of (by rw[Zag nzx,Zag nzx];exact s12 _ _ hz.1)),λl1 hl1=>?_⟩;have nxl:x≠l1:=Zaf Zaa hl1;have f1:H l1=none:=by
    rw[Zag nxl.symm,Zag nxl.symm] at hl1;exact s12.free hl1
   have g1:=Zb7 "ground" (.ref g) [];have g2:=Zb7 "drawing" (.ref d) (Zcu "ground" (.ref g) []);have g3:=Zb7 "sizes" (.ref l1) (Zcu "drawing" (.ref d) (Zcu "ground" (.ref g) []));simp only[List.length_nil] at g1;refine Za9 S dx _ ⟨by rw[Zag nxl];exact Zaa,T.cl_Standing,T.nSs,∅,?_⟩;have e6:Ext x H (upd (upd (upd (upd H2 x (.ins S dx (Zcu "ground" (.ref g) []))) x (.ins S dx (Zcu "drawing" (.ref d) (Zcu "ground" (.ref g) [])))) l1 (.lst (ns.map V.int))) x (.ins S dx (Zcu "sizes" (.ref l1) (Zcu "drawing" (.ref d) (Zcu "ground" (.ref g) []))))):=λb o nb eb=>by
    rw[Zag nb,Zag (Zaf eb f1),Zag nb,Zag nb];exact s12 _ _ eb
   have hx6:(upd (upd (upd (upd H2 x (.ins S dx (Zcu "ground" (.ref g) []))) x (.ins S dx (Zcu "drawing" (.ref d) (Zcu "ground" (.ref g) [])))) l1 (.lst (ns.map V.int))) x (.ins S dx (Zcu "sizes" (.ref l1) (Zcu "drawing" (.ref d) (Zcu "ground" (.ref g) []))))) x=some (.ins S dx (Zcu "sizes" (.ref l1) (Zcu "drawing" (.ref d) (Zcu "ground" (.ref g) [])))):=Zaa;have hl6:(upd (upd (upd (upd H2 x (.ins S dx (Zcu "ground" (.ref g) []))) x (.ins S dx (Zcu "drawing" (.ref d) (Zcu "ground" (.ref g) [])))) l1 (.lst (ns.map V.int))) x (.ins S dx (Zcu "sizes" (.ref l1) (Zcu "drawing" (.ref d) (Zcu "ground" (.ref g) []))))) l1=some (.lst (ns.map V.int)):=by rw[Zag nxl.symm];exact Zaa
   generalize upd (upd (upd (upd H2 x (.ins S dx (Zcu "ground" (.ref g) []))) x (.ins S dx (Zcu "drawing" (.ref d) (Zcu "ground" (.ref g) [])))) l1 (.lst (ns.map V.int))) x (.ins S dx (Zcu "sizes" (.ref l1) (Zcu "drawing" (.ref d) (Zcu "ground" (.ref g) []))))=H6 at *;have fr6:∀ b,H6 b=none->H b=none:=λb hb=>by
    cases eb:H b with
    | none=>rfl
    | some o=>
     by_cases nb:b=x
     .rw [nb,hx6] at hb;cases hb
     .rw [e6 b o nb eb] at hb;cases hb
   have hT6:=hT1.extI hx e6;refine⟨_,rfl,l,rfl,⟨_,SqL.of hT6.1⟩,λD hD=>Ztw hT6 hD λts' H7 s7 hD7 hl7 ht7 _=>?_⟩;have hx7:=s7 _ _ hx6;have nDx:D≠x:=λw=>by rw[w,hx6] at hD;cases hD
   refine Za9 S dx _ ⟨hx7,T.cl_Standing,T.nSt,oz197 g1 g2 g3,?_⟩;refine q l1 D ts' _ (λb o nb eb=>by rw[Zag nb];exact s7 _ _ (e6 b o nb eb)) Zaa f1 (fr6 D hD) ⟨by rw[Zag nxl.symm];exact s7 _ _ hl6,hz.2⟩ (by rw[Zag nDx];exact hD7) hl7 λi t c e1 e2=>?_;refine Zeh (ht7 i t c e1 e2) λr rs a1 a2 a3 a4=>?_;exact Zav r rs ⟨a1.extI hx7 (λb o nb eb=>by rw[Zag nb];exact eb),fr6 t a2,fr6 r a3,λa ha=>fr6 a (a4 a ha)⟩
end
end Pf
set_option maxRecDepth 50000
set_option maxHeartbeats 500000
namespace Pf
open PySem L2 PyProof.Rows
section
variable {C G S:Addr}
theorem ok_low (F:Fun K "_law_low" "_law_low" Zi4 f fd)(T:Txt K mg C G S):FnOk P w K mg base CX0 1 f fd ["_law_top","_law_bottom"] Zip:=by
 have nd:=Zj0.nd;refine F.ok Zj0 (λvs H Q E h=>?_) (λcdv A outer s H vs Q E hr h=>?_)
 .refine Zbg h λa b e92 _=>?_;clear h;obtain rfl:=e92;rfl
 .refine Zju h λa b e93 _ hb hB q=>?_;clear h;obtain rfl:=e93;refine⟨_,((2|||nd|||(Za4 Zll rfl T.n_abs boot_abs ((pvr 0)<&>Zab)))<*>((3|||nd|||(Za4 Zll rfl T.n_abs boot_abs ((pvr 1)<&>Zab)))<*>((Zdx Ja7 (Za5 Zg4 (pv 3) Zac (Zao _)) ((4|||nd|||((opJ Zc9)<|>(pvr 2)<&&>(pvr 3)))<*>((2|||nd|||(pvr 3))<*>(@Zam _ _ _ (3|||nd|||(pvr 4))))))<*>((@Za7 _ _ _ _ _ _ _ _ (Zat (Zsc Zjg) (pvr 1) Zac (Zao _)) (@Zam _ _ _ (2|||nd|||(Zr1 Zlw (pvr 2)))) Zan)<*>(~~~(@Zaq _ _ _ _ _ (((opJ Zik)<|>(pvr 0)<&&>(pvr 2))<&>(((opJ Zik)<|>(pvr 1)<&&>(pvr 2))<&>Zab)))))))),?_⟩;walk_at "wp";have ea:(if a<0 then -a else a)=(a.natAbs:Int):=by split <;> omega
  have eb:(if b<0 then -b else b)=(b.natAbs:Int):=by split <;> omega
  rw[ea,eb];refine⟨λn σ H2=>∃ (x y:Int) (v:Option V),σ=[some (.int a),some (.int b),some (.int x),some (.int y),v]/\H2=H/\0<=x/\0<=y/\n=y.toNat/\Int.gcd x y=Int.gcd a b,⟨_,_,_,none,rfl,rfl,oz79,oz79,rfl,by unfold Int.gcd;rfl⟩,?_⟩;intro n σ H2 e91;refine Zb3 e91 λx y v e94 e95 hx e96=>?_;clear e91;obtain rfl:=e94;obtain rfl:=e95;refine Zar e96 λhy e97 hg=>?_;clear e96;obtain rfl:=e97;walk_at "wp";refine Zc6 (λhc=>?_) (λhc=>?_)
  .have y1:0<y:=Jaq hc;have l1:=Int.emod_nonneg x (show y≠0 by omega);have l2:=Je5 x y1;refine⟨_,λ_ _ h=>h,?_⟩;walk_at "wp";exact⟨y1,_,oz68 l1 l2,y,x % y,_,⟨rfl,rfl,rfl⟩,∅,l1,rfl,by rw[Zo7];exact hg⟩
  .have hy0:¬ 0<y:=λz=>hc (Jag z);have hy0:y=0:=by exact oz137 hy hy0
   subst hy0;have e:x=(Int.gcd a b:Int):=by
    rw[<- hg,Int.gcd_zero];exact oz120 hx
   subst e;refine Zgd (by rw[Ja5 ∅];decide) ?_;exact⟨Zil hb hB,Zil hb hB,⇑0,λt ht=>q t ht⟩
def spNum:Sp:=λvs H Q _=>∃ (l:Addr) (p:Int),vs=[.ref l,.int p]/\Bag H l/\GroundP p/\∀ (v:V) (x:Int×Int) (H':Hp),Ext l H H'->Bag H' l->NumV H' p v x->Isn p x->Bd 5000 x->Q v H'
theorem ok_lnum (F:Fun K "_law_number" "_law_number" Zfj f fd)(T:Txt K mg C G S)(Yaa:Cal P w K mg base "_law_draw" 1 Zf0)(Yb4:Cal P w K mg base "_law_low" 1 Zip):FnOk P w K mg base CX0 3 f fd ["_law_bag_here","_law_p"] spNum:=by
 have nd:=Zgz.nd;refine F.ok Zgz (λvs H Q E h=>?_) (λcdv A outer s H vs Q E hr h=>?_)
 .refine Zbg h λl p e98 _=>?_;clear h;obtain rfl:=e98;rfl
 .refine Zeh h λl p e99 hb hp q=>?_;clear h;obtain rfl:=e99;have p0:=hp.lo;have p97:=hp.hi;refine⟨_,((@Za7 _ _ _ _ _ _ _ _ (Zat (Zsc Zg4) (pvr 1) Zac (Zao _)) (~~~(Yaa<$>hr<$>((pvr 0)<&>((pvr 1)<&>Zab)))) Zan)<*>((2|||nd|||(Zdy<|>(Yaa<$>hr<$>((pvr 0)<&>(Zac<&>Zab)))<&&>Zac))<*>(~~~(Yb4<$>hr<$>((pvr 2)<&>((Zbo<|>Zac<&&>(Yaa<$>hr<$>((pvr 0)<&>(Zac<&>Zab))))<&>Zab)))))),?_⟩;walk_at "wp";refine Zc6 (λhc=>?_) (λhc=>?_)
  .have hc:=Jaq hc;refine hb.draw hc ∅ λz H2 z0 z1 e2 b2=>?_;exact q (.int z) (z,1) H2 e2 b2 (NumV.of (x:=(z,1)) ∅) (.inr ⟨hc,z0,z1,rfl⟩) ⟨by show z.natAbs<=5000;omega,by show Int.natAbs 1<=5000;decide⟩
  .have hc:¬ 0<p:=λz=>hc (Jag z);have hp0:p=0:=by exact oz137 p0 hc
   subst hp0;have fin:∀ (H3:Hp) (a b:Int),Ext l H H3->Bag H3 l->0<b->a.natAbs<=5000->b.natAbs<=5000->Zip [.int a,.int b] H3 Q E0:=λH3 a b e3 b3 hb0 h1 h2=>by
    refine Zav a b ⟨rfl,Top.of ∅,hb0,∅,λt ht=>?_⟩;have nt:=b3.ne ht;exact q _ (nrm a b) _ (e3.trans (Ext.new ht)) (b3.new nt) (NumV.tup rfl Zaa) (isn_nrm rfl hb0) (nrm_bd hb0 h1 h2)
   exact hb.draw ⇑0 ⇑0 λz H2 z0 z1 e2 b2=>⟨z,rfl,b2.draw ⇑0 ⇑0 λa H3 a0 a1 e3 b3=>⟨a,rfl,fin _ _ _ (e2.trans e3) b3 (oz129 a0) (oz208 z0 z1) ∅⟩⟩
theorem Prs.bag {l:Addr}{H H':Hp}{xs:List V}{ps:List (Int×Int)}(h:Prs H xs ps)(b:Bag H l)(e:Ext l H H'):Prs H' xs ps:=
 ⟨h.1,λi x q h1 h2=>by
  refine Zah (h.2 i x q h1 h2) λt e1 e2=>?_;obtain⟨ys,hy⟩:=b.lst;exact⟨t,e1,e _ _ (Zcz e2 hy (by intro z;cases z)) e2⟩⟩
structure Std (S C G:Addr)(H:Hp)(x:Addr)(p m:Int)(ps:List (Int×Int))(ns:List Int)(cs:List (Int×Int×List (List V)))(dx g d z l lp:Addr)(xs:List V)(ts:List Addr):Prop where
 ins:H x=some (.ins S dx (Zgv g d z l))
 grd:GAt G H g p
 drw:Zge C H d m lp xs
 prs:Prs H xs ps
 szs:Sizes H z ns
 tbs:Tbs H p l ts cs
end
end Pf
set_option maxHeartbeats 2000000
namespace Pf
open PySem L2 PyProof.Rows
section
variable {C G S:Addr}
theorem Tbs.of {H0 H H':Hp}{p:Int}{l l':Addr}{ts ts':List Addr}{cs:List (Int×Int×List (List V))}(h:Tbs H p l ts cs)(hl:H' l'=some (.lst (ts'.map V.ref)))(hn:ts'.length=cs.length)(hc:∀ (i:Nat) t c,ts'[i]?=some t->cs[i]?=some c->TabF H0 H' p c.1 c.2.1 t c.2.2):Tbs H' p l' ts' cs:=by
 refine⟨hl,hn,h.2.2.1,λi t c e1 e2=>?_⟩;refine Zbg (hc i t c e1 e2) λr rs tc _=>?_;have hi:i<ts.length:=by have:=(Jah.mp e2).1;have:=h.2.1;omega
 exact⟨⟨r,rs,tc⟩,(h.2.2.2 i _ c (Jaa hi) e2).2⟩
theorem TabF.weak {H0 H1 H:Hp}{p hh wd:Int}{t:Addr}{M:List (List V)}(h:TabF H1 H p hh wd t M)(s:Same H0 H1):TabF H0 H p hh wd t M:=let ⟨r,rs,a,b,c,d⟩:=h;⟨r,rs,a,s.free b,s.free c,λx hx=>s.free (d x hx)⟩
structure StdF (H0:Hp)(S C G:Addr)(H:Hp)(x:Addr)(p m:Int)(ps:List (Int×Int))(ns:List Int)(cs:List (Int×Int×List (List V)))(dx g d z l lp:Addr)(xs:List V)(ts:List Addr):Prop where
 ins:H x=some (.ins S dx (Zgv g d z l))
 grd:GAt G H g p
 drw:Zge C H d m lp xs
 prs:Prs H xs ps
 szs:Sizes H z ns
 nz:H0 z=none
 nl:H0 l=none
 nlp:H0 lp=none
 lst:H l=some (.lst (ts.map V.ref))
 len:ts.length=cs.length
 tbs:∀ (i:Nat) t c,ts[i]?=some t->cs[i]?=some c->TabF H0 H p c.1 c.2.1 t c.2.2
theorem Zw8 {S G:Addr}{H0 H:Hp}{x dx g d z l lp:Addr}{p m:Int}{xs:List V}{ps:List (Int×Int)}{ns:List Int}{ts:List Addr}{cs:List (Int×Int×List (List V))}{Q:VK}{E:XK}(hx:H x=none)(hdx:H dx=none)(ndx:dx≠x)(hg:GAt G H g p)(hp:GroundP p)(hd:Zge C H d m lp xs)(pr:Prs H xs ps)(ip:InP m ps)(p9:ps.length<=9)(hz:Sizes H z ns)(hm:(ns.length:Int)=m)(hT:Tbs H p l ts cs)(ft:Fits ns cs ps)(s0:Same H0 H)(flp:H0 lp=none)(q:∀ (dx z' l':Addr) (ts':List Addr) (H':Hp),Same H H'->StdF H0 S C G H' x p m ps ns cs dx g d z' l' lp xs ts'->Q .non H'):spSI S C G [.ref x,.ref g,.ref d,.ref z,.ref l] (upd (upd H dx (.own x)) x (.ins S dx [])) Q E:=by
 have fx:(upd H dx (.own x)) x=none:=by rw[Zag ndx.symm];exact hx
 have sx:Same H (upd (upd H dx (.own x)) x (.ins S dx [])):=(Same.new hdx).trans (Same.new fx);refine Zah hd λdd hd1 hd2=>?_;clear hd;refine Zw3 x dx g d z l lp p m xs ps ns ts cs ⟨rfl,Zaa,hg.same sx,hp,⟨dd,sx _ _ hd1,sx _ _ hd2⟩,pr.same sx,ip,p9,hz.same sx,hm,hT.same sx,ft,λz' l' ts' H' ex hx' fz fl' hz' hl' hn' ht'=>?_⟩;have sH:Same H H':=Same.thru sx hx ex;exact q dx z' l' ts' H' sH ⟨hx',hg.same sH,⟨dd,sH _ _ hd1,sH _ _ hd2⟩,pr.same sH,hz',s0.free (sx.free fz),s0.free (sx.free fl'),flp,hl',hn',λi t c e1 e2=>(ht' i t c e1 e2).weak (s0.trans sx)⟩
def Zgt:Sp:=λvs H Q _=>∃ (z:Addr) (ns:List Int) (k:Int),vs=[.ref z,.int k]/\H z=some (.lst (ns.map V.int))/\ns.length<=8/\0<=k/\k<ns.length/\∀ (z':Addr) (H':Hp),Same H H'->H z'=none->H' z'=some (.lst ((ns.set k.toNat (ns.getD k.toNat 0+1)).map V.int))->Q (.ref z') H'
theorem Zsn (F:Fun K "raised" "raised" Zkw f fd)(T:Txt K mg C G S):FnOk P w K mg base CX0 1 f fd ["row","point"] Zgt:=by
 have nd:=Zl4.nd;refine F.ok Zl4 (λvs H Q E h=>?_) (λcdv A outer s H vs Q E hr h=>?_)
 .refine Zfa h λz ns k e96 _=>?_;clear h;obtain rfl:=e96;rfl
 .refine Zb3 h λz ns k e97 hz h8 e98=>?_;clear h;obtain rfl:=e97;refine Zar e98 λk0 k1 q=>?_;clear e98;refine⟨_,(~~~(Zgb<|>(Zgb<|>(@Zcg _ _ _ _ _ _ _ _ _ _ Zdg (pvr 0) Zet (@Zcq _ _ _ (pvr 1)))<&&>(@Zbj _ _ _ _ ((Zbo<|>((ixJ Za6)<|>(pvr 0)<||>(pvr 1))<&&>Zac)<&>Zab)))<&&>(@Zcg _ _ _ _ _ _ _ _ _ _ Zdg (pvr 0) (@Zcq _ _ _ ((Zsc Zbo)<|>(pvr 1)<&&>Zac)) Zet))),?_⟩;walk_at "wp";have hat:atI (ns.map V.int) k=some (.int (ns.getD k.toNat 0)):=Zki k0 k1;have c1:=Ztu (ns.map V.int) k k0 (by rw[Jab];exact oz89 k1);have c2:=Ztv (ns.map V.int) (k+1) (oz91 k0) (by rw[Jab];exact oz71 k1);refine⟨_,SqL.of hz,λp1 h1=>?_⟩;rw[c1] at *;have s1:=Same.new (o:=.lst ((ns.map V.int).take k.toNat)) h1;refine⟨_,SqL.of (s1 _ _ hz),_,hat,_,rfl,⇑0,λp2 h2=>?_⟩;have s2:=Same.new (o:=.lst [V.int (ns.getD k.toNat 0+1)]) h2;refine⟨_,s2 _ _ Zaa,_,Zaa,Jbl (Zaj (by rw[Ja0,Jab];show _+1<=1000;exact oz203 h8)),λp3 h3=>?_⟩;have s3:=Same.new (o:=.lst ((ns.map V.int).take k.toNat++[V.int (ns.getD k.toNat 0+1)])) h3;refine⟨_,SqL.of (s3 _ _ (s2 _ _ (s1 _ _ hz))),λp4 h4=>?_⟩;rw[c2] at *;have s4:=Same.new (o:=.lst ((ns.map V.int).drop (k+1).toNat)) h4;refine⟨_,s4 _ _ Zaa,_,Zaa,Jbl (Zaj (by rw[Jak,Ja0,Jc9,Jab];show _+1+_<=1000;exact oz35 h8)),λp5 h5=>?_⟩;have s5:=Same.new (o:=.lst ((ns.map V.int).take k.toNat++[V.int (ns.getD k.toNat 0+1)]++(ns.map V.int).drop (k+1).toNat)) h5;have sA:=(((s1.trans s2).trans s3).trans s4).trans s5;refine q p5 _ sA ((((s1.trans s2).trans s3).trans s4).free h5) ?_;rw[Zaa,List.set_eq_take_append_cons_drop,if_pos (Zpx k0 k1),Jaw,Ja8,List.map_take,List.map_drop,Jd4,show (k+1).toNat=k.toNat+1 by exact oz2 k0];rfl
def Zu3 (H:Hp)(a:Addr):List V:=match H a with
 | some (.lst xs)=>xs
 | _=>[]
theorem Tab.toC {H:Hp}{p hh wd:Int}{t r:Addr}{rs:List Addr}(h:Tab H p hh wd t r rs):TabC H p hh wd t r rs (rs.map (Zu3 H)):=by
 refine⟨h,λi a e=>?_⟩;rw[Jao,Jau,e];refine Zah (h.row a (Jai e)) λxs hx _=>?_;show H a=some (.lst (Zu3 H a));unfold Zu3;rw[hx]
theorem num0 {H:Hp}{p:Int}{v:V}(hp:GroundP p)(h:NumV H p v (0,1)):NumO H p 10000 v:=by
 refine⟨(0,1),h,?_,⇑0,⇑0⟩;by_cases h0:p=0
 .exact .inl ⟨h0,by show (0:Int)<1;decide,⇑0⟩
 .have:=hp.lo;exact .inr ⟨∅,by show (0:Int)<=0;decide,by show (0:Int)<p;omega,rfl⟩
def Nul (H:Hp)(p:Int)(M:List (List V)):Prop:=∀ R∈M,∀ x∈R,NumV H p x (0,1)
theorem Nul.same {H H':Hp}{p:Int}{M:List (List V)}(h:Nul H p M)(s:Same H H'):Nul H' p M:=λR hR x hx=>(h R hR x hx).same s
theorem NumV.put {H:Hp}{D:Addr}{l:List V}{o:HO}{p:Int}{v:V}{x:Int×Int}(h:NumV H p v x)(hD:H D=some (.lst l)):NumV (upd H D o) p v x:=by
 by_cases hp:p=0
 .refine Zah (h.ref hp) λt e99 ht=>?_;obtain rfl:=e99;exact NumV.tup hp (by rw[Zag (Zcz ht hD (by intro z;cases z))];exact ht)
 .obtain rfl:=h.int hp;exact NumV.of hp
def Zii (G:Addr):Sp:=λvs H Q _=>∃ (g:Addr) (p hh wd:Int),vs=[.ref g,.int hh,.int wd]/\GAt G H g p/\GroundP p/\0<=hh/\hh<=24/\0<=wd/\wd<=24/\∀ (t:Addr) (M:List (List V)) (H':Hp),Same H H'->H t=none->TabF H H' p hh wd t M->Nul H' p M->Q (.ref t) H'
theorem Zso (F:Fun K "noughts" "noughts" Zg1 f fd)(T:Txt K mg C G S)(Ybs:CalD P w K mg base G "number" 3 (Zrd G) [.int 1]):FnOk P w K mg base CX0 4 f fd ["ground","high","wide"] (Zii G):=by
 have nd:=Zfv.nd;refine F.ok Zfv (λvs H Q E h=>?_) (λcdv A outer s H vs Q E hr h=>?_)
 .refine Zm2 h λg p hh wd e910 _=>?_;clear h;obtain rfl:=e910;rfl
 .refine Zdt h λg p hh wd e911 hg hp e912=>?_;clear h;obtain rfl:=e911;refine Zdu e912 λh0 h24 w0 w24 q=>?_;clear e912;refine⟨_,(~~~(@Zaq _ _ _ _ _ ((pvr 1)<&>((pvr 2)<&>((Zax (own:=["row"]) (fr:=[("ground",0),("wide",2)]) rfl (Zbh (by kernel_rfl)) (Zid rfl T.n_range ((pv 1)<&>Zab)) (λ_ _ _ _=>⟨(0<<<["row","ground","wide"]),Za0,(Zma<|>(@Zbj _ _ _ _ ((pe_mthD T.cl_Ground Ybs hr.m (pv 1) (Zac<&>Zab))<&>Zab))<&&>(pv 2))⟩))<&>Zab))))),?_⟩;walk_at "wp";refine⟨_,rfl,hh,rfl,oz234 h0,∅,λD hD=>?_⟩;refine Zey (λi vs H3=>∃ rs:List Addr,vs=rs.map V.ref/\Same H H3/\H3 D=some (.lst vs)/\rs.length=i/\(∀ a∈rs,H a=none/\a≠D/\∃ v,H3 a=some (.lst (List.replicate wd.toNat v))/\NumV H3 p v (0,1))) ⟨[],rfl,Same.new hD,Zaa,rfl,by simp⟩ ?_ ?_
  .intro i x vs σ' H3 hi e91;obtain rfl:=e91;intro sh e92;refine Zm3 e92 λrs e913 s3 hD3 hln hrs=>?_;clear e92;obtain rfl:=e913;obtain⟨z,rfl⟩:=sh.one;simp only[Zda,Zbd,Zfb,List.set_cons_zero,Jck];have cp:Zb0 [("ground",0),("wide",2)] [some (V.ref g),some (V.int hh),some (V.int wd)]=[some (V.ref g),some (V.int wd)]:=rfl;rw[cp] at *;walk_at "wp";obtain⟨dg,hg1⟩:=hg;refine Zav dg _ ⟨s3 _ _ hg1,Zo4 p ⋯,g,p,rfl,⟨dg,s3 _ _ hg1⟩,hp,λv H4 s4 nv=>⟨⇑0,λc1 hc1=>⟨c1,wd,[v],rfl,rfl,Zaa,∅,∅,Jbl (Zaj (by show 1*wd.toNat<=1000;exact oz231 w24)),λc2 hc2=>?_⟩⟩⟩;rw[Jci];have s5:=Same.new (o:=.lst [v]) hc1;have s6:=Same.new (o:=.lst (List.replicate wd.toNat v)) hc2;have sA:=(s4.trans s5).trans s6;have hD6:=sA _ _ hD3;have nDc:D≠c2:=Zaf ((s4.trans s5) _ _ hD3) hc2;refine leaf (ws:=rs.map V.ref++[.ref c2]) hi Sh.mk1 hD6 (Zaj (by rw[Jab];exact oz159 h24 hi hln)) ⟨rs++[c2],Zbs _ _,(s3.trans sA).upd hD,by rw[Zaa],by rw[Jak,hln];rfl,λa ha=>?_⟩;rcases Jbp.mp ha with ha|ha
   .refine Zar (hrs a ha) λh1 h2 e914=>?_;obtain⟨u,h3,h4⟩:=e914;exact⟨h1,h2,u,by rw[Zag h2];exact sA _ _ h3,(h4.same sA).put hD6⟩
   .rw [Jam.mp ha];exact⟨(s3.trans (s4.trans s5)).free hc2,nDc.symm,v,by rw[Zag nDc.symm];exact Zaa,((nv.same s5).same s6).put hD6⟩
  .intro vs H3 e93;refine Zm3 e93 λrs e915 s3 hD3 hln hrs=>?_;clear e93;obtain rfl:=e915;refine⟨by show 3<=sizeLine;decide,λt ht=>?_⟩;have s4:=Same.new (o:=.tup [V.int hh,V.int wd,V.ref D]) ht;have tb:Tab (upd H3 t (.tup [V.int hh,V.int wd,V.ref D])) p hh wd t D rs:=⟨Zaa,s4 _ _ hD3,oz106 h0 hln,λa ha=>by
    refine Zar (hrs a ha) λ_ _ e916=>?_;obtain⟨v,h1,h2⟩:=e916;refine⟨_,s4 _ _ h1,by rw[Ja4];exact oz18 w0,λx hx=>?_⟩;rw[Jdv hx];exact num0 hp (h2.same s4),λz=>(hrs D z).2.1 rfl⟩
   refine q t _ _ (s3.trans s4) (s3.free ht) ⟨D,rs,tb.toC,s3.free ht,hD,λa ha=>(hrs a ha).1⟩ λR hR x hx=>?_;refine Zah (Jan.mp hR) λa ha e917=>?_;obtain rfl:=e917;refine Zar (hrs a ha) λ_ _ e918=>?_;obtain⟨v,h1,h2⟩:=e918;unfold Zu3 at hx;rw[s4 _ _ h1] at hx;rw[Jdv hx];exact h2.same s4
def Zas (m k:Int):List Int:=(List.replicate m.toNat 0).set k.toNat 1
theorem Zba (m k:Int):(Zas m k).length=m.toNat:=by unfold Zas;rw[List.length_set,Ja4]
theorem Zde {m k:Int}:∀ n∈Zas m k,0<=n/\n<=24:=λn hn=>by
 unfold Zas at hn;rcases List.mem_or_eq_of_mem_set hn with h|h
 .rw [Jdv h];exact⟨⇑0,⇑0⟩
 .rw [h];exact⟨⇑0,⇑0⟩
theorem Zk9 (m k:Int):(List.replicate m.toNat 0).set k.toNat ((List.replicate m.toNat (0:Int)).getD k.toNat 0+1)=Zas m k:=by
 unfold Zas;congr 1;rw[Jao,Jby];split <;> rfl
theorem Nul.put {H:Hp}{D:Addr}{l:List V}{o:HO}{p:Int}{M:List (List V)}(h:Nul H p M)(hD:H D=some (.lst l)):Nul (upd H D o) p M:=λR hR x hx=>(h R hR x hx).put hD
def Zkp (S C G:Addr):Sp:=λvs H Q _=>∃ (g d lp:Addr) (p m k:Int) (xs:List V) (ps:List (Int×Int)),vs=[.ref g,.ref d,.int k]/\GAt G H g p/\GroundP p/\Zge C H d m lp xs/\Prs H xs ps/\InP m ps/\ps.length<=9/\1<=m/\m<=8/\0<=k/\k<m /\
 ∀ (x dx z l:Addr) (ts:List Addr) (cs:List (Int×Int×List (List V))) (H':Hp),Same H H'->H' x=some (.ins S dx (Zgv g d z l))->Sizes H' z (Zas m k)->Tbs H' p l ts cs->Fits (Zas m k) cs ps->(∀ c∈cs,Nul H' p c.2.2)->Q (.ref x) H'
theorem Zsk (F:Fun K "single" "single" Zkv f fd)(T:Txt K mg C G S)(Yah:Cal P w K mg base "raised" 1 Zgt)(Yaf:Cal P w K mg base "noughts" 4 (Zii G))(Yaj:CalI P w K mg base "Standing" S 8 (spSI S C G)):FnOk P w K mg base CX0 10 f fd ["ground","drawing","point"] (Zkp S C G):=by
 have nd:=Zl3.nd;refine F.ok Zl3 (λvs H Q E h=>?_) (λcdv A outer s H vs Q E hr h=>?_)
 .refine xE8_2 h λg d lp p m k xs ps e919 _=>?_;clear h;obtain rfl:=e919;rfl
 .refine xE8_4 h λg d lp p m k xs ps e920 hg hp e921=>?_;clear h;obtain rfl:=e920;refine xE0_9 e921 λe922 pr ip p9 m1 m8 k0 k1 q=>?_;clear e921;obtain⟨dd,hd,hlp⟩:=e922;refine⟨_,((Zal (i:=3) nd rfl (Or.inr rfl) (Yah<$>hr<$>((Zma<|>(@Zbj _ _ _ _ (Zac<&>Zab))<&&>(Zby (pvr 1) rfl))<&>((pvr 2)<&>Zab))))<*>((Zfo (i:=4) (own:=["tail","head"]) (fr:=[("ground",0),("sizes",3)]) rfl (Zbh (by kernel_rfl)) (Za1 (Zbk (pv 1) rfl)) (λ_ _ _ _=>⟨(@Zcr _ K rfl _ _ _ _ 2 rfl ((0<<<["tail","head","ground","sizes"])^^^((1<<<["tail","head","ground","sizes"])^^^(@Za2 _))) ⇑1 ⇑1),Za0,(Yaf<$>hr<$>((pv 2)<&>(((Zew K rfl)<|>(pv 3)<||>(pv 1))<&>(((Zew K rfl)<|>(pv 3)<||>(pv 0))<&>Zab))))⟩) nd rfl rfl rfl)<*>(~~~(Zqk Yaj hr.m rfl ((pvr 0)<&>((pvr 1)<&>((pvr 3)<&>((pvr 4)<&>Zab)))))))),?_⟩;walk_at "wp";refine⟨⇑0,λp1 h1=>?_⟩;have s1:=Same.new (o:=.lst [V.int 0]) h1;refine Za9 C dd _ ⟨s1 _ _ hd,T.cl_Drawing,T.nM,_,Zc0 m lp,p1,m,[V.int 0],rfl,rfl,Zaa,∅,∅,Jbl (Zaj (by show 1*m.toNat<=1000;omega)),λp2 h2=>?_⟩;rw[Jci];have s2:=Same.new (o:=.lst (List.replicate m.toNat (V.int 0))) h2;refine Za9 p2 (List.replicate m.toNat 0) k ⟨rfl,by rw[Zaa,Je9],by rw[Ja4];exact oz81 m8,k0,by rw[Ja4];exact oz27 k1,λz H3 s3 fz hz=>?_⟩;rw[Zk9] at hz;have t3:=(s1.trans s2).trans s3;have hlp3:=t3 _ _ hlp;have pr3:=pr.same t3;have hpl:=pr.1;have z3:Sizes H3 z (Zas m k):=⟨hz,by rw[Zba];exact oz81 m8,Zde⟩
  have hol:=Zba m k;refine⟨_,rfl,d,C,dd,_,_,rfl,t3 _ _ hd,T.cl_Drawing,T.nA,Zay m lp,lp,rfl,⟨_,SqL.of hlp3⟩,λD hD=>?_⟩;refine Zbp (k:=2) (xs:=xs) (λi vs H4=>∃ (ts:List Addr) (cs:List (Int×Int×List (List V))),vs=ts.map V.ref/\Same H3 H4/\H4 D=some (.lst vs)/\ts.length=i/\cs.length=i/\(∀ (j:Nat) t c,ts[j]?=some t->cs[j]?=some c->∃ r rs,TabC H4 p c.1 c.2.1 t r rs c.2.2/\r≠D/\D∉rs) /\
   (∀ c∈cs,0<=c.1/\c.1<=24/\0<=c.2.1/\c.2.1<=24/\Nul H4 p c.2.2)/\∀ (j:Nat) c q,cs[j]?=some c->ps[j]?=some q->c.1=(Zas m k).getD q.2.toNat 0/\c.2.1=(Zas m k).getD q.1.toNat 0)
   ⟨[],[],rfl,Same.new hD,Zaa,rfl,rfl,λj t c e=>by simp at e,by simp,λj c q e=>by simp at e⟩ (λi vs H4 _ ⟨_,_,_,s4,_⟩=>SqL.of (s4 _ _ hlp3)) ?_ ?_
  .intro i x vs σ' H4 hi hx sh e94;refine Zqq e94 λts cs e923 s4 hD4 hln hlc e924=>?_;clear e94;obtain rfl:=e923;refine Zar e924 λhc hb hf=>?_;clear e924;refine Zpl sh.two λw1 w2 e925=>?_;obtain rfl:=e925;have hq:ps[i]?=some (ps[i]'(oz6 hpl hi)):=Jaa (oz6 hpl hi);refine Zah ((pr3.same s4).2 i x _ hx hq) λta e926 hta=>?_;obtain rfl:=e926;refine Zbx (ip _ (Jai hq)) λi0 i1 j0 j1=>?_;have a1:=Zki (ns:=Zas m k) i0 (oz50 hol i1);have a2:=Zki (ns:=Zas m k) j0 (oz50 hol j1);have b1:=Zde ((Zas m k).getD ps[i].1.toNat 0) (by rw[Jao,Jaa (show ps[i].1.toNat<(Zas m k).length by omega)];exact Jbr _);have b2:=Zde ((Zas m k).getD ps[i].2.toNat 0) (by rw[Jao,Jaa (show ps[i].2.toNat<(Zas m k).length by omega)];exact Jbr _);refine Zav ta _ ⟨rfl,SqT.of hta,rfl,_,_,rfl,_,_,rfl,rfl,?_⟩;simp only[Zfb,List.set_cons_zero,List.set_cons_succ,Jck];have hz4:=s4 _ _ z3.1;refine⟨_,rfl,_,rfl,_,rfl,z,_,_,_,rfl,rfl,SqL.of hz4,a2,_,rfl,_,rfl,z,_,_,_,rfl,rfl,SqL.of hz4,a1,g,p,_,_,rfl,hg.same (t3.trans s4),hp,b2.1,b2.2,b1.1,b1.2,λt M H5 s5 ft tf nl=>?_⟩;refine Zeh tf λr rs tc _ fr fs=>?_;clear tf;have hD5:=s5 _ _ hD4;have nr:r≠D:=λw=>by rw[w,hD4] at fr;cases fr
   have nrs:D∉rs:=λw=>by have:=fs D w;rw[hD4] at this;cases this
   refine leaf (ws:=ts.map V.ref++[.ref t]) hi Sh.mk2 hD5 (Zaj (by rw[Jab];exact oz45 p9 hpl hi hln)) ⟨ts++[t],cs++[((Zas m k).getD ps[i].2.toNat 0,(Zas m k).getD ps[i].1.toNat 0,M)],Zbs _ _,(s4.trans s5).upd hD,by rw[Zaa],by rw[Jak,hln];rfl,by rw[Jak,hlc];rfl,?_,?_,?_⟩
   .intro j t' c e1 e2;by_cases hj:j<ts.length
    .rw [Jar hj] at e1;rw[Jar (oz29 hln hlc hj)] at e2;refine Za3 (hc j t' c e1 e2) λr' rs' tc' n1 n2=>?_;exact Zav r' rs' ⟨(tc'.same s5).put hD5 n1 n2,n1,n2⟩
    .rw [Jat ∅] at e1 e2;have hj0:j-ts.length=0:=by
      by_cases z:j-ts.length=0
      .exact z
      .rw [Jb9 (by simp;exact oz5 z)] at e1;cases e1
     rw[hj0] at e1;rw[show j-cs.length=0 by exact oz7 hln hlc hj0] at e2;cases e1;cases e2;exact Zav r rs ⟨tc.put hD5 nr nrs,nr,nrs⟩
   .intro c hcm;rcases Jbp.mp hcm with h|h
    .refine Zdu (hb c h) λc1 c2 c3 c4 c5=>?_;exact⟨c1,c2,c3,c4,(c5.same s5).put hD5⟩
    .rw [Jam.mp h];exact⟨b2.1,b2.2,b1.1,b1.2,nl.put hD5⟩
   .intro j c q' e1 e2;by_cases hj:j<cs.length
    .rw [Jar hj] at e1;exact hf j c q' e1 e2
    .rw [Jat (Zvh hj)] at e1;have hj0:j-cs.length=0:=by
      by_cases z:j-cs.length=0
      .exact z
      .rw [Jb9 (by simp;exact oz5 z)] at e1;cases e1
     rw[hj0] at e1;cases e1;rw[show j=i by exact oz3 hlc hj hj0,hq] at e2;cases e2;exact⟨rfl,rfl⟩
  .intro vs H4 e95;refine Zqq e95 λts cs e927 s4 hD4 hln hlc e928=>?_;clear e95;obtain rfl:=e927;refine Zar e928 λhc hb hf=>?_;clear e928;intro x dx hx hdx ndx;have hT:Tbs H4 p D ts cs:=⟨hD4,oz14 hln hlc,oz66 p9 hpl hlc,λi t c e1 e2=>by
    refine Zbg (hc i t c e1 e2) λr rs tc _=>?_;refine Zdu (hb c (Jai e2)) λc1 c2 c3 c4 _=>?_;exact⟨⟨r,rs,tc⟩,c1,c2,c3,c4⟩⟩
   have t4:=t3.trans s4;have ft:Fits (Zas m k) cs ps:=⟨oz15 hpl hlc,hf⟩
   have fx:(upd H4 dx (.own x)) x=none:=by rw[Zag ndx.symm];exact hx
   have sx:Same H4 (upd (upd H4 dx (.own x)) x (.ins S dx [])):=(Same.new hdx).trans (Same.new fx);have t5:=t4.trans sx;refine Zw3 x dx g d z D lp p m xs ps (Zas m k) ts cs ⟨rfl,Zaa,hg.same t5,hp,⟨dd,t5 _ _ hd,t5 _ _ hlp⟩,pr.same t5,ip,p9,z3.same (s4.trans sx),by rw[hol];exact oz133 m1,hT.same sx,ft,λz' l' ts' H' ex hx' fz' fl' hz' hl' hn' ht'=>⟨rfl,?_⟩⟩;have sH:Same H4 H':=Same.thru sx hx ex;refine q x dx z' l' ts' cs H' (t4.trans sH) hx' hz' ⟨hl',hn',oz66 p9 hpl hlc,λi t c e1 e2=>?_⟩ ft λc hcm=>(hb c hcm).2.2.2.2.same sH;refine Zbg (ht' i t c e1 e2) λr rs tc _=>?_;refine Zdu (hb c (Jai e2)) λc1 c2 c3 c4 _=>?_;exact⟨⟨r,rs,tc⟩,c1,c2,c3,c4⟩
end
end Pf
set_option maxHeartbeats 1000000
namespace Pf
open PySem L2 PyProof.Rows
theorem Zfx {X:Cx}{e:Expr}:PE X e (λ_ _ _=>False):=λ_ _ _ _ _ _ h=>h.elim
structure Cs where
 LimbError:Addr
 NoGround:Addr
 NoNumber:Addr
 NoTable:Addr
 NoDrawing:Addr
 NoKind:Addr
 NoStanding:Addr
 NoChange:Addr
 NoMirror:Addr
 NoRoot:Addr
 NoText:Addr
 NoRow:Addr
 NoName:Addr
structure Xt (K:Frag)(mg:Str->Option Value)(base:Heap)(cc:Cs):Prop where
 g_LimbError:mg "LimbError" = some (.ref cc.LimbError)
 g_NoGround:mg "NoGround" = some (.ref cc.NoGround)
 g_NoNumber:mg "NoNumber" = some (.ref cc.NoNumber)
 g_NoTable:mg "NoTable" = some (.ref cc.NoTable)
 g_NoDrawing:mg "NoDrawing" = some (.ref cc.NoDrawing)
 g_NoKind:mg "NoKind" = some (.ref cc.NoKind)
 g_NoStanding:mg "NoStanding" = some (.ref cc.NoStanding)
 g_NoChange:mg "NoChange" = some (.ref cc.NoChange)
 g_NoMirror:mg "NoMirror" = some (.ref cc.NoMirror)
 g_NoRoot:mg "NoRoot" = some (.ref cc.NoRoot)
 g_NoText:mg "NoText" = some (.ref cc.NoText)
 g_NoRow:mg "NoRow" = some (.ref cc.NoRow)
 g_NoName:mg "NoName" = some (.ref cc.NoName)
 o_LimbError:OwnCls "LimbError" cc.LimbError bmV newV mg base
 o_NoKind:OwnCls "NoKind" cc.NoKind bmV newV mg base
 u_NoKind:∃ C' nm q N bs bm hdct sn sub ab col dd k0 k1 k2 k3 k5 new,Value.ref cc.NoKind=.ref C'/\base.get? C'=some (excClassObj nm q C' N bs bm hdct sn sub ab col dd k0 k1 k2 k3 k5 new)/\bm.contains (.ref cc.LimbError)=true
 z:ExcCls K cc.NoKind
 i:(PySem.W.clsIn K cc.NoKind).isSome=true
 t1:PySem.W.kitAny K (.ref cc.NoKind) [.ref cc.NoGround,.ref cc.NoNumber,.ref cc.NoTable,.ref cc.NoDrawing,.ref cc.NoStanding,.ref cc.NoChange,.ref cc.NoMirror]=some false
 t2:PySem.W.kitAny K (.ref cc.NoKind) [.ref cc.NoRoot,.ref cc.NoText,.ref cc.NoRow,.ref cc.NoName]=some false
 v:PySem.W.kitOne K (.ref cc.NoKind) (.type "ValueError")=some true
section
variable {C G S:Addr}{cc:Cs}
def Nil (H:Hp)(t:Addr):Prop:=∃ r,H t=some (.tup [.int 0,.int 0,.ref r])/\H r=some (.lst [])
theorem Nil.same {H H':Hp}{t:Addr}(h:Nil H t)(s:Same H H'):Nil H' t:=let ⟨r,a,b⟩:=h;⟨r,s _ _ a,s _ _ b⟩
def Nil2 (H:Hp)(t:Addr):Prop:=∃ a b,H t=some (.tup [.ref a,.ref b])/\H a=some (.lst [])/\H b=some (.lst [])
theorem Zlf {a D:Addr}{g:TG}{tt:TT}{te:TE}{k:Nat}{fr:List (Str×Nat)}{σ:L2.St}{H1:Hp}{Q:VK}(ha:H1 a=some (.lst []))(hD:H1 D=none)(h:Q (.ref D) (upd H1 D (.lst []))):Zbv g tt te (Itl K a) D (Ze9 k fr σ) H1 Q:=
 Zbp (xs:=[]) (λi vs H=>H=upd H1 D (.lst [])) rfl (λi vs H _ e=>by rw[e];exact SqL.of (Same.new hD _ _ ha)) (λi x vs σ' H hi=>absurd hi (Jc3 _)) (λvs H e=>by rw[e];exact h)
theorem Zn0 {a b D:Addr}{g:TG}{tt:TT}{te:TE}{k:Nat}{fr:List (Str×Nat)}{σ:L2.St}{H1:Hp}{Q:VK}(ha:H1 a=some (.lst []))(hb:H1 b=some (.lst []))(hD:H1 D=none)(h:Q (.ref D) (upd H1 D (.lst []))):Zbv g tt te (Itz K a b) D (Ze9 k fr σ) H1 Q:=
 Zlg (xs:=[]) (ys:=[]) (λi vs H=>H=upd H1 D (.lst [])) rfl rfl (λi vs H _ e=>by rw[e];exact⟨SqL.of (Same.new hD _ _ ha),SqL.of (Same.new hD _ _ hb)⟩) (λi x y p vs σ' H hi=>absurd hi (Jc3 _)) (λvs H e=>by rw[e];exact h)
theorem Zn1 {lo:Int}{D:Addr}{g:TG}{tt:TT}{te:TE}{k:Nat}{fr:List (Str×Nat)}{σ:L2.St}{H1:Hp}{Q:VK}(h:Q (.ref D) (upd H1 D (.lst []))):Zbv g tt te (Itr lo 0) D (Ze9 k fr σ) H1 Q:=
 Zey (n:=0) (λi vs H=>H=upd H1 D (.lst [])) rfl (λi x vs σ' H hi=>absurd hi (Jc3 _)) (λvs H e=>by rw[e];exact h)
theorem Ztm {a b:Addr}{xs ys:List V}{g:TG}{tb:TS}{Dn:Ends}{σ:L2.St}{H:Hp}(Pv:Nat->L2.St->Hp->Prop)(hlen:ys.length=xs.length)(h0:Pv 0 σ H)(hl:∀ i σ H,i<=xs.length->Pv i σ H->SqL K H a xs/\SqL K H b ys)(hs:∀ (i:Nat) x y p σ H,xs[i]?=some x->ys[i]?=some y->H p=none->Pv i σ H->g (.ref p) σ (upd H p (.tup [x,y])) λσ2 H2=>tb { Dn with nx:=Pv (i+1),ct:=Pv (i+1),bk:=Dn.nx } σ2 H2)(hd:∀ σ H,Pv xs.length σ H->Dn.nx σ H):
  ∃ W:Nat->Nat->L2.St->Hp->Prop,(∃ m,W 0 m σ H)/\∀ i m σ H,W i m σ H->
   ((Itz K a b).stop i H/\Dn.nx σ H)\/((Itz K a b).go i H/\∃ N:L2.St->Hp->Prop,(∀ σ' H',N σ' H'->∃ m',m'<m/\W (i+1) m' σ' H')/\∀ x H',(Itz K a b).yld i H x H'->g x σ H' λσ2 H2=>tb { Dn with nx:=N,ct:=N,bk:=Dn.nx } σ2 H2):=by
 refine⟨λi m σ H=>m=xs.length-i/\i<=xs.length/\Pv i σ H,⟨xs.length,by simp,Jbm _,h0⟩,?_⟩;intro i m σ H e91;refine Zar e91 λe96 hi p=>?_;clear e91;obtain rfl:=e96;obtain⟨q1,q2⟩:=hl i σ H hi p;by_cases hlt:i<xs.length
 .refine .inr ⟨⟨xs,ys,xs[i],ys[i]'(oz78 hlen hlt),q1,q2,by simp[hlt],by simp[hlen,hlt]⟩,Pv (i+1),λσ' H' p'=>⟨xs.length-(i+1),oz10 hlt,rfl,hlt,p'⟩,λx H' y=>?_⟩;refine Zb3 y λu v pp e97 hp e98 e99=>?_;clear y;obtain rfl:=e97;obtain rfl:=e98;obtain⟨e1,e2⟩:=e99;exact hs i u v pp σ _ (e1 xs q1) (e2 ys q2) hp p
 .have e:i=xs.length:=by exact oz28 hi hlt
  subst e;exact .inl ⟨⟨xs,ys,q1,q2,.inl (Jaf _)⟩,hd σ H p⟩
def Znb:Sp:=λvs H Q _=>∃ g r:Addr,vs=[.ref g,.ref r,.int 0]/\H r=some (.lst [])/\∀ t H',Same H H'->Nil2 H' t->Q (.ref t) H'
theorem Zvs (F:Fun K "swept" "swept" Znj f fd)(T:Txt K mg C G S):FnOk P w K mg base CX0 1 f fd ["ground","rows","wide"] Znb:=by
 have nd:=Zok.nd;refine F.ok Zok (λvs H Q E h=>?_) (λcdv A outer s H vs Q E hr h=>?_)
 .refine Zbg h λg r e910 _=>?_;clear h;obtain rfl:=e910;rfl
 .refine Za3 h λg r e911 hr0 q=>?_;clear h;obtain rfl:=e911;refine⟨_,((3|||nd|||(@Zbj _ _ _ _ Zab))<*>((Zfo (i:=4) (own:=["row"]) (fr:=[("ground",0)]) rfl (Zbh (by kernel_rfl)) (Za1 (pv 1)) (λ_ _ _ _=>⟨(0<<<["row","ground"]),Za0,Zfx⟩) nd rfl rfl rfl)<*>((5|||nd|||(@Zbj _ _ _ _ Zab))<*>((Zcy Ja7 rfl (Zid rfl T.n_range ((pv 2)<&>Zab)) (@Zad _ _ 6 _ nd rfl (Or.inr rfl) (Or.inl rfl)) (Zbm<*>(@Zam _ _ _ Zbm)))<*>(~~~(@Zaq _ _ _ _ _ ((Zgb<|>(pvr 3)<&&>(pvr 4))<&>((pvr 5)<&>Zab)))))))),?_⟩;walk_at "wp";refine⟨⇑0,λd1 hd1=>?_⟩;have s1:=Same.new (o:=.lst []) hd1;refine⟨_,rfl,r,rfl,⟨_,SqL.of (s1 _ _ hr0)⟩,λD hD=>Zlf (s1 _ _ hr0) hD ⟨⇑0,λd2 hd2=>?_⟩⟩;have q1:(upd H d1 (.lst [])) d1=some (.lst []):=Zaa;generalize upd H d1 (.lst [])=H1 at *;have s2:=Same.new (o:=.lst []) hD;have q2:(upd H1 D (.lst [])) D=some (.lst []):=Zaa;generalize upd H1 D (.lst [])=H2 at *;have s3:=Same.new (o:=.lst []) hd2;have q3:(upd H2 d2 (.lst [])) d2=some (.lst []):=Zaa;generalize upd H2 d2 (.lst [])=H3 at *;refine⟨_,rfl,0,rfl,⇑0,⇑0,Zjn (λi σ H4=>H4=H3/\σ=[some (.ref g),some (.ref r),some (.int 0),some (.ref d1),some (.ref D),some (.ref d2),none,none,none]) ⟨rfl,rfl⟩ (λi σ H4 hi=>absurd hi (Jc3 _)) ?_⟩;intro σ H4 e92;obtain⟨rfl,rfl⟩:=e92;walk_at "wp";refine⟨[],(s2.trans s3) _ _ q1,[],s3 _ _ q2,⇑0,λd3 hd3=>⟨⇑0,λt ht=>?_⟩⟩;have s4:=Same.new (o:=.lst ([]++[])) hd3;have s5:=Same.new (o:=.tup [V.ref d3,V.ref d2]) ht;exact q t _ ((((s1.trans s2).trans s3).trans s4).trans s5) ⟨d3,d2,Zaa,s5 _ _ Zaa,s5 _ _ (s4 _ _ q3)⟩
def Zrb:Sp:=λvs H Q _=>∃ g r:Addr,vs=[.ref g,.ref r,.int 0]/\H r=some (.lst [])/\∀ t H',Same H H'->Nil2 H' t->Q (.ref t) H'
theorem ok_redr (F:Fun K "reduced_rows" "reduced_rows" Zd4 f fd)(T:Txt K mg C G S)(Ya9:Cal P w K mg base "swept" 1 Znb):FnOk P w K mg base CX0 2 f fd ["ground","rows","wide"] Zrb:=by
 have nd:=Zfe.nd;refine F.ok Zfe (λvs H Q E h=>?_) (λcdv A outer s H vs Q E hr h=>?_)
 .refine Zbg h λg r e912 _=>?_;clear h;obtain rfl:=e912;rfl
 .refine Za3 h λg r e913 hr0 q=>?_;clear h;obtain rfl:=e913;refine⟨_,((Zcl (Ya9<$>hr<$>((pvr 0)<&>((pvr 1)<&>((pvr 2)<&>Zab)))) (@Zb8 _ _ _ _ _ 2 rfl ((@Zad _ _ 3 _ nd rfl (Or.inr rfl) (Or.inl rfl))^^^((4>>>nd)^^^(@Za2 _))) ⇑1 ⇑1))<*>((Zcy Ja7 rfl (pi_rvl rfl T.n_reversed ((pe_le0 rfl rfl T.n_list rfl T.n_enumerate ((pv 4)<&>Zab))<&>Zab)) (@Zb8 _ _ _ _ _ 2 rfl ((@Zad _ _ 5 _ nd rfl (Or.inr rfl) (Or.inl rfl))^^^((@Zad _ _ 6 _ nd rfl (Or.inr rfl) (Or.inl rfl))^^^(@Za2 _))) ⇑1 ⇑1) (@Zam _ _ _ Zbm))<*>((Zfo (i:=7) (own:=["row","place"]) (fr:=[]) rfl (Zbh (by kernel_rfl)) (Zje rfl T.n_zip ((pv 3)<&>((pv 4)<&>Zab))) (λ_ _ _ _=>⟨(@Zcr _ K rfl _ _ _ _ 2 rfl ((0<<<["row","place"])^^^((1<<<["row","place"])^^^(@Za2 _))) ⇑1 ⇑1),Za0,Zfx⟩) nd rfl rfl rfl)<*>((Zcf (Zfp Jay Jdw Jdx Zjh (pvr 7) ((Zma<|>(@Zbj _ _ _ _ (Zac<&>Zab))<&&>(Zdy<|>(Za4 Zak rfl T.n_len Ja6 ((pvr 3)<&>Zab))<&&>(Za4 Zak rfl T.n_len Ja6 ((pvr 4)<&>Zab))))<&>Zab)))<*>(~~~(@Zaq _ _ _ _ _ ((Zax (own:=["row","lead"]) (fr:=[("ground",0)]) rfl (Zbh (by kernel_rfl)) (Zje rfl T.n_zip ((pv 3)<&>((pv 7)<&>Zab))) (λ_ _ _ _=>⟨(@Zcr _ K rfl _ _ _ _ 2 rfl ((0<<<["row","lead","ground"])^^^((@Zad _ _ 1 _ (show (["row","lead","ground"]:List Str).Nodup by decide +kernel) rfl (Or.inr rfl) (Or.inl rfl))^^^(@Za2 _))) ⇑1 ⇑1),Za0,Zfx⟩))<&>((pvr 4)<&>Zab)))))))),?_⟩;walk_at "wp";refine Zav g r ⟨rfl,hr0,λt H1 s1 ⟨a,b,ht,ha,hb⟩=>⟨t,rfl,_,SqT.of ht,rfl,_,_,rfl,_,_,rfl,rfl,?_⟩⟩;refine⟨_,rfl,b,rfl,SqL.of hb,λl hl=>?_⟩;have s2:=Same.new (o:=.lst []) hl;have q2:(upd H1 l (.lst [])) l=some (.lst []):=Zaa;generalize upd H1 l (.lst [])=H2 at *;refine Zav l [] ⟨rfl,SqL.of q2,for_rvl (xs:=[]) (λi σ H4=>H4=H2/\σ=[some (.ref g),some (.ref r),some (.int 0),some (.ref a),some (.ref b),none,none,none]) ⟨rfl,rfl⟩ (λi σ H4 _ e=>by rw[e.1];exact SqL.of q2) (λi x σ H4 hi=>absurd hi (Jc3 _)) ?_⟩;intro σ H4 e93;obtain⟨rfl,rfl⟩:=e93;walk_at "wp";have ha2:=s2 _ _ ha;have hb2:=s2 _ _ hb;refine⟨_,rfl,_,rfl,a,b,rfl,⟨_,SqL.of ha2⟩,⟨_,SqL.of hb2⟩,λD hD=>Zn0 ha2 hb2 hD ?_⟩;have s3:=Same.new (o:=.lst []) hD;have q3:(upd H4 D (.lst [])) D=some (.lst []):=Zaa;generalize upd H4 D (.lst [])=H3 at *;refine⟨.inl ⟨rfl,_,SqL.of q3⟩,⇑0,λo1 ho1=>?_⟩;have s4:=Same.new (o:=.lst [V.int 1]) ho1;have q4:(upd H3 o1 (.lst [V.int 1])) o1=some (.lst [V.int 1]):=Zaa;generalize upd H3 o1 (.lst [V.int 1])=H5 at *;have s34:=s3.trans s4;refine⟨[],.inl (SqL.of (s34 _ _ ha2)),[],.inl (SqL.of (s34 _ _ hb2)),o1,_,_,rfl,rfl,q4,⇑0,⇑0,⇑0,λo2 ho2=>?_⟩;have s5:=Same.new (o:=.lst (List.replicate (((([]:List V).length:Int)-(([]:List V).length:Int)).toNat) [V.int 1]).flatten) ho2;have q5:(upd H5 o2 (.lst (List.replicate (((([]:List V).length:Int)-(([]:List V).length:Int)).toNat) [V.int 1]).flatten)) o2=some (.lst []):=Zaa;generalize upd H5 o2 (.lst (List.replicate (((([]:List V).length:Int)-(([]:List V).length:Int)).toNat) [V.int 1]).flatten)=H6 at *;have q6:=s5 _ _ (s4 _ _ q3);refine Zkk D o2 [] [] ⟨rfl,rfl,q6,q5,⇑0,?_⟩;have s6:Same H4 (upd H6 D (.lst ([]++[]))):=((s3.trans s4).trans s5).upd hD;have q7:(upd H6 D (.lst ([]++[]))) D=some (.lst []):=Zaa;generalize upd H6 D (.lst ([]++[]))=H7 at *;refine⟨_,rfl,_,rfl,a,D,rfl,⟨_,SqL.of (s6 _ _ ha2)⟩,⟨_,SqL.of q7⟩,λD2 hD2=>Zn0 (s6 _ _ ha2) q7 hD2 ⟨⇑0,λt' ht'=>?_⟩⟩;have s8:=Same.new (o:=.lst []) hD2;have s9:=Same.new (o:=.tup [V.ref D2,V.ref b]) ht';exact q t' _ ((((s1.trans s2).trans s6).trans s8).trans s9) ⟨D2,b,Zaa,s9 _ _ Zaa,s9 _ _ (s8 _ _ (s6 _ _ hb2))⟩
def Zre:Sp:=λvs H Q _=>∃ g:Addr,vs=[.ref g,.int 0,.int 0]/\∀ t H',Same H H'->Nil H' t->Q (.ref t) H'
theorem ok_nou0 (F:Fun K "noughts" "noughts" Zg1 f fd)(T:Txt K mg C G S):FnOk P w K mg base CX0 1 f fd ["ground","high","wide"] Zre:=by
 have nd:=Zfv.nd;refine F.ok Zfv (λvs H Q E h=>?_) (λcdv A outer s H vs Q E hr h=>?_)
 .refine Zah h λg e914 _=>?_;clear h;obtain rfl:=e914;rfl
 .refine Zah h λg e915 q=>?_;clear h;obtain rfl:=e915;refine⟨_,(~~~(@Zaq _ _ _ _ _ ((pvr 1)<&>((pvr 2)<&>((Zax (own:=["row"]) (fr:=[("ground",0),("wide",2)]) rfl (Zbh (by kernel_rfl)) (Zid rfl T.n_range ((pv 1)<&>Zab)) (λ_ _ _ _=>⟨(0<<<["row","ground","wide"]),Za0,Zfx⟩))<&>Zab))))),?_⟩;walk_at "wp";refine⟨_,rfl,0,rfl,⇑0,⇑0,λD hD=>Zn1 ⟨⇑0,λt ht=>?_⟩⟩;have s1:=Same.new (o:=.lst []) hD;have s2:=Same.new (o:=.tup [V.int 0,V.int 0,V.ref D]) ht;exact q t _ (s1.trans s2) ⟨D,Zaa,s2 _ _ Zaa⟩
def Zog:Sp:=λvs H Q _=>∃ t:Addr,vs=[.ref t]/\Nil H t/\∀ t' H',Same H H'->Nil H' t'->Q (.ref t') H'
theorem ok_trn0 (F:Fun K "turned_about" "turned_about" Zd2 f fd)(T:Txt K mg C G S):FnOk P w K mg base CX0 1 f fd ["table"] Zog:=by
 have nd:=Zfc.nd;refine F.ok Zfc (λvs H Q E h=>?_) (λcdv A outer s H vs Q E hr h=>?_)
 .refine Zah h λt e916 _=>?_;clear h;obtain rfl:=e916;rfl
 .refine Zap h λt e917 e918 q=>?_;clear h;obtain rfl:=e917;obtain⟨r,ht,hr0⟩:=e918;refine⟨_,((Zcl (pvr 0) (@Zb8 _ _ _ _ _ 3 rfl ((1>>>nd)^^^((2>>>nd)^^^((@Zad _ _ 3 _ nd rfl (Or.inr rfl) (Or.inl rfl))^^^(@Za2 _)))) ⇑1 ⇑1))<*>(~~~(@Zaq _ _ _ _ _ ((pvr 2)<&>((pvr 1)<&>((Zax (own:=["place"]) (fr:=[("rows",3)]) rfl (Zbh (by kernel_rfl)) (Zid rfl T.n_range ((pv 2)<&>Zab)) (λ_ _ _ _=>⟨(@Zad _ _ 0 _ (show (["place","rows"]:List Str).Nodup by decide +kernel) rfl (Or.inr rfl) (Or.inl rfl)),Za0,Zfx⟩))<&>Zab)))))),?_⟩;walk_at "wp";refine⟨_,SqT.of ht,rfl,_,_,rfl,_,_,rfl,_,_,rfl,rfl,?_⟩;refine⟨_,rfl,0,rfl,⇑0,⇑0,λD hD=>Zn1 ⟨⇑0,λt' ht'=>?_⟩⟩;have s1:=Same.new (o:=.lst []) hD;have s2:=Same.new (o:=.tup [V.int 0,V.int 0,V.ref D]) ht';exact q t' _ (s1.trans s2) ⟨D,Zaa,s2 _ _ Zaa⟩
def spToN:Sp:=λvs H Q _=>∃ g t:Addr,vs=[.ref g,.ref t]/\Nil H t/\∀ t' H',Same H H'->Nil H' t'->Q (.ref t') H'
theorem ok_ton (F:Fun K "to_nought" "to_nought" Zgh f fd)(T:Txt K mg C G S)(Ybg:Cal P w K mg base "reduced_rows" 2 Zrb)(Yaf:Cal P w K mg base "noughts" 1 Zre):FnOk P w K mg base CX0 3 f fd ["ground","table"] spToN:=by
 have nd:=Zh1.nd;refine F.ok Zh1 (λvs H Q E h=>?_) (λcdv A outer s H vs Q E hr h=>?_)
 .refine Zbg h λg t e919 _=>?_;clear h;obtain rfl:=e919;rfl
 .refine Za3 h λg t e920 e921 q=>?_;clear h;obtain rfl:=e920;obtain⟨r,ht,hr0⟩:=e921;refine⟨_,((Zcl (pvr 1) (@Zb8 _ _ _ _ _ 3 rfl ((2>>>nd)^^^((3>>>nd)^^^((4>>>nd)^^^(@Za2 _)))) ⇑1 ⇑1))<*>((Zcl (Ybg<$>hr<$>((pvr 0)<&>((pvr 4)<&>((pvr 3)<&>Zab)))) (@Zb8 _ _ _ _ _ 2 rfl ((5>>>nd)^^^((@Zad _ _ 6 _ nd rfl (Or.inr rfl) (Or.inl rfl))^^^(@Za2 _))) ⇑1 ⇑1))<*>((Zfo (i:=7) (own:=["place"]) (fr:=[("places",6)]) rfl (Zbh (by kernel_rfl)) (Zid rfl T.n_range ((pv 3)<&>Zab)) (λ_ _ _ _=>⟨(0<<<["place","places"]),(Zcp (Za5 (Zdd K rfl) (pv 0) (pv 1) (by with_unfolding_all rfl))),(pv 0)⟩) nd rfl rfl rfl)<*>((8|||nd|||(Zg6<|>(Yaf<$>hr<$>((pvr 0)<&>((pvr 3)<&>((Za4 Zak rfl T.n_len Ja6 ((pvr 7)<&>Zab))<&>Zab))))<||>Zac))<*>((Zcy Ja7 rfl (Zje rfl T.n_zip ((pv 5)<&>((pv 6)<&>Zab))) (@Zb8 _ _ _ _ _ 2 rfl ((@Zad _ _ 9 _ nd rfl (Or.inr rfl) (Or.inl rfl))^^^((10>>>nd)^^^(@Za2 _))) ⇑1 ⇑1) (@Zam _ _ _ Zbm))<*>((Zcy Ja7 rfl (Zxe rfl T.n_enumerate ((pv 7)<&>Zab)) (@Zb8 _ _ _ _ _ 2 rfl ((11>>>nd)^^^((10>>>nd)^^^(@Za2 _))) ⇑1 ⇑1) (@Zam _ _ _ Zbm))<*>(~~~(@Zaq _ _ _ _ _ ((pvr 3)<&>((Za4 Zak rfl T.n_len Ja6 ((pvr 7)<&>Zab))<&>((pvr 8)<&>Zab))))))))))),?_⟩;walk_at "wp";refine⟨_,SqT.of ht,rfl,_,_,rfl,_,_,rfl,_,_,rfl,rfl,g,r,rfl,hr0,λt1 H1 s1 ⟨a,b,ht1,ha,hb⟩=>⟨t1,rfl,_,SqT.of ht1,rfl,_,_,rfl,_,_,rfl,rfl,?_⟩⟩;refine⟨_,rfl,0,rfl,⇑0,⇑0,λD hD=>Zn1 ⟨D,rfl,[],.inl (SqL.of Zaa),?_⟩⟩;have s2:=Same.new (o:=.lst []) hD;have q2:(upd H1 D (.lst [])) D=some (.lst []):=Zaa;generalize upd H1 D (.lst [])=H2 at *;refine⟨g,rfl,λt3 H3 s3 ⟨r3,ht3,hr3⟩=>?_⟩;refine⟨t3,rfl,_,SqT.of ht3,_,rfl,?_⟩;have t12:=s2.trans s3;have ha3:=t12 _ _ ha;have hb3:=t12 _ _ hb;refine⟨_,rfl,_,rfl,a,b,rfl,⟨_,SqL.of ha3⟩,⟨_,SqL.of hb3⟩,Ztm (xs:=[]) (ys:=[]) (λi σ H4=>H4=H3/\σ=[some (.ref g),some (.ref t),some (.int 0),some (.int 0),some (.ref r),some (.ref a),some (.ref b),some (.ref D),some (.ref r3),none,none,none]) rfl ⟨rfl,rfl⟩ (λi σ H4 _ e=>by rw[e.1];exact⟨SqL.of ha3,SqL.of hb3⟩) (λi x y p σ H4 hx=>by simp at hx) ?_⟩;intro σ H4 e94;obtain⟨rfl,rfl⟩:=e94;refine⟨_,rfl,D,rfl,⟨_,SqL.of (s3 _ _ q2)⟩,for_enm (xs:=[]) (λi σ H5=>H5=H4/\σ=[some (.ref g),some (.ref t),some (.int 0),some (.int 0),some (.ref r),some (.ref a),some (.ref b),some (.ref D),some (.ref r3),none,none,none]) ⟨rfl,rfl⟩ (λi σ H5 _ e=>by rw[e.1];exact SqL.of (s3 _ _ q2)) (λi x p σ H5 hx=>by simp at hx) ?_⟩;intro σ H5 e95;obtain⟨rfl,rfl⟩:=e95;walk_at "wp";refine⟨[],.inl (SqL.of (s3 _ _ q2)),⇑0,λt' ht'=>?_⟩;have s9:=Same.new (o:=.tup [V.int 0,V.int (([]:List V).length:Int),V.ref r3]) ht';exact q t' _ ((s1.trans t12).trans s9) ⟨r3,Zaa,s9 _ _ hr3⟩
end
end Pf
namespace Pf
open PySem L2 PyProof.Rows
section
variable {C G S:Addr}
def Zpp (k:Int)(q:Int×Int):Int×Int:=if q.1=k\/q.2=k then (q.2,q.1) else q
theorem InP.turn {m k:Int}{ps:List (Int×Int)}(h:InP m ps):InP m (ps.map (Zpp k)):=by
 intro q hq;refine Zah (Jan.mp hq) λr hr e91=>?_;obtain rfl:=e91;refine Zbx (h r hr) λh1 h2 h3 h4=>?_;unfold Zpp;split
 .exact ⟨h3,h4,h1,h2⟩
 .exact ⟨h1,h2,h3,h4⟩
def Zih (C:Addr):Sp:=λvs H Q _=>∃ (p:Addr) (m k:Int) (ps:List (Int×Int)),vs=[.ref p,.int k]/\1<=m/\m<=8/\Drw C H p m ps/\InP m ps/\∀ p' H',Same H H'->Drw C H' p' m (ps.map (Zpp k))->Q (.ref p') H'
theorem Zsi (F:Fun K "turned" "Drawing.turned" Zc3 f fd)(T:Txt K mg C G S)(Yab:CalI P w K mg base "Drawing" C 4 (Zio C)):FnOk P w K mg base CX0 6 f fd ["self","point"] (Zih C):=by
 have nd:=Zec.nd;refine F.ok Zec (λvs H Q E h=>?_) (λcdv A outer s H vs Q E hr h=>?_)
 .refine Zm2 h λp m k ps e92 _=>?_;clear h;obtain rfl:=e92;rfl
 .refine Zdt h λp m k ps e93 m0 m8 e94=>?_;clear h;obtain rfl:=e93;refine Zar e94 λe95 hin q=>?_;clear e94;obtain⟨lp,xs,⟨dx,hp,hlp⟩,hl,hps⟩:=e95;refine⟨_,(~~~(Zqk Yab hr.m rfl ((Zby (pvr 0) rfl)<&>((Zax (own:=["arrow"]) (fr:=[("point",1)]) rfl (Zbh (by kernel_rfl)) (Za1 (Zbk (pv 0) rfl)) (λ_ _ _ _=>⟨(0<<<["arrow","point"]),Za0,(Zk6 (Za5 (Zee K rfl) (pv 1) (pv 0) (by with_unfolding_all rfl)) (pe_rev K rfl (pv 0) (Zr1 Zlw Zac) (λ_ _ _ q=>⟨1,rfl,q⟩)) (pv 0))⟩))<&>Zab)))),?_⟩;walk_at "wp";refine Za9 C dx _ ⟨hp,T.cl_Drawing,T.nM,_,Zc0 _ _,?_⟩;refine⟨_,rfl,p,C,dx,_,_,rfl,hp,T.cl_Drawing,T.nA,Zay _ _,lp,rfl,⟨_,SqL.of hlp⟩,λD hD=>comp_tp (Zpp k) hlp hps hD (Zvi hl) (λi x qq H' Q' hx hq s' q'=>?_) λys H' s' e' hy x dx' hx hdx ndx=>?_⟩
  .refine Zah (hps.2 i x _ hx hq) λt e96 ht=>?_;obtain rfl:=e96;have ht':=s' _ _ ht;refine⟨_,rfl,_,rfl,t,_,rfl,.inr (SqT.of ht'),rfl,rfl,?_⟩;have ein:inV (V.int k) [V.int qq.1,V.int qq.2]=decide (qq.1=k\/qq.2=k):=by
    rw[Jbw];simp[inV,eqV]
   refine⟨decide (qq.1=k\/qq.2=k),by rw[<- ein];rfl,Zc6 (λhc=>?_) (λhc=>?_)⟩
   .have hc:=Jaq hc;refine⟨_,rfl,t,_,_,rfl,SqT.of ht',λp2 hp2=>q' p2 _ (Same.new hp2) ?_⟩;rw[Zaa,Zpp,if_pos hc]
   .have hc:¬ (qq.1=k\/qq.2=k):=λz=>hc (Jag z);exact⟨_,rfl,q' t _ (Same.refl _) (by rw[Zpp,if_neg hc];exact ht')⟩
  .have fx1:(upd H' dx' (.own x)) x=none:=by rw[Zag ndx.symm];exact hx
   have s67:Same H' (upd (upd H' dx' (.own x)) x (.ins C dx' [])):=(Same.new hdx).trans (Same.new fx1);have hlen:=hy.1;have hlen0:=hps.1;rw[Jab] at hlen;refine Zd1 x dx' m D ys ⟨rfl,Zaa,m0,m8,s67 _ _ e',oz181 hl hlen hlen0,Zpa (hy.same s67) hin.turn,λlp2 H8 ex8 hx8 flp hlp8=>⟨rfl,?_⟩⟩;have s58:Same H' H8:=λb o eb=>ex8 b o (Zaf eb hx) (s67 b o eb);exact q x H8 (s'.trans s58) ⟨lp2,ys,⟨dx',hx8,hlp8⟩,oz181 hl hlen hlen0,hy.same s58⟩
def Zq6 (C:Addr)(pr:Int×Int->Int):Sp:=λvs H Q _=>∃ (p lp:Addr) (m k:Int) (xs:List V) (ps:List (Int×Int)),vs=[.ref p,.int k]/\Zge C H p m lp xs/\xs.length<=9/\Prs H xs ps/\∀ H',Same H H'->Q (.bl (ps.all λq=>!decide (pr q=k))) H'
theorem Zsj (F:Fun K "is_spring" "Drawing.is_spring" Zb6 f fd)(T:Txt K mg C G S):FnOk P w K mg base CX0 1 f fd ["self","point"] (Zq6 C (·.2)):=by
 have nd:=Zc7.nd;refine F.ok Zc7 (λvs H Q E h=>?_) (λcdv A outer s H vs Q E hr h=>?_)
 .refine Zls h λp lp m k xs ps e91 _=>?_;clear h;obtain rfl:=e91;rfl
 .refine Zkl h λp lp m k xs ps e92 e93 hl e94=>?_;clear h;obtain rfl:=e92;obtain⟨dx,hp,hlp⟩:=e93;obtain⟨hps,q⟩:=e94;refine⟨_,(~~~(Za4 (Zdf rfl) rfl T.n_all Je6 ((Zax (own:=["tail","head"]) (fr:=[("point",1)]) rfl (Zbh (by kernel_rfl)) (Za1 (Zbk (pv 0) rfl)) (λ_ _ _ _=>⟨(@Zcr _ K rfl _ _ _ _ 2 rfl ((0<<<["tail","head","point"])^^^((1<<<["tail","head","point"])^^^(@Za2 _))) ⇑1 ⇑1),Za0,(Zd6 Zhq (pv 1) (pv 2) (Zao _))⟩))<&>Zab))),?_⟩;walk_at "wp";refine⟨_,rfl,p,C,dx,_,_,rfl,hp,T.cl_Drawing,T.nA,Zay _ _,lp,rfl,⟨_,SqL.of hlp⟩,λD hD=>Zt5 (λq=>!decide (q.2=k)) hlp hps hD (Zvi hl) (λi q H Q _ _ h=>⟨_,rfl,_,rfl,rfl,?_⟩) λH' s' e'=>⟨D,rfl,_,SqL.of e',?_⟩⟩
  .have e:decide (V.int q.2=V.int k)=decide (q.2=k):=by simp only[V.int.injEq]
   rw[e];exact h H (Same.refl _)
  .rw [List.all_map];exact q H' s'
theorem Zns {H:Hp}{n:Nat}(i j:Int):EqD K H n (.int i) (.int j) (decide (i=j)):=by
 have:=EqD.flat (K:=K) (H:=H) (n:=n) (x:=.int i) (y:=.int j) rfl rfl;rwa [show eqV (.int i) (.int j)=decide (i=j) by simp only[eqV];rw[Jbw];simp] at this
theorem Zug {α:Type}[DecidableEq α]:∀ {xs ys:List α},xs.length=ys.length->(List.zipWith (λa b=>decide (a=b)) xs ys).all id=decide (xs=ys)
 | [],[],_=>rfl
 | x::xs,y::ys,h=>by
  have ih:=Zug (xs:=xs) (ys:=ys) (by simpa using h);rw[List.zipWith_cons_cons,Jdi,ih];simp only[id];rw[<- Bool.decide_and];exact Jdr.mpr ⟨λ⟨a,b⟩=>by rw[a,b],λh=>by injection h with a b;exact⟨a,b⟩⟩
 | [],_::_,h=>by simp at h
 | _::_,[],h=>by simp at h
theorem cut3 {A B B2 X:TS}{D:Ends}{σ:L2.St}{H:Hp}(h:∀ X',X'=X->Zqy A (Zqy B (Zqy B2 X')) D σ H):Zqy A (Zqy B (Zqy B2 X)) D σ H:=h X rfl
def Z0 (S C G:Addr)(H:Hp)(x:Addr)(p:Int)(n:Nat)(k:Int):Prop:=∃ dx g d z l,H x=some (.ins S dx (Zgv g d z l))/\GAt G H g p/\Drw C H d (n:Nat) []/\H z=some (.lst ((Zas (n:Nat) k).map V.int))/\H l=some (.lst [])
theorem Z0.same {H H':Hp}{x:Addr}{p:Int}{n:Nat}{k:Int}(h:Z0 S C G H x p n k)(s:Same H H'):Z0 S C G H' x p n k:=let ⟨dx,g,d,z,l,a,b,c,e,f⟩:=h;⟨dx,g,d,z,l,s _ _ a,b.same s,c.same s,s _ _ e,s _ _ f⟩
def Zux (S C G:Addr):Sp:=λvs H Q _=>∃ (x:Addr) (p:Int) (n:Nat) (k j:Int),vs=[.ref x,.int j]/\Z0 S C G H x p n k/\∀ D H',Same H H'->H' D=some (.lst [])->Q (.ref D) H'
theorem ok_tat (F:Fun K "tables_at" "tables_at" Zgi f fd)(T:Txt K mg C G S):FnOk P w K mg base CX0 1 f fd ["standing","point"] (Zux S C G):=by
 have nd:=Zh2.nd;refine F.ok Zh2 (λvs H Q E h=>?_) (λcdv A outer s H vs Q E hr h=>?_)
 .refine Zm1 h λx p n k j e93 _=>?_;clear h;obtain rfl:=e93;rfl
 .refine xE5_3 h λx p n k j e94 e95 q=>?_;clear h;obtain rfl:=e94;obtain⟨dx,g,d,z,l,hx,hg,dw,hz,hl⟩:=e95;refine⟨_,(~~~(Zax (own:=["arrow","table"]) (fr:=[("point",1)]) rfl (Zbh (by kernel_rfl)) (Zje rfl T.n_zip ((Zbk (Zbk (pv 0) rfl) rfl)<&>((Zbk (pv 0) rfl)<&>Zab))) (λ_ _ _ _=>⟨(@Zcr _ K rfl _ _ _ _ 2 rfl ((0<<<["arrow","table","point"])^^^((1<<<["arrow","table","point"])^^^(@Za2 _))) ⇑1 ⇑1),(Zcp (Za5 (Zee K rfl) (pv 2) (pv 0) (by with_unfolding_all rfl))),(pv 1)⟩))),?_⟩;refine Za3 dw λlp xs e96 _ pr=>?_;clear dw;obtain⟨dd,hd,hlp⟩:=e96;have:xs=[]:=Jbd pr.1;subst this;walk_at "wp";refine⟨_,rfl,x,S,dx,_,_,rfl,hx,T.cl_Standing,T.nSd,Zfu ..,d,C,dd,_,_,rfl,hd,T.cl_Drawing,T.nA,Zay _ lp,_,rfl,x,S,dx,_,_,rfl,hx,T.cl_Standing,T.nSt,Ziq ..,lp,l,rfl,⟨_,SqL.of hlp⟩,⟨_,SqL.of hl⟩,λD hD=>Zn0 hlp hl hD (q D _ (Same.new hD) Zaa)⟩
def Znd:Sp:=λvs H Q _=>∃ g l:Addr,vs=[.ref g,.int 0,.ref l]/\H l=some (.lst [])/\∀ t H',Same H H'->Nil H' t->Q (.ref t) H'
theorem Zvw (F:Fun K "one_over_another" "one_over_another" Zcc f fd)(T:Txt K mg C G S):FnOk P w K mg base CX0 1 f fd ["ground","wide","tables"] Znd:=by
 have nd:=Zdh.nd;refine F.ok Zdh (λvs H Q E h=>?_) (λcdv A outer s H vs Q E hr h=>?_)
 .refine Zbg h λg l e97 _=>?_;clear h;obtain rfl:=e97;rfl
 .refine Za3 h λg l e98 hl q=>?_;clear h;obtain rfl:=e98;refine⟨_,((3|||nd|||(@Zbj _ _ _ _ Zab))<*>((Zcy Ja7 rfl (Za1 (pv 2)) (4>>>nd) ((@Za7 _ _ _ _ _ _ _ _ (Zat Zhq ((ixTJ Zg6)<|>(pvr 4)<||>Zac) (pvr 1) (Zao _)) (@Zam _ _ _ Zbm) Zan)<*>(@Zam _ _ _ (Zcf (Zfp Jay Jdw Jdx Zjh (pvr 3) ((Zax (own:=["row"]) (fr:=[]) rfl (Zbh (by kernel_rfl)) (Za1 (Zg6<|>(pv 4)<||>Zac)) (λ_ _ _ _=>⟨(0<<<["row"]),Za0,(Zfz (Zhb K rfl) rfl T.n_list Jcf ((pv 0)<&>Zab))⟩))<&>Zab))))))<*>(~~~(@Zaq _ _ _ _ _ ((Za4 Zak rfl T.n_len Ja6 ((pvr 3)<&>Zab))<&>((pvr 1)<&>((pvr 3)<&>Zab))))))),?_⟩;walk_at "wp";refine⟨⇑0,λr hr0=>?_⟩;have s1:=Same.new (o:=.lst []) hr0;have q1:(upd H r (.lst [])) r=some (.lst []):=Zaa;generalize upd H r (.lst [])=H1 at *;refine⟨_,rfl,l,rfl,⟨_,SqL.of (s1 _ _ hl)⟩,Zd0 (xs:=[]) (λi σ H2=>H2=H1/\σ=[some (.ref g),some (.int 0),some (.ref l),some (.ref r),none]) ⟨rfl,rfl⟩ (λi σ H2 _ e=>e.1 ▸ SqL.of (s1 _ _ hl)) (λi y σ H2 hi=>by simp at hi) ?_⟩;intro σ H2 e91;obtain⟨rfl,rfl⟩:=e91;walk_at "wp";refine⟨_,.inl (SqL.of q1),⇑0,λt ht=>q t _ (s1.trans (Same.new ht)) ⟨r,Zaa,Same.new ht _ _ q1⟩⟩
def Zq7 (S C G:Addr):Sp:=λvs H Q _=>∃ (x:Addr) (p:Int) (n:Nat) (k j:Int),vs=[.ref x,.int j]/\Z0 S C G H x p n k/\0<=j/\j<n/\j≠k/\0<=k/\k<n/\∀ t H',Same H H'->Nil H' t->Q (.ref t) H'
theorem Zvn {n:Nat}{k j:Int}(j0:0<=j)(j1:j<n)(k0:0<=k)(ne:j≠k):atI ((Zas (n:Nat) k).map V.int) j=some (.int 0):=by
 refine Zck j0 ?_;rw[Jau];unfold Zas;rw[Jcm,if_neg (oz17 j0 k0 ne),Jby,if_pos (oz24 j0 j1)];rfl
theorem ok_tout (F:Fun K "tables_out" "tables_out" Zfh f fd)(T:Txt K mg C G S)(Ybb:Cal P w K mg base "one_over_another" 1 Znd)(Yan:Cal P w K mg base "tables_at" 1 (Zux S C G)):FnOk P w K mg base CX0 2 f fd ["standing","point"] (Zq7 S C G):=by
 have nd:=Zgx.nd;refine F.ok Zgx (λvs H Q E h=>?_) (λcdv A outer s H vs Q E hr h=>?_)
 .refine Zm1 h λx p n k j e99 _=>?_;clear h;obtain rfl:=e99;rfl
 .refine Zcx h λx p n k j e910 st j0 e911=>?_;clear h;obtain rfl:=e910;refine Zdu e911 λj1 ne k0 k1 q=>?_;clear e911;refine Zcx (id st) λdx g d z l hx hg dw e912=>?_;obtain⟨hz,hl⟩:=e912;refine⟨_,(~~~(Ybb<$>hr<$>((Zby (pvr 0) rfl)<&>((Za6<|>(Zby (pvr 0) rfl)<||>(pvr 1))<&>((Yan<$>hr<$>((pvr 0)<&>((pvr 1)<&>Zab)))<&>Zab))))),?_⟩;walk_at "wp";refine Za9 S dx _ ⟨hx,T.cl_Standing,T.nSg,_,Zir ..,S,dx,_,hx,T.cl_Standing,T.nSs,_,Zku ..,z,rfl,_,SqL.of hz,_,Zvn j0 j1 k0 ne,x,p,n,k,j,rfl,st,λD H1 s1 hD=>?_⟩;exact Zav g D ⟨rfl,hD,λt H2 s2 nl=>q t H2 (s1.trans s2) nl⟩
def spNn:Sp:=λvs H Q _=>∃ g t:Addr,vs=[.ref g,.ref t]/\Nil H t/\∀ t' H',Same H H'->Nil H' t'->Q (.ref t') H'
theorem Zvy (F:Fun K "left_beside" "left_beside" Zel f fd)(T:Txt K mg C G S)(Yai:Cal P w K mg base "turned_about" 1 Zog)(Ybq:Cal P w K mg base "to_nought" 3 spToN):FnOk P w K mg base CX0 4 f fd ["ground","table"] spNn:=by
 have nd:=Zf3.nd;refine F.ok Zf3 (λvs H Q E h=>?_) (λcdv A outer s H vs Q E hr h=>?_)
 .refine Zbg h λg t e913 _=>?_;clear h;obtain rfl:=e913;rfl
 .refine Za3 h λg t e914 nl q=>?_;clear h;obtain rfl:=e914;refine⟨_,(~~~(Yai<$>hr<$>((Ybq<$>hr<$>((pvr 0)<&>((Yai<$>hr<$>((pvr 1)<&>Zab))<&>Zab)))<&>Zab))),?_⟩;walk_at "wp";exact⟨t,rfl,nl,λt1 H1 s1 n1=>⟨g,t1,rfl,n1,λt2 H2 s2 n2=>⟨t2,rfl,n2,λt3 H3 s3 n3=>q t3 H3 ((s1.trans s2).trans s3) n3⟩⟩⟩
def Zft:Sp:=λvs H Q _=>∃ t l:Addr,vs=[.ref t,.ref l]/\Nil H t/\H l=some (.lst [])/\∀ D H',Same H H'->H' D=some (.lst [])->Q (.ref D) H'
theorem Zsm (F:Fun K "rows_apart" "rows_apart" Zfi f fd)(T:Txt K mg C G S):FnOk P w K mg base CX0 1 f fd ["table","heights"] Zft:=by
 have nd:=Zgy.nd;refine F.ok Zgy (λvs H Q E h=>?_) (λcdv A outer s H vs Q E hr h=>?_)
 .refine Zbg h λt l e915 _=>?_;clear h;obtain rfl:=e915;rfl
 .refine Zeh h λt l e916 e917 hl q=>?_;clear h;obtain rfl:=e916;obtain⟨r,ht,hr0⟩:=e917;refine⟨_,((Zcl (pvr 0) (@Zb8 _ _ _ _ _ 3 rfl ((2>>>nd)^^^((3>>>nd)^^^((4>>>nd)^^^(@Za2 _)))) ⇑1 ⇑1))<*>((5|||nd|||(@Zbj _ _ _ _ Zab))<*>((6|||nd|||Zac)<*>((Zcy Ja7 rfl (Za1 (pv 1)) (7>>>nd) ((Zcf (Zfp Jay Jb1 Jb2 (mtJ Zb5) (pvr 5) ((@Zaq _ _ _ _ _ ((pvr 7)<&>((pvr 3)<&>((@Zcg _ _ _ _ _ _ _ _ _ _ Zdg (pvr 4) (@Zcq _ _ _ (pvr 6)) (@Zcq _ _ _ ((Zsc Zbo)<|>(pvr 6)<&&>(pvr 7))))<&>Zab))))<&>Zab)))<*>(@Zam _ _ _ (ps_aug (i:=6) nd rfl (Or.inl rfl) (pvr 7) Ztc))))<*>(~~~(pvr 5)))))),?_⟩;refine cut3 λX hX=>?_;walk_at "wp";refine⟨_,SqT.of ht,rfl,_,_,rfl,_,_,rfl,_,_,rfl,rfl,⇑0,λD hD=>?_⟩;have s1:=Same.new (o:=.lst []) hD;have q1:(upd H D (.lst [])) D=some (.lst []):=Zaa;generalize upd H D (.lst [])=H1 at *;subst hX;refine Zcw λX hX=>?_;refine⟨_,rfl,l,rfl,⟨_,SqL.of (s1 _ _ hl)⟩,Zd0 (xs:=[]) (λi σ H2=>H2=H1/\σ=[some (.ref t),some (.ref l),some (.int 0),some (.int 0),some (.ref r),some (.ref D),some (.int 0),none]) ⟨rfl,rfl⟩ (λi σ H2 _ e=>e.1 ▸ SqL.of (s1 _ _ hl)) (λi y σ H2 hi=>by simp at hi) ?_⟩;intro σ H2 e92;obtain⟨rfl,rfl⟩:=e92;subst hX;walk_at "wp";exact q D _ s1 q1
theorem Zsr (F:Fun K "columns_apart" "columns_apart" Zdn f fd)(T:Txt K mg C G S)(Ya8:Cal P w K mg base "rows_apart" 1 Zft)(Yai:Cal P w K mg base "turned_about" 1 Zog):FnOk P w K mg base CX0 2 f fd ["table","widths"] Zft:=by
 have nd:=Ze3.nd;refine F.ok Ze3 (λvs H Q E h=>?_) (λcdv A outer s H vs Q E hr h=>?_)
 .refine Zbg h λt l e918 _=>?_;clear h;obtain rfl:=e918;rfl
 .refine Zeh h λt l e919 nl hl q=>?_;clear h;obtain rfl:=e919;refine⟨_,(~~~(Zax (own:=["part"]) (fr:=[]) rfl (Zbh (by kernel_rfl)) (Za1 (Ya8<$>hr<$>((Yai<$>hr<$>((pv 0)<&>Zab))<&>((pv 1)<&>Zab)))) (λ_ _ _ _=>⟨(0<<<["part"]),Za0,(Yai<$>hr<$>((pv 0)<&>Zab))⟩))),?_⟩;walk_at "wp";refine⟨_,rfl,t,rfl,nl,λt1 H1 s1 n1=>⟨_,rfl,t1,l,rfl,n1,s1 _ _ hl,λD H2 s2 hD=>⟨D,rfl,⟨_,SqL.of hD⟩,λD2 hD2=>Zlf hD hD2 (q D2 _ ((s1.trans s2).trans (Same.new hD2)) Zaa)⟩⟩⟩
def spTw0 (S C G:Addr):Sp:=λvs H Q _=>∃ (x e:Addr) (p:Int) (n:Nat) (k j:Int),vs=[.ref x,.int j,.int 0,.ref e]/\Z0 S C G H x p n k/\GroundP p/\H e=some (.lst [])/\1<=n/\n<=8/\0<=j/\j<n/\j≠k/\0<=k/\k<n/\∀ x' H',Same H H'->Z0 S C G H' x' p n k->Q (.ref x') H'
theorem Zsd {n:Nat}{k j:Int}(j0:0<=j)(j1:j<n)(k0:0<=k)(ne:j≠k):((Zas (n:Nat) k).map V.int).set j.toNat (V.int 0)=(Zas (n:Nat) k).map V.int:=by
 have e:((Zas (n:Nat) k).map V.int)[j.toNat]?=some (.int 0):=by
  rw[Jau];unfold Zas;rw[Jcm,if_neg (oz17 j0 k0 ne),Jby,if_pos (oz24 j0 j1)];rfl
 obtain⟨h,e⟩:=Jah.mp e;rw[<- e];exact List.set_getElem_self h
theorem ok_tw0 (F:Fun K "turned_with" "turned_with" Zek f fd)(T:Txt K mg C G S)(Yao:CalM P w K mg base C "turned" 6 (Zih C))(Yaj:CalI P w K mg base "Standing" S 8 (spSI S C G)):FnOk P w K mg base CX0 10 f fd ["standing","point","size","parts"] (spTw0 S C G):=by
 have nd:=Zf2.nd;refine F.ok Zf2 (λvs H Q E h=>?_) (λcdv A outer s H vs Q E hr h=>?_)
 .refine Zls h λx e p n k j e98 _=>?_;clear h;obtain rfl:=e98;rfl
 .refine Zkl h λx e p n k j e99 st hp e910=>?_;clear h;obtain rfl:=e99;refine xE0_9 e910 λhe n1 n8 j0 j1 ne k0 k1 q=>?_;clear e910;refine Zcx (id st) λdx g d z l hx hg dw e911=>?_;obtain⟨hz,hl⟩:=e911;refine Za3 (id dw) λlp xs e912 x9 pr=>?_;obtain⟨dd,hd,hlp⟩:=e912;have:xs=[]:=Jbd pr.1;subst this;refine⟨_,((4|||nd|||(Zfz Zbb rfl T.n_list Jcf ((Zbk (pv 0) rfl)<&>Zab)))<*>((Zcl (pv 2) (Zl8 (pv 4) (pv 1) Zei))<*>((5|||nd|||(Zfz Zbb rfl T.n_list Jcf ((pv 3)<&>Zab)))<*>((6|||nd|||(@Zbj _ _ _ _ Zab))<*>((Zcy Ja7 rfl (Zje rfl T.n_zip ((Zbk (Zbk (pv 0) rfl) rfl)<&>((Zbk (pv 0) rfl)<&>Zab))) (@Zb8 _ _ _ _ _ 2 rfl ((7>>>nd)^^^((8>>>nd)^^^(@Za2 _))) ⇑1 ⇑1) (@Zam _ _ _ Zbm))<*>(~~~(Zqk Yaj hr.m rfl ((Zbk (pv 0) rfl)<&>((Zor T.cl_Drawing Yao hr.m (Zbk (pv 0) rfl) ((pv 1)<&>Zab))<&>((pv 4)<&>((pv 6)<&>Zab))))))))))),?_⟩;refine cut3 λX hX=>?_;walk_at "wp";have zl:((Zas (n:Nat) k).map V.int).length=n:=by rw[Jab,Zba];exact oz144
  refine Za9 S dx _ ⟨hx,T.cl_Standing,T.nSs,_,Zku ..,z,rfl,_,.inl (SqL.of hz),λz1 hz1=>⟨_,Zaa,j.toNat,by rw[zl];exact ixN_at j0 ∅,?_⟩⟩;rw[Zsd j0 j1 k0 ne,show ∀ (a:HO),upd (upd H z1 a) z1 a=upd H z1 a from λa=>by funext b;unfold upd;split <;> rfl];have s1:=Same.new (o:=.lst ((Zas (n:Nat) k).map V.int)) hz1;have q1:(upd H z1 (.lst ((Zas (n:Nat) k).map V.int))) z1=some (.lst ((Zas (n:Nat) k).map V.int)):=Zaa;generalize upd H z1 (.lst ((Zas (n:Nat) k).map V.int))=H1 at *;refine⟨_,.inl (SqL.of (s1 _ _ he)),λl1 hl1=>?_⟩;have s2:=Same.new (o:=.lst []) hl1;generalize upd H1 l1 (.lst [])=H2 at *;have t2:=s1.trans s2;subst hX;refine Zcw λX hX=>?_;walk_at "wp";refine⟨⇑0,λtl htl=>?_⟩;have s3:=Same.new (o:=.lst []) htl;have q3:(upd H2 tl (.lst [])) tl=some (.lst []):=Zaa;generalize upd H2 tl (.lst [])=H3 at *;have t3:=t2.trans s3;subst hX;refine Zcw λX hX=>?_;refine⟨_,rfl,x,S,dx,_,_,rfl,t3 _ _ hx,T.cl_Standing,T.nSd,Zfu ..,d,C,dd,_,_,rfl,t3 _ _ hd,T.cl_Drawing,T.nA,Zay _ lp,_,rfl,x,S,dx,_,_,rfl,t3 _ _ hx,T.cl_Standing,T.nSt,Ziq ..,lp,l,rfl,⟨_,SqL.of (t3 _ _ hlp)⟩,⟨_,SqL.of (t3 _ _ hl)⟩,Ztm (xs:=[]) (ys:=[]) (λi σ H4=>H4=H3/\σ=[some (.ref x),some (.int j),some (.int 0),some (.ref e),some (.ref z1),some (.ref l1),some (.ref tl),none,none]) rfl ⟨rfl,rfl⟩ (λi σ H4 _ e=>e.1 ▸ ⟨SqL.of (t3 _ _ hlp),SqL.of (t3 _ _ hl)⟩) (λi v y pz σ H4 hv=>by simp at hv) ?_⟩;intro σ H4 e91;obtain⟨rfl,rfl⟩:=e91;subst hX;walk_at "wp";clear nd;refine Za9 S dx _ ⟨t3 _ _ hx,T.cl_Standing,T.nSg,_,Zir ..,S,dx,_,t3 _ _ hx,T.cl_Standing,T.nSd,_,Zfu ..,d,rfl,dd,_,t3 _ _ hd,Zjo _ lp ⇑0 ⇑0,d,(n:Nat),j,[],rfl,oz83 n1,Zr7 n8,dw.same t3,λr hr=>by simp at hr,λd' H5 s5 dw' x' dx' hx' hdx' ndx'=>?_⟩;have t5:=t3.trans s5;refine Za3 (id dw') λlp' xs' e913 x9' pr'=>?_;obtain⟨dd',hd',hlp'⟩:=e913;refine Zw8 (H0:=λ_=>none) (lp:=lp') (xs:=xs') (ps:=[]) (ns:=Zas (n:Nat) k) (ts:=[]) (cs:=[]) hx' hdx' ndx' (hg.same t5) hp ⟨dd',hd',hlp'⟩ pr' (λr hr=>by simp at hr) ⇑0 ⟨((s2.trans s3).trans s5) _ _ q1,by rw[Zba];exact oz30 n8,Zde⟩ (by rw[Zba];exact oz21) ⟨s5 _ _ q3,rfl,⇑0,λi t c e=>by simp at e⟩ ⟨rfl,λi c q e=>by simp at e⟩ (λb o e=>by cases e) rfl λdx2 z' l' ts' H6 s6 st6=>⟨rfl,q x' H6 (t5.trans s6) ?_⟩
  .have:ts'=[]:=Jbd st6.len;subst this;exact Zd1 _ _ _ _ _ ⟨st6.ins,st6.grd,⟨lp',xs',st6.drw,x9',st6.prs⟩,st6.szs.1,st6.lst⟩
theorem Zk3 {n i:Nat}(h:i<n):(Zbi n)[i]?=some (0+(i:Int)):=by
 unfold Zbi;rw[Jau,List.getElem?_range h,Int.zero_add];rfl
def spWit (C:Addr):Sp:=λvs H Q _=>∃ (d:Addr) (n:Nat),vs=[.ref d]/\Drw C H d (n:Nat) []/\1<=n/\n<=8/\∀ D H',Same H H'->H' D=some (.lst ((Zbi n).map V.int))->Q (.ref D) H'
theorem ok_wit (F:Fun K "wells_in_turn" "wells_in_turn" Zdj f fd)(T:Txt K mg C G S):FnOk P w K mg base CX0 1 f fd ["drawing"] (spWit C):=by
 have nd:=Zez.nd;refine F.ok Zez (λvs H Q E h=>?_) (λcdv A outer s H vs Q E hr h=>?_)
 .refine Zbg h λd n e914 _=>?_;clear h;obtain rfl:=e914;rfl
 .refine Zju h λd n e915 dw n1 n8 q=>?_;clear h;obtain rfl:=e915;refine Za3 (id dw) λlp xs e916 x9 pr=>?_;obtain⟨dd,hd,hlp⟩:=e916;have:xs=[]:=Jbd pr.1;subst this;have pl:(Zbi n).length=n:=by unfold Zbi;simp
  refine⟨_,((Zal (i:=1) nd rfl (Or.inr rfl) (@Zbj _ _ _ _ Zab))<*>((Zdx Ja7 (Za5 Zjg (Za4 Zak rfl T.n_len Ja6 ((pv 1)<&>Zab)) (Zbk (pv 0) rfl) (Zao _)) ((Zal (i:=2) nd rfl (Or.inr rfl) (Zax (own:=["point"]) (fr:=[("found",1)]) rfl (Zbh (by kernel_rfl)) (Zid rfl T.n_range ((Zbk (pv 0) rfl)<&>Zab)) (λ_ _ _ _=>⟨(0<<<["point","found"]),(Zcp (Za5 (Zdd K rfl) (pv 0) (pv 1) (by with_unfolding_all rfl))),(pv 0)⟩)))<*>((Zal (i:=3) nd rfl (Or.inr rfl) (Zax (own:=["tail","head"]) (fr:=[("left",2)]) rfl (Zbh (by kernel_rfl)) (Za1 (Zbk (pv 0) rfl)) (λ_ _ _ _=>⟨(@Zcr _ K rfl _ _ _ _ 2 rfl ((0<<<["tail","head","left"])^^^((1<<<["tail","head","left"])^^^(@Za2 _))) ⇑1 ⇑1),(Zcp (Za5 (Zee K rfl) (pv 1) (pv 2) (by with_unfolding_all rfl))),(pv 0)⟩)))<*>(@Zam _ _ _ (Zcf (Zfp Jay Jdw Jdx Zjh (pv 1) ((Zax (own:=["point"]) (fr:=[("tails",3)]) rfl (Zbh (by kernel_rfl)) (Za1 (pv 2)) (λ_ _ _ _=>⟨(0<<<["point","tails"]),(Zcp (Za5 (Zdd K rfl) (pv 0) (pv 1) (by with_unfolding_all rfl))),(pv 0)⟩))<&>Zab)))))))<*>(~~~(pv 1)))),?_⟩;refine Zcw λX hX=>?_;walk_at "wp";refine⟨⇑0,λFo hFo=>?_⟩;have s1:=Same.new (o:=.lst []) hFo;have q1:(upd H Fo (.lst [])) Fo=some (.lst []):=Zaa;generalize upd H Fo (.lst [])=H1 at *;subst hX;refine Zcw λX hX=>?_;refine⟨λm σ H2=>∃ v2 v3:Option V,σ=[some (.ref d),some (.ref Fo),v2,v3]/\Same H H2/\H2 Fo=some (.lst (if m=0 then (Zbi n).map V.int else [])) ,⟨1,none,none,rfl,s1,q1⟩,?_⟩;intro m σ H2 e92;refine Za3 e92 λv2 v3 e917 s2 q2=>?_;clear e92;obtain rfl:=e917;walk_at "wp";refine⟨_,.inl (SqL.of q2),C,dd,_,s2 _ _ hd,T.cl_Drawing,T.nM,_,Zc0 _ lp,(n:Nat),rfl,?_⟩;by_cases hm:m=0
  .rw [if_pos hm,Jab,pl];refine Zgd (by rw[Ja5 ∅];decide) ?_;subst hX;rw[if_pos hm] at q2;exact⟨_,rfl,q Fo H2 s2 q2⟩
  .rw [if_neg hm] at q2 ⊢;refine Zlq (Jag (by show ((0:Nat):Int)<n;omega)) ⟨λσ' H'=>∃ v2 v3:Option V,σ'=[some (.ref d),some (.ref Fo),v2,v3]/\Same H H'/\H' Fo=some (.lst ((Zbi n).map V.int)),λσ' H' ⟨v2,v3,e1,e2,e3⟩=>⟨0,∅,v2,v3,e1,e2,by rw[if_pos rfl];exact e3⟩,?_⟩;refine⟨_,rfl,d,C,dd,_,_,rfl,s2 _ _ hd,T.cl_Drawing,T.nM,Zc0 _ lp,(n:Nat),rfl,∅,∅,λD1 hD1=>Zey (λi vs H3=>Same H2 H3/\H3 D1=some (.lst vs)/\vs=((Zbi n).take i).map V.int) ⟨Same.new hD1,Zaa,rfl⟩ ?_ ?_⟩
   .intro i y vs σ' H3 hi e93;obtain rfl:=e93;intro sh e94;refine Zar e94 λs3 h3 e918=>?_;clear e94;obtain rfl:=e918;obtain⟨u,rfl⟩:=sh.one;simp only[Zda,Zbd,List.set_cons_zero];have hi':i<(Zbi n).length:=by rw[pl];simpa using hi
    simp only[Zpq,tOp,Zlz,rIn,Zb0,List.map,List.getElem?_cons_zero,List.getElem?_cons_succ,Jea,exists_eq_left'];refine⟨_,rfl,Fo,[],rfl,.inl (SqL.of (s3 _ _ q2)),rfl,rfl,true,rfl,Zlq rfl ?_⟩;refine leaf (ws:=((Zbi n).take (i+1)).map V.int) hi (Sh.mk1 (cap:=[some (V.ref Fo)])) h3 (Zaj (by rw[Jab,Ja0];exact oz153 n8 pl)) ⟨s3.upd hD1,?_,rfl⟩;rw[Zaa,Jbb,Zk3 (by rw[pl] at hi';exact hi'),Jaw];rfl
   .intro vs H3 e95;refine Zar e95 λs3 h3 e919=>?_;clear e95;obtain rfl:=e919;rw[show (n:Int).toNat=(Zbi n).length by rw[pl];simp,Jbk] at h3;have t3:=s2.trans s3;have q3:=s3 _ _ q2;refine⟨_,rfl,d,C,dd,_,_,rfl,t3 _ _ hd,T.cl_Drawing,T.nA,Zay _ lp,lp,rfl,⟨_,SqL.of (t3 _ _ hlp)⟩,λD2 hD2=>Zlf (t3 _ _ hlp) hD2 ⟨.inl ⟨rfl,_,SqL.of (Same.new hD2 _ _ q3)⟩,?_⟩⟩;have s4:=Same.new (o:=.lst []) hD2;have q4:(upd H3 D2 (.lst [])) D2=some (.lst []):=Zaa;generalize upd H3 D2 (.lst [])=H4 at *;have h4:=s4 _ _ h3;refine⟨_,rfl,D1,rfl,⟨_,SqL.of h4⟩,λD3 hD3=>Zbp (xs:=(Zbi n).map V.int) (λi vs H5=>Same H4 H5/\H5 D3=some (.lst vs)/\vs=((Zbi n).map V.int).take i) ⟨Same.new hD3,Zaa,rfl⟩ (λi vs H5 _ p=>SqL.of (p.1 _ _ h4)) ?_ ?_⟩
    .intro i y vs σ' H5 hi hy sh e96;refine Zar e96 λs5 h5 e920=>?_;clear e96;obtain rfl:=e920;obtain⟨u,rfl⟩:=sh.one;simp only[Zda,Zbd,List.set_cons_zero];simp only[Zpq,tOp,Zlz,rIn,Zb0,List.map,List.getElem?_cons_zero,List.getElem?_cons_succ,Jea,exists_eq_left'];have fy:Zif y=true:=by
      rw[Jau] at hy;cases e:(Zbi n)[i]? with
      | none=>rw[e] at hy;cases hy
      | some v=>rw[e] at hy;cases hy;rfl
     refine⟨_,rfl,D2,[],rfl,.inl (SqL.of (s5 _ _ q4)),fy,rfl,true,rfl,Zlq rfl ?_⟩;refine leaf (ws:=((Zbi n).map V.int).take (i+1)) hi (Sh.mk1 (cap:=[some (V.ref D2)])) h5 (Zaj (by rw[Ja0,Jab,pl];exact oz37 n8)) ⟨s5.upd hD3,?_,rfl⟩;rw[Zaa,Jbb,hy];rfl
    .intro vs H5 e97;refine Zar e97 λs5 h5 e921=>?_;clear e97;obtain rfl:=e921;rw[Jbk] at h5;have q5:=s5 _ _ (s4 _ _ q3);refine Zkk Fo D3 _ _ ⟨rfl,rfl,q5,h5,Jbl (Zaj (by rw[Jab,pl];show 0+n<=1000;omega)),_,_,rfl,((t3.trans s4).trans s5).upd hFo,Zaa⟩
def spTo0 (S C G:Addr):Sp:=λvs H Q _=>∃ (x:Addr) (p:Int) (n:Nat) (k j:Int),vs=[.ref x,.int j]/\Z0 S C G H x p n k/\GroundP p/\1<=n/\n<=8/\0<=j/\j<n/\j≠k/\0<=k/\k<n/\∀ x' H',Same H H'->Z0 S C G H' x' p n k->Q (.ref x') H'
theorem ok_to0 (F:Fun K "turned_out" "turned_out" Zfg f fd)(T:Txt K mg C G S)(Ybo:CalM P w K mg base C "is_spring" 1 (Zq6 C (·.2)))(Yax:Cal P w K mg base "left_beside" 4 spNn)(Ya0:Cal P w K mg base "tables_out" 2 (Zq7 S C G))(Ybp:Cal P w K mg base "columns_apart" 2 Zft)(Yan:Cal P w K mg base "tables_at" 1 (Zux S C G))(Ybf:Cal P w K mg base "turned_with" 10 (spTw0 S C G)):FnOk P w K mg base CX0 11 f fd ["standing","point"] (spTo0 S C G):=by
 have nd:=Zgw.nd;refine F.ok Zgw (λvs H Q E h=>?_) (λcdv A outer s H vs Q E hr h=>?_)
 .refine Zm1 h λx p n k j e922 _=>?_;clear h;obtain rfl:=e922;rfl
 .refine Zcx h λx p n k j e923 st hp e924=>?_;clear h;obtain rfl:=e923;refine xE0_8 e924 λn1 n8 j0 j1 ne k0 k1 q=>?_;clear e924;refine Zcx (id st) λdx g d z l hx hg dw e925=>?_;obtain⟨hz,hl⟩:=e925;refine Za3 (id dw) λlp xs e926 x9 pr=>?_;obtain⟨dd,hd,hlp⟩:=e926;refine⟨_,((@Za7 _ _ _ _ _ _ _ _ (Zbq (Zbn (Zor T.cl_Drawing Ybo hr.m (Zbk (pv 0) rfl) ((pv 1)<&>Zab)))) (@Zam _ _ _ Zbm) Zan)<*>((2|||nd|||(Yax<$>hr<$>((Zbk (pv 0) rfl)<&>((Ya0<$>hr<$>((pv 0)<&>((pv 1)<&>Zab)))<&>Zab))))<*>((3|||nd|||(Ybp<$>hr<$>((pv 2)<&>((Zax (own:=["table"]) (fr:=[]) rfl (Zbh (by kernel_rfl)) (Za1 (Yan<$>hr<$>((pv 0)<&>((pv 1)<&>Zab)))) (λ_ _ _ _=>⟨(0<<<["table"]),Za0,((Zew K rfl)<|>(pv 0)<||>Zac)⟩))<&>Zab))))<*>(~~~(Ybf<$>hr<$>((pv 0)<&>((pv 1)<&>((Zg6<|>(pv 2)<||>Zac)<&>((pv 3)<&>Zab))))))))),?_⟩;refine Zcw λX hX=>?_;walk_at "wp";refine Za9 S dx _ ⟨hx,T.cl_Standing,T.nSd,_,Zfu ..,d,rfl,dd,_,hd,Zjo _ lp ⇑0 ⇑0,d,lp,_,j,xs,[],rfl,⟨dd,hd,hlp⟩,x9,pr,λH1 s1=>⟨true,rfl,Zgd ⇑0 ?_⟩⟩;subst hX;refine Zcw λX hX=>?_;walk_at "wp";refine Za9 S dx _ ⟨s1 _ _ hx,T.cl_Standing,T.nSg,_,Zir ..,x,p,n,k,j,rfl,st.same s1,j0,j1,ne,k0,k1,λt H2 s2 nl=>⟨g,t,rfl,nl,λt1 H3 s3 n3=>?_⟩⟩;have t3:=(s1.trans s2).trans s3;subst hX;refine Zcw λX hX=>?_;walk_at "wp";refine⟨_,rfl,_,rfl,x,p,n,k,j,rfl,st.same t3,λD H4 s4 hD=>⟨_,rfl,⟨_,SqL.of hD⟩,λD2 hD2=>Zlf hD hD2 ?_⟩⟩;have s5:=Same.new (o:=.lst []) hD2;have q5:(upd H4 D2 (.lst [])) D2=some (.lst []):=Zaa;generalize upd H4 D2 (.lst [])=H5 at *;have t5:=s4.trans s5;refine Zav t1 D2 ⟨rfl,n3.same t5,q5,λD3 H6 s6 hD3=>?_⟩;have t6:=t5.trans s6;subst hX;walk_at "wp";refine Zah (n3.same t6) λr1 e1 e2=>?_;exact⟨_,SqT.of e1,_,rfl,x,D3,p,n,k,j,rfl,(st.same t3).same t6,hp,hD3,n1,n8,j0,j1,ne,k0,k1,λx' H7 s7 z7=>q x' H7 ((t3.trans t6).trans s7) z7⟩
theorem form1:∀ n:Nat,n<=8->∀ k:Nat,k<n->Zqb [] (Zas (n:Int) (k:Int)) (Zas (n:Int) (k:Int))=1:=⇑0
def spRt0 (C:Addr):Sp:=λvs H Q _=>∃ (d r:Addr) (n:Nat) (k:Int),vs=[.ref d,.ref r]/\Drw C H d (n:Nat) []/\1<=n/\n<=8/\0<=k/\k<n/\H r=some (.lst ((Zas (n:Nat) k).map V.int))/\∀ H',Same H H'->Q (.bl true) H'
theorem ok_rt0 (F:Fun K "is_root" "is_root" Zi7 f fd)(T:Txt K mg C G S)(Yaq:Cal P w K mg base "are_sizes" 2 (spSz C))(Yak:Cal P w K mg base "worth" 2 (Zko C)):FnOk P w K mg base CX0 3 f fd ["drawing","thing"] (spRt0 C):=by
 have nd:=Zj3.nd;refine F.ok Zj3 (λvs H Q E h=>?_) (λcdv A outer s H vs Q E hr h=>?_)
 .refine Zm2 h λd r n k e927 _=>?_;clear h;obtain rfl:=e927;rfl
 .refine Zdt h λd r n k e928 dw n1 e929=>?_;clear h;obtain rfl:=e928;refine Zdu e929 λn8 k0 k1 hr0 q=>?_;clear e929;refine Za3 (id dw) λlp xs da x9 pr=>?_;refine⟨_,(~~~(Zga (Yaq<$>hr<$>((pv 0)<&>((pv 1)<&>Zab))) (Zf9 (Zd6 Zc5 (Yak<$>hr<$>((pv 0)<&>((pv 1)<&>Zab))) Zac (Zao _))))),?_⟩;walk_at "wp";refine Zlr d r lp (n:Nat) xs (Zas (n:Nat) k) ⟨rfl,da,⟨hr0,by rw[Zba];exact oz30 n8,Zde⟩,by rw[Zba];exact oz21,λH1 s1=>⟨true,rfl,Zlq rfl ⟨d,r,(n:Nat),[],Zas (n:Nat) k,rfl,dw.same s1,λr hr=>by simp at hr,s1 _ _ hr0,Zba _ _,Zr7 n8,λv hv=>?_,λH2 s2=>?_⟩⟩⟩
  .have:=Zde v hv;unfold Big;exact oz224 this
  .have e:Zqb [] (Zas (n:Nat) k) (Zas (n:Nat) k)=1:=by
    have:=form1 n n8 k.toNat (Zpx k0 k1);rwa [Jcl k0] at this
   rw[e];exact⟨rfl,q H2 (s1.trans s2)⟩
theorem cutF {wi:TI}{g:TG}{tb:TS}{D:Ends}{σ:L2.St}{H:Hp}(h:∀ tb',tb'=tb->tFor wi g tb' D σ H):tFor wi g tb D σ H:=h tb rfl
theorem Zwi {H:Hp}{xs ys:List Int}(hl:xs.length=ys.length):Zjs K H 6 (xs.map V.int) (ys.map V.int) (List.zipWith (λa b=>decide (a=b)) xs ys):=by
 refine⟨by rw[Jab,Jab,hl],by rw[List.length_zipWith,Jab];exact oz51 hl,λj x y b e1 e2 e3=>?_⟩;have hj:j<xs.length:=by have:=(Jah.mp e1).1;rw[Jab] at this;exact this
 rw[Jau,Jaa hj] at e1;rw[Jau,Jaa (show j<ys.length by exact oz6 hl hj)] at e2;rw[List.getElem?_zipWith,Jaa hj,Jaa (show j<ys.length by exact oz6 hl hj)] at e3;cases e1;cases e2;cases e3;exact Zns _ _
theorem Zb4 (a:Int):0<=a*a:=by
 rcases Int.le_total 0 a with h|h
 .exact Jcq h h
 .exact Jdy h h
theorem nil_pos {n:Nat}(n8:n<=8):¬ Zqh n []:=λb=>Zla (ps:=[]) (λr hr=>by simp at hr) n8 b λX h0 ⟨p,hp,hX⟩=>by
 unfold L3.qf;show 0<L3.sI (λp=>X p*X p) (Zbi n)-0;have:=L3.Zh7 (g:=λp=>X p*X p) hp (λy _=>Zb4 (X y));have h:=Zb4 (X p);have:X p*X p≠0:=λz=>hX (by rcases Int.mul_eq_zero.mp z with e|e <;> exact e);omega
theorem Zmd {n:Nat}{i k:Int}(i0:0<=i)(i1:i<n)(k0:0<=k)(k1:k<n):(Zas (n:Nat) k=Zas (n:Nat) i) ↔ i=k:=by
 constructor
 .intro e;have a:(Zas (n:Nat) k)[i.toNat]?=some 1:=by rw[e];unfold Zas;rw[Jcm,if_pos rfl,if_pos (by rw[Ja4];exact oz170 i1 k0 k1)]
  unfold Zas at a;rw[Jcm] at a;split at a
  .omega
  .rw [Jby] at a;split at a <;> cases a
 .rintro rfl;rfl
theorem mir_nil {n:Nat}{k i:Int}(i0:0<=i)(i1:i<n)(k0:0<=k)(ne:i≠k):mirZ i (Zas (n:Nat) k) []=Zas (n:Nat) k:=by
 have e:(Zas (n:Nat) k)[i.toNat]?=some 0:=by
  unfold Zas;rw[Jcm,if_neg (oz17 i0 k0 ne),Jby,if_pos (oz24 i0 i1)]
 obtain⟨h,e⟩:=Jah.mp e;unfold mirZ;rw[show Zql (Zas (n:Nat) k) i []-atZ (Zas (n:Nat) k) i=(Zas (n:Nat) k)[i.toNat] by
  rw[e];unfold atZ;rw[Jao,Jaa h,e];rfl]
 exact List.set_getElem_self h
def DrN (C:Addr)(H:Hp)(he tu:Addr)(n:Nat):Prop:=∃ lp,Zge C H he (n:Nat) lp []/\lp≠tu
theorem DrN.drw {H:Hp}{he tu:Addr}{n:Nat}(h:DrN C H he tu n):Drw C H he (n:Nat) []:=let ⟨lp,a,_⟩:=h;⟨lp,[],a,⇑0,Prs.nil⟩
theorem DrN.same {H H':Hp}{he tu:Addr}{n:Nat}(h:DrN C H he tu n)(s:Same H H'):DrN C H' he tu n:=let ⟨lp,⟨dd,a,b⟩,c⟩:=h;⟨lp,⟨dd,s _ _ a,s _ _ b⟩,c⟩
theorem DrN.put {H:Hp}{he tu:Addr}{n:Nat}{ys:List V}{o:HO}(h:DrN C H he tu n)(hy:H tu=some (.lst ys)):DrN C (upd H tu o) he tu n:=
 let ⟨lp,⟨dd,a,b⟩,c⟩:=h;⟨lp,⟨dd,by rw[Zag (Zcz a hy (by intro z;cases z))];exact a,by rw[Zag c];exact b⟩,c⟩
theorem drn_of {H:Hp}{he tu:Addr}{n:Nat}{y:V}{ys:List V}(h:Drw C H he (n:Nat) [])(hy:H tu=some (.lst (ys++[y]))):DrN C H he tu n:=by
 refine Za3 h λlp xs e94 x9 pr=>?_;clear h;obtain⟨dd,a,b⟩:=e94;have:xs=[]:=Jbd pr.1;subst this;refine⟨lp,⟨dd,a,b⟩,λz=>?_⟩;rw[z,hy] at b
 injection b with b
 injection b with b
 simp at b
def spPo0 (S C G:Addr):Sp:=λvs H Q _=>∃ (g d r:Addr) (p:Int) (n:Nat) (k:Int),vs=[.ref g,.ref d,.ref r]/\GAt G H g p/\GroundP p/\Drw C H d (n:Nat) []/\1<=n/\n<=8/\0<=k/\k<n/\H r=some (.lst ((Zas (n:Nat) k).map V.int))/\∀ x H',Same H H'->Z0 S C G H' x p n k->Q (.ref x) H'
theorem ok_po0 (F:Fun K "part_of" "part_of" Zi2 f fd)(T:Txt K mg C G S)(Yae:Cal P w K mg base "is_good" 5 (Zjw C))(Yau:Cal P w K mg base "is_root" 3 (spRt0 C))(Ybz:Cal P w K mg base "wells_in_turn" 1 (spWit C))(Yah:Cal P w K mg base "raised" 1 Zgt)(Yao:CalM P w K mg base C "turned" 6 (Zih C))(Ybi:Cal P w K mg base "mirrored" 1 (spMir C))(Yba:Cal P w K mg base "single" 10 (Zkp S C G))(Ybm:Cal P w K mg base "turned_out" 11 (spTo0 S C G)):FnOk P w K mg base CX0 12 f fd ["ground","drawing","root"] (spPo0 S C G):=by
 have nd:=Zjy.nd;refine F.ok Zjy (λvs H Q E h=>?_) (λcdv A outer s H vs Q E hr h=>?_)
 .refine Zls h λg d r p n k e95 _=>?_;clear h;obtain rfl:=e95;rfl
 .refine Zkl h λg d r p n k e96 hg hp e97=>?_;clear h;obtain rfl:=e96;refine Zlt e97 λdw n1 n8 k0 k1 hr0 q=>?_;clear e97;have ipn:InP (n:Nat) []:=λr hr=>by simp at hr
  have pl:(Zbi n).length=n:=by unfold Zbi;simp
  refine⟨_,((@Za7 _ _ _ _ _ _ _ _ (Zbq (Zbn (Yae<$>hr<$>((pv 1)<&>Zab)))) (@Zam _ _ _ Zbm) Zan)<*>((@Za7 _ _ _ _ _ _ _ _ (Zbq (Zbn (Yau<$>hr<$>((pv 1)<&>((pv 2)<&>Zab))))) (@Zam _ _ _ Zbm) Zan)<*>((3|||nd|||(Ybz<$>hr<$>((pv 1)<&>Zab)))<*>((4|||nd|||(@Zbj _ _ _ _ Zab))<*>((ps_par3 (i:=5) (j:=6) (k:=7) rfl nd rfl rfl rfl ⇑0 ⇑0 ⇑0 rfl rfl rfl ((pv 1)<&>((pv 2)<&>((Za6<|>(pv 3)<||>Zac)<&>Zab))) rfl)<*>((Zdx Ja7 (Za5 (Zxh (Zl7 hr)) (pv 6) (Yah<$>hr<$>((Zma<|>(@Zbj _ _ _ _ (Zac<&>Zab))<&&>(Zbk (pv 1) rfl))<&>((pv 7)<&>Zab))) (Zao _)) ((Zcf (Zfp Jay Jb1 Jb2 Zb5 (pv 4) ((pv 7)<&>Zab)))<*>((Zj9 (i:=5) (j:=6) rfl nd rfl rfl ⇑0 rfl rfl ((Zor T.cl_Drawing Yao hr.m (pv 5) ((pv 7)<&>Zab))<&>((Ybi<$>hr<$>((pv 1)<&>((pv 7)<&>((pv 6)<&>Zab))))<&>Zab)) rfl)<*>(@Zam _ _ _ (7|||nd|||(Za6<|>(pv 3)<||>(Zc9<|>(Za4 Zak rfl T.n_len Ja6 ((pv 4)<&>Zab))<&&>(Za4 Zak rfl T.n_len Ja6 ((pv 3)<&>Zab)))))))))<*>((8|||nd|||(Yba<$>hr<$>((pv 0)<&>((pv 5)<&>((pv 7)<&>Zab)))))<*>((Zcy Ja7 rfl (Za1 (pe_revL K rfl (pv 4) (Zr1 Zlw Zac) (λ_ _ _ q=>⟨1,rfl,q⟩))) (7>>>nd) (@Zam _ _ _ (8|||nd|||(Ybm<$>hr<$>((pv 8)<&>((pv 7)<&>Zab))))))<*>(~~~(pv 8)))))))))),?_⟩;refine Zcw λX hX=>?_;walk_at "wp";refine Za9 d n [] ⟨rfl,dw,ipn,n1,n8,λ_ H1 s1=>⟨true,rfl,Zgd ⇑0 ?_⟩,λb=>absurd b (nil_pos n8)⟩;subst hX;refine Zcw λX hX=>?_;walk_at "wp";refine Zkk d r n k ⟨rfl,dw.same s1,n1,n8,k0,k1,s1 _ _ hr0,λH2 s2=>⟨true,rfl,Zgd ⇑0 ?_⟩⟩;have t2:=s1.trans s2;subst hX;refine Zcw λX hX=>?_;walk_at "wp";refine Zav d n ⟨rfl,dw.same t2,n1,n8,λo H3 s3 ho=>?_⟩;have t3:=t2.trans s3;subst hX;refine Zcw λX hX=>?_;walk_at "wp";refine⟨⇑0,λtu htu=>?_⟩;have s4:=Same.new (o:=.lst []) htu;have q4:(upd H3 tu (.lst [])) tu=some (.lst []):=Zaa;generalize upd H3 tu (.lst [])=H4 at *;have t4:=t3.trans s4;have ftu:=t3.free htu;subst hX;refine Zcw λX hX=>?_;walk_at "wp";have ho4:=s4 _ _ ho;have oat:∀ i:Nat,i<n->atI ((Zbi n).map V.int) (i:Int)=some (.int (i:Int)):=λi hi=>Zck Zui (by rw[Jau];show Option.map _ ((Zbi n)[i]?)=_;rw[Zk3 hi,Int.zero_add];rfl);refine⟨_,SqL.of ho4,_,oat 0 ∅,_,_,_,⟨rfl,rfl,rfl⟩,?_⟩;subst hX;refine Zcw λX hX=>?_;have no:o≠tu:=Zaf ho htu;have dn0:DrN C H d tu n:=by
   refine Za3 (id dw) λlp xs e98 x9 pr=>?_;obtain⟨dd,a,b⟩:=e98;have:xs=[]:=Jbd pr.1;subst this;exact⟨lp,⟨dd,a,b⟩,Zaf b ftu⟩
  refine⟨λm σ H5=>∃ (he rw_:Addr) (i:Nat),σ=[some (.ref g),some (.ref d),some (.ref r),some (.ref o),some (.ref tu),some (.ref he),some (.ref rw_),some (.int i),none]/\Same H H5/\H5 tu=some (.lst (((Zbi n).take i).map V.int))/\H5 o=some (.lst ((Zbi n).map V.int))/\DrN C H5 he tu n/\H5 rw_=some (.lst ((Zas (n:Nat) k).map V.int))/\rw_≠tu/\(i:Int)<=k/\m=k.toNat-i,⟨_,d,r,0,rfl,t4,q4,ho4,dn0.same t4,t4 _ _ hr0,Zaf hr0 ftu,k0,rfl⟩,?_⟩;intro m σ H5 e91;refine Zb3 e91 λhe rw_ i e99 s5 q5 e910=>?_;clear e91;obtain rfl:=e99;refine Zgf e910 λo5 dh r5 nrt ik e911=>?_;clear e910;obtain rfl:=e911;walk_at "wp";refine Za3 (id dw) λlp xs e912 x9 pr=>?_;obtain⟨dd,hd,hlp⟩:=e912;refine⟨⇑0,λp1 h1=>?_⟩;have s6:=Same.new (o:=.lst [V.int 0]) h1;refine Za9 C dd _ ⟨s6 _ _ (s5 _ _ hd),T.cl_Drawing,T.nM,_,Zc0 _ lp,p1,(n:Nat),[V.int 0],rfl,rfl,Zaa,oz205,oz232 n8,Jbl (Zaj (by show 1*(n:Int).toNat<=1000;exact oz82 n8)),λp2 h2=>?_⟩;rw[Jci];have s7:=Same.new (o:=.lst (List.replicate (n:Int).toNat (V.int 0))) h2;refine Za9 p2 (List.replicate (n:Int).toNat 0) (i:Int) ⟨rfl,by rw[Zaa,Je9],by rw[Ja4];exact oz30 n8,Zui,by rw[Ja4];exact oz154 k1 ik,λz H8 s8 fz hz=>?_⟩;rw[Zk9] at hz;have t8:=(s6.trans s7).trans s8;have ol:=Zba (n:Nat) k;have ol':=Zba (n:Nat) (i:Int);clear fz h2 h1;refine⟨z,rfl,_,SqL.of (t8 _ _ r5),_,SqL.of hz,.inr ⟨_,Zwi (by rw[ol,ol']),?_⟩⟩;rw[Zug (by rw[ol,ol'])];by_cases e:(i:Int)=k
  .rw [Jag ((Zmd Zui (oz148 k1 e) k0 k1).mpr e)];refine Zgd ⇑0 ?_;subst hX;refine Zcw λX hX=>?_;walk_at "wp";refine Zah (dh.same t8) λlph e913 _=>?_;obtain⟨ddh,hdh,hlh⟩:=e913;refine xI8_1 g he lph p (n:Nat) (i:Int) [] [] ⟨rfl,hg.same (s5.trans t8),hp,⟨ddh,hdh,hlh⟩,Prs.nil,ipn,⇑0,oz83 n1,Zr7 n8,Zui,oz148 k1 e,λx dx z' l ts cs H9 s9 hx hz' hT ft _=>?_⟩;have hcs:cs=[]:=Jbd ft.1;subst hcs;have hts:ts=[]:=Jbd hT.2.1;subst hts;have t9:=s5.trans (t8.trans s9);have Z9:Z0 S C G H9 x p n k:=⟨dx,g,he,z',l,hx,hg.same t9,(dh.same (t8.trans s9)).drw,by rw[<- e];exact hz'.1,hT.1⟩
   have q9:=(t8.trans s9) _ _ q5;subst hX;refine Zcw λX hX=>?_;refine cutF λY hY=>?_;refine⟨_,rfl,tu,_,rfl,SqL.of q9,λrv hrv=>?_⟩;have s10:=Same.new (o:=.lst (((Zbi n).take i).map V.int).reverse) hrv;have q10:(upd H9 rv (.lst (((Zbi n).take i).map V.int).reverse)) rv=some (.lst (((Zbi n).take i).map V.int).reverse):=Zaa;generalize upd H9 rv (.lst (((Zbi n).take i).map V.int).reverse)=H10 at *;refine⟨rv,rfl,⟨_,SqL.of q10⟩,Zd0 (xs:=(((Zbi n).take i).map V.int).reverse) (λj σ H11=>∃ (v7:Option V) (x':Addr),σ=[some (.ref g),some (.ref d),some (.ref r),some (.ref o),some (.ref tu),some (.ref he),some (.ref rw_),v7,some (.ref x')]/\Same H10 H11/\Z0 S C G H11 x' p n k) ⟨_,x,rfl,Same.refl _,Z9.same s10⟩ (λj σ H11 _ ⟨_,_,_,s,_⟩=>SqL.of (s _ _ q10)) ?_ ?_⟩
   .intro j y σ H11 hj e92;refine Za3 e92 λv7 x' e914 s11 z11=>?_;clear e92;obtain rfl:=e914;have hm:=Jai hj;rw[List.mem_reverse] at hm;refine Zah (Jan.mp hm) λjj hjj e915=>?_;obtain rfl:=e915;have hjm:0<=jj/\jj<i:=by
     obtain⟨a,ha,e2⟩:=Jbu.mp hjj;have al:a<i:=by rw[Ja0] at ha;exact oz99 ha
     have:=Jaa ha;rw[List.getElem?_take,if_pos al,Zk3 (show a<n by exact oz177 k1 e al),e2] at this;cases this;exact oz104 al
    subst hY;walk_at "wp";exact Zd1 x' p n k jj ⟨rfl,z11,hp,n1,n8,hjm.1,oz230 k1 e hjm,∅,k0,k1,λx2 H12 s12 z12=>⟨_,_,⟨rfl,rfl⟩,s11.trans s12,z12⟩⟩
   .intro σ H11 e93;refine Za3 e93 λv7 x' e916 s11 z11=>?_;clear e93;obtain rfl:=e916;subst hX;exact⟨_,rfl,q x' H11 (t9.trans (s10.trans s11)) z11⟩
  .rw [Ja5 (λz=>e ((Zmd Zui ∅ k0 k1).mp z))];refine Zlq rfl ⟨_,λ_ _ h=>h,?_⟩;clear hX nd;have q8:=t8 _ _ q5;have hi:i<n:=∅
   have ft:((Zbi n).take i++[(i:Int)])=(Zbi n).take (i+1):=by rw[Jbb,Zk3 hi,Int.zero_add];rfl
   have tl:((Zbi n).take i).length=i:=by rw[Ja0,pl];exact oz59 hi
   refine⟨.inl ⟨rfl,_,SqL.of q8⟩,_,q8,Zaj (by rw[Jab,tl];exact oz134 n8 hi),?_⟩;have dh9:=(dh.same t8).put (o:=.lst (((Zbi n).take i).map V.int++[V.int (i:Int)])) q8;have q9:(upd H8 tu (.lst (((Zbi n).take i).map V.int++[V.int (i:Int)]))) tu=some (.lst (((Zbi n).take i).map V.int++[V.int (i:Int)])):=Zaa;have r9:(upd H8 tu (.lst (((Zbi n).take i).map V.int++[V.int (i:Int)]))) rw_=some (.lst ((Zas (n:Nat) k).map V.int)):=by rw[Zag nrt];exact t8 _ _ r5
   have o9:(upd H8 tu (.lst (((Zbi n).take i).map V.int++[V.int (i:Int)]))) o=some (.lst ((Zbi n).map V.int)):=by rw[Zag no];exact t8 _ _ o5
   have s9:Same H (upd H8 tu (.lst (((Zbi n).take i).map V.int++[V.int (i:Int)]))):=(s5.trans t8).upd ftu;generalize upd H8 tu (.lst (((Zbi n).take i).map V.int++[V.int (i:Int)]))=H9 at *;refine Zah (id dh9) λlph e917 _=>?_;obtain⟨ddh,hdh,hlh⟩:=e917;refine Zav ddh _ ⟨hdh,Zjo _ lph ⇑0 ⇑0,he,(n:Nat),(i:Int),[],rfl,oz83 n1,Zr7 n8,dh9.drw,ipn,λhe' H10 s10 dw'=>?_⟩;have q10:=s10 _ _ q9;refine Zlr d rw_ (n:Nat) (i:Int) [] (Zas (n:Nat) k) ⟨rfl,(dw.same s9).same s10,ipn,s10 _ _ r9,Zba _ _,Zui,oz63 hi,Zr7 n8,λr' H11 s11 fr hr'=>?_⟩;rw[mir_nil Zui (oz63 hi) k0 e] at hr';have q11:=s11 _ _ q10;have nr':r'≠tu:=λz=>by rw[z,q10] at fr;cases fr
   have o11:=s11 _ _ (s10 _ _ o9);refine Zav _ _ ⟨⟨rfl,rfl⟩,_,.inl (SqL.of q11),_,.inl (SqL.of o11),by rw[Jab,pl];exact oz160 n1,_,SqL.of o11,_,?_,k.toNat-(i+1),oz1 ik e,he',r',i+1,rfl,(s9.trans s10).trans s11,by rw[<- ft,Jaw];exact q11,o11,drn_of (Drw.same dw' s11) q11,hr',nr',oz88 ik e,rfl⟩;rw[Jak,Jab,Jab,pl,tl];show atI _ (((i+1:Nat):Int) % (n:Int))=_;rw[Jfk oz201 (oz49 k1 ik e)];exact oat (i+1) (oz42 k1 ik e)
def ind (k p:Int):Int:=if p=k then 1 else 0
theorem Ztf (k p:Int):0<=ind k p:=by unfold ind;split <;> decide
theorem ind_k (k:Int):ind k k=1:=if_pos rfl
theorem Zxb (k:Int):∀ l:List Int,L3.sI (λp=>ind k p*ind k p) l=(l.count k:Nat)
 | []=>rfl
 | x::l=>by
  show ind k x*ind k x+_=_;rw[Zxb k l,Jdf];unfold ind;by_cases h:x=k
  .rw [if_pos h,if_pos (by simp[h])];omega
  .rw [if_neg h,if_neg (by simp[h])];omega
theorem Zlb {n:Nat}{k:Int}{es:List (Int×Int)}(hk:k∈Zbi n)(hl:(k,k)∈es):¬ L3.PosN (Zbi n) es:=λh=>by
 have:=h (ind k) (λp _=>Ztf k p) ⟨k,hk,by rw[ind_k];decide⟩;unfold L3.qf at this;have c1:=(List.nodup_iff_count.mp (Zk2 n)) k;have h1:=L3.Zh7 (g:=λe:Int×Int=>ind k e.1*ind k e.2) hl (λy _=>Jcq (Ztf _ _) (Ztf _ _));have h2:ind k (k,k).1*ind k (k,k).2=1:=by show ind k k*ind k k=1;rw[ind_k];rfl
 have h3:=Zxb k (Zbi n);have h4:(1:Int)<=L3.sI (λe:Int×Int=>ind k e.1*ind k e.2) es:=by rw[<- h2];exact h1
 have h5:0<(((Zbi n).count k:Nat):Int)-L3.sI (λe:Int×Int=>ind k e.1*ind k e.2) es:=by rw[<- h3];exact this
 omega
structure LoopD (n:Nat)(ps:List (Int×Int))(k:Int):Prop where
 k0:0<=k
 k1:k<n
 ip:InP (n:Nat) ps
 l9:ps.length<=9
 bad:¬ Zw1 n ps
 bare:∀ B,Bare n ps B->B=[(k,k)]
 nol:∀ q∈ps,q≠(k,k)->q.1≠k\/q.2≠k
theorem Zv8 {n:Nat}{ps:List (Int×Int)}{k:Int}(n8:n<=8)(k0:0<=k)(k1:k<n)(ip:InP (n:Nat) ps)(l9:ps.length<=8)(dp:L3.DPos (Zbi n) ps):LoopD n (ps++[(k,k)]) k:=by
 have hk:k∈Zbi n:=by
  unfold Zbi;exact Jan.mpr ⟨k.toNat,Jbz.mpr (Zpx k0 k1),oz18 k0⟩
 have ip':InP (n:Nat) (ps++[(k,k)]):=λq hq=>by
  rcases Jbp.mp hq with h|h
  .exact ip q h
  .rw [Jam.mp h];exact⟨k0,k1,k0,k1⟩
 refine⟨k0,k1,ip',by rw[Jak];show ps.length+1<=9;omega,λg=>Zlb hk (by simp) (DPos.nn (Zo3 ip' n8 g)),λB b=>?_,λq _ h=>?_⟩
 .refine Za3 (List.sublist_append_iff.mp b.sub) λB1 B2 e s1 s2=>?_;subst e;have hB2:B2=[]\/B2=[(k,k)]:=by
   cases B2 with
   | nil=>exact .inl rfl
   | cons y ys=>
    have:=s2.length_le;have hy:ys=[]:=Jbd (by have:ys.length+1<=1:=this;exact oz185 this);subst hy;have:=s2.subset (Jam.mpr rfl);rw[Jam.mp this];exact .inr rfl
  rcases hB2 with rfl|rfl
  .rw [Jd0] at b;exact (Zla (ip.sub s1) n8 b.bad (DPos.nn (L3.Zpb s1 dp))).elim
  .cases B1 with
   | nil=>rfl
   | cons y ys=>
    have:=b.mn y (by simp);rw[List.cons_append,List.erase_cons_head] at this;exact (Zlb hk (by simp) this).elim
 .by_cases h1:q.1=k
  .refine .inr λh2=>h (Prod.ext h1 h2)
  .exact .inl h1
theorem form0:∀ n:Nat,n<=8->∀ k:Nat,k<n->Zqb [((k:Int),(k:Int))] (Zas (n:Int) (k:Int)) (Zas (n:Int) (k:Int))=0:=⇑0
def spLw0 (C:Addr):Sp:=λvs H Q _=>∃ (x:Addr) (n:Nat) (ps:List (Int×Int)) (k:Int),vs=[.ref x]/\Drw C H x (n:Nat) ps/\1<=n/\n<=8/\LoopD n ps k/\∀ r H',Same H H'->H' r=some (.lst ((Zas (n:Nat) k).map V.int))->Q (.ref r) H'
theorem ok_lw0 (F:Fun K "low_row" "low_row" Zi3 f fd)(T:Txt K mg C G S)(Yae:Cal P w K mg base "is_good" 5 (Zjw C))(Yal:Cal P w K mg base "barely_not_good" 6 (Zoh C))(Yah:Cal P w K mg base "raised" 1 Zgt)(Yak:Cal P w K mg base "worth" 2 (Zko C)):FnOk P w K mg base CX0 7 f fd ["drawing"] (spLw0 C):=by
 have nd:=Zjz.nd;refine F.ok Zjz (λvs H Q E h=>?_) (λcdv A outer s H vs Q E hr h=>?_)
 .refine Zm2 h λx n ps k e97 _=>?_;clear h;obtain rfl:=e97;rfl
 .refine Zdt h λx n ps k e98 dw n1 e99=>?_;clear h;obtain rfl:=e98;refine Zar e99 λn8 L q=>?_;clear e99;refine⟨_,((@Za7 _ _ _ _ _ _ _ _ (Zbn (Yae<$>hr<$>((pv 0)<&>Zab))) (~~~Zl9) Zan)<*>((Zal (i:=1) nd rfl (Or.inr rfl) (Yal<$>hr<$>((pv 0)<&>Zab)))<*>((Zal (i:=2) nd rfl (Or.inr rfl) (Yah<$>hr<$>((Zma<|>(@Zbj _ _ _ _ (Zac<&>Zab))<&&>(Zbk (pv 1) rfl))<&>((Zg6<|>(Za6<|>(Zbk (pv 1) rfl)<||>Zac)<||>Zac)<&>Zab))))<*>((Zdx Ja7 (Za5 Zg4 (Yak<$>hr<$>((pv 1)<&>((pv 2)<&>Zab))) Zac (Zao _)) (@Zam _ _ _ Zbm))<*>(~~~(pv 2)))))),?_⟩;refine Zcw λX hX=>?_;walk_at "wp";refine Za9 x n ps ⟨rfl,dw,L.ip,n1,n8,λg=>absurd g L.bad,λbk H1 s1=>⟨false,rfl,Zgd ⇑0 ?_⟩⟩;subst hX;refine Zcw λX hX=>?_;walk_at "wp";refine Za9 x n ps ⟨rfl,dw.same s1,L.ip,n1,n8,bk,λy B H2 s2 db bB=>?_⟩;obtain rfl:=L.bare B bB;refine Za3 (id db) λlp xs e910 x9 pr=>?_;obtain⟨dd,hd,hlp⟩:=e910;obtain⟨ta,e0,hta⟩:=pr.2 0 (xs[0]'(by rw[pr.1];exact Nat.one_pos)) (k,k) (Jaa _) rfl;subst hX;refine Zcw λX hX=>?_;walk_at "wp";have x0:atI xs 0=some (.ref ta):=Zck ⇑0 (by rw[<- e0];exact Jaa _);have k0:=L.k0;have k1:=L.k1;have ol:=Zba (n:Nat) k;refine⟨⇑0,λp1 h1=>?_⟩;have s3:=Same.new (o:=.lst [V.int 0]) h1;refine Za9 C dd _ ⟨s3 _ _ hd,T.cl_Drawing,T.nM,_,Zc0 _ lp,p1,(n:Nat),[V.int 0],rfl,rfl,Zaa,oz205,oz232 n8,Jbl (Zaj (by show 1*(n:Int).toNat<=1000;exact oz82 n8)),λp2 h2=>?_⟩;rw[Jci];have s4:=Same.new (o:=.lst (List.replicate (n:Int).toNat (V.int 0))) h2;have t4:=s3.trans s4;refine Za9 C dd _ ⟨t4 _ _ hd,T.cl_Drawing,T.nA,_,Zay _ lp,lp,rfl,_,SqL.of (t4 _ _ hlp),_,x0,ta,rfl,_,SqT.of (t4 _ _ hta),_,rfl,p2,List.replicate (n:Int).toNat 0,k,rfl,by rw[Zaa,Je9],by rw[Ja4];exact oz30 n8,∅,by rw[Ja4];omega,λz H5 s5 fz hz=>?_⟩;rw[Zk9] at hz;have t5:=t4.trans s5;subst hX;refine Zcw λX hX=>?_;refine⟨λm σ H6=>σ=[some (.ref x),some (.ref y),some (.ref z)]/\H6=H5,⟨0,rfl,rfl⟩,?_⟩;intro m σ H6 e91;obtain⟨rfl,rfl⟩:=e91;walk_at "wp";refine Zd1 y z (n:Nat) [(k,k)] (Zas (n:Nat) k) ⟨rfl,db.same t5,λr hr=>by rw[Jam.mp hr];exact⟨k0,k1,k0,k1⟩,hz,ol,Zr7 n8,λv hv=>by have:=Zde v hv;unfold Big;exact oz224 this,λH7 s7=>?_⟩;have e:Zqb [(k,k)] (Zas (n:Nat) k) (Zas (n:Nat) k)=0:=by
   have:=form0 n n8 k.toNat (Zpx k0 k1);rwa [Jcl k0] at this
  rw[e];refine⟨0,rfl,Zgd ⇑0 ?_⟩;subst hX;exact⟨_,rfl,q z H7 (((s1.trans s2).trans t5).trans s7) (s7 _ _ hz)⟩
def spTn0:Sp:=λvs H Q _=>∃ (g:Addr) (v:V),vs=[.ref g,.int 1,.int 1,v]/\∀ (t r a:Addr) (H':Hp),Same H H'->H' t=some (.tup [.int 1,.int 1,.ref r])->H' r=some (.lst [.ref a])->H' a=some (.lst [v])->r≠a->Q (.ref t) H'
theorem ok_tn0 (F:Fun K "table_of_number" "table_of_number" Zcn f fd)(T:Txt K mg C G S):FnOk P w K mg base CX0 1 f fd ["ground","high","wide","number"] spTn0:=by
 have nd:=Zdv.nd;refine F.ok Zdv (λvs H Q E h=>?_) (λcdv A outer s H vs Q E hr h=>?_)
 .refine Zbg h λg v e911 _=>?_;clear h;obtain rfl:=e911;rfl
 .refine Zbg h λg v e912 q=>?_;clear h;obtain rfl:=e912;refine⟨_,((Zal (i:=4) nd rfl (Or.inr rfl) (Zk6 (Za5 Zc5 (Zk7<|>(pv 1)<&&>(pv 2)) Zac (Zao _)) (@Zbj _ _ _ _ ((pv 3)<&>Zab)) Zfx))<*>(~~~(@Zaq _ _ _ _ _ ((pv 1)<&>((pv 2)<&>((Zax (own:=["k"]) (fr:=[("numbers",4),("wide",2)]) rfl (Zbh (by kernel_rfl)) (Zid rfl T.n_range ((pv 1)<&>Zab)) (λ_ _ _ _=>⟨(0<<<["k","numbers","wide"]),Za0,(@Zcg _ _ _ _ _ _ _ _ _ _ (Zu0 K rfl) (pv 1) (@Zcq _ _ _ (Zh9<|>(pv 0)<&&>(pv 2))) (@Zcq _ _ _ (Zh9<|>(Zbo<|>(pv 0)<&&>Zac)<&&>(pv 2))))⟩))<&>Zab)))))),?_⟩;refine Zcw λX hX=>?_;walk_at "wp";refine⟨CMul.ok (.inr ⟨⇑0,⇑0⟩),Zlq ⇑0 ⟨⇑0,λnb hnb=>?_⟩⟩;have s1:=Same.new (o:=.lst [v]) hnb;have q1:(upd H nb (.lst [v])) nb=some (.lst [v]):=Zaa;generalize upd H nb (.lst [v])=H1 at *;subst hX;walk_at "wp";refine⟨_,rfl,1,rfl,⇑0,⇑0,λD hD=>Zey (λi vs H2=>Same H1 H2/\H2 D=some (.lst vs)/\(i=0/\vs=[]\/i=1/\∃ a,vs=[.ref a]/\H2 a=some (.lst [v])/\D≠a)) ⟨Same.new hD,Zaa,.inl ⟨rfl,rfl⟩⟩ ?_ ?_⟩
  .intro i y vs σ' H2 hi e92;obtain rfl:=e92;intro sh e93;refine Zar e93 λs2 hD2 hv=>?_;clear e93;obtain⟨u,rfl⟩:=sh.one;have i0:i=0:=by have:i<1:=hi;exact oz44 this
   subst i0;obtain⟨_,rfl⟩:(0:Nat)=0/\vs=[]:=by
    rcases hv with h|h
    .exact h
    .exact absurd h.1 ⇑0
   simp only[Zda,Zbd,Zfb,List.set_cons_zero,Jck];walk_at "wp";refine⟨_,rfl,_,rfl,1,rfl,.inr ⟨⇑0,⇑0⟩,_,rfl,1,rfl,.inr ⟨⇑0,⇑0⟩,nb,rfl,_,SqL.of (s2 _ _ q1),λa ha=>?_⟩;have na:D≠a:=Zaf hD2 ha;refine leaf (ws:=[.ref a]) hi Sh.mk1 (by rw[Zag na];exact hD2) (by show 0<sizeLine;decide) ⟨(s2.trans (Same.new ha)).upd hD,Zaa,.inr ⟨rfl,a,rfl,?_,na⟩⟩;rw[Zag na.symm,Zaa];rfl
  .intro vs H2 e94;refine Zar e94 λs2 hD2 hv=>?_;clear e94;obtain⟨a,rfl,ha,na⟩:∃ a,vs=[.ref a]/\H2 a=some (.lst [v])/\D≠a:=by
    rcases hv with h|h
    .exact absurd h.1 ⇑0
    .exact h.2
   refine⟨⇑0,λt ht=>?_⟩;have s3:=Same.new (o:=.tup [V.int 1,V.int 1,V.ref D]) ht;exact q t D a _ ((s1.trans s2).trans s3) Zaa (s3 _ _ hD2) (s3 _ _ ha) na
def spMt0 (S C G:Addr):Sp:=λvs H Q _=>∃ (g y z:Addr) (p:Int) (n:Nat) (k:Int) (v:V),vs=[.ref g,.ref y,.ref z,v]/\GAt G H g p/\GroundP p/\Drw C H y (n:Nat) [(k,k)]/\1<=n/\n<=8/\0<=k/\k<n/\H z=some (.lst ((Zas (n:Nat) k).map V.int)) /\
 ∀ (D e ta t r a:Addr) (H':Hp),Same H H'->H D=none->H' D=some (.lst [.ref e])->H' e=some (.tup [.ref ta,.ref t])->H' ta=some (.tup [.int k,.int k])->H' t=some (.tup [.int 1,.int 1,.ref r])->H' r=some (.lst [.ref a])->H' a=some (.lst [v])->r≠a->r≠D->a≠D->Q (.ref D) H'
theorem Zvo {m k:Int}:∀ v∈Zas m k,v<=1:=λv hv=>by
 unfold Zas at hv;rcases List.mem_or_eq_of_mem_set hv with h|h
 .rw [(List.mem_replicate.mp h).2];decide
 .rw [h];exact Jd8 _
theorem Zou {n:Nat}{k:Int}(k0:0<=k)(k1:k<n):atI ((Zas (n:Nat) k).map V.int) k=some (.int 1):=by
 refine Zck k0 ?_;rw[Jau];unfold Zas;rw[Jcm,if_pos rfl,if_pos (by rw[Ja4];exact oz24 k0 k1)];rfl
theorem lay1:∀ n:Nat,n<=8->∀ k:Nat,k<n->(PyData.list ((Zas (n:Int) (k:Int)).map PyData.int)).layable0=true/\(1:Int)∈Zas (n:Int) (k:Int)/\(Zas (n:Int) (k:Int)).idxOf 1=k:=⇑0
theorem ok_mt0 (F:Fun K "member_tables" "member_tables" Zdk f fd)(T:Txt K mg C G S)(Ybc:Cal P w K mg base "part_of" 12 (spPo0 S C G))(Ya6:Cal P w K mg base "table_of_number" 1 spTn0)(Yab:CalI P w K mg base "Drawing" C 4 (Zio C)):FnOk P w K mg base CX0 14 f fd ["ground","bare","sizes","number"] (spMt0 S C G):=by
 have nd:=Ze0.nd;refine F.ok Ze0 (λvs H Q E h=>?_) (λcdv A outer s H vs Q E hr h=>?_)
 .refine xE7_2 h λg y z p n k v e913 _=>?_;clear h;obtain rfl:=e913;rfl
 .refine xE7_4 h λg y z p n k v e914 hg hp e915=>?_;clear h;obtain rfl:=e914;refine Zlt e915 λdb n1 n8 k0 k1 hz q=>?_;clear e915;refine Za3 (id db) λlp xs e916 x9 pr=>?_;obtain⟨dd,hd,hlp⟩:=e916;obtain⟨xv,rfl⟩:∃ xv,xs=[xv]:=by
   match xs,pr.1 with
   | [xv],_=>exact⟨xv,rfl⟩
  refine Zah (pr.2 0 xv (k,k) rfl rfl) λta e917 hta=>?_;obtain rfl:=e917;have ly:=lay1 n n8 k.toNat (Zpx k0 k1);rw[Jcl k0] at ly;refine⟨_,((Zal (i:=4) nd rfl (Or.inr rfl) (Zfp Jay PySem.F.slot_list_index PySem.F.type_list_index Zsx (pv 2) (Zac<&>Zab)))<*>((5|||nd|||(Za6<|>(Zax (own:=["arrow"]) (fr:=[("end",4)]) rfl (Zbh (by kernel_rfl)) (Za1 (Zbk (pv 1) rfl)) (λ_ _ _ _=>⟨(0<<<["arrow","end"]),(Zcp (Za5 (Zee K rfl) (pv 1) (pv 0) (by with_unfolding_all rfl))),(pv 0)⟩))<||>Zac))<*>((6|||nd|||(Zfz Zbb rfl T.n_list Jcf ((Zbk (pv 1) rfl)<&>Zab)))<*>((Zcf (Zfp Jay PySem.F.slot_list_remove PySem.F.type_list_remove (Zxl (Zl7 hr)) (pv 6) ((pv 5)<&>Zab)))<*>((7|||nd|||(Zfz Zbb rfl T.n_list Jcf ((pv 2)<&>Zab)))<*>((@Za7 _ _ _ _ _ _ _ _ (Za5 Zg4 (Za4 (Zms rfl) rfl T.n_max boot_max ((pv 2)<&>Zab)) Zac (Zao _)) (@Zam _ _ _ Zbm) Zan)<*>((8|||nd|||(Ybc<$>hr<$>((pv 0)<&>((Zqk Yab hr.m rfl ((Zbk (pv 1) rfl)<&>((pv 6)<&>Zab)))<&>((pv 7)<&>Zab)))))<*>((Zcl (pv 5) (@Zb8 _ _ _ _ _ 2 rfl ((9>>>nd)^^^((10>>>nd)^^^(@Za2 _))) ⇑1 ⇑1))<*>(~~~(Zgb<|>(pe_lz0 rfl rfl T.n_list rfl T.n_zip ((pv 6)<&>((Zbk (pv 8) rfl)<&>Zab)))<&&>(@Zbj _ _ _ _ ((@Zaq _ _ _ _ _ ((pv 5)<&>((Ya6<$>hr<$>((pv 0)<&>((Za6<|>(pv 2)<||>(pv 10))<&>((Za6<|>(pv 2)<||>(pv 9))<&>((pv 3)<&>Zab)))))<&>Zab)))<&>Zab)))))))))))),?_⟩;refine Zcw λX hX=>?_;walk_at "wp";refine⟨.inl ⟨rfl,_,SqL.of hz⟩,Zas (n:Nat) k,hz,ly.2.1,ly.1,?_⟩;rw[ly.2.2,Jcl k0];subst hX;refine Zcw λX hX=>?_;walk_at "wp";refine⟨_,rfl,y,C,dd,_,_,rfl,hd,T.cl_Drawing,T.nA,Zay _ lp,lp,rfl,⟨_,SqL.of hlp⟩,λD hD=>Zbp (xs:=[.ref ta]) (λi vs H2=>Same H H2/\H2 D=some (.lst vs)/\(i=0/\vs=[]\/i=1/\vs=[.ref ta])) ⟨Same.new hD,Zaa,.inl ⟨rfl,rfl⟩⟩ (λi vs H2 _ p=>SqL.of (p.1 _ _ hlp)) ?_ ?_⟩
  .intro i x vs σ' H2 hi hx sh e95;refine Zar e95 λs2 hD2 hv=>?_;clear e95;obtain⟨u,rfl⟩:=sh.one;have i0:i=0:=by have:i<1:=hi;exact oz44 this
   subst i0;cases hx;obtain⟨_,rfl⟩:(0:Nat)=0/\vs=[]:=by
    rcases hv with h|h
    .exact h
    .exact absurd h.1 ⇑0
   simp only[Zda,Zbd,List.set_cons_zero];walk_at "wp";refine⟨_,rfl,_,.inr (SqT.of (s2 _ _ hta)),rfl,rfl,Zlq ?_ (leaf (ws:=[.ref ta]) hi Sh.mk1 hD2 (by show 0<sizeLine;decide) ⟨s2.upd hD,Zaa,.inr ⟨rfl,rfl⟩⟩)⟩;simp[inV,eqV]
  intro vs H2 e96;refine Zar e96 λs2 hD2 hv=>?_;clear e96;obtain⟨_,rfl⟩:[V.ref ta].length=1/\vs=[.ref ta]:=by
   rcases hv with h|h
   .exact absurd h.1 (by show ¬ 1=0;decide)
   .exact h
  refine⟨D,rfl,_,SqL.of hD2,_,rfl,?_⟩;subst hX;refine Zcw λX hX=>?_;walk_at "wp";refine Za9 C dd _ ⟨s2 _ _ hd,T.cl_Drawing,T.nA,_,Zay _ lp,lp,rfl,_,.inl (SqL.of (s2 _ _ hlp)),λre hre=>?_⟩;have s3:=Same.new (o:=.lst [V.ref ta]) hre;have q3:(upd H2 re (.lst [V.ref ta])) re=some (.lst [V.ref ta]):=Zaa;have fre:=s2.free hre;generalize upd H2 re (.lst [V.ref ta])=H3 at *;have t3:=s2.trans s3;subst hX;refine Zcw λX hX=>?_;walk_at "wp";refine⟨.inl ⟨rfl,_,SqL.of q3⟩,_,q3,0,by show 0<1;decide,λm v hm hv=>?_,?_⟩
  .have m0:m=0:=∅
   subst m0;cases hv;rw[Jag rfl];exact .same
  have q4:(upd H3 re (.lst ([V.ref ta].eraseIdx 0))) re=some (.lst []):=Zaa;have t4:Same H (upd H3 re (.lst ([V.ref ta].eraseIdx 0))):=t3.upd fre;generalize upd H3 re (.lst ([V.ref ta].eraseIdx 0))=H4 at *;subst hX;refine Zcw λX hX=>?_;walk_at "wp";refine⟨_,.inl (SqL.of (t4 _ _ hz)),λro hro=>?_⟩;have s5:=Same.new (o:=.lst ((Zas (n:Nat) k).map V.int)) hro;have q5:(upd H4 ro (.lst ((Zas (n:Nat) k).map V.int))) ro=some (.lst ((Zas (n:Nat) k).map V.int)):=Zaa;generalize upd H4 ro (.lst ((Zas (n:Nat) k).map V.int))=H5 at *;have t5:=t4.trans s5;subst hX;refine Zcw λX hX=>?_;walk_at "wp";have ol:=Zba (n:Nat) k;refine⟨Zas (n:Nat) k,SqL.of (t5 _ _ hz),λe=>by rw[e] at ol;simp at ol;omega,λm hm _=>Zgd (by rw[Ja5 (by have:=Zvo m hm;omega)];decide) ?_⟩;subst hX;refine Zcw λX hX=>?_;walk_at "wp";have q45:=s5 _ _ q4;refine Za9 C dd _ ⟨t5 _ _ hd,T.cl_Drawing,T.nM,_,Zc0 _ lp,λd' dd' hd' hdd' nd'=>Zji (B:=[]) hd' hdd' nd' q45 ⇑0 Prs.nil (λr hr=>by simp at hr) n1 n8 λH6 s6 dw6=>⟨rfl,?_⟩⟩;have t6:=t5.trans s6;refine Zlr g d' ro p n k ⟨rfl,hg.same t6,hp,dw6,n1,n8,k0,k1,s6 _ _ q5,λx H7 s7 z7=>?_⟩;have t7:=t6.trans s7;have q47:=(s6.trans s7) _ _ q45;refine Zcx (id z7) λdx g7 d7 z7' l7 hx7 _ _ e918=>?_;obtain⟨_,hl7⟩:=e918;subst hX;refine Zcw λX hX=>?_;walk_at "wp";refine⟨_,SqT.of (t7 _ _ hta),rfl,_,_,rfl,_,_,rfl,rfl,?_⟩;subst hX;walk_at "wp";clear nd;refine Za9 S dx _ ⟨hx7,T.cl_Standing,T.nSt,_,Ziq ..,re,l7,⟨rfl,rfl⟩,SqL.of q47,SqL.of hl7,λl0 hl0=>?_⟩;have s8:=Same.new (o:=.lst []) hl0;have q8:(upd H7 l0 (.lst [])) l0=some (.lst []):=Zaa;generalize upd H7 l0 (.lst [])=H8 at *;have t8:=t7.trans s8;refine⟨_,SqL.of (t8 _ _ hz),_,Zou k0 k1,_,SqL.of (t8 _ _ hz),_,Zou k0 k1,g,v,rfl,λt r a H9 s9 h1 h2 h3 h4=>⟨⇑0,λe he=>?_⟩⟩;have s10:=Same.new (o:=.tup [V.ref ta,V.ref t]) he;have q10:(upd H9 e (.tup [V.ref ta,V.ref t])) e=some (.tup [V.ref ta,V.ref t]):=Zaa;generalize upd H9 e (.tup [V.ref ta,V.ref t])=H10 at *;refine⟨⇑0,λf0 hf0=>?_⟩;have s11:=Same.new (o:=.lst [V.ref e]) hf0;have q11:(upd H10 f0 (.lst [V.ref e])) f0=some (.lst [V.ref e]):=Zaa;generalize upd H10 f0 (.lst [V.ref e])=H11 at *;have t911:=s10.trans s11;have t11:=(s9.trans s10).trans s11;refine⟨_,t11 _ _ q8,_,q11,by show 0+1<=sizeLine;decide,λD hD=>?_⟩;have s12:=Same.new (o:=.lst ([]++[V.ref e])) hD;have t912:=t911.trans s12;exact q D e ta t r a _ ((t8.trans t11).trans s12) ((t8.trans t11).free hD) Zaa (s12 _ _ (s11 _ _ q10)) (s12 _ _ (t11 _ _ (t8 _ _ hta))) (t912 _ _ h1) (t912 _ _ h2) (t912 _ _ h3) h4 (Zaf (t911 _ _ h2) hD) (Zaf (t911 _ _ h3) hD)
end
end Pf
namespace Pf
open PySem L2 PyProof.Rows
section
variable {C G S:Addr}{cc:Cs}
def Zuy (S C G NK:Addr):Sp:=λvs H Q E=>∃ (g x:Addr) (v:V) (p:Int) (n:Nat) (ps:List (Int×Int)),vs=[.ref g,.ref x,v]/\GAt G H g p/\GroundP p/\NumO H p 5000 v/\Drw C H x (n:Nat) ps/\InP (n:Nat) ps/\1<=n/\n<=8 /\
 ((¬ Zqh n ps/\∀ H',Same H H'->E (.ref NK) none H')\/∃ (qs:List (Int×Int)) (k:Int),ps=qs++[(k,k)]/\(k,k)∉qs/\LoopD n ps k/\∀ (x' dx g' d z l:Addr) (H':Hp),Same H H'->H' x'=some (.ins S dx (Zgv g' d z l))->H' z=some (.lst ((Zas (n:Nat) k).map V.int))->Q (.ref x') H')
theorem Zxj {n:Nat}{k j:Int}(j0:0<=j)(j1:j<n):∃ v,atI ((Zas (n:Nat) k).map V.int) j=some (.int v)/\v=(Zas (n:Nat) k).getD j.toNat 0/\0<=v/\v<=24:=by
 have hl:j.toNat<(Zas (n:Nat) k).length:=by rw[Zba];exact oz24 j0 j1
 refine⟨_,Zki j0 (oz222 hl),rfl,?_⟩;have:=Zde ((Zas (n:Nat) k).getD j.toNat 0) (by rw[Jao,Jaa hl];exact Jbr _);exact this
def TsI (H:Hp)(p:Int)(tl D:Addr)(ts:List Addr)(cs:List (Int×Int×List (List V))):Prop:=∀ (j:Nat) t c,ts[j]?=some t->cs[j]?=some c->∃ r rs,TabC H p c.1 c.2.1 t r rs c.2.2/\r≠tl/\tl∉rs/\r≠D/\D∉rs
theorem TsI.same {H H':Hp}{p:Int}{tl D:Addr}{ts:List Addr}{cs:List (Int×Int×List (List V))}(h:TsI H p tl D ts cs)(s:Same H H'):TsI H' p tl D ts cs:=λj t c e1 e2=>let ⟨r,rs,a,b⟩:=h j t c e1 e2;⟨r,rs,a.same s,b⟩
theorem TsI.putT {H:Hp}{p:Int}{tl D:Addr}{ts:List Addr}{cs:List (Int×Int×List (List V))}{l:List V}{o:HO}(h:TsI H p tl D ts cs)(hl:H tl=some (.lst l)):TsI (upd H tl o) p tl D ts cs:=λj t c e1 e2=>let ⟨r,rs,a,b1,b2,b3⟩:=h j t c e1 e2;⟨r,rs,a.put hl b1 b2,b1,b2,b3⟩
theorem TsI.putD {H:Hp}{p:Int}{tl D:Addr}{ts:List Addr}{cs:List (Int×Int×List (List V))}{l:List V}{o:HO}(h:TsI H p tl D ts cs)(hl:H D=some (.lst l)):TsI (upd H D o) p tl D ts cs:=λj t c e1 e2=>let ⟨r,rs,a,b1,b2,b3,b4⟩:=h j t c e1 e2;⟨r,rs,a.put hl b3 b4,b1,b2,b3,b4⟩
theorem TsI.snoc {H:Hp}{p:Int}{tl D t0 r0:Addr}{rs0:List Addr}{ts:List Addr}{cs:List (Int×Int×List (List V))}{c0:Int×Int×List (List V)}(h:TsI H p tl D ts cs)(hl:ts.length=cs.length)(tc:TabC H p c0.1 c0.2.1 t0 r0 rs0 c0.2.2)(n1:r0≠tl)(n2:tl∉rs0)(n3:r0≠D)(n4:D∉rs0):TsI H p tl D (ts++[t0]) (cs++[c0]):=λj t c e1 e2=>by
 by_cases hj:j<ts.length
 .rw [Jar hj] at e1;rw[Jar (oz6 hl hj)] at e2;exact h j t c e1 e2
 .rw [Jat ∅] at e1 e2;rw[hl] at e1;cases e:j-cs.length with
  | zero=>rw[e] at e1 e2;cases e1;cases e2;exact⟨r0,rs0,tc,n1,n2,n3,n4⟩
  | succ m=>rw[e] at e1;cases e1
theorem Zph {cs:List (Int×Int×List (List V))}{c0:Int×Int×List (List V)}(h:∀ c∈cs,0<=c.1/\c.1<=24/\0<=c.2.1/\c.2.1<=24)(h0:0<=c0.1/\c0.1<=24/\0<=c0.2.1/\c0.2.1<=24):∀ c∈cs++[c0],0<=c.1/\c.1<=24/\0<=c.2.1/\c.2.1<=24:=λc hc=>by
 rcases Jbp.mp hc with e|e
 .exact h c e
 .rw [Jam.mp e];exact h0
theorem Zo9 {ns:List Int}{cs:List (Int×Int×List (List V))}{c0:Int×Int×List (List V)}{ps:List (Int×Int)}{i:Nat}{q0:Int×Int}(hl:cs.length=i)(hf:∀ (j:Nat) c q,cs[j]?=some c->ps[j]?=some q->c.1=ns.getD q.2.toNat 0/\c.2.1=ns.getD q.1.toNat 0)(hq:ps[i]?=some q0)(h0:c0.1=ns.getD q0.2.toNat 0/\c0.2.1=ns.getD q0.1.toNat 0):∀ (j:Nat) c q,(cs++[c0])[j]?=some c->ps[j]?=some q->c.1=ns.getD q.2.toNat 0/\c.2.1=ns.getD q.1.toNat 0:=λj c q e1 e2=>by
 by_cases hj:j<cs.length
 .rw [Jar hj] at e1;exact hf j c q e1 e2
 .rw [Jat (Zvh hj)] at e1;cases e:j-cs.length with
  | zero=>rw[e] at e1;cases e1;rw[show j=i by exact oz3 hl hj e,hq] at e2;cases e2;exact h0
  | succ m=>rw[e] at e1;cases e1
theorem one_k {n:Nat}{k:Int}(k0:0<=k)(k1:k<n):(Zas (n:Nat) k).getD k.toNat 0=1:=by
 unfold Zas;rw[Jao,Jcm,if_pos rfl,if_pos (by rw[Ja4];exact oz24 k0 k1)];rfl
theorem ok_mem (F:Fun K "member" "member" Zkx f fd)(T:Txt K mg C G S)(XT:Xt K mg base cc)(Yae:Cal P w K mg base "is_good" 5 (Zjw C))(Ybt:Cal P w K mg base "low_row" 7 (spLw0 C))(Ybn:Cal P w K mg base "member_tables" 14 (spMt0 S C G))(Yal:Cal P w K mg base "barely_not_good" 6 (Zoh C))(Yaf:Cal P w K mg base "noughts" 4 (Zii G))(Yaj:CalI P w K mg base "Standing" S 8 (spSI S C G)):FnOk P w K mg base (CXe P w) 16 f fd ["ground","drawing","number"] (Zuy S C G cc.NoKind):=by
 have nd:=Zl5.nd;refine F.okE Zl5 (λvs H Q E h=>?_) (λcdv A outer s H vs Q E hr h=>?_)
 .refine Zls h λg x v p n ps e95 _=>?_;clear h;obtain rfl:=e95;rfl
 .refine Zkl h λg x v p n ps e96 hg hp e97=>?_;clear h;obtain rfl:=e96;refine Zgf e97 λhv dw ip n1 n8 h=>?_;clear e97;refine⟨_,((@Za7 _ _ _ _ _ _ _ _ (Zbn (Yae<$>hr<$>((pvr 1)<&>Zab))) (@Zam _ _ _ (ps_rse XT.o_NoKind rfl (Zoq<&>Zab))) Zan)<*>((3|||nd|||(Ybt<$>hr<$>((pvr 1)<&>Zab)))<*>((4|||nd|||(Ybn<$>hr<$>((pvr 0)<&>((Yal<$>hr<$>((pvr 1)<&>Zab))<&>((pvr 3)<&>((pvr 2)<&>Zab))))))<*>((5|||nd|||(@Zbj _ _ _ _ Zab))<*>((Zcy PassesOwn.leaving rfl (Za1 (Zbk (pv 1) rfl)) (@Zb8 _ _ _ _ _ 2 rfl ((@Zad _ _ 6 _ nd rfl (Or.inr rfl) (Or.inl rfl))^^^((@Zad _ _ 7 _ nd rfl (Or.inr rfl) (Or.inl rfl))^^^(@Za2 _))) ⇑1 ⇑1) ((Zfo (i:=8) (own:=["at","arrow","table"]) (fr:=[("tail",6),("head",7)]) rfl (Zbh (by kernel_rfl)) (Zxe rfl T.n_enumerate ((pv 4)<&>Zab)) (λ_ _ _ _=>⟨(@Zcr _ K rfl _ _ _ _ 2 rfl ((0<<<["at","arrow","table","tail","head"])^^^((@Zcr _ K rfl _ _ _ _ 2 rfl ((1<<<["at","arrow","table","tail","head"])^^^((2<<<["at","arrow","table","tail","head"])^^^(@Za2 _))) ⇑1 ⇑1)^^^(@Za2 _))) ⇑1 ⇑1),(Zcp (Za5 (op_eqTK K rfl (Zl7 hr)) (pv 1) (@Zaq _ _ _ _ _ ((pv 3)<&>((pv 4)<&>Zab))) (Zao _))),(pv 0)⟩) nd rfl rfl rfl)<*>(@Zam _ _ _ (Zcf (Zfp Jay Jb1 Jb2 (mtJ Zb5) (pvr 5) ((Zk6 (Zoo (pvr 8) (λ_=>rfl)) (Zg6<|>(Zfp Jay PySem.F.slot_list_pop PySem.F.type_list_pop Zv5 (pvr 4) (((ixJ Za6)<|>(pvr 8)<||>Zac)<&>Zab))<||>Zac) (Yaf<$>hr<$>((pvr 0)<&>(((ixJ Za6)<|>(pvr 3)<||>(pvr 7))<&>(((ixJ Za6)<|>(pvr 3)<||>(pvr 6))<&>Zab)))))<&>Zab))))))<*>(~~~(Zqk Yaj hr.m rfl ((pvr 0)<&>((pvr 1)<&>((pvr 3)<&>((pvr 5)<&>Zab))))))))))),?_⟩;refine Zcw λX hX=>?_;walk_at "wp";rcases h with ⟨nb,q⟩|⟨qs,k,rfl,nk,L,q⟩
  .exact Za9 x n ps ⟨rfl,dw,ip,n1,n8,λ_ H1 s1=>⟨true,rfl,Zlq rfl ⟨⇑0,q H1 s1⟩⟩,λb=>absurd b nb⟩
  have k0:=L.k0;have k1:=L.k1;refine Za9 x n _ ⟨rfl,dw,ip,n1,n8,λg=>absurd g L.bad,λbk H1 s1=>⟨false,rfl,Zgd ⇑0 ?_⟩⟩;subst hX;refine Zcw λX hX=>?_;walk_at "wp";refine Zkk x n _ k ⟨rfl,dw.same s1,n1,n8,L,λz H2 s2 hz=>?_⟩;have t2:=s1.trans s2;subst hX;refine Zcw λX hX=>?_;walk_at "wp";refine Za9 x n _ ⟨rfl,dw.same t2,ip,n1,n8,bk,λy B H3 s3 db bB=>?_⟩;obtain rfl:=L.bare B bB;have t3:=t2.trans s3;refine Zqo g y z p n k v ⟨rfl,hg.same t3,hp,db,n1,n8,k0,k1,s3 _ _ hz,λD e ta t r a H4 s4 fD hD he hta ht hr0 ha nra nrD naD=>?_⟩;have t4:=t3.trans s4;have hz4:=(s3.trans s4) _ _ hz;have fD0:H D=none:=t3.free fD;have nzD:z≠D:=Zaf (s3 _ _ hz) fD;subst hX;refine Zcw λX hX=>?_;walk_at "wp";refine⟨⇑0,λtl htl=>?_⟩;have s5:=Same.new (o:=.lst []) htl;have q5:(upd H4 tl (.lst [])) tl=some (.lst []):=Zaa;have ftl:H tl=none:=t4.free htl;have nDt:D≠tl:=Zaf hD htl;have nrt:r≠tl:=Zaf hr0 htl;have nat:a≠tl:=Zaf ha htl;have nzt:z≠tl:=Zaf hz4 htl;generalize upd H4 tl (.lst [])=H5 at *;have t5:=t4.trans s5;refine Za3 (id dw) λlp xs e98 x9 pr=>?_;obtain⟨dd,hd,hlp⟩:=e98;have xl:=pr.1;have ql:(qs++[(k,k)]).length=qs.length+1:=by rw[Jak];rfl
  subst hX;refine Zcw λX hX=>?_;refine cutF λY hY=>?_;refine⟨_,rfl,x,C,dd,_,_,rfl,t5 _ _ hd,T.cl_Drawing,T.nA,Zay _ lp,lp,rfl,⟨_,SqL.of (t5 _ _ hlp)⟩,Zd0 (xs:=xs) (λi σ H6=>∃ (v6 v7 v8:Option V) (ts:List Addr) (cs:List (Int×Int×List (List V))),σ=[some (.ref g),some (.ref x),some v,some (.ref z),some (.ref D),some (.ref tl),v6,v7,v8]/\Same H H6/\H6 z=some (.lst ((Zas (n:Nat) k).map V.int))/\H6 D=some (.lst (if i<=qs.length then [V.ref e] else []))/\H6 e=some (.tup [.ref ta,.ref t])/\H6 ta=some (.tup [.int k,.int k])/\TabC H6 p 1 1 t r [a] [[v]]/\H6 tl=some (.lst (ts.map V.ref))/\ts.length=i/\cs.length=i /\
    TsI H6 p tl D ts cs/\(∀ c∈cs,0<=c.1/\c.1<=24/\0<=c.2.1/\c.2.1<=24)/\∀ (j:Nat) c q,cs[j]?=some c->(qs++[(k,k)])[j]?=some q->c.1=(Zas (n:Nat) k).getD q.2.toNat 0/\c.2.1=(Zas (n:Nat) k).getD q.1.toNat 0)
   ⟨none,none,none,[],[],rfl,t5,s5 _ _ hz4,by rw[if_pos (Jbm _)];exact s5 _ _ hD,s5 _ _ he,s5 _ _ hta,?_,q5,rfl,rfl,λj t c e=>by simp at e,by simp,λj c q e=>by simp at e⟩ (λi σ H6 _ ⟨_,_,_,_,_,_,e,_⟩=>SqL.of (e _ _ hlp)) ?_ ?_⟩
  .refine TabC.same ⟨⟨ht,hr0,rfl,λb hb=>?_,λz=>nra (Jam.mp z)⟩,λi b e=>?_⟩ s5
   .rw [Jam.mp hb];refine⟨[v],ha,rfl,λy hy=>?_⟩;rw[Jam.mp hy];exact (hv.same t4).weak ⇑0
   .cases i with
    | zero=>cases e;exact ha
    | succ i=>cases e
  .intro i y0 σ H6 hi e91;refine Zcx e91 λv6 v7 v8 ts cs e99 s6 z6 e910=>?_;clear e91;obtain rfl:=e99;refine Zn8 e910 λD6 e6 ta6 tb6 tl6 tsl csl hc hb24 hf=>?_;clear e910;refine cutD λD2 hD2=>?_;have hi1:i<xs.length:=(Jah.mp hi).1;have hiq:i<=qs.length:=by exact oz157 xl ql hi1
   rw[if_pos hiq] at D6;have hq:(qs++[(k,k)])[i]?=some ((qs++[(k,k)])[i]'(oz6 xl hi1)):=Jaa _;refine Zah ((pr.same s6).2 i y0 _ hi hq) λtq e911 htq=>?_;obtain rfl:=e911;refine Zbx (ip _ (Jai hq)) λi0 i1 j0 j1=>?_;have hlast:(qs++[(k,k)])[i]'(oz6 xl hi1)=(k,k) ↔ i=qs.length:=by
    constructor
    .intro z;by_cases h:i<qs.length
     .rw [List.getElem_append_left h] at z;exact absurd (z ▸ Jbr h) nk
     .exact oz32 xl ql hi1 h
    .intro z;subst z;rw[List.getElem_append_right (Jaf _)];simp
   generalize (qs++[(k,k)])[i]'(oz6 xl hi1)=q0 at *;simp only[Zwq,Zhv,Zxp,Zbd,List.set_cons_zero,List.set_cons_succ];refine Zav tq _ ⟨rfl,SqT.of htq,rfl,_,_,rfl,_,_,rfl,rfl,?_⟩;subst hY;refine Zcw λY hY=>?_;walk_at "wp";have fin:∀ (fi:Addr) (H7:Hp),Same H6 H7->H7 fi=some (.lst (if q0=(k,k) then [V.int 0] else []))->Y D2 [some (.ref g),some (.ref x),some v,some (.ref z),some (.ref D),some (.ref tl),some (.int q0.1),some (.int q0.2),some (.ref fi)] H7:=by
    intro fi H7 s7 hfi;subst hY;walk_at "wp";have tl7:=s7 _ _ tl6;have D7:=s7 _ _ D6;have z7:=s7 _ _ z6;have tu:∃ b,TruV K (V.ref fi) H7 b/\(b=true ↔ q0=(k,k)):=by
     by_cases h:q0=(k,k)
     .rw [if_pos h] at hfi;exact⟨true,.inl ⟨_,SqL.of hfi,rfl⟩,λ_=>h,λ_=>rfl⟩
     .rw [if_neg h] at hfi;exact⟨false,.inl ⟨_,SqL.of hfi,rfl⟩,(λz=>by cases z),λz=>absurd z h⟩
    refine Zah tu λb tb hb=>?_;clear tu;refine⟨.inl ⟨rfl,_,SqL.of tl7⟩,b,tb,?_⟩;by_cases hk:q0=(k,k)
    .refine Zlq (hb.mpr hk) ?_;rw[if_pos hk] at hfi;have hil:i=qs.length:=hlast.mp hk;refine⟨.inl ⟨rfl,_,SqL.of D7⟩,_,SqL.of hfi,_,rfl,_,0,rfl,D7,⇑0,⇑0,0,rfl,_,rfl,e,rfl,_,SqT.of (by rw[Zag (Zcz (s7 _ _ e6) D7 (by intro z;cases z))];exact s7 _ _ e6),_,rfl,_,by rw[Zag nDt.symm];exact tl7,Zaj (by rw[Jab];exact oz149 x9 xl ql tsl hil),?_⟩;subst hD2;have u1:=s7 _ _ e6;have u2:=s7 _ _ ta6;have nDe:e≠D:=Zcz u1 D7 (by intro z;cases z);have nDa:ta≠D:=Zcz u2 D7 (by intro z;cases z);have nte:e≠tl:=Zcz u1 tl7 (by intro z;cases z);have nta:ta≠tl:=Zcz u2 tl7 (by intro z;cases z);have D8:(upd H7 D (.lst ([V.ref e].eraseIdx 0))) tl=some (.lst (ts.map V.ref)):=by rw[Zag nDt.symm];exact tl7
     have tc7:=((tb6.same s7).put (o:=.lst ([V.ref e].eraseIdx 0)) D7 nrD (λz=>naD (Jam.mp z).symm)).put (o:=.lst (ts.map V.ref++[V.ref t])) D8 nrt (λz=>nat (Jam.mp z).symm);have hc7:=(((hc.same s7).putD (o:=.lst ([V.ref e].eraseIdx 0)) D7).putT (o:=.lst (ts.map V.ref++[V.ref t])) D8).snoc (c0:=(1,1,[[v]])) (oz14 tsl csl) tc7 nrt (λz=>nat (Jam.mp z).symm) nrD (λz=>naD (Jam.mp z).symm);refine Zd1 _ _ _ (ts++[t]) (cs++[(1,1,[[v]])]) ⟨rfl,((s6.trans s7).upd fD0).upd ftl,?_,?_,?_,?_,tc7,?_,by rw[Jak,tsl];rfl,by rw[Jak,csl];rfl,hc7,Zph hb24 (by show (0:Int)<=1/\(1:Int)<=24/\(0:Int)<=1/\(1:Int)<=24;decide),Zo9 csl hf hq ?_⟩
     .rw [Zag nzt,Zag nzD];exact z7
     .rw [Zag nDt,Zaa,if_neg (oz163 hil)];rfl
     .rw [Zag nte,Zag nDe];exact u1
     .rw [Zag nta,Zag nDa];exact u2
     .rw [Zaa,Zbs]
     .rw [hk];exact⟨(one_k k0 k1).symm,(one_k k0 k1).symm⟩
    .refine Zgd (λz=>hk (hb.mp z)) ?_;refine Zm4 (Zxj (k:=k) j0 j1) λu1 a1 eu1 u10 u11=>?_;refine Zm4 (Zxj (k:=k) i0 i1) λu2 a2 eu2 u20 u21=>?_;refine⟨_,SqL.of z7,_,a1,_,SqL.of z7,_,a2,g,p,u1,u2,rfl,hg.same (s6.trans s7),hp,u10,u11,u20,u21,λt0 M H8 s8 f0 tf _=>⟨_,s8 _ _ tl7,Zaj (by rw[Jab];exact oz85 x9 tsl hi1),?_⟩⟩;subst hD2;refine Zeh tf λr0 rs0 tc0 f1 f2 f3=>?_;clear tf;have t8:=s7.trans s8;have tl8:=s8 _ _ tl7;have n1:r0≠tl:=λz=>by rw[z,tl7] at f2;cases f2
     have n2:tl∉rs0:=λz=>by have:=f3 tl z;rw[tl7] at this;cases this
     have n3:r0≠D:=λz=>by rw[z,D7] at f2;cases f2
     have n4:D∉rs0:=λz=>by have:=f3 D z;rw[D7] at this;cases this
     have u1:=t8 _ _ e6;have u2:=t8 _ _ ta6;have nte:e≠tl:=Zcz u1 tl8 (by intro z;cases z);have nta:ta≠tl:=Zcz u2 tl8 (by intro z;cases z);have hil:i≠qs.length:=λz=>hk (hlast.mpr z);refine Zd1 _ _ _ (ts++[t0]) (cs++[(_,_,M)]) ⟨rfl,(s6.trans t8).upd ftl,?_,?_,?_,?_,(tb6.same t8).put tl8 nrt (λz=>nat (Jam.mp z).symm),?_,by rw[Jak,tsl];rfl,by rw[Jak,csl];rfl,((hc.same t8).putT tl8).snoc (c0:=(_,_,M)) (oz14 tsl csl) (tc0.put tl8 n1 n2) n1 n2 n3 n4,Zph hb24 ⟨u10,u11,u20,u21⟩,Zo9 csl hf hq ⟨eu1,eu2⟩⟩
     .rw [Zag nzt];exact t8 _ _ z6
     .rw [Zag nDt,if_pos (oz41 xl ql hi1 hil)];exact t8 _ _ D6
     .rw [Zag nte];exact u1
     .rw [Zag nta];exact u2
     .rw [Zaa,Zbs]
   refine⟨_,rfl,D,rfl,⟨_,SqL.of D6⟩,λfi hfi=>Zww (xs:=[V.ref e]) (λj vs H7=>Same H6 H7/\H7 fi=some (.lst vs)/\(j=0/\vs=[]\/j=1/\vs=if q0=(k,k) then [V.int 0] else [])) ⟨Same.new hfi,Zaa,.inl ⟨rfl,rfl⟩⟩ (λj vs H7 _ p=>SqL.of (p.1 _ _ D6)) ?_ ?_⟩
   .intro j y1 pz vs σ' H7 hj hy hpz sh e92;refine Zar e92 λs7 h7 hvs=>?_;clear e92;refine Zum (Zkt sh) λz1 z2 z3 e912=>?_;obtain rfl:=e912;have j0':j=0:=by have:j<1:=hj;exact oz44 this
    subst j0';cases hy;obtain⟨_,rfl⟩:(0:Nat)=0/\vs=[]:=by
     rcases hvs with h|h
     .exact h
     .exact absurd h.1 ⇑0
    have s8:=Same.new (o:=.tup [V.int (0:Nat),V.ref e]) hpz;have q8:(upd H7 pz (.tup [V.int (0:Nat),V.ref e])) pz=some (.tup [V.int (0:Nat),V.ref e]):=Zaa;generalize upd H7 pz (.tup [V.int (0:Nat),V.ref e])=H8 at *;have t8:=s7.trans s8;have ta8:=t8 _ _ ta6;refine Zav pz _ ⟨rfl,SqT.of q8,rfl,_,_,rfl,_,_,rfl,e,_,rfl,SqT.of (t8 _ _ e6),rfl,_,_,rfl,_,_,rfl,rfl,rfl,?_⟩;refine⟨_,rfl,_,rfl,_,rfl,by show 2<=sizeLine;decide,λtt htt=>?_⟩;have s9:=Same.new (o:=.tup [V.int q0.1,V.int q0.2]) htt;have q9:(upd H8 tt (.tup [V.int q0.1,V.int q0.2])) tt=some (.tup [V.int q0.1,V.int q0.2]):=Zaa;generalize upd H8 tt (.tup [V.int q0.1,V.int q0.2])=H9 at *;have hfi9:=(s8.trans s9) _ _ h7;have ntt:ta≠tt:=Zaf ta8 htt;refine Zd1 ta tt _ _ [decide (k=q0.1),decide (k=q0.2)] ⟨rfl,rfl,SqT.of (s9 _ _ ta8),SqT.of q9,⟨rfl,rfl,λj x y b e1 e2 e3=>?_⟩,?_⟩
    .match j,e1,e2,e3 with
     | 0,e1,e2,e3=>cases e1;cases e2;cases e3;exact Zns _ _
     | 1,e1,e2,e3=>cases e1;cases e2;cases e3;exact Zns _ _
     | j+2,e1,_,_=>cases e1
    refine⟨_,rfl,?_⟩;by_cases hk:q0=(k,k)
    .rw [if_pos hk];have e0:([decide (k=q0.1),decide (k=q0.2)].all id)=true:=by rw[hk];simp
     refine Zlq (by show ([decide (k=q0.1),decide (k=q0.2)].all id)=true;exact e0) ⟨_,rfl,leaf (ws:=[V.int 0]) hj Zoi hfi9 (by show 0<sizeLine;decide) ⟨(t8.trans s9).upd hfi,Zaa,.inr ⟨rfl,rfl⟩⟩⟩
    .have e0:([decide (k=q0.1),decide (k=q0.2)].all id)=false:=by
      cases h:([decide (k=q0.1),decide (k=q0.2)].all id) with
      | false=>rfl
      | true=>
       simp at h;exact absurd (Prod.ext h.1.symm h.2.symm) hk
     refine Zgd (by show ¬ ([decide (k=q0.1),decide (k=q0.2)].all id)=true;rw[e0];decide) (Zv9 (ws:=[]) hj Zoi ⟨t8.trans s9,hfi9,.inr ⟨rfl,(if_neg hk).symm⟩⟩)
   .intro vs H7 e93;refine Zar e93 λs7 h7 hvs=>?_;clear e93;have:vs=if q0=(k,k) then [V.int 0] else []:=by
     rcases hvs with h|h
     .exact absurd h.1 (by show ¬ 1=0;decide)
     .exact h.2
    subst this;exact fin fi H7 s7 h7
  .intro σ H6 e94;refine Zcx e94 λv6 v7 v8 ts cs e913 s6 z6 e914=>?_;clear e94;obtain rfl:=e913;refine Zn8 e914 λD6 e6 ta6 tb6 tl6 tsl csl hc hb24 hf=>?_;clear e914;subst hX;walk_at "wp";intro x' dx hx hdx ndx;refine Zw8 (H0:=λ_=>none) hx hdx ndx (hg.same s6) hp ⟨dd,s6 _ _ hd,s6 _ _ hlp⟩ (pr.same s6) ip (oz26 x9 xl) ⟨z6,by rw[Zba];exact oz30 n8,Zde⟩ (by rw[Zba];exact oz21) (ts:=ts) (cs:=cs) ⟨tl6,oz14 tsl csl,oz54 x9 csl,λi t c e1 e2=>?_⟩ ⟨oz15 xl csl,hf⟩ (λb o e=>by cases e) rfl λdx2 z' l' ts' H7 s7 st7=>⟨rfl,q x' dx2 _ _ z' l' H7 (s6.trans s7) st7.ins st7.szs.1⟩
   refine Zbg (hc i t c e1 e2) λr' rs' tc _=>?_;exact⟨⟨r',rs',tc⟩,hb24 c (Jai e2)⟩
end
end Pf
set_option maxHeartbeats 2000000
namespace Pf
open PySem L2 PyProof.Rows
section
variable {C G S:Addr}{cc:Cs}
theorem Zwb {t:Value}:PySem.W.kitOne K t t=some true:=by unfold PySem.W.kitOne;rw[if_pos (by simp)]
def Zq5 (NK:Addr):Sp:=λvs H Q _=>∃ a:Addr,vs=[.ref a]/\H a=some (Zie a (.ref NK))/\∀ H',Same H H'->Q (.bl true) H'
theorem ok_word (F:Fun K "_law_word" "_law_word" Zhh f fd)(T:Txt K mg C G S)(XT:Xt K mg base cc):FnOkH P w K mg base CX0 1 f fd ["_law_e"] (Zq5 cc.NoKind):=by
 have nd:=Ziu.nd;refine F.okH Ziu (λvs H Q E h=>?_) (λcdv A outer s H vs Q E hr h=>?_)
 .refine Zah h λa e93 _=>?_;clear h;obtain rfl:=e93;rfl
 .refine Zap h λa e94 ha q=>?_;clear h;obtain rfl:=e94;refine⟨_,((@Za7 _ _ _ _ _ _ _ _ (Zbn (Za4 (Zkh K rfl) rfl T.n_isinstance Jbs ((pvr 0)<&>((@Zaq _ _ _ _ _ ((Zcs (v:=.ref cc.NoGround) rfl XT.g_NoGround rfl)<&>((Zcs (v:=.ref cc.NoNumber) rfl XT.g_NoNumber rfl)<&>((Zcs (v:=.ref cc.NoTable) rfl XT.g_NoTable rfl)<&>((Zcs (v:=.ref cc.NoDrawing) rfl XT.g_NoDrawing rfl)<&>((Zcs (v:=.ref cc.NoStanding) rfl XT.g_NoStanding rfl)<&>((Zcs (v:=.ref cc.NoChange) rfl XT.g_NoChange rfl)<&>((Zcs (v:=.ref cc.NoMirror) rfl XT.g_NoMirror rfl)<&>Zab))))))))<&>Zab)))) (~~~Ze8) Zan)<*>((@Za7 _ _ _ _ _ _ _ _ (Zbn (Za4 (Zkh K rfl) rfl T.n_isinstance Jbs ((pvr 0)<&>((@Zaq _ _ _ _ _ ((Zcs (v:=.ref cc.NoRoot) rfl XT.g_NoRoot rfl)<&>((Zcs (v:=.ref cc.NoText) rfl XT.g_NoText rfl)<&>((Zcs (v:=.ref cc.NoRow) rfl XT.g_NoRow rfl)<&>((Zcs (v:=.ref cc.NoName) rfl XT.g_NoName rfl)<&>Zab)))))<&>Zab)))) (~~~Ze8) Zan)<*>(~~~(Zga (Za4 (Zmt K rfl) rfl T.n_isinstance Jbs ((pvr 0)<&>((Zcs (v:=.ref cc.NoKind) rfl XT.g_NoKind rfl)<&>Zab))) (Zf9 (Za4 (Zmt K rfl) rfl T.n_isinstance Jbs ((pvr 0)<&>((Zhp rfl T.n_ValueError Zjq)<&>Zab)))))))),?_⟩;walk_at "wp";refine⟨⇑0,λp1 hp1=>⟨a,cc.NoKind,p1,⟨rfl,rfl⟩,_,Zaa,[.ref cc.NoGround,.ref cc.NoNumber,.ref cc.NoTable,.ref cc.NoDrawing,.ref cc.NoStanding,.ref cc.NoChange,.ref cc.NoMirror],rfl,(Same.new hp1) _ _ ha,XT.z,XT.i,false,XT.t1,Zwf ?_⟩⟩;have s1:=Same.new (o:=.tup [V.ref cc.NoGround,V.ref cc.NoNumber,V.ref cc.NoTable,V.ref cc.NoDrawing,V.ref cc.NoStanding,V.ref cc.NoChange,V.ref cc.NoMirror]) hp1;have h1:=s1 _ _ ha;generalize upd H p1 (.tup [V.ref cc.NoGround,V.ref cc.NoNumber,V.ref cc.NoTable,V.ref cc.NoDrawing,V.ref cc.NoStanding,V.ref cc.NoChange,V.ref cc.NoMirror])=H1 at *;refine⟨⇑0,λp2 hp2=>⟨a,cc.NoKind,p2,⟨rfl,rfl⟩,_,Zaa,[.ref cc.NoRoot,.ref cc.NoText,.ref cc.NoRow,.ref cc.NoName],rfl,(Same.new hp2) _ _ h1,XT.z,XT.i,false,XT.t2,Zwf ?_⟩⟩;have s2:=Same.new (o:=.tup [V.ref cc.NoRoot,V.ref cc.NoText,V.ref cc.NoRow,V.ref cc.NoName]) hp2;have h2:=s2 _ _ h1;generalize upd H1 p2 (.tup [V.ref cc.NoRoot,V.ref cc.NoText,V.ref cc.NoRow,V.ref cc.NoName])=H2 at *;exact Za9 a cc.NoKind _ ⟨⟨rfl,rfl⟩,.ref cc.NoKind,rfl,h2,XT.z,XT.i,true,Zwb,iteT ⟨a,cc.NoKind,_,⟨rfl,rfl⟩,.type "ValueError",rfl,h2,XT.z,XT.i,true,XT.v,q H2 (s1.trans s2)⟩⟩
def Zra (C G:Addr):Sp:=λvs H Q _=>∃ (g x:Addr) (v:V) (p:Int) (n:Nat) (ps:List (Int×Int)),vs=[.ref g,.ref x,v]/\GAt G H g p/\GroundP p/\NumO H p 5000 v/\Drw C H x (n:Nat) ps/\InP (n:Nat) ps/\1<=n/\n<=8/\¬ Zqh n ps/\∀ H',Same H H'->Q (.bl true) H'
theorem ok_refM (F:Fun K "_law_refused" "_law_refused" Zem f fd)(T:Txt K mg C G S)(XT:Xt K mg base cc)(Yag:CalE P w K mg base "member" 16 (Zuy S C G cc.NoKind))(Ybx:CalH P w K mg base "_law_word" 1 (Zq5 cc.NoKind)):FnOk P w K mg base CX0 18 f fd ["_law_ground","_law_drawing","_law_number_here"] (Zra C G):=by
 have nd:=Zf4.nd;refine F.ok Zf4 (λvs H Q E h=>?_) (λcdv A outer s H vs Q E hr h=>?_)
 .refine Zls h λg x v p n ps e95 _=>?_;clear h;obtain rfl:=e95;rfl
 .refine Zkl h λg x v p n ps e96 hg hp e97=>?_;clear h;obtain rfl:=e96;refine Zlt e97 λhv dw ip n1 n8 nb q=>?_;clear e97;refine⟨_,((ps_try (E':=(λc _ H'=>c=.ref cc.NoKind/\Same H H')) (i:=3) rfl rfl rfl (λpins xt hps=>(@Zam _ _ _ (Zcf (pe_cE Yag hps hr.m rfl ((pvr 0)<&>((pvr 1)<&>((pvr 2)<&>Zab))))))) (λpins a=>(~~~(pe_cH Ybx (hr.m.mark _) rfl ((pv 3)<&>Zab)))) rfl XT.o_LimbError ⇑0 (λc H' h=>h.1 ▸ XT.u_NoKind) nd rfl rfl)<*>(~~~Ze8)),?_⟩;refine⟨?_,λcls H' a' σ' hE ha hl=>?_⟩
  .walk_at "wp";exact Zlr g x v p n ps ⟨rfl,hg,hp,hv,dw,ip,n1,n8,.inl ⟨nb,λH1 s1=>⟨rfl,s1⟩⟩⟩
  .obtain ⟨v0,v1,v2,v3,rfl⟩:∃ v0 v1 v2 v3:Option V,σ'=[v0,v1,v2,v3]:=by
    match σ',hl with
    | [v0,v1,v2,v3],_=>exact⟨v0,v1,v2,v3,rfl⟩
   obtain⟨rfl,sH⟩:=hE;have h1:upd H' a' (Zie a' (.ref cc.NoKind)) a'=some (Zie a' (.ref cc.NoKind)):=Zaa;have s1:=sH.trans (Same.new (o:=Zie a' (.ref cc.NoKind)) ha);walk_at "wp";exact⟨a',rfl,h1,λH2 s2=>q H2 (s1.trans s2)⟩
theorem Zws {n:Nat}{ps:List (Int×Int)}(n1:1<=n)(dp:L3.DPos (Zbi n) ps):ps.length<n:=by
 have h0:(0:Int)∈Zbi n:=by
  unfold Zbi;exact Jan.mpr ⟨0,Jbz.mpr ∅,rfl⟩
 have:=dp (λ_=>1) ⟨0,h0,⇑0⟩;unfold L3.qf at this;have e1:L3.sI (λ_:Int=>(1:Int)) (Zbi n)=1*((Zbi n).length:Nat):=L3.Zce;have e2:L3.sI (λ_:Int×Int=>(1:Int)) ps=1*(ps.length:Nat):=L3.Zce;have pl:(Zbi n).length=n:=by unfold Zbi;simp
 have h3:0<L3.sI (λ_:Int=>(1:Int)) (Zbi n)-L3.sI (λ_:Int×Int=>(1:Int)) ps:=this;rw[e1,e2,pl] at h3;omega
def Zuz (K:Frag):Sp:=λvs H Q _=>∃ (a:Addr) (ns:List Int),vs=[.ref a]/\SqL K H a (ns.map V.int)/\ns.length<=63/\∀ H',Q (.bl true) H'
theorem ok_law (F:Fun K "law" "law" Zky f fd)(T:Txt K mg C G S)(Ya1:Cal P w K mg base "_law_cell" 1 (Zrg K))(Ybv:Cal P w K mg base "_law_bag" 1 spBag)(Yaa:Cal P w K mg base "_law_draw" 1 Zf0)(Yby:Cal P w K mg base "_law_drawn" 4 (Zgu 0 4))(Ya7:Cal P w K mg base "_law_number" 3 spNum)(Yab:CalI P w K mg base "Drawing" C 4 (Zio C))(Yad:CalI P w K mg base "Ground" G 3 (Zng G))(Yas:Cal P w K mg base "_law_refused" 18 (Zra C G))(Yag:CalE P w K mg base "member" 16 (Zuy S C G cc.NoKind)):FnOk P w K mg base CX0 20 f fd ["_law_script"] (Zuz K):=by
 have nd:=Zw9.nd;refine F.ok Zw9 (λvs H Q E h=>?_) (λcdv A outer s H vs Q E hr h=>?_)
 .refine Zbg h λa ns e98 _=>?_;clear h;obtain rfl:=e98;rfl
 .refine Zeh h λa ns e99 hS hl q=>?_;clear h;obtain rfl:=e99;refine⟨_,((Zcy Ja7 rfl (Zid rfl T.n_range ((Zbo<|>(Za4 (Zt9 rfl) rfl T.n_min boot_min ((Za4 Zak rfl T.n_len Ja6 ((pv 0)<&>Zab))<&>(Zac<&>Zab)))<&&>Zac)<&>Zab)) (1>>>nd) ((2|||nd|||(Ybv<$>hr<$>((Ya1<$>hr<$>((pvr 0)<&>((pvr 1)<&>Zab)))<&>Zab)))<*>((3|||nd|||(Za6<|>(@Zbj _ _ _ _ (Zac<&>(Zac<&>(Zac<&>(Zac<&>(Zac<&>Zab))))))<||>(Yaa<$>hr<$>((pvr 2)<&>(Zac<&>Zab)))))<*>((Zcl (Yby<$>hr<$>((pvr 2)<&>((Yaa<$>hr<$>((pvr 2)<&>(Zac<&>Zab)))<&>Zab))) (@Zb8 _ _ _ _ _ 2 rfl ((4>>>nd)^^^((5>>>nd)^^^(@Za2 _))) ⇑1 ⇑1))<*>((6|||nd|||(Ya7<$>hr<$>((pvr 2)<&>((pvr 3)<&>Zab))))<*>((7|||nd|||(Yaa<$>hr<$>((pvr 2)<&>((pvr 4)<&>Zab))))<*>((8|||nd|||(Zqk Yab hr.m rfl ((pvr 4)<&>((Zfz Zbb rfl T.n_list Jcf ((pvr 5)<&>Zab))<&>Zab))))<*>((@Za7 _ _ _ _ _ _ _ _ (Zbq (Zbn (Yas<$>hr<$>((Zqk Yad hr.m rfl ((pvr 3)<&>Zab))<&>((pvr 8)<&>((pvr 6)<&>Zab)))))) (~~~Ze8) Zan)<*>((9|||nd|||(pe_cE Yag pass_no hr.m rfl ((Zqk Yad hr.m rfl ((pvr 3)<&>Zab))<&>((Zqk Yab hr.m rfl ((pvr 4)<&>((Zgb<|>(pvr 5)<&&>(@Zbj _ _ _ _ ((@Zaq _ _ _ _ _ ((pvr 7)<&>((pvr 7)<&>Zab)))<&>Zab)))<&>Zab)))<&>((pvr 6)<&>Zab)))))<*>(@Zam _ _ _ (@Za7 _ _ _ _ _ _ _ _ (PW.pt (Zes (Zat Zjg (Za4 (Zms rfl) rfl T.n_max boot_max ((Zby (pvr 9) rfl)<&>Zab)) Zac (Zao _)) (Zes (Zbq (Zbn (Yas<$>hr<$>((Zqk Yad hr.m rfl ((pvr 3)<&>Zab))<&>((pvr 8)<&>((pvr 6)<&>Zab)))))) (Zdq (Zat (Zxh (Zl7 hr)) (Zby (pvr 8) rfl) (pvr 5) (Zao _)))))) (~~~Ze8) Zan)))))))))))<*>(~~~Ze8)),?_⟩;refine Zcw λXX hXX=>?_;refine cutF λY hY=>?_;refine⟨_,rfl,a,_,rfl,.inl hS,_,_,rfl,_,_,rfl,rfl,_,rfl,?_,?_,Zjn (λi σ H2=>∃ v1 v2 v3 v4 v5 v6 v7 v8 v9:Option V,σ=[some (.ref a),v1,v2,v3,v4,v5,v6,v7,v8,v9]/\Same H H2) ⟨none,none,none,none,none,none,none,none,none,rfl,Same.refl H⟩ ?_ ?_⟩
  .split <;> omega
  .split <;> omega
  .intro i σ H2 hi e91;refine xE9_2 e91 λv1 v2 v3 v4 v5 v6 v7 v8 v9 e910 s2=>?_;clear e91;obtain rfl:=e910;refine cutD λD2 hD2=>?_;simp only[Zbd,List.set_cons_zero,List.set_cons_succ];subst hY;refine cut3 λX hX=>?_;walk_at "wp";refine Za9 a ns (0+i) ⟨rfl,s2.seq hS,hl,oz182,λc=>⟨c,rfl,λl xa xb hl0 xb0 xb1=>?_⟩⟩;have b3:Bag (upd H2 l (Zn7 xa xb)) l:=Bag.set xb0 xb1;have s3:Same H (upd H2 l (Zn7 xa xb)):=s2.trans (Same.new hl0);have fl:H l=none:=s2.free hl0;generalize upd H2 l (Zn7 xa xb)=H3 at *;refine⟨⇑0,λp1 hp1=>?_⟩;have np1:p1≠l:=b3.ne hp1;have s3':=s3.trans (Same.new (o:=.lst [V.int 0,V.int 2,V.int 3,V.int 5,V.int 97]) hp1);refine (b3.new np1).draw (n:=5) ⇑0 ⇑0 λr5 H4 r50 r51 e4 b4=>?_;refine Zah (Zrx (L:=[0,2,3,5,97]) ⇑0 r50 r51) λp hat hp=>?_;have s4:Same H H4:=Same.thru s3' fl e4;refine Zav _ r5 ⟨rfl,SqL.of (e4 _ _ np1 Zaa),_,hat,?_⟩;clear s3' e4 hp1 hat;refine b4.draw ⇑0 ⇑0 λwy H5 w0 w1 e5 b5=>⟨l,wy,rfl,w0,∅,b5,λpt e n xs ps H6 O=>⟨pt,rfl,_,SqT.of O.tup,rfl,_,_,rfl,_,_,rfl,rfl,?_⟩⟩
   have s6:Same H H6:=Same.thru (Same.thru s4 fl e5) fl O.ext;have b6:=O.bag;have n1:=O.lo;have n8:=O.hi;have nel:e≠l:=b5.ne O.new;have he:=O.lst;have pr:=O.pk.prs;have ip:=O.ip;have dp:=O.dp;have p7:=Zws n1 dp;have xl:=pr.1;have nbad:¬ Zqh n ps:=λb=>Zla ip n8 b (DPos.nn dp);clear O s4 e5 b5 b4 b3 s3;subst hX;refine Zcw λX hX=>?_;walk_at "wp";refine Zav l p ⟨rfl,b6,hp,λv xn H7 e7 b7 nv iv bv=>?_⟩;have hv:NumO H7 p 5000 v:=⟨xn,nv,iv,bv⟩
   have he7:=e7 _ _ nel he;have pr7:=pr.bag b6 e7;have s7:Same H H7:=Same.thru s6 fl e7;subst hX;refine Zcw λX hX=>?_;walk_at "wp";refine b7.draw (oz160 n1) ∅ λk H8 k0 k1 e8 b8=>?_;have hv:=hv.ext b7 e8;have he8:=e8 _ _ nel he7;have pr8:=pr7.bag b7 e8;have s8:Same H H8:=Same.thru s7 fl e8;clear e8 b7 e7 b6 nv iv bv;have nk:(k,k)∉ps:=λh=>Zlb (by unfold Zbi;exact Jan.mpr ⟨k.toNat,Jbz.mpr (Zpx k0 k1),oz18 k0⟩) h (DPos.nn dp);have L:=Zv8 n8 k0 k1 ip (oz136 n8 p7) dp;subst hX;refine Zcw λX hX=>?_;walk_at "wp";refine⟨_,.inl (SqL.of he8),λe9 he9 d dd hd hdd nd'=>?_⟩;have s9:=Same.new (o:=.lst xs) he9;have q9:(upd H8 e9 (.lst xs)) e9=some (.lst xs):=Zaa;generalize upd H8 e9 (.lst xs)=H9 at *;refine Zji (B:=ps) hd hdd nd' q9 (oz146 n8 p7 xl) (pr8.same s9) ip n1 n8 λH10 s10 dw=>⟨rfl,?_⟩
   have t10:=s9.trans s10;subst hX;refine Zcw λX hX=>?_;walk_at "wp";intro g dg hg hdg ndg;have fg:(upd H10 dg (.own g)) g=none:=by rw[Zag ndg.symm];exact hg
   have sg:Same H10 (upd (upd H10 dg (.own g)) g (.ins G dg [])):=(Same.new hdg).trans (Same.new fg);refine Za9 g dg p ⟨rfl,Zaa,hp,λH11 ex11 hg11=>⟨rfl,?_⟩⟩;have s11:Same H10 H11:=Same.thru sg hg ex11;have t11:=t10.trans s11;refine Zlr g d v p n ps ⟨rfl,⟨dg,hg11⟩,hp,hv.same t11,dw.same s11,ip,n1,n8,nbad,λH12 s12=>⟨true,rfl,Zgd ⇑0 ?_⟩⟩;have t12:=t11.trans s12;have dw12:=(dw.same s11).same s12;subst hX;refine Zcw λX hX=>?_;walk_at "wp";intro g2 dg2 hg2 hdg2 ndg2;have fg2:(upd H12 dg2 (.own g2)) g2=none:=by rw[Zag ndg2.symm];exact hg2
   have sg2:Same H12 (upd (upd H12 dg2 (.own g2)) g2 (.ins G dg2 [])):=(Same.new hdg2).trans (Same.new fg2);refine Za9 g2 dg2 p ⟨rfl,Zaa,hp,λH13 ex13 hg13=>⟨rfl,⇑0,λt1 ht1=>?_⟩⟩;have s13:Same H12 H13:=Same.thru sg2 hg2 ex13;have s14:=Same.new (o:=.tup [V.int k,V.int k]) ht1;have q14:(upd H13 t1 (.tup [V.int k,V.int k])) t1=some (.tup [V.int k,V.int k]):=Zaa;generalize upd H13 t1 (.tup [V.int k,V.int k])=H14 at *;refine⟨⇑0,λt2 ht2=>?_⟩;have s15:=Same.new (o:=.lst [V.ref t1]) ht2;have q15:(upd H14 t2 (.lst [V.ref t1])) t2=some (.lst [V.ref t1]):=Zaa;generalize upd H14 t2 (.lst [V.ref t1])=H15 at *;have u15:=(s13.trans s14).trans s15;have t15:=t12.trans u15;refine⟨_,t15 _ _ he8,_,q15,Jbl (Zaj (by show xs.length+1<=1000;exact oz143 n8 p7 xl)),λt3 ht3 d2 dd2 hd2 hdd2 nd2=>?_⟩;have s16:=Same.new (o:=.lst (xs++[V.ref t1])) ht3;have q16:(upd H15 t3 (.lst (xs++[V.ref t1]))) t3=some (.lst (xs++[V.ref t1])):=Zaa;generalize upd H15 t3 (.lst (xs++[V.ref t1]))=H16 at *;have pr16:Prs H16 (xs++[V.ref t1]) (ps++[(k,k)]):=((pr8.same t15).same s16).add (q:=(k,k)) (s16 _ _ (s15 _ _ q14));refine Zji (B:=ps++[(k,k)]) hd2 hdd2 nd2 q16 (by rw[Jak];show xs.length+1<=9;exact oz132 n8 p7 xl) pr16 L.ip n1 n8 λH17 s17 dw17=>⟨rfl,?_⟩
   have u17:=u15.trans (s16.trans s17);have t17:=t12.trans u17;refine Zlr g2 d2 v p n _ ⟨rfl,⟨dg2,((s14.trans s15).trans (s16.trans s17)) _ _ hg13⟩,hp,hv.same t17,dw17,L.ip,n1,n8,.inr ⟨ps,k,rfl,nk,L,λx' dx' g' d' z' l' H18 s18 hx18 hz18=>?_⟩⟩;have u18:=u17.trans s18;have t18:=t12.trans u18;have dw18:=dw12.same u18;subst hX;walk_at "wp";have ol:=Zba (n:Nat) k;have ly:=lay1 n n8 k.toNat (Zpx k0 k1);rw[Jcl k0] at ly;refine Za9 S dx' _ ⟨hx18,T.cl_Standing,T.nSs,_,Zku ..,z',rfl,Zas (n:Nat) k,SqL.of hz18,λe=>by rw[e] at ol;simp at ol;omega,λm hm hmx=>Zgd (by rw[Ja5 (by have:=hmx 1 ly.2.1;omega)];decide) ?_⟩;intro g3 dg3 hg3 hdg3 ndg3;have fg3:(upd H18 dg3 (.own g3)) g3=none:=by rw[Zag ndg3.symm];exact hg3
   have sg3:Same H18 (upd (upd H18 dg3 (.own g3)) g3 (.ins G dg3 [])):=(Same.new hdg3).trans (Same.new fg3);refine Za9 g3 dg3 p ⟨rfl,Zaa,hp,λH19 ex19 hg19=>⟨rfl,?_⟩⟩;have s19:Same H18 H19:=Same.thru sg3 hg3 ex19;refine Zlr g3 d v p n ps ⟨rfl,⟨dg3,hg19⟩,hp,(hv.same t18).same s19,dw18.same s19,ip,n1,n8,nbad,λH20 s20=>⟨true,rfl,Zgd ⇑0 ?_⟩⟩;have u20:=s19.trans s20;have t20:=t18.trans u20;refine Za3 (dw18.same u20) λlp ys e911 y9 pry=>?_;obtain⟨dd',hd',hlp'⟩:=e911;refine Za9 C dd' _ ⟨hd',T.cl_Drawing,T.nA,_,Zay _ lp,lp,rfl,_,SqL.of hlp',_,SqL.of (t20 _ _ he8),.inr ⟨_,prs_eq pry (pr8.same t20),Zgd (by rw[all_rep];decide) ?_⟩⟩;subst hD2;exact xI9_1 _ _ _ _ _ _ _ _ _ ⟨rfl,s8.trans t20⟩
  .intro σ H2 e92;refine xE9_2 e92 λv1 v2 v3 v4 v5 v6 v7 v8 v9 e912 s2=>?_;clear e92;obtain rfl:=e912;subst hXX;exact q H2
end
end Pf
set_option maxHeartbeats 4000000
namespace Pf
open PySem L2 PyProof.Rows
open PySem.W (nsIn codeIn keepIn fnOf findIn isFn mg_of mg_none_of plainGet hasDictIn plainOver makesIn)
theorem ex1 {us:List Value}(hl:us.length=1):∃ a0,us=[a0]:=match us,hl with|[a0],_=>⟨a0,rfl⟩
theorem ex2 {us:List Value}(hl:us.length=2):∃ a0 a1,us=[a0,a1]:=match us,hl with|[a0,a1],_=>⟨a0,a1,rfl⟩
theorem ex3 {us:List Value}(hl:us.length=3):∃ a0 a1 a2,us=[a0,a1,a2]:=match us,hl with|[a0,a1,a2],_=>⟨a0,a1,a2,rfl⟩
theorem ex4 {us:List Value}(hl:us.length=4):∃ a0 a1 a2 a3,us=[a0,a1,a2,a3]:=match us,hl with|[a0,a1,a2,a3],_=>⟨a0,a1,a2,a3,rfl⟩
theorem ex5 {us:List Value}(hl:us.length=5):∃ a0 a1 a2 a3 a4,us=[a0,a1,a2,a3,a4]:=match us,hl with|[a0,a1,a2,a3,a4],_=>⟨a0,a1,a2,a3,a4,rfl⟩
def Gf (K:Frag)(x:Str)(st:Stmt)(f:Addr):Prop:=nsIn K mainGlobals x=some (some (.ref f))/\∃ fd,Fun K x x st f fd
theorem all_mk {l:PySem.W.OpenLaw}{w:World}{K:Frag}{h:Heap}{mg:Str->Option Value}{fa C Cg Cs:Addr}{t1 t2 t3 t4:Tok}(X:K.In h)(G:h.Ns mainGlobals mg)(hfa:mg "law" = some (.ref fa)){f1 f2 f3 f4 f5 f6 f7 f8 f9 f10 f11 f12 f13 f14 f15 f16 f17 f18 f19 f20 f21 f22 f23 f24 f25 f26 f27 f28 f29 f30 f31 f32 f33 f34 f35 f36 f37 f38 f39 f40 f41 f42 f43 f44 f45 f46 f47 f48 f49 f50 f51 f52 f53 f54 f55 f56 f57 f58 f59 f60 f61 f62 f63 f64 f65 f66 f67 f68:Addr}{od59 an59 od66 an66:Option Addr}{sl59 sl66:Array (Option Value)}{oc59 kV59 dc59 pm59 ct59 cd59 oc66 kV66 dc66 pm66 ct66 cd66:Value}{D66:Addr}{doc66:Value}{dod66:Option Addr}{dosl66:Array (Option Value)}{dn66:Nat}{dt66:Tok}{x_LimbError x_NoGround x_NoNumber x_NoTable x_NoDrawing x_NoKind x_NoStanding x_NoChange x_NoMirror x_NoRoot x_NoText x_NoRow x_NoName:Addr}(u1:Gf K "is_whole" Zfw f1)(u2:Gf K "makes_drawing" Zdl f2)(u3:Gf K "is_arrow" Zhm f3)(u4:Gf K "hanging" Zja f4)(u5:Gf K "kind_of" Zi6 f5)(u6:Gf K "arms" Zrk f6)(u7:Gf K "forked_kind" Zep f7)(u8:Gf K "two_sided" Zgg f8)(u9:Gf K "worth" Zni f9)(u10:Gf K "is_good" Zi8 f10)(u11:Gf K "barely_not_good" Zco f11)(u12:Gf K "raised" Zkw f12)(u13:Gf K "low_row" Zi3 f13)(u14:Gf K "is_table" Zhk f14)(u15:Gf K "is_row" Zkz f15)(u16:Gf K "noughts" Zg1 f16)(u17:Gf K "turned_about" Zd2 f17)(u18:Gf K "one_over_another" Zcc f18)(u19:Gf K "swept" Znj f19)(u20:Gf K "reduced_rows" Zd4 f20)(u21:Gf K "to_nought" Zgh f21)(u22:Gf K "left_beside" Zel f22)(u23:Gf K "are_sizes" Zgm f23)(u24:Gf K "is_table_of" Zen f24)(u25:Gf K "are_tables" Zfk f25)(u26:Gf K "tables_at" Zgi f26)(u27:Gf K "tables_out" Zfh f27)(u28:Gf K "rows_apart" Zfi f28)(u29:Gf K "columns_apart" Zdn f29)(u30:Gf K "turned_with" Zek f30)(u31:Gf K "turned_out" Zfg f31)(u32:Gf K "wells_in_turn" Zdj f32)(u33:Gf K "single" Zkv f33)(u34:Gf K "mirrored" Zhg f34)(u35:Gf K "is_root" Zi7 f35)(u36:Gf K "part_of" Zi2 f36)(u37:Gf K "table_of_number" Zcn f37)(u38:Gf K "member_tables" Zdk f38)(u39:Gf K "member" Zkx f39)(u40:Gf K "common_divisor" Zc2 f40)(u41:Gf K "is_prime" Zhl f41)(u42:Gf K "tells_ground" Zd3 f42)(u43:Gf K "fraction" Zhn f43)(u44:Gf K "inverse" Zi9 f44)(u45:Gf K "rest_of" Zi1 f45)(u46:Gf K "is_fraction" Zeo f46)(u47:Gf K "_law_cell" Zhj f47)(u48:Gf K "_law_bag" Zi5 f48)(u49:Gf K "_law_draw" Zhi f49)(u50:Gf K "_law_order" Zgj f50)(u51:Gf K "_law_rest_edges" Zc1 f51)(u52:Gf K "_law_bad_edges" Zdm f52)(u53:Gf K "_law_edges" Zgk f53)(u54:Gf K "_law_drawn" Zgl f54)(u55:Gf K "_law_low" Zi4 f55)(u56:Gf K "_law_number" Zfj f56)(u57:Gf K "_law_word" Zhh f57)(u58:Gf K "_law_refused" Zem f58)(a59:nsIn K mainGlobals "law" = some (some (.ref f59)))(l59:K.lookup f59=some ⟨oc59,od59,.func (fnOf "law" "law" (Zd7 Zky) (Zci Zky) (Zae Zky) .none kV59 dc59 pm59 an59 cd59 ct59),sl59⟩)(c59:codeIn K cd59 "law" = true)(k59:keepIn K (.ref f59)=true)(aC:nsIn K mainGlobals "Drawing" = some (some (.ref C)))(a60:findIn K (.ref C) "__init__" = some (some (.ref f60)))(i60:isFn K (.ref f60)=true)(u60:∃ fd,Fun K "__init__" "Drawing.__init__" Zd5 f60 fd)(a61:findIn K (.ref C) "pieces" = some (some (.ref f61)))(i61:isFn K (.ref f61)=true)(u61:∃ fd,Fun K "pieces" "Drawing.pieces" Zc4 f61 fd)(a62:findIn K (.ref C) "is_spring" = some (some (.ref f62)))(i62:isFn K (.ref f62)=true)(u62:∃ fd,Fun K "is_spring" "Drawing.is_spring" Zb6 f62 fd)(a63:findIn K (.ref C) "turned" = some (some (.ref f63)))(i63:isFn K (.ref f63)=true)(u63:∃ fd,Fun K "turned" "Drawing.turned" Zc3 f63 fd)(a64:findIn K (.ref C) "kinds" = some (some (.ref f64)))(i64:isFn K (.ref f64)=true)(u64:∃ fd,Fun K "kinds" "Drawing.kinds" Zdp f64 fd)(pg:plainGet K C Str.empty=true)(hd:hasDictIn K C=true)(po:plainOver K C=true)(sa:findIn K (.ref C) "__setattr__" = some (some (.builtin "object.__setattr__")))(mk:makesIn K C=true)(kc:keepIn K (.ref C)=true)(nM:findIn K (.ref C) "many" = some none)(nA:findIn K (.ref C) "arrows" = some none)(aCg:nsIn K mainGlobals "Ground" = some (some (.ref Cg)))(a65:findIn K (.ref Cg) "__init__" = some (some (.ref f65)))(i65:isFn K (.ref f65)=true)(u65:∃ fd,Fun K "__init__" "Ground.__init__" Zeq f65 fd)(a66:findIn K (.ref Cg) "number" = some (some (.ref f66)))(i66:isFn K (.ref f66)=true)(l66:K.lookup f66=some ⟨oc66,od66,.func (fnOf "number" "Ground.number" (Zd7 Zaw) (Zci Zaw) (Zae Zaw) (.ref D66) kV66 dc66 pm66 an66 cd66 ct66),sl66⟩)(dl66:K.lookup D66=some ⟨doc66,dod66,.seq #[.int 1 dt66] dn66,dosl66⟩)(c66:codeIn K cd66 "Ground.number" = true)(k66:keepIn K (.ref f66)=true)(a67:findIn K (.ref Cg) "is_number" = some (some (.ref f67)))(i67:isFn K (.ref f67)=true)(u67:∃ fd,Fun K "is_number" "Ground.is_number" Zcd f67 fd)(pg_Cg:plainGet K Cg Str.empty=true)(hd_Cg:hasDictIn K Cg=true)(po_Cg:plainOver K Cg=true)(sa_Cg:findIn K (.ref Cg) "__setattr__" = some (some (.builtin "object.__setattr__")))(mk_Cg:makesIn K Cg=true)(kc_Cg:keepIn K (.ref Cg)=true)(nP:findIn K (.ref Cg) "prime" = some none)(aCs:nsIn K mainGlobals "Standing" = some (some (.ref Cs)))(a68:findIn K (.ref Cs) "__init__" = some (some (.ref f68)))(i68:isFn K (.ref f68)=true)(u68:∃ fd,Fun K "__init__" "Standing.__init__" Zdo f68 fd)(pg_Cs:plainGet K Cs Str.empty=true)(hd_Cs:hasDictIn K Cs=true)(po_Cs:plainOver K Cs=true)(sa_Cs:findIn K (.ref Cs) "__setattr__" = some (some (.builtin "object.__setattr__")))(mk_Cs:makesIn K Cs=true)(kc_Cs:keepIn K (.ref Cs)=true)(nSg:findIn K (.ref Cs) "ground" = some none)(nSd:findIn K (.ref Cs) "drawing" = some none)(nSs:findIn K (.ref Cs) "sizes" = some none)(nSt:findIn K (.ref Cs) "tables" = some none)(g1:nsIn K mainGlobals "MOST_POINTS" = some (some (.int 8 t1)))(g2:nsIn K mainGlobals "MOST_ARROWS" = some (some (.int 9 t2)))(g3:nsIn K mainGlobals "LARGEST_PRIME" = some (some (.int 97 t3)))(g4:nsIn K mainGlobals "LONG" = some (some (.int 4000 t4)))(z0:nsIn K mainGlobals "len" = some none)(z1:nsIn K mainGlobals "range" = some none)(z2:nsIn K mainGlobals "list" = some none)(z3:nsIn K mainGlobals "min" = some none)(z4:nsIn K mainGlobals "max" = some none)(z5:nsIn K mainGlobals "int" = some none)(z6:nsIn K mainGlobals "bool" = some none)(z7:nsIn K mainGlobals "tuple" = some none)(z8:nsIn K mainGlobals "all" = some none)(z9:nsIn K mainGlobals "isinstance" = some none)(z10:nsIn K mainGlobals "abs" = some none)(z11:nsIn K mainGlobals "zip" = some none)(z12:nsIn K mainGlobals "enumerate" = some none)(z13:nsIn K mainGlobals "reversed" = some none)(z14:nsIn K mainGlobals "sum" = some none)(z15:nsIn K mainGlobals "sorted" = some none)(z16:nsIn K mainGlobals "ValueError" = some none)(a_LimbError:nsIn K mainGlobals "LimbError" = some (some (.ref x_LimbError)))(a_NoGround:nsIn K mainGlobals "NoGround" = some (some (.ref x_NoGround)))(a_NoNumber:nsIn K mainGlobals "NoNumber" = some (some (.ref x_NoNumber)))(a_NoTable:nsIn K mainGlobals "NoTable" = some (some (.ref x_NoTable)))(a_NoDrawing:nsIn K mainGlobals "NoDrawing" = some (some (.ref x_NoDrawing)))(a_NoKind:nsIn K mainGlobals "NoKind" = some (some (.ref x_NoKind)))(a_NoStanding:nsIn K mainGlobals "NoStanding" = some (some (.ref x_NoStanding)))(a_NoChange:nsIn K mainGlobals "NoChange" = some (some (.ref x_NoChange)))(a_NoMirror:nsIn K mainGlobals "NoMirror" = some (some (.ref x_NoMirror)))(a_NoRoot:nsIn K mainGlobals "NoRoot" = some (some (.ref x_NoRoot)))(a_NoText:nsIn K mainGlobals "NoText" = some (some (.ref x_NoText)))(a_NoRow:nsIn K mainGlobals "NoRow" = some (some (.ref x_NoRow)))(a_NoName:nsIn K mainGlobals "NoName" = some (some (.ref x_NoName)))(e_LimbError:PySem.W.excIn K x_LimbError [.type "ValueError",.type "Exception",.type "BaseException",.type "object"] "ValueError.__new__" = true)(e_NoKind:PySem.W.excIn K x_NoKind [.type "ValueError",.type "Exception",.type "BaseException",.type "object"] "ValueError.__new__" = true)(m_R:PySem.W.mroIn K x_NoKind (.ref x_LimbError)=some true)(n_R:x_NoKind≠x_LimbError)(y_ga:findIn K (.ref x_NoKind) "__getattribute__" = some (some (.builtin "BaseException.__getattribute__")))(y_gt:findIn K (.ref x_NoKind) "__getattr__" = some none)(y_cl:findIn K (.ref x_NoKind) "__class__" = some (some (.builtin "object.__class__")))(y_so:PySem.W.mroIn K x_NoKind (.type "object")=some true)(y_sb:PySem.W.mroIn K x_NoKind (.type "BaseException")=some true)(y_t1:PySem.W.kitAny K (.ref x_NoKind) [.ref x_NoGround,.ref x_NoNumber,.ref x_NoTable,.ref x_NoDrawing,.ref x_NoStanding,.ref x_NoChange,.ref x_NoMirror]=some false)(y_t2:PySem.W.kitAny K (.ref x_NoKind) [.ref x_NoRoot,.ref x_NoText,.ref x_NoRow,.ref x_NoName]=some false)(y_v:PySem.W.kitOne K (.ref x_NoKind) (.type "ValueError")=some true):
  ∃ fd:FuncData,(∀ (s:Shared) (v:Value),BindsTo s fd ⟨[v],[]⟩ [("_law_script",v)])/\∀ base:Heap,K.In base->base.Ns mainGlobals mg->FnOk l.prog w K mg base CX0 20 fa fd ["_law_script"] (Zuz K):=by
 have e:=hfa.symm.trans (mg_of X G a59);cases e;have T:Txt K mg C Cg Cs:=⟨⟨pg,hd,po,sa⟩,nM,nA,⟨pg_Cg,hd_Cg,po_Cg,sa_Cg⟩,nP,⟨pg_Cs,hd_Cs,po_Cs,sa_Cs⟩,nSg,nSd,nSs,nSt,mg_none_of X G z0,mg_none_of X G z1,mg_none_of X G z2,mg_none_of X G z3,mg_none_of X G z4,mg_none_of X G z5,mg_none_of X G z6,mg_none_of X G z7,mg_none_of X G z8,mg_none_of X G z9,mg_none_of X G z10,mg_none_of X G z11,mg_none_of X G z12,mg_none_of X G z13,mg_none_of X G z14,mg_none_of X G z15,mg_none_of X G z16,⟨t1,mg_of X G g1⟩,⟨t2,mg_of X G g2⟩,⟨t3,mg_of X G g3⟩,⟨t4,mg_of X G g4⟩⟩
 obtain⟨a1,_,F1⟩:=u1;have b1:=F1.binds (ps:=["thing"]) λ_ _ _ _ _ _ us hl=>by obtain⟨_,rfl⟩:=ex1 hl;rfl
 obtain⟨a2,_,F2⟩:=u2;have b2:=F2.binds (ps:=["many","arrows"]) λ_ _ _ _ _ _ us hl=>by obtain⟨_,_,rfl⟩:=ex2 hl;rfl
 obtain⟨a3,_,F3⟩:=u3;have b3:=F3.binds (ps:=["many","thing"]) λ_ _ _ _ _ _ us hl=>by obtain⟨_,_,rfl⟩:=ex2 hl;rfl
 obtain⟨a4,_,F4⟩:=u4;have b4:=F4.binds (ps:=["points","arrows"]) λ_ _ _ _ _ _ us hl=>by obtain⟨_,_,rfl⟩:=ex2 hl;rfl
 obtain⟨a5,_,F5⟩:=u5;have b5:=F5.binds (ps:=["points","arrows"]) λ_ _ _ _ _ _ us hl=>by obtain⟨_,_,rfl⟩:=ex2 hl;rfl
 obtain⟨a6,_,F6⟩:=u6;have b6:=F6.binds (ps:=["points","arrows","fork"]) λ_ _ _ _ _ _ us hl=>by obtain⟨_,_,_,rfl⟩:=ex3 hl;rfl
 obtain⟨a7,_,F7⟩:=u7;have b7:=F7.binds (ps:=["many","lengths"]) λ_ _ _ _ _ _ us hl=>by obtain⟨_,_,rfl⟩:=ex2 hl;rfl
 obtain⟨a8,_,F8⟩:=u8;have b8:=F8.binds (ps:=["drawing","one","other"]) λ_ _ _ _ _ _ us hl=>by obtain⟨_,_,_,rfl⟩:=ex3 hl;rfl
 obtain⟨a9,_,F9⟩:=u9;have b9:=F9.binds (ps:=["drawing","row"]) λ_ _ _ _ _ _ us hl=>by obtain⟨_,_,rfl⟩:=ex2 hl;rfl
 obtain⟨a10,_,F10⟩:=u10;have b10:=F10.binds (ps:=["drawing"]) λ_ _ _ _ _ _ us hl=>by obtain⟨_,rfl⟩:=ex1 hl;rfl
 obtain⟨a11,_,F11⟩:=u11;have b11:=F11.binds (ps:=["drawing"]) λ_ _ _ _ _ _ us hl=>by obtain⟨_,rfl⟩:=ex1 hl;rfl
 obtain⟨a12,_,F12⟩:=u12;have b12:=F12.binds (ps:=["row","point"]) λ_ _ _ _ _ _ us hl=>by obtain⟨_,_,rfl⟩:=ex2 hl;rfl
 obtain⟨a13,_,F13⟩:=u13;have b13:=F13.binds (ps:=["drawing"]) λ_ _ _ _ _ _ us hl=>by obtain⟨_,rfl⟩:=ex1 hl;rfl
 obtain⟨a14,_,F14⟩:=u14;have b14:=F14.binds (ps:=["ground","thing"]) λ_ _ _ _ _ _ us hl=>by obtain⟨_,_,rfl⟩:=ex2 hl;rfl
 obtain⟨a15,_,F15⟩:=u15;have b15:=F15.binds (ps:=["ground","wide","thing"]) λ_ _ _ _ _ _ us hl=>by obtain⟨_,_,_,rfl⟩:=ex3 hl;rfl
 obtain⟨a16,_,F16⟩:=u16;have b16:=F16.binds (ps:=["ground","high","wide"]) λ_ _ _ _ _ _ us hl=>by obtain⟨_,_,_,rfl⟩:=ex3 hl;rfl
 obtain⟨a17,_,F17⟩:=u17;have b17:=F17.binds (ps:=["table"]) λ_ _ _ _ _ _ us hl=>by obtain⟨_,rfl⟩:=ex1 hl;rfl
 obtain⟨a18,_,F18⟩:=u18;have b18:=F18.binds (ps:=["ground","wide","tables"]) λ_ _ _ _ _ _ us hl=>by obtain⟨_,_,_,rfl⟩:=ex3 hl;rfl
 obtain⟨a19,_,F19⟩:=u19;have b19:=F19.binds (ps:=["ground","rows","wide"]) λ_ _ _ _ _ _ us hl=>by obtain⟨_,_,_,rfl⟩:=ex3 hl;rfl
 obtain⟨a20,_,F20⟩:=u20;have b20:=F20.binds (ps:=["ground","rows","wide"]) λ_ _ _ _ _ _ us hl=>by obtain⟨_,_,_,rfl⟩:=ex3 hl;rfl
 obtain⟨a21,_,F21⟩:=u21;have b21:=F21.binds (ps:=["ground","table"]) λ_ _ _ _ _ _ us hl=>by obtain⟨_,_,rfl⟩:=ex2 hl;rfl
 obtain⟨a22,_,F22⟩:=u22;have b22:=F22.binds (ps:=["ground","table"]) λ_ _ _ _ _ _ us hl=>by obtain⟨_,_,rfl⟩:=ex2 hl;rfl
 obtain⟨a23,_,F23⟩:=u23;have b23:=F23.binds (ps:=["drawing","thing"]) λ_ _ _ _ _ _ us hl=>by obtain⟨_,_,rfl⟩:=ex2 hl;rfl
 obtain⟨a24,_,F24⟩:=u24;have b24:=F24.binds (ps:=["ground","high","wide","thing"]) λ_ _ _ _ _ _ us hl=>by obtain⟨_,_,_,_,rfl⟩:=ex4 hl;rfl
 obtain⟨a25,_,F25⟩:=u25;have b25:=F25.binds (ps:=["ground","drawing","sizes","thing"]) λ_ _ _ _ _ _ us hl=>by obtain⟨_,_,_,_,rfl⟩:=ex4 hl;rfl
 obtain⟨a26,_,F26⟩:=u26;have b26:=F26.binds (ps:=["standing","point"]) λ_ _ _ _ _ _ us hl=>by obtain⟨_,_,rfl⟩:=ex2 hl;rfl
 obtain⟨a27,_,F27⟩:=u27;have b27:=F27.binds (ps:=["standing","point"]) λ_ _ _ _ _ _ us hl=>by obtain⟨_,_,rfl⟩:=ex2 hl;rfl
 obtain⟨a28,_,F28⟩:=u28;have b28:=F28.binds (ps:=["table","heights"]) λ_ _ _ _ _ _ us hl=>by obtain⟨_,_,rfl⟩:=ex2 hl;rfl
 obtain⟨a29,_,F29⟩:=u29;have b29:=F29.binds (ps:=["table","widths"]) λ_ _ _ _ _ _ us hl=>by obtain⟨_,_,rfl⟩:=ex2 hl;rfl
 obtain⟨a30,_,F30⟩:=u30;have b30:=F30.binds (ps:=["standing","point","size","parts"]) λ_ _ _ _ _ _ us hl=>by obtain⟨_,_,_,_,rfl⟩:=ex4 hl;rfl
 obtain⟨a31,_,F31⟩:=u31;have b31:=F31.binds (ps:=["standing","point"]) λ_ _ _ _ _ _ us hl=>by obtain⟨_,_,rfl⟩:=ex2 hl;rfl
 obtain⟨a32,_,F32⟩:=u32;have b32:=F32.binds (ps:=["drawing"]) λ_ _ _ _ _ _ us hl=>by obtain⟨_,rfl⟩:=ex1 hl;rfl
 obtain⟨a33,_,F33⟩:=u33;have b33:=F33.binds (ps:=["ground","drawing","point"]) λ_ _ _ _ _ _ us hl=>by obtain⟨_,_,_,rfl⟩:=ex3 hl;rfl
 obtain⟨a34,_,F34⟩:=u34;have b34:=F34.binds (ps:=["drawing","point","row"]) λ_ _ _ _ _ _ us hl=>by obtain⟨_,_,_,rfl⟩:=ex3 hl;rfl
 obtain⟨a35,_,F35⟩:=u35;have b35:=F35.binds (ps:=["drawing","thing"]) λ_ _ _ _ _ _ us hl=>by obtain⟨_,_,rfl⟩:=ex2 hl;rfl
 obtain⟨a36,_,F36⟩:=u36;have b36:=F36.binds (ps:=["ground","drawing","root"]) λ_ _ _ _ _ _ us hl=>by obtain⟨_,_,_,rfl⟩:=ex3 hl;rfl
 obtain⟨a37,_,F37⟩:=u37;have b37:=F37.binds (ps:=["ground","high","wide","number"]) λ_ _ _ _ _ _ us hl=>by obtain⟨_,_,_,_,rfl⟩:=ex4 hl;rfl
 obtain⟨a38,_,F38⟩:=u38;have b38:=F38.binds (ps:=["ground","bare","sizes","number"]) λ_ _ _ _ _ _ us hl=>by obtain⟨_,_,_,_,rfl⟩:=ex4 hl;rfl
 obtain⟨a39,_,F39⟩:=u39;have b39:=F39.binds (ps:=["ground","drawing","number"]) λ_ _ _ _ _ _ us hl=>by obtain⟨_,_,_,rfl⟩:=ex3 hl;rfl
 obtain⟨a40,_,F40⟩:=u40;have b40:=F40.binds (ps:=["one","other"]) λ_ _ _ _ _ _ us hl=>by obtain⟨_,_,rfl⟩:=ex2 hl;rfl
 obtain⟨a41,_,F41⟩:=u41;have b41:=F41.binds (ps:=["number"]) λ_ _ _ _ _ _ us hl=>by obtain⟨_,rfl⟩:=ex1 hl;rfl
 obtain⟨a42,_,F42⟩:=u42;have b42:=F42.binds (ps:=["thing"]) λ_ _ _ _ _ _ us hl=>by obtain⟨_,rfl⟩:=ex1 hl;rfl
 obtain⟨a43,_,F43⟩:=u43;have b43:=F43.binds (ps:=["top","bottom"]) λ_ _ _ _ _ _ us hl=>by obtain⟨_,_,rfl⟩:=ex2 hl;rfl
 obtain⟨a44,_,F44⟩:=u44;have b44:=F44.binds (ps:=["rest","prime"]) λ_ _ _ _ _ _ us hl=>by obtain⟨_,_,rfl⟩:=ex2 hl;rfl
 obtain⟨a45,_,F45⟩:=u45;have b45:=F45.binds (ps:=["top","bottom","prime"]) λ_ _ _ _ _ _ us hl=>by obtain⟨_,_,_,rfl⟩:=ex3 hl;rfl
 obtain⟨a46,_,F46⟩:=u46;have b46:=F46.binds (ps:=["thing"]) λ_ _ _ _ _ _ us hl=>by obtain⟨_,rfl⟩:=ex1 hl;rfl
 obtain⟨a47,_,F47⟩:=u47;have b47:=F47.binds (ps:=["_law_script","_law_k"]) λ_ _ _ _ _ _ us hl=>by obtain⟨_,_,rfl⟩:=ex2 hl;rfl
 obtain⟨a48,_,F48⟩:=u48;have b48:=F48.binds (ps:=["_law_cell_here"]) λ_ _ _ _ _ _ us hl=>by obtain⟨_,rfl⟩:=ex1 hl;rfl
 obtain⟨a49,_,F49⟩:=u49;have b49:=F49.binds (ps:=["_law_bag_here","_law_many"]) λ_ _ _ _ _ _ us hl=>by obtain⟨_,_,rfl⟩:=ex2 hl;rfl
 obtain⟨a50,_,F50⟩:=u50;have b50:=F50.binds (ps:=["_law_bag_here","_law_many"]) λ_ _ _ _ _ _ us hl=>by obtain⟨_,_,rfl⟩:=ex2 hl;rfl
 obtain⟨a51,_,F51⟩:=u51;have b51:=F51.binds (ps:=["_law_bag_here","_law_way"]) λ_ _ _ _ _ _ us hl=>by obtain⟨_,_,rfl⟩:=ex2 hl;rfl
 obtain⟨a52,_,F52⟩:=u52;have b52:=F52.binds (ps:=["_law_bag_here"]) λ_ _ _ _ _ _ us hl=>by obtain⟨_,rfl⟩:=ex1 hl;rfl
 obtain⟨a53,_,F53⟩:=u53;have b53:=F53.binds (ps:=["_law_bag_here","_law_way"]) λ_ _ _ _ _ _ us hl=>by obtain⟨_,_,rfl⟩:=ex2 hl;rfl
 obtain⟨a54,_,F54⟩:=u54;have b54:=F54.binds (ps:=["_law_bag_here","_law_way"]) λ_ _ _ _ _ _ us hl=>by obtain⟨_,_,rfl⟩:=ex2 hl;rfl
 obtain⟨a55,_,F55⟩:=u55;have b55:=F55.binds (ps:=["_law_top","_law_bottom"]) λ_ _ _ _ _ _ us hl=>by obtain⟨_,_,rfl⟩:=ex2 hl;rfl
 obtain⟨a56,_,F56⟩:=u56;have b56:=F56.binds (ps:=["_law_bag_here","_law_p"]) λ_ _ _ _ _ _ us hl=>by obtain⟨_,_,rfl⟩:=ex2 hl;rfl
 obtain⟨a57,_,F57⟩:=u57;have b57:=F57.binds (ps:=["_law_e"]) λ_ _ _ _ _ _ us hl=>by obtain⟨_,rfl⟩:=ex1 hl;rfl
 obtain⟨a58,_,F58⟩:=u58;have b58:=F58.binds (ps:=["_law_ground","_law_drawing","_law_number_here"]) λ_ _ _ _ _ _ us hl=>by obtain⟨_,_,_,rfl⟩:=ex3 hl;rfl
 have F59:=fun_mk (st:=Zky) l59 c59 k59;obtain⟨_,F60⟩:=u60;have b60:=F60.binds (ps:=["self","many","arrows"]) λ_ _ _ _ _ _ us hl=>by obtain⟨_,_,_,rfl⟩:=ex3 hl;rfl
 obtain⟨_,F61⟩:=u61;have b61:=F61.binds (ps:=["self"]) λ_ _ _ _ _ _ us hl=>by obtain⟨_,rfl⟩:=ex1 hl;rfl
 obtain⟨_,F62⟩:=u62;have b62:=F62.binds (ps:=["self","point"]) λ_ _ _ _ _ _ us hl=>by obtain⟨_,_,rfl⟩:=ex2 hl;rfl
 obtain⟨_,F63⟩:=u63;have b63:=F63.binds (ps:=["self","point"]) λ_ _ _ _ _ _ us hl=>by obtain⟨_,_,rfl⟩:=ex2 hl;rfl
 obtain⟨_,F64⟩:=u64;have b64:=F64.binds (ps:=["self"]) λ_ _ _ _ _ _ us hl=>by obtain⟨_,rfl⟩:=ex1 hl;rfl
 obtain⟨_,F65⟩:=u65;have b65:=F65.binds (ps:=["self","prime"]) λ_ _ _ _ _ _ us hl=>by obtain⟨_,_,rfl⟩:=ex2 hl;rfl
 have F66:FunD K "number" "Ground.number" Zaw f66 _ D66:=⟨⟨oc66,od66,kV66,dc66,pm66,an66,cd66,ct66,sl66,rfl,l66,c66⟩⟩
 have b66:=Zhc (fd:=fnOf "number" "Ground.number" (Zd7 Zaw) (Zci Zaw) (Zae Zaw) (.ref D66) kV66 dc66 pm66 an66 cd66 ct66) (ps:=["self","top","bottom"]) (ds:=[.int 1 dt66]) dl66 rfl λus hl=>match us,(show us.length=2 by simpa using hl) with|[_,_],_=>⟨_,rfl,rfl⟩
 have bF66:=Zhc (fd:=fnOf "number" "Ground.number" (Zd7 Zaw) (Zci Zaw) (Zae Zaw) (.ref D66) kV66 dc66 pm66 an66 cd66 ct66) (ps:=["self","top","bottom"]) (ds:=[]) dl66 rfl λus hl=>match us,(show us.length=3 by simpa using hl) with|[_,_,_],_=>⟨_,rfl,rfl⟩
 obtain⟨_,F67⟩:=u67;have b67:=F67.binds (ps:=["self","thing"]) λ_ _ _ _ _ _ us hl=>by obtain⟨_,_,rfl⟩:=ex2 hl;rfl
 obtain⟨_,F68⟩:=u68;have b68:=F68.binds (ps:=["self","ground","drawing","sizes","tables"]) λ_ _ _ _ _ _ us hl=>by obtain⟨_,_,_,_,_,rfl⟩:=ex5 hl;rfl
 refine⟨fnOf "law" "law" (Zd7 Zky) (Zci Zky) (Zae Zky) .none kV59 dc59 pm59 an59 cd59 ct59,λs v=>.of_eq rfl,λbase KB _=>?_⟩;have XT:Xt K mg base ⟨x_LimbError,x_NoGround,x_NoNumber,x_NoTable,x_NoDrawing,x_NoKind,x_NoStanding,x_NoChange,x_NoMirror,x_NoRoot,x_NoText,x_NoRow,x_NoName⟩:=⟨mg_of X G a_LimbError,mg_of X G a_NoGround,mg_of X G a_NoNumber,mg_of X G a_NoTable,mg_of X G a_NoDrawing,mg_of X G a_NoKind,mg_of X G a_NoStanding,mg_of X G a_NoChange,mg_of X G a_NoMirror,mg_of X G a_NoRoot,mg_of X G a_NoText,mg_of X G a_NoRow,mg_of X G a_NoName,Zsa KB (mg_of X G a_LimbError) e_LimbError,Zsa KB (mg_of X G a_NoKind) e_NoKind,Zr9 KB e_NoKind m_R n_R,⟨y_ga,y_gt,y_cl,y_so,y_sb⟩,Zqf y_so,y_t1,y_t2,y_v⟩
 have C1:Cal l.prog w K mg base "is_whole" 1 Zhe:=⟨_,_,_,Zvq F1 T ,mg_of X G a1,F1.kp,b1⟩
 have C1A:Cal l.prog w K mg base "is_whole" 1 Zgs:=⟨_,_,_,Zsh F1 T ,mg_of X G a1,F1.kp,b1⟩
 have C3:Cal l.prog w K mg base "is_arrow" 2 Znh:=⟨_,_,_,Zv3 F3 T C1,mg_of X G a3,F3.kp,b3⟩
 have C2:Cal l.prog w K mg base "makes_drawing" 3 Zne:=⟨_,_,_,Zvx F2 T C1 C3,mg_of X G a2,F2.kp,b2⟩
 have C60:CalI l.prog w K mg base "Drawing" C 4 (Zio C):=⟨_,_,_,ok_init F60 T C2,⟨mk,a60,i60,kc⟩,mg_of X G aC,b60⟩
 have C40:Cal l.prog w K mg base "common_divisor" 1 spCd:=⟨_,_,_,ok_cd F40 T ,mg_of X G a40,F40.kp,b40⟩
 have C41:Cal l.prog w K mg base "is_prime" 1 Znc:=⟨_,_,_,Zvv F41 T ,mg_of X G a41,F41.kp,b41⟩
 have C42:Cal l.prog w K mg base "tells_ground" 2 Zna:=⟨_,_,_,Zvr F42 T C1 C41,mg_of X G a42,F42.kp,b42⟩
 have C43:Cal l.prog w K mg base "fraction" 2 Zip:=⟨_,_,_,ok_frac F43 T C40,mg_of X G a43,F43.kp,b43⟩
 have C44:Cal l.prog w K mg base "inverse" 1 Zrf:=⟨_,_,_,ok_inv F44 T ,mg_of X G a44,F44.kp,b44⟩
 have C45:Cal l.prog w K mg base "rest_of" 2 Zkq:=⟨_,_,_,Zsl F45 T C44,mg_of X G a45,F45.kp,b45⟩
 have C46:Cal l.prog w K mg base "is_fraction" 2 spFr:=⟨_,_,_,ok_fr F46 T C1A C40,mg_of X G a46,F46.kp,b46⟩
 have C65:CalI l.prog w K mg base "Ground" Cg 3 (Zng Cg):=⟨_,_,_,Zv2 F65 T C42,⟨mk_Cg,a65,i65,kc_Cg⟩,mg_of X G aCg,b65⟩
 have C66:CalD l.prog w K mg base Cg "number" 3 (Zrd Cg) [.int 1]:=⟨_,_,_,_,ok_numb F66 T C43 C45,⟨a66,i66,k66⟩,b66,.cons ⟨_,rfl⟩ .nil⟩
 have C67:CalM l.prog w K mg base Cg "is_number" 3 (spIsN Cg):=⟨_,_,_,ok_isn F67 T C1A C46,⟨a67,i67,F67.kp⟩,b67⟩
 have C15:Cal l.prog w K mg base "is_row" 4 (Zq9 Cg):=⟨_,_,_,Zv1 F15 T C67,mg_of X G a15,F15.kp,b15⟩
 have C14:Cal l.prog w K mg base "is_table" 5 (Zq8 Cg):=⟨_,_,_,Zv0 F14 T C1A C15,mg_of X G a14,F14.kp,b14⟩
 have C23:Cal l.prog w K mg base "are_sizes" 2 (spSz C):=⟨_,_,_,ok_sz F23 T C1,mg_of X G a23,F23.kp,b23⟩
 have C24:Cal l.prog w K mg base "is_table_of" 6 (spTo Cg):=⟨_,_,_,ok_to F24 T C14,mg_of X G a24,F24.kp,b24⟩
 have C25:Cal l.prog w K mg base "are_tables" 7 (spTs C Cg):=⟨_,_,_,ok_ts F25 T C24,mg_of X G a25,F25.kp,b25⟩
 have C68:CalI l.prog w K mg base "Standing" Cs 8 (spSI Cs C Cg):=⟨_,_,_,Zvt F68 T C23 C25,⟨mk_Cs,a68,i68,kc_Cs⟩,mg_of X G aCs,b68⟩
 have C4:Cal l.prog w K mg base "hanging" 1 spHg:=⟨_,_,_,ok_hg F4 T ,mg_of X G a4,F4.kp,b4⟩
 have C7:Cal l.prog w K mg base "forked_kind" 1 spFk:=⟨_,_,_,ok_fk F7 T ,mg_of X G a7,F7.kp,b7⟩
 have C6:Cal l.prog w K mg base "arms" 2 Zrh:=⟨_,_,_,ok_arms F6 T C4,mg_of X G a6,F6.kp,b6⟩
 have C5:Cal l.prog w K mg base "kind_of" 3 spKo:=⟨_,_,_,ok_ko F5 T C6 C7,mg_of X G a5,F5.kp,b5⟩
 have C61:CalM l.prog w K mg base C "pieces" 2 (Zkr C):=⟨_,_,_,ok_pcs F61 T C4,⟨a61,i61,F61.kp⟩,b61⟩
 have C64:CalM l.prog w K mg base C "kinds" 4 (Znf C):=⟨_,_,_,Zvz F64 T C61 C5,⟨a64,i64,F64.kp⟩,b64⟩
 have C10:Cal l.prog w K mg base "is_good" 5 (Zjw C):=⟨_,_,_,ok_good F10 T C64,mg_of X G a10,F10.kp,b10⟩
 have C8:Cal l.prog w K mg base "two_sided" 1 (spTwo C):=⟨_,_,_,ok_two F8 T ,mg_of X G a8,F8.kp,b8⟩
 have C9:Cal l.prog w K mg base "worth" 2 (Zko C):=⟨_,_,_,Zvp F9 T C8,mg_of X G a9,F9.kp,b9⟩
 have C11:Cal l.prog w K mg base "barely_not_good" 6 (Zoh C):=⟨_,_,_,ok_bare F11 T C10 C60,mg_of X G a11,F11.kp,b11⟩
 have C12:Cal l.prog w K mg base "raised" 1 Zgt:=⟨_,_,_,Zsn F12 T ,mg_of X G a12,F12.kp,b12⟩
 have C62:CalM l.prog w K mg base C "is_spring" 1 (Zq6 C (·.2)):=⟨_,_,_,Zsj F62 T ,⟨a62,i62,F62.kp⟩,b62⟩
 have C63:CalM l.prog w K mg base C "turned" 6 (Zih C):=⟨_,_,_,Zsi F63 T C60,⟨a63,i63,F63.kp⟩,b63⟩
 have C34:Cal l.prog w K mg base "mirrored" 1 (spMir C):=⟨_,_,_,ok_mir F34 T ,mg_of X G a34,F34.kp,b34⟩
 have C16:Cal l.prog w K mg base "noughts" 4 (Zii Cg):=⟨_,_,_,Zso F16 T C66,mg_of X G a16,F16.kp,b16⟩
 have C16Z:Cal l.prog w K mg base "noughts" 1 Zre:=⟨_,_,_,ok_nou0 F16 T ,mg_of X G a16,F16.kp,b16⟩
 have C33:Cal l.prog w K mg base "single" 10 (Zkp Cs C Cg):=⟨_,_,_,Zsk F33 T C12 C16 C68,mg_of X G a33,F33.kp,b33⟩
 have C19:Cal l.prog w K mg base "swept" 1 Znb:=⟨_,_,_,Zvs F19 T ,mg_of X G a19,F19.kp,b19⟩
 have C20:Cal l.prog w K mg base "reduced_rows" 2 Zrb:=⟨_,_,_,ok_redr F20 T C19,mg_of X G a20,F20.kp,b20⟩
 have C17:Cal l.prog w K mg base "turned_about" 1 Zog:=⟨_,_,_,ok_trn0 F17 T ,mg_of X G a17,F17.kp,b17⟩
 have C21:Cal l.prog w K mg base "to_nought" 3 spToN:=⟨_,_,_,ok_ton F21 T C20 C16Z,mg_of X G a21,F21.kp,b21⟩
 have C26:Cal l.prog w K mg base "tables_at" 1 (Zux Cs C Cg):=⟨_,_,_,ok_tat F26 T ,mg_of X G a26,F26.kp,b26⟩
 have C18:Cal l.prog w K mg base "one_over_another" 1 Znd:=⟨_,_,_,Zvw F18 T ,mg_of X G a18,F18.kp,b18⟩
 have C27:Cal l.prog w K mg base "tables_out" 2 (Zq7 Cs C Cg):=⟨_,_,_,ok_tout F27 T C18 C26,mg_of X G a27,F27.kp,b27⟩
 have C22:Cal l.prog w K mg base "left_beside" 4 spNn:=⟨_,_,_,Zvy F22 T C17 C21,mg_of X G a22,F22.kp,b22⟩
 have C28:Cal l.prog w K mg base "rows_apart" 1 Zft:=⟨_,_,_,Zsm F28 T ,mg_of X G a28,F28.kp,b28⟩
 have C29:Cal l.prog w K mg base "columns_apart" 2 Zft:=⟨_,_,_,Zsr F29 T C28 C17,mg_of X G a29,F29.kp,b29⟩
 have C30:Cal l.prog w K mg base "turned_with" 10 (spTw0 Cs C Cg):=⟨_,_,_,ok_tw0 F30 T C63 C68,mg_of X G a30,F30.kp,b30⟩
 have C32:Cal l.prog w K mg base "wells_in_turn" 1 (spWit C):=⟨_,_,_,ok_wit F32 T ,mg_of X G a32,F32.kp,b32⟩
 have C31:Cal l.prog w K mg base "turned_out" 11 (spTo0 Cs C Cg):=⟨_,_,_,ok_to0 F31 T C62 C22 C27 C29 C26 C30,mg_of X G a31,F31.kp,b31⟩
 have C35:Cal l.prog w K mg base "is_root" 3 (spRt0 C):=⟨_,_,_,ok_rt0 F35 T C23 C9,mg_of X G a35,F35.kp,b35⟩
 have C36:Cal l.prog w K mg base "part_of" 12 (spPo0 Cs C Cg):=⟨_,_,_,ok_po0 F36 T C10 C35 C32 C12 C63 C34 C33 C31,mg_of X G a36,F36.kp,b36⟩
 have C13:Cal l.prog w K mg base "low_row" 7 (spLw0 C):=⟨_,_,_,ok_lw0 F13 T C10 C11 C12 C9,mg_of X G a13,F13.kp,b13⟩
 have C37:Cal l.prog w K mg base "table_of_number" 1 spTn0:=⟨_,_,_,ok_tn0 F37 T ,mg_of X G a37,F37.kp,b37⟩
 have C38:Cal l.prog w K mg base "member_tables" 14 (spMt0 Cs C Cg):=⟨_,_,_,ok_mt0 F38 T C36 C37 C60,mg_of X G a38,F38.kp,b38⟩
 have C39:CalE l.prog w K mg base "member" 16 (Zuy Cs C Cg (⟨x_LimbError,x_NoGround,x_NoNumber,x_NoTable,x_NoDrawing,x_NoKind,x_NoStanding,x_NoChange,x_NoMirror,x_NoRoot,x_NoText,x_NoRow,x_NoName⟩:Pf.Cs).NoKind):=⟨_,_,_,ok_mem F39 T XT C10 C13 C38 C11 C16 C68,mg_of X G a39,F39.kp,b39⟩
 have C47:Cal l.prog w K mg base "_law_cell" 1 (Zrg K):=⟨_,_,_,ok_cell F47 T ,mg_of X G a47,F47.kp,b47⟩
 have C48:Cal l.prog w K mg base "_law_bag" 1 spBag:=⟨_,_,_,ok_bag F48 T ,mg_of X G a48,F48.kp,b48⟩
 have C49:Cal l.prog w K mg base "_law_draw" 1 Zf0:=⟨_,_,_,ok_draw F49 T ,mg_of X G a49,F49.kp,b49⟩
 have C50:Cal l.prog w K mg base "_law_order" 2 Zrc:=⟨_,_,_,ok_ordN F50 T C49,mg_of X G a50,F50.kp,b50⟩
 have C51:Cal l.prog w K mg base "_law_rest_edges" 2 (Zgu 4 4):=⟨_,_,_,Zvu F51 T C49,mg_of X G a51,F51.kp,b51⟩
 have C52:Cal l.prog w K mg base "_law_bad_edges" 2 (spOut way0):=⟨_,_,_,ok_bad F52 T C49,mg_of X G a52,F52.kp,b52⟩
 have C53:Cal l.prog w K mg base "_law_edges" 3 (Zgu 0 4):=⟨_,_,_,Zsp F53 T C49 C52 C51,mg_of X G a53,F53.kp,b53⟩
 have C54:Cal l.prog w K mg base "_law_drawn" 4 (Zgu 0 4):=⟨_,_,_,Zsq F54 T C49 C53 C50,mg_of X G a54,F54.kp,b54⟩
 have C55:Cal l.prog w K mg base "_law_low" 1 Zip:=⟨_,_,_,ok_low F55 T ,mg_of X G a55,F55.kp,b55⟩
 have C56:Cal l.prog w K mg base "_law_number" 3 spNum:=⟨_,_,_,ok_lnum F56 T C49 C55,mg_of X G a56,F56.kp,b56⟩
 have C57:CalH l.prog w K mg base "_law_word" 1 (Zq5 (⟨x_LimbError,x_NoGround,x_NoNumber,x_NoTable,x_NoDrawing,x_NoKind,x_NoStanding,x_NoChange,x_NoMirror,x_NoRoot,x_NoText,x_NoRow,x_NoName⟩:Pf.Cs).NoKind):=⟨_,_,_,ok_word F57 T XT,mg_of X G a57,F57.kp,b57⟩
 have C58:Cal l.prog w K mg base "_law_refused" 18 (Zra C Cg):=⟨_,_,_,ok_refM F58 T XT C39 C57,mg_of X G a58,F58.kp,b58⟩
 exact ok_law F59 T C47 C48 C49 C54 C56 C60 C65 C58 C39
theorem walk {l:PySem.W.OpenLaw}{q:Program}{loose:List Str}{XP:(Str->Option Value)->Heap->Prop}{YP:World->Heap->Prop}{d:DefRec}{K:Params->Frag}(hq:importsNone q=true)(hn:l.most=some 63)(hdf:d.params.defaults=[])(hY:∀ (w:World) (h:Heap),YP w h->(K w.params).In h)(F:∀ (w:World) (mg:Str->Option Value) (fa:Addr) (h:Heap),(K w.params).In h->h.Ns mainGlobals mg->mg d.name=some (.ref fa)->
   ∃ fd:FuncData,(∀ (s:Shared) (u:Value),BindsTo s fd ⟨[u],[]⟩ [("_law_script",u)])/\∀ base:Heap,(K w.params).In base->base.Ns mainGlobals mg->FnOk l.prog w (K w.params) mg base CX0 20 fa fd ["_law_script"] (Zuz (K w.params))):
  PySem.W.WalkO q loose XP YP l.row.toRowW d [] (λf vs=>PySem.call f vs):=
 L2.walk_of (n:=63) (k:=20) (x:="_law_script") (CX:=λ_=>CX0) (sp:=λw=>Zuz (K w.params)) hq hn ⇑0 hdf ⟨rfl,⇑0,⇑0⟩ hY F (λ_ _ a ns hl _ hS=>⟨a,ns,rfl,hS,hl,λ_=>rfl⟩) (λ_ _ _ _ _ h=>h)
end Pf
namespace PySem.W.Fast
def tw5033367746794615776:=0
def tw1172481067454624078:=0
def tw3645793284887253813:=0
def tw11457349623786038198:=0
def tw1001306927942294422:=0
def tw16921369215928894711:=0
def tw12392452612599453235:=0
def tw951779758234917787:=0
def tw14851252300815249866:=0
def tw6313468402407139462:=0
def tw14584395332940733784:=0
def tw7691485096499729244:=0
def tw12972056843491036970:=0
def tw9038177701978664922:=0
def tw17448832324522858349:=0
def tw16707956526287268270:=0
def tw4437510310918958215:=0
def tw9690674632540094156:=0
def tw4350758590796269308:=0
def tw7667440416737486582:=0
def tw9108614974772112:=0
def tw6424560562860356818:=0
def tw2908976858511633959:=0
def tw13128893481688685008:=0
def tw11571428259996961988:=0
def tw12571585483899730953:=0
def tw10087251663339801706:=0
def tw17334673535520715083:=0
def tw17189289914126501744:=0
def tw9989482044118582784:=0
def tw4698380446326789543:=0
def tw1151561362815612100:=0
def tw11523814102842571064:=0
def tw11216289107236738571:=0
def tw12783066610208275093:=0
def tw4519408520766163946:=0
def tw7426606256661464614:=0
def tw7375625934488474274:=0
def tw9819873150038903871:=0
def tw17788024188925400628:=0
def tw3888456951184429404:=0
def tw2454122526494257657:=0
def tw5569901264926402804:=0
def tw1088411361569916025:=0
def tw11742010263580315855:=0
def tw7654990016665353932:=0
def tw9432013675883316178:=0
def tw10733350179215101210:=0
def tw1868140422944691647:=0
def tw8253221601927336373:=0
def tw15713516421817315563:=0
def tw249131472307790366:=0
def tw3051455643348682549:=0
def tw16460839751956085382:=0
def tw12613734066235198214:=0
def tw13213707788608016065:=0
def tw4143517059181108220:=0
def tw15057181142953872737:=0
def tw6886473987784804408:=0
def tw17554007019577582155:=0
def tw3672481181705313584:=0
def tw4533573704465071292:=0
def tw15103973004309001252:=0
def tw2268217360239285929:=0
def tw10642984237546215595:=0
def tw14438920781726705012:=0
def tw3472330418959080167:=0
def tw14293465798995453658:=0
def tw6610159147132302658:=0
def tw13340438717902742696:=0
def tw4402486587689457635:=0
def tw13954851502419504523:=0
def tw11368887778376163795:=0
def tw14263934557092656480:=0
def tw17661479552009725387:=0
def tw628156920322847699:=0
def tw14462453091660198998:=0
def tw3966832964890308245:=0
def tw9918299458096311379:=0
def tw6447688186560255986:=0
def tw12074569038218710383:=0
def tw14364398890101254433:=0
def tw10489552960768923684:=0
def tw6145087904801986072:=0
def tw17121691614121299639:=0
def tw10190103724567590534:=0
def tw13614704840765313142:=0
def tw10176621500180445998:=0
def tw12890028500162544266:=0
def tw12394419097230643616:=0
def tw99263429510267476:=0
def tw16406056076522146057:=0
def tw7086060617682541892:=0
def tw17660790521025399132:=0
def tw10378729713618938011:=0
def tw10063348307580355875:=0
def tw10542405170460941134:=0
def tw5250883987232138106:=0
def tw3783228066829389894:=0
def tw5388346132061124560:=0
def tw5860026516173197953:=0
def tw5481041686562963722:=0
def tw10203661505781299673:=0
def tw8295010176384684928:=0
def tw3840678170429774840:=0
def tw14457937270879819570:=0
def tw2292416073895823606:=0
def tw16102636136321446386:=0
def tw69933839452057959:=0
def tw4741937775534301300:=0
def tw10363649578199133499:=0
def tw9205451062470848608:=0
def tw383306932749863740:=0
def tw2229433277634874389:=0
def tw16004016092605209850:=0
def tw4827853351390634451:=0
def tw3780882495464229699:=0
def tw8051662456830688041:=0
def tw2501801523518373196:=0
def tw1981047604913986080:=0
def tw13998957126875555246:=0
def tw16561398634717289220:=0
def tw6726954314835079494:=0
def tw1081725187657155623:=0
def tw10629988995332320733:=0
def tw9036567011935525884:=0
def tw10646301079404839406:=0
def tw7666906852405517627:=0
def tw9460183664410083143:=0
def tw3448710965746345908:=0
def tw8820474758048593584:=0
def tw12064995463104304089:=0
def tw9176248853288381309:=0
def tw13673685431046608067:=0
def tw5483996249368689609:=0
def tw17551141178483418863:=0
def tw11144680872601204555:=0
def tw4917363023044172151:=0
def tw6102691394778106931:=0
def tw14274803113889936811:=0
def tw14092403313828985613:=0
def tw12252854090100083111:=0
def tw9871931218170687435:=0
def tw10092305883987972012:=0
def tw3855126376791643300:=0
def tw3019882029844498310:=0
def tw7031554853970110723:=0
def tw9941731719999014986:=0
def tw5853336267157317378:=0
def tw7997572057138296574:=0
def tw10893555997421870672:=0
def tw548041124271453355:=0
def tw4536963750249997881:=0
def tw7300650462615942306:=0
def tw12445707146156701645:=0
def tw2874095128696979837:=0
def tw13391169185622043401:=0
def tw11893879811294490624:=0
def tw4044011053979324609:=0
def tw12097297811619622815:=0
def tw4450619267535686731:=0
def tw17083884735858242953:=0
def tw2081871038708698580:=0
def tw17973036967727880443:=0
def tw6255076166794515853:=0
def tw3636089096676239574:=0
def tw4483012446476026806:=0
def tw11840124451899017128:=0
def tw7568897468512444064:=0
def tw7949854580472540699:=0
def tw4430616383140267866:=0
def tw9128730900110842370:=0
def tw4606186861539228480:=0
def tw6508361721033331551:=0
def tw2524494231118003602:=0
def tw5398374023459951528:=0
def tw17767712107396056774:=0
def tw5366546419711410663:=0
def tw9120214842680206190:=0
def tw16625753005105176914:=0
def tw15414440709271889834:=0
def tw4200069480947236128:=0
def tw8004105656442737309:=0
def tw3200654513576662100:=0
def tw17827728923504796644:=0
def tw4805595714208904451:=0
def tw1829223193730705382:=0
def tw9215218833235914128:=0
def tw6311782437175917889:=0
def tw16739296302546836687:=0
def tw15172720497806556471:=0
def tw5543040137458654616:=0
def tw9270665750856575752:=0
def tw3952099820797968974:=0
def tw6703484187724687031:=0
def tw459262024208501279:=0
def tw14174990034848827268:=0
def tw10117037786096071962:=0
def tw710972764834003709:=0
def tw5208213701751049527:=0
def tw9967253237697795377:=0
def tw4691131027826548998:=0
def tw12865245941544992370:=0
def tw14106051091656468770:=0
def tw5305535141004375475:=0
def tw6472916402661364722:=0
def tw6306272569572746428:=0
def tw17099610809307588273:=0
def tw5004762041658952343:=0
def tw17703908207926996959:=0
def tw7923988315747102766:=0
def tw7580706292125475534:=0
def tw13191540117983276203:=0
def tw7050664121650068728:=0
def tw12491630035508657012:=0
def tw7019825793110237177:=0
def tw729089543956805099:=0
def tw703532211927873479:=0
def tw3046833136168066459:=0
def tw13120372245685250619:=0
def tw1778854557152085276:=0
def tw10504883908350917740:=0
def tw47493853151845167:=0
def tw5616516498949063195:=0
def tw607918148979296623:=0
def tw16123518262119016786:=0
def tw1467190019600526076:=0
def tw17656378701024596152:=0
def tw4081776702220350147:=0
def tw14886217412352731221:=0
def tw2664155476333697032:=0
def tw12666242550892720196:=0
def tw14626614141263176997:=0
def tw4117125553358120553:=0
def tw2751437167721275787:=0
def tw8667800760592675961:=0
def tw7998326448697283930:=0
def tw11838989217159298321:=0
def tw6943177012066980797:=0
def tw15117350301663882050:=0
def tw10392977478187909687:=0
def tw9213274131677530342:=0
def tw14079330793415029347:=0
def tw12132917607189111883:=0
def tw7009170141680231131:=0
def tw15857554517249917105:=0
def tw11968218299916827080:=0
def tw5545458004783897704:=0
def tw17662459047224160194:=0
def tw10185523643886583425:=0
def tw5093397913039628757:=0
def tw7814158995208802146:=0
def tw14731948000678632586:=0
def tw5762366053306223937:=0
def tw2106831062882803383:=0
def tw1131086006559930966:=0
def tw15823128217595976528:=0
def tw13714076821281884269:=0
def tw14259534073923557275:=0
def tw8984677808376140794:=0
def tw15567845321071338459:=0
def tw3255802225375425510:=0
def tw13970492007260273040:=0
def tw18412498617765402091:=0
def tw608322943433167787:=0
def tw17708368271766409895:=0
def tw16372070193744642957:=0
def tw7195709956873257979:=0
def tw3832938369079064466:=0
def tw1598859711041326583:=0
def tw11619162229237872563:=0
def tw4203033701444116333:=0
def tw7173257012028090158:=0
def tw6888242492561923880:=0
def tw16576577201646837765:=0
def tw8544171520554216421:=0
def tw14220450851213896336:=0
def tw103281120136958268:=0
def tw16212355761807977179:=0
def tw4173358981247578178:=0
def tw15183396945442853845:=0
def tw17362905644004194571:=0
def tw5094806762077111243:=0
def tw7433601105958194538:=0
def tw18165635029984711076:=0
def tw17466794075437522165:=0
def tw15719097473087045533:=0
def tw14794803773450131671:=0
def tw1067227619200321555:=0
def tw16304555183530891278:=0
def tw18137081197049526900:=0
def tw16272526155747894416:=0
def tw5439825432040322405:=0
def tw1369057850230696631:=0
def tw3280328012683982117:=0
def tw4507786302029790543:=0
def tw5224409724315722834:=0
def tw6795539666123036860:=0
def tw26081211361461706:=0
def tw7074108451067776233:=0
def tw18372516837347252438:=0
def tw6357810804598135759:=0
def tw13430214170910411129:=0
def tw18348387461517105077:=0
def tw13890683362531181715:=0
def tw2277069454124132990:=0
def tw4563195763998580021:=0
def tw13208137113810976853:=0
def tw89338653357968515:=0
def tw15224370146169529462:=0
def tw11063785822495956746:=0
def tw1852458267434099628:=0
def tw16860841988618149065:=0
def tw7778654631465316348:=0
def tw13127443210001849600:=0
def tw16065840922427227735:=0
def tw13612172662880161097:=0
def tw560393199469448162:=0
def tw4315415523804645651:=0
def tw7767578979638479364:=0
def tw2638343038331404021:=0
def tw16332519113417379508:=0
def tw13434114508006182121:=0
def tw4512000997811607616:=0
def tw7618695148036370720:=0
def tw17071169067380918546:=0
def tw3179487322324594655:=0
def tw7491606259427947427:=0
def tw994624648582147898:=0
def tw6185650072489115131:=0
def tw15733818793364944575:=0
def tw2051308077662585315:=0
end PySem.W.Fast
open PySem PySem.W PyProof.Rows
local macro_rules | `(tactic| walk_at "v")=>`(tactic| exact⟨_,⟨⟨_,_,_,_,_,_,_,_,_,rfl,by k_is,by k_is⟩,by k_is⟩⟩)
local macro_rules | `(tactic| walk_at "u")=>`(tactic| exact⟨by k_is,_,⟨⟨_,_,_,_,_,_,_,_,_,rfl,by k_is,by k_is⟩,by k_is⟩⟩)
set_option maxRecDepth 100000 in
set_option maxHeartbeats 0 in
theorem PySem.Challenge.cw_limbtables_k59_members_refused_holds : PySem.Challenge.rw_limbtables_k59_members_refused.Holds := by
 w_on;o_law;k_head;(case hw=>w_witness2)
 k_fill
 refine Pf.walk (l:=PySem.Challenge.rw_limbtables_k59_members_refused) ⋯ rfl rfl (λw h Y=>by first|exact PySem.W.kIn_of Y|exact PySem.W.km_in_of Y) ?F
 case F=>
  intro w mg fa h KX G hmg;refine' Pf.all_mk KX G hmg ?u1 ?u2 ?u3 ?u4 ?u5 ?u6 ?u7 ?u8 ?u9 ?u10 ?u11 ?u12 ?u13 ?u14 ?u15 ?u16 ?u17 ?u18 ?u19 ?u20 ?u21 ?u22 ?u23 ?u24 ?u25 ?u26 ?u27 ?u28 ?u29 ?u30 ?u31 ?u32 ?u33 ?u34 ?u35 ?u36 ?u37 ?u38 ?u39 ?u40 ?u41 ?u42 ?u43 ?u44 ?u45 ?u46 ?u47 ?u48 ?u49 ?u50 ?u51 ?u52 ?u53 ?u54 ?u55 ?u56 ?u57 ?u58 ?a59 ?l59 ?c59 ?k59 ?aC ?a60 ?i60 ?u60 ?a61 ?i61 ?u61 ?a62 ?i62 ?u62 ?a63 ?i63 ?u63 ?a64 ?i64 ?u64 ?pg ?hd ?po ?sa ?mk ?kc ?nM ?nA ?aCg ?a65 ?i65 ?u65 ?a66 ?i66 ?l66 ?dl66 ?c66 ?k66 ?a67 ?i67 ?u67 ?pg_Cg ?hd_Cg ?po_Cg ?sa_Cg ?mk_Cg ?kc_Cg ?nP ?aCs ?a68 ?i68 ?u68 ?pg_Cs ?hd_Cs ?po_Cs ?sa_Cs ?mk_Cs ?kc_Cs ?nSg ?nSd ?nSs ?nSt ?g1 ?g2 ?g3 ?g4 ?z0 ?z1 ?z2 ?z3 ?z4 ?z5 ?z6 ?z7 ?z8 ?z9 ?z10 ?z11 ?z12 ?z13 ?z14 ?z15 ?z16 ?a_LimbError ?a_NoGround ?a_NoNumber ?a_NoTable ?a_NoDrawing ?a_NoKind ?a_NoStanding ?a_NoChange ?a_NoMirror ?a_NoRoot ?a_NoText ?a_NoRow ?a_NoName ?e_LimbError ?e_NoKind ?m_R ?n_R ?y_ga ?y_gt ?y_cl ?y_so ?y_sb ?y_t1 ?y_t2 ?y_v
  (case u1|u2|u3|u4|u5|u6|u7|u8|u9|u10|u11|u12|u13|u14|u15|u16|u17|u18|u19|u20|u21|u22|u23|u24|u25|u26|u27|u28|u29|u30|u31|u32|u33|u34|u35|u36|u37|u38|u39|u40|u41|u42|u43|u44|u45|u46|u47|u48|u49|u50|u51|u52|u53|u54|u55|u56|u57|u58=>walk_at "u")
  (case a59|l59|c59|k59|aC|a60|i60=>k_is)
  (case u60=>walk_at "v")
  (case a61|i61=>k_is)
  (case u61=>walk_at "v")
  (case a62|i62=>k_is)
  (case u62=>walk_at "v")
  (case a63|i63=>k_is)
  (case u63=>walk_at "v")
  (case a64|i64=>k_is)
  (case u64=>walk_at "v")
  (case pg|hd|po|sa|mk|kc|nM|nA|aCg|a65|i65=>k_is)
  (case u65=>walk_at "v")
  (case a66|i66|l66|dl66|c66|k66|a67|i67=>k_is)
  (case u67=>walk_at "v")
  (case pg_Cg|hd_Cg|po_Cg|sa_Cg|mk_Cg|kc_Cg|nP|aCs|a68|i68=>k_is)
  (case u68=>walk_at "v")
  (case pg_Cs|hd_Cs|po_Cs|sa_Cs|mk_Cs|kc_Cs|nSg|nSd|nSs|nSt|g1|g2|g3|g4|z0|z1|z2|z3|z4|z5|z6|z7|z8|z9|z10|z11|z12|z13|z14|z15|z16|a_LimbError|a_NoGround|a_NoNumber|a_NoTable|a_NoDrawing|a_NoKind|a_NoStanding|a_NoChange|a_NoMirror|a_NoRoot|a_NoText|a_NoRow|a_NoName=>k_is)
  (case e_LimbError|e_NoKind=>k_exc)
  (case m_R=>k_is)
  (case n_R=>decide)
  (case y_ga|y_gt|y_cl|y_so|y_sb=>k_is)
  (case y_t1|y_t2|y_v=>kit_is)
#print axioms PySem.Challenge.cw_limbtables_k59_members_refused_holds