import PyProof.Rows.All
import Wide.All
import OpenK.AllK
import Wide.FinOn
import Lean
import PyProof.EqAt
import PyProof.EqKinds
import PyProof.TupleCall
import PyProof.ZipIter
import PyProof.Rows.ZipGen
import PyProof.SumWalkG
import PyProof.EnumMake
import PyProof.EnumFor
import PyProof.FactsAll.int_6
import PyProof.AutoIntG2
import PyProof.RulesAs
import PyProof.Rows.TopTwo
import PyProof.ExcArgsOwn
import PyProof.ExcBaseAll.ValueError
import OpenK.KDescr
import KE.RegKIsAll
import PyProof.EqKinds
import KE.KRevIter
import PyProof.ListNew
import KE.KItemsList
import KE.KLam
import KE.KMinKey
import PyProof.MinMaxWalk
import PyProof.NeKinds
import PySem.Challenge.RW_limbtables_k28_standings_changed
open PySem.W (Frag)
variable{P:PySem.Program}{w:PySem.World}{K:PySem.W.Frag}{mg:PySem.Str->Option PySem.Value}{base:PySem.Heap}{f:PySem.Addr}{fd:PySem.FuncData}
local macro_rules|`(∅)=>`(by omega)
local macro_rules|`(⋯)=>`(by decide +kernel)
local macro_rules|`(⇑0)=>`(by decide)
local macro_rules|`(⇑1)=>`(by rfl)
noncomputable section
abbrev Jaa:=@List.getElem?_eq_getElem
abbrev Jab:=@List.length_map
abbrev Jac:=@List.getD_eq_getElem?_getD
abbrev Jad:=@List.getElem?_map
abbrev Jae:=@List.mem_of_getElem?
abbrev Jaf:=@List.getElem?_eq_some_iff
abbrev Jag:=@PySem.wpAny_bind
abbrev Jah:=@List.length_append
abbrev Jai:=@Nat.le_refl
abbrev Jaj:=@List.getElem?_eq_none
abbrev Jak:=@PySem.Heap.get?_push_of_some
abbrev Jal:=@List.mem_append
abbrev Jam:=@PySem.Heap.lt_size
abbrev Jan:=@List.mem_iff_getElem
abbrev Jao:=@decide_eq_true
abbrev Jap:=@List.getElem_mem
abbrev Jaq:=@List.size_toArray
abbrev Jar:=@List.mem_map
abbrev Jas:=@List.mem_singleton
abbrev Jat:=@List.length_range
abbrev Jau:=@List.getElem?_range
abbrev Jav:=@List.getElem?_append_right
abbrev Jaw:=@Nat.lt_of_lt_of_le
abbrev Jax:=@Bool.false_ne_true
abbrev Jay:=@List.getElem?_append_left
abbrev Jaz:=@PySem.F.plainAttrs_list
abbrev Ja0:=@PySem.wpAny_pure
abbrev Ja1:=@PySem.PassesOwn.never
abbrev Ja2:=@List.map_append
abbrev Ja3:=@Nat.le_trans
abbrev Ja4:=@PySem.Heap.get?_push_size
abbrev Ja5:=@of_decide_eq_true
abbrev Ja6:=@PySem.F.slot_list_append
abbrev Ja7:=@PySem.F.type_list_append
abbrev Ja8:=@List.mem_range
abbrev Ja9:=@Nat.ne_of_lt
abbrev Jba:=@List.lookup_cons
abbrev Jbb:=@Int.toNat_natCast
abbrev Jbc:=@List.length_take
abbrev Jbd:=@List.length_replicate
abbrev Jbe:=@Int.emod_lt_of_pos
abbrev Jbf:=@PySem.boot_len
abbrev Jbg:=@decide_eq_false
abbrev Jbh:=@Nat.lt_of_le_of_lt
abbrev Jbi:=@Option.some.inj
abbrev Jbj:=@List.mem_append_right
abbrev Jbk:=@PySem.mem_of_lookup
abbrev Jbl:=@PyProof.Rows.callWith_type1
abbrev Jbm:=@Nat.le_of_lt
abbrev Jbn:=@List.all_eq_true
abbrev Jbo:=@Int.gcd_dvd_left
abbrev Jbp:=@Nat.lt_irrefl
abbrev Jbq:=@List.mem_cons
abbrev Jbr:=@Int.emod_nonneg
abbrev Jbs:=@Nat.two_pow_pos
abbrev Jbt:=@Int.toNat_of_nonneg
abbrev Jbu:=@Nat.mul_le_mul
abbrev Jbv:=@beq_iff_eq
abbrev Jbw:=@List.mem_cons_of_mem
abbrev Jbx:=@PySem.wpAny_truthy_bool
abbrev Jby:=@List.length_set
abbrev Jbz:=@Int.gcd_dvd_right
abbrev Jb0:=@Int.fdiv_eq_ediv_of_nonneg
abbrev Jb1:=@List.getElem?_replicate
abbrev Jb2:=@List.length_drop
abbrev Jb3:=@PyProof.Rows.boot_isinstance
abbrev Jb4:=@Int.natAbs_mul
abbrev Jb5:=@Classical.byContradiction
abbrev Jb6:=@List.ext_getElem?
abbrev Jb7:=@Nat.ne_of_gt
abbrev Jb8:=@List.mem_of_mem_eraseIdx
abbrev Jb9:=@Nat.zero_le
abbrev Jca:=@Nat.pow_le_pow_right
abbrev Jcb:=@List.mem_of_mem_take
abbrev Jcc:=@PySem.F.plain_min_loop
abbrev Jcd:=@PySem.W.kia_one
abbrev Jce:=@List.length_cons
abbrev Jcf:=@Int.ediv_mul_cancel
abbrev Jcg:=@List.mem_cons_self
abbrev Jch:=@PySem.wpAny_holding
abbrev Jci:=@Bool.false_eq_true
abbrev Jcj:=@List.range_succ
abbrev Jck:=@List.mem_of_mem_drop
abbrev Jcl:=@Nat.mul_le_mul_right
abbrev Jcm:=@Bool.and_eq_true
abbrev Jcn:=@PySem.Heap.get?_update_other
abbrev Jco:=@Ne.symm
abbrev Jcp:=@List.replicate_succ
abbrev Jcq:=@List.map_congr_left
abbrev Jcr:=@List.getElem?_set
abbrev Jcs:=@Nat.add_mul
abbrev Jct:=@List.eraseIdx_eq_take_drop_succ
abbrev Jcu:=@List.pairwise_iff_getElem
abbrev Jcv:=@Classical.choose_spec
abbrev Jcw:=@Int.gcd_pos_of_ne_zero_right
abbrev Jcx:=@Nat.le_of_succ_le
abbrev Jcy:=@Nat.lt_succ_of_lt
abbrev Jcz:=@Int.emod_eq_of_lt
abbrev Jc0:=@Bool.eq_iff_iff
abbrev Jc1:=@if_true
abbrev Jc2:=@PySem.wpAny_updateSeq
abbrev Jc3:=@List.take_of_length_le
abbrev Jc4:=@PySem.wpAny_mono
abbrev Jc5:=@PySem.Heap.get?_update_self
abbrev Jc6:=@PyProof.Rows.boot_list
abbrev Jc7:=@PySem.Heap.size_push
abbrev Jc8:=@congrArg
abbrev Jc9:=@PySem.Around.under_plainId
abbrev Jda:=@Nat.pow_lt_pow_right
abbrev Jdb:=@PySem.wpAny_passesOwn
abbrev Jdc:=@List.getElem?_take_of_lt
abbrev Jdd:=@List.mk_mem_zipIdx_iff_getElem?
abbrev Jde:=@Int.mul_le_mul_of_nonneg_right
abbrev Jdf:=@beq_eq_false_iff_ne
abbrev Jdg:=@if_false
abbrev Jdh:=@Nat.le_add_right
abbrev Jdi:=@Int.mul_nonneg
abbrev Jdj:=@PySem.wpAny_tryCatch
abbrev Jdk:=@PySem.W.cellsFrom_some
abbrev Jdl:=@PySem.wpAny_Call_Name_kw
abbrev Jdm:=@Bool.or_eq_true
abbrev Jdn:=@PySem.wpAny_field
abbrev Jdo:=@PySem.F.slot_enumerate_next
abbrev Jdp:=@Nat.pow_succ
abbrev Jdq:=@List.length_nil
abbrev Jdr:=@PySem.F.slot_int_bit_length
abbrev Jds:=@PySem.F.type_int_bit_length
abbrev Jdt:=@PySem.wpAny_pyIter_list
abbrev Jdu:=@List.flatten_cons
abbrev Jdv:=@Int.eq_of_mul_eq_mul_right
abbrev Jdw:=@Int.natAbs_of_nonneg
abbrev Jdx:=@PySem.intBits_le_iff
abbrev Jdy:=@PySem.wpAny_seqItems
abbrev Jdz:=@PySem.F.plain_extend_loop
abbrev Jd0:=@List.mem_or_eq_of_mem_set
abbrev Jd1:=@Int.mul_pos
abbrev Jd2:=@List.length_zipWith
abbrev Jd3:=@Option.isSome_iff_exists
abbrev Jd4:=@PySem.wpAny_callSpecial?_slot
abbrev Jd5:=@PySem.codeAny_builtin
abbrev Jd6:=@PySem.plainId_quiet
abbrev Jd7:=@decide_eq_true_iff
abbrev Jd8:=@PySem.wpAny_pyNext_list_item
abbrev Jd9:=@PySem.F.entry_min_loop
abbrev Jea:=@Int.fmod_nonneg_of_pos
abbrev Jeb:=@PySem.F.plainAttrs_int
abbrev Jec:=@List.eraseIdxIfInBounds_toArray
abbrev Jed:=@List.nodup_append
abbrev Jee:=@PySem.wpAny_isTrue_Compare1
abbrev Jef:=@PySem.wpAny_pyNext_list_end
abbrev Jeg:=@Array.getElem?_toList
abbrev Jeh:=@Int.gcd_comm
abbrev Jei:=@Nat.lt_trans
abbrev Jej:=@Int.emod_add_mul_ediv
abbrev Jek:=@List.map_map
abbrev Jel:=@Nat.lt_succ_self
abbrev Jem:=@List.any_eq_true
abbrev Jen:=@List.getElem?_zipIdx
abbrev Jeo:=@PySem.wpAny_standAt
abbrev Jep:=@Bool.true_and
abbrev Jeq:=@PySem.call_meets
abbrev Jer:=@List.filterMap_cons
abbrev Jes:=@Array.length_toList
abbrev Jet:=@PySem.wpAny_execs_nil
abbrev Jeu:=@PySem.W.plainGet_of
abbrev Jev:=@List.append_nil
abbrev Jew:=@List.nodup_cons
abbrev Jex:=@PySem.wpAny_letGo
abbrev Jey:=@Int.ediv_nonneg
abbrev Jez:=@PySem.Heap.SameBut.update
abbrev Je0:=@Nat.add_le_add_left
abbrev Je1:=@Int.natCast_nonneg
abbrev Je2:=@PySem.Calls.spliced_cons
abbrev Je3:=@PySem.W.callWith_K
abbrev Je4:=@PySem.SeqAt.EqAt.of_refs
abbrev Je5:=@PySem.W.KFB.if_not
abbrev Je6:=@PySem.wpAny_setField_rec
abbrev Je7:=@Nat.sub_self
abbrev Je8:=@Int.mul_comm
abbrev Je9:=@List.getElem?_drop
abbrev Jfa:=@Int.fmod_lt_of_pos
abbrev Jfb:=@List.length_zipIdx
abbrev Jfc:=@Bool.false_and
abbrev Jfd:=@PySem.Calls.spliced_nil
abbrev Jfe:=@Int.lt_trichotomy
abbrev Jff:=@PySem.wpAny_pyIter_enum
abbrev Jfg:=@List.take_add_one
abbrev Jfh:=@Int.natAbs_add_le
abbrev Jfi:=@Nat.le_succ
abbrev Jfj:=@Bool.and_true
abbrev Jfk:=@List.all_cons
abbrev Jfl:=@Nat.pow_add
abbrev Jfm:=@Nat.mul_pos
abbrev Jfn:=@Nat.mul_assoc
abbrev Jfo:=@PyProof.Rows.boot_all
abbrev Jfp:=@PyProof.Rows.boot_abs
set_option compiler.postponeCompile true
set_option bootstrap.genMatcherCode false
set_option genSizeOf false
set_option Elab.async false
set_option linter.all false
namespace L2
theorem Zwt {p f1 f2 f3 f4 f5 f6 f7 f8 f9:Prop}{G:Prop}(h:p/\f1/\f2/\f3/\f4/\f5/\f6/\f7/\f8/\f9)(f:p->f1->f2->f3->f4->f5->f6->f7->f8->f9->G):G:=let ⟨h0,h1,h2,h3,h4,h5,h6,h7,h8,h9⟩:=h;f h0 h1 h2 h3 h4 h5 h6 h7 h8 h9
theorem Za2 {p f1 f2:Prop}{G:Prop}(h:p/\f1/\f2)(f:p->f1->f2->G):G:=let ⟨h0,h1,h2⟩:=h;f h0 h1 h2
theorem Zb0 {p f1 f2 f3:Prop}{G:Prop}(h:p/\f1/\f2/\f3)(f:p->f1->f2->f3->G):G:=let ⟨h0,h1,h2,h3⟩:=h;f h0 h1 h2 h3
theorem Zcf {p f1 f2 f3 f4:Prop}{G:Prop}(h:p/\f1/\f2/\f3/\f4)(f:p->f1->f2->f3->f4->G):G:=let ⟨h0,h1,h2,h3,h4⟩:=h;f h0 h1 h2 h3 h4
theorem Zf3 {p f1 f2 f3 f4 f5:Prop}{G:Prop}(h:p/\f1/\f2/\f3/\f4/\f5)(f:p->f1->f2->f3->f4->f5->G):G:=let ⟨h0,h1,h2,h3,h4,h5⟩:=h;f h0 h1 h2 h3 h4 h5
theorem Zuc {p f1 f2 f3 f4 f5 f6:Prop}{G:Prop}(h:p/\f1/\f2/\f3/\f4/\f5/\f6)(f:p->f1->f2->f3->f4->f5->f6->G):G:=let ⟨h0,h1,h2,h3,h4,h5,h6⟩:=h;f h0 h1 h2 h3 h4 h5 h6
theorem xE0_8 {p f1 f2 f3 f4 f5 f6 f7:Prop}{G:Prop}(h:p/\f1/\f2/\f3/\f4/\f5/\f6/\f7)(f:p->f1->f2->f3->f4->f5->f6->f7->G):G:=let ⟨h0,h1,h2,h3,h4,h5,h6,h7⟩:=h;f h0 h1 h2 h3 h4 h5 h6 h7
theorem Zub {p f1 f2 f3 f4 f5 f6 f7 f8:Prop}{G:Prop}(h:p/\f1/\f2/\f3/\f4/\f5/\f6/\f7/\f8)(f:p->f1->f2->f3->f4->f5->f6->f7->f8->G):G:=let ⟨h0,h1,h2,h3,h4,h5,h6,h7,h8⟩:=h;f h0 h1 h2 h3 h4 h5 h6 h7 h8
theorem xE10_2 {A B C D E F I J K L:Type}{p f1:A->B->C->D->E->F->I->J->K->L->Prop}{G:Prop}(h:∃ a b c d e i j k l m,p a b c d e i j k l m/\f1 a b c d e i j k l m)(f:∀ a b c d e i j k l m,p a b c d e i j k l m->f1 a b c d e i j k l m->G):G:=let ⟨a,b,c,d,e,i,j,k,l,m,h0,h1⟩:=h;f a b c d e i j k l m h0 h1
theorem xE10_4 {A B C D E F I J K L:Type}{p f1 f2 f3:A->B->C->D->E->F->I->J->K->L->Prop}{G:Prop}(h:∃ a b c d e i j k l m,p a b c d e i j k l m/\f1 a b c d e i j k l m/\f2 a b c d e i j k l m/\f3 a b c d e i j k l m)(f:∀ a b c d e i j k l m,p a b c d e i j k l m->f1 a b c d e i j k l m->f2 a b c d e i j k l m->f3 a b c d e i j k l m->G):G:=let ⟨a,b,c,d,e,i,j,k,l,m,h0,h1,h2,h3⟩:=h;f a b c d e i j k l m h0 h1 h2 h3
theorem xE11_2 {A B C D E F I J K L M:Type}{p f1:A->B->C->D->E->F->I->J->K->L->M->Prop}{G:Prop}(h:∃ a b c d e i j k l m n,p a b c d e i j k l m n/\f1 a b c d e i j k l m n)(f:∀ a b c d e i j k l m n,p a b c d e i j k l m n->f1 a b c d e i j k l m n->G):G:=let ⟨a,b,c,d,e,i,j,k,l,m,n,h0,h1⟩:=h;f a b c d e i j k l m n h0 h1
theorem xE11_4 {A B C D E F I J K L M:Type}{p f1 f2 f3:A->B->C->D->E->F->I->J->K->L->M->Prop}{G:Prop}(h:∃ a b c d e i j k l m n,p a b c d e i j k l m n/\f1 a b c d e i j k l m n/\f2 a b c d e i j k l m n/\f3 a b c d e i j k l m n)(f:∀ a b c d e i j k l m n,p a b c d e i j k l m n->f1 a b c d e i j k l m n->f2 a b c d e i j k l m n->f3 a b c d e i j k l m n->G):G:=let ⟨a,b,c,d,e,i,j,k,l,m,n,h0,h1,h2,h3⟩:=h;f a b c d e i j k l m n h0 h1 h2 h3
theorem Zol {A B C D E F I J K L M N O P:Type}{p f1:A->B->C->D->E->F->I->J->K->L->M->N->O->P->Prop}{G:Prop}(h:∃ a b c d e i j k l m n o q r,p a b c d e i j k l m n o q r/\f1 a b c d e i j k l m n o q r)(f:∀ a b c d e i j k l m n o q r,p a b c d e i j k l m n o q r->f1 a b c d e i j k l m n o q r->G):G:=let ⟨a,b,c,d,e,i,j,k,l,m,n,o,q,r,h0,h1⟩:=h;f a b c d e i j k l m n o q r h0 h1
theorem Zws {A B C D E F I J K L M N O P:Type}{p f1 f2 f3:A->B->C->D->E->F->I->J->K->L->M->N->O->P->Prop}{G:Prop}(h:∃ a b c d e i j k l m n o q r,p a b c d e i j k l m n o q r/\f1 a b c d e i j k l m n o q r/\f2 a b c d e i j k l m n o q r/\f3 a b c d e i j k l m n o q r)(f:∀ a b c d e i j k l m n o q r,p a b c d e i j k l m n o q r->f1 a b c d e i j k l m n o q r->f2 a b c d e i j k l m n o q r->f3 a b c d e i j k l m n o q r->G):G:=let ⟨a,b,c,d,e,i,j,k,l,m,n,o,q,r,h0,h1,h2,h3⟩:=h;f a b c d e i j k l m n o q r h0 h1 h2 h3
theorem Zqw {A B C D E F I J K L M N O P Q:Type}{p f1:A->B->C->D->E->F->I->J->K->L->M->N->O->P->Q->Prop}{G:Prop}(h:∃ a b c d e i j k l m n o q r s,p a b c d e i j k l m n o q r s/\f1 a b c d e i j k l m n o q r s)(f:∀ a b c d e i j k l m n o q r s,p a b c d e i j k l m n o q r s->f1 a b c d e i j k l m n o q r s->G):G:=let ⟨a,b,c,d,e,i,j,k,l,m,n,o,q,r,s,h0,h1⟩:=h;f a b c d e i j k l m n o q r s h0 h1
theorem Zqv {A B C D E F I J K L M N O P Q:Type}{p f1 f2 f3:A->B->C->D->E->F->I->J->K->L->M->N->O->P->Q->Prop}{G:Prop}(h:∃ a b c d e i j k l m n o q r s,p a b c d e i j k l m n o q r s/\f1 a b c d e i j k l m n o q r s/\f2 a b c d e i j k l m n o q r s/\f3 a b c d e i j k l m n o q r s)(f:∀ a b c d e i j k l m n o q r s,p a b c d e i j k l m n o q r s->f1 a b c d e i j k l m n o q r s->f2 a b c d e i j k l m n o q r s->f3 a b c d e i j k l m n o q r s->G):G:=let ⟨a,b,c,d,e,i,j,k,l,m,n,o,q,r,s,h0,h1,h2,h3⟩:=h;f a b c d e i j k l m n o q r s h0 h1 h2 h3
theorem Zad {A:Type}{p f1:A->Prop}{G:Prop}(h:∃ a,p a/\f1 a)(f:∀ a,p a->f1 a->G):G:=let ⟨a,h0,h1⟩:=h;f a h0 h1
theorem Zav {A:Type}{p f1 f2:A->Prop}{G:Prop}(h:∃ a,p a/\f1 a/\f2 a)(f:∀ a,p a->f1 a->f2 a->G):G:=let ⟨a,h0,h1,h2⟩:=h;f a h0 h1 h2
theorem Zit {A:Type}{p f1 f2 f3:A->Prop}{G:Prop}(h:∃ a,p a/\f1 a/\f2 a/\f3 a)(f:∀ a,p a->f1 a->f2 a->f3 a->G):G:=let ⟨a,h0,h1,h2,h3⟩:=h;f a h0 h1 h2 h3
theorem Zqu {A:Type}{p f1 f2 f3 f4:A->Prop}{G:Prop}(h:∃ a,p a/\f1 a/\f2 a/\f3 a/\f4 a)(f:∀ a,p a->f1 a->f2 a->f3 a->f4 a->G):G:=let ⟨a,h0,h1,h2,h3,h4⟩:=h;f a h0 h1 h2 h3 h4
theorem Zqt {A:Type}{p f1 f2 f3 f4 f5:A->Prop}{G:Prop}(h:∃ a,p a/\f1 a/\f2 a/\f3 a/\f4 a/\f5 a)(f:∀ a,p a->f1 a->f2 a->f3 a->f4 a->f5 a->G):G:=let ⟨a,h0,h1,h2,h3,h4,h5⟩:=h;f a h0 h1 h2 h3 h4 h5
theorem Zdl {A B:Type}{p:A->B->Prop}{G:Prop}(h:∃ a b,p a b)(f:∀ a b,p a b->G):G:=let ⟨a,b,h0⟩:=h;f a b h0
theorem Zbh {A B:Type}{p f1:A->B->Prop}{G:Prop}(h:∃ a b,p a b/\f1 a b)(f:∀ a b,p a b->f1 a b->G):G:=let ⟨a,b,h0,h1⟩:=h;f a b h0 h1
theorem Zbm {A B:Type}{p f1 f2:A->B->Prop}{G:Prop}(h:∃ a b,p a b/\f1 a b/\f2 a b)(f:∀ a b,p a b->f1 a b->f2 a b->G):G:=let ⟨a,b,h0,h1,h2⟩:=h;f a b h0 h1 h2
theorem Zdw {A B:Type}{p f1 f2 f3:A->B->Prop}{G:Prop}(h:∃ a b,p a b/\f1 a b/\f2 a b/\f3 a b)(f:∀ a b,p a b->f1 a b->f2 a b->f3 a b->G):G:=let ⟨a,b,h0,h1,h2,h3⟩:=h;f a b h0 h1 h2 h3
theorem Zg9 {A B:Type}{p f1 f2 f3 f4:A->B->Prop}{G:Prop}(h:∃ a b,p a b/\f1 a b/\f2 a b/\f3 a b/\f4 a b)(f:∀ a b,p a b->f1 a b->f2 a b->f3 a b->f4 a b->G):G:=let ⟨a,b,h0,h1,h2,h3,h4⟩:=h;f a b h0 h1 h2 h3 h4
theorem Zis {A B:Type}{p f1 f2 f3 f4 f5:A->B->Prop}{G:Prop}(h:∃ a b,p a b/\f1 a b/\f2 a b/\f3 a b/\f4 a b/\f5 a b)(f:∀ a b,p a b->f1 a b->f2 a b->f3 a b->f4 a b->f5 a b->G):G:=let ⟨a,b,h0,h1,h2,h3,h4,h5⟩:=h;f a b h0 h1 h2 h3 h4 h5
theorem xE3_1 {A B C:Type}{p:A->B->C->Prop}{G:Prop}(h:∃ a b c,p a b c)(f:∀ a b c,p a b c->G):G:=let ⟨a,b,c,h0⟩:=h;f a b c h0
theorem Zex {A B C:Type}{p f1:A->B->C->Prop}{G:Prop}(h:∃ a b c,p a b c/\f1 a b c)(f:∀ a b c,p a b c->f1 a b c->G):G:=let ⟨a,b,c,h0,h1⟩:=h;f a b c h0 h1
theorem Zj6 {A B C:Type}{p f1 f2:A->B->C->Prop}{G:Prop}(h:∃ a b c,p a b c/\f1 a b c/\f2 a b c)(f:∀ a b c,p a b c->f1 a b c->f2 a b c->G):G:=let ⟨a,b,c,h0,h1,h2⟩:=h;f a b c h0 h1 h2
theorem Zbu {A B C:Type}{p f1 f2 f3:A->B->C->Prop}{G:Prop}(h:∃ a b c,p a b c/\f1 a b c/\f2 a b c/\f3 a b c)(f:∀ a b c,p a b c->f1 a b c->f2 a b c->f3 a b c->G):G:=let ⟨a,b,c,h0,h1,h2,h3⟩:=h;f a b c h0 h1 h2 h3
theorem Zk0 {A B C D:Type}{p f1:A->B->C->D->Prop}{G:Prop}(h:∃ a b c d,p a b c d/\f1 a b c d)(f:∀ a b c d,p a b c d->f1 a b c d->G):G:=let ⟨a,b,c,d,h0,h1⟩:=h;f a b c d h0 h1
theorem xE4_3 {A B C D:Type}{p f1 f2:A->B->C->D->Prop}{G:Prop}(h:∃ a b c d,p a b c d/\f1 a b c d/\f2 a b c d)(f:∀ a b c d,p a b c d->f1 a b c d->f2 a b c d->G):G:=let ⟨a,b,c,d,h0,h1,h2⟩:=h;f a b c d h0 h1 h2
theorem Zb5 {A B C D:Type}{p f1 f2 f3:A->B->C->D->Prop}{G:Prop}(h:∃ a b c d,p a b c d/\f1 a b c d/\f2 a b c d/\f3 a b c d)(f:∀ a b c d,p a b c d->f1 a b c d->f2 a b c d->f3 a b c d->G):G:=let ⟨a,b,c,d,h0,h1,h2,h3⟩:=h;f a b c d h0 h1 h2 h3
theorem Zua {A B C D E:Type}{p f1:A->B->C->D->E->Prop}{G:Prop}(h:∃ a b c d e,p a b c d e/\f1 a b c d e)(f:∀ a b c d e,p a b c d e->f1 a b c d e->G):G:=let ⟨a,b,c,d,e,h0,h1⟩:=h;f a b c d e h0 h1
theorem Zf2 {A B C D E:Type}{p f1 f2 f3:A->B->C->D->E->Prop}{G:Prop}(h:∃ a b c d e,p a b c d e/\f1 a b c d e/\f2 a b c d e/\f3 a b c d e)(f:∀ a b c d e,p a b c d e->f1 a b c d e->f2 a b c d e->f3 a b c d e->G):G:=let ⟨a,b,c,d,e,h0,h1,h2,h3⟩:=h;f a b c d e h0 h1 h2 h3
theorem xE6_2 {A B C D E F:Type}{p f1:A->B->C->D->E->F->Prop}{G:Prop}(h:∃ a b c d e i,p a b c d e i/\f1 a b c d e i)(f:∀ a b c d e i,p a b c d e i->f1 a b c d e i->G):G:=let ⟨a,b,c,d,e,i,h0,h1⟩:=h;f a b c d e i h0 h1
theorem Zm7 {A B C D E F:Type}{p f1 f2 f3:A->B->C->D->E->F->Prop}{G:Prop}(h:∃ a b c d e i,p a b c d e i/\f1 a b c d e i/\f2 a b c d e i/\f3 a b c d e i)(f:∀ a b c d e i,p a b c d e i->f1 a b c d e i->f2 a b c d e i->f3 a b c d e i->G):G:=let ⟨a,b,c,d,e,i,h0,h1,h2,h3⟩:=h;f a b c d e i h0 h1 h2 h3
theorem xE7_2 {A B C D E F I:Type}{p f1:A->B->C->D->E->F->I->Prop}{G:Prop}(h:∃ a b c d e i j,p a b c d e i j/\f1 a b c d e i j)(f:∀ a b c d e i j,p a b c d e i j->f1 a b c d e i j->G):G:=let ⟨a,b,c,d,e,i,j,h0,h1⟩:=h;f a b c d e i j h0 h1
theorem xE7_4 {A B C D E F I:Type}{p f1 f2 f3:A->B->C->D->E->F->I->Prop}{G:Prop}(h:∃ a b c d e i j,p a b c d e i j/\f1 a b c d e i j/\f2 a b c d e i j/\f3 a b c d e i j)(f:∀ a b c d e i j,p a b c d e i j->f1 a b c d e i j->f2 a b c d e i j->f3 a b c d e i j->G):G:=let ⟨a,b,c,d,e,i,j,h0,h1,h2,h3⟩:=h;f a b c d e i j h0 h1 h2 h3
theorem Zqs {A B C D E F I J:Type}{p f1:A->B->C->D->E->F->I->J->Prop}{G:Prop}(h:∃ a b c d e i j k,p a b c d e i j k/\f1 a b c d e i j k)(f:∀ a b c d e i j k,p a b c d e i j k->f1 a b c d e i j k->G):G:=let ⟨a,b,c,d,e,i,j,k,h0,h1⟩:=h;f a b c d e i j k h0 h1
theorem xE8_3 {A B C D E F I J:Type}{p f1 f2:A->B->C->D->E->F->I->J->Prop}{G:Prop}(h:∃ a b c d e i j k,p a b c d e i j k/\f1 a b c d e i j k/\f2 a b c d e i j k)(f:∀ a b c d e i j k,p a b c d e i j k->f1 a b c d e i j k->f2 a b c d e i j k->G):G:=let ⟨a,b,c,d,e,i,j,k,h0,h1,h2⟩:=h;f a b c d e i j k h0 h1 h2
theorem Zqr {A B C D E F I J:Type}{p f1 f2 f3:A->B->C->D->E->F->I->J->Prop}{G:Prop}(h:∃ a b c d e i j k,p a b c d e i j k/\f1 a b c d e i j k/\f2 a b c d e i j k/\f3 a b c d e i j k)(f:∀ a b c d e i j k,p a b c d e i j k->f1 a b c d e i j k->f2 a b c d e i j k->f3 a b c d e i j k->G):G:=let ⟨a,b,c,d,e,i,j,k,h0,h1,h2,h3⟩:=h;f a b c d e i j k h0 h1 h2 h3
theorem xE9_2 {A B C D E F I J K:Type}{p f1:A->B->C->D->E->F->I->J->K->Prop}{G:Prop}(h:∃ a b c d e i j k l,p a b c d e i j k l/\f1 a b c d e i j k l)(f:∀ a b c d e i j k l,p a b c d e i j k l->f1 a b c d e i j k l->G):G:=let ⟨a,b,c,d,e,i,j,k,l,h0,h1⟩:=h;f a b c d e i j k l h0 h1
theorem Zqq {A B C D E F I J K:Type}{p f1 f2:A->B->C->D->E->F->I->J->K->Prop}{G:Prop}(h:∃ a b c d e i j k l,p a b c d e i j k l/\f1 a b c d e i j k l/\f2 a b c d e i j k l)(f:∀ a b c d e i j k l,p a b c d e i j k l->f1 a b c d e i j k l->f2 a b c d e i j k l->G):G:=let ⟨a,b,c,d,e,i,j,k,l,h0,h1,h2⟩:=h;f a b c d e i j k l h0 h1 h2
theorem xE9_4 {A B C D E F I J K:Type}{p f1 f2 f3:A->B->C->D->E->F->I->J->K->Prop}{G:Prop}(h:∃ a b c d e i j k l,p a b c d e i j k l/\f1 a b c d e i j k l/\f2 a b c d e i j k l/\f3 a b c d e i j k l)(f:∀ a b c d e i j k l,p a b c d e i j k l->f1 a b c d e i j k l->f2 a b c d e i j k l->f3 a b c d e i j k l->G):G:=let ⟨a,b,c,d,e,i,j,k,l,h0,h1,h2,h3⟩:=h;f a b c d e i j k l h0 h1 h2 h3
theorem xI11_1 {A B C D E F I J K L M:Type}{p:A->B->C->D->E->F->I->J->K->L->M->Prop}(a:A)(b:B)(c:C)(d:D)(e:E)(i:F)(j:I)(k:J)(l:K)(m:L)(n:M)(h0:p a b c d e i j k l m n):∃ a b c d e i j k l m n,p a b c d e i j k l m n:=⟨a,b,c,d,e,i,j,k,l,m,n,h0⟩
theorem Zok {A B C D E F I J K L M N O P:Type}{p:A->B->C->D->E->F->I->J->K->L->M->N->O->P->Prop}(a:A)(b:B)(c:C)(d:D)(e:E)(i:F)(j:I)(k:J)(l:K)(m:L)(n:M)(o:N)(q:O)(r:P)(h0:p a b c d e i j k l m n o q r):∃ a b c d e i j k l m n o q r,p a b c d e i j k l m n o q r:=⟨a,b,c,d,e,i,j,k,l,m,n,o,q,r,h0⟩
theorem Zoj {A B C D E F I J K L M N O P Q:Type}{p:A->B->C->D->E->F->I->J->K->L->M->N->O->P->Q->Prop}(a:A)(b:B)(c:C)(d:D)(e:E)(i:F)(j:I)(k:J)(l:K)(m:L)(n:M)(o:N)(q:O)(r:P)(s:Q)(h0:p a b c d e i j k l m n o q r s):∃ a b c d e i j k l m n o q r s,p a b c d e i j k l m n o q r s:=⟨a,b,c,d,e,i,j,k,l,m,n,o,q,r,s,h0⟩
theorem Zat {A B:Type}{p:A->B->Prop}(a:A)(b:B)(h0:p a b):∃ a b,p a b:=⟨a,b,h0⟩
theorem Zcm {A B C:Type}{p:A->B->C->Prop}(a:A)(b:B)(c:C)(h0:p a b c):∃ a b c,p a b c:=⟨a,b,c,h0⟩
theorem Zg8 {A B C D:Type}{p:A->B->C->D->Prop}(a:A)(b:B)(c:C)(d:D)(h0:p a b c d):∃ a b c d,p a b c d:=⟨a,b,c,d,h0⟩
theorem Zir {A B C D E:Type}{p:A->B->C->D->E->Prop}(a:A)(b:B)(c:C)(d:D)(e:E)(h0:p a b c d e):∃ a b c d e,p a b c d e:=⟨a,b,c,d,e,h0⟩
theorem Zpy {A B C D E F:Type}{p:A->B->C->D->E->F->Prop}(a:A)(b:B)(c:C)(d:D)(e:E)(i:F)(h0:p a b c d e i):∃ a b c d e i,p a b c d e i:=⟨a,b,c,d,e,i,h0⟩
theorem Zpx {A B C D E F I:Type}{p:A->B->C->D->E->F->I->Prop}(a:A)(b:B)(c:C)(d:D)(e:E)(i:F)(j:I)(h0:p a b c d e i j):∃ a b c d e i j,p a b c d e i j:=⟨a,b,c,d,e,i,j,h0⟩
theorem xI8_1 {A B C D E F I J:Type}{p:A->B->C->D->E->F->I->J->Prop}(a:A)(b:B)(c:C)(d:D)(e:E)(i:F)(j:I)(k:J)(h0:p a b c d e i j k):∃ a b c d e i j k,p a b c d e i j k:=⟨a,b,c,d,e,i,j,k,h0⟩
theorem Zt9 {A B C D E F I J K:Type}{p:A->B->C->D->E->F->I->J->K->Prop}(a:A)(b:B)(c:C)(d:D)(e:E)(i:F)(j:I)(k:J)(l:K)(h0:p a b c d e i j k l):∃ a b c d e i j k l,p a b c d e i j k l:=⟨a,b,c,d,e,i,j,k,l,h0⟩
end L2
theorem oz1 {a:Nat}{z:Int}(h0:z<=(24:Int))(h1:a<((2:Int)*z).toNat):3*a+7<=200:=∅
theorem oz2 {z y:Int}(h0:(0:Int)<=z)(h1:z<y):z.natAbs<=y.natAbs:=∅
theorem oz3 {a:Nat}{z y:Int}(h0:(1:Int)<=z)(h1:(↑a:Int)=z)(h2:y<z):y.toNat<a:=∅
theorem oz4 {a b:Nat}{z y:Int}(h0:(1:Int)<=z)(h1:(↑a:Int)=z)(h2:b=a)(h3:y<z):y.toNat<b:=∅
theorem oz5 {a b:Nat}(h0:¬a<b)(h1:a<b+1):a=b:=∅
theorem oz6 {a b:Nat}(h0:a<=b)(h1:¬a=b):a<b:=∅
theorem oz7 {a b:Nat}{z:Int}(h0:a=z.toNat)(h1:b<z.toNat):b<a:=∅
theorem oz8 {a b c:Nat}(h0:a=b)(h1:¬c<a)(h2:c-a=0):c=b:=∅
theorem oz9 {a b c:Nat}(h0:a=b)(h1:c<a):c<b:=∅
theorem oz10 {a b:Nat}(h0:¬a-b=0):1<=a-b:=∅
theorem oz11 {a b:Nat}{z y:Int}(h0:z.toNat<y.toNat)(h1:a=b)(h2:b=y.toNat):z.toNat<a:=∅
theorem oz12 {a b c d:Nat}(h0:a=b)(h1:c=min d a):c=min d b:=∅
theorem oz13 {z y x Z Y X:Int}(h0:(0:Int)<=z)(h1:(0:Int)<=y)(h2:(x*y+Z*z).natAbs+(Y*y+X*z).natAbs<(y+z).natAbs):(↑(x*y+Z*z).natAbs:Int)+(↑(Y*y+X*z).natAbs:Int)<y+z:=∅
theorem Zc4 {a b c:Nat}(h0:a=b)(h1:c<b):c<a:=∅
theorem oz15 {a b:Nat}:a+b-a=b:=∅
theorem oz16 {z y x Z:Int}:(0:Int)<=(↑(z*y+x*Z).natAbs:Int):=∅
theorem Zu4 {a b:Nat}(h0:a=b):b=a:=∅
theorem oz18 {a b c:Nat}(h0:a=b):a-1-c=b-1-c:=∅
theorem oz19 {a b c:Nat}(h0:a=b)(h1:c=b):c=a:=∅
theorem oz20 {a:Nat}{z:Int}(h0:z<=(↑a:Int)):min z.toNat a=z.toNat:=∅
theorem oz21 {a b c d:Nat}(h0:a=b)(h1:c=b)(h2:d-a=0):d-c=0:=∅
theorem oz22 {a b c d:Nat}(h0:a=b)(h1:c=a)(h2:d=c):d=b:=∅
theorem oz23 {z y x:Int}(h0:z<=(97:Int))(h1:y<=z)(h2:(0:Int)<=y / x)(h3:y / x<=y):(y / x).natAbs<=97:=∅
theorem oz24 {a b c d:Nat}(h0:a=b)(h1:c=a)(h2:d<c):d<b:=∅
theorem oz25 {a b c:Nat}(h0:a=b)(h1:c=b):a=c:=∅
theorem oz26 {a b c:Nat}(h0:a=b)(h1:c=a):c=b:=∅
theorem oz27 {a b c d e f:Nat}(h0:a<=900)(h1:b=a)(h2:c=b)(h3:d=c)(h4:e=min f d):d+e<=2000:=∅
theorem oz28 {a b:Nat}(h0:a<=9)(h1:a=b):b<=9:=∅
theorem oz29 {a b c d e f:Nat}(h0:a<=900)(h1:b=a)(h2:c<=900)(h3:d=b)(h4:e=d)(h5:2000<=f):c+((↑e:Int)-(↑c:Int)).toNat*1<=f:=∅
theorem oz30 {a b c d e f:Nat}(h0:a+b=c)(h1:a=d)(h2:e=c)(h3:f=e):f=d+((↑f:Int)-(↑d:Int)).toNat:=∅
theorem oz31 {a b c d:Nat}(h0:a=b)(h1:c=b)(h2:d<a):d<c:=∅
theorem Zik {a:Nat}:(0:Int)<=(↑a:Int):=∅
theorem oz33 {a:Nat}:((0:Int)+(↑a:Int)).toNat=a:=∅
theorem oz34 {a b:Nat}{z y:Int}(h0:z.natAbs<=a*b)(h1:y.natAbs<=b):(z+y).natAbs<=a*b+b:=∅
theorem oz35 {z y x:Int}(h0:z<y)(h1:y<=x):z<=x:=∅
theorem oz36 {a b c d e:Nat}(h0:a=b)(h1:c=min d a)(h2:e<c):e<min d b:=∅
theorem oz37 {a:Nat}:((↑a:Int)-(126:Int)).toNat=a-126:=∅
theorem Zmd {a b:Nat}(h0:¬a<b):b<=a:=∅
theorem oz39 {a b c d e:Nat}(h0:a<=900)(h1:b=a)(h2:c=b)(h3:d=c):min e d<=1000:=∅
theorem oz40 {a b:Nat}(h0:a<=b):a+1<=b+1:=∅
theorem oz41 {a b c:Nat}(h0:a+b<=9)(h1:c<a):c+(b+1)<=9:=∅
theorem oz42 {a b c d:Nat}(h0:a=b)(h1:c<d)(h2:d<=a):c<b:=∅
theorem Zm6 {a b c:Nat}(h0:a<b)(h1:c=b):a<c:=∅
theorem oz44 {a b:Nat}(h0:a<b+1)(h1:¬a=b):a<b:=∅
theorem oz45 {a:Nat}(h0:126<=a):64+(a-126)=a-62:=∅
theorem oz46 {z y:Int}(h0:(0:Int)<=z)(h1:(0:Int)<=y)(h2:¬z=y):z.toNat≠y.toNat:=∅
theorem oz47 {z:Int}:(0:Int)<=(↑z.natAbs:Int):=∅
theorem oz48 {a b:Nat}:min a (a+b)=a:=∅
theorem Zw4 {a:Nat}(h0:a<=24):a<=200:=∅
theorem oz50 {a:Nat}{z:Int}(h0:(0:Int)<=z)(h1:z.toNat<a):min z.toNat a+(a-(z+(1:Int)).toNat)<a:=∅
theorem oz51 {z y x:Int}(h0:z<=(97:Int))(h1:y<x)(h2:x<=z)(h3:(1:Int)<y):y.natAbs<=97:=∅
theorem oz52 {a:Nat}{z:Int}(h0:(0:Int)<=z)(h1:a=z.toNat):(↑a:Int)=z:=∅
theorem oz53 {a b c d:Nat}(h0:a<=9)(h1:b=a)(h2:c=d)(h3:d<b):c<=1000:=∅
theorem oz54 {z:Int}(h0:(0:Int)<=z):(z+(1:Int)).toNat=z.toNat+1:=∅
theorem oz55 {a b c d e f:Nat}(h0:a<=900)(h1:b=a)(h2:c=b)(h3:d=c)(h4:2000<=e):1*((↑d:Int)-(↑f:Int)).toNat<=e:=∅
theorem oz56 {a b:Nat}{z:Int}(h0:z<=(24:Int))(h1:a<z.toNat)(h2:b=a):b<=1000:=∅
theorem oz57 {a b:Nat}{z y x:Int}(h0:(0:Int)<z)(h1:z<=y*x)(h2:(y*x).natAbs<=a*b):z.natAbs<=a*b:=∅
theorem oz58 {a b c:Nat}(h0:0<((a+1)*b+1)*c):((a+1)*b+1)*c-1+1=((a+1)*b+1)*c:=∅
theorem oz59 {a b:Nat}(h0:a<b):a<b:=∅
theorem oz60 {z:Int}:((2:Int)*z).toNat=2*z.toNat:=∅
theorem oz61 {z y x:Int}(h0:z<=(97:Int))(h1:y<x)(h2:x<=z):y<(1073741824:Int):=∅
theorem oz62 {z:Int}(h0:z<=(4:Int)):z.toNat=0\/z.toNat=1\/z.toNat=2\/z.toNat=3\/z.toNat=4:=∅
theorem oz63 {a:Nat}{z:Int}(h0:a<z.toNat):(↑a:Int)<z:=∅
theorem oz64 {a b:Nat}(h0:a+b<=9):b<=1000:=∅
theorem oz66 {z y x:Int}(h0:z<y)(h1:x.toNat<y.toNat):z.toNat<y.toNat:=∅
theorem oz67 {a b c d e:Nat}(h0:a<=900)(h1:b=a)(h2:c=b)(h3:d=c):(↑d:Int)-(↑e:Int)<(2:Int) ^ 63:=∅
theorem oz68 {a b c:Nat}(h0:a=b)(h1:¬c<b):a<=c:=∅
theorem oz69 {a b c d:Nat}(h0:a=b)(h1:c=b)(h2:d<c):d<a:=∅
theorem oz70 {a:Nat}{z:Int}(h0:z=(↑a:Int)):(0:Int)<=z:=∅
theorem oz71 {a b:Nat}{z y:Int}(h0:(↑a:Int)+(↑b:Int)=z)(h1:y.toNat<a):(↑(min y.toNat a):Int)+(↑(a-(y.toNat+1)):Int)+((↑b:Int)+(1:Int))=z:=∅
theorem oz72 {a:Nat}{z y:Int}(h0:(↑a:Int)=z)(h1:y<z):y<(↑a:Int):=∅
theorem Zr9 {z:Int}(h0:(1:Int)<z):(0:Int)<z:=∅
theorem oz74 {a b:Nat}(h0:a=b):a=b:=∅
theorem oz75 {a:Nat}(h0:a<=900):a<=1000:=∅
theorem oz76 {a b c d e:Nat}(h0:a<=200)(h1:b=a)(h2:c<b)(h3:d=min c e):d<=1000:=∅
theorem oz77 {a:Nat}{z:Int}(h0:(0:Int)<=z)(h1:z<(↑a:Int)):z.toNat<a:=∅
theorem oz78 {a b c:Nat}(h0:a=b)(h1:c=a):b=c:=∅
theorem oz79 {a b c:Nat}(h0:a=b)(h1:c=b):¬a<c:=∅
theorem oz80 {a:Nat}:a-62<=a-1:=∅
theorem oz81 {a b c:Nat}(h0:a<=b)(h1:c=b)(h2:¬a=b):a<c:=∅
theorem oz82 {a b c:Nat}(h0:a<=24)(h1:b=a)(h2:c=b):c<=1000:=∅
theorem oz83 {z:Int}(h0:(0:Int)<z):(0:Int)<=z:=∅
theorem oz84 {z y:Int}(h0:(0:Int)<=z/\z<=(6:Int)/\(y=(0:Int)->z<=(4:Int))):z.toNat<=24:=∅
theorem oz85 {a:Nat}{z:Int}(h0:(↑a:Int)=z):a=z.toNat:=∅
theorem oz86 {z y x Z:Int}(h0:z<(85070591730234615865843651857942052864:Int))(h1:y<=z)(h2:x<=z+y)(h3:(0:Int)<=x / Z)(h4:x / Z<=x):(x / Z).natAbs<170141183460469231731687303715884105728:=∅
theorem oz87 {a b:Nat}(h0:a<=900)(h1:b=a):b<=900:=∅
theorem oz88 {a:Nat}{z y:Int}(h0:(↑a:Int)=z)(h1:(0:Int)<=y)(h2:y<z):y.toNat<a:=∅
theorem oz89 {a b:Nat}(h0:a<=24)(h1:b=a):b<=900:=∅
theorem oz90 {a b:Nat}{z:Int}(h0:(↑a:Int)=z)(h1:a=b):b=z.toNat:=∅
theorem oz91 {a b c:Nat}(h0:a<b)(h1:b=c):a<c:=∅
theorem oz92 {z y x Z:Int}(h0:(0:Int)<=z)(h1:(0:Int)<=y)(h2:z+y<x+Z):(z+y).toNat<(x+Z).toNat:=∅
theorem oz93 {a b c:Nat}(h0:a<=1000)(h1:b<a)(h2:c=b):c<=1000:=∅
theorem oz94 {z y:Int}(h0:z<y)(h1:(1:Int)<z):(0:Int)<=y:=∅
-- CHANGE: your row's module here,as the last of these rows
set_option Elab.async false
set_option linter.all false
set_option maxRecDepth 100000
namespace L2
open PySem PySem.Spec PyProof.Rows
abbrev Key:=Sum Int Str
def keyIs:Key->Value->Bool
 | .inl k,v=>Value.isInt k v
 | .inr x,v=>Value.isStrOf x v
def keyH (w:World):Key->Int
 | .inl k=>hashInt k
 | .inr x=>hashStr w x
theorem Zbz:∀ {k:Key} {v:Value},keyIs k v=true->(∃ i t,k=Sum.inl i/\v=Value.int i t)\/(∃ x t,k=Sum.inr x/\v=Value.str x t)
 | .inl i,v,h=>by
  obtain⟨t,e⟩:=Value.isInt_shape (k:=i) (v:=v) h;exact .inl ⟨i,t,rfl,e⟩
 | .inr x,v,h=>by
  obtain⟨t,e⟩:=Value.isStrOf_shape (x:=x) (v:=v) h;exact .inr ⟨x,t,rfl,e⟩
theorem key_ll (a b:Int):decide ((Sum.inl a:Key)=Sum.inl b)=(a == b):=by
 by_cases e:a=b
 .subst e;simp
 .have h:¬ (Sum.inl a:Key)=Sum.inl b:=λq=>e (Sum.inl.inj q);rw[Jbg h];exact (Jdf.mpr e).symm
theorem key_rr (a b:Str):decide ((Sum.inr a:Key)=Sum.inr b)=decide (a=b):=by
 by_cases e:a=b
 .subst e;simp
 .have h:¬ (Sum.inr a:Key)=Sum.inr b:=λq=>e (Sum.inr.inj q);rw[Jbg h,Jbg e]
theorem key_lr (a:Int)(b:Str):decide ((Sum.inl a:Key)=Sum.inr b)=false:=Jbg (λq=>nomatch q)
theorem key_rl (a:Str)(b:Int):decide ((Sum.inr a:Key)=Sum.inl b)=false:=Jbg (λq=>nomatch q)
def Zsp (prog:Program)(w:World):PySem.KeyKind prog w Key where
 is:=keyIs
 hash:=keyH w
 inj:=λv a b ha hb=>by
  rcases Zbz ha with ⟨i,t,rfl,rfl⟩|⟨x,t,rfl,rfl⟩
  .rcases Zbz hb with ⟨j,u,rfl,e⟩|⟨y,u,rfl,e⟩
   .injection e with e1 _;rw[e1]
   .exact nomatch e
  .rcases Zbz hb with ⟨j,u,rfl,e⟩|⟨y,u,rfl,e⟩
   .exact nomatch e
   .injection e with e1 _;rw[e1]
 byValue:=λk v h=>by
  rcases Zbz h with ⟨i,t,rfl,rfl⟩|⟨x,t,rfl,rfl⟩ <;> rfl
 pyHash:=λhv h=>by
  rcases Zbz hv with ⟨i,t,rfl,rfl⟩|⟨x,t,rfl,rfl⟩
  .exact wpAny_pyHash_int h
  .exact wpAny_pyHash_str h
 eqBool:=λhu hv h=>by
  rcases Zbz hu with ⟨i,t,rfl,rfl⟩|⟨x,t,rfl,rfl⟩
  .rcases Zbz hv with ⟨j,u,rfl,rfl⟩|⟨y,u,rfl,rfl⟩
   .rw [key_ll] at h;exact wpAny_eqBool_int h
   .rw [key_lr] at h;exact SeqAt.EqAt.int_str i t y u _ _ _ _ h
  .rcases Zbz hv with ⟨j,u,rfl,rfl⟩|⟨y,u,rfl,rfl⟩
   .rw [key_rl] at h;exact SeqAt.EqAt.str_int x t j u _ _ _ _ h
   .rw [key_rr] at h;exact wpAny_eqBool_str h
 «strs»:=λk x t v h=>by
  rcases Zbz h with ⟨i,u,rfl,e⟩|⟨y,u,rfl,e⟩
  .exact nomatch e
  .injection e with e1 _
   subst e1;cases v <;> rfl
inductive V where
 | non|bl (b:Bool)|int (i:Int)|str (x:Str)|byt (b:Array UInt8)|flt (b:UInt64)|ref (a:Addr)|ty (n:String)
 deriving DecidableEq
def RelV:V->Value->Prop
 | .non,u=>u=Value.none
 | .bl b,u=>u=Value.bool b
 | .int i,u=>∃ t,u=Value.int i t
 | .str x,u=>∃ t,u=Value.str x t
 | .byt b,u=>∃ t,u=Value.bytes b t
 | .flt b,u=>∃ t,u=Value.float b t
 | .ref a,u=>u=Value.ref a
 | .ty n,u=>u=Value.type n
abbrev Vals:List V->List Value->Prop:=Paired RelV
theorem Vals.length {xs:List V}{us:List Value}(r:Vals xs us):xs.length=us.length:=Paired.length r
theorem Vals.get:∀ {xs:List V} {us:List Value} {i:Nat} {x:V},Vals xs us->xs[i]?=some x->∃ u,us[i]?=some u/\RelV x u
 | _,_,_,_,.nil,e=>by simp at e
 | _,_,0,_,.cons r _,e=>by simp at e;subst e;exact⟨_,rfl,r⟩
 | _,_,i+1,x,.cons _ t,e=>by
  refine Zad (Vals.get (i:=i) (x:=x) t (by simpa using e)) λu h1 h2=>?_;exact⟨u,by simpa using h1,h2⟩
theorem Vals.set {x:V}{u:Value}(r:RelV x u):∀ {xs:List V} {us:List Value} (i:Nat),Vals xs us->Vals (xs.set i x) (us.set i u)
 | _,_,_,.nil=>.nil
 | _,_,0,.cons _ t=>.cons r t
 | _,_,i+1,.cons q t=>.cons q (Vals.set r i t)
theorem Vals.append:∀ {xs ys:List V} {us ws:List Value},Vals xs us->Vals ys ws->Vals (xs++ys) (us++ws)
 | _,_,_,_,.nil,s=>s
 | _,_,_,_,.cons r t,s=>.cons r (Vals.append t s)
theorem Vals.take:∀ {xs:List V} {us:List Value} (n:Nat),Vals xs us->Vals (xs.take n) (us.take n)
 | _,_,0,_=>.nil
 | _,_,_+1,.nil=>.nil
 | _,_,n+1,.cons r t=>.cons r (Vals.take n t)
theorem Vals.drop:∀ {xs:List V} {us:List Value} (n:Nat),Vals xs us->Vals (xs.drop n) (us.drop n)
 | _,_,0,r=>r
 | _,_,_+1,.nil=>.nil
 | _,_,n+1,.cons _ t=>Vals.drop n t
def RelO:Option V->Option Value->Prop
 | some v,some u=>RelV v u
 | none,none=>True
 | _,_=>False
def KV {κ:Type}:List (κ×V)->List (κ×Value)->Prop:=Paired λ(p:κ×V) (q:κ×Value)=>p.1=q.1/\RelV p.2 q.2
def kV:Key->V
 | .inl i=>.int i
 | .inr x=>.str x
inductive HO where
  | lst (xs:List V)
  | tup (xs:List V)
  | dK (kvs:List (Key×V))|dT (kvs:List (List Key×V))
  | set (S:Int->Bool) (n:Nat)
  | ins (C dx:Addr) (fs:List (Str×V))
  | own (x:Addr)
  | xd (fs:List (Str×V))
  | met (f x:Addr)
  | rng (lo hi:Int)
  | frz (o:Obj) (u:HO)
  | tbl (ps:Array Value)
  | ext (φ:Heap->Prop)
  | tab (l c:Int) (q:Str)
abbrev Hp:=Addr->Option HO
def upd (H:Hp)(a:Addr)(o:HO):Hp:=λb=>if b=a then some o else H b
theorem Zab {H:Hp}{a:Addr}{o:HO}:upd H a o a=some o:=by unfold upd;rw[if_pos rfl]
theorem Zag {H:Hp}{a b:Addr}{o:HO}(h:b≠a):upd H a o b=H b:=by unfold upd;rw[if_neg h]
theorem upd_upd {H:Hp}{a:Addr}{o u:HO}:upd (upd H a o) a u=upd H a u:=by
 funext b;unfold upd;split <;> rfl
theorem Zez {H:Hp}{a b:Addr}{o u:HO}(h:H a=some o)(h':H b=some u)(d:o≠u):a≠b:=by
 intro e;subst e;rw[h] at h';exact d (Jbi h')
theorem Zaf {H:Hp}{a b:Addr}{o:HO}(h:H a=some o)(h':H b=none):a≠b:=by
 intro e;subst e;rw[h] at h';cases h'
section
variable (P:Program)(w:World)
def ObjOk (H:Hp)(h:Heap)(a:Addr):HO->Prop
 | .lst xs=>xs.length<=sizeLine/\∃ (its:List Value) (n:Nat),Vals xs its/\h.get? a=some { cls:=.type "list",data:=.seq its.toArray n }
 | .tup xs=>xs.length<=sizeLine/\∃ its:List Value,Vals xs its/\IsTup h a its.toArray
 | .dK kvs=>kvs.length<=sizeLine/\(a == sysModules)=false/\∃ vs,KV kvs vs/\h.DictOf (Zsp P w) a vs
 | .dT kvs=>kvs.length<=sizeLine/\(a == sysModules)=false/\∃ xs:List (List Key×Addr×Value),
   Paired (λ(p:List Key×V) (q:List Key×Addr×Value)=>p.1=q.1/\H q.2.1=some (.tup (p.1.map kV))/\RelV p.2 q.2.2) kvs xs /\
   ∃ o es ep,h.get? a=some o/\o.ExactDict/\o.data=.dict es ep/\es.toList=xs.map (entryOfKey (tupleKind (Zsp P w)))/\(xs.map (·.1)).Nodup
 | .set S n=>h.SetOf (intKind P w) a S n
 | .ins C dx fs=>H dx=some (.own a)/\fs.length<=1000/\dx≠a/\h.get? a=some (PySem.W.instObj C dx) /\
   ∃ mA,h.Ns1 dx mA/\(∀ f,RelO (fs.lookup f) (mA f))/\PySem.Within mA (fs.map (·.1))
 | .own _=>∃ o,h.get? a=some o
 | .xd fs=>∃ mA,h.Ns1 a mA/\∀ f,RelO (fs.lookup f) (mA f)
 | .rng lo hi=>∃ t u v,h.get? a=some { cls:=.type "range",data:=.fields #[.int lo t,.int hi u,.int 1 v] }
 | .frz o u=>h.get? a=some o/\ObjOk H h a u
 | .tbl ps=>h.get? a=some { cls:=.none,data:=.fields ps }
 | .met f x=>h.get? a=some (PySem.W.methodObj (.ref f) (.ref x))
 | .ext φ=>φ h/\(∃ o,h.get? a=some o)/\∀ h1 h2:Heap,φ h1->(∀ o,h1.get? a=some o->h2.get? a=some o)->φ h2
 | .tab l c q=>h.get? a=some { cls:=.none,data:=.fields #[] }\/∃ c' oc vs t,h.get? a=some { cls:=.none,data:=.fields #[rawInt l,rawInt c,.ref c'] }/\c'≠a/\H c'=some (.frz oc (.own a))/\oc.data=.fields vs/\vs[1]?=some (.str q t)
def HOk (H:Hp)(h:Heap):Prop:=∀ a o,H a=some o->ObjOk P w H h a o
end
section
variable {P:Program}{w:World}{H H':Hp}{h h':Heap}{a:Addr}{o:HO}
theorem ObjOk.lt (x:ObjOk P w H h a o):a<h.objs.size:=by
 cases o with
 | lst xs=>obtain⟨_,_,_,_,e⟩:=x;exact Jam e
 | tup xs=>obtain⟨_,_,_,p⟩:=x;exact p.lt
 | dK kvs=>obtain⟨_,_,_,_,o,_,_,e,_⟩:=x;exact Jam e
 | dT kvs=>obtain⟨_,_,_,_,o,_,_,e,_⟩:=x;exact Jam e
 | set S n=>obtain⟨o,_,_,_,e,_⟩:=x;exact Jam e
 | ins C dx fs=>obtain⟨_,_,_,e,_⟩:=x;exact Jam e
 | own y=>obtain⟨_,e⟩:=x;exact Jam e
 | xd fs=>obtain⟨_,⟨_,_,_,e,_⟩,_⟩:=x;exact Jam e
 | rng lo hi=>obtain⟨_,_,_,e⟩:=x;exact Jam e
 | frz ob u=>obtain⟨e,_⟩:=x;exact Jam e
 | tbl ps=>exact Jam (show h.get? a=some _ from x)
 | met f y=>exact Jam (show h.get? a=some _ from x)
 | ext φ=>obtain⟨_,⟨_,e⟩,_⟩:=x;exact Jam e
 | tab l c q=>
  rcases x with e|⟨_,_,_,_,e,_⟩
  .exact Jam e
  .exact Jam e
theorem Paired.mapP {α β:Type}{F G:α->β->Prop}:∀ {l₁:List α} {l₂:List β},Paired F l₁ l₂->(∀ a b,F a b->G a b)->Paired G l₁ l₂
 | _,_,.nil,_=>.nil
 | _,_,.cons r t,f=>.cons (f _ _ r) (Paired.mapP t f)
theorem ObjOk.stay (x:ObjOk P w H h a o)(k:∀ b u,(b=a\/H b=some (.own a))->h.get? b=some u->h'.get? b=some u)(ho:∀ b,H b=some (.own a)->H' b=some (.own a))(ht:∀ b xs,H b=some (.tup xs)->H' b=some (.tup xs))(hz:∀ b o' u,H b=some (.frz o' u)->H' b=some (.frz o' u)):ObjOk P w H' h' a o:=by
 induction o with
 | lst xs=>obtain⟨z,its,n,r,e⟩:=x;exact⟨z,its,n,r,k _ _ (.inl rfl) e⟩
 | tup xs=>obtain⟨z,its,r,ob,e,c⟩:=x;exact⟨z,its,r,ob,k _ _ (.inl rfl) e,c⟩
 | dK kvs=>obtain⟨z,y,vs,r,ob,es,ep,e,c⟩:=x;exact⟨z,y,vs,r,ob,es,ep,k _ _ (.inl rfl) e,c⟩
 | dT kvs=>
  refine Za2 x λz y e916=>?_;clear x;obtain⟨xs,r,ob,es,ep,e,c⟩:=e916;exact⟨z,y,xs,Paired.mapP r λp q z=>⟨z.1,ht _ _ z.2.1,z.2.2⟩,ob,es,ep,k _ _ (.inl rfl) e,c⟩
 | set S n=>obtain⟨ob,es,ep,t,e,c⟩:=x;exact⟨ob,es,ep,t,k _ _ (.inl rfl) e,c⟩
 | ins C dx fs=>
  refine Zcf x λd z ne e e917=>?_;clear x;obtain⟨mA,⟨od,es,ep,e2,c⟩,r⟩:=e917;exact⟨ho _ d,z,ne,k _ _ (.inl rfl) e,mA,⟨od,es,ep,k _ _ (.inr d) e2,c⟩,r⟩
 | own y=>obtain⟨ob,e⟩:=x;exact⟨ob,k _ _ (.inl rfl) e⟩
 | xd fs=>obtain⟨mA,⟨od,es,ep,e,c⟩,r⟩:=x;exact⟨mA,⟨od,es,ep,k _ _ (.inl rfl) e,c⟩,r⟩
 | rng lo hi=>obtain⟨t,u,v,e⟩:=x;exact⟨t,u,v,k _ _ (.inl rfl) e⟩
 | frz ob u ih=>obtain⟨e,q⟩:=x;exact⟨k _ _ (.inl rfl) e,ih q⟩
 | tbl ps=>
  have e:h.get? a=some { cls:=.none,data:=.fields ps }:=x;show h'.get? a=some { cls:=.none,data:=.fields ps };exact k a _ (.inl rfl) e
 | met f y=>
  have e:h.get? a=some (PySem.W.methodObj (.ref f) (.ref y)):=x;show h'.get? a=some (PySem.W.methodObj (.ref f) (.ref y));exact k a _ (.inl rfl) e
 | ext φ=>obtain⟨p,⟨o,e⟩,st⟩:=x;exact⟨st _ _ p λo q=>k _ _ (.inl rfl) q,⟨o,k _ _ (.inl rfl) e⟩,st⟩
 | tab l c q=>
  rcases x with e|⟨c',oc,vs,t,e,ne,e2,r⟩
  .exact .inl (k _ _ (.inl rfl) e)
  .exact .inr ⟨c',oc,vs,t,k _ _ (.inl rfl) e,ne,hz _ _ _ e2,r⟩
theorem HOk.lt (x:HOk P w H h)(e:H a=some o):a<h.objs.size:=(x a o e).lt
theorem HOk.fresh (x:HOk P w H h)(e:h.objs.size<=a):H a=none:=by
 cases q:H a with
 | none=>rfl
 | some u=>exact absurd (Jaw (x.lt q) e) (Jbp _)
theorem HOk.kept (x:HOk P w H h)(k:∀ b u,h.get? b=some u->h'.get? b=some u):HOk P w H h':=λa o e=>
 (x a o e).stay (λb u _ q=>k b u q) (λ_ q=>q) (λ_ _ q=>q) λ_ _ _ q=>q
theorem HOk.laid (x:HOk P w H h)(k:∀ b u,h.get? b=some u->h'.get? b=some u)(hp:h.objs.size<=a)(new:ObjOk P w (upd H a o) h' a o):HOk P w (upd H a o) h':=λb u e=>by
 have hn:=x.fresh hp;by_cases hb:b=a
 .subst hb;rw[Zab] at e;cases e;exact new
 .rw [Zag hb] at e;exact (x b u e).stay (λc v _ q=>k c v q) (λc q=>by rw[Zag (Zaf q hn)];exact q) (λc xs q=>by rw[Zag (Zaf q hn)];exact q) λc _ _ q=>by rw[Zag (Zaf q hn)];exact q
end
def Rd (H:Hp)(a:Addr)(u:HO):Prop:=H a=some u\/∃ o,H a=some (.frz o u)
theorem Rd.ok {P:Program}{w:World}{H:Hp}{h:Heap}{a:Addr}{u:HO}(r:Rd H a u)(x:HOk P w H h):ObjOk P w H h a u:=by
 rcases r with r|⟨o,r⟩
 .exact x a u r
 .obtain ⟨_,q⟩:=x a _ r;exact q
def Mut:Option HO->Prop
 | some (.lst _)=>True
 | some (.dK _)=>True
 | some (.dT _)=>True
 | some (.set _ _)=>True
 | some (.ins _ _ _)=>True
 | some (.ext _)=>True
 | some (.tab _ _ _)=>True
 | _=>False
section
variable {P:Program}{w:World}{H:Hp}{h h':Heap}{x e:Addr}{o':HO}
theorem HOk.write (ok:HOk P w H h)(mu:Mut (H x))(he:e=x\/H e=some (.own x))(k:∀ b u,b≠e->h.get? b=some u->h'.get? b=some u)(heo:∃ u,h'.get? e=some u)(new:ObjOk P w (upd H x o') h' x o'):HOk P w (upd H x o') h':=λb u q=>by
 have nown:∀ c y,H c=some (.own y)->c≠x:=λc y r z=>by subst z;rw[r] at mu;exact mu
 have ntup:∀ c xs,H c=some (.tup xs)->c≠x:=λc xs r z=>by subst z;rw[r] at mu;exact mu
 have nfrz:∀ c o' u',H c=some (.frz o' u')->c≠x:=λc o' u' r z=>by subst z;rw[r] at mu;exact mu
 by_cases hb:b=x
 .subst hb;rw[Zab] at q;cases q;exact new
 .rw [Zag hb] at q;by_cases hbe:b=e
  .have q':H b=some (.own x):=by
    rcases he with z|z
    .exact absurd (hbe.trans z) hb
    .rw [hbe];exact z
   rw[q] at q';cases q';obtain⟨v,hv⟩:=heo;exact⟨v,by rw[hbe];exact hv⟩
  .refine (ok b u q).stay (λc v hc r=>k c v ?_ r) (λc r=>by rw[Zag (nown c b r)];exact r) (λc xs r=>by rw[Zag (ntup c xs r)];exact r) λc o' u' r=>by rw[Zag (nfrz c o' u' r)];exact r
   rcases hc with rfl|hc
   .exact hbe
   .rintro rfl;rcases he with z|z
    .exact nown c b hc z
    .rw [hc] at z;cases z;exact hb rfl
end
structure Un (fs ex:List Addr)(H H':Hp)(h h':Heap):Prop where
 keep:∀ b o,h.get? b=some o->H b=none->b∉fs->b∉ex->h'.get? b=some o
 slot:∀ b o,h.get? b=some o->H b=none->b∈fs->b∉ex->∃ sl,h'.get? b=some { o with slots:=sl }
 free:∀ b o,h.get? b=some o->H b=none->b∉ex->H' b=none
 there:∀ b o,h.get? b=some o->b∉ex->∃ o',h'.get? b=some o'
 tups:∀ b xs,H b=some (.tup xs)->H' b=some (.tup xs)
 frzs:∀ b o u,H b=some (.frz o u)->H' b=some (.frz o u)
 tbls:∀ b ps,H b=some (.tbl ps)->∃ more,H' b=some (.tbl (ps++more))
section
variable {fs fs' ex ex':List Addr}{H H1 H2:Hp}{h h1 h2 h':Heap}{a x e:Addr}{o:HO}
theorem Un.any (u:Un fs ex H H1 h h1){b:Addr}{ob:Obj}(q:h.get? b=some ob)(n:H b=none)(hx:b∉ex):∃ sl,h1.get? b=some { ob with slots:=sl }:=by
 by_cases hb:b∈fs
 .exact u.slot b ob q n hb hx
 .exact ⟨ob.slots,u.keep b ob q n hb hx⟩
theorem Un.kept (k:∀ b u,h.get? b=some u->h'.get? b=some u):Un fs ex H H h h':=
 ⟨λb ob q _ _ _=>k b ob q,λb ob q _ _ _=>⟨ob.slots,k b ob q⟩,λ_ _ _ n _=>n,λb ob q _=>⟨ob,k b ob q⟩,λ_ _ q=>q,λ_ _ _ q=>q,λ_ ps q=>⟨#[],by rw[q];simp⟩⟩
theorem Un.refl:Un fs ex H H h h:=Un.kept λ_ _ q=>q
theorem Un.laid (k:∀ b u,h.get? b=some u->h'.get? b=some u)(hp:h.objs.size<=a)(hn:H a=none):Un fs ex H (upd H a o) h h' where
 keep:=λb u q _ _ _=>k b u q
 slot:=λb u q _ _ _=>⟨u.slots,k b u q⟩
 free:=λb u q n _=>by rw[Zag (Ja9 (Jaw (Jam q) hp))];exact n
 there:=λb u q _=>⟨u,k b u q⟩
 tups:=λb xs q=>by rw[Zag (Zaf q hn)];exact q
 frzs:=λb u xs q=>by rw[Zag (Zaf q hn)];exact q
 tbls:=λb ps q=>⟨#[],by rw[Zag (Zaf q hn),q];simp⟩
theorem Un.write (mu:Mut (H x))(he:e=x\/H e=some (.own x))(k:∀ b u,b≠e->h.get? b=some u->h'.get? b=some u)(heo:∃ u,h'.get? e=some u):Un fs ex H (upd H x o) h h':=by
 have hx:∀ b,H b=none->b≠x:=λb n z=>by subst z;rw[n] at mu;exact mu
 have hb:∀ b,H b=none->b≠e:=λb n z=>by
  subst z;rcases he with r|r
  .exact hx b n r
  .rw [n] at r;cases r
 have hm:∀ b u,H b=some u->¬ Mut (some u)->b≠x:=λb u q nm z=>by subst z;rw[q] at mu;exact nm mu
 refine⟨λb u q n _ _=>k b u (hb b n) q,λb u q n _ _=>⟨u.slots,k b u (hb b n) q⟩,λb u q n _=>by rw[Zag (hx b n)];exact n,λb u q _=>?_,
  λb xs q=>by rw[Zag (hm b _ q λz=>z)];exact q,λb u xs q=>by rw[Zag (hm b _ q λz=>z)];exact q,λb ps q=>⟨#[],by rw[Zag (hm b _ q λz=>z),q];simp⟩⟩
 by_cases hbe:b=e
 .subst hbe;exact heo
 .exact ⟨u,k b u hbe q⟩
end
def trk (h:Heap)(H:Hp):List Addr:=(List.range h.objs.size).filter λa=>(H a).isSome
def Zt5 (h:Heap)(H:Hp):Heap:=PySem.W.hideAll h (trk h H)
theorem Zta (h:Heap)(H:Hp):(Zt5 h H).objs.size=h.objs.size:=PySem.W.hideAll_size _ _
theorem Zv6 {h:Heap}{H:Hp}{b:Addr}{o:Obj}(e:h.get? b=some o)(n:H b=none):(Zt5 h H).get? b=some o:=
 PySem.W.hideAll_get _ e λhm=>by
  have q:(H b).isSome=true:=(List.mem_filter.mp hm).2;rw[n] at q;simp at q
theorem of_hidT {h:Heap}{H:Hp}{b:Addr}{o:Obj}(e:(Zt5 h H).get? b=some o):h.get? b=some o/\H b=none:=by
 have e':h.get? b=some o:=PySem.W.of_hideAll (trk h H) e;refine⟨e',?_⟩;cases q:H b with
 | none=>rfl
 | some x=>
  have hm:b∈trk h H:=List.mem_filter.mpr ⟨Ja8.mpr (Jam e'),by simp[q]⟩;have z:(Zt5 h H).get? b=none:=PySem.W.hideAll_none (trk h H) hm;rw[z] at e;cases e
def allNews (g h:Heap)(L:Addr):List (Addr×Obj):=(List.range h.objs.size).filterMap λa=>if a=L\/(g.get? a).isSome=true then none else (h.get? a).map λo=>(a,o)
def rest (g h:Heap)(L d:Addr):List (Addr×Obj):=(allNews g h L).filter λp=>decide (p.1≠d)
structure Mod (K:Frag)(mg:Str->Option Value)(base:Heap):Prop where
 kin:K.In base
 glob:base.Ns mainGlobals mg
 blt:∃ mb,base.Ns builtinsNs mb/\∀ x:Str,x ≠ "__name__" -> mb x=bootBuiltins x
 nolimit:base.NoLimit
 seer:base.NoSeer
 bmain:∃ bm ob,mg "__builtins__" = some (.ref bm)/\bm≠builtinsNs/\base.get? bm=some ob/\ob.cls=.type "module" /\ ob.dict=some builtinsNs/\ob.data=.plain
def Seen (l:List Env):Prop:=∃ e r,l=e::r/\e.scope.isGenerator=false/\e.scope.isCoroutine=false/\e.builtins=builtinsNs/\e.globals=mainGlobals
structure Cx where
 prog:Program
 w:World
 K:Frag
 mg:Str->Option Value
 base:Heap
 A:Around
 N:List Str
 s₀:Shared
 H₀:Hp
 env:Env
 outer:List Env
 stack:List Env
 ex:List Addr
 fn:Str->Bool
 calm:Bool
 pn:List (Addr×Obj)
 xe:Value->Shared->Prop
def frs (l:List Env):List Addr:=l.filterMap (·.frame)
abbrev Cx.fs (X:Cx):List Addr:=frs X.outer
def Vis (sc:Scope)(x:Str):Prop:=sc.names.lookup x=some .local\/sc.names.lookup x=some .cell\/sc.names.lookup x=some .free
def Loc (sc:Scope)(x:Str):Prop:=sc.names.lookup x=some .local\/sc.names.lookup x=some .cell
def Look (env:Env)(h:Heap)(m:Str->Option Value)(x:Str)(u:Value):Prop:=
 (env.kindOf x=some .local/\m x=some u)\/((env.kindOf x=some .cell\/env.kindOf x=some .free)/\∃ c,env.cells.lookup x=some c/\h.IsCell c (some u))
structure Cx.Ok (X:Cx):Prop where
 mod:Mod X.K X.mg X.base
 kind:X.env.scope.kind=.function
 glob:X.env.globals=mainGlobals
 blt:X.env.builtins=builtinsNs
 above:X.s₀.heap.objs.size<=X.env.locals
 inj:∀ x y c,X.env.cells.lookup x=some c->X.env.cells.lookup y=some c->x=y
 has:∀ x,(X.env.kindOf x=some .cell\/X.env.kindOf x=some .free)->∃ c,X.env.cells.lookup x=some c
 cab:∀ x c,X.fn x=true->X.env.cells.lookup x=some c->X.s₀.heap.objs.size<=c
 hd:X.calm=true->X.A.handled=none
 frames:X.A.frames=some X.stack
 stk:X.stack=X.outer\/(X.stack=X.env::X.outer/\X.env.frame=some X.env.locals)
 exf:∀ b∈X.ex,b≠X.env.locals/\∀ x c,X.env.cells.lookup x=some c->c≠b
 bs:∀ b o,X.base.get? b=some o->X.s₀.heap.get? b=some o/\X.H₀ b=none
 bsz:X.base.objs.size<=X.s₀.heap.objs.size
 noex:∀ b o,X.base.get? b=some o->b∉X.ex
 exfs:∀ b∈X.ex,b∉X.fs
 funs:X.s₀.heap.FunFrames X.base X.outer
 frf:∀ b∈X.fs,X.H₀ b=none
 top:Seen X.stack
structure Inv (X:Cx)(pins:List (Addr×Obj))(σ:List (Option V))(H:Hp)(s:Shared):Prop where
 ok:X.Ok
 os:s.os=X.s₀.os
 bare:AllBare s.gens
 base:Un X.fs X.ex X.H₀ H X.s₀.heap s.heap
 loc:∃ m,s.heap.Ns X.env.locals m/\∀ (i:Nat) (x:Str) (v:V),X.N[i]?=some x->σ[i]?=some (some v)->Vis X.env.scope x->∃ u,RelV v u/\Look X.env s.heap m x u
 cell:∀ x c,X.env.cells.lookup x=some c->∃ v,s.heap.IsCell c v
 free:H X.env.locals=none
 freeC:∀ x c,X.env.cells.lookup x=some c->H c=none
 pin:∀ p∈X.pn++pins,s.heap.get? p.1=some p.2/\H p.1=none/\p.1≠X.env.locals/\p.1∉X.fs/\∀ v,p.2.data≠.cell v
 hok:HOk X.prog X.w H s.heap
 len:σ.length=X.N.length
section
variable {X:Cx}{pins:List (Addr×Obj)}{σ:List (Option V)}{H H':Hp}{s:Shared}{h':Heap}
theorem Cx.Ok.nofr (ok:X.Ok){b:Addr}{o:Obj}(e:X.base.get? b=some o):b∉X.fs:=λhb=>by
 have:=(ok.funs.mem hb).1;rw[e] at this;cases this
theorem Inv.bs (I:Inv X pins σ H s):∀ b o,X.base.get? b=some o->s.heap.get? b=some o/\H b=none:=λb o e=>
 ⟨I.base.keep b o (I.ok.bs b o e).1 (I.ok.bs b o e).2 (I.ok.nofr e) (I.ok.noex b o e),I.base.free b o (I.ok.bs b o e).1 (I.ok.bs b o e).2 (I.ok.noex b o e)⟩
theorem Inv.bk (I:Inv X pins σ H s):∀ b o,X.base.get? b=some o->s.heap.get? b=some o:=λb o e=>(I.bs b o e).1
theorem Inv.mod (I:Inv X pins σ H s):Mod X.K X.mg X.base:=I.ok.mod
theorem Inv.kIn (I:Inv X pins σ H s):X.K.In s.heap:=I.ok.mod.kin.keeps I.bk
theorem Inv.nolimit (I:Inv X pins σ H s):s.heap.NoLimit:=I.ok.mod.nolimit.keeps I.bk
theorem Inv.long (I:Inv X pins σ H s)(ht:X.prog.given.tree=none)(hd:X.A.depth+Builtin.pylongFrames<recursionLimit):PySem.PylongRoom (model X.prog X.w) X.A s:=by
 refine Zg9 I.ok.top λe r hs h1 h2 h3 h4=>?_;exact PySem.PylongRoom.of I.nolimit hd (PySem.SeerAt.of (I.ok.mod.seer.keeps I.bk) ht (by rw[I.ok.frames,hs]) h1 h2 h3 h4)
theorem Inv.lt (I:Inv X pins σ H s):X.env.locals<s.heap.objs.size:=let ⟨_,hn,_⟩:=I.loc;hn.lt
theorem Inv.sz (I:Inv X pins σ H s):X.s₀.heap.objs.size<=s.heap.objs.size:=Ja3 I.ok.above (Jbm I.lt)
theorem Inv.nofs (I:Inv X pins σ H s){a:Addr}(h:s.heap.objs.size<=a):a∉X.fs:=λhb=>by
 obtain⟨_,o,ho,_⟩:=I.ok.funs.mem hb;exact absurd (Jaw (Jam ho) (Ja3 I.sz h)) (Jbp _)
theorem Inv.cne (I:Inv X pins σ H s):∀ x c,X.env.cells.lookup x=some c->c≠X.env.locals:=λx c e z=>by
 obtain⟨v,o,ho,hd⟩:=I.cell x c e;refine Zad I.loc λm e918 _=>?_;obtain⟨o',es,ep,ho',hd',_⟩:=e918;rw[z,ho'] at ho;cases ho;rw[hd'] at hd;cases hd
theorem Inv.funs (I:Inv X pins σ H s):s.heap.FunFrames X.base X.outer:=by
 have all:∀ (l:List Env),(∀ b∈frs l,b∈X.fs)->X.s₀.heap.FunFrames X.base l->s.heap.FunFrames X.base l:=by
  intro l
  induction l with
  | nil=>intro _ _;trivial
  | cons env r ih=>
   intro hs hl;refine Za2 hl λhk e919 hr=>?_;clear hl;obtain⟨L,o,hf,hn,ho,hd⟩:=e919;have hL:L∈X.fs:=hs L (by unfold frs;rw[Jer,hf];exact Jcg);obtain⟨sl,e⟩:=I.base.slot L o ho (I.ok.frf L hL) hL λz=>I.ok.exfs L z hL;exact⟨hk,⟨L,_,hf,hn,e,hd⟩,ih (λb hb=>hs b (by unfold frs;rw[Jer,hf];exact Jbw _ hb)) hr⟩
 exact all X.outer (λ_ hb=>hb) I.ok.funs
theorem Inv.stack (I:Inv X pins σ H s):s.heap.FunFrames X.base X.stack:=by
 rcases I.ok.stk with e|⟨e,hf⟩
 .rw [e];exact I.funs
 .rw [e];refine Zad I.loc λm hn _=>?_;refine .cons (by rw[I.ok.kind];decide) hf hn ?_ I.funs;exact Heap.get?_none_of_le (Ja3 I.ok.bsz I.ok.above)
theorem Inv.stkSub (I:Inv X pins σ H s):∀ b∈frs X.stack,b∈X.env.locals::X.fs:=λb hb=>by
 rcases I.ok.stk with e|⟨e,hf⟩
 .rw [e] at hb;exact Jbw _ hb
 .rw [e] at hb;unfold frs at hb;rw[Jer,hf] at hb;exact hb
theorem Inv.stkFree (I:Inv X pins σ H s):∀ b∈frs X.stack,H b=none:=λb hb=>by
 rcases Jbq.mp (I.stkSub b hb) with e|hb
 .rw [e];exact I.free
 .obtain ⟨_,o,ho,_⟩:=I.ok.funs.mem hb;exact I.base.free b o ho (I.ok.frf b hb) λz=>I.ok.exfs b z hb
theorem Inv.step {g':Array GenState}{t':Nat}{d':Drawn}{ch:List Addr}(I:Inv X pins σ H s)(hch:∀ b∈ch,(b∈X.ex\/X.s₀.heap.objs.size<=b)/\b≠X.env.locals/\(∀ x c,X.env.cells.lookup x=some c->c≠b)/\∀ p∈X.pn++pins,p.1≠b)(keep:∀ b o,b≠X.env.locals->b∉X.fs->b∉ch->s.heap.get? b=some o->H b=none->h'.get? b=some o)(slot:∀ b o,b≠X.env.locals->b∈X.fs->b∉ch->s.heap.get? b=some o->H b=none->∃ sl,h'.get? b=some { o with slots:=sl })(free:∀ b o,b∉ch->s.heap.get? b=some o->H b=none->H' b=none)(there:∀ b o,b∉ch->s.heap.get? b=some o->∃ o',h'.get? b=some o')(tups:∀ b xs,H b=some (.tup xs)->H' b=some (.tup xs))(frzs:∀ b o u,H b=some (.frz o u)->H' b=some (.frz o u))(tbls:∀ b ps,H b=some (.tbl ps)->∃ more,H' b=some (.tbl (ps++more)))(ns:∀ m,s.heap.Ns X.env.locals m->h'.Ns X.env.locals m)(hok:HOk X.prog X.w H' h')(hg:AllBare g'):
  Inv X pins σ H' { s with heap:=h',gens:=g',drawn:=d',toks:=t' }:=by
 have neL:∀ b o,X.s₀.heap.get? b=some o->b≠X.env.locals:=λb o e=>Ja9 (Jaw (Jam e) I.ok.above);have neC:∀ b o,X.s₀.heap.get? b=some o->b∉X.ex->b∉ch:=λb o e hx hb=>by
  rcases (hch b hb).1 with z|z
  .exact hx z
  .exact absurd (Jaw (Jam e) z) (Jbp _)
 have cellK:∀ x c,X.env.cells.lookup x=some c->∀ v,s.heap.IsCell c v->h'.IsCell c v:=λx c e v ⟨o,ho,hd⟩=>by
  have nch:c∉ch:=λz=>(hch c z).2.2.1 x c e rfl;by_cases hc:c∈X.fs
  .obtain ⟨sl,q⟩:=slot c o (I.cne x c e) hc nch ho (I.freeC x c e);exact⟨_,q,hd⟩
  .exact ⟨o,keep c o (I.cne x c e) hc nch ho (I.freeC x c e),hd⟩
 refine⟨I.ok,I.os,hg,⟨λb o e n hb hx=>?_,λb o e n hb hx=>?_,λb o e n hx=>?_,λb o e hx=>?_,λb xs e=>tups b xs (I.base.tups b xs e),λb o xs e=>frzs b o xs (I.base.frzs b o xs e),λb ps e=>?_⟩,?_,λx c e=>?_,?_,λx c e=>?_,λp hp=>?_,hok,I.len⟩
 .exact keep b o (neL b o e) hb (neC b o e hx) (I.base.keep b o e n hb hx) (I.base.free b o e n hx)
 .obtain ⟨sl,e1⟩:=I.base.slot b o e n hb hx;obtain⟨sl',e2⟩:=slot b _ (neL b o e) hb (neC b o e hx) e1 (I.base.free b o e n hx);exact⟨sl',e2⟩
 .obtain ⟨o',e1⟩:=I.base.there b o e hx;exact free b o' (neC b o e hx) e1 (I.base.free b o e n hx)
 .obtain ⟨o',e1⟩:=I.base.there b o e hx;exact there b o' (neC b o e hx) e1
 .obtain ⟨m1,e1⟩:=I.base.tbls b ps e;obtain⟨m2,e2⟩:=tbls b _ e1;exact⟨m1++m2,by rw[e2,Array.append_assoc]⟩
 .refine Zad I.loc λm hn hl=>?_;refine⟨m,ns m hn,λi x v e1 e2 e3=>?_⟩;refine Zad (hl i x v e1 e2 e3) λu r l=>?_;refine⟨u,r,?_⟩;rcases l with l|⟨k,c,e,z⟩
  .exact .inl l
  .exact .inr ⟨k,c,e,cellK x c e _ z⟩
 .obtain ⟨v,z⟩:=I.cell x c e;exact⟨v,cellK x c e v z⟩
 .refine Zad I.loc λm e920 _=>?_;obtain⟨o,_,_,ho,_⟩:=e920;exact free _ o (λz=>(hch _ z).2.1 rfl) ho I.free
 .obtain ⟨v,o,ho,hd⟩:=I.cell x c e;exact free c o (λz=>(hch c z).2.2.1 x c e rfl) ho (I.freeC x c e)
 .refine Zcf (I.pin p hp) λe n ne nf d=>?_;have nch:p.1∉ch:=λz=>(hch p.1 z).2.2.2 p hp rfl;exact⟨keep p.1 p.2 ne nf nch e n,free p.1 p.2 nch e n,ne,nf,d⟩
theorem Inv.un {t':Nat}(I:Inv X pins σ H s)(u:Un X.fs [] H H' s.heap h')(hok:HOk X.prog X.w H' h'):Inv X pins σ H' { s with heap:=h',toks:=t' }:=by
 refine Zad (id I.loc) λm e921 _=>?_;obtain⟨o,es,ep,ho,r⟩:=e921;obtain⟨sl,hL⟩:=u.any ho I.free (by simp);exact I.step (g':=s.gens) (d':=s.drawn) (ch:=[]) (λ_ z=>nomatch z) (λb o _ hb _ e n=>u.keep b o e n hb (by simp)) (λb o _ hb _ e n=>u.slot b o e n hb (by simp)) (λb o _ e n=>u.free b o e n (by simp)) (λb o _ e=>u.there b o e (by simp)) u.tups u.frzs u.tbls (λm' hm=>by
  refine Zex hm λo' es' ep' ho' r'=>?_;clear hm;rw[ho] at ho';cases ho';exact⟨_,es',ep',hL,r'⟩) hok I.bare
theorem Inv.call {g':Array GenState}{t':Nat}{d':Drawn}{ch:List Addr}(I:Inv X pins σ H s)(u:Un (frs X.stack) ch H H' s.heap h')(hok:HOk X.prog X.w H' h')(hg:AllBare g')(hch:∀ b∈ch,(b∈X.ex\/X.s₀.heap.objs.size<=b)/\b≠X.env.locals/\(∀ x c,X.env.cells.lookup x=some c->c≠b)/\∀ p∈X.pn++pins,p.1≠b):
  Inv X pins σ H' { s with heap:=h',gens:=g',drawn:=d',toks:=t' }:=by
 refine Zad (id I.loc) λm e922 _=>?_;obtain⟨o,es,ep,ho,r⟩:=e922;obtain⟨sl,hL⟩:=u.any ho I.free λz=>(hch _ z).2.1 rfl;exact I.step (ch:=ch) hch (λb o hL hb hc e n=>u.keep b o e n (λz=>(Jbq.mp (I.stkSub b z)).elim hL hb) hc) (λb o _ _ hc e n=>u.any e n hc) (λb o hc e n=>u.free b o e n hc) (λb o hc e=>u.there b o e hc) u.tups u.frzs u.tbls (λm' hm=>by
  refine Zex hm λo' es' ep' ho' r'=>?_;clear hm;rw[ho] at ho';cases ho';exact⟨_,es',ep',hL,r'⟩) hok hg
theorem Inv.turned {t':Nat}{it:Addr}(I:Inv X pins σ H s)(k:∀ b o,b≠it->s.heap.get? b=some o->h'.get? b=some o)(hn:H it=none)(hL:it≠X.env.locals)(h1:it∈X.ex\/X.s₀.heap.objs.size<=it)(h2:∀ x c,X.env.cells.lookup x=some c->c≠it)(h3:∀ p∈X.pn++pins,p.1≠it):Inv X pins σ H { s with heap:=h',toks:=t' }:=by
 have nit:∀ b u,H b=some u->b≠it:=λb u e z=>by rw[z,hn] at e;cases e
 refine I.step (g':=s.gens) (d':=s.drawn) (ch:=[it]) (λb hb=>?_) (λb o _ _ hc e _=>k b o (λz=>hc (by simp[z])) e) (λb o _ _ hc e _=>⟨o.slots,k b o (λz=>hc (by simp[z])) e⟩) (λ_ _ _ _ n=>n)
  (λb o hc e=>⟨o,k b o (λz=>hc (by simp[z])) e⟩) (λ_ _ e=>e) (λ_ _ _ e=>e) (λb ps e=>⟨#[],by rw[e];simp⟩) (λm hm=>?_) (λb u e=>?_) I.bare
 .have e:b=it:=by simpa using hb
  subst e;exact⟨h1,hL,h2,h3⟩
 .refine Zex hm λo es ep ho r=>?_;clear hm;exact Zcm o es ep ⟨k _ o (Jco hL) ho,r⟩
 .refine (I.hok b u e).stay (λc v hc q=>k c v ?_ q) (λ_ q=>q) (λ_ _ q=>q) λ_ _ _ q=>q;rcases hc with z|z
  .rw [z];exact nit b u e
  .exact nit c _ z
theorem Inv.tok (I:Inv X pins σ H s)(t:Nat):Inv X pins σ H { s with toks:=t }:=I.un (h':=s.heap) (t':=t) Un.refl I.hok
theorem Inv.kept {t':Nat}(I:Inv X pins σ H s)(k:∀ b u,s.heap.get? b=some u->h'.get? b=some u):Inv X pins σ H { s with heap:=h',toks:=t' }:=I.un (Un.kept k) (I.hok.kept k)
theorem Inv.laid {a:Addr}{o:HO}{t':Nat}(I:Inv X pins σ H s)(k:∀ b u,s.heap.get? b=some u->h'.get? b=some u)(hp:s.heap.objs.size<=a)(new:ObjOk X.prog X.w (upd H a o) h' a o):
  Inv X pins σ (upd H a o) { s with heap:=h',toks:=t' }:=I.un (Un.laid k hp (I.hok.fresh hp)) (I.hok.laid k hp new)
theorem Inv.write {x e:Addr}{o:HO}{t':Nat}(I:Inv X pins σ H s)(mu:Mut (H x))(he:e=x\/H e=some (.own x))(k:∀ b u,b≠e->s.heap.get? b=some u->h'.get? b=some u)(heo:∃ u,h'.get? e=some u)(new:ObjOk X.prog X.w (upd H x o) h' x o):Inv X pins σ (upd H x o) { s with heap:=h',toks:=t' }:=I.un (Un.write mu he k heo) (I.hok.write mu he k heo new)
theorem Inv.pins_of {pins':List (Addr×Obj)}(I:Inv X pins σ H s)(h:∀ p∈pins',s.heap.get? p.1=some p.2/\H p.1=none/\p.1≠X.env.locals/\p.1∉X.fs/\∀ v,p.2.data≠.cell v):Inv X pins' σ H s:=
 ⟨I.ok,I.os,I.bare,I.base,I.loc,I.cell,I.free,I.freeC,λp hp=>(Jal.mp hp).elim (λz=>I.pin p (List.mem_append_left _ z)) (h p),I.hok,I.len⟩
theorem Zpb {N:List Str}(hN:N.Nodup){i j:Nat}{x:Str}(a:N[i]?=some x)(b:N[j]?=some x):i=j:=by
 obtain⟨h1,e1⟩:=Jaf.mp a;obtain⟨h2,e2⟩:=Jaf.mp b;exact (List.getElem_inj hN).mp (e1.trans e2.symm)
theorem Zl0 {M:Model}{A:Around}{E:Value->Shared->Prop}{i:Nat}{x:Str}{v:V}{u:Value}{Q:Unit->Shared->Prop}(I:Inv X pins σ H s)(hN:X.N.Nodup)(hi:X.N[i]?=some x)(hx:Loc X.env.scope x)(r:RelV v u)(h:∀ s',Inv X pins (σ.set i (some v)) H s'->(∃ a,Heap.SameBut a s.heap s'.heap/\(a=X.env.locals\/X.env.cells.lookup x=some a))->Q () s')(hf:X.fn x=true\/X.env.scope.names.lookup x=some .local:=by first|exact .inl rfl|exact .inr rfl|assumption):wpAny M A (storeName X.env x u) Q E s:=by
 refine Zad (id I.loc) λm hn hl=>?_;have hcls:(X.env.scope.kind == .class || (X.env.scope.kind == .module && X.env.locals != X.env.globals))=false:=by rw[I.ok.kind];rfl
 have hiσ:i<σ.length:=by rw[I.len];exact (Jaf.mp hi).1
 have cne:=I.cne;have tracked:∀ {a:Addr} {h':Heap},(∃ o,s.heap.get? a=some o/\H a=none)->Heap.SameBut a s.heap h'->HOk X.prog X.w H h':=λ{a h'} ha hs b ob e=>by
  refine Zad ha λ_ _ hfree=>?_;clear ha;refine (I.hok b ob e).stay (λc w' hc q=>(hs.2 c ?_).trans q) (λ_ q=>q) (λ_ _ q=>q) λ_ _ _ q=>q;rintro rfl;rcases hc with rfl|hc
  .rw [hfree] at e;cases e
  .rw [hfree] at hc;cases hc
 rcases hx with hk|hk
 .refine wpAny_storeName_local hk hn (λh' hn' hs=>?_) hcls;refine Zex (id hn) λoL _ _ hoL _=>?_;refine h _ ⟨I.ok,I.os,I.bare,⟨λb o e n hb hx=>?_,λb o e n hb hx=>?_,I.base.free,λb o e hx=>?_,I.base.tups,I.base.frzs,I.base.tbls⟩,⟨_,hn',λj y v' e1 e2 e3=>?_⟩,λy c e=>?_,I.free,I.freeC,λp hp=>?_,tracked ⟨oL,hoL,I.free⟩ hs,by simpa using I.len⟩ ⟨_,hs,.inl rfl⟩
  .exact (hs.2 b (Ja9 (Jaw (Jam e) I.ok.above))).trans (I.base.keep b o e n hb hx)
  .obtain ⟨sl,e1⟩:=I.base.slot b o e n hb hx;exact⟨sl,(hs.2 b (Ja9 (Jaw (Jam e) I.ok.above))).trans e1⟩
  .obtain ⟨o',e1⟩:=I.base.there b o e hx;exact⟨o',(hs.2 b (Ja9 (Jaw (Jam e) I.ok.above))).trans e1⟩
  .by_cases hj:j=i
   .subst hj;rw[hi] at e1;cases e1;rw[List.getElem?_set_self hiσ] at e2;cases e2;exact⟨u,r,.inl ⟨hk,by simp⟩⟩
   .rw [List.getElem?_set_ne (Jco hj)] at e2;refine Zad (hl j y v' e1 e2 e3) λu' r' q=>?_;refine⟨u',r',?_⟩;rcases q with ⟨k,e⟩|⟨k,c,e,z⟩
    .refine .inl ⟨k,?_⟩;have:y≠x:=λe=>hj (Zpb hN e1 (e ▸ hi));simp[this,e]
    .exact .inr ⟨k,c,e,z.sameBut hs (cne y c e)⟩
  .obtain ⟨w',z⟩:=I.cell y c e;exact⟨w',z.sameBut hs (cne y c e)⟩
  .refine Zcf (I.pin p hp) λe n ne nf d=>?_;exact⟨(hs.2 p.1 ne).trans e,n,ne,nf,d⟩
 .have hfn:X.fn x=true:=by
   rcases hf with z|z
   .exact z
   .rw [z] at hk;cases hk
  obtain⟨c,hc⟩:=I.ok.has x (.inl hk);obtain⟨w',z⟩:=I.cell x c hc;refine wpAny_storeName_cell I.ok.kind hk hc z (λh' hc' hs=>?_);refine Zad (id z) λoc hoc hocd=>?_;refine h { s with heap:=h' } ⟨I.ok,I.os,I.bare,⟨λb o e n hb hx=>?_,λb o e n hb hx=>?_,I.base.free,λb o e hx=>?_,I.base.tups,I.base.frzs,I.base.tbls⟩,⟨m,hn.sameBut hs (Jco (cne x c hc)),λj y v' e1 e2 e3=>?_⟩,λy c' e=>?_,I.free,I.freeC,λp hp=>?_,tracked ⟨oc,hoc,I.freeC x c hc⟩ hs,by simpa using I.len⟩ ⟨c,hs,.inr hc⟩
  .exact (hs.2 b (Ja9 (Jaw (Jam e) (I.ok.cab x c hfn hc)))).trans (I.base.keep b o e n hb hx)
  .obtain ⟨sl,e1⟩:=I.base.slot b o e n hb hx;exact⟨sl,(hs.2 b (Ja9 (Jaw (Jam e) (I.ok.cab x c hfn hc)))).trans e1⟩
  .obtain ⟨o',e1⟩:=I.base.there b o e hx;exact⟨o',(hs.2 b (Ja9 (Jaw (Jam e) (I.ok.cab x c hfn hc)))).trans e1⟩
  .by_cases hj:j=i
   .subst hj;rw[hi] at e1;cases e1;rw[List.getElem?_set_self hiσ] at e2;cases e2;exact⟨u,r,.inr ⟨.inl hk,c,hc,hc'⟩⟩
   .rw [List.getElem?_set_ne (Jco hj)] at e2;refine Zad (hl j y v' e1 e2 e3) λu' r' q=>?_;refine⟨u',r',?_⟩;rcases q with q|⟨k,c',e,z'⟩
    .exact .inl q
    .refine .inr ⟨k,c',e,z'.sameBut hs ?_⟩;rintro rfl;exact hj (Zpb hN e1 (I.ok.inj _ _ _ e hc ▸ hi))
  .by_cases hcc:c'=c
   .subst hcc;exact⟨_,hc'⟩
   .obtain ⟨w2,z2⟩:=I.cell y c' e;exact⟨w2,z2.sameBut hs hcc⟩
  .refine Zcf (I.pin p hp) λe n ne nf d=>?_;refine⟨(hs.2 p.1 ?_).trans e,n,ne,nf,d⟩;intro q;rw[q,hoc] at e;have q':oc=p.2:=Jbi e;exact d w' (by rw[<- q'];exact hocd)
theorem Zii {M:Model}{A:Around}{E:Value->Shared->Prop}{i:Nat}{x:Str}{v:V}{u:Value}{Q:Unit->Shared->Prop}(I:Inv X pins σ H s)(hN:X.N.Nodup)(hi:X.N[i]?=some x)(hx:Loc X.env.scope x)(r:RelV v u)(h:∀ s',Inv X pins (σ.set i (some v)) H s'->Q () s')(hf:X.fn x=true\/X.env.scope.names.lookup x=some .local:=by first|exact .inl rfl|exact .inr rfl|assumption):wpAny M A (storeName X.env x u) Q E s:=
 Zl0 I hN hi hx r (λs' I' _=>h s' I') hf
theorem Inv.call' {s':Shared}{ch:List Addr}(I:Inv X pins σ H s)(ho:s'.os=s.os)(u:Un (frs X.stack) ch H H' s.heap s'.heap)(hok:HOk X.prog X.w H' s'.heap)(hg:AllBare s'.gens)(hch:∀ b∈ch,(b∈X.ex\/X.s₀.heap.objs.size<=b)/\b≠X.env.locals/\(∀ x c,X.env.cells.lookup x=some c->c≠b)/\∀ p∈X.pn++pins,p.1≠b):Inv X pins σ H' s':=by
 obtain⟨h',g',d',t',o'⟩:=s';have e:o'=s.os:=ho;subst e;exact I.call (g':=g') (t':=t') (d':=d') u hok hg hch
end
abbrev XK:=Value->Option Addr->Hp->Prop
abbrev St:=List (Option V)
abbrev VK:=V->Hp->Prop
abbrev TE:=St->Hp->VK->Prop
abbrev TT:=St->Hp->(Bool->Hp->Prop)->Prop
abbrev TA:=St->Hp->(List V->Hp->Prop)->Prop
structure Ends where
 nx:St->Hp->Prop
 rt:VK
 bk:St->Hp->Prop:=λ_ _=>False
 ct:St->Hp->Prop:=λ_ _=>False
abbrev TS:=Ends->St->Hp->Prop
def EP (X:Cx)(pins:List (Addr×Obj))(σ:St)(Q:VK)(u:Value)(s':Shared):Prop:=∃ v H',Inv X pins σ H' s'/\RelV v u/\Q v H'
def TP (X:Cx)(pins:List (Addr×Obj))(σ:St)(Q:Bool->Hp->Prop)(b:Bool)(s':Shared):Prop:=∃ H',Inv X pins σ H' s'/\Q b H'
def AP (X:Cx)(pins:List (Addr×Obj))(σ:St)(Q:List V->Hp->Prop)(us:List Value)(s':Shared):Prop:=∃ vs H',Inv X pins σ H' s'/\Vals vs us/\Q vs H'
def SP (X:Cx)(pins:List (Addr×Obj))(D:Ends)(f:Flow)(s':Shared):Prop:=
 match f with
 | .next=>∃ σ' H',Inv X pins σ' H' s'/\D.nx σ' H'
 | .brk=>∃ σ' H',Inv X pins σ' H' s'/\D.bk σ' H'
 | .cont=>∃ σ' H',Inv X pins σ' H' s'/\D.ct σ' H'
 | .ret u=>∃ v σ' H',Inv X pins σ' H' s'/\RelV v u/\D.rt v H'
def PE (X:Cx)(e:Expr)(t:TE):Prop:=
 ∀ (pins:List (Addr×Obj)) (s:Shared) (σ:St) (H:Hp) (Q:VK),Inv X pins σ H s->t σ H Q->wpAny (model X.prog X.w) X.A (eval e X.env) (EP X pins σ Q) X.xe s
def PT (X:Cx)(e:Expr)(t:TT):Prop:=
 ∀ (pins:List (Addr×Obj)) (s:Shared) (σ:St) (H:Hp) (Q:Bool->Hp->Prop),Inv X pins σ H s->t σ H Q->wpAny (model X.prog X.w) X.A (isTrue e X.env (eval e X.env)) (TP X pins σ Q) X.xe s
def PW (X:Cx)(e:Expr)(t:TT):Prop:=
 ∀ (whole:Sem Value) (pins:List (Addr×Obj)) (s:Shared) (σ:St) (H:Hp) (Q:Bool->Hp->Prop),Inv X pins σ H s->t σ H Q->wpAny (model X.prog X.w) X.A (isTrue e X.env whole) (TP X pins σ Q) X.xe s
theorem PW.pt {X:Cx}{e:Expr}{t:TT}(h:PW X e t):PT X e t:=h _
def PA (X:Cx)(es:List Expr)(t:TA):Prop:=
 ∀ (pos:Pos) (pins:List (Addr×Obj)) (s:Shared) (σ:St) (H:Hp) (Q:List V->Hp->Prop),Inv X pins σ H s->t σ H Q->wpAny (model X.prog X.w) X.A (spliced (backTo pos (starEach es X.env))) (AP X pins σ Q) X.xe s
def PS (X:Cx)(st:Stmt)(t:TS):Prop:=
 ∀ (pins:List (Addr×Obj)) (s:Shared) (σ:St) (H:Hp) (D:Ends),Inv X pins σ H s->t D σ H->wpAny (model X.prog X.w) X.A (exec st X.env) (SP X pins D) X.xe s
def PSs (X:Cx)(st:List Stmt)(t:TS):Prop:=
 ∀ (pins:List (Addr×Obj)) (s:Shared) (σ:St) (H:Hp) (D:Ends),Inv X pins σ H s->t D σ H->wpAny (model X.prog X.w) X.A (execs st X.env) (SP X pins D) X.xe s
theorem thn {α:Type}{t:Sem α}{Q Q':α->Shared->Prop}{M:Model}{A:Around}{E:Value->Shared->Prop}{s:Shared}(h:wpAny M A t Q E s)(hQ:∀ a s,Q a s->Q' a s):wpAny M A t Q' E s:=Jc4 h hQ λ_ _ x=>x
section
variable {X:Cx}
theorem bin {a b:Expr}{ta tb:TE}(ha:PE X a ta)(hb:PE X b tb){pins:List (Addr×Obj)}{s:Shared}{σ:St}{H:Hp}{R:V->V->Hp->Prop}(I:Inv X pins σ H s)(h:ta σ H λx H1=>tb σ H1 λy H2=>R x y H2){α:Type}{Q:α->Shared->Prop}{f:Value->Value->Sem α}(hf:∀ v u s2 x y H2,Inv X pins σ H2 s2->RelV x v->RelV y u->R x y H2->wpAny (model X.prog X.w) X.A (f v u) Q X.xe s2):
  wpAny (model X.prog X.w) X.A (eval a X.env) (λv s₁=>wpAny (model X.prog X.w) X.A (eval b X.env) (λu s₂=>wpAny (model X.prog X.w) X.A (f v u) Q X.xe s₂) X.xe s₁) X.xe s:=by
 refine thn (ha pins s σ H _ I h) λv s1 ⟨x,H1,I1,r1,q1⟩=>?_;refine thn (hb pins s1 σ H1 _ I1 q1) λu s2 ⟨y,H2,I2,r2,q2⟩=>?_;exact hf v u s2 x y H2 I2 r1 r2 q2
def Zhn (i:Nat):TE:=λσ H Q=>∃ v,σ[i]?=some (some v)/\Q v H
def tC (v:V):TE:=λ_ H Q=>Q v H
theorem pe_var {i:Nat}{x:Str}{pos:Pos}(hN:X.N[i]?=some x)(hv:Vis X.env.scope x)(hd:(x == ("__debug__" : Str))=false:=by decide)(hcd:(x == ("__classdict__" : Str))=false:=by decide):PE X (.Name x pos) (Zhn i):=by
 intro pins s σ H Q I h;obtain⟨v,e,h⟩:=h;obtain⟨m,hn,hl⟩:=I.loc;obtain⟨u,r,l⟩:=hl i x v hN e hv;have fin:EP X pins σ Q u s:=⟨v,H,I,r,h⟩
 rcases l with ⟨hk,hm⟩|⟨hk,c,hc,hcell⟩
 .exact wpAny_Name (wpAny_loadName_local I.ok.kind hk hn hm fin) hd
 .rcases hk with hk|hk
  .exact wpAny_Name (wpAny_loadName_cell I.ok.kind hk hc hcell fin) hd
  .exact wpAny_Name (wpAny_loadName_free I.ok.kind hk hc hcell fin hcd) hd
theorem Zac {i j pos}:PE X (.Constant (.int i) j pos) (tC (.int i)):=λ_ _ _ H _ I h=>wpAny_Constant_int ⟨.int i,H,I.tok _,⟨_,rfl⟩,h⟩
theorem Zek {b j pos}:PE X (.Constant (.bool b) j pos) (tC (.bl b)):=λ_ _ _ H _ I h=>Constant_bool ⟨.bl b,H,I,rfl,h⟩
theorem Zo3 {j pos}:PE X (.Constant .none j pos) (tC .non):=λ_ _ _ H _ I h=>Constant_none ⟨.non,H,I,rfl,h⟩
def Gl (X:Cx)(x:Str):Prop:=X.env.kindOf x=some .globalImplicit
theorem Zn3 {E:Value->Shared->Prop}{pins:List (Addr×Obj)}{s:Shared}{σ:St}{H:Hp}{x:Str}{u:Value}{pos:Pos}{Q:Value->Shared->Prop}(I:Inv X pins σ H s)(hg:Gl X x)(hm:X.mg x=some u)(h:Q u s)(hd:(x == ("__debug__" : Str))=false:=by decide):wpAny (model X.prog X.w) X.A (eval (.Name x pos) X.env) Q E s:=
 Calls.Name_function_global I.ok.kind hg (Calls.loadGlobal_global (by rw[I.ok.glob];exact I.mod.glob.keeps I.bk) hm h) hd
theorem Zfh {E:Value->Shared->Prop}{pins:List (Addr×Obj)}{s:Shared}{σ:St}{H:Hp}{x:Str}{u:Value}{pos:Pos}{Q:Value->Shared->Prop}(I:Inv X pins σ H s)(hg:Gl X x)(hm:X.mg x=none)(hv:bootBuiltins x=some u)(h:Q u s)(hn:x ≠ "__name__" := by decide)(hd:(x == ("__debug__" : Str))=false:=by decide):wpAny (model X.prog X.w) X.A (eval (.Name x pos) X.env) Q E s:=by
 refine Zad I.mod.blt λmb h1 h2=>?_;exact Calls.Name_function_global I.ok.kind hg (Calls.loadGlobal_builtin (by rw[I.ok.glob];exact I.mod.glob.keeps I.bk) hm (by rw[I.ok.blt];exact h1.keeps I.bk) ((h2 x hn).trans hv) h) hd
theorem pe_glob {x:Str}{v:V}{u:Value}{pos:Pos}(hg:Gl X x)(hm:X.mg x=some u)(r:RelV v u)(hd:(x == ("__debug__" : Str))=false:=by decide):PE X (.Name x pos) (tC v):=
 λ_ _ _ H _ I h=>Zn3 I hg hm ⟨v,H,I,r,h⟩ hd
theorem pe_bltn {x:Str}{v:V}{u:Value}{pos:Pos}(hg:Gl X x)(hm:X.mg x=none)(hv:bootBuiltins x=some u)(r:RelV v u)(hn:x ≠ "__name__" := by decide)(hd:(x == ("__debug__" : Str))=false:=by decide):PE X (.Name x pos) (tC v):=
 λ_ _ _ H _ I h=>Zfh I hg hm hv ⟨v,H,I,r,h⟩ hn hd
variable {a b:Expr}{ta tb:TE}{pos:Pos}
def PC (X:Cx)(op:CmpOp)(a b:Expr)(t:TE):Prop:=
 ∀ (pins:List (Addr×Obj)) (s:Shared) (σ:St) (H:Hp) (Q:VK),Inv X pins σ H s->t σ H Q->
  wpAny (model X.prog X.w) X.A (eval a X.env) (λv s₁=>wpAny (model X.prog X.w) X.A (eval b X.env) (λu s₂=>wpAny (model X.prog X.w) X.A (compareOp op v u) (EP X pins σ Q) X.xe s₂) X.xe s₁) X.xe s
theorem Zvp (b:Expr){op:CmpOp}(h:op≠.In)(h2:op≠.NotIn):behindInMarks op b=false:=by
 have e1:(op == CmpOp.In)=false:=by cases op <;> first|rfl|exact absurd rfl h
 have e2:(op == CmpOp.NotIn)=false:=by cases op <;> first|rfl|exact absurd rfl h2
 cases b <;> simp[behindInMarks,e1,e2]
def tB (t:TE):TT:=λσ H Q=>t σ H λx H1=>∃ c,x=.bl c/\Q c H1
theorem pt_cmp {op:CmpOp}{t:TE}(h:PC X op a b t)(h1:behindInMarks op b=false:=by first|exact Zvp _ ⇑0 ⇑0|rfl):PT X (.Compare a [op] [b] pos) (tB t):=by
 intro pins s σ H Q I hw;refine Jee (thn (h pins s σ H _ I hw) λv s1 h1=>thn h1 λu s2 h2=>thn h2 λc s3 ⟨x,H1,I1,r1,q1⟩=>?_) h1;refine Zad q1 λd e923 q=>?_;clear q1;obtain rfl:=e923;cases r1;exact Jbx ⟨H1,I1,q⟩
theorem Zcb {e:Expr}{t:TE}(h:PE X e t)(he:∀ whole,isTrue e X.env whole=(do let v <- whole;standAt e.pos;holding [v] (truthy v)):=by intro _;rfl):PT X e (tB t):=by
 intro pins s σ H Q I hw;refine isTrue_plain (thn (h pins s σ H _ I hw) λv s1 ⟨x,H1,I1,r1,q1⟩=>?_) (he _);refine Zad q1 λd e924 q=>?_;clear q1;obtain rfl:=e924;cases r1;exact Jbx ⟨H1,I1,q⟩
variable {tA tB':TT}{rest:List Expr}
def tAnd (t u:TT):TT:=λσ H Q=>t σ H λc H1=>if c=true then u σ H1 Q else Q false H1
def tOr (t u:TT):TT:=λσ H Q=>t σ H λc H1=>if c=true then Q true H1 else u σ H1 Q
def tNot (t:TT):TT:=λσ H Q=>t σ H λc H1=>Q (!c) H1
theorem pw_and1 (ha:PT X a tA):PW X (.BoolOp .And [a] pos) tA:=by
 intro wh pins s σ H Q I h;refine isTrue_and (thn (ha pins s σ H Q I h) λc s1 e=>?_);cases c with
 | true=>exact isTrue_and_nil e
 | false=>exact e
theorem Zcz (ha:PT X a tA):PW X (.BoolOp .Or [a] pos) tA:=by
 intro wh pins s σ H Q I h;refine isTrue_or (thn (ha pins s σ H Q I h) λc s1 e=>?_);cases c with
 | false=>exact isTrue_or_nil e
 | true=>exact e
theorem pw_and (ha:PT X a tA)(hb:PW X (.BoolOp .And (b::rest) pos) tB'):PW X (.BoolOp .And (a::b::rest) pos) (tAnd tA tB'):=by
 intro wh pins s σ H Q I h;refine isTrue_and (thn (ha pins s σ H _ I h) λc s1 ⟨H1,I1,q1⟩=>?_);cases c with
 | true=>exact hb wh pins s1 σ H1 Q I1 q1
 | false=>exact⟨H1,I1,q1⟩
theorem Zdd (ha:PT X a tA)(hb:PW X (.BoolOp .Or (b::rest) pos) tB'):PW X (.BoolOp .Or (a::b::rest) pos) (tOr tA tB'):=by
 intro wh pins s σ H Q I h;refine isTrue_or (thn (ha pins s σ H _ I h) λc s1 ⟨H1,I1,q1⟩=>?_);cases c with
 | true=>exact⟨H1,I1,q1⟩
 | false=>exact hb wh pins s1 σ H1 Q I1 q1
theorem Zb7 (ha:PT X a tA):PT X (.UnaryOp .Not a pos) (tNot tA):=by
 intro pins s σ H Q I h;exact isTrue_not (ha pins s σ H (λc H1=>Q (!c) H1) I h)
def tAndV (ta tb:TE):TE:=λσ H Q=>ta σ H λx H1=>∃ c,x=.bl c/\if c=true then tb σ H1 Q else Q (.bl false) H1
def tOrV (ta tb:TE):TE:=λσ H Q=>ta σ H λx H1=>∃ c,x=.bl c/\if c=true then Q (.bl true) H1 else tb σ H1 Q
def tNotV (ta:TE):TE:=λσ H Q=>ta σ H λx H1=>∃ c,x=.bl c/\Q (.bl (!c)) H1
theorem Zh5 {op}{t:TE}(h:PE X a t):PE X (.BoolOp op [a] pos) t:=λpins s σ H Q I hw=>BoolOp_one (h pins s σ H Q I hw)
theorem Zh6 (ha:PE X a ta)(hb:PE X (.BoolOp .And (b::rest) pos) tb):PE X (.BoolOp .And (a::b::rest) pos) (tAndV ta tb):=by
 intro pins s σ H Q I h;refine BoolOp_and (thn (ha pins s σ H _ I h) λv s1 ⟨x,H1,I1,r1,q1⟩=>?_);obtain⟨c,rfl,q1⟩:=q1;cases r1;refine Jbx ?_;cases c with
 | true=>exact hb pins s1 σ H1 Q I1 q1
 | false=>exact⟨.bl false,H1,I1,rfl,q1⟩
theorem pe_or (ha:PE X a ta)(hb:PE X (.BoolOp .Or (b::rest) pos) tb):PE X (.BoolOp .Or (a::b::rest) pos) (tOrV ta tb):=by
 intro pins s σ H Q I h;refine BoolOp_or (thn (ha pins s σ H _ I h) λv s1 ⟨x,H1,I1,r1,q1⟩=>?_);obtain⟨c,rfl,q1⟩:=q1;cases r1;refine Jbx ?_;cases c with
 | false=>exact hb pins s1 σ H1 Q I1 q1
 | true=>exact⟨.bl true,H1,I1,rfl,q1⟩
theorem Zw3 (ha:PE X a ta):PE X (.UnaryOp .Not a pos) (tNotV ta):=by
 intro pins s σ H Q I h;refine UnaryOp_ (thn (ha pins s σ H _ I h) λv s1 ⟨x,H1,I1,r1,q1⟩=>?_);obtain⟨c,rfl,q1⟩:=q1;cases r1;exact not_of (Jbx ⟨.bl (!c),H1,I1,rfl,q1⟩)
def tIf (t:TT)(ta tb:TE):TE:=λσ H Q=>t σ H λc H1=>if c=true then ta σ H1 Q else tb σ H1 Q
theorem Zu1 {c:Expr}(hc:PT X c tA)(ha:PE X a ta)(hb:PE X b tb):PE X (.IfExp c a b pos) (tIf tA ta tb):=by
 intro pins s σ H Q I h;refine wpAny_IfExp (thn (hc pins s σ H _ I h) λd s1 ⟨H1,I1,q1⟩=>?_);cases d with
 | true=>exact ha pins s1 σ H1 Q I1 q1
 | false=>exact hb pins s1 σ H1 Q I1 q1
end
def SqL (K:Frag)(H:Hp)(a:Addr)(xs:List V):Prop:=
 Rd H a (.lst xs) \/
  ∃ (o:Obj) (its:Array Value) (n:Nat),K.lookup a=some o/\o.cls=.type "list" /\ o.dict=none/\o.data=.seq its n/\its.size<=sizeLine/\Vals xs its.toList
def SqT (K:Frag)(H:Hp)(a:Addr)(xs:List V):Prop:=
 Rd H a (.tup xs) \/
  ∃ (o:Obj) (its:Array Value) (n:Nat),K.lookup a=some o/\o.cls=.type "tuple" /\ o.data=.seq its n/\its.size<=sizeLine/\Vals xs its.toList
def absV:Value->Option V
 | .none=>some .non
 | .bool b=>some (.bl b)
 | .int i _=>some (.int i)
 | .str x _=>some (.str x)
 | .bytes b _=>some (.byt b)
 | .float b _=>some (.flt b)
 | .ref a=>some (.ref a)
 | .type n=>some (.ty n)
 | _=>none
theorem RelV.abs {x:V}{u:Value}(r:RelV x u):absV u=some x:=by
 cases x with
 | non=>cases r;rfl
 | bl _=>cases r;rfl
 | int _=>obtain⟨t,rfl⟩:=r;rfl
 | str _=>obtain⟨t,rfl⟩:=r;rfl
 | byt _=>obtain⟨t,rfl⟩:=r;rfl
 | flt _=>obtain⟨t,rfl⟩:=r;rfl
 | ref _=>cases r;rfl
 | ty _=>cases r;rfl
theorem RelV.inj {x y:V}{u:Value}(r:RelV x u)(q:RelV y u):x=y:=Jbi (r.abs.symm.trans q.abs)
theorem Vals.inj:∀ {xs ys:List V} {us:List Value},Vals xs us->Vals ys us->xs=ys
 | _,_,_,.nil,.nil=>rfl
 | _,_,_,.cons r t,.cons r' t'=>by rw[r.inj r',Vals.inj t t']
section
variable {X:Cx}{pins:List (Addr×Obj)}{σ:St}{H:Hp}{s:Shared}{a:Addr}{xs ys:List V}
theorem SqL.of {K:Frag}(h:H a=some (.lst xs)):SqL K H a xs:=.inl (.inl h)
theorem SqT.of {K:Frag}(h:H a=some (.tup xs)):SqT K H a xs:=.inl (.inl h)
theorem Inv.list (I:Inv X pins σ H s)(h:SqL X.K H a xs):∃ its:List Value,Vals xs its/\PlainL s.heap a its.toArray/\xs.length<=sizeLine:=by
 rcases h with h|⟨o,its,n,hk,hc,hd,hs,hz,r⟩
 .obtain ⟨z,its,n,r,e⟩:=h.ok I.hok;exact⟨its,r,⟨_,n,e,rfl,rfl,rfl⟩,z⟩
 .refine ⟨its.toList,r,⟨o,n,I.kIn a o hk,hc,hd,by simpa using hs⟩,?_⟩;have e:=r.length;simp only[Jes] at e;omega
theorem Inv.tuple (I:Inv X pins σ H s)(h:SqT X.K H a xs):∃ its:List Value,Vals xs its/\IsTup s.heap a its.toArray/\xs.length<=sizeLine:=by
 rcases h with h|⟨o,its,n,hk,hc,hs,hz,r⟩
 .obtain ⟨z,its,r,p⟩:=h.ok I.hok;exact⟨its,r,p,z⟩
 .refine ⟨its.toList,r,⟨o,I.kIn a o hk,hc,n,by simpa using hs⟩,?_⟩;have e:=r.length;simp only[Jes] at e;omega
theorem Inv.list_inj (I:Inv X pins σ H s)(h:SqL X.K H a xs)(h':SqL X.K H a ys):xs=ys:=by
 refine Zav (I.list h) λits r e925 _=>?_;obtain⟨o,n,e,_,_,d⟩:=e925;refine Zav (I.list h') λits' r' e926 _=>?_;obtain⟨o',n',e',_,_,d'⟩:=e926;rw[e] at e';cases e';rw[d] at d'
 injection d' with d1 _
 have:its=its':=by simpa using Jc8 Array.toList d1
 subst this;exact r.inj r'
theorem Inv.tuple_inj (I:Inv X pins σ H s)(h:SqT X.K H a xs)(h':SqT X.K H a ys):xs=ys:=by
 refine Zav (I.tuple h) λits r e927 _=>?_;obtain⟨o,e,_,n,d⟩:=e927;refine Zav (I.tuple h') λits' r' e928 _=>?_;obtain⟨o',e',_,n',d'⟩:=e928;rw[e] at e';cases e';rw[d] at d'
 injection d' with d1 _
 have:its=its':=by simpa using Jc8 Array.toList d1
 subst this;exact r.inj r'
end
abbrev Cx.wish (X:Cx)(E:Value->Shared->Prop):Cx:={ X with xe:=E }
abbrev Cx.nox (X:Cx):Cx:=X.wish λ_ _=>False
theorem Cx.Ok.wish {X:Cx}(ok:X.Ok)(E:Value->Shared->Prop):(X.wish E).Ok:=
 ⟨ok.mod,ok.kind,ok.glob,ok.blt,ok.above,ok.inj,ok.has,ok.cab,ok.hd,ok.frames,ok.stk,ok.exf,ok.bs,ok.bsz,ok.noex,ok.exfs,ok.funs,ok.frf,ok.top⟩
theorem Cx.Ok.unwish {X:Cx}{E:Value->Shared->Prop}(ok:(X.wish E).Ok):X.Ok:=
 ⟨ok.mod,ok.kind,ok.glob,ok.blt,ok.above,ok.inj,ok.has,ok.cab,ok.hd,ok.frames,ok.stk,ok.exf,ok.bs,ok.bsz,ok.noex,ok.exfs,ok.funs,ok.frf,ok.top⟩
section
variable {X:Cx}{pins:List (Addr×Obj)}{σ:St}{H:Hp}{s:Shared}{E:Value->Shared->Prop}
theorem Inv.wish (I:Inv X pins σ H s)(E:Value->Shared->Prop):Inv (X.wish E) pins σ H s:=⟨I.ok.wish E,I.os,I.bare,I.base,I.loc,I.cell,I.free,I.freeC,I.pin,I.hok,I.len⟩
theorem Inv.unwish (I:Inv (X.wish E) pins σ H s):Inv X pins σ H s:=⟨I.ok.unwish,I.os,I.bare,I.base,I.loc,I.cell,I.free,I.freeC,I.pin,I.hok,I.len⟩
theorem SP.unwish {D:Ends}{f:Flow}{s':Shared}(h:SP (X.wish E) pins D f s'):SP X pins D f s':=by
 cases f with
 | next=>obtain⟨σ',H',I,q⟩:=h;exact⟨σ',H',I.unwish,q⟩
 | brk=>obtain⟨σ',H',I,q⟩:=h;exact⟨σ',H',I.unwish,q⟩
 | cont=>obtain⟨σ',H',I,q⟩:=h;exact⟨σ',H',I.unwish,q⟩
 | ret u=>obtain⟨v,σ',H',I,r,q⟩:=h;exact⟨v,σ',H',I.unwish,r,q⟩
theorem PSs.nox {st:List Stmt}{t:TS}(h:PSs X.nox st t):PSs X st t:=λpins s σ H D I hw=>
 Jc4 (h pins s σ H D (I.wish _) hw) (λ_ _ q=>q.unwish) λ_ _ z=>False.elim z
end
section
variable {X:Cx}{st:Stmt}{rest:List Stmt}{t u:TS}{e:Expr}{te:TE}{pos:Pos}
def tNext:TS:=λD σ H=>D.nx σ H
def Zq4 (t u:TS):TS:=λD σ H=>t { D with nx:=u D } σ H
theorem Zao:PSs X [] tNext:=λ_ _ σ H _ I h=>Jet ⟨σ,H,I,h⟩
theorem Zuz (h1:PS X st t)(h2:PSs X rest u):PSs X (st::rest) (Zq4 t u):=by
 intro pins s σ H D I h;refine wpAny_execs_cons (thn (h1 pins s σ H { D with nx:=u D } I h) λf s1 q=>?_);cases f with
 | next=>
  obtain⟨σ',H',I',q⟩:=q;exact h2 pins s1 σ' H' D I' q
 | ret v=>exact q
 | brk=>exact q
 | cont=>exact q
theorem Zan (h1:PS X st t):PSs X [st] t:=by
 intro pins s σ H D I h;refine wpAny_execs_cons (thn (h1 pins s σ H D I h) λf s1 q=>?_);cases f with
 | next=>exact Jet q
 | ret v=>exact q
 | brk=>exact q
 | cont=>exact q
theorem Inv.quiet {pins:List (Addr×Obj)}{σ:St}{H:Hp}{s:Shared}(I:Inv X pins σ H s):interactive X.env=false:=by simp[interactive,I.ok.kind]
def tDrop (te:TE):TS:=λD σ H=>te σ H λ_ H1=>D.nx σ H1
theorem Zb1 (he:PE X e te)(hs:swapsWith e none pos.line X.env=pure false:=by rfl):PS X (.Expr e pos) (tDrop te):=by
 intro pins s σ H D I h;exact wpAny_Expr_any (thn (he pins s σ H _ I h) λv s1 ⟨x,H1,I1,r1,q1⟩=>⟨σ,H1,I1,q1⟩) I.quiet hs
def tRet (te:TE):TS:=λD σ H=>te σ H D.rt
theorem ps_ret (he:PE X e te):PS X (.Return (some e) pos) (tRet te):=by
 intro pins s σ H D I h;exact wpAny_Return_some (thn (he pins s σ H _ I h) λv s1 ⟨x,H1,I1,r1,q1⟩=>⟨x,σ,H1,I1,r1,q1⟩)
def tRetN:TS:=λD _ H=>D.rt .non H
def tIfS (c:TT)(t u:TS):TS:=λD σ H=>c σ H λb H1=>if b=true then t D σ H1 else u D σ H1
theorem Za3 {c:Expr}{a b:List Stmt}{tc:TT}(hc:PT X c tc)(ha:PSs X a t)(hb:PSs X b u):PS X (.If c a b pos) (tIfS tc t u):=by
 intro pins s σ H D I h;refine wpAny_If (thn (hc pins s σ H _ I h) λd s1 ⟨H1,I1,q1⟩=>?_);cases d with
 | true=>exact ha pins s1 σ H1 D I1 q1
 | false=>exact hb pins s1 σ H1 D I1 q1
def tNever:TS:=λ_ _ _=>False
theorem Zc3:PS X st tNever:=λ_ _ _ _ _ _ h=>h.elim
end
abbrev TG:=V->St->Hp->(St->Hp->Prop)->Prop
abbrev TGs:=List V->St->Hp->(St->Hp->Prop)->Prop
def PG (X:Cx)(target:Expr)(t:TG):Prop:=
 ∀ (pins:List (Addr×Obj)) (s:Shared) (σ:St) (H:Hp) (v:V) (u:Value) (Q:St->Hp->Prop),Inv X pins σ H s->RelV v u->t v σ H Q->
  wpAny (model X.prog X.w) X.A (assign target X.env u) (λ_ s'=>∃ σ' H',Inv X pins σ' H' s'/\Q σ' H') X.xe s
def PGs (X:Cx)(ts:List Expr)(t:TGs):Prop:=
 ∀ (pins:List (Addr×Obj)) (s:Shared) (σ:St) (H:Hp) (vs:List V) (us:List Value) (Q:St->Hp->Prop),Inv X pins σ H s->Vals vs us->t vs σ H Q->
  wpAny (model X.prog X.w) X.A (assignInOrder ((assignEach ts X.env).map (·.2)) us) (λ_ s'=>∃ σ' H',Inv X pins σ' H' s'/\Q σ' H') X.xe s
abbrev TSet:=V->V->V->Hp->(Hp->Prop)->Prop
def PSet (X:Cx)(t:TSet):Prop:=
 ∀ (pins:List (Addr×Obj)) (s:Shared) (σ:St) (H:Hp) (o i v:V) (ov iv u:Value) (Q:Hp->Prop),Inv X pins σ H s->RelV o ov->RelV i iv->RelV v u->t o i v H Q->
  wpAny (model X.prog X.w) X.A (setItem ov iv u) (λ_ s'=>∃ H',Inv X pins σ H' s'/\Q H') X.xe s
abbrev TIp:=V->V->Hp->VK->Prop
section
variable {X:Cx}{pos:Pos}
def Zbq (i:Nat):TG:=λv σ H Q=>Q (σ.set i (some v)) H
theorem Zae {i:Nat}{x:Str}(hN:X.N.Nodup)(hi:X.N[i]?=some x)(hx:Loc X.env.scope x)(hf:X.fn x=true\/X.env.scope.names.lookup x=some .local:=by first|exact .inl rfl|exact .inr rfl|assumption):PG X (.Name x pos) (Zbq i):=by
 intro pins s σ H v u Q I r h;exact wpAny_assign_Name (Zii I hN hi hx r (λs' I'=>⟨_,H,I',h⟩) hf)
def Zxd:TGs:=λvs σ H Q=>vs=[]/\Q σ H
def Zie (t:TG)(u:TGs):TGs:=λvs σ H Q=>∃ v r,vs=v::r/\t v σ H λσ' H'=>u r σ' H' Q
theorem Zaz:PGs X [] Zxd:=by
 intro pins s σ H vs us Q I r h;obtain⟨e,h⟩:=h;subst e;cases r;exact assignInOrder_nil ⟨σ,H,I,h⟩
theorem Zai {e:Expr}{es:List Expr}{t:TG}{u:TGs}(h1:PG X e t)(h2:PGs X es u)(hs:(assignEach (e::es) X.env).map (·.2)=assign e X.env::(assignEach es X.env).map (·.2):=by rfl):PGs X (e::es) (Zie t u):=by
 intro pins s σ H vs us Q I r h;obtain⟨v,vr,e1,h⟩:=h;subst e1;cases r with
 | cons r rr=>
  rw[hs];refine assignInOrder_cons (thn (h1 pins s σ H _ _ _ I r h) λ_ s1 ⟨σ1,H1,I1,q1⟩=>?_);exact h2 pins s1 σ1 H1 _ _ Q I1 rr q1
def Zt6 (K:Frag)(n:Nat)(t:TGs):TG:=λv σ H Q=>∃ a xs,v=.ref a/\SqT K H a xs/\xs.length=n/\t xs σ H Q
theorem Zbw {es:List Expr}{k:Nat}{t:TGs}{n:Nat}(hc:X.calm=true)(h:PGs X es t)(hn:(assignEach es X.env).length=n:=by rfl)(hst:(assignEach es X.env).findIdx? (·.1)=none:=by rfl):PG X (.Tuple es k pos) (Zt6 X.K n t):=by
 intro pins s σ H v u Q I r hw;obtain⟨a,xs,e1,hq,hl,hw⟩:=hw;subst e1;cases r;obtain⟨its,rv,ht,hz⟩:=I.tuple hq;refine assign_Tuple_tuple (I.ok.hd hc) ht (by simp[hn,<- hl,rv.length]) hst λh' hx=>?_;have I1:Inv X pins σ H { s with heap:=h' }:=I.kept (t':=s.toks) λb o e=>hx b o (Ja9 (Jam e)) e;exact h pins _ σ H xs _ Q I1 (by simpa using rv) hw
def gSub (to ti:TE)(t:TSet):TG:=λv σ H Q=>to σ H λo H1=>ti σ H1 λi H2=>t o i v H2 λH3=>Q σ H3
theorem Zh4 {o i:Expr}{to ti:TE}{t:TSet}(ho:PE X o to)(hi:PE X i ti)(hs:PSet X t)(ha:∀ v,assign (.Subscript o i pos) X.env v=(do
   let ov <- holding [v] (eval o X.env)
   let iv <- holding [v,ov] (eval i X.env)
   standAt pos
   holding [v,ov,iv] (setItem ov iv v)
   release [v,ov,iv] []):=by intro _;rfl):PG X (.Subscript o i pos) (gSub to ti t):=by
 intro pins s σ H v u Q I r h;rw[ha];refine Jag (Jch (thn (ho pins s σ H _ I h) λov s1 ⟨x,H1,I1,r1,q1⟩=>?_));refine Jag (Jch (thn (hi pins s1 σ H1 _ I1 q1) λiv s2 ⟨y,H2,I2,r2,q2⟩=>?_));refine Jag (Jeo (Jag (Jch (thn (hs pins s2 σ H2 x y v ov iv u _ I2 r1 r2 r q2) λ_ s3 ⟨H3,I3,q3⟩=>?_))));exact wpAny_release ⟨σ,H3,I3,q3⟩
def tAsg (te:TE)(g:TG):TS:=λD σ H=>te σ H λx H1=>g x σ H1 D.nx
theorem Zbr {tg e:Expr}{te:TE}{g:TG}(he:PE X e te)(hg:PG X tg g)(hs:swapsWithSole [tg] e pos.line X.env=pure false:=by rfl)(hw:swappedStores [tg] e X.env=pure none:=by rfl)(h1:(assignEach [tg] X.env).map (·.2)=[assign tg X.env]:=by rfl):PS X (.Assign [tg] e pos) (tAsg te g):=by
 intro pins s σ H D I h;refine wpAny_Assign_stores (thn (he pins s σ H _ I h) λv s1 ⟨x,H1,I1,r1,q1⟩=>?_) hs hw;rw[h1];exact thn (hg pins s1 σ H1 x v _ I1 r1 q1) λ_ s2 q=>q
theorem Zaq {i:Nat}{x:Str}{e:Expr}{te:TE}{pos':Pos}(hN:X.N.Nodup)(hi:X.N[i]?=some x)(hx:Loc X.env.scope x)(he:PE X e te)(hs:swapsWith e (some (.Name x pos')) pos.line X.env=pure false:=by rfl)(hf:X.fn x=true\/X.env.scope.names.lookup x=some .local:=by first|exact .inl rfl|exact .inr rfl|assumption):
  PS X (.Assign [.Name x pos'] e pos) (tAsg te (Zbq i)):=by
 intro pins s σ H D I h;refine wpAny_Assign_Name (thn (he pins s σ H _ I h) λv s1 ⟨y,H1,I1,r1,q1⟩=>?_) hs;exact Zii I1 hN hi hx r1 (λs2 I2=>⟨_,H1,I2,q1⟩) hf
def tPar (i j:Nat)(ta:TA):TS:=λD σ H=>ta σ H λvs H1=>∃ v w,vs=[v,w]/\D.nx ((σ.set i (some v)).set j (some w)) H1
theorem Zjn {i j:Nat}{x y:Str}{a b:Expr}{ta:TA}{px py pt:Pos}{kt k2 pt2}(hc:X.calm=true)(hN:X.N.Nodup)(hi:X.N[i]?=some x)(hj:X.N[j]?=some y)(hij:i≠j)(hx:X.env.scope.names.lookup x=some .local)(hy:X.env.scope.names.lookup y=some .local)(ha:PA X [a,b] ta)(hw:swappedStores [.Tuple [.Name x px,.Name y py] kt pt] (.Tuple [a,b] k2 pt2) X.env=pure (some [x,y]))(hs:swapsWithSole [.Tuple [.Name x px,.Name y py] kt pt] (.Tuple [a,b] k2 pt2) pos.line X.env=pure false:=by rfl):
  PS X (.Assign [.Tuple [.Name x px,.Name y py] kt pt] (.Tuple [a,b] k2 pt2) pos) (tPar i j ta):=by
 intro pins s σ H D I h;rw[exec_Assign_arm];refine Jag (Jeo ?_);rw[hs];refine Jag (Ja0 ?_);rw[if_neg ⇑0];refine Jag (Tuple_ (thn (ha _ pins s σ H _ I h) λus s1 ⟨vs,H1,I1,r1,q1⟩=>?_));obtain⟨v,w,e1,q1⟩:=q1;subst e1;obtain⟨u1,u2,rfl,rv,rw'⟩:∃ u1 u2,us=[u1,u2]/\RelV v u1/\RelV w u2:=by
  cases r1 with
  | cons p q=>
   cases q with
   | cons p' q'=>
    cases q';exact⟨_,_,rfl,p,p'⟩
 refine wpAny_newObj_type ?_ (by show 2<=sizeLine;decide);have I2:Inv X pins σ H1 { s1 with heap:=s1.heap.push { cls:=.type "tuple",data:=.seq [u1,u2].toArray } }:=I1.kept (t':=s1.toks) λb o e=>Jak _ e;rw[hw];refine Jag (Ja0 ?_);show wpAny (model X.prog X.w) X.A (do rule "assign.swapped-stores";let items <- unpackItems (.ref s1.heap.objs.size) 2 none;assignInOrder [λv=>bindName X.env y v,λv=>bindName X.env x v] items.reverse;pure Flow.next) _ _ _;refine Jag (wpAny_rule (Jag (unpackItems_tuple (items:=#[u1,u2]) (I.ok.hd hc) (IsTup.new s1.heap _) λh' hx'=>?_)));have I3:=I2.kept (h':=h') (t':=s1.toks) λb o e=>hx' b o (Ja9 (Jam e)) e;show wpAny _ _ (assignInOrder [λv=>bindName X.env y v,λv=>bindName X.env x v] [u2,u1] >>= λ_=>pure Flow.next) _ _ _;refine Jag (assignInOrder_cons (wpAny_bindName (Zii I3 hN hj (.inl hy) rw' (λs2 I4=>?_) (.inr hy))));refine assignInOrder_cons (wpAny_bindName (Zii I4 hN hi (.inl hx) rv (λs3 I5=>assignInOrder_nil (Ja0 ?_)) (.inr hx)));rw[List.set_comm _ _ (Jco hij)] at I5;exact⟨_,H1,I5,q1⟩
def tAug (i:Nat)(te:TE)(ti:TIp):TS:=λD σ H=>∃ x,σ[i]?=some (some x)/\te σ H λy H1=>ti x y H1 λz H2=>D.nx (σ.set i (some z)) H2
def tAugS (to ti te:TE)(tget:V->V->Hp->VK->Prop)(tip:TIp)(tset:TSet):TS:=λD σ H=>to σ H λo H1=>ti σ H1 λi H2=>tget o i H2 λx H3=>te σ H3 λy H4=>tip x y H4 λz H5=>tset o i z H5 λH6=>D.nx σ H6
def ipI (f:Int->Int->Int):TIp:=λx y H Q=>∃ i j,x=.int i/\y=.int j/\Q (.int (f i j)) H
end
section
variable {X:Cx}{pos:Pos}
def tWhile (c:TT)(tb:TS):TS:=λD σ H=>∃ W:Nat->St->Hp->Prop,(∃ m,W m σ H)/\∀ m σ H,W m σ H->
 c σ H λb H1=>if b=true then ∃ N:St->Hp->Prop,(∀ σ' H',N σ' H'->∃ m',m'<m/\W m' σ' H')/\tb { D with nx:=N,ct:=N,bk:=D.nx } σ H1 else D.nx σ H1
theorem Zeh {c:Expr}{body:List Stmt}{tc:TT}{tb:TS}(hp:PassesOwn (model X.prog X.w) X.A X.env X.xe)(hc:PT X c tc)(hb:PSs X body tb):PS X (.While c body [] pos) (tWhile tc tb):=by
 intro pins s σ H D I h;refine Zad h λW e929 turn=>?_;clear h;obtain⟨m0,w0⟩:=e929;refine wpAny_While (codeAny_whileLoop (λn s'=>∃ σ' H',Inv X pins σ' H' s'/\W n σ' H') ?_ m0 ⟨σ,H,I,w0⟩);intro n s1 e91;refine Zbh e91 λσ1 H1 I1 w1=>?_;clear e91;refine Jdb hp (thn (hc pins s1 σ1 H1 _ I1 (turn n σ1 H1 w1)) λb s2 ⟨H2,I2,q2⟩=>?_);cases b with
 | true=>
  obtain⟨N,hN,q2⟩:=q2;rw[if_pos rfl];refine Jdb hp (thn (hb pins s2 σ1 H2 _ I2 q2) λf s3 q3=>?_);cases f with
  | next=>
   refine Zbh q3 λσ3 H3 I3 n3=>?_;clear q3;refine Zad (hN σ3 H3 n3) λm' hm w3=>?_;exact⟨m',hm,σ3,H3,I3,w3⟩
  | cont=>
   refine Zbh q3 λσ3 H3 I3 n3=>?_;clear q3;refine Zad (hN σ3 H3 n3) λm' hm w3=>?_;exact⟨m',hm,σ3,H3,I3,w3⟩
  | brk=>exact q3
  | ret v=>exact q3
 | false=>
  rw[if_neg Jax];exact Jet ⟨σ1,H2,I2,q2⟩
end
structure It where
 go:Nat->Hp->Prop
 yld:Nat->Hp->V->Hp->Prop
 stop:Nat->Hp->Prop
def FpOk (X:Cx)(pins:List (Addr×Obj))(H:Hp)(b:Addr):Prop:=
 H b=none/\b≠X.env.locals/\b∉X.fs/\(b∈X.ex\/X.s₀.heap.objs.size<=b)/\(∀ x c,X.env.cells.lookup x=some c->c≠b)/\∀ p∈X.pn++pins,p.1≠b
theorem Inv.fpOk {X:Cx}{pins:List (Addr×Obj)}{σ:St}{H H':Hp}{s:Shared}{b:Addr}(I:Inv X pins σ H s)(hb:s.heap.objs.size<=b)(hn:H' b=none):FpOk X pins H' b:=by
 refine⟨hn,Jb7 (Jaw I.lt hb),I.nofs hb,.inr (Ja3 I.sz hb),λx c e z=>?_,λp hp z=>?_⟩
 .obtain ⟨v,q⟩:=I.cell x c e;exact absurd (Jaw q.lt (by rw[z];exact hb)) (Jbp _)
 .exact absurd (Jaw (Jam (I.pin p hp).1) (by rw[z];exact hb)) (Jbp _)
structure Turn (P:Program)(w:World)(K:Frag)(tg:Expr)(J:It)(fp:List Addr)(it:Addr)(tn:Nat->Heap->Prop):Prop where
 mem:it∈fp
 obj:∀ i h,tn i h->∀ b∈fp,∃ o,h.get? b=some o/\∀ v,o.data≠.cell v
 keep:∀ i h h',tn i h->(∀ b∈fp,∀ o,h.get? b=some o->h'.get? b=some o)->tn i h'
 item:∀ (X:Cx),X.prog=P->X.w=w->X.K=K->X.calm=true->∀ (i:Nat) (pins:List (Addr×Obj)) (s:Shared) (σ:St) (H:Hp) (E:Value->Shared->Prop),Inv X pins σ H s->(∀ b∈fp,FpOk X pins H b)->tn i s.heap->J.go i H->
  wpAny (model P w) X.A (pyNext (.ref it)) (λr s1=>∃ u,r=some u /\
   wpAny (model P w) X.A (letOwnedTupleGo tg (.ref it) u) (λ_ s2=>∃ x H',Inv X pins σ H' s2/\RelV x u/\J.yld i H x H'/\tn (i+1) s2.heap/\∀ b∈fp,H' b=none) E s1) E s
 done:∀ (X:Cx),X.prog=P->X.w=w->X.K=K->X.calm=true->∀ (i:Nat) (pins:List (Addr×Obj)) (s:Shared) (σ:St) (H:Hp) (E:Value->Shared->Prop),Inv X pins σ H s->(∀ b∈fp,FpOk X pins H b)->tn i s.heap->J.stop i H->
  wpAny (model P w) X.A (pyNext (.ref it)) (λr s1=>r=none/\Inv X pins σ H s1) E s
 self:∀ (A:Around) (i:Nat) (s:Shared) (Q:Value->Shared->Prop) (E:Value->Shared->Prop),tn i s.heap->Q (.ref it) s->wpAny (model P w) A (pyIter (.ref it)) Q E s
abbrev TI:=St->Hp->(It->Hp->Prop)->Prop
def PIE (X:Cx)(pins:List (Addr×Obj))(σ:St)(tg:Expr)(R:It->Hp->Prop)(itv:Value)(s2:Shared):Prop:=
 ∃ (it:Addr) (fp:List Addr) (tn:Nat->Heap->Prop) (J:It) (H':Hp),itv=.ref it/\Inv X pins σ H' s2/\Turn X.prog X.w X.K tg J fp it tn/\tn 0 s2.heap/\(∀ b∈fp,FpOk X pins H' b)/\R J H'
def PI (X:Cx)(tg iter:Expr)(wi:TI):Prop:=
 ∀ (pins:List (Addr×Obj)) (s:Shared) (σ:St) (H:Hp) (R:It->Hp->Prop),Inv X pins σ H s->wi σ H R->
  wpAny (model X.prog X.w) X.A (eval iter X.env) (λv s1=>wpAny (model X.prog X.w) X.A (pyIter v) (PIE X pins σ tg R) X.xe s1) X.xe s
theorem Zv8 {M:Model}{A:Around}{E:Value->Shared->Prop}{s:Shared}{tg:Expr}{it:Addr}{u:Value}{o:Obj}{n:String}{vs:Array Value}{Q:Unit->Shared->Prop}(ho:s.heap.get? it=some o)(hc:o.cls=.type n)(hd:o.data=.fields vs)(hn:["enumerate","zip","dict_itemiterator","dict_reverseitemiterator","odict_iterator","itertools.zip_longest","itertools.pairwise"].contains n=false)(hQ:Q () s):wpAny M A (letOwnedTupleGo tg (.ref it) u) Q E s:=by
 unfold letOwnedTupleGo;cases tg <;> first
  | exact Ja0 hQ
  | (cases u <;> first
    | exact Ja0 hQ
    | (refine Jag (wpAny_load ho ?_);rw[hc,hd];show wpAny M A (if (["enumerate","zip","dict_itemiterator","dict_reverseitemiterator","odict_iterator","itertools.zip_longest","itertools.pairwise"].contains n && vs[0]? == some (rawInt _))=true then _ else _) Q E s;rw[if_neg (by intro h;rw[hn,Jfc] at h;cases h)];exact Ja0 hQ))
def Itl (K:Frag)(a:Addr):It:=
 ⟨λi H=>∃ xs x,SqL K H a xs/\xs[i]?=some x,λi H x H'=>H'=H/\∀ xs,SqL K H a xs->xs[i]?=some x,λi H=>∃ xs,SqL K H a xs/\xs.length<=i⟩
def Itt (K:Frag)(a:Addr):It:=
 ⟨λi H=>∃ xs x,SqT K H a xs/\xs[i]?=some x,λi H x H'=>H'=H/\∀ xs,SqT K H a xs->xs[i]?=some x,λi H=>∃ xs,SqT K H a xs/\xs.length<=i⟩
def Itr (lo:Int)(n:Nat):It:=⟨λi _=>i<n,λi H x H'=>H'=H/\x=.int (lo+i),λi _=>n<=i⟩
theorem Zq1 {P:Program}{w:World}{K:Frag}{tg:Expr}(a it:Addr):Turn P w K tg (Itl K a) [it] it (λi h=>h.IsListIter it a i) where
 mem:=by simp
 obj:=λi h st b hb=>by
  have e:b=it:=by simpa using hb
  subst e;refine Zav st λo e c d=>?_;clear st;exact⟨o,e,λv z=>by rw[d] at z;cases z⟩
 keep:=λi h h' st k=>st.at λo e=>k it (by simp) o e
 item:=by
  intro X hP hw hK hc i pins s σ H E I hf st hg;subst hP hw hK;refine Zbh hg λxs x hq hx=>?_;clear hg;refine Zav (I.list hq) λits rv p hz=>?_;refine Zad (rv.get hx) λu hu ru=>?_;refine Zf3 (hf it (by simp)) λf0 f1 f2 f3 f4 f5=>?_;refine Jd8 st p.isList (x:=u) (by simpa using hu) λh' st' sb=>?_;have I1:Inv X pins σ H { s with heap:=h' }:=I.turned (t':=s.toks) (λb o hb e=>(sb.2 b hb).trans e) f0 f1 f3 f4 f5;refine Zav (id st') λo e c d=>?_;exact⟨u,rfl,Zv8 (s:={ s with heap:=h' }) e c d ⇑0 ⟨x,H,I1,ru,⟨rfl,λys hy=>by rw[I.list_inj hy hq];exact hx⟩,st',λb hb=>(hf b hb).1⟩⟩
 done:=by
  intro X hP hw hK hc i pins s σ H E I hf st hg;subst hP hw hK;refine Zad hg λxs hq hx=>?_;clear hg;refine Zav (I.list hq) λits rv p hz=>?_;refine Zf3 (hf it (by simp)) λf0 f1 f2 f3 f4 f5=>?_;have hl:=rv.length;exact Jef (I.ok.hd hc) st p.isList (by simp;omega) λh' eb=>⟨rfl,I.turned (t':=s.toks) (λb o hb e=>eb b o hb e) f0 f1 f3 f4 f5⟩
 self:=λ_ _ _ _ _ st h=>wpAny_pyIter_listiter st h
theorem Zp0 {P:Program}{w:World}{K:Frag}{tg:Expr}(a it:Addr):Turn P w K tg (Itt K a) [it] it (λi h=>h.IsTupleIter it a i) where
 mem:=by simp
 obj:=λi h st b hb=>by
  have e:b=it:=by simpa using hb
  subst e;refine Zav st λo e c d=>?_;clear st;exact⟨o,e,λv z=>by rw[d] at z;cases z⟩
 keep:=λi h h' st k=>st.at λo e=>k it (by simp) o e
 item:=by
  intro X hP hw hK hc i pins s σ H E I hf st hg;subst hP hw hK;refine Zbh hg λxs x hq hx=>?_;clear hg;refine Zav (I.tuple hq) λits rv p hz=>?_;refine Zad (rv.get hx) λu hu ru=>?_;refine Zf3 (hf it (by simp)) λf0 f1 f2 f3 f4 f5=>?_;refine wpAny_pyNext_tuple_item st (show s.heap.IsTuple a its.toArray from p) (x:=u) (by simpa using hu) λh' st' sb=>?_;have I1:Inv X pins σ H { s with heap:=h' }:=I.turned (t':=s.toks) (λb o hb e=>(sb.2 b hb).trans e) f0 f1 f3 f4 f5;refine Zav (id st') λo e c d=>?_;exact⟨u,rfl,Zv8 (s:={ s with heap:=h' }) e c d ⇑0 ⟨x,H,I1,ru,⟨rfl,λys hy=>by rw[I.tuple_inj hy hq];exact hx⟩,st',λb hb=>(hf b hb).1⟩⟩
 done:=by
  intro X hP hw hK hc i pins s σ H E I hf st hg;subst hP hw hK;refine Zad hg λxs hq hx=>?_;clear hg;refine Zav (I.tuple hq) λits rv p hz=>?_;refine Zf3 (hf it (by simp)) λf0 f1 f2 f3 f4 f5=>?_;have hl:=rv.length;exact wpAny_pyNext_tuple_end (I.ok.hd hc) st (show s.heap.IsTuple a its.toArray from p) (by simp;omega) λh' eb=>⟨rfl,I.turned (t':=s.toks) (λb o hb e=>eb b o hb e) f0 f1 f3 f4 f5⟩
 self:=λ_ _ _ _ _ st h=>wpAny_pyIter_tupleiter st h
theorem Zp1 {P:Program}{w:World}{K:Frag}{tg:Expr}(it:Addr)(lo:Int)(n:Nat):Turn P w K tg (Itr lo n) [it] it (λi h=>IsRangeIter h it (lo+(i:Nat)*1) ((n:Int)-(i:Nat)) 1) where
 mem:=by simp
 obj:=λi h st b hb=>by
  have e:b=it:=by simpa using hb
  subst e;exact⟨_,st,λv z=>by
   have z':Data.fields _=Data.cell v:=z;cases z'⟩
 keep:=λi h h' st k=>k it (by simp) _ st
 item:=by
  intro X hP hw hK hc i pins s σ H E I hf st hg;subst hP hw hK;refine Zf3 (hf it (by simp)) λf0 f1 f2 f3 f4 f5=>?_;have W:=Walks.range (prog:=X.prog) (w:=X.w) (I.ok.hd hc) it lo 1 n;refine W.item i s _ _ hg st λv h' tk hv st' kk=>?_;obtain⟨t,rfl⟩:=hv;have I1:Inv X pins σ H { s with heap:=h',toks:=tk }:=I.turned (λb o hb e=>kk b o (by simpa using hb) e) f0 f1 f3 f4 f5;refine⟨_,rfl,Zv8 (s:={ s with heap:=h',toks:=tk }) (n:="range_iterator") st' rfl rfl ⇑0 ⟨.int (lo+i),H,I1,⟨t,?_⟩,⟨rfl,rfl⟩,st',λb hb=>(hf b hb).1⟩⟩;rw[Int.mul_one]
 done:=by
  intro X hP hw hK hc i pins s σ H E I hf st hg;subst hP hw hK;refine Zf3 (hf it (by simp)) λf0 f1 f2 f3 f4 f5=>?_;exact wpAny_pyNext_range_end (I.ok.hd hc) st (by have:n<=i:=hg;omega) λh' eb=>⟨rfl,I.turned (t':=s.toks) (λb o hb e=>eb b o hb e) f0 f1 f3 f4 f5⟩
 self:=λ_ _ _ _ _ st h=>wpAny_pyIter_rangeiter st h
section
variable {X:Cx}{tg:Expr}
def Zs9 (K:Frag)(tl:TE):TI:=λσ H R=>tl σ H λx H1=>∃ a,x=.ref a/\(∃ xs,SqL K H1 a xs)/\R (Itl K a) H1
def iTup (K:Frag)(tl:TE):TI:=λσ H R=>tl σ H λx H1=>∃ a,x=.ref a/\(∃ xs,SqT K H1 a xs)/\R (Itt K a) H1
theorem Za6 {l:Expr}{tl:TE}(hl:PE X l tl):PI X tg l (Zs9 X.K tl):=by
 intro pins s σ H R I h;refine thn (hl pins s σ H _ I h) λv s1 ⟨x,H1,I1,r1,q1⟩=>?_;refine Zav q1 λa e e930 q=>?_;clear q1;obtain⟨xs,hq⟩:=e930;subst e;cases r1;refine Zav (I1.list hq) λits rv p hz=>?_;refine Jdt p.isList ?_;refine Zir s1.heap.objs.size [s1.heap.objs.size] _ _ H1 ⟨rfl,I1.kept (t':=s1.toks) λb o e=>Jak _ e,Zq1 a _,⟨_,Ja4 _ rfl,rfl,rfl⟩,λb hb=>?_,q⟩;have e:b=s1.heap.objs.size:=by simpa using hb
 subst e;exact I1.fpOk (Jai _) (I1.hok.fresh (Jai _))
theorem pi_tup {l:Expr}{tl:TE}(hl:PE X l tl):PI X tg l (iTup X.K tl):=by
 intro pins s σ H R I h;refine thn (hl pins s σ H _ I h) λv s1 ⟨x,H1,I1,r1,q1⟩=>?_;refine Zav q1 λa e e931 q=>?_;clear q1;obtain⟨xs,hq⟩:=e931;subst e;cases r1;refine Zav (I1.tuple hq) λits rv p hz=>?_;refine wpAny_pyIter_tuple (show s1.heap.IsTuple a its.toArray from p) ?_;refine Zir s1.heap.objs.size [s1.heap.objs.size] _ _ H1 ⟨rfl,I1.kept (t':=s1.toks) λb o e=>Jak _ e,Zp0 a _,⟨_,Ja4 _ rfl,rfl,rfl⟩,λb hb=>?_,q⟩;have e:b=s1.heap.objs.size:=by simpa using hb
 subst e;exact I1.fpOk (Jai _) (I1.hok.fresh (Jai _))
theorem Zo1 {pins:List (Addr×Obj)}{σ:St}{H:Hp}{s:Shared}{R:It->Hp->Prop}{E:Value->Shared->Prop}{lo hi:Int}{t u v:Tok}{tk:Nat}(I:Inv X pins σ H s)(h1:-(2 ^ 62)<=lo)(h2:lo<2 ^ 62)(h3:-(2 ^ 62)<=hi)(h4:hi<2 ^ 62)(q:R (Itr lo (hi-lo).toNat) H):wpAny (model X.prog X.w) X.A (pyIter (.ref s.heap.objs.size)) (PIE X pins σ tg R) E { s with heap:=s.heap.push { cls:=.type "range",data:=.fields #[.int lo t,.int hi u,.int 1 v] },toks:=tk }:=by
 refine wpAny_pyIter_range (IsRange.new ..) (small_one h1 h2 h3 h4) ?_;have I1:Inv X pins σ H { s with heap:=s.heap.push { cls:=.type "range",data:=.fields #[.int lo t,.int hi u,.int 1 v] },toks:=tk }:=I.kept λb o e=>Jak _ e;refine Zir ((s.heap.push { cls:=.type "range",data:=.fields #[.int lo t,.int hi u,.int 1 v] }).objs.size) [(s.heap.push { cls:=.type "range",data:=.fields #[.int lo t,.int hi u,.int 1 v] }).objs.size] _ _ H ⟨rfl,I1.kept (t':=tk) λb o e=>Jak _ e,Zp1 _ lo (hi-lo).toNat,?_,λb hb=>?_,q⟩
 .have e1:lo+((0:Nat):Int)*1=lo:=by simp
  have e2:(((hi-lo).toNat:Nat):Int)-((0:Nat):Int)=Builtin.Range.rangeSize lo hi 1:=by rw[rangeSize_one];split <;> omega
  show IsRangeIter _ _ (lo+((0:Nat):Int)*1) ((((hi-lo).toNat:Nat):Int)-((0:Nat):Int)) 1;rw[e1,e2];exact Ja4 _ rfl
 .have e:b=(s.heap.push { cls:=.type "range",data:=.fields #[.int lo t,.int hi u,.int 1 v] }).objs.size:=by simpa using hb
  subst e;exact I1.fpOk (Jai _) (I1.hok.fresh (Jai _))
def Zs8 (ta:TA):TI:=λσ H R=>ta σ H λvs H1=>∃ j:Int,vs=[.int j]/\-(2 ^ 62)<=j/\j<2 ^ 62/\R (Itr 0 j.toNat) H1
def Zv5 (ta:TA):TI:=λσ H R=>ta σ H λvs H1=>∃ i j:Int,vs=[.int i,.int j]/\(-(2 ^ 62)<=i/\i<2 ^ 62/\-(2 ^ 62)<=j/\j<2 ^ 62)/\R (Itr i (j-i).toNat) H1
theorem Zr5 {a:Expr}{ta:TA}{p pos:Pos}(hg:Gl X "range")(hm:X.mg "range" = none)(ha:PA X [a] ta)(hs:starEach [a] X.env=[(false,eval a X.env)]:=by rfl):PI X tg (.Call (.Name "range" p) [a] [] pos) (Zs8 ta):=by
 intro pins s σ H R I h;refine Call_ (Zfh I hg hm boot_range (Jbl (thn (ha pos pins s σ H _ I h) λus s1 ⟨vs,H1,I1,r1,q1⟩=>?_) hs rfl));obtain⟨j,e,q1,q2,q⟩:=q1;subst e;cases r1 with
 | cons r rr=>
  cases rr;obtain⟨t,rfl⟩:=r;exact call_range_1 (Zo1 I1 ∅ ∅ q1 q2 (by simpa using q))
theorem Zr4 {a b:Expr}{ta:TA}{p pos:Pos}(hg:Gl X "range")(hm:X.mg "range" = none)(ha:PA X [a,b] ta)(hs:starEach [a,b] X.env=[(false,eval a X.env),(false,eval b X.env)]:=by rfl)(hs2:starEach [b] X.env=[(false,eval b X.env)]:=by rfl):
  PI X tg (.Call (.Name "range" p) [a,b] [] pos) (Zv5 ta):=by
 intro pins s σ H R I h;refine Call_ (Zfh I hg hm boot_range (Jbl (thn (ha pos pins s σ H _ I h) λus s1 ⟨vs,H1,I1,r1,q1⟩=>?_) (by rw[hs,hs2]) (by rw[hs2];rfl)));refine Zbm q1 λi j e e932 q=>?_;clear q1;obtain⟨q1,q2,q3,q4⟩:=e932;subst e;cases r1 with
 | cons r rr=>
  cases rr with
  | cons r' rr=>
   cases rr;obtain⟨t,rfl⟩:=r;obtain⟨t',rfl⟩:=r';exact call_range_2 (Zo1 I1 q1 q2 q3 q4 q)
def tFor (wi:TI)(g:TG)(tb:TS):TS:=λD σ H=>wi σ H λJ H1=>∃ W:Nat->Nat->St->Hp->Prop,(∃ m,W 0 m σ H1)/\∀ i m σ H,W i m σ H->
 (J.stop i H/\D.nx σ H)\/(J.go i H/\∃ N:St->Hp->Prop,(∀ σ' H',N σ' H'->∃ m',m'<m/\W (i+1) m' σ' H')/\∀ x H',J.yld i H x H'->g x σ H' λσ2 H2=>tb { D with nx:=N,ct:=N,bk:=D.nx } σ2 H2)
def Zmc (fp:List Addr)(h:Heap):List (Addr×Obj):=fp.filterMap λb=>(h.get? b).map λo=>(b,o)
theorem Zd9 {fp:List Addr}{h:Heap}{b:Addr}{o:Obj}(hb:b∈fp)(e:h.get? b=some o):(b,o)∈Zmc fp h:=List.mem_filterMap.mpr ⟨b,hb,by rw[e];rfl⟩
theorem Zsk {fp:List Addr}{h:Heap}{p:Addr×Obj}(hp:p∈Zmc fp h):p.1∈fp/\h.get? p.1=some p.2:=by
 refine Zad (List.mem_filterMap.mp hp) λb hb e=>?_;cases q:h.get? b with
 | none=>rw[q] at e;cases e
 | some o=>
  rw[q] at e;have e':(b,o)=p:=Jbi e;subst e';exact⟨hb,q⟩
theorem Inv.pinned {pins:List (Addr×Obj)}{σ:St}{H:Hp}{s:Shared}{fp:List Addr}(I:Inv X pins σ H s)(hf:∀ b∈fp,FpOk X pins H b)(ho:∀ b∈fp,∃ o,s.heap.get? b=some o/\∀ v,o.data≠.cell v):Inv X (pins++Zmc fp s.heap) σ H s:=
 I.pins_of λp hp=>(Jal.mp hp).elim (λz=>I.pin p (Jbj _ z)) λz=>by
  obtain⟨hb,e⟩:=Zsk z;refine Zb0 (hf p.1 hb) λf0 f1 f2 _=>?_;refine Zad (ho p.1 hb) λo e' d=>?_;rw[e] at e';cases e';exact⟨e,f0,f1,f2,d⟩
theorem Inv.unpinned {pins pl:List (Addr×Obj)}{σ:St}{H:Hp}{s:Shared}(I:Inv X (pins++pl) σ H s):Inv X pins σ H s:=I.pins_of λp hp=>I.pin p (Jbj _ (List.mem_append_left _ hp))
theorem Zb2 {iter:Expr}{body:List Stmt}{wi:TI}{g:TG}{tb:TS}{pos:Pos}(hp:PassesOwn (model X.prog X.w) X.A X.env X.xe)(hc:X.calm=true)(hi:PI X tg iter wi)(hg:PG X tg g)(hb:PSs X body tb)(hs:∀ x,foldedSetIterable iter X.env x=pure x:=by intro _;rfl):PS X (.For tg iter body [] pos) (tFor wi g tb):=by
 intro pins s σ H D I h;refine wpAny_For (thn (hi pins s σ H _ I h) λv s1 h1=>thn h1 λitv s2 h2=>?_) hs;refine Zf2 h2 λit fp tn J H2 e I2 T e933=>?_;clear h2;refine Za2 e933 λst2 f2 e934=>?_;clear e933;obtain⟨W,⟨m0,w0⟩,turn⟩:=e934;subst e
 -- what stays true of the iterator's objects Zm9 the loop
 have stat:∀ {H':Hp},(∀ b∈fp,H' b=none)->∀ b∈fp,FpOk X pins H' b:=λhn b hb=>⟨hn b hb,(f2 b hb).2⟩
 refine codeAny_forLoop_any (λn s'=>∃ i σ' H',Inv X pins σ' H' s'/\tn i s'.heap/\(∀ b∈fp,H' b=none)/\W i n σ' H') ?_ m0 ⟨0,σ,H2,I2,st2,λb hb=>(f2 b hb).1,w0⟩;intro n s3 e92;refine Zbu e92 λi σ3 H3 I3 st3 fr3 w3=>?_;clear e92;rcases turn i n σ3 H3 w3 with ⟨stop,qn⟩|⟨go,N,hN,step⟩
 .refine Jdb hp (thn (T.done X rfl rfl rfl hc i pins s3 σ3 H3 X.xe I3 (stat fr3) st3 stop) λr s4 ⟨hr,I4⟩=>?_);subst hr;exact Jet ⟨σ3,H3,I4,qn⟩
 .refine Jdb hp (thn (T.item X rfl rfl rfl hc i pins s3 σ3 H3 X.xe I3 (stat fr3) st3 go) λr s4 ⟨u,hr,h4⟩=>?_);subst hr;refine Jdb hp (thn h4 λ_ s5 ⟨x,H5,I5,r5,y5,st5,fr5⟩=>?_);have I5':=I5.pinned (stat fr5) (T.obj _ _ st5);refine Jdb hp (thn (hg _ s5 σ3 H5 x u _ I5' r5 (step x H5 y5)) λ_ s6 ⟨σ6,H6,I6,q6⟩=>?_);refine Jdb hp (thn (hb _ s6 σ6 H6 _ I6 q6) λf s7 q7=>?_);have again:∀ {σ7:St} {H7:Hp},Inv X (pins++Zmc fp s5.heap) σ7 H7 s7->N σ7 H7->∃ m,m<n/\∃ i σ' H',Inv X pins σ' H' s7/\tn i s7.heap/\(∀ b∈fp,H' b=none)/\W i m σ' H':=λ{σ7 H7} I7 n7=>by
   refine Zad (hN σ7 H7 n7) λm' hm w7=>?_;refine⟨m',hm,i+1,σ7,H7,I7.unpinned,T.keep _ _ _ st5 λb hb o e=>(I7.pin (b,o) (Jbj _ (Jbj _ (Zd9 hb e)))).1,λb hb=>?_,w7⟩;refine Zad (T.obj _ _ st5 b hb) λo e d=>?_;exact (I7.pin (b,o) (Jbj _ (Jbj _ (Zd9 hb e)))).2.1
  cases f with
  | next=>obtain⟨σ7,H7,I7,n7⟩:=q7;exact again I7 n7
  | cont=>obtain⟨σ7,H7,I7,n7⟩:=q7;exact again I7 n7
  | brk=>obtain⟨σ7,H7,I7,q7⟩:=q7;exact⟨σ7,H7,I7.unpinned,q7⟩
  | ret v=>obtain⟨x7,σ7,H7,I7,r7,q7⟩:=q7;exact⟨x7,σ7,H7,I7.unpinned,r7,q7⟩
end
theorem Zdt {K:Frag}{a:Addr}{xs:List V}{g:TG}{tb:TS}{D:Ends}{σ:St}{H:Hp}(Pv:Nat->St->Hp->Prop)(h0:Pv 0 σ H)(hl:∀ i σ H,i<=xs.length->Pv i σ H->SqL K H a xs)(hs:∀ i x σ H,xs[i]?=some x->Pv i σ H->g x σ H λσ2 H2=>tb { D with nx:=Pv (i+1),ct:=Pv (i+1),bk:=D.nx } σ2 H2)(hd:∀ σ H,Pv xs.length σ H->D.nx σ H):
  ∃ W:Nat->Nat->St->Hp->Prop,(∃ m,W 0 m σ H)/\∀ i m σ H,W i m σ H->
   ((Itl K a).stop i H/\D.nx σ H)\/((Itl K a).go i H/\∃ N:St->Hp->Prop,(∀ σ' H',N σ' H'->∃ m',m'<m/\W (i+1) m' σ' H')/\∀ x H',(Itl K a).yld i H x H'->g x σ H' λσ2 H2=>tb { D with nx:=N,ct:=N,bk:=D.nx } σ2 H2):=by
 refine⟨λi m σ H=>m=xs.length-i/\i<=xs.length/\Pv i σ H,⟨xs.length,by simp,Jb9 _,h0⟩,?_⟩;intro i m σ H e93;refine Za2 e93 λe935 hi p=>?_;clear e93;obtain rfl:=e935;have q:=hl i σ H hi p;by_cases hlt:i<xs.length
 .refine .inr ⟨⟨xs,xs[i],q,by simp[hlt]⟩,Pv (i+1),λσ' H' p'=>⟨xs.length-(i+1),∅,rfl,hlt,p'⟩,λx H' y=>?_⟩;obtain⟨e,y⟩:=y;subst e;exact hs i x σ _ (y xs q) p
 .have e:i=xs.length:=∅
  subst e;exact .inl ⟨⟨xs,q,Jai _⟩,hd σ H p⟩
theorem Zbt {lo:Int}{n:Nat}{g:TG}{tb:TS}{D:Ends}{σ:St}{H:Hp}(Pv:Nat->St->Hp->Prop)(h0:Pv 0 σ H)(hs:∀ i σ H,i<n->Pv i σ H->g (.int (lo+i)) σ H λσ2 H2=>tb { D with nx:=Pv (i+1),ct:=Pv (i+1),bk:=D.nx } σ2 H2)(hd:∀ σ H,Pv n σ H->D.nx σ H):
  ∃ W:Nat->Nat->St->Hp->Prop,(∃ m,W 0 m σ H)/\∀ i m σ H,W i m σ H->
   ((Itr lo n).stop i H/\D.nx σ H)\/((Itr lo n).go i H/\∃ N:St->Hp->Prop,(∀ σ' H',N σ' H'->∃ m',m'<m/\W (i+1) m' σ' H')/\∀ x H',(Itr lo n).yld i H x H'->g x σ H' λσ2 H2=>tb { D with nx:=N,ct:=N,bk:=D.nx } σ2 H2):=by
 refine⟨λi m σ H=>m=n-i/\i<=n/\Pv i σ H,⟨n,by simp,Jb9 _,h0⟩,?_⟩;intro i m σ H e95;refine Za2 e95 λe937 hi p=>?_;clear e95;obtain rfl:=e937;by_cases hlt:i<n
 .refine .inr ⟨hlt,Pv (i+1),λσ' H' p'=>⟨n-(i+1),∅,rfl,hlt,p'⟩,λx H' y=>?_⟩;obtain⟨e,y⟩:=y;subst e y;exact hs i σ _ hlt p
 .have e:i=n:=∅
  subst e;exact .inl ⟨Jai _,hd σ H p⟩
abbrev R2:=V->V->Hp->VK->Prop
def OpR (X:Cx)(f:Value->Value->Sem Value)(r:R2):Prop:=
 ∀ (pins:List (Addr×Obj)) (s:Shared) (σ:St) (H:Hp) (x y:V) (v u:Value) (Q:VK),Inv X pins σ H s->RelV x v->RelV y u->r x y H Q->
  wpAny (model X.prog X.w) X.A (f v u) (EP X pins σ Q) X.xe s
def UnR (X:Cx)(f:Value->Sem Value)(r:V->Hp->VK->Prop):Prop:=
 ∀ (pins:List (Addr×Obj)) (s:Shared) (σ:St) (H:Hp) (x:V) (v:Value) (Q:VK),Inv X pins σ H s->RelV x v->r x H Q->
  wpAny (model X.prog X.w) X.A (f v) (EP X pins σ Q) X.xe s
def Zfq (X:Cx)(f:Value)(r:List V->Hp->VK->Prop):Prop:=
 ∀ (pins:List (Addr×Obj)) (s:Shared) (σ:St) (H:Hp) (xs:List V) (us:List Value) (Q:VK),Inv X pins σ H s->Vals xs us->r xs H Q->
  wpAny (model X.prog X.w) X.A (call f us) (EP X pins σ Q) X.xe s
def tOp (r:R2)(ta tb:TE):TE:=λσ H Q=>ta σ H λx H1=>tb σ H1 λy H2=>r x y H2 Q
def tUn (r:V->Hp->VK->Prop)(ta:TE):TE:=λσ H Q=>ta σ H λx H1=>r x H1 Q
def rI (C:Int->Int->Prop)(g:Int->Int->V):R2:=λx y H Q=>∃ i j,x=.int i/\y=.int j/\C i j/\Q (g i j) H
def rI0 (g:Int->Int->V):R2:=λx y H Q=>∃ i j,x=.int i/\y=.int j/\Q (g i j) H
def rU (g:Int->V):V->Hp->VK->Prop:=λx H Q=>∃ i,x=.int i/\Q (g i) H
section
variable {X:Cx}{a b c:Expr}{ta tb tc:TE}{pos:Pos}
theorem binT (ha:PE X a ta)(hb:PE X b tb){pins:List (Addr×Obj)}{s:Shared}{σ:St}{H:Hp}{R:V->V->Hp->Prop}(I:Inv X pins σ H s)(h:ta σ H λx H1=>tb σ H1 λy H2=>R x y H2){Q:Value->Shared->Prop}{f:Value->Value->Sem Value}(hf:∀ v u s2 x y H2,Inv X pins σ H2 s2->RelV x v->RelV y u->R x y H2->wpAny (model X.prog X.w) X.A (f v u) Q X.xe s2):
  wpAny (model X.prog X.w) X.A (eval a X.env) (λv s₁=>wpAny (model X.prog X.w) X.A (eval b X.env) (λu s₂=>wpAny (model X.prog X.w) X.A (f v u) Q X.xe s₂) X.xe s₁) X.xe s:=by
 refine thn (ha pins s σ H _ I h) λv s1 ⟨x,H1,I1,r1,q1⟩=>?_;refine thn (hb pins s1 σ H1 _ I1 q1) λu s2 ⟨y,H2,I2,r2,q2⟩=>?_;exact hf v u s2 x y H2 I2 r1 r2 q2
theorem pe_op {op:Operator}{r:R2}(ho:OpR X (binaryOp op) r)(ha:PE X a ta)(hb:PE X b tb):PE X (.BinOp a op b pos) (tOp r ta tb):=by
 intro pins s σ H Q I h;exact wpAny_BinOp (binT ha hb I h λv u s2 x y H2 I2 rx ry q=>ho pins s2 σ H2 x y v u Q I2 rx ry q)
theorem Zu0 {op:UnaryOp}{r:V->Hp->VK->Prop}(ho:UnR X (unaryOp op) r)(ha:PE X a ta):PE X (.UnaryOp op a pos) (tUn r ta):=by
 intro pins s σ H Q I h;exact UnaryOp_ (thn (ha pins s σ H _ I h) λv s1 ⟨x,H1,I1,r1,q1⟩=>ho pins s1 σ H1 x v Q I1 r1 q1)
theorem opI {f:Value->Value->Sem Value}{C:Int->Int->Prop}{g:Int->Int->Int}(rule:∀ (i j:Int) (t u:Tok) (s:Shared) (Q:Value->Shared->Prop) (E:Value->Shared->Prop),C i j->Q (.int (g i j) s.toks) { s with toks:=s.toks+1 }->wpAny (model X.prog X.w) X.A (f (.int i t) (.int j u)) Q E s):
  OpR X f (rI C λi j=>.int (g i j)):=by
 intro pins s σ H x y v u Q I rx ry h;refine Zdw h λi j e938 e939 hc q=>?_;clear h;obtain rfl:=e938;obtain rfl:=e939;obtain⟨t,rfl⟩:=rx;obtain⟨t',rfl⟩:=ry;exact rule i j t t' s _ _ hc ⟨.int (g i j),H,I.tok _,⟨_,rfl⟩,q⟩
theorem opI0 {f:Value->Value->Sem Value}{g:Int->Int->Int}(rule:∀ (i j:Int) (t u:Tok) (s:Shared) (Q:Value->Shared->Prop) (E:Value->Shared->Prop),Q (.int (g i j) s.toks) { s with toks:=s.toks+1 }->wpAny (model X.prog X.w) X.A (f (.int i t) (.int j u)) Q E s):
  OpR X f (rI0 λi j=>.int (g i j)):=by
 intro pins s σ H x y v u Q I rx ry h;refine Zbm h λi j e940 e941 q=>?_;clear h;obtain rfl:=e940;obtain rfl:=e941;obtain⟨t,rfl⟩:=rx;obtain⟨t',rfl⟩:=ry;exact rule i j t t' s _ _ ⟨.int (g i j),H,I.tok _,⟨_,rfl⟩,q⟩
theorem opB0 {f:Value->Value->Sem Value}{g:Int->Int->Bool}(rule:∀ (i j:Int) (t u:Tok) (s:Shared) (Q:Value->Shared->Prop) (E:Value->Shared->Prop),Q (.bool (g i j)) s->wpAny (model X.prog X.w) X.A (f (.int i t) (.int j u)) Q E s):
  OpR X f (rI0 λi j=>.bl (g i j)):=by
 intro pins s σ H x y v u Q I rx ry h;refine Zbm h λi j e942 e943 q=>?_;clear h;obtain rfl:=e942;obtain rfl:=e943;obtain⟨t,rfl⟩:=rx;obtain⟨t',rfl⟩:=ry;exact rule i j t t' s _ _ ⟨.bl (g i j),H,I,rfl,q⟩
def CDiv (i j:Int):Prop:=0<j/\j<1073741824
def CPow (i j:Int):Prop:=0<=j/\j<=1000000/\i.natAbs<2 ^ 64
def CMul (i j:Int):Prop:=(-(2 ^ 64)<i/\i<2 ^ 64)\/(-(2 ^ 64)<j/\j<2 ^ 64)
theorem CMul.ok {i j:Int}(h:CMul i j):IntMulOk i j:=by
 rcases h with ⟨h1,h2⟩|⟨h1,h2⟩
 .exact .of_left (intBits_le_64 h1 h2)
 .exact .of_right (intBits_le_64 h1 h2)
theorem two_pow_nn (k:Nat):(0:Int)<=2 ^ k:=by
 rw[two_pow_cast];exact Je1 _
theorem Zbi:OpR X (binaryOp .Add) (rI0 λi j=>.int (i+j)):=opI0 λ_ _ _ _ _ _ _ q=>add_int q
theorem Zco:OpR X (binaryOp .Sub) (rI0 λi j=>.int (i-j)):=opI0 λ_ _ _ _ _ _ _ q=>sub_int q
theorem Zmf:OpR X (binaryOp .Mult) (rI CMul λi j=>.int (i*j)):=opI λ_ _ _ _ _ _ _ hc q=>mul_int q hc.ok
theorem Zlb:OpR X (binaryOp .FloorDiv) (rI CDiv λi j=>.int (i / j)):=opI λi j _ _ _ _ _ hc q=>by
 have h1:(0:Int)<j:=hc.1;have h2:j<1073741824:=hc.2;exact floordiv_int ∅ (by rw[Jb0 i ∅];exact q) (.inl (PyProof.noPylong_small ∅))
theorem Zcq:OpR X (binaryOp .Mod) (rI (λ_ j=>0<j) λi j=>.int (i % j)):=opI λi j _ _ _ _ _ hc q=>by
 have h1:(0:Int)<j:=hc;exact mod_int' ∅ (by rw[Int.fmod_eq_emod_of_nonneg i ∅];exact q)
theorem Zsa:OpR X (binaryOp .Mod) (rI (λ_ j=>j≠0) λi j=>.int (i.fmod j)):=opI λ_ _ _ _ _ _ _ hc q=>mod_int' hc q
theorem Zo6:OpR X (binaryOp .Pow) (rI CPow λi j=>.int (i ^ j.toNat)):=opI λ_ _ _ _ _ _ _ hc q=>pow_int_small hc.1 hc.2.1 hc.2.2 q
theorem Zw5:OpR X (binaryOp .RShift) (rI (λ_ j=>0<=j) λi j=>.int (i / 2 ^ j.toNat)):=opI λi j _ _ _ _ _ hc q=>
 rshift_int hc (by rw[Jb0 i (two_pow_nn _)];exact q)
theorem unI {f:Value->Sem Value}{g:Int->Int}(rule:∀ (i:Int) (t:Tok) (s:Shared) (Q:Value->Shared->Prop) (E:Value->Shared->Prop),Q (.int (g i) s.toks) { s with toks:=s.toks+1 }->wpAny (model X.prog X.w) X.A (f (.int i t)) Q E s):
  UnR X f (rU λi=>.int (g i)):=by
 intro pins s σ H x v Q I rx h;refine Zad h λi e944 q=>?_;clear h;obtain rfl:=e944;obtain⟨t,rfl⟩:=rx;exact rule i t s _ _ ⟨.int (g i),H,I.tok _,⟨_,rfl⟩,q⟩
theorem Zon:UnR X (unaryOp .USub) (rU λi=>.int (-i)):=unI λ_ _ _ _ _ q=>neg_int q
end
def scal:V->V->Bool
 | .non,.non=>true | .non,.int _=>true | .int _,.non=>true | .non,.bl _=>true | .bl _,.non=>true | .non,.str _=>true | .str _,.non=>true
 | .int _,.int _=>true | .bl _,.bl _=>true | .str _,.str _=>true | .byt _,.byt _=>true
 | .int _,.str _=>true | .str _,.int _=>true | .bl _,.str _=>true | .str _,.bl _=>true
 | _,_=>false
def rEq:R2:=λx y H Q=>scal x y=true/\Q (.bl (decide (x=y))) H
def rNe:R2:=λx y H Q=>scal x y=true/\Q (.bl (!decide (x=y))) H
theorem Ztk {i j:Int}:decide (V.int i=V.int j)=(i == j):=by
 rw[Jc0];simp
theorem Zxe {i j:Bool}:decide (V.bl i=V.bl j)=(i == j):=by
 rw[Jc0];simp
theorem Ztj {i j:Str}:decide (V.str i=V.str j)=(i == j):=by
 rw[Jc0];simp
theorem Ztl {i j:Array UInt8}:decide (V.byt i=V.byt j)=(i.toList == j.toList):=by
 rw[Jc0];cases i;cases j;simp
section
variable {X:Cx}{a b c:Expr}{ta tb tc:TE}{pos:Pos}
theorem Zbg {pins:List (Addr×Obj)}{σ:St}{H:Hp}{s:Shared}{Q:VK}{k k':Bool}(I:Inv X pins σ H s)(q:Q (.bl k) H)(e:k=k'):EP X pins σ Q (.bool k') s:=by
 subst e;exact Zat (.bl k) H ⟨I,rfl,q⟩
theorem Zcs:OpR X (compareOp .Eq) rEq:=by
 intro pins s σ H x y v u Q I rx ry h;obtain⟨hs,q⟩:=h;cases x with
 | non=>
  cases rx;cases y with
  | non=>cases ry;exact PySem.EqNone.eq_none_none (Zbg I q (by simp))
  | bl j=>cases ry;exact PySem.EqNone.eq_none_bool (Zbg I q (by simp))
  | int j=>obtain⟨t',rfl⟩:=ry;exact PySem.EqNone.eq_none_int (Zbg I q (by simp))
  | str j=>obtain⟨t',rfl⟩:=ry;exact PySem.EqNone.eq_none_str (Zbg I q (by simp))
  | _=>exact absurd (show false=true from hs) Jax
 | bl i=>
  cases rx;cases y with
  | non=>cases ry;exact PySem.EqNone.eq_bool_none (Zbg I q (by simp))
  | bl j=>cases ry;exact eq_bool (Zbg I q Zxe)
  | str j=>obtain⟨t',rfl⟩:=ry;exact PySem.EqMixed.eq_bool_str (Zbg I q (by simp))
  | _=>exact absurd (show false=true from hs) Jax
 | int i=>
  obtain⟨t,rfl⟩:=rx;cases y with
  | non=>cases ry;exact PySem.EqNone.eq_int_none (Zbg I q (by simp))
  | int j=>obtain⟨t',rfl⟩:=ry;exact eq_int (Zbg I q Ztk)
  | str j=>obtain⟨t',rfl⟩:=ry;exact PySem.EqMixed.eq_int_str (Zbg I q (by simp))
  | _=>exact absurd (show false=true from hs) Jax
 | str i=>
  obtain⟨t,rfl⟩:=rx;cases y with
  | non=>cases ry;exact PySem.EqNone.eq_str_none (Zbg I q (by simp))
  | bl j=>cases ry;exact PySem.EqMixed.eq_str_bool (Zbg I q (by simp))
  | int j=>obtain⟨t',rfl⟩:=ry;exact PySem.EqMixed.eq_str_int (Zbg I q (by simp))
  | str j=>obtain⟨t',rfl⟩:=ry;exact eq_str (Zbg I q Ztj)
  | _=>exact absurd (show false=true from hs) Jax
 | byt i=>
  obtain⟨t,rfl⟩:=rx;cases y with
  | byt j=>obtain⟨t',rfl⟩:=ry;exact PySem.W.eq_bytes (Zbg I q Ztl)
  | _=>exact absurd (show false=true from hs) Jax
 | _=>cases y <;> exact absurd (show false=true from hs) Jax
theorem Zel:OpR X (compareOp .NotEq) rNe:=by
 intro pins s σ H x y v u Q I rx ry h;obtain⟨hs,q⟩:=h;cases x with
 | non=>
  cases rx;cases y with
  | non=>cases ry;exact PySem.EqNone.ne_none_none (Zbg I q (by simp))
  | bl j=>cases ry;exact PySem.EqNone.ne_none_bool (Zbg I q (by simp))
  | int j=>obtain⟨t',rfl⟩:=ry;exact PySem.EqNone.ne_none_int (Zbg I q (by simp))
  | str j=>obtain⟨t',rfl⟩:=ry;exact PySem.EqNone.ne_none_str (Zbg I q (by simp))
  | _=>exact absurd (show false=true from hs) Jax
 | bl i=>
  cases rx;cases y with
  | non=>cases ry;exact PySem.EqNone.ne_bool_none (Zbg I q (by simp))
  | bl j=>cases ry;exact ne_bool (Zbg I q (Jc8 not Zxe))
  | str j=>obtain⟨t',rfl⟩:=ry;exact PySem.EqMixed.ne_bool_str (Zbg I q (by simp))
  | _=>exact absurd (show false=true from hs) Jax
 | int i=>
  obtain⟨t,rfl⟩:=rx;cases y with
  | non=>cases ry;exact PySem.EqNone.ne_int_none (Zbg I q (by simp))
  | int j=>obtain⟨t',rfl⟩:=ry;exact ne_int (Zbg I q (Jc8 not Ztk))
  | str j=>obtain⟨t',rfl⟩:=ry;exact PySem.EqMixed.ne_int_str (Zbg I q (by simp))
  | _=>exact absurd (show false=true from hs) Jax
 | str i=>
  obtain⟨t,rfl⟩:=rx;cases y with
  | non=>cases ry;exact PySem.EqNone.ne_str_none (Zbg I q (by simp))
  | bl j=>cases ry;exact PySem.EqMixed.ne_str_bool (Zbg I q (by simp))
  | int j=>obtain⟨t',rfl⟩:=ry;exact PySem.EqMixed.ne_str_int (Zbg I q (by simp))
  | str j=>obtain⟨t',rfl⟩:=ry;exact ne_str (Zbg I q (Jc8 not Ztj))
  | _=>exact absurd (show false=true from hs) Jax
 | byt i=>
  obtain⟨t,rfl⟩:=rx;cases y with
  | byt j=>obtain⟨t',rfl⟩:=ry;exact PySem.W.ne_bytes (Zbg I q (Jc8 not Ztl))
  | _=>exact absurd (show false=true from hs) Jax
 | _=>cases y <;> exact absurd (show false=true from hs) Jax
theorem Zj9:OpR X (compareOp .Lt) (rI0 λi j=>.bl (decide (i<j))):=opB0 λ_ _ _ _ _ _ _ q=>lt_int q
theorem Zp8:OpR X (compareOp .LtE) (rI0 λi j=>.bl (decide (i<=j))):=opB0 λ_ _ _ _ _ _ _ q=>le_int q
theorem Zfg:OpR X (compareOp .Gt) (rI0 λi j=>.bl (decide (j<i))):=opB0 λ_ _ _ _ _ _ _ q=>gt_int q
theorem Zu5:OpR X (compareOp .GtE) (rI0 λi j=>.bl (decide (j<=i))):=opB0 λ_ _ _ _ _ _ _ q=>ge_int q
theorem op_isN:OpR X (compareOp .Is) (λx y H Q=>y=.non/\Q (.bl (decide (x=.non))) H):=by
 intro pins s σ H x y v u Q I rx ry h;obtain⟨rfl,q⟩:=h;cases ry;refine is_none_gen (Zbg I q ?_);cases x <;> first
  | (cases rx;rfl)
  | (obtain⟨t,rfl⟩:=rx;rfl)
theorem op_notN:OpR X (compareOp .IsNot) (λx y H Q=>y=.non/\Q (.bl (!decide (x=.non))) H):=by
 intro pins s σ H x y v u Q I rx ry h;obtain⟨rfl,q⟩:=h;cases ry;refine isnot_none_gen (Zbg I q ?_);cases x <;> first
  | (cases rx;rfl)
  | (obtain⟨t,rfl⟩:=rx;rfl)
theorem Zam (b:Expr){op:CmpOp}(h:op≠.In:=by decide)(h2:op≠.NotIn:=by decide):behindInMarks op b=false:=by
 have e1:(op == CmpOp.In)=false:=by cases op <;> first|rfl|exact absurd rfl h
 have e2:(op == CmpOp.NotIn)=false:=by cases op <;> first|rfl|exact absurd rfl h2
 cases b <;> simp[behindInMarks,e1,e2]
theorem Zdf {op:CmpOp}{r:R2}(ho:OpR X (compareOp op) r)(ha:PE X a ta)(hb:PE X b tb)(hm:behindInMarks op b=false):PE X (.Compare a [op] [b] pos) (tOp r ta tb):=by
 intro pins s σ H Q I h;exact wpAny_Compare1 (binT ha hb I h λv u s2 x y H2 I2 rx ry q=>ho pins s2 σ H2 x y v u Q I2 rx ry q) hm
def Zup (t:TE):TT:=λσ H Q=>t σ H λx H'=>∃ k,x=.bl k/\Q k H'
theorem Zd3 {op:CmpOp}{r:R2}(ho:OpR X (compareOp op) r)(ha:PE X a ta)(hb:PE X b tb)(hm:behindInMarks op b=false):PT X (.Compare a [op] [b] pos) (Zup (tOp r ta tb)):=by
 intro pins s σ H Q I h;refine Jee (thn (ha pins s σ H _ I h) λv s1 ⟨x,H1,I1,r1,q1⟩=>thn (hb pins s1 σ H1 _ I1 q1) λu s2 ⟨y,H2,I2,r2,q2⟩=>
  thn (ho pins s2 σ H2 x y v u _ I2 r1 r2 q2) λc s3 ⟨z,H3,I3,r3,k,e,q3⟩=>?_) hm
 subst e;cases r3;exact Jbx ⟨H3,I3,q3⟩
def Zop (r r':R2)(ta tb tc:TE):TE:=λσ H Q=>ta σ H λx H1=>tb σ H1 λy H2=>r x y H2 λz H3=>∃ k,z=.bl k /\
 (if k=true then tc σ H3 λw' H4=>r' y w' H4 Q else Q (.bl false) H3)
theorem Zo4 {op op':CmpOp}{r r':R2}(ho:OpR X (compareOp op) r)(ho':OpR X (compareOp op') r')(ha:PE X a ta)(hb:PE X b tb)(hc:PE X c tc)(hm:lastMarks [op,op'] [b,c]=false:=by with_unfolding_all rfl):PE X (.Compare a [op,op'] [b,c] pos) (Zop r r' ta tb tc):=by
 intro pins s σ H Q I h;refine Compare_chain (thn (ha pins s σ H _ I h) λv s1 ⟨x,H1,I1,r1,q1⟩=>chain_link (thn (hb pins s1 σ H1 _ I1 q1) λu s2 ⟨y,H2,I2,r2,q2⟩=>
  thn (ho pins s2 σ H2 x y v u _ I2 r1 r2 q2) λd s3 ⟨z,H3,I3,r3,k,e,q3⟩=>?_)) hm
 subst e;cases r3;refine Jbx ?_;cases k with
 | false=>exact ite_ff ⟨.bl false,H3,I3,rfl,q3⟩
 | true=>exact ite_tt (chain_last (thn (hc pins s3 σ H3 _ I3 q3) λw' s4 ⟨z',H4,I4,r4,q4⟩=>ho' pins s4 σ H4 y z' u w' Q I4 r2 r4 q4))
theorem Zo2 {op op':CmpOp}{r r':R2}(ho:OpR X (compareOp op) r)(ho':OpR X (compareOp op') r')(ha:PE X a ta)(hb:PE X b tb)(hc:PE X c tc)(hm:lastMarks [op,op'] [b,c]=false:=by with_unfolding_all rfl):PT X (.Compare a [op,op'] [b,c] pos) (Zup (Zop r r' ta tb tc)):=by
 intro pins s σ H Q I h;refine isTrue_chain (thn (ha pins s σ H _ I h) λv s1 ⟨x,H1,I1,r1,q1⟩=>test_link (thn (hb pins s1 σ H1 _ I1 q1) λu s2 ⟨y,H2,I2,r2,q2⟩=>
  thn (ho pins s2 σ H2 x y v u _ I2 r1 r2 q2) λd s3 ⟨z,H3,I3,r3,k,e,q3⟩=>?_)) hm
 subst e;cases r3;refine Jbx ?_;cases k with
 | false=>
  refine Zad q3 λk' e' q'=>?_;clear q3;cases e';exact ite_ff ⟨H3,I3,q'⟩
 | true=>
  refine ite_tt (test_last (thn (hc pins s3 σ H3 _ I3 q3) λw' s4 ⟨z',H4,I4,r4,q4⟩=>thn (ho' pins s4 σ H4 y z' u w' _ I4 r2 r4 q4) λd' s5 ⟨z2,H5,I5,r5,k2,e2,q5⟩=>?_));subst e2;cases r5;exact Jbx ⟨H5,I5,q5⟩
theorem Zpe:(sizeLine:Nat)<2 ^ 63:=by rw[sizeLine_eq];decide
theorem Zj7 {x:V}{us:List Value}(r:Vals [x] us):∃ u,us=[u]/\RelV x u:=by
 cases r with
 | cons r1 r2=>cases r2;exact⟨_,rfl,r1⟩
theorem vals2 {x y:V}{us:List Value}(r:Vals [x,y] us):∃ u w',us=[u,w']/\RelV x u/\RelV y w':=by
 cases r with
 | cons r1 r2=>
  cases r2 with
  | cons r3 r4=>cases r4;exact⟨_,_,rfl,r1,r3⟩
theorem Zdv:Zfq X (.builtin "abs") (λxs H Q=>∃ i,xs=[.int i]/\Q (.int (if i<0 then -i else i)) H):=by
 intro pins s σ H xs us Q I r h;refine Zad h λi e968 q=>?_;clear h;obtain rfl:=e968;refine Zad (Zj7 r) λu e969 e970=>?_;obtain rfl:=e969;obtain⟨t,rfl⟩:=e970;exact call_abs_int λu tk=>⟨.int (if i<0 then -i else i),H,I.tok _,⟨_,rfl⟩,q⟩
theorem Zjx (hc:X.calm=true):Zfq X (.builtin "min") (λxs H Q=>∃ i j,xs=[.int i,.int j]/\Q (.int (if j<i then j else i)) H):=by
 intro pins s σ H xs us Q I r h;refine Zbh h λi j e975 q=>?_;clear h;obtain rfl:=e975;refine Zbm (vals2 r) λu w' e976 e977 e978=>?_;obtain rfl:=e976;obtain⟨t,rfl⟩:=e977;obtain⟨t',rfl⟩:=e978;refine min_two_ints (I.ok.hd hc) λh' tk k=>⟨_,H,I.kept k,?_,q⟩
 by_cases hj:j<i
 .rw [if_pos hj,if_pos hj];exact⟨_,rfl⟩
 .rw [if_neg hj,if_neg hj];exact⟨_,rfl⟩
theorem Zjy:Zfq X (.type "int") (λxs H Q=>(∃ i,xs=[.int i]/\Q (.int i) H)\/∃ k,xs=[.bl k]/\Q (.int (if k then 1 else 0)) H):=by
 intro pins s σ H xs us Q I r h;rcases h with ⟨i,rfl,q⟩|⟨k,rfl,q⟩
 .refine Zad (Zj7 r) λu e979 e980=>?_;obtain rfl:=e979;obtain⟨t,rfl⟩:=e980;exact call_int_int ⟨.int i,H,I,⟨_,rfl⟩,q⟩
 .refine Zad (Zj7 r) λu e981 r1=>?_;obtain rfl:=e981;cases r1;exact call_int_bool ⟨.int (if k then 1 else 0),H,I.tok _,⟨_,rfl⟩,q⟩
end
structure ObjM (h:Heap)(x dx C:Addr)(mA:Str->Option Value):Prop where
 obj:h.get? x=some (PySem.W.instObj C dx)
 ns:h.Ns1 dx mA
 ne:dx≠x
theorem Zss {h:Heap}{dx:Addr}{mA:Str->Option Value}(n:h.Ns1 dx mA):∃ od,h.get? dx=some od/\∀ name,PySem.W.lookIn name od=some (mA name):=by
 refine Zbu n λo es ep ho hd hk e9101=>?_;clear n;obtain⟨_,hm⟩:=e9101;refine⟨o,ho,λname=>?_⟩;have e:=hm name;unfold nsFind findBy at e;rw[<- Array.find?_toList] at e;unfold PySem.W.lookIn;rw[hd];dsimp only;split
 .rename_i y q
  rw[q] at e;exact Jc8 some e
 .rename_i q
  rw[q] at e;have a:es.toList.any (·.refKey)=false:=by
   rw[List.any_eq_false];intro y hy;refine Zdl (hk y (Array.mem_toList_iff.mp hy)) λz t hkey=>?_;simp[DictEntry.refKey,hkey]
  have a':¬ es.toList.any (·.refKey)=true:=by rw[a];exact Jax
  rw[if_neg a'];exact Jc8 some e
theorem ObjM.look {h:Heap}{x dx C:Addr}{mA:Str->Option Value}(I:ObjM h x dx C mA):∃ od,PySem.W.InstAt h x (PySem.W.instObj C dx) C (some od)/\∀ name,PySem.W.lookIn name od=some (mA name):=
 let ⟨od,ho,hl⟩:=Zss I.ns
 ⟨od,⟨I.obj,rfl,rfl,ho⟩,hl⟩
section
variable {prog:Program}{w:World}{A:Around}{E:Value->Shared->Prop}{s:Shared}{K:Frag}{x dx C f:Addr}{mA:Str->Option Value}{name:Str}{v:Value}
theorem get_map {expr:Bool}{Q:Value->Shared->Prop}(X:K.In s.heap)(I:ObjM s.heap x dx C mA)(hg:PySem.W.plainGet K C name=true)(hh:PySem.W.hasDictIn K C=true)(ha:PySem.W.findIn K (.ref C) name=some none)(hv:mA name=some v)(hv':PySem.W.handedIn v=true)(h:Q v { s with toks:=s.toks+1 }):
  wpAny (model prog w) A (getAttr (.ref x) name expr) Q E s:=by
 refine Zad I.look λod J hl=>?_;exact PySem.W.get_value X J (Jeu hg).1 (PySem.W.findObj_own hh ha rfl (by rw[hl,hv])) hv' h
theorem Zv9 {pl:Sem Bool}{Q:Value×List Value->Shared->Prop}(X:K.In s.heap)(I:ObjM s.heap x dx C mA)(hg:PySem.W.plainGet K C name=true)(hf:PySem.W.findIn K (.ref C) name=some (some (.ref f)))(ht:PySem.W.isFn K (.ref f)=true)(hv:mA name=none)(h:Q (.ref f,[.ref x]) s):
  wpAny (model prog w) A (getMethod (.ref x) name pl) Q E s:=by
 refine Zad I.look λod J hl=>?_;exact PySem.W.method_fn X J (Jeu hg).1 (Jeu hg).2 hf (Jbv.mp ht) (by show (PySem.W.lookIn name od).map (·.isSome)=some false;rw[hl,hv];rfl) h
theorem set_map {ns:List Str}{Q:Unit->Shared->Prop}(X:K.In s.heap)(I:ObjM s.heap x dx C mA)(hs:PySem.W.findIn K (.ref C) "__setattr__" = some (some (.builtin "object.__setattr__")))(hp:PySem.W.plainOver K C=true)(ht:PySem.W.takerIn K C name=some none)(hh:PySem.W.hasDictIn K C=true)(hw:PySem.Within mA ns)(hsz:ns.length<=sizeLine)(h:∀ h',ObjM h' x dx C (λy=>if y=name then some v else mA y)->Heap.SameBut dx s.heap h'->Q () { s with heap:=h',toks:=s.toks+2 }):
  wpAny (model prog w) A (setAttr (.ref x) name v) Q E s:=by
 refine Zad I.look λod J hl=>?_;refine PySem.W.set_plain X J hs (PySem.W.osa_open (s:={ s with toks:=s.toks+1 }) (r:=none) X J hp ht λb=>?_);refine Zad (PySem.W.any_some hh) λcd hc hd'=>?_;have hx:s.heap.get? x=some ⟨.ref C,some dx,.plain,#[]⟩:=I.obj;refine Jag (Ja0 (Jag (Jag (wpAny_loadPart hx (Jag (PySem.W.Looks.here (s:={ s with toks:=s.toks+1 }) (PySem.W.looks_clsIn X hc) ?_))))));rw[hd'];refine Ja0 (a:=some dx) (Jag (Ja0 (Jag ?_)));refine wpAny_nsSet1 (s:={ s with toks:=s.toks+1 }) I.ns λh' hn2 hs2=>?_;refine Zj6 (hn2.count (PySem.Within.cons name v hw)) λoD esD epD hoD hdD hcD=>?_;refine Jag (wpAny_lookBehind hoD (by rw[hdD];exact pastItsLine_dict (Ja3 hcD (by rw[Jce];omega))) ?_);exact Ja0 (h _ ⟨(hs2.2 _ (Jco I.ne)).trans I.obj,hn2,I.ne⟩ hs2)
theorem Zvz {R:Result->Shared->Prop}{vs:List Value}{kw:List (Str×Value)}(X:K.In s.heap)(hm:PySem.W.makesIn K C=true)(hi:PySem.W.findIn K (.ref C) "__init__" = some (some (.ref f)))(hf:PySem.W.typeIn K (.ref f)=some (.type "function"))(h:codeAny (model prog w) (A.under (.builtin "type.__call__" ⟨.ref C::vs,kw⟩)) (.call (.ref f) ⟨.ref (s.heap.objs.size+1)::vs,kw⟩) (PySem.W.InitBack (s.heap.objs.size+1) R)
   { s with heap:=(s.heap.push PySem.W.emptyDict).push (PySem.W.instObj C s.heap.objs.size) }):
  codeAny (model prog w) A (.call (.ref C) ⟨vs,kw⟩) R s:=by
 obtain⟨hh,g,d,t,os⟩:=s;exact PySem.W.make_core (PySem.W.makes_of X hm) (PySem.W.looks_findIn X hi) (λself=>PySem.W.bind_fn X self hf) (.inl rfl) h
end
def Zcv (f:Str)(v:V):List (Str×V)->List (Str×V)
 | []=>[(f,v)]
 | (g,x)::r=>if g=f then (g,v)::r else (g,x)::Zcv f v r
theorem Za1 (f g:Str)(v:V):∀ fs:List (Str×V),(Zcv f v fs).lookup g=if g=f then some v else fs.lookup g
 | []=>by
  show List.lookup g [(f,v)]=_;by_cases h:g=f
  .have hb:(g == f)=true:=Jbv.mpr h;simp only[List.lookup,hb,if_pos h]
  .have hb:(g == f)=false:=Jdf.mpr h;simp only[List.lookup,hb,if_neg h]
 | (k,x)::r=>by
  have ih:=Za1 f g v r;rw[show Zcv f v ((k,x)::r)=(if k=f then (k,v)::r else (k,x)::Zcv f v r) from rfl];by_cases hk:k=f
  .rw [if_pos hk];by_cases h:g=k
   .have hb:(g == k)=true:=Jbv.mpr h;simp only[List.lookup,hb,if_pos (h.trans hk)]
   .have hb:(g == k)=false:=Jdf.mpr h;simp only[List.lookup,hb,if_neg (λe:g=f=>h (e.trans hk.symm))]
  .rw [if_neg hk];by_cases h:g=k
   .have hb:(g == k)=true:=Jbv.mpr h;simp only[List.lookup,hb,if_neg (λe:g=f=>hk (h.symm.trans e))]
   .have hb:(g == k)=false:=Jdf.mpr h;simp only[List.lookup,hb];exact ih
theorem Zjr (f:Str)(v:V):∀ fs:List (Str×V),f∈(Zcv f v fs).map (·.1)/\∀ g,g∈fs.map (·.1)->g∈(Zcv f v fs).map (·.1)
 | []=>⟨by simp[Zcv],λg h=>by simp at h⟩
 | (k,x)::r=>by
  obtain⟨i1,i2⟩:=Zjr f v r;rw[show Zcv f v ((k,x)::r)=(if k=f then (k,v)::r else (k,x)::Zcv f v r) from rfl];by_cases hk:k=f
  .rw [if_pos hk];subst hk;exact⟨by simp,λg h=>by simpa using h⟩
  .rw [if_neg hk];refine⟨?_,λg h=>?_⟩
   .rw [List.map_cons];exact Jbw _ i1
   .rw [List.map_cons] at h ⊢;rcases Jbq.mp h with e|e
    .exact Jbq.mpr (.inl e)
    .exact Jbw _ (i2 g e)
theorem Zcj (f:Str)(v:V):∀ fs:List (Str×V),(Zcv f v fs).length<=fs.length+1
 | []=>by simp[Zcv]
 | (k,x)::r=>by
  have ih:=Zcj f v r;rw[show Zcv f v ((k,x)::r)=(if k=f then (k,v)::r else (k,x)::Zcv f v r) from rfl];by_cases hk:k=f
  .rw [if_pos hk,Jce,Jce];omega
  .rw [if_neg hk,Jce,Jce];omega
theorem RelO.some_of {v:V}{o:Option Value}(r:RelO (some v) o):∃ u,o=some u/\RelV v u:=by
 cases o with
 | none=>exact (show False from r).elim
 | some u=>exact⟨u,rfl,r⟩
theorem RelO.none_of {o:Option Value}(r:RelO none o):o=none:=by
 cases o with
 | none=>rfl
 | some u=>exact (show False from r).elim
theorem Ztb {v:V}{u:Value}(r:RelV v u):PySem.W.handedIn u=true:=by
 cases v with
 | non=>cases (show u=Value.none from r);rfl
 | bl b=>cases (show u=Value.bool b from r);rfl
 | int i=>obtain⟨t,e⟩:=(show ∃ t,u=Value.int i t from r);cases e;rfl
 | str x=>obtain⟨t,e⟩:=(show ∃ t,u=Value.str x t from r);cases e;rfl
 | byt b=>obtain⟨t,e⟩:=(show ∃ t,u=Value.bytes b t from r);cases e;rfl
 | flt b=>obtain⟨t,e⟩:=(show ∃ t,u=Value.float b t from r);cases e;rfl
 | ref a=>cases (show u=Value.ref a from r);rfl
 | ty n=>cases (show u=Value.type n from r);rfl
section
variable {P:Program}{w:World}{H H':Hp}{h h':Heap}{a C dx:Addr}{fs fs':List (Str×V)}
theorem Zli (hok:HOk P w H h)(e:H a=some (.ins C dx fs)):∃ mA,ObjM h a dx C mA/\(∀ f,RelO (fs.lookup f) (mA f))/\PySem.Within mA (fs.map (·.1))/\fs.length<=1000/\H dx=some (.own a):=by
 refine Zcf (show ObjOk P w H h a (.ins C dx fs) from hok a _ e) λd z ne ob e9102=>?_;obtain⟨mA,n,r,q⟩:=e9102;exact⟨mA,⟨ob,n,ne⟩,r,q,z,d⟩
end
structure Cls (K:Frag)(C:Addr):Prop where
 pg:PySem.W.plainGet K C Str.empty=true
 hd:PySem.W.hasDictIn K C=true
 po:PySem.W.plainOver K C=true
 sa:PySem.W.findIn K (.ref C) "__setattr__" = some (some (.builtin "object.__setattr__"))
theorem Cls.get {K:Frag}{C:Addr}(c:Cls K C)(f:Str):PySem.W.plainGet K C f=true:=c.pg
def NoAttr (K:Frag)(C:Addr)(f:Str):Prop:=PySem.W.findIn K (.ref C) f=some none
theorem NoAttr.taker {K:Frag}{C:Addr}{f:Str}(n:NoAttr K C f):PySem.W.takerIn K C f=some none:=by
 unfold PySem.W.takerIn;rw[show PySem.W.findIn K (.ref C) f=some none from n];rfl
structure Con (K:Frag)(C:Addr)(f:Str)(v:V)(u:Value):Prop where
 at_:PySem.W.findIn K (.ref C) f=some (some u)
 rel:RelV v u
 get:PySem.W.specialIn K u "__get__" = some none
 cp:PySem.W.copiedNames.contains f=false
structure Meth (K:Frag)(C:Addr)(m:Str)(f:Addr):Prop where
 at_:PySem.W.findIn K (.ref C) m=some (some (.ref f))
 fn:PySem.W.isFn K (.ref f)=true
 kp:PySem.W.keepIn K (.ref f)=true
section
variable {X:Cx}{pins:List (Addr×Obj)}{σ:St}{H:Hp}{s:Shared}{a C dx:Addr}{fs:List (Str×V)}{f:Str}{v:V}{A:Around}{E:Value->Shared->Prop}
theorem Zqf {b:Bool}{Q:Value->Shared->Prop}(I:Inv X pins σ H s)(e:H a=some (.ins C dx fs))(c:Cls X.K C)(n:NoAttr X.K C f)(l:fs.lookup f=some v)(h:∀ u s',Inv X pins σ H s'->RelV v u->Q u s'):wpAny (model X.prog X.w) A (getAttr (.ref a) f b) Q E s:=by
 refine Zqu (Zli I.hok e) λmA O r _ _ _=>?_;obtain⟨u,hu,ru⟩:=RelO.some_of (v:=v) (o:=mA f) (by rw[<- l];exact r f);exact get_map I.kIn O (c.get f) c.hd n hu (Ztb ru) (h u _ (I.tok _) ru)
theorem Zkx {m:Str}{g:Addr}{pl:Sem Bool}{Q:Value×List Value->Shared->Prop}(I:Inv X pins σ H s)(e:H a=some (.ins C dx fs))(c:Cls X.K C)(k:Meth X.K C m g)(l:fs.lookup m=none)(h:Q (.ref g,[.ref a]) s):wpAny (model X.prog X.w) A (getMethod (.ref a) m pl) Q E s:=by
 refine Zqu (Zli I.hok e) λmA O r _ _ _=>?_;have hn:mA m=none:=RelO.none_of (by rw[<- l];exact r m);exact Zv9 I.kIn O (c.get m) k.at_ k.fn hn h
theorem Zp6 {y:V}{u:Value}{Q:Unit->Shared->Prop}(I:Inv X pins σ H s)(e:H a=some (.ins C dx fs))(c:Cls X.K C)(n:NoAttr X.K C f)(hl:fs.length<1000)(ry:RelV y u)(h:∀ s',Inv X pins σ (upd H a (.ins C dx (Zcv f y fs))) s'->Q () s'):wpAny (model X.prog X.w) A (setAttr (.ref a) f u) Q E s:=by
 refine Zqu (Zli I.hok e) λmA O r wi _ ho=>?_;have hz:(fs.map (·.1)).length<=sizeLine:=by rw[Jab,sizeLine_eq];omega
 refine set_map I.kIn O c.sa c.po n.taker c.hd wi hz λh' O' sb=>h _ ?_;have hd:∃ o,h'.get? dx=some o:=let ⟨o,_,_,e',_⟩:=O'.ns;⟨o,e'⟩;refine I.write (x:=a) (e:=dx) (by rw[e];exact True.intro) (.inr ho) (λb q hb z=>(sb.2 b hb).trans z) hd ?_;refine⟨by rw[Zag O.ne];exact ho,?_,O.ne,O'.obj,_,O'.ns,λg=>?_,λg hg=>?_⟩
 .have:=Zcj f y fs;omega
 .show RelO ((Zcv f y fs).lookup g) (if g=f then some u else mA g);rw[Za1];by_cases q:g=f
  .rw [if_pos q,if_pos q];exact ry
  .rw [if_neg q,if_neg q];exact r g
 .by_cases q:g=f
  .rw [q];exact (Zjr f y fs).1
  .refine (Zjr f y fs).2 g (wi g λz=>hg ?_);show (if g=f then some u else mA g)=none;rw[if_neg q];exact z
theorem Inv.made (I:Inv X pins σ H s):Inv X pins σ (upd (upd H s.heap.objs.size (.own (s.heap.objs.size+1))) (s.heap.objs.size+1) (.ins C s.heap.objs.size []))
  { s with heap:=(s.heap.push PySem.W.emptyDict).push (PySem.W.instObj C s.heap.objs.size) }:=by
 have e1:(s.heap.push PySem.W.emptyDict).get? s.heap.objs.size=some PySem.W.emptyDict:=Ja4 s.heap rfl;have e2:((s.heap.push PySem.W.emptyDict).push (PySem.W.instObj C s.heap.objs.size)).get? (s.heap.objs.size+1)=some (PySem.W.instObj C s.heap.objs.size):=by
  have:=Ja4 (s.heap.push PySem.W.emptyDict) (o:=PySem.W.instObj C s.heap.objs.size) rfl;rwa [Jc7] at this
 have e3:(s.heap.push PySem.W.emptyDict).Ns s.heap.objs.size (λ_=>none):=⟨PySem.W.emptyDict,#[],_,e1,rfl,(λe he=>absurd he (by simp)),λ_=>rfl⟩
 have I1:=I.laid (a:=s.heap.objs.size) (o:=.own (s.heap.objs.size+1)) (h':=s.heap.push PySem.W.emptyDict) (t':=s.toks) (λb u q=>Jak _ q) (Jai _) ⟨_,e1⟩;refine I1.laid (a:=s.heap.objs.size+1) (o:=.ins C s.heap.objs.size []) (t':=s.toks) (λb u q=>Jak _ q) (Nat.le_of_eq (Jc7 _ _)) ?_;have ne:s.heap.objs.size≠s.heap.objs.size+1:=Ja9 (Jel _);refine⟨by rw[Zag ne,Zab],Jb9 _,ne,e2,λ_=>none,(Heap.Ns1.of_empty e3).at λo q=>Jak _ q,λ_=>True.intro,λy hy=>absurd rfl hy⟩
theorem attr_of {prog:Program}{w:World}{env:Env}{e:Expr}{f:Str}{pos:Pos}{s:Shared}{Q:Value->Shared->Prop}(hb:attributeBase e f env (eval e env)=eval e env)(h:wpAny (model prog w) A (eval e env) (λo s₁=>wpAny (model prog w) A (getAttr o f true) Q E s₁) E s):wpAny (model prog w) A (eval (.Attribute e f pos) env) Q E s:=
 Attribute_any_ h (by rw[arm_eval_Attribute,hb])
end
def tFld (K:Frag)(ta:TE)(f:Str):TE:=λσ H Q=>ta σ H λx H1=>∃ a C dx fs v,x=.ref a/\H1 a=some (.ins C dx fs)/\Cls K C/\NoAttr K C f/\fs.lookup f=some v/\Q v H1
def sFld (K:Frag)(ta tv:TE)(f:Str):TS:=λD σ H=>tv σ H λy H1=>ta σ H1 λx H2=>∃ a C dx fs,x=.ref a/\H2 a=some (.ins C dx fs)/\Cls K C/\NoAttr K C f/\fs.length<1000 /\
 D.nx σ (upd H2 a (.ins C dx (Zcv f y fs)))
section
variable {X:Cx}{o e value:Expr}{f:Str}{pos pos' tpos:Pos}{ta tv:TE}
theorem Zff (he:PE X e ta)(hb:attributeBase e f X.env (eval e X.env)=eval e X.env):PE X (.Attribute e f pos) (tFld X.K ta f):=by
 intro pins s σ H Q I h;refine attr_of hb (thn (he pins s σ H _ I h) λu s1 ⟨x,H1,I1,rx,a,C,dx,fs,v,ex,ea,c,n,l,q⟩=>?_);subst ex;obtain rfl:u=Value.ref a:=rx;exact Zqf I1 ea c n l λu' s2 I2 ru=>⟨v,H1,I2,ru,q⟩
theorem Zjo (ha:PE X o ta)(hv:PE X value tv)(hs:swapsWith value (some (.Attribute o f pos')) pos.line X.env=pure false):PS X (.Assign [.Attribute o f pos'] value pos) (sFld X.K ta tv f):=by
 intro pins s σ H D I h;refine plainObj_wpAny_Assign_Attribute (thn (hv pins s σ H _ I h) λu s1 ⟨y,H1,I1,ry,q⟩=>thn (ha pins s1 σ H1 _ I1 q) λov s2 ⟨x,H2,I2,rx,a,C,dx,fs,ex,ea,c,n,l,q2⟩=>?_) hs;subst ex;obtain rfl:ov=Value.ref a:=rx;exact Zp6 I2 ea c n l ry λs3 I3=>⟨σ,_,I3,q2⟩
theorem methcall_of {pl:Sem Bool}{m:Str}{apos:Pos}{args:List Expr}{pins:List (Addr×Obj)}{s:Shared}{σ:St}{H:Hp}{Q:Value->Shared->Prop}{te:TE}(he:PE X e te)(I:Inv X pins σ H s)(h:te σ H λx H1=>∃ a C dx fs g,x=.ref a/\H1 a=some (.ins C dx fs)/\Cls X.K C/\Meth X.K C m g/\fs.lookup m=none /\
   ∀ s1,Inv X pins σ H1 s1->wpAny (model X.prog X.w) X.A (callWith pos (.ref g) [.ref a] (backTo pos (starEach args X.env)) (backToKw pos (keywordEach [] X.env))) Q X.xe s1)(ht:eval (.Call (.Attribute e m apos) args [] pos) X.env=(do
   let ov <- eval e X.env
   standAt apos.atName
   let (f,first) <- holding [ov] (getMethod ov m pl)
   callWith pos f first (backTo pos (starEach args X.env)) (backToKw pos (keywordEach [] X.env)))):
  wpAny (model X.prog X.w) X.A (eval (.Call (.Attribute e m apos) args [] pos) X.env) Q X.xe s:=by
 refine PySem.W.methodCall_KW (pl:=pl) (thn (he pins s σ H _ I h) λu s1 ⟨x,H1,I1,rx,a,C,dx,fs,g,ex,ea,c,k,l,q⟩=>?_) ht;subst ex;obtain rfl:u=Value.ref a:=rx;exact Zkx I1 ea c k l (q s1 I1)
end
section
variable {X:Cx}{pins:List (Addr×Obj)}{σ:St}{H:Hp}{s:Shared}{A:Around}{E:Value->Shared->Prop}{Q:Value->Shared->Prop}{c:Value}{b:Bool}
inductive TyOf (K:Frag) (H:Hp):V->Value->Prop where
 | non:TyOf K H .non (.type "NoneType")
 | bl (x:Bool):TyOf K H (.bl x) (.type "bool")
 | int (i:Int):TyOf K H (.int i) (.type "int")
 | str (x:Str):TyOf K H (.str x) (.type "str")
 | flt (x:UInt64):TyOf K H (.flt x) (.type "float")
 | lst {a:Addr} {xs:List V} (e:H a=some (.lst xs)):TyOf K H (.ref a) (.type "list")
 | frz {a:Addr} {o:Obj} {xs:List V} (e:H a=some (.frz o (.lst xs))):TyOf K H (.ref a) (.type "list")
 | tup {a:Addr} {xs:List V} (e:H a=some (.tup xs)):TyOf K H (.ref a) (.type "tuple")
 | dK {a:Addr} {kvs:List (Key×V)} (e:H a=some (.dK kvs)):TyOf K H (.ref a) (.type "dict")
 | dT {a:Addr} {kvs:List (List Key×V)} (e:H a=some (.dT kvs)):TyOf K H (.ref a) (.type "dict")
 | ins {a C dx:Addr} {fs:List (Str×V)} (e:H a=some (.ins C dx fs)) (cl:Cls K C) (ha:PySem.W.findIn K (.ref C) "__class__" = some (some (.builtin "object.__class__")))
   (hn:PySem.W.specialIn K (.builtin "object.__class__") "__get__" = some (some (.builtin "getset_descriptor.__get__"))) (htk:PySem.W.takesIn K (.builtin "object.__class__")=some true)
   (hm:PySem.W.mroIn K C (.type "object")=some true):TyOf K H (.ref a) (.ref C)
theorem Zs0 {x:V}{u t:Value}(I:Inv X pins σ H s)(rx:RelV x u)(ty:TyOf X.K H x t)(e:PySem.W.kitOne X.K t c=some b)(h:∀ tk,Q (.bool b) { s with toks:=tk }):
  wpAny (model X.prog X.w) A (call (.builtin "isinstance") [u,c]) Q E s:=by
 cases ty with
 | non=>cases (show u=Value.none from rx);exact Jcd PySem.W.kitx_none I.kIn True.intro e (λz=>nomatch z) h
 | bl y=>cases (show u=Value.bool y from rx);exact Jcd PySem.W.kitx_bool I.kIn True.intro e (λz=>nomatch z) h
 | int i=>obtain⟨t,q⟩:=(show ∃ t,u=Value.int i t from rx);cases q;exact Jcd PySem.W.kitx_int I.kIn True.intro e (λz=>nomatch z) h
 | str y=>obtain⟨t,q⟩:=(show ∃ t,u=Value.str y t from rx);cases q;exact Jcd PySem.W.kitx_str I.kIn True.intro e (λz=>nomatch z) h
 | flt y=>obtain⟨t,q⟩:=(show ∃ t,u=Value.float y t from rx);cases q;exact Jcd PySem.W.kitx_float I.kIn True.intro e (λz=>nomatch z) h
 | @lst a xs ea=>
  cases (show u=Value.ref a from rx);obtain⟨_,_,n,_,h1⟩:=(show ObjOk X.prog X.w H s.heap a (.lst xs) from I.hok a _ ea)
  exact Jcd PySem.W.kitx_list I.kIn ⟨_,h1,rfl⟩ e (λz=>nomatch z) h
 | @frz a ob xs ea=>
  cases (show u=Value.ref a from rx);obtain⟨_,_,_,n,_,h1⟩:=(show ObjOk X.prog X.w H s.heap a (.frz ob (.lst xs)) from I.hok a _ ea)
  exact Jcd PySem.W.kitx_list I.kIn ⟨_,h1,rfl⟩ e (λz=>nomatch z) h
 | @tup a xs ea=>
  cases (show u=Value.ref a from rx);obtain⟨_,_,_,p⟩:=(show ObjOk X.prog X.w H s.heap a (.tup xs) from I.hok a _ ea)
  refine Zav p λo h1 h2 _=>?_;clear p;exact Jcd PySem.W.kitx_tuple I.kIn ⟨o,h1,h2⟩ e (λz=>nomatch z) h
 | @dK a kvs ea=>
  cases (show u=Value.ref a from rx);refine Za2 (show ObjOk X.prog X.w H s.heap a (.dK kvs) from I.hok a _ ea) λ_ _ e9107=>?_;obtain⟨vs,_,p⟩:=e9107;refine Zj6 p λo es ep h1 h2 _=>?_;clear p;exact Jcd PySem.W.kitx_dict I.kIn ⟨o,h1,h2.1⟩ e (λz=>nomatch z) h
 | @dT a kvs ea=>
  cases (show u=Value.ref a from rx);refine Za2 (show ObjOk X.prog X.w H s.heap a (.dT kvs) from I.hok a _ ea) λ_ _ e9108=>?_;obtain⟨xs,_,o,es,ep,h1,h2,_⟩:=e9108;exact Jcd PySem.W.kitx_dict I.kIn ⟨o,h1,h2.1⟩ e (λz=>nomatch z) h
 | @ins a C dx fs ea cl ha hn htk hm=>
  cases (show u=Value.ref a from rx);refine Zad (Zli I.hok ea) λmA O _=>?_;refine Zad O.look λod J _=>?_;exact Jcd (PySem.W.kitx_own (cl.get _) cl.hd ha hn htk hm) I.kIn J e (λz=>nomatch z) h
end
structure Room (k:Nat)(A:Around):Prop where
 hd:A.handled=none
 dp:A.depth+3*k+205<recursionLimit
 un:A.units+16*k+200<cLine
theorem Room.mono {j k:Nat}{A:Around}(r:Room k A)(h:j<=k):Room j A:=⟨r.hd,by have:=r.dp;omega,by have:=r.un;omega⟩
theorem Room.m {j k:Nat}{A:Around}(r:Room k A)(h:j<=k:=by decide):Room j A:=r.mono h
theorem Room.deeper {k:Nat}{A:Around}(r:Room (k+1) A)(env:Env):Room k (A.deeper env):=
 ⟨r.hd,by have:=r.dp;show A.depth+1+3*k+205<_;omega,by have:=r.un;show A.units+3+16*k+200<_;omega⟩
theorem Zqc {A:Around}{C:Addr}{us:List Value}{kw:List (Str×Value)}:(A.under (.builtin "type.__call__" ⟨.ref C::us,kw⟩)).depth=A.depth+1:=by
 first|rfl|simp[Around.under,Code.weight,Code.isCreation,Code.isGuard,Code.isCaller,Code.frames,Code.isFrame,guardIds]
theorem Zqb {A:Around}{C:Addr}{us:List Value}{kw:List (Str×Value)}:(A.under (.builtin "type.__call__" ⟨.ref C::us,kw⟩)).units=A.units+1:=by
 first|rfl|simp[Around.under,Code.cUnits,Code.frames,Code.isFrame]
theorem Room.make {k:Nat}{A:Around}(r:Room (k+1) A)(C:Addr)(us:List Value)(kw:List (Str×Value)):Room k (A.under (.builtin "type.__call__" ⟨.ref C::us,kw⟩)):=
 ⟨r.hd,by have:=r.dp;rw[Zqc];omega,by have:=r.un;rw[Zqb];omega⟩
theorem Room.depth {k:Nat}{A:Around}(r:Room k A):A.depth<recursionLimit:=by have:=r.dp;omega
theorem Room.units {k:Nat}{A:Around}(r:Room k A):A.units+64<cLine:=by have:=r.un;omega
def Zq5:TA:=λ_ H Q=>Q [] H
def Ze1 (ta:TE)(tr:TA):TA:=λσ H Q=>ta σ H λx H1=>tr σ H1 λxs H2=>Q (x::xs) H2
section
variable {X:Cx}{e:Expr}{es:List Expr}{te:TE}{t:TA}{pos:Pos}
theorem Zaa:PA X [] Zq5:=λ_ _ _ _ H Q I h=>Jfd ⟨[],H,I,.nil,h⟩
theorem pa_cons (ha:PE X e te)(hr:PA X es t)(hs:starEach (e::es) X.env=(false,eval e X.env)::starEach es X.env:=by rfl):PA X (e::es) (Ze1 te t):=by
 intro pos pins s σ H Q I h;rw[hs];show wpAny _ _ (spliced ((false,eval e X.env)::backTo pos (starEach es X.env))) _ _ s;refine Je2 (thn (ha pins s σ H _ I h) λu s1 ⟨x,H1,I1,r1,q1⟩=>?_);exact thn (hr pos pins s1 σ H1 _ I1 q1) λus s2 ⟨xs,H2,I2,r2,q2⟩=>⟨x::xs,H2,I2,.cons r1 r2,q2⟩
def tTup (t:TA):TE:=λσ H Q=>t σ H λxs H1=>xs.length<=sizeLine/\∀ p,H1 p=none->Q (.ref p) (upd H1 p (.tup xs))
def tLst (t:TA):TE:=λσ H Q=>t σ H λxs H1=>xs.length<=sizeLine/\∀ p,H1 p=none->Q (.ref p) (upd H1 p (.lst xs))
theorem Zar {x1}(h:PA X es t):PE X (.Tuple es x1 pos) (tTup t):=by
 intro pins s σ H Q I hq;refine wpAny_Tuple_spliced (thn (h pos pins s σ H _ I hq) λus s1 ⟨xs,H1,I1,r,z,q⟩=>⟨by rw[<- r.length];exact z,?_⟩);have hf:H1 s1.heap.objs.size=none:=I1.hok.fresh (Jai _);refine Zat (.ref s1.heap.objs.size) (upd H1 s1.heap.objs.size (.tup xs)) ⟨I1.laid (t':=s1.toks) (λb u e=>Jak _ e) (Jai _) ?_,rfl,q _ hf⟩;exact⟨z,us,r,⟨_,Ja4 _ rfl,rfl,_,rfl⟩⟩
theorem Zbo (h:PA X es t):PE X (.List es pos) (tLst t):=by
 intro pins s σ H Q I hq;refine wpAny_List_spliced (thn (h pos pins s σ H _ I hq) λus s1 ⟨xs,H1,I1,r,z,q⟩=>⟨by rw[<- r.length];exact z,?_⟩);have hf:H1 s1.heap.objs.size=none:=I1.hok.fresh (Jai _);refine Zat (.ref s1.heap.objs.size) (upd H1 s1.heap.objs.size (.lst xs)) ⟨I1.laid (t':=s1.toks) (λb u e=>Jak _ e) (Jai _) ?_,rfl,q _ hf⟩;exact⟨z,us,0,r,Ja4 _ rfl⟩
end
abbrev Sp:=List V->Hp->VK->XK->Prop
abbrev CXT:=List Env->Hp->Shared->XK->Value->Shared->Prop
structure Env0 (P:Program)(w:World)(K:Frag)(mg:Str->Option Value)(base:Heap)(A:Around)(outer:List Env)(s:Shared)(H:Hp):Prop where
 frames:A.frames=some outer
 mod:Mod K mg base
 bs:∀ b o,base.get? b=some o->s.heap.get? b=some o/\H b=none
 bsz:base.objs.size<=s.heap.objs.size
 funs:s.heap.FunFrames base outer
 frf:∀ b∈frs outer,H b=none
 hok:HOk P w H s.heap
 bare:AllBare s.gens
def CE (outer:List Env)(P:Program)(w:World)(H:Hp)(s:Shared)(Q:VK)(u:Value)(s':Shared):Prop:=
 ∃ v H',s'.os=s.os/\AllBare s'.gens/\Un (frs outer) [] H H' s.heap s'.heap/\HOk P w H' s'.heap/\RelV v u/\Q v H'
def CR (CX:CXT)(outer:List Env)(P:Program)(w:World)(H:Hp)(s:Shared)(Q:VK)(E:XK)(r:Result)(s':Shared):Prop:=
 match r with
 | .ok (.ret u)=>CE outer P w H s Q u s'
 | .ok _=>False
 | .error e=>CX outer H s E e s'
structure FnOk (P:Program)(w:World)(K:Frag)(mg:Str->Option Value)(base:Heap)(CX:CXT)(k:Nat)(f:Addr)(fd:FuncData)(ps:List Str)(sp:Sp):Prop where
 len:∀ vs H Q E,sp vs H Q E->vs.length=ps.length
 run:∀ (A:Around) (outer:List Env) (s:Shared) (H:Hp) (args:Args) (us:List Value) (vs:List V) (Q:VK) (E:XK),Room k A->Env0 P w K mg base A outer s H->BindsTo s fd args (ps.zip us)->Vals vs us->sp vs H Q E->
  codeAny (model P w) A (.call (.ref f) args) (CR CX outer P w H s Q E) s
theorem FnOk.imp {P:Program}{w:World}{K:Frag}{mg:Str->Option Value}{base:Heap}{CX:CXT}{k:Nat}{f:Addr}{fd:FuncData}{ps:List Str}{sp sp':Sp}(F:FnOk P w K mg base CX k f fd ps sp)(h:∀ vs H Q E,sp' vs H Q E->sp vs H Q E):FnOk P w K mg base CX k f fd ps sp':=
 ⟨λvs H Q E q=>F.len vs H Q E (h _ _ _ _ q),λA outer s H args us vs Q E hr he hb hv hs=>F.run A outer s H args us vs Q E hr he hb hv (h _ _ _ _ hs)⟩
theorem Env0.make {P:Program}{w:World}{K:Frag}{mg:Str->Option Value}{base:Heap}{A:Around}{outer:List Env}{s:Shared}{H:Hp}(e:Env0 P w K mg base A outer s H)(C:Addr)(us:List Value)(kw:List (Str×Value)):
  Env0 P w K mg base (A.under (.builtin "type.__call__" ⟨.ref C::us,kw⟩)) outer s H:=⟨by first|exact e.frames|(simpa [Around.under,Code.envs,Code.isFrame,pushEnvs] using e.frames),e.mod,e.bs,e.bsz,e.funs,e.frf,e.hok,e.bare⟩
section
variable {X:Cx}{pins:List (Addr×Obj)}{σ:St}{H:Hp}{s s':Shared}
theorem Inv.env0 (I:Inv X pins σ H s):Env0 X.prog X.w X.K X.mg X.base X.A X.stack s H:=
 ⟨I.ok.frames,I.ok.mod,I.bs,Ja3 I.ok.bsz I.sz,I.stack,I.stkFree,I.hok,I.bare⟩
theorem Inv.after {Q:VK}{u:Value}(I:Inv X pins σ H s)(h:CE X.stack X.prog X.w H s Q u s'):EP X pins σ Q u s':=by
 refine Zis h λv H' os bare un hok r q=>?_;clear h;obtain⟨hh,g,d,t,os'⟩:=s';obtain rfl:os'=s.os:=os;exact Zat v H' ⟨I.call (h':=hh) (g':=g) (d':=d) (t':=t) (ch:=[]) un hok bare (λb z=>absurd z (by simp)),r,q⟩
end
def Zp2 (sp:Sp)(dvs:List V)(E:XK)(t:TA):TE:=λσ H Q=>t σ H λvs H1=>sp (vs++dvs) H1 Q E
def Zq6 (C:Addr)(m:Str)(sp:Sp)(dvs:List V)(E:XK)(ta:TE)(t:TA):TE:=λσ H Q=>ta σ H λx H1=>∃ a dx fs,x=.ref a/\H1 a=some (.ins C dx fs)/\fs.lookup m=none /\
 t σ H1 λvs H2=>sp (x::(vs++dvs)) H2 Q E
def Zq7 (C:Addr)(sp:Sp)(dvs:List V)(E:XK)(t:TA):TE:=λσ H Q=>t σ H λvs H1=>∀ x dx,H1 x=none->H1 dx=none->dx≠x->
 sp (.ref x::(vs++dvs)) (upd (upd H1 dx (.own x)) x (.ins C dx [])) (λv H2=>v=.non/\Q (.ref x) H2) E
def Binds (K:Frag)(fd:FuncData)(ps:List Str)(ds:List Value):Prop:=
 ∀ (s:Shared) (us:List Value),K.In s.heap->(us++ds).length=ps.length->BindsTo s fd ⟨us,[]⟩ (ps.zip (us++ds))
theorem Binds.all {K:Frag}{fd:FuncData}{ps:List Str}(h:∀ us:List Value,us.length=ps.length->bindArgs fd ⟨us,[]⟩=pure (ps.zip us)):Binds K fd ps []:=λs us _ hl=>by
 rw[Jev] at hl ⊢;exact .of_eq (h us hl)
def Zkz (CX:CXT)(X:Cx)(E:XK):Prop:=∀ (pins:List (Addr×Obj)) (σ:St) (H:Hp) (s:Shared) (e:Value) (s':Shared),Inv X pins σ H s->CX X.stack H s E e s'->X.xe e s'
section
variable {X:Cx}{CX:CXT}{k:Nat}{f C:Addr}{fd:FuncData}{ps:List Str}{sp:Sp}{dvs:List V}{ds:List Value}{E:XK}{x m:Str}{p pos apos:Pos}{e o:Expr}{es:List Expr}{ta:TE}{t:TA}
theorem Zw1 {pins:List (Addr×Obj)}{σ:St}{H:Hp}{s:Shared}{Q:VK}{us:List Value}{vs:List V}(F:FnOk X.prog X.w X.K X.mg X.base CX k f fd ps sp)(hr:Room k X.A)(hb:Binds X.K fd ps ds)(hd:Vals dvs ds)(hx:Zkz CX X E)(I:Inv X pins σ H s)(r:Vals vs us)(h:sp (vs++dvs) H Q E):wpAny (model X.prog X.w) X.A (call (.ref f) us) (EP X pins σ Q) X.xe s:=by
 have r2:Vals (vs++dvs) (us++ds):=r.append hd;have hl:(us++ds).length=ps.length:=by rw[<- r2.length];exact F.len _ _ _ _ h
 refine wpAny_call (codeAny_mono (F.run X.A X.stack s H ⟨us,[]⟩ (us++ds) (vs++dvs) Q E hr I.env0 (hb s us I.kIn hl) r2 h) λr s' hq=>?_);cases r with
 | error e=>exact hx pins σ H s e s' I hq
 | ok fl=>
  cases fl with
  | ret u=>exact I.after hq
  | next=>exact False.elim hq
  | brk=>exact False.elim hq
  | cont=>exact False.elim hq
theorem pe_call (F:FnOk X.prog X.w X.K X.mg X.base CX k f fd ps sp)(hr:Room k X.A)(hg:Gl X x)(hm:X.mg x=some (.ref f))(hk:PySem.W.keepIn X.K (.ref f)=true)(hb:Binds X.K fd ps ds)(hd:Vals dvs ds)(hx:Zkz CX X E)(ha:PA X (e::es) t)(hdb:(x == ("__debug__" : Str))=false:=by decide)(he:starEach (e::es) X.env=(false,eval e X.env)::starEach es X.env:=by rfl)(hpl:(backTo pos (starEach es X.env)).any (·.1)=false:=by rfl):
  PE X (.Call (.Name x p) (e::es) [] pos) (Zp2 sp dvs E t):=by
 intro pins s σ H Q I h;refine Jdl (Zn3 I hg hm ?_ hdb);refine Je3 (h₀:=X.base) I.ok.mod.kin hk (thn (ha pos pins s σ H _ I h) λus s1 ⟨vs,H1,I1,r,q⟩=>⟨I1.kIn,?_⟩) he hpl;exact Zw1 F hr hb hd hx I1 r q
theorem Zr7 {pl:Sem Bool}(he:PE X o ta)(c:Cls X.K C)(hm:Meth X.K C m f)(F:FnOk X.prog X.w X.K X.mg X.base CX k f fd ps sp)(hr:Room k X.A)(hb:Binds X.K fd ps ds)(hd:Vals dvs ds)(hx:Zkz CX X E)(ha:PA X (e::es) t)(hst:starEach (e::es) X.env=(false,eval e X.env)::starEach es X.env:=by rfl)(hpl:(backTo pos (starEach es X.env)).any (·.1)=false:=by rfl)(ht:eval (.Call (.Attribute o m apos) (e::es) [] pos) X.env=(do
   let ov <- eval o X.env
   standAt apos.atName
   let (f,first) <- holding [ov] (getMethod ov m pl)
   callWith pos f first (backTo pos (starEach (e::es) X.env)) (backToKw pos (keywordEach [] X.env))):=by rfl):
  PE X (.Call (.Attribute o m apos) (e::es) [] pos) (Zq6 C m sp dvs E ta t):=by
 intro pins s σ H Q I h;refine PySem.W.methodCall_KW (pl:=pl) (thn (he pins s σ H _ I h) λu s1 ⟨x,H1,I1,rx,a,dx,fs,ex,ea,l,q⟩=>?_) ht;subst ex;obtain rfl:u=Value.ref a:=rx;refine Zkx I1 ea c hm l ?_;refine Je3 (first:=[.ref a]) (h₀:=X.base) I.ok.mod.kin hm.kp (thn (ha pos pins s1 σ H1 _ I1 q) λus s2 ⟨vs,H2,I2,r,q2⟩=>⟨I2.kIn,?_⟩) hst hpl;exact Zw1 (us:=.ref a::us) (vs:=.ref a::vs) F hr hb hd hx I2 (.cons rfl r) q2
structure Mk (K:Frag)(C f:Addr):Prop where
 makes:PySem.W.makesIn K C=true
 init:PySem.W.findIn K (.ref C) "__init__" = some (some (.ref f))
 fn:PySem.W.isFn K (.ref f)=true
 kp:PySem.W.keepIn K (.ref C)=true
theorem Zuu {pins:List (Addr×Obj)}{σ:St}{H:Hp}{s:Shared}{Q:VK}{us:List Value}{vs:List V}(M:Mk X.K C f)(F:FnOk X.prog X.w X.K X.mg X.base CX k f fd ps sp)(hr:Room (k+1) X.A)(hb:Binds X.K fd ps ds)(hd:Vals dvs ds)(hx:Zkz CX X E)(I:Inv X pins σ H s)(r:Vals vs us)(h:∀ x dx,H x=none->H dx=none->dx≠x->sp (.ref x::(vs++dvs)) (upd (upd H dx (.own x)) x (.ins C dx [])) (λv H2=>v=.non/\Q (.ref x) H2) E):
  wpAny (model X.prog X.w) X.A (call (.ref C) us) (EP X pins σ Q) X.xe s:=by
 have hq:=h (s.heap.objs.size+1) s.heap.objs.size (I.hok.fresh (Jfi _)) (I.hok.fresh (Jai _)) (Ja9 (Jel _));have I2:=Inv.made (C:=C) I;have r2:Vals (V.ref (s.heap.objs.size+1)::(vs++dvs)) (Value.ref (s.heap.objs.size+1)::(us++ds)):=.cons rfl (r.append hd);have hl:(Value.ref (s.heap.objs.size+1)::us++ds).length=ps.length:=by
  have e:=r2.length;rw[F.len _ _ _ _ hq] at e;exact e.symm
 refine wpAny_call (Zvz (f:=f) I.kIn M.makes M.init (Jbv.mp M.fn) (codeAny_mono (F.run _ X.stack _ _ ⟨Value.ref (s.heap.objs.size+1)::us,[]⟩ (Value.ref (s.heap.objs.size+1)::(us++ds)) _ _ E (hr.make C us [])
  (I2.env0.make C us []) (hb _ (Value.ref (s.heap.objs.size+1)::us) I2.kIn hl) r2 hq) λr s' hq'=>?_))
 cases r with
 | error e=>exact hx pins σ _ _ e s' I2 hq'
 | ok fl=>
  cases fl with
  | ret u=>
   refine Zdw (I2.after hq') λv H' I3 rv ev q3=>?_;subst ev;exact⟨rv,⟨V.ref (s.heap.objs.size+1),H',I3,rfl,q3⟩⟩
  | next=>exact False.elim hq'
  | brk=>exact False.elim hq'
  | cont=>exact False.elim hq'
theorem pe_make (M:Mk X.K C f)(F:FnOk X.prog X.w X.K X.mg X.base CX k f fd ps sp)(hr:Room (k+1) X.A)(hg:Gl X x)(hm:X.mg x=some (.ref C))(hb:Binds X.K fd ps ds)(hd:Vals dvs ds)(hx:Zkz CX X E)(ha:PA X (e::es) t)(hdb:(x == ("__debug__" : Str))=false:=by decide)(he:starEach (e::es) X.env=(false,eval e X.env)::starEach es X.env:=by rfl)(hpl:(backTo pos (starEach es X.env)).any (·.1)=false:=by rfl):
  PE X (.Call (.Name x p) (e::es) [] pos) (Zq7 C sp dvs E t):=by
 intro pins s σ H Q I h;refine Jdl (Zn3 I hg hm ?_ hdb);refine Je3 (h₀:=X.base) I.ok.mod.kin M.kp (thn (ha pos pins s σ H _ I h) λus s1 ⟨vs,H1,I1,r,q⟩=>⟨I1.kIn,?_⟩) he hpl;exact Zuu M F hr hb hd hx I1 r q
end
section
variable {X:Cx}{CX:CXT}{k:Nat}{f C:Addr}{fd:FuncData}{ps ks:List Str}{sp:Sp}{E:XK}{x m:Str}{p pos apos kpos:Pos}{e o:Expr}{es:List Expr}{kws:List Keyword}{te ta:TE}{t tk:TA}{nm:Option Str}
structure KBinds (K:Frag)(fd:FuncData)(ps ks:List Str)(g:List Value->List Value->List Value)(gV:List V->List V->List V):Prop where
 to:∀ (s:Shared) (us ws:List Value),K.In s.heap->(g us ws).length=ps.length->BindsTo s fd ⟨us,ks.zip ws⟩ (ps.zip (g us ws))
 rel:∀ {vs:List V} {us:List Value} {zs:List V} {ws:List Value},Vals vs us->Vals zs ws->Vals (gV vs zs) (g us ws)
variable {g:List Value->List Value->List Value}{gV:List V->List V->List V}
end
structure FnScope (N P:List Str)(sc:Scope):Prop where
 kind:sc.kind=.function
 co:sc.isCoroutine=false
 gen:sc.isGenerator=false
 nd:N.Nodup
 pre:N.take P.length=P
 par:∀ x∈P,sc.names.lookup x=some .local\/sc.names.lookup x=some .cell
 nofree:∀ y∈sc.names,y.2≠.free
theorem Zm0 {kindOf:Str->Option NameKind}{x:Str}:∀ {binds:List (Str×Value)} {m:Str->Option Value},(∀ v,(x,v)∉binds)->bindL kindOf binds m x=m x
 | [],_,_=>rfl
 | (n,v)::r,m,h=>by
  unfold bindL;rw[Zm0 λw hw=>h w (Jbw _ hw)];split
  .have:x≠n:=by rintro rfl;exact h v Jcg
   simp[this]
  .rfl
theorem Zm2 {kindOf:Str->Option NameKind}{x:Str}:∀ {binds:List (Str×Value)} {m:Str->Option Value},(∀ v,(x,v)∉binds)->bindC kindOf binds m x=m x
 | [],_,_=>rfl
 | (n,v)::r,m,h=>by
  unfold bindC;rw[Zm2 λw hw=>h w (Jbw _ hw)];split
  .rfl
  .have:x≠n:=by rintro rfl;exact h v Jcg
   simp[this]
theorem Zm1 {kindOf:Str->Option NameKind}{x:Str}{v:Value}:∀ {P:List Str} {vs:List Value} {i:Nat} {m:Str->Option Value},P.Nodup->P[i]?=some x->vs[i]?=some v->kindOf x=some .local->
  bindL kindOf (P.zip vs) m x=some v
 | [],_,_,_,_,h,_,_=>by simp at h
 | _::_,[],_,_,_,_,h,_=>by simp at h
 | p::P,w::vs,0,m,nd,h1,h2,hk=>by
  simp at h1 h2;subst h1;subst h2;show bindL kindOf ((p,w)::P.zip vs) m p=_;unfold bindL;rw[Zm0 λv hv=>(Jew.mp nd).1 (List.of_mem_zip hv).1,if_pos hk];simp
 | p::P,w::vs,i+1,m,nd,h1,h2,hk=>by
  show bindL kindOf ((p,w)::P.zip vs) m x=_;unfold bindL;exact Zm1 (i:=i) (Jew.mp nd).2 (by simpa using h1) (by simpa using h2) hk
theorem Zm3 {kindOf:Str->Option NameKind}{x:Str}{v:Value}:∀ {P:List Str} {vs:List Value} {i:Nat} {m:Str->Option Value},P.Nodup->P[i]?=some x->vs[i]?=some v->kindOf x≠some .local->
  bindC kindOf (P.zip vs) m x=some v
 | [],_,_,_,_,h,_,_=>by simp at h
 | _::_,[],_,_,_,_,h,_=>by simp at h
 | p::P,w::vs,0,m,nd,h1,h2,hk=>by
  simp at h1 h2;subst h1;subst h2;show bindC kindOf ((p,w)::P.zip vs) m p=_;unfold bindC;rw[Zm2 λv hv=>(Jew.mp nd).1 (List.of_mem_zip hv).1,if_neg hk];simp
 | p::P,w::vs,i+1,m,nd,h1,h2,hk=>by
  show bindC kindOf ((p,w)::P.zip vs) m x=_;unfold bindC;exact Zm3 (i:=i) (Jew.mp nd).2 (by simpa using h1) (by simpa using h2) hk
def start (N:List Str)(vs:List V):St:=vs.map some++List.replicate (N.length-vs.length) none
def Zwh (CX:CXT)(P:Program)(w:World)(K:Frag)(mg:Str->Option Value)(base:Heap)(N:List Str)(qual:Str)(scope:Scope)(f:Addr)(cd:Value)(A:Around)(outer:List Env)(s:Shared)(H:Hp)(E:XK):Cx where
 prog:=P
 w:=w
 K:=K
 mg:=mg
 base:=base
 A:=A.deeper (envOfC qual scope s.heap.objs.size f cd)
 N:=N
 s₀:=s
 H₀:=H
 env:=envOfC qual scope s.heap.objs.size f cd
 outer:=outer
 stack:=envOfC qual scope s.heap.objs.size f cd::outer
 ex:=[]
 calm:=true
 fn:=λ_=>true
 pn:=[]
 xe:=λe s'=>wpAny (model P w) (A.deeper (envOfC qual scope s.heap.objs.size f cd)) (leaving (envOfC qual scope s.heap.objs.size f cd) e) (λ_ s''=>CX outer H s E e s'') (λe' s''=>CX outer H s E e' s'') s'
theorem Zpt {sc:Scope}{n:Nat}{x:Str}(h:sc.names.lookup x=some .cell):∃ c,(cellsFrom n sc.names []).lookup x=some c:=by
 have q:=Jdk sc.names n [] (.inl h);exact Jd3.mp q
theorem Zs4 {CX:CXT}{P:Program}{w:World}{K:Frag}{mg:Str->Option Value}{base:Heap}{N ps:List Str}{qual:Str}{scope:Scope}{f:Addr}{cd:Value}{A:Around}{outer:List Env}{s s1:Shared}{H:Hp}{E:XK}{us:List Value}{vs:List V}(S:FnScope N ps scope)(hd:A.handled=none)(e0:Env0 P w K mg base A outer s H)(hl:vs.length=ps.length)(r:Vals vs us)(x:InCallC s s.heap.objs.size (bindL (envOfC qual scope s.heap.objs.size f cd).kindOf (ps.zip us) λ_=>none) (cellsFrom (s.heap.objs.size+1) scope.names []) (bindC (envOfC qual scope s.heap.objs.size f cd).kindOf (ps.zip us) λ_=>none) s1):
  Inv (Zwh CX P w K mg base N qual scope f cd A outer s H E) [] (start N vs) H s1:=by
 have hpl:ps.length<=N.length:=by have:=Jc8 List.length S.pre;rw[Jbc] at this;omega
 refine Zbh x.done λh1 tk e9109 hk=>?_;obtain rfl:=e9109;have noA:∀ b:Addr,b∉(Zwh CX P w K mg base N qual scope f cd A outer s H E).ex:=λb z=>absurd (show b∈([]:List Addr) from z) (by simp);refine⟨⟨e0.mod,S.kind,rfl,rfl,Jai _,λy z c h1 h2=>?_,λy hy=>?_,λy c _ h=>?_,λ_=>hd,Around.frames_deeper e0.frames,.inr ⟨rfl,rfl⟩,λb z=>absurd z (noA b),e0.bs,e0.bsz,λb _ _=>noA b,λb z=>absurd z (noA b),e0.funs,e0.frf,⟨_,_,rfl,S.gen,S.co,rfl,rfl⟩⟩,
  rfl,e0.bare,Un.kept hk,⟨_,x.toInCall.ns,λi y v h1 h2 h3=>?_⟩,λy c h=>⟨_,x.cell y c h⟩,e0.hok.fresh (Jai _),λy c h=>?_,λp hp=>absurd (show p∈([]:List (Addr×Obj)) from hp) (by simp),e0.hok.kept hk,?_⟩
 .exact name_of_addr x.apart (Jbk h1) (Jbk h2)
 .have hy:scope.names.lookup y=some .cell\/scope.names.lookup y=some .free:=hy;rcases hy with hy|hy
  .exact Zpt hy
  .exact absurd rfl (S.nofree _ (Jbk hy))
 .exact Jbm (x.above y c (Jbk h))
 .have hi:i<vs.length:=by
   unfold start at h2;by_cases hi:i<vs.length
   .exact hi
   .rw [Jav (by simpa using hi)] at h2;rw[Jb1] at h2;split at h2 <;> cases h2
  have ha:vs[i]?=some v:=by
   unfold start at h2;rw[Jay (by simpa using hi),Jad] at h2;cases e:vs[i]? with
   | none=>rw[e] at h2;cases h2
   | some a=>rw[e] at h2;cases h2;rfl
  refine Zad (r.get ha) λu hu rv=>?_;have hp:ps[i]?=some y:=by
   rw[<- S.pre,Jdc ∅];exact h1
  have ndP:ps.Nodup:=by rw[<- S.pre];exact S.nd.sublist (List.take_sublist _ _)
  refine⟨u,rv,?_⟩;rcases S.par y (Jae hp) with k|k
  .exact .inl ⟨k,Zm1 ndP hp hu k⟩
  .obtain ⟨c,e⟩:=Zpt (n:=s.heap.objs.size+1) k;refine .inr ⟨.inl k,c,e,?_⟩;have q:=x.cell y c e;rw[Zm3 ndP hp hu (by show scope.names.lookup y≠_;rw[k];decide)] at q;exact q
 .exact e0.hok.fresh (Jbm (x.above y c (Jbk h)))
 .unfold start;show _=N.length;rw[Jah,Jab,Jbd];omega
theorem fn_of {CX:CXT}{P:Program}{w:World}{K:Frag}{mg:Str->Option Value}{base:Heap}{k:Nat}{f:Addr}{name qual:Str}{params:Arguments}{body:List Stmt}{scope:Scope}{dV kV doc pm cdv ct oc:Value}{an od:Option Addr}{osl:Array (Option Value)}{N ps:List Str}{sp:Sp}(lk:K.lookup f=some ⟨oc,od,.func (PySem.W.fnOf name qual params body scope dV kV doc pm an cdv ct),osl⟩)(hcd:PySem.W.codeIn K cdv qual=true)(S:FnScope N ps scope)(len:∀ vs H Q E,sp vs H Q E->vs.length=ps.length)(hbody:∀ (A:Around) (outer:List Env) (s:Shared) (H:Hp) (vs:List V) (Q:VK) (E:XK),Room k (A.deeper (envOfC qual scope s.heap.objs.size f cdv))->sp vs H Q E->
   ∃ t,PSs (Zwh CX P w K mg base N qual scope f cdv A outer s H E) body t/\t { nx:=λ_ H'=>Q .non H',rt:=Q } (start N vs) H):
  FnOk P w K mg base CX (k+1) f (PySem.W.fnOf name qual params body scope dV kV doc pm an cdv ct) ps sp:=by
 refine⟨len,λA outer s H args us vs Q E hr e0 hb r hsp=>?_⟩;have hl:=len _ _ _ _ hsp;have KX:K.In s.heap:=e0.mod.kin.keeps λb o e=>(e0.bs b o e).1;have lim:s.heap.NoLimit:=e0.mod.nolimit.keeps λb o e=>(e0.bs b o e).1;have hkind:∀ y∈ps.zip us,scope.names.lookup y.1=some .local\/(scope.names.lookup y.1=some .cell/\((cellsFrom (s.heap.objs.size+1) scope.names []).lookup y.1).isSome=true):=λ⟨n,v⟩ hy=>by
  rcases S.par n (List.of_mem_zip hy).1 with q|q
  .exact .inl q
  .exact .inr ⟨q,Jdk _ _ _ (.inl q)⟩
 refine codeAny_call_function hr.depth (KX _ _ lk) rfl S.co S.gen rfl (PySem.W.codeRec_of KX hcd) (hb _ _ _ _ ?_);refine wpAny_newFunctionEnv_cells S.kind hkind λenv he s1 x=>?_;subst he;refine⟨lim.keeps x.toInCall.keep,codeAny_func ?_⟩;refine Zad (hbody A outer s H vs Q E (hr.deeper _) hsp) λt ht hq=>?_;have I:Inv (Zwh CX P w K mg base N qual scope f cdv A outer s H E) [] (start N vs) H s1:=Zs4 S hr.hd e0 hl r x;refine Jc4 (ht [] s1 (start N vs) H _ I hq) (λfl s' hs=>?_) λe s' hs=>hs;have fin:∀ {σ':St} {H':Hp} {v:V} {u:Value},Inv (Zwh CX P w K mg base N qual scope f cdv A outer s H E) [] σ' H' s'->RelV v u->Q v H'->CE outer P w H s Q u s':=
  λ{σ' H' v u} J rv q=>⟨v,H',J.os,J.bare,J.base,J.hok,rv,q⟩
 cases fl with
 | ret u=>
  refine Zj6 hs λv σ' H' J rv q=>?_;clear hs;exact fin J rv q
 | next=>
  refine Zbh hs λσ' H' J q=>?_;clear hs;exact fin (v:=V.non) (u:=Value.none) J rfl q
 | brk=>
  refine Zbh hs λ_ _ _ q=>?_;clear hs;exact False.elim q
 | cont=>
  refine Zbh hs λ_ _ _ q=>?_;clear hs;exact False.elim q
section
variable {X:Cx}{x:Str}{p pos:Pos}{e:Expr}{es:List Expr}{t:TA}{id T:String}{r:List V->Hp->VK->Prop}
def tCB (r:List V->Hp->VK->Prop)(t:TA):TE:=λσ H Q=>t σ H λvs H1=>r vs H1 Q
theorem Zu2 (hc:Zfq X (.builtin id) r)(hg:Gl X x)(hm:X.mg x=none)(hv:bootBuiltins x=some (.builtin id))(ha:PA X (e::es) t)(hn:x ≠ "__name__" := by decide)(hdb:(x == ("__debug__" : Str))=false:=by decide)(he:starEach (e::es) X.env=(false,eval e X.env)::starEach es X.env:=by rfl)(hpl:(backTo pos (starEach es X.env)).any (·.1)=false:=by rfl):PE X (.Call (.Name x p) (e::es) [] pos) (tCB r t):=by
 intro pins s σ H Q I h;refine Jdl (Zfh I hg hm hv ?_ hn hdb);exact PyProof.Rows.callWith_builtin1 (thn (ha pos pins s σ H _ I h) λus s1 ⟨vs,H1,I1,r1,q1⟩=>hc pins s1 σ H1 vs us Q I1 r1 q1) he hpl
theorem Zr8 (hc:Zfq X (.type T) r)(hg:Gl X x)(hm:X.mg x=none)(hv:bootBuiltins x=some (.type T))(ha:PA X (e::es) t)(hn:x ≠ "__name__" := by decide)(hdb:(x == ("__debug__" : Str))=false:=by decide)(he:starEach (e::es) X.env=(false,eval e X.env)::starEach es X.env:=by rfl)(hpl:(backTo pos (starEach es X.env)).any (·.1)=false:=by rfl):PE X (.Call (.Name x p) (e::es) [] pos) (tCB r t):=by
 intro pins s σ H Q I h;refine Jdl (Zfh I hg hm hv ?_ hn hdb);exact Jbl (thn (ha pos pins s σ H _ I h) λus s1 ⟨vs,H1,I1,r1,q1⟩=>hc pins s1 σ H1 vs us Q I1 r1 q1) he hpl
end
end L2
namespace HT
open PySem PyProof.Rows
section
open PySem.SeqAt
open PySem.AutoSeq1 (wpAny_loadPart')
open PySem.MeetsSeq PySem.MeetsSeq2 PySem.MeetsSeq3
end
section
variable {prog:Program}{w:World}{A:Around}{E:Value->Shared->Prop}{s:Shared}
def sIx (n d:Nat):Option Int->Nat
 | none=>d
 | some v=>if v<0 then (v+(n:Int)).toNat else min v.toNat n
end
end HT
namespace L2
open PySem PySem.Spec PyProof.Rows
abbrev TO:=St->Hp->(Option Int->Hp->Prop)->Prop
def PO (X:Cx)(e:Option Expr)(t:TO):Prop:=
 ∀ (pins:List (Addr×Obj)) (s:Shared) (σ:St) (H:Hp) (Q:Option Int->Hp->Prop),Inv X pins σ H s->t σ H Q->
  wpAny (model X.prog X.w) X.A (evalPart e X.env) (λu s'=>∃ o H',Inv X pins σ H' s'/\IsPart u o/\Q o H') X.xe s
def Zna:TO:=λ_ H Q=>Q none H
def tPart (t:TE):TO:=λσ H Q=>t σ H λx H1=>∃ i,x=.int i/\Q (some i) H1
section
variable {X:Cx}{e:Expr}{te:TE}{lo hi:Option Expr}{tl th:TO}{pos p2:Pos}
theorem Zfe:PO X none Zna:=by
 intro pins s σ H Q I h;rw[evalPart_none];exact Ja0 ⟨none,H,I,.none,h⟩
theorem Zei (h:PE X e te):PO X (some e) (tPart te):=by
 intro pins s σ H Q I hw;rw[evalPart_some];refine thn (h pins s σ H _ I hw) λu s1 ⟨x,H1,I1,r1,q1⟩=>?_;refine Zad q1 λi e9110 q=>?_;clear q1;obtain rfl:=e9110;obtain⟨t,rfl⟩:=r1;exact Zat (some i) H1 ⟨I1,.int i t,q⟩
def SlR (X:Cx)(r:V->Option Int->Option Int->Hp->VK->Prop):Prop:=
 ∀ (pins:List (Addr×Obj)) (s:Shared) (σ:St) (H:Hp) (x:V) (v vl vu:Value) (lo hi:Option Int) (sl:Addr) (Q:VK),Inv X pins σ H s->RelV x v->s.heap.IsSliceOf sl vl vu .none->IsPart vl lo->IsPart vu hi->r x lo hi H Q->
  ∃ T id,typeLookup (.type T) "__getitem__" = pure (some (.builtin id))/\s.TypeIs v T/\wpAny (model X.prog X.w) X.A (getItem v (.ref sl)) (EP X pins σ Q) X.xe s
def tSl (r:V->Option Int->Option Int->Hp->VK->Prop)(te:TE)(tl th:TO):TE:=λσ H Q=>te σ H λx H1=>tl σ H1 λl H2=>th σ H2 λu H3=>r x l u H3 Q
theorem Zdr {r:V->Option Int->Option Int->Hp->VK->Prop}(hr:SlR X r)(he:PE X e te)(hl:PO X lo tl)(hu:PO X hi th):PE X (.Subscript e (.Slice lo hi none p2) pos) (tSl r te tl th):=by
 intro pins s σ H Q I h;refine Subscript_ (thn (he pins s σ H _ I h) λv s1 ⟨x,H1,I1,r1,q1⟩=>?_);refine wpAny_Slice (thn (hl pins s1 σ H1 _ I1 q1) λvl s2 ⟨l,H2,I2,pl,q2⟩=>thn (hu pins s2 σ H2 _ I2 q2) λvu s3 ⟨u,H3,I3,pu,q3⟩=>?_);rw[evalPart_none];refine Ja0 ?_;have I4:Inv X pins σ H3 { s3 with heap:=s3.heap.push { cls:=.type "slice",data:=.fields #[vl,vu,.none] } }:=I3.kept (t':=s3.toks) λb ob q=>Jak _ q;refine Zbm (hr pins { s3 with heap:=s3.heap.push { cls:=.type "slice",data:=.fields #[vl,vu,.none] } } σ H3 x v vl vu l u s3.heap.objs.size Q I4 r1 (Heap.IsSliceOf.new ..) pl pu q3) λT id hT ht hg=>?_;show wpAny (model X.prog X.w) X.A (subscriptTail e (.Slice lo hi none p2) v (.ref s3.heap.objs.size)) (EP X pins σ Q) X.xe { s3 with heap:=s3.heap.push { cls:=.type "slice",data:=.fields #[vl,vu,.none] } };exact tail_any (ops:=[.ref s3.heap.objs.size,v]) ht hT hg (by with_unfolding_all rfl)
def Zf1 (xs:List V)(lo hi:Option Int):List V:=(xs.drop (HT.sIx xs.length 0 lo)).take (HT.sIx xs.length xs.length hi-HT.sIx xs.length 0 lo)
theorem Zdi (xs:List V)(lo hi:Option Int):(Zf1 xs lo hi).length<=xs.length:=by
 unfold Zf1;rw[Jbc,Jb2];omega
end
def ixN (n:Nat)(i:Int):Option Nat:=if 0<=i then (if i<n then some i.toNat else none) else if -(n:Int)<=i then some (i+n).toNat else none
def atI {α:Type}(xs:List α)(i:Int):Option α:=(ixN xs.length i).bind λj=>xs[j]?
theorem Zsz {n:Nat}{i:Int}{j:Nat}(h:ixN n i=some j):seqIndex? i n=some j/\j<n/\-(n:Int)<=i/\i<n:=by
 unfold ixN at h;by_cases h0:0<=i
 .rw [if_pos h0] at h;by_cases h1:i<n
  .rw [if_pos h1] at h;have e:i.toNat=j:=Jbi h;exact⟨by rw[seqIndex_of h0 h1,e],∅,∅,h1⟩
  .rw [if_neg h1] at h;cases h
 .rw [if_neg h0] at h;by_cases h1:-(n:Int)<=i
  .rw [if_pos h1] at h;have e:(i+n).toNat=j:=Jbi h;exact⟨by rw[seqIndex_neg ∅ h1,e],∅,h1,∅⟩
  .rw [if_neg h1] at h;cases h
theorem Zt1 {α:Type}{xs:List α}{i:Int}{v:α}(h:atI xs i=some v):∃ j,seqIndex? i xs.length=some j/\xs[j]?=some v/\j<xs.length/\-(xs.length:Int)<=i/\i<xs.length:=by
 unfold atI at h;cases e:ixN xs.length i with
 | none=>rw[e] at h;cases h
 | some j=>
  rw[e] at h;refine Zb0 (Zsz e) λh1 h2 h3 h4=>?_;exact⟨j,h1,h,h2,h3,h4⟩
theorem atI_nat {α:Type}{xs:List α}{j:Nat}{v:α}(h:xs[j]?=some v):atI xs (j:Int)=some v:=by
 have hj:j<xs.length:=(Jaf.mp h).1;have e:ixN xs.length (j:Int)=some j:=by
  unfold ixN;rw[if_pos ∅,if_pos ∅];simp
 unfold atI;rw[e];exact h
def PlainIx (b:Expr):Prop:=∀ o i,subscripted b false o i=operate [o,i] (getItem o i)
def IxR (X:Cx)(r:R2):Prop:=
 ∀ (value slice:Expr) (pins:List (Addr×Obj)) (s:Shared) (σ:St) (H:Hp) (x y:V) (v u:Value) (Q:VK),Inv X pins σ H s->RelV x v->RelV y u->r x y H Q->
  subscripted slice false v u=operate [v,u] (getItem v u)->wpAny (model X.prog X.w) X.A (subscriptTail value slice v u) (EP X pins σ Q) X.xe s
def MtR (X:Cx)(id:String)(r:V->List V->Hp->VK->Prop):Prop:=
 ∀ (pins:List (Addr×Obj)) (s:Shared) (σ:St) (H:Hp) (x:V) (xs:List V) (v:Value) (us:List Value) (Q:VK),Inv X pins σ H s->RelV x v->Vals xs us->r x xs H Q->
  wpAny (model X.prog X.w) X.A (call (.builtin id) (v::us)) (EP X pins σ Q) X.xe s
section
variable {X:Cx}{a b:Expr}{ta tb:TE}{pos:Pos}
theorem pe_ix {r:R2}(hr:IxR X r)(ha:PE X a ta)(hb:PE X b tb)(hs:PlainIx b):PE X (.Subscript a b pos) (tOp r ta tb):=by
 intro pins s σ H Q I h;exact Subscript_ (binT ha hb I h λv u s2 x y H2 I2 rx ry q=>hr a b pins s2 σ H2 x y v u Q I2 rx ry q (hs _ _))
def rIxL (K:Frag):R2:=λx y H Q=>∃ p xs i v,x=.ref p/\y=.int i/\SqL K H p xs/\atI xs i=some v/\Q v H
def rIxT (K:Frag):R2:=λx y H Q=>∃ p xs i v,x=.ref p/\y=.int i/\SqT K H p xs/\atI xs i=some v/\Q v H
theorem Zaw:IxR X (rIxL X.K):=by
 intro value slice pins s σ H x y v u Q I rx ry h hs;refine Zb5 h λp xs i z e9120 e9121 hq e9122=>?_;clear h;obtain rfl:=e9120;obtain rfl:=e9121;obtain⟨he,q⟩:=e9122;cases rx;obtain⟨t,rfl⟩:=ry;refine Zav (I.list hq) λits r pl hz=>?_;refine Zqu (Zt1 he) λj h1 h2 h3 h4 h5=>?_;refine Zad (r.get h2) λw ew rw'=>?_;have hl:=r.length;have hn:=Zpe;have fin:EP X pins σ Q w s:=⟨z,H,I,rw',q⟩
 by_cases h0:0<=i
 .have hj:i.toNat=j:=by
   rw[seqIndex_of h0 h5] at h1;exact Jbi h1
  exact item_listR pl.isList h0 ∅ (by rw[hj];simpa using ew) fin hs
 .have hj:(i+(its.toArray.size:Int)).toNat=j:=by
   rw[seqIndex_neg ∅ h4] at h1;rw[Jaq,<- hl];exact Jbi h1
  exact subscriptTail_builtinR (x:=w) pl.isList.typeIs slot_list_getitem.lookup
   (wpAny_getItem_list_neg (Q:=λr s'=>r=w/\EP X pins σ Q r s') pl.isList ∅ (by rw[Jaq] <;> omega) ∅ (by rw[hj];simpa using ew) ⟨rfl,fin⟩) hs
theorem Zbc:IxR X (rIxT X.K):=by
 intro value slice pins s σ H x y v u Q I rx ry h hs;refine Zb5 h λp xs i z e9123 e9124 hq e9125=>?_;clear h;obtain rfl:=e9123;obtain rfl:=e9124;obtain⟨he,q⟩:=e9125;cases rx;obtain⟨t,rfl⟩:=ry;refine Zav (I.tuple hq) λits r pl hz=>?_;refine Zqu (Zt1 he) λj h1 h2 h3 h4 h5=>?_;refine Zad (r.get h2) λw ew rw'=>?_;have hl:=r.length;have hn:=Zpe;have fin:EP X pins σ Q w s:=⟨z,H,I,rw',q⟩
 exact subscriptTail_builtinR (x:=w) pl.typeIs slot_tuple_getitem.lookup
  (getItem_tuple (j:=j) (Q:=λr s'=>r=w/\EP X pins σ Q r s') pl ∅ ∅ (by rw[Jaq,<- hl];exact h1) (by simpa using ew) ⟨rfl,fin⟩) hs
theorem Zqa (its:List Value)(n j:Nat)(u:Value):Obj.mapSeq (·.setIfInBounds j u) { cls:=.type "list",data:=.seq its.toArray n }={ cls:=.type "list",data:=.seq (its.set j u).toArray n }:=by
 simp[Obj.mapSeq]
theorem Inv.lst {pins:List (Addr×Obj)}{σ:St}{H:Hp}{s:Shared}{p:Addr}{xs:List V}(I:Inv X pins σ H s)(h:H p=some (.lst xs)):
  ∃ (its:List Value) (n:Nat),Vals xs its/\s.heap.get? p=some { cls:=.type "list",data:=.seq its.toArray n }/\xs.length<=sizeLine:=by
 obtain⟨z,its,n,r,e⟩:=I.hok p _ h;exact Zat its n ⟨r,e,z⟩
theorem Inv.lstUpd {pins:List (Addr×Obj)}{σ:St}{H:Hp}{s:Shared}{p:Addr}{xs ys:List V}{its its':List Value}{n n':Nat}{f:Obj->Obj}(I:Inv X pins σ H s)(h:H p=some (.lst xs))(ho:s.heap.get? p=some { cls:=.type "list",data:=.seq its.toArray n })(hf:f { cls:=.type "list",data:=.seq its.toArray n }={ cls:=.type "list",data:=.seq its'.toArray n' })(r:Vals ys its')(hz:ys.length<=sizeLine)(t:Nat):
  Inv X pins σ (upd H p (.lst ys)) { s with heap:=s.heap.update p f,toks:=t }:=by
 have e:(s.heap.update p f).get? p=some { cls:=.type "list",data:=.seq its'.toArray n' }:=by
  rw[Jc5 f ho (by rw[hf] <;> rfl),hf]
 refine I.write (x:=p) (e:=p) (by rw[h];trivial) (.inl rfl) (λb u hb q=>(Jcn _ _ (Jco hb)).trans q) ⟨_,e⟩ ?_;exact⟨hz,its',n',r,e⟩
def rSetL:V->V->V->Hp->(Hp->Prop)->Prop:=λo i v H Q=>∃ p xs k j,o=.ref p/\i=.int k/\H p=some (.lst xs)/\ixN xs.length k=some j/\Q (upd H p (.lst (xs.set j v)))
theorem Zdp:PSet X rSetL:=by
 intro pins s σ H o i v ov iv u Q I ro ri rv h;refine Zb5 h λp xs k j e9129 e9130 hp e9131=>?_;clear h;obtain rfl:=e9129;obtain rfl:=e9130;obtain⟨hj,q⟩:=e9131;cases ro;obtain⟨t,rfl⟩:=ri;refine Zbm (I.lst hp) λits n r ho hz=>?_;refine Zb0 (Zsz hj) λh1 h2 h3 h4=>?_;have hl:=r.length;have hn:=Zpe;have I':Inv X pins σ (upd H p (.lst (xs.set j v))) { s with heap:=s.heap.update p (Obj.mapSeq (·.setIfInBounds j u)) }:=
  I.lstUpd hp ho (Zqa its n j u) (r.set rv j) (by rw[Jby];exact hz) s.toks
 by_cases h0:0<=k
 .have hk:k.toNat=j:=by
   rw[seqIndex_of h0 h4] at h1;exact Jbi h1
  exact PySem.W.ki_setAt ho h0 ∅ (by rw[Jaq,<- hl];exact h4) (by rw[hk];exact⟨_,I',q⟩)
 .have hk:(k+(its.toArray.size:Int)).toNat=j:=by
   rw[seqIndex_neg ∅ h3] at h1;rw[Jaq,<- hl];exact Jbi h1
  exact PySem.W.ki_setBack ho ∅ (by rw[Jaq,<- hl];exact h3) ∅ (by rw[hk];exact⟨_,I',q⟩)
theorem Zl4 (lo hi:Option Int)(n:Nat):(sliceBounds lo hi none n).1=((HT.sIx n 0 lo:Nat):Int)/\(sliceBounds lo hi none n).2.1=((HT.sIx n n hi:Nat):Int)/\(sliceBounds lo hi none n).2.2=1:=by
 refine⟨?_,?_,rfl⟩
 .cases lo with
  | none=>simp[sliceBounds,HT.sIx]
  | some i=>
   simp only[sliceBounds,HT.sIx,Option.getD_none,show (1:Int) > 0 by decide,Jc1];by_cases h:i<0
   .simp only [h,Jc1] <;> omega
   .simp only [h,Jdg] <;> omega
 .cases hi with
  | none=>simp[sliceBounds,HT.sIx]
  | some i=>
   simp only[sliceBounds,HT.sIx,Option.getD_none,show (1:Int) > 0 by decide,Jc1];by_cases h:i<0
   .simp only [h,Jc1] <;> omega
   .simp only [h,Jdg] <;> omega
theorem Zk5 (its:List Value)(lo hi:Option Int):slicePick its.toArray lo hi none=((its.drop (HT.sIx its.length 0 lo)).take (HT.sIx its.length its.length hi-HT.sIx its.length 0 lo)).toArray:=by
 refine Za2 (Zl4 lo hi its.toArray.size) λh1 h2 h3=>?_;unfold slicePick;rw[h1,h2,h3];simp only[sliceRange_one,pick_run,Jaq] <;> rfl
def rSlL (K:Frag):V->Option Int->Option Int->Hp->VK->Prop:=λx lo hi H Q=>∃ a xs,x=.ref a/\SqL K H a xs/\∀ p,H p=none->Q (.ref p) (upd H p (.lst (Zf1 xs lo hi)))
theorem Zf6:SlR X (rSlL X.K):=by
 intro pins s σ H x v vl vu lo hi sl Q I rx hs pl pu h;refine Zbm h λa xs e9132 hx q=>?_;clear h;obtain rfl:=e9132;cases rx;refine Zav (I.list hx) λits r ht hz=>?_;have hlen:=r.length;refine Zat ("list") _ ⟨slot_list_getitem.lookup,ht.isList.typeIs,?_⟩;refine wpAny_getItem_list_slice ht.isList hs pl pu .none (by simp) ?_ (by rw[Jaq] <;> omega);rw[Zk5,<- hlen];refine Zat (.ref s.heap.objs.size) _ ⟨I.laid (t':=s.toks) (o:=.lst (Zf1 xs lo hi)) (λb ob q=>Jak _ q) (Jai _) ?_,rfl,q _ (I.hok.fresh (Jai _))⟩;exact⟨Ja3 (Zdi xs lo hi) hz,_,0,(r.drop (HT.sIx xs.length 0 lo)).take (HT.sIx xs.length xs.length hi-HT.sIx xs.length 0 lo),Ja4 _ rfl⟩
def Zqg:V->Bool
 | .non=>true
 | .bl _=>true
 | .int _=>true
 | .str _=>true
 | _=>false
def eqV:V->V->Bool
 | .non,.non=>true
 | .bl a,.bl b=>a == b
 | .bl a,.int b=>(if a then 1 else 0) == b
 | .int a,.bl b=>a == (if b then 1 else 0)
 | .int a,.int b=>a == b
 | .str a,.str b=>a == b
 | _,_=>false
theorem eqAt_V {A:Around}{s:Shared}{y x:V}{u v:Value}(ry:RelV y u)(rx:RelV x v)(fy:Zqg y=true)(fx:Zqg x=true):SeqAt.EqAt A s u v (eqV y x):=by
 cases y with
 | non=>
  cases ry;cases x with
  | non=>cases rx;exact SeqAt.EqAt.same _
  | bl b=>cases rx;exact SeqAt.EqAt.none_bool b
  | int b=>obtain⟨t,rfl⟩:=rx;exact SeqAt.EqAt.none_int b t
  | str b=>obtain⟨t,rfl⟩:=rx;exact SeqAt.EqAt.none_str b t
  | _=>exact absurd (show false=true from fx) Jax
 | bl a=>
  cases ry;cases x with
  | non=>cases rx;exact SeqAt.EqAt.bool_none a
  | bl b=>cases rx;exact SeqAt.EqAt.bool_bool a b
  | int b=>obtain⟨t,rfl⟩:=rx;exact SeqAt.EqAt.bool_int a b t
  | str b=>obtain⟨t,rfl⟩:=rx;exact SeqAt.EqAt.bool_str a b t
  | _=>exact absurd (show false=true from fx) Jax
 | int a=>
  obtain⟨t',rfl⟩:=ry;cases x with
  | non=>cases rx;exact SeqAt.EqAt.int_none a t'
  | bl b=>cases rx;exact SeqAt.EqAt.int_bool a t' b
  | int b=>obtain⟨t,rfl⟩:=rx;exact SeqAt.EqAt.int_int a t' b t
  | str b=>obtain⟨t,rfl⟩:=rx;exact SeqAt.EqAt.int_str a t' b t
  | _=>exact absurd (show false=true from fx) Jax
 | str a=>
  obtain⟨t',rfl⟩:=ry;cases x with
  | non=>cases rx;exact SeqAt.EqAt.str_none a t'
  | bl b=>cases rx;exact SeqAt.EqAt.str_bool a t' b
  | int b=>obtain⟨t,rfl⟩:=rx;exact SeqAt.EqAt.str_int a t' b t
  | str b=>obtain⟨t,rfl⟩:=rx;exact SeqAt.EqAt.str_str a t' b t
  | _=>exact absurd (show false=true from fx) Jax
 | _=>exact absurd (show false=true from fy) Jax
def inV (x:V)(xs:List V):Bool:=xs.any λy=>eqV y x
def rIn (K:Frag)(neg:Bool):R2:=λx y H Q=>∃ p xs,y=.ref p/\(SqL K H p xs\/SqT K H p xs)/\Zqg x=true/\xs.all Zqg=true/\Q (.bl (if neg then !inV x xs else inV x xs)) H
theorem Zas:Zfq X (.builtin "len") (λxs H Q=>∃ p ys,xs=[.ref p]/\(SqL X.K H p ys\/SqT X.K H p ys)/\Q (.int ys.length) H):=by
 intro pins s σ H xs us Q I r h;refine Zbm h λp ys e9137 hq q=>?_;clear h;obtain rfl:=e9137;refine Zad (Zj7 r) λu e9138 rx=>?_;obtain rfl:=e9138;cases rx;have hn:=Zpe;rcases hq with hq|hq
 .refine Zav (I.list hq) λits r' pl hz=>?_;have hlen:=r'.length;exact Calls.call_len_list pl.isList (by simp only[Jaq] <;> omega) ⟨.int ys.length,H,I.tok _,⟨s.toks+1,by rw[Jaq,hlen]⟩,q⟩
 .refine Zav (I.tuple hq) λits r' pl hz=>?_;have hlen:=r'.length;exact len_tuple pl (by simp only[Jaq] <;> omega) ⟨.int ys.length,H,I.tok _,⟨s.toks+1,by rw[Jaq,hlen]⟩,q⟩
theorem Zcl:Zfq X (.type "list") (λxs H Q=>∃ p ys,xs=[.ref p]/\(SqL X.K H p ys\/SqT X.K H p ys)/\∀ l,H l=none->Q (.ref l) (upd H l (.lst ys))):=by
 intro pins s σ H xs us Q I r h;refine Zbm h λp ys e9142 hq q=>?_;clear h;obtain rfl:=e9142;refine Zad (Zj7 r) λu e9143 rx=>?_;obtain rfl:=e9143;cases rx;have fin:∀ (its:List Value),Vals ys its->ys.length<=sizeLine->∀ (h':Heap) (c':Nat),(∀ b o',s.heap.get? b=some o'->h'.get? b=some o')->
   h'.get? s.heap.objs.size=some { cls:=.type "list",dict:=none,data:=.seq its.toArray c',slots:=#[] }->EP X pins σ Q (.ref s.heap.objs.size) { s with heap:=h' }:=λits r' hz h' c' kp e=>
  ⟨.ref s.heap.objs.size,_,I.laid (t':=s.toks) kp (Jai _) (show ObjOk X.prog X.w _ h' _ (.lst ys) from ⟨hz,its,c',r',e⟩),rfl,q _ (I.hok.fresh (Jai _))⟩
 rcases hq with hq|hq
 .refine Zav (I.list hq) λits r' pl hz=>?_;have hlen:=r'.length;obtain⟨o,ho,hc,n,hd⟩:=pl.isList;exact call_list_seq p (.inl rfl) ho hc hd (λh' c' kp e=>fin its r' hz h' c' kp e) (by simp only[Jaq] <;> omega)
 .obtain ⟨its,r',pl,hz⟩:=I.tuple hq;have hlen:=r'.length;obtain⟨o,ho,hc,n,hd⟩:=pl;exact call_list_seq p (.inr rfl) ho hc hd (λh' c' kp e=>fin its r' hz h' c' kp e) (by simp only[Jaq] <;> omega)
def tyV (K:Frag)(T:String)(x:V)(H:Hp):Prop:=match x with
 | .str _=>T="str"
 | .int _=>T="int"
 | .ref p=>(T="list" /\ ∃ xs,SqL K H p xs)\/(T="tuple" /\ ∃ o,K.lookup p=some o/\o.cls=.type "tuple" /\ o.dict=none) \/
   (T="dict" /\ ((∃ kvs,H p=some (.dK kvs))\/∃ kvs,H p=some (.dT kvs)))\/(T="set" /\ ∃ S n,H p=some (.set S n))
 | _=>False
theorem Zwv {pins:List (Addr×Obj)}{σ:St}{H:Hp}{s:Shared}{T:String}{x:V}{v:Value}(I:Inv X pins σ H s)(r:RelV x v)(ty:tyV X.K T x H):
  s.TypeIs v T/\∀ a,v=.ref a->∃ ob,s.heap.get? a=some ob/\ob.dict=none:=by
 cases x with
 | str z=>
  obtain⟨t,rfl⟩:=r;cases (show T="str" from ty);exact⟨typeIs_str s z t,λ_ e=>nomatch e⟩
 | int i=>
  obtain⟨t,rfl⟩:=r;cases (show T="int" from ty);exact⟨typeIs_int s i t,λ_ e=>nomatch e⟩
 | ref p=>
  cases r;rcases ty with ⟨rfl,xs,hq⟩|⟨rfl,o,hk,hc,hd⟩|⟨rfl,hk⟩|⟨rfl,S,n,hk⟩
  .refine Zav (I.list hq) λits _ pl _=>?_;refine⟨pl.isList.typeIs,λa e=>?_⟩;cases e;refine Zdw pl λo n e c hd _=>?_;clear pl;exact⟨o,e,hd⟩
  .refine ⟨⟨o,I.kIn p o hk,hc⟩,λa e=>?_⟩;cases e;exact⟨o,I.kIn _ o hk,hd⟩
  .have z:∃ o,s.heap.get? p=some o/\o.ExactDict:=by
    rcases hk with ⟨kvs,hk⟩|⟨kvs,hk⟩
    .refine Za2 (I.hok p _ hk) λ_ _ e9144=>?_;obtain⟨_,_,o,_,_,e,ex,_⟩:=e9144;exact⟨o,e,ex⟩
    .refine Za2 (I.hok p _ hk) λ_ _ e9145=>?_;obtain⟨_,_,o,_,_,e,ex,_⟩:=e9145;exact⟨o,e,ex⟩
   refine Zad z λo e ex=>?_;clear z;refine⟨⟨o,e,ex.1⟩,λa e2=>?_⟩;cases e2;exact⟨o,e,ex.2.1⟩
  .refine xE4_3 (I.hok p _ hk) λo _ _ _ e ex _=>?_;refine⟨⟨o,e,ex.1⟩,λa e2=>?_⟩;cases e2;exact⟨o,e,ex.2.1⟩
 | _=>exact False.elim ty
def tBM0 (K:Frag)(T:String)(r:V->List V->Hp->VK->Prop)(to:TE):TE:=λσ H Q=>to σ H λx H1=>tyV K T x H1/\r x [] H1 Q
def tBM (K:Frag)(T:String)(r:V->List V->Hp->VK->Prop)(to:TE)(t:TA):TE:=λσ H Q=>to σ H λx H1=>tyV K T x H1/\t σ H1 λxs H2=>r x xs H2 Q
variable {o e:Expr}{es:List Expr}{to:TE}{t:TA}{name:Str}{apos cpos:Pos}{T id:String}{r:V->List V->Hp->VK->Prop}
theorem Zo5 (pa:PlainAttrs T)(slot:Slot T name id)(hty:typeOf (.builtin id)=pure (.type "method_descriptor"))(hm:MtR X id r)(ho:PE X o to)(hbase:attributeBase o name X.env (eval o X.env)=eval o X.env:=by rfl)(hline:(apos.endLine == cpos.line)=true:=by rfl):PE X (.Call (.Attribute o name apos) [] [] cpos) (tBM0 X.K T r to):=by
 intro pins s σ H Q I h;refine wpAny_Call_method0_late hbase hline (thn (ho pins s σ H _ I h) λv s1 ⟨x,H1,I1,r1,ty,q1⟩=>?_);obtain⟨h1,h2⟩:=Zwv I1 r1 ty;exact Zat T id ⟨pa,slot,hty,h1,h2,Calls.callWith_builtin rfl (PySem.evalArgs_none (hm pins s1 σ H1 x [] v [] Q I1 r1 .nil q1))⟩
theorem Zey (pa:PlainAttrs T)(slot:Slot T name id)(hty:typeOf (.builtin id)=pure (.type "method_descriptor"))(hm:MtR X id r)(ho:PE X o to)(ha:PA X (e::es) t)(hbase:attributeBase o name X.env (eval o X.env)=eval o X.env:=by rfl)(hfew:((backTo cpos (starEach (e::es) X.env)).all (λx=>!x.1) && (backToKw cpos (keywordEach [] X.env)).all (λx=>x.1.isSome)
   && decide ((e::es).length+([]:List Keyword).length+(if ([]:List Keyword).isEmpty then 0 else 1)<30))=true:=by rfl)(hline:(apos.endLine == cpos.line)=true:=by rfl)(hs:starEach (e::es) X.env=(false,eval e X.env)::starEach es X.env:=by rfl)(hplain:(backTo cpos (starEach es X.env)).any (·.1)=false:=by rfl):
  PE X (.Call (.Attribute o name apos) (e::es) [] cpos) (tBM X.K T r to t):=by
 intro pins s σ H Q I h;refine wpAny_Call_method_late hbase hfew hline rfl (thn (ho pins s σ H _ I h) λv s1 ⟨x,H1,I1,r1,ty,q1⟩=>?_);obtain⟨h1,h2⟩:=Zwv I1 r1 ty;refine Zat T id ⟨pa,slot,hty,h1,h2,?_⟩;have hA:=ha cpos pins s1 σ H1 _ I1 q1;rw[hs] at hA ⊢;refine Calls.callWith_builtin (by show (false || (backTo cpos (starEach es X.env)).any (·.1))=false;rw[hplain] <;> rfl) (Calls.evalArgs_plain ?_);exact thn hA λus s2 ⟨vs,H2,I2,r2,q2⟩=>hm pins s2 σ H2 x vs v us Q I2 r1 r2 q2
end
def MtM (X:Cx)(id:String)(r:V->List V->Hp->VK->Prop):Prop:=
 ∀ (pins:List (Addr×Obj)) (s:Shared) (σ:St) (H:Hp) (x:V) (xs:List V) (v:Value) (us:List Value) (Q:VK),Inv X pins σ H s->RelV x v->Vals xs us->r x xs H Q->
  wpAny (model X.prog X.w) X.A (call (.builtin id) (v::us)) (EP X pins σ Q) X.xe s
theorem Vals.one:∀ {x:V} {us:List Value},Vals [x] us->∃ u,us=[u]/\RelV x u
 | _,_,.cons r .nil=>⟨_,rfl,r⟩
theorem Vals.zero:∀ {us:List Value},Vals [] us->us=[]
 | _,.nil=>rfl
theorem Vals.dropLast {xs:List V}{us:List Value}(h:Vals xs us):Vals xs.dropLast us.dropLast:=by
 induction h with
 | nil=>exact .nil
 | cons r t ih=>
  cases t with
  | nil=>exact .nil
  | cons q t'=>exact .cons r ih
theorem Vals.eraseIdx:∀ {xs:List V} {us:List Value} (i:Nat),Vals xs us->Vals (xs.eraseIdx i) (us.eraseIdx i)
 | _,_,_,.nil=>.nil
 | _,_,0,.cons _ t=>t
 | _,_,i+1,.cons r t=>.cons r (Vals.eraseIdx i t)
theorem Vals.rep {xs:List V}{us:List Value}(h:Vals xs us):∀ k:Nat,Vals (List.replicate k xs).flatten (List.replicate k us).flatten
 | 0=>.nil
 | k+1=>by
  rw[Jcp,Jcp,Jdu,Jdu];exact Vals.append h (Vals.rep h k)
theorem Zqh {α:Type}(l:List α):l.eraseIdx (l.length-1)=l.dropLast:=by
 induction l with
 | nil=>rfl
 | cons a r ih=>
  cases r with
  | nil=>rfl
  | cons b r=>
   have e:(a::b::r).length-1=((b::r).length-1)+1:=by
    have h1:(a::b::r).length=r.length+2:=rfl;have h2:(b::r).length=r.length+1:=rfl;omega
   rw[e,List.eraseIdx_cons_succ,ih]
   all_goals rfl
theorem Zmk {α:Type}:∀ (l:List α) (i:Nat),(l.eraseIdx i).length<=l.length
 | [],_=>Jai _
 | _::_,0=>Jfi _
 | _::r,i+1=>Nat.succ_le_succ (Zmk r i)
theorem Zmp (its:List Value):∀ (k:Nat) (acc:List Value),
  List.foldl (λx1 x2=>x1++x2) acc.toArray (List.replicate k its.toArray)=(acc++(List.replicate k its).flatten).toArray
 | 0,acc=>by simp
 | k+1,acc=>by
  have e:acc.toArray++its.toArray=(acc++its).toArray:=by simp
  have e2:(acc++its)++(List.replicate k its).flatten=acc++(List.replicate (k+1) its).flatten:=by
   rw[Jcp,Jdu,List.append_assoc]
  rw[<- e2,<- Zmp its k (acc++its),<- e,Jcp,List.foldl_cons]
section
variable {X:Cx}{pins:List (Addr×Obj)}{σ:St}{H:Hp}{s:Shared}{l b:Addr}{xs ys zs:List V}
theorem Inv.lset {its its':List Value}{n:Nat}{f:Array Value->Array Value}{t':Nat}(I:Inv X pins σ H s)(hH:H l=some (.lst xs))(e:s.heap.get? l=some { cls:=.type "list",data:=.seq its.toArray n })(hf:f its.toArray=its'.toArray)(hv:Vals ys its')(hz:ys.length<=sizeLine):
  Inv X pins σ (upd H l (.lst ys)) { s with heap:=s.heap.update l (Obj.mapSeq f),toks:=t' }:=by
 have q:=PySem.IsL.update e f;rw[hf] at q;refine I.write (x:=l) (e:=l) (by rw[hH];exact trivial) (.inl rfl) (λb' u hb hu=>(Jcn s.heap (Obj.mapSeq f) (Jco hb)).trans hu) ⟨_,q⟩ ?_;exact⟨hz,its',_,hv,q⟩
theorem Inv.lnew {its:List Value}{t':Nat}(I:Inv X pins σ H s)(hv:Vals ys its)(hz:ys.length<=sizeLine):
  Inv X pins σ (upd H s.heap.objs.size (.lst ys)) { s with heap:=s.heap.push { cls:=.type "list",data:=.seq its.toArray },toks:=t' }:=
 I.laid (λ_ _ q=>Jak _ q) (Jai _) ⟨hz,its,0,hv,Ja4 _ rfl⟩
theorem Inv.fresh (I:Inv X pins σ H s):H s.heap.objs.size=none:=I.hok.fresh (Jai _)
theorem Inv.lstM (I:Inv X pins σ H s)(hH:H l=some (.lst xs)):xs.length<=sizeLine/\∃ (its:List Value) (n:Nat),Vals xs its/\xs.length=its.length/\s.heap.get? l=some { cls:=.type "list",data:=.seq its.toArray n }:=by
 obtain⟨z,its,n,r,e⟩:=I.hok l _ hH;exact⟨z,its,n,r,r.length,e⟩
theorem Zil {n:Nat}(h:n<=sizeLine):Builtin.List.listTooLong n=false:=by
 unfold Builtin.List.listTooLong;exact Jbg ∅
end
section
variable {X:Cx}
def Zjm:V->List V->Hp->VK->Prop:=λx vs H Q=>∃ l xs y,x=.ref l/\vs=[y]/\H l=some (.lst xs)/\xs.length<sizeLine/\Q .non (upd H l (.lst (xs++[y])))
theorem Zbd:MtM X "list.append" Zjm:=by
 intro pins s σ H x vs v us Q I rx rv h;refine Zbu h λl xs y e9146 e9147 hH e9148=>?_;clear h;obtain rfl:=e9146;obtain rfl:=e9147;obtain⟨hz,q⟩:=e9148;cases rx;refine Zad rv.one λu e9149 ru=>?_;obtain rfl:=e9149;obtain⟨z,its,n,r,hl,e⟩:=I.lstM hH;refine Jeq F.slot_list_append ⟨_,e,rfl⟩ F.entry_list_append (F.args_list_append_2 _ _) (PySem.list_append l its.toArray n u (by rw[Jaq];omega)) ⟨e,?_⟩;refine Zat .non _ ⟨I.lset (its':=its++[u]) hH e (by simp) (r.append (.cons ru .nil)) ?_,rfl,q⟩;rw[Jah,List.length_singleton];omega
def rExtend:V->List V->Hp->VK->Prop:=λx vs H Q=>∃ l b xs zs,x=.ref l/\vs=[.ref b]/\H l=some (.lst xs)/\H b=some (.lst zs)/\xs.length+zs.length<=sizeLine/\Q .non (upd H l (.lst (xs++zs)))
theorem Zmj:MtM X "list.extend" rExtend:=by
 intro pins s σ H x vs v us Q I rx rv h;refine Zb5 h λl b xs zs e9150 e9151 hH e9152=>?_;clear h;obtain rfl:=e9150;obtain rfl:=e9151;refine Za2 e9152 λhB hz q=>?_;clear e9152;cases rx;refine Zad rv.one λu e9153 ru=>?_;obtain rfl:=e9153;cases ru;obtain⟨z,its,n,r,hl,e⟩:=I.lstM hH;obtain⟨z2,its2,n2,r2,hl2,e2⟩:=I.lstM hB;have hsz:its.toArray.size+its2.toArray.size<=sizeLine:=by rw[Jaq,Jaq];omega
 have hlong:¬ (!its.toArray.isEmpty && Builtin.List.listTooLong (its.toArray.size+its2.toArray.size))=true:=by
  rw[Zil hsz,Bool.and_false];exact Jax
 refine Jeq F.slot_list_extend ⟨_,e,rfl⟩ F.entry_list_extend (F.args_list_extend_2 _ _)
  (AutoSeq1.list_extend_list_list_0 l its.toArray n b its2.toArray n2 hlong (by rw[Jaq];omega) ∅) ⟨e,e2,?_⟩
 refine Zat .non _ ⟨I.lset (its':=its++its2) hH e (by simp) (r.append r2) ?_,rfl,q⟩;rw[Jah];omega
def rPop:V->List V->Hp->VK->Prop:=λx vs H Q=>∃ l xs y,x=.ref l/\vs=[]/\H l=some (.lst xs)/\xs[xs.length-1]?=some y/\Q y (upd H l (.lst xs.dropLast))
theorem mt_pop:MtM X "list.pop" rPop:=by
 intro pins s σ H x vs v us Q I rx rv h;refine Zbu h λl xs y e9154 e9155 hH e9156=>?_;clear h;obtain rfl:=e9154;obtain rfl:=e9155;obtain⟨hy,q⟩:=e9156;cases rx;have hus:=rv.zero;subst hus;obtain⟨z,its,n,r,hl,e⟩:=I.lstM hH;refine Zad (r.get hy) λu hu ru=>?_;have hy':its.toArray[its.toArray.size-1]?=some u:=by
  show its.toArray[its.length-1]?=some u;rw[<- Jeg,<- hl];exact hu
 refine Jeq F.slot_list_pop ⟨_,e,rfl⟩ F.entry_list_pop (F.args_list_pop_1 _) (MeetsSeq.list_pop_last l its.toArray n u hy' (by rw[Jaq];omega)) ⟨e,?_⟩;refine Zat y _ ⟨I.lset (its':=its.dropLast) hH e ?_ r.dropLast ?_,ru,q⟩
 .show its.toArray.eraseIdxIfInBounds (its.toArray.size-1)=its.dropLast.toArray;rw[Jaq,Jec,Zqh]
 .rw [List.length_dropLast];omega
def Zrv:V->List V->Hp->VK->Prop:=λx vs H Q=>∃ l xs i k y,x=.ref l/\vs=[.int i]/\H l=some (.lst xs)/\-(2 ^ 63)<=i/\i<2 ^ 63/\seqIndex? i xs.length=some k/\xs[k]?=some y/\Q y (upd H l (.lst (xs.eraseIdx k)))
theorem Zvq:MtM X "list.pop" Zrv:=by
 intro pins s σ H x vs v us Q I rx rv h;refine Zf2 h λl xs i k y e9157 e9158 hH e9159=>?_;clear h;obtain rfl:=e9157;obtain rfl:=e9158;refine Zcf e9159 λh1 h2 hk hy q=>?_;clear e9159;cases rx;refine Zad rv.one λu e9160 ru=>?_;obtain rfl:=e9160;obtain⟨t,rfl⟩:=ru;obtain⟨z,its,n,r,hl,e⟩:=I.lstM hH;refine Zad (r.get hy) λw hw rw'=>?_;refine Jeq F.slot_list_pop ⟨_,e,rfl⟩ F.entry_list_pop (F.args_list_pop_2 _ _)
  (MeetsSeq.list_pop_at l its.toArray n i t k w (fitsIndex_both h1 h2) (by rw[Jaq,<- hl];exact hk) (by rw[<- Jeg];exact hw) (by rw[Jaq];omega)) ⟨e,?_⟩
 refine Zat y _ ⟨I.lset (its':=its.eraseIdx k) hH e ?_ (r.eraseIdx k) ?_,rw',q⟩
 .show its.toArray.eraseIdxIfInBounds k=(its.eraseIdx k).toArray;rw[Jec]
 .have:=Zmk xs k;omega
def rClear:V->List V->Hp->VK->Prop:=λx vs H Q=>∃ l xs,x=.ref l/\vs=[]/\H l=some (.lst xs)/\Q .non (upd H l (.lst []))
theorem Zvr:MtM X "list.clear" rClear:=by
 intro pins s σ H x vs v us Q I rx rv h;refine Zdw h λl xs e9163 e9164 hH q=>?_;clear h;obtain rfl:=e9163;obtain rfl:=e9164;cases rx;have hus:=rv.zero;subst hus;obtain⟨z,its,n,r,hl,e⟩:=I.lstM hH;refine Jeq F.slot_list_clear ⟨_,e,rfl⟩ F.entry_list_clear (F.args_list_clear_1 _) (AutoSeq1.list_clear_list_0 l its.toArray n (by rw[Jaq];omega)) ⟨e,?_⟩;exact Zat .non _ ⟨I.lset (its':=[]) (ys:=[]) hH e rfl .nil (Jb9 _),rfl,q⟩
def rCat:R2:=λx y H Q=>∃ l b xs zs,x=.ref l/\y=.ref b/\H l=some (.lst xs)/\H b=some (.lst zs)/\xs.length+zs.length<=sizeLine/\∀ p,H p=none->Q (.ref p) (upd H p (.lst (xs++zs)))
theorem Zks:OpR X (binaryOp .Add) rCat:=by
 intro pins s σ H x y v u Q I rx ry h;refine Zb5 h λl b xs zs e9165 e9166 hH e9167=>?_;clear h;obtain rfl:=e9165;obtain rfl:=e9166;refine Za2 e9167 λhB hz q=>?_;clear e9167;cases rx;cases ry;obtain⟨z,its,n,r,hl,e⟩:=I.lstM hH;obtain⟨z2,its2,n2,r2,hl2,e2⟩:=I.lstM hB;refine PySem.P.add_list e e2 ?_ (by rw[Jaq,Jaq];omega);have ea:its.toArray++its2.toArray=(its++its2).toArray:=by simp
 rw[ea];exact Zat (.ref _) _ ⟨I.lnew (t':=s.toks) (r.append r2) (by rw[Jah];omega),rfl,q _ I.fresh⟩
def rRep:R2:=λx y H Q=>∃ l k xs,x=.ref l/\y=.int k/\H l=some (.lst xs)/\-(2 ^ 63)<=k/\k<2 ^ 63/\xs.length*k.toNat<=sizeLine /\
 ∀ p,H p=none->Q (.ref p) (upd H p (.lst (List.replicate k.toNat xs).flatten))
theorem Zsu {α:Type}(xs:List α)(k:Nat):(List.replicate k xs).flatten.length=k*xs.length:=by
 induction k with
 | zero=>simp
 | succ k ih=>rw[Jcp,Jdu,Jah,ih,Nat.succ_mul,Nat.add_comm]
theorem Zw6:OpR X (binaryOp .Mult) rRep:=by
 intro pins s σ H x y v u Q I rx ry h;refine Zbu h λl k xs e9168 e9169 hH e9170=>?_;clear h;obtain rfl:=e9168;obtain rfl:=e9169;refine Zb0 e9170 λh1 h2 hz q=>?_;clear e9170;cases rx;obtain⟨t,rfl⟩:=ry;obtain⟨z,its,n,r,hl,e⟩:=I.lstM hH;have hlen:its.toArray.size*k.toNat<=sizeLine:=by rw[Jaq,<- hl];exact hz
 have hcap:¬ its.toArray.size*k.toNat > (2 ^ 63-1) / 8:=by
  have:(sizeLine:Nat)<=(2 ^ 63-1) / 8:=⇑0
  omega
 have hfit:¬ (!Builtin.List.listFitsIndex k)=true:=by
  rw[fitsIndex_both h1 h2];exact Jax
 have hlong:¬ Builtin.List.listTooLong (its.toArray.size*k.toNat)=true:=by
  rw[Zil hlen];exact Jax
 have hnew:List.foldl (λx1 x2=>x1++x2) #[] (List.replicate (if its.toArray.isEmpty=true then 0 else k.toNat) its.toArray)=(List.replicate k.toNat its).flatten.toArray:=by
  have f0:∀ m:Nat,List.foldl (λx1 x2=>x1++x2) #[] (List.replicate m its.toArray)=(List.replicate m its).flatten.toArray:=λm=>by
   have:=Zmp its m [];rw[List.nil_append] at this;exact this
  rw[f0];cases its with
  | nil=>simp
  | cons a r'=>rw[if_neg (by simp)]
 refine wpAny_binaryOp_repeat_ref (T:="list") (U:="int") ⇑0 ⟨_,e,rfl⟩ (λs'=>typeIs_int s' k t) noFill_list_mul F.fills_int_mul F.slot_int_rmul repeat_list F.slot_int_index.lookup
  (Jeq F.slot_int_rmul (typeIs_int s k t) F.entry_int_rmul (F.args_int_rmul_2 _ _) (int___rmul___int_list k t l its.toArray n)
   ⟨e,rfl,⟨_,e,rfl⟩,Jeq F.slot_list_mul ⟨_,e,rfl⟩ F.entry_list_mul (F.args_list_mul_2 _ _) (AutoListH.list___mul___list_int_3 l its.toArray n k t hfit hcap hlong) ⟨e,?_⟩⟩)
 rw[hnew];exact Zat (.ref _) _ ⟨I.lnew (t':=s.toks) (r.rep k.toNat) (by rw[Zsu,Nat.mul_comm];exact hz),rfl,q _ I.fresh⟩
end
section
variable {prog:Program}{w:World}{A:Around}{E:Value->Shared->Prop}{s:Shared}
theorem Zq9 (its its2:List Value)(a c:Nat):its.toArray.extract 0 a++its2.toArray++its.toArray.extract c its.toArray.size=(its.take a++its2++its.drop c).toArray:=by
 apply Array.toList_inj.mp
 first
  | (simp;exact Jc3 (by simp))
  | simp[Jc3]
  | simp
end
section
variable {X:Cx}
end
end L2
namespace Att
open PySem PySem.W PySem.Calls PyProof.Rows
theorem Zjs {P:Params}{h:Heap}:∀ (ns:List Int) (vs:List Value),WellAll P h vs (ns.map WData.int)->IntsAre vs ns:=by
 intro ns
 induction ns with
 | nil=>
  intro vs w;rw[List.map_nil] at w;cases w;exact .nil
 | cons n ns ih=>
  intro vs w;rw[List.map_cons] at w;cases w with
  | cons a b=>
   cases a;exact .cons _ _ (ih _ b)
theorem Zrl {l:OpenLaw}{n:Nat}(hn:l.most=some n){P:Params}{h:Heap}{args:List WData}{vals:List Value}(hpre:l.row.toRowW.claim.pre args=true)(hwl:WellAll P h vals args):
  ∃ a vs ns,vals=[Value.ref a]/\args=[WData.list (ns.map WData.int)]/\h.get? a=some { cls:=.type "list",data:=.seq vs.toArray }/\IntsAre vs ns/\ns.length<=n:=by
 have hsh:WShape.hasAll [] args [.list .int]=true:=(pre_splitW hpre).1;have hc:l.pre.holds [] { args:=args }=true:=(pre_splitW hpre).2;obtain⟨d,r,rfl,h1,h2⟩:=hasAllW_cons hsh;obtain rfl:=hasAllW_nil h2;obtain⟨xs,rfl,h3⟩:=hasW_list h1;obtain⟨ns,rfl⟩:=items_int h3;have hlen:ns.length<=n:=by
  unfold OpenLaw.pre at hc;have h4:(WTm.not (.lt (.lit (.int (n:Int))) (.len (.arg 0)))).holds [] { args:=[.list (ns.map .int)] }=true:=by
   have h4:=(holds_andW hc).1;rw[hn] at h4;exact h4
  have h5:=condW_of h4 (w_not (w_lt w_lit (w_len_list (w_arg rfl))));rw[Jab] at h5;refine Nat.le_of_not_lt λq=>?_;have q':(n:Int)<((ns.length:Nat):Int):=∅
  first
   | (rw[Jao q'] at h5;exact absurd h5 ⇑0)
   | (simp at h5;omega)
 cases hwl with
 | cons w1 w2=>
  cases w2;cases w1 with
  | list ho hall=>exact⟨_,_,ns,rfl,rfl,ho,Zjs ns _ hall,hlen⟩
theorem Zr2 (l:OpenLaw)(args:List WData):l.row.toRowW.claim.post args (.bool true) args=true:=
 postW_of (r:=l.row.toRowW) (X:=(true == true))
  (show WShape.has [] (.bool true) .bool=true by first|rfl|decide|simp[WShape.has,WShape.arms,WShape.armsAll])
  (show (WTm.eq .res (.lit (.bool true))).value [] { args:=args,res:=some (.bool true),after:=args }=some (.bool (true == true)) from w_eq_bool (w_res rfl) w_lit) rfl
theorem attach_call {l:OpenLaw}{n:Nat}{q:Program}{loose:List Str}{XP:(Str->Option Value)->Heap->Prop}{YP:World->Heap->Prop}{d:DefRec}(hn:l.most=some n)(hdf:d.params.defaults=[])(call:∀ (w:World) (s₀ s₁:Shared) (mg mb:Str->Option Value) (fa:Addr) (o:Obj) (pm cd doc:Value) (a:Addr) (vs:List Value) (ns:List Int),
   Ground q loose [] XP w s₀ mg mb s₁.heap->YP w s₁.heap->
   s₁.heap.get? fa=some o->o.data=.func (docDef d.name d.params d.body d.scope pm cd doc)->s₁.heap.CodeRec cd d.name->mg d.name=some (.ref fa)->
   s₁.heap.get? a=some { cls:=.type "list",data:=.seq vs.toArray }->IntsAre vs ns->ns.length<=n->s₁.gens=#[]->
   codeAny (model l.prog w) callerA (.call (.ref fa) ⟨[.ref a],[]⟩) (λr s'=>r=.ok (.ret (.bool true))/\OldK s₁.heap s'.heap/\s'.os=s₁.os/\AllBare s'.gens) s₁):
  WalkO q loose XP YP l.row.toRowW d [] (λf vs=>PySem.call f vs):=by
 intro w s₀ s₁ mg mb G Y fa o pm cd doc dV kV ho hd hcd hD hmg hg args vals as hpre hlay hrd hwl hlo;obtain rfl:dV=.none:=Dflts.none hD hdf;obtain rfl:kV=.none:=Dflts.noKw hD;obtain⟨a,vs,ns,rfl,rfl,hobj,hints,hlen⟩:=Zrl hn hpre hwl;refine enter_call (codeAny_mono (call w s₀ s₁ mg mb fa o pm cd doc a vs ns G Y ho (fd_plain hd) hcd hmg hobj hints hlen hg) λr s' hq=>?_);obtain⟨rfl,h2,h3,h4⟩:=hq;exact⟨.inl ⟨.bool true,.bool true,[],rfl,λ_=>rfl,.bool true,Zr2 l _,λ_=>⟨List.Pairwise.nil,λ_ hm=>(nomatch hm)⟩⟩,h2,h3,h4⟩
section
variable {prog:Program}{w:World}{A:Around}{E:Value->Shared->Prop}{s:Shared}{K:Frag}
end
end Att
namespace L2
open PySem PySem.Spec PyProof.Rows
theorem Zlv:∀ {vs:List Value} {ns:List Int},IntsAre vs ns->Vals (ns.map V.int) vs
 | _,_,.nil=>.nil
 | _,_,.cons n t h=>.cons ⟨t,rfl⟩ (Zlv h)
end L2
namespace L2
open PySem PySem.Spec PyProof.Rows
def Zju (s:Stmt)(j:Nat):Stmt:=match s with
 | .ClassDef _ _ _ body _ _ _ _ _ _ _=>body.getD j (.Pass ⟨0,0,0,0⟩)
 | _=>.Pass ⟨0,0,0,0⟩
def Zcu (s:Stmt):Arguments:=match s with
 | .FunctionDef _ a _ _ _ _ _ _ _ _=>a
 | _=>{ posonlyargs:=[],args:=[],vararg:=none,kwonlyargs:=[],kw_defaults:=[],kwarg:=none,defaults:=[] }
def Zcd (s:Stmt):List Stmt:=match s with
 | .FunctionDef _ _ b _ _ _ _ _ _ _=>b
 | _=>[]
def Zah (s:Stmt):Scope:=match s with
 | .FunctionDef _ _ _ _ _ _ sc _ _ _=>sc
 | _=>{ kind:=.function,names:=[],isGenerator:=false,isCoroutine:=false }
abbrev CX0:CXT:=λ_ _ _ _ _ _=>False
abbrev E0:XK:=λ_ _ _=>False
theorem Zu3 {X:Cx}:Zkz CX0 X E0:=λ_ _ _ _ _ _ _ h=>h.elim
structure Fun (K:Frag)(x qual:Str)(st:Stmt)(f:Addr)(fd:FuncData):Prop where
 ex:∃ (oc:Value) (od:Option Addr) (kV doc pm:Value) (an:Option Addr) (cdv ct:Value) (osl:Array (Option Value)),
  fd=PySem.W.fnOf x qual (Zcu st) (Zcd st) (Zah st) .none kV doc pm an cdv ct/\K.lookup f=some ⟨oc,od,.func fd,osl⟩/\PySem.W.codeIn K cdv qual=true
 kp:PySem.W.keepIn K (.ref f)=true
section
theorem Fun.ok {x qual:Str}{st:Stmt}{f:Addr}{fd:FuncData}{N ps:List Str}{k:Nat}{sp:Sp}(F:Fun K x qual st f fd)(S:FnScope N ps (Zah st))(len:∀ vs H Q E,sp vs H Q E->vs.length=ps.length)(hbody:∀ (cdv:Value) (A:Around) (outer:List Env) (s:Shared) (H:Hp) (vs:List V) (Q:VK) (E:XK),Room k (A.deeper (envOfC qual (Zah st) s.heap.objs.size f cdv))->sp vs H Q E->
   ∃ t,PSs (Zwh CX0 P w K mg base N qual (Zah st) f cdv A outer s H E).nox (Zcd st) t/\t { nx:=λ_ H'=>Q .non H',rt:=Q } (start N vs) H):FnOk P w K mg base CX0 (k+1) f fd ps sp:=by
 refine Zqq F.ex λoc od kV doc pm an cdv ct osl e9171 lk hcd=>?_;obtain rfl:=e9171;refine fn_of lk hcd S len λA outer s H vs Q E hr hsp=>?_;refine Zad (hbody cdv A outer s H vs Q E hr hsp) λt h q=>?_;exact⟨t,h.nox,q⟩
theorem Fun.binds {x qual:Str}{st:Stmt}{f:Addr}{fd:FuncData}{ps:List Str}(F:Fun K x qual st f fd)(h:∀ (kV doc pm:Value) (an:Option Addr) (cdv ct:Value) (us:List Value),us.length=ps.length->bindArgs (PySem.W.fnOf x qual (Zcu st) (Zcd st) (Zah st) .none kV doc pm an cdv ct) ⟨us,[]⟩=pure (ps.zip us)):Binds K fd ps []:=by
 refine Zqq F.ex λoc od kV doc pm an cdv ct osl e9172 lk hcd=>?_;obtain rfl:=e9172;exact .all (h kV doc pm an cdv ct)
theorem fun_mk {x qual:Str}{st:Stmt}{f:Addr}{oc:Value}{od an:Option Addr}{osl:Array (Option Value)}{kV doc pm cdv ct:Value}(l:K.lookup f=some ⟨oc,od,.func (PySem.W.fnOf x qual (Zcu st) (Zcd st) (Zah st) .none kV doc pm an cdv ct),osl⟩)(c:PySem.W.codeIn K cdv qual=true)(k:PySem.W.keepIn K (.ref f)=true):Fun K x qual st f (PySem.W.fnOf x qual (Zcu st) (Zcd st) (Zah st) .none kV doc pm an cdv ct):=⟨⟨oc,od,kV,doc,pm,an,cdv,ct,osl,rfl,l,c⟩,k⟩
end
theorem Zap {n:Nat}(h:n<=1000):n<sizeLine:=Jbh h ⇑0
section
variable {X:Cx}
theorem pv (i:Nat){x:Str}{pos:Pos}(hN:X.N[i]?=some x:=by rfl)(hv:Vis X.env.scope x:=by first|exact Or.inl rfl|exact Or.inr (Or.inl rfl)|exact Or.inr (Or.inr rfl))(hd:(x == ("__debug__" : Str))=false:=by decide)(hcd:(x == ("__classdict__" : Str))=false:=by decide):PE X (.Name x pos) (Zhn i):=pe_var hN hv hd hcd
end
theorem iteF {A B:Prop}(h:B):if false=true then A else B:=by
 rw[if_neg Jax];exact h
theorem iteT {A B:Prop}(h:A):if true=true then A else B:=by
 rw[if_pos rfl];exact h
theorem Zce {c A B:Prop}[Decidable c](h1:c->A)(h2:¬ c->B):if c then A else B:=by
 by_cases h:c
 .rw [if_pos h];exact h1 h
 .rw [if_neg h];exact h2 h
def Same (H H':Hp):Prop:=∀ b o,H b=some o->H' b=some o
theorem Same.refl (H:Hp):Same H H:=λ_ _ h=>h
theorem Same.trans {H H1 H2:Hp}(a:Same H H1)(b:Same H1 H2):Same H H2:=λc o h=>b c o (a c o h)
theorem Same.free {H H':Hp}(e:Same H H'){l:Addr}(h:H' l=Option.none):H l=Option.none:=by
 cases q:H l with
 | none=>rfl
 | some o=>
  rw[e l o q] at h;cases h
theorem Same.seq {K:Frag}{H H':Hp}{a:Addr}{xs:List V}(e:Same H H')(h:SqL K H a xs):SqL K H' a xs:=by
 rcases h with (h|⟨o,h⟩)|h
 .exact .inl (.inl (e _ _ h))
 .exact .inl (.inr ⟨o,e _ _ h⟩)
 .exact .inr h
theorem Zwl {x:Str}{c:Addr}:∀ (names:List (Str×NameKind)) (n:Nat) (acc:List (Str×Addr)),(cellsFrom n names acc).lookup x=some c->n<=c\/acc.lookup x=some c
 | [],_,_,h=>.inr h
 | (y,k)::r,n,acc,h=>by
  unfold cellsFrom at h;split at h
  .rcases Zwl r (n+1) _ h with z|z
   .exact .inl (Jcx z)
   .rw [Jba] at z;cases e:x == y with
    | true=>rw[e] at z;cases z;exact .inl (Jai _)
    | false=>rw[e] at z;exact .inr z
  .exact Zwl r n acc h
theorem Zts {x:Str}{c:Addr}:∀ (names:List (Str×NameKind)) (n:Nat) (acc:List (Str×Addr)),(x,NameKind.cell)∈names->(cellsFrom n names acc).lookup x=some c->n<=c
 | [],_,_,m,_=>nomatch m
 | (y,k)::r,n,acc,m,h=>by
  unfold cellsFrom at h;split at h
  .by_cases m':(x,NameKind.cell)∈r
   .exact Jcx (Zts r (n+1) _ m' h)
   .have e:(x,NameKind.cell)=(y,k):=(Jbq.mp m).resolve_right m';cases e;rcases Zwl r (n+1) _ h with z|z
    .exact Jcx z
    .rw [Jba,beq_self_eq_true] at z;cases z;exact Jai _
  .rename_i hk
   have m':(x,NameKind.cell)∈r:=by
    rcases Jbq.mp m with e|m'
    .cases e;exact absurd rfl hk
    .exact m'
   exact Zts r n acc m' h
theorem Ztt {x:Str}:∀ {names:List (Str×NameKind)} {n:Nat} {acc:List (Str×Addr)},(x,NameKind.cell)∉names->(cellsFrom n names acc).lookup x=acc.lookup x
 | [],_,_,_=>rfl
 | (y,k)::r,n,acc,h=>by
  unfold cellsFrom;have hr:(x,NameKind.cell)∉r:=λm=>h (Jbw _ m);split
  .rename_i hk
   have hy:(x == y)=false:=by
    cases e:x == y with
    | false=>rfl
    | true=>
     exfalso;refine h ?_;rw[Jbv.mp e,Jbv.mp hk];exact Jcg
   rw[Ztt hr,Jba,hy]
  .exact Ztt hr
theorem Ztu:∀ (names:List (Str×NameKind)) (n:Nat) (acc:List (Str×Addr)),(∀ x c,acc.lookup x=some c->c<n)->(∀ x y c,acc.lookup x=some c->acc.lookup y=some c->x=y)->
  ∀ x y c,(cellsFrom n names acc).lookup x=some c->(cellsFrom n names acc).lookup y=some c->x=y
 | [],_,_,_,hi=>hi
 | (z,k)::r,n,acc,hl,hi=>by
  unfold cellsFrom;split
  .refine Ztu r (n+1) _ (λx c h=>?_) (λx y c h1 h2=>?_)
   .rw [Jba] at h;cases e:x == z with
    | true=>rw[e] at h;cases h;exact Jel _
    | false=>rw[e] at h;exact Jcy (hl x c h)
   .rw [Jba] at h1 h2;cases e1:x == z with
    | true=>
     rw[e1] at h1;cases h1;cases e2:y == z with
     | true=>rw[Jbv.mp e1,Jbv.mp e2]
     | false=>rw[e2] at h2;exact absurd (hl y _ h2) (Jbp _)
    | false=>
     rw[e1] at h1;cases e2:y == z with
     | true=>rw[e2] at h2;cases h2;exact absurd (hl x _ h1) (Jbp _)
     | false=>rw[e2] at h2;exact hi x y c h1 h2
  .exact Ztu r n acc hl hi
theorem Zod {x:Str}{c:Addr}:∀ (names:List (Str×NameKind)) (h:Heap) (acc:List (Str×Addr)),(cellsFrom h.objs.size names acc).lookup x=some c->(pushCells h names).IsCell c none\/acc.lookup x=some c
 | [],_,_,z=>.inr z
 | (y,k)::r,h,acc,z=>by
  unfold cellsFrom at z;unfold pushCells;split at z
  .rename_i hk
   rw[if_pos hk];have z':(cellsFrom (h.push { cls:=.type "cell",data:=.cell none }).objs.size r ((y,h.objs.size)::acc)).lookup x=some c:=by rw[Jc7];exact z
   rcases Zod r _ _ z' with q|q
   .exact .inl q
   .rw [Jba] at q;cases e:x == y with
    | true=>
     rw[e] at q;cases q;exact .inl ⟨_,pushCells_keeps _ _ _ _ (Ja4 _ rfl),rfl⟩
    | false=>rw[e] at q;exact .inr q
  .rename_i hk
   rw[if_neg hk];exact Zod r h acc z
theorem Zoc {env:Env}(f:Str×NameKind->List (Str×Addr)->Sem (ForInStep (List (Str×Addr))))(hf:∀ name kind cs,f (name,kind) cs=if kind == .free then (do let a <- cellOf env name;pure (.yield ((name,a)::cs))) else pure (.yield cs)):
  ∀ (names:List (Str×NameKind)) (acc:List (Str×Addr)),(∀ y∈names,y.2=.free->∃ c,env.cells.lookup y.1=some c)->(∀ x c,acc.lookup x=some c->env.cells.lookup x=some c)->
  ∃ cl,forIn names acc f=pure cl/\(∀ x c,cl.lookup x=some c->env.cells.lookup x=some c)/\(∀ y∈names,y.2=.free->∃ c,cl.lookup y.1=some c)/\∀ x c,acc.lookup x=some c->∃ c',cl.lookup x=some c'
 | [],acc,_,ha=>⟨acc,rfl,ha,(λ_ m=>nomatch m),λx c e=>⟨c,e⟩⟩
 | (y,k)::r,acc,h,ha=>by
  rw[List.forIn_cons,hf];have hr:∀ y∈r,y.2=NameKind.free->∃ c,env.cells.lookup y.1=some c:=λz m=>h z (Jbw _ m);by_cases hk:(k == NameKind.free)=true
  .obtain ⟨c,hc⟩:=h (y,k) Jcg (Jbv.mp hk);have e:cellOf env y=pure c:=by unfold cellOf;rw[hc]
   rw[if_pos hk,e,pure_bind,pure_bind];have ha':∀ x d,((y,c)::acc).lookup x=some d->env.cells.lookup x=some d:=λx d e=>by
    rw[Jba] at e;cases e1:x == y with
    | true=>rw[e1] at e;cases e;rw[Jbv.mp e1];exact hc
    | false=>rw[e1] at e;exact ha x d e
   refine Zit (Zoc f hf r ((y,c)::acc) hr ha') λcl q1 q2 q3 q4=>?_;refine⟨cl,q1,q2,λz m hz=>?_,λx d e=>?_⟩
   .rcases Jbq.mp m with e|m
    .subst e;exact q4 y c (by rw[Jba,beq_self_eq_true])
    .exact q3 z m hz
   .by_cases e1:(x == y)=true
    .exact q4 x c (by rw[Jba,e1])
    .exact q4 x d (by rw[Jba];simp only[e1];exact e)
  .rw [if_neg hk,pure_bind];refine Zit (Zoc f hf r acc hr ha) λcl q1 q2 q3 q4=>?_;refine⟨cl,q1,q2,λz m hz=>?_,q4⟩;rcases Jbq.mp m with e|m
   .subst e;exact absurd (Jbv.mpr hz) hk
   .exact q3 z m hz
theorem Zob {scope:Scope}{env:Env}(h:∀ y∈scope.names,y.2=.free->∃ c,env.cells.lookup y.1=some c):
  ∃ cl,closureFor scope env=pure cl/\(∀ x c,cl.lookup x=some c->env.cells.lookup x=some c)/\∀ y∈scope.names,y.2=.free->∃ c,cl.lookup y.1=some c:=by
 obtain⟨cl,q1,q2,q3,_⟩:=Zoc (env:=env) (λx cs=>if x.2 == .free then (do let a <- cellOf env x.1;pure (.yield ((x.1,a)::cs))) else pure (.yield cs)) (λ_ _ _=>rfl) scope.names [] h (λ_ _ e=>nomatch e);refine⟨cl,?_,q2,q3⟩;unfold closureFor;have e:(λ(x:Str×NameKind) (r:List (Str×Addr))=>(match x with
   | (name,kind)=>if (kind == NameKind.free)=true then (do let __do_lift <- cellOf env name;pure (ForInStep.yield ((name,__do_lift)::r))) else pure (ForInStep.yield r):Sem (ForInStep (List (Str×Addr))))) =
   λx cs=>if x.2 == .free then (do let a <- cellOf env x.1;pure (.yield ((x.1,a)::cs))) else pure (.yield cs):=by
  funext x cs
  rfl
 have q:(forIn scope.names ([]:List (Str×Addr)) λ(x:Str×NameKind) (r:List (Str×Addr))=>(match x with
   | (name,kind)=>if (kind == NameKind.free)=true then (do let __do_lift <- cellOf env name;pure (ForInStep.yield ((name,__do_lift)::r))) else pure (ForInStep.yield r):Sem (ForInStep (List (Str×Addr)))))=pure cl:=by
  rw[e];exact q1
 simpa using q
theorem Zmh {M:Model}{A:Around}{E:Value->Shared->Prop}{s:Shared}{scope:Scope}{globals:Addr}{cl:List (Str×Addr)}{qual:Str}{env:Env}{Q:Env->Shared->Prop}(hQ:∀ h',h'.Ns s.heap.objs.size (λ_=>none)->(∀ b o,s.heap.get? b=some o->h'.get? b=some o)->
   (∀ x c,(cellsFrom (s.heap.objs.size+1) scope.names cl).lookup x=some c->h'.IsCell c none\/cl.lookup x=some c)->
   Q { scope,locals:=s.heap.objs.size,globals,cells:=cellsFrom (s.heap.objs.size+1) scope.names cl,qual,func:=none,code:=env.code,frame:=env.frame,builtins:=env.builtins } { s with heap:=h' }):
  wpAny M A (newFunctionEnv scope globals cl [] qual none .none (some env)) Q E s:=by
 simp only[newFunctionEnv,Option.isSome_some,Jc1];refine Jag (wpAny_alloc ?_);refine Jag (wpAny_layCells _ (λname kind cells=>by cases hkc:kind == NameKind.cell <;> simp[hkc]) _ _ _ _ ?_);have hsz:(s.heap.push { cls:=.type "dict",data:=.dict #[] }).objs.size=s.heap.objs.size+1:=Jc7 ..;have q:=hQ (pushCells (s.heap.push { cls:=.type "dict",data:=.dict #[] }) scope.names) ((Heap.Ns.new s.heap (.type "dict")).keeps (pushCells_keeps _ _)) (λb o e=>pushCells_keeps _ _ b o (Jak _ e))
  (λx c e=>Zod scope.names (s.heap.push { cls:=.type "dict",data:=.dict #[] }) cl (by rw[hsz];exact e))
 show wpAny _ _ _ _ _ _;rw[show ({ s with heap:=s.heap.push { cls:=.type "dict",data:=.dict #[] } }:Shared).heap.objs.size=s.heap.objs.size+1 from hsz];exact Jag (Ja0 (Ja0 q))
theorem Zh1 {env:Env}{x:Str}:∀ {names:List (Str×NameKind)},names.lookup x=some .free->
  (names.map λ(n,k)=>if (k == NameKind.free && env.scope.kind == .function && env.kindOf n == some .cell) then (n,NameKind.cell) else (n,k)).lookup x=some .cell \/
  (names.map λ(n,k)=>if (k == NameKind.free && env.scope.kind == .function && env.kindOf n == some .cell) then (n,NameKind.cell) else (n,k)).lookup x=some .free
 | [],h=>by simp at h
 | (n,k)::r,h=>by
  have ih:=@Zh1 env x r;show List.lookup x ((if (k == NameKind.free && env.scope.kind == .function && env.kindOf n == some .cell)=true then (n,NameKind.cell) else (n,k))::_)=_\/List.lookup x ((if (k == NameKind.free && env.scope.kind == .function && env.kindOf n == some .cell)=true then (n,NameKind.cell) else (n,k))::_)=_;cases hx:x == n with
  | true=>
   simp only[Jba,hx] at h;cases h;split <;> simp[Jba,hx]
  | false=>
   simp only[Jba,hx] at h;split <;> (simp only[Jba,hx];exact ih h)
theorem Zfc {env:Env}{x:Str}{kd:NameKind}:∀ {names:List (Str×NameKind)},
  (names.map λ(n,k)=>if (k == NameKind.free && env.scope.kind == .function && env.kindOf n == some .cell) then (n,NameKind.cell) else (n,k)).lookup x=some kd->
  names.lookup x=some kd\/names.lookup x=some .free
 | [],h=>by simp at h
 | (n,k)::r,h=>by
  have ih:=@Zfc env x kd r;have h':List.lookup x ((if (k == NameKind.free && env.scope.kind == .function && env.kindOf n == some .cell)=true then (n,NameKind.cell) else (n,k))::(r.map λ(n,k)=>if (k == NameKind.free && env.scope.kind == .function && env.kindOf n == some .cell) then (n,NameKind.cell) else (n,k)))=some kd:=h;cases hx:x == n with
  | true=>
   by_cases hc:(k == NameKind.free && env.scope.kind == .function && env.kindOf n == some .cell)=true
   .have hk:k=.free:=by
     have:=(Jcm _ _ ▸ (Jcm _ _ ▸ hc).1).1;exact Jbv.mp this
    subst hk;exact .inr (by simp[Jba,hx])
   .rw [if_neg hc] at h';simp only[Jba,hx] at h';cases h';exact .inl (by simp[Jba,hx])
  | false=>
   have h2:List.lookup x (r.map λ(n,k)=>if (k == NameKind.free && env.scope.kind == .function && env.kindOf n == some .cell) then (n,NameKind.cell) else (n,k))=some kd:=by
    split at h' <;> simpa only [Jba,hx] using h'
   rcases ih h2 with z|z
   .exact .inl (by simp only[Jba,hx];exact z)
   .exact .inr (by simp only[Jba,hx];exact z)
def Zln (X:Cx)(N:List Str)(scope:Scope)(cl:List (Str×Addr))(s:Shared)(H:Hp)(fp:List Addr):Cx where
 prog:=X.prog
 w:=X.w
 K:=X.K
 mg:=X.mg
 base:=X.base
 A:=X.A
 N:=N
 s₀:=s
 H₀:=H
 env:={ scope:=relabel scope X.env,locals:=s.heap.objs.size,globals:=X.env.globals,cells:=cellsFrom (s.heap.objs.size+1) scope.names cl,qual:=X.env.qual,func:=none,code:=X.env.code,frame:=X.env.frame,builtins:=X.env.builtins }
 outer:=X.stack
 stack:=X.stack
 ex:=fp
 fn:=λx=>scope.names.lookup x == some .cell
 calm:=X.calm
 pn:=[]
 xe:=λ_ _=>False
structure BlScope (X:Cx)(scope:Scope)(own:List Str)(fr:List (Str×Nat)):Prop where
 kind:scope.kind=.function
 free:∀ y∈scope.names,y.2=.free->X.env.scope.names.lookup y.1=some .cell\/X.env.scope.names.lookup y.1=some .free
 loc:∀ y∈scope.names,y.2=.local->scope.names.lookup y.1=some .local
 look:∀ y∈scope.names,scope.names.lookup y.1=some y.2
 cap:∀ y∈fr,scope.names.lookup y.1=some .free/\X.N[y.2]?=some y.1
def Zg7 (k:Nat)(fr:List (Str×Nat))(σ:St):St:=List.replicate k none++fr.map λy=>(σ[y.2]?).getD none
def Zj5 (own:List Str)(fr:List (Str×Nat)):List Str:=own++fr.map (·.1)
section
variable {X:Cx}{pins:List (Addr×Obj)}{σ:St}{H:Hp}{s:Shared}
theorem Zs6 {scope:Scope}{own:List Str}{fr:List (Str×Nat)}{cl:List (Str×Addr)}{fp:List Addr}{h':Heap}(I:Inv X pins σ H s)(B:BlScope X scope own fr)(hcl:∀ x c,cl.lookup x=some c->X.env.cells.lookup x=some c)(hcl2:∀ y∈scope.names,y.2=.free->∃ c,cl.lookup y.1=some c)(hfp:∀ b∈fp,FpOk X pins H b)(hfo:∀ b∈fp,∃ o,s.heap.get? b=some o)(hn:h'.Ns s.heap.objs.size (λ_=>none))(hk:∀ b o,s.heap.get? b=some o->h'.get? b=some o)(hc:∀ x c,(cellsFrom (s.heap.objs.size+1) scope.names cl).lookup x=some c->h'.IsCell c none\/cl.lookup x=some c):
  Inv (Zln X (Zj5 own fr) scope cl s H fp) [] (Zg7 own.length fr σ) H { s with heap:=h' }:=by
 have clt:∀ x c,cl.lookup x=some c->c<s.heap.objs.size:=λx c e=>by
  obtain⟨v,z⟩:=I.cell x c (hcl x c e);exact z.lt
 have ownC:∀ x c,(cellsFrom (s.heap.objs.size+1) scope.names cl).lookup x=some c->s.heap.objs.size+1<=c\/cl.lookup x=some c:=λx c e=>Zwl _ _ _ e;have bsz:X.base.objs.size<=s.heap.objs.size:=Ja3 I.ok.bsz I.sz;refine⟨⟨I.ok.mod,B.kind,I.ok.glob,I.ok.blt,Jai _,?_,?_,?_,I.ok.hd,I.ok.frames,.inl rfl,?_,I.bs,bsz,?_,?_,I.stack,I.stkFree,I.ok.top⟩,rfl,I.bare,Un.kept hk,⟨_,hn,?_⟩,?_,I.hok.fresh (Jai _),?_,?_,I.hok.kept hk,?_⟩
 .exact Ztu _ _ _ (λx c e=>Jcy (clt x c e)) λx y c e1 e2=>I.ok.inj x y c (hcl x c e1) (hcl y c e2)
 .intro x hx;have hx:(relabel scope X.env).names.lookup x=some .cell\/(relabel scope X.env).names.lookup x=some .free:=hx;have q:scope.names.lookup x=some .cell\/scope.names.lookup x=some .free:=by
   rcases hx with z|z
   .exact Zfc z
   .exact (Zfc z).elim .inr .inr
  refine Jd3.mp (Jdk scope.names _ _ ?_);rcases q with z|z
  .exact .inl z
  .obtain ⟨c,e⟩:=hcl2 _ (Jbk z) rfl;exact .inr (by rw[e];rfl)
 .intro x c hf e;have hf:(scope.names.lookup x == some .cell)=true:=hf;exact Jcx (Zts _ _ _ (Jbk (Jbv.mp hf)) e)
 .intro b hb;obtain⟨o,ho⟩:=hfo b hb;refine⟨Ja9 (Jam ho),λx c e=>?_⟩;rcases ownC x c e with z|z
  .intro q;subst q;exact absurd (Jaw (Jam ho) (Jcx z)) (Jbp _)
  .exact (hfp b hb).2.2.2.2.1 x c (hcl x c z)
 .intro b o e hb;rcases (hfp b hb).2.2.2.1 with z|z
  .exact I.ok.noex b o e z
  .exact absurd (Jaw (Jam e) (Ja3 I.ok.bsz z)) (Jbp _)
 .intro b hb z;rcases Jbq.mp (I.stkSub b z) with q|q
  .exact (hfp b hb).2.1 q
  .exact (hfp b hb).2.2.1 q
 .intro i x v h1 h2 h3;have h1:(Zj5 own fr)[i]?=some x:=h1;unfold Zj5 at h1;unfold Zg7 at h2;by_cases hi:i<own.length
  .rw [Jay (by rw[Jbd];exact hi),Jb1,if_pos hi] at h2;cases h2
  .have hi':own.length<=i:=Nat.le_of_not_lt hi;rw[Jav hi',Jad] at h1;rw[Jav (by rw[Jbd];exact hi'),Jbd,Jad] at h2;cases e:fr[i-own.length]? with
   | none=>rw[e] at h1;cases h1
   | some y=>
    rw[e] at h1 h2;have hy1:y.1=x:=Jbi h1;have hy2:(σ[y.2]?).getD none=some v:=Jbi h2;obtain⟨c1,c2⟩:=B.cap y (Jae e);rw[hy1] at c1 c2;have hs:σ[y.2]?=some (some v):=by
     cases e2:σ[y.2]? with
     | none=>rw[e2] at hy2;cases hy2
     | some o=>rw[e2] at hy2;cases o with
      | none=>cases hy2
      | some w=>cases hy2;rfl
    refine Zad I.loc λm hm hl=>?_;have hfree:=B.free _ (Jbk c1) rfl;refine Zad (hl y.2 x v c2 hs (hfree.elim (λz=>.inr (.inl z)) λz=>.inr (.inr z))) λu r l=>?_;refine⟨u,r,?_⟩;obtain⟨k,c,e3,z⟩:(X.env.kindOf x=some .cell\/X.env.kindOf x=some .free)/\∃ c,X.env.cells.lookup x=some c/\s.heap.IsCell c (some u):=by
     rcases l with ⟨k,_⟩|q
     .have k:X.env.scope.names.lookup x=some .local:=k;rcases hfree with z|z <;> (rw[z] at k;cases k)
     .exact q
    obtain⟨d,hd⟩:=hcl2 _ (Jbk c1) rfl;have hd':=hcl x d hd;rw[e3] at hd';cases hd';obtain⟨c',hc'⟩:∃ c',(cellsFrom (s.heap.objs.size+1) scope.names cl).lookup x=some c':=Jd3.mp (Jdk scope.names _ _ (.inr (by rw[hd];rfl)));have hcc:c'=c:=by
     rcases ownC x c' hc' with q|q
     .-- an own cell of that name: it is free,so no
      exfalso;have:(x,NameKind.cell)∉scope.names:=λm=>by
       have:=B.look _ m;rw[c1] at this;cases this
      exact absurd hc' (by
       rw[Ztt this];intro z;rw[hd] at z;cases z;exact absurd (clt x _ hd) (Nat.not_lt.mpr (Jcx q)))
     .rw [hd] at q;cases q;rfl
    subst hcc;refine .inr ⟨?_,c',hc',z.keeps hk⟩;exact Zh1 c1
 .intro x c e;rcases hc x c e with z|z
  .exact ⟨_,z⟩
  .obtain ⟨v,q⟩:=I.cell x c (hcl x c z);exact⟨v,q.keeps hk⟩
 .intro x c e;rcases ownC x c e with z|z
  .exact I.hok.fresh (Jcx z)
  .exact I.freeC x c (hcl x c z)
 .intro p hp;exact absurd (show p∈([]:List (Addr×Obj)) from hp) (by simp)
 .show (Zg7 _ _ _).length=(Zj5 _ _).length;unfold Zg7 Zj5;simp
end
def PTs (X:Cx)(ifs:List Expr)(t:TT):Prop:=
 ∀ (pins:List (Addr×Obj)) (s:Shared) (σ:St) (H:Hp) (Q:Bool->Hp->Prop),Inv X pins σ H s->t σ H Q->
  wpAny (model X.prog X.w) X.A (forIn ifs true λc r=>if r=true then do let ok <- isTrue c X.env (eval c X.env);pure (ForInStep.yield ok) else pure (ForInStep.yield r)) (TP X pins σ Q) X.xe s
def Zfr:TT:=λ_ H Q=>Q true H
theorem Zau {X:Cx}:PTs X [] Zfr:=λpins s σ H Q I h=>wpAny_tests_nil ⟨H,I,h⟩
theorem pts_one {X:Cx}{c:Expr}{t:TT}(hc:PT X c t):PTs X [c] t:=λpins s σ H Q I h=>wpAny_tests_one (hc pins s σ H Q I h)
section
variable {prog:Program}{w:World}{A:Around}{R:Result->Shared->Prop}{s:Shared}
theorem Zmx {elt target iter:Expr}{ifs:List Expr}{scope:Scope}{pos:Pos}{it acc:Value}{env:Env}(I:Nat->Shared->Prop)(turn:∀ n s,I n s->wpAny (model prog w) A (pyNext it) (λr s₁=>match r with
   | none=>R (.ok .next) s₁
   | some v=>wpAny (model prog w) A (letOwnedTupleGo target it v) (λ_ s₁=>wpAny (model prog w) A (assign target env v) (λ_ s₂=>
     wpAny (model prog w) A (forIn ifs true λc r=>if r=true then do let ok <- isTrue c env (eval c env);pure (ForInStep.yield ok) else pure (ForInStep.yield r)) (λok s₃=>
      if ok=true then wpAny (model prog w) A (eval elt env) (λx s₄=>
       wpAny (model prog w) A (call (.builtin "list.append") [acc,x]) (λ_ s₅=>∃ m,m<n/\I m s₅) (λ_ _=>False) s₄) (λ_ _=>False) s₃
      else ∃ m,m<n/\I m s₃) (λ_ _=>False) s₂) (λ_ _=>False) s₁) (λ_ _=>False) s₁) (λ_ _=>False) s)(n:Nat)(h:I n s):
  codeAny (model prog w) A (.compLoop (.ListComp elt [⟨target,iter,ifs,0⟩] scope pos) 0 it acc env) R s:=by
 refine codeAny_loop rfl I (λn s hI=>?_) n h;show wpAny _ A ((compTurn (.ListComp elt [⟨target,iter,ifs,0⟩] scope pos) 0 it acc env).onRaise (λx=>do noteFrame x env;theTreesLotGoes x)) _ _ s;refine wpAny_noted ?_;rw[compTurn_list];refine Jag (Jeo (Jag (Jc4 (turn n s hI) (λr s₁ h₁=>?_) λ_ _ h'=>h'.elim)));cases r with
 | none=>exact Ja0 h₁
 | some v=>
  refine Jag (Jc4 h₁ (λ_ s₁' h₁'=>?_) λ_ _ h'=>h'.elim);refine Jag (Jc4 h₁' (λ_ s₂ h₂=>Jag (Jc4 h₂ (λok s₃ h₃=>?_) λ_ _ h'=>h'.elim)) λ_ _ h'=>h'.elim);cases ok with
  | false=>exact Ja0 ⟨rfl,h₃⟩
  | true=>
   exact Jag (Jag (Jc4 h₃ (λx s₄ h₄=>Jag (Jc4 h₄ (λ_ s₅ h₅=>Ja0 (Ja0 ⟨rfl,h₅⟩)) λ_ _ h'=>h'.elim)) λ_ _ h'=>h'.elim))
end
def Zb6 (g:TG)(tt:TT)(te:TE)(J:It)(D:Addr)(σ0:St)(H1:Hp)(Q:VK):Prop:=
 ∃ W:Nat->Nat->St->Hp->Prop,(∃ m,W 0 m σ0 (upd H1 D (.lst [])))/\∀ i m σ' H2,W i m σ' H2->
  (J.stop i H2/\Q (.ref D) H2)\/(J.go i H2/\∀ x H3,J.yld i H2 x H3->g x σ' H3 λσ4 H4=>tt σ4 H4 λb H5=>
   if b=true then te σ4 H5 λy H6=>∃ vs,H6 D=some (.lst vs)/\vs.length<sizeLine/\∃ m',m'<m/\W (i+1) m' σ4 (upd H6 D (.lst (vs++[y])))
   else ∃ m',m'<m/\W (i+1) m' σ4 H5)
def tComp (k:Nat)(fr:List (Str×Nat))(wi:TI)(g:TG)(tt:TT)(te:TE):TE:=λσ H Q=>wi σ H λJ H1=>∀ D,H1 D=none->Zb6 g tt te J D (Zg7 k fr σ) H1 Q
section
variable {X:Cx}{tg iter elt:Expr}{ifs:List Expr}{scope:Scope}{pos:Pos}{own:List Str}{fr:List (Str×Nat)}{wi:TI}{g:TG}{tt:TT}{te:TE}
theorem Zpq {pins:List (Addr×Obj)}{s2:Shared}{σ:St}{H2:Hp}{it:Addr}{fp:List Addr}{tn:Nat->Heap->Prop}{J:It}{Q:VK}{cl:List (Str×Addr)}{RR:Value->Addr->Result->Shared->Prop}{E:Value->Shared->Prop}(hc:X.calm=true)(B:BlScope X scope own fr)(hb:∀ cl s H fp,PG (Zln X (Zj5 own fr) scope cl s H fp) tg g/\PTs (Zln X (Zj5 own fr) scope cl s H fp) ifs tt/\PE (Zln X (Zj5 own fr) scope cl s H fp) elt te)(hcl:∀ x c,cl.lookup x=some c->X.env.cells.lookup x=some c)(hcl2:∀ y∈scope.names,y.2=.free->∃ c,cl.lookup y.1=some c)(I2:Inv X pins σ H2 s2)(T:Turn X.prog X.w X.K tg J fp it tn)(st2:tn 0 s2.heap)(f2:∀ b∈fp,FpOk X pins H2 b)(q:∀ D,H2 D=none->Zb6 g tt te J D (Zg7 own.length fr σ) H2 Q)(hRR:∀ D C s' H',Inv X pins σ H' s'->Q (.ref D) H'->(∃ m,s'.heap.Ns C m)->C≠X.env.locals->(∀ x c,X.env.cells.lookup x=some c->c≠C)->(∀ p∈X.pn++pins,p.1≠C)->X.s₀.heap.objs.size<=C->H' C=none->RR (.ref D) C (.ok .next) s'):
  wpAny (model X.prog X.w) X.A (newList []) (λacc s₃=>wpAny (model X.prog X.w) X.A (newFunctionEnv scope X.env.globals cl [] X.env.qual none .none (some X.env)) (λcenv s₄=>
   codeAny (model X.prog X.w) X.A (.compStart (.ListComp elt [⟨tg,iter,ifs,0⟩] scope pos) 0 (.ref it) acc { cenv with scope:=relabel scope X.env }) (RR acc cenv.locals) s₄) E s₃) E s2:=by
 refine wpAny_newObj_type ?_;have fr0:H2 s2.heap.objs.size=none:=I2.hok.fresh (Jai _);have I3:=I2.lnew (its:=[]) (ys:=[]) (t':=s2.toks) .nil (Jb9 _);generalize hs3:({ s2 with heap:=s2.heap.push { cls:=.type "list",data:=.seq ([]:List Value).toArray } }:Shared)=s3 at *;have k23:∀ b o,s2.heap.get? b=some o->s3.heap.get? b=some o:=λb o e=>by rw[<- hs3];exact Jak _ e
 have sz3:s3.heap.objs.size=s2.heap.objs.size+1:=by rw[<- hs3];exact Jc7 ..
 have I3':Inv X pins σ (upd H2 s2.heap.objs.size (.lst [])) s3:=I3;have fne:∀ b∈fp,b≠s2.heap.objs.size:=λb hb z=>by
  refine Zad (T.obj 0 _ st2 b hb) λo ho _=>?_;exact absurd (Jam ho) (by rw[z];exact Jbp _)
 have f3:∀ b∈fp,FpOk X pins (upd H2 s2.heap.objs.size (.lst [])) b:=λb hb=>⟨by rw[Zag (fne b hb)];exact (f2 b hb).1,(f2 b hb).2⟩
 have st3:tn 0 s3.heap:=T.keep 0 _ _ st2 λb _ o e=>k23 b o e;have hfo:∀ b∈fp,∃ o,s3.heap.get? b=some o:=λb hb=>let ⟨o,ho,_⟩:=T.obj 0 _ st3 b hb;⟨o,ho⟩;refine Zmh λh' hn hk hce=>?_;have I4:=Zs6 (own:=own) I3' B hcl hcl2 f3 hfo hn hk hce;refine Za2 (hb cl s3 (upd H2 s2.heap.objs.size (.lst [])) fp) λhg ht he=>?_;have st4:tn 0 h':=T.keep 0 _ _ st3 λb _ o e=>hk b o e;have stat:∀ {H':Hp},(∀ b∈fp,H' b=none)->∀ b∈fp,FpOk (Zln X (Zj5 own fr) scope cl s3 (upd H2 s2.heap.objs.size (.lst [])) fp) [] H' b:=λ{H'} hnn b hb=>
  ⟨hnn b hb,(I4.ok.exf b hb).1,I4.ok.exfs b hb,.inl hb,(I4.ok.exf b hb).2,λp hp=>absurd (show p∈([]:List (Addr×Obj)) from hp) (by simp)⟩
 refine Zad (q s2.heap.objs.size fr0) λW e92 turn=>?_;obtain⟨m0,w0⟩:=e92;have loop:codeAny (model X.prog X.w) X.A (.compLoop (.ListComp elt [⟨tg,iter,ifs,0⟩] scope pos) 0 (.ref it) (.ref s2.heap.objs.size) (Zln X (Zj5 own fr) scope cl s3 (upd H2 s2.heap.objs.size (.lst [])) fp).env)
   (RR (.ref s2.heap.objs.size) s3.heap.objs.size) { s3 with heap:=h' }:=by
  refine Zmx (λn s'=>∃ i σ' H',Inv (Zln X (Zj5 own fr) scope cl s3 (upd H2 s2.heap.objs.size (.lst [])) fp) [] σ' H' s'/\tn i s'.heap/\(∀ b∈fp,H' b=none)/\W i n σ' H') ?_ m0
   ⟨0,_,_,I4,st4,λb hb=>(f3 b hb).1,w0⟩
  intro n s5 e91;refine Zbu e91 λi σ5 H5 I5 st5 fr5 w5=>?_;clear e91;rcases turn i n σ5 H5 w5 with ⟨stop,qn⟩|⟨go,step⟩
  .refine thn (T.done (Zln X (Zj5 own fr) scope cl s3 (upd H2 s2.heap.objs.size (.lst [])) fp) rfl rfl rfl hc i [] s5 σ5 H5 _ I5 (stat fr5) st5 stop) λr s6 ⟨hr,I6⟩=>?_;subst hr;have I7:Inv X pins σ H5 s6:=I3'.call' (ch:=fp) I6.os I6.base I6.hok I6.bare λb hb=>⟨(f3 b hb).2.2.2.1,(f3 b hb).2.1,(f3 b hb).2.2.2.2.1,(f3 b hb).2.2.2.2.2⟩
   refine Zad I6.loc λm6 hn6 _=>?_;refine hRR _ _ s6 H5 I7 qn ⟨m6,hn6⟩ (Jb7 I3'.lt) (λx c e=>?_) (λp hp=>?_) I3'.sz I6.free
   .obtain ⟨v,z⟩:=I3'.cell x c e;exact Ja9 z.lt
   .exact Ja9 (Jam (I3'.pin p hp).1)
  .refine thn (T.item (Zln X (Zj5 own fr) scope cl s3 (upd H2 s2.heap.objs.size (.lst [])) fp) rfl rfl rfl hc i [] s5 σ5 H5 _ I5 (stat fr5) st5 go) λr s6 ⟨u,hr,h6⟩=>?_;subst hr;refine thn h6 λ_ s7 ⟨x,H7,I7,r7,y7,st7,fr7⟩=>?_;have I7':=I7.pinned (stat fr7) (T.obj _ _ st7);refine thn (hg _ s7 σ5 H7 x u _ I7' r7 (step x H7 y7)) λ_ s8 ⟨σ8,H8,I8,q8⟩=>?_;refine thn (ht _ s8 σ8 H8 _ I8 q8) λb s9 ⟨H9,I9,q9⟩=>?_;have again:∀ {sA:Shared} {σA:St} {HA:Hp} {m':Nat},Inv (Zln X (Zj5 own fr) scope cl s3 (upd H2 s2.heap.objs.size (.lst [])) fp) ([]++Zmc fp s7.heap) σA HA sA->m'<n->W (i+1) m' σA HA->
     ∃ m,m<n/\∃ i σ' H',Inv (Zln X (Zj5 own fr) scope cl s3 (upd H2 s2.heap.objs.size (.lst [])) fp) [] σ' H' sA/\tn i sA.heap/\(∀ b∈fp,H' b=none)/\W i m σ' H':=λ{sA σA HA m'} IA hm wA=>by
    refine⟨m',hm,i+1,σA,HA,IA.unpinned,T.keep _ _ _ st7 λb hb o e=>(IA.pin (b,o) (Jbj _ (Jbj _ (Zd9 hb e)))).1,λb hb=>?_,wA⟩;refine Zad (T.obj _ _ st7 b hb) λo e d=>?_;exact (IA.pin (b,o) (Jbj _ (Jbj _ (Zd9 hb e)))).2.1
   cases b with
   | false=>
    refine Zad q9 λm' hm w9=>?_;clear q9;exact again I9 hm w9
   | true=>
    have q9:te σ8 H9 _:=q9;show wpAny _ _ _ _ _ _;refine thn (he _ s9 σ8 H9 _ I9 q9) λy sA ⟨vy,HA,IA,rA,vs,hvs,hlen,m',hm,wA⟩=>?_;refine thn (Zbd (X:=Zln X (Zj5 own fr) scope cl s3 (upd H2 s2.heap.objs.size (.lst [])) fp) _ sA σ8 HA (.ref s2.heap.objs.size) [vy] (.ref s2.heap.objs.size) [y] (λ_ HB=>W (i+1) m' σ8 HB) IA rfl (.cons rA .nil) ⟨_,vs,vy,rfl,rfl,hvs,hlen,wA⟩) λ_ sB ⟨_,HB,IB,_,wB⟩=>?_;exact again IB hm wB
 exact codeAny_compStart_list loop (T.self _ 0 _ _ _ st4 loop)
theorem SameBut.get {a:Addr}{h h':Heap}(x:Heap.SameBut a h h'):∀ b o,b≠a->h.get? b=some o->h'.get? b=some o:=λb o n e=>(x.2 b n).trans e
theorem Zax (hc:X.calm=true)(B:BlScope X scope own fr)(hi:PI X tg iter wi)(hb:∀ cl s H fp,PG (Zln X (Zj5 own fr) scope cl s H fp) tg g/\PTs (Zln X (Zj5 own fr) scope cl s H fp) ifs tt/\PE (Zln X (Zj5 own fr) scope cl s H fp) elt te)(hs:∀ x,foldedSetIterable iter X.env x=pure x:=by intro _;rfl):
  PE X (.ListComp elt [⟨tg,iter,ifs,0⟩] scope pos) (tComp own.length fr wi g tt te):=by
 intro pins s σ H Q I h;refine Zav (Zob (scope:=scope) (env:=X.env) λy hy hf=>I.ok.has y.1 (B.free y hy hf)) λcl hclos hcl hcl2=>?_;rw[eval_ListComp];refine wpAny_comprehension_free (use:=none) rfl hs hclos B.kind B.loc (thn (hi pins s σ H _ I h) λv s1 h1=>thn h1 λitv s2 h2=>?_);refine Zf2 h2 λit fp tn J H2 e I2 T e93=>?_;clear h2;refine Za2 e93 λst2 f2 q=>?_;clear e93;subst e;refine Zpq (RR:=λacc C=>compPost (model X.prog X.w) X.A X.xe none (EP X pins σ Q) acc C) (Q:=Q) hc B hb hcl hcl2 I2 T st2 f2 q ?_;intro D C s' H' I' hq hn n1 n2 n3 n4 n5;obtain⟨m,hn⟩:=hn;refine⟨m,hn,λh' hs'=>⟨.ref D,H',I'.turned (it:=C) (t':=s'.toks) (λb o hb e=>SameBut.get hs' b o hb e) n5 (Jco (Jco n1)) (.inr n4) n2 n3,rfl,hq⟩⟩
theorem Zfd {i:Nat}{x:Str}{pos' spos:Pos}(hc:X.calm=true)(B:BlScope X scope own fr)(hi:PI X tg iter wi)(hb:∀ cl s H fp,PG (Zln X (Zj5 own fr) scope cl s H fp) tg g/\PTs (Zln X (Zj5 own fr) scope cl s H fp) ifs tt/\PE (Zln X (Zj5 own fr) scope cl s H fp) elt te)(hN:X.N.Nodup)(hix:X.N[i]?=some x)(hx:X.env.scope.names.lookup x=some .local)(hsw:swapsWith (.ListComp elt [⟨tg,iter,ifs,0⟩] scope pos) (some (.Name x pos')) spos.line X.env=pure true)(hs:∀ x,foldedSetIterable iter X.env x=pure x:=by intro _;rfl):
  PS X (.Assign [.Name x pos'] (.ListComp elt [⟨tg,iter,ifs,0⟩] scope pos) spos) (tAsg (tComp own.length fr wi g tt te) (Zbq i)):=by
 intro pins s σ H D I h;refine Zav (Zob (scope:=scope) (env:=X.env) λy hy hf=>I.ok.has y.1 (B.free y hy hf)) λcl hclos hcl hcl2=>?_;rw[exec_Assign_Name_used _ _ _ _ hsw];refine Jag (Jeo (Jag ?_));show wpAny _ _ (do let _ <- comprehension (.ListComp elt [⟨tg,iter,ifs,0⟩] scope pos) scope X.env _ (newList []) false (eval iter X.env) (some (assign (.Name x pos') X.env))) _ _ s;refine Jag (Jc4 (wpAny_comprehension_free (use:=some (assign (.Name x pos') X.env)) (Q:=λ_ s'=>SP X pins D .next s') rfl hs hclos B.kind B.loc (thn (hi pins s σ H _ I h) λv s1 h1=>thn h1 λitv s2 h2=>?_))
  (λ_ s' hq=>Ja0 (Ja0 hq)) λ_ _ e=>e)
 refine Zf2 h2 λit fp tn J H2 e I2 T e94=>?_;clear h2;refine Za2 e94 λst2 f2 q=>?_;clear e94;subst e;refine Zpq (RR:=λacc C=>compPost (model X.prog X.w) X.A X.xe (some (assign (.Name x pos') X.env)) (λ_ s'=>SP X pins D .next s') acc C) (Q:=λv H'=>Zbq i v σ H' D.nx) hc B hb hcl hcl2 I2 T st2 f2 q ?_;intro DD C s' H' I' hq hn n1 n2 n3 n4 n5;obtain⟨m,hn⟩:=hn;show wpAny _ _ (assign (.Name x pos') X.env (.ref DD)) _ _ s';refine wpAny_assign_Name (Zl0 I' hN hix (.inl hx) (v:=.ref DD) rfl (λs3 I3 ⟨a,hsa,ha⟩=>?_) (.inr hx));have hCa:C≠a:=by
  rcases ha with z|z
  .rw [z];exact n1
  .exact (n2 x a z).symm
 refine⟨m,hn.sameBut hsa hCa,λh' hs'=>⟨σ.set i (some (.ref DD)),H',I3.turned (it:=C) (t':=s3.toks) (λb o hb e=>SameBut.get hs' b o hb e) n5 n1 (.inr n4) n2 n3,hq⟩⟩
end
section
variable {X:Cx}
theorem Zbk:OpR X (binaryOp .Mult) (rI IntMulOk λi j=>.int (i*j)):=
 opI λi j t u s Q E c h=>PyProof.Rows.mul_int h c
def cV:V->Option Value
 | .ty n=>some (.type n)
 | .ref a=>some (.ref a)
 | _=>none
theorem Zbb:Zfq X (.builtin "isinstance") (λxs H Q=>∃ x y c t b,xs=[x,y]/\cV y=some c/\TyOf X.K H x t/\PySem.W.kitOne X.K t c=some b/\Q (.bl b) H):=by
 intro pins s σ H xs us Q I r h;refine Zf2 h λx y c t b e93 hc ty e94=>?_;clear h;obtain rfl:=e93;obtain⟨e,q⟩:=e94;refine Zbm (vals2 r) λu v e95 rx ry=>?_;obtain rfl:=e95;have hv:v=c:=by
  cases y <;> first|(cases hc;done)|(cases hc;cases ry;rfl)
 subst hv;exact Zs0 I rx ty e λtk=>⟨.bl b,H,I.tok _,rfl,q⟩
theorem Zdj (bs:List Bool):(List.range bs.length).all (λi=>(bs[i]?).getD true)=bs.all id:=by
 rw[Jc0,Jbn,Jbn];constructor
 .intro h b hb;obtain⟨i,hi,rfl⟩:=Jan.mp hb;have:=h i (Ja8.mpr hi);rw[Jaa hi] at this;exact this
 .intro h i hi;have hi:=Ja8.mp hi;rw[Jaa hi];exact h _ (Jap hi)
theorem Zt2 (bs:List Bool):(List.range bs.length).any (λi=>(bs[i]?).getD true)=bs.any id:=by
 rw[Jc0,Jem,Jem];constructor
 .intro e91;refine Zad e91 λi hi h=>?_;clear e91;have hi:=Ja8.mp hi;rw[Jaa hi] at h;exact⟨_,Jap hi,h⟩
 .intro e92;refine Zad e92 λb hb h=>?_;clear e92;obtain⟨i,hi,rfl⟩:=Jan.mp hb;exact⟨i,Ja8.mpr hi,by rw[Jaa hi];exact h⟩
theorem Zj0 {A:Around}{prog:Program}{w:World}{bs:List Bool}{its:List Value}(r:Vals (bs.map V.bl) its):TruthOf prog w A (λi v=>its.toArray[i]?=some v) (λi=>(bs[i]?).getD true):=by
 intro i v s Q E hP hQ;have hP:its[i]?=some v:=by simpa using hP
 have hl:=r.length;rw[Jab] at hl;have hi:i<bs.length:=by rw[hl];exact (Jaf.mp hP).1
 obtain⟨u,hu,rv⟩:=r.get (i:=i) (x:=.bl bs[i]) (by rw[Jad,Jaa hi];rfl);rw[hP] at hu;cases hu;cases rv;have hQ:Q ((bs[i]?).getD true) s:=hQ;rw[Jaa hi] at hQ;exact Jbx hQ
theorem Zdu (hc:X.calm=true):Zfq X (.builtin "all") (λxs H Q=>∃ (p:Addr) (bs:List Bool),xs=[.ref p]/\SqL X.K H p (bs.map V.bl)/\Q (.bl (bs.all id)) H):=by
 intro pins s σ H xs us Q I r h;refine Zbm h λp bs e96 hq q=>?_;clear h;obtain rfl:=e96;refine Zad (Zj7 r) λu e97 rx=>?_;obtain rfl:=e97;cases rx;refine Zav (I.list hq) λits rv pl hz=>?_;have hl:=rv.length;rw[Jab] at hl;refine call_all_walk (Jdt pl.isList ?_);have hne:p≠s.heap.objs.size:=λe=>by
  refine Zbh pl λo n ho _=>?_;clear pl;exact absurd (Jam ho) (by rw[e];exact Jbp _)
 refine Zpx s.heap.objs.size _ _ _ _ _ (λi=>(bs[i]?).getD true) ⟨rfl,Walks.list (A:=X.A.in1) (I.ok.hd hc) _ p hne its.toArray,⟨⟨_,Ja4 _ rfl,rfl,rfl⟩,pl.isList.at λo e=>Jak _ e⟩,Zj0 rv,λh' tk kp=>?_⟩;have e:(List.range its.toArray.size).all (λi=>(bs[i]?).getD true)=bs.all id:=by
  rw[Jaq,<- hl];exact Zdj bs
 rw[e];have f:=I.fpOk (H':=H) (Jai s.heap.objs.size) (I.hok.fresh (Jai _));exact Zat (.bl _) H ⟨(I.kept (h':=s.heap.push { cls:=.type "list_iterator",data:=.fields #[.ref p,.int 0 0] }) (t':=s.toks) λb o e=>Jak _ e).turned (it:=s.heap.objs.size) (t':=tk) (λb o hb e=>kp b o (by simpa using hb) e) f.1 f.2.1 f.2.2.2.1 f.2.2.2.2.1 f.2.2.2.2.2,rfl,q⟩
theorem Zwm (hc:X.calm=true):Zfq X (.builtin "any") (λxs H Q=>∃ (p:Addr) (bs:List Bool),xs=[.ref p]/\SqL X.K H p (bs.map V.bl)/\Q (.bl (bs.any id)) H):=by
 intro pins s σ H xs us Q I r h;refine Zbm h λp bs e98 hq q=>?_;clear h;obtain rfl:=e98;refine Zad (Zj7 r) λu e99 rx=>?_;obtain rfl:=e99;cases rx;refine Zav (I.list hq) λits rv pl hz=>?_;have hl:=rv.length;rw[Jab] at hl;refine call_any_walk (Jdt pl.isList ?_);have hne:p≠s.heap.objs.size:=λe=>by
  refine Zbh pl λo n ho _=>?_;clear pl;exact absurd (Jam ho) (by rw[e];exact Jbp _)
 refine Zpx s.heap.objs.size _ _ _ _ _ (λi=>(bs[i]?).getD true) ⟨rfl,Walks.list (A:=X.A.in1) (I.ok.hd hc) _ p hne its.toArray,⟨⟨_,Ja4 _ rfl,rfl,rfl⟩,pl.isList.at λo e=>Jak _ e⟩,Zj0 rv,λh' tk kp=>?_⟩;have e:(List.range its.toArray.size).any (λi=>(bs[i]?).getD true)=bs.any id:=by
  rw[Jaq,<- hl];exact Zt2 bs
 rw[e];have f:=I.fpOk (H':=H) (Jai s.heap.objs.size) (I.hok.fresh (Jai _));exact Zat (.bl _) H ⟨(I.kept (h':=s.heap.push { cls:=.type "list_iterator",data:=.fields #[.ref p,.int 0 0] }) (t':=s.toks) λb o e=>Jak _ e).turned (it:=s.heap.objs.size) (t':=tk) (λb o hb e=>kp b o (by simpa using hb) e) f.1 f.2.1 f.2.2.2.1 f.2.2.2.2.1 f.2.2.2.2.2,rfl,q⟩
theorem Ztv:Zfq X (.type "range") (λxs H Q=>∃ j,xs=[.int j]/\∀ p,H p=none->Q (.ref p) (upd H p (.rng 0 j))):=by
 intro pins s σ H xs us Q I r h;refine Zad h λj e910 q=>?_;clear h;obtain rfl:=e910;refine Zad (Zj7 r) λu e911 e912=>?_;obtain rfl:=e911;obtain⟨t,rfl⟩:=e912;refine call_range_1 ⟨.ref s.heap.objs.size,_,I.laid (a:=s.heap.objs.size) (o:=.rng 0 j) (λb o e=>Jak _ e) (Jai _) ?_,rfl,q _ (I.hok.fresh (Jai _))⟩;exact Zcm _ _ _ (Ja4 _ rfl)
def rngV (lo hi:Int):List V:=(List.range (hi-lo).toNat).map λi=>V.int (lo+(i:Nat))
theorem Zlq (hc:X.calm=true):Zfq X (.type "list") (λxs H Q=>∃ p lo hi,xs=[.ref p]/\H p=some (.rng lo hi)/\(-(2 ^ 62)<=lo/\lo<2 ^ 62/\-(2 ^ 62)<=hi/\hi<2 ^ 62)/\(hi-lo).toNat<=2 ^ 24 /\
  ∀ l,H l=none->Q (.ref l) (upd H l (.lst (rngV lo hi)))):=by
 intro pins s σ H xs us Q I r h;refine Zbu h λp lo hi e917 hp e918 e919=>?_;clear h;obtain rfl:=e917;obtain⟨h1,h2,h3,h4⟩:=e918;obtain⟨hz,q⟩:=e919;refine Zad (Zj7 r) λu e920 rx=>?_;obtain rfl:=e920;cases rx;refine xE3_1 (show ObjOk X.prog X.w H s.heap p (.rng lo hi) from I.hok p _ hp) λt u v ho=>?_;have hn:Builtin.Range.rangeSize lo hi 1=(((hi-lo).toNat:Nat):Int):=by rw[rangeSize_one];split <;> omega
 refine call_list_range (I.ok.hd hc) (show IsRange s.heap p lo hi 1 t u v from ho) (small_one h1 h2 h3 h4) hn hz λh' tk acc' c' kp e it=>?_;refine Zat (.ref s.heap.objs.size) _ ⟨I.laid (a:=s.heap.objs.size) (o:=.lst (rngV lo hi)) (t':=tk) kp (Jai _) ?_,rfl,q _ (I.hok.fresh (Jai _))⟩;refine⟨by unfold rngV;rw[Jab,Jat];exact hz,acc'.toList,c',?_,by simpa using e⟩;have hlen:acc'.toList.length=(hi-lo).toNat:=by rw[Jes];exact it.1
 have gen:∀ (n:Nat) (k:Nat) (us:List Value),us.length=n->(∀ (i:Nat) w',us[i]?=some w'->∃ t,w'=Value.int (lo+((k+i:Nat):Int)) t)->Vals ((List.range' k n).map λ(i:Nat)=>V.int (lo+(i:Nat))) us:=by
  intro n
  induction n with
  | zero=>intro k us hl _;cases us with|nil=>exact .nil|cons _ _=>cases hl
  | succ n ih=>
   intro k us hl hv;cases us with
   | nil=>cases hl
   | cons x us=>
    refine .cons ?_ (ih (k+1) us (by simpa using hl) λi w' e=>?_)
    .obtain ⟨t,e⟩:=hv 0 x rfl;exact⟨t,by simpa using e⟩
    .obtain ⟨t,e'⟩:=hv (i+1) w' (by simpa using e);exact⟨t,by rw[e',show ((k+(i+1):Nat):Int)=((k+1+i:Nat):Int) by omega]⟩
 unfold rngV;rw[List.range_eq_range'];refine gen _ 0 _ hlen λi w' e'=>?_;obtain⟨t,e2⟩:=it.2 i w' (by simpa using e');exact⟨t,by rw[e2];congr 1 <;> simp⟩
end
inductive EqD (K:Frag) (H:Hp):Nat->V->V->Bool->Prop where
 | flat {n:Nat} {x y:V} (hx:Zqg x=true) (hy:Zqg y=true):EqD K H n x y (eqV x y)
 | same {n:Nat} {a:Addr}:EqD K H n (.ref a) (.ref a) true
 | list {n:Nat} {a c:Addr} {xs ys:List V} {bs:List Bool} (ne:a≠c) (ha:SqL K H a xs) (hc:SqL K H c ys) (hl:xs.length=ys.length) (hb:bs.length=xs.length)
   (he:∀ (j:Nat) x y b,xs[j]?=some x->ys[j]?=some y->bs[j]?=some b->EqD K H n x y b):EqD K H (n+1) (.ref a) (.ref c) (bs.all id)
 | listL {n:Nat} {a c:Addr} {xs ys:List V} (ne:a≠c) (ha:SqL K H a xs) (hc:SqL K H c ys) (hl:xs.length≠ys.length):EqD K H (n+1) (.ref a) (.ref c) false
 | tuple {n:Nat} {a c:Addr} {xs ys:List V} {bs:List Bool} (ne:a≠c) (ha:SqT K H a xs) (hc:SqT K H c ys) (hl:xs.length=ys.length) (hb:bs.length=xs.length)
   (he:∀ (j:Nat) x y b,xs[j]?=some x->ys[j]?=some y->bs[j]?=some b->EqD K H n x y b):EqD K H (n+1) (.ref a) (.ref c) (bs.all id)
def Zeq (K:Frag)(H:Hp)(n:Nat)(xs ys:List V)(bs:List Bool):Prop:=
 xs.length=ys.length/\bs.length=xs.length/\∀ (j:Nat) x y b,xs[j]?=some x->ys[j]?=some y->bs[j]?=some b->EqD K H n x y b
section
variable {X:Cx}{pins:List (Addr×Obj)}{σ:St}{H:Hp}{s:Shared}
theorem Zfn {A:Around}{xs ys:List V}{us vs:List Value}{bs:List Bool}(rx:Vals xs us)(ry:Vals ys vs)(hl:xs.length=ys.length)(hb:bs.length=xs.length)(ih:∀ (j:Nat) x y b,xs[j]?=some x->ys[j]?=some y->bs[j]?=some b->∀ u v,RelV x u->RelV y v->SeqAt.EqAt A s u v b):
  ∀ j (h1:j<us.toArray.size) (h2:j<vs.toArray.size),SeqAt.EqAt A s us.toArray[j] vs.toArray[j] ((bs[j]?).getD true):=by
 intro j h1 h2;have e1:=rx.length;have e2:=ry.length;have h1':j<us.length:=by simpa using h1
 have h2':j<vs.length:=by simpa using h2
 have g1:xs[j]?=some (xs[j]'(by omega)):=Jaa _;have g2:ys[j]?=some (ys[j]'(by omega)):=Jaa _;have g3:bs[j]?=some (bs[j]'(by omega)):=Jaa _;refine Zad (rx.get g1) λu hu ru=>?_;refine Zad (ry.get g2) λv hv rv=>?_;have eu:us.toArray[j]=u:=by
  rw[Jaa h1'] at hu;simpa using hu
 have ev:vs.toArray[j]=v:=by
  rw[Jaa h2'] at hv;simpa using hv
 rw[eu,ev,g3];exact ih j _ _ _ g1 g2 g3 u v ru rv
theorem EqD.at {n:Nat}{x y:V}{b:Bool}(I:Inv X pins σ H s)(e:EqD X.K H n x y b):∀ {A:Around} {u v:Value},A.units+n<cLine->RelV x u->RelV y v->SeqAt.EqAt A s u v b:=by
 induction e with
 | flat hx hy=>intro A u v _ ru rv;exact eqAt_V ru rv hx hy
 | same=>intro A u v _ ru rv;cases ru;cases rv;exact SeqAt.EqAt.same _
 | @list n a c xs ys bs ne ha hc hl hb he ih=>
  intro A u v hA ru rv;cases ru;cases rv;refine Zav (I.list ha) λits r1 p1 _=>?_;refine Zav (I.list hc) λits' r2 p2 _=>?_;have e1:=r1.length;have e2:=r2.length;have q:=SeqAt.RcAt.lists (e:=λj=>(bs[j]?).getD true) p1.isList p2.isList (by simp;omega) ∅ (Zfn (A:=A.in1) r1 r2 hl hb λj x y b h1 h2 h3 u v ru rv=>ih j x y b h1 h2 h3 (show A.units+1+n<cLine by omega) ru rv);rw[show its.toArray.size=bs.length by simp;omega,Zdj] at q;exact Je4 ne q
 | @listL n a c xs ys ne ha hc hl=>
  intro A u v hA ru rv;cases ru;cases rv;refine Zav (I.list ha) λits r1 p1 _=>?_;refine Zav (I.list hc) λits' r2 p2 _=>?_;have e1:=r1.length;have e2:=r2.length;exact Je4 ne (SeqAt.RcAt.lists_lengths p1.isList p2.isList (by simp;omega) ∅)
 | @tuple n a c xs ys bs ne ha hc hl hb he ih=>
  intro A u v hA ru rv;cases ru;cases rv;refine Zav (I.tuple ha) λits r1 p1 _=>?_;refine Zav (I.tuple hc) λits' r2 p2 _=>?_;have e1:=r1.length;have e2:=r2.length;have q:=SeqAt.RcAt.tuples (e:=λj=>(bs[j]?).getD true) p1 p2 ∅ (Zfn (A:=A.in1) r1 r2 hl hb λj x y b h1 h2 h3 u v ru rv=>ih j x y b h1 h2 h3 (show A.units+1+n<cLine by omega) ru rv);rw[show min its.toArray.size its'.toArray.size=bs.length by simp;omega,Zdj,show (its.toArray.size == its'.toArray.size)=true by simp;omega,Jfj] at q;exact Je4 ne q
def rEqL (K:Frag)(neg:Bool):R2:=λx y H Q=>∃ a c xs ys,x=.ref a/\y=.ref c/\SqL K H a xs/\SqL K H c ys /\
 ((xs.length≠ys.length/\Q (.bl neg) H)\/∃ bs,Zeq K H 6 xs ys bs/\Q (.bl (if neg then !bs.all id else bs.all id)) H)
def rEqT (K:Frag)(neg:Bool):R2:=λx y H Q=>∃ a c xs ys bs,x=.ref a/\y=.ref c/\SqT K H a xs/\SqT K H c ys/\Zeq K H 6 xs ys bs/\Q (.bl (if neg then !bs.all id else bs.all id)) H
theorem op_eqL (hu:X.A.units+8<cLine):OpR X (compareOp .Eq) (rEqL X.K false):=by
 intro pins s σ H x y v u Q I rx ry h;refine Zb5 h λa c xs ys e921 e922 ha e923=>?_;clear h;obtain rfl:=e921;obtain rfl:=e922;obtain⟨hc,h⟩:=e923;cases rx;cases ry;refine Zav (I.list ha) λits r1 p1 _=>?_;refine Zav (I.list hc) λits' r2 p2 _=>?_;have e1:=r1.length;have e2:=r2.length;rcases h with ⟨hne,q⟩|⟨bs,⟨hl,hb,he⟩,q⟩
 .exact SeqAt.eq_list_lengthsAt p1.isList p2.isList (by simp;omega) ∅ ⟨.bl false,H,I,rfl,q⟩
 .refine SeqAt.eq_listAt (e:=λj=>(bs[j]?).getD true) p1.isList p2.isList (by simp;omega) ∅ (Zfn (A:=X.A.in1) r1 r2 hl hb λj x y b h1 h2 h3 u v ru rv=>(he j x y b h1 h2 h3).at I (show X.A.units+1+6<cLine by omega) ru rv) ?_;rw[show its.toArray.size=bs.length by simp;omega,Zdj];exact Zat (.bl (bs.all id)) H ⟨I,rfl,q⟩
theorem Zme (hu:X.A.units+8<cLine):OpR X (compareOp .NotEq) (rEqL X.K true):=by
 intro pins s σ H x y v u Q I rx ry h;refine Zb5 h λa c xs ys e924 e925 ha e926=>?_;clear h;obtain rfl:=e924;obtain rfl:=e925;obtain⟨hc,h⟩:=e926;cases rx;cases ry;refine Zav (I.list ha) λits r1 p1 _=>?_;refine Zav (I.list hc) λits' r2 p2 _=>?_;have e1:=r1.length;have e2:=r2.length;rcases h with ⟨hne,q⟩|⟨bs,⟨hl,hb,he⟩,q⟩
 .exact SeqAt.RcNeAt.lists_lengths p1.isList p2.isList (by simp;omega) ∅ _ _ _ _ ⟨.bl true,H,I,rfl,q⟩
 .refine SeqAt.RcNeAt.lists (e:=λj=>(bs[j]?).getD true) p1.isList p2.isList (by simp;omega) ∅ (Zfn (A:=X.A.in1) r1 r2 hl hb λj x y b h1 h2 h3 u v ru rv=>(he j x y b h1 h2 h3).at I (show X.A.units+1+6<cLine by omega) ru rv) _ _ _ _ ?_;rw[show its.toArray.size=bs.length by simp;omega,Zdj];exact Zat (.bl (!bs.all id)) H ⟨I,rfl,q⟩
theorem op_eqT (hu:X.A.units+8<cLine):OpR X (compareOp .Eq) (rEqT X.K false):=by
 intro pins s σ H x y v u Q I rx ry h;refine Zf2 h λa c xs ys bs e927 e928 ha e929=>?_;clear h;obtain rfl:=e927;obtain rfl:=e928;refine Za2 e929 λhc e930 q=>?_;clear e929;obtain⟨hl,hb,he⟩:=e930;cases rx;cases ry;refine Zav (I.tuple ha) λits r1 p1 _=>?_;refine Zav (I.tuple hc) λits' r2 p2 _=>?_;have e1:=r1.length;have e2:=r2.length;refine SeqAt.eq_tupleAt (e:=λj=>(bs[j]?).getD true) p1 p2 ∅ (Zfn (A:=X.A.in1) r1 r2 hl hb λj x y b h1 h2 h3 u v ru rv=>(he j x y b h1 h2 h3).at I (show X.A.units+1+6<cLine by omega) ru rv) ?_;rw[show min its.toArray.size its'.toArray.size=bs.length by simp;omega,Zdj,show (its.toArray.size == its'.toArray.size)=true by simp;omega,Jfj];exact Zat (.bl (bs.all id)) H ⟨I,rfl,q⟩
theorem op_neT (hu:X.A.units+8<cLine):OpR X (compareOp .NotEq) (rEqT X.K true):=by
 intro pins s σ H x y v u Q I rx ry h;refine Zf2 h λa c xs ys bs e931 e932 ha e933=>?_;clear h;obtain rfl:=e931;obtain rfl:=e932;refine Za2 e933 λhc e934 q=>?_;clear e933;obtain⟨hl,hb,he⟩:=e934;cases rx;cases ry;refine Zav (I.tuple ha) λits r1 p1 _=>?_;refine Zav (I.tuple hc) λits' r2 p2 _=>?_;have e1:=r1.length;have e2:=r2.length;refine SeqAt.RcNeAt.tuples (e:=λj=>(bs[j]?).getD true) p1 p2 ∅ (Zfn (A:=X.A.in1) r1 r2 hl hb λj x y b h1 h2 h3 u v ru rv=>(he j x y b h1 h2 h3).at I (show X.A.units+1+6<cLine by omega) ru rv) _ _ _ _ ?_;rw[show min its.toArray.size its'.toArray.size=bs.length by simp;omega,Zdj,show (its.toArray.size == its'.toArray.size)=true by simp;omega,Jfj];exact Zat (.bl (!bs.all id)) H ⟨I,rfl,q⟩
end
theorem Zmm (K:Frag):PySem.W.kitOne K (.type "int") (.type "int")=some true:=by rfl
theorem Zkv (K:Frag):PySem.W.kitOne K (.type "int") (.type "bool")=some false:=by kernel_rfl
theorem Zn4 (K:Frag):PySem.W.kitOne K (.type "bool") (.type "bool")=some true:=by rfl
theorem Zqe (K:Frag):PySem.W.kitOne K (.type "bool") (.type "int")=some true:=by kernel_rfl
theorem Zml (K:Frag):PySem.W.kitOne K (.type "tuple") (.type "tuple")=some true:=by rfl
theorem Zdg (K:Frag):PySem.W.kitOne K (.type "list") (.type "list")=some true:=by rfl
structure Cal (P:Program)(w:World)(K:Frag)(mg:Str->Option Value)(base:Heap)(x:Str)(k:Nat)(sp:Sp):Prop where
 ex:∃ (f:Addr) (fd:FuncData) (ps:List Str),FnOk P w K mg base CX0 k f fd ps sp/\mg x=some (.ref f)/\PySem.W.keepIn K (.ref f)=true/\Binds K fd ps []
theorem pe_cal {X:Cx}{x:Str}{k:Nat}{sp:Sp}{e:Expr}{es:List Expr}{t:TA}{p pos:Pos}(C:Cal X.prog X.w X.K X.mg X.base x k sp)(hr:Room k X.A)(hg:Gl X x)(ha:PA X (e::es) t)(hdb:(x == ("__debug__" : Str))=false:=by decide)(he:starEach (e::es) X.env=(false,eval e X.env)::starEach es X.env:=by rfl)(hpl:(backTo pos (starEach es X.env)).any (·.1)=false:=by rfl):
  PE X (.Call (.Name x p) (e::es) [] pos) (Zp2 sp [] E0 t):=by
 refine Zbu C.ex λf fd ps F hm hk hb=>?_;exact pe_call F hr hg hm hk hb .nil Zu3 ha hdb he hpl
structure CalM (P:Program)(w:World)(K:Frag)(mg:Str->Option Value)(base:Heap)(C:Addr)(m:Str)(k:Nat)(sp:Sp):Prop where
 ex:∃ (f:Addr) (fd:FuncData) (ps:List Str),FnOk P w K mg base CX0 k f fd ps sp/\Meth K C m f/\Binds K fd ps []
structure CalI (P:Program)(w:World)(K:Frag)(mg:Str->Option Value)(base:Heap)(x:Str)(C:Addr)(k:Nat)(sp:Sp):Prop where
 ex:∃ (f:Addr) (fd:FuncData) (ps:List Str),FnOk P w K mg base CX0 k f fd ps sp/\Mk K C f/\mg x=some (.ref C)/\Binds K fd ps []
theorem pe_new {X:Cx}{x:Str}{C:Addr}{k:Nat}{sp:Sp}{e:Expr}{es:List Expr}{t:TA}{p pos:Pos}(M:CalI X.prog X.w X.K X.mg X.base x C k sp)(hr:Room (k+1) X.A)(hg:Gl X x)(ha:PA X (e::es) t)(hdb:(x == ("__debug__" : Str))=false:=by decide)(he:starEach (e::es) X.env=(false,eval e X.env)::starEach es X.env:=by rfl)(hpl:(backTo pos (starEach es X.env)).any (·.1)=false:=by rfl):
  PE X (.Call (.Name x p) (e::es) [] pos) (Zq7 C sp [] E0 t):=by
 refine Zbu M.ex λf fd ps F hm hk hb=>?_;exact pe_make hm F hr hg hk hb .nil Zu3 ha hdb he hpl
theorem pe_mth {X:Cx}{m:Str}{C:Addr}{k:Nat}{sp:Sp}{o e:Expr}{es:List Expr}{ta:TE}{t:TA}{apos pos:Pos}{pl:Sem Bool}(c:Cls X.K C)(M:CalM X.prog X.w X.K X.mg X.base C m k sp)(hr:Room k X.A)(ho:PE X o ta)(ha:PA X (e::es) t)(hst:starEach (e::es) X.env=(false,eval e X.env)::starEach es X.env:=by rfl)(hpl:(backTo pos (starEach es X.env)).any (·.1)=false:=by rfl)(ht:eval (.Call (.Attribute o m apos) (e::es) [] pos) X.env=(do
   let ov <- eval o X.env
   standAt apos.atName
   let (f,first) <- holding [ov] (getMethod ov m pl)
   callWith pos f first (backTo pos (starEach (e::es) X.env)) (backToKw pos (keywordEach [] X.env))):=by rfl):
  PE X (.Call (.Attribute o m apos) (e::es) [] pos) (Zq6 C m sp [] E0 ta t):=by
 refine Zj6 M.ex λf fd ps F hm hb=>?_;exact Zr7 ho c hm F hr hb .nil Zu3 ha hst hpl ht
def blOk (outer:List (Str×NameKind))(N:List Str)(scope:Scope)(fr:List (Str×Nat)):Bool:=
 scope.kind == .function && scope.names.all (λy=>y.2 != .free || outer.lookup y.1 == some .cell || outer.lookup y.1 == some .free) && scope.names.all (λy=>scope.names.lookup y.1 == some y.2) &&
 fr.all λy=>scope.names.lookup y.1 == some .free && N[y.2]? == some y.1
theorem Zbj {X:Cx}{scope:Scope}{own:List Str}{fr:List (Str×Nat)}(h:blOk X.env.scope.names X.N scope fr=true):BlScope X scope own fr:=by
 unfold blOk at h;simp only[Jcm,Jbn] at h;obtain⟨⟨⟨h1,h2⟩,h3⟩,h4⟩:=h;refine⟨?_,λy hy hf=>?_,λy hy hl=>?_,λy hy=>?_,λy hy=>?_⟩
 .cases e:scope.kind <;> rw[e] at h1 <;> first|rfl|(exact absurd h1 ⇑0)
 .have:=h2 y hy;rw[hf] at this;simp only[Jdm,Jbv] at this;rcases this with (q|q)|q
  .exact absurd q ⇑0
  .exact .inl q
  .exact .inr q
 .have:=h3 y hy;rw[hl] at this;exact Jbv.mp this
 .exact Jbv.mp (h3 y hy)
 .have:=h4 y hy;exact⟨Jbv.mp this.1,Jbv.mp this.2⟩
def Sh (k:Nat)(cap σ:St):Prop:=∃ o,o.length=k/\σ=o++cap
theorem Sh.mk1 {cap:St}{a:Option V}:Sh 1 cap (a::cap):=⟨[a],rfl,rfl⟩
theorem Sh.mk2 {cap:St}{a b:Option V}:Sh 2 cap (a::b::cap):=⟨[a,b],rfl,rfl⟩
theorem Sh.one {cap σ:St}(h:Sh 1 cap σ):∃ a,σ=a::cap:=by
 refine Zad h λo h1 e92=>?_;clear h;obtain rfl:=e92
 match o,h1 with
 | [a],_=>exact⟨a,rfl⟩
theorem Sh.two {cap σ:St}(h:Sh 2 cap σ):∃ a b,σ=a::b::cap:=by
 refine Zad h λo h1 e93=>?_;clear h;obtain rfl:=e93
 match o,h1 with
 | [a,b],_=>exact⟨a,b,rfl⟩
def Zbv (fr:List (Str×Nat))(σ:St):St:=fr.map λy=>(σ[y.2]?).getD none
def Wv (n k:Nat)(cap:St)(Pv:Nat->List V->Hp->Prop):Nat->Nat->St->Hp->Prop:=λi m σ H=>m=n-i/\i<=n/\Sh k cap σ/\∃ vs,Pv i vs H
def Lf (D:Addr)(n k:Nat)(cap:St)(Pv:Nat->List V->Hp->Prop)(i:Nat)(σ4:St)(y:V)(H6:Hp):Prop:=
 ∃ vs,H6 D=some (.lst vs)/\vs.length<sizeLine/\∃ m',m'<n-i/\Wv n k cap Pv (i+1) m' σ4 (upd H6 D (.lst (vs++[y])))
def Lf0 (n k:Nat)(cap:St)(Pv:Nat->List V->Hp->Prop)(i:Nat)(σ4:St)(H5:Hp):Prop:=∃ m',m'<n-i/\Wv n k cap Pv (i+1) m' σ4 H5
theorem Zn2 {D:Addr}{n k:Nat}{cap:St}{Pv:Nat->List V->Hp->Prop}{i:Nat}{σ4:St}{y:V}{H6:Hp}{vs ws:List V}(hi:i<n)(sh:Sh k cap σ4)(hD:H6 D=some (.lst vs))(hl:vs.length<sizeLine)(p:Pv (i+1) ws (upd H6 D (.lst (vs++[y])))):Lf D n k cap Pv i σ4 y H6:=⟨vs,hD,hl,n-(i+1),∅,rfl,hi,sh,ws,p⟩
theorem leaf0 {n k:Nat}{cap:St}{Pv:Nat->List V->Hp->Prop}{i:Nat}{σ4:St}{H5:Hp}{ws:List V}(hi:i<n)(sh:Sh k cap σ4)(p:Pv (i+1) ws H5):Lf0 n k cap Pv i σ4 H5:=⟨n-(i+1),∅,rfl,hi,sh,ws,p⟩
def Ze0 (g:TG)(tt:TT)(te:TE)(D:Addr)(n k:Nat)(cap:St)(Pv:Nat->List V->Hp->Prop)(i:Nat)(x:V)(σ':St)(H:Hp):Prop:=
 g x σ' H λσ4 H4=>tt σ4 H4 λb H5=>if b=true then te σ4 H5 λy H6=>Lf D n k cap Pv i σ4 y H6 else Lf0 n k cap Pv i σ4 H5
section
variable {K:Frag}{a D:Addr}{xs:List V}{g:TG}{tt:TT}{te:TE}{k:Nat}{fr:List (Str×Nat)}{σ:St}{H1:Hp}{Q:VK}
theorem sh0:Sh k (Zbv fr σ) (Zg7 k fr σ):=⟨List.replicate k none,Jbd,rfl⟩
theorem Zlp {J:It}{n:Nat}(it:Nat->V->Prop)(Pv:Nat->List V->Hp->Prop)(h0:Pv 0 [] (upd H1 D (.lst [])))(go:∀ i vs H,i<n->Pv i vs H->J.go i H/\∀ x H',J.yld i H x H'->H'=H/\it i x)(stop:∀ vs H,Pv n vs H->J.stop n H)(hs:∀ i x vs σ' H,i<n->it i x->Sh k (Zbv fr σ) σ'->Pv i vs H->Ze0 g tt te D n k (Zbv fr σ) Pv i x σ' H)(hd:∀ vs H,Pv n vs H->Q (.ref D) H):Zb6 g tt te J D (Zg7 k fr σ) H1 Q:=by
 refine⟨Wv n k (Zbv fr σ) Pv,⟨n,by simp,Jb9 _,sh0,[],h0⟩,?_⟩;intro i m σ' H2 e91;refine Zb0 e91 λe94 hi sh e95=>?_;clear e91;obtain rfl:=e94;obtain⟨vs,p⟩:=e95;by_cases hlt:i<n
 .obtain ⟨g1,g2⟩:=go i vs H2 hlt p;refine .inr ⟨g1,λx H3 y=>?_⟩;obtain⟨rfl,hx⟩:=g2 x H3 y;exact hs i x vs σ' _ hlt hx sh p
 .have e:i=n:=∅
  subst e;exact .inl ⟨stop vs H2 p,hd vs H2 p⟩
theorem Zio (Pv:Nat->List V->Hp->Prop)(h0:Pv 0 [] (upd H1 D (.lst [])))(hl:∀ i vs H,i<=xs.length->Pv i vs H->SqL K H a xs)(hs:∀ i x vs σ' H,i<xs.length->xs[i]?=some x->Sh k (Zbv fr σ) σ'->Pv i vs H->Ze0 g tt te D xs.length k (Zbv fr σ) Pv i x σ' H)(hd:∀ vs H,Pv xs.length vs H->Q (.ref D) H):Zb6 g tt te (Itl K a) D (Zg7 k fr σ) H1 Q:=
 Zlp (λi x=>xs[i]?=some x) Pv h0 (λi vs H hi p=>⟨⟨xs,xs[i],hl i vs H (Jbm hi) p,by simp[hi]⟩,λx H' y=>⟨y.1,y.2 xs (hl i vs H (Jbm hi) p)⟩⟩)
  (λvs H p=>⟨xs,hl _ vs H (Jai _) p,Jai _⟩) hs hd
theorem Zwi (Pv:Nat->List V->Hp->Prop)(h0:Pv 0 [] (upd H1 D (.lst [])))(hl:∀ i vs H,i<=xs.length->Pv i vs H->SqT K H a xs)(hs:∀ i x vs σ' H,i<xs.length->xs[i]?=some x->Sh k (Zbv fr σ) σ'->Pv i vs H->Ze0 g tt te D xs.length k (Zbv fr σ) Pv i x σ' H)(hd:∀ vs H,Pv xs.length vs H->Q (.ref D) H):Zb6 g tt te (Itt K a) D (Zg7 k fr σ) H1 Q:=
 Zlp (λi x=>xs[i]?=some x) Pv h0 (λi vs H hi p=>⟨⟨xs,xs[i],hl i vs H (Jbm hi) p,by simp[hi]⟩,λx H' y=>⟨y.1,y.2 xs (hl i vs H (Jbm hi) p)⟩⟩)
  (λvs H p=>⟨xs,hl _ vs H (Jai _) p,Jai _⟩) hs hd
theorem Zg0 {lo:Int}{n:Nat}(Pv:Nat->List V->Hp->Prop)(h0:Pv 0 [] (upd H1 D (.lst [])))(hs:∀ i x vs σ' H,i<n->x=.int (lo+i)->Sh k (Zbv fr σ) σ'->Pv i vs H->Ze0 g tt te D n k (Zbv fr σ) Pv i x σ' H)(hd:∀ vs H,Pv n vs H->Q (.ref D) H):Zb6 g tt te (Itr lo n) D (Zg7 k fr σ) H1 Q:=
 Zlp (λi x=>x=.int (lo+i)) Pv h0 (λi vs H hi p=>⟨hi,λx H' y=>y⟩) (λvs H p=>Jai _) hs hd
end
def Ext (l:Addr)(H H':Hp):Prop:=∀ b o,b≠l->H b=some o->H' b=some o
theorem Ext.trans {l:Addr}{H H1 H2:Hp}(a:Ext l H H1)(b:Ext l H1 H2):Ext l H H2:=λc o n e=>b c o n (a c o n e)
theorem Ext.new {l p:Addr}{H:Hp}{o:HO}(h:H p=none):Ext l H (upd H p o):=λc u _ e=>by rw[Zag (Zaf e h)];exact e
theorem Ext.set {l:Addr}{H:Hp}{o:HO}:Ext l H (upd H l o):=λc u n e=>by rw[Zag n];exact e
theorem Same.ext {l:Addr}{H H':Hp}(s:Same H H'):Ext l H H':=λc o _ e=>s c o e
theorem Same.new {p:Addr}{H:Hp}{o:HO}(h:H p=none):Same H (upd H p o):=λc u e=>by rw[Zag (Zaf e h)];exact e
theorem Same.upd {p:Addr}{H H':Hp}{o:HO}(s:Same H H')(h:H p=none):Same H (upd H' p o):=λc u e=>by rw[Zag (Zaf e h)];exact s c u e
theorem Ext.upd {l p:Addr}{H H':Hp}{o:HO}(s:Ext l H H')(h:H p=none):Ext l H (upd H' p o):=λc u n e=>by rw[Zag (Zaf e h)];exact s c u n e
theorem Ext.free {l p:Addr}{H H':Hp}(s:Ext l H H')(n:p≠l)(h:H' p=none):H p=none:=by
 cases e:H p with
 | none=>rfl
 | some o=>rw[s p o n e] at h;cases h
theorem cx_K {CX:CXT}{P:Program}{w:World}{K:Frag}{mg:Str->Option Value}{base:Heap}{N:List Str}{qual:Str}{scope:Scope}{f:Addr}{cd:Value}{A:Around}{outer:List Env}{s:Shared}{H:Hp}{E:XK}:(Zwh CX P w K mg base N qual scope f cd A outer s H E).K=K:=rfl
theorem in_K {X:Cx}{N:List Str}{scope:Scope}{cl:List (Str×Addr)}{s:Shared}{H:Hp}{fp:List Addr}:(Zln X N scope cl s H fp).K=X.K:=rfl
theorem Zwu {X:Cx}{E:Value->Shared->Prop}:(X.wish E).K=X.K:=rfl
theorem Zfm {X:Cx}{x:Str}{i:Int}{pos:Pos}(hg:Gl X x)(hm:∃ t,X.mg x=some (.int i t))(hd:(x == ("__debug__" : Str))=false:=by decide):PE X (.Name x pos) (tC (.int i)):=by
 obtain⟨t,e⟩:=hm;exact pe_glob hg e ⟨t,rfl⟩ hd
theorem Zbx {α:Type}{xs:List α}{i:Int}{v:α}(h0:0<=i)(h:xs[i.toNat]?=some v):atI xs i=some v:=by
 have e:((i.toNat:Nat):Int)=i:=Jbt h0;rw[<- e];exact atI_nat h
def Zb8:Expr->Bool
 | .Starred _ _=>true
 | _=>false
theorem Za9 {e:Expr}{es:List Expr}{env:Env}(h:Zb8 e=false):starEach (e::es) env=(false,eval e env)::starEach es env:=by
 cases e <;> first|rfl|cases h
theorem Zfj {pos:Pos}{env:Env}:∀ {es:List Expr},es.all (λx=>!Zb8 x)=true->(backTo pos (starEach es env)).any (·.1)=false
 | [],_=>rfl
 | e::es,h=>by
  rw[Jfk,Jcm] at h;have h1:Zb8 e=false:=by simpa using h.1
  rw[Za9 h1];show ((false,_).1 || (backTo pos (starEach es env)).any (·.1))=false;rw[Zfj h.2];rfl
section
variable {X:Cx}{x:Str}{p pos:Pos}{e:Expr}{es:List Expr}{te:TE}{t:TA}{id T:String}{r:List V->Hp->VK->Prop}
theorem pa_c (ha:PE X e te)(hr:PA X es t)(h:Zb8 e=false:=by rfl):PA X (e::es) (Ze1 te t):=pa_cons ha hr (Za9 h)
theorem Zba (hc:Zfq X (.builtin id) r)(hg:Gl X x)(hm:X.mg x=none)(hv:bootBuiltins x=some (.builtin id))(ha:PA X (e::es) t)(h:Zb8 e=false:=by rfl)(h2:es.all (λx=>!Zb8 x)=true:=by rfl)(hn:x ≠ "__name__" := by decide)(hdb:(x == ("__debug__" : Str))=false:=by decide):PE X (.Call (.Name x p) (e::es) [] pos) (tCB r t):=Zu2 hc hg hm hv ha hn hdb (Za9 h) (Zfj h2)
theorem Zid (hc:Zfq X (.type T) r)(hg:Gl X x)(hm:X.mg x=none)(hv:bootBuiltins x=some (.type T))(ha:PA X (e::es) t)(h:Zb8 e=false:=by rfl)(h2:es.all (λx=>!Zb8 x)=true:=by rfl)(hn:x ≠ "__name__" := by decide)(hdb:(x == ("__debug__" : Str))=false:=by decide):PE X (.Call (.Name x p) (e::es) [] pos) (tCB r t):=Zr8 hc hg hm hv ha hn hdb (Za9 h) (Zfj h2)
theorem Za7 {k:Nat}{sp:Sp}(C:Cal X.prog X.w X.K X.mg X.base x k sp)(hr:Room k X.A)(hg:Gl X x)(ha:PA X (e::es) t)(h:Zb8 e=false:=by rfl)(h2:es.all (λx=>!Zb8 x)=true:=by rfl)(hdb:(x == ("__debug__" : Str))=false:=by decide):PE X (.Call (.Name x p) (e::es) [] pos) (Zp2 sp [] E0 t):=pe_cal C hr hg ha hdb (Za9 h) (Zfj h2)
theorem pe_n {C:Addr}{k:Nat}{sp:Sp}(M:CalI X.prog X.w X.K X.mg X.base x C k sp)(hr:Room (k+1) X.A)(hg:Gl X x)(ha:PA X (e::es) t)(h:Zb8 e=false:=by rfl)(h2:es.all (λx=>!Zb8 x)=true:=by rfl)(hdb:(x == ("__debug__" : Str))=false:=by decide):PE X (.Call (.Name x p) (e::es) [] pos) (Zq7 C sp [] E0 t):=pe_new M hr hg ha hdb (Za9 h) (Zfj h2)
theorem Zej {tg a:Expr}{ta:TA}(hg:Gl X "range")(hm:X.mg "range" = none)(ha:PA X [a] ta)(h:Zb8 a=false:=by rfl):PI X tg (.Call (.Name "range" p) [a] [] pos) (Zs8 ta):=Zr5 hg hm ha (Za9 h)
theorem Zp7 {tg a b:Expr}{ta:TA}(hg:Gl X "range")(hm:X.mg "range" = none)(ha:PA X [a,b] ta)(h:Zb8 a=false:=by rfl)(h2:Zb8 b=false:=by rfl):PI X tg (.Call (.Name "range" p) [a,b] [] pos) (Zv5 ta):=
 Zr4 hg hm ha (by rw[Za9 h,Za9 h2];rfl) (Za9 h2)
end
theorem Zrn {i j:Int}:scal (.int i) (.int j)=true:=rfl
theorem Zro {i j:Bool}:scal (.bl i) (.bl j)=true:=rfl
theorem Zrm {i j:Str}:scal (.str i) (.str j)=true:=rfl
theorem Zhl {X:Cx}{x:Str}{n:String}{pos:Pos}(hg:Gl X x)(hm:X.mg x=none)(hv:bootBuiltins x=some (.type n))(hn:x ≠ "__name__" := by decide)(hd:(x == ("__debug__" : Str))=false:=by decide):PE X (.Name x pos) (tC (.ty n)):=pe_bltn (v:=.ty n) hg hm hv rfl hn hd
section
variable {X:Cx}(K:Frag)(hK:X.K=K)
include hK
theorem Zde {pos:Pos}{es:List Expr}{k:Nat}{t:TGs}{n:Nat}(hc:X.calm=true)(h:PGs X es t)(hn:(assignEach es X.env).length=n)(hst:(assignEach es X.env).findIdx? (·.1)=none):PG X (.Tuple es k pos) (Zt6 K n t):=by subst hK;exact Zbw hc h hn hst
theorem Zg4:Zfq X (.type "list") (λxs H Q=>∃ p ys,xs=[.ref p]/\(SqL K H p ys\/SqT K H p ys)/\∀ l,H l=none->Q (.ref l) (upd H l (.lst ys))):=by subst hK;exact Zcl
theorem Zds:IxR X (rIxL K):=by subst hK;exact Zaw
theorem Zlf:IxR X (rIxT K):=by subst hK;exact Zbc
theorem Zov:SlR X (rSlL K):=by subst hK;exact Zf6
theorem Znt {e:Expr}{f:Str}{pos:Pos}{ta:TE}(he:PE X e ta)(hb:attributeBase e f X.env (eval e X.env)=eval e X.env):PE X (.Attribute e f pos) (tFld K ta f):=by subst hK;exact Zff he hb
theorem Zgx {tg l:Expr}{tl:TE}(hl:PE X l tl):PI X tg l (Zs9 K tl):=by subst hK;exact Za6 hl
end
theorem Zqn {g:TG}{tb:TS}{D:Ends}{x:V}{σ:St}{H:Hp}(h:∀ D':Ends,D'=D->g x σ H λσ2 H2=>tb D' σ2 H2):g x σ H λσ2 H2=>tb D σ2 H2:=h D rfl
theorem cutI {c:TT}{A B:TS}{D:Ends}{σ:St}{H:Hp}(h:∀ A',A'=A->tIfS c A' B D σ H):tIfS c A B D σ H:=h A rfl
theorem Zwp {xs:List V}{k:Nat}{v:V}(h:xs[k]?=some v):atI xs ((k:Nat):Int)=some v:=Zbx (Je1 _) (by rw[Jbb];exact h)
theorem atI_z {xs:List V}{k:Nat}{v:V}(h:xs[k]?=some v):atI xs (0+((k:Nat):Int))=some v:=by rw[Int.zero_add];exact Zwp h
theorem atI_r {as:List Addr}{k:Nat}{a:Addr}(h:as[k]?=some a):atI (as.map V.ref) ((k:Nat):Int)=some (.ref a):=Zwp (by rw[Jad,h];rfl)
theorem atI_rz {as:List Addr}{k:Nat}{a:Addr}(h:as[k]?=some a):atI (as.map V.ref) (0+((k:Nat):Int))=some (.ref a):=by rw[Int.zero_add];exact atI_r h
theorem lo62 (n:Nat):-2 ^ 62<=((n:Nat):Int):=∅
theorem hi62 {n:Nat}(h:n<=1000):((n:Nat):Int)<2 ^ 62:=∅
theorem Zsv {α:Type}{xs:List α}{k n:Nat}(h:k<n)(hl:xs.length=n):k<xs.length:=hl ▸ h
theorem len_le {α:Type}{xs:List α}{m n:Nat}(hl:xs.length=n)(h:n<=m):xs.length<=m:=hl ▸ h
theorem ixN_n {n k:Nat}(h:k<n):ixN n ((k:Nat):Int)=some k:=by
 unfold ixN;rw[if_pos (Je1 _),if_pos ∅,Jbb]
end L2
set_option maxHeartbeats 1000000
namespace HT
open PySem PySem.Spec PyProof.Rows
section
variable {prog:Program}{w:World}{A:Around}{E:Value->Shared->Prop}{s:Shared}
end
end HT
namespace L2
open PySem PySem.Spec PyProof.Rows
section
variable {X:Cx}{e es:Expr}{te ts:TE}{pos p2:Pos}
end
end L2
namespace L2
open PySem PySem.Spec PyProof.Rows
section
variable {X:Cx}
def rGetL (K:Frag):V->V->Hp->VK->Prop:=λx y H Q=>∃ p xs i v,x=.ref p/\y=.int i/\0<=i/\SqL K H p xs/\xs[i.toNat]?=some v/\Q v H
end
def atZ (ns:List Int)(i:Int):Int:=ns.getD i.toNat 0
theorem atZ_get {ns:List Int}{i:Int}(h:i.toNat<ns.length):(ns.map V.int)[i.toNat]?=some (.int (atZ ns i)):=by
 rw[Jad,Jaa h];simp[atZ,h]
theorem atZ_mem {ns:List Int}{i:Int}(h:i.toNat<ns.length):atZ ns i∈ns:=by
 unfold atZ;rw[Jac,Jaa h];exact Jap h
end L2
namespace L2
open PySem PySem.Spec PyProof.Rows
section
variable {X:Cx}{pins:List (Addr×Obj)}{σ:St}{H:Hp}{s:Shared}{h':Heap}
theorem Inv.turnedL {t':Nat}{fp:List Addr}(I:Inv X pins σ H s)(hf:∀ b∈fp,FpOk X pins H b)(k:∀ b o,b∉fp->s.heap.get? b=some o->h'.get? b=some o):Inv X pins σ H { s with heap:=h',toks:=t' }:=by
 have nit:∀ b u,H b=some u->b∉fp:=λb u e z=>by rw[(hf b z).1] at e;cases e
 refine I.step (g':=s.gens) (d':=s.drawn) (ch:=fp) (λb hb=>?_) (λb o _ _ hc e _=>k b o hc e) (λb o _ _ hc e _=>⟨o.slots,k b o hc e⟩) (λ_ _ _ _ n=>n)
  (λb o hc e=>⟨o,k b o hc e⟩) (λ_ _ e=>e) (λ_ _ _ e=>e) (λb ps e=>⟨#[],by rw[e];simp⟩) (λm hm=>?_) (λb u e=>?_) I.bare
 .refine Zf3 (hf b hb) λf0 f1 f2 f3 f4 f5=>?_;exact⟨f3,f1,f4,f5⟩
 .refine Zex hm λo es ep ho r=>?_;clear hm;exact Zcm o es ep ⟨k _ o (λz=>(hf _ z).2.1 rfl) ho,r⟩
 .refine (I.hok b u e).stay (λc v hc q=>k c v ?_ q) (λ_ q=>q) (λ_ _ q=>q) λ_ _ _ q=>q;rcases hc with z|z
  .rw [z];exact nit b u e
  .exact nit c _ z
theorem Inv.turnedT {t':Nat}{fp:List Addr}{p:Addr}{o:HO}(I:Inv X pins σ H s)(hf:∀ b∈fp,FpOk X pins H b)(k:∀ b o,b∉fp->s.heap.get? b=some o->h'.get? b=some o)(hp:s.heap.objs.size<=p)(new:ObjOk X.prog X.w (upd H p o) h' p o):Inv X pins σ (upd H p o) { s with heap:=h',toks:=t' }:=by
 have hn:H p=none:=I.hok.fresh hp;have nit:∀ b u,H b=some u->b∉fp:=λb u e z=>by rw[(hf b z).1] at e;cases e
 have npp:∀ b u,s.heap.get? b=some u->b≠p:=λb u e=>Ja9 (Jaw (Jam e) hp);refine I.step (g':=s.gens) (d':=s.drawn) (ch:=fp) (λb hb=>?_) (λb o _ _ hc e _=>k b o hc e) (λb o _ _ hc e _=>⟨o.slots,k b o hc e⟩) (λb o _ e n=>by rw[Zag (npp b o e)];exact n)
  (λb o hc e=>⟨o,k b o hc e⟩) (λb xs e=>by rw[Zag (Zaf e hn)];exact e) (λb u xs e=>by rw[Zag (Zaf e hn)];exact e) (λb ps e=>⟨#[],by rw[Zag (Zaf e hn),e];simp⟩) (λm hm=>?_) (λb u e=>?_) I.bare
 .refine Zf3 (hf b hb) λf0 f1 f2 f3 f4 f5=>?_;exact⟨f3,f1,f4,f5⟩
 .refine Zex hm λo es ep ho r=>?_;clear hm;exact Zcm o es ep ⟨k _ o (λz=>(hf _ z).2.1 rfl) ho,r⟩
 .by_cases hb:b=p
  .subst hb;rw[Zab] at e;cases e;exact new
  .rw [Zag hb] at e;refine (I.hok b u e).stay (λc v hc q=>k c v ?_ q) (λc q=>by rw[Zag (Zaf q hn)];exact q) (λc xs q=>by rw[Zag (Zaf q hn)];exact q) λc _ _ q=>by rw[Zag (Zaf q hn)];exact q
   rcases hc with z|z
   .rw [z];exact nit b u e
   .exact nit c _ z
end
def Itz (K:Frag)(a b:Addr):It:=
 ⟨λi H=>∃ xs ys x y,SqL K H a xs/\SqL K H b ys/\xs[i]?=some x/\ys[i]?=some y,λi H v H'=>∃ x y p,v=.ref p/\H p=none/\H'=upd H p (.tup [x,y])/\(∀ xs,SqL K H a xs->xs[i]?=some x)/\∀ ys,SqL K H b ys->ys[i]?=some y,λi H=>∃ xs ys,SqL K H a xs/\SqL K H b ys/\(xs.length<=i\/ys.length<=i)⟩
theorem Zuh {P:Program}{w:World}{K:Frag}{elts:List Expr}{x1:Nat}{pos:Pos}{z TI TO i1 i2 a b:Addr}(D:ZipApart z TI TO i1 i2 a b):
  Turn P w K (.Tuple elts x1 pos) (Itz K a b) [z,TI,TO,i1,i2] z (λi h=>IsZip h z TI TO .none/\IsPair h TI (.ref i1) (.ref i2)/\(∃ u v,IsPair h TO u v)/\h.IsListIter i1 a i/\h.IsListIter i2 b i) where
 mem:=by simp
 obj:=λi h st c hc=>by
  refine Zcf st λhz hTI e92 e93 e94=>?_;clear st;obtain⟨u,v,hTO⟩:=e92;obtain⟨o1,e1,c1,d1⟩:=e93;obtain⟨o2,e2,c2,d2⟩:=e94;simp at hc;rcases hc with rfl|rfl|rfl|rfl|rfl
  .exact ⟨_,hz,λv z=>by have z':Data.fields _=Data.cell v:=z;cases z'⟩
  .exact ⟨_,hTI,λv z=>by have z':Data.seq _ _=Data.cell v:=z;cases z'⟩
  .exact ⟨_,hTO,λv z=>by have z':Data.seq _ _=Data.cell v:=z;cases z'⟩
  .exact ⟨o1,e1,λv z=>by rw[d1] at z;cases z⟩
  .exact ⟨o2,e2,λv z=>by rw[d2] at z;cases z⟩
 keep:=λi h h' st k=>by
  refine Zcf st λhz hTI e95 h1 h2=>?_;clear st;obtain⟨u,v,hTO⟩:=e95;exact⟨k z (by simp) _ hz,k TI (by simp) _ hTI,⟨u,v,k TO (by simp) _ hTO⟩,h1.at λo e=>k i1 (by simp) o e,h2.at λo e=>k i2 (by simp) o e⟩
 item:=by
  intro X hP hw hK hc i pins s σ H E I hf st hg;subst hP hw hK;refine Zb5 hg λxs ys x y hqa hqb hx hy=>?_;clear hg;refine Zav (I.list hqa) λits rv p hz1=>?_;refine Zav (I.list hqb) λits2 rv2 p2 hz2=>?_;refine Zad (rv.get hx) λu hu ru=>?_;refine Zad (rv2.get hy) λu2 hu2 ru2=>?_;refine Zcf st λhz hTI e96 h1 h2=>?_;clear st;obtain⟨c,d,hTO⟩:=e96;refine wpAny_pyNext_zip_item D hz hTI hTO h1 h2 p.isList p2.isList (by simpa using hu) (by simpa using hu2) λh' a1 a2 a3 a4 a5 a6 a7=>?_;refine⟨_,rfl,wpAny_letOwnedTupleGo_zip a1 λh'' b1 b2=>?_⟩;have nz:s.heap.objs.size≠z:=Jb7 (Jam hz);have k2:∀ c o,c∉[z,TI,TO,i1,i2]->s.heap.get? c=some o->h''.get? c=some o:=λc o hc e=>by
   simp at hc;exact b2.extBut _ _ hc.1 (a7 c o hc.1 hc.2.2.1 hc.2.2.2.1 hc.2.2.2.2 e)
  have I2:Inv X pins σ (upd H s.heap.objs.size (.tup [x,y])) { s with heap:=h'' }:=I.turnedT (t':=s.toks) hf k2 (Jai _)
   ⟨by show 2<=sizeLine;decide,[u,u2],.cons ru (.cons ru2 .nil),_,b2.extBut _ _ nz a5,rfl,_,rfl⟩
  refine Zat (.ref s.heap.objs.size) _ ⟨I2,rfl,⟨x,y,_,rfl,I.hok.fresh (Jai _),rfl,λxs' hq=>by rw[I.list_inj hq hqa];exact hx,λys' hq=>by rw[I.list_inj hq hqb];exact hy⟩,⟨b1,b2.extBut _ _ D.TIz (a7 _ _ D.TIz D.TITO D.TIi1 D.TIi2 hTI),⟨_,_,b2.extBut _ _ D.TOz a2⟩,a3.extBut b2.extBut D.i1z,a4.extBut b2.extBut D.i2z⟩,λc hc=>?_⟩;have hlt:∀ c∈[z,TI,TO,i1,i2],c<s.heap.objs.size:=λc hc=>by
   simp at hc;refine Zad h1 λo1 e1 _=>?_;clear h1;refine Zad h2 λo2 e2 _=>?_;clear h2;rcases hc with rfl|rfl|rfl|rfl|rfl
   .exact Jam hz
   .exact Jam hTI
   .exact Jam hTO
   .exact Jam e1
   .exact Jam e2
  rw[Zag (Ja9 (hlt c hc))];exact (hf c hc).1
 done:=by
  intro X hP hw hK hc i pins s σ H E I hf st hg;subst hP hw hK;refine Zbm hg λxs ys hqa hqb hx=>?_;clear hg;refine Zav (I.list hqa) λits rv p hz1=>?_;refine Zav (I.list hqb) λits2 rv2 p2 hz2=>?_;refine Zcf st λhz hTI e97 h1 h2=>?_;clear st;obtain⟨c,d,hTO⟩:=e97;have l1:=rv.length;have l2:=rv2.length;refine wpAny_pyNext_zip_end (I.ok.hd hc) D hz hTI hTO h1 h2 p.isList p2.isList ?_ λh' kk=>⟨rfl,I.turnedL (t':=s.toks) hf λc o hc e=>?_⟩
  .rcases hx with hx|hx
   .exact .inl (by simp;omega)
   .exact .inr (by simp;omega)
  .simp at hc;exact kk c o hc.1 hc.2.2.1 hc.2.2.2.1 hc.2.2.2.2 e
 self:=λ_ _ _ _ _ st h=>wpAny_pyIter_zip st.1 h
section
variable {X:Cx}
def iZip (K:Frag)(ta:TA):TI:=λσ H R=>ta σ H λvs H1=>∃ a b,vs=[.ref a,.ref b]/\(∃ xs,SqL K H1 a xs)/\(∃ ys,SqL K H1 b ys)/\R (Itz K a b) H1
theorem Zh3 {elts:List Expr}{x1:Nat}{pt p pos:Pos}{a b:Expr}{ta:TA}(hg:Gl X "zip")(hm:X.mg "zip" = none)(ha:PA X [a,b] ta)(h:Zb8 a=false:=by rfl)(h2:Zb8 b=false:=by rfl):
  PI X (.Tuple elts x1 pt) (.Call (.Name "zip" p) [a,b] [] pos) (iZip X.K ta):=by
 intro pins s σ H R I hh;refine Call_ (Zfh I hg hm boot_zip (Jbl (thn (ha pos pins s σ H _ I hh) λus s1 ⟨vs,H1,I1,r1,q1⟩=>?_) (by rw[Za9 h,Za9 h2]) (by rw[Za9 h2];rfl)));refine Zdw q1 λc d e e98 e99 q=>?_;clear q1;obtain⟨xs,hq1⟩:=e98;obtain⟨ys,hq2⟩:=e99;subst e;cases r1 with
 | cons r rr=>
  cases rr with
  | cons r' rr=>
   cases rr;cases r;cases r';refine Zav (I1.list hq1) λits rv p1 hz1=>?_;refine Zav (I1.list hq2) λits2 rv2 p2 hz2=>?_;have lt1:c<s1.heap.objs.size:=by obtain⟨o,ho,_⟩:=p1.isList;exact Jam ho
   have lt2:d<s1.heap.objs.size:=by obtain⟨o,ho,_⟩:=p2.isList;exact Jam ho
   refine call_zip_2 p1.isList p2.isList λh' a1 a2 a3 a4 a5 a6 a7=>wpAny_pyIter_zip (s:={ s1 with heap:=h' }) a1 ?_;refine Zir _ _ _ _ H1 ⟨rfl,I1.kept (t':=s1.toks) a7,Zuh (zipApart_new lt1 lt2),⟨a1,a2,⟨_,_,a3⟩,a4,a5⟩,λb hb=>?_,q⟩;have hb':s1.heap.objs.size<=b:=by
    simp at hb;rcases hb with rfl|rfl|rfl|rfl|rfl
    .exact Jdh _ _
    .exact Jdh _ _
    .exact Jdh _ _
    .exact Jai _
    .exact Jdh _ _
   have:=(I1.fpOk (H':=H1) hb' (I1.hok.fresh hb'))
   exact this
theorem Zpu (hc:X.calm=true):Zfq X (.builtin "sum") (λxs H Q=>∃ (p:Addr) (ns:List Int),xs=[.ref p]/\SqL X.K H p (ns.map V.int)/\Q (.int (preSum (λi=>ns.getD i 0) ns.length)) H):=by
 intro pins s σ H xs us Q I r h;refine Zbm h λp ns e910 hq q=>?_;clear h;obtain rfl:=e910;refine Zad (Zj7 r) λu e911 rx=>?_;obtain rfl:=e911;cases rx;refine Zav (I.list hq) λits rv pl hz=>?_;have hl:=rv.length;rw[Jab] at hl;refine call_sum_walkG (Jdt pl.isList ?_);have hne:p≠s.heap.objs.size:=λe=>by
  refine Zbh pl λo n ho _=>?_;clear pl;exact absurd (Jam ho) (by rw[e];exact Jbp _)
 refine Zpx s.heap.objs.size _ _ _ _ _ (λi=>ns.getD i 0) ⟨rfl,Walks.list (A:=X.A.in1) (I.ok.hd hc) _ p hne its.toArray,⟨⟨_,Ja4 _ rfl,rfl,rfl⟩,pl.isList.at λo e=>Jak _ e⟩,?_,?_,λh' tk t' kp=>?_⟩
 .intro b hb;simp at hb;rcases hb with rfl|rfl
  .rw [Jc7];exact Jel _
  .rw [Jc7];refine Zad pl.isList λo ho _=>?_;exact Jcy (Jam ho)
 .intro i v hv;have hv:its[i]?=some v:=by simpa using hv
  have hi:i<ns.length:=by rw[hl];exact (Jaf.mp hv).1
  obtain⟨u,hu,ru⟩:=rv.get (i:=i) (x:=.int ns[i]) (by rw[Jad,Jaa hi];rfl);rw[hv] at hu;cases hu;obtain⟨t,rfl⟩:=ru;exact⟨t,by simp[hi]⟩
 .rw [Jaq,<- hl];have f:=I.fpOk (H':=H) (Jai s.heap.objs.size) (I.hok.fresh (Jai _));exact Zat (.int _) H ⟨(I.kept (h':=s.heap.push { cls:=.type "list_iterator",data:=.fields #[.ref p,.int 0 0] }) (t':=s.toks) λb o e=>Jak _ e).turned (it:=s.heap.objs.size) (t':=tk) (λb o hb e=>kp b o (by simpa using hb) e) f.1 f.2.1 f.2.2.2.1 f.2.2.2.2.1 f.2.2.2.2.2,⟨t',rfl⟩,q⟩
end
section
variable {K:Frag}{a b D:Addr}{xs ys:List V}{g:TG}{tt:TT}{te:TE}{k:Nat}{fr:List (Str×Nat)}{σ:St}{H1:Hp}{Q:VK}
theorem Zlo (Pv:Nat->List V->Hp->Prop)(hlen:ys.length=xs.length)(h0:Pv 0 [] (upd H1 D (.lst [])))(hl:∀ i vs H,i<=xs.length->Pv i vs H->SqL K H a xs/\SqL K H b ys)(hs:∀ i x y p vs σ' H,i<xs.length->xs[i]?=some x->ys[i]?=some y->H p=none->Sh k (Zbv fr σ) σ'->Pv i vs H->Ze0 g tt te D xs.length k (Zbv fr σ) Pv i (.ref p) σ' (upd H p (.tup [x,y])))(hd:∀ vs H,Pv xs.length vs H->Q (.ref D) H):
  Zb6 g tt te (Itz K a b) D (Zg7 k fr σ) H1 Q:=by
 refine⟨Wv xs.length k (Zbv fr σ) Pv,⟨xs.length,by simp,Jb9 _,sh0,[],h0⟩,?_⟩;intro i m σ' H2 e91;refine Zb0 e91 λe912 hi sh e913=>?_;clear e91;obtain rfl:=e912;obtain⟨vs,p⟩:=e913;obtain⟨q1,q2⟩:=hl i vs H2 hi p;by_cases hlt:i<xs.length
 .refine .inr ⟨⟨xs,ys,xs[i],ys[i]'(by omega),q1,q2,by simp[hlt],by simp[hlen,hlt]⟩,λx H3 y=>?_⟩;refine Zbu y λu v pp e914 hp e915 e916=>?_;clear y;obtain rfl:=e914;obtain rfl:=e915;obtain⟨e1,e2⟩:=e916;exact hs i u v pp vs σ' _ hlt (e1 _ q1) (e2 _ q2) hp sh p
 .have e:i=xs.length:=∅
  subst e;exact .inl ⟨⟨xs,ys,q1,q2,.inl (Jai _)⟩,hd vs H2 p⟩
end
end L2
namespace L2
open PySem PySem.Spec PyProof.Rows
def nrm (a b:Int):Int×Int:=(a / (Int.gcd a b:Int),b / (Int.gcd a b:Int))
def Low (x:Int×Int):Prop:=0<x.2/\Int.gcd x.1 x.2=1
theorem emulR (a b p:Int):a*(b % p) % p=a*b % p:=by rw[Int.mul_emod,Int.emod_emod,<- Int.mul_emod]
theorem Zeo {a b:Int}(hb:0<b):0<(Int.gcd a b:Int):=by
 have:0<Int.gcd a b:=Jcw a ∅;omega
theorem Zld {a b:Int}:(nrm a b).1*(Int.gcd a b:Int)=a:=Jcf (Jbo ..)
theorem Zlc {a b:Int}:(nrm a b).2*(Int.gcd a b:Int)=b:=Jcf (Jbz ..)
theorem Zjq {a b:Int}:(nrm a b).1*b=a*(nrm a b).2:=by
 have h1:=@Zld a b;have h2:=@Zlc a b;generalize (Int.gcd a b:Int)=g at *
 grind
theorem nrm_pos {a b:Int}(hb:0<b):0<(nrm a b).2:=by
 have h2:=@Zlc a b;have g0:=Zeo (a:=a) hb;rcases Jfe 0 (nrm a b).2 with h|h|h
 .exact h
 .rw [<- h,Int.zero_mul] at h2;omega
 .have:=Int.mul_neg_of_neg_of_pos h g0;omega
theorem Zsn {a b:Int}(hb:0<b):Low (nrm a b):=by
 refine⟨nrm_pos hb,?_⟩;have h:=Int.gcd_mul_right (nrm a b).1 (Int.gcd a b:Int) (nrm a b).2;rw[Zld,Zlc] at h;have g0:=Zeo (a:=a) hb;have:Int.gcd a b=Int.gcd (nrm a b).1 (nrm a b).2*Int.gcd a b:=by simpa using h
 have g1:0<Int.gcd a b:=∅
 exact (Nat.eq_of_mul_eq_mul_right g1 ∅).symm
theorem Zqd {x y:Int×Int}(hx:Low x)(hy:Low y)(h:x.1*y.2=y.1*x.2):x=y:=by
 obtain⟨x0,gx⟩:=hx;obtain⟨y0,gy⟩:=hy;have d1:x.2.natAbs ∣ y.2.natAbs:=by
  have c:Nat.Coprime x.2.natAbs x.1.natAbs:=by rw[Nat.coprime_comm];exact gx
  refine c.dvd_of_dvd_mul_left ?_;rw[<- Jb4,h,Jb4];exact Nat.dvd_mul_left ..
 have d2:y.2.natAbs ∣ x.2.natAbs:=by
  have c:Nat.Coprime y.2.natAbs y.1.natAbs:=by rw[Nat.coprime_comm];exact gy
  refine c.dvd_of_dvd_mul_left ?_;rw[<- Jb4,<- h,Jb4];exact Nat.dvd_mul_left ..
 have e:=Nat.dvd_antisymm d1 d2;have e2:x.2=y.2:=∅
 have e1:x.1=y.1:=by
  rw[e2] at h;exact Jdv ∅ h
 exact Prod.ext e1 e2
theorem Zcx (a:Int){g:Int}(hg:0<g)(hd:g ∣ a):(a / g).natAbs<=a.natAbs:=by
 obtain⟨k,rfl⟩:=hd;rw[Int.mul_ediv_cancel_left _ ∅,Jb4];exact Nat.le_mul_of_pos_left _ ∅
def Bd (B:Nat)(x:Int×Int):Prop:=x.1.natAbs<=B/\x.2.natAbs<=B
theorem nrm_bd {a b:Int}{B:Nat}(hb:0<b)(h1:a.natAbs<=B)(h2:b.natAbs<=B):Bd B (nrm a b):=
 ⟨Ja3 (Zcx a (Zeo hb) (Jbo ..)) h1,Ja3 (Zcx b (Zeo hb) (Jbz ..)) h2⟩
def Isn (p:Int)(x:Int×Int):Prop:=(p=0/\Low x)\/(0<p/\0<=x.1/\x.1<p/\x.2=1)
def Zdn (p:Int)(x y:Int×Int):Int×Int:=if p=0 then nrm (x.1*y.2+y.1*x.2) (x.2*y.2) else ((x.1+y.1) % p,1)
def Zbn (p:Int)(x y:Int×Int):Int×Int:=if p=0 then nrm (x.1*y.1) (x.2*y.2) else (x.1*y.1 % p,1)
def Zj4 (p k:Int):Int×Int:=if p=0 then (k,1) else (k % p,1)
theorem Isn.pos {p:Int}{x:Int×Int}(h:Isn p x):0<x.2:=by
 rcases h with ⟨_,h⟩|⟨_,_,_,h⟩
 .exact h.1
 .omega
theorem Zlg {p a b:Int}(hp:p=0)(hb:0<b):Isn p (nrm a b):=.inl ⟨hp,Zsn hb⟩
theorem Zn5 {p a:Int}(hp:0<p):Isn p (a % p,1):=.inr ⟨hp,Jbr _ ∅,Jbe _ hp,rfl⟩
theorem Zin {p:Int}{x y:Int×Int}(h0:0<=p)(hx:Isn p x)(hy:Isn p y):Isn p (Zdn p x y):=by
 unfold Zdn;split
 .rename_i h;exact Zlg h (Jd1 hx.pos hy.pos)
 .exact Zn5 ∅
theorem Zcp {p:Int}{x y:Int×Int}(h0:0<=p)(hx:Isn p x)(hy:Isn p y):Isn p (Zbn p x y):=by
 unfold Zbn;split
 .rename_i h;exact Zlg h (Jd1 hx.pos hy.pos)
 .exact Zn5 ∅
theorem Zhm {p k:Int}(h0:0<=p):Isn p (Zj4 p k):=by
 unfold Zj4;split
 .rename_i h;exact .inl ⟨h,⟨by show (0:Int)<1;decide,by simp⟩⟩
 .exact Zn5 ∅
theorem Zpn (a b:Int):Int.gcd b (a % b)=Int.gcd a b:=by
 rw[Int.emod_def,Int.sub_eq_add_neg,<- Int.mul_neg,Int.gcd_add_mul_left_right,Jeh]
structure FunD (K:Frag)(x qual:Str)(st:Stmt)(f:Addr)(fd:FuncData)(T:Addr):Prop where
 ex:∃ (oc:Value) (od:Option Addr) (kV doc pm:Value) (an:Option Addr) (cdv ct:Value) (osl:Array (Option Value)),
  fd=PySem.W.fnOf x qual (Zcu st) (Zcd st) (Zah st) (.ref T) kV doc pm an cdv ct/\K.lookup f=some ⟨oc,od,.func fd,osl⟩/\PySem.W.codeIn K cdv qual=true
section
theorem FunD.ok {x qual:Str}{st:Stmt}{f T:Addr}{fd:FuncData}{N ps:List Str}{k:Nat}{sp:Sp}(F:FunD K x qual st f fd T)(S:FnScope N ps (Zah st))(len:∀ vs H Q E,sp vs H Q E->vs.length=ps.length)(hbody:∀ (cdv:Value) (A:Around) (outer:List Env) (s:Shared) (H:Hp) (vs:List V) (Q:VK) (E:XK),Room k (A.deeper (envOfC qual (Zah st) s.heap.objs.size f cdv))->sp vs H Q E->
   ∃ t,PSs (Zwh CX0 P w K mg base N qual (Zah st) f cdv A outer s H E).nox (Zcd st) t/\t { nx:=λ_ H'=>Q .non H',rt:=Q } (start N vs) H):FnOk P w K mg base CX0 (k+1) f fd ps sp:=by
 refine Zqq F.ex λoc od kV doc pm an cdv ct osl e91 lk hcd=>?_;obtain rfl:=e91;refine fn_of lk hcd S len λA outer s H vs Q E hr hsp=>?_;refine Zad (hbody cdv A outer s H vs Q E hr hsp) λt h q=>?_;exact⟨t,h.nox,q⟩
end
structure CalD (P:Program)(w:World)(K:Frag)(mg:Str->Option Value)(base:Heap)(C:Addr)(m:Str)(k:Nat)(sp:Sp)(dvs:List V):Prop where
 ex:∃ (f:Addr) (fd:FuncData) (ps:List Str) (ds:List Value),FnOk P w K mg base CX0 k f fd ps sp/\Meth K C m f/\Binds K fd ps ds/\Vals dvs ds
theorem Zla {X:Cx}{m:Str}{C:Addr}{k:Nat}{sp:Sp}{dvs:List V}{o e:Expr}{es:List Expr}{ta:TE}{t:TA}{apos pos:Pos}{pl:Sem Bool}(c:Cls X.K C)(M:CalD X.prog X.w X.K X.mg X.base C m k sp dvs)(hr:Room k X.A)(ho:PE X o ta)(ha:PA X (e::es) t)(h:Zb8 e=false:=by rfl)(h2:es.all (λx=>!Zb8 x)=true:=by rfl)(ht:eval (.Call (.Attribute o m apos) (e::es) [] pos) X.env=(do
   let ov <- eval o X.env
   standAt apos.atName
   let (f,first) <- holding [ov] (getMethod ov m pl)
   callWith pos f first (backTo pos (starEach (e::es) X.env)) (backToKw pos (keywordEach [] X.env))):=by rfl):
  PE X (.Call (.Attribute o m apos) (e::es) [] pos) (Zq6 C m sp dvs E0 ta t):=by
 refine Zb5 M.ex λf fd ps ds F hm hb hd=>?_;exact Zr7 ho c hm F hr hb hd Zu3 ha (Za9 h) (Zfj h2) ht
theorem Zg5 {K:Frag}{fd:FuncData}{ps:List Str}{T:Addr}{oc:Value}{od:Option Addr}{osl:Array (Option Value)}{items:Array Value}{n:Nat}{ds:List Value}(lk:K.lookup T=some ⟨oc,od,.seq items n,osl⟩)(hd:fd.defaults=.ref T)(h:∀ us:List Value,(us++ds).length=ps.length->∃ k,bindArgs fd ⟨us,[]⟩=seqItems? fd.defaults >>= k/\k (some items)=pure (ps.zip (us++ds))):Binds K fd ps ds:=λs us KX hl=>by
 refine Zad (h us hl) λk h1 h2=>?_;exact .of_defaults hd (KX T _ lk) rfl h1 h2
def rBits:V->List V->Hp->VK->Prop:=λx vs H Q=>∃ i:Int,x=.int i/\vs=[]/\Q (.int ((Builtin.Int.intBits i:Nat):Int)) H
theorem Zny {X:Cx}:MtM X "int.bit_length" rBits:=by
 intro pins s σ H x vs v us Q I rx rv h;refine Zav h λi e91 e92 q=>?_;clear h;obtain rfl:=e91;obtain rfl:=e92;obtain⟨t,rfl⟩:=rx;have hus:=rv.zero;subst hus;exact call_gives F.slot_int_bit_length (typeIs_int s i t) F.entry_int_bit_length (F.args_int_bit_length_1 _) (AutoIntG2.int_bit_length_int_0 i t) ⟨.int ((Builtin.Int.intBits i:Nat):Int),H,I.tok _,⟨_,rfl⟩,q⟩
theorem bits_le {i:Int}{n:Nat}(h:i.natAbs<2 ^ n):Builtin.Int.intBits i<=n:=by
 unfold Builtin.Int.intBits;split
 .exact Jb9 _
 .rename_i h0
  have h1:i.natAbs≠0:=by
   intro e;exact h0 (by simp[Int.natAbs_eq_zero.mp e])
  exact (Nat.log2_lt h1).mpr h
end L2
namespace L2
open PySem PySem.Spec PyProof.Rows
def Ite (K:Frag)(a:Addr):It:=
 ⟨λi H=>∃ xs x,SqL K H a xs/\xs[i]?=some x,λi H v H'=>∃ x p,v=.ref p/\H p=none/\H'=upd H p (.tup [.int i,x])/\(∀ xs,SqL K H a xs->xs[i]?=some x),λi H=>∃ xs,SqL K H a xs/\xs.length<=i⟩
theorem Zuj {P:Program}{w:World}{K:Frag}{elts:List Expr}{x1:Nat}{pos:Pos}{e i1 a:Addr}(hne:e≠i1):
  Turn P w K (.Tuple elts x1 pos) (Ite K a) [e,i1] e (λi h=>(∃ old,IsEnum h e i1 (i:Int) old)/\h.IsListIter i1 a i) where
 mem:=by simp
 obj:=λi h st c hc=>by
  obtain⟨⟨old,hz⟩,⟨o1,e1,c1,d1⟩⟩:=st;simp at hc;rcases hc with rfl|rfl
  .exact ⟨_,hz,λv z=>by have z':Data.fields _=Data.cell v:=z;cases z'⟩
  .exact ⟨o1,e1,λv z=>by rw[d1] at z;cases z⟩
 keep:=λi h h' st k=>by
  obtain⟨⟨old,hz⟩,h1⟩:=st;exact⟨⟨old,k e (by simp) _ hz⟩,h1.at λo e=>k i1 (by simp) o e⟩
 item:=by
  intro X hP hw hK hc i pins s σ H E I hf st hg;subst hP hw hK;refine Zbh hg λxs x hqa hx=>?_;clear hg;refine Zav (I.list hqa) λits rv p hz1=>?_;refine Zad (rv.get hx) λu hu ru=>?_;obtain⟨⟨old,hz⟩,h1⟩:=st;refine wpAny_pyNext_enum_item hz h1 p.isList (by simpa using hu) hne λh' a1 a2 a3 a4 a5=>?_;refine⟨_,rfl,wpAny_letOwnedTupleGo_enum a1 λh'' b1 b2=>?_⟩;have nz:s.heap.objs.size≠e:=Jb7 (Jam hz);have k2:∀ c o,c∉[e,i1]->s.heap.get? c=some o->h''.get? c=some o:=λc o hc q=>by
   simp at hc;exact b2.extBut _ _ hc.1 (a5 c o hc.1 hc.2 q)
  have I2:Inv X pins σ (upd H s.heap.objs.size (.tup [.int i,x])) { s with heap:=h'',toks:=s.toks+1 }:=I.turnedT (t':=s.toks+1) hf k2 (Jai _)
   ⟨by show 2<=sizeLine;decide,[.int i s.toks,u],.cons ⟨_,rfl⟩ (.cons ru .nil),_,b2.extBut _ _ nz a3,rfl,_,rfl⟩
  refine Zat (.ref s.heap.objs.size) _ ⟨I2,rfl,⟨x,_,rfl,I.hok.fresh (Jai _),rfl,λxs' hq=>by rw[I.list_inj hq hqa];exact hx⟩,⟨⟨x |> λ_=>u,by simpa using b1⟩,a2.extBut b2.extBut hne.symm⟩,λc hc=>?_⟩;have hlt:∀ c∈[e,i1],c<s.heap.objs.size:=λc hc=>by
   simp at hc;refine Zad h1 λo1 e1 _=>?_;clear h1;rcases hc with rfl|rfl
   .exact Jam hz
   .exact Jam e1
  rw[Zag (Ja9 (hlt c hc))];exact (hf c hc).1
 done:=by
  intro X hP hw hK hc i pins s σ H E I hf st hg;subst hP hw hK;refine Zad hg λxs hqa hx=>?_;clear hg;refine Zav (I.list hqa) λits rv p hz1=>?_;obtain⟨⟨old,hz⟩,h1⟩:=st;have l1:=rv.length;refine wpAny_pyNext_enum_end (I.ok.hd hc) hz h1 p.isList (by simp;omega) λh' kk=>⟨rfl,I.turnedL (t':=s.toks) hf λc o hc q=>?_⟩
  simp at hc;exact kk c o hc.2 q
 self:=λ_ _ _ _ _ st h=>by
  obtain⟨⟨old,hz⟩,h1⟩:=st;exact Jff hz h
section
variable {X:Cx}
def iEnm (K:Frag)(ta:TA):TI:=λσ H R=>ta σ H λvs H1=>∃ a,vs=[.ref a]/\(∃ xs,SqL K H1 a xs)/\R (Ite K a) H1
theorem Zw2 {elts:List Expr}{x1:Nat}{pt p pos:Pos}{a:Expr}{ta:TA}(hg:Gl X "enumerate")(hm:X.mg "enumerate" = none)(ha:PA X [a] ta)(h:Zb8 a=false:=by rfl):
  PI X (.Tuple elts x1 pt) (.Call (.Name "enumerate" p) [a] [] pos) (iEnm X.K ta):=by
 intro pins s σ H R I hh;refine Call_ (Zfh I hg hm boot_enumerate (Jbl (thn (ha pos pins s σ H _ I hh) λus s1 ⟨vs,H1,I1,r1,q1⟩=>?_) (by rw[Za9 h]) ⇑1));refine Zav q1 λc e e93 q=>?_;clear q1;obtain⟨xs,hq1⟩:=e93;subst e;cases r1 with
 | cons r rr=>
   cases rr;cases r;refine Zav (I1.list hq1) λits rv p1 hz1=>?_;refine call_enumerate_list p1.isList λh' a1 a2 a3 a4=>Jff (s:={ s1 with heap:=h' }) a1 ?_;refine Zir _ _ _ _ H1 ⟨rfl,I1.kept (t':=s1.toks) a4,Zuj (Nat.succ_ne_self _),⟨⟨_,a1⟩,a2⟩,λb hb=>?_,q⟩;have hb':s1.heap.objs.size<=b:=by
    simp at hb;rcases hb with rfl|rfl
    .exact Jdh _ _
    .exact Jai _
   have:=(I1.fpOk (H':=H1) hb' (I1.hok.fresh hb'))
   exact this
end
section
variable {K:Frag}{a b D:Addr}{xs ys:List V}{g:TG}{tt:TT}{te:TE}{k:Nat}{fr:List (Str×Nat)}{σ:St}{H1:Hp}{Q:VK}
theorem for_enm {tb:TS}{Dn:Ends}{σ:St}{H:Hp}(Pv:Nat->St->Hp->Prop)(h0:Pv 0 σ H)(hl:∀ i σ H,i<=xs.length->Pv i σ H->SqL K H a xs)(hs:∀ (i:Nat) x p σ H,xs[i]?=some x->H p=none->Pv i σ H->g (.ref p) σ (upd H p (.tup [.int i,x])) λσ2 H2=>tb { Dn with nx:=Pv (i+1),ct:=Pv (i+1),bk:=Dn.nx } σ2 H2)(hd:∀ σ H,Pv xs.length σ H->Dn.nx σ H):
  ∃ W:Nat->Nat->St->Hp->Prop,(∃ m,W 0 m σ H)/\∀ i m σ H,W i m σ H->
   ((Ite K a).stop i H/\Dn.nx σ H)\/((Ite K a).go i H/\∃ N:St->Hp->Prop,(∀ σ' H',N σ' H'->∃ m',m'<m/\W (i+1) m' σ' H')/\∀ x H',(Ite K a).yld i H x H'->g x σ H' λσ2 H2=>tb { Dn with nx:=N,ct:=N,bk:=Dn.nx } σ2 H2):=by
 refine⟨λi m σ H=>m=xs.length-i/\i<=xs.length/\Pv i σ H,⟨xs.length,by simp,Jb9 _,h0⟩,?_⟩;intro i m σ H e91;refine Za2 e91 λe94 hi p=>?_;clear e91;obtain rfl:=e94;have q:=hl i σ H hi p;by_cases hlt:i<xs.length
 .refine .inr ⟨⟨xs,xs[i],q,by simp[hlt]⟩,Pv (i+1),λσ' H' p'=>⟨xs.length-(i+1),∅,rfl,hlt,p'⟩,λx H' y=>?_⟩;refine Zdw y λu pp e95 hp e96 e1=>?_;clear y;obtain rfl:=e95;obtain rfl:=e96;exact hs i u pp σ _ (e1 xs q) hp p
 .have e:i=xs.length:=∅
  subst e;exact .inl ⟨⟨xs,q,Jai _⟩,hd σ H p⟩
theorem Zwj (Pv:Nat->List V->Hp->Prop)(h0:Pv 0 [] (upd H1 D (.lst [])))(hl:∀ i vs H,i<=xs.length->Pv i vs H->SqL K H a xs)(hs:∀ (i:Nat) x p vs σ' H,i<xs.length->xs[i]?=some x->H p=none->Sh k (Zbv fr σ) σ'->Pv i vs H->Ze0 g tt te D xs.length k (Zbv fr σ) Pv i (.ref p) σ' (upd H p (.tup [.int i,x])))(hd:∀ vs H,Pv xs.length vs H->Q (.ref D) H):
  Zb6 g tt te (Ite K a) D (Zg7 k fr σ) H1 Q:=by
 refine⟨Wv xs.length k (Zbv fr σ) Pv,⟨xs.length,by simp,Jb9 _,sh0,[],h0⟩,?_⟩;intro i m σ' H2 e92;refine Zb0 e92 λe97 hi sh e98=>?_;clear e92;obtain rfl:=e97;obtain⟨vs,p⟩:=e98;have q1:=hl i vs H2 hi p;by_cases hlt:i<xs.length
 .refine .inr ⟨⟨xs,xs[i],q1,by simp[hlt]⟩,λx H3 y=>?_⟩;refine Zdw y λu pp e99 hp e910 e1=>?_;clear y;obtain rfl:=e99;obtain rfl:=e910;exact hs i u pp vs σ' _ hlt (e1 _ q1) hp sh p
 .have e:i=xs.length:=∅
  subst e;exact .inl ⟨⟨xs,q1,Jai _⟩,hd vs H2 p⟩
end
end L2
namespace L2
open PySem PySem.Spec PyProof.Rows PySem.W
structure Trk (B:Heap)(fr:List Env)(e:Addr)(cls c0 fl:Value)(h:Heap):Prop where
 st:B.StaysIn h
 nw:B.get? e=none
 ff:h.FunFrames B fr
 ob:∃ (o:Obj) (vs:Array Value) (T:Addr) (oT:Obj) (us:Array Value),h.get? e=some o/\o.cls=cls/\o.data=.fields vs/\vs[2]?=some c0/\vs[1]?=some (.ref T)/\B.get? T=none/\T≠e/\h.get? T=some oT/\oT.data=.fields us/\us[3]?=some fl
section
variable {M:Model}{A:Around}{E:Value->Shared->Prop}{s:Shared}{B:Heap}{fr:List Env}{e L:Addr}{cls c0:Value}{Q:Unit->Shared->Prop}
end
end L2
namespace L2
open PySem PySem.Spec PyProof.Rows PySem.W
structure Fly (P:Program)(w:World)(outer:List Env)(H:Hp)(s:Shared)(a:Addr)(cls c0:Value)(H':Hp)(s':Shared):Prop where
 os:s'.os=s.os
 bare:AllBare s'.gens
 hok:HOk P w H' s'.heap
 un:Un (frs outer) [] H H' s.heap s'.heap
 fly:∃ B,Trk B outer a cls c0 .none s'.heap/\(∀ b o,s.heap.get? b=some o->b∉frs outer->∃ o',B.get? b=some o')/\∀ b u,H' b=some u->∃ o',B.get? b=some o'
 new:∀ o,s.heap.get? a≠some o
 free:H' a=none
def CXe (P:Program)(w:World):CXT:=λouter H s E e s'=>∃ (a:Addr) (cls c0:Value) (H':Hp),e=.ref a/\Fly P w outer H s a cls c0 H' s'/\E cls none H'/\(c0=.none\/E cls (some 0) H')
section
variable {N:List Str}{qual:Str}{scope:Scope}{f:Addr}{cd:Value}{A:Around}{outer:List Env}{s:Shared}{H:Hp}{E:XK}{pins:List (Addr×Obj)}{σ:St}{H1:Hp}{s1 s2:Shared}{e:Addr}{cls:Value}
end
end L2
namespace L2
open PySem PySem.Spec PyProof.Rows PySem.W
def Zwx (t:TA)(R:Hp->Prop):TS:=λ_ σ H=>t σ H λvs H1=>vs.length<=1000/\R H1
section
variable {X:Cx}{x:Str}{C:Addr}{bm bmN:List Value}{B Bn newId nid initId inN:String}{np cpos pos:Pos}{e₀:Expr}{rest:List Expr}{t:TA}{R:Hp->Prop}
end
end L2
namespace L2
open PySem PySem.Spec PyProof.Rows PySem.W
section
end
section
variable {X:Cx}{pins:List (Addr×Obj)}{σ:St}{H H':Hp}{s s':Shared}{a:Addr}{cls:Value}
end
end L2
namespace L2
open PySem PySem.Spec PyProof.Rows PySem.W
section
variable {M:Model}{A:Around}{E:Value->Shared->Prop}
variable {nm q:Str}{C N:Addr}{bs bm:List Value}{hdct:Bool}{sn:List Str}{sub:List Value}{ab:Bool}{col:Option Bool}{dd:Option Addr}{k0 k1 k2 k3 k5:Option Value}{newId:String}
variable {nm' q':Str}{C' N':Addr}{bs' bm':List Value}{hdct':Bool}{sn':List Str}{sub':List Value}{ab':Bool}{col':Option Bool}{dd':Option Addr}{j0 j1 j2 j3 j5:Option Value}{newId':String}
end
end L2
namespace L2
open PySem PySem.Spec PyProof.Rows PySem.W
abbrev Cx.pnx (X:Cx)(pins:List (Addr×Obj)):Cx:={ X with pn:=X.pn++pins }
abbrev Cx.hnd (X:Cx)(pins:List (Addr×Obj))(a:Addr):Cx:={ X with pn:=X.pn++pins,A:=X.A.mark (some (.ref a)),calm:=false,xe:=λ_ _=>False }
section
variable {X:Cx}{pins pins':List (Addr×Obj)}{σ:St}{H:Hp}{s:Shared}{a:Addr}
theorem Inv.pnx (I:Inv X pins σ H s):Inv (X.pnx pins) [] σ H s:=
 ⟨⟨I.ok.mod,I.ok.kind,I.ok.glob,I.ok.blt,I.ok.above,I.ok.inj,I.ok.has,I.ok.cab,I.ok.hd,I.ok.frames,I.ok.stk,I.ok.exf,I.ok.bs,I.ok.bsz,I.ok.noex,I.ok.exfs,I.ok.funs,I.ok.frf,I.ok.top⟩,I.os,I.bare,I.base,I.loc,I.cell,I.free,I.freeC,λp hp=>I.pin p (by simpa using hp),I.hok,I.len⟩
theorem Inv.hnd (I:Inv X pins σ H s)(a:Addr):Inv (X.hnd pins a) [] σ H s:=
 ⟨⟨I.ok.mod,I.ok.kind,I.ok.glob,I.ok.blt,I.ok.above,I.ok.inj,I.ok.has,I.ok.cab,(λz=>nomatch z),I.ok.frames,I.ok.stk,I.ok.exf,I.ok.bs,I.ok.bsz,I.ok.noex,I.ok.exfs,I.ok.funs,I.ok.frf,I.ok.top⟩,I.os,I.bare,I.base,I.loc,I.cell,I.free,I.freeC,λp hp=>I.pin p (by simpa using hp),I.hok,I.len⟩
theorem Inv.track {o:HO}(I:Inv X pins σ H s)(hn:H a=none)(h0:∀ u,X.s₀.heap.get? a≠some u)(hL:a≠X.env.locals)(hc:∀ x c,X.env.cells.lookup x=some c->c≠a)(hp:∀ p∈X.pn++pins,p.1≠a)(new:ObjOk X.prog X.w (upd H a o) s.heap a o):Inv X pins σ (upd H a o) s:=by
 have ne:∀ {b:Addr} {u:HO},H b=some u->b≠a:=λ{b u} hb z=>by rw[z,hn] at hb;cases hb
 refine⟨I.ok,I.os,I.bare,⟨I.base.keep,I.base.slot,λb u q n hx=>?_,I.base.there,λb xs z=>?_,λb u v z=>?_,λb ps z=>?_⟩,I.loc,I.cell,?_,λx c e=>?_,λp hp'=>?_,λb u hb=>?_,I.len⟩
 .rw [Zag (λz=>h0 u (by rw[<- z];exact q))];exact I.base.free b u q n hx
 .have:=I.base.tups b xs z;rw[Zag (ne this)];exact this
 .have:=I.base.frzs b u v z;rw[Zag (ne this)];exact this
 .obtain ⟨m,e⟩:=I.base.tbls b ps z;exact⟨m,by rw[Zag (ne e)];exact e⟩
 .rw [Zag hL.symm];exact I.free
 .rw [Zag (hc x c e)];exact I.freeC x c e
 .refine Zcf (I.pin p hp') λp1 p2 p3 p4 p5=>?_;exact⟨p1,by rw[Zag (hp p hp')];exact p2,p3,p4,p5⟩
 .by_cases hb':b=a
  .subst hb';rw[Zab] at hb;cases hb;exact new
  .rw [Zag hb'] at hb;exact (I.hok b u hb).stay (λ_ _ _ q=>q) (λc z=>by rw[Zag (ne z)];exact z) (λc xs z=>by rw[Zag (ne z)];exact z) λc _ _ z=>by rw[Zag (ne z)];exact z
end
def isExc (a:Addr)(cls:Value):HO:=.ext λh=>∃ ob,h.get? a=some ob/\ob.cls=cls
def hEnds (X:Cx)(D:Ends):Ends:={ nx:=λ_ H=>D.nx (List.replicate X.N.length none) H,rt:=D.rt,bk:=λ_ H=>D.bk (List.replicate X.N.length none) H,ct:=λ_ H=>D.ct (List.replicate X.N.length none) H }
def tTry (X:Cx)(E':XK)(tb:TS)(i:Nat)(th:TS):TS:=λD σ H=>tb D σ H/\∀ (cls:Value) (H':Hp) (a:Addr) (σ':St),E' cls none H'->H' a=none->σ'.length=X.N.length->th (hEnds X D) (σ'.set i (some (.ref a))) (upd H' a (isExc a cls))
section
variable {X:Cx}{x n:Str}{np hpos pos:Pos}{body suite:List Stmt}{b₀:Stmt}{E':XK}{tb th:TS}{i:Nat}{D:Addr}{bmD:List Value}{newD:String}
end
end L2
namespace L2
open PySem PySem.Spec PySem.Calls PyProof.Rows PySem.W Builtin Builtin.ObjectAttr Builtin.Getset_descriptor
structure ExcCls (K:Frag)(C:Addr):Prop where
 ga:findIn K (.ref C) "__getattribute__" = some (some (.builtin "BaseException.__getattribute__"))
 gt:findIn K (.ref C) "__getattr__" = some none
 cl:findIn K (.ref C) "__class__" = some (some (.builtin "object.__class__"))
 so:mroIn K C (.type "object")=some true
 sb:mroIn K C (.type "BaseException")=some true
section
variable {prog:Program}{w:World}{A:Around}{E:Value->Shared->Prop}{h:Heap}{g:Array GenState}{d:Drawn}{t:Nat}{os:OsState}{a C:Addr}{ox:Obj}{K:Frag}
end
end L2
namespace L2
open PySem PySem.Spec PyProof.Rows PySem.W
section
variable {X:Cx}
end
end L2
namespace L2
open PySem PySem.Spec PyProof.Rows PySem.W
structure CalE (P:Program)(w:World)(K:Frag)(mg:Str->Option Value)(base:Heap)(x:Str)(k:Nat)(sp:Sp):Prop where
 ex:∃ (f:Addr) (fd:FuncData) (ps:List Str),FnOk P w K mg base (CXe P w) k f fd ps sp/\mg x=some (.ref f)/\PySem.W.keepIn K (.ref f)=true/\Binds K fd ps []
structure CalME (P:Program)(w:World)(K:Frag)(mg:Str->Option Value)(base:Heap)(C:Addr)(m:Str)(k:Nat)(sp:Sp):Prop where
 ex:∃ (f:Addr) (fd:FuncData) (ps:List Str),FnOk P w K mg base (CXe P w) k f fd ps sp/\Meth K C m f/\Binds K fd ps []
structure CalIE (P:Program)(w:World)(K:Frag)(mg:Str->Option Value)(base:Heap)(x:Str)(C:Addr)(k:Nat)(sp:Sp):Prop where
 ex:∃ (f:Addr) (fd:FuncData) (ps:List Str),FnOk P w K mg base (CXe P w) k f fd ps sp/\Mk K C f/\mg x=some (.ref C)/\Binds K fd ps []
section
variable {X:Cx}{x m:Str}{k:Nat}{sp:Sp}{e o:Expr}{es:List Expr}{ta:TE}{t:TA}{p pos apos:Pos}{E:XK}{C:Addr}
end
theorem hnd_K {X:Cx}{pins:List (Addr×Obj)}{a:Addr}:(X.hnd pins a).K=X.K:=rfl
theorem pnx_K {X:Cx}{pins:List (Addr×Obj)}:(X.pnx pins).K=X.K:=rfl
structure CalDE (P:Program)(w:World)(K:Frag)(mg:Str->Option Value)(base:Heap)(C:Addr)(m:Str)(k:Nat)(sp:Sp)(dvs:List V):Prop where
 ex:∃ (f:Addr) (fd:FuncData) (ps:List Str) (ds:List Value),FnOk P w K mg base (CXe P w) k f fd ps sp/\Meth K C m f/\Binds K fd ps ds/\Vals dvs ds
section
variable {N:List Str}{qual:Str}{scope:Scope}{f:Addr}{cd:Value}{A:Around}{outer:List Env}{s:Shared}{H:Hp}{E:XK}
end
end L2
namespace L2
open PySem PySem.Spec PyProof.Rows
structure RoomH (k:Nat)(A:Around):Prop where
 dp:A.depth+3*k+205<recursionLimit
 un:A.units+16*k+200<cLine
theorem Room.mark {k:Nat}{A:Around}(r:Room k A)(v:Option Value):RoomH k (A.mark v):=⟨r.dp,r.un⟩
structure FnOkH (P:Program)(w:World)(K:Frag)(mg:Str->Option Value)(base:Heap)(CX:CXT)(k:Nat)(f:Addr)(fd:FuncData)(ps:List Str)(sp:Sp):Prop where
 len:∀ vs H Q E,sp vs H Q E->vs.length=ps.length
 run:∀ (A:Around) (outer:List Env) (s:Shared) (H:Hp) (args:Args) (us:List Value) (vs:List V) (Q:VK) (E:XK),RoomH k A->Env0 P w K mg base A outer s H->BindsTo s fd args (ps.zip us)->Vals vs us->sp vs H Q E->
  codeAny (model P w) A (.call (.ref f) args) (CR CX outer P w H s Q E) s
section
structure CalH (P:Program)(w:World)(K:Frag)(mg:Str->Option Value)(base:Heap)(x:Str)(k:Nat)(sp:Sp):Prop where
 ex:∃ (f:Addr) (fd:FuncData) (ps:List Str),FnOkH P w K mg base CX0 k f fd ps sp/\mg x=some (.ref f)/\PySem.W.keepIn K (.ref f)=true/\Binds K fd ps []
end
section
variable {X:Cx}{CX:CXT}{k:Nat}{f C:Addr}{fd:FuncData}{ps:List Str}{sp:Sp}{dvs:List V}{ds:List Value}{E:XK}{x m:Str}{p pos apos:Pos}{e o:Expr}{es:List Expr}{ta:TE}{t:TA}
end
section
variable {X:Cx}
end
end L2
namespace L2
open PySem PySem.Spec PyProof.Rows
end L2
namespace L2
open PySem PySem.Spec PyProof.Rows
theorem Zoa:typeLookup (.type "enumerate") "__len__" = pure none:=by rw[typeLookup_type,builtinLookup_eq_fast];kernel_rfl
theorem Zmr:typeLookup (.type "enumerate") "__length_hint__" = pure none:=by rw[typeLookup_type,builtinLookup_eq_fast];kernel_rfl
section
variable {prog:Program}{w:World}{A:Around}{s:Shared}{E:Value->Shared->Prop}
end
section
variable {X:Cx}
end
def Itv (K:Frag)(a:Addr)(n:Nat):It:=
 ⟨λi H=>∃ xs,SqL K H a xs/\xs.length=n/\i<n,λi H v H'=>H'=H/\∀ xs,SqL K H a xs->xs[n-1-i]?=some v,λi H=>∃ xs,SqL K H a xs/\xs.length=n/\i=n⟩
theorem Zui {P:Program}{w:World}{K:Frag}{tg:Expr}{it a:Addr}{n:Nat}(hne:a≠it):Turn P w K tg (Itv K a n) [it] it (λi h=>h.IsRevIter it a ((n:Int)-1-(i:Int))) where
 mem:=by simp
 obj:=λi h st c hc=>by
  refine Zav st λo1 e1 c1 d1=>?_;clear st;simp at hc;subst hc;exact⟨o1,e1,λv z=>by rw[d1] at z;cases z⟩
 keep:=λi h h' st k=>st.at λo e=>k it (by simp) o e
 item:=by
  intro X hP hw hK hc i pins s σ H E I hf st hg;subst hP hw hK;refine Zav hg λxs hqa hn hi=>?_;clear hg;refine Zav (I.list hqa) λits rv p hz1=>?_;have hx:xs[n-1-i]?=some (xs[n-1-i]'(by omega)):=Jaa _;refine Zad (rv.get hx) λu hu ru=>?_;have e:(n:Int)-1-(i:Int)=((n-1-i:Nat):Int):=∅
  rw[e] at st;refine wpAny_pyNext_rev_item st p.isList (by simpa using hu) λh' hit' sb=>?_;refine Zav (id hit') λo' ho' hc' hd'=>?_;refine⟨u,rfl,Zv8 (s:={ s with heap:=h' }) ho' hc' hd' ⇑0 ?_⟩;have f:=hf it (by simp);have I2:Inv X pins σ H { s with heap:=h' }:=I.turnedL (t':=s.toks) hf λc o hc q=>(sb.2 c (by simpa using hc)).trans q;refine Zat _ _ ⟨I2,ru,⟨rfl,λxs' hq=>by rw[I.list_inj hq hqa];exact hx⟩,?_,λc hc=>(hf c hc).1⟩;have e2:((n-1-i:Nat):Int)-1=(n:Int)-1-((i+1:Nat):Int):=∅
  rw[e2] at hit';exact hit'
 done:=by
  intro X hP hw hK hc i pins s σ H E I hf st hg;subst hP hw hK;refine Zav hg λxs hqa hn e95=>?_;clear hg;obtain rfl:=e95;have e:(i:Int)-1-(i:Int)=-1:=∅
  rw[e] at st;exact wpAny_pyNext_rev_end (I.ok.hd hc) st λh' kk=>⟨rfl,I.turnedL (t':=s.toks) hf λc o hc q=>kk c o (by simpa using hc) q⟩
 self:=λ_ _ _ _ _ st h=>wpAny_pyIter_revIter st h
theorem Zlr:bootBuiltins "reversed" = some (.type "reversed"):=⋯
section
variable {X:Cx}
def iRvl (K:Frag)(ta:TA):TI:=λσ H R=>ta σ H λvs H1=>∃ a xs,vs=[.ref a]/\SqL K H1 a xs/\R (Itv K a xs.length) H1
theorem pi_rvl {tg:Expr}{p pos:Pos}{a:Expr}{ta:TA}(hg:Gl X "reversed")(hm:X.mg "reversed" = none)(ha:PA X [a] ta)(h:Zb8 a=false:=by rfl):
  PI X tg (.Call (.Name "reversed" p) [a] [] pos) (iRvl X.K ta):=by
 intro pins s σ H R I hh;refine Call_ (Zfh I hg hm Zlr (Jbl (thn (ha pos pins s σ H _ I hh) λus s1 ⟨vs,H1,I1,r1,q1⟩=>?_) (by rw[Za9 h]) ⇑1));refine Zbm q1 λc xs e hq1 q=>?_;clear q1;subst e;cases r1 with
 | cons r rr=>
  cases rr;cases r;refine Zav (I1.list hq1) λits rv p1 hz1=>?_;have hlen:=rv.length;have lt1:c<s1.heap.objs.size:=by obtain⟨o,ho,_⟩:=p1.isList;exact Jam ho
  refine call_reversed_list p1.isList ?_;have hit:(s1.heap.push (revObj c ((its.toArray.size:Int)-1))).IsRevIter s1.heap.objs.size c ((its.toArray.size:Int)-1):=⟨_,Ja4 _ rfl,rfl,rfl⟩
  refine wpAny_pyIter_revIter (s:={ s1 with heap:=s1.heap.push (revObj c ((its.toArray.size:Int)-1)) }) hit ?_;refine Zir _ _ _ _ H1 ⟨rfl,I1.kept (t':=s1.toks) λb o e=>Jak _ e,Zui (n:=xs.length) (Ja9 lt1),?_,λb hb=>?_,q⟩
  .have e:((xs.length:Nat):Int)-1-((0:Nat):Int)=(its.toArray.size:Int)-1:=by rw[Jaq,hlen];omega
   show Heap.IsRevIter _ _ _ (((xs.length:Nat):Int)-1-((0:Nat):Int));rw[e];exact hit
  .have hb':s1.heap.objs.size<=b:=by
    simp at hb;subst hb;exact Jai _
   exact I1.fpOk (H':=H1) hb' (I1.hok.fresh hb')
end
section
variable {K:Frag}{a:Addr}{xs:List V}{g:TG}
theorem for_rvl {tb:TS}{Dn:Ends}{σ:St}{H:Hp}(Pv:Nat->St->Hp->Prop)(h0:Pv 0 σ H)(hl:∀ i σ H,i<=xs.length->Pv i σ H->SqL K H a xs)(hs:∀ (i:Nat) x σ H,i<xs.length->xs[xs.length-1-i]?=some x->Pv i σ H->g x σ H λσ2 H2=>tb { Dn with nx:=Pv (i+1),ct:=Pv (i+1),bk:=Dn.nx } σ2 H2)(hd:∀ σ H,Pv xs.length σ H->Dn.nx σ H):
  ∃ W:Nat->Nat->St->Hp->Prop,(∃ m,W 0 m σ H)/\∀ i m σ H,W i m σ H->
   ((Itv K a xs.length).stop i H/\Dn.nx σ H)\/((Itv K a xs.length).go i H/\∃ N:St->Hp->Prop,(∀ σ' H',N σ' H'->∃ m',m'<m/\W (i+1) m' σ' H')/\∀ x H',(Itv K a xs.length).yld i H x H'->g x σ H' λσ2 H2=>tb { Dn with nx:=N,ct:=N,bk:=Dn.nx } σ2 H2):=by
 refine⟨λi m σ H=>m=xs.length-i/\i<=xs.length/\Pv i σ H,⟨xs.length,by simp,Jb9 _,h0⟩,?_⟩;intro i m σ H e91;refine Za2 e91 λe96 hi p=>?_;clear e91;obtain rfl:=e96;have q:=hl i σ H hi p;by_cases hlt:i<xs.length
 .refine .inr ⟨⟨xs,q,rfl,hlt⟩,Pv (i+1),λσ' H' p'=>⟨xs.length-(i+1),∅,rfl,hlt,p'⟩,λx H' y=>?_⟩;obtain⟨rfl,e1⟩:=y;exact hs i x σ _ hlt (e1 xs q) p
 .have e:i=xs.length:=∅
  subst e;exact .inl ⟨⟨xs,q,rfl,rfl⟩,hd σ H p⟩
end
end L2
namespace L2
open PySem PySem.Spec PyProof.Rows
section
variable {prog:Program}{w:World}{A:Around}{E:Value->Shared->Prop}{s:Shared}
theorem Zof {c n:Nat}(hc:c<=n):sliceBounds none (some (c:Int)) none n=((0:Int),(c:Int),1):=by
 simp only[sliceBounds,Option.getD_none];have h2:¬ ((c:Int)<0):=∅
 simp only[h2,Jdg,show (1:Int) > 0 by decide,Jc1];congr 2;omega
theorem Zj8 {l b sl:Addr}{items new:Array Value}{n n2:Nat}{vl vu:Value}{c:Nat}{Q:Unit->Shared->Prop}(e:s.heap.get? l=some { cls:=.type "list",data:=.seq items n })(e2:s.heap.get? b=some { cls:=.type "list",data:=.seq new n2 })(hne:l≠b)(hs:s.heap.IsSliceOf sl vl vu .none)(pl:IsPart vl none)(pu:IsPart vu (some (c:Int)))(hc:c<=items.size)(hsz:items.size+new.size<=sizeLine)(h:Q () { s with heap:=s.heap.update l (Obj.mapSeq λxs=>xs.extract 0 0++new++xs.extract c xs.size) }):
  wpAny (model prog w) A (setItem (.ref l) (.ref sl) (.ref b)) Q E s:=by
 have hl:s.heap.IsList l items:=PySem.IsL.isList e;have hb:s.heap.IsList b new:=PySem.IsL.isList e2;refine Zav (id hs) λos hos hcs hds=>?_;have hTs:s.TypeIs (.ref sl) "slice" := ⟨os,hos,hcs⟩
 have hstep:¬ ((rawPart none == rawInt 0)=true):=Jax;have hsame:Builtin.List.listSameRef (.ref l) (.ref b)=false:=by
  unfold Builtin.List.listSameRef;exact Jdf.mpr hne
 have hmax:(max (0:Int) (c:Int)).toNat=c:=∅
 have hz':((λxs:Array Value=>xs.extract 0 0++new++xs.extract c xs.size) items).size<=sizeLine+1:=by
  simp only[Array.size_append,Array.size_extract];omega
 unfold setItem
 try with_reducible refine Jch ?_
 first|refine Jag (Ja0 ?_)|skip
 refine Jag (wpAny_sequenceKey hl.typeIs ⇑0 ?_);refine Jag (Jd4 (name:=Str.ofString "__setitem__") hl.typeIs slot_list_setitem
  (wpAny_call_entry slot_list_setitem hl.typeIs entry_list_setitem ?_ (args_list_setitem _ _ _)))
 show wpAny _ _ (Builtin.List.listSubscript? (.ref sl) >>= _) _ _ s;refine Jag ?_;unfold Builtin.List.listSubscript?;refine Jag (wpAny_specialOf hTs slice_no_index ?_);simp only[Option.isNone_none,Jc1];refine Ja0 ?_;show wpAny _ _ (typeOf (.ref sl) >>= _) _ _ s;refine Jag (wpAny_typeOf hTs ?_)
 first
  | rw[if_neg ⇑0]
  | refine Je5 ⇑0 ?_
 rw[listSliceParts_eq];refine Jag (Jag (Jdn hos hds (x:=.none) rfl (Jag (wpAny_listPart .none ?_))));rw[if_neg hstep];refine Jag (Jdn hos hds (x:=vl) rfl (Jag (wpAny_listPart pl ?_)));refine Jag (Jdn hos hds (x:=vu) rfl (Jag (wpAny_listPart pu (Ja0 ?_))))
 first
  | simp only[hsame,Jci,Jdg]
  | refine Je5 hsame ?_
  | (dsimp only;rw[if_neg (by rw[hsame];exact Jax)])
 refine Jag (m:=Builtin.List.listAllItems (.ref b) "must assign iterable to extended slice") ?_;unfold Builtin.List.listAllItems;refine Jag (wpAny_typeOf hb.typeIs ?_)
 first
  | refine PySem.W.KFB.if_so ⇑0 ?_
  | rw[if_pos ⇑0]
  | simp only[beq_self_eq_true,Bool.true_or,Jc1]
 unfold Builtin.List.listItems;refine Jag (Jdy e2 rfl (Ja0 ?_));refine Jag (Jag (Jdy e rfl (Ja0 ?_)));refine Jag (wpAny_of_eq ((sliceIndices_raw none (some (c:Int)) none items.size (by simp)).trans (Jc8 (pure:Int×Int×Int->Sem (Int×Int×Int)) (Zof hc))) ?_);show wpAny _ _ (if ((1:Int) == 1)=true then _ else _) _ _ s;rw[if_pos ⇑0];refine Jag (wpAny_rule ?_)
 first
  | simp only[Zil hsz,Jci,Jdg]
  | refine Je5 (Zil hsz) ?_
 first|refine Jag (Ja0 ?_)|skip
 show wpAny _ _ (updateSeq l (λxs=>xs.extract 0 ((0:Int)).toNat++new++xs.extract (max (0:Int) (c:Int)).toNat xs.size) >>= _) _ _ s;rw[hmax,show (0:Int).toNat=0 from rfl];refine Jag (Jc2 (hz:=Ja3 (Jdh _ _) hsz) (_hz':=hz') e rfl ?_);refine Jag (Jex ?_)
 first
  | exact Jag (Ja0 (Ja0 ⟨.none,rfl,Ja0 h⟩))
  | exact Ja0 ⟨.none,rfl,Ja0 h⟩
end
end L2
namespace L2
open PySem PySem.Spec PyProof.Rows
abbrev Zlu (h:Heap)(e it:Addr)(i:Int)(item:Value)(a:Addr)(f:Bool):Prop:=
 h.get? e=some { cls:=.type "enumerate",dict:=none,data:=.fields #[rawInt a,.bool f,.ref it,rawInt i,.none,item],slots:=#[] }
section
variable {prog:Program}{w:World}{A:Around}{s:Shared}{E:Value->Shared->Prop}
theorem Zlm {e it l a:Addr}{f:Bool}{oa:Obj}{i:Nat}{items:Array Value}{x old:Value}{Q:Option Value->Shared->Prop}(he:Zlu s.heap e it i old a f)(ha:s.heap.get? a=some oa)(hae:a≠e)(hai:a≠it)(hit:s.heap.IsListIter it l i)(hl:s.heap.IsList l items)(hx:items[i]?=some x)(hne:e≠it)(hQ:∀ h',Zlu h' e it ((i:Int)+1) old a true->h'.IsListIter it l (i+1)->
   h'.get? s.heap.objs.size=some { cls:=.type "tuple",data:=.seq #[.int i s.toks,x] }->h'.objs.size=s.heap.objs.size+1->
   (∀ b o,b≠e->b≠it->s.heap.get? b=some o->h'.get? b=some o)->Q (some (.ref s.heap.objs.size)) { s with heap:=h',toks:=s.toks+1 }):
  wpAny (model prog w) A (pyNext (.ref e)) Q E s:=by
 have hT:s.TypeIs (.ref e) "enumerate" := ⟨_,he,rfl⟩
 unfold pyNext;refine Jag (wpAny_attempt (Jd4 (name:=Str.ofString "__next__") hT Jdo
  (wpAny_call_entry Jdo hT F.entry_enumerate_next ?_ (F.args_enumerate_next_1 _))))
 obtain⟨hp,g,d,tk,os⟩:=s;show wpAny _ _ (field (.ref e) 2 >>= _) _ _ _;refine Jag (Jdn he rfl (x:=.ref it) rfl ?_);refine Jag (wpAny_nextOf_list_item hit hl hx λh₁ hit₁ hs₁=>?_)
 replace hs₁:Heap.SameBut it hp h₁:=hs₁
 have he₁:Zlu h₁ e it i old a f:=(hs₁.2 e hne).trans he;show wpAny _ _ (field (.ref e) 3 >>= _) _ _ ⟨h₁,g,d,tk,os⟩;refine Jag (Jdn he₁ rfl (x:=rawInt i) rfl ?_);show wpAny _ _ (field (.ref e) 4 >>= _) _ _ ⟨h₁,g,d,tk,os⟩;refine Jag (Jdn he₁ rfl (x:=.none) rfl ?_);show wpAny _ _ (mkInt i >>= _) _ _ ⟨h₁,g,d,tk,os⟩;refine Jag (wpAny_mkInt ?_);show wpAny _ _ (setField (.ref e) 3 (rawInt ((i:Int)+1)) >>= _) _ _ ⟨h₁,g,d,tk+1,os⟩;refine Jag (Je6 he₁ (by simp) λh₂ he₂ hs₂=>?_)
 replace hs₂:Heap.SameBut e h₁ h₂:=hs₂
 replace he₂:Zlu h₂ e it ((i:Int)+1) old a f:=he₂
 show wpAny _ _ (setField (.ref e) 4 .none >>= _) _ _ ⟨h₂,g,d,tk+1,os⟩;refine Jag (Je6 he₂ (by simp) λh₃ he₃ hs₃=>?_)
 replace hs₃:Heap.SameBut e h₂ h₃:=hs₃
 replace he₃:Zlu h₃ e it ((i:Int)+1) old a f:=he₃
 show wpAny _ _ (newTuple [.int i tk,x] >>= _) _ _ ⟨h₃,g,d,tk+1,os⟩;refine Jag (wpAny_newTuple ?_);have he₄:Zlu (h₃.push { cls:=.type "tuple",data:=.seq #[.int i tk,x] }) e it ((i:Int)+1) old a f:=Jak _ he₃;generalize hh₄:h₃.push { cls:=.type "tuple",data:=.seq #[.int i tk,x] }=h₄ at he₄;have hsz:h₃.objs.size=hp.objs.size:=by rw[hs₃.1,hs₂.1,hs₁.1]
 have hel:e<hp.objs.size:=Jam he;have ht₄:h₄.get? hp.objs.size=some { cls:=.type "tuple",data:=.seq #[.int i tk,x] }:=by rw[<- hh₄,<- hsz];exact Ja4 _ rfl
 have hz₄:h₄.objs.size=hp.objs.size+1:=by rw[<- hh₄,Jc7,hsz]
 have hk₄:∀ b o,b≠e->b≠it->hp.get? b=some o->h₄.get? b=some o:=λb o hbe hbi hb=>by
  rw[<- hh₄];exact Jak _ (hs₃.extBut b o hbe (hs₂.extBut b o hbe (hs₁.extBut b o hbi hb)))
 have hit₄:h₄.IsListIter it l (i+1):=by
  rw[<- hh₄];obtain⟨o,ho,r⟩:=(hit₁.extBut hs₂.extBut (Jco hne)).extBut hs₃.extBut (Jco hne);exact⟨o,Jak _ ho,r⟩
 have ha₄:h₄.get? a=some oa:=hk₄ a oa hae hai ha;show wpAny _ _ (Builtin.SmallTypes.ownedTupleIsFree (.ref e) >>= _) _ _ ⟨h₄,g,d,tk+1,os⟩;rw[hsz];clear hh₄ he₃ hs₃ he₂ hs₂ he₁ hs₁ hit₁ hsz h₃ h₂ h₁;refine Jag ?_;unfold Builtin.SmallTypes.ownedTupleIsFree;refine Jag (Jdn he₄ rfl (x:=rawInt a) rfl ?_);show wpAny _ _ (loadIfAlive ((a:Int).toNat) >>= _) _ _ _;rw[Jbb];refine Jag (PySem.W.kdx_alive ha₄ ?_);simp only[Option.isNone_some,Jci,Jdg];refine Jag (Jdn he₄ rfl (x:=.bool f) rfl ?_);cases f with
 | true=>
  rw[if_neg (show ¬ ((Value.bool true != Value.bool true)=true) from Jax)];refine Ja0 ?_;simp only[Jci,Jdg];exact Ja0 ⟨_,rfl,Ja0 (hQ h₄ he₄ hit₄ ht₄ hz₄ hk₄)⟩
 | false=>
  rw[if_pos (show (Value.bool false != Value.bool true)=true from rfl)];refine Jag (Je6 he₄ (by simp) λh₅ he₅ hs₅=>?_)
  replace hs₅:Heap.SameBut e h₄ h₅:=hs₅
  replace he₅:Zlu h₅ e it ((i:Int)+1) old a true:=he₅
  refine Ja0 ?_;simp only[Jci,Jdg];exact Ja0 ⟨_,rfl,Ja0 (hQ h₅ he₅ (hit₄.extBut hs₅.extBut (Jco hne)) (hs₅.extBut _ _ (Jb7 hel) ht₄) (by rw[hs₅.1];exact hz₄) λb o hbe hbi hb=>hs₅.extBut b o hbe (hk₄ b o hbe hbi hb))⟩
theorem Zms {e it l a:Addr}{f:Bool}{i:Nat}{items:Array Value}{old:Value}{Q:Option Value->Shared->Prop}(hh:A.handled=none)(he:Zlu s.heap e it i old a f)(hit:s.heap.IsListIter it l i)(hl:s.heap.IsList l items)(hx:items[i]?=none)(hQ:∀ h',Heap.ExtBut it s.heap h'->Q none { s with heap:=h' }):wpAny (model prog w) A (pyNext (.ref e)) Q E s:=by
 have hT:s.TypeIs (.ref e) "enumerate" := ⟨_,he,rfl⟩
 unfold pyNext;refine Jag (wpAny_attempt (Jd4 (name:=Str.ofString "__next__") hT Jdo
  (wpAny_call_entry Jdo hT F.entry_enumerate_next ?_ (F.args_enumerate_next_1 _))))
 show wpAny _ _ (field (.ref e) 2 >>= _) _ _ _;refine Jag (Jdn he rfl (x:=.ref it) rfl ?_);refine Jag (wpAny_nextOf_list_end hh hit hl hx λh' x he' hx'=>?_);refine Zad hx' λo ho hc=>?_;clear hx';refine Jag (wpAny_isInstance (T:="StopIteration") (b:=true) ⟨o,ho,hc⟩ isSubtype_stop ?_);exact Ja0 (hQ _ he')
def EnSt (h:Heap)(e it S:Addr)(i:Nat):Prop:=
 (i=0/\∃ old,IsEnum h e it 0 old)\/∃ old a f oa,Zlu h e it i old a f/\h.get? a=some oa/\a≠e/\a≠it/\a≠S
theorem en_item {e it l S:Addr}{i:Nat}{items:Array Value}{x:Value}{Q:Option Value->Shared->Prop}(hst:EnSt s.heap e it S i)(hS:S<s.heap.objs.size)(hit:s.heap.IsListIter it l i)(hl:s.heap.IsList l items)(hx:items[i]?=some x)(hne:e≠it)(hQ:∀ h',EnSt h' e it S (i+1)->h'.IsListIter it l (i+1)->h'.get? s.heap.objs.size=some { cls:=.type "tuple",data:=.seq #[.int i s.toks,x] }->h'.objs.size=s.heap.objs.size+1->
   (∀ b o,b≠e->b≠it->s.heap.get? b=some o->h'.get? b=some o)->Q (some (.ref s.heap.objs.size)) { s with heap:=h',toks:=s.toks+1 }):
  wpAny (model prog w) A (pyNext (.ref e)) Q E s:=by
 rcases hst with ⟨rfl,old,he⟩|⟨old,a,f,oa,he,ha,h1,h2,h3⟩
 .exact wpAny_pyNext_enum_item he hit hl hx hne λh' ho hi' ht hz hk=>hQ h' (.inr ⟨x,_,false,_,ho,ht,Jb7 (Jam he),Jb7 (by obtain⟨_,z,_⟩:=hit;exact Jam z),Jb7 hS⟩) hi' ht hz hk
 .refine Zlm he ha h1 h2 hit hl hx hne λh' ho hi' ht hz hk=>hQ h' (.inr ⟨old,a,true,oa,?_,hk a oa h1 h2 ha,h1,h2,h3⟩) hi' ht hz hk;have e1:((i+1:Nat):Int)=(i:Int)+1:=∅
  rw[e1];exact ho
theorem en_done {e it l S:Addr}{i:Nat}{items:Array Value}{Q:Option Value->Shared->Prop}(hh:A.handled=none)(hst:EnSt s.heap e it S i)(hit:s.heap.IsListIter it l i)(hl:s.heap.IsList l items)(hx:items[i]?=none)(hQ:∀ h',Heap.ExtBut it s.heap h'->Q none { s with heap:=h' }):wpAny (model prog w) A (pyNext (.ref e)) Q E s:=by
 rcases hst with ⟨rfl,old,he⟩|⟨old,a,f,oa,he,ha,h1,h2,h3⟩
 .exact wpAny_pyNext_enum_end hh he hit hl hx hQ
 .exact Zms hh he hit hl hx hQ
structure EnG (items:Array Value)(lo:Addr)(h:Heap)(as:List Addr):Prop where
 rise:as.Pairwise (· < ·)
 above:∀ a∈as,lo<a
 pairs:∀ (j:Nat) (a:Addr),as[j]?=some a->∃ t x,items[j]?=some x/\h.get? a=some { cls:=.type "tuple",data:=.seq #[.int j t,x] }
end
section
variable {prog:Program}{w:World}{A:Around}{s:Shared}{R:Result->Shared->Prop}{items:Array Value}
theorem en_loop {S e it l:Addr}(hh:A.handled=none)(hei:e≠it)(he:e<S)(hi:it<S)(hle:l≠e)(hli:l≠it)(hlS:l≠S)(hn:items.size<=sizeLine)(res:Value){h₁:Heap}(hR:∀ h' tk acc c as,(∀ b o,b≠S->b≠e->b≠it->h₁.get? b=some o->h'.get? b=some o)->h'.get? S=some { cls:=.type "list",dict:=none,data:=.seq acc c,slots:=#[] }->as.length=items.size->EnG items S h' as->
   acc.toList=as.map Value.ref->R (.ok (.ret res)) { s with heap:=h',toks:=tk }):
  ∀ (k i:Nat) (h:Heap) (tk c:Nat) (acc:Array Value) (as:List Addr),items.size-i=k->i<=items.size->EnSt h e it S i->h.IsListIter it l i->h.IsList l items->(∀ b o,b≠S->b≠e->b≠it->h₁.get? b=some o->h.get? b=some o)->
   h.get? S=some { cls:=.type "list",dict:=none,data:=.seq acc c,slots:=#[] }->acc.toList=as.map Value.ref->as.length=i->EnG items S h as->
   codeAny (model prog w) A (.builtin "list.extend.loop" ⟨[.ref S,.ref e,res],[]⟩) R { s with heap:=h,toks:=tk }:=by
 have hSe:S≠e:=Jb7 he;have hSi:S≠it:=Jb7 hi;intro k
 induction k with
 | zero=>
  intro i h tk c acc as hk hi' hst hit hl hkeep hS hacc hal hG;refine Jd5 PySem.F.entry_extend_loop ?_;rw[Jc9 Jdz _];show wpAny _ A.in1 (pyNext (.ref e) >>= _) _ _ _;refine Jag (en_done (s:={ s with heap:=h,toks:=tk }) (A:=A.in1) hh hst hit hl (Array.getElem?_eq_none ∅) λh' hx=>?_);refine Ja0 (hR h' tk acc c as (λb o h1 h2 h3 q=>hx b o h3 (hkeep b o h1 h2 h3 q)) (hx S _ hSi hS) ∅ ⟨hG.rise,hG.above,λj a hj=>?_⟩ hacc);refine Zbh (hG.pairs j a hj) λt x e1 e2=>?_;exact Zat t x ⟨e1,hx a _ (Jb7 (Jei hi (hG.above a (Jae hj)))) e2⟩
 | succ k ih=>
  intro i h tk c acc as hk hi' hst hit hl hkeep hS hacc hal hG;have hlt:i<items.size:=∅
  have hx:items[i]?=some items[i]:=Array.getElem?_eq_getElem hlt;have hSl:S<h.objs.size:=Jam hS;refine Jd5 PySem.F.entry_extend_loop ?_;rw[Jc9 Jdz _];show wpAny _ A.in1 (pyNext (.ref e) >>= _) _ _ _;refine Jag (en_item (s:={ s with heap:=h,toks:=tk }) (A:=A.in1) hst hSl hit hl hx hei λh' hst' hit' ht hz hkp=>?_);have hS':=hkp S _ hSe hSi hS;show wpAny _ A.in1 (updateSeq S (·.push (.ref h.objs.size)) >>= _) _ _ _;have hsz:acc.size=i:=by
   have:=Jc8 List.length hacc;simp at this;omega
  refine Jag (Jc2 (hz:=by omega) hS' rfl ?_);have hS₂:=Jc5 (Obj.mapSeq (·.push (Value.ref h.objs.size))) hS' rfl;have up:∀ b o,b≠S->h'.get? b=some o->(h'.update S (Obj.mapSeq (·.push (Value.ref h.objs.size)))).get? b=some o:=λb o hb q=>(Jcn _ _ (Jco hb)).trans q;refine Ja0 ⟨Jd6 Jdz _,ih (i+1) _ _ _ _ (as++[h.objs.size]) ∅ hlt ?_ (hit'.at λo q=>up it o (Jco hSi) q) ?_ (λb o h1 h2 h3 q=>up b o h1 (hkp b o h2 h3 (hkeep b o h1 h2 h3 q))) hS₂ ?_ (by rw[Jah,hal];rfl) ⟨?_,λa ha=>?_,λj a hj=>?_⟩⟩
  .rcases hst' with ⟨z,_⟩|⟨old,a,f,oa,q1,q2,q3,q4,q5⟩
   .omega
   .exact .inr ⟨old,a,f,oa,up e _ (Jco hSe) q1,up a _ q5 q2,q3,q4,q5⟩
  .exact hl.at λo q=>up l o hlS (hkp l o hle hli q)
  .rw [Ja2,<- hacc];exact Array.toList_push
  .refine List.pairwise_append.mpr ⟨hG.rise,List.pairwise_singleton ..,λa ha b hb=>?_⟩;rw[Jas.mp hb];obtain⟨j,hj⟩:=List.mem_iff_getElem?.mp ha;refine Zbh (hG.pairs j a hj) λ_ _ _ q=>?_;exact Jam q
  .rcases Jal.mp ha with ha|ha
   .exact hG.above a ha
   .rw [Jas.mp ha];exact hSl
  .by_cases h0:j<as.length
   .rw [Jay h0] at hj;refine Zbh (hG.pairs j a hj) λt x e1 e2=>?_;have ha:=hG.above a (Jae hj);exact Zat t x ⟨e1,up a _ (Jb7 ha) (hkp a _ (Jb7 (Jei he ha)) (Jb7 (Jei hi ha)) e2)⟩
   .rw [Jav ∅] at hj;by_cases h1:j=as.length
    .subst h1;rw[Je7] at hj;cases hj;exact Zat tk (items[i]) ⟨by rw[hal];exact hx,up _ _ (Jb7 hSl) (by rw[hal];exact ht)⟩
    .rw [Jaj (by simp;omega)] at hj;cases hj
end
section
variable {prog:Program}{w:World}{A:Around}{s:Shared}{E:Value->Shared->Prop}
theorem Zn9 {R:Result->Shared->Prop}{e it l S:Addr}{items:Array Value}{res:Value}{c₀:Nat}(hh:A.handled=none)(he:IsEnum s.heap e it 0 .none)(hit:s.heap.IsListIter it l 0)(hl:s.heap.IsList l items)(hei:e≠it)(h1:e<S)(h2:it<S)(hle:l≠e)(hli:l≠it)(hlS:l≠S)(hn:items.size<=sizeLine)(hS:s.heap.get? S=some { cls:=.type "list",data:=.seq #[] c₀ })(hR:∀ h' tk acc c as,(∀ b o,b≠S->b≠e->b≠it->s.heap.get? b=some o->h'.get? b=some o)->h'.get? S=some { cls:=.type "list",dict:=none,data:=.seq acc c,slots:=#[] }->as.length=items.size->EnG items S h' as->
   acc.toList=as.map Value.ref->R (.ok (.ret res)) { s with heap:=h',toks:=tk }):
  wpAny (model prog w) A.in1 (Builtin.List.listExtendWith (.ref S) (.ref e) res)
   (λfin s'=>match fin with | .done f=>R (.ok f) s' | .again c'=>c'.quiet=true/\codeAny (model prog w) A c' R s') (λe s'=>R (.error e) s') s:=by
 have hSI:S≠e:=Jb7 h1;have hT:s.TypeIs (.ref e) "enumerate" := ⟨_,he,rfl⟩
 unfold Builtin.List.listExtendWith;refine Jag (wpAny_typeOf hT ?_);have h3:Builtin.List.listSameRef (.ref S) (.ref e)=false:=by simp[Builtin.List.listSameRef,hSI]
 have h4:(Value.type "enumerate" == Value.type "list")=false:=⇑0
 have h5:(Value.type "enumerate" == Value.type "tuple")=false:=⇑0
 simp only[h3,h4,h5,Bool.or_false,Jci,Jdg];refine Jag (Jff he ?_);refine Jag (Jch ?_);unfold Builtin.List.listLengthHint;refine Jag (wpAny_specialOf hT Zoa ?_);refine Jag (wpAny_specialOf hT Zmr ?_);refine Ja0 ?_;refine Jag (wpAny_rule ?_);refine Jag ?_;show wpAny _ A.in1 (updateSeq S (·.push .none) >>= λ_=>updateSeq S (·.pop)) _ _ _;refine Jag (Jc2 hS rfl ?_);have hS₂:=Jc5 (Obj.mapSeq (·.push Value.none)) hS rfl;refine Jc2 (hz:=by seq_fits) hS₂ rfl ?_;have hS₃:=Jc5 (Obj.mapSeq (·.pop)) hS₂ rfl;have oth:∀ b o,b≠S->s.heap.get? b=some o->((s.heap.update S (Obj.mapSeq (·.push Value.none))).update S (Obj.mapSeq (·.pop))).get? b=some o:=
  λb o hb e=>(Jcn _ _ (Jco hb)).trans ((Jcn _ _ (Jco hb)).trans e)
 refine Ja0 ⟨Jd6 F.plain_extend_loop _,?_⟩;exact en_loop (s:=s) (h₁:=s.heap) hh hei h1 h2 hle hli hlS hn res hR items.size 0 _ s.toks _ #[] [] (Nat.sub_zero _) (Jb9 _) (.inl ⟨rfl,_,oth e _ (Jco hSI) he⟩) (hit.at λo q=>oth it o (Ja9 h2) q) (hl.at λo q=>oth l o hlS q) (λb o hb _ _ q=>oth b o hb q) hS₃ rfl rfl
  ⟨List.Pairwise.nil,(λ_ ha=>nomatch ha),(λj a hj=>by simp at hj)⟩
theorem Zst {Q:Value->Shared->Prop}{e it l:Addr}{items:Array Value}(hh:A.handled=none)(he:IsEnum s.heap e it 0 .none)(hit:s.heap.IsListIter it l 0)(hl:s.heap.IsList l items)(hei:e≠it)(hle:l≠e)(hli:l≠it)(hn:items.size<=sizeLine)(hQ:∀ h' t' acc c as,(∀ b o,b≠e->b≠it->s.heap.get? b=some o->h'.get? b=some o)->h'.get? s.heap.objs.size=some { cls:=.type "list",dict:=none,data:=.seq acc c,slots:=#[] }->as.length=items.size->EnG items s.heap.objs.size h' as->acc.toList=as.map Value.ref->
   Q (.ref s.heap.objs.size) { s with heap:=h',toks:=t' }):
  wpAny (model prog w) A (call (.type "list") [.ref e]) Q E s:=by
 refine Zad (id hit) λoi hoi _=>?_;refine Zad (id hl) λol hol _=>?_;have l1:e<s.heap.objs.size:=Jam he;have l2:it<s.heap.objs.size:=Jam hoi;have l3:l<s.heap.objs.size:=Jam hol;refine callType_codes (Q₁:=λobj s₁=>obj=.ref s.heap.objs.size/\s₁={ s with heap:=s.heap.push { cls:=.type "list",data:=.seq #[] } }) F.called_list (F.typeCall_list_1 _) F.entry_list_init
  (code_list_new _ ⟨rfl,rfl⟩) λobj s₁ h₁=>?_
 obtain⟨rfl,rfl⟩:=h₁;have hS:(s.heap.push { cls:=.type "list",data:=.seq #[] }).get? s.heap.objs.size=some { cls:=.type "list",data:=.seq #[] }:=Ja4 _ rfl;refine⟨⟨_,hS,rfl⟩,F.args_list_init_2 _ _,?_⟩;have old:∀ b o,s.heap.get? b=some o->(s.heap.push { cls:=.type "list",data:=.seq #[] }).get? b=some o:=λb o e=>Jak _ e;have lts:∀ b o,s.heap.get? b=some o->b≠s.heap.objs.size:=λb o q=>Ja9 (Jam q);generalize hS0:s.heap.objs.size=S at *;generalize s.heap.push { cls:=.type "list",data:=.seq #[] }=h1 at *;show wpAny _ _ (do let old <- Builtin.List.listItems (.ref S);Builtin.List.listUpdate (.ref S) (λ_=>#[]);letGo old.toList.reverse;Builtin.List.listExtendWith (.ref S) (.ref e) .none) _ _ _;refine Jag ?_;unfold Builtin.List.listItems;refine Jag (Jdy (s:={ s with heap:=h1 }) hS rfl (Ja0 ?_));show wpAny _ _ (updateSeq S (λ_=>#[]) >>= λ_=>letGo (#[]:Array Value).toList.reverse >>= λ_=>Builtin.List.listExtendWith (.ref S) (.ref e) .none) _ _ _;refine Jag (Jc2 hS rfl ?_);have hS₂:=Jc5 (Obj.mapSeq (λ_=>(#[]:Array Value))) hS rfl;have oth:∀ b o,b≠S->s.heap.get? b=some o->(h1.update S (Obj.mapSeq (λ_=>(#[]:Array Value)))).get? b=some o:=
  λb o hb e=>(Jcn _ _ (Jco hb)).trans (old b o e)
 refine Jag (Jex ?_);refine Zn9 (A:=A.in1) (items:=items) hh (oth _ _ (Ja9 l1) he) (hit.at λo x=>oth _ _ (Ja9 l2) x) (hl.at λo x=>oth _ _ (Ja9 l3) x) hei l1 l2 hle hli (Ja9 l3) hn hS₂ λh' tk acc c as hk hS' hal hG hacc=>?_;exact⟨rfl,hQ h' tk acc c as (λb o n1 n2 q=>hk b o (lts b o q) n1 n2 (oth b o (lts b o q) q)) hS' hal hG hacc⟩
end
section
variable {X:Cx}{pins:List (Addr×Obj)}{σ:St}
theorem Zkb {H:Hp}{s:Shared}{items:Array Value}{xs:List V}{lo:Addr}{as:List Addr}(I:Inv X pins σ H s)(rv:Vals xs items.toList)(G:EnG items lo s.heap as)(hf:∀ a∈as,FpOk X pins H a)(h0:∀ a∈as,∀ u,X.s₀.heap.get? a≠some u):
  ∀ n,n<=as.length->∃ H',Inv X pins σ H' s/\Same H H'/\(∀ (j:Nat) a x,j<n->as[j]?=some a->xs[j]?=some x->H' a=some (.tup [.int j,x]))/\∀ b,b∉as.take n->H' b=H b
 | 0,_=>⟨H,I,Same.refl _,λj a x h=>∅,λb _=>rfl⟩
 | n+1,hn=>by
  refine Zit (Zkb I rv G hf h0 n ∅) λH1 I1 s1 h1 f1=>?_;have ha:as[n]?=some (as[n]'(by omega)):=Jaa _;generalize as[n]'(by omega)=a at ha;have hm:a∈as:=Jae ha;refine Zbh (G.pairs n a ha) λt x e1 e2=>?_;obtain⟨v,hv,rx⟩:∃ v,xs[n]?=some v/\RelV v x:=by
   have e1':items.toList[n]?=some x:=by rw[Jeg];exact e1
   have hl:=rv.length;have hlt:n<xs.length:=by rw[hl];exact (Jaf.mp e1').1
   refine Zad (rv.get (Jaa hlt)) λu hu ru=>?_;rw[e1'] at hu;cases hu;exact⟨_,Jaa hlt,ru⟩
  have nin:a∉as.take n:=λz=>by
   obtain⟨j,hj,e⟩:=Jan.mp z;rw[Jbc] at hj;rw[List.getElem_take] at e;have hlt:n<as.length:=∅
   have:=Jcu.mp G.rise j n ∅ hlt ∅;rw[Jaa hlt] at ha;cases ha;rw[e] at this;exact absurd this (Jbp _)
  refine Zf3 (hf a hm) λp1 p2 p3 p4 p5 p6=>?_;have hn1:H1 a=none:=by rw[f1 a nin];exact p1
  refine⟨upd H1 a (.tup [.int n,v]),I1.track hn1 (h0 a hm) p2 p5 p6 ⟨show 2<=sizeLine by decide,[.int n t,x],.cons ⟨t,rfl⟩ (.cons rx .nil),⟨_,e2,rfl,_,rfl⟩⟩,s1.upd p1,λj b y hj hb hy=>?_,λb hb=>?_⟩
  .by_cases hjn:j=n
   .subst hjn;rw[ha] at hb;cases hb;rw[hv] at hy;cases hy;exact Zab
   .have:=h1 j b y ∅ hb hy;rw[Zag (λz=>by rw[z,hn1] at this;cases this)];exact this
  .rw [Jfg,ha] at hb;have h2:b≠a/\b∉as.take n:=by
    constructor
    .intro z;exact hb (by rw[z];simp)
    .intro z;exact hb (Jal.mpr (.inl z))
   rw[Zag h2.1];exact f1 b h2.2
def tLE (K:Frag)(ta:TA):TE:=λσ H Q=>ta σ H λvs H1=>∃ a xs,vs=[.ref a]/\SqL K H1 a xs/\∀ (l:Addr) (ps:List Addr) (H':Hp),Same H1 H'->H1 l=none->(∀ q∈ps,q≠l)->H' l=some (.lst (ps.map V.ref))->ps.length=xs.length->
 (∀ (i:Nat) q x,ps[i]?=some q->xs[i]?=some x->H' q=some (.tup [.int i,x]))->Q (.ref l) H'
theorem pe_le {p p2 pos pos2:Pos}{a:Expr}{ta:TA}(hc:X.calm=true)(hg:Gl X "list")(hm:X.mg "list" = none)(hg2:Gl X "enumerate")(hm2:X.mg "enumerate" = none)(ha:PA X [a] ta)(h:Zb8 a=false:=by rfl):
  PE X (.Call (.Name "list" p) [.Call (.Name "enumerate" p2) [a] [] pos2] [] pos) (tLE X.K ta):=by
 intro pins s σ H Q I hh;refine Call_ (Zfh I hg hm Jc6 (Jbl ?_ ⇑1 ⇑1));show wpAny _ _ (spliced ((false,eval (.Call (.Name "enumerate" p2) [a] [] pos2) X.env)::backTo pos (starEach [] X.env))) _ _ s;refine Je2 (Call_ (Zfh I hg2 hm2 boot_enumerate (Jbl (thn (ha pos2 pins s σ H _ I hh) λus s1 ⟨vs,H1,I1,r1,q1⟩=>?_) (by rw[Za9 h]) ⇑1)));refine Zbm q1 λc xs e hq1 q=>?_;clear q1;subst e;cases r1 with
 | cons r rr=>
  cases rr;cases r;refine Zav (I1.list hq1) λits rv p1 hz1=>?_;refine call_enumerate_list p1.isList λh' a1 a2 a3 a4=>?_;refine Jfd ?_;refine Zad (id p1.isList) λoc hoc _=>?_;have clt:c<s1.heap.objs.size:=Jam hoc;have hln:=rv.length;refine Zst (items:=its.toArray) (I.ok.hd hc) a1 a2 (p1.isList.at λo x=>a4 _ _ x) (Nat.succ_ne_self _) (Ja9 (Jcy clt)) (Ja9 clt) (by rw[Jaq];omega) λh'' t' acc cc as kp hn hal hG hacc=>?_;have old:∀ b o,s1.heap.get? b=some o->h''.get? b=some o:=λb o x=>kp b o (λz=>absurd (Jam x) (by rw[z];exact Nat.not_lt.mpr (Jfi _))) (λz=>absurd (Jam x) (by rw[z];exact Jbp _)) (a4 b o x);have I2:Inv X pins σ H1 { s1 with heap:=h'',toks:=t' }:=I1.kept old;have big:∀ {b:Addr},s1.heap.objs.size<=b->FpOk X pins H1 b/\∀ u,X.s₀.heap.get? b≠some u:=λ{b} hb=>⟨I1.fpOk hb (I1.hok.fresh hb),λu z=>absurd (Jam z) (Nat.not_lt.mpr (Ja3 I1.sz hb))⟩
  have ab:∀ b∈as,s1.heap.objs.size<=b:=λb hb=>by
   have h9:h'.objs.size<b:=hG.above b hb;omega
  refine Zit (Zkb (items:=its.toArray) (xs:=xs) I2 rv hG (λb hb=>(big (ab b hb)).1) (λb hb=>(big (ab b hb)).2) as.length (Jai _)) λH2 I3 s2 ht hf=>?_;have hSb:s1.heap.objs.size<=h'.objs.size:=∅
  have nS:h'.objs.size∉as:=λz=>absurd (hG.above _ z) (Jbp _);obtain⟨⟨p1',p2',p3',p4',p5',p6'⟩,p7⟩:=big hSb;have n2:H2 h'.objs.size=none:=by rw[hf _ (by rw[List.take_length];exact nS)];exact p1'
  rw[Jaq] at hal;have I4:=I3.track (a:=h'.objs.size) (o:=.lst (as.map V.ref)) n2 p7 p2' p5' p6' ⟨by rw[Jab];omega,acc.toList,cc,?_,hn⟩
  .refine Zat (.ref h'.objs.size) _ ⟨I4,rfl,q _ as _ (s2.upd p1') p1' (λb hb z=>nS (z ▸ hb)) Zab ∅ λi b x hb hx=>?_⟩;rw[Zag (λz:b=h'.objs.size=>nS (z ▸ Jae hb))];exact ht i b x (Jaf.mp hb).1 hb hx
  .rw [hacc];have:∀ l:List Addr,Vals (l.map V.ref) (l.map Value.ref):=λl=>by
    induction l with
    | nil=>exact .nil
    | cons b l ih=>exact .cons rfl ih
   exact this as
end
section
variable {X:Cx}
def gSl0 (to:TE)(th:TO):TG:=λv σ H Q=>to σ H λx H1=>th σ H1 λu H2=>∃ l b xs ys,∃ c:Int,x=.ref l/\v=.ref b/\u=some c/\H2 l=some (.lst xs)/\H2 b=some (.lst ys)/\l≠b/\0<=c/\c<=xs.length/\xs.length+ys.length<=sizeLine/\Q σ (upd H2 l (.lst (ys++xs.drop c.toNat)))
theorem Zr6 {o hi:Expr}{to:TE}{th:TO}{p2 pos:Pos}(ho:PE X o to)(hu:PO X (some hi) th):PG X (.Subscript o (.Slice none (some hi) none p2) pos) (gSl0 to th):=by
 intro pins s σ H v u Q I r h;show wpAny _ _ (assign (.Subscript o (.Slice none (some hi) none p2) pos) X.env u) _ _ s;have ha:assign (.Subscript o (.Slice none (some hi) none p2) pos) X.env u=(do
   let ov <- holding [u] (eval o X.env)
   let iv <- holding [u,ov] (eval (.Slice none (some hi) none p2) X.env)
   standAt pos
   holding [u,ov,iv] (setItem ov iv u)
   release [iv,u,ov] []):=rfl
 rw[ha];refine Jag (Jch (thn (ho pins s σ H _ I h) λov s1 ⟨x,H1,I1,r1,q1⟩=>?_));refine Jag (Jch (wpAny_Slice ?_));rw[evalPart_none];refine Ja0 (thn (hu pins s1 σ H1 _ I1 q1) λvu s3 ⟨uu,H3,I3,pu,q3⟩=>?_);refine Ja0 ?_;refine Zf2 q3 λl b xs ys c e92 e93 e94 e95=>?_;clear q3;obtain rfl:=e92;obtain rfl:=e93;obtain rfl:=e94;refine Zuc e95 λhl hb hne c0 c1 hz q=>?_;clear e95;cases r1;cases r;obtain⟨c',rfl⟩:=Int.eq_ofNat_of_zero_le c0;have I4:Inv X pins σ H3 { s3 with heap:=s3.heap.push { cls:=.type "slice",data:=.fields #[.none,vu,.none] } }:=I3.kept (t':=s3.toks) λb ob q=>Jak _ q;refine Jag (Jeo (Jag (Jch ?_)));obtain⟨z,its,n,rr,hln,e⟩:=I4.lstM hl;obtain⟨z2,its2,n2,rr2,hln2,e2⟩:=I4.lstM hb;refine Zj8 (c:=c') e e2 hne (Heap.IsSliceOf.new ..) .none pu (by rw[Jaq];omega) (by rw[Jaq,Jaq];omega) ?_;refine wpAny_release ⟨σ,_,I4.lset (its':=its2++its.drop c') (t':=s3.toks) hl e ?_ (Vals.append rr2 (rr.drop _)) ?_,q⟩
 .have:=Zq9 its its2 0 c';simpa using this
 .rw [Jah,Jb2];omega
end
section
variable {K:Frag}{a b D:Addr}{xs ys:List V}{g:TG}{tt:TT}{te:TE}{k:Nat}{fr:List (Str×Nat)}{σ:St}{H1:Hp}{Q:VK}
theorem Zto (Pv:Nat->List V->Hp->Prop)(hlen:ys.length<=xs.length)(h0:Pv 0 [] (upd H1 D (.lst [])))(hl:∀ i vs H,i<=ys.length->Pv i vs H->SqL K H a xs/\SqL K H b ys)(hs:∀ i x y p vs σ' H,i<ys.length->xs[i]?=some x->ys[i]?=some y->H p=none->Sh k (Zbv fr σ) σ'->Pv i vs H->Ze0 g tt te D ys.length k (Zbv fr σ) Pv i (.ref p) σ' (upd H p (.tup [x,y])))(hd:∀ vs H,Pv ys.length vs H->Q (.ref D) H):
  Zb6 g tt te (Itz K a b) D (Zg7 k fr σ) H1 Q:=by
 refine⟨Wv ys.length k (Zbv fr σ) Pv,⟨ys.length,by simp,Jb9 _,sh0,[],h0⟩,?_⟩;intro i m σ' H2 e91;refine Zb0 e91 λe96 hi sh e97=>?_;clear e91;obtain rfl:=e96;obtain⟨vs,p⟩:=e97;obtain⟨q1,q2⟩:=hl i vs H2 hi p;by_cases hlt:i<ys.length
 .refine .inr ⟨⟨xs,ys,xs[i]'(by omega),ys[i],q1,q2,Jaa _,Jaa _⟩,λx H3 y=>?_⟩;refine Zbu y λu v pp e98 hp e99 e910=>?_;clear y;obtain rfl:=e98;obtain rfl:=e99;obtain⟨e1,e2⟩:=e910;exact hs i u v pp vs σ' _ hlt (e1 _ q1) (e2 _ q2) hp sh p
 .have e:i=ys.length:=∅
  subst e;exact .inl ⟨⟨xs,ys,q1,q2,.inr (Jai _)⟩,hd vs H2 p⟩
end
end L2
namespace L2
open PySem PySem.Spec PyProof.Rows
def Bt (n:Nat)(z:Int):Prop:=z.natAbs<2 ^ n
theorem Bt.le {n m:Nat}{z:Int}(h:Bt n z)(hm:n<=m):Bt m z:=Jaw h (Jca ⇑0 hm)
theorem Bt.mul {n m:Nat}{x y:Int}(h:Bt n x)(h':Bt m y):Bt (n+m) (x*y):=by
 unfold Bt at *;rw[Jb4,Jfl];exact Nat.mul_lt_mul'' h h'
theorem Bt.add {n:Nat}{x y:Int}(h:Bt n x)(h':Bt n y):Bt (n+1) (x+y):=by
 unfold Bt at *;rw[Jdp];omega
theorem Bt.sub {n:Nat}{x y:Int}(h:Bt n x)(h':Bt n y):Bt (n+1) (x-y):=by
 unfold Bt at *;rw[Jdp];omega
theorem Bt.neg {n:Nat}{x:Int}(h:Bt n x):Bt n (-x):=by unfold Bt at *;rw[Int.natAbs_neg];exact h
theorem Bt.abs_le {n:Nat}{x y:Int}(h:Bt n x)(hy:y.natAbs<=x.natAbs):Bt n y:=Jbh hy h
theorem Bt.quo {n:Nat}{x y:Int}(h:Bt n x)(hd:y ∣ x):Bt n (x / y):=h.abs_le (by
 rw[Int.natAbs_ediv,if_pos (.inr (.inr hd))];exact Nat.div_le_self _ _)
theorem Zjz (n:Nat):Bt n 0:=Jbs n
theorem Zbf {n:Nat}{z:Int}(hn:7<=n)(h:z.natAbs<128):Bt n z:=Jaw h (Jca (show 0<2 by decide) hn)
theorem Bt.bits {n:Nat}{z:Int}(h:Bt n z):Builtin.Int.intBits z<=n:=bits_le h
theorem Bt.ok {n m:Nat}{x y:Int}(h:Bt n x)(h':Bt m y)(hs:n+m<=134217728):IntMulOk x y:=mulOk_of_bits h.bits h'.bits hs
theorem Zcw {X:Cx}(ht:X.prog.given.tree=none)(hd:X.A.depth+Builtin.pylongFrames<recursionLimit):OpR X (binaryOp .FloorDiv) (rI (λ_ j=>j≠0) λi j=>.int (i.fdiv j)):=by
 intro pins s σ H x y v u Q I rx ry h;refine Zdw h λi j e91 e92 hc q=>?_;clear h;obtain rfl:=e91;obtain rfl:=e92;obtain⟨t,rfl⟩:=rx;obtain⟨t',rfl⟩:=ry;exact floordiv_int hc ⟨.int (i.fdiv j),H,I.tok _,⟨_,rfl⟩,q⟩ (.inr (I.long ht hd))
theorem Zcg {k:Nat}{A:Around}(hr:Room k A):A.depth+Builtin.pylongFrames<recursionLimit:=by
 have:=hr.dp;have e:Builtin.pylongFrames<=200:=⇑0
 omega
theorem Zfo {i j:Int}(h:0<j):i.fdiv j=i / j:=Jb0 i ∅
theorem Zwb {a b c d x y:Int}(h:a*d-b*c=1\/a*d-b*c=-1):Int.gcd (a*x+b*y) (c*x+d*y)=Int.gcd x y:=by
 apply Nat.dvd_antisymm
 .have h1:((Int.gcd (a*x+b*y) (c*x+d*y):Nat):Int) ∣ a*x+b*y:=Jbo ..;have h2:((Int.gcd (a*x+b*y) (c*x+d*y):Nat):Int) ∣ c*x+d*y:=Jbz ..;generalize Int.gcd (a*x+b*y) (c*x+d*y)=g at *;obtain⟨u,hu⟩:=h1;obtain⟨v,hv⟩:=h2;have dx:(g:Int) ∣ x:=by
   rcases h with h|h
   .exact ⟨d*u-b*v,by grind⟩
   .exact ⟨b*v-d*u,by grind⟩
  have dy:(g:Int) ∣ y:=by
   rcases h with h|h
   .exact ⟨a*v-c*u,by grind⟩
   .exact ⟨c*u-a*v,by grind⟩
  exact Int.ofNat_dvd.mp (Int.dvd_coe_gcd dx dy)
 .have h1:((Int.gcd x y:Nat):Int) ∣ x:=Jbo ..;have h2:((Int.gcd x y:Nat):Int) ∣ y:=Jbz ..;generalize Int.gcd x y=g at *;obtain⟨u,hu⟩:=h1;obtain⟨v,hv⟩:=h2;exact Int.ofNat_dvd.mp (Int.dvd_coe_gcd ⟨a*u+b*v,by grind⟩ ⟨c*u+d*v,by grind⟩)
structure Steps (x0 y0 a b c d x y:Int):Prop where
 hx:a*x0+b*y0=x
 hy:c*x0+d*y0=y
 sg:∃ e:Int,(e=1\/e=-1)/\a*d-b*c=e/\0<=e*a/\0<=-(e*b)/\0<=-(e*c)/\0<=e*d
 x64:18446744073709551616<=x
 yn:0<=y
 yx:y<=x
 ab:a.natAbs<4611686018427387904/\b.natAbs<4611686018427387904
 pr:(a=1/\b=0/\c=0/\d=1)\/(b≠0/\x+y+18446744073709551616<=x0+y0)
theorem Zmi {u x m:Int}(hu:0<=u)(hx:18446744073709551616<=x)(h:u*x<=m)(hm:m<85070591730234615865843651857942052864):u<4611686018427387904:=by
 apply Jb5;intro z;have h1:(4611686018427387904:Int)*18446744073709551616<=u*x:=Int.mul_le_mul ∅ hx ∅ hu;omega
theorem Steps.cd {x0 y0 a b c d x y:Int}(h:Steps x0 y0 a b c d x y)(h0:x0<85070591730234615865843651857942052864)(h1:y0<=x0):c.natAbs<4611686018427387904/\d.natAbs<4611686018427387904:=by
 refine Zqt h.sg λe he det sa sb sc sd=>?_;have ee:e*e=1:=by rcases he with rfl|rfl <;> rfl
 have ex:(e*d)*x+(-(e*b))*y=x0:=by
  rw[<- h.hx,<- h.hy];have:(e*d)*(a*x0+b*y0)+(-(e*b))*(c*x0+d*y0)=e*(a*d-b*c)*x0:=by grind
  rw[this,det,ee,Int.one_mul]
 have ey:(-(e*c))*x+(e*a)*y=y0:=by
  rw[<- h.hx,<- h.hy];have:(-(e*c))*(a*x0+b*y0)+(e*a)*(c*x0+d*y0)=e*(a*d-b*c)*y0:=by grind
  rw[this,det,ee,Int.one_mul]
 have p1:0<=(-(e*b))*y:=Jdi sb h.yn;have p2:0<=(e*a)*y:=Jdi sa h.yn;have q1:=Zmi sd h.x64 (show (e*d)*x<=x0 by omega) h0;have q2:=Zmi sc h.x64 (show (-(e*c))*x<=x0 by omega) h0;constructor
 .rcases he with rfl|rfl <;> omega
 .rcases he with rfl|rfl <;> omega
theorem Steps.next {x0 y0 a b c d x y:Int}(h:Steps x0 y0 a b c d x y)(h0:x0<85070591730234615865843651857942052864)(h1:y0<=x0)(hy:18446744073709551616<=y):Steps x0 y0 c d (a-x / y*c) (b-x / y*d) y (x-x / y*y):=by
 have cd:=h.cd h0 h1;refine Zqt h.sg λe he det sa sb sc sd=>?_;have m0:0<=x / y:=Jey (by have:=h.x64;omega) ∅;have m1:1<=x / y:=by
  have:=h.yx;exact (Int.le_ediv_iff_mul_le ∅).mpr ∅
 have hr:x-x / y*y=x % y:=by
  have:=Jej x y;rw[Je8 y] at this;omega
 have r0:=Jbr x (show y≠0 by omega);have r1:=Jbe x (show 0<y by omega);have e1:=h.hx;have e2:=h.hy;generalize hq:x / y=q at *;have qy:y<=q*y:=by
  have:=Jde m1 (show 0<=y by omega);omega
 refine⟨h.hy,by rw[<- e1,<- e2];grind,⟨-e,?_,by grind,by grind,by grind,?_,?_⟩,hy,∅,∅,cd,.inr ⟨?_,?_⟩⟩
 .rcases he with rfl|rfl <;> simp
 .have p:=Jdi m0 sc;have:-(-e*(a-q*c))=e*a+q * -(e*c):=by grind
  omega
 .have p:=Jdi m0 sd;have:-e*(b-q*d)=-(e*b)+q*(e*d):=by grind
  omega
 .rcases h.pr with ⟨_,_,_,rfl⟩|⟨hb,_⟩
  .decide
  .intro z;subst z;have hbc:-(b*c)=e:=by rw[<- det];grind
   -- b*c=-e,d=0: then y=c*x0 and x=a*x0+b*y0
   have hc1:c.natAbs=1:=by
    have:b.natAbs*c.natAbs=1:=by rw[<- Jb4];rcases he with rfl|rfl <;> omega
    exact Nat.eq_one_of_mul_eq_one_left this
   have e2':c*x0=y:=by rw[<- e2];grind
   have hc:c=1:=by
    rcases (show c=1\/c=-1 by omega) with z|z
    .exact z
    .subst z;have:=h.x64;have:=h.yx;omega
   subst hc;rcases h.pr with ⟨_,hb0,_⟩|⟨_,hs⟩
   .exact hb hb0
   .have:=h.x64;have:=h.yx;have:=h.yn;omega
 .rcases h.pr with ⟨rfl,rfl,rfl,rfl⟩|⟨_,hs⟩
  .have g1:x0=x:=by rw[<- e1];grind
   have g2:y0=y:=by rw[<- e2];grind
   omega
  .omega
end L2
namespace L2
open PySem PySem.Spec PyProof.Rows PySem.W
def Zmu (X:Cx)(N:List Str)(qual:Str)(scope:Scope)(cl:List (Str×Addr))(f:Addr)(cd:Value)(A:Around)(s:Shared)(H:Hp):Cx where
 prog:=X.prog
 w:=X.w
 K:=X.K
 mg:=X.mg
 base:=X.base
 A:=A.deeper (envX qual scope s.heap.objs.size f cd cl)
 N:=N
 s₀:=s
 H₀:=H
 env:=envX qual scope s.heap.objs.size f cd cl
 outer:=X.stack
 stack:=envX qual scope s.heap.objs.size f cd cl::X.stack
 ex:=[]
 fn:=λ_=>false
 calm:=true
 pn:=[]
 xe:=λ_ _=>False
structure LamScope (X:Cx)(sc:Scope)(x:Str)(fr:List (Str×Nat)):Prop where
 kind:sc.kind=.function
 co:sc.isCoroutine=false
 gen:sc.isGenerator=false
 nocell:∀ y∈sc.names,y.2≠.cell
 par:sc.names.lookup x=some .local
 free:∀ y∈sc.names,y.2=.free->X.env.scope.names.lookup y.1=some .cell\/X.env.scope.names.lookup y.1=some .free
 cap:∀ y∈fr,sc.names.lookup y.1=some .free/\X.N[y.2]?=some y.1
abbrev Zt4 (x:Str)(fr:List (Str×Nat)):List Str:=x::fr.map (·.1)
abbrev Zxa (v:V)(fr:List (Str×Nat))(σ:St):St:=some v::fr.map λy=>(σ[y.2]?).getD none
section
variable {X:Cx}{pins:List (Addr×Obj)}{σ:St}{H:Hp}{s:Shared}{A:Around}{sc:Scope}{x:Str}{fr:List (Str×Nat)}{cl:List (Str×Addr)}{f:Addr}{cd:Value}{qual:Str}
theorem inv_lam {h':Heap}{v:V}{u:Value}(I:Inv X pins σ H s)(B:LamScope X sc x fr)(hfr:A.frames=some X.stack)(hd:A.handled=none)(hcl:∀ x c,cl.lookup x=some c->X.env.cells.lookup x=some c)(hcl2:∀ y∈sc.names,y.2=.free->∃ c,cl.lookup y.1=some c)(rv:RelV v u)(hn:h'.Ns s.heap.objs.size (λy=>[(x,u)].reverse.lookup y))(hk:∀ b o,s.heap.get? b=some o->h'.get? b=some o):
  Inv (Zmu X (Zt4 x fr) qual sc cl f cd A s H) [] (Zxa v fr σ) H { s with heap:=h',toks:=s.toks+1 }:=by
 have bsz:X.base.objs.size<=s.heap.objs.size:=Ja3 I.ok.bsz I.sz;have noA:∀ b:Addr,b∉(Zmu X (Zt4 x fr) qual sc cl f cd A s H).ex:=λb z=>absurd (show b∈([]:List Addr) from z) (by simp);refine⟨⟨I.ok.mod,B.kind,rfl,rfl,Jai _,λy z c h1 h2=>I.ok.inj y z c (hcl y c h1) (hcl z c h2),λy hy=>?_,λy c hf _=>absurd (show false=true from hf) Jax,λ_=>hd,Around.frames_deeper hfr,.inr ⟨rfl,rfl⟩,λb z=>absurd z (noA b),I.bs,bsz,λb _ _=>noA b,λb z=>absurd z (noA b),I.stack,I.stkFree,⟨_,_,rfl,B.gen,B.co,rfl,rfl⟩⟩,
  rfl,I.bare,Un.kept hk,⟨_,hn,λi y w h1 h2 h3=>?_⟩,λy c e=>?_,I.hok.fresh (Jai _),λy c e=>I.freeC y c (hcl y c e),λp hp=>absurd (show p∈([]:List (Addr×Obj)) from hp) (by simp),I.hok.kept hk,by show (Zxa v fr σ).length=(Zt4 x fr).length;simp⟩
 .have hy:sc.names.lookup y=some .cell\/sc.names.lookup y=some .free:=hy;rcases hy with z|z
  .exact absurd rfl (B.nocell _ (Jbk z))
  .exact hcl2 _ (Jbk z) rfl
 .have h1:(Zt4 x fr)[i]?=some y:=h1;cases i with
  | zero=>
   have e1:x=y:=Jbi h1;have e2:some v=some w:=Jbi h2;cases e2;subst e1;exact⟨u,rv,.inl ⟨B.par,by simp⟩⟩
  | succ i=>
   rw[List.getElem?_cons_succ,Jad] at h1 h2;cases e:fr[i]? with
   | none=>rw[e] at h1;cases h1
   | some z=>
    rw[e] at h1 h2;have hy1:z.1=y:=Jbi h1;have hy2:(σ[z.2]?).getD none=some w:=Jbi h2;obtain⟨c1,c2⟩:=B.cap z (Jae e);rw[hy1] at c1 c2;have hs:σ[z.2]?=some (some w):=by
     cases e2:σ[z.2]? with
     | none=>rw[e2] at hy2;cases hy2
     | some o=>rw[e2] at hy2;cases o with
      | none=>cases hy2
      | some w=>cases hy2;rfl
    refine Zad I.loc λm hm hl=>?_;have hfree:=B.free _ (Jbk c1) rfl;refine Zad (hl z.2 y w c2 hs (hfree.elim (λz=>.inr (.inl z)) λz=>.inr (.inr z))) λu' r l=>?_;refine⟨u',r,?_⟩;obtain⟨k,c,e3,ce⟩:(X.env.kindOf y=some .cell\/X.env.kindOf y=some .free)/\∃ c,X.env.cells.lookup y=some c/\s.heap.IsCell c (some u'):=by
     rcases l with ⟨k,_⟩|q
     .have k:X.env.scope.names.lookup y=some .local:=k;rcases hfree with z|z <;> (rw[z] at k;cases k)
     .exact q
    obtain⟨d,hd'⟩:=hcl2 _ (Jbk c1) rfl;have hd2:=hcl y d hd';rw[e3] at hd2;cases hd2;exact .inr ⟨.inr c1,c,hd',ce.keeps hk⟩
 .obtain ⟨w,q⟩:=I.cell y c (hcl y c e);exact⟨w,q.keeps hk⟩
theorem run_lam {c':Addr}{params:Arguments}{body:Expr}{name:Str}{pm ctv:Value}{v:V}{u:Value}{te:TE}{Q:VK}(I:Inv X pins σ H s)(B:LamScope X sc x fr)(hfr:A.frames=some X.stack)(hd:A.handled=none)(hroom:A.depth<recursionLimit)(hcl:∀ x c,cl.lookup x=some c->X.env.cells.lookup x=some c)(hcl2:∀ y∈sc.names,y.2=.free->∃ c,cl.lookup y.1=some c)(rv:RelV v u)(hf:s.heap.get? f=some (kla_obj name qual params body sc cl pm c' ctv))(hcd:s.heap.CodeRec (.ref c') qual)(hb:bindArgs (kla_fn name qual params body sc cl pm (.ref c') ctv) ⟨[u],[]⟩=pure [(x,u)])(he:PE (Zmu X (Zt4 x fr) qual sc cl f (.ref c') A.in1 s H) body te)(q:te (Zxa v fr σ) H Q):
  wpAny (model X.prog X.w) A.in1 (call (.ref f) [u]) (EP X pins σ Q) (λ_ _=>False) s:=by
 refine wpAny_call (kla_callFunE (A:=A.in1) hroom hf rfl B.co B.gen rfl hcd ?_);rw[hb];refine Ja0 (wpAny_newFunctionEnv B.nocell (λy hy=>?_) (λh₁ hns hsb=>⟨I.nolimit.fresh _ hsb,?_⟩) B.kind)
 .rw [Jas.mp hy];exact B.par
 .show codeAny _ _ (.expr body (envX qual sc s.heap.objs.size f (.ref c') cl)) _ _;have hk₁:∀ b o,s.heap.get? b=some o->h₁.get? b=some o:=λb o e=>hsb.extBut b o (Ja9 (Jam e)) (Jak _ e);have I1:Inv (Zmu X (Zt4 x fr) qual sc cl f (.ref c') A.in1 s H) [] (Zxa v fr σ) H { s with heap:=h₁,toks:=s.toks+1 }:=inv_lam (A:=A.in1) I B hfr hd hcl hcl2 rv hns hk₁;refine kla_codeExpr (Jc4 (he [] _ _ _ _ I1 q) (λy s' h=>?_) λ_ _ h=>h.elim);refine Zbm h λv' H' J r' q'=>?_;clear h;exact I.after ⟨v',H',J.os,J.bare,J.base,J.hok,r',q'⟩
end
structure LamAt (X:Cx)(pins:List (Addr×Obj))(sc:Scope)(params:Arguments)(body:Expr)(qual:Str)(P:Addr)(H:Hp)(s:Shared)(f c':Addr)(cl:List (Str×Addr))(ctv pm:Value):Prop where
 fn:s.heap.get? f=some (kla_obj "<lambda>" qual params body sc cl pm c' ctv)
 fp:FpOk X pins H f
 cod:∃ oc vs t,H c'=some (.frz oc (.own P))/\oc.data=.fields vs/\vs[1]?=some (.str qual t)
 hcl:∀ x c,cl.lookup x=some c->X.env.cells.lookup x=some c
 hcl2:∀ y∈sc.names,y.2=.free->∃ c,cl.lookup y.1=some c
section
variable {X:Cx}{pins:List (Addr×Obj)}{σ:St}{H:Hp}{s:Shared}{sc:Scope}{x:Str}{fr:List (Str×Nat)}{P c:Addr}{params:Arguments}{body:Expr}{pos:Pos}
theorem LamAt.code {H:Hp}{s:Shared}{f c':Addr}{cl:List (Str×Addr)}{ctv pm:Value}{qual:Str}(L:LamAt X pins sc params body qual P H s f c' cl ctv pm)(I:Inv X pins σ H s):s.heap.CodeRec (.ref c') qual:=by
 refine Zj6 L.cod λoc vs t e d v=>?_;obtain⟨e1,_⟩:=I.hok c' _ e;exact Zg8 c' oc vs t ⟨rfl,e1,d,v⟩
theorem mk_lam {Q:Value->Shared->Prop}(I:Inv X pins σ H s)(B:LamScope X sc x fr)(hcode:X.env.code=.ref c)(C:CodeHd X.base c P)(hP:H P=some (.tab (pos.line:Int) (pos.col:Int) (X.env.qual ++ "<lambda>")))(hdef:defaultsOf params X.env=([],[]))(h:∀ s' H' f c' cl ctv pm,Inv X pins σ H' s'->Same H H'->LamAt X pins sc params body (X.env.qual ++ "<lambda>") P H' s' f c' cl ctv pm->Q (.ref f) s'):
  wpAny (model X.prog X.w) X.A (eval (.Lambda params body sc pos) X.env) Q X.xe s:=by
 refine Zav (Zob (scope:=sc) (env:=X.env) λy hy hf=>I.ok.has y.1 ((B.free y hy hf).elim .inl .inr)) λcl hcl q1 q2=>?_;have hg:s.heap.Ns mainGlobals X.mg:=I.mod.glob.keeps I.bk;have CH:CodeHd s.heap c P:=by
  refine xE9_2 C λo vs file tf flags tg inF text tt e1 r=>?_;clear C;exact Zt9 o vs file tf flags tg inF text tt ⟨I.bk _ _ e1,r⟩
 refine Zis I.mod.bmain λbm ob b1 b2 b3 b4 b5 b6=>?_;have b3':=I.bs _ _ b3;have hgP:mainGlobals≠P:=λq=>by
  refine Zj6 I.mod.glob λo es ep e hd _=>?_;have:=(I.bs _ _ e).2;rw[q,hP] at this;cases this
 have hbP:bm≠P:=λq=>by
  have:=b3'.2;rw[q,hP] at this;cases this
 have hbG:bm≠mainGlobals:=λq=>by
  refine Zj6 I.mod.glob λo es ep e hd _=>?_;rw[q,e] at b3;cases b3;rw[hd] at b6;cases b6
 have BA:s.heap.BuiltinsAt X.mg P:=⟨bm,ob,b1,b2,hbG,hbP,b3'.1,b4,b5,b6⟩
 have ok:=I.hok P _ hP;refine kla_eval hdef ?_;rcases ok with e0|⟨c',oc,vs,t,e0,ne,e2,d2,v2⟩
 .-- the first one
  refine kla_makeFunction (mg:=X.mg) hcl I.ok.glob hg hcode CH e0 (by exact True.intro) rfl hgP BA λc' ctv h' tk hx hge hlt hrec htb=>?_;refine Zb5 hrec λc2 oc vs t ec hoc hd hv=>?_;clear hrec;cases ec;have hcn:H c'=none:=I.hok.fresh hge;have hcP:c'≠P:=λz=>by rw[z,hP] at hcn;cases hcn
  have hxk:∀ b o,b≠P->s.heap.get? b=some o->(h'.push (kla_obj "<lambda>" (X.env.qual ++ "<lambda>") params body sc cl ((X.mg "__name__").getD .none) c' ctv)).get? b=some o:=λb o hb e=>Jak _ (hx b o hb e);have gP:(h'.push (kla_obj "<lambda>" (X.env.qual ++ "<lambda>") params body sc cl ((X.mg "__name__").getD .none) c' ctv)).get? P=some (tabObj (#[] ++ #[rawInt pos.line,rawInt pos.col,.ref c'])):=Jak _ htb;have gc:(h'.push (kla_obj "<lambda>" (X.env.qual ++ "<lambda>") params body sc cl ((X.mg "__name__").getD .none) c' ctv)).get? c'=some oc:=Jak _ hoc;have sm:Same H (upd H c' (.frz oc (.own P))):=λb u e=>by rw[Zag (Zaf e hcn)];exact e
  have nP:∀ {b:Addr},H b=none->b≠P:=λe z=>by rw[z,hP] at e;cases e
  have U:Un X.fs [] H (upd H c' (.frz oc (.own P))) s.heap (h'.push (kla_obj "<lambda>" (X.env.qual ++ "<lambda>") params body sc cl ((X.mg "__name__").getD .none) c' ctv)):=by
   refine⟨λb o e n _ _=>hxk b o (nP n) e,λb o e n _ _=>⟨o.slots,hxk b o (nP n) e⟩,λb o e n _=>?_,λb o e _=>?_,λb xs e=>sm _ _ e,λb o u e=>sm _ _ e,λb ps e=>⟨#[],by rw[sm _ _ e];simp⟩⟩
   .rw [Zag (Ja9 (Jaw (Jam e) hge))];exact n
   .by_cases z:b=P
    .exact ⟨_,by rw[z];exact gP⟩
    .exact ⟨o,hxk b o z e⟩
  have O:HOk X.prog X.w (upd H c' (.frz oc (.own P))) (h'.push (kla_obj "<lambda>" (X.env.qual ++ "<lambda>") params body sc cl ((X.mg "__name__").getD .none) c' ctv)):=λb u e=>by
   by_cases hb:b=c'
   .subst hb;rw[Zab] at e;cases e;exact⟨gc,⟨oc,gc⟩⟩
   .rw [Zag hb] at e;by_cases hbP':b=P
    .subst hbP';rw[hP] at e;cases e;exact .inr ⟨c',oc,vs,t,gP,hcP,Zab,hd,hv⟩
    .refine (I.hok b u e).stay (λa v ha q=>hxk a v ?_ q) (λa z=>sm _ _ z) (λa xs z=>sm _ _ z) λa o' u' z=>sm _ _ z;rcases ha with rfl|ha
     .exact hbP'
     .intro z;rw[z,hP] at ha;cases ha
  have I':Inv X pins σ (upd H c' (.frz oc (.own P))) { s with heap:=h'.push (kla_obj "<lambda>" (X.env.qual ++ "<lambda>") params body sc cl ((X.mg "__name__").getD .none) c' ctv),toks:=tk }:=I.un U O;have hsz:s.heap.objs.size<=h'.objs.size:=Jbm (Jbh hge hlt);refine h _ _ h'.objs.size c' cl ctv _ I' sm ⟨Ja4 _ rfl,I.fpOk hsz ?_,⟨oc,vs,t,Zab,hd,hv⟩,q1,q2⟩;rw[Zag (Jb7 hlt)];exact I.hok.fresh hsz
 .-- the code is there
  refine kla_makeFunctionHit (cv:=.ref c') (mg:=X.mg) hcl I.ok.glob hg hcode CH e0 (by simp[TriplesOk,rawInt]) (by simp[codeAmong,rawInt]) BA λctv h' tk hk hsz=>?_;have I':Inv X pins σ H { s with heap:=h'.push (kla_obj "<lambda>" (X.env.qual ++ "<lambda>") params body sc cl ((X.mg "__name__").getD .none) c' ctv),toks:=tk }:=I.kept λb o e=>Jak _ (hk b o e);exact h _ _ h'.objs.size c' cl ctv _ I' (Same.refl _) ⟨Ja4 _ rfl,I.fpOk hsz (I.hok.fresh hsz),⟨oc,vs,t,e2,d2,v2⟩,q1,q2⟩
end
theorem Same.sqL {K:Frag}{H H':Hp}{a:Addr}{xs:List V}(s:Same H H')(h:SqL K H a xs):SqL K H' a xs:=s.seq h
def IsMin (kf:Nat->Int)(n i:Nat):Prop:=i<n/\∀ j,j<n->kf i<=kf j/\(j<i->kf i<kf j)
section
variable {X:Cx}{pins:List (Addr×Obj)}{σ:St}{sc:Scope}{x:Str}{fr:List (Str×Nat)}{P:Addr}{params:Arguments}{body:Expr}{qual:Str}{f c' l It S:Addr}{cl:List (Str×Addr)}{ctv pm:Value}{xs:List V}{te:TE}{H0:Hp}{kf:Nat->Int}
abbrev KWd:List (Str×Value):=[("default",Value.none)]
theorem FpOk.same {pins:List (Addr×Obj)}{H H':Hp}{b:Addr}(h:FpOk X pins H b)(e:H' b=none):FpOk X pins H' b:=⟨e,h.2⟩
theorem Zsy {H:Hp}{s:Shared}{i:Nat}{v:V}{u:Value}{b₁:Addr}{o₁:Obj}{b₂:Addr}{o₂:Obj}(hc:X.calm=true)(hroom:X.A.depth<recursionLimit)(B:LamScope X sc x fr)(hbd:∀ u pm c' ctv cl,bindArgs (kla_fn "<lambda>" qual params body sc cl pm (.ref c') ctv) ⟨[u],[]⟩=pure [(x,u)])(he:∀ cl f c' s H,PE (Zmu X (Zt4 x fr) qual sc cl f (.ref c') X.A.in1 s H) body te)(I:Inv X pins σ H s)(L:LamAt X pins sc params body qual P H s f c' cl ctv pm)(ht:te (Zxa v fr σ) H λy H'=>y=.int (kf i)/\Same H H')(rv:RelV v u)(f1:FpOk X pins H b₁)(g1:s.heap.get? b₁=some o₁)(d1:∀ v,o₁.data≠.cell v)(f2:FpOk X pins H b₂)(g2:s.heap.get? b₂=some o₂)(d2:∀ v,o₂.data≠.cell v):
  wpAny (model X.prog X.w) X.A.in1 (call (.ref f) [u]) (λy s'=>∃ t H',y=.int (kf i) t/\Same H H'/\Inv X pins σ H' s'/\LamAt X pins sc params body qual P H' s' f c' cl ctv pm/\s'.heap.get? b₁=some o₁/\H' b₁=none/\s'.heap.get? b₂=some o₂/\H' b₂=none) (λ_ _=>False) s:=by
 have Ip:=I.pinned (fp:=[b₁,b₂,f]) (λb hb=>by
  rcases Jbq.mp hb with rfl|hb
  .exact f1
  .rcases Jbq.mp hb with rfl|hb
   .exact f2
   .rw [Jas.mp hb];exact L.fp) (λb hb=>by
  rcases Jbq.mp hb with rfl|hb
  .exact ⟨_,g1,d1⟩
  .rcases Jbq.mp hb with rfl|hb
   .exact ⟨_,g2,d2⟩
   .rw [Jas.mp hb];exact⟨_,L.fn,λv z=>by cases z⟩)
 refine thn (run_lam Ip B I.ok.frames (I.ok.hd hc) hroom L.hcl L.hcl2 rv L.fn (L.code I) (hbd _ _ _ _ _) (he _ _ _ _ _) ht) λy s' h=>?_;refine Zdw h λw H' I' r e91 sm=>?_;clear h;obtain rfl:=e91;obtain⟨t,rfl⟩:=r;have pn:∀ b∈[b₁,b₂,f],∀ o,s.heap.get? b=some o->s'.heap.get? b=some o/\H' b=none:=λb hb o e=>by
  have:=I'.pin (b,o) (Jbj _ (Jbj _ (Zd9 hb e)));exact⟨this.1,this.2.1⟩
 refine Zex L.cod λoc vs tk e r=>?_;obtain⟨p1,p1'⟩:=pn b₁ (by simp) _ g1;obtain⟨p2,p2'⟩:=pn b₂ (by simp) _ g2;obtain⟨p3,p3'⟩:=pn f (by simp) _ L.fn;exact Zat t H' ⟨rfl,sm,I'.unpinned,⟨p3,L.fp.same p3',⟨oc,vs,tk,sm _ _ e,r⟩,L.hcl,L.hcl2⟩,p1,p1',p2,p2'⟩
theorem Zvt (hc:X.calm=true)(hroom:X.A.depth<recursionLimit)(B:LamScope X sc x fr)(hbd:∀ u pm c' ctv cl,bindArgs (kla_fn "<lambda>" qual params body sc cl pm (.ref c') ctv) ⟨[u],[]⟩=pure [(x,u)])(he:∀ cl f c' s H,PE (Zmu X (Zt4 x fr) qual sc cl f (.ref c') X.A.in1 s H) body te)(hlI:l≠It)(hSI:S≠It)(hfI:f≠It)(hfS:f≠S)(ht:∀ i v H,xs[i]?=some v->Same H0 H->te (Zxa v fr σ) H λy H'=>y=.int (kf i)/\Same H H')(hl0:SqL X.K H0 l xs){R:Result->Shared->Prop}(hR:∀ i v u s' H',IsMin kf xs.length i->xs[i]?=some v->RelV v u->Same H0 H'->Inv X pins σ H' s'->R (.ok (.ret u)) s'):
  ∀ (r j i:Nat) (s:Shared) (H:Hp) (vb:V) (ub:Value) (tb:Tok) (n:Nat),xs.length-(j+1)=r->j+1<=xs.length->Same H0 H->Inv X pins σ H s->LamAt X pins sc params body qual P H s f c' cl ctv pm->FpOk X pins H S->FpOk X pins H It->
   s.heap.get? S=some (seqObj "list" #[ub,.int (kf i) tb] n)->s.heap.IsListIter It l (j+1)->xs[i]?=some vb->RelV vb ub->i<=j->(∀ j',j'<=j->kf i<=kf j'/\(j'<i->kf i<kf j'))->
   codeAny (model X.prog X.w) X.A (.builtin "min.loop" ⟨[.ref It,.ref f,.ref S],KWd⟩) R s:=by
 have hname:(toString "min" ++ toString ".loop" : String)="min.loop" := by decide
 intro r
 induction r with
 | zero=>
  intro j i s H vb ub tb n hr hj sm I L fS fI gS hit hvb rvb hij hbest;have hin:j+1=xs.length:=∅
  refine Zav (I.list (sm.sqL hl0)) λits rv p hz=>?_;have hlen:=rv.length;refine Jd5 Jd9 ?_;rw[Jc9 Jcc _];show wpAny _ X.A.in1 (seqItems? (.ref S) >>= _) _ _ _;refine Jag (Jdy gS rfl ?_);show wpAny _ X.A.in1 (tryCatch (pyNext (.ref It)) _ >>= _) _ _ _;refine Jag (Jdj (Jef (A:=X.A.in1) (I.ok.hd hc) hit p.isList (by simp;omega) λh' eb=>?_));have I1:Inv X pins σ H { s with heap:=h' }:=I.turned (t':=s.toks) (λb o hb e=>eb b o hb e) fI.1 fI.2.1 fI.2.2.2.1 fI.2.2.2.2.1 fI.2.2.2.2.2;have gS':h'.get? S=some (seqObj "list" #[ub,.int (kf i) tb] n):=eb S _ hSI gS;show wpAny _ X.A.in1 (updateSeq S (λ_=>#[]) >>= _) _ _ _;refine Jag ?_;refine Jc2 gS' rfl (Jag (Jex (Ja0 ?_)));have s1:=Jez h' S (Obj.mapSeq λ_=>(#[]:Array Value));have I2:=I1.turned (t':=s.toks) (h':=h'.update S (Obj.mapSeq λ_=>(#[]:Array Value))) (λb o hb e=>(s1.2 b hb).trans e) fS.1 fS.2.1 fS.2.2.2.1 fS.2.2.2.2.1 fS.2.2.2.2.2;exact hR i vb ub _ H ⟨∅,λj' hj'=>hbest j' ∅⟩ hvb rvb sm I2
 | succ r ih=>
  intro j i s H vb ub tb n hr hj sm I L fS fI gS hit hvb rvb hij hbest;have hlt:j+1<xs.length:=∅
  refine Zav (I.list (sm.sqL hl0)) λits rv p hz=>?_;have hlen:=rv.length;have hx:xs[j+1]?=some (xs[j+1]'hlt):=Jaa hlt;refine Zad (rv.get hx) λu hu ru=>?_;refine Jd5 Jd9 ?_;rw[Jc9 Jcc _];show wpAny _ X.A.in1 (seqItems? (.ref S) >>= _) _ _ _;refine Jag (Jdy gS rfl ?_);show wpAny _ X.A.in1 (tryCatch (pyNext (.ref It)) _ >>= _) _ _ _;refine Jag (Jdj (Jd8 (A:=X.A.in1) hit p.isList (x:=u) (by simpa using hu) λh' hit' sb=>?_));have I1:Inv X pins σ H { s with heap:=h' }:=I.turned (t':=s.toks) (λb o hb e=>(sb.2 b hb).trans e) fI.1 fI.2.1 fI.2.2.2.1 fI.2.2.2.2.1 fI.2.2.2.2.2;have gS':h'.get? S=some (seqObj "list" #[ub,.int (kf i) tb] n):=(sb.2 S hSI).trans gS;refine Zav (id hit') λoI goI hoc hod=>?_;have L1:LamAt X pins sc params body qual P H { s with heap:=h' } f c' cl ctv pm:=⟨(sb.2 f hfI).trans L.fn,L.fp,L.cod,L.hcl,L.hcl2⟩
  show wpAny _ X.A.in1 (tryCatch (holding [u] (call (.ref f) [u])) _ >>= _) _ _ _;refine Jag (Jdj (Jch (Jc4 (Zsy (i:=j+1) hc hroom B hbd he I1 L1 (ht (j+1) _ H hx sm) ru fS gS' (λv z=>by cases z) fI goI (λv z=>by rw[hod] at z;cases z)) (λy s2 hy=>?_) λ_ _ hF=>hF.elim)));refine Zis hy λt2 H2 e92 sm2 I2 L2' gS2 e93=>?_;clear hy;obtain rfl:=e92;refine Za2 e93 λnS2 gI2 nI2=>?_;clear e93;have hit2:s2.heap.IsListIter It l (j+1+1):=⟨oI,gI2,hoc,hod⟩
  show wpAny _ X.A.in1 (tryCatch (holding [u,.int (kf (j+1)) t2] (richCompare .Lt (.int (kf (j+1)) t2) (.int (kf i) tb) >>= _)) _ >>= _) _ _ _;refine Jag (Jdj (Jch (Jag (CmpOf.ints_lt (prog:=X.prog) (w:=X.w) (A:=X.A.in1) (P:=λi v=>∃ t,v=.int (kf i) t) kf (λi v h=>h) (j+1) i _ _ _ _ _ ⟨t2,rfl⟩ ⟨tb,rfl⟩ ?_))));refine Jag (Jch (Jbx ?_));refine Jag (Jex (Ja0 ?_));by_cases hb':kf (j+1)<kf i
  .have s1:=Jez s2.heap S (Obj.mapSeq λ_=>#[u,.int (kf (j+1)) t2]);obtain⟨c2,hc2⟩:∃ c2,(s2.heap.update S (Obj.mapSeq λ_=>#[u,.int (kf (j+1)) t2])).get? S=some (seqObj "list" #[u,.int (kf (j+1)) t2] c2):=⟨_,get?_update_seq gS2 λ_=>#[u,.int (kf (j+1)) t2]⟩
   simp only[hb',decide_true,Jc1];refine Jag ?_;refine Jc2 gS2 rfl (Jag (Jex ?_));rw[hname];have I3:=I2.turned (t':=s2.toks) (h':=s2.heap.update S (Obj.mapSeq λ_=>#[u,.int (kf (j+1)) t2])) (λb o hb e=>(s1.2 b hb).trans e) nS2 fS.2.1 fS.2.2.2.1 fS.2.2.2.2.1 fS.2.2.2.2.2;have L3:LamAt X pins sc params body qual P H2 { s2 with heap:=s2.heap.update S (Obj.mapSeq λ_=>#[u,.int (kf (j+1)) t2]) } f c' cl ctv pm:=⟨(s1.2 f hfS).trans L2'.fn,L2'.fp,L2'.cod,L2'.hcl,L2'.hcl2⟩
   refine Ja0 ⟨Jd6 Jcc _,ih (j+1) (j+1) _ H2 _ u t2 c2 ∅ hlt (sm.trans sm2) I3 L3 (fS.same nS2) (fI.same nI2) hc2 ⟨oI,(s1.2 It hSI.symm).trans gI2,hoc,hod⟩ hx ru (Jai _) λj' hj'=>?_⟩;by_cases e:j'=j+1
   .subst e;exact⟨∅,λ_=>∅⟩
   .have hb1:=hbest j' ∅;have hb2:=hb1.1;exact⟨∅,λ_=>∅⟩
  .simp only [hb',decide_false,Jci,Jdg];refine Jag (Jex ?_);rw[hname];refine Ja0 ⟨Jd6 Jcc _,ih (j+1) i s2 H2 vb ub tb n ∅ hlt (sm.trans sm2) I2 L2' (fS.same nS2) (fI.same nI2) gS2 hit2 hvb rvb ∅ λj' hj'=>?_⟩;by_cases e:j'=j+1
   .subst e;exact⟨∅,λ_=>∅⟩
   .exact hbest j' ∅
theorem Zvv (a v d:Value):argsOk "min" ⟨[a],[(Str.ofString "key",v),(Str.ofString "default",d)]⟩:=by unfold argsOk;kernel_rfl
theorem Zvu {s:Shared}{Q:Value->Shared->Prop}(hc:X.calm=true)(hroom:X.A.depth<recursionLimit)(B:LamScope X sc x fr)(hbd:∀ u pm c' ctv cl,bindArgs (kla_fn "<lambda>" qual params body sc cl pm (.ref c') ctv) ⟨[u],[]⟩=pure [(x,u)])(he:∀ cl f c' s H,PE (Zmu X (Zt4 x fr) qual sc cl f (.ref c') X.A.in1 s H) body te)(I:Inv X pins σ H0 s)(L:LamAt X pins sc params body qual P H0 s f c' cl ctv pm)(ht:∀ i v H,xs[i]?=some v->Same H0 H->te (Zxa v fr σ) H λy H'=>y=.int (kf i)/\Same H H')(hl0:SqL X.K H0 l xs)(q0:xs=[]->∀ s' H',Same H0 H'->Inv X pins σ H' s'->Q .none s')(q1:∀ i v u s' H',IsMin kf xs.length i->xs[i]?=some v->RelV v u->Same H0 H'->Inv X pins σ H' s'->Q u s'):
  wpAny (model X.prog X.w) X.A (call (.builtin "min") [.ref l] [(Str.ofString "key",.ref f),(Str.ofString "default",.none)]) Q X.xe s:=by
 have hname:(toString "min" ++ toString ".loop" : String)="min.loop" := by decide
 refine Zav (I.list hl0) λits rv p hz=>?_;have hlen:=rv.length;refine Zad (id p.isList) λol hol _=>?_;have hll:l<s.heap.objs.size:=Jam hol;have hfl:f<s.heap.objs.size:=Jam L.fn;refine kmk_tree PySem.F.kind_min PySem.F.plain_min PySem.F.entry_min (Zvv _ _ _) ?_;show wpAny _ X.A.in1 (Builtin.Builtins.bindParams "min" ["key","default"] 0 ⟨[],[(Str.ofString "key",.ref f),(Str.ofString "default",.none)]⟩ >>= _) _ _ s;refine Jag (wpAny_of_eq (show Builtin.Builtins.bindParams "min" ["key","default"] 0 ⟨[],[(Str.ofString "key",.ref f),(Str.ofString "default",.none)]⟩=pure [some (.ref f),some .none] from rfl) ?_);refine Jag (Ja0 ?_);refine Jag (Jdt p.isList ?_);refine Jag (wpAny_newList ?_ (Jb9 _));rw[hname];have hS:(s.heap.push { cls:=.type "list_iterator",data:=.fields #[.ref l,.int 0 0] }).objs.size=s.heap.objs.size+1:=size_push' ..;have gI:((s.heap.push { cls:=.type "list_iterator",data:=.fields #[.ref l,.int 0 0] }).push (seqObj "list" #[] 0)).get? s.heap.objs.size=some { cls:=.type "list_iterator",data:=.fields #[.ref l,.int 0 0] }:=
  Jak _ (Ja4 _ rfl)
 have gS:((s.heap.push { cls:=.type "list_iterator",data:=.fields #[.ref l,.int 0 0] }).push (seqObj "list" #[] 0)).get? (s.heap.push { cls:=.type "list_iterator",data:=.fields #[.ref l,.int 0 0] }).objs.size=some (seqObj "list" #[] 0):=Ja4 _ rfl;rw[hS] at gS;have hk:∀ b o,s.heap.get? b=some o->((s.heap.push { cls:=.type "list_iterator",data:=.fields #[.ref l,.int 0 0] }).push (seqObj "list" #[] 0)).get? b=some o:=λb o e=>Jak _ (Jak _ e);have I0:Inv X pins σ H0 { s with heap:=(s.heap.push { cls:=.type "list_iterator",data:=.fields #[.ref l,.int 0 0] }).push (seqObj "list" #[] 0) }:=I.kept (t':=s.toks) hk;have fI:FpOk X pins H0 s.heap.objs.size:=I.fpOk (Jai _) (I.hok.fresh (Jai _));have fS:FpOk X pins H0 (s.heap.objs.size+1):=I.fpOk (Jfi _) (I.hok.fresh (Jfi _));have L0:LamAt X pins sc params body qual P H0 { s with heap:=(s.heap.push { cls:=.type "list_iterator",data:=.fields #[.ref l,.int 0 0] }).push (seqObj "list" #[] 0) } f c' cl ctv pm:=⟨hk _ _ L.fn,L.fp,L.cod,L.hcl,L.hcl2⟩
 have hSI:s.heap.objs.size+1≠s.heap.objs.size:=∅
 have p0:PlainL ((s.heap.push { cls:=.type "list_iterator",data:=.fields #[.ref l,.int 0 0] }).push (seqObj "list" #[] 0)) l its.toArray:=by
  refine Zbh p λo n e r=>?_;clear p;exact Zat o n ⟨hk _ _ e,r⟩
 have hit:Heap.IsListIter ((s.heap.push { cls:=.type "list_iterator",data:=.fields #[.ref l,.int 0 0] }).push (seqObj "list" #[] 0)) s.heap.objs.size l 0:=⟨_,gI,rfl,rfl⟩
 refine Ja0 ⟨Jd6 Jcc _,?_⟩;rw[hS];refine Jd5 Jd9 ?_;rw[Jc9 Jcc _];show wpAny _ X.A.in1 (seqItems? (.ref _) >>= _) _ _ _;refine Jag (Jdy gS rfl ?_);show wpAny _ X.A.in1 (tryCatch (pyNext (.ref s.heap.objs.size)) _ >>= _) _ _ _;cases hxs:xs with
 | nil=>
  subst hxs;have e0:its=[]:=List.length_eq_zero_iff.mp (by simpa using hlen.symm);refine Jag (Jdj (Jef (A:=X.A.in1) (I.ok.hd hc) hit p0.isList (by rw[e0];rfl) λh' eb=>?_));have I1:Inv X pins σ H0 { s with heap:=h' }:=I0.turned (t':=s.toks) (λb o hb e=>eb b o hb e) fI.1 fI.2.1 fI.2.2.2.1 fI.2.2.2.2.1 (λp hp=>fI.2.2.2.2.2 p hp);show wpAny _ X.A.in1 (rule _ >>= _) _ _ _;exact Jag (wpAny_rule (Ja0 (q0 rfl _ H0 (Same.refl _) I1)))
 | cons v0 r0=>
  have hne:0<xs.length:=by rw[hxs];exact Nat.zero_lt_succ _
  have hx:xs[0]?=some v0:=by rw[hxs];rfl
  rw[<- hxs] at *;refine Zad (rv.get hx) λu hu ru=>?_;refine Jag (Jdj (Jd8 (A:=X.A.in1) hit p0.isList (x:=u) (by simpa using hu) λh' hit' sb=>?_));have I1:Inv X pins σ H0 { s with heap:=h' }:=I0.turned (t':=s.toks) (λb o hb e=>(sb.2 b hb).trans e) fI.1 fI.2.1 fI.2.2.2.1 fI.2.2.2.2.1 fI.2.2.2.2.2;have gS':h'.get? (s.heap.objs.size+1)=some (seqObj "list" #[] 0):=(sb.2 _ hSI).trans gS;refine Zav (id hit') λoI goI hoc hod=>?_;have L1:LamAt X pins sc params body qual P H0 { s with heap:=h' } f c' cl ctv pm:=⟨(sb.2 f (Ja9 hfl)).trans L0.fn,L.fp,L.cod,L.hcl,L.hcl2⟩
  show wpAny _ X.A.in1 (tryCatch (holding [u] (call (.ref f) [u])) _ >>= _) _ _ _;refine Jag (Jdj (Jch (Jc4 (Zsy (i:=0) hc hroom B hbd he I1 L1 (ht 0 _ H0 hx (Same.refl _)) ru fS gS' (λv z=>by cases z) fI goI (λv z=>by rw[hod] at z;cases z)) (λy s2 hy=>?_) λ_ _ hF=>hF.elim)));refine Zis hy λt2 H2 e94 sm2 I2 L2' gS2 e95=>?_;clear hy;obtain rfl:=e94;refine Za2 e95 λnS2 gI2 nI2=>?_;clear e95;have s1:=Jez s2.heap (s.heap.objs.size+1) (Obj.mapSeq λ_=>#[u,.int (kf 0) t2]);obtain⟨c2,hc2⟩:∃ c2,(s2.heap.update (s.heap.objs.size+1) (Obj.mapSeq λ_=>#[u,.int (kf 0) t2])).get? (s.heap.objs.size+1)=some (seqObj "list" #[u,.int (kf 0) t2] c2):=⟨_,get?_update_seq gS2 λ_=>#[u,.int (kf 0) t2]⟩
  show wpAny _ X.A.in1 (updateSeq (s.heap.objs.size+1) (λ_=>#[u,.int (kf 0) t2]) >>= _) _ _ _;refine Jag ?_;refine Jc2 gS2 rfl ?_;rw[hname];have I3:=I2.turned (t':=s2.toks) (h':=s2.heap.update (s.heap.objs.size+1) (Obj.mapSeq λ_=>#[u,.int (kf 0) t2])) (λb o hb e=>(s1.2 b hb).trans e) nS2 fS.2.1 fS.2.2.2.1 fS.2.2.2.2.1 fS.2.2.2.2.2;have hfS:f≠s.heap.objs.size+1:=Ja9 (Jcy hfl);have L3:LamAt X pins sc params body qual P H2 { s2 with heap:=s2.heap.update (s.heap.objs.size+1) (Obj.mapSeq λ_=>#[u,.int (kf 0) t2]) } f c' cl ctv pm:=⟨(s1.2 f hfS).trans L2'.fn,L2'.fp,L2'.cod,L2'.hcl,L2'.hcl2⟩
  refine Ja0 ⟨Jd6 Jcc _,Zvt (H0:=H0) hc hroom B hbd he (Ja9 hll) hSI (Ja9 hfl) hfS ht hl0 (λi v u s' H' a b c d e=>q1 i v u s' H' a b c d e) _ 0 0 _ H2 v0 u t2 c2 rfl hne sm2 I3 L3 (fS.same nS2) (fI.same nI2) hc2 ⟨oI,(s1.2 _ hSI.symm).trans gI2,hoc,hod⟩ hx ru (Jai _) λj' hj'=>?_⟩;have e:j'=0:=∅
  subst e;exact⟨∅,λh=>absurd h (Jbp _)⟩
end
def tMinL (K:Frag)(P:Addr)(ln co:Int)(q:Str)(fr:List (Str×Nat))(ta te:TE):TE:=λσ H Q=>ta σ H λv H1=>∃ l xs,∃ kf:Nat->Int,v=.ref l/\SqL K H1 l xs/\H1 P=some (.tab ln co q) /\
 (∀ i v H,xs[i]?=some v->Same H1 H->te (Zxa v fr σ) H λy H'=>y=.int (kf i)/\Same H H')/\(xs=[]->∀ H',Same H1 H'->Q .non H')/\∀ i v H',IsMin kf xs.length i->xs[i]?=some v->Same H1 H'->Q v H'
section
variable {X:Cx}{sc:Scope}{x:Str}{fr:List (Str×Nat)}{P c:Addr}{params:Arguments}{body e:Expr}{lpos p pos k1 k2 kp:Pos}{ta te:TE}
theorem pe_minL {i0:Nat}(hc:X.calm=true)(hroom:X.A.depth<recursionLimit)(hg:Gl X "min")(hm:X.mg "min" = none)(B:LamScope X sc x fr)(hcode:X.env.code=.ref c)(C:CodeHd X.base c P)(hdef:defaultsOf params X.env=([],[]))(hbd:∀ u pm c' ctv cl,bindArgs (kla_fn "<lambda>" (X.env.qual ++ "<lambda>") params body sc cl pm (.ref c') ctv) ⟨[u],[]⟩=pure [(x,u)])(ha:PE X e ta)(he:∀ cl f c' s H,PE (Zmu X (Zt4 x fr) (X.env.qual ++ "<lambda>") sc cl f (.ref c') X.A.in1 s H) body te)(hs:Zb8 e=false:=by rfl):
  PE X (.Call (.Name "min" p) [e] [⟨some "key",.Lambda params body sc lpos,k1⟩,⟨some "default",.Constant .none i0 kp,k2⟩] pos) (tMinL X.K P (lpos.line:Int) (lpos.col:Int) (X.env.qual ++ "<lambda>") fr ta te):=by
 intro pins s σ H Q I h;refine Jdl (Zfh I hg hm boot_min ?_ ⇑0 ⇑0);have hst:backTo pos (starEach [e] X.env)=(false,eval e X.env)::backTo pos (starEach [] X.env):=by rw[Za9 hs];rfl
 refine callWith_kw (id:="min") (e:=e) (rest:=[]) ?_ hst (by rw[hst];rfl) ⇑1 (by rfl);rw[hst];refine Je2 (thn (ha pins s σ H _ I h) λu s1 ⟨v,H1,I1,r1,h1⟩=>?_);refine Zbu h1 λl xs kf e96 hl hP e97=>?_;clear h1;obtain rfl:=e96;refine Za2 e97 λht q0 q1=>?_;clear e97;cases r1;refine Jfd ?_;refine kws_cons (mk_lam I1 B hcode C hP hdef λs2 H2 f c' cl ctv pm I2 sm L=>?_);refine kws_cons (Constant_none (kws_nil ?_));show wpAny _ _ (call (.builtin "min") [.ref l] [(Str.ofString "key",.ref f),(Str.ofString "default",.none)]) _ _ s2;refine Zvu (kf:=kf) hc hroom B hbd he I2 L (λi v H hi sm2=>ht i v H hi (sm.trans sm2)) (sm.sqL hl) (λe0 s' H' sm2 I'=>?_) λi v u s' H' hmn hi ru sm2 I'=>?_
 .exact Zat .non H' ⟨I',rfl,q0 e0 H' (sm.trans sm2)⟩
 .exact Zat v H' ⟨I',ru,q1 i v H' hmn hi (sm.trans sm2)⟩
end
abbrev Tbs:=List (Addr×Int×Int×Str)
def Zm4 (tb:Tbs)(H:Hp):Prop:=∀ b t,tb.lookup b=some t->H b=some (.tab t.1 t.2.1 t.2.2)
def hp0 (K:Frag)(tb:Tbs)(a:Addr)(oa:Obj)(xs:List V):Hp:=λb=>if b=a then (if (K.lookup a).isSome=true then none else some (.frz oa (.lst xs))) else (tb.lookup b).map λt=>.tab t.1 t.2.1 t.2.2
theorem Zsw {P:Program}{w:World}{K:Frag}{mg mb:Str->Option Value}{CX:CXT}{k:Nat}{fa a:Addr}{fd:FuncData}{x:Str}{sp:Sp}{s₁:Shared}{vs:List Value}{ns:List Int}{tb:Tbs}(KX:K.In s₁.heap)(hns:s₁.heap.Ns mainGlobals mg)(hb:s₁.heap.Ns builtinsNs mb)(hbb:∀ x:Str,x ≠ "__name__" -> mb x=bootBuiltins x)(hlim:s₁.heap.NoLimit)(hseer:s₁.heap.NoSeer)(hbm:∃ bm ob,mg "__builtins__" = some (.ref bm)/\bm≠builtinsNs/\s₁.heap.get? bm=some ob/\ob.cls=.type "module" /\ ob.dict=some builtinsNs/\ob.data=.plain)(hg:s₁.gens=#[])(htb:∀ b t,tb.lookup b=some t->s₁.heap.get? b=some (tabObj #[])/\K.lookup b=none/\isCodeTable s₁.heap b)(ha:s₁.heap.get? a=some { cls:=.type "list",data:=.seq vs.toArray })(hi:IntsAre vs ns)(hl:ns.length<=sizeLine)(hr:Room k callerA)(F:∀ base:Heap,K.In base->base.Ns mainGlobals mg->FnOk P w K mg base CX k fa fd [x] sp)(hbind:∀ (s:Shared) (u:Value),BindsTo s fd ⟨[u],[]⟩ [(x,u)])(hsp:∀ H:Hp,SqL K H a (ns.map V.int)->Zm4 tb H->sp [.ref a] H (λv H'=>v=.bl true/\Zm4 tb H') λ_ _ _=>False)(hCX:∀ H e s',CX [] H s₁ (λ_ _ _=>False) e s'->False):
  codeAny (model P w) callerA (.call (.ref fa) ⟨[.ref a],[]⟩) (λr s'=>r=.ok (.ret (.bool true))/\OldK s₁.heap s'.heap/\s'.os=s₁.os/\AllBare s'.gens) s₁:=by
 have rv:=Zlv hi;have lenV:=hi.length;generalize hH:hp0 K tb a { cls:=.type "list",data:=.seq vs.toArray } (ns.map V.int)=H;have tne:∀ b t,tb.lookup b=some t->b≠a:=λb t e z=>by
  have:=(htb b t e).1;rw[z,ha] at this;cases this
 have hT:Zm4 tb H:=λb t e=>by
  rw[<- hH];unfold hp0;rw[if_neg (tne b t e),e];rfl
 have cases3:∀ b,H b=none\/(b=a/\K.lookup a=none/\H b=some (.frz { cls:=.type "list",data:=.seq vs.toArray } (.lst (ns.map V.int))))\/∃ t,tb.lookup b=some t/\H b=some (.tab t.1 t.2.1 t.2.2):=λb=>by
  rw[<- hH];unfold hp0;by_cases hba:b=a
  .rw [if_pos hba];cases hk:K.lookup a with
   | none=>exact .inr (.inl ⟨hba,rfl,rfl⟩)
   | some o=>exact .inl rfl
  .rw [if_neg hba];cases ht:tb.lookup b with
   | none=>exact .inl rfl
   | some t=>exact .inr (.inr ⟨t,rfl,rfl⟩)
 have free:∀ {b:Addr} {o:Obj},s₁.heap.get? b=some o->(∀ xs n,o.data≠.seq xs n)->(∀ xs,o.data≠.fields xs)->H b=none:=λ{b o} e d1 d2=>by
  rcases cases3 b with h|⟨rfl,_,_⟩|⟨t,h,_⟩
  .exact h
  .rw [ha] at e;cases e;exact absurd rfl (d1 _ _)
  .rw [(htb b t h).1] at e;cases e;exact absurd rfl (d2 _)
 have base_of:∀ {b:Addr} {o:Obj},s₁.heap.get? b=some o->H b=none->(Zt5 s₁.heap H).get? b=some o:=λe n=>Zv6 e n;have nsK:∀ {b:Addr} {m:Str->Option Value},s₁.heap.Ns b m->(Zt5 s₁.heap H).Ns b m:=λ{b m} ⟨o,es,ep,e,d,r⟩=>⟨o,es,ep,base_of e (free e (λxs n z=>by rw[d] at z;cases z) λxs z=>by rw[d] at z;cases z),d,r⟩
 have hKb:K.In (Zt5 s₁.heap H):=λb o e=>base_of (KX b o e) (by
  rcases cases3 b with h|⟨rfl,h,_⟩|⟨t,h,_⟩
  .exact h
  .rw [h] at e;cases e
  .rw [(htb b t h).2.1] at e;cases e)
 have seerB:(Zt5 s₁.heap H).NoSeer:=⟨let ⟨mc,x,y⟩:=hseer.statics;⟨mc,nsK x,y⟩,let ⟨mc,x,y⟩:=hseer.mods;⟨mc,nsK x,y⟩,let ⟨mc,x,y⟩:=hseer.imp;⟨mc,nsK x,y⟩,let ⟨mg',bm,ob,x,y,z,u,v⟩:=hseer.main;⟨mg',bm,ob,nsK x,y,base_of z (by
   rcases cases3 bm with h|⟨rfl,_,_⟩|⟨t,h,_⟩
   .exact h
   .rw [ha] at z;cases z;have u':Value.type "list" = Value.type "module" := u
    injection u' with u'
    exact absurd u' ⇑0
   .rw [(htb bm t h).1] at z;cases z;cases u),u,v⟩⟩
 have hM:Mod K mg (Zt5 s₁.heap H):=⟨hKb,nsK hns,⟨mb,nsK hb,hbb⟩,let ⟨mc,h1,h2⟩:=hlim;⟨mc,nsK h1,h2⟩,seerB,let ⟨bm,ob,x1,x2,x3,x4,x5,x6⟩:=hbm;⟨bm,ob,x1,x2,base_of x3 (free x3 (λxs n z=>by rw[x6] at z;cases z) λxs z=>by rw[x6] at z;cases z),x4,x5,x6⟩⟩
 have hS:SqL K H a (ns.map V.int):=by
  rcases hk:K.lookup a with _|o
  .refine .inl (.inr ⟨{ cls:=.type "list",data:=.seq vs.toArray },?_⟩);rw[<- hH];unfold hp0;rw[if_pos rfl,hk];rfl
  .have e:=KX a o hk;rw[ha] at e;cases e;exact .inr ⟨_,vs.toArray,_,hk,rfl,rfl,rfl,by rw[Jaq,lenV];exact hl,by simpa using rv⟩
 have hok:HOk P w H s₁.heap:=λb u e=>by
  rcases cases3 b with h|⟨rfl,_,h⟩|⟨t,h0,h⟩
  .rw [h] at e;cases e
  .rw [h] at e;cases e;exact⟨ha,by rw[Jab];exact hl,vs,_,rv,ha⟩
  .rw [h] at e;cases e;exact .inl (htb b t h0).1
 have e0:Env0 P w K mg (Zt5 s₁.heap H) callerA [] s₁ H:=⟨rfl,hM,λb o e=>of_hidT e,Nat.le_of_eq (Zta _ _),trivial,λb hb=>absurd (show b∈([]:List Addr) from hb) (by simp),hok,.of_eq hg⟩
 refine codeAny_mono ((F _ hKb (nsK hns)).run callerA [] s₁ H ⟨[.ref a],[]⟩ [.ref a] [.ref a] _ _ hr e0 (hbind s₁ (.ref a)) (.cons rfl .nil) (hsp H hS hT)) λr s' h=>?_;cases r with
 | error e=>exact (hCX H e s' h).elim
 | ok fl=>
  cases fl with
  | next=>exact False.elim h
  | brk=>exact False.elim h
  | cont=>exact False.elim h
  | ret u=>
   refine Zis h λv H' os bare un hok' r' q=>?_;clear h;obtain⟨q',hT'⟩:=q;subst q';obtain rfl:u=Value.bool true:=r';have noF:∀ b:Addr,b∉frs ([]:List Env):=λb z=>absurd (show b∈([]:List Addr) from z) (by simp);refine⟨rfl,⟨λb o e=>?_,λb o e=>un.there b o e (by simp)⟩,os,bare⟩;rcases cases3 b with h|⟨rfl,_,h⟩|⟨t,h0,h⟩
   .exact .inl (un.keep b o e h (noF b) (by simp))
   .have z2:=un.frzs _ _ _ h;obtain⟨e1,_⟩:=hok _ _ h;obtain⟨e2,_⟩:=hok' _ _ z2;rw[e] at e1;cases e1;exact .inl e2
   .rw [(htb b t h0).1] at e;cases e;rcases hok' b _ (hT' b t h0) with e2|⟨c',oc,ws,tk,e2,_⟩
    .exact .inl e2
    .exact .inr (.inl ⟨(htb b t h0).2.2,rfl,#[],_,rfl,by rw[e2,Array.empty_append]⟩)
theorem Zuf {l:PySem.W.OpenLaw}{n k:Nat}{q:Program}{loose:List Str}{XP:(Str->Option Value)->Heap->Prop}{YP:World->Heap->Prop}{d:DefRec}{K:Params->Frag}{CX:World->CXT}{sp:World->Sp}{x:Str}{tb:Tbs}(hq:importsNone q=true)(hn:l.most=some n)(hn2:n<=sizeLine)(hdf:d.params.defaults=[])(hr:Room k callerA)(hY:∀ (w:World) (h:Heap),YP w h->(K w.params).In h)(htb:∀ (w:World) (h:Heap),YP w h->∀ b t,tb.lookup b=some t->h.get? b=some (tabObj #[])/\(K w.params).lookup b=none/\isCodeTable h b)(F:∀ (w:World) (mg:Str->Option Value) (fa:Addr) (h:Heap),(K w.params).In h->h.Ns mainGlobals mg->mg d.name=some (.ref fa)->
   ∃ fd:FuncData,(∀ (s:Shared) (u:Value),BindsTo s fd ⟨[u],[]⟩ [(x,u)]) /\
    ∀ base:Heap,(K w.params).In base->base.Ns mainGlobals mg->FnOk l.prog w (K w.params) mg base (CX w) k fa fd [x] (sp w))(hsp:∀ (w:World) (H:Hp) (a:Addr) (ns:List Int),ns.length<=n->SqL (K w.params) H a (ns.map V.int)->Zm4 tb H->sp w [.ref a] H (λv H'=>v=.bl true/\Zm4 tb H') λ_ _ _=>False)(hCX:∀ (w:World) (H:Hp) (s:Shared) (e:Value) (s':Shared),CX w [] H s (λ_ _ _=>False) e s'->False):
  PySem.W.WalkO q loose XP YP l.row.toRowW d [] (λf vs=>PySem.call f vs):=by
 refine Att.attach_call hn hdf λw s₀ s₁ mg mb fa o pm cd doc a vs ns G Y ho hd hcd hmg hobj hints hlen hg=>?_;have KX:=hY w _ Y;refine Zad (F w mg fa _ KX G.T.g hmg) λfd hb hF=>?_;exact Zsw KX G.T.g G.T.b G.T.builtins G.T.nolimit (G.T.seer hq) G.T.bmain hg (htb w _ Y) hobj hints (Ja3 hlen hn2) hr hF hb (λH hS hT=>hsp w H a ns hlen hS hT) λH e s'=>hCX w H s₁ e s'
def lamOk (outer:List (Str×NameKind))(N:List Str)(sc:Scope)(x:Str)(fr:List (Str×Nat)):Bool:=
 sc.kind == .function && !sc.isCoroutine && !sc.isGenerator && sc.names.all (λy=>y.2 != .cell) && sc.names.lookup x == some .local &&
 sc.names.all (λy=>y.2 != .free || outer.lookup y.1 == some .cell || outer.lookup y.1 == some .free) &&
 fr.all λy=>sc.names.lookup y.1 == some .free && N[y.2]? == some y.1
theorem lam_of {X:Cx}{sc:Scope}{x:Str}{fr:List (Str×Nat)}(h:lamOk X.env.scope.names X.N sc x fr=true):LamScope X sc x fr:=by
 unfold lamOk at h;simp only[Jcm,Jbn] at h;obtain⟨⟨⟨⟨⟨⟨h1,h2⟩,h3⟩,h4⟩,h5⟩,h6⟩,h7⟩:=h;refine⟨?_,?_,?_,λy hy z=>?_,Jbv.mp h5,λy hy hf=>?_,λy hy=>?_⟩
 .cases e:sc.kind <;> rw[e] at h1 <;> first|rfl|(exact absurd h1 ⇑0)
 .simpa using h2
 .simpa using h3
 .have:=h4 y hy;rw[z] at this;exact absurd this ⇑0
 .have:=h6 y hy;rw[hf] at this;simp only[Jdm,Jbv] at this;rcases this with (q|q)|q
  .exact absurd q ⇑0
  .exact .inl q
  .exact .inr q
 .have:=h7 y hy;exact⟨Jbv.mp this.1,Jbv.mp this.2⟩
structure FunC (K:Frag)(x qual:Str)(st:Stmt)(f:Addr)(fd:FuncData)(c:Addr):Prop where
 ex:∃ (oc:Value) (od:Option Addr) (kV doc pm:Value) (an:Option Addr) (ct:Value) (osl:Array (Option Value)),
  fd=PySem.W.fnOf x qual (Zcu st) (Zcd st) (Zah st) .none kV doc pm an (.ref c) ct/\K.lookup f=some ⟨oc,od,.func fd,osl⟩/\PySem.W.codeIn K (.ref c) qual=true
section
theorem FunC.ok {x qual:Str}{st:Stmt}{f c:Addr}{fd:FuncData}{N ps:List Str}{k:Nat}{sp:L2.Sp}(F:FunC K x qual st f fd c)(S:FnScope N ps (Zah st))(len:∀ vs H Q E,sp vs H Q E->vs.length=ps.length)(hbody:∀ (A:Around) (outer:List Env) (s:Shared) (H:Hp) (vs:List V) (Q:VK) (E:XK),Room k (A.deeper (envOfC qual (Zah st) s.heap.objs.size f (.ref c)))->sp vs H Q E->
   ∃ t,PSs (Zwh CX0 P w K mg base N qual (Zah st) f (.ref c) A outer s H E).nox (Zcd st) t/\t { nx:=λ_ H'=>Q .non H',rt:=Q } (start N vs) H):FnOk P w K mg base CX0 (k+1) f fd ps sp:=by
 refine xE8_3 F.ex λoc od kV doc pm an ct osl e98 lk hcd=>?_;obtain rfl:=e98;refine fn_of lk hcd S len λA outer s H vs Q E hr hsp=>?_;refine Zad (hbody A outer s H vs Q E hr hsp) λt h q=>?_;exact⟨t,h.nox,q⟩
theorem FunC.binds {x qual:Str}{st:Stmt}{f c:Addr}{fd:FuncData}{ps:List Str}(F:FunC K x qual st f fd c)(h:∀ (kV doc pm:Value) (an:Option Addr) (cdv ct:Value) (us:List Value),us.length=ps.length->bindArgs (PySem.W.fnOf x qual (Zcu st) (Zcd st) (Zah st) .none kV doc pm an cdv ct) ⟨us,[]⟩=pure (ps.zip us)):Binds K fd ps []:=by
 refine xE8_3 F.ex λoc od kV doc pm an ct osl e99 lk hcd=>?_;obtain rfl:=e99;exact .all (h kV doc pm an (.ref c) ct)
end
end L2
namespace L2
open PySem PySem.Spec PyProof.Rows PySem.W
def hdIn (K:Frag)(c P:Addr):Bool:=
 match List.lookup c K with
 | some ⟨.type t,_,.fields (vs:Array Value),_⟩=>t == "code" && (match (vs[11]?:Option Value) with|some (Value.ref q)=>q == P|_=>false) && (match vs.getD 11 .none with | .ref q=>q == P|_=>false) && (match vs.getD 18 .none with | .str _ _=>true|_=>false) && (match vs.getD 7 .none with | .int _ _=>true|_=>false) && (match vs.getD 9 .none with | .bool _=>true|_=>false) && (match vs.getD 10 .none with | .int _ _=>true|_=>false) && c != P
 | _=>false
theorem hd_of {K:Frag}{h:Heap}{c P:Addr}(X:K.In h)(e:hdIn K c P=true):PySem.W.CodeHd h c P:=by
 unfold hdIn at e;split at e
 .rename_i t d vs sl hl
  simp only[Jcm] at e;obtain⟨⟨⟨⟨⟨⟨⟨e1,e2⟩,e3⟩,e4⟩,e5⟩,e6⟩,e7⟩,e8⟩:=e;have e1:=eq_of_beq e1;subst e1;have h2:vs[11]?=some (.ref P):=by
   split at e2
   .rename_i q hq
    rw[hq,eq_of_beq e2]
   .cases e2
  have h3:vs.getD 11 .none=.ref P:=by
   split at e3
   .rename_i q hq
    rw[hq,eq_of_beq e3]
   .cases e3
  have h4:∃ f t,vs.getD 18 .none=.str f t:=by
   split at e4
   .rename_i f t hq
    exact⟨f,t,hq⟩
   .cases e4
  have h5:∃ f t,vs.getD 7 .none=.int f t:=by
   split at e5
   .rename_i f t hq
    exact⟨f,t,hq⟩
   .cases e5
  have h6:∃ f,vs.getD 9 .none=.bool f:=by
   split at e6
   .rename_i f hq
    exact⟨f,hq⟩
   .cases e6
  have h7:∃ f t,vs.getD 10 .none=.int f t:=by
   split at e7
   .rename_i f t hq
    exact⟨f,t,hq⟩
   .cases e7
  obtain⟨f1,t1,h4⟩:=h4;obtain⟨f2,t2,h5⟩:=h5;obtain⟨f3,h6⟩:=h6;obtain⟨f4,t4,h7⟩:=h7;exact⟨_,vs,f1,t1,f2,t2,f3,f4,t4,X c _ hl,rfl,rfl,h2,h3,h4,h5,h6,h7,by simpa using e8⟩
 .cases e
theorem Zug {l:PySem.W.OpenLaw}{n k:Nat}{q:Program}{loose:List Str}{XP:(Str->Option Value)->Heap->Prop}{YP:World->Heap->Prop}{d:DefRec}{K:Params->Frag}{sp:World->Sp}{x:Str}(cL PL:Addr)(ln co:Int)(qu:Str)(hq:importsNone q=true)(hn:l.most=some n)(hn2:n<=sizeLine)(hdf:d.params.defaults=[])(hr:Room k callerA)(hY:∀ (w:World) (h:Heap),YP w h->(K w.params).In h)(hP:∀ (w:World) (h:Heap),YP w h->h.get? PL=some (PySem.W.tabObj #[]))(hN:∀ p,(K p).lookup PL=none)(hC:∀ p,hdIn (K p) cL PL=true)(F:∀ (w:World) (mg:Str->Option Value) (fa:Addr) (h:Heap),(K w.params).In h->h.Ns mainGlobals mg->mg d.name=some (.ref fa)->
   ∃ fd:FuncData,(∀ (s:Shared) (u:Value),BindsTo s fd ⟨[u],[]⟩ [(x,u)]) /\
    ∀ base:Heap,(K w.params).In base->base.Ns mainGlobals mg->FnOk l.prog w (K w.params) mg base CX0 k fa fd [x] (sp w))(hsp:∀ (w:World) (H:Hp) (a:Addr) (ns:List Int) (Q:VK) (E:XK),ns.length<=n->SqL (K w.params) H a (ns.map V.int)->H PL=some (.tab ln co qu)->(∀ H',H' PL=some (.tab ln co qu)->Q (.bl true) H')->sp w [.ref a] H Q E):
  PySem.W.WalkO q loose XP YP l.row.toRowW d [] (λf vs=>PySem.call f vs):=by
 have one:∀ b t,([(PL,ln,co,qu)]:Tbs).lookup b=some t->b=PL/\t=(ln,co,qu):=λb t e=>by
  rw[Jba] at e;split at e
  .rename_i hb
   cases e;exact⟨eq_of_beq hb,rfl⟩
  .cases e
 have two:([(PL,ln,co,qu)]:Tbs).lookup PL=some (ln,co,qu):=by rw[Jba];simp
 refine Zuf (l:=l) (n:=n) (k:=k) (K:=K) (CX:=λ_=>CX0) (sp:=sp) (x:=x) (tb:=[(PL,ln,co,qu)]) hq hn hn2 hdf hr hY (λw h Y b t e=>?_) F (λw H a ns hl hS hT=>?_) (λ_ _ _ _ _ h=>h)
 .obtain ⟨rfl,_⟩:=one b t e;have g:=hP w h Y;exact⟨g,hN _,((hd_of (hY w h Y) (hC _)).tab g).isCodeTable⟩
 .refine hsp w H a ns _ _ hl hS (hT PL _ two) λH' h'=>⟨rfl,λb t e=>?_⟩
  obtain⟨rfl,rfl⟩:=one b t e;exact h'
end L2
namespace L2
open PySem PySem.Spec PyProof.Rows
abbrev two (elt t1 i1 t2 i2:Expr)(scope:Scope)(pos:Pos):Expr:=.ListComp elt [⟨t1,i1,[],0⟩,⟨t2,i2,[],0⟩] scope pos
section
variable {prog:Program}{w:World}{A:Around}{R:Result->Shared->Prop}{s:Shared}{elt t1 i1 t2 i2:Expr}{scope:Scope}{pos:Pos}{it acc:Value}{env:Env}
end
section
variable {X:Cx}{tg iter t2 i2 elt:Expr}{scope:Scope}{pos:Pos}{own:List Str}{fr:List (Str×Nat)}{wi wi2:TI}{g g2:TG}{te:TE}
end
end L2
namespace L3
open L2
open Lean.Grind
def Zp (n:Nat):Type:=Fin n
instance {n:Nat}[NeZero n]:CommRing (Zp n):=inferInstanceAs (CommRing (Fin n))
class PrimeN (n:Nat):Prop where
 gt:1<n
 inv:∀ r:Nat,0<r->r<n->∃ k,k<n/\k*r % n=1
instance {n:Nat}[h:PrimeN n]:NeZero n:=⟨by have:=h.gt;omega⟩
section
variable {n:Nat}[hn:PrimeN n]
theorem Zwr (a:Zp n)(h:a≠0):∃ b:Zp n,a*b=1:=by
 have h0:0<(show Fin n from a).val:=by
  rcases Nat.eq_zero_or_pos (show Fin n from a).val with z|z
  .exact absurd (show a=0 from Fin.ext (by rw[z];rfl)) h
  .exact z
 refine Zad (hn.inv _ h0 (show Fin n from a).isLt) λk hk e=>?_;refine⟨(⟨k,hk⟩:Fin n),?_⟩;apply Fin.ext;show ((show Fin n from a).val*k) % n=1 % n;rw[Nat.mul_comm,e,Nat.mod_eq_of_lt hn.gt]
open Classical in
noncomputable def zinv (a:Zp n):Zp n:=if h:a≠0 then Classical.choose (Zwr a h) else 0
theorem Zih {a:Zp n}(h:a≠0):a*zinv a=1:=by
 unfold zinv;rw[dif_pos h];exact Jcv (Zwr a h)
theorem Ziq:zinv (0:Zp n)=0:=by
 unfold zinv;rw[dif_neg (by simp)]
theorem Zip:(0:Zp n)≠1:=λz=>by
 have:=Jc8 (λx:Fin n=>x.val) z;have h1:(0:Nat) % n=1 % n:=this;rw[Nat.zero_mod,Nat.mod_eq_of_lt hn.gt] at h1;omega
theorem Zqo {a b c:Zp n}(h1:a*b=1)(h2:a*c=1):b=c:=by
 have:b=b*(a*c):=by rw[h2];grind
 rw[this]
 grind
theorem Zqp (a:Zp n):zinv (zinv a)=a:=by
 by_cases h:a=0
 .rw [h,Ziq,Ziq]
 .have h1:=Zih h;have h2:zinv a≠0:=λz=>by
   rw[z] at h1;exact Zip (by rw[<- h1];grind)
  exact Zqo (Zih h2) (by rw[<- h1];grind)
theorem Zt8:zinv (1:Zp n)=1:=Zqo (Zih (λz=>Zip z.symm)) (by grind)
noncomputable instance:Inv (Zp n):=⟨zinv⟩
noncomputable instance:Div (Zp n):=⟨λa b=>a*zinv b⟩
noncomputable def zpw (a:Zp n):Int->Zp n
 | .ofNat k=>a ^ k
 | .negSucc k=>zinv (a ^ (k+1))
noncomputable instance:HPow (Zp n) Int (Zp n):=⟨zpw⟩
noncomputable instance:Field (Zp n) where
 div_eq_mul_inv:=λa b=>rfl
 zero_ne_one:=Zip
 inv_zero:=Ziq
 mul_inv_cancel:=λh=>Zih h
 zpow_zero:=λa=>Semiring.pow_zero a
 zpow_succ:=λa k=>Semiring.pow_succ a k
 zpow_neg:=λa k=>by
  match k with
  | .ofNat 0=>exact (show a ^ (0:Nat)=zinv (a ^ (0:Nat)) by rw[Semiring.pow_zero,Zt8])
  | .ofNat (m+1)=>rfl
  | .negSucc m=>exact (Zqp (a ^ (m+1))).symm
end
section
variable {F:Type}[Field F]
def ic (z:Int):F:=(Ring.intCast:IntCast F).intCast z
theorem Zpk (x y:Int):(ic (x+y):F)=ic x+ic y:=Ring.intCast_add x y
theorem Zs7 (x y:Int):(ic (x-y):F)=ic x-ic y:=Ring.intCast_sub x y
theorem Zch (x y:Int):(ic (x*y):F)=ic x*ic y:=Ring.intCast_mul x y
theorem Zxc (x:Int):(ic (-x):F)=-ic x:=Ring.intCast_neg x
theorem Zd5:(ic 0:F)=0:=Ring.intCast_zero
theorem Zf0:(ic 1:F)=1:=Ring.intCast_one
end
def Rz (p z:Int):Prop:=p=0\/(0<=z/\z<p)
structure FdOk (p:Int)(F:Type)[Field F]:Prop where
 z0:∀ z:Int,Rz p z->(ic z:F)=0->z=0
 md:p≠0->(ic p:F)=0
theorem fd_zero:FdOk 0 Rat:=⟨λz _ h=>by
 have h2:(z:Rat)=((0:Int):Rat):=h;exact Rat.intCast_inj.mp h2,λh=>absurd rfl h⟩
theorem Zwq {n:Nat}[PrimeN n](k:Nat):(show Fin n from (ic ((k:Nat):Int):Zp n)).val=k % n:=by
 have:(ic ((k:Nat):Int):Zp n)=(Semiring.natCast:NatCast (Zp n)).natCast k:=Ring.intCast_natCast k;rw[this];rfl
theorem Zwe {n:Nat}[hn:PrimeN n]:FdOk n (Zp n):=by
 refine⟨λz hz h=>?_,λ_=>?_⟩
 .have hz:0<=z/\z<n:=hz.resolve_left (by have:=hn.gt;omega);obtain⟨k,rfl⟩:=Int.eq_ofNat_of_zero_le hz.1;have h2:=Zwq (n:=n) k;rw[h,Nat.mod_eq_of_lt ∅] at h2;have h3:0 % n=k:=h2;rw[Nat.zero_mod] at h3;rw[<- h3];rfl
 .apply Fin.ext;have h2:=Zwq (n:=n) n;rw[Nat.mod_self] at h2;refine h2.trans ?_;show 0=0 % n;rw[Nat.zero_mod]
def nm {F:Type}[Field F](x:Int×Int):F:=ic x.1 / ic x.2
section
variable {p:Int}{F:Type}[Field F]
theorem Zmt {a b c:F}(h:b≠0)(e:c*b=a):a / b=c:=by grind
theorem FdOk.modF (hF:FdOk p F)(hp:p≠0)(z:Int):(ic (z % p):F)=ic z:=by
 have e:z=z % p+p*(z / p):=(Jej z p).symm;have e2:(ic z:F)=ic (z % p)+ic p*ic (z / p):=by
  rw[<- Zch,<- Zpk,<- e]
 rw[e2,hF.md hp]
 grind
theorem FdOk.ne0 (hF:FdOk p F){z:Int}(hz:Rz p z)(h:z≠0):(ic z:F)≠0:=λe=>h (hF.z0 z hz e)
theorem FdOk.bot (hF:FdOk p F){x:Int×Int}(h:Isn p x):(ic x.2:F)≠0:=by
 rcases h with ⟨hp,h1,_⟩|⟨_,_,_,h1⟩
 .exact hF.ne0 (.inl hp) ∅
 .rw [h1,Zf0];exact λz=>Field.zero_ne_one (α:=F) z.symm
theorem FdOk.nrmF (hF:FdOk p F)(hp:p=0){a b:Int}(hb:0<b):(nm (nrm a b):F)=ic a / ic b:=by
 have g0:(ic ((Int.gcd a b:Nat):Int):F)≠0:=hF.ne0 (.inl hp) (by have:=Zeo (a:=a) hb;omega);have b0:(ic b:F)≠0:=hF.ne0 (.inl hp) ∅;have e1:(ic (nrm a b).1:F)*ic ((Int.gcd a b:Nat):Int)=ic a:=by rw[<- Zch,Zld]
 have e2:(ic (nrm a b).2:F)*ic ((Int.gcd a b:Nat):Int)=ic b:=by rw[<- Zch,Zlc]
 have c0:(ic (nrm a b).2:F)≠0:=λz=>b0 (by rw[<- e2,z];grind);unfold nm;rw[<- e1,<- e2];generalize (ic (nrm a b).1:F)=x at *;generalize (ic (nrm a b).2:F)=y at *;generalize (ic ((Int.gcd a b:Nat):Int):F)=g at *;exact Zmt c0 (by grind)
theorem FdOk.one (hF:FdOk p F)(z:Int):(nm (z,1):F)=ic z:=by
 unfold nm;rw[Zf0];exact Zmt (λz=>Field.zero_ne_one (α:=F) z.symm) (by grind)
theorem FdOk.plus (hF:FdOk p F){x y:Int×Int}(hx:Isn p x)(hy:Isn p y):(nm (Zdn p x y):F)=nm x+nm y:=by
 have bx:=hF.bot hx;have by':=hF.bot hy
 unfold Zdn;split
 .rename_i hp
  rw[hF.nrmF hp (Jd1 hx.pos hy.pos),Zpk,Zch,Zch,Zch];unfold nm
  grind
 .rename_i hp
  rw[hF.one,hF.modF hp,Zpk];rcases hx with ⟨z,_⟩|⟨_,_,_,h1⟩
  .exact absurd z hp
  .rcases hy with ⟨z,_⟩|⟨_,_,_,h2⟩
   .exact absurd z hp
   .unfold nm;rw[h1,h2,Zf0]
    grind
theorem FdOk.times (hF:FdOk p F){x y:Int×Int}(hx:Isn p x)(hy:Isn p y):(nm (Zbn p x y):F)=nm x*nm y:=by
 have bx:=hF.bot hx;have by':=hF.bot hy
 unfold Zbn;split
 .rename_i hp
  rw[hF.nrmF hp (Jd1 hx.pos hy.pos),Zch,Zch];unfold nm
  grind
 .rename_i hp
  rw[hF.one,hF.modF hp,Zch];rcases hx with ⟨z,_⟩|⟨_,_,_,h1⟩
  .exact absurd z hp
  .rcases hy with ⟨z,_⟩|⟨_,_,_,h2⟩
   .exact absurd z hp
   .unfold nm;rw[h1,h2,Zf0]
    grind
theorem FdOk.intF (hF:FdOk p F)(k:Int):(nm (Zj4 p k):F)=ic k:=by
 unfold Zj4;split
 .exact hF.one k
 .rename_i hp
  rw[hF.one,hF.modF hp]
theorem FdOk.inj (hF:FdOk p F){x y:Int×Int}(hx:Isn p x)(hy:Isn p y)(e:(nm x:F)=nm y):x=y:=by
 have bx:=hF.bot hx;have by':=hF.bot hy
 have e2:(ic x.1:F)*ic y.2=ic y.1*ic x.2:=by unfold nm at e;grind
 rw[<- Zch,<- Zch] at e2;have e3:(ic (x.1*y.2-y.1*x.2):F)=0:=by rw[Zs7,e2];grind
 by_cases hp:p=0
 .have h:=hF.z0 _ (.inl hp) e3;rcases hx with ⟨_,lx⟩|⟨z,_⟩
  .rcases hy with ⟨_,ly⟩|⟨z,_⟩
   .exact Zqd lx ly ∅
   .omega
  .omega
 .rcases hx with ⟨z,_⟩|⟨pp,x0,x1,h1⟩
  .exact absurd z hp
  .rcases hy with ⟨z,_⟩|⟨_,y0,y1,h2⟩
   .exact absurd z hp
   .rw [h1,h2,Int.mul_one,Int.mul_one] at e3;rw[<- hF.modF hp] at e3;have h:=hF.z0 _ (.inr ⟨Jbr _ hp,Jbe _ pp⟩) e3;have h3:x.1=y.1:=by
     have:=Int.emod_emod_of_dvd (x.1-y.1) (Int.dvd_refl p);by_cases q:y.1<=x.1
     .rw [Jcz ∅ ∅] at h;omega
     .have h4:(x.1-y.1+p) % p=0:=by rw[Int.add_emod_right];exact h
      rw[Jcz ∅ ∅] at h4;omega
    exact Prod.ext h3 (by rw[h1,h2])
end
end L3
namespace L3
open Lean.Grind
section
variable {F:Type}[Field F]
def sm:Nat->(Nat->F)->F
 | 0,_=>0
 | n+1,f=>sm n f+f n
theorem Zak:∀ {n:Nat} {f g:Nat->F},(∀ i,i<n->f i=g i)->sm n f=sm n g
 | 0,_,_,_=>rfl
 | n+1,f,g,h=>by
  show sm n f+f n=sm n g+g n;rw[Zak (n:=n) λi hi=>h i ∅,h n ∅]
theorem Zdx:∀ n:Nat,sm n (λ_=>(0:F))=0
 | 0=>rfl
 | n+1=>by
  show sm n (λ_=>(0:F))+0=0;rw[Zdx n]
  grind
theorem Zft:∀ (n:Nat) (f g:Nat->F),sm n (λi=>f i+g i)=sm n f+sm n g
 | 0,_,_=>by show (0:F)=0+0;grind
 | n+1,f,g=>by
  show sm n (λi=>f i+g i)+(f n+g n)=(sm n f+f n)+(sm n g+g n);rw[Zft n]
  grind
theorem Zdo (a:F):∀ (n:Nat) (f:Nat->F),sm n (λi=>a*f i)=a*sm n f
 | 0,_=>by show (0:F)=a*0;grind
 | n+1,f=>by
  show sm n (λi=>a*f i)+a*f n=a*(sm n f+f n);rw[Zdo a n]
  grind
theorem Zf5 (a:F)(n:Nat)(f:Nat->F):sm n (λi=>f i*a)=sm n f*a:=by
 rw[show (λi=>f i*a)=λi=>a*f i from funext λi=>by grind,Zdo]
 grind
theorem Zf4:∀ (n m:Nat) (f:Nat->Nat->F),sm n (λi=>sm m (λj=>f i j))=sm m (λj=>sm n (λi=>f i j))
 | 0,m,f=>(Zdx m).symm
 | n+1,m,f=>by
  show sm n (λi=>sm m (λj=>f i j))+sm m (λj=>f n j)=sm m (λj=>sm n (λi=>f i j)+f n j);rw[Zf4 n m,Zft]
theorem Zfs:∀ {n k:Nat} (f:Nat->F),k<n->sm n (λi=>if i=k then f i else 0)=f k
 | 0,_,_,h=>absurd h (Nat.not_lt_zero _)
 | n+1,k,f,h=>by
  show sm n (λi=>if i=k then f i else 0)+(if n=k then f n else 0)=f k;by_cases e:n=k
  .subst e;rw[if_pos rfl,Zak (g:=λ_=>0) (λi hi=>by rw[if_neg ∅]),Zdx]
   grind
  .rw [if_neg e,Zfs f ∅]
   grind
theorem Zrk {n k:Nat}(f:Nat->F)(h:k<n):sm n (λi=>(if i=k then 1 else 0)*f i)=f k:=by
 rw[<- Zfs f h];exact Zak λi _=>by split <;> grind
theorem Zi0 {n k:Nat}(f:Nat->F)(h:k<n):sm n (λi=>f i*(if i=k then 1 else 0))=f k:=by
 rw[<- Zfs f h];exact Zak λi _=>by split <;> grind
theorem Zou {n k:Nat}(f:Nat->F)(h:k<n):sm n (λi=>f i*(if k=i then 1 else 0))=f k:=by
 rw[<- Zfs f h];exact Zak λi _=>by
  by_cases e:i=k
  .rw [if_pos e,if_pos e.symm];grind
  .rw [if_neg e,if_neg (λz=>e z.symm)];grind
def sk (k j:Nat):Nat:=if j<k then j else j+1
theorem Zot:∀ {n k:Nat} (f:Nat->F),k<=n->sm (n+1) f=f k+sm n (λj=>f (sk k j))
 | n,k,f,h=>by
  by_cases e:k=n
  .subst e;show sm k f+f k=_;rw[Zak (n:=k) (f:=f) (g:=λj=>f (sk k j)) λi hi=>by unfold sk;rw[if_pos hi]]
   grind
  .cases n with
   | zero=>omega
   | succ n=>
    show sm (n+1) f+f (n+1)=f k+(sm n (λj=>f (sk k j))+f (sk k n));rw[Zot (n:=n) (k:=k) f ∅];have:sk k n=n+1:=by unfold sk;rw[if_neg ∅]
    rw[this]
    grind
theorem Zpg:∀ (r s:Nat) (Y:Nat->Nat->F),r<s->∃ v:Nat->F,(∃ j,j<s/\v j≠0)/\∀ i,i<r->sm s (λj=>Y i j*v j)=0
 | 0,s,Y,h=>⟨λ_=>1,⟨0,h,λz=>Field.zero_ne_one (α:=F) z.symm⟩,λi hi=>absurd hi (Nat.not_lt_zero _)⟩
 | r+1,s,Y,h=>by
  by_cases hz:∀ j,j<s->Y r j=0
  .obtain ⟨v,hv,he⟩:=Zpg r s Y ∅;refine⟨v,hv,λi hi=>?_⟩;by_cases e:i=r
   .subst e;rw[Zak (g:=λ_=>0) λj hj=>by rw[hz j hj];grind,Zdx]
   .exact he i ∅
  .obtain ⟨k,hk⟩:∃ k,k<s/\Y r k≠0:=by
    apply Jb5;intro z;exact hz λj hj=>Jb5 λq=>z ⟨j,hj,q⟩
   obtain⟨hk,hy⟩:=hk;obtain⟨s',rfl⟩:∃ s',s=s'+1:=⟨s-1,∅⟩
   obtain⟨v',⟨j0,hj0,hv0⟩,he⟩:=Zpg r s' (λi j=>Y i (sk k j)-Y i k / Y r k*Y r (sk k j)) ∅;obtain⟨v,hvk,hv'⟩:∃ v:Nat->F,v k=-(sm s' (λj=>Y r (sk k j)*v' j)) / Y r k/\∀ j,v (sk k j)=v' j:=by
    refine⟨λi=>if i=k then -(sm s' (λj=>Y r (sk k j)*v' j)) / Y r k else v' (if i<k then i else i-1),if_pos rfl,λj=>?_⟩;have h1:sk k j≠k:=by unfold sk;split <;> omega
    show (if sk k j=k then _ else v' (if sk k j<k then sk k j else sk k j-1))=v' j;rw[if_neg h1];congr 1;unfold sk;by_cases q:j<k
    .rw [if_pos q,if_pos q]
    .rw [if_neg q,if_neg ∅];omega
   refine⟨v,⟨sk k j0,by unfold sk;split <;> omega,by rw[hv'];exact hv0⟩,λi hi=>?_⟩;rw[Zot (k:=k) _ ∅,hvk];rw[Zak (n:=s') (f:=λj=>Y i (sk k j)*v (sk k j)) (g:=λj=>Y i (sk k j)*v' j) λj hj=>by rw[hv']];by_cases e:i=r
   .subst e;generalize sm s' (λj=>Y i (sk k j)*v' j)=S
    grind
   .have h2:=he i ∅;have h3:sm s' (λj=>(Y i (sk k j)-Y i k / Y r k*Y r (sk k j))*v' j)=sm s' (λj=>Y i (sk k j)*v' j)-Y i k / Y r k*sm s' (λj=>Y r (sk k j)*v' j):=by
     rw[<- Zdo];have:∀ (f g:Nat->F),sm s' (λj=>f j-g j)=sm s' f-sm s' g:=λf g=>by
      have e1:=Zft s' (λj=>f j-g j) g;rw[show (λj=>f j-g j+g j)=f from funext λj=>by grind] at e1;rw[e1]
      grind
     rw[<- this];exact Zak λj _=>by grind
    rw[h3] at h2;generalize sm s' (λj=>Y i (sk k j)*v' j)=S1 at *;generalize sm s' (λj=>Y r (sk k j)*v' j)=S2 at *
    grind
abbrev del (i k:Nat):F:=if i=k then 1 else 0
theorem dim_le {r s:Nat}{X Y:Nat->Nat->F}(h:∀ i k,i<s->k<s->sm r (λt=>X i t*Y t k)=del i k):s<=r:=by
 apply Jb5;intro z;obtain⟨v,⟨j,hj,hv⟩,he⟩:=Zpg r s Y ∅;apply hv;have h1:sm s (λk=>sm r (λt=>X j t*Y t k)*v k)=v j:=by
  rw[Zak (g:=λk=>del j k*v k) λk hk=>by rw[h j k hj hk]];rw[show (λk=>del j k*v k)=λk=>v k*(if j=k then 1 else 0) from funext λk=>by grind];exact Zou v hj
 rw[<- h1];rw[Zak (g:=λk=>sm r (λt=>X j t*Y t k*v k)) λk _=>by rw[Zf5],Zf4];rw[Zak (g:=λ_=>0) λt ht=>?_,Zdx];rw[show (λk=>X j t*Y t k*v k)=λk=>X j t*(Y t k*v k) from funext λk=>by grind,Zdo,he t ht]
 grind
structure Rk (A:Nat->Nat->F)(m n r:Nat):Prop where
 fac:∃ B C:Nat->Nat->F,∀ i j,i<m->j<n->A i j=sm r λk=>B i k*C k j
 piv:∃ P Q:Nat->Nat->F,∀ i k,i<r->k<r->sm m (λa=>P i a*sm n λb=>A a b*Q b k)=del i k
theorem Zm9 {m n r s:Nat}{A B C P Q:Nat->Nat->F}(hf:∀ i j,i<m->j<n->A i j=sm r λk=>B i k*C k j)(hp:∀ i k,i<s->k<s->sm m (λa=>P i a*sm n λb=>A a b*Q b k)=del i k):s<=r:=by
 refine dim_le (X:=λi t=>sm m λa=>P i a*B a t) (Y:=λt k=>sm n λb=>C t b*Q b k) λi k hi hk=>?_;rw[<- hp i k hi hk];have e1:∀ a,a<m->(sm n λb=>A a b*Q b k)=sm r λt=>B a t*sm n λb=>C t b*Q b k:=λa ha=>by
  rw[Zak (g:=λb=>sm r λt=>B a t*(C t b*Q b k)) λb hb=>?_,Zf4]
  .exact Zak λt _=>Zdo _ _ _
  .rw [hf a b ha hb,<- Zf5];exact Zak λt _=>by grind
 rw[Zak (n:=m) (g:=λa=>sm r λt=>P i a*B a t*sm n λb=>C t b*Q b k) λa ha=>?_,Zf4]
 .exact Zak λt _=>by rw[Zf5]
 .rw [e1 a ha,<- Zdo];exact Zak λt _=>by grind
theorem Rk.uniq {A:Nat->Nat->F}{m n r s:Nat}(h:Rk A m n r)(h':Rk A m n s):r=s:=by
 obtain⟨B,C,hf⟩:=h.fac;obtain⟨P,Q,hp⟩:=h.piv;obtain⟨B',C',hf'⟩:=h'.fac;obtain⟨P',Q',hp'⟩:=h'.piv;have:=Zm9 hf hp';have:=Zm9 hf' hp;omega
theorem Rk.congr {A B:Nat->Nat->F}{m n r:Nat}(h:Rk A m n r)(e:∀ i j,i<m->j<n->A i j=B i j):Rk B m n r:=by
 obtain⟨X,Y,hf⟩:=h.fac;obtain⟨P,Q,hp⟩:=h.piv;refine⟨⟨X,Y,λi j hi hj=>by rw[<- e i j hi hj];exact hf i j hi hj⟩,⟨P,Q,λi k hi hk=>?_⟩⟩;rw[<- hp i k hi hk];exact Zak λa ha=>by rw[Zak (n:=n) λb hb=>by rw[<- e a b ha hb]]
abbrev mm (n:Nat)(A B:Nat->Nat->F):Nat->Nat->F:=λi j=>sm n λk=>A i k*B k j
theorem Zvs (n l:Nat)(A B C:Nat->Nat->F)(i j:Nat):mm l (mm n A B) C i j=mm n A (mm l B C) i j:=by
 show sm l (λk=>sm n (λt=>A i t*B t k)*C k j)=sm n λt=>A i t*sm l λk=>B t k*C k j;rw[Zak (n:=l) (g:=λk=>sm n λt=>A i t*(B t k*C k j)) λk _=>?_,Zf4]
 .exact Zak λt _=>Zdo _ _ _
 .rw [<- Zf5];exact Zak λt _=>by grind
theorem Rk.of_left {A P:Nat->Nat->F}{m n:Nat}(e:∀ i j,i<n->j<n->mm m P A i j=del i j):Rk A m n n:=by
 refine⟨⟨A,λk j=>del k j,λi j hi hj=>(Zi0 _ hj).symm⟩,⟨P,λb k=>del b k,λi k hi hk=>?_⟩⟩;rw[<- e i k hi hk];exact Zak λa _=>by rw[Zi0 _ hk]
abbrev zv:Nat->F:=λ_=>0
inductive Sp (S:(Nat->F)->Prop):(Nat->F)->Prop
 | mem {v:Nat->F}:S v->Sp S v
 | zero:Sp S zv
 | comb {u v:Nat->F} (a b:F):Sp S u->Sp S v->Sp S λj=>a*u j+b*v j
theorem Sp.trans {S T:(Nat->F)->Prop}{v:Nat->F}(h:Sp S v)(k:∀ u,S u->Sp T u):Sp T v:=by
 induction h with
 | mem h=>exact k _ h
 | zero=>exact .zero
 | comb a b _ _ h1 h2=>exact .comb a b h1 h2
theorem Sp.smul {S:(Nat->F)->Prop}{v:Nat->F}(a:F)(h:Sp S v):Sp S λj=>a*v j:=by
 have:=Sp.comb a 0 h Sp.zero;rwa [show (λj=>a*v j+0*(zv j:F))=λj=>a*v j from funext λj=>by grind] at this
abbrev SpL (L:List (Nat->F))(v:Nat->F):Prop:=Sp (· ∈ L) v
structure SpEq (L L':List (Nat->F)):Prop where
 le:∀ v∈L,SpL L' v
 ge:∀ v∈L',SpL L v
theorem SpEq.refl (L:List (Nat->F)):SpEq L L:=⟨λ_ h=>.mem h,λ_ h=>.mem h⟩
theorem SpEq.symm {L L':List (Nat->F)}(h:SpEq L L'):SpEq L' L:=⟨h.ge,h.le⟩
theorem SpEq.trans {L L' L'':List (Nat->F)}(h:SpEq L L')(h':SpEq L' L''):SpEq L L'':=⟨λv hv=>(h.le v hv).trans λu hu=>h'.le u hu,λv hv=>(h'.ge v hv).trans λu hu=>h.ge u hu⟩
theorem SpEq.mems {L L':List (Nat->F)}(h:∀ v,v∈L ↔ v∈L'):SpEq L L':=⟨λv hv=>.mem ((h v).mp hv),λv hv=>.mem ((h v).mpr hv)⟩
abbrev at' (L:List (Nat->F))(i:Nat):Nat->F:=L.getD i zv
theorem Zj1 {L:List (Nat->F)}{i:Nat}(h:i<L.length):at' L i∈L:=by
 unfold at';rw[Jac,Jaa h];exact Jap h
theorem Sp.coef {L:List (Nat->F)}{v:Nat->F}(h:SpL L v):∃ c:Nat->F,∀ j,v j=sm L.length λi=>c i*at' L i j:=by
 induction h with
 | mem h=>
  obtain⟨i,hi,rfl⟩:=Jan.mp h;refine⟨λk=>del k i,λj=>?_⟩;rw[Zrk (λk=>at' L k j) hi];unfold at';rw[Jac,Jaa hi];rfl
 | zero=>exact⟨λ_=>0,λj=>by rw[Zak (g:=λ_=>0) λi _=>by grind,Zdx]⟩
 | comb a b _ _ h1 h2=>
  obtain⟨c,hc⟩:=h1;obtain⟨d,hd⟩:=h2;refine⟨λi=>a*c i+b*d i,λj=>?_⟩;show a*_+b*_=_;rw[hc j,hd j,<- Zdo,<- Zdo,<- Zft];exact Zak λi _=>by grind
structure RR (L:List (Nat->F))(n r:Nat)(c:Nat->Nat):Prop where
 rl:r<=L.length
 cn:∀ i,i<r->c i<n
 mono:∀ i k,i<k->k<r->c i<c k
 piv:∀ i k,i<r->k<r->at' L i (c k)=del i k
 low:∀ i j,i<r->j<c i->at' L i j=0
 zer:∀ i j,r<=i->i<L.length->j<n->at' L i j=0
theorem RR.expand {L:List (Nat->F)}{n r:Nat}{c:Nat->Nat}(R:RR L n r c){v:Nat->F}(h:SpL L v):∀ j,j<n->v j=sm r λi=>v (c i)*at' L i j:=by
 induction h with
 | mem h=>
  obtain⟨i,hi,rfl⟩:=Jan.mp h;have e:L[i]=at' L i:=by unfold at';rw[Jac,Jaa hi];rfl
  rw[e];intro j hj;by_cases hr:i<r
  .rw [Zak (g:=λk=>at' L k j*(if i=k then 1 else 0)) λk hk=>by rw[R.piv i k hr hk];grind,Zou _ hr]
  .rw [R.zer i j ∅ hi hj,Zak (g:=λ_=>0) λk hk=>by rw[R.zer i (c k) ∅ hi (R.cn k hk)];grind,Zdx]
 | zero=>exact λj _=>by rw[Zak (g:=λ_=>0) λi _=>by grind,Zdx]
 | comb a b _ _ h1 h2=>
  intro j hj;show a*_+b*_=_;rw[h1 j hj,h2 j hj,<- Zdo,<- Zdo,<- Zft];exact Zak λi _=>by grind
theorem RR.rk {L L':List (Nat->F)}{n r:Nat}{c:Nat->Nat}(R:RR L n r c)(h:SpEq L' L):Rk (λi j=>at' L' i j) L'.length n r:=by
 refine⟨⟨λi k=>at' L' i (c k),λk j=>at' L k j,λi j hi hj=>R.expand (h.le _ (Zj1 hi)) j hj⟩,?_⟩;have hc:∀ k,k<r->∃ d:Nat->F,∀ j,at' L k j=sm L'.length λi=>d i*at' L' i j:=λk hk=>(h.ge _ (Zj1 (Jaw hk R.rl))).coef;refine⟨λk=>if hk:k<r then Classical.choose (hc k hk) else zv,λb k=>del b (c k),λi k hi hk=>?_⟩;rw[Zak (g:=λa=>Classical.choose (hc i hi) a*at' L' a (c k)) λa _=>by
  show (if hk:i<r then Classical.choose (hc i hk) else zv) a*sm n (λb=>at' L' a b*(if b=c k then 1 else 0))=_;rw[dif_pos hi,Zi0 _ (R.cn k hk)]]
 rw[<- Jcv (hc i hi) (c k)];exact R.piv i k hi hk
end
end L3
namespace L3
open L2 Lean.Grind
def gcdL (zs:List Int):Nat:=zs.foldl (λd z=>Int.gcd z d) 0
theorem Zll:∀ (zs:List Int) (d:Nat),(zs.foldl (λd z=>Int.gcd z d) d) ∣ d/\∀ z∈zs,((zs.foldl (λd z=>Int.gcd z d) d:Nat):Int) ∣ z
 | [],d=>⟨Nat.dvd_refl _,λz h=>by simp at h⟩
 | y::zs,d=>by
  obtain⟨h1,h2⟩:=Zll zs (Int.gcd y d);have h3:Int.gcd y d ∣ d:=by have:=Int.gcd_dvd_natAbs_right y d;simpa using this
  refine⟨Nat.dvd_trans h1 h3,λz hz=>?_⟩;rcases Jbq.mp hz with rfl|hz
  .exact Int.dvd_trans (Int.ofNat_dvd.mpr h1) (Jbo z d)
  .exact h2 z hz
theorem Zlk {zs:List Int}{z:Int}(h:z∈zs):(gcdL zs:Int) ∣ z:=(Zll zs 0).2 z h
theorem Zte (zs:List Int)(i:Nat):gcdL zs ∣ gcdL (zs.take i):=by
 have e:gcdL zs=(zs.drop i).foldl (λd z=>Int.gcd z d) (gcdL (zs.take i)):=by
  unfold gcdL;rw[<- List.foldl_append,List.take_append_drop]
 rw[e];exact (Zll _ _).1
theorem Ztf {zs:List Int}{i:Nat}{z:Int}(h:zs[i]?=some z):gcdL (zs.take (i+1))=Int.gcd z (gcdL (zs.take i)):=by
 rw[Jfg,h];unfold gcdL;rw[List.foldl_append];rfl
theorem Ztd {zs:List Int}(h:gcdL zs=0){z:Int}(hz:z∈zs):z=0:=by
 have:=Zlk hz;rw[h] at this;exact Int.zero_dvd.mp this
def Zdm (p:Int)(zs:List Int):List Int:=if p=0 then zs.map (· / (gcdL zs:Int)) else zs.map (· % p)
theorem Zuk {zs:List Int}(h:gcdL zs=1):Zdm 0 zs=zs:=by
 unfold Zdm;rw[if_pos rfl,h];have:(λz:Int=>z / ((1:Nat):Int))=id:=by funext z;simp
 rw[this,List.map_id]
theorem Ziv {zs:List Int}(h:gcdL zs=0):Zdm 0 zs=zs:=by
 unfold Zdm;rw[if_pos rfl];have:∀ z∈zs,z / (gcdL zs:Int)=id z:=λz hz=>by rw[Ztd h hz];simp
 rw[Jcq this,List.map_id]
theorem Zul {p:Int}{zs:List Int}:(Zdm p zs).length=zs.length:=by unfold Zdm;split <;> simp
theorem Zpm {f:Int->Int}(h:f 0=0)(zs:List Int)(j:Nat):(zs.map f).getD j 0=f (zs.getD j 0):=by
 rw[Jac,Jac,Jad];cases zs[j]? with
 | none=>exact h.symm
 | some z=>rfl
theorem Zwa {f:Int->Int->Int}(h:f 0 0=0){xs ys:List Int}(hl:xs.length=ys.length)(j:Nat):(List.zipWith f xs ys).getD j 0=f (xs.getD j 0) (ys.getD j 0):=by
 rw[Jac,Jac,Jac,List.getElem?_zipWith];by_cases hj:j<xs.length
 .rw [Jaa hj,Jaa (show j<ys.length by omega)];rfl
 .rw [Jaj ∅,Jaj ∅];exact h.symm
theorem Zjv {zs:List Int}(j:Nat):zs.getD j 0∈zs\/zs.getD j 0=0:=by
 rw[Jac];cases e:zs[j]? with
 | none=>exact .inr rfl
 | some z=>exact .inl (Jae e)
theorem Zm8 {p:Int}(zs:List Int)(j:Nat):(Zdm p zs).getD j 0=if p=0 then zs.getD j 0 / (gcdL zs:Int) else zs.getD j 0 % p:=by
 unfold Zdm;split
 .exact Zpm (f:=(· / (gcdL zs:Int))) (by simp) zs j
 .exact Zpm (f:=(· % p)) (by simp) zs j
theorem Zlw {p:Int}{zs:List Int}{j:Nat}(h:zs.getD j 0=0):(Zdm p zs).getD j 0=0:=by
 rw[Zm8,h];split <;> simp
def Rw (p:Int)(W:Nat)(zs:List Int):Prop:=zs.length=W/\∀ z∈zs,Rz p z
theorem Rw.at {p:Int}{W:Nat}{zs:List Int}(h:Rw p W zs)(h0:0<=p)(j:Nat):Rz p (zs.getD j 0):=by
 rcases Zjv (zs:=zs) j with m|e
 .exact h.2 _ m
 .rw [e];rcases Jfe p 0 with h|h|h
  .omega
  .exact .inl h
  .exact .inr ⟨∅,h⟩
theorem Zrp {p:Int}{W:Nat}{zs:List Int}(h0:0<=p)(h:zs.length=W):Rw p W (Zdm p zs):=by
 refine⟨by rw[Zul];exact h,λz hz=>?_⟩;unfold Zdm at hz;split at hz
 .exact .inl (by assumption)
 .refine Zad (Jar.mp hz) λy _ e93=>?_;obtain rfl:=e93;exact .inr ⟨Jbr _ (by assumption),Jbe _ ∅⟩
def Zkr (row lead:List Int)(k:Nat):List Int:=List.zipWith (λx y=>lead.getD k 0 / (Int.gcd (row.getD k 0) (lead.getD k 0):Int)*x-row.getD k 0 / (Int.gcd (row.getD k 0) (lead.getD k 0):Int)*y) row lead
def Zbp (p:Int)(row lead:List Int)(k:Nat):List Int:=if row.getD k 0=0 then row else Zdm p (Zkr row lead k)
theorem Zoz {p:Int}{W:Nat}{row lead:List Int}{k:Nat}(h0:0<=p)(h:Rw p W row)(h':Rw p W lead):Rw p W (Zbp p row lead k):=by
 unfold Zbp;split
 .exact h
 .exact Zrp h0 (by unfold Zkr;rw[Jd2,h.1,h'.1];omega)
theorem Zo0 {row lead:List Int}(hl:row.length=lead.length)(k j:Nat):(Zkr row lead k).getD j 0=lead.getD k 0 / (Int.gcd (row.getD k 0) (lead.getD k 0):Int)*row.getD j 0-row.getD k 0 / (Int.gcd (row.getD k 0) (lead.getD k 0):Int)*lead.getD j 0:=by
 unfold Zkr;exact Zwa (by simp) hl j
theorem Zqj {p:Int}{row lead:List Int}{k j:Nat}(hl:row.length=lead.length)(h:row.getD j 0=0)(h':lead.getD j 0=0):(Zbp p row lead k).getD j 0=0:=by
 unfold Zbp;split
 .exact h
 .exact Zlw (by rw[Zo0 hl,h,h'];simp)
theorem Zpr {p:Int}{row lead:List Int}{k:Nat}(hl:row.length=lead.length):(Zbp p row lead k).getD k 0=0:=by
 unfold Zbp;split
 .assumption
 .refine Zlw ?_;rw[Zo0 hl];have d1:(Int.gcd (row.getD k 0) (lead.getD k 0):Int) ∣ row.getD k 0:=Jbo ..;have d2:(Int.gcd (row.getD k 0) (lead.getD k 0):Int) ∣ lead.getD k 0:=Jbz ..;generalize (Int.gcd (row.getD k 0) (lead.getD k 0):Int)=g at *;have e1:=Jcf d1;have e2:=Jcf d2;generalize row.getD k 0 / g=u at *;generalize lead.getD k 0 / g=v at *;rw[<- e1,<- e2]
  grind
section
variable {p:Int}{F:Type}[Field F]
def vz (zs:List Int):Nat->F:=λj=>ic (zs.getD j 0)
theorem Zt7:(1:F)≠0:=λz=>Field.zero_ne_one (α:=F) z.symm
theorem Zq2 (hF:FdOk p F)(zs:List Int):∃ c:F,c≠0/\∀ j,c*vz (Zdm p zs) j=vz zs j:=by
 by_cases hp:p=0
 .by_cases hg:gcdL zs=0
  .subst hp;rw[Ziv hg];exact⟨1,Zt7,λj=>by grind⟩
  .refine ⟨ic (gcdL zs:Int),hF.ne0 (.inl hp) ∅,λj=>?_⟩;unfold vz;rw[Zm8,if_pos hp,<- Zch,Je8,Jcf];rcases Zjv (zs:=zs) j with m|e
   .exact Zlk m
   .rw [e];exact Int.dvd_zero _
 .refine ⟨1,Zt7,λj=>?_⟩;unfold vz;rw[Zm8,if_neg hp,hF.modF hp]
  grind
theorem Zg3 {W:Nat}{row lead:List Int}{k:Nat}(h0:0<=p)(hF:FdOk p F)(h:Rw p W row)(h':Rw p W lead)(hk:lead.getD k 0≠0):∃ a b:F,a≠0/\∀ j,vz (Zbp p row lead k) j=a*vz row j+b*vz lead j:=by
 unfold Zbp;split
 .exact Zat 1 0 ⟨Zt7,λj=>by grind⟩
 .have hl:row.length=lead.length:=h.1.trans h'.1.symm;refine Zad (Zq2 hF (Zkr row lead k)) λc hc e=>?_;have d2:(Int.gcd (row.getD k 0) (lead.getD k 0):Int) ∣ lead.getD k 0:=Jbz ..;have e2:=Jcf d2;have l0:(ic (lead.getD k 0):F)≠0:=hF.ne0 (h'.at h0 k) hk;have ek:∀ j,(vz (Zkr row lead k) j:F)=ic (lead.getD k 0 / (Int.gcd (row.getD k 0) (lead.getD k 0):Int))*vz row j-ic (row.getD k 0 / (Int.gcd (row.getD k 0) (lead.getD k 0):Int))*vz lead j:=λj=>by
   unfold vz;rw[Zo0 hl,Zs7,Zch,Zch]
  generalize (Int.gcd (row.getD k 0) (lead.getD k 0):Int)=g at *;have k0:(ic (lead.getD k 0 / g):F)≠0:=λz=>l0 (by rw[<- e2,Zch,z];grind);generalize (ic (lead.getD k 0 / g):F)=u at *;generalize (ic (row.getD k 0 / g):F)=v at *;refine Zat (u / c) (-(v / c)) ⟨by grind,λj=>?_⟩;have e3:=e j;rw[ek j] at e3;generalize (vz (Zdm p (Zkr row lead k)) j:F)=y at *
  grind
theorem Zn0 {Z:List (List Int)}{v:Nat->F}(h:v∈Z.map vz):∃ row∈Z,v=vz row:=by
 refine Zad (Jar.mp h) λrow h1 h2=>?_;exact⟨row,h1,h2.symm⟩
theorem Zke {W k:Nat}{A B:List (List Int)}{lead:List Int}(h0:0<=p)(hF:FdOk p F)(hA:∀ row∈A,Rw p W row)(hB:lead∈B)(hL:Rw p W lead)(hk:lead.getD k 0≠0):
  SpEq (F:=F) ((A.map (λrow=>Zbp p row lead k)++B).map vz) ((A++B).map vz):=by
 refine⟨λv hv=>?_,λv hv=>?_⟩
 .refine Zad (Zn0 hv) λrow hr e94=>?_;obtain rfl:=e94;rcases Jal.mp hr with hr|hr
  .refine Zad (Jar.mp hr) λrow' hr' e95=>?_;obtain rfl:=e95;refine Zbh (Zg3 (k:=k) h0 hF (hA _ hr') hL hk) λa b _ e=>?_;rw[show vz (Zbp p row' lead k)=λj=>a*vz row' j+b*vz lead j from funext e];exact .comb a b (.mem (Jar.mpr ⟨row',Jal.mpr (.inl hr'),rfl⟩)) (.mem (Jar.mpr ⟨lead,Jal.mpr (.inr hB),rfl⟩))
  .exact .mem (Jar.mpr ⟨row,Jal.mpr (.inr hr),rfl⟩)
 .refine Zad (Zn0 hv) λrow hr e96=>?_;obtain rfl:=e96;rcases Jal.mp hr with hr|hr
  .refine Zbh (Zg3 (k:=k) h0 hF (hA _ hr) hL hk) λa b ha e=>?_;rw[show (vz row:Nat->F)=λj=>(1 / a)*vz (Zbp p row lead k) j+(-(b / a))*vz lead j from funext λj=>by rw[e j];grind];exact .comb _ _ (.mem (Jar.mpr ⟨_,Jal.mpr (.inl (Jar.mpr ⟨row,hr,rfl⟩)),rfl⟩)) (.mem (Jar.mpr ⟨lead,Jal.mpr (.inr hB),rfl⟩))
  .exact .mem (Jar.mpr ⟨row,Jal.mpr (.inr hr),rfl⟩)
end
inductive Sw (p:Int) (Z:List (List Int)):Nat->List (List Int)->List (List Int)->List Nat->Prop
 | start:Sw p Z 0 [] Z []
 | skip {k:Nat} {done left:List (List Int)} {pl:List Nat}:Sw p Z k done left pl->(∀ row∈left,row.getD k 0=0)->Sw p Z (k+1) done left pl
 | take {k:Nat} {done left:List (List Int)} {pl:List Nat} (i:Nat) (lead:List Int):Sw p Z k done left pl->left[i]?=some lead->lead.getD k 0≠0->Sw p Z (k+1) (done++[lead]) ((left.eraseIdx i).map λrow=>Zbp p row lead k) (pl++[k])
structure SwI (p:Int)(W:Nat)(Z:List (List Int))(k:Nat)(done left:List (List Int))(pl:List Nat):Prop where
 len:done.length=pl.length
 all:done.length+left.length=Z.length
 rw:∀ row∈done++left,Rw p W row
 asc:∀ i j,i<j->j<pl.length->pl.getD i 0<pl.getD j 0
 lt:∀ i,i<pl.length->pl.getD i 0<k
 piv:∀ i,i<pl.length->(done.getD i []).getD (pl.getD i 0) 0≠0
 low:∀ i j,i<pl.length->j<pl.getD i 0->(done.getD i []).getD j 0=0
 zer:∀ row∈left,∀ j,j<k->row.getD j 0=0
 sp:∀ (F:Type) [Field F],FdOk p F->SpEq (F:=F) ((done++left).map vz) (Z.map vz)
theorem Zsr {α:Type}{xs:List α}{i:Nat}{x y:α}(h:xs[i]?=some x)(hy:y∈xs):y=x\/y∈xs.eraseIdx i:=by
 obtain⟨j,hj,rfl⟩:=Jan.mp hy;by_cases e:j=i
 .subst e;rw[Jaa hj] at h;cases h;exact .inl rfl
 .refine .inr ?_;rw[List.mem_eraseIdx_iff_getElem?];exact⟨j,e,Jaa hj⟩
theorem Zci {α:Type}{xs:List α}{x d:α}{i:Nat}:(xs++[x]).getD i d=if i<xs.length then xs.getD i d else if i=xs.length then x else d:=by
 rw[Jac,Jac];by_cases h:i<xs.length
 .rw [if_pos h,Jay h]
 .rw [if_neg h,Jav ∅];by_cases e:i=xs.length
  .rw [if_pos e,e,Je7];rfl
  .rw [if_neg e,Jaj (by simp;omega)];rfl
theorem Sw.inv {p:Int}{W:Nat}{Z:List (List Int)}{k:Nat}{done left:List (List Int)}{pl:List Nat}(h0:0<=p)(hZ:∀ row∈Z,Rw p W row)(h:Sw p Z k done left pl):SwI p W Z k done left pl:=by
 induction h with
 | start=>exact⟨rfl,by simp,by simpa using hZ,λi j _ h=>by simp at h,λi h=>by simp at h,λi h=>by simp at h,λi j h=>by simp at h,λ_ _ j h=>∅,λF _ _=>SpEq.refl _⟩
 | @skip k done left pl h hz ih=>
  refine⟨ih.len,ih.all,ih.rw,ih.asc,λi hi=>Jcy (ih.lt i hi),ih.piv,ih.low,λrow hr j hj=>?_,ih.sp⟩;by_cases e:j=k
  .subst e;exact hz row hr
  .exact ih.zer row hr j ∅
 | @take k done left pl i lead h hi hk ih=>
  have hlm:lead∈left:=Jae hi;have hil:i<left.length:=(Jaf.mp hi).1;have rl:Rw p W lead:=ih.rw _ (Jal.mpr (.inr hlm));have re:∀ row∈left.eraseIdx i,Rw p W row:=λrow hr=>ih.rw _ (Jal.mpr (.inr (Jb8 hr)));have hlen:=ih.len;refine⟨by rw[Jah,Jah,hlen];rfl,?_,λrow hr=>?_,λa b hab hb=>?_,λa ha=>?_,λa ha=>?_,λa b ha hb=>?_,λrow hr j hj=>?_,λF _ hF=>?_⟩
  .rw [Jah,Jab,List.length_eraseIdx_of_lt hil];have:=ih.all;simp only[Jce,Jdq];omega
  .rcases Jal.mp hr with hr|hr
   .rcases Jal.mp hr with hr|hr
    .exact ih.rw _ (Jal.mpr (.inl hr))
    .rw [Jas.mp hr];exact rl
   .refine Zad (Jar.mp hr) λrow' hr' e97=>?_;obtain rfl:=e97;exact Zoz h0 (re _ hr') rl
  .rw [Jah] at hb;simp only[Jce,Jdq] at hb;rw[Zci,Zci,if_pos ∅];by_cases e:b<pl.length
   .rw [if_pos e];exact ih.asc a b hab e
   .rw [if_neg e,if_pos ∅];exact ih.lt a ∅
  .rw [Jah] at ha;simp only[Jce,Jdq] at ha;rw[Zci];by_cases e:a<pl.length
   .rw [if_pos e];exact Jcy (ih.lt a e)
   .rw [if_neg e,if_pos ∅];omega
  .rw [Jah] at ha;simp only[Jce,Jdq] at ha;rw[Zci,Zci];by_cases e:a<pl.length
   .rw [if_pos e,if_pos ∅];exact ih.piv a e
   .rw [if_neg e,if_neg ∅,if_pos ∅,if_pos ∅];exact hk
  .rw [Jah] at ha;simp only[Jce,Jdq] at ha;rw[Zci] at hb ⊢;by_cases e:a<pl.length
   .rw [if_pos e] at hb;rw[if_pos ∅];exact ih.low a b e hb
   .rw [if_neg e,if_pos ∅] at hb;rw[if_neg ∅,if_pos ∅];exact ih.zer _ hlm b hb
  .refine Zad (Jar.mp hr) λrow' hr' e98=>?_;obtain rfl:=e98;have hl:row'.length=lead.length:=(re _ hr').1.trans rl.1.symm;by_cases e:j=k
   .subst e;exact Zpr hl
   .exact Zqj hl (ih.zer _ (Jb8 hr') j ∅) (ih.zer _ hlm j ∅)
  .refine SpEq.trans ?_ (ih.sp F hF);refine SpEq.trans (SpEq.mems (L':=((left.eraseIdx i).map (λrow=>Zbp p row lead k)++(done++[lead])).map vz) λv=>?_) (SpEq.trans (Zke (k:=k) h0 hF re (by simp) rl hk) (SpEq.mems λv=>?_))
   .simp only [Jar,Jal];exact⟨λ⟨a,b,c⟩=>⟨a,b.symm,c⟩,λ⟨a,b,c⟩=>⟨a,b.symm,c⟩⟩
   .simp only [Jar,Jal,Jas];constructor
    .intro e91;refine Zad e91 λa b c=>?_;clear e91;refine⟨a,?_,c⟩;rcases b with b|b|b
     .exact .inr (Jb8 b)
     .exact .inl b
     .rw [b];exact .inr hlm
    .intro e92;refine Zad e92 λa b c=>?_;clear e92;refine⟨a,?_,c⟩;rcases b with b|b
     .exact .inr (.inl b)
     .rcases Zsr hi b with b|b
      .exact .inr (.inr b)
      .exact .inl b
def Zbl (p:Int)(pl:List Nat)(R0:List (List Int)):Nat->List (List Int)
 | 0=>R0
 | t+1=>((Zbl p pl R0 t).take (pl.length-1-t)).map (λrow=>Zbp p row ((Zbl p pl R0 t).getD (pl.length-1-t) []) (pl.getD (pl.length-1-t) 0))++(Zbl p pl R0 t).drop (pl.length-1-t)
theorem Za4 {α:Type}{xs:List α}{i:Nat}{d:α}(h:i<xs.length):xs.getD i d=xs[i]:=by rw[Jac,Jaa h];rfl
theorem back_at {p:Int}{pl:List Nat}{R0:List (List Int)}{t i:Nat}:(Zbl p pl R0 (t+1)).getD i [] =
  if i<pl.length-1-t/\i<(Zbl p pl R0 t).length then Zbp p ((Zbl p pl R0 t).getD i []) ((Zbl p pl R0 t).getD (pl.length-1-t) []) (pl.getD (pl.length-1-t) 0) else (Zbl p pl R0 t).getD i []:=by
 show (((Zbl p pl R0 t).take (pl.length-1-t)).map (λrow=>Zbp p row ((Zbl p pl R0 t).getD (pl.length-1-t) []) (pl.getD (pl.length-1-t) 0))++(Zbl p pl R0 t).drop (pl.length-1-t)).getD i []=_;generalize Zbl p pl R0 t=R;generalize pl.length-1-t=a;rw[Jac];by_cases h:i<a/\i<R.length
 .rw [if_pos h,Jay (by rw[Jab,Jbc];omega),Jad,Jdc h.1,Jaa h.2,Za4 h.2];rfl
 .rw [if_neg h,Jav (by rw[Jab,Jbc];omega),Jab,Jbc,Je9,Jac];by_cases h2:i<R.length
  .congr 2;omega
  .rw [Jaj ∅,Jaj ∅]
structure BkI (p:Int)(W wide:Nat)(Z:List (List Int))(pl:List Nat)(F:Type)[Field F](t:Nat)(R:List (List Int)):Prop where
 len:R.length=Z.length
 rw:∀ row∈R,Rw p W row
 piv:∀ i,i<pl.length->(vz (R.getD i []) (pl.getD i 0):F)≠0
 low:∀ i j,i<pl.length->j<pl.getD i 0->(vz (R.getD i []) j:F)=0
 zer:∀ i j,pl.length<=i->i<R.length->j<wide->(vz (R.getD i []) j:F)=0
 up:∀ i l,i<pl.length->l<pl.length->pl.length-t<=l->l≠i->(vz (R.getD i []) (pl.getD l 0):F)=0
 sp:SpEq (F:=F) (R.map vz) (Z.map vz)
theorem Ziu {F:Type}[Field F]{zs:List Int}{j:Nat}(h:zs.getD j 0=0):(vz zs j:F)=0:=by unfold vz;rw[h,Zd5]
theorem Zem {α:Type}{xs:List α}{x:α}(h:x∈xs)(d:α):∃ i,i<xs.length/\xs.getD i d=x:=by
 obtain⟨i,hi,rfl⟩:=Jan.mp h;exact⟨i,hi,Za4 hi⟩
theorem Za0 {α:Type}{xs:List α}{i:Nat}{d:α}(h:i<xs.length):xs.getD i d∈xs:=by rw[Za4 h];exact Jap h
theorem Sw.back {p:Int}{W wide:Nat}{Z:List (List Int)}{done left:List (List Int)}{pl:List Nat}(h0:0<=p)(I:SwI p W Z wide done left pl){F:Type}[Field F](hF:FdOk p F):
  ∀ t,t<=pl.length->BkI p W wide Z pl F t (Zbl p pl (done++left) t)
 | 0,_=>by
  have hlen:=I.len;have e:∀ i,i<pl.length->(done++left).getD i []=done.getD i []:=λi hi=>by
   rw[Jac,Jay ∅,Jac]
  refine⟨by show (done++left).length=_;rw[Jah];exact I.all,I.rw,λi hi=>?_,λi j hi hj=>?_,λi j hi hi2 hj=>?_,λi l hi hl h=>∅,I.sp F hF⟩
  .show (ic (((done++left).getD i []).getD (pl.getD i 0) 0):F)≠0;have hr:(done++left).getD i []∈done++left:=Za0 (by rw[Jah];omega);exact hF.ne0 ((I.rw _ hr).at h0 _) (by rw[e i hi];exact I.piv i hi)
  .exact Ziu (by show ((done++left).getD i []).getD j 0=0;rw[e i hi];exact I.low i j hi hj)
  .have hi2':i<done.length+left.length:=by rw[<- Jah];exact hi2
   refine Ziu (I.zer _ ?_ j hj);show (done++left).getD i []∈left;rw[Jac,Jav ∅,<- Jac];exact Za0 ∅
 | t+1,ht=>by
  have B:=Sw.back h0 I hF t ∅;have hlen:=I.len;have hall:=I.all;have bat:∀ i,(Zbl p pl (done++left) (t+1)).getD i []=_:=λi=>back_at (p:=p) (pl:=pl) (R0:=done++left) (t:=t) (i:=i);have bdef:Zbl p pl (done++left) (t+1)=((Zbl p pl (done++left) t).take (pl.length-1-t)).map (λrow=>Zbp p row ((Zbl p pl (done++left) t).getD (pl.length-1-t) []) (pl.getD (pl.length-1-t) 0))++(Zbl p pl (done++left) t).drop (pl.length-1-t):=rfl;generalize Zbl p pl (done++left) (t+1)=R' at *;generalize Zbl p pl (done++left) t=R at *;have bl:=B.len;have ha:pl.length-1-t<R.length:=∅
  have hap:pl.length-1-t<pl.length:=∅
  have hla:R.getD (pl.length-1-t) []∈R:=Za0 ha;have rl:=B.rw _ hla;have pa:=B.piv _ hap;have ka:(R.getD (pl.length-1-t) []).getD (pl.getD (pl.length-1-t) 0) 0≠0:=λz=>pa (Ziu z)
  -- the place of each
  have lowA:=B.low (pl.length-1-t);have upA:=B.up (pl.length-1-t);generalize hla':R.getD (pl.length-1-t) []=lead at *;have ascA:∀ i,i<pl.length-1-t->pl.getD i 0<pl.getD (pl.length-1-t) 0:=λi hi=>I.asc i _ hi hap;have ri:∀ i,i<R.length->Rw p W (R.getD i []):=λi hi=>B.rw _ (Za0 hi);refine⟨?_,λrow hr=>?_,λi hi=>?_,λi j hi hj=>?_,λi j hi hi2 hj=>?_,λi l hi hl h hne=>?_,?_⟩
  .rw [bdef,Jah,Jab,Jbc,Jb2];omega
  .rw [bdef] at hr;rcases Jal.mp hr with hr|hr
   .refine Zad (Jar.mp hr) λrow' hr' e99=>?_;obtain rfl:=e99;exact Zoz h0 (B.rw _ (Jcb hr')) rl
   .exact B.rw _ (Jck hr)
  .rw [bat];split
   .rename_i hc
    refine Zbh (Zg3 (k:=pl.getD (pl.length-1-t) 0) h0 hF (ri i hc.2) rl ka) λa b ha0 e=>?_;rw[e,lowA _ hap (ascA i hc.1)];have:=B.piv i hi
    grind
   .exact B.piv i hi
  .rw [bat];split
   .rename_i hc
    refine Zbh (Zg3 (k:=pl.getD (pl.length-1-t) 0) h0 hF (ri i hc.2) rl ka) λa b ha0 e=>?_;have:=ascA i hc.1;rw[e,lowA j hap ∅,B.low i j hi hj]
    grind
   .exact B.low i j hi hj
  .rw [bat,if_neg ∅];refine B.zer i j hi ?_ hj;have:R'.length=R.length:=by
    rw[bdef,Jah,Jab,Jbc,Jb2];omega
   omega
  .rw [bat];by_cases hla2:l=pl.length-1-t
   .subst hla2;by_cases hc:i<pl.length-1-t
    .rw [if_pos ⟨hc,∅⟩];exact Ziu (Zpr ((ri i ∅).1.trans rl.1.symm))
    .rw [if_neg ∅];exact B.low i _ hi (I.asc _ _ ∅ hi)
   .have hu:=B.up i l hi hl ∅ hne;split
    .rename_i hc
     refine Zbh (Zg3 (k:=pl.getD (pl.length-1-t) 0) h0 hF (ri i hc.2) rl ka) λa b ha0 e=>?_;rw[e,hu,upA l hap hl ∅ ∅]
     grind
    .exact hu
  .refine SpEq.trans ?_ B.sp;rw[bdef];have hm:lead∈R.drop (pl.length-1-t):=by
    rw[<- hla',Za4 ha,List.drop_eq_getElem_cons ha];exact Jcg
   have:=Zke (A:=R.take (pl.length-1-t)) (B:=R.drop (pl.length-1-t)) (k:=pl.getD (pl.length-1-t) 0) h0 hF (λrow hr=>B.rw _ (Jcb hr)) hm rl ka;rwa [List.take_append_drop] at this
def Za8 (pl:List Nat)(R:List (List Int))(i:Nat):Int:=if i<pl.length then (R.getD i []).getD (pl.getD i 0) 0 else 1
theorem BkI.lead {p:Int}{W wide:Nat}{Z:List (List Int)}{pl:List Nat}{F:Type}[Field F]{R:List (List Int)}(B:BkI p W wide Z pl F pl.length R)(i:Nat):(ic (Za8 pl R i):F)≠0:=by
 unfold Za8;split
 .exact B.piv i (by assumption)
 .rw [Zf0];exact Zt7
theorem BkI.rr {p:Int}{W wide:Nat}{Z:List (List Int)}{pl:List Nat}{F:Type}[Field F]{R:List (List Int)}(B:BkI p W wide Z pl F pl.length R)(asc:∀ i j,i<j->j<pl.length->pl.getD i 0<pl.getD j 0)(lt:∀ i,i<pl.length->pl.getD i 0<wide)(hr:pl.length<=Z.length){L:List (Nat->F)}(hl:L.length=Z.length)(he:∀ i,i<Z.length->at' L i=λj=>vz (R.getD i []) j / ic (Za8 pl R i)):RR L wide pl.length (λi=>pl.getD i 0)/\SpEq L (Z.map vz):=by
 have bl:=B.len;refine⟨⟨∅,lt,λi k h1 h2=>asc i k h1 h2,λi k hi hk=>?_,λi j hi hj=>?_,λi j hi hi2 hj=>?_⟩,?_⟩
 .rw [he i ∅];show (vz (R.getD i []) (pl.getD k 0):F) / ic (Za8 pl R i)=if i=k then 1 else 0
  by_cases e:i=k
  .subst e;rw[if_pos rfl];have:=B.piv i hi;have e2:(ic (Za8 pl R i):F)=vz (R.getD i []) (pl.getD i 0):=by unfold Za8 vz;rw[if_pos hi]
   rw[e2]
   grind
  .rw [if_neg e,B.up i k hi hk ∅ (λz=>e z.symm)];have:=B.lead i
   grind
 .rw [he i ∅];show (vz (R.getD i []) j:F) / ic (Za8 pl R i)=0;rw[B.low i j hi hj];have:=B.lead i
  grind
 .rw [he i ∅];show (vz (R.getD i []) j:F) / ic (Za8 pl R i)=0;rw[B.zer i j hi ∅ hj];have:=B.lead i
  grind
 .refine SpEq.trans ⟨λv hv=>?_,λv hv=>?_⟩ B.sp
  .refine Zad (Zem hv zv) λi hi e=>?_;have e':v=at' L i:=e.symm;rw[e',he i ∅];have hm:SpL (R.map vz) (vz (R.getD i []):Nat->F):=.mem (Jar.mpr ⟨_,Za0 ∅,rfl⟩);have:=hm.smul (1 / ic (Za8 pl R i));rwa [show (λj=>1 / ic (Za8 pl R i)*vz (R.getD i []) j:Nat->F)=λj=>vz (R.getD i []) j / ic (Za8 pl R i) from funext λj=>by have:=B.lead i;grind] at this
  .refine Zad (Zn0 hv) λrow hr e910=>?_;obtain rfl:=e910;refine Zad (Zem hr []) λi hi e911=>?_;obtain rfl:=e911;have hm:SpL L (at' L i):=.mem (Zj1 ∅);have:=hm.smul (ic (Za8 pl R i));rwa [show (λj=>ic (Za8 pl R i)*at' L i j:Nat->F)=vz (R.getD i []) from funext λj=>by rw[he i ∅];have:=B.lead i;grind] at this
def SmallR (n:Nat)(row:List Int):Prop:=∀ z∈row,Bt n z
theorem SmallR.le {n m:Nat}{row:List Int}(h:SmallR n row)(hm:n<=m):SmallR m row:=λz hz=>(h z hz).le hm
theorem SmallR.at {n:Nat}{row:List Int}(h:SmallR n row)(j:Nat):Bt n (row.getD j 0):=by
 rcases Zjv (zs:=row) j with m|e
 .exact h _ m
 .rw [e];exact Zjz n
theorem Zkf {p:Int}{n:Nat}{row:List Int}(hp:0<=p)(p97:p<=97)(h7:7<=n)(h:p=0->SmallR n row):SmallR n (Zdm p row):=λz hz=>by
 unfold Zdm at hz;split at hz
 .rename_i h0
  refine Zad (Jar.mp hz) λy hy e912=>?_;obtain rfl:=e912;exact (h h0 y hy).quo (Zlk hy)
 .rename_i h0
  refine Zad (Jar.mp hz) λy hy e913=>?_;obtain rfl:=e913;have h1:=Jbr y h0;have h2:=Jbe y (show 0<p by omega);exact Zbf h7 ∅
theorem Zl3 {n:Nat}{row lead:List Int}{k:Nat}(h:SmallR n row)(h':SmallR n lead):SmallR (2*n+1) (Zkr row lead k):=λz hz=>by
 obtain⟨j,hj0,rfl⟩:=Jan.mp hz;have hj:j<min row.length lead.length:=by have:=hj0;unfold Zkr at this;rwa [Jd2] at this
 have e:(Zkr row lead k)[j]'(by unfold Zkr;rw[Jd2];exact hj)=lead.getD k 0 / (Int.gcd (row.getD k 0) (lead.getD k 0):Int)*row[j]'(by omega)-row.getD k 0 / (Int.gcd (row.getD k 0) (lead.getD k 0):Int)*lead[j]'(by omega):=by
  unfold Zkr;rw[List.getElem_zipWith]
 rw[e];have b1:=((h'.at k).quo (Jbz (row.getD k 0) (lead.getD k 0))).mul (h _ (Jap (show j<row.length by omega)));have b2:=((h.at k).quo (Jbo (row.getD k 0) (lead.getD k 0))).mul (h' _ (Jap (show j<lead.length by omega)));have:=Bt.sub b1 b2;rwa [show n+n+1=2*n+1 by omega] at this
theorem Ziz {p:Int}{n:Nat}{row lead:List Int}{k:Nat}(hp:0<=p)(p97:p<=97)(h7:7<=n)(h:SmallR n row)(h':SmallR n lead):SmallR (2*n+1) (Zbp p row lead k):=by
 unfold Zbp;split
 .exact h.le ∅
 .exact Zkf hp p97 ∅ λ_=>Zl3 h h'
theorem Sw.dbl {p:Int}{Z:List (List Int)}{k n:Nat}{done left:List (List Int)}{pl:List Nat}(hp:0<=p)(p97:p<=97)(h7:7<=n)(hZ:∀ row∈Z,SmallR n row)(h:Sw p Z k done left pl):∀ row∈done++left,SmallR ((n+1)*2 ^ k-1) row:=by
 induction h with
 | start=>simpa using hZ
 | @skip k done left pl h hz ih=>
  intro row hr;refine (ih row hr).le ?_;rw[Jdp];have:0<(n+1)*2 ^ k:=Jfm ∅ (Jbs k);rw[<- Jfn];omega
 | @take k done left pl i lead h hi hk ih=>
  have e:(n+1)*2 ^ (k+1)-1=2*((n+1)*2 ^ k-1)+1:=by
   rw[Jdp,<- Jfn];have:0<(n+1)*2 ^ k:=Jfm ∅ (Jbs k);omega
  have h7':7<=(n+1)*2 ^ k-1:=by
   have:(n+1)*1<=(n+1)*2 ^ k:=Jbu (Jai _) (Jbs k);omega
  have sl:=ih lead (Jal.mpr (.inr (Jae hi)));intro row hr;rw[e];rcases Jal.mp hr with hr|hr
  .rcases Jal.mp hr with hr|hr
   .exact (ih row (Jal.mpr (.inl hr))).le ∅
   .rw [Jas.mp hr];exact sl.le ∅
  .refine Zad (Jar.mp hr) λrow' hr' e914=>?_;obtain rfl:=e914;exact Ziz hp p97 h7' (ih _ (Jal.mpr (.inr (Jb8 hr')))) sl
theorem Zls {p:Int}{n:Nat}{pl:List Nat}{R0:List (List Int)}(hp:0<=p)(p97:p<=97)(h7:7<=n)(hZ:∀ row∈R0,SmallR n row):∀ t,∀ row∈Zbl p pl R0 t,SmallR ((n+1)*2 ^ t-1) row
 | 0=>by simpa [Zbl] using hZ
 | t+1=>by
  have ih:=Zls (pl:=pl) hp p97 h7 hZ t;have e:(n+1)*2 ^ (t+1)-1=2*((n+1)*2 ^ t-1)+1:=by
   rw[Jdp,<- Jfn];have:0<(n+1)*2 ^ t:=Jfm ∅ (Jbs t);omega
  have h7':7<=(n+1)*2 ^ t-1:=by
   have:(n+1)*1<=(n+1)*2 ^ t:=Jbu (Jai _) (Jbs t);omega
  have sl:SmallR ((n+1)*2 ^ t-1) ((Zbl p pl R0 t).getD (pl.length-1-t) []):=by
   by_cases h:pl.length-1-t<(Zbl p pl R0 t).length
   .exact ih _ (Za0 h)
   .rw [Jac,Jaj ∅];exact λz hz=>by simp at hz
  intro row hr;rw[e];rcases Jal.mp hr with hr|hr
  .refine Zad (Jar.mp hr) λrow' hr' e915=>?_;obtain rfl:=e915;exact Ziz hp p97 h7' (ih _ (Jcb hr')) sl
  .exact (ih row (Jck hr)).le ∅
end L3
namespace L2
open PySem PySem.Spec PyProof.Rows
section
variable {H:Hp}{Q:VK}{σ:St}{x:V}{z0 z1 z2 z3 z4 z5 z6 z7 z8 z9 z10 z11 z12:Option V}
theorem Zgo {i:Nat}(h:σ[i]?=some (some x)):Zhn i σ H Q=Q x H:=by
 unfold Zhn;rw[h];exact propext ⟨λ⟨v,e,q⟩=>by cases e;exact q,λq=>⟨x,rfl,q⟩⟩
theorem tv0:Zhn 0 (some x::σ) H Q=Q x H:=Zgo rfl
theorem tv1:Zhn 1 (z0::some x::σ) H Q=Q x H:=Zgo rfl
theorem tv2:Zhn 2 (z0::z1::some x::σ) H Q=Q x H:=Zgo rfl
theorem tv3:Zhn 3 (z0::z1::z2::some x::σ) H Q=Q x H:=Zgo rfl
theorem tv4:Zhn 4 (z0::z1::z2::z3::some x::σ) H Q=Q x H:=Zgo rfl
theorem tv5:Zhn 5 (z0::z1::z2::z3::z4::some x::σ) H Q=Q x H:=Zgo rfl
theorem tv6:Zhn 6 (z0::z1::z2::z3::z4::z5::some x::σ) H Q=Q x H:=Zgo rfl
theorem tv7:Zhn 7 (z0::z1::z2::z3::z4::z5::z6::some x::σ) H Q=Q x H:=Zgo rfl
theorem tv8:Zhn 8 (z0::z1::z2::z3::z4::z5::z6::z7::some x::σ) H Q=Q x H:=Zgo rfl
theorem tv9:Zhn 9 (z0::z1::z2::z3::z4::z5::z6::z7::z8::some x::σ) H Q=Q x H:=Zgo rfl
theorem tv10:Zhn 10 (z0::z1::z2::z3::z4::z5::z6::z7::z8::z9::some x::σ) H Q=Q x H:=Zgo rfl
theorem tv11:Zhn 11 (z0::z1::z2::z3::z4::z5::z6::z7::z8::z9::z10::some x::σ) H Q=Q x H:=Zgo rfl
theorem tv12:Zhn 12 (z0::z1::z2::z3::z4::z5::z6::z7::z8::z9::z10::z11::some x::σ) H Q=Q x H:=Zgo rfl
theorem tv13:Zhn 13 (z0::z1::z2::z3::z4::z5::z6::z7::z8::z9::z10::z11::z12::some x::σ) H Q=Q x H:=Zgo rfl
theorem pI0 {g:Int->Int->V}{i j:Int}:rI0 g (.int i) (.int j) H Q=Q (g i j) H:=propext ⟨λ⟨_,_,e,e',q⟩=>by cases e;cases e';exact q,λq=>⟨i,j,rfl,rfl,q⟩⟩
theorem pI {D:Int->Int->Prop}{g:Int->Int->V}{i j:Int}:rI D g (.int i) (.int j) H Q=(D i j/\Q (g i j) H):=propext ⟨λ⟨_,_,e,e',q⟩=>by cases e;cases e';exact q,λq=>⟨i,j,rfl,rfl,q⟩⟩
theorem pU {g:Int->V}{i:Int}:rU g (.int i) H Q=Q (g i) H:=propext ⟨λ⟨_,e,q⟩=>by cases e;exact q,λq=>⟨i,rfl,q⟩⟩
theorem pIxL {K:Frag}{a:Addr}{k:Int}:rIxL K (.ref a) (.int k) H Q=∃ xs,SqL K H a xs/\∃ v,atI xs k=some v/\Q v H:=propext ⟨λ⟨_,xs,_,v,e,e',h,h',q⟩=>by cases e;cases e';exact⟨xs,h,v,h',q⟩,λ⟨xs,h,v,h',q⟩=>⟨a,xs,k,v,rfl,rfl,h,h',q⟩⟩
theorem pIxT {K:Frag}{a:Addr}{k:Int}:rIxT K (.ref a) (.int k) H Q=∃ xs,SqT K H a xs/\∃ v,atI xs k=some v/\Q v H:=propext ⟨λ⟨_,xs,_,v,e,e',h,h',q⟩=>by cases e;cases e';exact⟨xs,h,v,h',q⟩,λ⟨xs,h,v,h',q⟩=>⟨a,xs,k,v,rfl,rfl,h,h',q⟩⟩
theorem pEb {b:Bool}{p:Bool->Prop}:(∃ k,V.bl b=V.bl k/\p k)=p b:=propext ⟨λ⟨_,e,q⟩=>by cases e;exact q,λq=>⟨b,rfl,q⟩⟩
theorem pEi {b:Int}{p:Int->Prop}:(∃ k,V.int b=V.int k/\p k)=p b:=propext ⟨λ⟨_,e,q⟩=>by cases e;exact q,λq=>⟨b,rfl,q⟩⟩
theorem pEr {b:Addr}{p:Addr->Prop}:(∃ k,V.ref b=V.ref k/\p k)=p b:=propext ⟨λ⟨_,e,q⟩=>by cases e;exact q,λq=>⟨b,rfl,q⟩⟩
theorem pEqT {K:Frag}{b:Bool}{a c:Addr}:rEqT K b (.ref a) (.ref c) H Q=∃ xs,SqT K H a xs/\∃ ys,SqT K H c ys/\∃ bs,Zeq K H 6 xs ys bs/\Q (V.bl (if b=true then !bs.all id else bs.all id)) H:=propext ⟨λ⟨_,_,xs,ys,bs,e,e',h,h',h'',q⟩=>by cases e;cases e';exact⟨xs,h,ys,h',bs,h'',q⟩,λ⟨xs,h,ys,h',bs,h'',q⟩=>⟨a,c,xs,ys,bs,rfl,rfl,h,h',h'',q⟩⟩
theorem pEqL {K:Frag}{b:Bool}{a c:Addr}:rEqL K b (.ref a) (.ref c) H Q=∃ xs,SqL K H a xs/\∃ ys,SqL K H c ys/\(xs.length≠ys.length/\Q (V.bl b) H\/∃ bs,Zeq K H 6 xs ys bs/\Q (V.bl (if b=true then !bs.all id else bs.all id)) H):=propext ⟨λ⟨_,_,xs,ys,e,e',h,h',q⟩=>by cases e;cases e';exact⟨xs,h,ys,h',q⟩,λ⟨xs,h,ys,h',q⟩=>⟨a,c,xs,ys,rfl,rfl,h,h',q⟩⟩
theorem pSlL {K:Frag}{a:Addr}{lo hi:Option Int}:rSlL K (.ref a) lo hi H Q=∃ xs,SqL K H a xs/\∀ p,H p=none->Q (.ref p) (upd H p (.lst (Zf1 xs lo hi))):=propext ⟨λ⟨_,xs,e,h,q⟩=>by cases e;exact⟨xs,h,q⟩,λ⟨xs,h,q⟩=>⟨a,xs,rfl,h,q⟩⟩
theorem pCat {a c:Addr}:rCat (.ref a) (.ref c) H Q=∃ xs,H a=some (.lst xs)/\∃ ys,H c=some (.lst ys)/\xs.length+ys.length<=sizeLine/\∀ p,H p=none->Q (.ref p) (upd H p (.lst (xs++ys))):=propext ⟨λ⟨_,_,xs,ys,e,e',h,h',q⟩=>by cases e;cases e';exact⟨xs,h,ys,h',q⟩,λ⟨xs,h,ys,h',q⟩=>⟨a,c,xs,ys,rfl,rfl,h,h',q⟩⟩
theorem pApp {a:Addr}{v:V}:Zjm (.ref a) [v] H Q=∃ xs,H a=some (.lst xs)/\xs.length<sizeLine/\Q .non (upd H a (.lst (xs++[v]))):=propext ⟨λ⟨_,xs,_,e,e',q⟩=>by cases e;cases e';exact⟨xs,q⟩,λ⟨xs,q⟩=>⟨a,xs,v,rfl,rfl,q⟩⟩
theorem pTup {K:Frag}{n:Nat}{t:TGs}{a:Addr}{R:St->Hp->Prop}:Zt6 K n t (.ref a) σ H R=∃ xs,SqT K H a xs/\xs.length=n/\t xs σ H R:=propext ⟨λ⟨_,xs,e,q⟩=>by cases e;exact⟨xs,q⟩,λ⟨xs,q⟩=>⟨a,xs,rfl,q⟩⟩
theorem pL1 {α:Type}{a:Addr}{p:Addr->α->Prop}:(∃ b y,[V.ref a]=[V.ref b]/\p b y)=∃ y,p a y:=propext ⟨λ⟨_,y,e,q⟩=>by cases e;exact⟨y,q⟩,λ⟨y,q⟩=>⟨a,y,rfl,q⟩⟩
theorem pL0 {a:Addr}{p:Addr->Prop}:(∃ b,[V.ref a]=[V.ref b]/\p b)=p a:=propext ⟨λ⟨_,e,q⟩=>by cases e;exact q,λq=>⟨a,rfl,q⟩⟩
theorem pLi {a:Int}{p:Int->Prop}:(∃ b,[V.int a]=[V.int b]/\p b)=p a:=propext ⟨λ⟨_,e,q⟩=>by cases e;exact q,λq=>⟨a,rfl,q⟩⟩
theorem pE5 {α β γ δ:Type}{a:Addr}{p:Addr->α->β->γ->δ->Prop}:(∃ b x y z u,V.ref a=V.ref b/\p b x y z u)=∃ x y z u,p a x y z u:=propext ⟨λ⟨_,x,y,z,u,e,q⟩=>by cases e;exact⟨x,y,z,u,q⟩,λ⟨x,y,z,u,q⟩=>⟨a,x,y,z,u,rfl,q⟩⟩
end
def onV:Option (Option V)->(V->Prop)->Prop
 | some (some v),k=>k v
 | _,_=>False
theorem Zo7 (v:V)(k:V->Prop):onV (some (some v)) k=k v:=rfl
def tVr (i:Nat):TE:=λσ H Q=>onV σ[i]? λv=>Q v H
theorem tVr_old {i:Nat}{σ:St}{H:Hp}{Q:VK}(h:tVr i σ H Q):Zhn i σ H Q:=by
 unfold tVr at h;cases e:σ[i]? with
 | none=>rw[e] at h;exact h.elim
 | some o=>
  rw[e] at h;cases o with
  | none=>exact h.elim
  | some v=>exact⟨v,e,h⟩
theorem pvr {X:Cx}(i:Nat){x:Str}{pos:Pos}(hN:X.N[i]?=some x:=by rfl)(hv:Vis X.env.scope x:=by first|exact Or.inl rfl|exact Or.inr (Or.inl rfl)|exact Or.inr (Or.inr rfl))(hd:(x == ("__debug__" : Str))=false:=by decide)(hcd:(x == ("__classdict__" : Str))=false:=by decide):PE X (.Name x pos) (tVr i):=λpins s σ H Q I h=>pv i hN hv hd hcd pins s σ H Q I (tVr_old h)
def onI:V->(Int->Prop)->Prop
 | .int i,k=>k i
 | _,_=>False
def onR:V->(Addr->Prop)->Prop
 | .ref a,k=>k a
 | _,_=>False
def onB:V->(Bool->Prop)->Prop
 | .bl b,k=>k b
 | _,_=>False
def on1:List V->(V->Prop)->Prop
 | [y],k=>k y
 | _,_=>False
theorem Zsd (i:Int)(k:Int->Prop):onI (.int i) k=k i:=rfl
theorem Zsc (a:Addr)(k:Addr->Prop):onR (.ref a) k=k a:=rfl
theorem Zw7 (b:Bool)(k:Bool->Prop):onB (.bl b) k=k b:=rfl
theorem Zse (y:V)(k:V->Prop):on1 [y] k=k y:=rfl
theorem Zh7 {x:V}{k:Int->Prop}(h:onI x k):∃ i,x=.int i/\k i:=by
 cases x <;> first|exact⟨_,rfl,h⟩|exact False.elim h
theorem Zo8 {x:V}{k:Addr->Prop}(h:onR x k):∃ a,x=.ref a/\k a:=by
 cases x <;> first|exact⟨_,rfl,h⟩|exact False.elim h
theorem onB_of {x:V}{k:Bool->Prop}(h:onB x k):∃ b,x=.bl b/\k b:=by
 cases x <;> first|exact⟨_,rfl,h⟩|exact False.elim h
theorem on1_of {vs:List V}{k:V->Prop}(h:on1 vs k):∃ y,vs=[y]/\k y:=by
 match vs,h with
 | [y],h=>exact⟨y,rfl,h⟩
def rJ0 (g:Int->Int->V):R2:=λx y H Q=>onI x λi=>onI y λj=>Q (g i j) H
def rJ (C:Int->Int->Prop)(g:Int->Int->V):R2:=λx y H Q=>onI x λi=>onI y λj=>C i j/\Q (g i j) H
def rEqJ:R2:=λx y H Q=>onI x λi=>onI y λj=>Q (.bl (decide (i=j))) H
def rNeJ:R2:=λx y H Q=>onI x λi=>onI y λj=>Q (.bl (!decide (i=j))) H
section
variable {X:Cx}{f:Value->Value->Sem Value}
theorem Znu {g:Int->Int->V}(h:OpR X f (rI0 g)):OpR X f (rJ0 g):=λpins s σ H x y v u Q I rx ry q=>h pins s σ H x y v u Q I rx ry (let ⟨i,ei,q⟩:=Zh7 q;let ⟨j,ej,q⟩:=Zh7 q;⟨i,j,ei,ej,q⟩)
theorem opJ {C:Int->Int->Prop}{g:Int->Int->V}(h:OpR X f (rI C g)):OpR X f (rJ C g):=λpins s σ H x y v u Q I rx ry q=>h pins s σ H x y v u Q I rx ry (let ⟨i,ei,q⟩:=Zh7 q;let ⟨j,ej,q⟩:=Zh7 q;⟨i,j,ei,ej,q⟩)
theorem dec_ij {i j:Int}:decide (V.int i=V.int j)=decide (i=j):=by
 by_cases c:i=j
 .rw [Jao c,Jao (by rw[c])]
 .rw [Jbg c,Jbg λz=>c (V.int.inj z)]
theorem Zka (h:OpR X f rEq):OpR X f rEqJ:=λpins s σ H x y v u Q I rx ry q=>h pins s σ H x y v u Q I rx ry (by
 refine Zad (Zh7 q) λi e91 q1=>?_;obtain rfl:=e91;refine Zad (Zh7 q1) λj e92 q2=>?_;obtain rfl:=e92;exact⟨rfl,by rw[dec_ij];exact q2⟩)
def tTst (t:TE):TT:=λσ H Q=>t σ H λx H'=>onB x λk=>Q k H'
theorem Zal {op:CmpOp}{r:R2}{a b:Expr}{ta tb:TE}{pos:Pos}(ho:OpR X (compareOp op) r)(ha:PE X a ta)(hb:PE X b tb)(hm:behindInMarks op b=false):PT X (.Compare a [op] [b] pos) (tTst (tOp r ta tb)):=by
 intro pins s σ H Q I h;refine Jee (thn (ha pins s σ H _ I h) λv s1 ⟨x,H1,I1,r1,q1⟩=>thn (hb pins s1 σ H1 _ I1 q1) λu s2 ⟨y,H2,I2,r2,q2⟩=>
  thn (ho pins s2 σ H2 x y v u _ I2 r1 r2 q2) λc s3 ⟨z,H3,I3,r3,q3⟩=>?_) hm
 refine Zad (onB_of q3) λk e q3=>?_;subst e;cases r3;exact Jbx ⟨H3,I3,q3⟩
def rIxJ (K:Frag):R2:=λx y H Q=>onR x λp=>onI y λi=>∃ xs,SqL K H p xs/\∃ v,atI xs i=some v/\Q v H
def rIxTJ (K:Frag):R2:=λx y H Q=>onR x λp=>onI y λi=>∃ xs,SqT K H p xs/\∃ v,atI xs i=some v/\Q v H
theorem ixJ {K:Frag}(h:IxR X (rIxL K)):IxR X (rIxJ K):=λa b pins s σ H x y v u Q I rx ry q=>h a b pins s σ H x y v u Q I rx ry (by
 refine Zad (Zo8 q) λp e95 q1=>?_;obtain rfl:=e95;refine Zad (Zh7 q1) λi e96 e97=>?_;obtain rfl:=e96;obtain⟨xs,h1,v,h2,q2⟩:=e97;exact⟨p,xs,i,v,rfl,rfl,h1,h2,q2⟩)
theorem Zph {K:Frag}(h:IxR X (rIxT K)):IxR X (rIxTJ K):=λa b pins s σ H x y v u Q I rx ry q=>h a b pins s σ H x y v u Q I rx ry (by
 refine Zad (Zo8 q) λp e98 q1=>?_;obtain rfl:=e98;refine Zad (Zh7 q1) λi e99 e910=>?_;obtain rfl:=e99;obtain⟨xs,h1,v,h2,q2⟩:=e910;exact⟨p,xs,i,v,rfl,rfl,h1,h2,q2⟩)
def rAppJ:V->List V->Hp->VK->Prop:=λx vs H Q=>onR x λl=>on1 vs λy=>∃ xs,H l=some (.lst xs)/\xs.length<sizeLine/\Q .non (upd H l (.lst (xs++[y])))
theorem mtJ {id:String}(h:MtR X id Zjm):MtR X id rAppJ:=λpins s σ H x xs v us Q I rx rv q=>h pins s σ H x xs v us Q I rx rv (by
 refine Zad (Zo8 q) λl e911 q1=>?_;obtain rfl:=e911;refine Zad (on1_of q1) λy e912 e913=>?_;obtain rfl:=e912;obtain⟨ys,h1,h2,q2⟩:=e913;exact⟨l,ys,y,rfl,rfl,h1,h2,q2⟩)
def tFldJ (K:Frag)(ta:TE)(f:Str):TE:=λσ H Q=>ta σ H λx H1=>onR x λa=>∃ C dx fs,H1 a=some (.ins C dx fs)/\Cls K C/\NoAttr K C f/\∃ v,fs.lookup f=some v/\Q v H1
theorem Zuo {i:Nat}{σ:St}{H:Hp}{Q Q':VK}(h:tVr i σ H Q)(m:∀ x H1,Q x H1->Q' x H1):tVr i σ H Q':=by
 unfold tVr at *;cases e:σ[i]? with
 | none=>rw[e] at h;exact h.elim
 | some o=>
  rw[e] at h;cases o with
  | none=>exact h.elim
  | some v=>exact m _ _ h
theorem Zbs {e:Expr}{i:Nat}{f:Str}{pos:Pos}(he:PE X e (tVr i))(hb:attributeBase e f X.env (eval e X.env)=eval e X.env):PE X (.Attribute e f pos) (tFldJ X.K (tVr i) f):=λpins s σ H Q I h=>Zff he hb pins s σ H Q I (Zuo h λx H1 q=>by
 refine Zad (Zo8 q) λa e914 e915=>?_;obtain rfl:=e914;obtain⟨C,dx,fs,h1,h2,h3,v,h4,q⟩:=e915;exact⟨a,C,dx,fs,v,rfl,h1,h2,h3,h4,q⟩)
end
end L2
set_option maxHeartbeats 4000000
open PySem L2 PyProof.Rows
local macro_rules|`($i>>>$n)=>`(@Zae _ _ $i _ $n rfl (Or.inl rfl) (Or.inl rfl))
local macro_rules|`($i<<<$l)=>`(@Zae _ _ $i _ (show (($l) : List Str).Nodup by decide +kernel) rfl (Or.inl rfl) (Or.inr rfl))
local macro_rules|`($i|||$n|||$x)=>`(Zaq (i:=$i) $n rfl (Or.inl rfl) $x)
local macro_rules|`($a^^^$b)=>`(@Zai _ _ _ _ _ $a $b (by rfl))
local macro_rules|`($c<$>$h<$>$x)=>`(Za7 $c ($h).m rfl $x)
local macro_rules | `($a<&>$b)=>`(@pa_c _ _ _ _ _ $a $b ⇑1)
local macro_rules | `($a<*>$b)=>`(@Zuz _ _ _ _ _ $a $b)
local macro_rules | `($o<|>$a<&&>$b)=>`(@pe_op _ _ _ _ _ _ _ _ $o $a $b)
local macro_rules | `($o<|>$a<||>$b)=>`(@pe_ix _ _ _ _ _ _ _ $o $a $b (λ_ _=>rfl))
local macro_rules | `(~~~$x)=>`(@Zan _ _ _ (@ps_ret _ _ _ _ $x))
local macro_rules | `(tactic| walk_at "wp")=>do
 let f (s:String):=(s.splitOn " ").toArray.map λx=>Lean.mkIdent x.toName
 let a:=f "tv0 tv1 tv2 tv3 tv4 tv5 tv6 tv7 tv8 tv9 tv10 tv11 tv12 tv13 pI0 pI pU pIxL pIxT pEb pEi pEr pEqT pEqL pSlL pCat pApp pTup pL1 pL0 pLi pE5 Zq4 tIfS Zup tOp tUn tVr Zo7 Zsd Zsc Zw7 Zse rJ0 rJ rEqJ rNeJ tTst rIxJ rIxTJ rAppJ tFldJ tC tCB Ze1 Zq5 tRet tRetN tNext tDrop tAsg tAug ipI Zbq Zt6 Zie Zxd gSub tTup tLst tSl Zna tPart Zop Zp2 tBM tBM0 tPar tB tAnd tOr tNot tAndV tOrV tNotV tIf Zfr Zq7 Zq6 tFld sFld tAugS rGetL rI0 rI rU rIxL rIxT rSetL rSlL Zjm Zrv iEnm iRvl tLE gSl0 tMinL rBits tTry hEnds Zwx hnd_K pnx_K rCat rEq rNe rEqL rEqT rIn Zrn Zro Zrm Zs9 iTup Zs8 Zv5 cV cx_K in_K Zwu E0 L2.start"
 let b:=f "Zhn List.map List.length List.replicate List.cons_append List.nil_append List.getElem?_cons_zero List.getElem?_cons_succ List.set_cons_zero List.set_cons_succ"
 let c:=f "Jev Option.some.injEq exists_eq_left' exists_eq_left exists_and_left V.int.injEq V.bl.injEq V.ref.injEq V.ty.injEq List.cons.injEq reduceCtorEq false_and and_false exists_false or_false false_or and_true true_and Nat.reduceSub Nat.reduceAdd Nat.reduceLT Jc1 Jdg Jci"
 `(tactic| ((try dsimp only [$[↓$a:term],*,$[$b:term],*]);(try simp only[$[↓$a:term],*,$[$b:term],*,$[$c:term],*])))
namespace Pf
open PySem L2 PyProof.Rows
def top (i:Nat):Stmt:=PySem.Challenge.pw_limbtables_k28_standings_changed.main.body.getD i (.Pass ⟨0,0,0,0⟩)
abbrev Zfk:Stmt:=top 12
abbrev Zc9:Stmt:=top 21
abbrev Zhi:Stmt:=top 22
abbrev Zd2:Stmt:=Zju (top 23) 0
abbrev Zhf:Stmt:=top 59
abbrev Zjf:Stmt:=top 60
abbrev Zhe:Stmt:=top 61
abbrev Zgf:Stmt:=top 62
abbrev Zc0:Stmt:=top 63
abbrev Zdb:Stmt:=top 64
abbrev Zgh:Stmt:=top 65
abbrev Zgi:Stmt:=top 66
abbrev Zc1:Stmt:=top 13
abbrev Zc8:Stmt:=top 14
abbrev Zf8:Stmt:=top 15
abbrev Zda:Stmt:=top 16
abbrev Zcr:Stmt:=top 17
abbrev Zhg:Stmt:=top 25
abbrev Zk9:Stmt:=top 26
abbrev Znq:Stmt:=top 27
abbrev Zje:Stmt:=top 28
abbrev Zjd:Stmt:=top 29
abbrev Zf7:Stmt:=top 30
abbrev Zf9:Stmt:=top 31
abbrev Zdy:Stmt:=top 32
abbrev Zd0:Stmt:=top 33
abbrev Zk7:Stmt:=top 34
abbrev Zjh:Stmt:=top 35
abbrev Zby:Stmt:=top 36
abbrev Znp:Stmt:=top 37
abbrev Zd1:Stmt:=top 38
abbrev Zjc:Stmt:=top 39
abbrev Zjj:Stmt:=top 40
abbrev Zgj:Stmt:=top 42
abbrev Zed:Stmt:=top 43
abbrev Zfb:Stmt:=top 44
abbrev Zdc:Stmt:=Zju (top 45) 0
abbrev Zef:Stmt:=top 46
abbrev Zhk:Stmt:=top 47
abbrev Zji:Stmt:=top 48
abbrev Zhh:Stmt:=top 51
abbrev Zdz:Stmt:=top 52
abbrev Zhj:Stmt:=top 53
abbrev Zjg:Stmt:=top 54
abbrev Zjb:Stmt:=top 55
abbrev Zee:Stmt:=top 56
abbrev Zeg:Stmt:=Zju (top 57) 0
abbrev Zay:Stmt:=Zju (top 57) 1
abbrev Zcn:Stmt:=Zju (top 57) 6
abbrev Ze9:Stmt:=top 67
abbrev Ze8:Stmt:=top 68
abbrev Zhc:Stmt:=top 69
abbrev Zgb:Stmt:=top 70
abbrev Zga:Stmt:=top 71
abbrev Zgd:Stmt:=top 72
abbrev Zgc:Stmt:=top 73
abbrev Ze7:Stmt:=top 74
abbrev Zhd:Stmt:=top 75
abbrev Zhb:Stmt:=top 76
abbrev Zge:Stmt:=top 77
abbrev Zfa:Stmt:=top 78
abbrev Zec:Stmt:=top 79
abbrev Zgg:Stmt:=top 80
abbrev Zk8:Stmt:=top 81
theorem Zeb:FnScope ["thing"] ["thing"] (Zah Zfk):=⟨rfl,rfl,rfl,⋯,rfl,⋯,⋯⟩
theorem Zes:FnScope ["many","arrows"] ["many","arrows"] (Zah Zc9):=⟨rfl,rfl,rfl,⋯,rfl,⋯,⋯⟩
theorem Zi8:FnScope ["many","thing"] ["many","thing"] (Zah Zhi):=⟨rfl,rfl,rfl,⋯,rfl,⋯,⋯⟩
theorem Ze6:FnScope ["self","many","arrows"] ["self","many","arrows"] (Zah Zd2):=⟨rfl,rfl,rfl,⋯,rfl,⋯,⋯⟩
theorem Zi5:FnScope ["_law_script","_law_k"] ["_law_script","_law_k"] (Zah Zhf):=⟨rfl,rfl,rfl,⋯,rfl,⋯,⋯⟩
theorem Zkm:FnScope ["_law_cell_here"] ["_law_cell_here"] (Zah Zjf):=⟨rfl,rfl,rfl,⋯,rfl,⋯,⋯⟩
theorem Zi4:FnScope ["_law_bag_here","_law_many","_law_found"] ["_law_bag_here","_law_many"] (Zah Zhe):=⟨rfl,rfl,rfl,⋯,rfl,⋯,⋯⟩
theorem Zhw:FnScope ["_law_bag_here","_law_many","_law_left","_law_row","_law_at"] ["_law_bag_here","_law_many"] (Zah Zgf):=⟨rfl,rfl,rfl,⋯,rfl,⋯,⋯⟩
theorem Zd7:FnScope ["_law_bag_here","_law_way","_law_edges_here","_law_many","_law_k","_law_one"] ["_law_bag_here","_law_way"] (Zah Zc0):=⟨rfl,rfl,rfl,⋯,rfl,⋯,⋯⟩
theorem Zeu:FnScope ["_law_bag_here","_law_sort","_law_many","_law_long","_law_edges_here"] ["_law_bag_here"] (Zah Zdb):=⟨rfl,rfl,rfl,⋯,rfl,⋯,⋯⟩
theorem Zhy:FnScope ["_law_bag_here","_law_way","_law_many"] ["_law_bag_here","_law_way"] (Zah Zgh):=⟨rfl,rfl,rfl,⋯,rfl,⋯,⋯⟩
theorem Zhz:FnScope ["_law_bag_here","_law_way","_law_many","_law_left","_law_order_here","_law_arrows","_law_at","_law_one","_law_other"] ["_law_bag_here","_law_way"] (Zah Zgi):=⟨rfl,rfl,rfl,⋯,rfl,⋯,⋯⟩
theorem Zd8:FnScope ["one","other"] ["one","other"] (Zah Zc1):=⟨rfl,rfl,rfl,⋯,rfl,⋯,⋯⟩
theorem Zer:FnScope ["one","other"] ["one","other"] (Zah Zc8):=⟨rfl,rfl,rfl,⋯,rfl,⋯,⋯⟩
theorem Zhp:FnScope ["one","other","shift","a","b","c","d"] ["one","other"] (Zah Zf8):=⟨rfl,rfl,rfl,⋯,rfl,⋯,⋯⟩
theorem Zet:FnScope ["one","other","a","b","c","d","many"] ["one","other"] (Zah Zda):=⟨rfl,rfl,rfl,⋯,rfl,⋯,⋯⟩
theorem Zdq:FnScope ["one","other"] ["one","other"] (Zah Zcr):=⟨rfl,rfl,rfl,⋯,rfl,⋯,⋯⟩
theorem Zi6:FnScope ["ground","thing","high","wide","rows"] ["ground","thing"] (Zah Zhg):=⟨rfl,rfl,rfl,⋯,rfl,⋯,⋯⟩
theorem Zl7:FnScope ["ground","wide","thing"] ["ground","wide","thing"] (Zah Zk9):=⟨rfl,rfl,rfl,⋯,rfl,⋯,⋯⟩
theorem Zoy:FnScope ["ground","many","high","wide","rows","place"] ["ground","many"] (Zah Znq):=⟨rfl,rfl,rfl,⋯,rfl,⋯,⋯⟩
theorem Zkk:FnScope ["ground","high","wide"] ["ground","high","wide"] (Zah Zje):=⟨rfl,rfl,rfl,⋯,rfl,⋯,⋯⟩
theorem Zkj:FnScope ["ground","one","other","rows","columns"] ["ground","one","other"] (Zah Zjd):=⟨rfl,rfl,rfl,⋯,rfl,⋯,⋯⟩
theorem Zho:FnScope ["ground","row","bottom","number"] ["ground","row"] (Zah Zf7):=⟨rfl,rfl,rfl,⋯,rfl,⋯,⋯⟩
theorem Zhq:FnScope ["ground","row","column","tops","bottom","other_tops","other_bottom"] ["ground","row","column"] (Zah Zf9):=⟨rfl,rfl,rfl,⋯,rfl,⋯,⋯⟩
theorem Ze2:FnScope ["table","high","wide","rows"] ["table"] (Zah Zdy):=⟨rfl,rfl,rfl,⋯,rfl,⋯,⋯⟩
theorem Ze4:FnScope ["ground","high","tables","rows","table","place"] ["ground","high","tables"] (Zah Zd0):=⟨rfl,rfl,rfl,⋯,rfl,⋯,⋯⟩
theorem Zl6:FnScope ["ground","row","divisor","number"] ["ground","row"] (Zah Zk7):=⟨rfl,rfl,rfl,⋯,rfl,⋯,⋯⟩
theorem Zko:FnScope ["ground","row","lead","place","divisor","keep","take"] ["ground","row","lead","place"] (Zah Zjh):=⟨rfl,rfl,rfl,⋯,rfl,⋯,⋯⟩
theorem Zfu:FnScope ["rows","place","found"] ["rows","place"] (Zah Zby):=⟨rfl,rfl,rfl,⋯,rfl,⋯,⋯⟩
theorem Zox:FnScope ["ground","rows","wide","done","left","places","place","at","lead"] ["ground","rows","wide"] (Zah Znp):=⟨rfl,rfl,rfl,⋯,rfl,⋯,⋯⟩
theorem Ze5:FnScope ["ground","rows","wide","found","places","at","place","leads"] ["ground","rows","wide"] (Zah Zd1):=⟨rfl,rfl,rfl,⋯,rfl,⋯,⋯⟩
theorem Zki:FnScope ["ground","table","high","wide","given","joined","rows"] ["ground","table"] (Zah Zjc):=⟨rfl,rfl,rfl,⋯,rfl,⋯,⋯⟩
theorem Zkq:FnScope ["ground","table","high","wide","given","steps","found"] ["ground","table"] (Zah Zjj):=⟨rfl,rfl,rfl,⋯,rfl,⋯,⋯⟩
theorem Zh0:FnScope ["drawing","thing"] ["drawing","thing"] (Zah Zgj):=⟨rfl,rfl,rfl,⋯,rfl,⋯,⋯⟩
theorem Zfw:FnScope ["ground","high","wide","thing"] ["ground","high","wide","thing"] (Zah Zed):=⟨rfl,rfl,rfl,⋯,rfl,⋯,⋯⟩
theorem Zgw:FnScope ["ground","drawing","sizes","thing"] ["ground","drawing","sizes","thing"] (Zah Zfb):=⟨rfl,rfl,rfl,⋯,rfl,⋯,⋯⟩
theorem Zev:FnScope ["self","ground","drawing","sizes","tables"] ["self","ground","drawing","sizes","tables"] (Zah Zdc):=⟨rfl,rfl,rfl,⋯,rfl,⋯,⋯⟩
theorem Zfy:FnScope ["standing","thing"] ["standing","thing"] (Zah Zef):=⟨rfl,rfl,rfl,⋯,rfl,⋯,⋯⟩
theorem Zja:FnScope ["standing","changes","backs"] ["standing","changes"] (Zah Zhk):=⟨rfl,rfl,rfl,⋯,rfl,⋯,⋯⟩
theorem Zkp:FnScope ["standing","changes","ground","backs","tables","tail","head","table"] ["standing","changes"] (Zah Zji):=⟨rfl,rfl,rfl,⋯,rfl,⋯,⋯⟩
theorem Zi7:FnScope ["number"] ["number"] (Zah Zhh):=⟨rfl,rfl,rfl,⋯,rfl,⋯,⋯⟩
theorem Ze3:FnScope ["thing"] ["thing"] (Zah Zdz):=⟨rfl,rfl,rfl,⋯,rfl,⋯,⋯⟩
theorem Zi9:FnScope ["top","bottom","divisor"] ["top","bottom"] (Zah Zhj):=⟨rfl,rfl,rfl,⋯,rfl,⋯,⋯⟩
theorem Zkn:FnScope ["rest","prime","low","high","low_times","high_times","many"] ["rest","prime"] (Zah Zjg):=⟨rfl,rfl,rfl,⋯,rfl,⋯,⋯⟩
theorem Zkh:FnScope ["top","bottom","prime","below"] ["top","bottom","prime"] (Zah Zjb):=⟨rfl,rfl,rfl,⋯,rfl,⋯,⋯⟩
theorem Zfx:FnScope ["thing","top","bottom"] ["thing"] (Zah Zee):=⟨rfl,rfl,rfl,⋯,rfl,⋯,⋯⟩
theorem Zfz:FnScope ["self","prime"] ["self","prime"] (Zah Zeg):=⟨rfl,rfl,rfl,⋯,rfl,⋯,⋯⟩
theorem Zew:FnScope ["self","top","bottom"] ["self","top","bottom"] (Zah Zay):=⟨rfl,rfl,rfl,⋯,rfl,⋯,⋯⟩
theorem Zc7:FnScope ["self","thing"] ["self","thing"] (Zah Zcn):=⟨rfl,rfl,rfl,⋯,rfl,⋯,⋯⟩
theorem Zkl:FnScope ["_law_top","_law_bottom","_law_one","_law_other","_law_rest"] ["_law_top","_law_bottom"] (Zah Ze9):=⟨rfl,rfl,rfl,⋯,rfl,⋯,⋯⟩
theorem Zgu:FnScope ["_law_bag_here","_law_p","_law_top"] ["_law_bag_here","_law_p"] (Zah Ze8):=⟨rfl,rfl,rfl,⋯,rfl,⋯,⋯⟩
theorem Zi2:FnScope ["_law_p","_law_a","_law_b"] ["_law_p","_law_a","_law_b"] (Zah Zhc):=⟨rfl,rfl,rfl,⋯,rfl,⋯,⋯⟩
theorem Zhs:FnScope ["_law_p","_law_a","_law_b"] ["_law_p","_law_a","_law_b"] (Zah Zgb):=⟨rfl,rfl,rfl,⋯,rfl,⋯,⋯⟩
theorem Zhr:FnScope ["_law_p","_law_k"] ["_law_p","_law_k"] (Zah Zga):=⟨rfl,rfl,rfl,⋯,rfl,⋯,⋯⟩
theorem Zhu:FnScope ["_law_bag_here","_law_many","_law_most","_law_sizes_here","_law_left","_law_k","_law_size"] ["_law_bag_here","_law_many","_law_most"] (Zah Zgd):=⟨rfl,rfl,rfl,⋯,rfl,⋯,⋯⟩
theorem Zht:FnScope ["_law_bag_here","_law_p","_law_high","_law_wide","_law_bare","_law_rows","_law_k","_law_row","_law_j","_law_number_here"] ["_law_bag_here","_law_p","_law_high","_law_wide"] (Zah Zgc):=⟨rfl,rfl,rfl,⋯,rfl,⋯,⋯⟩
theorem Zgt:FnScope ["_law_bag_here","_law_p","_law_arrows","_law_sizes_here","_law_tables_here","_law_tail","_law_head"] ["_law_bag_here","_law_p","_law_arrows","_law_sizes_here"] (Zah Ze7):=⟨rfl,rfl,rfl,⋯,rfl,⋯,⋯⟩
theorem Zi3:FnScope ["_law_tables_here"] ["_law_tables_here"] (Zah Zhd):=⟨rfl,rfl,rfl,⋯,rfl,⋯,⋯⟩
theorem Zi1:FnScope ["_law_bag_here","_law_p"] ["_law_bag_here","_law_p"] (Zah Zhb):=⟨rfl,rfl,rfl,⋯,rfl,⋯,⋯⟩
theorem Zhv:FnScope ["_law_p","_law_many"] ["_law_p","_law_many"] (Zah Zge):=⟨rfl,rfl,rfl,⋯,rfl,⋯,⋯⟩
theorem Zgv:FnScope ["_law_bag_here","_law_p","_law_size","_law_rows","_law_turn","_law_one","_law_other","_law_often"] ["_law_bag_here","_law_p","_law_size"] (Zah Zfa):=⟨rfl,rfl,rfl,⋯,rfl,⋯,⋯⟩
theorem Zfv:FnScope ["_law_p","_law_one","_law_other","_law_rows","_law_row","_law_made","_law_k","_law_total","_law_j"] ["_law_p","_law_one","_law_other"] (Zah Zec):=⟨rfl,rfl,rfl,⋯,rfl,⋯,⋯⟩
theorem Zhx:FnScope ["_law_p","_law_arrows","_law_tables_here","_law_changes","_law_made","_law_k","_law_arrow","_law_left"] ["_law_p","_law_arrows","_law_tables_here","_law_changes","_law_made"] (Zah Zgg):=⟨rfl,rfl,rfl,⋯,rfl,⋯,⋯⟩
theorem Zw0:FnScope ["_law_script","_law_k","_law_bag_here","_law_p","_law_many","_law_arrows","_law_sizes_here","_law_tables_here","_law_changes","_law_size","_law_standing","_law_lent_here","_law_made","_law_change_here","_law_row"] ["_law_script"] (Zah Zk8):=⟨rfl,rfl,rfl,⋯,rfl,⋯,⋯⟩
structure Txt (K:Frag)(mg:Str->Option Value)(C G S:Addr):Prop where
 cl_Drawing:Cls K C
 nM:NoAttr K C "many"
 nA:NoAttr K C "arrows"
 cl_Ground:Cls K G
 nP:NoAttr K G "prime"
 cl_Standing:Cls K S
 nSg:NoAttr K S "ground"
 nSd:NoAttr K S "drawing"
 nSs:NoAttr K S "sizes"
 nSt:NoAttr K S "tables"
 n_len:mg "len" = none
 n_range:mg "range" = none
 n_list:mg "list" = none
 n_min:mg "min" = none
 n_int:mg "int" = none
 n_bool:mg "bool" = none
 n_tuple:mg "tuple" = none
 n_all:mg "all" = none
 n_isinstance:mg "isinstance" = none
 n_abs:mg "abs" = none
 n_zip:mg "zip" = none
 n_enumerate:mg "enumerate" = none
 n_reversed:mg "reversed" = none
 n_sum:mg "sum" = none
 n_any:mg "any" = none
 g_MOST_POINTS:∃ t,mg "MOST_POINTS" = some (.int 8 t)
 g_MOST_ARROWS:∃ t,mg "MOST_ARROWS" = some (.int 9 t)
 g_LARGEST_PRIME:∃ t,mg "LARGEST_PRIME" = some (.int 97 t)
 g_LONG:∃ t,mg "LONG" = some (.int 4000 t)
 g_LEADING:∃ t,mg "LEADING" = some (.int 126 t)
def Zoh (a b:Int):HO:=.lst [.int a,.int b]
def Bag (H:Hp)(l:Addr):Prop:=∃ a b:Int,H l=some (Zoh a b)/\0<=b/\b<2147483647
def Zri (K:Frag):Sp:=λvs H Q _=>∃ (a:Addr) (ns:List Int) (k:Int),vs=[.ref a,.int k]/\SqL K H a (ns.map V.int)/\ns.length<=63/\0<=k/\∀ c,Q (.int c) H
def spBag:Sp:=λvs H Q _=>∃ c:Int,vs=[.int c]/\∀ (l:Addr) (a b:Int),H l=none->0<=b->b<2147483647->Q (.ref l) (upd H l (Zoh a b))
def Zc6:Sp:=λvs H Q _=>∃ (l:Addr) (a b n:Int),vs=[.ref l,.int n]/\H l=some (Zoh a b)/\0<=b/\b<2147483647/\0<n/\n<1000000000 /\
 ∀ (r a' b':Int),0<=r->r<n->0<=b'->b'<2147483647->Q (.int r) (upd H l (Zoh a' b'))
section
variable {C G S:Addr}
theorem ok_cell (F:Fun K "_law_cell" "_law_cell" Zhf f fd)(T:Txt K mg C G S):FnOk P w K mg base CX0 1 f fd ["_law_script","_law_k"] (Zri K):=by
 have nd:=Zi5.nd;refine F.ok Zi5 (λvs H Q E h=>?_) (λcdv A outer s H vs Q E hr h=>?_)
 .refine Zex h λa ns k e91 _=>?_;clear h;obtain rfl:=e91;rfl
 .refine Zbu h λa ns k e92 hS hl e93=>?_;clear h;obtain rfl:=e92;obtain⟨h0,q⟩:=e93;refine⟨_,((@Za3 _ _ _ _ _ _ _ _ (Zal Zj9 (pvr 1) (Zba Zas rfl T.n_len Jbf ((pvr 0)<&>Zaa)) (Zam _)) (~~~((ixJ Zaw)<|>(pvr 0)<||>(pvr 1))) Zao)<*>(~~~Zac)),?_⟩;walk_at "wp";refine⟨_,.inl hS,Zce (λhc=>?_) (λ_=>q 0)⟩;have hc:=Ja5 hc;rw[Jab] at hc;refine⟨_,hS,V.int (ns[k.toNat]'(oz77 h0 hc)),Zbx h0 ?_,q _⟩;rw[Jad,Jaa (oz77 h0 hc)];rfl
theorem pow60:IntMulOk (10 ^ (60:Int).toNat) (10 ^ (60:Int).toNat):=IntMulOk.of_bits ⋯ ⋯
theorem cpow (k:Int)(h0:0<=k)(h1:k<=1000):CPow 10 k:=⟨h0,∅,⇑0⟩
theorem Zkt (c n:Int)(h:0<n):0<=c % n:=Jbr _ ∅
theorem Zku (c n:Int)(h:0<n):c % n<n:=Jbe _ h
theorem ok_bag (F:Fun K "_law_bag" "_law_bag" Zjf f fd)(T:Txt K mg C G S):FnOk P w K mg base CX0 1 f fd ["_law_cell_here"] spBag:=by
 have nd:=Zkm.nd;refine F.ok Zkm (λvs H Q E h=>?_) (λcdv A outer s H vs Q E hr h=>?_)
 .refine Zad h λc e94 _=>?_;clear h;obtain rfl:=e94;rfl
 .refine Zad h λc e95 q=>?_;clear h;obtain rfl:=e95;refine⟨_,((@Za3 _ _ _ _ _ _ _ _ (Zal Zu5 (pvr 0) ((opJ Zo6)<|>Zac<&&>Zac) (Zam _)) (~~~(@Zbo _ _ _ _ ((Zcq<|>(pvr 0)<&&>(Zbk<|>((opJ Zo6)<|>Zac<&&>Zac)<&&>((opJ Zo6)<|>Zac<&&>Zac)))<&>(((opJ Zcq)<|>(pvr 0)<&&>Zac)<&>Zaa)))) Zao)<*>(~~~(@Zbo _ _ _ _ (Zac<&>(((opJ Zcq)<|>((Znu Zbi)<|>((opJ Zmf)<|>((opJ Zcq)<|>(pvr 0)<&&>Zac)<&&>Zac)<&&>Zac)<&&>Zac)<&>Zaa))))),?_⟩;walk_at "wp";refine⟨cpow _ ⇑0 ⇑0,Zce (λ_=>?_) (λ_=>?_)⟩
  .exact ⟨cpow _ ⇑0 ⇑0,cpow _ ⇑0 ⇑0,pow60,⋯,⇑0,⇑0,λp hp=>q p _ _ hp (Zkt _ _ ⇑0) (Zku _ _ ⇑0)⟩
  .exact ⟨⇑0,.inr ⟨⇑0,⇑0⟩,⇑0,⇑0,λp hp=>q p _ _ hp (Zkt _ _ ⇑0) (Zku _ _ ⇑0)⟩
theorem ok_draw (F:Fun K "_law_draw" "_law_draw" Zhe f fd)(T:Txt K mg C G S):FnOk P w K mg base CX0 1 f fd ["_law_bag_here","_law_many"] Zc6:=by
 have nd:=Zi4.nd;refine F.ok Zi4 (λvs H Q E h=>?_) (λcdv A outer s H vs Q E hr h=>?_)
 .refine Zk0 h λl a b n e96 _=>?_;clear h;obtain rfl:=e96;rfl
 .refine Zb5 h λl a b n e97 hl b0 e98=>?_;clear h;obtain rfl:=e97;refine Zb0 e98 λb1 n0 n1 q=>?_;clear e98;refine⟨_,((@Za3 _ _ _ _ _ _ _ _ (Zal Zu5 ((ixJ Zaw)<|>(pvr 0)<||>Zac) (pvr 1) (Zam _)) ((2|||nd|||(Zcq<|>((ixJ Zaw)<|>(pvr 0)<||>Zac)<&&>(pvr 1)))<*>((Zbr (Zlb<|>((ixJ Zaw)<|>(pvr 0)<||>Zac)<&&>(pvr 1)) (Zh4 (pvr 0) Zac Zdp))<*>(~~~(pvr 2)))) Zao)<*>((Zbr Zac (Zh4 (pvr 0) Zac Zdp))<*>((Zbr (Zcq<|>(Zbi<|>(Zmf<|>((ixJ Zaw)<|>(pvr 0)<||>Zac)<&&>Zac)<&&>Zac)<&&>Zac) (Zh4 (pvr 0) Zac Zdp))<*>(~~~(Zcq<|>(Zlb<|>(Zcq<|>(Zmf<|>((ixJ Zaw)<|>(pvr 0)<||>Zac)<&&>(Zbi<|>(Zlb<|>((ixJ Zaw)<|>(pvr 0)<||>Zac)<&&>Zac)<&&>Zac))<&&>Zac)<&&>Zac)<&&>(pvr 1)))))),?_⟩;walk_at "wp";refine⟨_,SqL.of hl,_,rfl,_,rfl,Zce (λhc=>?_) (λhc=>?_)⟩
  .refine ⟨_,SqL.of hl,_,rfl,_,rfl,n0,_,SqL.of hl,_,rfl,_,rfl,⟨n0,∅⟩,_,hl,_,rfl,?_⟩;exact q _ _ _ (Zkt _ _ n0) (Zku _ _ n0) b0 b1
  .refine ⟨_,hl,_,rfl,_,SqL.of Zab,_,rfl,_,rfl,.inr ⟨⇑0,⇑0⟩,⇑0,_,Zab,_,rfl,_,SqL.of Zab,_,rfl,_,SqL.of Zab,_,rfl,_,rfl,⟨⇑0,⇑0⟩,_,rfl,?_⟩;have h1:=Zkt (b*48271+4099) 2147483647 ⇑0;have h2:=Zku (b*48271+4099) 2147483647 ⇑0;refine⟨.inl ⟨∅,∅⟩,⇑0,⟨⇑0,⇑0⟩,n0,?_⟩;rw[upd_upd];exact q _ _ _ (Zkt _ _ n0) (Zku _ _ n0) h1 h2
end
end Pf
namespace Pf
open PySem L2 PyProof.Rows
section
variable {C G S:Addr}
def InR (m:Int)(ys:List Int):Prop:=∀ y∈ys,0<=y/\y<m
def Zni:Sp:=λvs H Q _=>∃ (l:Addr) (m:Int),vs=[.ref l,.int m]/\Bag H l/\0<=m/\m<=8 /\
 ∀ (p:Addr) (ys:List Int) (H':Hp),Ext l H H'->Bag H' l->H p=none->H' p=some (.lst (ys.map V.int))->(ys.length:Int)=m->InR m ys->Q (.ref p) H'
theorem Zrt (lo hi:Int):rngV lo hi=((List.range (hi-lo).toNat).map λ(i:Nat)=>lo+(i:Int)).map V.int:=by
 unfold rngV;rw[Jek];rfl
theorem Zxf (xs:List V)(k:Int)(h0:0<=k)(h1:k<=xs.length):Zf1 xs none (some k)=xs.take k.toNat:=by
 unfold Zf1 HT.sIx;have:¬ k<0:=∅
 simp only[this,Jdg,List.drop_zero,Nat.sub_zero];congr 1;exact oz20 h1
theorem Zxg (xs:List V)(k:Int)(h0:0<=k)(h1:k<=xs.length):Zf1 xs (some k) none=xs.drop k.toNat:=by
 unfold Zf1 HT.sIx;have e:¬ k<0:=∅
 have e2:min k.toNat xs.length=k.toNat:=by exact oz20 h1
 simp only[e,Jdg,e2];rw[Jc3];rw[Jb2];omega
theorem Bag.ne {H:Hp}{l p:Addr}(h:Bag H l)(hp:H p=none):p≠l:=by
 refine Zbh h λa b e _=>?_;clear h;exact (Zaf e hp).symm
theorem Bag.new {H:Hp}{l p:Addr}{o:HO}(h:Bag H l)(hp:p≠l):Bag (upd H p o) l:=by
 refine Zbm h λa b e h1 h2=>?_;clear h;exact Zat a b ⟨by rw[Zag hp.symm];exact e,h1,h2⟩
theorem Bag.set {H:Hp}{l:Addr}{a b:Int}(h1:0<=b)(h2:b<2147483647):Bag (upd H l (Zoh a b)) l:=⟨a,b,Zab,h1,h2⟩
theorem Zvd (F:Fun K "_law_order" "_law_order" Zgf f fd)(T:Txt K mg C G S)(Yaa:Cal P w K mg base "_law_draw" 1 Zc6):FnOk P w K mg base CX0 2 f fd ["_law_bag_here","_law_many"] Zni:=by
 have nd:=Zhw.nd;refine F.ok Zhw (λvs H Q E h=>?_) (λcdv A outer s H vs Q E hr h=>?_)
 .refine Zbh h λl m e92 _=>?_;clear h;obtain rfl:=e92;rfl
 .refine Zg9 h λl m e93 hb m0 m8 q=>?_;clear h;obtain rfl:=e93;refine⟨_,((2|||nd|||(Zid (Zlq rfl) rfl T.n_list Jc6 ((Zid Ztv rfl T.n_range boot_range ((pvr 1)<&>Zaa))<&>Zaa)))<*>((3|||nd|||(@Zbo _ _ _ _ Zaa))<*>((Zeh Ja1 (Zd3 Zfg (Zba Zas rfl T.n_len Jbf ((pv 2)<&>Zaa)) Zac (Zam _)) ((4|||nd|||(Yaa<$>hr<$>((pvr 0)<&>((Zba Zas rfl T.n_len Jbf ((pvr 2)<&>Zaa))<&>Zaa))))<*>((Zb1 (Zey Jaz Ja6 Ja7 (mtJ Zbd) (pvr 3) ((Zaw<|>(pvr 2)<||>(pvr 4))<&>Zaa)))<*>(@Zan _ _ _ (2|||nd|||(Zks<|>(@Zdr _ _ _ _ _ _ _ _ _ _ Zf6 (pvr 2) Zfe (@Zei _ _ _ (pvr 4)))<&&>(@Zdr _ _ _ _ _ _ _ _ _ _ Zf6 (pvr 2) (@Zei _ _ _ (Zbi<|>(pvr 4)<&&>Zac)) Zfe)))))))<*>(~~~(pvr 3))))),?_⟩;walk_at "wp";intro p hp;refine Zat _ _ ⟨Zab,⟨⇑0,⇑0,∅,∅⟩,∅,λl1 hl1=>⟨⇑0,λp1 hp1=>?_⟩⟩;have hpl:=hb.ne hp;have b1:Bag (upd H p (.rng 0 m)) l:=hb.new hpl;have hll:=b1.ne hl1;have b2:Bag (upd (upd H p (.rng 0 m)) l1 (.lst (rngV 0 m))) l:=b1.new hll;have hl1p:p1≠l1:=(Zaf Zab hp1).symm;have hHp1:H p1=none:=((Same.new hp).trans (Same.new hl1)).free hp1;rw[Zrt] at *;refine⟨λk σ H2=>∃ (pl:Addr) (ls rs:List Int) (v:Option V),σ=[some (.ref l),some (.int m),some (.ref pl),some (.ref p1),v]/\k=ls.length/\Ext l H H2/\Bag H2 l /\
   H2 pl=some (.lst (ls.map V.int))/\H2 p1=some (.lst (rs.map V.int))/\pl≠p1/\pl≠l/\((ls.length:Int)+rs.length=m)/\InR m ls/\InR m rs,?_,?_⟩
  .refine Zir _ l1 ((List.range (m-0).toNat).map λ(i:Nat)=>(0:Int)+(i:Int)) [] none ⟨rfl,rfl,?_,b2.new (b2.ne hp1),?_,Zab,hl1p.symm,hll,?_,?_,λ_ h=>nomatch h⟩
   .exact ((Ext.new hp).trans (Ext.new hl1)).trans (Ext.new hp1)
   .rw [Zag hl1p.symm,Zab]
   .rw [Jab,Jat];simp;omega
   .intro y hy;refine Zad (Jar.mp hy) λi hi e94=>?_;obtain rfl:=e94;have:=Ja8.mp hi;omega
  .intro k σ H2 e91;refine Zb5 e91 λpl ls rs v e95 e96 ex e97=>?_;clear e91;obtain rfl:=e95;obtain rfl:=e96;refine xE0_8 e97 λhb2 hpl2 hp12 n1 n2 hlen il ir=>?_;clear e97;walk_at "wp";refine⟨_,.inl (SqL.of hpl2),Zce (λhc=>?_) (λhc=>?_)⟩
   .refine ⟨_,λ_ _ h=>h,?_⟩;have hc:=Ja5 hc;rw[Jab] at hc;walk_at "wp";refine⟨_,.inl (SqL.of hpl2),?_⟩;refine Zbm hb2 λa b hla b0 b1'=>?_;clear hb2;rw[Jab];refine Zg8 l a b _ ⟨rfl,hla,b0,b1',hc,∅,λr a' b' r0 r1 c0 c1=>?_⟩;have hr1:r.toNat<ls.length:=∅
    have hp1l:p1≠l:=hb.ne hHp1;have h3pl:(upd H2 l (Zoh a' b')) pl=some (.lst (ls.map V.int)):=by rw[Zag n2];exact hpl2
    have h3p1:(upd H2 l (Zoh a' b')) p1=some (.lst (rs.map V.int)):=by rw[Zag hp1l];exact hp12
    have e1:Ext l H (upd H2 l (Zoh a' b')):=ex.trans Ext.set;have B1:Bag (upd H2 l (Zoh a' b')) l:=Bag.set c0 c1;refine⟨.inl ⟨rfl,_,SqL.of h3p1⟩,_,r,rfl,SqL.of h3pl,V.int (ls[r.toNat]),Zbx r0 (by rw[Jad,Jaa hr1];rfl),_,h3p1,Zap (by rw[Jab];omega),r,rfl,_,
     SqL.of (by rw[Zag n1];exact h3pl),λp2 hp2=>⟨r,rfl,ls.map V.int,SqL.of ?g1,λp3 hp3=>⟨Zf1 (ls.map V.int) none (some r),?g2,_,Zab,?g3,λp4 hp4=>?g4⟩⟩⟩
    case g1=>
     have:pl≠p2:=Zaf (by rw[Zag n1];exact h3pl) hp2;rw[Zag this,Zag n1];exact h3pl
    case g2=>rw[Zag (Zaf Zab hp3)];exact Zab
    case g3=>
     have h1:=Zdi (ls.map V.int) none (some r);have h2:=Zdi (ls.map V.int) (some (r+1)) none;rw[Jab] at h1 h2;exact Jbm (Zap ∅)
    case g4=>
     have e2:=e1.upd (o:=.lst (rs.map V.int++[V.int ls[r.toNat]])) hHp1;have B2:Bag (upd (upd H2 l (Zoh a' b')) p1 (.lst (rs.map V.int++[V.int ls[r.toNat]]))) l:=B1.new hp1l;have e3:=e2.trans (Ext.new (o:=.lst (Zf1 (ls.map V.int) none (some r))) hp2);have B3:=B2.new (o:=.lst (Zf1 (ls.map V.int) none (some r))) (B2.ne hp2);have e4:=e3.trans (Ext.new (o:=.lst (Zf1 (ls.map V.int) (some (r+1)) none)) hp3);have B4:=B3.new (o:=.lst (Zf1 (ls.map V.int) (some (r+1)) none)) (B3.ne hp3);have n21:p2≠p1:=(Zaf Zab hp2).symm;have q2:(upd (upd (upd H2 l (Zoh a' b')) p1 (.lst (rs.map V.int++[V.int ls[r.toNat]]))) p2 (.lst (Zf1 (ls.map V.int) none (some r)))) p1=some (.lst (rs.map V.int++[V.int ls[r.toNat]])):=by
      rw[Zag n21.symm];exact Zab
     have n31:p1≠p3:=Zaf q2 hp3;have q3:(upd (upd (upd (upd H2 l (Zoh a' b')) p1 (.lst (rs.map V.int++[V.int ls[r.toNat]]))) p2 (.lst (Zf1 (ls.map V.int) none (some r)))) p3 (.lst (Zf1 (ls.map V.int) (some (r+1)) none))) p1=some (.lst (rs.map V.int++[V.int ls[r.toNat]])):=by
      rw[Zag n31];exact q2
     have n41:p1≠p4:=Zaf q3 hp4;refine⟨(ls.take r.toNat++ls.drop (r.toNat+1)).length,by rw[Jah,Jbc,Jb2];omega,p4,ls.take r.toNat++ls.drop (r.toNat+1),rs++[ls[r.toNat]],_,⟨rfl,rfl⟩,rfl,e4.trans (Ext.new hp4),B4.new (B4.ne hp4),?_,?_,n41.symm,B4.ne hp4,?_,?_,?_⟩
     .rw [Zab,Zxf _ _ r0 (by rw[Jab];omega),Zxg _ _ ∅ (by rw[Jab];omega),Ja2,List.map_take,List.map_drop,show (r+1).toNat=r.toNat+1 by exact oz54 r0]
     .rw [Zag n41,q3,Ja2];rfl
     .rw [Jah,Jah,Jbc,Jb2];simp;exact oz71 hlen hr1
     .intro y hy;rcases Jal.mp hy with h|h
      .exact il y (Jcb h)
      .exact il y (Jck h)
     .intro y hy;rcases Jal.mp hy with h|h
      .exact ir y h
      .rw [Jas.mp h];exact il _ (Jap hr1)
   .have hc:¬ (0:Int)<((ls.map V.int).length:Nat):=λz=>hc (Jao z);rw[Jab] at hc;exact q p1 rs H2 ex hb2 hHp1 hp12 ∅ ir
def Edge (H:Hp)(m:Int)(x:V):Prop:=∃ (t:Addr) (i j:Int),x=.ref t/\H t=some (.tup [.int i,.int j])/\0<=i/\i<m/\0<=j/\j<m
def Edges (H:Hp)(m:Int)(xs:List V):Prop:=∀ x∈xs,Edge H m x
theorem Edge.same {H H':Hp}{m:Int}{x:V}(e:Edge H m x)(s:Same H H'):Edge H' m x:=by
 refine Zj6 e λt i j h1 h2 h3=>?_;clear e;exact Zcm t i j ⟨h1,s _ _ h2,h3⟩
theorem Edges.same {H H':Hp}{m:Int}{xs:List V}(e:Edges H m xs)(s:Same H H'):Edges H' m xs:=λx hx=>(e x hx).same s
theorem Edge.ext {H H':Hp}{m:Int}{l:Addr}{x:V}{ys:List V}(e:Edge H m x)(s:Ext l H H')(hl:H l=some (.lst ys)):Edge H' m x:=by
 refine Zj6 e λt i j h1 h2 h3=>?_;clear e;exact Zcm t i j ⟨h1,s _ _ (Zez h2 hl (by intro z;cases z)) h2,h3⟩
theorem Edges.ext {H H':Hp}{m:Int}{l:Addr}{xs ys:List V}(e:Edges H m xs)(s:Ext l H H')(hl:H l=some (.lst ys)):Edges H' m xs:=λx hx=>(e x hx).ext s hl
theorem Edges.nil {H:Hp}{m:Int}:Edges H m []:=λ_ h=>nomatch h
theorem Edges.snoc {H:Hp}{m:Int}{xs:List V}{x:V}(e:Edges H m xs)(h:Edge H m x):Edges H m (xs++[x]):=λy hy=>by
 rcases Jal.mp hy with z|z
 .exact e y z
 .rw [Jas.mp z];exact h
theorem Edges.append {H:Hp}{m:Int}{xs ys:List V}(e:Edges H m xs)(h:Edges H m ys):Edges H m (xs++ys):=λy hy=>by
 rcases Jal.mp hy with z|z
 .exact e y z
 .exact h y z
theorem Edges.lift {H:Hp}{m m':Int}{xs:List V}(e:Edges H m xs)(h:m<=m'):Edges H m' xs:=λy hy=>by
 refine Zbu (e y hy) λt i j h1 h2 h3 e99=>?_;refine Za2 e99 λh4 h5 h6=>?_;clear e99;exact Zcm t i j ⟨h1,h2,h3,∅,h5,∅⟩
theorem Edges.put {H:Hp}{m:Int}{xs ys:List V}{p:Addr}{o:HO}(e:Edges H m xs)(hp:H p=some (.lst ys)):Edges (upd H p o) m xs:=e.ext (l:=p) Ext.set hp
structure Out (l:Addr)(H:Hp)(p e:Addr)(m:Int)(xs:List V)(H':Hp):Prop where
 ext:Ext l H H'
 bag:Bag H' l
 tup:H' p=some (.tup [.int m,.ref e])
 lst:H' e=some (.lst xs)
 new:H e=none
 lo:1<=m
 hi:m<=8
 len:xs.length<=9
 ed:Edges H' m xs
def Zib (K0:List V->Prop):Sp:=λvs H Q _=>∃ (l:Addr) (r:List V),vs=.ref l::r/\K0 r/\Bag H l/\∀ p e m xs H',Out l H p e m xs H'->Q (.ref p) H'
def Zue (r:List V):Prop:=∃ k:Int,r=[.int k]
def way0 (r:List V):Prop:=r=[]
theorem Edge.mk {H:Hp}{p:Addr}{i j m:Int}(h1:0<=i)(h2:i<m)(h3:0<=j)(h4:j<m):Edge (upd H p (.tup [.int i,.int j])) m (.ref p):=⟨p,i,j,rfl,Zab,h1,h2,h3,h4⟩
theorem Edges.add {H:Hp}{p:Addr}{i j m:Int}{xs:List V}(e:Edges H m xs)(hp:H p=none)(h1:0<=i)(h2:i<m)(h3:0<=j)(h4:j<m):Edges (upd H p (.tup [.int i,.int j])) m (xs++[.ref p]):=
 (e.same (Same.new hp)).snoc (Edge.mk h1 h2 h3 h4)
theorem Zc5 {fr:List (Str×Nat)}{σ:L2.St}{t1 t2:TE}{lo m:Int}{n:Nat}{D:Addr}{H1:Hp}{Q:VK}(a b:Nat->Int)(hD:H1 D=none)(hn:n<=9)(h1:∀ i H Q,i<n->Q (.int (a i)) H->t1 (some (.int (lo+(i:Nat)))::Zbv fr σ) H Q)(h2:∀ i H Q,i<n->Q (.int (b i)) H->t2 (some (.int (lo+(i:Nat)))::Zbv fr σ) H Q)(hr:∀ i,i<n->0<=a i/\a i<m/\0<=b i/\b i<m)(hQ:∀ xs H',Same H1 H'->H' D=some (.lst xs)->xs.length=n->Edges H' m xs->Q (.ref D) H'):
  Zb6 (Zbq 0) Zfr (tTup (Ze1 t1 (Ze1 t2 Zq5))) (Itr lo n) D (Zg7 1 fr σ) H1 Q:=by
 refine Zg0 (λi vs H=>Same H1 H/\H D=some (.lst vs)/\vs.length=i/\Edges H m vs) ⟨Same.new hD,Zab,rfl,Edges.nil⟩ ?_ (λvs H ⟨s,e,l,d⟩=>hQ vs H s e l d);intro i x vs σ' H hi e91;obtain rfl:=e91;intro sh e92;refine Zb0 e92 λs e hl d=>?_;clear e92;obtain⟨z,rfl⟩:=sh.one;simp only[Ze0,Zbq,Zfr,List.set_cons_zero,Jc1,tTup,Ze1,Zq5];refine h1 i H _ hi (h2 i H _ hi ⟨by show 2<=sizeLine;decide,λp hp=>?_⟩);refine Zb0 (hr i hi) λr1 r2 r3 r4=>?_;have nD:D≠p:=Zaf e hp;have e':(upd H p (.tup [.int (a i),.int (b i)])) D=some (.lst vs):=by rw[Zag nD];exact e
 exact Zn2 (ws:=vs++[.ref p]) hi Sh.mk1 e' (Zap ∅) ⟨(s.trans (Same.new hp)).upd hD,Zab,by rw[Jah,hl];rfl,(d.add hp r1 r2 r3 r4).put e'⟩
theorem Out.fin {l p t:Addr}{m:Int}{xs:List V}{H H2:Hp}(ex:Ext l H H2)(b:Bag H2 l)(hp:H2 p=some (.lst xs))(new:H p=none)(lo:1<=m)(hi:m<=8)(len:xs.length<=9)(d:Edges H2 m xs)(ht:H2 t=none):
  Out l H t p m xs (upd H2 t (.tup [.int m,.ref p])):=
 ⟨ex.trans (Ext.new ht),b.new (b.ne ht),Zab,by rw[Zag (Zaf hp ht)];exact hp,new,lo,hi,len,d.same (Same.new ht)⟩
theorem Bag.draw {H:Hp}{l:Addr}{n:Int}{Q:VK}{E:XK}(b:Bag H l)(h0:0<n)(h1:n<1000000000)(q:∀ (r:Int) (H':Hp),0<=r->r<n->Ext l H H'->Bag H' l->Q (.int r) H'):Zc6 [.ref l,.int n] H Q E:=by
 refine Zbm b λx y e y0 y1=>?_;clear b;exact Zg8 l x y n ⟨rfl,e,y0,y1,h0,h1,λr a' b' r0 r1 c0 c1=>q r _ r0 r1 Ext.set (Bag.set c0 c1)⟩
theorem Bag.lst {H:Hp}{l:Addr}(b:Bag H l):∃ ys,H l=some (.lst ys):=by
 refine Zbh b λx y e _=>?_;clear b;exact⟨_,e⟩
theorem Edges.bag {H H':Hp}{m:Int}{l:Addr}{xs:List V}(e:Edges H m xs)(s:Ext l H H')(b:Bag H l):Edges H' m xs:=by
 obtain⟨ys,h⟩:=b.lst;exact e.ext s h
theorem Zuy {R:It->Hp->Prop}{l:Addr}{σ:L2.St}{H:Hp}{k:Int}(b:Bag H l)(h0:0<k)(h1:k<1000000000)(q:∀ (n:Int) (H3:Hp),0<=n->n<k->Ext l H H3->Bag H3 l->R (Itr 0 n.toNat) H3):
  Zs8 (Ze1 (Zp2 Zc6 [] E0 (Ze1 (Zhn 0) (Ze1 (tC (.int k)) Zq5))) Zq5) (some (.ref l)::σ) H R:=by
 refine⟨_,rfl,?_⟩;simp only[Ze1,tC,Zq5,Jev];exact b.draw h0 h1 λn H3 n0 n1 e3 b3=>⟨n,rfl,∅,∅,q n H3 n0 n1 e3 b3⟩
theorem ok_rest (F:Fun K "_law_rest_edges" "_law_rest_edges" Zc0 f fd)(T:Txt K mg C G S)(Yaa:Cal P w K mg base "_law_draw" 1 Zc6):FnOk P w K mg base CX0 2 f fd ["_law_bag_here","_law_way"] (Zib Zue):=by
 have nd:=Zd7.nd;refine F.ok Zd7 (λvs H Q E h=>?_) (λcdv A outer s H vs Q E hr h=>?_)
 .refine Zbm h λl r e910 e911 _=>?_;clear h;obtain rfl:=e910;obtain⟨k,rfl⟩:=e911;rfl
 .refine Zdw h λl r e912 e913 hb q=>?_;clear h;obtain rfl:=e912;obtain⟨k,rfl⟩:=e913;refine⟨_,((2|||nd|||(@Zbo _ _ _ _ Zaa))<*>((3|||nd|||(Zbi<|>Zac<&&>(Yaa<$>hr<$>((pvr 0)<&>(Zac<&>Zaa)))))<*>((@Za3 _ _ _ _ _ _ _ _ (Zal (Zka Zcs) (pvr 1) Zac (Zam _)) (@Zan _ _ _ (Zb2 Ja1 rfl (Zp7 rfl T.n_range (Zac<&>((pv 3)<&>Zaa))) (4>>>nd) (@Zan _ _ _ (@Za3 _ _ _ _ _ _ _ _ (Zal Zfg (Yaa<$>hr<$>((pvr 0)<&>(Zac<&>Zaa))) Zac (Zam _)) (@Zan _ _ _ (Zb1 (Zey Jaz Ja6 Ja7 (mtJ Zbd) (pvr 2) ((@Zar _ _ _ _ _ (((Znu Zco)<|>(pvr 4)<&&>Zac)<&>((pvr 4)<&>Zaa)))<&>Zaa)))) Zao)))) (@Zan _ _ _ (@Za3 _ _ _ _ _ _ _ _ (Zal (Zka Zcs) (pvr 1) Zac (Zam _)) (@Zan _ _ _ (Zb2 Ja1 rfl (Zej rfl T.n_range ((Yaa<$>hr<$>((pv 0)<&>(Zac<&>Zaa)))<&>Zaa)) (4>>>nd) ((5|||nd|||(Yaa<$>hr<$>((pvr 0)<&>((pvr 3)<&>Zaa))))<*>(@Zan _ _ _ (Zb1 (Zey Jaz Ja6 Ja7 (mtJ Zbd) (pvr 2) ((@Zar _ _ _ _ _ ((pvr 5)<&>((Yaa<$>hr<$>((pvr 0)<&>((pvr 3)<&>Zaa)))<&>Zaa)))<&>Zaa))))))) (@Zan _ _ _ (Zb2 Ja1 rfl (Zp7 rfl T.n_range (Zac<&>((pv 3)<&>Zaa))) (4>>>nd) (@Zan _ _ _ (Zb1 (Zey Jaz Ja6 Ja7 (mtJ Zbd) (pvr 2) ((@Zar _ _ _ _ _ ((Yaa<$>hr<$>((pvr 0)<&>((pvr 4)<&>Zaa)))<&>((pvr 4)<&>Zaa)))<&>Zaa)))))))))<*>(~~~(@Zar _ _ _ _ _ ((pvr 3)<&>((pvr 2)<&>Zaa))))))),?_⟩;walk_at "wp";refine⟨⇑0,λp hp=>?_⟩;have hpl:=hb.ne hp;refine (hb.new hpl).draw ⇑0 ⇑0 λx H2 x0 x1 e2 b2=>⟨x,rfl,?_⟩
  have hp2:H2 p=some (.lst []):=e2 _ _ hpl Zab;have ex2:Ext l H H2:=(Ext.new hp).trans e2;have fin:∀ (σ:L2.St) (H3:Hp) (xs:List V) (v v5:Option V),σ=[some (.ref l),some (.int k),some (.ref p),some (.int (1+x)),v,v5]->Ext l H H3->Bag H3 l->H3 p=some (.lst xs)->xs.length<=9->Edges H3 (1+x) xs->
    tRet (tTup (Ze1 (tVr 3) (Ze1 (tVr 2) Zq5))) { nx:=λx H'=>Q V.non H',rt:=Q } σ H3:=by
   rintro σ H3 xs v v5 rfl ex b hx hl d;exact⟨by show 2<=sizeLine;decide,λt ht=>q _ _ _ _ _ (Out.fin ex b hx hp ∅ ∅ hl d ht)⟩
  have Iv:∀ (_:Nat),True:=λ_=>trivial;refine Zce (λ_=>?_) (λ_=>Zce (λ_=>?_) (λ_=>?_))
  .refine ⟨_,rfl,1,1+x,rfl,⟨⇑0,⇑0,∅,∅⟩,Zbt (λi σ H3=>∃ (xs:List V) (v v5:Option V),σ=[some (.ref l),some (.int k),some (.ref p),some (.int (1+x)),v,v5]/\Ext l H H3/\Bag H3 l/\H3 p=some (.lst xs)/\xs.length<=i/\Edges H3 (1+x) xs)
    ⟨[],none,none,rfl,ex2,b2,hp2,Jai _,Edges.nil⟩ ?_ ?_⟩
   .intro i σ H3 hi e93;refine Zbu e93 λxs v v5 e914 ex b e915=>?_;clear e93;obtain rfl:=e914;refine Za2 e915 λhx hl d=>?_;clear e915;walk_at "wp";refine b.draw ⇑0 ⇑0 λr H4 r0 r1 e4 b4=>⟨r,rfl,Zce (λ_=>?_) (λ_=>?_)⟩
    .have hx4:H4 p=some (.lst xs):=e4 _ _ hpl hx;refine⟨.inl ⟨rfl,_,SqL.of hx4⟩,⇑0,λt ht=>?_⟩;have nt:p≠t:=Zaf hx4 ht;have hx5:(upd H4 t (.tup [.int (1+(i:Int)-1),.int (1+(i:Int))])) p=some (.lst xs):=by rw[Zag nt];exact hx4
     refine⟨_,hx5,Zap ∅,xs++[.ref t],_,_,⟨rfl,rfl⟩,((ex.trans e4).trans (Ext.new ht)).upd hp,(b4.new (b4.ne ht)).new hpl,Zab,by rw[Jah];show _+1<=_;exact oz40 hl,((d.bag e4 b).add ht ∅ ∅ ∅ ∅).put hx5⟩
    .exact Zcm xs _ _ ⟨⟨rfl,rfl⟩,ex.trans e4,b4,e4 _ _ hpl hx,∅,d.bag e4 b⟩
   .intro σ H3 e94;refine Zbu e94 λxs v v5 e916 ex b e917=>?_;clear e94;obtain rfl:=e916;refine Za2 e917 λhx hl d=>?_;clear e917;exact fin _ H3 xs v v5 rfl ex b hx ∅ d
  .refine Zuy b2 ⇑0 ⇑0 λn H3 n0 n1 e3 b3=>?_;refine (Zbt (λi σ H3=>∃ (xs:List V) (v v5:Option V),σ=[some (.ref l),some (.int k),some (.ref p),some (.int (1+x)),v,v5]/\Ext l H H3/\Bag H3 l/\H3 p=some (.lst xs)/\xs.length<=i/\Edges H3 (1+x) xs)
    ⟨[],none,none,rfl,ex2.trans e3,b3,e3 _ _ hpl hp2,Jai _,Edges.nil⟩ ?_ ?_)
   .intro i σ H3 hi e95;refine Zbu e95 λxs v v5 e918 ex b e919=>?_;clear e95;obtain rfl:=e918;refine Za2 e919 λhx hl d=>?_;clear e919;walk_at "wp";refine b.draw ∅ ∅ λr H4 r0 r1 e4 b4=>?_;refine⟨.inl ⟨rfl,_,SqL.of (e4 _ _ hpl hx)⟩,b4.draw ∅ ∅ λr' H5 r0' r1' e5 b5=>⟨⇑0,λt ht=>?_⟩⟩;have hx4:H5 p=some (.lst xs):=e5 _ _ hpl (e4 _ _ hpl hx);have nt:p≠t:=Zaf hx4 ht;have hx5:(upd H5 t (.tup [.int r,.int r'])) p=some (.lst xs):=by rw[Zag nt];exact hx4
    refine⟨_,hx5,Zap ∅,xs++[.ref t],_,_,⟨rfl,rfl⟩,(((ex.trans e4).trans e5).trans (Ext.new ht)).upd hp,(b5.new (b5.ne ht)).new hpl,Zab,by rw[Jah];show _+1<=_;exact oz40 hl,(((d.bag e4 b).bag e5 b4).add ht r0 r1 r0' r1').put hx5⟩
   .intro σ H3 e96;refine Zbu e96 λxs v v5 e920 ex b e921=>?_;clear e96;obtain rfl:=e920;refine Za2 e921 λhx hl d=>?_;clear e921;exact fin _ H3 xs v v5 rfl ex b hx ∅ d
  .refine ⟨_,rfl,1,1+x,rfl,⟨⇑0,⇑0,∅,∅⟩,Zbt (λi σ H3=>∃ (xs:List V) (v v5:Option V),σ=[some (.ref l),some (.int k),some (.ref p),some (.int (1+x)),v,v5]/\Ext l H H3/\Bag H3 l/\H3 p=some (.lst xs)/\xs.length<=i/\Edges H3 (1+x) xs)
    ⟨[],none,none,rfl,ex2,b2,hp2,Jai _,Edges.nil⟩ ?_ ?_⟩
   .intro i σ H3 hi e97;refine Zbu e97 λxs v v5 e922 ex b e923=>?_;clear e97;obtain rfl:=e922;refine Za2 e923 λhx hl d=>?_;clear e923;walk_at "wp";refine⟨.inl ⟨rfl,_,SqL.of hx⟩,b.draw ∅ ∅ λr H4 r0 r1 e4 b4=>⟨⇑0,λt ht=>?_⟩⟩;have hx4:H4 p=some (.lst xs):=e4 _ _ hpl hx;have nt:p≠t:=Zaf hx4 ht;have hx5:(upd H4 t (.tup [.int r,.int (1+(i:Int))])) p=some (.lst xs):=by rw[Zag nt];exact hx4
    refine⟨_,hx5,Zap ∅,xs++[.ref t],_,_,⟨rfl,rfl⟩,((ex.trans e4).trans (Ext.new ht)).upd hp,(b4.new (b4.ne ht)).new hpl,Zab,by rw[Jah];show _+1<=_;exact oz40 hl,((d.bag e4 b).add ht r0 ∅ ∅ ∅).put hx5⟩
   .intro σ H3 e98;refine Zbu e98 λxs v v5 e924 ex b e925=>?_;clear e98;obtain rfl:=e924;refine Za2 e925 λhx hl d=>?_;clear e925;exact fin _ H3 xs v v5 rfl ex b hx ∅ d
theorem Bag.same {H H':Hp}{l:Addr}(b:Bag H l)(s:Same H H'):Bag H' l:=by
 refine Zbm b λx y e h1 h2=>?_;clear b;exact Zat x y ⟨s _ _ e,h1,h2⟩
theorem Out.done {l p t:Addr}{m:Int}{xs:List V}{H H2 H5:Hp}(ex:Ext l H H2)(b:Bag H2 l)(s:Same H2 H5)(hp:H5 p=none)(lo:1<=m)(hi:m<=8)(len:xs.length<=9)(d:Edges H5 m xs)(ht:(upd H5 p (.lst xs)) t=none):
  Out l H t p m xs (upd (upd H5 p (.lst xs)) t (.tup [.int m,.ref p])):=
 have b5:=b.same s;have e5:Ext l H H5:=ex.trans s.ext
 Out.fin (e5.trans (Ext.new hp)) (b5.new (b5.ne hp)) Zab (e5.free (b5.ne hp) hp) lo hi len (d.same (Same.new hp)) ht
theorem Edges.sub {H:Hp}{m:Int}{xs ys:List V}(e:Edges H m xs)(h:∀ y∈ys,y∈xs):Edges H m ys:=λy hy=>e y (h y hy)
theorem ok_bad (F:Fun K "_law_bad_edges" "_law_bad_edges" Zdb f fd)(T:Txt K mg C G S)(Yaa:Cal P w K mg base "_law_draw" 1 Zc6):FnOk P w K mg base CX0 2 f fd ["_law_bag_here"] (Zib way0):=by
 have nd:=Zeu.nd;refine F.ok Zeu (λvs H Q E h=>?_) (λcdv A outer s H vs Q E hr h=>?_)
 .refine Zbm h λl r e91 e92 _=>?_;clear h;obtain rfl:=e91;obtain rfl:=e92;rfl
 .refine Zdw h λl r e93 e94 hb q=>?_;clear h;obtain rfl:=e93;obtain rfl:=e94;refine⟨_,((1|||nd|||(Yaa<$>hr<$>((pvr 0)<&>(Zac<&>Zaa))))<*>((@Za3 _ _ _ _ _ _ _ _ (Zal Zcs (pvr 1) Zac (Zam _)) ((Zaq (i:=2) nd rfl (Or.inr rfl) (Zbi<|>Zac<&&>(Yaa<$>hr<$>((pvr 0)<&>(Zac<&>Zaa)))))<*>(~~~(@Zar _ _ _ _ _ ((pvr 2)<&>((Zax (own:=["_law_k"]) (fr:=[("_law_many",2)]) rfl (Zbj (by kernel_rfl)) (Zej rfl T.n_range ((pv 2)<&>Zaa)) (λ_ _ _ _=>⟨(0<<<["_law_k","_law_many"]),Zau,(@Zar _ _ _ _ _ ((pv 0)<&>((Zcq<|>(Zbi<|>(pv 0)<&&>Zac)<&&>(pv 1))<&>Zaa)))⟩))<&>Zaa))))) Zao)<*>((@Za3 _ _ _ _ _ _ _ _ (Zal Zcs (pvr 1) Zac (Zam _)) ((Zaq (i:=2) nd rfl (Or.inr rfl) (Zbi<|>Zac<&&>(Yaa<$>hr<$>((pvr 0)<&>(Zac<&>Zaa)))))<*>(~~~(@Zar _ _ _ _ _ ((pvr 2)<&>((Zax (own:=["_law_k"]) (fr:=[]) rfl (Zbj (by kernel_rfl)) (Zp7 rfl T.n_range (Zac<&>((pv 2)<&>Zaa))) (λ_ _ _ _=>⟨(0<<<["_law_k"]),Zau,(@Zar _ _ _ _ _ (Zac<&>((pv 0)<&>Zaa)))⟩))<&>Zaa))))) Zao)<*>((@Za3 _ _ _ _ _ _ _ _ (Zal Zcs (pvr 1) Zac (Zam _)) ((3|||nd|||(Zbi<|>Zac<&&>(Yaa<$>hr<$>((pvr 0)<&>(Zac<&>Zaa)))))<*>((Zfd (i:=4) (own:=["_law_k"]) (fr:=[]) rfl (Zbj (by kernel_rfl)) (Zej rfl T.n_range ((Zco<|>(pv 3)<&&>Zac)<&>Zaa)) (λ_ _ _ _=>⟨(0<<<["_law_k"]),Zau,(@Zar _ _ _ _ _ ((pv 0)<&>((Zbi<|>(pv 0)<&&>Zac)<&>Zaa)))⟩) nd rfl rfl rfl)<*>(~~~(@Zar _ _ _ _ _ ((Zbi<|>(pvr 3)<&&>Zac)<&>((Zks<|>(pvr 4)<&&>(@Zbo _ _ _ _ ((@Zar _ _ _ _ _ (Zac<&>((pvr 3)<&>Zaa)))<&>((@Zar _ _ _ _ _ (Zac<&>((Zbi<|>(pvr 3)<&&>Zac)<&>Zaa)))<&>((@Zar _ _ _ _ _ ((Zco<|>(pvr 3)<&&>Zac)<&>((Zbi<|>(pvr 3)<&&>Zac)<&>Zaa)))<&>((@Zar _ _ _ _ _ ((Zco<|>(pvr 3)<&&>Zac)<&>((Zbi<|>(pvr 3)<&&>Zac)<&>Zaa)))<&>Zaa))))))<&>Zaa)))))) Zao)<*>((@Za3 _ _ _ _ _ _ _ _ (Zal Zcs (pvr 1) Zac (Zam _)) ((Zaq (i:=2) nd rfl (Or.inr rfl) (Zbi<|>Zac<&&>(Yaa<$>hr<$>((pvr 0)<&>(Zac<&>Zaa)))))<*>(~~~(@Zar _ _ _ _ _ ((pvr 2)<&>((@Zdr _ _ _ _ _ _ _ _ _ _ Zf6 (@Zbo _ _ _ _ ((@Zar _ _ _ _ _ (Zac<&>(Zac<&>Zaa)))<&>((@Zar _ _ _ _ _ (Zac<&>(Zac<&>Zaa)))<&>((@Zar _ _ _ _ _ (Zac<&>(Zac<&>Zaa)))<&>((@Zar _ _ _ _ _ (Zac<&>(Zac<&>Zaa)))<&>((@Zar _ _ _ _ _ (Zac<&>(Zac<&>Zaa)))<&>((@Zar _ _ _ _ _ (Zac<&>(Zac<&>Zaa)))<&>((@Zar _ _ _ _ _ (Zac<&>(Zac<&>Zaa)))<&>Zaa)))))))) Zfe (@Zei _ _ _ (Zco<|>(pvr 2)<&&>Zac)))<&>Zaa))))) Zao)<*>(~~~(@Zar _ _ _ _ _ (Zac<&>((@Zbo _ _ _ _ ((@Zar _ _ _ _ _ (Zac<&>(Zac<&>Zaa)))<&>((@Zar _ _ _ _ _ (Zac<&>(Zac<&>Zaa)))<&>((@Zar _ _ _ _ _ (Zac<&>(Zac<&>Zaa)))<&>((@Zar _ _ _ _ _ (Zac<&>(Zac<&>Zaa)))<&>((@Zar _ _ _ _ _ (Zac<&>(Zac<&>Zaa)))<&>((@Zar _ _ _ _ _ (Zac<&>(Zac<&>Zaa)))<&>((@Zar _ _ _ _ _ (Zac<&>(Zac<&>Zaa)))<&>Zaa))))))))<&>Zaa))))))))),?_⟩;walk_at "wp";refine hb.draw ⇑0 ⇑0 λz H1 z0 z1 e1 b1=>⟨rfl,Zce (λ_=>?_) (λ_=>⟨rfl,Zce (λ_=>?_) (λ_=>⟨rfl,Zce (λ_=>?_) (λ_=>⟨rfl,Zce (λ_=>?_) (λ_=>?_)⟩)⟩)⟩)⟩
  .refine b1.draw ⇑0 ⇑0 λr H2 r0 r1 e2 b2=>⟨r,rfl,?_⟩
   refine⟨_,rfl,1+r,rfl,∅,∅,λD hD=>Zc5 (m:=1+r) (λi=>0+(i:Int)) (λi=>(0+(i:Int)+1) % (1+r)) hD ∅ (λi H Q _ h=>⟨_,rfl,h⟩) (λi H Q _ h=>⟨_,rfl,_,_,rfl,rfl,_,rfl,_,_,rfl,rfl,∅,h⟩)
    (λi hi=>⟨∅,∅,Zkt _ _ ∅,Zku _ _ ∅⟩) λxs H' s e hl d=>⟨⇑0,λt ht=>?_⟩⟩
   have n1:=b2.ne hD;have ex:Ext l H H2:=e1.trans e2;refine Zbm (id b2) λya yb ye y0 y1=>?_;exact q _ _ _ _ _ (Out.fin (ex.trans s.ext) ⟨ya,yb,s _ _ ye,y0,y1⟩ e (ex.free n1 hD) ∅ ∅ ∅ d ht)
  .refine b1.draw ⇑0 ⇑0 λr H2 r0 r1 e2 b2=>⟨r,rfl,?_⟩
   refine⟨_,rfl,1,5+r,rfl,⟨⇑0,⇑0,∅,∅⟩,λD hD=>Zc5 (m:=5+r) (λi=>0) (λi=>1+(i:Int)) hD ∅ (λi H Q _ h=>h) (λi H Q _ h=>⟨_,rfl,h⟩)
    (λi hi=>⟨∅,∅,∅,∅⟩) λxs H' s e hl d=>⟨⇑0,λt ht=>?_⟩⟩
   have n1:=b2.ne hD;have ex:Ext l H H2:=e1.trans e2;refine Zbm (id b2) λya yb ye y0 y1=>?_;exact q _ _ _ _ _ (Out.fin (ex.trans s.ext) ⟨ya,yb,s _ _ ye,y0,y1⟩ e (ex.free n1 hD) ∅ ∅ ∅ d ht)
  .refine b1.draw ⇑0 ⇑0 λr H2 r0 r1 e2 b2=>⟨r,rfl,?_⟩
   refine⟨_,rfl,_,_,rfl,rfl,_,rfl,∅,∅,λD hD=>Zc5 (m:=2+r) (λi=>0+(i:Int)) (λi=>0+(i:Int)+1) hD ∅ (λi H Q _ h=>⟨_,rfl,h⟩) (λi H Q _ h=>⟨_,rfl,_,_,rfl,rfl,h⟩)
    (λi hi=>⟨∅,∅,∅,∅⟩) λxs H' s e hl d=>?_⟩
   refine⟨⇑0,λp1 h1=>⟨⇑0,λp2 h2=>⟨⇑0,λp3 h3=>⟨⇑0,λp4 h4=>⟨⇑0,λp5 h5=>?_⟩⟩⟩⟩⟩;have D1:=(Edges.nil (H:=H') (m:=2+r+4)).add (i:=0) (j:=2+r) h1 ∅ ∅ ∅ ∅;have D2:=D1.add (i:=0) (j:=2+r+1) h2 ∅ ∅ ∅ ∅;have D3:=D2.add (i:=2+r-1) (j:=2+r+2) h3 ∅ ∅ ∅ ∅;have D4:=D3.add (i:=2+r-1) (j:=2+r+3) h4 ∅ ∅ ∅ ∅;have S5:=((((Same.new h1).trans (Same.new h2)).trans (Same.new h3)).trans (Same.new h4)).trans (Same.new (o:=.lst [.ref p1,.ref p2,.ref p3,.ref p4]) h5);refine⟨D,rfl,xs,S5 _ _ e,_,Zab,Zap (by show xs.length+4<=1000;omega) |> Jbm,λp6 h6=>⟨⇑0,λp7 h7=>?_⟩⟩;exact q _ _ _ _ _ (Out.done (e1.trans e2) b2 (s.trans S5) h6 ∅ ∅ (by rw[Jah];show xs.length+4<=9;omega) (Edges.append ((d.lift ∅).same S5) (D4.same (Same.new h5))) h7)
  .refine b1.draw ⇑0 ⇑0 λr H2 r0 r1 e2 b2=>⟨r,rfl,?_⟩
   refine⟨⇑0,λp1 h1=>⟨⇑0,λp2 h2=>⟨⇑0,λp3 h3=>⟨⇑0,λp4 h4=>⟨⇑0,λp5 h5=>⟨⇑0,λp6 h6=>⟨⇑0,λp7 h7=>⟨⇑0,λp8 h8=>⟨_,SqL.of Zab,λp9 h9=>⟨⇑0,λp10 h10=>?_⟩⟩⟩⟩⟩⟩⟩⟩⟩⟩;have D1:=(Edges.nil (H:=H2) (m:=7)).add (i:=0) (j:=1) (m:=7) h1 ∅ ∅ ∅ ∅;have D2:=D1.add (i:=1) (j:=2) (m:=7) h2 ∅ ∅ ∅ ∅;have D3:=D2.add (i:=0) (j:=3) (m:=7) h3 ∅ ∅ ∅ ∅;have D4:=D3.add (i:=3) (j:=4) (m:=7) h4 ∅ ∅ ∅ ∅;have D5:=D4.add (i:=0) (j:=5) (m:=7) h5 ∅ ∅ ∅ ∅;have D6:=D5.add (i:=5) (j:=6) (m:=7) h6 ∅ ∅ ∅ ∅;have S8:=(((((((Same.new h1).trans (Same.new h2)).trans (Same.new h3)).trans (Same.new h4)).trans (Same.new h5)).trans (Same.new h6)).trans (Same.new h7)).trans (Same.new (o:=.lst [.ref p1,.ref p2,.ref p3,.ref p4,.ref p5,.ref p6,.ref p7]) h8);have E6:=D6.same ((Same.new (o:=.tup [.int 6,.int 7]) h7).trans (Same.new (o:=.lst [.ref p1,.ref p2,.ref p3,.ref p4,.ref p5,.ref p6,.ref p7]) h8));rcases (show r=0\/r=1 by omega) with rfl|rfl
   .exact q _ _ _ _ _ (Out.done (e1.trans e2) b2 S8 h9 ⇑0 ⇑0 (Ja3 (Zdi _ _ _) (by show 7<=9;decide)) (E6.lift ⇑0) h10)
   .exact q _ _ _ _ _ (Out.done (e1.trans e2) b2 S8 h9 ⇑0 ⇑0 (Ja3 (Zdi _ _ _) (by show 7<=9;decide)) (((D6.lift (m':=8) ⇑0).add (i:=6) (j:=7) h7 ⇑0 ⇑0 ⇑0 ⇑0).same (Same.new h8)) h10)
  .refine ⟨⇑0,λp1 h1=>⟨⇑0,λp2 h2=>⟨⇑0,λp3 h3=>⟨⇑0,λp4 h4=>⟨⇑0,λp5 h5=>⟨⇑0,λp6 h6=>⟨⇑0,λp7 h7=>⟨⇑0,λp8 h8=>⟨⇑0,λp9 h9=>?_⟩⟩⟩⟩⟩⟩⟩⟩⟩;have D1:=(Edges.nil (H:=H1) (m:=8)).add (i:=0) (j:=1) (m:=8) h1 ∅ ∅ ∅ ∅;have D2:=D1.add (i:=0) (j:=2) (m:=8) h2 ∅ ∅ ∅ ∅;have D3:=D2.add (i:=2) (j:=3) (m:=8) h3 ∅ ∅ ∅ ∅;have D4:=D3.add (i:=3) (j:=4) (m:=8) h4 ∅ ∅ ∅ ∅;have D5:=D4.add (i:=0) (j:=5) (m:=8) h5 ∅ ∅ ∅ ∅;have D6:=D5.add (i:=5) (j:=6) (m:=8) h6 ∅ ∅ ∅ ∅;have D7:=D6.add (i:=6) (j:=7) (m:=8) h7 ∅ ∅ ∅ ∅;exact q _ _ _ _ _ (Out.done e1 b1 (((((((Same.new h1).trans (Same.new h2)).trans (Same.new h3)).trans (Same.new h4)).trans (Same.new h5)).trans (Same.new h6)).trans (Same.new h7)) h8 ⇑0 ⇑0 (by show 7<=9;decide) D7 h9)
theorem Zvk (F:Fun K "_law_edges" "_law_edges" Zgh f fd)(T:Txt K mg C G S)(Yaa:Cal P w K mg base "_law_draw" 1 Zc6)(Ya6:Cal P w K mg base "_law_bad_edges" 2 (Zib way0))(Ybm:Cal P w K mg base "_law_rest_edges" 2 (Zib Zue)):FnOk P w K mg base CX0 3 f fd ["_law_bag_here","_law_way"] (Zib Zue):=by
 have nd:=Zhy.nd;refine F.ok Zhy (λvs H Q E h=>?_) (λcdv A outer s H vs Q E hr h=>?_)
 .refine Zbm h λl r e92 e93 _=>?_;clear h;obtain rfl:=e92;obtain⟨k,rfl⟩:=e93;rfl
 .refine Zdw h λl r e94 e95 hb q=>?_;clear h;obtain rfl:=e94;obtain⟨k,rfl⟩:=e95;refine⟨_,((@Za3 _ _ _ _ _ _ _ _ (Zal (Znu Zj9) (pvr 1) Zac (Zam _)) ((2|||nd|||(Zbi<|>Zac<&&>(Yaa<$>hr<$>((pvr 0)<&>(Zac<&>Zaa)))))<*>(~~~(@Zar _ _ _ _ _ ((pvr 2)<&>((Zax (own:=["_law_k"]) (fr:=[]) rfl (Zbj (by kernel_rfl)) (Zej rfl T.n_range ((Zco<|>(pv 2)<&&>Zac)<&>Zaa)) (λ_ _ _ _=>⟨(0<<<["_law_k"]),Zau,(@Zar _ _ _ _ _ ((pv 0)<&>((Zbi<|>(pv 0)<&&>Zac)<&>Zaa)))⟩))<&>Zaa))))) Zao)<*>((@Za3 _ _ _ _ _ _ _ _ (Zal (Zka Zcs) (pvr 1) Zac (Zam _)) ((2|||nd|||(Zbi<|>Zac<&&>(Yaa<$>hr<$>((pvr 0)<&>(Zac<&>Zaa)))))<*>(~~~(@Zar _ _ _ _ _ ((pvr 2)<&>((Zks<|>(@Zbo _ _ _ _ ((@Zar _ _ _ _ _ (Zac<&>(Zac<&>Zaa)))<&>((@Zar _ _ _ _ _ (Zac<&>(Zac<&>Zaa)))<&>((@Zar _ _ _ _ _ (Zac<&>(Zac<&>Zaa)))<&>Zaa))))<&&>(Zax (own:=["_law_k"]) (fr:=[]) rfl (Zbj (by kernel_rfl)) (Zp7 rfl T.n_range (Zac<&>((Zco<|>(pv 2)<&&>Zac)<&>Zaa))) (λ_ _ _ _=>⟨(0<<<["_law_k"]),Zau,(@Zar _ _ _ _ _ ((pv 0)<&>((Zbi<|>(pv 0)<&&>Zac)<&>Zaa)))⟩)))<&>Zaa))))) Zao)<*>((@Za3 _ _ _ _ _ _ _ _ (Zal (Zka Zcs) (pvr 1) Zac (Zam _)) ((2|||nd|||(Zbi<|>Zac<&&>(Yaa<$>hr<$>((pvr 0)<&>(Zac<&>Zaa)))))<*>(~~~(@Zar _ _ _ _ _ ((pvr 2)<&>((Zks<|>(@Zbo _ _ _ _ ((@Zar _ _ _ _ _ (Zac<&>(Zac<&>Zaa)))<&>((@Zar _ _ _ _ _ (Zac<&>(Zac<&>Zaa)))<&>((@Zar _ _ _ _ _ (Zac<&>(Zac<&>Zaa)))<&>((@Zar _ _ _ _ _ (Zac<&>(Zac<&>Zaa)))<&>Zaa)))))<&&>(Zax (own:=["_law_k"]) (fr:=[]) rfl (Zbj (by kernel_rfl)) (Zp7 rfl T.n_range (Zac<&>((Zco<|>(pv 2)<&&>Zac)<&>Zaa))) (λ_ _ _ _=>⟨(0<<<["_law_k"]),Zau,(@Zar _ _ _ _ _ ((pv 0)<&>((Zbi<|>(pv 0)<&&>Zac)<&>Zaa)))⟩)))<&>Zaa))))) Zao)<*>((@Za3 _ _ _ _ _ _ _ _ (Zal (Zka Zcs) (pvr 1) Zac (Zam _)) (~~~(Ya6<$>hr<$>((pvr 0)<&>Zaa))) Zao)<*>(~~~(Ybm<$>hr<$>((pvr 0)<&>((pvr 1)<&>Zaa)))))))),?_⟩;walk_at "wp";refine Zce (λ_=>?_) (λ_=>Zce (λ_=>?_) (λ_=>Zce (λ_=>?_) (λ_=>Zce (λ_=>⟨l,[],rfl,rfl,hb,q⟩) (λ_=>⟨l,[.int k],rfl,⟨k,rfl⟩,hb,q⟩))))
  .refine hb.draw ⇑0 ⇑0 λr H2 r0 r1 e2 b2=>⟨r,rfl,?_⟩
   refine⟨_,rfl,_,_,rfl,rfl,_,rfl,∅,∅,λD hD=>Zc5 (m:=1+r) (λi=>0+(i:Int)) (λi=>0+(i:Int)+1) hD ∅ (λi H Q _ h=>⟨_,rfl,h⟩) (λi H Q _ h=>⟨_,rfl,_,_,rfl,rfl,h⟩)
    (λi hi=>⟨∅,∅,∅,∅⟩) λxs H' s e hl d=>⟨⇑0,λt ht=>?_⟩⟩
   exact q _ _ _ _ _ (Out.fin (e2.trans s.ext) (b2.same s) e (e2.free (b2.ne hD) hD) ∅ ∅ ∅ d ht)
  .refine hb.draw ⇑0 ⇑0 λr H2 r0 r1 e2 b2=>⟨r,rfl,?_⟩
   refine⟨⇑0,λp1 h1=>⟨⇑0,λp2 h2=>⟨⇑0,λp3 h3=>⟨⇑0,λp4 h4=>?_⟩⟩⟩⟩;have D1:=(Edges.nil (H:=H2) (m:=4+r)).add (i:=0) (j:=1) h1 ∅ ∅ ∅ ∅;have D2:=D1.add (i:=0) (j:=2) h2 ∅ ∅ ∅ ∅;have D3:=D2.add (i:=0) (j:=3) h3 ∅ ∅ ∅ ∅;have S4:=(((Same.new h1).trans (Same.new h2)).trans (Same.new h3)).trans (Same.new (o:=.lst [.ref p1,.ref p2,.ref p3]) h4);refine⟨_,rfl,_,_,rfl,rfl,_,_,rfl,⟨⇑0,⇑0,∅,∅⟩,λD hD=>Zc5 (m:=4+r) (λi=>3+(i:Int)) (λi=>3+(i:Int)+1) hD ∅ (λi H Q _ h=>⟨_,rfl,h⟩) (λi H Q _ h=>⟨_,rfl,_,_,rfl,rfl,h⟩)
    (λi hi=>⟨∅,∅,∅,∅⟩) λxs H' s e hl d=>⟨D,rfl,_,s _ _ Zab,_,e,Jbm (Zap (by show 3+xs.length<=1000;omega)),λp6 h6=>⟨⇑0,λp7 h7=>?_⟩⟩⟩
   exact q _ _ _ _ _ (Out.done e2 b2 (S4.trans s) h6 ∅ ∅ (by rw[Jah];show 3+xs.length<=9;omega) (Edges.append ((D3.same (Same.new h4)).same s) d) h7)
  .refine hb.draw ⇑0 ⇑0 λr H2 r0 r1 e2 b2=>⟨r,rfl,?_⟩
   refine⟨⇑0,λp1 h1=>⟨⇑0,λp2 h2=>⟨⇑0,λp3 h3=>⟨⇑0,λp4 h4=>⟨⇑0,λp5 h5=>?_⟩⟩⟩⟩⟩;have D1:=(Edges.nil (H:=H2) (m:=6+r)).add (i:=0) (j:=1) h1 ∅ ∅ ∅ ∅;have D2:=D1.add (i:=0) (j:=2) h2 ∅ ∅ ∅ ∅;have D3:=D2.add (i:=2) (j:=3) h3 ∅ ∅ ∅ ∅;have D4:=D3.add (i:=0) (j:=4) h4 ∅ ∅ ∅ ∅;have S5:=((((Same.new h1).trans (Same.new h2)).trans (Same.new h3)).trans (Same.new h4)).trans (Same.new (o:=.lst [.ref p1,.ref p2,.ref p3,.ref p4]) h5);refine⟨_,rfl,_,_,rfl,rfl,_,_,rfl,⟨⇑0,⇑0,∅,∅⟩,λD hD=>Zc5 (m:=6+r) (λi=>4+(i:Int)) (λi=>4+(i:Int)+1) hD ∅ (λi H Q _ h=>⟨_,rfl,h⟩) (λi H Q _ h=>⟨_,rfl,_,_,rfl,rfl,h⟩)
    (λi hi=>⟨∅,∅,∅,∅⟩) λxs H' s e hl d=>⟨D,rfl,_,s _ _ Zab,_,e,Jbm (Zap (by show 4+xs.length<=1000;omega)),λp6 h6=>⟨⇑0,λp7 h7=>?_⟩⟩⟩
   exact q _ _ _ _ _ (Out.done e2 b2 (S5.trans s) h6 ∅ ∅ (by rw[Jah];show 4+xs.length<=9;omega) (Edges.append ((D4.same (Same.new h5)).same s) d) h7)
theorem Zvl (F:Fun K "_law_drawn" "_law_drawn" Zgi f fd)(T:Txt K mg C G S)(Yaa:Cal P w K mg base "_law_draw" 1 Zc6)(Ybs:Cal P w K mg base "_law_edges" 3 (Zib Zue))(Yb0:Cal P w K mg base "_law_order" 2 Zni):FnOk P w K mg base CX0 4 f fd ["_law_bag_here","_law_way"] (Zib Zue):=by
 have nd:=Zhz.nd;refine F.ok Zhz (λvs H Q E h=>?_) (λcdv A outer s H vs Q E hr h=>?_)
 .refine Zbm h λl r e96 e97 _=>?_;clear h;obtain rfl:=e96;obtain⟨k,rfl⟩:=e97;rfl
 .refine Zdw h λl r e98 e99 hb q=>?_;clear h;obtain rfl:=e98;obtain⟨k,rfl⟩:=e99;refine⟨_,((Zbr (Ybs<$>hr<$>((pvr 0)<&>((pvr 1)<&>Zaa))) (@Zbw _ _ _ _ _ 2 rfl ((2>>>nd)^^^((3>>>nd)^^^(@Zaz _))) ⇑1 ⇑1))<*>((4|||nd|||(Yb0<$>hr<$>((pvr 0)<&>((pvr 2)<&>Zaa))))<*>((5|||nd|||(@Zbo _ _ _ _ Zaa))<*>((Zeh Ja1 (Zd3 Zfg (Zba Zas rfl T.n_len Jbf ((pv 3)<&>Zaa)) Zac (Zam _)) ((6|||nd|||(Yaa<$>hr<$>((pvr 0)<&>((Zba Zas rfl T.n_len Jbf ((pvr 3)<&>Zaa))<&>Zaa))))<*>((Zbr (Zaw<|>(pvr 3)<||>(pvr 6)) (@Zbw _ _ _ _ _ 2 rfl ((7>>>nd)^^^((8>>>nd)^^^(@Zaz _))) ⇑1 ⇑1))<*>((3|||nd|||(Zks<|>(@Zdr _ _ _ _ _ _ _ _ _ _ Zf6 (pvr 3) Zfe (@Zei _ _ _ (pvr 6)))<&&>(@Zdr _ _ _ _ _ _ _ _ _ _ Zf6 (pvr 3) (@Zei _ _ _ (Zbi<|>(pvr 6)<&&>Zac)) Zfe)))<*>((@Za3 _ _ _ _ _ _ _ _ (Zal Zcs (Yaa<$>hr<$>((pvr 0)<&>(Zac<&>Zaa))) Zac (Zam _)) (@Zan _ _ _ (Zjn (i:=7) (j:=8) rfl nd rfl rfl ⇑0 rfl rfl ((pvr 8)<&>((pvr 7)<&>Zaa)) rfl)) Zao)<*>(@Zan _ _ _ (Zb1 (Zey Jaz Ja6 Ja7 (mtJ Zbd) (pvr 5) ((@Zar _ _ _ _ _ ((Zaw<|>(pvr 4)<||>(pvr 7))<&>((Zaw<|>(pvr 4)<||>(pvr 8))<&>Zaa)))<&>Zaa)))))))))<*>(~~~(@Zar _ _ _ _ _ ((pvr 2)<&>((pvr 5)<&>Zaa)))))))),?_⟩;walk_at "wp";refine Zat l _ ⟨rfl,⟨k,rfl⟩,hb,λp e m xs H1 O=>⟨p,rfl,_,SqT.of O.tup,rfl,_,_,rfl,_,_,rfl,rfl,?_⟩⟩;have m0:=O.lo;have m8:=O.hi;refine Zat l m ⟨rfl,O.bag,∅,O.hi,λpo ys H2 ex2 b2 hpo hpo2 hlen inr=>⟨⇑0,λpa hpa=>?_⟩⟩;have nel:e≠l:=hb.ne O.new;have e2e:H2 e=some (.lst xs):=ex2 _ _ nel O.lst;have nal:pa≠l:=b2.ne hpa;have nae:e≠pa:=Zaf e2e hpa;have nao:po≠pa:=Zaf hpo2 hpa;have exH:Ext l H H2:=O.ext.trans ex2;have fpa:H pa=none:=exH.free nal hpa;have noe:e≠po:=(Zaf O.lst hpo)
  have nol:po≠l:=O.bag.ne hpo;refine⟨λn σ H3=>∃ (pl:Addr) (ls as:List V) (v6 v7 v8:Option V),σ=[some (.ref l),some (.int k),some (.int m),some (.ref pl),some (.ref po),some (.ref pa),v6,v7,v8]/\n=ls.length/\Ext l H H3/\Bag H3 l /\
   H3 pl=some (.lst ls)/\H3 po=some (.lst (ys.map V.int))/\H3 pa=some (.lst as)/\pl≠l/\pl≠pa/\ls.length+as.length<=9/\Edges H3 m ls/\Edges H3 m as,?_,?_⟩
  .exact Zpx _ e xs [] none none none ⟨rfl,rfl,exH.trans (Ext.new hpa),b2.new nal,by rw[Zag nae];exact e2e,by rw[Zag nao];exact hpo2,Zab,nel,nae,by have:=O.len;simpa using this,(O.ed.bag ex2 O.bag).same (Same.new hpa),Edges.nil⟩
  .intro n σ H3 e91;refine Zm7 e91 λpl ls as v6 v7 v8 e910 e911 ex e912=>?_;clear e91;obtain rfl:=e910;obtain rfl:=e911;refine Zub e912 λb hpl hpo3 hpa3 n1 n2 hl dl da=>?_;clear e912;walk_at "wp";refine⟨_,.inl (SqL.of hpl),Zce (λhc=>?_) (λhc=>?_)⟩
   .have hc:=Ja5 hc;refine⟨_,λ_ _ h=>h,?_⟩;walk_at "wp";refine⟨_,.inl (SqL.of hpl),b.draw hc ∅ λr H4 r0 r1 e4 b4=>?_⟩;have hr1:r.toNat<ls.length:=by exact oz77 r0 r1
    have hpl4:=e4 _ _ n1 hpl;have hpo4:=e4 _ _ nol hpo3;have hpa4:=e4 _ _ nal hpa3;have dl4:=dl.bag e4 b;have da4:=da.bag e4 b;refine Zbu (dl4 _ (Jap hr1)) λt i j hx ht4 i0 e913=>?_;refine Za2 e913 λi1 j0 j1=>?_;clear e913;refine Zat ls r ⟨rfl,SqL.of hpl4,.ref t,Zbx r0 (by rw[Jaa hr1,hx]),t,rfl,_,SqT.of ht4,rfl,_,_,rfl,_,_,rfl,rfl,r,rfl,ls,SqL.of hpl4,λp2 h2=>⟨r,rfl,ls,SqL.of (by rw[Zag (Zaf hpl4 h2)];exact hpl4),λp3 h3=>?_⟩⟩;have l1:=Zxf ls r r0 ∅;have l2:=Zxg ls (r+1) ∅ ∅;have hNL:(Zf1 ls none (some r)++Zf1 ls (some (r+1)) none).length<ls.length:=by
     rw[l1,l2,Jah,Jbc,Jb2];exact oz50 r0 hr1
    refine⟨Zf1 ls none (some r),by rw[Zag (Zaf Zab h3)];exact Zab,_,Zab,Jbm (Zap (by rw[Jah] at hNL;omega)),λp4 h4=>?_⟩;have S6:=(Same.new (o:=.lst (Zf1 ls none (some r))) h2).trans (Same.new (o:=.lst (Zf1 ls (some (r+1)) none)) h3);have S:=S6.trans (Same.new (o:=.lst (Zf1 ls none (some r)++Zf1 ls (some (r+1)) none)) h4);have b7:=b4.same S;have p4nl:p4≠l:=(b4.same S6).ne h4;have npa4:pa≠p4:=Zaf (S6 _ _ hpa4) h4;refine b7.draw ⇑0 ⇑0 λz H8 z0 z1 e8 b8=>⟨rfl,?_⟩
    have pa8:=e8 _ _ nal (S _ _ hpa4);have po8:=e8 _ _ nol (S _ _ hpo4);have p48:=e8 _ _ p4nl Zab;have exH8:Ext l H H8:=(ex.trans e4).trans (S.ext.trans e8);have dN8:Edges H8 m (Zf1 ls none (some r)++Zf1 ls (some (r+1)) none):=((dl4.sub λy hy=>by
     rw[l1,l2] at hy;rcases Jal.mp hy with h|h
     .exact Jcb h
     .exact Jck h).same S).bag e8 b7
    have da8:=(da4.same S).bag e8 b7;refine Zce (λ_=>?_) (λ_=>?_)
    .
     refine Zat _ _ ⟨⟨rfl,rfl⟩,.inl ⟨rfl,_,SqL.of pa8⟩,_,j,rfl,SqL.of po8,V.int (ys[j.toNat]'(oz3 m0 hlen j1)),Zbx j0 (by rw[Jad,Jaa (oz3 m0 hlen j1)];rfl),_,i,rfl,SqL.of po8,V.int (ys[i.toNat]'(oz3 m0 hlen i1)),Zbx i0 (by rw[Jad,Jaa (oz3 m0 hlen i1)];rfl),⇑0,λp5 h5=>?_⟩;have ia:=inr _ (Jap (show j.toNat<ys.length by exact oz3 m0 hlen j1));have ic:=inr _ (Jap (show i.toNat<ys.length by exact oz3 m0 hlen i1));have pa9:(upd H8 p5 (.tup [V.int (ys[j.toNat]'(oz3 m0 hlen j1)),V.int (ys[i.toNat]'(oz3 m0 hlen i1))])) pa=some (.lst as):=by rw[Zag (Zaf pa8 h5)];exact pa8
     have n5:p4≠p5:=Zaf p48 h5;have n5o:po≠p5:=Zaf po8 h5;exact⟨as,pa9,Zap (oz64 hl),_,hNL,p4,_,as++[.ref p5],_,_,_,⟨rfl,rfl,rfl,rfl⟩,rfl,(exH8.trans (Ext.new h5)).upd fpa,(b8.new (b8.ne h5)).new nal,by rw[Zag npa4.symm,Zag n5];exact p48,by rw[Zag nao,Zag n5o];exact po8,Zab,p4nl,npa4.symm,
      by have hL:(as++[V.ref p5]).length=as.length+1:=by { rw[Jah];rfl };rw[hL];exact oz41 hl hNL,(dN8.same (Same.new h5)).put pa9,(da8.add h5 ia.1 ia.2 ic.1 ic.2).put pa9⟩
    .
     refine⟨.inl ⟨rfl,_,SqL.of pa8⟩,_,i,rfl,SqL.of po8,V.int (ys[i.toNat]'(oz3 m0 hlen i1)),Zbx i0 (by rw[Jad,Jaa (oz3 m0 hlen i1)];rfl),_,j,rfl,SqL.of po8,V.int (ys[j.toNat]'(oz3 m0 hlen j1)),Zbx j0 (by rw[Jad,Jaa (oz3 m0 hlen j1)];rfl),⇑0,λp5 h5=>?_⟩;have ia:=inr _ (Jap (show i.toNat<ys.length by exact oz3 m0 hlen i1));have ic:=inr _ (Jap (show j.toNat<ys.length by exact oz3 m0 hlen j1));have pa9:(upd H8 p5 (.tup [V.int (ys[i.toNat]'(oz3 m0 hlen i1)),V.int (ys[j.toNat]'(oz3 m0 hlen j1))])) pa=some (.lst as):=by rw[Zag (Zaf pa8 h5)];exact pa8
     have n5:p4≠p5:=Zaf p48 h5;have n5o:po≠p5:=Zaf po8 h5;exact⟨as,pa9,Zap (oz64 hl),_,hNL,p4,_,as++[.ref p5],_,_,_,⟨rfl,rfl,rfl,rfl⟩,rfl,(exH8.trans (Ext.new h5)).upd fpa,(b8.new (b8.ne h5)).new nal,by rw[Zag npa4.symm,Zag n5];exact p48,by rw[Zag nao,Zag n5o];exact po8,Zab,p4nl,npa4.symm,
      by have hL:(as++[V.ref p5]).length=as.length+1:=by { rw[Jah];rfl };rw[hL];exact oz41 hl hNL,(dN8.same (Same.new h5)).put pa9,(da8.add h5 ia.1 ia.2 ic.1 ic.2).put pa9⟩
   .have hc:¬ (0:Int)<(ls.length:Nat):=λz=>hc (Jao z);exact⟨⇑0,λt ht=>q _ _ _ _ _ (Out.fin ex b hpa3 fpa m0 m8 ∅ da ht)⟩
theorem iteP {c A B:Prop}[Decidable c](hc:c)(h:A):if c then A else B:=by rw[if_pos hc];exact h
theorem Zgm {c A B:Prop}[Decidable c](hc:¬ c)(h:B):if c then A else B:=by rw[if_neg hc];exact h
theorem Zg2 {a D:Addr}{xs:List V}{fr:List (Str×Nat)}{σ:L2.St}{te:TE}{H1:Hp}{Q:VK}(fb:Nat->Bool)(ha:H1 a=some (.lst xs))(hD:H1 D=none)(hn:xs.length<=1000)(h:∀ (i:Nat) x H (Q:VK),xs[i]?=some x->Same H1 H->(∀ H',Same H H'->Q (.bl (fb i)) H')->te (some x::Zbv fr σ) H Q)(hQ:∀ H',Same H1 H'->H' D=some (.lst (((List.range xs.length).map fb).map V.bl))->Q (.ref D) H'):Zb6 (Zbq 0) Zfr te (Itl K a) D (Zg7 1 fr σ) H1 Q:=by
 refine Zio (xs:=xs) (λi vs H=>Same H1 H/\H D=some (.lst vs)/\vs=((List.range i).map fb).map V.bl) ⟨Same.new hD,Zab,rfl⟩ (λi vs H _ p=>SqL.of (p.1 _ _ ha)) ?_ (λvs H ⟨s,e,hv⟩=>hQ H s (by rw[e,hv]));intro i x vs σ' H hi hx sh e91;refine Za2 e91 λs e e93=>?_;clear e91;obtain rfl:=e93;obtain⟨z,rfl⟩:=sh.one;simp only[Ze0,Zbq,Zfr,List.set_cons_zero,Jc1];refine h i x H _ hx s λH' s'=>?_;exact Zn2 (ws:=((List.range (i+1)).map fb).map V.bl) hi Sh.mk1 (s' _ _ e) (Zap (by rw[Jab,Jab,Jat];omega)) ⟨(s.trans s').upd hD,by rw[Zab,Jcj,Ja2,Ja2];rfl,rfl⟩
theorem Ztp {a D:Addr}{xs:List V}{fr:List (Str×Nat)}{σ:L2.St}{te:TE}{H1:Hp}{Q:VK}(fb:Nat->Bool)(ha:H1 a=some (.tup xs))(hD:H1 D=none)(hn:xs.length<=1000)(h:∀ (i:Nat) x H (Q:VK),xs[i]?=some x->Same H1 H->(∀ H',Same H H'->Q (.bl (fb i)) H')->te (some x::Zbv fr σ) H Q)(hQ:∀ H',Same H1 H'->H' D=some (.lst (((List.range xs.length).map fb).map V.bl))->Q (.ref D) H'):Zb6 (Zbq 0) Zfr te (Itt K a) D (Zg7 1 fr σ) H1 Q:=by
 refine Zwi (xs:=xs) (λi vs H=>Same H1 H/\H D=some (.lst vs)/\vs=((List.range i).map fb).map V.bl) ⟨Same.new hD,Zab,rfl⟩ (λi vs H _ p=>SqT.of (p.1 _ _ ha)) ?_ (λvs H ⟨s,e,hv⟩=>hQ H s (by rw[e,hv]));intro i x vs σ' H hi hx sh e92;refine Za2 e92 λs e e94=>?_;clear e92;obtain rfl:=e94;obtain⟨z,rfl⟩:=sh.one;simp only[Ze0,Zbq,Zfr,List.set_cons_zero,Jc1];refine h i x H _ hx s λH' s'=>?_;exact Zn2 (ws:=((List.range (i+1)).map fb).map V.bl) hi Sh.mk1 (s' _ _ e) (Zap (by rw[Jab,Jab,Jat];omega)) ⟨(s.trans s').upd hD,by rw[Zab,Jcj,Ja2,Ja2];rfl,rfl⟩
theorem Zfp (n:Nat):((List.range n).map λ_=>true).all id=true:=by
 rw[Jbn];intro b hb;refine Zad (Jar.mp hb) λ_ _ e95=>?_;obtain rfl:=e95;rfl
def Zha:Sp:=λvs H Q _=>∃ i:Int,vs=[.int i]/\Q (.bl true) H
theorem Zu6 (F:Fun K "is_whole" "is_whole" Zfk f fd)(T:Txt K mg C G S):FnOk P w K mg base CX0 1 f fd ["thing"] Zha:=by
 have nd:=Zeb.nd;refine F.ok Zeb (λvs H Q E h=>?_) (λcdv A outer s H vs Q E hr h=>?_)
 .refine Zad h λi e96 _=>?_;clear h;obtain rfl:=e96;rfl
 .refine Zad h λi e97 q=>?_;clear h;obtain rfl:=e97;refine⟨_,(~~~(Zh6 (Zba Zbb rfl T.n_isinstance Jb3 ((pvr 0)<&>((Zhl rfl T.n_int boot_int)<&>Zaa))) (Zh5 (Zw3 (Zba Zbb rfl T.n_isinstance Jb3 ((pvr 0)<&>((Zhl rfl T.n_bool boot_bool)<&>Zaa))))))),?_⟩;walk_at "wp";exact Zat _ _ ⟨⟨rfl,rfl⟩,_,rfl,_,.int i,_,Zmm K,iteT ⟨_,_,⟨rfl,rfl⟩,_,rfl,_,.int i,_,Zkv K,q⟩⟩
def Znn:Sp:=λvs H Q _=>∃ (m:Int) (x:V),vs=[.int m,x]/\Edge H m x/\∀ H',Same H H'->Q (.bl true) H'
theorem Zvn (F:Fun K "is_arrow" "is_arrow" Zhi f fd)(T:Txt K mg C G S)(Yab:Cal P w K mg base "is_whole" 1 Zha):FnOk P w K mg base CX0 2 f fd ["many","thing"] Znn:=by
 have nd:=Zi8.nd;refine F.ok Zi8 (λvs H Q E h=>?_) (λcdv A outer s H vs Q E hr h=>?_)
 .refine Zbh h λm x e98 _=>?_;clear h;obtain rfl:=e98;rfl
 .refine Zbm h λm x e99 e910 q=>?_;clear h;obtain rfl:=e99;obtain⟨t,i,j,rfl,ht,i0,i1,j0,j1⟩:=e910;refine⟨_,((@Za3 _ _ _ _ _ _ _ _ (PW.pt (Zdd (Zb7 (Zcb (Zba Zbb rfl T.n_isinstance Jb3 ((pvr 1)<&>((Zhl rfl T.n_tuple boot_tuple)<&>Zaa))))) (Zcz (Zal Zel (Zba Zas rfl T.n_len Jbf ((pvr 1)<&>Zaa)) Zac (Zam _))))) (~~~Zek) Zao)<*>(~~~(Zba (Zdu rfl) rfl T.n_all Jfo ((Zax (own:=["end"]) (fr:=[("many",0)]) rfl (Zbj (by kernel_rfl)) (pi_tup (pv 1)) (λ_ _ _ _=>⟨(0<<<["end","many"]),Zau,(Zh6 (Yab<$>hr<$>((pv 0)<&>Zaa)) (Zh5 (Zo4 Zp8 Zj9 Zac (pv 0) (pv 1))))⟩))<&>Zaa)))),?_⟩;walk_at "wp";refine Zat _ _ ⟨⟨rfl,rfl⟩,_,rfl,_,.tup ht,_,Zml K,iteF ⟨_,.inr (SqT.of ht),iteF ?_⟩⟩;refine⟨_,rfl,t,rfl,⟨_,SqT.of ht⟩,λD hD=>Ztp (λ_=>true) ht hD (by show 2<=1000;decide) (λk x H' Q' hx s' q'=>?_) λH' s' e'=>⟨D,rfl,_,SqL.of e',?_⟩⟩
  .have hx':∃ z:Int,x=.int z/\0<=z/\z<m:=by
    match k,hx with
    | 0,hx=>exact⟨i,(Jbi hx).symm,i0,i1⟩
    | 1,hx=>exact⟨j,(Jbi hx).symm,j0,j1⟩
    | k+2,hx=>cases hx
   refine Zav hx' λz e911 z0 z1=>?_;clear hx';obtain rfl:=e911;refine⟨_,rfl,⟨z,rfl,true,rfl,iteT ⟨_,rfl,_,_,rfl,rfl,_,rfl,?_⟩⟩⟩;refine iteP (Jao z0) ⟨_,rfl,_,_,rfl,rfl,?_⟩;show Q' (V.bl (decide (z<m))) H';rw[Jao z1];exact q' H' (Same.refl _)
  .rw [Zfp];exact q H' s'
def Znj:Sp:=λvs H Q _=>∃ (m:Int) (a:Addr) (xs:List V),vs=[.int m,.ref a]/\1<=m/\m<=8/\H a=some (.lst xs)/\xs.length<=9/\Edges H m xs/\∀ H',Same H H'->Q (.bl true) H'
theorem Zve (F:Fun K "makes_drawing" "makes_drawing" Zc9 f fd)(T:Txt K mg C G S)(Yab:Cal P w K mg base "is_whole" 1 Zha)(Ya9:Cal P w K mg base "is_arrow" 2 Znn):FnOk P w K mg base CX0 3 f fd ["many","arrows"] Znj:=by
 have nd:=Zes.nd;refine F.ok Zes (λvs H Q E h=>?_) (λcdv A outer s H vs Q E hr h=>?_)
 .refine Zex h λm a xs e912 _=>?_;clear h;obtain rfl:=e912;rfl
 .refine Zbu h λm a xs e913 m0 m8 e914=>?_;clear h;obtain rfl:=e913;refine Zb0 e914 λha hl d q=>?_;clear e914;refine⟨_,((@Za3 _ _ _ _ _ _ _ _ (PW.pt (Zdd (Zb7 (Zcb (Yab<$>hr<$>((pvr 0)<&>Zaa)))) (Zcz (Zb7 (Zo2 Zp8 Zp8 Zac (pvr 0) (Zfm rfl T.g_MOST_POINTS)))))) (~~~Zek) Zao)<*>((@Za3 _ _ _ _ _ _ _ _ (PW.pt (Zdd (Zb7 (Zcb (Zba Zbb rfl T.n_isinstance Jb3 ((pvr 1)<&>((Zhl rfl T.n_list Jc6)<&>Zaa))))) (Zcz (Zal Zfg (Zba Zas rfl T.n_len Jbf ((pvr 1)<&>Zaa)) (Zfm rfl T.g_MOST_ARROWS) (Zam _))))) (~~~Zek) Zao)<*>(~~~(Zba (Zdu rfl) rfl T.n_all Jfo ((Zax (own:=["arrow"]) (fr:=[("many",0)]) rfl (Zbj (by kernel_rfl)) (Za6 (pv 1)) (λ_ _ _ _=>⟨(0<<<["arrow","many"]),Zau,(Ya9<$>hr<$>((pv 1)<&>((pv 0)<&>Zaa)))⟩))<&>Zaa))))),?_⟩;walk_at "wp";refine⟨m,rfl,true,rfl,iteF (iteP (Jao m0) (Zgm (by rw[Jao m8];decide) ⟨_,_,⟨rfl,rfl⟩,_,rfl,_,.lst ha,_,Zdg K,iteF ⟨_,.inl (SqL.of ha),Zgm (by rw[Jbg ∅];decide) ?_⟩⟩))⟩;refine⟨_,rfl,a,rfl,⟨_,SqL.of ha⟩,λD hD=>Zg2 (λ_=>true) ha hD ∅ (λk x H' Q' hx s' q'=>?_) λH' s' e'=>⟨D,rfl,_,SqL.of e',?_⟩⟩
  .exact ⟨_,rfl,_,rfl,m,x,rfl,(d x (Jae hx)).same s',q'⟩
  .rw [Zfp];exact q H' s'
def flds (m:Int)(lp:Addr):List (Str×V):=Zcv "arrows" (.ref lp) (Zcv "many" (.int m) [])
theorem Zep (m:Int)(lp:Addr):(flds m lp).lookup ("arrows" : Str)=some (.ref lp):=by
 unfold flds;rw[Za1,if_pos rfl]
theorem Zjw (m:Int)(lp:Addr):(flds m lp).lookup ("many" : Str)=some (.int m):=by
 unfold flds;rw[Za1,if_neg ⋯,Za1,if_pos rfl]
theorem Zwd (m:Int):(Zcv "many" (.int m) ([]:List (Str×V))).length<1000:=by
 have:=Zcj "many" (.int m) [];simp at this;omega
def Zrh (C:Addr):Sp:=λvs H Q _=>∃ (p dx:Addr) (m:Int) (a:Addr) (xs:List V),vs=[.ref p,.int m,.ref a]/\H p=some (.ins C dx [])/\1<=m/\m<=8/\H a=some (.lst xs)/\xs.length<=9/\Edges H m xs /\
 ∀ (lp:Addr) (H':Hp),Ext p H H'->H' p=some (.ins C dx (flds m lp))->H lp=none->H' lp=some (.lst xs)->Q .non H'
theorem ok_init (F:Fun K "__init__" "Drawing.__init__" Zd2 f fd)(T:Txt K mg C G S)(Ybg:Cal P w K mg base "makes_drawing" 3 Znj):FnOk P w K mg base CX0 4 f fd ["self","many","arrows"] (Zrh C):=by
 have nd:=Ze6.nd;refine F.ok Ze6 (λvs H Q E h=>?_) (λcdv A outer s H vs Q E hr h=>?_)
 .refine Zua h λp dx m a xs e92 _=>?_;clear h;obtain rfl:=e92;rfl
 .refine Zf2 h λp dx m a xs e93 hp m0 e94=>?_;clear h;obtain rfl:=e93;refine Zcf e94 λm8 ha hl d q=>?_;clear e94;refine⟨_,((@Za3 _ _ _ _ _ _ _ _ (Zb7 (Zcb (Ybg<$>hr<$>((pvr 1)<&>((pvr 2)<&>Zaa))))) (@Zan _ _ _ Zc3) Zao)<*>((Zjo (pvr 0) (pvr 1) rfl)<*>(@Zan _ _ _ (Zjo (pvr 0) (Zid Zcl rfl T.n_list Jc6 ((pvr 2)<&>Zaa)) rfl)))),?_⟩;walk_at "wp";refine Zcm m a xs ⟨rfl,m0,m8,ha,hl,d,λH1 s1=>⟨true,rfl,iteF ?_⟩⟩;have nap:a≠p:=Zez ha hp (by intro z;cases z);refine Zcm C dx [] ⟨s1 _ _ hp,T.cl_Drawing,T.nM,by show 0<1000;decide,xs,.inl (SqL.of (by rw[Zag nap];exact s1 _ _ ha)),λl hl0=>?_⟩;have npl:p≠l:=Zaf Zab hl0;refine Zcm C dx _ ⟨by rw[Zag npl];exact Zab,T.cl_Drawing,T.nA,Zwd m,?_⟩;have fl:H l=none:=by
   rw[Zag npl.symm] at hl0;exact s1.free hl0
  refine q l _ (λb o nb e=>?_) Zab fl (by rw[Zag npl.symm];exact Zab);rw[Zag nb,Zag (Zaf e fl),Zag nb];exact s1 _ _ e
def Prs (H:Hp)(xs:List V)(ps:List (Int×Int)):Prop:=xs.length=ps.length/\∀ (i:Nat) (x:V) (q:Int×Int),xs[i]?=some x->ps[i]?=some q->∃ t,x=.ref t/\H t=some (.tup [.int q.1,.int q.2])
theorem Prs.same {H H':Hp}{xs:List V}{ps:List (Int×Int)}(h:Prs H xs ps)(s:Same H H'):Prs H' xs ps:=⟨h.1,λi x q h1 h2=>let ⟨t,e1,e2⟩:=h.2 i x q h1 h2;⟨t,e1,s _ _ e2⟩⟩
def Zh9 (C:Addr)(H:Hp)(p:Addr)(m:Int)(lp:Addr)(xs:List V):Prop:=∃ dx,H p=some (.ins C dx (flds m lp))/\H lp=some (.lst xs)
def InP (m:Int)(ps:List (Int×Int)):Prop:=∀ q∈ps,0<=q.1/\q.1<m/\0<=q.2/\q.2<m
theorem Prs.nil {H:Hp}:Prs H [] []:=⟨rfl,λi x q h=>by simp at h⟩
theorem Zrx {H:Hp}{m:Int}:∀ {xs:List V},Edges H m xs->∃ ps,Prs H xs ps/\InP m ps
 | [],_=>⟨[],Prs.nil,λq h=>by simp at h⟩
 | x::xs,d=>by
  refine Zad (Zrx (xs:=xs) λy hy=>d y (Jbw _ hy)) λps e92 h3=>?_;obtain⟨h1,h2⟩:=e92;refine Zj6 (d x Jcg) λt i j e93 ht hb=>?_;obtain rfl:=e93;refine⟨(i,j)::ps,⟨by simp[h1],λk y q e1 e2=>?_⟩,λq hq=>?_⟩
  .cases k with
   | zero=>
    simp at e1 e2;subst e1 e2;exact⟨t,rfl,ht⟩
   | succ k=>exact h2 k y q (by simpa using e1) (by simpa using e2)
  .rcases Jbq.mp hq with rfl|hq
   .exact hb
   .exact h3 q hq
theorem Zwf {H:Hp}{m:Int}{xs:List V}{ps:List (Int×Int)}(h:Prs H xs ps)(r:InP m ps):Edges H m xs:=by
 intro x hx;obtain⟨i,hi,rfl⟩:=Jan.mp hx;have hl:=h.1;have hq:ps[i]?=some (ps[i]'(oz91 hi hl)):=Jaa _;refine Zad (h.2 i _ _ (Jaa hi) hq) λt e1 e2=>?_;exact Zcm t _ _ ⟨e1,e2,r _ (Jae hq)⟩
theorem Zns {k:Nat}{A:Around}(hr:Room k A):A.units+8<cLine:=by have:=hr.units;omega
theorem Same.thru {l:Addr}{H H1 H2:Hp}(s:Same H H1)(h:H l=none)(e:Ext l H1 H2):Same H H2:=λb o eb=>e b o (Zaf eb h) (s b o eb)
theorem Ztq {lo:Int}{n:Nat}{D:Addr}{fr:List (Str×Nat)}{σ:L2.St}{te:TE}{H1:Hp}{Q:VK}(fb:Nat->Bool)(hD:H1 D=none)(hn:n<=1000)(h:∀ (i:Nat) H (Q:VK),i<n->Same H1 H->(∀ H',Same H H'->Q (.bl (fb i)) H')->te (some (.int (lo+(i:Nat)))::Zbv fr σ) H Q)(hQ:∀ H',Same H1 H'->H' D=some (.lst (((List.range n).map fb).map V.bl))->Q (.ref D) H'):Zb6 (Zbq 0) Zfr te (Itr lo n) D (Zg7 1 fr σ) H1 Q:=by
 refine Zg0 (λi vs H=>Same H1 H/\H D=some (.lst vs)/\vs=((List.range i).map fb).map V.bl) ⟨Same.new hD,Zab,rfl⟩ ?_ (λvs H ⟨s,e,hv⟩=>hQ H s (by rw[e,hv]));intro i x vs σ' H hi e91;obtain rfl:=e91;intro sh e92;refine Za2 e92 λs e e93=>?_;clear e92;obtain rfl:=e93;obtain⟨z,rfl⟩:=sh.one;simp only[Ze0,Zbq,Zfr,List.set_cons_zero,Jc1];refine h i H _ hi s λH' s'=>?_;exact Zn2 (ws:=((List.range (i+1)).map fb).map V.bl) hi Sh.mk1 (s' _ _ e) (Zap (by rw[Jab,Jab,Jat];omega)) ⟨(s.trans s').upd hD,by rw[Zab,Jcj,Ja2,Ja2];rfl,rfl⟩
abbrev NB1:Nat:=67000002
abbrev NB:Nat:=67000001
def Top (a:Int):Prop:=Bt NB a
theorem Top.of {a:Int}(h:a.natAbs<=100000000000000000000000000000000000000000000000000000000000000000000000000000000):Top a:=Jbh h (Jaw (show _<2 ^ 300 by decide +kernel) (Jca ⇑0 ⇑0))
def Zg6 (p:Int):Prop:=1<p/\p<=97/\∀ d:Int,2<=d->d<p->p % d≠0
def Znh:Sp:=λvs H Q _=>∃ p:Int,vs=[.int p]/\Zg6 p/\∀ H',Same H H'->Q (.bl true) H'
theorem Zvc (F:Fun K "is_prime" "is_prime" Zhh f fd)(T:Txt K mg C G S):FnOk P w K mg base CX0 1 f fd ["number"] Znh:=by
 have nd:=Zi7.nd;refine F.ok Zi7 (λvs H Q E h=>?_) (λcdv A outer s H vs Q E hr h=>?_)
 .refine Zad h λp e94 _=>?_;clear h;obtain rfl:=e94;rfl
 .refine Zav h λp e95 e96 q=>?_;clear h;obtain rfl:=e95;obtain⟨p1,p2,p3⟩:=e96;refine⟨_,(~~~(Zh6 (Zdf (Znu Zfg) (pvr 0) Zac (Zam _)) (Zh5 (Zba (Zdu rfl) rfl T.n_all Jfo ((Zax (own:=["divisor"]) (fr:=[("number",0)]) rfl (Zbj (by kernel_rfl)) (Zp7 rfl T.n_range (Zac<&>((pv 0)<&>Zaa))) (λ_ _ _ _=>⟨(0<<<["divisor","number"]),Zau,(Zdf Zel (Zcq<|>(pv 1)<&&>(pv 0)) Zac (Zam _))⟩))<&>Zaa))))),?_⟩;walk_at "wp";refine iteP (Jao p1) ⟨_,rfl,2,p,rfl,⟨⇑0,⇑0,∅,∅⟩,λD hD=>Ztq (λ_=>true) hD ∅ (λi H' Q' hi s' q'=>?_) λH' s' e'=>⟨D,rfl,_,SqL.of e',?_⟩⟩
  .have h0:(0:Int)<2+(i:Int):=∅
   have hne:=p3 (2+(i:Int)) ∅ ∅;refine⟨_,rfl,_,rfl,_,_,rfl,rfl,h0,rfl,?_⟩;have:(!decide (V.int (p % (2+(i:Int)))=V.int 0))=true:=by simp only[V.int.injEq,Jbg hne];rfl
   rw[this];exact q' H' (Same.refl _)
  .rw [Zfp];exact q H' s'
def GroundP (p:Int):Prop:=p=0\/Zg6 p
def Znc:Sp:=λvs H Q _=>∃ p:Int,vs=[.int p]/\GroundP p/\∀ H',Same H H'->Q (.bl true) H'
theorem Zu7 (F:Fun K "tells_ground" "tells_ground" Zdz f fd)(T:Txt K mg C G S)(Yab:Cal P w K mg base "is_whole" 1 Zha)(Yay:Cal P w K mg base "is_prime" 1 Znh):FnOk P w K mg base CX0 2 f fd ["thing"] Znc:=by
 have nd:=Ze3.nd;refine F.ok Ze3 (λvs H Q E h=>?_) (λcdv A outer s H vs Q E hr h=>?_)
 .refine Zad h λp e97 _=>?_;clear h;obtain rfl:=e97;rfl
 .refine Zav h λp e98 hp q=>?_;clear h;obtain rfl:=e98;have p0:0<=p:=by rcases hp with rfl|⟨h,_⟩ <;> omega
  have p97:p<=97:=by rcases hp with rfl|⟨_,h,_⟩ <;> omega
  refine⟨_,((@Za3 _ _ _ _ _ _ _ _ (PW.pt (Zdd (Zb7 (Zcb (Yab<$>hr<$>((pvr 0)<&>Zaa)))) (Zcz (Zb7 (Zo2 Zp8 Zp8 Zac (pvr 0) (Zfm rfl T.g_LARGEST_PRIME)))))) (~~~Zek) Zao)<*>(~~~(pe_or (Zdf (Zka Zcs) (pvr 0) Zac (Zam _)) (Zh5 (Yay<$>hr<$>((pvr 0)<&>Zaa)))))),?_⟩;walk_at "wp";refine⟨p,rfl,true,rfl,iteF (iteP (Jao p0) (Zgm (by rw[Jao p97];decide) (Zce (λ_=>q H (Same.refl _)) (λhc=>?_))))⟩;rcases hp with rfl|hp
  .exact absurd (Jao rfl) hc
  .exact ⟨p,rfl,hp,q⟩
def Zl2:Sp:=λvs H Q _=>∃ a b:Int,vs=[.int a,.int b]/\Top a/\0<b/\b.natAbs<=100000000000000000000000000000000/\∀ t,H t=none->Q (.ref t) (upd H t (.tup [.int (nrm a b).1,.int (nrm a b).2]))
def Zn8 (p:Int):List (Str×V):=Zcv "prime" (.int p) []
theorem Zck (p:Int):(Zn8 p).lookup ("prime" : Str)=some (.int p):=by
 unfold Zn8;rw[Za1,if_pos rfl]
theorem Zlj (p:Int){x:Str}(h1:¬ x="prime"):(Zn8 p).lookup x=none:=by
 unfold Zn8;rw[Za1,if_neg h1];rfl
def Znk (G:Addr):Sp:=λvs H Q _=>∃ (g dx:Addr) (p:Int),vs=[.ref g,.int p]/\H g=some (.ins G dx [])/\GroundP p/\∀ (H':Hp),Ext g H H'->H' g=some (.ins G dx (Zn8 p))->Q .non H'
theorem Zvi (F:Fun K "__init__" "Ground.__init__" Zeg f fd)(T:Txt K mg C G S)(Ya1:Cal P w K mg base "tells_ground" 2 Znc):FnOk P w K mg base CX0 3 f fd ["self","prime"] (Znk G):=by
 have nd:=Zfz.nd;refine F.ok Zfz (λvs H Q E h=>?_) (λcdv A outer s H vs Q E hr h=>?_)
 .refine Zex h λg dx p e99 _=>?_;clear h;obtain rfl:=e99;rfl
 .refine Zbu h λg dx p e910 hg hp q=>?_;clear h;obtain rfl:=e910;refine⟨_,((@Za3 _ _ _ _ _ _ _ _ (Zb7 (Zcb (Ya1<$>hr<$>((pvr 1)<&>Zaa)))) (@Zan _ _ _ Zc3) Zao)<*>(@Zan _ _ _ (Zjo (pvr 0) (pvr 1) rfl))),?_⟩;walk_at "wp";refine⟨p,rfl,hp,λH1 s1=>⟨true,rfl,iteF ⟨G,dx,[],s1 _ _ hg,T.cl_Ground,T.nP,by show 0<1000;decide,?_⟩⟩⟩;exact q _ (λb o nb e=>by rw[Zag nb];exact s1 _ _ e) Zab
def goodB (p:Int):Bool:=p == 0 || (decide (1<p) && decide (p<=97) && (List.range 98).all λd=>decide ((d:Int)<2) || decide (p<=(d:Int)) || decide (p % (d:Int)≠0))
theorem Zv7 {p:Int}(h:goodB p=true):GroundP p:=by
 unfold goodB at h;simp only[Jdm,Jcm,Jbv,decide_eq_true_eq,Jbn,Ja8] at h;rcases h with h|⟨⟨h1,h2⟩,h3⟩
 .exact .inl h
 .refine .inr ⟨h1,h2,λd d2 dp=>?_⟩;have:=h3 d.toNat ∅;rw[show ((d.toNat:Nat):Int)=d by omega] at this;rcases this with (h|h)|h
  .omega
  .omega
  .exact h
theorem Zr3 {L:List Int}(h:L.all goodB=true){i:Int}(i0:0<=i)(i1:i<L.length):∃ p,atI (L.map V.int) i=some (.int p)/\GroundP p:=by
 have hi:i.toNat<L.length:=by exact oz77 i0 i1
 exact⟨_,Zbx i0 (atZ_get hi),Zv7 (Jbn.mp h _ (atZ_mem hi))⟩
def NumV (H:Hp)(p:Int)(v:V)(x:Int×Int):Prop:=if p=0 then ∃ t,v=.ref t/\H t=some (.tup [.int x.1,.int x.2]) else v=.int x.1
theorem NumV.same {H H':Hp}{p:Int}{v:V}{x:Int×Int}(h:NumV H p v x)(s:Same H H'):NumV H' p v x:=by
 unfold NumV at *;split
 .rename_i hp
  rw[if_pos hp] at h;refine Zad h λt e ht=>?_;clear h;exact⟨t,e,s _ _ ht⟩
 .rename_i hp
  rw[if_neg hp] at h;exact h
theorem NumV.tup {H:Hp}{p:Int}{t:Addr}{x:Int×Int}(hp:p=0)(h:H t=some (.tup [.int x.1,.int x.2])):NumV H p (.ref t) x:=by
 unfold NumV;rw[if_pos hp];exact⟨t,rfl,h⟩
theorem NumV.of {H:Hp}{p:Int}{x:Int×Int}(hp:¬ p=0):NumV H p (.int x.1) x:=by
 unfold NumV;rw[if_neg hp]
theorem NumV.ref {H:Hp}{p:Int}{v:V}{x:Int×Int}(h:NumV H p v x)(hp:p=0):∃ t,v=.ref t/\H t=some (.tup [.int x.1,.int x.2]):=by
 unfold NumV at h;rw[if_pos hp] at h;exact h
theorem NumV.int {H:Hp}{p:Int}{v:V}{x:Int×Int}(h:NumV H p v x)(hp:¬ p=0):v=.int x.1:=by
 unfold NumV at h;rw[if_neg hp] at h;exact h
theorem GroundP.lo {p:Int}(h:GroundP p):0<=p:=by rcases h with rfl|⟨h,_⟩ <;> omega
theorem GroundP.hi {p:Int}(h:GroundP p):p<=97:=by rcases h with rfl|⟨_,h,_⟩ <;> omega
def GAt (G:Addr)(H:Hp)(g:Addr)(p:Int):Prop:=∃ dx,H g=some (.ins G dx (Zn8 p))
theorem GAt.same {H H':Hp}{g:Addr}{p:Int}(h:GAt G H g p)(s:Same H H'):GAt G H' g p:=let ⟨dx,e⟩:=h;⟨dx,s _ _ e⟩
end
end Pf
set_option maxHeartbeats 1000000
namespace Pf
open PySem L2 PyProof.Rows
theorem Zb9 {a b:Int}{A B:Nat}(ha:a.natAbs<=A)(hb:b.natAbs<=B):(a*b).natAbs<=A*B:=by rw[Jb4];exact Jbu ha hb
theorem Zaj {α:Type}{xs:List α}{i:Nat}{x d:α}(h:xs[i]?=some x):xs.getD i d=x:=by rw[Jac,h];rfl
end Pf
namespace Pf
open PySem L2 PyProof.Rows
section
variable {C G S:Addr}
theorem Zgl {A X:TS}{D:Ends}{σ:L2.St}{H:Hp}(h:∀ X',X'=X->Zq4 A X' D σ H):Zq4 A X D σ H:=h X rfl
theorem Zoe {z:Int}(h:z.natAbs<170141183460469231731687303715884105728):Bt 127 z:=Jaw h ⋯
def Zrf:Sp:=λvs H Q _=>∃ x0 y0:Int,vs=[.int x0,.int y0]/\18446744073709551616<=x0/\x0<85070591730234615865843651857942052864/\0<=y0/\y0<=x0 /\
 ∀ (a b c d x y:Int) (t:Addr) (H':Hp),Same H H'->H' t=some (.tup [.int a,.int b,.int c,.int d])->Steps x0 y0 a b c d x y->Q (.ref t) H'
theorem ok_lead (F:Fun K "leading_steps" "leading_steps" Zda f fd)(T:Txt K mg C G S)(hpt:P.given.tree=none):FnOk P w K mg base CX0 1 f fd ["one","other"] Zrf:=by
 have nd:=Zet.nd;refine F.ok Zet (λvs H Q E h=>?_) (λcdv A outer s H vs Q E hr h=>?_)
 .refine Zbh h λx0 y0 e94 _=>?_;clear h;obtain rfl:=e94;rfl
 .refine Zis h λx0 y0 e95 hx64 hx hy0 hyx q=>?_;clear h;obtain rfl:=e95;refine⟨_,((Zbr (@Zar _ _ _ _ _ (Zac<&>(Zac<&>(Zac<&>(Zac<&>Zaa))))) (@Zbw _ _ _ _ _ 4 rfl ((2>>>nd)^^^((3>>>nd)^^^((4>>>nd)^^^((5>>>nd)^^^(@Zaz _))))) ⇑1 ⇑1))<*>((Zeh Ja1 (Zd3 Zu5 (pv 1) (Zo6<|>Zac<&&>Zac) (Zam _)) ((6|||nd|||((Zcw hpt (Zcg hr))<|>(pvr 0)<&&>(pvr 1)))<*>((Zjn (i:=0) (j:=1) rfl nd rfl rfl ⇑0 rfl rfl ((pvr 1)<&>((Zco<|>(pvr 0)<&&>(Zbk<|>(pvr 6)<&&>(pvr 1)))<&>Zaa)) rfl)<*>(@Zan _ _ _ (Zbr (@Zar _ _ _ _ _ ((pvr 4)<&>((pvr 5)<&>((Zco<|>(pvr 2)<&&>(Zbk<|>(pvr 6)<&&>(pvr 4)))<&>((Zco<|>(pvr 3)<&&>(Zbk<|>(pvr 6)<&&>(pvr 5)))<&>Zaa))))) (@Zbw _ _ _ _ _ 4 rfl ((2>>>nd)^^^((3>>>nd)^^^((4>>>nd)^^^((5>>>nd)^^^(@Zaz _))))) ⇑1 ⇑1))))))<*>(~~~(@Zar _ _ _ _ _ ((pvr 2)<&>((pvr 3)<&>((pvr 4)<&>((pvr 5)<&>Zaa)))))))),?_⟩;walk_at "wp";refine⟨⇑0,λp hp=>⟨_,SqT.of Zab,rfl,_,_,rfl,_,_,rfl,_,_,rfl,_,_,rfl,rfl,?_⟩⟩;refine⟨λn σ H2=>∃ (a b c d x y:Int) (o:Option V),σ=[some (.int x),some (.int y),some (.int a),some (.int b),some (.int c),some (.int d),o]/\Same H H2/\n=y.natAbs/\Steps x0 y0 a b c d x y,
   ⟨_,1,0,0,1,x0,y0,none,rfl,Same.new hp,rfl,⟨∅,∅,⟨1,⇑0,⇑0,⇑0,⇑0,⇑0,⇑0⟩,hx64,hy0,hyx,⇑0,.inl ⟨rfl,rfl,rfl,rfl⟩⟩⟩,?_⟩
  intro n σ H2 e91;refine xE7_4 e91 λa b c d x y o e96 s2 e97 st=>?_;clear e91;obtain rfl:=e96;obtain rfl:=e97;walk_at "wp";have e64:(2:Int) ^ Int.toNat 64=18446744073709551616:=⋯
  rw[e64];refine⟨⟨⇑0,⇑0,⇑0⟩,Zce (λhc=>?_) (λhc=>?_)⟩
  .have hc:=Ja5 hc;have nx:=st.next hx hyx hc;obtain⟨c1,c2⟩:=st.cd hx hyx;have hxs:x<=x0+y0:=by
    rcases st.pr with ⟨rfl,rfl,rfl,rfl⟩|⟨_,h⟩
    .have:=st.hx;omega
    .have:=st.yn;omega
   have hyx':=st.yx;have hx0:=st.x64;have q0:0<=x / y:=Jey ∅ ∅;have q1:x / y<=x:=Int.ediv_le_self _ ∅;have hr0:=nx.yn;have hr1:x-x / y*y<y:=by
    have h1:=Jbe x (show 0<y by omega);have h2:=Jej x y;rw[Je8 y] at h2;omega
   refine⟨_,λ_ _ h=>h,∅,?_⟩;rw[Zfo ∅];refine⟨(Zoe (oz86 hx hyx hxs q0 q1)).ok (Zoe ∅) ⇑0,_,_,⟨rfl,rfl⟩,(Zoe (oz86 hx hyx hxs q0 q1)).ok (Zoe ∅) ⇑0,(Zoe (oz86 hx hyx hxs q0 q1)).ok (Zoe ∅) ⇑0,⇑0,λp2 hp2=>⟨_,SqT.of Zab,rfl,_,_,rfl,_,_,rfl,_,_,rfl,_,_,rfl,rfl,?_⟩⟩;exact⟨_,∅,_,_,_,_,_,_,_,rfl,s2.trans (Same.new hp2),rfl,nx⟩
  .exact ⟨⇑0,λt ht=>q a b c d x y t _ (s2.trans (Same.new ht)) Zab st⟩
theorem Zwc (x:Int){y:Int}(h:y≠0):(x.fmod y).natAbs<y.natAbs:=by
 rcases Int.lt_or_gt_of_ne h with h|h
 .have e:x.fmod y=-((-x).fmod (-y)):=by rw[Int.neg_fmod_neg,Int.neg_neg]
  have h1:=Jea (-x) (show 0 < -y by omega);have h2:=Jfa (-x) (show 0 < -y by omega);omega
 .have h1:=Jea x (show 0<y by omega);have h2:=Jfa x (show 0<y by omega);omega
theorem Zmo (a b:Int):Int.gcd b (a.fmod b)=Int.gcd a b:=by
 rw[Int.fmod_def,Int.sub_eq_add_neg,<- Int.mul_neg,Int.gcd_add_mul_left_right,Jeh]
theorem Zut {x y S a b c d X Y:Int}(hS:0<S)(st:Steps (x / S) (y / S) a b c d X Y)(hx:x / S<85070591730234615865843651857942052864)(hyx:y / S<=x / S)(hb:b≠0)(y0:0<=y)(x0:0<=x):(a*x+b*y).natAbs+(c*x+d*y).natAbs<(x+y).natAbs:=by
 obtain⟨c1,d1⟩:=st.cd hx hyx;obtain⟨a1,b1⟩:=st.ab;obtain⟨_,hs⟩:=st.pr.resolve_left λz=>hb z.2.1;have ex:x=S*(x / S)+x % S:=(Int.mul_ediv_add_emod x S).symm;have ey:y=S*(y / S)+y % S:=(Int.mul_ediv_add_emod y S).symm;have rx0:=Jbr x (show S≠0 by omega);have rx1:=Jbe x hS;have ry0:=Jbr y (show S≠0 by omega);have ry1:=Jbe y hS;have hX:=st.x64;have hY:=st.yn;have e1:a*x+b*y=S*X+(a*(x % S)+b*(y % S)):=by
  rw[<- st.hx]
  grind
 have e2:c*x+d*y=S*Y+(c*(x % S)+d*(y % S)):=by
  rw[<- st.hy]
  grind
 rw[e1,e2];generalize x / S=x' at *;generalize y / S=y' at *;generalize x % S=rx at *;generalize y % S=ry at *;have p1:=Zb9 (show a.natAbs<=4611686018427387903 by omega) (show rx.natAbs<=S.natAbs by exact oz2 rx0 rx1);have p2:=Zb9 (show b.natAbs<=4611686018427387903 by omega) (show ry.natAbs<=S.natAbs by exact oz2 ry0 ry1);have p3:=Zb9 (show c.natAbs<=4611686018427387903 by omega) (show rx.natAbs<=S.natAbs by exact oz2 rx0 rx1);have p4:=Zb9 (show d.natAbs<=4611686018427387903 by omega) (show ry.natAbs<=S.natAbs by exact oz2 ry0 ry1);have m1:S*(X+Y+18446744073709551616)<=S*(x'+y'):=Int.mul_le_mul_of_nonneg_left hs (oz83 hS);rw[Int.mul_add,Int.mul_add,Int.mul_add] at m1;have m2:0<=S*X:=Jdi (oz83 hS) ∅;have m3:0<=S*Y:=Jdi (oz83 hS) hY;have tri:∀ u v z:Int,(u+(v+z)).natAbs<=u.natAbs+(v.natAbs+z.natAbs):=λu v z=>Ja3 (Jfh _ _) (Je0 (Jfh _ _) _);have t1:=tri (S*X) (a*rx) (b*ry);have t2:=tri (S*Y) (c*rx) (d*ry);have q1:=Jdw m2;have q2:=Jdw m3;have q3:=Jdw (show 0<=S by exact oz83 hS);have q4:=Jdw (show 0<=x+y by omega);clear e1 e2 hs st a1 b1 c1 d1 hx hyx hX hY;generalize (S*X+(a*rx+b*ry)).natAbs=N1 at *;generalize (S*Y+(c*rx+d*ry)).natAbs=N2 at *;generalize (a*rx).natAbs=n1 at *;generalize (b*ry).natAbs=n2 at *;generalize (c*rx).natAbs=n3 at *;generalize (d*ry).natAbs=n4 at *;generalize (S*X).natAbs=n5 at *;generalize (S*Y).natAbs=n6 at *;generalize (x+y).natAbs=n7 at *;generalize S.natAbs=n8 at *;generalize S*X=zX at *;generalize S*Y=zY at *;generalize S*x'=zx at *;generalize S*y'=zy at *;omega
theorem Zwo {x:Int}{n:Nat}(h0:0<=x)(h:Builtin.Int.intBits x=n)(hn:126<=n):18446744073709551616<=x / 2 ^ (n-126)/\x / 2 ^ (n-126)<85070591730234615865843651857942052864:=by
 have hp:(0:Int)<2 ^ (n-126):=Int.pow_pos ⇑0;have hu:x.natAbs<2 ^ n:=Jdx.mp ∅;have hl:¬ x.natAbs<2 ^ (n-1):=λz=>by have:=Jdx.mpr z;omega
 constructor
 .refine (Int.le_ediv_iff_mul_le hp).mpr ?_;have e:(18446744073709551616:Int)*2 ^ (n-126)=2 ^ (n-62):=by
   rw[show (18446744073709551616:Int)=2 ^ 64 by decide +kernel,<- Int.pow_add];congr 1;exact oz45 hn
  have e2:(2:Int) ^ (n-62)=((2 ^ (n-62):Nat):Int):=by rw[Int.natCast_pow];rfl
  have e3:(2:Nat) ^ (n-62)<=2 ^ (n-1):=Jca ⇑0 oz80;rw[e,e2];omega
 .refine Int.ediv_lt_of_lt_mul hp ?_;have e:(85070591730234615865843651857942052864:Int)*2 ^ (n-126)=2 ^ n:=by
   rw[show (85070591730234615865843651857942052864:Int)=2 ^ 126 by decide +kernel,<- Int.pow_add];congr 1;omega
  have e2:(2:Int) ^ n=((2 ^ n:Nat):Int):=by rw[Int.natCast_pow];rfl
  rw[e,e2];omega
def Znf:Sp:=λvs H Q _=>∃ x y:Int,vs=[.int x,.int y]/\0<=x/\0<=y/\4000<Builtin.Int.intBits x/\4000<Builtin.Int.intBits y/\Bt NB1 x/\Bt NB1 y /\
 ∀ (u v:Int) (t:Addr) (H':Hp),Same H H'->H' t=some (.tup [.int u,.int v])->0<=u->0<=v->u+v<x+y->Int.gcd u v=Int.gcd x y->Q (.ref t) H'
theorem Zva (F:Fun K "shortened" "shortened" Zf8 f fd)(T:Txt K mg C G S)(Ya8:Cal P w K mg base "leading_steps" 1 Zrf):FnOk P w K mg base CX0 2 f fd ["one","other"] Znf:=by
 have nd:=Zhp.nd;refine F.ok Zhp (λvs H Q E h=>?_) (λcdv A outer s H vs Q E hr h=>?_)
 .refine Zbh h λx0 y0 e98 _=>?_;clear h;obtain rfl:=e98;rfl
 .refine Zis h λx y e99 x0 y0 xb yb e910=>?_;clear h;obtain rfl:=e99;refine Za2 e910 λbx by' q=>?_
  clear e910;refine⟨_,((@Za3 _ _ _ _ _ _ _ _ (Zal Zj9 (pvr 0) (pvr 1) (Zam _)) (@Zan _ _ _ (Zjn (i:=0) (j:=1) rfl nd rfl rfl ⇑0 rfl rfl ((pvr 1)<&>((pvr 0)<&>Zaa)) rfl)) Zao)<*>((2|||nd|||(Zco<|>(Zo5 Jeb Jdr Jds Zny (pvr 0))<&&>(Zfm rfl T.g_LEADING)))<*>((Zbr (Ya8<$>hr<$>((Zw5<|>(pvr 0)<&&>(pvr 2))<&>((Zw5<|>(pvr 1)<&&>(pvr 2))<&>Zaa))) (@Zbw _ _ _ _ _ 4 rfl ((3>>>nd)^^^((4>>>nd)^^^((5>>>nd)^^^((6>>>nd)^^^(@Zaz _))))) ⇑1 ⇑1))<*>((@Za3 _ _ _ _ _ _ _ _ (Zal Zcs (pvr 4) Zac (Zam _)) (~~~(@Zar _ _ _ _ _ ((pvr 1)<&>((Zsa<|>(pvr 0)<&&>(pvr 1))<&>Zaa)))) Zao)<*>(~~~(@Zar _ _ _ _ _ ((Zba Zdv rfl T.n_abs Jfp ((Zbi<|>(Zbk<|>(pvr 3)<&&>(pvr 0))<&&>(Zbk<|>(pvr 4)<&&>(pvr 1)))<&>Zaa))<&>((Zba Zdv rfl T.n_abs Jfp ((Zbi<|>(Zbk<|>(pvr 5)<&&>(pvr 0))<&&>(Zbk<|>(pvr 6)<&&>(pvr 1)))<&>Zaa))<&>Zaa)))))))),?_⟩;refine Zgl λX hX=>?_;walk_at "wp";have aft:∀ x y:Int,0<=y->y<=x->4000<Builtin.Int.intBits x->4000<Builtin.Int.intBits y->Bt NB1 x->Bt NB1 y->(∀ (u v:Int) (t:Addr) (H':Hp),Same H H'->H' t=some (.tup [.int u,.int v])->0<=u->0<=v->u+v<x+y->Int.gcd u v=Int.gcd x y->Q (.ref t) H')->
    X { nx:=λx H'=>Q V.non H',rt:=Q } [some (.int x),some (.int y),none,none,none,none,none] H:=by
   intro x y y0 yx xb yb bx by' q
   subst hX;walk_at "wp";have x0:0<=x:=∅
   obtain⟨b1,b2⟩:=Zwo x0 rfl (show 126<=Builtin.Int.intBits x by omega);have en:((Builtin.Int.intBits x:Int)-126).toNat=Builtin.Int.intBits x-126:=by exact oz37
   rw[en];have hS:(0:Int)<2 ^ (Builtin.Int.intBits x-126):=Int.pow_pos ⇑0;generalize (2:Int) ^ (Builtin.Int.intBits x-126)=S at *;have yn:y≠0:=λz=>by
    subst z;have:Builtin.Int.intBits 0=0:=rfl;omega
   have hyx:y / S<=x / S:=Int.ediv_le_ediv hS yx;refine⟨rfl,∅,∅,_,_,rfl,b1,b2,Jey y0 (oz83 hS),hyx,λa b c d X' Y' t H1 s1 ht st=>?_⟩;refine⟨t,rfl,_,SqT.of ht,rfl,_,_,rfl,_,_,rfl,_,_,rfl,_,_,rfl,rfl,rfl,Zce (λhb=>?_) (λhb=>?_)⟩
   .refine ⟨yn,⇑0,λp hp=>?_⟩;have f0:=Jea x (show 0<y by omega);have f1:=Jfa x (show 0<y by omega);exact q _ _ p _ (s1.trans (Same.new hp)) Zab y0 f0 ∅ (Zmo x y)
   .have hb:b≠0:=λz=>hb (Jao (by rw[z]));obtain⟨a1,a2⟩:=st.ab;obtain⟨c1,c2⟩:=st.cd b2 hyx;have sm:∀ z:Int,z.natAbs<4611686018427387904->Bt 127 z:=λz hz=>Zoe ∅;have lt:=Zut hS st b2 hyx hb y0 x0;refine⟨_,rfl,(sm a a1).ok bx ⇑0,_,rfl,(sm b a2).ok by' ⇑0,_,rfl,(sm c c1).ok bx ⇑0,_,rfl,(sm d c2).ok by' ⇑0,⇑0,λp hp=>?_⟩;have ab:∀ z:Int,(if z<0 then -z else z)=(z.natAbs:Int):=λz=>by split <;> omega
    rw[ab,ab];refine q _ _ p _ (s1.trans (Same.new hp)) Zab oz16 oz16 (oz13 y0 x0 lt) ?_;refine Zav st.sg λe he det _=>?_;have eg:∀ u v:Int,Int.gcd (u.natAbs:Int) (v.natAbs:Int)=Int.gcd u v:=λu v=>by simp[Int.gcd]
    rw[eg,Zwb (by rcases he with rfl|rfl <;> omega)]
  refine Zce (λhc=>?_) (λhc=>?_)
  .have hc:=Ja5 hc;exact Zat _ _ ⟨⟨rfl,rfl⟩,aft y x x0 ∅ yb xb by' bx λu v t H' s' ht u0 v0 huv hg=>q u v t H' s' ht u0 v0 ∅ (by rw[hg,Jeh])⟩
  .have hc:¬ x<y:=λz=>hc (Jao z);exact aft x y y0 ∅ xb yb bx by' q
theorem Zmz {x y:Int}(h:x.natAbs<=y.natAbs):Builtin.Int.intBits x<=Builtin.Int.intBits y:=Jdx.mpr (Jbh h (Jdx.mp (Jai _)))
def spNbl:Sp:=λvs H Q _=>∃ x y:Int,vs=[.int x,.int y]/\0<=x/\0<=y/\Bt NB x/\Bt NB y /\
 ∀ (u v:Int) (t:Addr) (H':Hp),Same H H'->H' t=some (.tup [.int u,.int v])->Int.gcd u v=Int.gcd x y->Q (.ref t) H'
theorem ok_nbl (F:Fun K "not_both_long" "not_both_long" Zc8 f fd)(T:Txt K mg C G S)(Yby:Cal P w K mg base "shortened" 2 Znf):FnOk P w K mg base CX0 3 f fd ["one","other"] spNbl:=by
 have nd:=Zer.nd;refine F.ok Zer (λvs H Q E h=>?_) (λcdv A outer s H vs Q E hr h=>?_)
 .refine Zbh h λx0 y0 e911 _=>?_;clear h;obtain rfl:=e911;rfl
 .refine Zis h λx y e912 x0 y0 bx by' q=>?_
  clear h;obtain rfl:=e912;refine⟨_,((Zeh Ja1 (Zd3 Zfg (Zo5 Jeb Jdr Jds Zny (Zba (Zjx rfl) rfl T.n_min boot_min ((pv 0)<&>((pv 1)<&>Zaa)))) (Zfm rfl T.g_LONG) (Zam _)) (@Zan _ _ _ (Zbr (Yby<$>hr<$>((pvr 0)<&>((pvr 1)<&>Zaa))) (@Zbw _ _ _ _ _ 2 rfl ((0>>>nd)^^^((1>>>nd)^^^(@Zaz _))) ⇑1 ⇑1))))<*>(~~~(@Zar _ _ _ _ _ ((pvr 0)<&>((pvr 1)<&>Zaa))))),?_⟩;walk_at "wp";refine⟨λn σ H2=>∃ u v:Int,σ=[some (.int u),some (.int v)]/\Same H H2/\n=(u+v).toNat/\0<=u/\0<=v/\u+v<=x+y/\Int.gcd u v=Int.gcd x y,⟨_,x,y,rfl,Same.refl _,rfl,x0,y0,Int.le_refl _,rfl⟩,?_⟩;intro n σ H2 e92;refine Zis e92 λu v e913 s2 e914 u0 v0 e915=>?_;clear e92;obtain rfl:=e913;obtain rfl:=e914;obtain⟨huv,hg⟩:=e915;walk_at "wp";have hb:∀ z:Int,0<=z->z<=x+y->Bt NB1 z:=λz z0 z1=>(Bt.add bx by').abs_le ∅;refine Zat _ _ ⟨⟨rfl,rfl⟩,rfl,Zce (λhc=>?_) (λhc=>?_)⟩
  .have hc:=Ja5 hc;have bu:4000<Builtin.Int.intBits u:=by
    by_cases h:v<u
    .rw [if_pos h] at hc;exact Jaw ∅ (Zmz (show v.natAbs<=u.natAbs by exact oz2 v0 h))
    .rw [if_neg h] at hc;omega
   have bv:4000<Builtin.Int.intBits v:=by
    by_cases h:v<u
    .rw [if_pos h] at hc;omega
    .rw [if_neg h] at hc;exact Jaw ∅ (Zmz (show u.natAbs<=v.natAbs by omega))
   refine⟨_,λ_ _ h=>h,u,v,rfl,u0,v0,bu,bv,hb u u0 ∅,hb v v0 ∅,λu' v' t H3 s3 ht u0' v0' lt hg'=>⟨t,rfl,_,SqT.of ht,rfl,_,_,rfl,_,_,rfl,rfl,(u'+v').toNat,oz92 u0' v0' lt,u',v',rfl,s2.trans s3,rfl,u0',v0',∅,hg'.trans hg⟩⟩
  .exact ⟨⇑0,λt ht=>q u v t _ (s2.trans (Same.new ht)) Zab hg⟩
def Znm:Sp:=λvs H Q _=>∃ a b:Int,vs=[.int a,.int b]/\Bt NB a/\Bt NB b/\∀ H',Same H H'->Q (.int (Int.gcd a b:Int)) H'
theorem ok_cdB (F:Fun K "common_divisor" "common_divisor" Zc1 f fd)(T:Txt K mg C G S)(Ybk:Cal P w K mg base "not_both_long" 3 spNbl):FnOk P w K mg base CX0 4 f fd ["one","other"] Znm:=by
 have nd:=Zd8.nd;refine F.ok Zd8 (λvs H Q E h=>?_) (λcdv A outer s H vs Q E hr h=>?_)
 .refine Zbh h λa b e916 _=>?_;clear h;obtain rfl:=e916;rfl
 .refine Zdw h λa b e917 ha hb q=>?_;clear h;obtain rfl:=e917;refine⟨_,((@Za3 _ _ _ _ _ _ _ _ (Zal Zfg (Zo5 Jeb Jdr Jds Zny (pvr 0)) (Zfm rfl T.g_LONG) (Zam _)) (@Zan _ _ _ (Zbr (Ybk<$>hr<$>((Zba Zdv rfl T.n_abs Jfp ((pvr 0)<&>Zaa))<&>((Zba Zdv rfl T.n_abs Jfp ((pvr 1)<&>Zaa))<&>Zaa))) (@Zbw _ _ _ _ _ 2 rfl ((0>>>nd)^^^((1>>>nd)^^^(@Zaz _))) ⇑1 ⇑1))) Zao)<*>((Zeh Ja1 (Zd3 Zel (pv 1) Zac (Zam _)) (@Zan _ _ _ (Zjn (i:=0) (j:=1) rfl nd rfl rfl ⇑0 rfl rfl ((pvr 1)<&>((Zsa<|>(pvr 0)<&&>(pvr 1))<&>Zaa)) rfl)))<*>(~~~(Zba Zdv rfl T.n_abs Jfp ((pvr 0)<&>Zaa))))),?_⟩;refine Zgl λX hX=>?_;walk_at "wp";have aft:∀ (x y:Int) (H1:Hp),Same H H1->Int.gcd x y=Int.gcd a b->X { nx:=λx H'=>Q V.non H',rt:=Q } [some (.int x),some (.int y)] H1:=by
   intro x y H1 s1 hg;subst hX;walk_at "wp";refine⟨λn σ H2=>∃ x y:Int,σ=[some (.int x),some (.int y)]/\H2=H1/\n=y.natAbs/\Int.gcd x y=Int.gcd a b,⟨_,x,y,rfl,rfl,rfl,hg⟩,?_⟩;intro n σ H2 e93;refine Zdw e93 λx y e918 e919 e920 hg=>?_;clear e93;obtain rfl:=e918;obtain rfl:=e919;obtain rfl:=e920;walk_at "wp";refine Zce (λhc=>?_) (λhc=>?_)
   .have hy0:¬ y=0:=by simpa using hc
    exact⟨_,λ_ _ h=>h,hy0,_,_,⟨rfl,rfl⟩,(x.fmod y).natAbs,Zwc x hy0,y,x.fmod y,rfl,rfl,rfl,by rw[Zmo];exact hg⟩
   .have hy0:y=0:=by simpa using hc
    subst hy0;have e:(if x<0 then -x else x)=(Int.gcd a b:Int):=by
     rw[<- hg,Int.gcd_zero];split <;> omega
    rw[e];exact q _ s1
  have ab:∀ z:Int,(if z<0 then -z else z)=(z.natAbs:Int):=λz=>by split <;> omega
  refine⟨rfl,Zce (λhc=>?_) (λhc=>aft a b H (Same.refl _) rfl)⟩;rw[ab,ab];exact Zat _ _ ⟨rfl,oz47,oz47,ha.abs_le (by simp),hb.abs_le (by simp),λu v t H1 s1 ht hg=>⟨t,rfl,_,SqT.of ht,rfl,_,_,rfl,_,_,rfl,rfl,aft u v H1 s1 (by rw[hg];simp[Int.gcd])⟩⟩
def Kn (H:Hp)(v:V):Prop:=v=.non\/(∃ b,v=.bl b)\/(∃ i,v=.int i)\/(∃ s,v=.str s)\/(∃ a xs,v=.ref a/\H a=some (.lst xs)/\xs.length<=1000)\/∃ a xs,v=.ref a/\H a=some (.tup xs)/\xs.length<=1000
theorem Kn.same {H H':Hp}{v:V}(h:Kn H v)(s:Same H H'):Kn H' v:=by
 rcases h with h|h|h|h|⟨a,xs,h1,h2,h3⟩|⟨a,xs,h1,h2,h3⟩
 .exact .inl h
 .exact .inr (.inl h)
 .exact .inr (.inr (.inl h))
 .exact .inr (.inr (.inr (.inl h)))
 .exact .inr (.inr (.inr (.inr (.inl ⟨a,xs,h1,s _ _ h2,h3⟩))))
 .exact .inr (.inr (.inr (.inr (.inr ⟨a,xs,h1,s _ _ h2,h3⟩))))
theorem Kn.int {H:Hp}{i:Int}:Kn H (.int i):=.inr (.inr (.inl ⟨i,rfl⟩))
theorem Kn.bl {H:Hp}{i:Bool}:Kn H (.bl i):=.inr (.inl ⟨i,rfl⟩)
theorem Kn.str {H:Hp}{i:Str}:Kn H (.str i):=.inr (.inr (.inr (.inl ⟨i,rfl⟩)))
theorem Kn.lst {H:Hp}{a:Addr}{xs:List V}(h:H a=some (.lst xs))(hl:xs.length<=1000):Kn H (.ref a):=.inr (.inr (.inr (.inr (.inl ⟨a,xs,rfl,h,hl⟩))))
theorem Kn.tup {H:Hp}{a:Addr}{xs:List V}(h:H a=some (.tup xs))(hl:xs.length<=1000):Kn H (.ref a):=.inr (.inr (.inr (.inr (.inr ⟨a,xs,rfl,h,hl⟩))))
def isI:V->Bool
 | .int _=>true
 | .bl _=>true
 | _=>false
def isBl:V->Bool
 | .bl _=>true
 | _=>false
def Zs1 (H:Hp):V->Bool
 | .ref a=>match H a with
  | some (.tup _)=>true
  | _=>false
 | _=>false
def Zv2 (H:Hp):V->Bool
 | .ref a=>match H a with
  | some (.lst _)=>true
  | _=>false
 | _=>false
def whB:V->Bool
 | .int _=>true
 | _=>false
theorem kn_int {H:Hp}{v:V}(h:Kn H v):∃ t,TyOf K H v t/\PySem.W.kitOne K t (.type "int")=some (isI v):=by
 rcases h with rfl|⟨b,rfl⟩|⟨i,rfl⟩|⟨z,rfl⟩|⟨a,xs,rfl,h2,_⟩|⟨a,xs,rfl,h2,_⟩
 .exact ⟨_,.non,by kernel_rfl⟩
 .exact ⟨_,.bl b,Zqe K⟩
 .exact ⟨_,.int i,Zmm K⟩
 .exact ⟨_,.str z,by kernel_rfl⟩
 .exact ⟨_,.lst h2,by kernel_rfl⟩
 .exact ⟨_,.tup h2,by kernel_rfl⟩
theorem kn_bool {H:Hp}{v:V}(h:Kn H v):∃ t,TyOf K H v t/\PySem.W.kitOne K t (.type "bool")=some (isBl v):=by
 rcases h with rfl|⟨b,rfl⟩|⟨i,rfl⟩|⟨z,rfl⟩|⟨a,xs,rfl,h2,_⟩|⟨a,xs,rfl,h2,_⟩
 .exact ⟨_,.non,by kernel_rfl⟩
 .exact ⟨_,.bl b,Zn4 K⟩
 .exact ⟨_,.int i,Zkv K⟩
 .exact ⟨_,.str z,by kernel_rfl⟩
 .exact ⟨_,.lst h2,by kernel_rfl⟩
 .exact ⟨_,.tup h2,by kernel_rfl⟩
theorem Zxb {H:Hp}{v:V}(h:Kn H v):∃ t,TyOf K H v t/\PySem.W.kitOne K t (.type "tuple")=some (Zs1 H v):=by
 rcases h with rfl|⟨b,rfl⟩|⟨i,rfl⟩|⟨z,rfl⟩|⟨a,xs,rfl,h2,_⟩|⟨a,xs,rfl,h2,_⟩
 .exact ⟨_,.non,by kernel_rfl⟩
 .exact ⟨_,.bl b,by kernel_rfl⟩
 .exact ⟨_,.int i,by kernel_rfl⟩
 .exact ⟨_,.str z,by kernel_rfl⟩
 .refine ⟨_,.lst h2,?_⟩;simp only[Zs1,h2]
  kernel_rfl
 .refine ⟨_,.tup h2,?_⟩;simp only[Zs1,h2];exact Zml K
theorem Zsx {H:Hp}{v:V}(h:Kn H v):∃ t,TyOf K H v t/\PySem.W.kitOne K t (.type "list")=some (Zv2 H v):=by
 rcases h with rfl|⟨b,rfl⟩|⟨i,rfl⟩|⟨z,rfl⟩|⟨a,xs,rfl,h2,_⟩|⟨a,xs,rfl,h2,_⟩
 .exact ⟨_,.non,by kernel_rfl⟩
 .exact ⟨_,.bl b,by kernel_rfl⟩
 .exact ⟨_,.int i,by kernel_rfl⟩
 .exact ⟨_,.str z,by kernel_rfl⟩
 .refine ⟨_,.lst h2,?_⟩;simp only[Zv2,h2];exact Zdg K
 .refine ⟨_,.tup h2,?_⟩;simp only[Zv2,h2]
  kernel_rfl
def Zgp:Sp:=λvs H Q _=>∃ v:V,vs=[v]/\Kn H v/\Q (.bl (whB v)) H
theorem Zsf (F:Fun K "is_whole" "is_whole" Zfk f fd)(T:Txt K mg C G S):FnOk P w K mg base CX0 1 f fd ["thing"] Zgp:=by
 have nd:=Zeb.nd;refine F.ok Zeb (λvs H Q E h=>?_) (λcdv A outer s H vs Q E hr h=>?_)
 .refine Zad h λi e91 _=>?_;clear h;obtain rfl:=e91;rfl
 .refine Zav h λv e92 hk q=>?_;clear h;obtain rfl:=e92;refine⟨_,(~~~(Zh6 (Zba Zbb rfl T.n_isinstance Jb3 ((pvr 0)<&>((Zhl rfl T.n_int boot_int)<&>Zaa))) (Zh5 (Zw3 (Zba Zbb rfl T.n_isinstance Jb3 ((pvr 0)<&>((Zhl rfl T.n_bool boot_bool)<&>Zaa))))))),?_⟩;walk_at "wp";refine Zad (kn_int (K:=K) hk) λt1 h1 h2=>?_;refine Zad (kn_bool (K:=K) hk) λt2 h3 h4=>?_;refine Zat _ _ ⟨⟨rfl,rfl⟩,_,rfl,_,h1,_,h2,Zce (λhc=>⟨_,_,⟨rfl,rfl⟩,_,rfl,_,h3,_,h4,?_⟩) (λhc=>?_)⟩
  .cases v <;> first|exact q|cases hc
  .cases v <;> first|exact q|exact absurd rfl hc
def frB (H:Hp):V->Bool
 | .ref a=>match H a with
  | some (.tup [.int x,.int y])=>decide (1<=y) && decide (Int.gcd x y=1)
  | _=>false
 | _=>false
def Zpa (p:Int)(H:Hp)(v:V):Bool:=if p=0 then frB H v else match v with
 | .int i=>decide (0<=i) && decide (i<p)
 | _=>false
def Zqm (p wd:Int)(H:Hp):V->Bool
 | .ref a=>match H a with
  | some (.lst xs)=>decide ((xs.length:Int)=wd) && xs.all (Zpa p H)
  | _=>false
 | _=>false
def tabB (p:Int)(H:Hp):V->Bool
 | .ref a=>match H a with
  | some (.tup [.int h,.int wd,.ref r])=>match H r with
   | some (.lst rows)=>decide (0<=h) && decide (0<=wd) && decide ((rows.length:Int)=h) && rows.all (Zqm p wd H)
   | _=>false
  | _=>false
 | _=>false
def TopV (y:V):Prop:=∀ i,y=.int i->Top i
def WfN (H:Hp)(v:V):Prop:=Kn H v/\∀ a xs,v=.ref a->H a=some (.tup xs)->∀ y∈xs,Kn H y/\TopV y
def WfR (H:Hp)(v:V):Prop:=Kn H v/\∀ a xs,v=.ref a->H a=some (.lst xs)->∀ y∈xs,WfN H y
def WfT (H:Hp)(v:V):Prop:=Kn H v/\∀ a xs,v=.ref a->H a=some (.tup xs)->∀ y∈xs,Kn H y/\∀ r rows,y=.ref r->H r=some (.lst rows)->∀ z∈rows,WfR H z
theorem Kn.back {H H':Hp}{a:Addr}{o:HO}(h:Kn H (.ref a))(s:Same H H')(e:H' a=some o):H a=some o:=by
 rcases h with h|⟨_,h⟩|⟨_,h⟩|⟨_,h⟩|⟨b,xs,h1,h2,_⟩|⟨b,xs,h1,h2,_⟩
 .cases h
 .cases h
 .cases h
 .cases h
 .cases h1;rw[s _ _ h2] at e;rw[h2,e]
 .cases h1;rw[s _ _ h2] at e;rw[h2,e]
theorem Kn.at {H H':Hp}{a:Addr}(h:Kn H (.ref a))(s:Same H H'):H' a=H a:=by
 rcases h with h|⟨_,h⟩|⟨_,h⟩|⟨_,h⟩|⟨b,xs,h1,h2,_⟩|⟨b,xs,h1,h2,_⟩
 .cases h
 .cases h
 .cases h
 .cases h
 .cases h1;rw[s _ _ h2,h2]
 .cases h1;rw[s _ _ h2,h2]
theorem WfN.same {H H':Hp}{v:V}(h:WfN H v)(s:Same H H'):WfN H' v:=
 ⟨h.1.same s,λa xs e1 e2 y hy=>by subst e1;exact⟨(h.2 a xs rfl (h.1.back s e2) y hy).1.same s,(h.2 a xs rfl (h.1.back s e2) y hy).2⟩⟩
theorem WfR.same {H H':Hp}{v:V}(h:WfR H v)(s:Same H H'):WfR H' v:=
 ⟨h.1.same s,λa xs e1 e2 y hy=>by subst e1;exact (h.2 a xs rfl (h.1.back s e2) y hy).same s⟩
theorem Zmg {H H':Hp}{p:Int}{v:V}(h:WfN H v)(s:Same H H'):Zpa p H' v=Zpa p H v:=by
 unfold Zpa;split
 .cases v <;> try rfl
  simp only[frB,h.1.at s]
 .rfl
theorem Zky {α:Type}{f g:α->Bool}:∀ {xs:List α},(∀ x∈xs,f x=g x)->xs.all f=xs.all g
 | [],_=>rfl
 | x::xs,h=>by
  rw[Jfk,Jfk,h x Jcg,Zky λy hy=>h y (Jbw _ hy)]
theorem Zrr {H H':Hp}{p wd:Int}{v:V}(h:WfR H v)(s:Same H H'):Zqm p wd H' v=Zqm p wd H v:=by
 cases v <;> try rfl
 rename_i a
 simp only[Zqm,h.1.at s];split
 .rename_i xs e
  rw[Zky λy hy=>Zmg (h.2 a xs rfl e y hy) s]
 .rfl
theorem tu_of {H:Hp}{v:V}(h:Kn H v)(ht:Zs1 H v=true):∃ a xs,v=.ref a/\H a=some (.tup xs)/\xs.length<=1000:=by
 rcases h with rfl|⟨b,rfl⟩|⟨i,rfl⟩|⟨z,rfl⟩|⟨a,xs,rfl,h2,_⟩|h
 .cases ht
 .cases ht
 .cases ht
 .cases ht
 .simp only [Zs1,h2] at ht;cases ht
 .exact h
theorem li_of {H:Hp}{v:V}(h:Kn H v)(ht:Zv2 H v=true):∃ a xs,v=.ref a/\H a=some (.lst xs)/\xs.length<=1000:=by
 rcases h with rfl|⟨b,rfl⟩|⟨i,rfl⟩|⟨z,rfl⟩|h|⟨a,xs,rfl,h2,_⟩
 .cases ht
 .cases ht
 .cases ht
 .cases ht
 .exact h
 .simp only [Zv2,h2] at ht;cases ht
theorem Zqx {v:V}(h:whB v=true):∃ i,v=.int i:=by
 cases v <;> first|exact⟨_,rfl⟩|cases h
theorem frB_noT {H:Hp}{v:V}(h:Zs1 H v=false):frB H v=false:=by
 cases v <;> try rfl
 simp only[Zs1] at h;simp only[frB];split
 .rename_i e;rw[e] at h;cases h
 .rfl
theorem frB_len {H:Hp}{a:Addr}{xs:List V}(h:H a=some (.tup xs))(hl:xs.length≠2):frB H (.ref a)=false:=by
 simp only[frB,h];split
 .rename_i e;cases e;exact absurd rfl hl
 .rfl
theorem Ztg {H:Hp}{a:Addr}{x y:V}(h:H a=some (.tup [x,y]))(hw:whB x=false\/whB y=false):frB H (.ref a)=false:=by
 simp only[frB,h];split
 .rename_i e
  cases e;rcases hw with hw|hw <;> cases hw
 .rfl
theorem Zpo {H:Hp}{a:Addr}{x y:Int}(h:H a=some (.tup [.int x,.int y])):frB H (.ref a)=(decide (1<=y) && decide (Int.gcd x y=1)):=by
 simp only[frB,h]
def spFr:Sp:=λvs H Q _=>∃ v:V,vs=[v]/\WfN H v/\∀ H',Same H H'->Q (.bl (frB H v)) H'
theorem ok_fr (F:Fun K "is_fraction" "is_fraction" Zee f fd)(T:Txt K mg C G S)(Yab:Cal P w K mg base "is_whole" 1 Zgp)(Yad:Cal P w K mg base "common_divisor" 4 Znm):FnOk P w K mg base CX0 5 f fd ["thing"] spFr:=by
 have nd:=Zfx.nd;refine F.ok Zfx (λvs H Q E h=>?_) (λcdv A outer s H vs Q E hr h=>?_)
 .refine Zad h λv e91 _=>?_;clear h;obtain rfl:=e91;rfl
 .refine Zav h λv e92 e93 q=>?_;clear h;obtain rfl:=e92;obtain⟨hk,hx⟩:=e93;refine⟨_,((@Za3 _ _ _ _ _ _ _ _ (PW.pt (Zdd (Zb7 (Zcb (Zba Zbb rfl T.n_isinstance Jb3 ((pvr 0)<&>((Zhl rfl T.n_tuple boot_tuple)<&>Zaa))))) (Zcz (Zal Zel (Zba Zas rfl T.n_len Jbf ((pvr 0)<&>Zaa)) Zac (Zam _))))) (~~~Zek) Zao)<*>((Zbr (pvr 0) (@Zbw _ _ _ _ _ 2 rfl ((1>>>nd)^^^((2>>>nd)^^^(@Zaz _))) ⇑1 ⇑1))<*>((@Za3 _ _ _ _ _ _ _ _ (PW.pt (Zdd (Zb7 (Zcb (Yab<$>hr<$>((pvr 1)<&>Zaa)))) (Zdd (Zb7 (Zcb (Yab<$>hr<$>((pvr 2)<&>Zaa)))) (Zcz (Zal Zj9 (pvr 2) Zac (Zam _)))))) (~~~Zek) Zao)<*>(~~~(Zdf Zcs (Yad<$>hr<$>((pvr 1)<&>((pvr 2)<&>Zaa))) Zac (Zam _)))))),?_⟩;walk_at "wp";refine Zad (Zxb (K:=K) hk) λt1 h1 h2=>?_;refine Zat _ _ ⟨⟨rfl,rfl⟩,_,rfl,_,h1,_,h2,?_⟩;refine Zce (λhc=>?_) (λhc=>?_)
  .have hc:Zs1 H v=false:=by simpa using hc
   rw[frB_noT hc] at q;exact q _ (Same.refl _)
  .have hc:Zs1 H v=true:=by simpa using hc
   refine Zbm (tu_of hk hc) λa xs e94 ha hl=>?_;obtain rfl:=e94;refine⟨a,rfl,xs,.inr (SqT.of ha),Zce (λhn=>?_) (λhn=>?_)⟩
   .have hn:¬ xs.length=2:=by intro z;rw[z] at hn;exact absurd hn ⇑0
    rw[frB_len ha hn] at q;exact q _ (Same.refl _)
   .have hn:xs.length=2:=by
     have:((xs.length:Nat):Int)=2:=by simpa using hn
     omega
    obtain⟨x,y,rfl⟩:∃ x y,xs=[x,y]:=by
     match xs,hn with
     | [x,y],_=>exact⟨x,y,rfl⟩
    refine⟨a,rfl,_,SqT.of ha,rfl,_,_,rfl,_,_,rfl,rfl,x,rfl,(hx a _ rfl ha x (by simp)).1,_,rfl,Zce (λh1=>?_) (λh1=>?_)⟩
    .rw [Ztg ha (.inl (by simpa using h1))] at q;exact q _ (Same.refl _)
    .obtain ⟨i,rfl⟩:=Zqx (v:=x) (by simpa using h1);refine⟨y,rfl,(hx a _ rfl ha y (by simp)).1,_,rfl,Zce (λh2=>?_) (λh2=>?_)⟩
     .rw [Ztg ha (.inr (by simpa using h2))] at q;exact q _ (Same.refl _)
     .obtain ⟨j,rfl⟩:=Zqx (v:=y) (by simpa using h2);rw[Zpo ha] at q;refine⟨j,rfl,Zce (λh3=>?_) (λh3=>?_)⟩
      .have h3:=Ja5 h3;rw[Jbg (show ¬ 1<=j by omega)] at q;exact q _ (Same.refl _)
      .have h3:¬ j<1:=λz=>h3 (Jao z);refine Zat i j ⟨rfl,(hx a _ rfl ha _ (by simp)).2 i rfl,(hx a _ rfl ha _ (by simp)).2 j rfl,λH' s'=>⟨rfl,?_⟩⟩;rw[Jao (show 1<=j by omega)] at q;have:decide (V.int (Int.gcd i j:Int)=V.int 1)=decide (Int.gcd i j=1):=by
        simp only[V.int.injEq];by_cases e:Int.gcd i j=1
        .rw [Jao e,Jao ∅]
        .rw [Jbg e,Jbg ∅]
       rw[this];exact q _ s'
def spIsN (G:Addr):Sp:=λvs H Q _=>∃ (g:Addr) (p:Int) (v:V),vs=[.ref g,v]/\GAt G H g p/\GroundP p/\WfN H v/\∀ H',Same H H'->Q (.bl (Zpa p H v)) H'
theorem numB_pr {p:Int}{H:Hp}{v:V}(hp:¬ p=0)(h:whB v=false):Zpa p H v=false:=by
 unfold Zpa;rw[if_neg hp];cases v <;> first|rfl|cases h
theorem Zo9 {p i:Int}{H:Hp}(hp:¬ p=0):Zpa p H (.int i)=(decide (0<=i) && decide (i<p)):=by
 unfold Zpa;rw[if_neg hp]
theorem Zsm {p:Int}{H:Hp}{v:V}(hp:p=0):Zpa p H v=frB H v:=by
 unfold Zpa;rw[if_pos hp]
theorem ok_isn (F:Fun K "is_number" "Ground.is_number" Zcn f fd)(T:Txt K mg C G S)(Yab:Cal P w K mg base "is_whole" 1 Zgp)(Ybh:Cal P w K mg base "is_fraction" 5 spFr):FnOk P w K mg base CX0 6 f fd ["self","thing"] (spIsN G):=by
 have nd:=Zc7.nd;refine F.ok Zc7 (λvs H Q E h=>?_) (λcdv A outer s H vs Q E hr h=>?_)
 .refine Zex h λg p v e95 _=>?_;clear h;obtain rfl:=e95;rfl
 .refine Zbu h λg p v e96 e97 hp e98=>?_;clear h;obtain rfl:=e96;obtain⟨dx,hg⟩:=e97;obtain⟨hw,q⟩:=e98;refine⟨_,((@Za3 _ _ _ _ _ _ _ _ (Zal Zcs (Zbs (pvr 0) rfl) Zac (Zam _)) (~~~(Ybh<$>hr<$>((pvr 1)<&>Zaa))) Zao)<*>(~~~(Zh6 (Yab<$>hr<$>((pvr 1)<&>Zaa)) (Zh5 (Zo4 Zp8 Zj9 Zac (pvr 1) (Zbs (pvr 0) rfl)))))),?_⟩;walk_at "wp";refine Zcm G dx _ ⟨hg,T.cl_Ground,T.nP,_,Zck p,rfl,Zce (λhc=>?_) (λhc=>?_)⟩
  .have hp0:p=0:=by simpa using hc
   rw[Zsm hp0] at q;exact⟨v,rfl,hw,q⟩
  .have hp0:¬ p=0:=by simpa using hc
   refine⟨v,rfl,hw.1,_,rfl,Zce (λh1=>?_) (λh1=>?_)⟩
   .obtain ⟨i,rfl⟩:=Zqx h1;rw[Zo9 hp0] at q;refine⟨i,rfl,Zce (λh2=>⟨G,dx,_,hg,T.cl_Ground,T.nP,_,Zck p,i,rfl,p,rfl,?_⟩) (λh2=>?_)⟩
    .rw [h2,Jep] at q;exact q _ (Same.refl _)
    .rw [show decide (0<=i)=false by simpa using h2,Jfc] at q;exact q _ (Same.refl _)
   .rw [numB_pr hp0 (by simpa using h1)] at q;exact q _ (Same.refl _)
theorem Zxh {f:V->Bool}(xs:List V):((List.range xs.length).map λi=>f (xs.getD i .non)).all id=xs.all f:=by
 rw[Jc0,Jbn,Jbn];constructor
 .intro h x hx;obtain⟨i,hi,rfl⟩:=Jan.mp hx;have:=h (f (xs.getD i .non)) (Jar.mpr ⟨i,Ja8.mpr hi,rfl⟩);simpa [hi] using this
 .intro h b hb;refine Zad (Jar.mp hb) λi hi e99=>?_;obtain rfl:=e99;have hi:=Ja8.mp hi;simpa [hi] using h _ (Jap hi)
theorem Ztc {xs:List V}{i:Nat}{x:V}(h:xs[i]?=some x):xs.getD i .non=x:=by rw[Jac,h];rfl
def Zrd (G:Addr):Sp:=λvs H Q _=>∃ (g:Addr) (p wd:Int) (v:V),vs=[.ref g,.int wd,v]/\GAt G H g p/\GroundP p/\WfR H v/\∀ H',Same H H'->Q (.bl (Zqm p wd H v)) H'
theorem Zux {p wd:Int}{H:Hp}{v:V}(h:Zv2 H v=false):Zqm p wd H v=false:=by
 cases v <;> try rfl
 simp only[Zv2] at h;simp only[Zqm];split
 .rename_i e;rw[e] at h;cases h
 .rfl
theorem Zrs {p wd:Int}{H:Hp}{a:Addr}{xs:List V}(h:H a=some (.lst xs)):Zqm p wd H (.ref a)=(decide ((xs.length:Int)=wd) && xs.all (Zpa p H)):=by
 simp only[Zqm,h]
theorem Zvh (F:Fun K "is_row" "is_row" Zk9 f fd)(T:Txt K mg C G S)(Yb1:CalM P w K mg base G "is_number" 6 (spIsN G)):FnOk P w K mg base CX0 7 f fd ["ground","wide","thing"] (Zrd G):=by
 have nd:=Zl7.nd;refine F.ok Zl7 (λvs H Q E h=>?_) (λcdv A outer s H vs Q E hr h=>?_)
 .refine Zk0 h λg p wd v e910 _=>?_;clear h;obtain rfl:=e910;rfl
 .refine Zb5 h λg p wd v e911 e912 hp e913=>?_;clear h;obtain rfl:=e911;obtain⟨dx,hg⟩:=e912;obtain⟨⟨hk,hx⟩,q⟩:=e913;refine⟨_,((@Za3 _ _ _ _ _ _ _ _ (PW.pt (Zdd (Zb7 (Zcb (Zba Zbb rfl T.n_isinstance Jb3 ((pvr 2)<&>((Zhl rfl T.n_list Jc6)<&>Zaa))))) (Zcz (Zal Zel (Zba Zas rfl T.n_len Jbf ((pvr 2)<&>Zaa)) (pvr 1) (Zam _))))) (~~~Zek) Zao)<*>(~~~(Zba (Zdu rfl) rfl T.n_all Jfo ((Zax (own:=["number"]) (fr:=[("ground",0)]) rfl (Zbj (by kernel_rfl)) (Za6 (pv 2)) (λ_ _ _ _=>⟨(0<<<["number","ground"]),Zau,(pe_mth T.cl_Ground Yb1 hr.m (pv 1) ((pv 0)<&>Zaa))⟩))<&>Zaa)))),?_⟩;walk_at "wp";refine Zad (Zsx (K:=K) hk) λt1 h1 h2=>?_;refine Zat _ _ ⟨⟨rfl,rfl⟩,_,rfl,_,h1,_,h2,Zce (λhc=>?_) (λhc=>?_)⟩
  .rw [Zux (by simpa using hc)] at q;exact q H (Same.refl _)
  .refine Zbm (li_of hk (by simpa using hc)) λa xs e914 ha hl=>?_;obtain rfl:=e914;rw[Zrs ha] at q;refine⟨a,rfl,xs,.inl (SqL.of ha),Zce (λhn=>?_) (λhn=>?_)⟩
   .rw [show decide ((xs.length:Int)=wd)=false by simpa using hn,Jfc] at q;exact q H (Same.refl _)
   .rw [show decide ((xs.length:Int)=wd)=true by simpa using hn,Jep] at q;refine⟨_,rfl,a,rfl,⟨_,SqL.of ha⟩,λD hD=>Zg2 (λi=>Zpa p H (xs.getD i .non)) ha hD ∅ (λi y H' Q' hy s' q'=>?_) λH' s' e'=>⟨D,rfl,_,SqL.of e',?_⟩⟩
    .have wy:=hx a xs rfl ha y (Jae hy);refine⟨_,rfl,g,dx,_,rfl,s' _ _ hg,Zlj _ ⋯,_,rfl,g,p,y,rfl,⟨dx,s' _ _ hg⟩,hp,wy.same s',?_⟩;rw[Zmg wy s',<- Ztc hy];exact λH2 s2=>q' H2 s2
    .rw [Zxh];exact q H' s'
def Zrb (G:Addr):Sp:=λvs H Q _=>∃ (g:Addr) (p:Int) (v:V),vs=[.ref g,v]/\GAt G H g p/\GroundP p/\WfT H v/\∀ H',Same H H'->Q (.bl (tabB p H v)) H'
theorem Zum {p:Int}{H:Hp}{v:V}(h:Zs1 H v=false):tabB p H v=false:=by
 cases v <;> try rfl
 simp only[Zs1] at h;simp only[tabB];split
 .rename_i e;rw[e] at h;cases h
 .rfl
theorem Zun {p:Int}{H:Hp}{a:Addr}{xs:List V}(h:H a=some (.tup xs))(hl:xs.length≠3):tabB p H (.ref a)=false:=by
 simp only[tabB,h];split
 .rename_i e;cases e;exact absurd rfl hl
 .rfl
theorem Zkd {p:Int}{H:Hp}{a:Addr}{x y z:V}(h:H a=some (.tup [x,y,z]))(hw:whB x=false\/whB y=false):tabB p H (.ref a)=false:=by
 simp only[tabB,h];split
 .rename_i e
  cases e;rcases hw with hw|hw <;> cases hw
 .rfl
theorem Ziw {p:Int}{H:Hp}{a:Addr}{i j:Int}{z:V}(h:H a=some (.tup [.int i,.int j,z]))(hw:(i<0\/j<0)\/Zv2 H z=false):tabB p H (.ref a)=false:=by
 simp only[tabB,h];split
 .rename_i e
  cases e;split
  .rename_i rows e2
   rcases hw with (hw|hw)|hw
   .rw [Jbg (show ¬ 0<=i by omega)];simp
   .rw [Jbg (show ¬ 0<=j by omega)];simp
   .simp only [Zv2,e2] at hw;cases hw
  .rfl
 .rfl
theorem Zlx {p:Int}{H:Hp}{a r:Addr}{i j:Int}{rows:List V}(h:H a=some (.tup [.int i,.int j,.ref r]))(hr:H r=some (.lst rows))(h0:¬ i<0)(h1:¬ j<0):tabB p H (.ref a)=(decide ((rows.length:Int)=i) && rows.all (Zqm p j H)):=by
 simp only[tabB,h,hr];rw[Jao (show 0<=i by omega),Jao (show 0<=j by omega)];rfl
theorem Zvg (F:Fun K "is_table" "is_table" Zhg f fd)(T:Txt K mg C G S)(Yab:Cal P w K mg base "is_whole" 1 Zgp)(Ybp:Cal P w K mg base "is_row" 7 (Zrd G)):FnOk P w K mg base CX0 8 f fd ["ground","thing"] (Zrb G):=by
 have nd:=Zi6.nd;refine F.ok Zi6 (λvs H Q E h=>?_) (λcdv A outer s H vs Q E hr h=>?_)
 .refine Zex h λg p v e915 _=>?_;clear h;obtain rfl:=e915;rfl
 .refine Zbu h λg p v e916 e917 hp e918=>?_;clear h;obtain rfl:=e916;obtain⟨dx,hg⟩:=e917;obtain⟨⟨hk,hx⟩,q⟩:=e918;refine⟨_,((@Za3 _ _ _ _ _ _ _ _ (PW.pt (Zdd (Zb7 (Zcb (Zba Zbb rfl T.n_isinstance Jb3 ((pvr 1)<&>((Zhl rfl T.n_tuple boot_tuple)<&>Zaa))))) (Zcz (Zal Zel (Zba Zas rfl T.n_len Jbf ((pvr 1)<&>Zaa)) Zac (Zam _))))) (~~~Zek) Zao)<*>((Zbr (pvr 1) (@Zbw _ _ _ _ _ 3 rfl ((2>>>nd)^^^((@Zae _ _ 3 _ nd rfl (Or.inr rfl) (Or.inl rfl))^^^((4>>>nd)^^^(@Zaz _)))) ⇑1 ⇑1))<*>((@Za3 _ _ _ _ _ _ _ _ (PW.pt (Zdd (Zb7 (Zcb (Yab<$>hr<$>((pvr 2)<&>Zaa)))) (Zdd (Zb7 (Zcb (Yab<$>hr<$>((pvr 3)<&>Zaa)))) (Zdd (Zal Zj9 (pvr 2) Zac (Zam _)) (Zcz (Zal Zj9 (pvr 3) Zac (Zam _))))))) (~~~Zek) Zao)<*>((@Za3 _ _ _ _ _ _ _ _ (PW.pt (Zdd (Zb7 (Zcb (Zba Zbb rfl T.n_isinstance Jb3 ((pvr 4)<&>((Zhl rfl T.n_list Jc6)<&>Zaa))))) (Zcz (Zal Zel (Zba Zas rfl T.n_len Jbf ((pvr 4)<&>Zaa)) (pvr 2) (Zam _))))) (~~~Zek) Zao)<*>(~~~(Zba (Zdu rfl) rfl T.n_all Jfo ((Zax (own:=["row"]) (fr:=[("ground",0),("wide",3)]) rfl (Zbj (by kernel_rfl)) (Za6 (pv 4)) (λ_ _ _ _=>⟨(0<<<["row","ground","wide"]),Zau,(Ybp<$>hr<$>((pv 1)<&>((pv 2)<&>((pv 0)<&>Zaa))))⟩))<&>Zaa))))))),?_⟩;walk_at "wp";refine Zad (Zxb (K:=K) hk) λt1 h1 h2=>?_;refine Zat _ _ ⟨⟨rfl,rfl⟩,_,rfl,_,h1,_,h2,Zce (λhc=>?_) (λhc=>?_)⟩
  .rw [Zum (by simpa using hc)] at q;exact q H (Same.refl _)
  .refine Zbm (tu_of hk (by simpa using hc)) λa xs e919 ha hl=>?_;obtain rfl:=e919;refine⟨a,rfl,xs,.inr (SqT.of ha),Zce (λhn=>?_) (λhn=>?_)⟩
   .have hn:¬ xs.length=3:=by intro z;rw[z] at hn;exact absurd hn ⇑0
    rw[Zun ha hn] at q;exact q H (Same.refl _)
   .have hn:xs.length=3:=by
     have:((xs.length:Nat):Int)=3:=by simpa using hn
     omega
    obtain⟨x,y,z,rfl⟩:∃ x y z,xs=[x,y,z]:=by
     match xs,hn with
     | [x,y,z],_=>exact⟨x,y,z,rfl⟩
    have kx:=(hx a _ rfl ha x (by simp)).1;have ky:=(hx a _ rfl ha y (by simp)).1;obtain⟨kz,hz⟩:=hx a _ rfl ha z (by simp);refine⟨a,rfl,_,SqT.of ha,rfl,_,_,rfl,_,_,rfl,_,_,rfl,rfl,x,rfl,kx,_,rfl,Zce (λh1=>?_) (λh1=>?_)⟩
    .rw [Zkd ha (.inl (by simpa using h1))] at q;exact q H (Same.refl _)
    .obtain ⟨i,rfl⟩:=Zqx (v:=x) (by simpa using h1);refine⟨y,rfl,ky,_,rfl,Zce (λh2=>?_) (λh2=>?_)⟩
     .rw [Zkd ha (.inr (by simpa using h2))] at q;exact q H (Same.refl _)
     .obtain ⟨j,rfl⟩:=Zqx (v:=y) (by simpa using h2);refine⟨i,rfl,Zce (λh3=>?_) (λh3=>⟨j,rfl,Zce (λh4=>?_) (λh4=>?_)⟩)⟩
      .rw [Ziw ha (.inl (.inl (Ja5 h3)))] at q;exact q H (Same.refl _)
      .rw [Ziw ha (.inl (.inr (Ja5 h4)))] at q;exact q H (Same.refl _)
      .have h3:¬ i<0:=λz=>h3 (Jao z);have h4:¬ j<0:=λz=>h4 (Jao z);refine Zad (Zsx (K:=K) kz) λt3 h5 h6=>?_;refine Zat _ _ ⟨⟨rfl,rfl⟩,_,rfl,_,h5,_,h6,Zce (λhc2=>?_) (λhc2=>?_)⟩
       .rw [Ziw ha (.inr (by simpa using hc2))] at q;exact q H (Same.refl _)
       .refine Zbm (li_of kz (by simpa using hc2)) λr rows e920 hr1 hrl=>?_;obtain rfl:=e920;rw[Zlx ha hr1 h3 h4] at q;have ed:decide (V.int ((rows.length:Nat):Int)=V.int i)=decide ((rows.length:Int)=i):=by simp only[V.int.injEq]
        refine⟨r,rfl,rows,.inl (SqL.of hr1),rfl,Zce (λhn2=>?_) (λhn2=>?_)⟩
        .rw [ed] at hn2;rw[show decide ((rows.length:Int)=i)=false by simpa using hn2,Jfc] at q;exact q H (Same.refl _)
        .rw [ed] at hn2;rw[show decide ((rows.length:Int)=i)=true by simpa using hn2,Jep] at q;refine⟨_,rfl,r,rfl,⟨_,SqL.of hr1⟩,λD hD=>Zg2 (λk=>Zqm p j H (rows.getD k .non)) hr1 hD ∅ (λk y H' Q' hy s' q'=>?_) λH' s' e'=>⟨D,rfl,_,SqL.of e',?_⟩⟩
         .have wy:=hz r rows rfl hr1 y (Jae hy);refine⟨_,rfl,_,rfl,_,rfl,g,p,j,y,rfl,⟨dx,s' _ _ hg⟩,hp,wy.same s',λH2 s2=>?_⟩;rw[Zrr wy s',<- Ztc hy];exact q' H2 s2
         .rw [Zxh];exact q H' s'
def NumO (H:Hp)(p:Int)(B:Nat)(v:V):Prop:=∃ x,NumV H p v x/\Isn p x/\Bd B x
theorem NumO.same {H H':Hp}{p:Int}{B:Nat}{v:V}(h:NumO H p B v)(s:Same H H'):NumO H' p B v:=let ⟨x,a,b,c⟩:=h;⟨x,a.same s,b,c⟩
theorem NumO.weak {H:Hp}{p:Int}{B B':Nat}{v:V}(h:NumO H p B v)(hB:B<=B'):NumO H p B' v:=let ⟨x,a,b,c⟩:=h;⟨x,a,b,Ja3 c.1 hB,Ja3 c.2 hB⟩
theorem NumO.put {H:Hp}{D:Addr}{l:List V}{o:HO}{p:Int}{B:Nat}{v:V}(h:NumO H p B v)(hD:H D=some (.lst l)):NumO (upd H D o) p B v:=by
 refine Zav h λx a b c=>?_;clear h;refine⟨x,?_,b,c⟩;by_cases hp:p=0
 .refine Zad (a.ref hp) λt e93 ht=>?_;obtain rfl:=e93;exact NumV.tup hp (by rw[Zag (Zez ht hD (by intro z;cases z))];exact ht)
 .obtain rfl:=a.int hp;exact NumV.of hp
theorem NumV.ext {l:Addr}{H H':Hp}{p:Int}{v:V}{x:Int×Int}(h:NumV H p v x)(b:Bag H l)(e:Ext l H H'):NumV H' p v x:=by
 by_cases hp:p=0
 .refine Zad (h.ref hp) λt e94 ht=>?_;obtain rfl:=e94;refine Zbh b λa c hb _=>?_;clear b;exact NumV.tup hp (e _ _ (Zez ht hb (by intro z;cases z)) ht)
 .obtain rfl:=h.int hp;exact NumV.of hp
theorem NumO.ext {l:Addr}{H H':Hp}{p:Int}{B:Nat}{v:V}(h:NumO H p B v)(b:Bag H l)(e:Ext l H H'):NumO H' p B v:=let ⟨x,a,c,d⟩:=h;⟨x,a.ext b e,c,d⟩
def RowO (H:Hp)(p:Int)(B:Nat)(wd:Int)(a:Addr):Prop:=∃ xs,H a=some (.lst xs)/\(xs.length:Int)=wd/\∀ x∈xs,NumO H p B x
theorem RowO.same {H H':Hp}{p wd:Int}{B:Nat}{a:Addr}(h:RowO H p B wd a)(s:Same H H'):RowO H' p B wd a:=let ⟨xs,h1,h2,h3⟩:=h;⟨xs,s _ _ h1,h2,λx hx=>(h3 x hx).same s⟩
theorem RowO.weak {H:Hp}{p wd:Int}{B B':Nat}{a:Addr}(h:RowO H p B wd a)(hB:B<=B'):RowO H p B' wd a:=let ⟨xs,h1,h2,h3⟩:=h;⟨xs,h1,h2,λx hx=>(h3 x hx).weak hB⟩
theorem RowO.ext {l:Addr}{H H':Hp}{p wd:Int}{B:Nat}{a:Addr}(h:RowO H p B wd a)(b:Bag H l)(e:Ext l H H')(n:a≠l):RowO H' p B wd a:=let ⟨xs,h1,h2,h3⟩:=h;⟨xs,e _ _ n h1,h2,λx hx=>(h3 x hx).ext b e⟩
theorem RowO.put {H:Hp}{D:Addr}{l:List V}{o:HO}{p wd:Int}{B:Nat}{a:Addr}(h:RowO H p B wd a)(hD:H D=some (.lst l))(n:a≠D):RowO (upd H D o) p B wd a:=let ⟨xs,h1,h2,h3⟩:=h;⟨xs,by rw[Zag n];exact h1,h2,λx hx=>(h3 x hx).put hD⟩
theorem Za5 (rs:List Addr)(a:Addr):rs.map V.ref++[.ref a]=(rs++[a]).map V.ref:=by rw[Ja2];rfl
def BB:Nat:=2 ^ 1000000
theorem pow_lt2 {a b:Nat}(h:a<b):2 ^ a<2 ^ b:=Jda ⇑0 h
theorem pow_le2 {a b:Nat}(h:a<=b):2 ^ a<=2 ^ b:=Jca ⇑0 h
theorem BB_lt:BB<2 ^ NB:=by
 unfold BB;exact pow_lt2 ⇑0
theorem Zoi {n m:Nat}(h:n<2 ^ m)(hm:m<=1000000):n<=BB:=by
 unfold BB;exact Jbm (Jaw h (pow_le2 hm))
theorem BB_of {n:Nat}(h:n<=100000000000000000000000000000000):n<=BB:=Zoi (m:=120) (Jbh h ⋯) ⇑0
theorem Zk6 (rs:List Addr)(j:Nat)(a:Addr):(rs.map V.ref).set j (.ref a)=(rs.set j a).map V.ref:=(List.map_set).symm
theorem Zpl {rs:List Addr}{j:Nat}(h:j<rs.length):(rs.map V.ref)[j]?=some (.ref rs[j]):=by rw[Jad,Jaa h];rfl
structure Tab (H:Hp)(p:Int)(hh wd:Int)(t r:Addr)(rs:List Addr):Prop where
 tup:H t=some (.tup [.int hh,.int wd,.ref r])
 lst:H r=some (.lst (rs.map V.ref))
 len:(rs.length:Int)=hh
 row:∀ a∈rs,RowO H p BB wd a
 nin:r∉rs
theorem Tab.same {H H':Hp}{p hh wd:Int}{t r:Addr}{rs:List Addr}(h:Tab H p hh wd t r rs)(s:Same H H'):Tab H' p hh wd t r rs:=⟨s _ _ h.tup,s _ _ h.lst,h.len,λa ha=>(h.row a ha).same s,h.nin⟩
def Fl (v:V):Prop:=v=.non\/(∃ b,v=.bl b)\/(∃ i,v=.int i)\/∃ s,v=.str s
theorem Fl.kn {H:Hp}{v:V}(h:Fl v):Kn H v:=by
 rcases h with h|h|h|h
 .exact .inl h
 .exact .inr (.inl h)
 .exact .inr (.inr (.inl h))
 .exact .inr (.inr (.inr (.inl h)))
theorem Zud {H:Hp}{v:V}(h:Kn H v)(hn:∀ a,v≠.ref a):WfN H v:=⟨h,λa xs e=>absurd e (hn a)⟩
theorem wfn_tup {H:Hp}{a:Addr}{xs:List V}(h:H a=some (.tup xs))(hl:xs.length<=1000)(hk:∀ y∈xs,Kn H y/\TopV y):WfN H (.ref a):=⟨.tup h hl,λb ys e1 e2 y hy=>by cases e1;rw[h] at e2;cases e2;exact hk y hy⟩
def Zh8 (H:Hp)(v:V):Prop:=Kn H v/\∀ r rows,v=.ref r->H r=some (.lst rows)->∀ z∈rows,WfR H z
theorem NumO.wf {H:Hp}{p:Int}{B:Nat}{v:V}(h:NumO H p B v)(hB:B<=BB:=by first|exact Jai _|exact BB_of ⇑0):WfN H v:=by
 refine Zav h λx nv _ bd=>?_;clear h;by_cases hp:p=0
 .refine Zad (nv.ref hp) λt e96 ht=>?_;obtain rfl:=e96;refine wfn_tup ht (by show 2<=1000;decide) λu hu=>?_;simp only[Jbq,List.not_mem_nil,or_false] at hu;rcases hu with rfl|rfl
  .exact ⟨Kn.int,λj e=>by cases e;exact Jbh (Ja3 bd.1 hB) BB_lt⟩
  .exact ⟨Kn.int,λj e=>by cases e;exact Jbh (Ja3 bd.2 hB) BB_lt⟩
 .obtain rfl:=nv.int hp;exact Zud Kn.int (by intro a z;cases z)
theorem RowO.wf {H:Hp}{p wd:Int}{B:Nat}{a:Addr}(h:RowO H p B wd a)(w24:wd<=24)(hB:B<=BB:=by first|exact Jai _|exact BB_of ⇑0):WfR H (.ref a):=by
 refine Zav h λxs h1 h2 h3=>?_;clear h;exact⟨.lst h1 ∅,λb ys e1 e2 y hy=>by cases e1;rw[h1] at e2;cases e2;exact (h3 y hy).wf hB⟩
theorem wfs_lst {H:Hp}{a:Addr}{xs:List V}(h:H a=some (.lst xs))(hl:xs.length<=1000)(hk:∀ y∈xs,WfR H y):Zh8 H (.ref a):=⟨.lst h hl,λb ys e1 e2 y hy=>by cases e1;rw[h] at e2;cases e2;exact hk y hy⟩
theorem wft_tup {H:Hp}{a:Addr}{xs:List V}(h:H a=some (.tup xs))(hl:xs.length<=1000)(hk:∀ y∈xs,Zh8 H y):WfT H (.ref a):=⟨.tup h hl,λb ys e1 e2 y hy=>by cases e1;rw[h] at e2;cases e2;exact hk y hy⟩
theorem Zom {H:Hp}{v:V}(h:Fl v):Zh8 H v:=⟨h.kn,λa xs e=>by subst e;rcases h with h|⟨_,h⟩|⟨_,h⟩|⟨_,h⟩ <;> cases h⟩
theorem fi {i:Int}:Fl (.int i):=.inr (.inr (.inl ⟨_,rfl⟩))
theorem fb {i:Bool}:Fl (.bl i):=.inr (.inl ⟨_,rfl⟩)
theorem Tab.wfs {H:Hp}{p hh wd:Int}{t r:Addr}{rs:List Addr}(h:Tab H p hh wd t r rs)(h24:hh<=24)(w24:wd<=24):Zh8 H (.ref r):=by
 have:=h.len;exact wfs_lst h.lst (by rw[Jab];omega) λy hy=>by obtain⟨a,ha,rfl⟩:=Jar.mp hy;exact (h.row a ha).wf w24
theorem three {H:Hp}{x y z:V}(hx:Zh8 H x)(hy:Zh8 H y)(hz:Zh8 H z):∀ u∈[x,y,z],Zh8 H u:=λu hu=>by
 simp only[Jbq,List.not_mem_nil,or_false] at hu;rcases hu with rfl|rfl|rfl
 .exact hx
 .exact hy
 .exact hz
theorem Tab.ext {l:Addr}{H H':Hp}{p hh wd:Int}{t r:Addr}{rs:List Addr}(h:Tab H p hh wd t r rs)(b:Bag H l)(e:Ext l H H')(nt:t≠l)(nr:r≠l)(ns:l∉rs):Tab H' p hh wd t r rs:=
 ⟨e _ _ nt h.tup,e _ _ nr h.lst,h.len,λa ha=>(h.row a ha).ext b e (λz=>ns (z ▸ ha)),h.nin⟩
theorem Tab.wft {H:Hp}{p hh wd:Int}{t r:Addr}{rs:List Addr}(h:Tab H p hh wd t r rs)(h24:hh<=24)(w24:wd<=24):WfT H (.ref t):=
 wft_tup h.tup (by show 3<=1000;decide) (three (Zom fi) (Zom fi) (h.wfs h24 w24))
theorem NumO.is {H:Hp}{p:Int}{B:Nat}{v:V}(h:NumO H p B v):Zpa p H v=true:=by
 refine Zav h λx nv ix _=>?_;clear h;by_cases hp:p=0
 .refine Zad (nv.ref hp) λt e97 ht=>?_;obtain rfl:=e97;rw[Zsm hp,Zpo ht];rcases ix with ⟨_,lo⟩|⟨h,_⟩
  .have:=lo.1;rw[Jao (show 1<=x.2 by omega),Jao lo.2];rfl
  .omega
 .obtain rfl:=nv.int hp;rw[Zo9 hp];rcases ix with ⟨h,_⟩|⟨_,h1,h2,_⟩
  .exact absurd h hp
  .rw [Jao h1,Jao h2];rfl
theorem RowO.is {H:Hp}{p wd:Int}{B:Nat}{a:Addr}(h:RowO H p B wd a):Zqm p wd H (.ref a)=true:=by
 refine Zav h λxs h1 h2 h3=>?_;clear h;rw[Zrs h1,Jao h2,Jep];exact Jbn.mpr λx hx=>(h3 x hx).is
theorem Tab.is {H:Hp}{p hh wd:Int}{t r:Addr}{rs:List Addr}(h:Tab H p hh wd t r rs)(h0:0<=hh)(w0:0<=wd):tabB p H (.ref t)=true:=by
 rw[Zlx h.tup h.lst ∅ ∅,Jab,Jao h.len,Jep];exact Jbn.mpr λy hy=>by obtain⟨a,ha,rfl⟩:=Jar.mp hy;exact (h.row a ha).is
theorem Zcy {H:Hp}{n:Nat}{i:Int}:EqD K H n (.int i) (.int i) true:=by
 have:=EqD.flat (K:=K) (H:=H) (n:=n) (x:=.int i) (y:=.int i) rfl rfl;rwa [show eqV (.int i) (.int i)=true by simp[eqV]] at this
theorem Zru (n:Nat):(List.replicate n true).all id=true:=by simp
theorem Zn1 {H:Hp}{n:Nat}{a c:Addr}{xs ys:List V}(ha:H a=some (.lst xs))(hc:H c=some (.lst ys))(hl:xs.length=ys.length)(he:∀ (j:Nat) x y,xs[j]?=some x->ys[j]?=some y->EqD K H n x y true):EqD K H (n+1) (.ref a) (.ref c) true:=by
 by_cases h:a=c
 .subst h;exact EqD.same
 .have:=EqD.list (bs:=List.replicate xs.length true) h (SqL.of ha) (SqL.of hc) hl Jbd (λj x y b e1 e2 e3=>by
   rw[Jb1] at e3;split at e3
   .cases e3;exact he j x y e1 e2
   .cases e3)
  rwa [Zru] at this
theorem Zww {H:Hp}{n:Nat}{a c:Addr}{xs ys:List V}(ha:H a=some (.tup xs))(hc:H c=some (.tup ys))(hl:xs.length=ys.length)(he:∀ (j:Nat) x y,xs[j]?=some x->ys[j]?=some y->EqD K H n x y true):EqD K H (n+1) (.ref a) (.ref c) true:=by
 by_cases h:a=c
 .subst h;exact EqD.same
 .have:=EqD.tuple (bs:=List.replicate xs.length true) h (SqT.of ha) (SqT.of hc) hl Jbd (λj x y b e1 e2 e3=>by
   rw[Jb1] at e3;split at e3
   .cases e3;exact he j x y e1 e2
   .cases e3)
  rwa [Zru] at this
structure TabC (H:Hp)(p hh wd:Int)(t r:Addr)(rs:List Addr)(M:List (List V)):Prop where
 tab:Tab H p hh wd t r rs
 con:∀ (i:Nat) (a:Addr),rs[i]?=some a->H a=some (.lst (M.getD i []))
theorem TabC.same {H H':Hp}{p hh wd:Int}{t r:Addr}{rs:List Addr}{M:List (List V)}(h:TabC H p hh wd t r rs M)(s:Same H H'):TabC H' p hh wd t r rs M:=⟨h.tab.same s,λi a e=>s _ _ (h.con i a e)⟩
def Sizes (H:Hp)(z:Addr)(ns:List Int):Prop:=H z=some (.lst (ns.map V.int))/\ns.length<=8/\∀ n∈ns,0<=n/\n<=24
theorem Sizes.same {H H':Hp}{z:Addr}{ns:List Int}(h:Sizes H z ns)(s:Same H H'):Sizes H' z ns:=⟨s _ _ h.1,h.2⟩
def spSz (C:Addr):Sp:=λvs H Q _=>∃ (d z lp:Addr) (m:Int) (xs:List V) (ns:List Int),vs=[.ref d,.ref z]/\Zh9 C H d m lp xs/\Sizes H z ns/\(ns.length:Int)=m/\∀ H',Same H H'->Q (.bl true) H'
theorem ok_sz (F:Fun K "are_sizes" "are_sizes" Zgj f fd)(T:Txt K mg C G S)(Yab:Cal P w K mg base "is_whole" 1 Zha):FnOk P w K mg base CX0 2 f fd ["drawing","thing"] (spSz C):=by
 have nd:=Zh0.nd;refine F.ok Zh0 (λvs H Q E h=>?_) (λcdv A outer s H vs Q E hr h=>?_)
 .refine xE6_2 h λd z lp m xs ns e94 _=>?_;clear h;obtain rfl:=e94;rfl
 .refine Zm7 h λd z lp m xs ns e95 e96 e97 e98=>?_;clear h;obtain rfl:=e95;obtain⟨dx,hd,hlp⟩:=e96;obtain⟨hz,h8,hn⟩:=e97;obtain⟨hm,q⟩:=e98;refine⟨_,((@Za3 _ _ _ _ _ _ _ _ (PW.pt (Zdd (Zb7 (Zcb (Zba Zbb rfl T.n_isinstance Jb3 ((pvr 1)<&>((Zhl rfl T.n_list Jc6)<&>Zaa))))) (Zcz (Zal Zel (Zba Zas rfl T.n_len Jbf ((pvr 1)<&>Zaa)) (Zbs (pvr 0) rfl) (Zam _))))) (~~~Zek) Zao)<*>(~~~(Zba (Zdu rfl) rfl T.n_all Jfo ((Zax (own:=["size"]) (fr:=[]) rfl (Zbj (by kernel_rfl)) (Za6 (pv 1)) (λ_ _ _ _=>⟨(0<<<["size"]),Zau,(Zh6 (Yab<$>hr<$>((pv 0)<&>Zaa)) (Zh5 (Zdf Zu5 (pv 0) Zac (Zam _))))⟩))<&>Zaa)))),?_⟩;walk_at "wp";refine Zat _ _ ⟨⟨rfl,rfl⟩,_,rfl,_,.lst hz,true,Zdg K,Zgm ⇑0 ⟨_,.inl (SqL.of hz),C,dx,_,hd,T.cl_Drawing,T.nM,_,Zjw m lp,rfl,Zgm ?_ ⟨_,rfl,z,rfl,⟨_,SqL.of hz⟩,λD hD=>Zg2 (λ_=>true) hz hD (by rw[Jab];omega) (λk x H' Q' hx s' q'=>?_) λH' s' e'=>⟨D,rfl,_,SqL.of e',?_⟩⟩⟩⟩
  .rw [Jao (by rw[Jab,hm])];decide
  .rw [Jad] at hx;cases e:ns[k]? with
   | none=>rw[e] at hx;cases hx
   | some n=>
    rw[e] at hx;cases hx;have n0:=(hn n (Jae e)).1;refine⟨_,rfl,n,rfl,true,rfl,iteT ⟨_,rfl,_,_,rfl,rfl,?_⟩⟩;show Q' (V.bl (decide (0<=n))) H';rw[Jao n0];exact q' H' (Same.refl _)
  .rw [Zfp];exact q H' s'
def spTo (G:Addr):Sp:=λvs H Q _=>∃ (g t r:Addr) (p hh wd:Int) (rs:List Addr),vs=[.ref g,.int hh,.int wd,.ref t]/\GAt G H g p/\GroundP p/\Tab H p hh wd t r rs/\0<=hh/\hh<=24/\0<=wd/\wd<=24/\∀ H',Same H H'->Q (.bl true) H'
theorem ok_to (F:Fun K "is_table_of" "is_table_of" Zed f fd)(T:Txt K mg C G S)(Yah:Cal P w K mg base "is_table" 8 (Zrb G)):FnOk P w K mg base CX0 9 f fd ["ground","high","wide","thing"] (spTo G):=by
 have nd:=Zfw.nd;refine F.ok Zfw (λvs H Q E h=>?_) (λcdv A outer s H vs Q E hr h=>?_)
 .refine xE7_2 h λg t r p hh wd rs e99 _=>?_;clear h;obtain rfl:=e99;rfl
 .refine xE7_4 h λg t r p hh wd rs e910 hg hp e911=>?_;clear h;obtain rfl:=e910;refine Zf3 e911 λtb h0 h24 w0 w24 q=>?_;clear e911;refine⟨_,(~~~(Zh6 (Yah<$>hr<$>((pvr 0)<&>((pvr 3)<&>Zaa))) (Zh6 (Zdf Zcs ((Zph Zbc)<|>(pvr 3)<||>Zac) (pvr 1) (Zam _)) (Zh5 (Zdf Zcs ((Zph Zbc)<|>(pvr 3)<||>Zac) (pvr 2) (Zam _)))))),?_⟩;walk_at "wp";exact Zcm g p (.ref t) ⟨rfl,hg,hp,tb.wft h24 w24,λH1 s1=>⟨_,rfl,iteP (tb.is h0 w0) ⟨_,SqT.of (s1 _ _ tb.tup),_,rfl,rfl,iteP (Jao rfl) ⟨_,SqT.of (s1 _ _ tb.tup),_,rfl,rfl,by rw[Jao rfl];exact q H1 s1⟩⟩⟩⟩
theorem Zwz {cap:L2.St}{a b c:Option V}:Sh 3 cap (a::b::c::cap):=⟨[a,b,c],rfl,rfl⟩
theorem Zow {cap σ:L2.St}(h:Sh 3 cap σ):∃ a b c,σ=a::b::c::cap:=by
 refine Zad h λo h1 e912=>?_;clear h;obtain rfl:=e912
 match o,h1 with
 | [a,b,c],_=>exact⟨a,b,c,rfl⟩
theorem Zpv {ns:List Int}{i:Int}(h0:0<=i)(h1:i<ns.length):atI (ns.map V.int) i=some (.int (ns.getD i.toNat 0)):=by
 refine Zbx h0 ?_;rw[Jad,Jac,Jaa (show i.toNat<ns.length by exact oz77 h0 h1)];rfl
def spTs (C G:Addr):Sp:=λvs H Q _=>∃ (g d z l lp:Addr) (p m:Int) (xs:List V) (ps:List (Int×Int)) (ns:List Int) (ts:List Addr),vs=[.ref g,.ref d,.ref z,.ref l]/\GAt G H g p/\GroundP p/\Zh9 C H d m lp xs/\Prs H xs ps/\InP m ps/\ps.length<=9/\Sizes H z ns/\(ns.length:Int)=m /\
 H l=some (.lst (ts.map V.ref))/\ts.length=ps.length/\(∀ (i:Nat) t q,ts[i]?=some t->ps[i]?=some q->∃ r rs,Tab H p (ns.getD q.2.toNat 0) (ns.getD q.1.toNat 0) t r rs)/\∀ H',Same H H'->Q (.bl true) H'
theorem ok_ts (F:Fun K "are_tables" "are_tables" Zfb f fd)(T:Txt K mg C G S)(Yan:Cal P w K mg base "is_table_of" 9 (spTo G)):FnOk P w K mg base CX0 10 f fd ["ground","drawing","sizes","thing"] (spTs C G):=by
 have nd:=Zgw.nd;refine F.ok Zgw (λvs H Q E h=>?_) (λcdv A outer s H vs Q E hr h=>?_)
 .refine xE11_2 h λg d z l lp p m xs ps ns ts e913 _=>?_;clear h;obtain rfl:=e913;rfl
 .refine xE11_4 h λg d z l lp p m xs ps ns ts e914 hg hp e915=>?_;clear h;obtain rfl:=e914;refine Zwt e915 λe916 pr ip p9 hz hm hl hlen tb q=>?_;clear e915;obtain⟨dx,hd,hlp⟩:=e916;refine⟨_,((@Za3 _ _ _ _ _ _ _ _ (PW.pt (Zdd (Zb7 (Zcb (Zba Zbb rfl T.n_isinstance Jb3 ((pvr 3)<&>((Zhl rfl T.n_list Jc6)<&>Zaa))))) (Zcz (Zal Zel (Zba Zas rfl T.n_len Jbf ((pvr 3)<&>Zaa)) (Zba Zas rfl T.n_len Jbf ((Zbs (pvr 1) rfl)<&>Zaa)) (Zam _))))) (~~~Zek) Zao)<*>(~~~(Zba (Zdu rfl) rfl T.n_all Jfo ((Zax (own:=["tail","head","table"]) (fr:=[("ground",0),("sizes",2)]) rfl (Zbj (by kernel_rfl)) (Zh3 rfl T.n_zip ((Zff (pv 1) rfl)<&>((pv 3)<&>Zaa))) (λ_ _ _ _=>⟨(@Zde _ K rfl _ _ _ _ 2 rfl ((@Zde _ K rfl _ _ _ _ 2 rfl ((0<<<["tail","head","table","ground","sizes"])^^^((1<<<["tail","head","table","ground","sizes"])^^^(@Zaz _))) ⇑1 ⇑1)^^^((2<<<["tail","head","table","ground","sizes"])^^^(@Zaz _))) ⇑1 ⇑1),Zau,(Yan<$>hr<$>((pv 3)<&>(((Zds K rfl)<|>(pv 4)<||>(pv 1))<&>(((Zds K rfl)<|>(pv 4)<||>(pv 0))<&>((pv 2)<&>Zaa)))))⟩))<&>Zaa)))),?_⟩;walk_at "wp";have hxl:=pr.1;refine Zat _ _ ⟨⟨rfl,rfl⟩,_,rfl,_,.lst hl,true,Zdg K,Zgm ⇑0 ⟨_,.inl (SqL.of hl),C,dx,_,hd,T.cl_Drawing,T.nA,_,Zep m lp,lp,rfl,_,.inl (SqL.of hlp),Zgm ?_ ?_⟩⟩
  .rw [Jao (by rw[Jab];omega)];decide
  .refine ⟨_,rfl,d,C,dx,_,_,rfl,hd,T.cl_Drawing,T.nA,Zep m lp,_,rfl,lp,l,rfl,⟨_,SqL.of hlp⟩,⟨_,SqL.of hl⟩,λD hD=>?_⟩;refine Zlo (k:=3) (xs:=xs) (ys:=ts.map V.ref) (λi vs H'=>Same H H'/\H' D=some (.lst vs)/\vs=((List.range i).map λ_=>true).map V.bl) (by rw[Jab];exact oz25 hlen hxl) ⟨Same.new hD,Zab,rfl⟩ (λi vs H' _ pv=>⟨SqL.of (pv.1 _ _ hlp),SqL.of (pv.1 _ _ hl)⟩) ?_ ?_
   .intro i x y pz vs σ' H' hi hx hy hpz sh e91;refine Za2 e91 λs' e' e917=>?_;clear e91;obtain rfl:=e917;refine xE3_1 (Zow sh) λz1 z2 z3 e918=>?_;obtain rfl:=e918;have hi':i<ps.length:=by exact oz9 hxl hi
    have hq:ps[i]?=some ps[i]:=Jaa hi';refine Zad (pr.2 i x _ hx hq) λta e919 hta=>?_;obtain rfl:=e919;have hti:ts[i]?=some (ts[i]'(oz69 hlen hxl hi)):=Jaa (oz69 hlen hxl hi);rw[Jad,hti] at hy;cases hy;refine Zdl (tb i _ _ hti hq) λr rs tb1=>?_;refine Zb0 (ip _ (Jae hq)) λi0 i1 j0 j1=>?_;have s0:=s'.trans (Same.new (o:=.tup [V.ref ta,V.ref (ts[i]'(Zc4 hlen hi'))]) hpz);have hz0:=hz.same s0;have a1:=Zpv (ns:=ns) i0 (oz72 hm i1);have a2:=Zpv (ns:=ns) j0 (oz72 hm j1);have b1:=hz.2.2 (ns.getD ps[i].1.toNat 0) (by rw[Jac,Jaa (show ps[i].1.toNat<ns.length by exact oz88 hm i0 i1)];exact Jap _);have b2:=hz.2.2 (ns.getD ps[i].2.toNat 0) (by rw[Jac,Jaa (show ps[i].2.toNat<ns.length by exact oz88 hm j0 j1)];exact Jap _);refine Zat pz _ ⟨rfl,SqT.of Zab,rfl,_,_,rfl,ta,_,rfl,SqT.of (s0 _ _ hta),rfl,_,_,rfl,_,_,rfl,rfl,_,_,rfl,rfl,?_⟩;simp only[Zfr,List.set_cons_zero,List.set_cons_succ,Jc1];refine⟨_,rfl,_,rfl,_,rfl,z,_,_,_,rfl,rfl,SqL.of hz0.1,a2,_,rfl,_,rfl,z,_,_,_,rfl,rfl,SqL.of hz0.1,a1,_,rfl,g,_,r,p,_,_,rs,rfl,hg.same s0,hp,tb1.same s0,b2.1,b2.2,b1.1,b1.2,λH'' s''=>?_⟩;have s1:=(Same.new (o:=.tup [V.ref ta,V.ref (ts[i]'(Zc4 hlen hi'))]) hpz).trans s'';exact Zn2 (ws:=((List.range (i+1)).map λ_=>true).map V.bl) hi Zwz (s1 _ _ e') (Zap (by rw[Jab,Jab,Jat];omega)) ⟨(s'.trans s1).upd hD,by rw[Zab,Jcj,Ja2,Ja2];rfl,rfl⟩
   .intro vs H' e92;refine Za2 e92 λs' e' e920=>?_;clear e92;obtain rfl:=e920;exact⟨D,rfl,_,SqL.of e',by rw[Zfp];exact q H' s'⟩
def TabF (H0 H:Hp)(p hh wd:Int)(t:Addr)(M:List (List V)):Prop:=∃ r rs,TabC H p hh wd t r rs M/\H0 t=none/\H0 r=none/\∀ a∈rs,H0 a=none
def Tbs (H:Hp)(p:Int)(l:Addr)(ts:List Addr)(cs:List (Int×Int×List (List V))):Prop:=H l=some (.lst (ts.map V.ref))/\ts.length=cs.length/\cs.length<=9/\∀ (i:Nat) t c,ts[i]?=some t->cs[i]?=some c->(∃ r rs,TabC H p c.1 c.2.1 t r rs c.2.2)/\0<=c.1/\c.1<=24/\0<=c.2.1/\c.2.1<=24
theorem TabC.put {H:Hp}{p hh wd:Int}{t r D:Addr}{rs:List Addr}{M:List (List V)}{l:List V}{o:HO}(h:TabC H p hh wd t r rs M)(hD:H D=some (.lst l))(nr:r≠D)(ns:D∉rs):TabC (upd H D o) p hh wd t r rs M:=by
 have nt:t≠D:=Zez h.tab.tup hD (by intro z;cases z);have na:∀ a∈rs,a≠D:=λa ha z=>ns (z ▸ ha);exact⟨⟨by rw[Zag nt];exact h.tab.tup,by rw[Zag nr];exact h.tab.lst,h.tab.len,λa ha=>(h.tab.row a ha).put hD (na a ha),h.tab.nin⟩,λi a e=>by rw[Zag (na a (Jae e))];exact h.con i a e⟩
abbrev teRow (K:Frag):TE:=tCB (λxs H Q=>∃ p,xs=[V.ref p]/\∃ x,(SqL K H p x\/SqT K H p x)/\∀ (l:Addr),H l=none->Q (V.ref l) (upd H l (HO.lst x))) (Ze1 (Zhn 0) Zq5)
abbrev teTab (K:Frag):TE:=tTup (Ze1 (Zhn 0) (Ze1 (Zhn 1) (Ze1 (tComp 1 [] (Zs9 K (Zhn 2)) (Zbq 0) Zfr (teRow K)) Zq5)))
theorem Ztn {r D:Addr}{rs:List Addr}{M:List (List V)}{fr:List (Str×Nat)}{σ:L2.St}{H1:Hp}{Q:VK}(hr:H1 r=some (.lst (rs.map V.ref)))(hc:∀ (i:Nat) (a:Addr),rs[i]?=some a->H1 a=some (.lst (M.getD i [])))(hn:rs.length<=100)(hD:H1 D=none)(hQ:∀ (rs':List Addr) H',Same H1 H'->H' D=some (.lst (rs'.map V.ref))->rs'.length=rs.length->(∀ (i:Nat) (a:Addr),rs'[i]?=some a->H' a=some (.lst (M.getD i [])))->(∀ a∈rs',H1 a=none/\a≠D)->rs'.Nodup->Q (.ref D) H'):
  Zb6 (Zbq 0) Zfr (teRow K) (Itl K r) D (Zg7 1 fr σ) H1 Q:=by
 refine Zio (xs:=rs.map V.ref) (λi vs H=>∃ rs':List Addr,vs=rs'.map V.ref/\Same H1 H/\H D=some (.lst vs)/\rs'.length=i/\(∀ (j:Nat) (a:Addr),rs'[j]?=some a->H a=some (.lst (M.getD j [])))/\(∀ a∈rs',H1 a=none/\a≠D)/\rs'.Nodup)
  ⟨[],rfl,Same.new hD,Zab,rfl,λj a e=>by simp at e,(λa ha=>by simp at ha),List.nodup_nil⟩ (λi vs H _ ⟨_,_,s,_⟩=>SqL.of (s _ _ hr)) ?_ (λvs H ⟨rs',hv,s,e,hl,hc',fr',nd'⟩=>hQ rs' H s (hv ▸ e) (by rw[hl,Jab]) hc' fr' nd')
 intro i x vs σ' H hi hx sh e91;refine Zqt e91 λrs' e93 s e hl hc' e94=>?_;clear e91;obtain rfl:=e93;obtain⟨fr',nd'⟩:=e94;obtain⟨z,rfl⟩:=sh.one;rw[Jab] at hi;rw[Zpl hi] at hx;cases hx;have ha:=s _ _ (hc i _ (Jaa hi));simp only[Ze0,Zbq,Zfr,List.set_cons_zero,Jc1];refine⟨_,rfl,_,rfl,_,.inl (SqL.of ha),λc hc0=>?_⟩;have nDc:D≠c:=Zaf e hc0;have hDc:(upd H c (.lst (M.getD i []))) D=some (.lst (rs'.map V.ref)):=by rw[Zag nDc];exact e
 have sc:=s.trans (Same.new (o:=.lst (M.getD i [])) hc0);refine Zn2 (ws:=rs'.map V.ref++[.ref c]) (by rw[Jab];exact hi) Sh.mk1 hDc (Zap (by rw[Jab];omega)) ⟨rs'++[c],Za5 _ _,sc.upd hD,by rw[Zab,Za5],by rw[Jah,hl];rfl,λj a ej=>?_,λa ha=>?_,?_⟩
 .by_cases hj:j<rs'.length
  .rw [Jay hj] at ej;have:=hc' j a ej;have naD:=(fr' a (Jae ej)).2;rw[Zag naD,Zag (Zaf this hc0)];exact this
  .rw [Jav (Zmd hj)] at ej;have hj0:j-rs'.length=0:=by
    by_cases z:j-rs'.length=0
    .exact z
    .rw [Jaj (by simp;exact oz10 z)] at ej;cases ej
   rw[hj0] at ej;cases ej;rw[Zag nDc.symm,Zab,show j=i by exact oz8 hl hj hj0]
 .rcases Jal.mp ha with ha|ha
  .exact fr' a ha
  .rw [Jas.mp ha];exact⟨s.free hc0,nDc.symm⟩
 .refine Jed.mpr ⟨nd',by simp,λa ha b hb z=>?_⟩;rw[Jas.mp hb] at z;subst z;obtain⟨j,hj,rfl⟩:=Jan.mp ha;have:=hc' j _ (Jaa hj);rw[hc0] at this;cases this
def Sep (H:Hp)(D:Addr)(ts:List Addr):Prop:=∃ rr:List (Addr×List Addr),rr.length=ts.length/\(∀ (i:Nat) t x,ts[i]?=some t->rr[i]?=some x->(∃ h w:V,H t=some (.tup [h,w,.ref x.1]))/\H x.1=some (.lst (x.2.map V.ref)))/\(∀ x∈rr,x.1≠D/\D∉x.2)/\(∀ x∈rr,∀ y∈rr,x.1∉y.2)/\(rr.map (·.2)).flatten.Nodup
theorem Zmv {l D:Addr}{p:Int}{ts:List Addr}{cs:List (Int×Int×List (List V))}{fr:List (Str×Nat)}{σ:L2.St}{H1:Hp}{Q:VK}(hT:Tbs H1 p l ts cs)(hD:H1 D=none)(hQ:∀ (ts':List Addr) H',Same H1 H'->H' D=some (.lst (ts'.map V.ref))->ts'.length=cs.length->(∀ (i:Nat) t c,ts'[i]?=some t->cs[i]?=some c->TabF H1 H' p c.1 c.2.1 t c.2.2)->Sep H' D ts'->Q (.ref D) H'):
  Zb6 (Zt6 K 3 (Zie (Zbq 0) (Zie (Zbq 1) (Zie (Zbq 2) Zxd)))) Zfr (teTab K) (Itl K l) D (Zg7 3 fr σ) H1 Q:=by
 refine Zb0 hT λhl hlen h9 hc=>?_;clear hT;refine Zio (k:=3) (xs:=ts.map V.ref) (λi vs H=>∃ (ts':List Addr) (rr:List (Addr×List Addr)),vs=ts'.map V.ref/\Same H1 H/\H D=some (.lst vs)/\ts'.length=i/\rr.length=i/\((∀ x∈rr,∀ y∈rr,x.1∉y.2)/\(rr.map (·.2)).flatten.Nodup)/\(∀ x∈rr,x.1≠D/\D∉x.2/\(∃ o,H x.1=some o)/\∀ a∈x.2,∃ o,H a=some o)/\∀ (j:Nat) t c x,ts'[j]?=some t->cs[j]?=some c->rr[j]?=some x->TabC H p c.1 c.2.1 t x.1 x.2 c.2.2/\H1 t=none/\H1 x.1=none/\∀ a∈x.2,H1 a=none)
  ⟨[],[],rfl,Same.new hD,Zab,rfl,rfl,⟨by simp,by simp⟩,by simp,λj t c x e=>by simp at e⟩ (λi vs H _ ⟨_,_,_,s,_⟩=>SqL.of (s _ _ hl)) ?_ (λvs H ⟨ts',rr,hv,s,e,hl',hrr,sp,sD,hc'⟩=>?_)
 rotate_left
 .have hrl:rr.length=ts'.length:=by exact oz19 hl' hrr
  have htl:ts'.length=cs.length:=by rw[hl',Jab,hlen]
  refine hQ ts' H s (hv ▸ e) htl (λi t c e1 e2=>?_) ⟨rr,hrl,λi t x e1 e2=>?_,λx hx=>⟨(sD x hx).1,(sD x hx).2.1⟩,sp⟩
  .have hi:i<rr.length:=by have:=(Jaf.mp e1).1;exact oz31 hl' hrr this
   refine Zb0 (hc' i t c _ e1 e2 (Jaa hi)) λa1 a2 a3 a4=>?_;exact Zat _ _ ⟨a1,a2,a3,a4⟩
  .have hi:i<cs.length:=by have:=(Jaf.mp e1).1;exact oz9 htl this
   obtain⟨a1,_⟩:=hc' i t _ x e1 (Jaa hi) e2;exact⟨⟨_,_,a1.tab.tup⟩,a1.tab.lst⟩
 intro i x vs σ' H hi hx sh e92;refine Zis e92 λts' rr e95 s e hl' hrr e96=>?_;clear e92;obtain rfl:=e95;refine Za2 e96 λsp sD hc'=>?_;clear e96;refine xE3_1 (Zow sh) λz1 z2 z3 e97=>?_;obtain rfl:=e97;rw[Jab] at hi;rw[Zpl hi] at hx;cases hx;have hci:cs[i]?=some (cs[i]'(oz9 hlen hi)):=Jaa (oz9 hlen hi);refine Zcf (hc i _ _ (Jaa hi) hci) λe98 c0 c24 w0 w24=>?_;obtain⟨r,rs,tc⟩:=e98;have tcH:=tc.same s;have hrl:=tc.tab.len;refine Zat _ _ ⟨rfl,SqT.of tcH.tab.tup,rfl,_,_,rfl,_,_,rfl,_,_,rfl,rfl,?_⟩;simp only[Zfr,List.set_cons_zero,List.set_cons_succ,Jc1];refine⟨_,rfl,_,rfl,_,rfl,r,rfl,⟨_,SqL.of tcH.tab.lst⟩,λD2 hD2=>Ztn (M:=(cs[i]'(oz9 hlen hi)).2.2) tcH.tab.lst tcH.con ∅ hD2 λrs' H' s' hD2' hl2 hc2 fr2 nd2=>?_⟩;refine⟨by show 3<=sizeLine;decide,λpt hpt=>?_⟩;have s0:=Same.new (o:=.tup [V.int (cs[i]'(oz9 hlen hi)).1,V.int (cs[i]'(oz9 hlen hi)).2.1,V.ref D2]) hpt;have s1:=s'.trans s0;have sA:=s.trans s1;have hDpt:=s1 _ _ e;have nDp:D≠pt:=Zaf (s' _ _ e) hpt;have nD2:D2≠D:=λz=>by rw[z,e] at hD2;cases hD2
 have nDr:D∉rs':=λz=>by have:=(fr2 D z).1;rw[e] at this;cases this
 have tcN:TabC (upd H' pt (.tup [V.int (cs[i]'(oz9 hlen hi)).1,V.int (cs[i]'(oz9 hlen hi)).2.1,V.ref D2])) p (cs[i]'(oz9 hlen hi)).1 (cs[i]'(oz9 hlen hi)).2.1 pt D2 rs' (cs[i]'(oz9 hlen hi)).2.2:=by
  refine⟨⟨Zab,s0 _ _ hD2',∅,λa ha=>?_,λz=>(fr2 D2 z).2 rfl⟩,λj a ej=>s0 _ _ (hc2 j a ej)⟩;obtain⟨j,hj,rfl⟩:=Jan.mp ha;have hj':j<rs.length:=by exact oz9 hl2 hj
  refine Zav (tcH.tab.row rs[j] (Jap hj')) λys hy hyl hyn=>?_;rw[tcH.con j _ (Jaa hj')] at hy;cases hy;exact⟨_,s0 _ _ (hc2 j _ (Jaa hj)),hyl,λy hy=>(hyn y hy).same s1⟩
 have sep':∀ x∈rr++[(D2,rs')],∀ y∈rr++[(D2,rs')],x.1∉y.2:=λx hx y hy z=>by
  rcases Jal.mp hx with hx|hx <;> rcases Jal.mp hy with hy|hy
  .exact sp.1 x hx y hy z
  .rw [Jas.mp hy] at z;obtain⟨o,ho⟩:=(sD x hx).2.2.1;have:=(fr2 x.1 z).1;rw[ho] at this;cases this
  .rw [Jas.mp hx] at z;obtain⟨o,ho⟩:=(sD y hy).2.2.2 _ z;rw[hD2] at ho;cases ho
  .rw [Jas.mp hx,Jas.mp hy] at z;exact (fr2 D2 z).2 rfl
 have nodup':((rr++[(D2,rs')]).map (·.2)).flatten.Nodup:=by
  rw[Ja2,List.flatten_append];refine Jed.mpr ⟨sp.2,by simpa using nd2,λa ha b hb z=>?_⟩;subst z;refine Zad (List.mem_flatten.mp ha) λu hu hau=>?_;refine Zad (Jar.mp hu) λy hy e99=>?_;obtain rfl:=e99;obtain⟨o,ho⟩:=(sD y hy).2.2.2 a hau;have:=(fr2 a (by simpa using hb)).1;rw[ho] at this;cases this
 refine Zn2 (ws:=ts'.map V.ref++[.ref pt]) (by rw[Jab];exact hi) Zwz hDpt (Zap (by rw[Jab];omega)) ⟨ts'++[pt],rr++[(D2,rs')],Za5 _ _,sA.upd hD,by rw[Zab,Za5],by rw[Jah,hl'];rfl,by rw[Jah,hrr];rfl,⟨sep',nodup'⟩,λx hx=>?_,λj t c x e1 e2 e3=>?_⟩
 .have keep:∀ b o,b≠D->(upd H' pt (.tup [V.int (cs[i]'(oz9 hlen hi)).1,V.int (cs[i]'(oz9 hlen hi)).2.1,V.ref D2])) b=some o->∀ o',(upd (upd H' pt (.tup [V.int (cs[i]'(oz9 hlen hi)).1,V.int (cs[i]'(oz9 hlen hi)).2.1,V.ref D2])) D o') b=some o:=λb o nb h o'=>by rw[Zag nb];exact h
  rcases Jal.mp hx with hx|hx
  .refine Zb0 (sD x hx) λx1 x2 e910 x4=>?_;obtain⟨o,ho⟩:=e910;refine⟨x1,x2,⟨o,keep _ _ x1 (s1 _ _ ho) _⟩,λa ha=>?_⟩;obtain⟨o,ho⟩:=x4 a ha;exact⟨o,keep _ _ (λz=>x2 (z ▸ ha)) (s1 _ _ ho) _⟩
  .rw [Jas.mp hx];refine⟨nD2,nDr,⟨_,keep _ _ nD2 tcN.tab.lst _⟩,λa ha=>?_⟩;refine Zad (tcN.tab.row a ha) λys hy _=>?_;exact⟨_,keep _ _ (λz=>nDr (z ▸ ha)) hy _⟩
 by_cases hj:j<ts'.length
 .rw [Jay hj] at e1;rw[Jay (oz31 hl' hrr hj)] at e3;refine Zb0 (hc' j t c x e1 e2 e3) λa1 a2 a3 a4=>?_;refine Za2 (sD x (Jae e3)) λa5 a6 _=>?_;exact⟨(a1.same s1).put hDpt a5 a6,a2,a3,a4⟩
 .rw [Jav (Zmd hj)] at e1;rw[Jav ∅] at e3;have hj0:j-ts'.length=0:=by
   by_cases z:j-ts'.length=0
   .exact z
   .rw [Jaj (by simp;exact oz10 z)] at e1;cases e1
  rw[show j-rr.length=0 by exact oz21 hl' hrr hj0] at e3;rw[hj0] at e1;cases e1;cases e3;have hji:j=i:=by exact oz8 hl' hj hj0
  subst hji;rw[hci] at e2;cases e2;exact⟨tcN.put hDpt nD2 nDr,(s.trans s').free hpt,s.free hD2,λa ha=>s.free (fr2 a ha).1⟩
def Zos:Sp:=λvs H Q _=>∃ (l:Addr) (p:Int) (ts:List Addr) (cs:List (Int×Int×List (List V))),vs=[.ref l]/\Tbs H p l ts cs/\∀ (l':Addr) (ts':List Addr) (H':Hp),Same H H'->H l'=none->H' l'=some (.lst (ts'.map V.ref))->ts'.length=cs.length->(∀ (i:Nat) t c,ts'[i]?=some t->cs[i]?=some c->TabF H H' p c.1 c.2.1 t c.2.2)->Sep H' l' ts'->Q (.ref l') H'
theorem ok_lent (F:Fun K "_law_lent" "_law_lent" Zhd f fd)(T:Txt K mg C G S):FnOk P w K mg base CX0 1 f fd ["_law_tables_here"] Zos:=by
 have nd:=Zi3.nd;refine F.ok Zi3 (λvs H Q E h=>?_) (λcdv A outer s H vs Q E hr h=>?_)
 .refine Zk0 h λl p ts cs e911 _=>?_;clear h;obtain rfl:=e911;rfl
 .refine xE4_3 h λl p ts cs e912 hT q=>?_;clear h;obtain rfl:=e912;refine⟨_,(~~~(Zax (own:=["_law_high","_law_wide","_law_rows"]) (fr:=[]) rfl (Zbj (by kernel_rfl)) (Za6 (pv 0)) (λ_ _ _ _=>⟨(@Zde _ K rfl _ _ _ _ 3 rfl ((0<<<["_law_high","_law_wide","_law_rows"])^^^((1<<<["_law_high","_law_wide","_law_rows"])^^^((2<<<["_law_high","_law_wide","_law_rows"])^^^(@Zaz _)))) ⇑1 ⇑1),Zau,(@Zar _ _ _ _ _ ((pv 0)<&>((pv 1)<&>((Zax (own:=["_law_row"]) (fr:=[]) rfl (Zbj (by kernel_rfl)) (Zgx K rfl (pv 2)) (λ_ _ _ _=>⟨(0<<<["_law_row"]),Zau,(Zid (Zg4 K rfl) rfl T.n_list Jc6 ((pv 0)<&>Zaa))⟩))<&>Zaa))))⟩))),?_⟩;walk_at "wp";exact⟨_,rfl,l,rfl,⟨_,SqL.of hT.1⟩,λD hD=>Zmv hT hD λts' H' s' hD' hl' ht' sp=>q D ts' H' s' hD hD' hl' ht' sp⟩
theorem NumO.extI {x C0 dx:Addr}{fs:List (Str×V)}{H H':Hp}{p:Int}{B:Nat}{v:V}(h:NumO H p B v)(hx:H x=some (.ins C0 dx fs))(e:Ext x H H'):NumO H' p B v:=by
 refine Zav h λy nv b c=>?_;clear h;refine⟨y,?_,b,c⟩;by_cases hp:p=0
 .refine Zad (nv.ref hp) λt e913 ht=>?_;obtain rfl:=e913;exact NumV.tup hp (e _ _ (Zez ht hx (by intro z;cases z)) ht)
 .obtain rfl:=nv.int hp;exact NumV.of hp
theorem TabC.extI {x C0 dx:Addr}{fs:List (Str×V)}{H H':Hp}{p hh wd:Int}{t r:Addr}{rs:List Addr}{M:List (List V)}(h:TabC H p hh wd t r rs M)(hx:H x=some (.ins C0 dx fs))(e:Ext x H H'):TabC H' p hh wd t r rs M:=by
 refine⟨⟨e _ _ (Zez h.tab.tup hx (by intro z;cases z)) h.tab.tup,e _ _ (Zez h.tab.lst hx (by intro z;cases z)) h.tab.lst,h.tab.len,λa ha=>?_,h.tab.nin⟩,λi a ei=>e _ _ (Zez (h.con i a ei) hx (by intro z;cases z)) (h.con i a ei)⟩;refine Zav (h.tab.row a ha) λys h1 h2 h3=>?_;exact⟨ys,e _ _ (Zez h1 hx (by intro z;cases z)) h1,h2,λy hy=>(h3 y hy).extI hx e⟩
theorem Tbs.extI {x C0 dx:Addr}{fs:List (Str×V)}{H H':Hp}{p:Int}{l:Addr}{ts:List Addr}{cs:List (Int×Int×List (List V))}(h:Tbs H p l ts cs)(hx:H x=some (.ins C0 dx fs))(e:Ext x H H'):Tbs H' p l ts cs:=
 ⟨e _ _ (Zez h.1 hx (by intro z;cases z)) h.1,h.2.1,h.2.2.1,λi t c e1 e2=>let ⟨⟨r,rs,a⟩,b⟩:=h.2.2.2 i t c e1 e2;⟨⟨r,rs,a.extI hx e⟩,b⟩⟩
theorem Tbs.same {H H':Hp}{p:Int}{l:Addr}{ts:List Addr}{cs:List (Int×Int×List (List V))}(h:Tbs H p l ts cs)(s:Same H H'):Tbs H' p l ts cs:=
 ⟨s _ _ h.1,h.2.1,h.2.2.1,λi t c e1 e2=>let ⟨⟨r,rs,a⟩,b⟩:=h.2.2.2 i t c e1 e2;⟨⟨r,rs,a.same s⟩,b⟩⟩
def Zgq (g d z l:Addr):List (Str×V):=Zcv "tables" (.ref l) (Zcv "sizes" (.ref z) (Zcv "drawing" (.ref d) (Zcv "ground" (.ref g) [])))
theorem Zgr (g d z l:Addr):(Zgq g d z l).lookup ("tables" : Str)=some (.ref l):=by unfold Zgq;rw[Za1,if_pos rfl]
theorem Zij (g d z l:Addr):(Zgq g d z l).lookup ("sizes" : Str)=some (.ref z):=by unfold Zgq;rw[Za1,if_neg ⋯,Za1,if_pos rfl]
theorem Zd6 (g d z l:Addr):(Zgq g d z l).lookup ("drawing" : Str)=some (.ref d):=by unfold Zgq;rw[Za1,if_neg ⋯,Za1,if_neg ⋯,Za1,if_pos rfl]
theorem Zgs (g d z l:Addr):(Zgq g d z l).lookup ("ground" : Str)=some (.ref g):=by unfold Zgq;rw[Za1,if_neg ⋯,Za1,if_neg ⋯,Za1,if_neg ⋯,Za1,if_pos rfl]
def Fits (ns:List Int)(cs:List (Int×Int×List (List V)))(ps:List (Int×Int)):Prop:=cs.length=ps.length/\∀ (i:Nat) c q,cs[i]?=some c->ps[i]?=some q->c.1=ns.getD q.2.toNat 0/\c.2.1=ns.getD q.1.toNat 0
def spSI (S C G:Addr):Sp:=λvs H Q _=>∃ (x dx g d z l lp:Addr) (p m:Int) (xs:List V) (ps:List (Int×Int)) (ns:List Int) (ts:List Addr) (cs:List (Int×Int×List (List V))),vs=[.ref x,.ref g,.ref d,.ref z,.ref l]/\H x=some (.ins S dx [])/\GAt G H g p/\GroundP p /\
 Zh9 C H d m lp xs/\Prs H xs ps/\InP m ps/\ps.length<=9/\Sizes H z ns/\(ns.length:Int)=m/\Tbs H p l ts cs/\Fits ns cs ps /\
 ∀ (z' l':Addr) (ts':List Addr) (H':Hp),Ext x H H'->H' x=some (.ins S dx (Zgq g d z' l'))->H z'=none->H l'=none->Sizes H' z' ns->H' l'=some (.lst (ts'.map V.ref))->ts'.length=cs.length->(∀ (i:Nat) t c,ts'[i]?=some t->cs[i]?=some c->TabF H H' p c.1 c.2.1 t c.2.2)->Q .non H'
theorem Zu9 (F:Fun K "__init__" "Standing.__init__" Zdc f fd)(T:Txt K mg C G S)(Ybi:Cal P w K mg base "are_sizes" 2 (spSz C))(Ybb:Cal P w K mg base "are_tables" 10 (spTs C G)):FnOk P w K mg base CX0 11 f fd ["self","ground","drawing","sizes","tables"] (spSI S C G):=by
 have nd:=Zev.nd;refine F.ok Zev (λvs H Q E h=>?_) (λcdv A outer s H vs Q E hr h=>?_)
 .refine Zol h λx dx g d z l lp p m xs ps ns ts cs e914 _=>?_;clear h;obtain rfl:=e914;rfl
 .refine Zws h λx dx g d z l lp p m xs ps ns ts cs e915 hx hg e916=>?_;clear h;obtain rfl:=e915;refine Zwt e916 λhp hd pr ip p9 hz hm hT ft q=>?_;clear e916;refine⟨_,((@Za3 _ _ _ _ _ _ _ _ (PW.pt (Zdd (Zb7 (Zcb (Ybi<$>hr<$>((pvr 2)<&>((pvr 3)<&>Zaa))))) (Zcz (Zb7 (Zcb (Ybb<$>hr<$>((pvr 1)<&>((pvr 2)<&>((pvr 3)<&>((pvr 4)<&>Zaa)))))))))) (@Zan _ _ _ Zc3) Zao)<*>((Zjo (pvr 0) (pvr 1) rfl)<*>((Zjo (pvr 0) (pvr 2) rfl)<*>((Zjo (pvr 0) (Zid Zcl rfl T.n_list Jc6 ((pvr 3)<&>Zaa)) rfl)<*>(@Zan _ _ _ (Zjo (pvr 0) (Zax (own:=["high","wide","rows"]) (fr:=[]) rfl (Zbj (by kernel_rfl)) (Za6 (pv 4)) (λ_ _ _ _=>⟨(@Zde _ K rfl _ _ _ _ 3 rfl ((0<<<["high","wide","rows"])^^^((1<<<["high","wide","rows"])^^^((2<<<["high","wide","rows"])^^^(@Zaz _)))) ⇑1 ⇑1),Zau,(@Zar _ _ _ _ _ ((pv 0)<&>((pv 1)<&>((Zax (own:=["row"]) (fr:=[]) rfl (Zbj (by kernel_rfl)) (Zgx K rfl (pv 2)) (λ_ _ _ _=>⟨(0<<<["row"]),Zau,(Zid (Zg4 K rfl) rfl T.n_list Jc6 ((pv 0)<&>Zaa))⟩))<&>Zaa))))⟩)) rfl)))))),?_⟩;walk_at "wp";refine Zpy d z lp m xs ns ⟨rfl,hd,hz,hm,λH1 s1=>⟨true,rfl,Zgm ⇑0 ?_⟩⟩;have hT1:=hT;refine Zb0 hT λhl hlen h9 hc=>?_;clear hT;refine Zad hd λdxd hd1 hd2=>?_;clear hd;refine xI11_1 g d z l lp p m xs ps ns ts ⟨rfl,hg.same s1,hp,⟨dxd,s1 _ _ hd1,s1 _ _ hd2⟩,pr.same s1,ip,p9,hz.same s1,hm,s1 _ _ hl,by rw[hlen,ft.1],λi t q' e1 e2=>?_,λH2 s2=>⟨true,rfl,Zgm ⇑0 ?_⟩⟩
  .have hi:i<ps.length:=(Jaf.mp e2).1;have hci:cs[i]?=some (cs[i]'(by have:=ft.1;exact Zm6 hi this)):=Jaa _;obtain⟨⟨r,rs,tc⟩,_⟩:=hc i t _ e1 hci;obtain⟨f1,f2⟩:=ft.2 i _ _ hci e2;rw[<- f1,<- f2];exact⟨r,rs,tc.tab.same s1⟩
  .have s12:=s1.trans s2;have hx2:=s12 _ _ hx;have nzx:z≠x:=Zez hz.1 hx (by intro w;cases w);refine Zcm S dx [] ⟨hx2,T.cl_Standing,T.nSg,by show 0<1000;decide,S,dx,_,Zab,T.cl_Standing,T.nSd,by have l1:=Zcj "ground" (.ref g) [];simp at l1;omega,_,.inl (SqL.of (by rw[Zag nzx,Zag nzx];exact s12 _ _ hz.1)),λl1 hl1=>?_⟩;have nxl:x≠l1:=Zaf Zab hl1;have f1:H l1=none:=by
    rw[Zag nxl.symm,Zag nxl.symm] at hl1;exact s12.free hl1
   have g1:=Zcj "ground" (.ref g) [];have g2:=Zcj "drawing" (.ref d) (Zcv "ground" (.ref g) []);have g3:=Zcj "sizes" (.ref l1) (Zcv "drawing" (.ref d) (Zcv "ground" (.ref g) []));simp only[Jdq] at g1;refine Zcm S dx _ ⟨by rw[Zag nxl];exact Zab,T.cl_Standing,T.nSs,∅,?_⟩;have e6:Ext x H (upd (upd (upd (upd H2 x (.ins S dx (Zcv "ground" (.ref g) []))) x (.ins S dx (Zcv "drawing" (.ref d) (Zcv "ground" (.ref g) [])))) l1 (.lst (ns.map V.int))) x (.ins S dx (Zcv "sizes" (.ref l1) (Zcv "drawing" (.ref d) (Zcv "ground" (.ref g) []))))):=λb o nb eb=>by
    rw[Zag nb,Zag (Zaf eb f1),Zag nb,Zag nb];exact s12 _ _ eb
   have hx6:(upd (upd (upd (upd H2 x (.ins S dx (Zcv "ground" (.ref g) []))) x (.ins S dx (Zcv "drawing" (.ref d) (Zcv "ground" (.ref g) [])))) l1 (.lst (ns.map V.int))) x (.ins S dx (Zcv "sizes" (.ref l1) (Zcv "drawing" (.ref d) (Zcv "ground" (.ref g) []))))) x=some (.ins S dx (Zcv "sizes" (.ref l1) (Zcv "drawing" (.ref d) (Zcv "ground" (.ref g) [])))):=Zab;have hl6:(upd (upd (upd (upd H2 x (.ins S dx (Zcv "ground" (.ref g) []))) x (.ins S dx (Zcv "drawing" (.ref d) (Zcv "ground" (.ref g) [])))) l1 (.lst (ns.map V.int))) x (.ins S dx (Zcv "sizes" (.ref l1) (Zcv "drawing" (.ref d) (Zcv "ground" (.ref g) []))))) l1=some (.lst (ns.map V.int)):=by rw[Zag nxl.symm];exact Zab
   generalize upd (upd (upd (upd H2 x (.ins S dx (Zcv "ground" (.ref g) []))) x (.ins S dx (Zcv "drawing" (.ref d) (Zcv "ground" (.ref g) [])))) l1 (.lst (ns.map V.int))) x (.ins S dx (Zcv "sizes" (.ref l1) (Zcv "drawing" (.ref d) (Zcv "ground" (.ref g) []))))=H6 at *;have fr6:∀ b,H6 b=none->H b=none:=λb hb=>by
    cases eb:H b with
    | none=>rfl
    | some o=>
     by_cases nb:b=x
     .rw [nb,hx6] at hb;cases hb
     .rw [e6 b o nb eb] at hb;cases hb
   have hT6:=hT1.extI hx e6;refine⟨_,rfl,l,rfl,⟨_,SqL.of hT6.1⟩,λD hD=>Zmv hT6 hD λts' H7 s7 hD7 hl7 ht7 _=>?_⟩;have hx7:=s7 _ _ hx6;have nDx:D≠x:=λw=>by rw[w,hx6] at hD;cases hD
   refine Zcm S dx _ ⟨hx7,T.cl_Standing,T.nSt,∅,?_⟩;refine q l1 D ts' _ (λb o nb eb=>by rw[Zag nb];exact s7 _ _ (e6 b o nb eb)) Zab f1 (fr6 D hD) ⟨by rw[Zag nxl.symm];exact s7 _ _ hl6,hz.2⟩ (by rw[Zag nDx];exact hD7) hl7 λi t c e1 e2=>?_;refine Zdw (ht7 i t c e1 e2) λr rs a1 a2 a3 a4=>?_;exact Zat r rs ⟨a1.extI hx7 (λb o nb eb=>by rw[Zag nb];exact eb),fr6 t a2,fr6 r a3,λa ha=>fr6 a (a4 a ha)⟩
end
end Pf
set_option maxRecDepth 50000
set_option maxHeartbeats 500000
namespace Pf
open PySem L2 PyProof.Rows
section
variable {C G S:Addr}
def spNum:Sp:=λvs H Q _=>∃ (l:Addr) (p:Int),vs=[.ref l,.int p]/\Bag H l/\GroundP p/\∀ (v:V) (x:Int×Int) (H':Hp),Ext l H H'->Bag H' l->NumV H' p v x->Isn p x->Bd 5000 x->Q v H'
theorem ok_lnum (F:Fun K "_law_number" "_law_number" Ze8 f fd)(T:Txt K mg C G S)(Yaa:Cal P w K mg base "_law_draw" 1 Zc6)(Yae:Cal P w K mg base "_law_low" 1 Zl2):FnOk P w K mg base CX0 3 f fd ["_law_bag_here","_law_p"] spNum:=by
 have nd:=Zgu.nd;refine F.ok Zgu (λvs H Q E h=>?_) (λcdv A outer s H vs Q E hr h=>?_)
 .refine Zbh h λl p e95 _=>?_;clear h;obtain rfl:=e95;rfl
 .refine Zdw h λl p e96 hb hp q=>?_;clear h;obtain rfl:=e96;have p0:=hp.lo;have p97:=hp.hi;refine⟨_,((@Za3 _ _ _ _ _ _ _ _ (Zal (Znu Zfg) (pvr 1) Zac (Zam _)) (~~~(Yaa<$>hr<$>((pvr 0)<&>((pvr 1)<&>Zaa)))) Zao)<*>((2|||nd|||(Zco<|>(Yaa<$>hr<$>((pvr 0)<&>(Zac<&>Zaa)))<&&>Zac))<*>(~~~(Yae<$>hr<$>((pvr 2)<&>((Zbi<|>Zac<&&>(Yaa<$>hr<$>((pvr 0)<&>(Zac<&>Zaa))))<&>Zaa)))))),?_⟩;walk_at "wp";refine Zce (λhc=>?_) (λhc=>?_)
  .have hc:=Ja5 hc;refine hb.draw hc ∅ λz H2 z0 z1 e2 b2=>?_;exact q (.int z) (z,1) H2 e2 b2 (NumV.of (x:=(z,1)) ∅) (.inr ⟨hc,z0,z1,rfl⟩) ⟨by show z.natAbs<=5000;omega,by show Int.natAbs 1<=5000;decide⟩
  .have hc:¬ 0<p:=λz=>hc (Jao z);have hp0:p=0:=∅
   subst hp0;have fin:∀ (H3:Hp) (a b:Int),Ext l H H3->Bag H3 l->0<b->a.natAbs<=5000->b.natAbs<=5000->Zl2 [.int a,.int b] H3 Q E0:=λH3 a b e3 b3 hb0 h1 h2=>by
    refine Zat a b ⟨rfl,Top.of ∅,hb0,∅,λt ht=>?_⟩;have nt:=b3.ne ht;exact q _ (nrm a b) _ (e3.trans (Ext.new ht)) (b3.new nt) (NumV.tup rfl Zab) (Zlg rfl hb0) (nrm_bd hb0 h1 h2)
   exact hb.draw ⇑0 ⇑0 λz H2 z0 z1 e2 b2=>⟨z,rfl,b2.draw ⇑0 ⇑0 λa H3 a0 a1 e3 b3=>⟨a,rfl,fin _ _ _ (e2.trans e3) b3 ∅ ∅ ∅⟩⟩
theorem bd_int0 {p:Int}{B:Nat}(hp:GroundP p)(hB:1<=B:=by decide):Bd B (Zj4 p 0):=by
 by_cases h0:p=0
 .unfold Zj4;rw[if_pos h0];exact⟨Jb9 _,hB⟩
 .unfold Zj4;rw[if_neg h0,Int.zero_emod];exact⟨Jb9 _,hB⟩
def Zrg:Sp:=λvs H Q _=>∃ p k:Int,vs=[.int p,.int k]/\GroundP p/\∀ v H',Same H H'->NumV H' p v (Zj4 p k)->Q v H'
theorem ok_lint (F:Fun K "_law_whole" "_law_whole" Zga f fd)(T:Txt K mg C G S):FnOk P w K mg base CX0 1 f fd ["_law_p","_law_k"] Zrg:=by
 have nd:=Zhr.nd;refine F.ok Zhr (λvs H Q E h=>?_) (λcdv A outer s H vs Q E hr h=>?_)
 .refine Zbh h λp k e97 _=>?_;clear h;obtain rfl:=e97;rfl
 .refine Zbm h λp k e98 hp q=>?_;clear h;obtain rfl:=e98;have p0:=hp.lo;refine⟨_,((@Za3 _ _ _ _ _ _ _ _ (Zal (Znu Zfg) (pvr 0) Zac (Zam _)) (~~~((opJ Zcq)<|>(pvr 1)<&&>(pvr 0))) Zao)<*>(~~~(@Zar _ _ _ _ _ ((pvr 1)<&>(Zac<&>Zaa))))),?_⟩;walk_at "wp";refine Zce (λhc=>?_) (λhc=>?_)
  .have hc:=Ja5 hc;refine⟨hc,q _ H (Same.refl _) ?_⟩;have:=NumV.of (H:=H) (x:=Zj4 p k) (show ¬ p=0 by omega);rw[Zj4,if_neg ∅] at this ⊢;exact this
  .have hc:¬ 0<p:=λz=>hc (Jao z);have hp0:p=0:=∅
   refine⟨⇑0,λt ht=>q _ _ (Same.new ht) ?_⟩;rw[Zj4,if_pos hp0];exact NumV.tup hp0 Zab
def spTb:Sp:=λvs H Q _=>∃ (l:Addr) (p hh wd:Int),vs=[.ref l,.int p,.int hh,.int wd]/\Bag H l/\GroundP p/\0<=hh/\hh<=24/\0<=wd/\wd<=24 /\
 ∀ (t r:Addr) (rs:List Addr) (H':Hp),Ext l H H'->Bag H' l->H t=none->H r=none->(∀ a∈rs,H a=none)->(∀ a∈rs,RowO H' p 5000 wd a)->Tab H' p hh wd t r rs->Q (.ref t) H'
theorem ok_tb (F:Fun K "_law_table" "_law_table" Zgc f fd)(T:Txt K mg C G S)(Yaa:Cal P w K mg base "_law_draw" 1 Zc6)(Ybf:Cal P w K mg base "_law_number" 3 spNum)(Yag:Cal P w K mg base "_law_whole" 1 Zrg):FnOk P w K mg base CX0 4 f fd ["_law_bag_here","_law_p","_law_high","_law_wide"] spTb:=by
 have nd:=Zht.nd;refine F.ok Zht (λvs H Q E h=>?_) (λcdv A outer s H vs Q E hr h=>?_)
 .refine Zk0 h λl p hh wd e99 _=>?_;clear h;obtain rfl:=e99;rfl
 .refine Zb5 h λl p hh wd e910 hb hp e911=>?_;clear h;obtain rfl:=e910;refine Zcf e911 λh0 h24 w0 w24 q=>?_;clear e911;refine⟨_,((4|||nd|||(Yaa<$>hr<$>((pvr 0)<&>(Zac<&>Zaa))))<*>((5|||nd|||(@Zbo _ _ _ _ Zaa))<*>((Zb2 Ja1 rfl (Zej rfl T.n_range ((pv 2)<&>Zaa)) (6>>>nd) ((7|||nd|||(@Zbo _ _ _ _ Zaa))<*>((Zb2 Ja1 rfl (Zej rfl T.n_range ((pv 3)<&>Zaa)) (8>>>nd) ((9|||nd|||(Ybf<$>hr<$>((pvr 0)<&>((pvr 1)<&>Zaa))))<*>((@Za3 _ _ _ _ _ _ _ _ (PW.pt (pw_and (Zal (Zka Zcs) (pvr 4) Zac (Zam _)) (pw_and1 (Zal Zfg (Yaa<$>hr<$>((pvr 0)<&>(Zac<&>Zaa))) Zac (Zam _))))) (@Zan _ _ _ (9|||nd|||(Yag<$>hr<$>((pvr 1)<&>(Zac<&>Zaa))))) Zao)<*>(@Zan _ _ _ (Zb1 (Zey Jaz Ja6 Ja7 (mtJ Zbd) (pvr 7) ((pvr 9)<&>Zaa)))))))<*>(@Zan _ _ _ (Zb1 (Zey Jaz Ja6 Ja7 (mtJ Zbd) (pvr 5) ((pvr 7)<&>Zaa)))))))<*>(~~~(@Zar _ _ _ _ _ ((pvr 2)<&>((pvr 3)<&>((pvr 5)<&>Zaa)))))))),?_⟩;walk_at "wp";refine hb.draw ⇑0 ⇑0 λz H2 z0 z1 e2 b2=>⟨⇑0,λr hr0=>?_⟩
  have nr:r≠l:=b2.ne hr0;have fr:H r=none:=e2.free nr hr0;refine⟨_,rfl,hh,rfl,∅,∅,Zbt (λi σ H3=>∃ (v6 v7 v8 v9:Option V) (rs:List Addr),σ=[some (.ref l),some (.int p),some (.int hh),some (.int wd),some (.int z),some (.ref r),v6,v7,v8,v9]/\Ext l H H3/\Bag H3 l/\(∀ a∈rs,H a=none)/\r∉rs/\H3 r=some (.lst (rs.map V.ref))/\rs.length=i/\∀ a∈rs,RowO H3 p 5000 wd a)
   ⟨none,none,none,none,[],rfl,e2.trans (Ext.new hr0),b2.new nr,by simp,by simp,Zab,rfl,by simp⟩ ?_ ?_⟩
  .intro i σ H3 hi e91;refine Zf2 e91 λv6 v7 v8 v9 rs e912 e3 b3 e913=>?_;clear e91;obtain rfl:=e912;refine Zcf e913 λhf nm hr3 hln hro=>?_;clear e913;walk_at "wp";refine⟨⇑0,λa ha=>?_⟩;have na:a≠l:=b3.ne ha;have fa:H a=none:=e3.free na ha;have nar:r≠a:=Zaf hr3 ha;have nas:a∉rs:=λz=>by obtain⟨xs,h1,_⟩:=hro a z;rw[ha] at h1;cases h1
   refine⟨_,rfl,wd,rfl,∅,∅,Zbt (λj σ H4=>∃ (v8 v9:Option V) (xs:List V),σ=[some (.ref l),some (.int p),some (.int hh),some (.int wd),some (.int z),some (.ref r),some (.int (0+(i:Int))),some (.ref a),v8,v9]/\Ext l H H4/\Bag H4 l/\H4 r=some (.lst (rs.map V.ref))/\(∀ a∈rs,RowO H4 p 5000 wd a)/\H4 a=some (.lst xs)/\xs.length=j/\∀ x∈xs,NumO H4 p 5000 x)
    ⟨v8,v9,[],rfl,e3.trans (Ext.new ha),b3.new na,by rw[Zag nar];exact hr3,λb hb=>(hro b hb).same (Same.new ha),Zab,rfl,by simp⟩ ?_ ?_⟩
   .intro j σ H4 hj e92;refine Zbu e92 λu8 u9 xs e914 e4 b4 e915=>?_;clear e92;obtain rfl:=e914;refine Zcf e915 λhr4 hro4 ha4 hlx hnx=>?_;clear e915;walk_at "wp";have step:∀ (v:V) (H5:Hp),Ext l H4 H5->Bag H5 l->NumO H5 p 5000 v->(Ext l H (upd H5 a (.lst (xs++[v])))/\Bag (upd H5 a (.lst (xs++[v]))) l/\upd H5 a (.lst (xs++[v])) r=some (.lst (rs.map V.ref))/\(∀ b∈rs,RowO (upd H5 a (.lst (xs++[v]))) p 5000 wd b) /\
      ∃ ys,upd H5 a (.lst (xs++[v])) a=some (.lst ys)/\ys.length=j+1/\∀ x∈ys,NumO (upd H5 a (.lst (xs++[v]))) p 5000 x):=by
     intro v H5 e5 b5 nv;have ha5:=e5 _ _ na ha4;refine⟨(e4.trans e5).upd fa,b5.new na,by rw[Zag nar];exact e5 _ _ nr hr4,λb hbm=>?_,_,Zab,by rw[Jah,hlx];rfl,λx hx=>?_⟩
     .have nb:b≠l:=hb.ne (hf b hbm);exact ((hro4 b hbm).ext b4 e5 nb).put ha5 (λz=>nas (z ▸ hbm))
     .rcases Jal.mp hx with hx|hx
      .exact ((hnx x hx).ext b4 e5).put ha5
      .rw [Jas.mp hx];exact nv.put ha5
    have hsz:xs.length<sizeLine:=Zap (oz56 w24 hj hlx);refine Zat l p ⟨rfl,b4,hp,λv x H5 e5 b5 nv iv bv=>?_⟩;have ha5:=e5 _ _ na ha4;refine Zce (λ_=>b5.draw ⇑0 ⇑0 λy H6 y0 y1 e6 b6=>⟨y,rfl,Zce (λ_=>?_) (λ_=>?_)⟩) (λ_=>⟨.inl ⟨rfl,_,SqL.of ha5⟩,xs,ha5,hsz,_,_,⟨rfl,rfl⟩,step v H5 e5 b5 ⟨x,nv,iv,bv⟩⟩)
    .have ha6:=(e5.trans e6) _ _ na ha4;refine Zat p 0 ⟨rfl,hp,λv0 H7 s7 n0=>?_⟩;have ha7:=s7 _ _ ha6;exact⟨.inl ⟨rfl,_,SqL.of ha7⟩,xs,ha7,hsz,_,_,⟨rfl,rfl⟩,step v0 H7 ((e5.trans e6).trans s7.ext) (b6.same s7) ⟨_,n0,Zhm hp.lo,bd_int0 hp⟩⟩
    .have ha6:=(e5.trans e6) _ _ na ha4;exact⟨.inl ⟨rfl,_,SqL.of ha6⟩,xs,ha6,hsz,_,_,⟨rfl,rfl⟩,step v H6 (e5.trans e6) b6 ⟨x,nv.ext b5 e6,iv,bv⟩⟩
   .intro σ H4 e93;refine Zbu e93 λu8 u9 xs e916 e4 b4 e917=>?_;clear e93;obtain rfl:=e916;refine Zcf e917 λhr4 hro4 ha4 hlx hnx=>?_;clear e917;walk_at "wp";refine⟨.inl ⟨rfl,_,SqL.of hr4⟩,_,hr4,Zap (by rw[Jab];exact oz56 h24 hi hln),_,_,_,_,⟨rfl,rfl,rfl,rfl⟩,e4.upd fr,b4.new nr,rs++[a],?_,?_,?_,by rw[Jah,hln];rfl,?_⟩
    .intro b hbm;rcases Jal.mp hbm with h|h
     .exact hf b h
     .rw [Jas.mp h];exact fa
    .intro z;rcases Jal.mp z with h|h
     .exact nm h
     .exact nar (Jas.mp h)
    .rw [Zab,Za5]
    .intro b hbm;rcases Jal.mp hbm with h|h
     .exact (hro4 b h).put hr4 (λz=>nm (z ▸ h))
     .rw [Jas.mp h];exact RowO.put ⟨xs,ha4,oz52 w0 hlx,hnx⟩ hr4 nar.symm
  .intro σ H3 e94;refine Zf2 e94 λv6 v7 v8 v9 rs e918 e3 b3 e919=>?_;clear e94;obtain rfl:=e918;refine Zcf e919 λhf nm hr3 hln hro=>?_;clear e919;walk_at "wp";refine⟨by show 3<=sizeLine;decide,λt ht=>?_⟩;have s0:=Same.new (o:=.tup [V.int hh,V.int wd,V.ref r]) ht;exact q t r rs _ (e3.trans (Ext.new ht)) (b3.same s0) (e3.free (b3.ne ht) ht) fr hf (λa ha=>(hro a ha).same s0) ⟨Zab,s0 _ _ hr3,oz52 h0 hln,λa ha=>((hro a ha).same s0).weak (BB_of ⇑0),nm⟩
theorem Tab.ext2 {l:Addr}{H H':Hp}{p hh wd:Int}{t r:Addr}{rs:List Addr}(h:Tab H p hh wd t r rs)(b:Bag H l)(e:Ext l H H')(nr:r≠l)(ns:l∉rs):Tab H' p hh wd t r rs:=
 ⟨by obtain⟨ys,hy⟩:=b.lst;exact e _ _ (Zez h.tup hy (by intro z;cases z)) h.tup,e _ _ nr h.lst,h.len,λa ha=>(h.row a ha).ext b e (λz=>ns (z ▸ ha)),h.nin⟩
theorem TabC.ext {l:Addr}{H H':Hp}{p hh wd:Int}{t r:Addr}{rs:List Addr}{M:List (List V)}(h:TabC H p hh wd t r rs M)(b:Bag H l)(e:Ext l H H')(nr:r≠l)(ns:l∉rs):TabC H' p hh wd t r rs M:=
 ⟨h.tab.ext2 b e nr ns,λi a ei=>e _ _ (λz=>ns (z ▸ Jae ei)) (h.con i a ei)⟩
def rowOf (H:Hp)(a:Addr):List V:=match H a with
 | some (.lst xs)=>xs
 | _=>[]
theorem Tab.toC {H:Hp}{p hh wd:Int}{t r:Addr}{rs:List Addr}(h:Tab H p hh wd t r rs):∃ M,TabC H p hh wd t r rs M:=by
 refine⟨rs.map (rowOf H),h,λi a e=>?_⟩;rw[Jac,Jad,e];refine Zad (h.row a (Jae e)) λxs hx _=>?_;show H a=some (.lst (rowOf H a));unfold rowOf;rw[hx]
theorem Prs.bag {l:Addr}{H H':Hp}{xs:List V}{ps:List (Int×Int)}(h:Prs H xs ps)(b:Bag H l)(e:Ext l H H'):Prs H' xs ps:=
 ⟨h.1,λi x q h1 h2=>by
  refine Zad (h.2 i x q h1 h2) λt e1 e2=>?_;obtain⟨ys,hy⟩:=b.lst;exact⟨t,e1,e _ _ (Zez e2 hy (by intro z;cases z)) e2⟩⟩
end
end Pf
set_option maxRecDepth 50000
namespace Pf
open PySem L2 PyProof.Rows
section
variable {C G S:Addr}
def Zne:Sp:=λvs H Q _=>∃ (l:Addr) (m mo:Int),vs=[.ref l,.int m,.int mo]/\Bag H l/\1<=m/\m<=8/\0<=mo/\mo<=24/\∀ (z:Addr) (ns:List Int) (H':Hp),Ext l H H'->Bag H' l->H z=none->Sizes H' z ns->(ns.length:Int)=m->ns.sum<=mo->Q (.ref z) H'
theorem ok_lsz (F:Fun K "_law_sizes" "_law_sizes" Zgd f fd)(T:Txt K mg C G S)(Yaa:Cal P w K mg base "_law_draw" 1 Zc6):FnOk P w K mg base CX0 2 f fd ["_law_bag_here","_law_many","_law_most"] Zne:=by
 have nd:=Zhu.nd;refine F.ok Zhu (λvs H Q E h=>?_) (λcdv A outer s H vs Q E hr h=>?_)
 .refine Zex h λl m mo e93 _=>?_;clear h;obtain rfl:=e93;rfl
 .refine Zbu h λl m mo e94 hb m1 e95=>?_;clear h;obtain rfl:=e94;refine Zb0 e95 λm8 o0 o24 q=>?_;clear e95;refine⟨_,((3|||nd|||(@Zbo _ _ _ _ Zaa))<*>((4|||nd|||(pvr 2))<*>((Zb2 Ja1 rfl (Zej rfl T.n_range ((pv 1)<&>Zaa)) (5>>>nd) ((6|||nd|||(Zba (Zjx rfl) rfl T.n_min boot_min ((pvr 4)<&>((Yaa<$>hr<$>((pvr 0)<&>(Zac<&>Zaa)))<&>Zaa))))<*>((@Za3 _ _ _ _ _ _ _ _ (Zal Zcs (Yaa<$>hr<$>((pvr 0)<&>(Zac<&>Zaa))) Zac (Zam _)) (@Zan _ _ _ (6|||nd|||(Yaa<$>hr<$>((pvr 0)<&>(((Znu Zbi)<|>(pvr 4)<&&>Zac)<&>Zaa))))) Zao)<*>((Zb1 (Zey Jaz Ja6 Ja7 (mtJ Zbd) (pvr 3) ((pvr 6)<&>Zaa)))<*>(@Zan _ _ _ (4|||nd|||((Znu Zco)<|>(pvr 4)<&&>(pvr 6))))))))<*>(~~~(pvr 3))))),?_⟩;walk_at "wp";refine⟨⇑0,λz hz=>?_⟩;have nz:z≠l:=hb.ne hz;refine⟨_,rfl,m,rfl,∅,∅,Zbt (λi σ H3=>∃ (v5 v6:Option V) (le:Int) (ns:List Int),σ=[some (.ref l),some (.int m),some (.int mo),some (.ref z),some (.int le),v5,v6]/\0<=le/\le<=24/\Ext l H H3/\Bag H3 l/\H3 z=some (.lst (ns.map V.int))/\ns.length=i/\(∀ n∈ns,0<=n/\n<=24)/\le+ns.sum=mo)
   ⟨none,none,mo,[],rfl,o0,o24,Ext.new hz,hb.new nz,Zab,rfl,by simp,by simp⟩ ?_ ?_⟩
  .intro i σ H3 hi e91;refine Zb5 e91 λv5 v6 le ns e96 l0 l24 e97=>?_;clear e91;obtain rfl:=e96;refine Zf3 e97 λe3 b3 hz3 hln hn hsum=>?_;clear e97;walk_at "wp";have step:∀ (H5:Hp) (x:Int),Ext l H3 H5->Bag H5 l->0<=x->x<=24->(Ext l H (upd H5 z (.lst (ns.map V.int++[.int x])))/\Bag (upd H5 z (.lst (ns.map V.int++[.int x]))) l/\∃ ys:List Int,upd H5 z (.lst (ns.map V.int++[.int x])) z=some (.lst (ys.map V.int))/\ys.length=i+1/\(∀ n∈ys,0<=n/\n<=24)/\le-x+ys.sum=mo):=by
    intro H5 x e5 b5 x0 x24;refine⟨(e3.trans e5).upd hz,b5.new nz,ns++[x],by rw[Zab,Ja2];rfl,by rw[Jah,hln];rfl,λn hnn=>?_,by rw[List.sum_append];simp;omega⟩;rcases Jal.mp hnn with h|h
    .exact hn n h
    .rw [Jas.mp h];exact⟨x0,x24⟩
   have hsz:(ns.map V.int).length<sizeLine:=Zap (by rw[Jab];omega);refine b3.draw ⇑0 ⇑0 λy H4 y0 y1 e4 b4=>⟨le,y,⟨rfl,rfl⟩,b4.draw ⇑0 ⇑0 λu H5 u0 u1 e5 b5=>⟨rfl,Zce (λ_=>b5.draw ∅ ∅ λx H6 x0 x1 e6 b6=>?_) (λ_=>?_)⟩⟩
   .have e:=(e4.trans e5).trans e6;exact⟨.inl ⟨rfl,_,SqL.of (e _ _ nz hz3)⟩,_,e _ _ nz hz3,hsz,_,_,_,⟨rfl,rfl,rfl⟩,∅,∅,step H6 x e b6 x0 ∅⟩
   .have e:=e4.trans e5;have k0:0<=(if y<le then y else le):=by split <;> omega
    have k1:(if y<le then y else le)<=le:=by split <;> omega
    exact⟨.inl ⟨rfl,_,SqL.of (e _ _ nz hz3)⟩,_,e _ _ nz hz3,hsz,_,_,_,⟨rfl,rfl,rfl⟩,∅,∅,step H5 _ e b5 k0 ∅⟩
  .intro σ H3 e92;refine Zb5 e92 λv5 v6 le ns e98 l0 l24 e99=>?_;clear e92;obtain rfl:=e98;refine Zf3 e99 λe3 b3 hz3 hln hn hsum=>?_;clear e99;exact q z ns H3 e3 b3 hz ⟨hz3,∅,hn⟩ ∅ ∅
end
end Pf
set_option maxRecDepth 50000
namespace Pf
open PySem L2 PyProof.Rows
section
variable {C G S:Addr}
theorem Zim {H:Hp}{n:Nat}{xs ys:List V}(hl:xs.length=ys.length)(he:∀ (j:Nat) x y,xs[j]?=some x->ys[j]?=some y->EqD K H n x y true):Zeq K H n xs ys (List.replicate xs.length true):=
 ⟨hl,Jbd,λj x y b e1 e2 e3=>by
  rw[Jb1] at e3;split at e3
  .cases e3;exact he j x y e1 e2
  .cases e3⟩
theorem Tbs.len {H:Hp}{p:Int}{l l':Addr}{ts ts':List Addr}{cs:List (Int×Int×List (List V))}(h:Tbs H p l ts cs)(h':Tbs H p l' ts' cs):(ts.map V.ref).length=(ts'.map V.ref).length:=by
 rw[Jab,Jab,h.2.1,h'.2.1]
structure Std (S C G:Addr)(H:Hp)(x:Addr)(p m:Int)(ps:List (Int×Int))(ns:List Int)(cs:List (Int×Int×List (List V)))(dx g d z l lp:Addr)(xs:List V)(ts:List Addr):Prop where
 ins:H x=some (.ins S dx (Zgq g d z l))
 grd:GAt G H g p
 drw:Zh9 C H d m lp xs
 prs:Prs H xs ps
 szs:Sizes H z ns
 tbs:Tbs H p l ts cs
end
end Pf
set_option maxHeartbeats 2000000
namespace Pf
open PySem L2 PyProof.Rows
section
variable {C G S:Addr}
structure StdF (H0:Hp)(S C G:Addr)(H:Hp)(x:Addr)(p m:Int)(ps:List (Int×Int))(ns:List Int)(cs:List (Int×Int×List (List V)))(dx g d z l lp:Addr)(xs:List V)(ts:List Addr):Prop where
 ins:H x=some (.ins S dx (Zgq g d z l))
 grd:GAt G H g p
 drw:Zh9 C H d m lp xs
 prs:Prs H xs ps
 szs:Sizes H z ns
 nz:H0 z=none
 nl:H0 l=none
 nlp:H0 lp=none
 lst:H l=some (.lst (ts.map V.ref))
 len:ts.length=cs.length
 tbs:∀ (i:Nat) t c,ts[i]?=some t->cs[i]?=some c->TabF H0 H p c.1 c.2.1 t c.2.2
theorem Znz {xs ys:List Addr}(h:xs.map V.ref=ys.map V.ref):xs=ys:=by
 have:=Jc8 (List.map λv=>match v with|V.ref a=>a|_=>0) h;simpa [Jek,Function.comp_def] using this
abbrev Nv:=Int×Int
abbrev Mv:=List (List Nv)
def All2 {α β:Type}(P:α->β->Prop)(xs:List α)(ys:List β):Prop:=xs.length=ys.length/\∀ (i:Nat) x y,xs[i]?=some x->ys[i]?=some y->P x y
theorem All2.nil {α β:Type}{P:α->β->Prop}:All2 P [] []:=⟨rfl,λi x y e=>by simp at e⟩
theorem All2.take {α β:Type}{P:α->β->Prop}{xs:List α}{ys:List β}(h:All2 P xs ys)(n:Nat):All2 P (xs.take n) (ys.take n):=⟨by rw[Jbc,Jbc,h.1],λi x y e1 e2=>by
 by_cases hi:i<n
 .rw [Jdc hi] at e1 e2;exact h.2 i x y e1 e2
 .rw [Jaj (by rw[Jbc];omega)] at e1;cases e1⟩
theorem All2.drop {α β:Type}{P:α->β->Prop}{xs:List α}{ys:List β}(h:All2 P xs ys)(n:Nat):All2 P (xs.drop n) (ys.drop n):=⟨by rw[Jb2,Jb2,h.1],λi x y e1 e2=>by
 rw[Je9] at e1 e2;exact h.2 _ x y e1 e2⟩
theorem All2.app {α β:Type}{P:α->β->Prop}{xs xs':List α}{ys ys':List β}(h:All2 P xs ys)(h':All2 P xs' ys'):All2 P (xs++xs') (ys++ys'):=⟨by rw[Jah,Jah,h.1,h'.1],λi x y e1 e2=>by
 have hl:=h.1;by_cases hi:i<xs.length
 .rw [Jay hi] at e1;rw[Jay (oz9 hl hi)] at e2;exact h.2 i x y e1 e2
 .rw [Jav ∅] at e1 e2;rw[<- hl] at e2;exact h'.2 _ x y e1 e2⟩
theorem All2.one {α β:Type}{P:α->β->Prop}{x:α}{y:β}(h:P x y):All2 P [x] [y]:=⟨rfl,λi a b e1 e2=>by
 cases i with
 | zero=>cases e1;cases e2;exact h
 | succ i=>simp at e1⟩
theorem All2.mono {α β:Type}{P P':α->β->Prop}{xs:List α}{ys:List β}(h:All2 P xs ys)(k:∀ x y,P x y->P' x y):All2 P' xs ys:=⟨h.1,λi x y e1 e2=>k x y (h.2 i x y e1 e2)⟩
theorem All2.monoM {α β:Type}{P P':α->β->Prop}{xs:List α}{ys:List β}(h:All2 P xs ys)(k:∀ x y,x∈xs->P x y->P' x y):All2 P' xs ys:=⟨h.1,λi x y e1 e2=>k x y (Jae e1) (h.2 i x y e1 e2)⟩
theorem All2.set {α β:Type}{P:α->β->Prop}{xs:List α}{ys:List β}(h:All2 P xs ys)(n:Nat){x:α}{y:β}(hp:P x y):All2 P (xs.set n x) (ys.set n y):=⟨by rw[Jby,Jby,h.1],λi a b e1 e2=>by
 rw[Jcr] at e1 e2;by_cases hi:n=i
 .rw [if_pos hi] at e1 e2;split at e1
  .split at e2
   .cases e1;cases e2;exact hp
   .cases e2
  .cases e1
 .rw [if_neg hi] at e1 e2;exact h.2 i a b e1 e2⟩
theorem All2.rep {α β:Type}{P:α->β->Prop}{x:α}{y:β}(h:P x y)(n:Nat):All2 P (List.replicate n x) (List.replicate n y):=⟨by simp,λi a b e1 e2=>by
 rw[Jb1] at e1 e2;split at e1
 .rename_i hi
  rw[if_pos hi] at e2;cases e1;cases e2;exact h
 .cases e1⟩
theorem All2.at {α β:Type}{P:α->β->Prop}{xs:List α}{ys:List β}(h:All2 P xs ys){i:Nat}{y:β}(e:ys[i]?=some y):∃ x,xs[i]?=some x/\P x y:=by
 have hi:i<ys.length:=(Jaf.mp e).1;have hx:xs[i]?=some (xs[i]'(by have:=h.1;exact Zm6 hi this)):=Jaa _;exact⟨_,hx,h.2 i _ y hx e⟩
theorem All2.at' {α β:Type}{P:α->β->Prop}{xs:List α}{ys:List β}(h:All2 P xs ys){i:Nat}{x:α}(e:xs[i]?=some x):∃ y,ys[i]?=some y/\P x y:=by
 have hi:i<xs.length:=(Jaf.mp e).1;have hy:ys[i]?=some (ys[i]'(by have:=h.1;exact oz91 hi this)):=Jaa _;exact⟨_,hy,h.2 i x _ e hy⟩
theorem All2.pick {α β:Type}{P:α->β->Prop}:∀ {xs:List α},(∀ x∈xs,∃ y,P x y)->∃ ys,All2 P xs ys
 | [],_=>⟨[],All2.nil⟩
 | x::xs,h=>by
  obtain⟨y,hy⟩:=h x (by simp);obtain⟨ys,hys⟩:=All2.pick (xs:=xs) λz hz=>h z (by simp[hz]);exact⟨y::ys,(All2.one hy).app hys⟩
def RowV (H:Hp)(p:Int)(a:Addr)(xs:List Nv):Prop:=∃ vs,H a=some (.lst vs)/\All2 (NumV H p) vs xs
theorem RowV.same {H H':Hp}{p:Int}{a:Addr}{xs:List Nv}(h:RowV H p a xs)(s:Same H H'):RowV H' p a xs:=let ⟨vs,h1,h2⟩:=h;⟨vs,s _ _ h1,h2.mono λ_ _ k=>k.same s⟩
theorem NumV.put {H:Hp}{D:Addr}{l:List V}{o:HO}{p:Int}{v:V}{x:Nv}(h:NumV H p v x)(hD:H D=some (.lst l)):NumV (upd H D o) p v x:=by
 by_cases hp:p=0
 .refine Zad (h.ref hp) λt e94 ht=>?_;obtain rfl:=e94;exact NumV.tup hp (by rw[Zag (Zez ht hD (by intro z;cases z))];exact ht)
 .obtain rfl:=h.int hp;exact NumV.of hp
theorem RowV.put {H:Hp}{D:Addr}{l:List V}{o:HO}{p:Int}{a:Addr}{xs:List Nv}(h:RowV H p a xs)(hD:H D=some (.lst l))(n:a≠D):RowV (upd H D o) p a xs:=let ⟨vs,h1,h2⟩:=h;⟨vs,by rw[Zag n];exact h1,h2.mono λ_ _ k=>k.put hD⟩
theorem RowV.ext {l:Addr}{H H':Hp}{p:Int}{a:Addr}{xs:List Nv}(h:RowV H p a xs)(b:Bag H l)(e:Ext l H H')(n:a≠l):RowV H' p a xs:=let ⟨vs,h1,h2⟩:=h;⟨vs,e _ _ n h1,h2.mono λ_ _ k=>k.ext b e⟩
structure TabV (H:Hp)(p hh wd:Int)(t r:Addr)(rs:List Addr)(M:Mv):Prop where
 tup:H t=some (.tup [.int hh,.int wd,.ref r])
 lst:H r=some (.lst (rs.map V.ref))
 row:All2 (RowV H p) rs M
 nin:r∉rs
theorem TabV.same {H H':Hp}{p hh wd:Int}{t r:Addr}{rs:List Addr}{M:Mv}(h:TabV H p hh wd t r rs M)(s:Same H H'):TabV H' p hh wd t r rs M:=⟨s _ _ h.tup,s _ _ h.lst,h.row.mono λ_ _ k=>k.same s,h.nin⟩
theorem TabV.put {H:Hp}{D:Addr}{l:List V}{o:HO}{p hh wd:Int}{t r:Addr}{rs:List Addr}{M:Mv}(h:TabV H p hh wd t r rs M)(hD:H D=some (.lst l))(nr:r≠D)(ns:D∉rs):TabV (upd H D o) p hh wd t r rs M:=
 ⟨by rw[Zag (Zez h.tup hD (by intro z;cases z))];exact h.tup,by rw[Zag nr];exact h.lst,h.row.monoM λa _ ha k=>k.put hD (λz=>ns (z ▸ ha)),h.nin⟩
theorem TabV.ext {l:Addr}{H H':Hp}{p hh wd:Int}{t r:Addr}{rs:List Addr}{M:Mv}(h:TabV H p hh wd t r rs M)(b:Bag H l)(e:Ext l H H')(nr:r≠l)(ns:l∉rs):TabV H' p hh wd t r rs M:=
 ⟨e _ _ (λz=>by obtain⟨x,y,hb,_⟩:=b;rw[<- z,h.tup] at hb;cases hb) h.tup,e _ _ nr h.lst,h.row.monoM λa _ ha k=>k.ext b e (λz=>ns (z ▸ ha)),h.nin⟩
def Shp (hh wd:Int)(M:Mv):Prop:=(M.length:Int)=hh/\∀ row∈M,(row.length:Int)=wd
theorem num_eqD {H:Hp}{n:Nat}{p:Int}{v u:V}{x:Nv}(h:NumV H p v x)(h':NumV H p u x):EqD K H (n+1) v u true:=by
 by_cases hp:p=0
 .refine Zad (h.ref hp) λt e95 ht=>?_;obtain rfl:=e95;refine Zad (h'.ref hp) λt' e96 ht'=>?_;obtain rfl:=e96;refine Zww ht ht' rfl λj x y e1 e2=>?_;rw[e1] at e2;cases e2
  match j,e1 with
  | 0,e1=>cases e1;exact Zcy
  | 1,e1=>cases e1;exact Zcy
  | j+2,e1=>cases e1
 .obtain rfl:=h.int hp;obtain rfl:=h'.int hp;exact Zcy
theorem Zog {α:Type}{H:Hp}{n:Nat}{R R':V->α->Prop}{vs us:List V}{xs:List α}(h:All2 R vs xs)(h':All2 R' us xs)(k:∀ v u x,R v x->R' u x->EqD K H n v u true):vs.length=us.length/\∀ (j:Nat) v u,vs[j]?=some v->us[j]?=some u->EqD K H n v u true:=
 ⟨h.1.trans h'.1.symm,λj v u e1 e2=>by
  refine Zad (h.at' e1) λx ex hx=>?_;exact k v u x hx (h'.2 j u x e2 ex)⟩
theorem Zbe {α:Type}{R:Addr->α->Prop}{rs:List Addr}{xs:List α}(h:All2 R rs xs):All2 (λv x=>∃ a,v=.ref a/\R a x) (rs.map V.ref) xs:=⟨by rw[Jab];exact h.1,λi v x e1 e2=>by
 rw[Jad] at e1;cases e:rs[i]? with
 | none=>rw[e] at e1;cases e1
 | some a=>rw[e] at e1;cases e1;exact⟨a,rfl,h.2 i a x e e2⟩⟩
theorem RowV.eq {H:Hp}{n:Nat}{p:Int}{a c:Addr}{xs:List Nv}(h:RowV H p a xs)(h':RowV H p c xs):EqD K H (n+2) (.ref a) (.ref c) true:=by
 refine Zad h λvs h1 h2=>?_;clear h;refine Zad h' λus h3 h4=>?_;clear h';obtain⟨e1,e2⟩:=Zog (K:=K) (H:=H) (n:=n+1) h2 h4 λv u x a b=>num_eqD a b;exact Zn1 h1 h3 e1 e2
theorem TabV.eq {H:Hp}{n:Nat}{p hh wd:Int}{t r t' r':Addr}{rs rs':List Addr}{M:Mv}(h:TabV H p hh wd t r rs M)(h':TabV H p hh wd t' r' rs' M):EqD K H (n+4) (.ref t) (.ref t') true:=by
 refine Zww h.tup h'.tup rfl λj x y e1 e2=>?_
 match j,e1,e2 with
 | 0,e1,e2=>cases e1;cases e2;exact Zcy
 | 1,e1,e2=>cases e1;cases e2;exact Zcy
 | 2,e1,e2=>
  cases e1;cases e2;obtain⟨f1,f2⟩:=Zog (K:=K) (H:=H) (n:=n+2) (Zbe h.row) (Zbe h'.row) λv u x ⟨a,ea,ha⟩ ⟨b,eb,hb⟩=>by subst ea;subst eb;exact ha.eq hb
  exact Zn1 h.lst h'.lst f1 f2
 | j+3,e1,e2=>cases e1
theorem Zb3 {a D:Addr}{xs:List V}{fr:List (Str×Nat)}{σ:L2.St}{te:TE}{H1:Hp}{Q:VK}(R:Nat->Hp->V->Prop)(hS:∀ {i H H' y},R i H y->Same H H'->R i H' y)(hP:∀ {i H y l o},R i H y->H D=some (.lst l)->R i (upd H D o) y)(ha:H1 a=some (.lst xs))(hD:H1 D=none)(hn:xs.length<=1000)(h:∀ (i:Nat) x H (Q:VK),xs[i]?=some x->Same H1 H->(∃ l,H D=some (.lst l))->(∀ y H',Same H H'->R i H' y->Q y H')->te (some x::Zbv fr σ) H Q)(hQ:∀ ys H',Same H1 H'->H' D=some (.lst ys)->ys.length=xs.length->(∀ (i:Nat) y,ys[i]?=some y->R i H' y)->Q (.ref D) H'):Zb6 (Zbq 0) Zfr te (Itl K a) D (Zg7 1 fr σ) H1 Q:=by
 refine Zio (xs:=xs) (λi vs H=>Same H1 H/\H D=some (.lst vs)/\vs.length=i/\∀ (j:Nat) y,vs[j]?=some y->R j H y) ⟨Same.new hD,Zab,rfl,λj y e=>by simp at e⟩ (λi vs H _ p=>SqL.of (p.1 _ _ ha)) ?_ (λvs H ⟨s,e,hl,hr⟩=>hQ vs H s e hl hr);intro i x vs σ' H hi hx sh e91;refine Zb0 e91 λs e hl hr=>?_;clear e91;obtain⟨z,rfl⟩:=sh.one;simp only[Ze0,Zbq,Zfr,List.set_cons_zero,Jc1];refine h i x H _ hx s ⟨_,e⟩ λy H' s' ry=>?_;refine Zn2 (ws:=vs++[y]) hi Sh.mk1 (s' _ _ e) (Zap (oz93 hn hi hl)) ⟨(s.trans s').upd hD,Zab,by rw[Jah,hl];rfl,λj u hu=>?_⟩;by_cases hj:j<vs.length
 .rw [Jay hj] at hu;exact hP (hS (hr j u hu) s') (s' _ _ e)
 .rw [Jav (Zmd hj)] at hu;have hj0:j-vs.length=0:=by
   by_cases z:j-vs.length=0
   .exact z
   .rw [Jaj (by simp;exact oz10 z)] at hu;cases hu
  rw[hj0] at hu;cases hu;rw[show j=i by exact oz8 hl hj hj0];exact hP ry (s' _ _ e)
theorem Zmw {lo:Int}{n:Nat}{D:Addr}{fr:List (Str×Nat)}{σ:L2.St}{te:TE}{H1:Hp}{Q:VK}(R:Nat->Hp->V->Prop)(hS:∀ {i H H' y},R i H y->Same H H'->R i H' y)(hP:∀ {i H y l o},R i H y->H D=some (.lst l)->R i (upd H D o) y)(hD:H1 D=none)(hn:n<=1000)(h:∀ (i:Nat) H (Q:VK),i<n->Same H1 H->(∃ l,H D=some (.lst l))->(∀ y H',Same H H'->R i H' y->Q y H')->te (some (.int (lo+(i:Nat)))::Zbv fr σ) H Q)(hQ:∀ ys H',Same H1 H'->H' D=some (.lst ys)->ys.length=n->(∀ (i:Nat) y,ys[i]?=some y->R i H' y)->Q (.ref D) H'):Zb6 (Zbq 0) Zfr te (Itr lo n) D (Zg7 1 fr σ) H1 Q:=by
 refine Zg0 (n:=n) (λi vs H=>Same H1 H/\H D=some (.lst vs)/\vs.length=i/\∀ (j:Nat) y,vs[j]?=some y->R j H y) ⟨Same.new hD,Zab,rfl,λj y e=>by simp at e⟩ ?_ (λvs H ⟨s,e,hl,hr⟩=>hQ vs H s e hl hr);intro i x vs σ' H hi e92;obtain rfl:=e92;intro sh e93;refine Zb0 e93 λs e hl hr=>?_;clear e93;obtain⟨z,rfl⟩:=sh.one;simp only[Ze0,Zbq,Zfr,List.set_cons_zero,Jc1];refine h i H _ hi s ⟨_,e⟩ λy H' s' ry=>?_;refine Zn2 (ws:=vs++[y]) hi Sh.mk1 (s' _ _ e) (Zap (oz93 hn hi hl)) ⟨(s.trans s').upd hD,Zab,by rw[Jah,hl];rfl,λj u hu=>?_⟩;by_cases hj:j<vs.length
 .rw [Jay hj] at hu;exact hP (hS (hr j u hu) s') (s' _ _ e)
 .rw [Jav (Zmd hj)] at hu;have hj0:j-vs.length=0:=by
   by_cases z:j-vs.length=0
   .exact z
   .rw [Jaj (by simp;exact oz10 z)] at hu;cases hu
  rw[hj0] at hu;cases hu;rw[show j=i by exact oz8 hl hj hj0];exact hP ry (s' _ _ e)
theorem Zn6 {ys:List V}{g:Nat->Int}{n:Nat}(hl:ys.length=n)(h:∀ (i:Nat) y,ys[i]?=some y->y=.int (g i)):ys=((List.range n).map g).map V.int:=by
 apply Jb6;intro i;by_cases hi:i<n
 .rw [Jaa (Zc4 hl hi),h i _ (Jaa (Zc4 hl hi)),Jad,Jad,Jau hi];rfl
 .rw [Jaj (oz68 hl hi),Jaj (by simp;exact Zmd hi)]
theorem Zjk {P:Nat->Addr->Prop}:∀ {ys:List V},(∀ (i:Nat) y,ys[i]?=some y->∃ b,y=.ref b/\P i b)->∃ bs:List Addr,ys=bs.map V.ref/\∀ (i:Nat) b,bs[i]?=some b->P i b:=by
 intro ys
 induction ys generalizing P with
 | nil=>exact λ_=>⟨[],rfl,λi b e=>by simp at e⟩
 | cons y ys ih=>
  intro h;refine Zad (h 0 y rfl) λb e97 hb=>?_;obtain rfl:=e97;refine Zad (ih (P:=λi b=>P (i+1) b) λi u e=>h (i+1) u (by simpa using e)) λbs e98 hbs=>?_;obtain rfl:=e98;exact⟨b::bs,rfl,λi u e=>by
   cases i with
   | zero=>cases e;exact hb
   | succ i=>exact hbs i u (by simpa using e)⟩
theorem Znr {D:Addr}{H1 H':Hp}{p:Int}{M:Mv}{ys:List V}(hl:ys.length=M.length)(h:∀ (i:Nat) y,ys[i]?=some y->∃ a,y=.ref a/\RowV H' p a (M.getD i [])/\a≠D/\H1 a=none):∃ rs:List Addr,ys=rs.map V.ref/\All2 (RowV H' p) rs M/\D∉rs/\∀ a∈rs,H1 a=none:=by
 refine Zad (Zjk (P:=λi a=>RowV H' p a (M.getD i [])/\a≠D/\H1 a=none) h) λrs e99 hr=>?_;obtain rfl:=e99;rw[Jab] at hl;refine⟨rs,rfl,⟨hl,λi a xs e1 e2=>?_⟩,λz=>?_,λa ha=>?_⟩
 .have:=(hr i a e1).1;rwa [Jac,e2] at this
 .obtain ⟨j,hj,e⟩:=Jan.mp z;exact (hr j D (by rw[Jaa hj,e])).2.1 rfl
 .obtain ⟨j,hj,rfl⟩:=Jan.mp ha;exact (hr j _ (Jaa hj)).2.2
structure New (H:Hp)(t r:Addr)(rs:List Addr):Prop where
 t:H t=none
 r:H r=none
 rs:∀ a∈rs,H a=none
abbrev Tv:=Int×Int×Mv
abbrev t0:Tv:=(0,0,[])
abbrev hF (cs:List Tv)(i:Nat):Int:=(cs.getD i t0).1
abbrev wF (cs:List Tv)(i:Nat):Int:=(cs.getD i t0).2.1
abbrev mF (cs:List Tv)(i:Nat):Mv:=(cs.getD i t0).2.2
def Zia (g:Nat->Int):Nat->Int
 | 0=>0
 | n+1=>Zia g n+g n
theorem Zly (g:Nat->Int)(N:Nat):∀ n,n<=N->preSum (λi=>((List.range N).map g).getD i 0) n=Zia g n
 | 0,_=>rfl
 | n+1,h=>by
  unfold preSum Zia;rw[Zly g N n ∅];congr 1;rw[Jac,Jad,Jau ∅];rfl
theorem Zlz {g:Nat->Int}{N:Nat}(h:∀ i,i<N->0<=g i):∀ {n},n<=N->0<=Zia g n/\Zia g n<=Zia g N:=by
 have key:∀ k n,n+k<=N->Zia g n<=Zia g (n+k):=by
  intro k
  induction k with
  | zero=>intro n _;exact Int.le_refl _
  | succ k ih=>
   intro n hn;have a:=ih n ∅;have b:=h (n+k) ∅;show Zia g n<=Zia g (n+k)+g (n+k);omega
 intro n hn;have a:=key n 0 ∅;have b:=key (N-n) n ∅;rw[show n+(N-n)=N by omega] at b;rw[Nat.zero_add] at a;exact⟨a,b⟩
theorem Znb {g:Nat->Int}{B:Int}:∀ {n:Nat},(∀ i,i<n->g i<=B)->Zia g n<=n*B
 | 0,_=>by unfold Zia;omega
 | n+1,h=>by
  have a:=Znb (g:=g) (B:=B) (n:=n) λi hi=>h i ∅;have b:=h n ∅;unfold Zia;rw[show ((n+1:Nat):Int)*B=n*B+B by rw[Int.natCast_add,Int.add_mul];simp];omega
theorem Zg1 {a D:Addr}{xs:List V}{fr:List (Str×Nat)}{σ:L2.St}{te:TE}{H1:Hp}{Q:VK}(g:Nat->Int)(ha:H1 a=some (.lst xs))(hD:H1 D=none)(hn:xs.length<=1000)(h:∀ (i:Nat) x H (Q:VK),xs[i]?=some x->Same H1 H->(∀ H',Same H H'->Q (.int (g i)) H')->te (some x::Zbv fr σ) H Q)(hQ:∀ H',Same H1 H'->H' D=some (.lst (((List.range xs.length).map g).map V.int))->Q (.ref D) H'):Zb6 (Zbq 0) Zfr te (Itl K a) D (Zg7 1 fr σ) H1 Q:=
 Zb3 (λi _ y=>y=.int (g i)) (λr _=>r) (λr _=>r) ha hD hn (λi x H Q hx s _ k=>h i x H Q hx s λH' s'=>k _ H' s' rfl) (λys H' s e hl hr=>hQ H' s (by rw[e,Zn6 hl hr]))
structure FewC (cs:List Tv):Prop where
 few:cs.length<=9
 bd:∀ i,i<cs.length->0<=hF cs i/\hF cs i<=24/\0<=wF cs i/\wF cs i<=24/\Shp (hF cs i) (wF cs i) (mF cs i)
theorem FewC.sums {cs:List Tv}(h:FewC cs){n:Nat}(hn:n<=cs.length):0<=Zia (wF cs) n/\Zia (wF cs) n<=Zia (wF cs) cs.length/\Zia (wF cs) cs.length<=216/\0<=Zia (hF cs) n/\Zia (hF cs) n<=Zia (hF cs) cs.length/\Zia (hF cs) cs.length<=216:=by
 have a:=Zlz (g:=wF cs) (N:=cs.length) (λi hi=>(h.bd i hi).2.2.1) hn;have b:=Zlz (g:=hF cs) (N:=cs.length) (λi hi=>(h.bd i hi).1) hn;have c:=Znb (g:=wF cs) (B:=24) (n:=cs.length) (λi hi=>(h.bd i hi).2.2.2.1);have d:=Znb (g:=hF cs) (B:=24) (n:=cs.length) (λi hi=>(h.bd i hi).2.1);have e:=h.few;have k:(cs.length:Int)*24<=216:=∅
 exact⟨a.1,a.2,∅,b.1,b.2,∅⟩
structure TbsV (H:Hp)(p:Int)(a:Addr)(ts:List Addr)(cs:List Tv):Prop where
 lst:H a=some (.lst (ts.map V.ref))
 tab:All2 (λt c=>∃ r rs,TabV H p c.1 c.2.1 t r rs c.2.2) ts cs
theorem TbsV.same {H H':Hp}{p:Int}{a:Addr}{ts:List Addr}{cs:List Tv}(h:TbsV H p a ts cs)(s:Same H H'):TbsV H' p a ts cs:=⟨s _ _ h.lst,h.tab.mono λ_ _ ⟨r,rs,k⟩=>⟨r,rs,k.same s⟩⟩
theorem TbsV.at {H:Hp}{p:Int}{a:Addr}{ts:List Addr}{cs:List Tv}(h:TbsV H p a ts cs){i:Nat}{x:V}(e:(ts.map V.ref)[i]?=some x):i<cs.length/\∃ t r rs,x=.ref t/\ts[i]?=some t/\TabV H p (hF cs i) (wF cs i) t r rs (mF cs i):=by
 rw[Jad] at e;cases f:ts[i]? with
 | none=>rw[f] at e;cases e
 | some t=>
  rw[f] at e;cases e;refine Zad (h.tab.at' f) λc ec e97=>?_;obtain⟨r,rs,k⟩:=e97;refine⟨(Jaf.mp ec).1,t,r,rs,rfl,rfl,?_⟩;show TabV H p (cs.getD i t0).1 (cs.getD i t0).2.1 t r rs (cs.getD i t0).2.2;rw[Zaj ec];exact k
def Zic (cs:List Tv)(j:Nat):Nat->List Nv
 | 0=>[]
 | k+1=>Zic cs j k++(mF cs k).getD j []
abbrev Zno (cs:List Tv)(n k:Nat):Mv:=(List.range n).map λj=>Zic cs j k
theorem Zl5 {cs:List Tv}(h:FewC cs){j:Nat}{hh:Int}(hj:(j:Int)<hh):∀ {k:Nat},k<=cs.length->(∀ i,i<k->hF cs i=hh)->((Zic cs j k).length:Int)=Zia (wF cs) k
 | 0,_,_=>rfl
 | k+1,hk,e=>by
  have ih:=Zl5 h hj (k:=k) ∅ λi hi=>e i ∅;unfold Zic Zia;refine Zcf (h.bd k ∅) λ_ _ _ _ e98=>?_;obtain⟨s1,s2⟩:=e98;have e1:=e k ∅;rw[Jah];have:((mF cs k).getD j []).length=wF cs k:=by
   have hj':j<(mF cs k).length:=∅
   rw[Jac,Jaa hj'];exact s2 _ (Jap hj')
  omega
def mid (cs:List Tv)(n k i:Nat):Mv:=(List.range n).map λj=>Zic cs j (if j<i then k+1 else k)
theorem Zvw (cs:List Tv)(n k:Nat):mid cs n k 0=Zno cs n k:=by
 unfold mid Zno;simp
theorem mid_all (cs:List Tv)(n k:Nat):mid cs n k n=Zno cs n (k+1):=by
 unfold mid Zno;refine Jcq λj hj=>?_;rw[if_pos (Ja8.mp hj)]
theorem mid_set (cs:List Tv)(n k i:Nat):(mid cs n k i).set i (Zic cs i (k+1))=mid cs n k (i+1):=by
 unfold mid;apply Jb6;intro j;rw[Jcr];by_cases hij:i=j
 .subst hij;rw[if_pos rfl];by_cases hn:i<n
  .rw [if_pos (by simpa using hn),Jad,Jau hn];simp
  .rw [if_neg (by simpa using hn),Jad,Jaj (by simpa using hn)];rfl
 .rw [if_neg hij,Jad,Jad];by_cases hn:j<n
  .rw [Jau hn];show some (Zic cs j (if j<i then k+1 else k))=some (Zic cs j (if j<i+1 then k+1 else k));by_cases h1:j<i
   .rw [if_pos h1,if_pos ∅]
   .rw [if_neg h1,if_neg ∅]
  .rw [Jaj (by simpa using hn)];rfl
theorem empties {lo:Int}{n:Nat}{D:Addr}{fr:List (Str×Nat)}{σ:L2.St}{te:TE}{H1:Hp}{Q:VK}(hD:H1 D=none)(hn:n<=1000)(ht:∀ (i:Nat) H (Q:VK),(∀ a,H a=none->Q (.ref a) (upd H a (.lst [])))->te (some (.int (lo+(i:Nat)))::Zbv fr σ) H Q)(hQ:∀ (rs:List Addr) H',Same H1 H'->H' D=some (.lst (rs.map V.ref))->rs.length=n->D∉rs->rs.Nodup->(∀ a∈rs,H1 a=none)->(∀ a∈rs,H' a=some (.lst []))->Q (.ref D) H'):Zb6 (Zbq 0) Zfr te (Itr lo n) D (Zg7 1 fr σ) H1 Q:=by
 refine Zg0 (n:=n) (λi vs H=>∃ rs:List Addr,vs=rs.map V.ref/\Same H1 H/\H D=some (.lst (rs.map V.ref))/\rs.length=i/\D∉rs/\rs.Nodup/\(∀ a∈rs,H1 a=none)/\∀ a∈rs,H a=some (.lst [])) ⟨[],rfl,Same.new hD,Zab,rfl,by simp,by simp,by simp,by simp⟩ ?_ (λvs H ⟨rs,e,a,b,c,d,f,g,h⟩=>hQ rs H a b c d f g h);intro i x vs σ' H hi e91;obtain rfl:=e91;intro sh e92;refine Zqt e92 λrs e99 s e hl nD e910=>?_;clear e92;obtain rfl:=e99;refine Za2 e910 λnd fr em=>?_;clear e910;obtain⟨z,rfl⟩:=sh.one;simp only[Ze0,Zbq,Zfr,List.set_cons_zero,Jc1];refine ht i H _ λa ha=>?_;have nDa:D≠a:=Zaf e ha;have s':=Same.new (o:=.lst []) ha;have na:a∉rs:=λz=>by rw[em a z] at ha;cases ha
 refine Zn2 (ws:=rs.map V.ref++[.ref a]) hi Sh.mk1 (s' _ _ e) (Zap (by rw[Jab];exact oz93 hn hi hl)) ⟨rs++[a],Za5 _ _,(s.trans s').upd hD,by rw[Zab,Za5],by rw[Jah,hl];rfl,λz=>?_,?_,λb hb=>?_,λb hb=>?_⟩
 .rcases Jal.mp z with h|h
  .exact nD h
  .exact nDa (Jas.mp h)
 .rw [Jed];exact⟨nd,by simp,λx hx y hy e=>na (by rw[<- Jas.mp hy,<- e];exact hx)⟩
 .rcases Jal.mp hb with h|h
  .exact fr b h
  .rw [Jas.mp h];exact s.free ha
 .rcases Jal.mp hb with h|h
  .rw [Zag (λz=>nD (by rw[<- z];exact h))];exact s' _ _ (em b h)
  .rw [Jas.mp h,Zag nDa.symm];exact Zab
def Zrc (G:Addr):Sp:=λvs H Q E=>∃ (g a:Addr) (p hh:Int) (ts:List Addr) (cs:List Tv),vs=[.ref g,.int hh,.ref a]/\0<=hh/\hh<=24/\TbsV H p a ts cs/\FewC cs /\
 (∀ i,i<cs.length->hF cs i=hh)/\((∀ i,i<cs.length->hF cs i=hh)->∀ t r rs H',Same H H'->New H t r rs->TabV H' p hh (Zia (wF cs) cs.length) t r rs (Zno cs hh.toNat cs.length)->Q (.ref t) H')
theorem ok_side (F:Fun K "side_by_side" "side_by_side" Zd0 f fd)(T:Txt K mg C G S):FnOk P w K mg base CX0 1 f fd ["ground","high","tables"] (Zrc G):=by
 have nd:=Ze4.nd;refine F.ok Ze4 (λvs H Q E h=>?_) (λcdv A outer s H vs Q E hr h=>?_)
 .refine xE6_2 h λg a p hh ts cs e911 _=>?_;clear h;obtain rfl:=e911;rfl
 .refine Zm7 h λg a p hh ts cs e912 h0 h24 e913=>?_;clear h;obtain rfl:=e912;refine Zb0 e913 λhT fc bad good=>?_;clear e913;have few:=fc.few;have tl:=hT.tab.1;refine⟨_,((Zfd (i:=3) (own:=["place"]) (fr:=[]) rfl (Zbj (by kernel_rfl)) (Zej rfl T.n_range ((pv 1)<&>Zaa)) (λ_ _ _ _=>⟨(0<<<["place"]),Zau,(@Zbo _ _ _ _ Zaa)⟩) nd rfl rfl rfl)<*>((Zb2 Ja1 rfl (Za6 (pv 2)) (4>>>nd) ((@Za3 _ _ _ _ _ _ _ _ (Zal Zel ((Zph Zbc)<|>(pvr 4)<||>Zac) (pvr 1) (Zam _)) (@Zan _ _ _ Zc3) Zao)<*>(@Zan _ _ _ (Zb2 Ja1 rfl (Zej rfl T.n_range ((pv 1)<&>Zaa)) (5>>>nd) (@Zan _ _ _ (Zb1 (Zey Jaz PySem.F.slot_list_extend PySem.F.type_list_extend Zmj ((ixJ Zaw)<|>(pvr 3)<||>(pvr 5)) ((Zaw<|>((Zph Zbc)<|>(pvr 4)<||>Zac)<||>(pvr 5))<&>Zaa))))))))<*>(~~~(@Zar _ _ _ _ _ ((pvr 1)<&>((Zba (Zpu rfl) rfl T.n_sum boot_sum ((Zax (own:=["table"]) (fr:=[]) rfl (Zbj (by kernel_rfl)) (Za6 (pv 2)) (λ_ _ _ _=>⟨(0<<<["table"]),Zau,((Zlf K rfl)<|>(pv 0)<||>Zac)⟩))<&>Zaa))<&>((pvr 3)<&>Zaa))))))),?_⟩;walk_at "wp";refine⟨_,rfl,hh,rfl,∅,∅,λD hD=>empties hD ∅ (λi H' Q' q'=>⟨⇑0,λa ha=>q' a ha⟩) λrs H1 s1 hD1 hl1 nD nds fr em=>?_⟩;refine⟨_,rfl,a,rfl,⟨_,SqL.of (s1 _ _ hT.lst)⟩,Zdt (xs:=ts.map V.ref) (λi σ H3=>∃ v4 v5:Option V,σ=[some (.ref g),some (.int hh),some (.ref a),some (.ref D),v4,v5]/\Same H H3/\H3 D=some (.lst (rs.map V.ref))/\All2 (RowV H3 p) rs (Zno cs hh.toNat i)/\∀ j,j<i->hF cs j=hh)
   ⟨none,none,rfl,s1,hD1,⟨by simp;omega,λi x y e1 e2=>?_⟩,λj hj=>∅⟩ (λi σ H3 _ ⟨_,_,_,s3,_⟩=>SqL.of (s3 _ _ hT.lst)) ?_ ?_⟩
  .rw [Jad] at e2;cases h:(List.range hh.toNat)[i]? with
   | none=>rw[h] at e2;cases e2
   | some m=>rw[h] at e2;cases e2;exact⟨[],em x (Jae e1),All2.nil⟩
  .intro i x σ H3 hi e93;refine Zg9 e93 λv4 v5 e914 s3 h3 a3 eq3=>?_;clear e93;obtain rfl:=e914;obtain⟨hic,t,r,rs0,rfl,et,tb⟩:=(hT.same s3).at hi;refine Zcf (fc.bd i hic) λb1 b2 b3 b4 sh=>?_;walk_at "wp";refine⟨_,SqT.of tb.tup,_,rfl,rfl,Zce (λhc=>absurd (bad i hic) (λz=>by simp[z] at hc)) (λhc=>?_)⟩;have hih:hF cs i=hh:=by simpa using hc
   refine⟨_,rfl,hh,rfl,∅,∅,Zbt (λk σ H4=>∃ v5:Option V,σ=[some (.ref g),some (.int hh),some (.ref a),some (.ref D),some (.ref t),v5]/\Same H H4/\H4 D=some (.lst (rs.map V.ref))/\All2 (RowV H4 p) rs (mid cs hh.toNat i k)) ⟨v5,rfl,s3,h3,by rw[Zvw];exact a3⟩ ?_ ?_⟩
   .intro k σ H4 hk e94;refine Zit e94 λu5 e915 s4 h4 a4=>?_;clear e94;obtain rfl:=e915;obtain⟨_,t',r',rs1,z1,et',tb4⟩:=(hT.same s4).at hi;cases z1;rw[et] at et';have hk1:k<rs.length:=by exact oz7 hl1 hk
    have e1:rs[k]?=some rs[k]:=Jaa hk1;have hk2:k<(mF cs i).length:=by have:=sh.1;omega
    have e2:(mF cs i)[k]?=some (mF cs i)[k]:=Jaa hk2;refine Zad (tb4.row.at e2) λb eb e916=>?_;obtain⟨zs,hz1,hz2⟩:=e916;refine Zad (a4.at' e1) λrow er e917=>?_;obtain⟨xs,hx1,hx2⟩:=e917;have erow:row=Zic cs k i:=by
     unfold mid at er;rw[Jad,Jau ∅] at er;have:Zic cs k (if k<k then i+1 else i)=row:=by simpa using er
     rw[<- this,if_neg ∅]
    have fk:=fr _ (Jap hk1);have sl:=sh.2 _ (Jap hk2);have rl:=Zl5 fc (j:=k) (hh:=hh) (oz63 hk) (k:=i) ∅ eq3;have sm:=(fc.sums (n:=i) ∅)
    have lx:=hx2.1;have lz:=hz2.1;rw[erow] at lx;walk_at "wp";have kk:(0:Int)+(k:Int)=((k:Nat):Int):=∅
    rw[kk];refine⟨_,SqL.of h4,.ref rs[k],Zbx Zik (by rw[Jbb,Jad,e1];rfl),.inl ⟨rfl,_,SqL.of hx1⟩,_,SqT.of tb4.tup,_,rfl,_,rfl,_,SqL.of tb4.lst,_,Zbx Zik (by rw[Jbb,Jad,eb];rfl),_,_,xs,zs,rfl,rfl,hx1,hz1,Jbm (Zap ∅),s4.upd fk,?_,?_⟩
    .rw [Zag (λz=>nD (by rw[z];exact Jap hk1))];exact h4
    .rw [<- mid_set];have nself:rs.set k rs[k]=rs:=List.set_getElem_self hk1;have key:All2 (RowV (upd H4 rs[k] (.lst (xs++zs))) p) rs ((mid cs hh.toNat i k).set k (Zic cs k (i+1))):=by
      refine⟨by rw[Jby];exact a4.1,λj c y f1 f2=>?_⟩;rw[Jcr] at f2;by_cases hjk:k=j
      .subst hjk;rw[e1] at f1;cases f1;rw[if_pos rfl] at f2;split at f2
       .cases f2;refine⟨xs++zs,Zab,?_⟩;unfold Zic;rw[Zaj e2,<- erow];exact (hx2.mono λ_ _ q=>q.put hx1).app (hz2.mono λ_ _ q=>q.put hx1)
       .cases f2
      .rw [if_neg hjk] at f2;have ncj:c≠rs[k]:=λz=>hjk (by
        have hj:j<rs.length:=(Jaf.mp f1).1;have e:rs[j]=rs[k]:=by rw[Jaa hj] at f1;cases f1;exact z
        rcases Nat.lt_trichotomy k j with h|h|h
        .exact absurd e.symm (Jcu.mp nds k j hk1 hj h)
        .exact h
        .exact absurd e (Jcu.mp nds j k hj hk1 h))
       exact (a4.2 j c y f1 f2).put hx1 ncj
     exact key
   .intro σ H4 e95;refine Zit e95 λu5 e918 s4 h4 a4=>?_;clear e95;obtain rfl:=e918;exact⟨_,_,rfl,s4,h4,by rw[<- mid_all];exact a4,λj hj=>by
     by_cases h:j=i
     .rw [h];exact hih
     .exact eq3 j (oz44 hj h)⟩
  .intro σ H3 e96;refine Zg9 e96 λv4 v5 e919 s3 h3 a3 eq3=>?_;clear e96;obtain rfl:=e919;walk_at "wp";rw[Jab,tl] at a3 eq3;have hT3:=hT.same s3;refine⟨_,rfl,a,rfl,⟨_,SqL.of hT3.lst⟩,λD2 hD2=>Zg1 (wF cs) hT3.lst hD2 (by rw[Jab];omega) (λi x H' Q' hx s' q'=>?_) λH4 s4 e4=>?_⟩
   .obtain ⟨_,t,r,rs0,rfl,_,tb⟩:=hT3.at hx;exact⟨_,rfl,t,_,_,_,rfl,rfl,SqT.of (s' _ _ tb.tup),rfl,q' H' (Same.refl _)⟩
   .rw [Jab,tl] at e4;refine⟨D2,rfl,_,SqL.of e4,⇑0,λt ht=>?_⟩;rw[Jab,Jat,Zly _ _ _ (Jai _)];have s5:=Same.new (o:=.tup [V.int hh,V.int (Zia (wF cs) cs.length),V.ref D]) ht;have s34:=s4.trans s5;exact good eq3 t D rs _ (s3.trans s34) ⟨(s3.trans s4).free ht,hD,fr⟩ ⟨Zab,s34 _ _ h3,a3.mono λ_ _ q=>q.same s34,nD⟩
end
end Pf
namespace Pf
open PySem L2 L3 PyProof.Rows
section
variable {C G S:Addr}
def nrS (a b:Int):Int×Int:=if b<0 then nrm (-a) (-b) else nrm a b
theorem Zw8 {a b:Int}(h:b≠0):((a.fdiv (if b<0 then -(Int.gcd a b:Int) else (Int.gcd a b:Int)),b.fdiv (if b<0 then -(Int.gcd a b:Int) else (Int.gcd a b:Int))):Int×Int)=nrS a b:=by
 unfold nrS nrm;by_cases hb:b<0
 .simp only [if_pos hb];have e1:∀ z g:Int,z.fdiv (-g)=(-z).fdiv g:=λz g=>by rw[<- Int.neg_fdiv_neg (-z) g,Int.neg_neg]
  have e2:Int.gcd (-a) (-b)=Int.gcd a b:=by rw[Int.gcd_neg,Int.neg_gcd]
  rw[e1,e1,e2,Jb0 _ Zik,Jb0 _ Zik]
 .simp only [if_neg hb];rw[Jb0 _ Zik,Jb0 _ Zik]
def Znl:Sp:=λvs H Q _=>∃ a b:Int,vs=[.int a,.int b]/\Bt NB a/\Bt NB b/\b≠0/\∀ t H',Same H H'->H' t=some (.tup [.int (nrS a b).1,.int (nrS a b).2])->Q (.ref t) H'
theorem Zvj (F:Fun K "fraction" "fraction" Zhj f fd)(T:Txt K mg C G S)(hpt:P.given.tree=none)(Yad:Cal P w K mg base "common_divisor" 4 Znm):FnOk P w K mg base CX0 5 f fd ["top","bottom"] Znl:=by
 have nd:=Zi9.nd;refine F.ok Zi9 (λvs H Q E h=>?_) (λcdv A outer s H vs Q E hr h=>?_)
 .refine Zbh h λa b e92 _=>?_;clear h;obtain rfl:=e92;rfl
 .refine Zg9 h λa b e93 ha hb b0 q=>?_;clear h;obtain rfl:=e93;refine⟨_,((@Za3 _ _ _ _ _ _ _ _ (Zal (Zka Zcs) (pvr 1) Zac (Zam _)) (@Zan _ _ _ Zc3) Zao)<*>((2|||nd|||(Yad<$>hr<$>((pvr 0)<&>((pvr 1)<&>Zaa))))<*>((@Za3 _ _ _ _ _ _ _ _ (Zal (Znu Zj9) (pvr 1) Zac (Zam _)) (@Zan _ _ _ (2|||nd|||(Zu0 Zon (pvr 2)))) Zao)<*>(~~~(@Zar _ _ _ _ _ (((Zcw hpt (Zcg hr))<|>(pvr 0)<&&>(pvr 2))<&>(((Zcw hpt (Zcg hr))<|>(pvr 1)<&&>(pvr 2))<&>Zaa))))))),?_⟩;walk_at "wp";have Zgm:∀ {c A B:Prop} [Decidable c],¬ c->B->if c then A else B:=λhc h=>by rw[if_neg hc];exact h
  refine Zgm (by rw[Jbg b0];decide) ⟨a,b,rfl,ha,hb,λH1 s1=>?_⟩;have g0:0<Int.gcd a b:=Jcw _ b0;have e:=Zw8 (a:=a) b0;refine Zce (λhc=>?_) (λhc=>?_)
  .have hc:=Ja5 hc;rw[if_pos hc] at e;refine⟨_,rfl,∅,∅,⇑0,λt ht=>q t _ (s1.trans (Same.new ht)) ?_⟩;rw[Zab,<- e]
  .have hc:¬ b<0:=λz=>hc (Jao z);rw[if_neg hc] at e;refine⟨_,rfl,∅,_,rfl,∅,⇑0,λt ht=>q t _ (s1.trans (Same.new ht)) ?_⟩;rw[Zab,<- e]
theorem Zrz {b p:Int}(hp:Zg6 p)(h0:0<b)(h1:b<p):Int.gcd b p=1:=by
 have hd1:((Int.gcd b p:Nat):Int) ∣ b:=Jbo b p;have hd2:((Int.gcd b p:Nat):Int) ∣ p:=Jbz b p;have hle:=Int.le_of_dvd h0 hd1;have hpos:0<Int.gcd b p:=Int.gcd_pos_of_ne_zero_left _ ∅;by_cases h:Int.gcd b p=1
 .exact h
 .exact absurd (Int.emod_eq_zero_of_dvd hd2) (hp.2.2 _ ∅ ∅)
theorem inv_end {p z b c:Int}(h:p ∣ z*b-c):(z % p*b) % p=c % p:=by
 obtain⟨k,hk⟩:=h;have e:z % p*b=c+p*(k-z / p*b):=by rw[Int.emod_def];grind
 rw[e,Int.add_mul_emod_self_left]
theorem Zpf {a b:Int}(ha:1<=a)(hb:0<=b):b<=a*b:=by
 have:=Jde ha hb;omega
theorem Ztz {x:Int}(h:x.natAbs<=97):Bt 7 x:=Jbh h ⇑0
def spInv:Sp:=λvs H Q _=>∃ b p:Int,vs=[.int b,.int p]/\Zg6 p/\0<b/\b<p/\∀ r H',Same H H'->0<=r->r<p->(r*b) % p=1->Q (.int r) H'
theorem ok_inv (F:Fun K "inverse" "inverse" Zjg f fd)(T:Txt K mg C G S):FnOk P w K mg base CX0 1 f fd ["rest","prime"] spInv:=by
 have nd:=Zkn.nd;refine F.ok Zkn (λvs H Q E h=>?_) (λcdv A outer s H vs Q E hr h=>?_)
 .refine Zbh h λb p e94 _=>?_;clear h;obtain rfl:=e94;rfl
 .refine Zg9 h λb p e95 hp b0 b1 q=>?_;clear h;obtain rfl:=e95;have p1:=hp.1;have p97:=hp.2.1;refine⟨_,((Zjn (i:=2) (j:=3) rfl nd rfl rfl ⇑0 rfl rfl ((pvr 0)<&>((pvr 1)<&>Zaa)) rfl)<*>((Zbr (@Zar _ _ _ _ _ (Zac<&>(Zac<&>Zaa))) (@Zbw _ _ _ _ _ 2 rfl ((4>>>nd)^^^((5>>>nd)^^^(@Zaz _))) ⇑1 ⇑1))<*>((Zeh Ja1 (Zd3 Zfg (pv 2) Zac (Zam _)) ((6|||nd|||((opJ Zlb)<|>(pvr 3)<&&>(pvr 2)))<*>((Zjn (i:=2) (j:=3) rfl nd rfl rfl ⇑0 rfl rfl (((Znu Zco)<|>(pvr 3)<&&>((opJ Zbk)<|>(pvr 6)<&&>(pvr 2)))<&>((pvr 2)<&>Zaa)) rfl)<*>(@Zan _ _ _ (Zjn (i:=4) (j:=5) rfl nd rfl rfl ⇑0 rfl rfl (((Znu Zco)<|>(pvr 5)<&&>((opJ Zbk)<|>(pvr 6)<&&>(pvr 4)))<&>((pvr 4)<&>Zaa)) rfl)))))<*>(~~~((opJ Zcq)<|>(pvr 4)<&&>(pvr 1)))))),?_⟩;walk_at "wp";refine Zat _ _ ⟨⟨rfl,rfl⟩,⇑0,λt ht=>⟨_,SqT.of Zab,rfl,_,_,rfl,_,_,rfl,rfl,?_⟩⟩;refine⟨λn σ H2=>∃ (lo hi lt ht':Int) (o:Option V),σ=[some (V.int b),some (V.int p),some (V.int lo),some (V.int hi),some (V.int lt),some (V.int ht'),o]/\H2=upd H t (.tup [V.int 1,V.int 0])/\n=lo.toNat/\1<=lo/\lo<hi/\hi<=p/\Int.gcd lo hi=1/\p ∣ lt*b-lo/\p ∣ ht'*b-hi /\
    ∃ u v:Int,0<=u/\0<=v/\lo*v+hi*u=p/\((lt=u/\ht'=-v)\/(lt=-u/\ht'=v)),
   ⟨_,b,p,1,0,none,rfl,rfl,rfl,∅,b1,Int.le_refl _,Zrz hp b0 b1,⟨0,∅⟩,⟨-1,∅⟩,1,0,⇑0,⇑0,∅,.inl ⟨rfl,rfl⟩⟩,?_⟩
  intro n σ H2 e91;refine Zf2 e91 λlo hi lt ht' o e96 e97 e98 e99=>?_;clear e91;obtain rfl:=e96;obtain rfl:=e97;obtain rfl:=e98;refine Zuc e99 λl1 l2 l3 hg d1 d2 e910=>?_;clear e99;obtain⟨u,v,u0,v0,huv,hs⟩:=e910;walk_at "wp";refine Zce (λhc=>?_) (λhc=>?_)
  .have hc:=Ja5 hc;have hm:hi-hi / lo*lo=hi % lo:=by rw[Int.emod_def,Je8 lo]
   have m0:0<=hi / lo:=Jey (oz94 l2 hc) ∅;have m1:hi / lo<=hi:=Int.ediv_le_self _ (oz94 l2 hc);have r0:=Jbr hi (show lo≠0 by omega);have r1:=Jbe hi (show 0<lo by exact Zr9 hc);have hg':Int.gcd (hi % lo) lo=1:=by rw[Jeh,Zpn,Jeh];exact hg
   have r2:1<=hi % lo:=by
    by_cases z:hi % lo=0
    .rw [z,Int.zero_gcd] at hg';omega
    .omega
   have u1:=Zpf (a:=hi) ∅ u0;have v1:=Zpf (a:=lo) ∅ v0;have um:u<=97:=∅
   have vm:v<=97:=∅
   have e3:(hi-hi / lo*lo)*u+lo*(v+hi / lo*u)=p:=by rw[<- huv];grind
   have mu:0<=hi / lo*u:=Jdi m0 u0;refine⟨_,λ_ _ h=>h,⟨Zr9 hc,oz61 p97 l2 l3⟩,(Ztz (oz23 p97 l3 m0 m1)).ok (Ztz (oz51 p97 l2 l3 hc)) ⇑0,_,_,⟨rfl,rfl⟩,(Ztz (oz23 p97 l3 m0 m1)).ok (Ztz (by rcases hs with ⟨h,_⟩|⟨h,_⟩ <;> omega)) ⇑0,_,_,⟨rfl,rfl⟩,(hi % lo).toNat,∅,
    hi-hi / lo*lo,lo,ht'-hi / lo*lt,lt,_,rfl,rfl,by rw[hm],by rw[hm];exact r2,by rw[hm];exact r1,oz35 l2 l3,by rw[hm];exact hg',?_,d1,v+hi / lo*u,∅,u,u0,e3,?_⟩
   .have e:(ht'-hi / lo*lt)*b-(hi-hi / lo*lo)=(ht'*b-hi)-hi / lo*(lt*b-lo):=by grind
    rw[e];exact Int.dvd_sub d2 (Int.dvd_mul_of_dvd_right d1)
   .rcases hs with ⟨h1,h2⟩|⟨h1,h2⟩
    .subst h1 h2;exact .inr ⟨by grind,rfl⟩
    .subst h1 h2;exact .inl ⟨by grind,rfl⟩
  .have hc:¬ 1<lo:=λz=>hc (Jao z);have hl:lo=1:=∅
   subst hl;refine⟨Zr9 p1,q _ _ (Same.new ht) (Jbr _ ∅) (Jbe _ (Zr9 p1)) ?_⟩;rw[inv_end d1,Jcz ⇑0 p1]
def Zng:Sp:=λvs H Q E=>∃ a b p:Int,vs=[.int a,.int b,.int p]/\Zg6 p/\Bt NB a/\b % p≠0/\∀ r H',Same H H'->0<=r->r<p->(r*b-a) % p=0->Q (.int r) H'
theorem Zvb (F:Fun K "rest_of" "rest_of" Zjb f fd)(T:Txt K mg C G S)(Ybx:Cal P w K mg base "inverse" 1 spInv):FnOk P w K mg base CX0 2 f fd ["top","bottom","prime"] Zng:=by
 have nd:=Zkh.nd;refine F.ok Zkh (λvs H Q E h=>?_) (λcdv A outer s H vs Q E hr h=>?_)
 .refine Zex h λa b p e911 _=>?_;clear h;obtain rfl:=e911;rfl
 .refine Zbu h λa b p e912 hp ha e913=>?_;clear h;obtain rfl:=e912;obtain⟨hb,q⟩:=e913;have p1:=hp.1;have p97:=hp.2.1;have b0:=Jbr b (show p≠0 by omega);have b1:=Jbe b (show 0<p by exact Zr9 p1);refine⟨_,((3|||nd|||((opJ Zcq)<|>(pvr 1)<&&>(pvr 2)))<*>((@Za3 _ _ _ _ _ _ _ _ (Zal (Zka Zcs) (pvr 3) Zac (Zam _)) (@Zan _ _ _ Zc3) Zao)<*>(~~~(Zcq<|>(Zbk<|>(pvr 0)<&&>(Ybx<$>hr<$>((pvr 3)<&>((pvr 2)<&>Zaa))))<&&>(pvr 2))))),?_⟩;walk_at "wp";have Zgm:∀ {c A B:Prop} [Decidable c],¬ c->B->if c then A else B:=λhc h=>by rw[if_neg hc];exact h
  refine⟨Zr9 p1,Zgm (by rw[Jbg hb];decide) ?_⟩;refine Zat _ p ⟨rfl,hp,∅,b1,λr H' s' r0 r1 hr1=>⟨r,rfl,ha.ok (Ztz ∅) ⇑0,Zr9 p1,q _ H' s' (Jbr _ ∅) (Jbe _ (Zr9 p1)) ?_⟩⟩;have k1:p ∣ r*(b % p)-1:=Int.dvd_of_emod_eq_zero (by rw[Int.sub_emod,hr1,Jcz ⇑0 p1];rfl);obtain⟨k,hk⟩:=k1;have e:(a*r % p)*b-a=p*(a*k+a*r*(b / p)-a*r / p*b):=by
   rw[Int.emod_def] at hk ⊢
   grind
  rw[e,Int.mul_emod_right]
structure IsQ (p a b:Int)(x:Int×Int):Prop where
 is:Isn p x
 fd:∀ (F:Type) [Lean.Grind.Field F],FdOk p F->(nm x:F)=ic a / ic b
 bt:∀ n:Nat,7<=n->Bt n a->Bt n b->Bt n x.1/\Bt n x.2
theorem Zv1 {a b:Int}(b0:b≠0):IsQ 0 a b (nrS a b):=by
 have key:∀ a b:Int,0<b->IsQ 0 a b (nrm a b):=λa b h=>by
  refine⟨.inl ⟨rfl,?_⟩,λF _ hF=>hF.nrmF rfl h,λn _ ha hb=>?_⟩
  .exact Zsn h
  .have g0:=Zeo (a:=a) h;exact⟨ha.quo (Jbo ..),hb.quo (Jbz ..)⟩
 unfold nrS;by_cases h:b<0
 .rw [if_pos h];obtain⟨h1,h2,h3⟩:=key (-a) (-b) ∅;refine⟨h1,λF _ hF=>?_,λn h7 ha hb=>h3 n h7 ha.neg hb.neg⟩;rw[h2 F hF,Zxc,Zxc];have:(ic b:F)≠0:=hF.ne0 (.inl rfl) b0
  grind
 .rw [if_neg h];exact key a b ∅
theorem Zs2 {p a b r:Int}(hp:Zg6 p)(hb:b % p≠0)(r0:0<=r)(r1:r<p)(h:(r*b-a) % p=0):IsQ p a b (r,1):=by
 have p1:=hp.1;have p97:=hp.2.1;refine⟨.inr ⟨Zr9 p1,r0,r1,rfl⟩,λF _ hF=>?_,λn h7 _ _=>⟨Zbf h7 (by show r.natAbs<128;omega),Zbf h7 (by show (1:Int).natAbs<128;decide)⟩⟩;have e1:(ic b:F)≠0:=by
  rw[<- hF.modF ∅];exact hF.ne0 (.inr ⟨Jbr _ ∅,Jbe _ (Zr9 p1)⟩) hb
 have e2:(ic (r*b-a):F)=0:=by rw[<- hF.modF ∅,h,Zd5]
 rw[Zs7,Zch] at e2;rw[hF.one]
 grind
def Ziy (G:Addr):Sp:=λvs H Q _=>∃ (g:Addr) (p a b:Int),vs=[.ref g,.int a,.int b]/\GAt G H g p/\GroundP p/\Bt NB a/\Bt NB b/\(p=0->b≠0)/\(p≠0->b % p≠0)/\∀ v x H',Same H H'->NumV H' p v x->IsQ p a b x->Q v H'
theorem Zsg {f D:Addr}{fd:FuncData}(F:FunD K "number" "Ground.number" Zay f fd D)(T:Txt K mg C G S)(Ybq:Cal P w K mg base "fraction" 5 Znl)(Ya7:Cal P w K mg base "rest_of" 2 Zng):FnOk P w K mg base CX0 6 f fd ["self","top","bottom"] (Ziy G):=by
 have nd:=Zew.nd;refine F.ok Zew (λvs H Q E h=>?_) (λcdv A outer s H vs Q E hr h=>?_)
 .refine Zk0 h λg p a b e914 _=>?_;clear h;obtain rfl:=e914;rfl
 .refine Zb5 h λg p a b e915 e916 hp e917=>?_;clear h;obtain rfl:=e915;obtain⟨dx,hg⟩:=e916;refine Zcf e917 λha hb h0 h1 q=>?_;clear e917;refine⟨_,((@Za3 _ _ _ _ _ _ _ _ (Zal Zcs (Zbs (pvr 0) rfl) Zac (Zam _)) (~~~(Ybq<$>hr<$>((pvr 1)<&>((pvr 2)<&>Zaa)))) Zao)<*>(~~~(Ya7<$>hr<$>((pvr 1)<&>((pvr 2)<&>((Zbs (pvr 0) rfl)<&>Zaa)))))),?_⟩;walk_at "wp";refine Zcm G dx _ ⟨hg,T.cl_Ground,T.nP,_,Zck p,rfl,Zce (λhc=>?_) (λhc=>?_)⟩
  .have hp0:p=0:=by simpa using hc
   subst hp0;exact Zat a b ⟨rfl,ha,hb,h0 rfl,λt H' s' ht=>q _ _ _ s' (NumV.tup rfl ht) (Zv1 (h0 rfl))⟩
  .have hp0:¬ p=0:=by simpa using hc
   have hp1:Zg6 p:=hp.resolve_left hp0;exact Zcm G dx _ ⟨hg,T.cl_Ground,T.nP,_,Zck p,a,b,p,rfl,hp1,ha,h1 hp0,λr H' s' r0 r1 hr=>q _ (r,1) H' s' (NumV.of (x:=(r,1)) hp0) (Zs2 hp1 (h1 hp0) r0 r1 hr)⟩
def spCmB:Sp:=λvs H Q _=>∃ a b:Int,vs=[.int a,.int b]/\0<a/\0<b/\Bt NB a/\Bt NB b/\∀ m H',Same H H'->0<m->a ∣ m->b ∣ m->m<=a*b->Q (.int m) H'
theorem ok_cmB (F:Fun K "common_multiple" "common_multiple" Zcr f fd)(T:Txt K mg C G S)(hpt:P.given.tree=none)(Yad:Cal P w K mg base "common_divisor" 4 Znm):FnOk P w K mg base CX0 5 f fd ["one","other"] spCmB:=by
 have nd:=Zdq.nd;refine F.ok Zdq (λvs H Q E h=>?_) (λcdv A outer s H vs Q E hr h=>?_)
 .refine Zbh h λa b e918 _=>?_;clear h;obtain rfl:=e918;rfl
 .refine Zis h λa b e919 ha hb ta tb q=>?_;clear h;obtain rfl:=e919;refine⟨_,(~~~(Zbk<|>((Zcw hpt (Zcg hr))<|>(pvr 0)<&&>(Yad<$>hr<$>((pvr 0)<&>((pvr 1)<&>Zaa))))<&&>(pvr 1))),?_⟩;walk_at "wp";have g0:=Zeo (a:=a) hb;have e1:a / (Int.gcd a b:Int)*(Int.gcd a b:Int)=a:=Jcf (Jbo ..);obtain⟨k,hk⟩:(Int.gcd a b:Int) ∣ b:=Jbz ..;have dpos:0<a / (Int.gcd a b:Int):=by
   rcases Jfe 0 (a / (Int.gcd a b:Int)) with h|h|h
   .exact h
   .rw [<- h,Int.zero_mul] at e1;omega
   .have:=Int.mul_neg_of_neg_of_pos h g0;omega
  have bd:Bt NB (a / (Int.gcd a b:Int)):=ta.quo (Jbo ..);have dle:(a / (Int.gcd a b:Int)).natAbs<=a.natAbs:=Zcx a g0 (Jbo ..);refine Zat a b ⟨rfl,ta,tb,λH' s'=>⟨_,rfl,∅,?_⟩⟩;rw[Zfo g0];refine⟨bd.ok tb ⇑0,q _ _ s' (Jd1 dpos hb) ⟨k,?_⟩ ⟨_,Je8 ..⟩ (Jde ∅ (oz83 hb))⟩;generalize (Int.gcd a b:Int)=g at *;generalize a / g=d at *;rw[hk,<- e1,Int.mul_assoc]
abbrev HB:Nat:=33500000
def RowZ (H:Hp)(a:Addr)(zs:List Int):Prop:=H a=some (.lst (zs.map V.int))
theorem RowZ.same {H H':Hp}{a:Addr}{zs:List Int}(h:RowZ H a zs)(s:Same H H'):RowZ H' a zs:=s _ _ h
theorem RowZ.put {H:Hp}{D:Addr}{o:HO}{a:Addr}{zs:List Int}(h:RowZ H a zs)(n:a≠D):RowZ (upd H D o) a zs:=by unfold RowZ;rw[Zag n];exact h
theorem Zgz {a b D:Addr}{xs ys:List V}{fr:List (Str×Nat)}{σ:L2.St}{te:TE}{H1:Hp}{Q:VK}(R:Nat->Hp->V->Prop)(hS:∀ {i H H' y},R i H y->Same H H'->R i H' y)(hP:∀ {i H y l o},R i H y->H D=some (.lst l)->R i (upd H D o) y)(ha:H1 a=some (.lst xs))(hb:H1 b=some (.lst ys))(hlen:ys.length=xs.length)(hD:H1 D=none)(hn:xs.length<=1000)(h:∀ (i:Nat) x y H (Q:VK),xs[i]?=some x->ys[i]?=some y->Same H1 H->(∃ l,H D=some (.lst l))->(∀ u H',Same H H'->R i H' u->Q u H')->te (some x::some y::Zbv fr σ) H Q)(hQ:∀ zs H',Same H1 H'->H' D=some (.lst zs)->zs.length=xs.length->(∀ (i:Nat) y,zs[i]?=some y->R i H' y)->Q (.ref D) H'):Zb6 (Zt6 K 2 (Zie (Zbq 0) (Zie (Zbq 1) Zxd))) Zfr te (Itz K a b) D (Zg7 2 fr σ) H1 Q:=by
 refine Zlo (xs:=xs) (ys:=ys) (λi vs H=>Same H1 H/\H D=some (.lst vs)/\vs.length=i/\∀ (j:Nat) y,vs[j]?=some y->R j H y) hlen ⟨Same.new hD,Zab,rfl,λj y e=>by simp at e⟩ (λi vs H _ p=>⟨SqL.of (p.1 _ _ ha),SqL.of (p.1 _ _ hb)⟩) ?_ (λvs H ⟨s,e,hl,hr⟩=>hQ vs H s e hl hr);intro i x y p vs σ' H hi hx hy hp sh e91;refine Zb0 e91 λs e hl hr=>?_;clear e91;refine Zdl sh.two λz1 z2 e96=>?_;obtain rfl:=e96;have s0:=Same.new (o:=.tup [x,y]) hp;refine Zat p _ ⟨rfl,SqT.of Zab,rfl,_,_,rfl,_,_,rfl,rfl,?_⟩;simp only[Zfr,List.set_cons_zero,List.set_cons_succ,Jc1];refine h i x y _ _ hx hy (s.trans s0) ⟨_,s0 _ _ e⟩ λu H' s' ru=>?_;have s1:=s0.trans s';refine Zn2 (ws:=vs++[u]) hi Sh.mk2 (s1 _ _ e) (Zap (oz93 hn hi hl)) ⟨(s.trans s1).upd hD,Zab,by rw[Jah,hl];rfl,λj v hv=>?_⟩;by_cases hj:j<vs.length
 .rw [Jay hj] at hv;exact hP (hS (hr j v hv) s1) (s1 _ _ e)
 .rw [Jav (Zmd hj)] at hv;have hj0:j-vs.length=0:=by
   by_cases z:j-vs.length=0
   .exact z
   .rw [Jaj (by simp;exact oz10 z)] at hv;cases hv
  rw[hj0] at hv;cases hv;rw[show j=i by exact oz8 hl hj hj0];exact hP ru (s1 _ _ e)
theorem Zuw {H:Hp}{p:Int}{vs:List V}{xs:List Nv}(hp:p≠0)(h:All2 (NumV H p) vs xs):vs=(xs.map λx=>x.1).map V.int:=by
 apply Jb6;intro i;have hl:=h.1;by_cases hi:i<vs.length
 .have e2:xs[i]?=some (xs[i]'(by omega)):=Jaa _;have:=(h.2 i _ _ (Jaa hi) e2).int hp;rw[Jaa hi,this,Jad,Jad,e2];rfl
 .rw [Jaj (Zmd hi),Jaj (by simp;omega)]
structure WRz (p:Int)(xs:List Nv)(zs:List Int)(b:Int):Prop where
 len:zs.length=xs.length
 pos:0<b
 one:p≠0->b=1
 eq:∀ i,zs.getD i 0*(xs.getD i (0,1)).2=(xs.getD i (0,1)).1*b
def Zdk (p:Int)(k:Nat)(xs:List Nv):Prop:=∀ x∈xs,Isn p x/\Bt k x.1/\Bt k x.2
def Zur (G:Addr):Sp:=λvs H Q _=>∃ (g a:Addr) (p:Int) (xs:List Nv) (k:Nat),vs=[.ref g,.ref a]/\GAt G H g p/\GroundP p/\RowV H p a xs/\xs.length<=900/\Zdk p k xs/\1<=k/\(xs.length+1)*k<=NB /\
 ∀ (t l:Addr) (zs:List Int) (b:Int) H',Same H H'->H l=none->H' t=some (.tup [.ref l,.int b])->RowZ H' l zs->WRz p xs zs b->SmallR ((xs.length+1)*k) zs->Bt ((xs.length+1)*k) b->Q (.ref t) H'
theorem ok_wrZ (F:Fun K "whole_row" "whole_row" Zf7 f fd)(T:Txt K mg C G S)(hpt:P.given.tree=none)(Ya5:Cal P w K mg base "common_multiple" 5 spCmB):FnOk P w K mg base CX0 6 f fd ["ground","row"] (Zur G):=by
 have nd:=Zho.nd;refine F.ok Zho (λvs H Q E h=>?_) (λcdv A outer s H vs Q E hr h=>?_)
 .refine Zua h λg a p xs k e97 _=>?_;clear h;obtain rfl:=e97;rfl
 .refine Zf2 h λg a p xs k e98 e99 hp e910=>?_;clear h;obtain rfl:=e98;obtain⟨dx,hg⟩:=e99;refine Zf3 e910 λe911 xl gd k1 kb q=>?_;clear e910;obtain⟨vs,hv,al⟩:=e911;have vl:=al.1;refine⟨_,((@Za3 _ _ _ _ _ _ _ _ (Zal Zel (Zbs (pvr 0) rfl) Zac (Zam _)) (~~~(@Zar _ _ _ _ _ ((Zid Zcl rfl T.n_list Jc6 ((pvr 1)<&>Zaa))<&>(Zac<&>Zaa)))) Zao)<*>((Zaq (i:=2) nd rfl (Or.inr rfl) Zac)<*>((Zb2 Ja1 rfl (Za6 (pv 1)) (3>>>nd) (@Zan _ _ _ (Zaq (i:=2) nd rfl (Or.inr rfl) (Ya5<$>hr<$>((pvr 2)<&>(((Zph Zbc)<|>(pvr 3)<||>Zac)<&>Zaa))))))<*>(~~~(@Zar _ _ _ _ _ ((Zax (own:=["number"]) (fr:=[("bottom",2)]) rfl (Zbj (by kernel_rfl)) (Za6 (pv 1)) (λ_ _ _ _=>⟨(0<<<["number","bottom"]),Zau,(Zbk<|>((Zlf K rfl)<|>(pv 0)<||>Zac)<&&>((Zcw hpt (Zcg hr))<|>(pv 1)<&&>((Zlf K rfl)<|>(pv 0)<||>Zac)))⟩))<&>((pvr 2)<&>Zaa))))))),?_⟩;walk_at "wp";refine Zcm G dx _ ⟨hg,T.cl_Ground,T.nP,_,Zck p,rfl,Zce (λhc=>?_) (λhc=>?_)⟩
  .have hp0:¬ p=0:=by simpa using hc
   refine⟨_,.inl (SqL.of hv),λl hl=>⟨⇑0,λt ht=>?_⟩⟩;have s1:=Same.new (o:=.lst vs) hl;have s2:=Same.new (o:=.tup [V.ref l,V.int 1]) ht;have ev:=Zuw hp0 al;refine q t l (xs.map λx=>x.1) 1 _ (s1.trans s2) hl Zab (by show upd (upd H l (.lst vs)) t _ l=_;rw[s2 _ _ Zab,ev]) ⟨by rw[Jab],⇑0,λ_=>rfl,λi=>?_⟩ (λz hz=>?_) (by
    show (1:Int).natAbs<2 ^ _;exact Nat.one_lt_two_pow (by rw[Jcs];omega))
   .rw [Jac,Jac,Jad];cases e:xs[i]? with
    | none=>rfl
    | some x=>
     rcases (gd _ (Jae e)).1 with ⟨h,_⟩|⟨_,_,_,h⟩
     .exact absurd h hp0
     .show x.1*x.2=x.1*1;rw[h]
   .refine Zad (Jar.mp hz) λx hx e912=>?_;obtain rfl:=e912;refine (gd x hx).2.1.le ?_;rw[Jcs];omega
  .have hp0:p=0:=by simpa using hc
   refine⟨_,rfl,a,rfl,⟨_,SqL.of hv⟩,Zdt (xs:=vs) (λi σ H2=>∃ (v3:Option V) (b:Int),σ=[some (.ref g),some (.ref a),some (.int b),v3]/\Same H H2/\0<b/\b.natAbs<=2 ^ (i*k)/\∀ j,j<i->(xs.getD j (0,1)).2 ∣ b)
    ⟨none,1,rfl,Same.refl _,⇑0,by simp,λj hj=>∅⟩ (λi σ H2 _ ⟨_,_,_,e,_⟩=>SqL.of (e _ _ hv)) ?_ ?_⟩
   .intro i x σ H2 hi e92;refine Zg9 e92 λv3 b e913 s2 b0 bB dv=>?_;clear e92;obtain rfl:=e913;refine Zad (al.at' hi) λy ey hy=>?_;refine Zad (hy.ref hp0) λty e914 hty=>?_;obtain rfl:=e914;refine Za2 (gd y (Jae ey)) λiy by1 by2=>?_;have hil:i<vs.length:=(Jaf.mp hi).1;have kik:i*k+k<=(xs.length+1)*k:=by
     rw[show i*k+k=(i+1)*k by rw[Jcs,Nat.one_mul]];exact Jbu ∅ (Jai _)
    have bT:Bt NB b:=Jbh bB (Jda ⇑0 ∅);have yT:Bt NB y.2:=by2.le ∅;walk_at "wp";refine⟨_,SqT.of (s2 _ _ hty),_,rfl,b,y.2,rfl,b0,iy.pos,bT,yT,λm H3 s3 m0 d1 d2 ml=>⟨_,m,⟨rfl,rfl⟩,s2.trans s3,m0,?_,λj hj=>?_⟩⟩
    .have h1:(b*y.2).natAbs<=2 ^ (i*k)*2 ^ k:=Zb9 bB (Jbm by2);rw[Jcs,Nat.one_mul,Jfl];exact oz57 m0 ml h1
    .by_cases h:j=i
     .subst h;rw[Zaj ey];exact d2
     .exact Int.dvd_trans (dv j (oz44 hj h)) d1
   .intro σ H2 e93;refine Zg9 e93 λv3 b e915 s2 b0 bB dv=>?_;clear e93;obtain rfl:=e915;rw[vl] at bB dv;walk_at "wp";refine⟨_,rfl,a,rfl,⟨_,SqL.of (s2 _ _ hv)⟩,λD hD=>Zg1 (λi=>(xs.getD i (0,1)).1*(b / (xs.getD i (0,1)).2)) (s2 _ _ hv) hD ∅ (λi x H' Q' hx s' q'=>?_) λH1 s1 e1=>?_⟩
    .refine Zad (al.at' hx) λy ey hy=>?_;refine Zad (hy.ref hp0) λty e916 hty=>?_;obtain rfl:=e916;refine Za2 (gd y (Jae ey)) λiy by1 by2=>?_;have hil:i<vs.length:=(Jaf.mp hx).1;have d2:=dv i (oz9 vl hil);have q2:=q' H' (Same.refl _);rw[Zaj ey] at d2 q2;have hty':=(s2.trans s') _ _ hty;have bT:Bt NB b:=Jbh bB (Jda ⇑0 (by rw[Jcs] at kb;omega));have fe:=Zfo (i:=b) iy.pos;refine⟨_,rfl,ty,_,_,_,rfl,rfl,SqT.of hty',rfl,_,rfl,_,rfl,ty,_,_,_,rfl,rfl,SqT.of hty',rfl,_,_,rfl,rfl,(by have:=iy.pos;omega),_,_,rfl,rfl,?_,?_⟩
     .rw [fe];exact (by1.le (m:=NB) (by rw[Jcs] at kb;omega)).ok (bT.quo d2) ⇑0
     .rw [fe];exact q2
    .rw [vl] at e1;refine⟨⇑0,λt ht=>?_⟩;have s3:=Same.new (o:=.tup [V.ref D,V.int b]) ht;refine q t D ((List.range xs.length).map λi=>(xs.getD i (0,1)).1*(b / (xs.getD i (0,1)).2)) b _ ((s2.trans s1).trans s3) (s2.free hD) Zab (s3 _ _ e1) ⟨by rw[Jab,Jat],b0,λh=>absurd hp0 h,λi=>?_⟩ (λz hz=>?_) (Jbh bB (Jda ⇑0 (by rw[Jcs];omega)))
     .rw [Jac,Jad];by_cases hi:i<xs.length
      .have e:xs[i]?=some xs[i]:=Jaa hi;have d2:=dv i hi;rw[Jau hi];show (xs.getD i (0,1)).1*(b / (xs.getD i (0,1)).2)*(xs.getD i (0,1)).2=_;rw[Int.mul_assoc,Jcf d2]
      .rw [Jaj (by simp;exact Zmd hi),Jac,Jaj (Zmd hi)];simp
     .refine Zad (Jar.mp hz) λi hi e917=>?_;obtain rfl:=e917;have hi:=Ja8.mp hi;have e:xs[i]?=some xs[i]:=Jaa hi;have d2:=dv i hi;rw[Zaj e] at d2 ⊢;refine Za2 (gd _ (Jap hi)) λiy by1 by2=>?_;have h1:(b / xs[i].2).natAbs<=b.natAbs:=Zcx b iy.pos d2;have h2:=Zb9 (Jai xs[i].1.natAbs) (Ja3 h1 bB);show (xs[i].1*(b / xs[i].2)).natAbs<2 ^ ((xs.length+1)*k);rw[Jcs,Nat.one_mul,Jfl,Nat.mul_comm];exact Jbh h2 (Nat.mul_lt_mul_of_pos_right by1 (Jbs _))
theorem Zc2 {zs:List Int}{i:Nat}{x:V}(h:(zs.map V.int)[i]?=some x):∃ z,zs[i]?=some z/\x=.int z:=by
 rw[Jad] at h;cases e:zs[i]? with
 | none=>rw[e] at h;cases h
 | some z=>rw[e] at h;cases h;exact⟨z,rfl,rfl⟩
theorem Zjl {zs:List Int}(f:Int->Int):(List.range zs.length).map (λi=>f (zs.getD i 0))=zs.map f:=by
 apply Jb6;intro i;rw[Jad,Jad];by_cases hi:i<zs.length
 .rw [Jau hi,Jaa hi];show some (f (zs.getD i 0))=some (f zs[i]);rw[Zaj (Jaa hi)]
 .rw [Jaj (by simp;exact Zmd hi),Jaj (Zmd hi)];rfl
def Zoq (G:Addr):Sp:=λvs H Q _=>∃ (g a:Addr) (p:Int) (zs:List Int),vs=[.ref g,.ref a]/\GAt G H g p/\GroundP p/\RowZ H a zs/\zs.length<=900/\(p=0->SmallR NB zs) /\
 ∀ (a':Addr) H',Same H H'->RowZ H' a' (Zdm p zs)->(a'=a\/H a'=none)->Q (.ref a') H'
theorem ok_tidy (F:Fun K "tidied" "tidied" Zk7 f fd)(T:Txt K mg C G S)(hpt:P.given.tree=none)(Yad:Cal P w K mg base "common_divisor" 4 Znm):FnOk P w K mg base CX0 5 f fd ["ground","row"] (Zoq G):=by
 have nd:=Zl6.nd;refine F.ok Zl6 (λvs H Q E h=>?_) (λcdv A outer s H vs Q E hr h=>?_)
 .refine Zk0 h λg a p zs e918 _=>?_;clear h;obtain rfl:=e918;rfl
 .refine Zb5 h λg a p zs e919 e920 hp e921=>?_;clear h;obtain rfl:=e919;obtain⟨dx,hg⟩:=e920;refine Zb0 e921 λrz zl sm q=>?_;clear e921;refine⟨_,((@Za3 _ _ _ _ _ _ _ _ (Zal Zel (Zbs (pvr 0) rfl) Zac (Zam _)) (~~~(Zax (own:=["number"]) (fr:=[("ground",0)]) rfl (Zbj (by kernel_rfl)) (Za6 (pv 1)) (λ_ _ _ _=>⟨(0<<<["number","ground"]),Zau,(Zcq<|>(pv 0)<&&>(Znt K rfl (pv 1) rfl))⟩))) Zao)<*>((Zaq (i:=2) nd rfl (Or.inr rfl) Zac)<*>((Zb2 Ja1 rfl (Za6 (pv 1)) (3>>>nd) ((Zaq (i:=2) nd rfl (Or.inr rfl) (Yad<$>hr<$>((pvr 3)<&>((pvr 2)<&>Zaa))))<*>(@Zan _ _ _ (@Za3 _ _ _ _ _ _ _ _ (Zal Zcs (pvr 2) Zac (Zam _)) (~~~(pvr 1)) Zao))))<*>((@Za3 _ _ _ _ _ _ _ _ (Zal Zcs (pvr 2) Zac (Zam _)) (~~~(pvr 1)) Zao)<*>(~~~(Zax (own:=["number"]) (fr:=[("divisor",2)]) rfl (Zbj (by kernel_rfl)) (Za6 (pv 1)) (λ_ _ _ _=>⟨(0<<<["number","divisor"]),Zau,((Zcw hpt (Zcg hr))<|>(pv 0)<&&>(pv 1))⟩))))))),?_⟩;walk_at "wp";refine Zcm G dx _ ⟨hg,T.cl_Ground,T.nP,_,Zck p,rfl,Zce (λhc=>?_) (λhc=>?_)⟩
  .have hp0:¬ p=0:=by simpa using hc
   have p0:=hp.lo;refine⟨_,rfl,a,rfl,⟨_,SqL.of rz⟩,λD hD=>Zg1 (λi=>zs.getD i 0 % p) rz hD (by rw[Jab];exact oz75 zl) (λi x H' Q' hx s' q'=>?_) λH1 s1 e1=>?_⟩
   .refine Zad (Zc2 hx) λz ez e922=>?_;obtain rfl:=e922;have q2:=q' H' (Same.refl _);rw[Zaj ez] at q2;simp only[Zbv];walk_at "wp";exact⟨_,rfl,_,rfl,G,dx,_,s' _ _ hg,T.cl_Ground,T.nP,_,Zck p,_,rfl,∅,q2⟩
   .rw [Jab,Zjl (· % p)] at e1;refine q D H1 s1 ?_ (.inr hD);unfold Zdm;rw[if_neg hp0];exact e1
  .have hp0:p=0:=by simpa using hc
   have sm:=sm hp0;refine⟨_,rfl,a,rfl,⟨_,SqL.of rz⟩,Zdt (xs:=zs.map V.int) (λi σ H2=>∃ (v3:Option V),σ=[some (.ref g),some (.ref a),some (.int (gcdL (zs.take i):Nat)),v3]/\Same H H2/\Bt NB (gcdL (zs.take i):Nat))
    ⟨none,rfl,Same.refl _,Zjz _⟩ (λi σ H2 _ ⟨_,_,e,_⟩=>SqL.of (e _ _ rz)) ?_ ?_⟩
   .intro i x σ H2 hi e94;refine Zav e94 λv3 e923 s2 bg=>?_;clear e94;obtain rfl:=e923;refine Zad (Zc2 hi) λz ez e924=>?_;obtain rfl:=e924;walk_at "wp";have eg:=Ztf ez;have bz:=sm z (Jae ez);refine Zat z _ ⟨rfl,bz,bg,λH3 s3=>?_⟩;rw[<- eg];refine⟨rfl,Zce (λhc=>?_) (λhc=>?_)⟩
    .have hc:(gcdL (zs.take (i+1)):Int)=1:=by simpa using hc
     have h1:gcdL zs=1:=Nat.dvd_one.mp (by have:=Zte zs (i+1);rwa [show gcdL (zs.take (i+1))=1 by omega] at this);refine q a H3 (s2.trans s3) ?_ (.inl rfl);subst hp0;rw[Zuk h1];exact rz.same (s2.trans s3)
    .refine ⟨_,⟨rfl,rfl⟩,s2.trans s3,?_⟩;rw[eg];by_cases z0:z=0
     .subst z0;refine bg.abs_le ?_;simp[Int.gcd]
     .refine bz.abs_le ?_;have:=Int.gcd_le_natAbs_left (gcdL (zs.take i):Int) z0;omega
   .intro σ H2 e95;refine Zav e95 λv3 e925 s2 bg=>?_;clear e95;obtain rfl:=e925;rw[Jab,List.take_length] at *;walk_at "wp";refine Zce (λhc=>?_) (λhc=>?_)
    .have hc:(gcdL zs:Int)=0:=by simpa using hc
     refine q a H2 s2 ?_ (.inl rfl);subst hp0;rw[Ziv ∅];exact rz.same s2
    .have hc:¬ (gcdL zs:Int)=0:=by simpa using hc
     refine⟨_,rfl,a,rfl,⟨_,SqL.of (s2 _ _ rz)⟩,λD hD=>Zg1 (λi=>zs.getD i 0 / (gcdL zs:Int)) (s2 _ _ rz) hD (by rw[Jab];exact oz75 zl) (λi x H' Q' hx s' q'=>?_) λH1 s1 e1=>?_⟩
     .refine Zad (Zc2 hx) λz ez e926=>?_;obtain rfl:=e926;have q2:=q' H' (Same.refl _);rw[Zaj ez,<- Zfo ∅] at q2;exact⟨_,rfl,_,rfl,z,_,rfl,rfl,hc,q2⟩
     .rw [Jab,Zjl (· / (gcdL zs:Int))] at e1;refine q D H1 (s2.trans s1) ?_ (.inr (s2.free hD));unfold Zdm;rw[if_pos hp0];exact e1
def Zk2 (G:Addr):Sp:=λvs H Q _=>∃ (g a l:Addr) (p:Int) (row lead:List Int) (k:Nat),vs=[.ref g,.ref a,.ref l,.int k]/\GAt G H g p/\GroundP p/\RowZ H a row/\RowZ H l lead/\row.length=lead.length/\row.length<=900/\k<row.length/\lead.getD k 0≠0/\SmallR HB row/\SmallR HB lead /\
 ∀ (a':Addr) H',Same H H'->RowZ H' a' (Zbp p row lead k)->(a'=a\/H a'=none)->Q (.ref a') H'
theorem Zvm (F:Fun K "cleared" "cleared" Zjh f fd)(T:Txt K mg C G S)(hpt:P.given.tree=none)(Yad:Cal P w K mg base "common_divisor" 4 Znm)(Yaq:Cal P w K mg base "tidied" 5 (Zoq G)):FnOk P w K mg base CX0 6 f fd ["ground","row","lead","place"] (Zk2 G):=by
 have nd:=Zko.nd;refine F.ok Zko (λvs H Q E h=>?_) (λcdv A outer s H vs Q E hr h=>?_)
 .refine xE7_2 h λg a l p row lead k e927 _=>?_;clear h;obtain rfl:=e927;rfl
 .refine xE7_4 h λg a l p row lead k e928 hg hp e929=>?_;clear h;obtain rfl:=e928;refine Zub e929 λra rl hl wl kl k0 s1 s2 q=>?_;clear e929;refine⟨_,((@Za3 _ _ _ _ _ _ _ _ (Zal Zcs ((ixJ Zaw)<|>(pvr 1)<||>(pvr 3)) Zac (Zam _)) (~~~(pvr 1)) Zao)<*>((4|||nd|||(Yad<$>hr<$>(((ixJ Zaw)<|>(pvr 1)<||>(pvr 3))<&>(((ixJ Zaw)<|>(pvr 2)<||>(pvr 3))<&>Zaa))))<*>((Zaq (i:=5) nd rfl (Or.inr rfl) ((Zcw hpt (Zcg hr))<|>((ixJ Zaw)<|>(pvr 2)<||>(pvr 3))<&&>(pvr 4)))<*>((Zaq (i:=6) nd rfl (Or.inr rfl) ((Zcw hpt (Zcg hr))<|>((ixJ Zaw)<|>(pvr 1)<||>(pvr 3))<&&>(pvr 4)))<*>(~~~(Yaq<$>hr<$>((pvr 0)<&>((Zax (own:=["number","other"]) (fr:=[("keep",5),("take",6)]) rfl (Zbj (by kernel_rfl)) (Zh3 rfl T.n_zip ((pv 1)<&>((pv 2)<&>Zaa))) (λ_ _ _ _=>⟨(@Zde _ K rfl _ _ _ _ 2 rfl ((0<<<["number","other","keep","take"])^^^((1<<<["number","other","keep","take"])^^^(@Zaz _))) ⇑1 ⇑1),Zau,(Zco<|>(Zbk<|>(pv 2)<&&>(pv 0))<&&>(Zbk<|>(pv 3)<&&>(pv 1)))⟩))<&>Zaa)))))))),?_⟩;walk_at "wp";have at_:∀ {zs:List Int},k<zs.length->atI (zs.map V.int) (k:Int)=some (.int (zs.getD k 0)):=λ{zs} h=>by
   refine Zbx Zik ?_;rw[Jbb,Jad,Jaa h,Za4 h];rfl
  refine⟨_,SqL.of ra,_,at_ kl,rfl,Zce (λhc=>?_) (λhc=>?_)⟩
  .have hc:row.getD k 0=0:=by simpa using hc
   refine q a H (Same.refl _) ?_ (.inl rfl);unfold Zbp;rw[if_pos hc];exact ra
  .have hc:¬ row.getD k 0=0:=by simpa using hc
   have cz:Zbp p row lead k=Zdm p (Zkr row lead k):=by unfold Zbp;rw[if_neg hc]
   refine⟨_,SqL.of ra,_,at_ kl,_,SqL.of rl,_,at_ (oz9 hl kl),_,_,rfl,(s1.at k).le ⇑0,(s2.at k).le ⇑0,λH1 t1=>?_⟩;have g0:(0:Int)<(Int.gcd (row.getD k 0) (lead.getD k 0):Int):=by have:=Jcw (row.getD k 0) k0;omega
   refine⟨_,SqL.of (t1 _ _ rl),_,at_ (oz9 hl kl),_,rfl,_,rfl,∅,_,SqL.of (t1 _ _ ra),_,at_ kl,_,rfl,_,rfl,∅,?_⟩;rw[Zfo g0,Zfo g0];have bl:=(s2.at k).quo (Jbz (row.getD k 0) (lead.getD k 0));have br:=(s1.at k).quo (Jbo (row.getD k 0) (lead.getD k 0));have rlen:(Zkr row lead k).length=row.length:=by unfold Zkr;rw[Jd2];omega
   refine⟨_,rfl,_,rfl,a,l,rfl,⟨_,SqL.of (t1 _ _ ra)⟩,⟨_,SqL.of (t1 _ _ rl)⟩,λD hD=>Zgz (λi _ y=>y=.int ((Zkr row lead k).getD i 0)) (λr _=>r) (λr _=>r) (t1 _ _ ra) (t1 _ _ rl) (by rw[Jab,Jab];exact Zu4 hl) hD (by rw[Jab];exact oz75 wl) (λi x y H' Q' hx hy s' _ q'=>?_) λys H2 t2 e2 hyl hys=>?_⟩
   .refine Zad (Zc2 hx) λz ez e930=>?_;obtain rfl:=e930;refine Zad (Zc2 hy) λu eu e931=>?_;obtain rfl:=e931;simp only[Zbv];walk_at "wp";refine⟨_,rfl,_,rfl,bl.ok (s1 z (Jae ez)) ⇑0,_,rfl,_,rfl,br.ok (s2 u (Jae eu)) ⇑0,q' _ H' (Same.refl _) ?_⟩;rw[Zo0 hl,Zaj ez,Zaj eu]
   .rw [Jab] at hyl;have e3:ys=(Zkr row lead k).map V.int:=by
     have e4:=Zjl (zs:=Zkr row lead k) id;rw[List.map_id] at e4;rw[Zn6 hyl hys,<- rlen];exact Jc8 (List.map V.int) e4
    rw[e3] at e2;have sr:SmallR NB (Zkr row lead k):=(Zl3 s1 s2).le ⇑0;have t12:=t1.trans t2;refine Zg8 g D p (Zkr row lead k) ⟨rfl,hg.same t12,hp,e2,oz87 wl rlen,λ_=>sr,λa' H3 t3 r3 fr=>q a' H3 (t12.trans t3) (by rw[cz];exact r3) ?_⟩;rcases fr with rfl|fr
    .exact .inr (t1.free hD)
    .exact .inr (t12.free fr)
end
end Pf
namespace Pf
open PySem L2 L3 PyProof.Rows
section
variable {G PL cL:Addr}
abbrev Zv0:HO:=(HO.tab 155 26 ("leading_row.<locals>." ++ "<lambda>"))
def nzs (Z:List (List Int))(k n:Nat):List Nat:=(List.range n).filter λj=>decide ((Z.getD j []).getD k 0≠0)
theorem Znv {Z:List (List Int)}{k n j:Nat}:j∈nzs Z k n ↔ j<n/\(Z.getD j []).getD k 0≠0:=by
 unfold nzs;rw[List.mem_filter,Ja8,Jd7]
theorem Zvo {Z:List (List Int)}{k n:Nat}:nzs Z k (n+1)=nzs Z k n++(if (Z.getD n []).getD k 0≠0 then [n] else []):=by
 unfold nzs;rw[Jcj,List.filter_append];congr 1;by_cases h:(Z.getD n []).getD k 0≠0
 .rw [if_pos h,List.filter_cons,if_pos (by simpa using h)];rfl
 .rw [if_neg h,List.filter_cons,if_neg (by simpa using h)];rfl
def spLr (PL:Addr):L2.Sp:=λvs H Q _=>∃ (L:Addr) (as:List Addr) (Z:List (List Int)) (k:Nat),vs=[.ref L,.int k]/\H L=some (.lst (as.map V.ref))/\All2 (RowZ H) as Z/\(∀ row∈Z,k<row.length)/\Z.length<=900/\H PL=some Zv0 /\
 (∀ H',Same H H'->(∀ row∈Z,row.getD k 0=0)->Q .non H')/\(∀ (i:Nat) row H',Same H H'->Z[i]?=some row->row.getD k 0≠0->Q (.int i) H')
theorem ok_lr (F:FunC K "leading_row" "leading_row" Zby f fd cL)(T:Txt K mg C G S)(hcb:PySem.W.CodeHd base cL PL):FnOk P w K mg base CX0 1 f fd ["rows","place"] (spLr PL):=by
 have nd:=Zfu.nd;refine F.ok Zfu (λvs H Q E h=>?_) (λA outer s H vs Q E hr h=>?_)
 .refine Zk0 h λL as Z k e92 _=>?_;clear h;obtain rfl:=e92;rfl
 .refine Zb5 h λL as Z k e93 hL al e94=>?_;clear h;obtain rfl:=e93;refine Zcf e94 λwd zl hP q0 q1=>?_;clear e94;have hdep:(A.deeper (envOfC "leading_row" (Zah Zby) s.heap.objs.size f (.ref cL))).depth<recursionLimit:=by have:=hr.dp;omega
  refine⟨_,((Zfd (i:=2) (own:=["at","row"]) (fr:=[("place",1)]) rfl (Zbj (by kernel_rfl)) (Zw2 rfl T.n_enumerate ((pv 0)<&>Zaa)) (λ_ _ _ _=>⟨(@Zde _ K rfl _ _ _ _ 2 rfl ((0<<<["at","row","place"])^^^((1<<<["at","row","place"])^^^(@Zaz _))) ⇑1 ⇑1),(pts_one (Zd3 Zel ((Zds K rfl)<|>(pv 1)<||>(pv 2)) Zac (Zam _))),(pv 0)⟩) nd rfl rfl rfl)<*>(~~~(pe_minL (x:="at") (fr:=[("rows",0),("place",1)]) rfl hdep rfl T.n_min (lam_of (by kernel_rfl)) rfl hcb rfl (λ_ _ _ _ _=>rfl) (pvr 2) (λ_ _ _ _ _=>(Zba Zdv rfl T.n_abs Jfp (((Zds K rfl)<|>((Zds K rfl)<|>(pv 1)<||>(pv 0))<||>(pv 2))<&>Zaa)))))),?_⟩;refine Zgl λX hX=>?_;walk_at "wp";have zal:=al.1;have aft:∀ (D:Addr) (H1:Hp),Same H H1->H1 D=some (.lst ((nzs Z k as.length).map λ(j:Nat)=>V.int j))->X { nx:=λx H'=>Q V.non H',rt:=Q } [some (.ref L),some (.int k),some (.ref D)] H1:=by
   intro D H1 t1 hD;subst hX;walk_at "wp";refine⟨_,SqL.of hD,t1 _ _ hP,λi=>((((Z.getD ((nzs Z k as.length).getD i 0) []).getD k 0).natAbs:Nat):Int),λi v H2 hi t2=>?_,λe H2 t2=>?_,λi v H2 _ hi t2=>?_⟩
   .rw [Jad] at hi;cases e:(nzs Z k as.length)[i]? with
    | none=>rw[e] at hi;cases hi
    | some j=>
     rw[e] at hi;cases hi;obtain⟨h1,h2⟩:=Znv.mp (Jae e);have ea:as[j]?=some as[j]:=Jaa h1;refine Zad (al.at' ea) λrow er ha=>?_;have kr:=wd row (Jae er);have t12:=t1.trans t2;have ew:(nzs Z k as.length).getD i 0=j:=by rw[Jac,e];rfl
     have ez:Z.getD j []=row:=by rw[Jac,er];rfl
     refine⟨_,rfl,L,rfl,_,_,rfl,SqL.of (t12 _ _ hL),_,Zbx Zik (by rw[Jbb,Jad,ea];rfl),_,rfl,as[j],rfl,_,_,rfl,SqL.of (t12 _ _ ha),_,Zbx Zik (by rw[Jbb,Jad,Jaa kr];rfl),row[k],rfl,?_,Same.refl _⟩;show _=((((Z.getD ((nzs Z k as.length).getD i 0) []).getD k 0).natAbs:Nat):Int);rw[ew,ez,Za4 kr];split <;> omega
   .have e0:nzs Z k as.length=[]:=List.map_eq_nil_iff.mp e;refine q0 H2 (t1.trans t2) λrow hr=>?_;refine Zad (Zem hr []) λj hj e95=>?_;obtain rfl:=e95;apply Jb5;intro z;have:j∈nzs Z k as.length:=Znv.mpr ⟨Zc4 zal hj,z⟩;rw[e0] at this;simp at this
   .rw [Jad] at hi;cases e:(nzs Z k as.length)[i]? with
    | none=>rw[e] at hi;cases hi
    | some j=>
     rw[e] at hi;cases hi;obtain⟨h1,h2⟩:=Znv.mp (Jae e);exact q1 j (Z.getD j []) H2 (t1.trans t2) (by rw[Za4 (oz9 zal h1)];exact Jaa _) h2
  refine⟨_,rfl,L,rfl,⟨_,SqL.of hL⟩,λD hD=>Zwj (xs:=as.map V.ref) (λi vs H2=>Same H H2/\H2 D=some (.lst vs)/\vs=(nzs Z k i).map λ(j:Nat)=>V.int j) ⟨Same.new hD,Zab,rfl⟩ (λi vs H2 _ p=>SqL.of (p.1 _ _ hL)) ?_ λvs H2 ⟨t2,e2,e3⟩=>?_⟩
  .intro i x q' vs σ' H2 hi hx hq sh e91;refine Za2 e91 λt2 e2 e3=>?_;clear e91;refine Zdl sh.two λz1 z2 e96=>?_;obtain rfl:=e96;have s0:=Same.new (o:=.tup [.int i,x]) hq;rw[Jad] at hx;cases ea:as[i]? with
   | none=>rw[ea] at hx;cases hx
   | some a=>
    rw[ea] at hx;cases hx;refine Zad (al.at' ea) λrow er ha=>?_;have kr:=wd row (Jae er);have ez:Z.getD i []=row:=by rw[Jac,er];rfl
    have hln:vs.length<=900:=by
     rw[e3,Jab];refine Ja3 (List.length_filter_le _ _) ?_;rw[Jat];rw[Jab] at hi;omega
    simp only[Ze0];refine Zat q' _ ⟨rfl,SqT.of Zab,rfl,_,_,rfl,_,_,rfl,rfl,?_⟩;simp only[List.set_cons_zero,List.set_cons_succ,Zbv];walk_at "wp";refine⟨_,rfl,_,_,rfl,SqL.of ((t2.trans s0) _ _ ha),_,Zbx Zik (by rw[Jbb,Jad,Jaa kr];rfl),rfl,?_⟩;have nx:=Zvo (Z:=Z) (k:=k) (n:=i);rw[ez,Za4 kr] at nx;refine Zce (λhc=>?_) (λhc=>?_)
    .have hc:row[k]≠0:=by simpa using hc
     rw[if_pos hc] at nx;refine Zn2 (ws:=vs++[V.int i]) hi Sh.mk2 (s0 _ _ e2) (Zap (oz75 hln)) ⟨(t2.trans s0).upd hD,Zab,?_⟩;rw[e3,nx,Ja2];rfl
    .have hc:¬ row[k]≠0:=by simpa using hc
     rw[if_neg hc,Jev] at nx;exact leaf0 (ws:=vs) hi Sh.mk2 ⟨t2.trans s0,s0 _ _ e2,by rw[e3,nx]⟩
  .rw [Jab] at e3;rw[e3] at e2;exact aft D H2 t2 e2
def Zm5 (p:Int)(k:Nat)(zs:List Int)(xs:List Nv):Prop:=∃ ws b,WRz p xs ws b/\SmallR ((xs.length+1)*k) ws/\zs=Zdm p ws
def Zfi (p:Int)(k:Nat)(Z:List (List Int))(M:Mv):Prop:=All2 (Zm5 p k) Z M
def Zj3 (p:Int)(k wide:Nat)(M:Mv):Prop:=∀ Z,Zfi p k Z M->∀ j done left pl,j<=wide->Sw p Z j done left pl->∀ row∈done++left,SmallR HB row
structure RowsB (H:Hp)(p:Int)(k W:Nat)(L:Addr)(as:List Addr)(M:Mv):Prop where
 lst:H L=some (.lst (as.map V.ref))
 row:All2 (RowV H p) as M
 wd:∀ xs∈M,xs.length=W
 gd:∀ xs∈M,Zdk p k xs
 h900:M.length<=900
 w900:W<=900
 k1:1<=k
 kb:(W+1)*k<=NB
structure SwH (H H2:Hp)(dA lA pA:Addr)(ds ls:List Addr)(done left:List (List Int))(pl:List Nat):Prop where
 sm:Same H H2
 fd:H dA=none
 fl:H lA=none
 fp:H pA=none
 ne1:dA≠lA
 ne2:dA≠pA
 ne3:lA≠pA
 hd:H2 dA=some (.lst (ds.map V.ref))
 hl:H2 lA=some (.lst (ls.map V.ref))
 hp:H2 pA=some (.lst (pl.map λ(j:Nat)=>V.int j))
 rd:All2 (RowZ H2) ds done
 rl:All2 (RowZ H2) ls left
 nd:∀ a∈ds,H a=none/\a≠dA/\a≠lA/\a≠pA
 nl:∀ a∈ls,H a=none/\a≠dA/\a≠lA/\a≠pA
theorem SwH.same {H H2 H3:Hp}{dA lA pA:Addr}{ds ls:List Addr}{done left:List (List Int)}{pl:List Nat}(h:SwH H H2 dA lA pA ds ls done left pl)(s:Same H2 H3):SwH H H3 dA lA pA ds ls done left pl:=
 ⟨h.sm.trans s,h.fd,h.fl,h.fp,h.ne1,h.ne2,h.ne3,s _ _ h.hd,s _ _ h.hl,s _ _ h.hp,h.rd.mono λ_ _ k=>k.same s,h.rl.mono λ_ _ k=>k.same s,h.nd,h.nl⟩
theorem All2.eraseIdx {α β:Type}{P:α->β->Prop}{xs:List α}{ys:List β}(h:All2 P xs ys)(n:Nat):All2 P (xs.eraseIdx n) (ys.eraseIdx n):=by
 rw[Jct,Jct];exact (h.take n).app (h.drop (n+1))
theorem All2.of_get {α β:Type}{P:α->β->Prop}{xs:List α}{ys:List β}{d:β}(hl:xs.length=ys.length)(h:∀ (i:Nat) x,xs[i]?=some x->P x (ys.getD i d)):All2 P xs ys:=⟨hl,λi x y e1 e2=>by
 have:=h i x e1;rwa [Jac,e2] at this⟩
theorem Zct {p:Int}{k W:Nat}{Z:List (List Int)}{M:Mv}(h0:0<=p)(h:Zfi p k Z M)(wd:∀ xs∈M,xs.length=W):∀ row∈Z,Rw p W row:=λrow hr=>by
 obtain⟨i,hi,e⟩:=Jan.mp hr;refine Zad (h.at' (i:=i) (x:=row) (by rw[Jaa hi,e])) λxs ex e93=>?_;obtain⟨ws,b,w1,_,rfl⟩:=e93;exact Zrp h0 (w1.len.trans (wd xs (Jae ex)))
theorem tyL {H:Hp}{p:Addr}{xs:List V}(h:H p=some (.lst xs)):tyV K "list" (.ref p) H:=.inl ⟨rfl,_,SqL.of h⟩
theorem seqIx {j n:Nat}(h:j<n):PySem.seqIndex? (j:Int) n=some j:=by
 unfold PySem.seqIndex?;simp only[show ¬ ((j:Int)<0) by omega,Jdg];rw[if_pos (by simp;exact oz59 h)];rfl
theorem Zmq {α β:Type}(f:α->β)(xs:List α)(n:Nat):(xs.map f).eraseIdx n=(xs.eraseIdx n).map f:=by
 rw[Jct,Jct,Ja2,List.map_take,List.map_drop]
def Znd (G PL:Addr):L2.Sp:=λvs H Q _=>∃ (g L:Addr) (p:Int) (as:List Addr) (M:Mv) (k W wide:Nat),vs=[.ref g,.ref L,.int wide]/\GAt G H g p/\GroundP p/\RowsB H p k W L as M/\wide<=W/\H PL=some Zv0/\Zj3 p k wide M /\
 ∀ (t F pA:Addr) (rs:List Addr) (Z done left:List (List Int)) (pl:List Nat) H',Same H H'->H' t=some (.tup [.ref F,.ref pA])->H F=none->H pA=none->F≠pA->H' pA=some (.lst (pl.map λ(j:Nat)=>V.int j))->H' F=some (.lst (rs.map V.ref))->All2 (RowZ H') rs (done++left)->(∀ a∈rs,H a=none/\a≠F/\a≠pA)->
  Zfi p k Z M->Sw p Z wide done left pl->Q (.ref t) H'
theorem Zu8 (F:Fun K "swept" "swept" Znp f fd)(T:Txt K mg C G S)(Yai:Cal P w K mg base "whole_row" 6 (Zur G))(Yaq:Cal P w K mg base "tidied" 5 (Zoq G))(Yap:Cal P w K mg base "cleared" 6 (Zk2 G))(Ya0:Cal P w K mg base "leading_row" 1 (spLr PL)):FnOk P w K mg base CX0 7 f fd ["ground","rows","wide"] (Znd G PL):=by
 have nd:=Zox.nd;refine F.ok Zox (λvs H Q E h=>?_) (λcdv A outer s H vs Q E hr h=>?_)
 .refine Zqs h λg L p as M k W wide e94 _=>?_;clear h;obtain rfl:=e94;rfl
 .refine Zqr h λg L p as M k W wide e95 hg hp e96=>?_;clear h;obtain rfl:=e95;refine Zcf e96 λR hw hPL sw q=>?_;clear e96;refine⟨_,((3|||nd|||(@Zbo _ _ _ _ Zaa))<*>((Zfd (i:=4) (own:=["row"]) (fr:=[("ground",0)]) rfl (Zbj (by kernel_rfl)) (Za6 (pv 1)) (λ_ _ _ _=>⟨(0<<<["row","ground"]),Zau,(Yaq<$>hr<$>((pv 1)<&>(((Zlf K rfl)<|>(Yai<$>hr<$>((pv 1)<&>((pv 0)<&>Zaa)))<||>Zac)<&>Zaa)))⟩) nd rfl rfl rfl)<*>((5|||nd|||(@Zbo _ _ _ _ Zaa))<*>((Zb2 Ja1 rfl (Zej rfl T.n_range ((pv 2)<&>Zaa)) (@Zae _ _ 6 _ nd rfl (Or.inr rfl) (Or.inl rfl)) ((7|||nd|||(Ya0<$>hr<$>((pvr 4)<&>((pvr 6)<&>Zaa))))<*>(@Zan _ _ _ (@Za3 _ _ _ _ _ _ _ _ (Zal op_notN (pvr 7) Zo3 (Zam _)) ((Zaq (i:=8) nd rfl (Or.inr rfl) (Zey Jaz PySem.F.slot_list_pop PySem.F.type_list_pop Zvq (pvr 4) ((pvr 7)<&>Zaa)))<*>((Zfd (i:=4) (own:=["row"]) (fr:=[("ground",0),("lead",8),("place",6)]) rfl (Zbj (by kernel_rfl)) (Za6 (pv 4)) (λ_ _ _ _=>⟨(0<<<["row","ground","lead","place"]),Zau,(Yap<$>hr<$>((pv 1)<&>((pv 0)<&>((pv 2)<&>((pv 3)<&>Zaa)))))⟩) nd rfl rfl rfl)<*>((Zb1 (Zey Jaz Ja6 Ja7 (mtJ Zbd) (pvr 3) ((pvr 8)<&>Zaa)))<*>(@Zan _ _ _ (Zb1 (Zey Jaz Ja6 Ja7 (mtJ Zbd) (pvr 5) ((pvr 6)<&>Zaa))))))) Zao))))<*>(~~~(@Zar _ _ _ _ _ ((Zks<|>(pvr 3)<&&>(pvr 4))<&>((pvr 5)<&>Zaa)))))))),?_⟩;walk_at "wp";have p0:=hp.lo;have ml:=R.row.1;have h9:=R.h900;have w9:=R.w900;have k1:=R.k1;have kb:=R.kb;refine⟨⇑0,λdA hdA=>?_⟩;have s1:=Same.new (o:=.lst []) hdA;refine⟨_,rfl,L,rfl,⟨_,SqL.of (s1 _ _ R.lst)⟩,λlA hlA=>Zb3 (λi Hc y=>∃ (a:Addr) (zs:List Int),y=.ref a/\RowZ Hc a zs/\Zm5 p k zs (M.getD i [])/\H a=none/\a≠dA/\a≠lA) (λ⟨a,zs,e,b,c⟩ s=>⟨a,zs,e,b.same s,c⟩) (λ⟨a,zs,e,b,c,d,e',f⟩ hD=>⟨a,zs,e,b.put f,c,d,e',f⟩) (s1 _ _ R.lst) hlA (by rw[Jab];omega) (λi x H' Q' hx s' ⟨lD,hlD⟩ q'=>?_) (λys H1 s2 e2 hyl hys=>?_)⟩
  .refine Zad ((Zbe R.row).at' hx) λrow er e97=>?_;obtain⟨a,rfl,rv⟩:=e97;have hrow:=Jae er;have wr:=R.wd row hrow;have t1:=s1.trans s';refine⟨_,rfl,_,rfl,_,rfl,g,a,p,row,k,rfl,hg.same t1,hp,rv.same t1,oz87 w9 wr,R.gd row hrow,k1,by rw[wr];exact kb,λt l zs b H2 s3 fl ht rz wz sz _=>?_⟩;refine Zg8 t _ 0 _ ⟨rfl,rfl,SqT.of ht,rfl,g,l,p,zs,rfl,hg.same (t1.trans s3),hp,rz,by rw[wz.len];exact oz87 w9 wr,λ_=>sz.le (by rw[wr];exact kb),λa' H3 s4 rz' fr=>?_⟩;have hn:H' a'=none:=by
    rcases fr with rfl|fr
    .exact fl
    .exact s3.free fr
   refine q' _ H3 (s3.trans s4) ⟨a',_,rfl,rz',⟨zs,b,?_,?_,rfl⟩,t1.free hn,λz=>?_,λz=>?_⟩
   .rw [Zaj er];exact wz
   .rw [Zaj er];exact sz
   .rw [z,s' _ _ Zab] at hn;cases hn
   .rw [z,hlD] at hn;cases hn
  rw[Jab] at hyl;obtain⟨ls,rfl,hls⟩:=Zjk (P:=λi a=>∃ zs,RowZ H1 a zs/\Zm5 p k zs (M.getD i [])/\H a=none/\a≠dA/\a≠lA) λi y e=>let ⟨a,zs,h1,h2⟩:=hys i y e;⟨a,h1,zs,h2⟩;rw[Jab] at hyl;obtain⟨Z,hZ⟩:=All2.pick (P:=λ(ai:Addr×Nat) zs=>RowZ H1 ai.1 zs/\Zm5 p k zs (M.getD ai.2 [])/\H ai.1=none/\ai.1≠dA/\ai.1≠lA) (xs:=ls.zipIdx) λai hai=>by
   obtain⟨a,i⟩:=ai;have hi:=Jdd.mp hai;exact hls i a hi
  have zlen:Z.length=ls.length:=by have:=hZ.1;rw[Jfb] at this;exact Zu4 this
  have zat:∀ (i:Nat) (a:Addr) (zs:List Int),ls[i]?=some a->Z[i]?=some zs->RowZ H1 a zs/\Zm5 p k zs (M.getD i [])/\H a=none/\a≠dA/\a≠lA:=λi a zs e1 e2=>by
   have:=hZ.2 i (a,i) zs (by rw[Jen,e1];simp) e2;exact this
  have IR:Zfi p k Z M:=⟨oz22 ml hyl zlen,λi zs xs e1 e2=>by
   have hi:i<ls.length:=by have:=(Jaf.mp e1).1;exact oz9 zlen this
   have:=(zat i _ zs (Jaa hi) e1).2.1;rwa [Zaj e2] at this⟩
  have rlZ:All2 (RowZ H1) ls Z:=⟨Zu4 zlen,λi a zs e1 e2=>(zat i a zs e1 e2).1⟩
  have nlZ:∀ a∈ls,H a=none/\a≠dA/\a≠lA:=λa ha=>by
   obtain⟨i,hi,rfl⟩:=Jan.mp ha;exact (zat i _ _ (Jaa hi) (Jaa (show i<Z.length by exact Zc4 zlen hi))).2.2
  have rwZ:=Zct p0 IR R.wd;refine⟨⇑0,λpA hpA=>?_⟩;have s3:=Same.new (o:=.lst []) hpA;have t1:=s1.trans s2;have t13:=t1.trans s3;have nel:dA≠lA:=λz=>by rw[<- z,Zab] at hlA;cases hlA
  have H1d:H1 dA=some (.lst []):=s2 _ _ Zab;have nep:∀ {b:Addr} {o:HO},H1 b=some o->b≠pA:=λ{b o} e z=>by rw[z,hpA] at e;cases e
  have S0:SwH H (upd H1 pA (.lst [])) dA lA pA [] ls [] Z []:=⟨t13,hdA,s1.free hlA,t1.free hpA,nel,nep H1d,nep e2,by rw[Zag (nep H1d)];exact H1d,by rw[Zag (nep e2)];exact e2,Zab,All2.nil,rlZ.mono λ_ _ r=>r.same s3,λa ha=>by simp at ha,λa ha=>⟨(nlZ a ha).1,(nlZ a ha).2.1,(nlZ a ha).2.2,by
   obtain⟨i,hi,rfl⟩:=Jan.mp ha;refine Zad (rlZ.at' (Jaa hi)) λzs _ hz=>?_;exact nep hz⟩⟩
  refine⟨_,rfl,_,rfl,∅,∅,Zbt (n:=wide) (λi σ H2=>∃ (lA:Addr) (ds ls:List Addr) (done left:List (List Int)) (pl:List Nat) (v6 v7 v8:Option V),σ=[some (.ref g),some (.ref L),some (.int wide),some (.ref dA),some (.ref lA),some (.ref pA),v6,v7,v8]/\SwH H H2 dA lA pA ds ls done left pl/\Sw p Z i done left pl)
   ⟨lA,[],ls,[],Z,[],none,none,none,rfl,S0,Sw.start⟩ ?_ ?_⟩
  .intro i σ H2 hi e91;refine Zqq e91 λlA ds ls done left pl v6 v7 v8 e98 S sw1=>?_;clear e91;obtain rfl:=e98;have I:=sw1.inv p0 rwZ;have rwl:∀ row∈left,Rw p W row:=λrow hr=>I.rw row (Jal.mpr (.inr hr));have zl:=zlen;have ill:=I.all;have idl:=I.len;have smA:=sw Z IR i done left pl ∅ sw1;refine Zqn λD1 hD1=>?_;simp only[Zbq,List.set_cons_zero,List.set_cons_succ];refine Zgl λX hX=>?_;walk_at "wp";have ei:(0:Int)+(i:Int)=(i:Int):=∅
   rw[ei];refine Zg8 lA ls left i ⟨rfl,S.hl,S.rl,λrow hr=>by rw[(rwl row hr).1];omega,∅,S.sm _ _ hPL,λH3 s3 hz=>?_,λj lead H3 s3 hj hk=>?_⟩
   .subst hX;refine cutI λY hY=>?_;walk_at "wp";rw[if_neg ⇑0];subst hD1;exact Zt9 _ _ _ _ _ _ _ _ _ ⟨rfl,S.same s3,Sw.skip sw1 hz⟩
   .have S3:=S.same s3;subst hX;dsimp only;refine cutI λY hY=>?_;walk_at "wp";rw[if_pos ⇑0];subst hY;refine Zgl λX hX=>?_;walk_at "wp";have hjl:j<left.length:=(Jaf.mp hj).1;have hjs:j<ls.length:=by have:=S3.rl.1;exact Zm6 hjl this
    have ej:ls[j]?=some ls[j]:=Jaa hjs;have rlead:=S3.rl.2 j _ _ ej hj;have nlead:=S3.nl _ (Jae ej);generalize ls[j]=aL at *;have hlm:lead∈left:=Jae hj;refine⟨tyL S3.hl,_,S3.hl,∅,∅,j,by rw[Jab];exact seqIx hjs,.ref aL,by rw[Jad,ej];rfl,?_⟩;rw[Zmq];have hlp:upd H3 lA (.lst ((ls.eraseIdx j).map V.ref)) lA=some (.lst ((ls.eraseIdx j).map V.ref)):=Zab;have keep:∀ {b:Addr} {o:HO},b≠lA->H3 b=some o->upd H3 lA (.lst ((ls.eraseIdx j).map V.ref)) b=some o:=λn e=>by rw[Zag n];exact e
    have sm4:Same H (upd H3 lA (.lst ((ls.eraseIdx j).map V.ref))):=S3.sm.upd S3.fl;have re:All2 (RowZ (upd H3 lA (.lst ((ls.eraseIdx j).map V.ref)))) (ls.eraseIdx j) (left.eraseIdx j):=(S3.rl.eraseIdx j).monoM λa _ ha r=>keep (S3.nl a (Jb8 ha)).2.2.1 r;have hd4:=keep S3.ne1 S3.hd;have hp4:=keep (Jco S3.ne3) S3.hp;have rl4:RowZ (upd H3 lA (.lst ((ls.eraseIdx j).map V.ref))) aL lead:=keep nlead.2.2.1 rlead;have rd4:All2 (RowZ (upd H3 lA (.lst ((ls.eraseIdx j).map V.ref)))) ds done:=S3.rd.monoM λa _ ha r=>keep (S3.nd a ha).2.2.1 r;generalize upd H3 lA (.lst ((ls.eraseIdx j).map V.ref))=H4 at *;have elen:(ls.eraseIdx j).length=(left.eraseIdx j).length:=re.1;subst hX;refine Zgl λX hX=>?_;refine⟨_,rfl,lA,rfl,⟨_,SqL.of hlp⟩,λD hD=>Zb3 (λi' Hc y=>∃ a:Addr,y=.ref a/\RowZ Hc a (Zbp p ((left.eraseIdx j).getD i' []) lead i)/\H a=none/\a≠dA/\a≠D/\a≠pA) (λ⟨a,e,b,c⟩ s=>⟨a,e,b.same s,c⟩) (λ⟨a,e,b,c,d,e',f⟩ hD=>⟨a,e,b.put e',c,d,e',f⟩) hlp hD (by rw[Jab];have:=List.length_eraseIdx_le ls j;have:=S3.rl.1;omega) (λi' x H' Q' hx s' ⟨lD,hlD⟩ q'=>?_) (λys H5 s5 e5 hyl hys=>?_)⟩
    .refine Zad ((Zbe re).at' hx) λrow er e99=>?_;obtain⟨a,rfl,rz⟩:=e99;have hm:row∈left:=Jb8 (Jae er);have ha:a∈ls.eraseIdx j:=by
      have:=Jae hx;refine Zad (Jar.mp this) λb hb e=>?_;cases e;exact hb
     have nla:=S3.nl a (Jb8 ha);have rw1:=rwl row hm;have rw2:=rwl lead hlm;refine⟨_,rfl,_,rfl,_,rfl,_,rfl,g,a,aL,p,row,lead,i,rfl,hg.same (sm4.trans s'),hp,rz.same s',rl4.same s',rw1.1.trans rw2.1.symm,by rw[rw1.1];omega,by rw[rw1.1];omega,hk,smA row (Jal.mpr (.inr hm)),smA lead (Jal.mpr (.inr hlm)),λa' H6 s6 rz' fr=>q' _ H6 s6 ⟨a',rfl,?_,?_⟩⟩
     .rw [Zaj er];exact rz'
     .rcases fr with rfl|fr
      .exact ⟨nla.1,nla.2.1,λz=>(by have e1:H4 a'=some _:=rz;rw[z,hD] at e1;cases e1),nla.2.2.2⟩
      .exact ⟨(sm4.trans s').free fr,λz=>(by rw[z,s' _ _ hd4] at fr;cases fr),λz=>(by rw[z,hlD] at fr;cases fr),λz=>(by rw[z,s' _ _ hp4] at fr;cases fr)⟩
    .rw [Jab] at hyl;refine Zad (Zjk (P:=λi' a=>RowZ H5 a (Zbp p ((left.eraseIdx j).getD i' []) lead i)/\H a=none/\a≠dA/\a≠D/\a≠pA) hys) λbs e910 hbs=>?_;obtain rfl:=e910;rw[Jab] at hyl;have neD:∀ {b:Addr} {o:HO},H4 b=some o->b≠D:=λ{b o} e z=>by rw[z,hD] at e;cases e
     have hd5:=s5 _ _ hd4;have hp5:=s5 _ _ hp4;have dlen:=S3.rd.1;have hp6:upd H5 dA (.lst (ds.map V.ref++[V.ref aL])) pA=some (.lst (pl.map λ(j:Nat)=>V.int j)):=by rw[Zag (Jco S3.ne2)];exact hp5
     subst hX;walk_at "wp";refine⟨tyL hd5,_,hd5,by rw[Jab];exact Zap ∅,tyL hp6,_,hp6,by rw[Jab];exact Zap ∅,?_⟩;subst hD1;refine Zt9 D (ds++[aL]) bs (done++[lead]) ((left.eraseIdx j).map (λrow=>Zbp p row lead i)) (pl++[i]) _ _ _ ⟨rfl,⟨?_,hdA,sm4.free hD,S3.fp,neD hd4,S3.ne2,Jco (neD hp4),?_,?_,?_,?_,?_,?_,?_⟩,Sw.take j lead sw1 hj hk⟩
     .exact ((sm4.trans s5).upd hdA).upd S3.fp
     .rw [Zag S3.ne2,Zab,Ja2];rfl
     .rw [Zag (Jco (neD hp4)),Zag (Jco (neD hd4))];exact e5
     .rw [Zab,Ja2];rfl
     .refine All2.app (rd4.monoM λa _ ha r=>?_) (All2.one ?_)
      .exact ((r.same s5).put (S3.nd a ha).2.1).put (S3.nd a ha).2.2.2
      .exact ((rl4.same s5).put nlead.2.1).put nlead.2.2.2
     .refine All2.of_get (d:=[]) (by rw[Jab];exact oz26 elen hyl) λi' b e=>?_;have hi':i'<(left.eraseIdx j).length:=by have:=(Jaf.mp e).1;exact oz24 elen hyl this
      refine Zcf (hbs i' b e) λh1 h2 h3 h4 h5=>?_;rw[Zaj (show _=some _ by rw[Jad,Jaa hi'];rfl)];rw[Za4 hi'] at h1;exact (h1.put h3).put h5
     .intro a ha;rcases Jal.mp ha with ha|ha
      .have hn:=S3.nd a ha;refine⟨hn.1,hn.2.1,?_,hn.2.2.2⟩;obtain⟨i',hi',rfl⟩:=Jan.mp ha;refine Zad (rd4.at' (Jaa hi')) λzs _ hz=>?_;exact neD hz
      .rw [Jas.mp ha];exact⟨nlead.1,nlead.2.1,neD rl4,nlead.2.2.2⟩
     .intro a ha;obtain⟨i',hi',rfl⟩:=Jan.mp ha;refine Zcf (hbs i' _ (Jaa hi')) λh1 h2 h3 h4 h5=>?_;exact⟨h2,h3,h4,h5⟩
  .intro σ H2 e92;refine Zqq e92 λlA ds ls done left pl v6 v7 v8 e911 S sw1=>?_;clear e92;obtain rfl:=e911;have I:=sw1.inv p0 rwZ;have d1:=S.rd.1;have d2:=S.rl.1;have ill:=I.all;have zl:=zlen;walk_at "wp";refine⟨_,S.hd,_,S.hl,by rw[Jab,Jab];exact Jbm (Zap ∅),λF hF=>⟨⇑0,λt ht=>?_⟩⟩;have s4:=Same.new (o:=.lst (ds.map V.ref++ls.map V.ref)) hF;have s5:=Same.new (o:=.tup [V.ref F,V.ref pA]) ht;have s45:=s4.trans s5;have neF:∀ {b:Addr} {o:HO},H2 b=some o->b≠F:=λ{b o} e z=>by rw[z,hF] at e;cases e
   refine q t F pA (ds++ls) Z done left pl _ (S.sm.trans s45) Zab (S.sm.free hF) S.fp (Jco (neF S.hp)) (s45 _ _ S.hp) (s5 _ _ (by rw[Zab,Ja2])) ((S.rd.app S.rl).mono λ_ _ r=>r.same s45) (λa ha=>?_) IR sw1;have hn:H a=none/\a≠dA/\a≠lA/\a≠pA:=by
    rcases Jal.mp ha with ha|ha
    .exact S.nd a ha
    .exact S.nl a ha
   obtain⟨i',hi',e'⟩:=Jan.mp ha;refine Zad ((S.rd.app S.rl).at' (Jaa hi')) λzs _ hz=>?_;rw[e'] at hz;exact⟨hn.1,neF hz,hn.2.2.2⟩
theorem Ztm (xs:List V)(k:Int)(h0:0<=k)(h1:k<=xs.length):Zf1 xs none (some k)=xs.take k.toNat:=by
 unfold Zf1 HT.sIx;have:¬ k<0:=∅
 simp only[this,Jdg,List.drop_zero,Nat.sub_zero];congr 1;exact oz20 h1
theorem cut_hiG (xs:List V)(k:Int)(h0:0<=k)(h1:k<=xs.length):Zf1 xs (some k) none=xs.drop k.toNat:=by
 unfold Zf1 HT.sIx;have e:¬ k<0:=∅
 have e2:min k.toNat xs.length=k.toNat:=by exact oz20 h1
 simp only[e,Jdg,e2];rw[Jc3];rw[Jb2];omega
theorem inv_tab:((List.range 98).all λp=>decide (p<2) || (List.range p).any (λd=>decide (2<=d) && p % d == 0) || (List.range p).all λr=>r == 0 || (List.range p).any λk=>k*r % p == 1)=true:=⋯
theorem inv_ex {p b:Int}(hp:Zg6 p)(hb:b % p≠0):∃ k:Nat,1<=k/\(k:Int)<p/\(k:Int)*b % p=1:=by
 refine Za2 hp λp1 p97 hd=>?_;clear hp;have h:=Jbn.mp inv_tab p.toNat (Ja8.mpr ∅);have ep:((p.toNat:Nat):Int)=p:=Jbt ∅;rw[Jdm,Jdm] at h;rcases h with (h|h)|h
 .have:=Ja5 h;omega
 .refine Zad (Jem.mp h) λd d1 d2=>?_;have d1:=Ja8.mp d1;rw[Jcm] at d2;have d3:=Ja5 d2.1;have d4:p.toNat % d=0:=by simpa using d2.2
  refine absurd ?_ (hd d ∅ (oz63 d1));rw[<- ep,<- Int.natCast_emod,d4];rfl
 .have b0:0<=b % p:=Jbr _ ∅;have b1:b % p<p:=Jbe _ (Zr9 p1);have h:=Jbn.mp h (b % p).toNat (Ja8.mpr ∅);rw[Jdm] at h;rcases h with h|h
  .have:(b % p).toNat=0:=by simpa using h
   omega
  .refine Zad (Jem.mp h) λk k1 k2=>?_;have k1:=Ja8.mp k1;have k2:k*(b % p).toNat % p.toNat=1:=by simpa using k2
   have k3:(k:Int)*(b % p) % p=1:=by
    have e:(((b % p).toNat:Nat):Int)=b % p:=Jbt b0;have:((k*(b % p).toNat % p.toNat:Nat):Int)=1:=by rw[k2];rfl
    rw[Int.natCast_emod,Int.natCast_mul,e,ep] at this;exact this
   refine⟨k,?_,oz63 k1,by rw[emulR] at k3;exact k3⟩;rcases Nat.eq_zero_or_pos k with rfl|h
   .simp at k2
   .exact h
theorem Zr0 {p:Int}(hp:Zg6 p):PrimeN p.toNat:=by
 have p1:=hp.1;have ep:((p.toNat:Nat):Int)=p:=Jbt ∅;refine⟨∅,λr r0 r1=>?_⟩;obtain⟨k,k1,kp,kr⟩:=inv_ex (b:=(r:Int)) hp (by rw[Jcz Zik (oz63 r1)];omega);refine⟨k,∅,?_⟩;rw[<- ep,<- Int.natCast_mul,<- Int.natCast_emod] at kr;omega
theorem Zif {p:Int}(hp:GroundP p):∃ (F:Type) (_:Lean.Grind.Field F),FdOk p F:=by
 rcases hp with rfl|hp
 .exact ⟨Rat,inferInstance,fd_zero⟩
 .have:PrimeN p.toNat:=Zr0 hp;have h:=Zwe (n:=p.toNat);rw[Jbt (by have:=hp.1;omega)] at h;exact⟨Zp p.toNat,inferInstance,h⟩
theorem Zqi {a b D:Addr}{xs ys:List V}{fr:List (Str×Nat)}{σ:L2.St}{te:TE}{H1:Hp}{Q:VK}(g:Nat->Int)(ha:H1 a=some (.lst xs))(hb:H1 b=some (.lst ys))(hlen:ys.length<=xs.length)(hD:H1 D=none)(hn:ys.length<=1000)(h:∀ (i:Nat) x y H (Q:VK),xs[i]?=some x->ys[i]?=some y->Same H1 H->(∀ H',Same H H'->Q (.int (g i)) H')->te (some x::some y::Zbv fr σ) H Q)(hQ:∀ H',Same H1 H'->H' D=some (.lst (((List.range ys.length).map g).map V.int))->Q (.ref D) H'):Zb6 (Zt6 K 2 (Zie (Zbq 0) (Zie (Zbq 1) Zxd))) Zfr te (Itz K a b) D (Zg7 2 fr σ) H1 Q:=by
 refine Zto (xs:=xs) (ys:=ys) (λi vs H=>Same H1 H/\H D=some (.lst vs)/\vs=((List.range i).map g).map V.int) hlen ⟨Same.new hD,Zab,rfl⟩ (λi vs H _ p=>⟨SqL.of (p.1 _ _ ha),SqL.of (p.1 _ _ hb)⟩) ?_ (λvs H ⟨s,e,hv⟩=>hQ H s (by rw[e,hv]));intro i x y p vs σ' H hi hx hy hp sh e91;refine Za2 e91 λs e e94=>?_;clear e91;obtain rfl:=e94;refine Zdl sh.two λz1 z2 e95=>?_;obtain rfl:=e95;have s0:=Same.new (o:=.tup [x,y]) hp;refine Zat p _ ⟨rfl,SqT.of Zab,rfl,_,_,rfl,_,_,rfl,rfl,?_⟩;simp only[Zfr,List.set_cons_zero,List.set_cons_succ,Jc1];refine h i x y _ _ hx hy (s.trans s0) λH' s'=>?_;have s1:=s0.trans s';refine Zn2 (ws:=((List.range (i+1)).map g).map V.int) hi Sh.mk2 (s1 _ _ e) (Zap (by rw[Jab,Jab,Jat];omega)) ⟨(s.trans s1).upd hD,?_,rfl⟩;rw[Zab,Jcj,Ja2,Ja2];rfl
def Zlt (p:Int)(k wide:Nat)(M:Mv):Prop:=∀ Z done left pl,Zfi p k Z M->Sw p Z wide done left pl->∀ t,t<=pl.length->∀ row∈Zbl p pl (done++left) t,SmallR HB row
structure Red (p:Int)(k wide:Nat)(M M':Mv)(pl:List Nat):Prop where
 ex:∃ Z done left,Zfi p k Z M/\Sw p Z wide done left pl/\M'.length=(Zbl p pl (done++left) pl.length).length/\∀ i,i<M'.length->All2 (λz x=>IsQ p z (Za8 pl (Zbl p pl (done++left) pl.length) i) x) ((Zbl p pl (done++left) pl.length).getD i []) (M'.getD i [])
def spRed (G PL:Addr):L2.Sp:=λvs H Q _=>∃ (g L:Addr) (p:Int) (as:List Addr) (M:Mv) (k W wide:Nat),vs=[.ref g,.ref L,.int wide]/\GAt G H g p/\GroundP p/\RowsB H p k W L as M/\wide<=W/\H PL=some Zv0/\Zj3 p k wide M/\Zlt p k wide M /\
 ∀ (t F pA:Addr) (rs:List Addr) (M':Mv) (pl:List Nat) H',Same H H'->H' t=some (.tup [.ref F,.ref pA])->H F=none->H pA=none->F≠pA->H' pA=some (.lst (pl.map λ(j:Nat)=>V.int j))->H' F=some (.lst (rs.map V.ref))->All2 (RowV H' p) rs M'->(∀ a∈rs,H a=none/\a≠F/\a≠pA)->
  Red p k wide M M' pl->Q (.ref t) H'
theorem ok_red (F:Fun K "reduced_rows" "reduced_rows" Zd1 f fd)(T:Txt K mg C G S)(Ya3:Cal P w K mg base "swept" 7 (Znd G PL))(Yap:Cal P w K mg base "cleared" 6 (Zk2 G))(Yar:CalD P w K mg base G "number" 6 (Ziy G) []):FnOk P w K mg base CX0 8 f fd ["ground","rows","wide"] (spRed G PL):=by
 have nd:=Ze5.nd;refine F.ok Ze5 (λvs H Q E h=>?_) (λcdv A outer s H vs Q E hr h=>?_)
 .refine Zqs h λg L p as M k W wide e96 _=>?_;clear h;obtain rfl:=e96;rfl
 .refine Zqr h λg L p as M k W wide e97 hg hp e98=>?_;clear h;obtain rfl:=e97;refine Zf3 e98 λR hw hPL sw sb q=>?_;clear e98;refine⟨_,((Zbr (Ya3<$>hr<$>((pvr 0)<&>((pvr 1)<&>((pvr 2)<&>Zaa)))) (@Zbw _ _ _ _ _ 2 rfl ((@Zae _ _ 3 _ nd rfl (Or.inr rfl) (Or.inl rfl))^^^((4>>>nd)^^^(@Zaz _))) ⇑1 ⇑1))<*>((Zb2 Ja1 rfl (pi_rvl rfl T.n_reversed ((pe_le rfl rfl T.n_list rfl T.n_enumerate ((pv 4)<&>Zaa))<&>Zaa)) (@Zbw _ _ _ _ _ 2 rfl ((@Zae _ _ 5 _ nd rfl (Or.inr rfl) (Or.inl rfl))^^^((@Zae _ _ 6 _ nd rfl (Or.inr rfl) (Or.inl rfl))^^^(@Zaz _))) ⇑1 ⇑1) (@Zan _ _ _ (Zbr (Zax (own:=["row"]) (fr:=[("ground",0),("found",3),("at",5),("place",6)]) rfl (Zbj (by kernel_rfl)) (Za6 (@Zdr _ _ _ _ _ _ _ _ _ _ Zf6 (pv 3) Zfe (@Zei _ _ _ (pv 5)))) (λ_ _ _ _=>⟨(0<<<["row","ground","found","at","place"]),Zau,(Yap<$>hr<$>((pv 1)<&>((pv 0)<&>(((Zds K rfl)<|>(pv 2)<||>(pv 3))<&>((pv 4)<&>Zaa)))))⟩)) (Zr6 (pvr 3) (@Zei _ _ _ (pvr 5))))))<*>((Zfd (i:=7) (own:=["row","place"]) (fr:=[]) rfl (Zbj (by kernel_rfl)) (Zh3 rfl T.n_zip ((pv 3)<&>((pv 4)<&>Zaa))) (λ_ _ _ _=>⟨(@Zde _ K rfl _ _ _ _ 2 rfl ((0<<<["row","place"])^^^((1<<<["row","place"])^^^(@Zaz _))) ⇑1 ⇑1),Zau,((Zds K rfl)<|>(pv 0)<||>(pv 1))⟩) nd rfl rfl rfl)<*>((Zb1 (Zey Jaz PySem.F.slot_list_extend PySem.F.type_list_extend Zmj (pvr 7) ((Zw6<|>(@Zbo _ _ _ _ (Zac<&>Zaa))<&&>(Zco<|>(Zba Zas rfl T.n_len Jbf ((pvr 3)<&>Zaa))<&&>(Zba Zas rfl T.n_len Jbf ((pvr 4)<&>Zaa))))<&>Zaa)))<*>(~~~(@Zar _ _ _ _ _ ((Zax (own:=["row","lead"]) (fr:=[("ground",0)]) rfl (Zbj (by kernel_rfl)) (Zh3 rfl T.n_zip ((pv 3)<&>((pv 7)<&>Zaa))) (λ_ _ _ _=>⟨(@Zde _ K rfl _ _ _ _ 2 rfl ((0<<<["row","lead","ground"])^^^((@Zae _ _ 1 _ (show (["row","lead","ground"]:List Str).Nodup by decide +kernel) rfl (Or.inr rfl) (Or.inl rfl))^^^(@Zaz _))) ⇑1 ⇑1),Zau,(Zax (own:=["number"]) (fr:=[("ground",2),("lead",1)]) rfl (Zbj (by kernel_rfl)) (Zgx K rfl (pv 0)) (λ_ _ _ _=>⟨(0<<<["number","ground","lead"]),Zau,(Zla T.cl_Ground Yar hr.m (pv 1) ((pv 0)<&>((pv 2)<&>Zaa)))⟩))⟩))<&>((pvr 4)<&>Zaa)))))))),?_⟩;walk_at "wp";refine xI8_1 g L p as M k W wide ⟨rfl,hg,hp,R,hw,hPL,sw,λt F pA rs Z done left pl H1 s1 ht hF hpA nFp ep eF rz nrs IR sw1=>?_⟩;refine⟨t,rfl,_,SqT.of ht,rfl,_,_,rfl,_,_,rfl,rfl,?_⟩;have p0:=hp.lo;have ml:=R.row.1;have h9:=R.h900;have w9:=R.w900;have rwZ:=Zct p0 IR R.wd;have I:=sw1.inv p0 rwZ;have zM:=IR.1;have ill:=I.all;have idl:=I.len;have sbA:=sb Z done left pl IR sw1;have plw:∀ j,j<pl.length->pl.getD j 0<W:=λj hj=>by have:=I.lt j hj;omega
  -- list(enumerate(places))
  refine⟨_,rfl,pA,_,rfl,SqL.of ep,λEL ps H2 s2 fE nE eE pl2 etup=>?_⟩;rw[Jab] at pl2;have pll:pl.length<=900:=∅
  refine Zat EL _ ⟨rfl,SqL.of eE,for_rvl (xs:=ps.map V.ref) (λi σ H3=>∃ (v5 v6:Option V) (rs2:List Addr),σ=[some (.ref g),some (.ref L),some (.int wide),some (.ref F),some (.ref pA),v5,v6,none]/\Same H H3/\H3 pA=some (.lst (pl.map λ(j:Nat)=>V.int j))/\H3 EL=some (.lst (ps.map V.ref))/\(∀ (j:Nat) q',ps[j]?=some q'->H3 q'=some (.tup [.int j,.int (pl.getD j 0:Nat)])) /\
    H3 F=some (.lst (rs2.map V.ref))/\All2 (RowZ H3) rs2 (Zbl p pl (done++left) i)/\∀ a∈rs2,H a=none/\a≠F/\a≠pA)
   ⟨none,none,rs,rfl,s1.trans s2,s2 _ _ ep,eE,λj q' e=>?_,s2 _ _ eF,rz.mono λ_ _ r=>r.same s2,nrs⟩ (λi σ H3 _ ⟨_,_,_,_,_,_,h,_⟩=>SqL.of h) ?_ ?_⟩
  .have hj:j<pl.length:=by have:=(Jaf.mp e).1;exact oz9 pl2 this
   refine etup j q' _ e ?_;rw[Jad,Jaa hj,Za4 hj];rfl
  .intro i x σ H3 hi hx e92;refine Zbu e92 λv5 v6 rs2 e99 sm ep3 e910=>?_;clear e92;obtain rfl:=e99;refine Zcf e910 λeE3 et3 eF3 rz3 nr3=>?_;clear e910;rw[Jab] at hi hx;have hat:pl.length-1-i<ps.length:=∅
   rw[show ps.length-1-i=pl.length-1-i by exact oz18 pl2,Jad,Jaa hat] at hx;cases hx;have hp3:=et3 _ _ (Jaa hat);refine Zqn λD1 hD1=>?_;walk_at "wp";refine⟨_,SqT.of hp3,rfl,_,_,rfl,_,_,rfl,rfl,?_⟩;obtain⟨Fd,_,hFd⟩:=Zif hp;have B:=Sw.back p0 I hFd i ∅;have bl:=B.len;have pv:=B.piv (pl.length-1-i) ∅;have smB:=sbA i ∅;have bdef:Zbl p pl (done++left) (i+1)=((Zbl p pl (done++left) i).take (pl.length-1-i)).map (λrow=>Zbp p row ((Zbl p pl (done++left) i).getD (pl.length-1-i) []) (pl.getD (pl.length-1-i) 0))++(Zbl p pl (done++left) i).drop (pl.length-1-i):=rfl;rw[bdef] at hD1;have wk:=plw (pl.length-1-i) ∅;have hatl:pl.length-1-i<(Zbl p pl (done++left) i).length:=∅
   generalize pl.length-1-i=at' at *;generalize Zbl p pl (done++left) i=Ri at *;generalize hk:pl.getD at' 0=kk at *;have rl3:=rz3.1;have leadm:Ri.getD at' []∈Ri:=Za0 hatl;have kz:(Ri.getD at' []).getD kk 0≠0:=λz=>pv (Ziu z);have ea:rs2[at']?=some (rs2[at']'(Zm6 hatl rl3)):=Jaa _;have rlead:=rz3.2 at' _ _ ea (Jaa hatl);rw[<- Za4 hatl (d:=[])] at rlead;generalize rs2[at']'(Zm6 hatl rl3)=aL at *;generalize Ri.getD at' []=lead at *;have rwl:=B.rw lead leadm;have neF:∀ {b:Addr} {o:HO},H3 b=some o->∀ {D:Addr},H3 D=none->b≠D:=λ{b o} e {D} h z=>by rw[z,h] at e;cases e
   refine⟨_,rfl,_,rfl,_,rfl,F,_,rfl,SqL.of eF3,λS hS=>?_⟩;have sS:=Same.new (o:=.lst (Zf1 (rs2.map V.ref) none (some (at':Int)))) hS;have ecut:Zf1 (rs2.map V.ref) none (some (at':Int))=(rs2.take at').map V.ref:=by
    rw[Ztm _ _ Zik (by rw[Jab];omega),Jbb,List.map_take]
   rw[ecut] at sS ⊢;have rzT:All2 (RowZ H3) (rs2.take at') (Ri.take at'):=rz3.take at';refine⟨S,rfl,⟨_,SqL.of Zab⟩,λD hD=>Zb3 (λi' Hc y=>∃ a:Addr,y=.ref a/\RowZ Hc a (Zbp p ((Ri.take at').getD i' []) lead kk)/\H a=none/\a≠F/\a≠D/\a≠pA) (λ⟨a,e,b,c⟩ s=>⟨a,e,b.same s,c⟩) (λ⟨a,e,b,c,d,e',f⟩ hD=>⟨a,e,b.put e',c,d,e',f⟩) Zab hD (by rw[Jab,Jbc];exact oz39 h9 zM bl rl3) (λi' x H' Q' hx s' ⟨lD,hlD⟩ q'=>?_) (λys H5 s5 e5 hyl hys=>?_)⟩
   .refine Zad ((Zbe rzT).at' hx) λrow er e911=>?_;obtain⟨a,rfl,rz'⟩:=e911;have hm:row∈Ri:=Jcb (Jae er);have ha:a∈rs2:=by
     have:=Jae hx;refine Zad (Jar.mp this) λb hb e=>?_;cases e;exact Jcb hb
    have nla:=nr3 a ha;have rw1:=B.rw row hm;have sT:=sS.trans s';refine⟨_,rfl,_,rfl,_,rfl,_,rfl,F,_,_,_,rfl,rfl,SqL.of (sT _ _ eF3),Zbx Zik (by rw[Jbb,Jad,ea];rfl),_,rfl,g,a,aL,p,row,lead,kk,rfl,hg.same (sm.trans sT),hp,rz'.same sT,rlead.same sT,rw1.1.trans rwl.1.symm,by rw[rw1.1];omega,by rw[rw1.1];exact wk,kz,smB row hm,smB lead leadm,λa' H6 s6 rz6 fr=>q' _ H6 s6 ⟨a',rfl,?_,?_⟩⟩
    .rw [Zaj er];exact rz6
    .rcases fr with rfl|fr
     .exact ⟨nla.1,nla.2.1,λz=>(by have e1:H3 a'=some _:=rz';have e2:=sS _ _ e1;rw[z,hD] at e2;cases e2),nla.2.2⟩
     .exact ⟨(sm.trans sT).free fr,λz=>(by rw[z,sT _ _ eF3] at fr;cases fr),λz=>(by rw[z,hlD] at fr;cases fr),λz=>(by rw[z,sT _ _ ep3] at fr;cases fr)⟩
   .rw [Jab,Jbc] at hyl;refine Zad (Zjk (P:=λi' a=>RowZ H5 a (Zbp p ((Ri.take at').getD i' []) lead kk)/\H a=none/\a≠F/\a≠D/\a≠pA) hys) λbs e912 hbs=>?_;obtain rfl:=e912;rw[Jab] at hyl;have sT:=sS.trans s5;have eF5:=sT _ _ eF3;have FneD:F≠D:=λz=>by have:=sS _ _ eF3;rw[z,hD] at this;cases this
    have FnE:F≠EL:=λz=>by rw[<- z,eF] at fE;cases fE
    refine⟨_,rfl,D,rfl,_,eF5,_,e5,FneD,Zik,by rw[Jab];omega,by rw[Jab,Jab];exact Ja3 (show _<=2000 by exact oz27 h9 zM bl rl3 hyl) ⇑0,?_⟩;subst hD1;have ed:List.map V.ref bs++List.drop ((at':Int)).toNat (rs2.map V.ref)=(bs++rs2.drop at').map V.ref:=by rw[Jbb,Ja2,List.map_drop]
    rw[ed];refine Zcm _ _ (bs++rs2.drop at') ⟨rfl,(sm.trans sT).upd hF,by rw[Zag (Jco nFp)];exact sT _ _ ep3,by rw[Zag (Jco FnE)];exact sT _ _ eE3,λj q' e=>?_,Zab,?_,λa ha=>?_⟩
    .have h1:=sT _ _ (et3 j q' e);rw[Zag (Zez h1 eF5 (by intro z;cases z))];exact h1
    .refine All2.app (All2.of_get (d:=[]) (by rw[Jab,Jbc];exact oz12 rl3 hyl) λi' b e=>?_) ((rz3.drop at').monoM λa _ ha r=>?_)
     .have hi':i'<(Ri.take at').length:=by have:=(Jaf.mp e).1;rw[Jbc];exact oz36 rl3 hyl this
      refine Zcf (hbs i' b e) λh1 h2 h3 h4 h5=>?_;rw[Zaj (show _=some _ by rw[Jad,Jaa hi'];rfl)];rw[Za4 hi'] at h1;exact h1.put h3
     .exact (r.same sT).put (nr3 a (Jck ha)).2.1
    .rcases Jal.mp ha with ha|ha
     .obtain ⟨i',hi',rfl⟩:=Jan.mp ha;refine Zcf (hbs i' _ (Jaa hi')) λh1 h2 h3 h4 h5=>?_;exact⟨h2,h3,h5⟩
     .exact nr3 a (Jck ha)
  .intro σ H3 e93;refine Zbu e93 λv5 v6 rs2 e913 sm ep3 e914=>?_;clear e93;obtain rfl:=e913;refine Zcf e914 λeE3 et3 eF3 rz3 nr3=>?_;clear e914;rw[Jab,pl2] at rz3;obtain⟨Fd,_,hFd⟩:=Zif hp;have B:=Sw.back p0 I hFd pl.length (Jai _);have bl:=B.len;have smB:=sbA pl.length (Jai _);have ldm:=B.lead;have q9:∀ (t F pA:Addr) (rs:List Addr) (M':Mv) H',Same H H'->H' t=some (.tup [.ref F,.ref pA])->H F=none->H pA=none->F≠pA->H' pA=some (.lst (pl.map λ(j:Nat)=>V.int j))->H' F=some (.lst (rs.map V.ref))->All2 (RowV H' p) rs M'->(∀ a∈rs,H a=none/\a≠F/\a≠pA)->
     M'.length=(Zbl p pl (done++left) pl.length).length->(∀ i,i<M'.length->All2 (λz x=>IsQ p z (Za8 pl (Zbl p pl (done++left) pl.length) i) x) ((Zbl p pl (done++left) pl.length).getD i []) (M'.getD i []))->Q (.ref t) H':=λt F pA rs M' H' a1 a2 a3 a4 a5 a6 a7 a8 a9 b1 b2=>q t F pA rs M' pl H' a1 a2 a3 a4 a5 a6 a7 a8 a9 ⟨Z,done,left,IR,sw1,b1,b2⟩
   generalize Zbl p pl (done++left) pl.length=Rf at *;have rl3:=rz3.1;have z2:2000<=sizeLine:=⇑0
   walk_at "wp";refine⟨_,rfl,_,rfl,F,pA,rfl,⟨_,SqL.of eF3⟩,⟨_,SqL.of ep3⟩,λD hD=>Zqi (λi=>(Rf.getD i []).getD (pl.getD i 0) 0) eF3 ep3 (by rw[Jab,Jab];omega) hD (by rw[Jab];exact oz75 pll) (λi x y H' Q' hx hy s' q'=>?_) λH4 s4 e4=>?_⟩
   .refine Zad ((Zbe rz3).at' hx) λrow er e915=>?_;obtain⟨a,rfl,rz'⟩:=e915;rw[Jad] at hy;cases ey:pl[i]? with
    | none=>rw[ey] at hy;cases hy
    | some k'=>
     rw[ey] at hy;cases hy;have hil:i<pl.length:=(Jaf.mp ey).1;have kw:=plw i hil;have ek:pl.getD i 0=k':=by rw[Jac,ey];rfl
     have rw1:=B.rw row (Jae er);have q2:=q' H' (Same.refl _);rw[ek,show Rf.getD i []=row by rw[Jac,er];rfl] at q2;rw[ek] at kw;have kr:k'<row.length:=by rw[rw1.1];exact kw
     rw[Za4 kr] at q2;exact⟨_,rfl,_,rfl,a,_,_,_,rfl,rfl,SqL.of (s' _ _ rz'),Zbx Zik (by rw[Jbb,Jad,Jaa kr];rfl),q2⟩
   rw[Jab] at e4;refine⟨tyL e4,⇑0,λq1 hq1=>?_⟩;have s5:=Same.new (o:=.lst [V.int 1]) hq1;refine⟨_,.inl (SqL.of (s5 _ _ (s4 _ _ eF3))),_,.inl (SqL.of (s5 _ _ (s4 _ _ ep3))),?_⟩;rw[Jab,Jab];refine Zcm q1 _ _ ⟨rfl,rfl,Zab,∅,oz67 h9 zM bl rl3,by show 1*_<=_;exact oz55 h9 zM bl rl3 z2,λq2 hq2=>?_⟩;have s6:=Same.new (o:=.lst (List.replicate ((rs2.length:Int)-(pl.length:Int)).toNat [V.int 1]).flatten) hq2;have s56:=s5.trans s6;refine Zg8 D q2 _ _ ⟨rfl,rfl,s56 _ _ e4,Zab,by rw[Jab,Jab,Jat,Zsu];show pl.length+_*1<=_;exact oz29 h9 zM pll bl rl3 z2,?_⟩;have eL:((List.range pl.length).map λi=>(Rf.getD i []).getD (pl.getD i 0) 0).map V.int++(List.replicate ((rs2.length:Int)-(pl.length:Int)).toNat [V.int 1]).flatten=((List.range rs2.length).map (Za8 pl Rf)).map V.int:=by
    rw[show rs2.length=pl.length+((rs2.length:Int)-(pl.length:Int)).toNat by exact oz30 ill idl bl rl3];generalize ((rs2.length:Int)-(pl.length:Int)).toNat=d;rw[show ((pl.length+d:Nat):Int)-(pl.length:Int)=d by omega,Jbb,List.range_add,Ja2,Ja2];congr 1
    .refine Jc8 _ (Jcq λi hi=>?_);unfold Za8;rw[if_pos (Ja8.mp hi)]
    .have e1:∀ i∈List.range d,Za8 pl Rf (pl.length+i)=1:=λi _=>by
      unfold Za8;rw[if_neg ∅]
     have e2:((List.range d).map λx=>pl.length+x).map (Za8 pl Rf)=(List.range d).map λ_=>(1:Int):=by
      rw[Jek];exact Jcq λi hi=>e1 i hi
     rw[e2];clear e1 e2
     induction d with
     | zero=>rfl
     | succ d ih=>rw[List.replicate_succ',List.flatten_append,ih,Jcj,Ja2,Ja2];rfl
   rw[eL];have eD:upd (upd (upd H4 q1 (.lst [V.int 1])) q2 (.lst (List.replicate ((rs2.length:Int)-(pl.length:Int)).toNat [V.int 1]).flatten)) D (.lst (((List.range rs2.length).map (Za8 pl Rf)).map V.int)) D=some (.lst (((List.range rs2.length).map (Za8 pl Rf)).map V.int)):=Zab;have nFD:F≠D:=λz=>by rw[z,hD] at eF3;cases eF3
   have npD:pA≠D:=λz=>by rw[z,hD] at ep3;cases ep3
   have t46:=s4.trans s56;have sm7:Same H (upd (upd (upd H4 q1 (.lst [V.int 1])) q2 (.lst (List.replicate ((rs2.length:Int)-(pl.length:Int)).toNat [V.int 1]).flatten)) D (.lst (((List.range rs2.length).map (Za8 pl Rf)).map V.int))):=(sm.trans t46).upd (sm.free hD);have eF7:upd (upd (upd H4 q1 (.lst [V.int 1])) q2 (.lst (List.replicate ((rs2.length:Int)-(pl.length:Int)).toNat [V.int 1]).flatten)) D (.lst (((List.range rs2.length).map (Za8 pl Rf)).map V.int)) F=some (.lst (rs2.map V.ref)):=by rw[Zag nFD];exact t46 _ _ eF3
   have ep7:upd (upd (upd H4 q1 (.lst [V.int 1])) q2 (.lst (List.replicate ((rs2.length:Int)-(pl.length:Int)).toNat [V.int 1]).flatten)) D (.lst (((List.range rs2.length).map (Za8 pl Rf)).map V.int)) pA=some (.lst (pl.map λ(j:Nat)=>V.int j)):=by rw[Zag npD];exact t46 _ _ ep3
   have rz7:All2 (RowZ (upd (upd (upd H4 q1 (.lst [V.int 1])) q2 (.lst (List.replicate ((rs2.length:Int)-(pl.length:Int)).toNat [V.int 1]).flatten)) D (.lst (((List.range rs2.length).map (Za8 pl Rf)).map V.int)))) rs2 Rf:=rz3.mono λa _ r=>(r.same t46).put λz=>by have e1:H3 a=some _:=r;rw[z,hD] at e1;cases e1
   generalize upd (upd (upd H4 q1 (.lst [V.int 1])) q2 (.lst (List.replicate ((rs2.length:Int)-(pl.length:Int)).toNat [V.int 1]).flatten)) D (.lst (((List.range rs2.length).map (Za8 pl Rf)).map V.int))=H7 at *;obtain⟨dg,hg0⟩:=hg;refine⟨_,rfl,_,rfl,F,D,rfl,⟨_,SqL.of eF7⟩,⟨_,SqL.of eD⟩,λN hN=>Zgz (λi Hc y=>∃ (a:Addr) (xs:List Nv),y=.ref a/\RowV Hc p a xs/\All2 (λz x=>IsQ p z (Za8 pl Rf i) x) (Rf.getD i []) xs/\H a=none/\a≠N/\a≠pA) (λ⟨a,xs,e,b,c⟩ s=>⟨a,xs,e,b.same s,c⟩) (λ⟨a,xs,e,b,c,d,e',f⟩ hD=>⟨a,xs,e,b.put hD e',c,d,e',f⟩) eF7 eD (by simp) hN (by rw[Jab];omega) (λi x y H' Q' hx hy s' ⟨lD,hlD⟩ q'=>?_) λys H8 s8 e8 hyl hys=>?_⟩
   .refine Zad ((Zbe rz7).at' hx) λrow er e916=>?_;obtain⟨a,rfl,rz'⟩:=e916;refine Zad (Zc2 hy) λu hu e917=>?_;obtain rfl:=e917;have hil:i<Rf.length:=(Jaf.mp er).1;rw[Jad,Jau (Zc4 rl3 hil)] at hu;cases hu;have rw1:=B.rw row (Jae er);have sr:=smB row (Jae er);have eR:Rf.getD i []=row:=by rw[Jac,er];rfl
    have ldb:Bt HB (Za8 pl Rf i):=by
     unfold Za8;split
     .rw [eR];exact sr.at _
     .exact Zbf ⇑0 ⇑0
    have ld:=ldm i;have r0:=s' _ _ rz';refine⟨_,rfl,a,rfl,⟨_,SqL.of r0⟩,λD4 hD4=>Zb3 (λj Hc v=>∃ x,NumV Hc p v x/\IsQ p (row.getD j 0) (Za8 pl Rf i) x) (λ⟨x,a,b⟩ s=>⟨x,a.same s,b⟩) (λ⟨x,a,b⟩ hD=>⟨x,a.put hD,b⟩) r0 hD4 (by rw[Jab,rw1.1];exact oz75 w9) (λj v Hc Qc hv sc _ qc=>?_) λvs Hc sc ec vl vn=>?_⟩
    .refine Zad (Zc2 hv) λz ez e918=>?_;obtain rfl:=e918;have hgc:=(s'.trans sc) _ _ (sm7 _ _ hg0);refine⟨_,rfl,g,dg,_,rfl,hgc,Zlj _ ⋯,_,rfl,_,rfl,g,p,z,Za8 pl Rf i,rfl,⟨dg,hgc⟩,hp,(sr z (Jae ez)).le ⇑0,ldb.le ⇑0,λh0 z0=>ld (by rw[z0,Zd5]),λh0 z0=>ld (by rw[<- hFd.modF h0,z0,Zd5]),λv x Hd sd nv iq=>qc v Hd sd ⟨x,nv,?_⟩⟩;rw[Zaj ez];exact iq
    .rw [Jab] at vl;obtain⟨xs,hxs⟩:=All2.pick (P:=λ(vi:V×Nat) x=>NumV Hc p vi.1 x/\IsQ p (row.getD vi.2 0) (Za8 pl Rf i) x) (xs:=vs.zipIdx) λvi hvi=>by
      obtain⟨v,j⟩:=vi;exact vn j v (Jdd.mp hvi)
     have xl:xs.length=vs.length:=by have:=hxs.1;rw[Jfb] at this;exact Zu4 this
     have hat:∀ (j:Nat) v x,vs[j]?=some v->xs[j]?=some x->NumV Hc p v x/\IsQ p (row.getD j 0) (Za8 pl Rf i) x:=λj v x e1 e2=>hxs.2 j (v,j) x (by rw[Jen,e1];simp) e2;refine q' _ Hc sc ⟨D4,xs,rfl,⟨vs,ec,Zu4 xl,λj v x e1 e2=>(hat j v x e1 e2).1⟩,?_,(sm7.trans s').free hD4,(Zaf hlD hD4).symm,λz=>by rw[z,s' _ _ ep7] at hD4;cases hD4⟩;rw[eR];refine⟨oz78 vl xl,λj z x e1 e2=>?_⟩;have hj:j<vs.length:=by have:=(Jaf.mp e2).1;exact oz9 xl this
     have:=(hat j _ x (Jaa hj) e2).2;rwa [Zaj e1] at this
   .rw [Jab] at hyl;obtain⟨bs,rfl,hbs⟩:=Zjk (P:=λi a=>∃ xs,RowV H8 p a xs/\All2 (λz x=>IsQ p z (Za8 pl Rf i) x) (Rf.getD i []) xs/\H a=none/\a≠N/\a≠pA) λi y e=>let ⟨a,xs,h1,h2⟩:=hys i y e;⟨a,h1,xs,h2⟩;rw[Jab] at hyl;obtain⟨M',hM'⟩:=All2.pick (P:=λ(ai:Addr×Nat) xs=>RowV H8 p ai.1 xs/\All2 (λz x=>IsQ p z (Za8 pl Rf ai.2) x) (Rf.getD ai.2 []) xs/\H ai.1=none/\ai.1≠N/\ai.1≠pA) (xs:=bs.zipIdx) λai hai=>by
     obtain⟨a,i⟩:=ai;exact hbs i a (Jdd.mp hai)
    have mlen:M'.length=bs.length:=by have:=hM'.1;rw[Jfb] at this;exact Zu4 this
    have mat:∀ (i:Nat) (a:Addr) xs,bs[i]?=some a->M'[i]?=some xs->RowV H8 p a xs/\All2 (λz x=>IsQ p z (Za8 pl Rf i) x) (Rf.getD i []) xs/\H a=none/\a≠N/\a≠pA:=λi a xs e1 e2=>hM'.2 i (a,i) xs (by rw[Jen,e1];simp) e2;refine⟨⇑0,λt' ht'=>?_⟩;have s9:=Same.new (o:=.tup [V.ref N,V.ref pA]) ht';refine q9 t' N pA bs M' _ ((sm7.trans s8).trans s9) Zab (sm7.free hN) hpA (λz=>by rw[z,ep7] at hN;cases hN) ((s8.trans s9) _ _ ep7) (s9 _ _ e8) ⟨Zu4 mlen,λi a xs e1 e2=>(mat i a xs e1 e2).1.same s9⟩ (λa ha=>?_) (oz22 rl3 hyl mlen) (λi hi=>?_)
    .obtain ⟨i,hi,rfl⟩:=Jan.mp ha;exact (mat i _ _ (Jaa hi) (Jaa (show i<M'.length by exact Zc4 mlen hi))).2.2
    .have:=(mat i _ _ (Jaa (show i<bs.length by exact oz9 mlen hi)) (Jaa hi)).2.1;rw[Za4 hi];exact this
theorem Zsb {p:Int}(hp:GroundP p)(h:p≠0):(1:Int) % p≠0:=by
 rcases hp with h'|h'
 .exact absurd h' h
 .rw [Jcz ⇑0 h'.1];decide
theorem Zs3 {p k:Int}{x:Int×Int}(hp:GroundP p)(h:IsQ p k 1 x):x=Zj4 p k:=by
 obtain⟨F,_,hF⟩:=Zif hp;refine hF.inj h.is (Zhm hp.lo) ?_;rw[h.fd F hF,hF.intF,Zf0];have:=Zt7 (F:=F)
 grind
theorem Zlh {p:Int}(hp:GroundP p):Zj4 p 1=(1,1):=by
 unfold Zj4;split
 .rfl
 .rw [Jcz ⇑0];rcases hp with h|⟨h,_⟩ <;> omega
theorem Zdh (p:Int):(Zn8 p).lookup ("number" : Str)=none:=Zlj _ ⋯
theorem Zuv {H:Hp}{p:Int}{rs:List Addr}{M:Mv}{k:Nat}{a:Addr}{us:List V}{o:HO}{row:List Nv}(h:All2 (RowV H p) rs M)(nds:rs.Nodup)(e:rs[k]?=some a)(ha:H a=some (.lst us))(hr:RowV (upd H a o) p a row):All2 (RowV (upd H a o) p) rs (M.set k row):=by
 have hk:k<rs.length:=(Jaf.mp e).1;have ek:rs[k]=a:=(Jaf.mp e).2;refine⟨by rw[Jby];exact h.1,λj c y f1 f2=>?_⟩;rw[Jcr] at f2;by_cases hjk:k=j
 .subst hjk;rw[e] at f1;cases f1;rw[if_pos rfl] at f2;split at f2
  .cases f2;exact hr
  .cases f2
 .rw [if_neg hjk] at f2;refine (h.2 j c y f1 f2).put ha λz=>hjk ?_;have hj:j<rs.length:=(Jaf.mp f1).1;have e':rs[j]=rs[k]:=by rw[ek,<- z];exact (Jaf.mp f1).2
  rcases Nat.lt_trichotomy k j with h|h|h
  .exact absurd e'.symm (Jcu.mp nds k j hk hj h)
  .exact h
  .exact absurd e' (Jcu.mp nds j k hj hk h)
theorem Zso {lo:Int}{n:Nat}{D:Addr}{fr:List (Str×Nat)}{σ:L2.St}{te:TE}{H1:Hp}{Q:VK}{p:Int}(M:Nat->List Nv)(hD:H1 D=none)(hn:n<=1000)(h:∀ (i:Nat) H (Q:VK),i<n->Same H1 H->(∀ a H',H a=none->Same H H'->RowV H' p a (M i)->Q (.ref a) H')->te (some (.int (lo+(i:Nat)))::Zbv fr σ) H Q)(hQ:∀ (rs:List Addr) H',Same H1 H'->H' D=some (.lst (rs.map V.ref))->All2 (RowV H' p) rs ((List.range n).map M)->D∉rs->rs.Nodup->(∀ a∈rs,H1 a=none)->Q (.ref D) H'):Zb6 (Zbq 0) Zfr te (Itr lo n) D (Zg7 1 fr σ) H1 Q:=by
 refine Zg0 (n:=n) (λi vs H=>∃ rs:List Addr,vs=rs.map V.ref/\Same H1 H/\H D=some (.lst (rs.map V.ref))/\All2 (RowV H p) rs ((List.range i).map M)/\D∉rs/\rs.Nodup/\∀ a∈rs,H1 a=none) ⟨[],rfl,Same.new hD,Zab,All2.nil,by simp,by simp,by simp⟩ ?_ (λvs H ⟨rs,e,a,b,c,d,f,g⟩=>hQ rs H a b c d f g);intro i x vs σ' H hi e91;obtain rfl:=e91;intro sh e92;refine Zqt e92 λrs e95 s e al nD e96=>?_;clear e92;obtain rfl:=e95;obtain⟨nd,fr⟩:=e96;obtain⟨z,rfl⟩:=sh.one;simp only[Ze0,Zbq,Zfr,List.set_cons_zero,Jc1];refine h i H _ hi s λa H' ha s' rv=>?_;have nDa:D≠a:=Zaf e ha;have na:a∉rs:=λz=>by
  obtain⟨j,hj,ej⟩:=Jan.mp z;refine Zad (al.at' (Jaa hj)) λ_ _ e97=>?_;obtain⟨us,hu,_⟩:=e97;rw[ej,ha] at hu;cases hu
 have l1:=al.1;rw[Jab,Jat] at l1;refine Zn2 (ws:=rs.map V.ref++[.ref a]) hi Sh.mk1 (s' _ _ e) (Zap (by rw[Jab];exact oz93 hn hi l1)) ⟨rs++[a],Za5 _ _,(s.trans s').upd hD,by rw[Zab,Za5],?_,λz=>?_,?_,λb hb=>?_⟩
 .rw [Jcj,Ja2];exact (al.monoM λc x hc k=>(k.same s').put (s' _ _ e) (λz=>nD (z ▸ hc))).app (All2.one (rv.put (s' _ _ e) nDa.symm))
 .rcases Jal.mp z with h|h
  .exact nD h
  .exact nDa (Jas.mp h)
 .rw [Jed];exact⟨nd,by simp,λx hx y hy e=>na (by rw[<- Jas.mp hy,<- e];exact hx)⟩
 .rcases Jal.mp hb with h|h
  .exact fr b h
  .rw [Jas.mp h];exact s.free ha
theorem ixN_of {n:Nat}{k:Int}(h0:0<=k)(h1:k.toNat<n):ixN n k=some k.toNat:=by
 unfold ixN;simp[h0];omega
theorem Zjt (p:Int):Zj4 p 0=(0,1):=by
 unfold Zj4;split
 .rfl
 .rw [Int.zero_emod]
theorem rep1 (n:Nat)(v:V):(List.replicate n [v]).flatten=List.replicate n v:=by
 induction n with
 | zero=>rfl
 | succ n ih=>rw[Jcp,Jdu,ih,Jcp];rfl
theorem small24 {n:Nat}(h:n<=24):n<=sizeLine:=Jbm (Zap ∅)
abbrev zR (n:Nat):List Nv:=List.replicate n (0,1)
abbrev zM (h n:Nat):Mv:=(List.range h).map λ_=>zR n
def spNou (G:Addr):L2.Sp:=λvs H Q _=>∃ (g:Addr) (p hh wd:Int),vs=[.ref g,.int hh,.int wd]/\GAt G H g p/\GroundP p/\0<=hh/\hh<=24/\0<=wd/\wd<=24 /\
 ∀ (t r:Addr) (rs:List Addr) H',Same H H'->New H t r rs->rs.Nodup->TabV H' p hh wd t r rs (zM hh.toNat wd.toNat)->Q (.ref t) H'
theorem ok_nou (F:Fun K "noughts" "noughts" Zje f fd)(T:Txt K mg C G S)(Yaf:CalD P w K mg base G "number" 6 (Ziy G) [.int 1]):FnOk P w K mg base CX0 7 f fd ["ground","high","wide"] (spNou G):=by
 have nd:=Zkk.nd;refine F.ok Zkk (λvs H Q E h=>?_) (λcdv A outer s H vs Q E hr h=>?_)
 .refine Zk0 h λg p hh wd e98 _=>?_;clear h;obtain rfl:=e98;rfl
 .refine Zb5 h λg p hh wd e99 e910 hp e911=>?_;clear h;obtain rfl:=e99;obtain⟨dg,hg0⟩:=e910;refine Zcf e911 λh0 h24 w0 w24 q=>?_;clear e911;refine⟨_,(~~~(@Zar _ _ _ _ _ ((pvr 1)<&>((pvr 2)<&>((Zax (own:=["row"]) (fr:=[("ground",0),("wide",2)]) rfl (Zbj (by kernel_rfl)) (Zej rfl T.n_range ((pv 1)<&>Zaa)) (λ_ _ _ _=>⟨(0<<<["row","ground","wide"]),Zau,(Zw6<|>(@Zbo _ _ _ _ ((Zla T.cl_Ground Yaf hr.m (pv 1) (Zac<&>Zaa))<&>Zaa))<&&>(pv 2))⟩))<&>Zaa))))),?_⟩;walk_at "wp";refine⟨_,rfl,hh,rfl,∅,∅,λD hD=>Zso (p:=p) (λ_=>zR wd.toNat) hD ∅ (λi H' Q' hi s' q'=>?_) λrs H3 s3 hD3 al3 nD nds fr=>?_⟩
  .have wsz:1*wd.toNat<=sizeLine:=small24 ∅;refine⟨_,rfl,g,dg,_,rfl,s' _ _ hg0,Zdh p,g,p,0,1,rfl,⟨dg,s' _ _ hg0⟩,hp,Zbf ⇑0 ⇑0,Zbf ⇑0 ⇑0,λ_=>⇑0,Zsb hp,λnv nx H2 s2 hnv iq=>⟨by show 1<=sizeLine;decide,λo1 ho1=>?_⟩⟩;rw[Zs3 hp iq,Zjt] at hnv;have s5:=Same.new (o:=.lst [nv]) ho1;refine⟨_,rfl,o1,_,_,rfl,rfl,Zab,∅,∅,wsz,λo2 ho2=>?_⟩;rw[rep1];have s6:=Same.new (o:=.lst (List.replicate wd.toNat nv)) ho2;have t6:=s5.trans s6;exact q' o2 _ ((s2.trans s5).free ho2) (s2.trans t6) ⟨_,Zab,All2.rep (hnv.same t6) _⟩
  .refine ⟨⇑0,λt ht=>?_⟩;have s5:=Same.new (o:=.tup [V.int hh,V.int wd,V.ref D]) ht;exact q t D rs _ (s3.trans s5) ⟨s3.free ht,hD,fr⟩ nds ⟨Zab,s5 _ _ hD3,al3.mono λ_ _ q=>q.same s5,nD⟩
abbrev eR (n i:Nat):List Nv:=(zR n).set i (1,1)
def Zt3 (n k:Nat):Mv:=(List.range n).map λi=>if i<k then eR n i else zR n
abbrev Zcc (n:Nat):Mv:=(List.range n).map λi=>eR n i
theorem Zvy (n:Nat):Zt3 n n=Zcc n:=by
 unfold Zt3;refine Jcq λj hj=>?_;rw[if_pos (Ja8.mp hj)]
theorem Zsq (n:Nat):Zt3 n 0=zM n n:=by
 unfold Zt3;refine Jcq λj hj=>?_;rw[if_neg ∅]
theorem Zvx (n k:Nat):(Zt3 n k).set k (eR n k)=Zt3 n (k+1):=by
 unfold Zt3;apply Jb6;intro j;rw[Jcr];by_cases hij:k=j
 .subst hij;rw[if_pos rfl];by_cases hn:k<n
  .rw [if_pos (by simpa using hn),Jad,Jau hn];simp
  .rw [if_neg (by simpa using hn),Jad,Jaj (by simpa using hn)];rfl
 .rw [if_neg hij,Jad,Jad];by_cases hn:j<n
  .rw [Jau hn];show some (if j<k then eR n j else zR n)=some (if j<k+1 then eR n j else zR n);by_cases h1:j<k
   .rw [if_pos h1,if_pos ∅]
   .rw [if_neg h1,if_neg ∅]
  .rw [Jaj (by simpa using hn)];rfl
def spPl (G:Addr):L2.Sp:=λvs H Q _=>∃ (g:Addr) (p n:Int),vs=[.ref g,.int n]/\GAt G H g p/\GroundP p/\0<=n/\n<=24 /\
 ∀ (t r:Addr) (rs:List Addr) H',Same H H'->New H t r rs->TabV H' p n n t r rs (Zcc n.toNat)->Q (.ref t) H'
theorem ok_pl (F:Fun K "plain" "plain" Znq f fd)(T:Txt K mg C G S)(Ybn:Cal P w K mg base "noughts" 7 (spNou G))(Yaf:CalD P w K mg base G "number" 6 (Ziy G) [.int 1]):FnOk P w K mg base CX0 8 f fd ["ground","many"] (spPl G):=by
 have nd:=Zoy.nd;refine F.ok Zoy (λvs H Q E h=>?_) (λcdv A outer s H vs Q E hr h=>?_)
 .refine Zex h λg p n e912 _=>?_;clear h;obtain rfl:=e912;rfl
 .refine Zbu h λg p n e913 hg hp e914=>?_;clear h;obtain rfl:=e913;refine Za2 e914 λn0 n24 q=>?_;clear e914;refine⟨_,((Zbr (Ybn<$>hr<$>((pvr 0)<&>((pvr 1)<&>((pvr 1)<&>Zaa)))) (@Zbw _ _ _ _ _ 3 rfl ((2>>>nd)^^^((3>>>nd)^^^((4>>>nd)^^^(@Zaz _)))) ⇑1 ⇑1))<*>((Zb2 Ja1 rfl (Zej rfl T.n_range ((pv 1)<&>Zaa)) (5>>>nd) (@Zan _ _ _ (Zbr (Zla T.cl_Ground Yaf hr.m (pvr 0) (Zac<&>Zaa)) (Zh4 ((ixJ Zaw)<|>(pvr 4)<||>(pvr 5)) (pvr 5) Zdp))))<*>(~~~(@Zar _ _ _ _ _ ((pvr 2)<&>((pvr 3)<&>((pvr 4)<&>Zaa))))))),?_⟩;walk_at "wp";refine Zg8 g p n n ⟨rfl,hg,hp,n0,n24,n0,n24,λt r rs H1 s1 nw nds tb=>?_⟩;refine⟨t,rfl,_,SqT.of tb.tup,rfl,_,_,rfl,_,_,rfl,_,_,rfl,rfl,?_⟩;have rl:=tb.row.1;rw[Jab,Jat] at rl;refine⟨_,rfl,n,rfl,∅,∅,Zbt (λi σ H3=>∃ v5:Option V,σ=[some (.ref g),some (.int n),some (.int n),some (.int n),some (.ref r),v5]/\Same H H3/\H3 r=some (.lst (rs.map V.ref))/\All2 (RowV H3 p) rs (Zt3 n.toNat i)) ⟨none,rfl,s1,tb.lst,by rw[Zsq];exact tb.row⟩ ?_ ?_⟩
  .intro i σ H3 hi e93;refine Zit e93 λv5 e915 s3 h3 a3=>?_;clear e93;obtain rfl:=e915;walk_at "wp";obtain⟨dg,hg0⟩:=hg.same s3;refine Zat dg _ ⟨hg0,Zdh p,g,p,1,1,rfl,⟨dg,hg0⟩,hp,Zbf ⇑0 ⇑0,Zbf ⇑0 ⇑0,λ_=>⇑0,Zsb hp,λnv nx H4 s4 hnv iq=>?_⟩;rw[Zs3 hp iq,Zlh hp] at hnv;have hirs:i<rs.length:=by exact oz7 rl hi
   have e1:rs[i]?=some rs[i]:=Jaa hirs;have a4:All2 (RowV H4 p) rs (Zt3 n.toNat i):=a3.mono λ_ _ k=>k.same s4;refine Zad (a4.at' e1) λrow er e916=>?_;obtain⟨us,hu1,hu2⟩:=e916;have erow:row=zR n.toNat:=by
    unfold Zt3 at er;rw[Jad,Jau hi] at er;have:(if i<i then eR n.toNat i else zR n.toNat)=row:=by simpa using er
    rw[<- this,if_neg ∅]
   subst erow;have ul:=hu2.1;rw[Jbd] at ul;have nri:r≠rs[i]:=λz=>tb.nin (by rw[z];exact Jap hirs);refine⟨_,SqL.of (s4 _ _ h3),_,Zbx ∅ (by rw[show ((0:Int)+(i:Int)).toNat=i by exact oz33,Jad,e1];rfl),_,rfl,us,hu1,i,?_,(s3.trans s4).upd (nw.rs _ (Jap hirs)),by rw[Zag nri];exact s4 _ _ h3,?_⟩
   .rw [ixN_of ∅ ∅];congr 1;exact oz33
   .rw [<- Zvx];refine Zuv a4 nds e1 hu1 ⟨_,Zab,?_⟩;exact (hu2.mono λ_ _ q=>q.put hu1).set _ (hnv.put hu1)
  .intro σ H3 e94;refine Zit e94 λv5 e917 s3 h3 a3=>?_;clear e94;obtain rfl:=e917;walk_at "wp";rw[Zvy] at a3;refine⟨⇑0,λt' ht'=>?_⟩;have s5:=Same.new (o:=.tup [V.int n,V.int n,V.ref r]) ht';exact q t' r rs _ (s3.trans s5) ⟨s3.free ht',nw.r,nw.rs⟩ ⟨Zab,s5 _ _ h3,a3.mono λ_ _ q=>q.same s5,tb.nin⟩
end
end Pf
namespace Pf
open PySem L2 L3 PyProof.Rows
section
variable {p:Int}{F:Type}[Lean.Grind.Field F]
def vN (xs:List Nv):Nat->F:=λj=>nm (xs.getD j (0,1))
theorem Znx:(nm ((0,1):Nv):F)=0:=by
 unfold nm;rw[Zd5,Zf0];have:=Zt7 (F:=F)
 grind
theorem vN_out {xs:List Nv}{j:Nat}(h:xs.length<=j):(vN xs j:F)=0:=by
 unfold vN;rw[Jac,Jaj h];exact Znx
theorem Zpz {xs:List Nv}{j:Nat}{x:Nv}(h:xs[j]?=some x):(vN xs j:F)=nm x:=by
 unfold vN;rw[Jac,h];rfl
theorem Zj2 {α:Type}{f:α->Nat->F}{Z:List α}{i:Nat}{d:α}(h:i<Z.length):at' (Z.map f) i=f (Z.getD i d):=by
 show (Z.map f).getD i zv=_;rw[Jac,Jad,Jaa h,Jac,Jaa h];rfl
theorem Zp5 {L L':List (Nat->F)}(hl:L.length=L'.length)(h:∀ i,i<L.length->∃ c:F,c≠0/\∀ j,at' L i j=c*at' L' i j):SpEq L L':=by
 refine⟨λv hv=>?_,λv hv=>?_⟩
 .refine Zad (Zem hv zv) λi hi e=>?_;refine Zad (h i hi) λc _ hc=>?_;have e1:v=λj=>c*at' L' i j:=by rw[<- e];exact funext hc
  rw[e1];exact Sp.smul c (.mem (Zj1 (oz9 hl hi)))
 .refine Zad (Zem hv zv) λi hi e=>?_;refine Zad (h i (Zc4 hl hi)) λc c0 hc=>?_;have e1:v=λj=>(1 / c)*at' L i j:=by
   rw[<- e];refine funext λj=>?_;rw[hc j];show at' L' i j=_
   grind
  rw[e1];exact Sp.smul _ (.mem (Zj1 (Zc4 hl hi)))
theorem wr_eq (hF:FdOk p F){xs:List Nv}{zs:List Int}{b:Int}(h:WRz p xs zs b)(hx:∀ x∈xs,Isn p x)(j:Nat):(vz zs j:F)=ic b*vN xs j:=by
 have e:=h.eq j;have e2:(ic (zs.getD j 0):F)*ic (xs.getD j (0,1)).2=ic (xs.getD j (0,1)).1*ic b:=by rw[<- Zch,<- Zch,e]
 have b2:(ic (xs.getD j (0,1)).2:F)≠0:=by
  by_cases hj:j<xs.length
  .rw [Za4 hj];exact hF.bot (hx _ (Jap hj))
  .rw [Jac,Jaj (Zmd hj)];show (ic 1:F)≠0;rw[Zf0];exact Zt7
 unfold vz vN nm;generalize (ic (zs.getD j 0):F)=u at *;generalize (ic (xs.getD j (0,1)).1:F)=v at *;generalize (ic (xs.getD j (0,1)).2:F)=t at *
 grind
theorem wr_b (hF:FdOk p F){xs:List Nv}{zs:List Int}{b:Int}(h:WRz p xs zs b):(ic b:F)≠0:=by
 by_cases hp:p=0
 .exact hF.ne0 (.inl hp) (by have:=h.pos;omega)
 .rw [h.one hp,Zf0];exact Zt7
theorem int_sp (hF:FdOk p F){k:Nat}{Z:List (List Int)}{M:Mv}(h:Zfi p k Z M)(hM:∀ xs∈M,∀ x∈xs,Isn p x):SpEq (F:=F) (Z.map vz) (M.map vN):=by
 have hl:=h.1;refine Zp5 (by rw[Jab,Jab];exact hl) λi hi=>?_;rw[Jab] at hi;refine Zbm (h.2 i _ _ (Jaa hi) (Jaa (show i<M.length by exact oz9 hl hi))) λws b w1 _ e=>?_;rw[Zj2 (d:=[]) hi,Zj2 (d:=[]) (show i<M.length by exact oz9 hl hi),Za4 hi,Za4 (show i<M.length by exact oz9 hl hi),e];refine Zad (Zq2 hF ws) λc c0 hc=>?_;refine⟨ic b / c,?_,λj=>?_⟩
 .have:=wr_b hF w1
  grind
 .have e1:=hc j;rw[wr_eq hF w1 (hM _ (Jap _)) j] at e1;generalize (vz (Zdm p ws) j:F)=y at *
  grind
theorem Red.rr {k W wide:Nat}{M M':Mv}{pl:List Nat}(hp:GroundP p)(hF:FdOk p F)(R:Red p k wide M M' pl)(wd:∀ xs∈M,xs.length=W)(hM:∀ xs∈M,∀ x∈xs,Isn p x):
  RR (M'.map (vN (F:=F))) wide pl.length (λi=>pl.getD i 0)/\SpEq (M'.map (vN (F:=F))) (M.map vN):=by
 refine Zbu R.ex λZ done left IR sw ml al=>?_;have p0:=hp.lo;have I:=sw.inv p0 (Zct p0 IR wd);have B:=Sw.back p0 I hF pl.length (Jai _);have bl:=B.len;have zM:=IR.1;have h1:=I.all;have h2:=I.len;obtain⟨r1,r2⟩:=B.rr I.asc I.lt ∅ (L:=M'.map vN) (by rw[Jab];omega) λi hi=>by
  have hi':i<M'.length:=∅
  rw[Zj2 (d:=[]) hi'];have a:=al i hi';refine funext λj=>?_;by_cases hj:j<(M'.getD i []).length
  .have e1:(M'.getD i [])[j]?=some (M'.getD i [])[j]:=Jaa hj;refine Zad (a.at e1) λz ez iq=>?_;rw[Zpz e1,iq.fd F hF];show _=ic (((Zbl p pl (done++left) pl.length).getD i []).getD j 0) / _;rw[Zaj ez]
  .rw [vN_out (Zmd hj)];show _=ic (((Zbl p pl (done++left) pl.length).getD i []).getD j 0) / _;rw[Jac,Jaj (by have:=a.1;omega)];show 0=ic 0 / _;rw[Zd5];have:=B.lead i
   grind
 exact⟨r1,r2.trans (int_sp hF IR hM)⟩
end
def Zd4 (p:Int)(k W wide:Nat):Nat:=if p=0 then ((W+1)*k+1)*2 ^ (2*wide) else 7
theorem Zk4 {p:Int}{W:Nat}{row:List Int}(h0:p≠0)(p97:p<=97)(h:Rw p W row):SmallR 7 row:=λz hz=>by
 rcases h.2 z hz with e|⟨e1,e2⟩
 .exact absurd e h0
 .exact Zbf (Jai _) ∅
theorem Zen {p:Int}{k W:Nat}{Z:List (List Int)}{M:Mv}(hp:GroundP p)(h7:7<=k)(h:Zfi p k Z M)(wd:∀ xs∈M,xs.length=W):∀ row∈Z,SmallR ((W+1)*k) row:=λrow hr=>by
 obtain⟨i,hi,e⟩:=Jan.mp hr;refine Zad (h.at' (i:=i) (x:=row) (by rw[Jaa hi,e])) λxs ex e91=>?_;obtain⟨ws,b,w1,sm,rfl⟩:=e91;rw[wd xs (Jae ex)] at sm;exact Zkf hp.lo hp.hi (by rw[Jcs];omega) λ_=>sm
theorem Zmb (m a b:Nat):m*2 ^ a*2 ^ b=m*2 ^ (a+b):=by rw[Jfl,Jfn]
theorem Sw.pl_le {p:Int}{W:Nat}{Z:List (List Int)}{wide:Nat}{done left:List (List Int)}{pl:List Nat}(I:SwI p W Z wide done left pl):pl.length<=wide:=by
 -- the places rise and stay below wide
 have key:∀ i,i<pl.length->i<=pl.getD i 0:=by
  intro i
  induction i with
  | zero=>intro _;omega
  | succ i ih=>
   intro h;have a:=ih ∅;have b:=I.asc i (i+1) ∅ h;omega
 by_cases h:pl.length=0
 .omega
 .have a:=key (pl.length-1) ∅;have b:=I.lt (pl.length-1) ∅;omega
theorem Zuq {p:Int}{k W wide:Nat}{M:Mv}(hp:GroundP p)(h7:7<=k)(wd:∀ xs∈M,xs.length=W)(hb:Zd4 p k W wide<=HB):Zj3 p k wide M/\Zlt p k wide M:=by
 have p0:=hp.lo;have p97:=hp.hi;by_cases h0:p=0
 .unfold Zd4 at hb;rw[if_pos h0] at hb;have n7:7<=(W+1)*k:=by rw[Jcs];omega
  have mono:∀ j,j<=2*wide->((W+1)*k+1)*2 ^ j-1<=HB:=λj hj=>by
   have:((W+1)*k+1)*2 ^ j<=((W+1)*k+1)*2 ^ (2*wide):=Jbu (Jai _) (Jca ⇑0 hj);omega
  constructor
  .intro Z IR j done left pl hj sw row hr;exact (sw.dbl p0 p97 n7 (Zen hp h7 IR wd) row hr).le (mono j ∅)
  .intro Z done left pl IR sw t ht row hr;have I:=sw.inv p0 (Zct p0 IR wd);have hpl:=Sw.pl_le I;have s1:=sw.dbl p0 p97 n7 (Zen hp h7 IR wd);have pos:0<((W+1)*k+1)*2 ^ wide:=Jfm ∅ (Jbs _);have b7:7<=((W+1)*k+1)*2 ^ wide-1:=by
    have:((W+1)*k+1)*1<=((W+1)*k+1)*2 ^ wide:=Jbu (Jai _) (Jbs _);omega
   have s2:=Zls (pl:=pl) p0 p97 b7 s1 t row hr;refine s2.le ?_;rw[show ((W+1)*k+1)*2 ^ wide-1+1=((W+1)*k+1)*2 ^ wide by exact oz58 pos,Zmb];exact mono _ ∅
 .constructor
  .intro Z IR j done left pl hj sw row hr;exact (Zk4 h0 p97 ((sw.inv p0 (Zct p0 IR wd)).rw row hr)).le ⇑0
  .intro Z done left pl IR sw t ht row hr;obtain⟨F,_,hF⟩:=Zif hp;have I:=sw.inv p0 (Zct p0 IR wd);exact (Zk4 h0 p97 ((Sw.back p0 I hF t ht).rw row hr)).le ⇑0
theorem Red.good {p:Int}{k W wide:Nat}{M M':Mv}{pl:List Nat}(hp:GroundP p)(h7:7<=k)(R:Red p k wide M M' pl)(wd:∀ xs∈M,xs.length=W):M'.length=M.length/\(∀ xs∈M',xs.length=W)/\∀ xs∈M',Zdk p (Zd4 p k W wide) xs:=by
 refine Zbu R.ex λZ done left IR sw ml al=>?_;have p0:=hp.lo;have p97:=hp.hi;obtain⟨F,_,hF⟩:=Zif hp;have I:=sw.inv p0 (Zct p0 IR wd);have B:=Sw.back p0 I hF pl.length (Jai _);have bl:=B.len;have zM:=IR.1;have n7:7<=Zd4 p k W wide:=by
  unfold Zd4;split
  .have:((W+1)*k+1)*1<=((W+1)*k+1)*2 ^ (2*wide):=Jbu (Jai _) (Jbs _);have:7<=(W+1)*k:=by rw[Jcs];omega
   omega
  .exact Jai _
 have sm:∀ row∈Zbl p pl (done++left) pl.length,SmallR (Zd4 p k W wide) row:=λrow hr=>by
  by_cases h0:p=0
  .have n7':7<=(W+1)*k:=by rw[Jcs];omega
   have hpl:=Sw.pl_le I;have s1:=sw.dbl p0 p97 n7' (Zen hp h7 IR wd);have pos:0<((W+1)*k+1)*2 ^ wide:=Jfm ∅ (Jbs _);have b7:7<=((W+1)*k+1)*2 ^ wide-1:=by
    have:((W+1)*k+1)*1<=((W+1)*k+1)*2 ^ wide:=Jbu (Jai _) (Jbs _);omega
   have s2:=Zls (pl:=pl) p0 p97 b7 s1 pl.length row hr;refine s2.le ?_;rw[show ((W+1)*k+1)*2 ^ wide-1+1=((W+1)*k+1)*2 ^ wide by exact oz58 pos,Zmb];unfold Zd4;rw[if_pos h0];have:((W+1)*k+1)*2 ^ (wide+pl.length)<=((W+1)*k+1)*2 ^ (2*wide):=Jbu (Jai _) (Jca ⇑0 ∅);omega
  .exact (Zk4 h0 p97 (B.rw row hr)).le n7
 refine⟨∅,λxs hx=>?_,λxs hx x hxx=>?_⟩
 .refine Zad (Zem hx []) λi hi e92=>?_;obtain rfl:=e92;have a:=al i hi;rw[<- a.1];exact (B.rw _ (Za0 (oz9 ml hi))).1
 .refine Zad (Zem hx []) λi hi e93=>?_;obtain rfl:=e93;have a:=al i hi;obtain⟨j,hj,e⟩:=Jan.mp hxx;refine Zad (a.at (i:=j) (y:=x) (by rw[Jaa hj,e])) λz ez iq=>?_;have hr:(Zbl p pl (done++left) pl.length).getD i []∈Zbl p pl (done++left) pl.length:=Za0 (oz9 ml hi);have s1:=sm _ hr;have ldb:Bt (Zd4 p k W wide) (Za8 pl (Zbl p pl (done++left) pl.length) i):=by
   unfold Za8;split
   .exact s1.at _
   .exact Zbf n7 ⇑0
  exact⟨iq.is,iq.bt _ n7 (s1 z (Jae ez)) ldb⟩
end Pf
set_option maxHeartbeats 1000000
namespace Pf
open PySem L2 L3 PyProof.Rows
abbrev Zgy (M:Mv)(n:Nat):Mv:=(List.range n).map λj=>M.getD j []++(Zcc n).getD j []
section
variable {F:Type}[Lean.Grind.Field F]
def tr (w:Nat)(v:Nat->F):Nat->F:=λj=>if j<w then v j else 0
theorem Sp.trunc {S:(Nat->F)->Prop}{v:Nat->F}(w:Nat)(h:L3.Sp S v):L3.Sp (λu=>∃ s,S s/\u=tr w s) (tr w v):=by
 induction h with
 | mem h=>exact .mem ⟨_,h,rfl⟩
 | zero=>
  have:tr w (zv:Nat->F)=zv:=funext λj=>by unfold tr;split <;> rfl
  rw[this];exact .zero
 | @comb u v a b _ _ h1 h2=>
  have:tr w (λj=>a*u j+b*v j)=λj=>a*tr w u j+b*tr w v j:=funext λj=>by
   unfold tr;split
   .rfl
   .grind
  rw[this];exact .comb a b h1 h2
theorem Zp4 {L L':List (Nat->F)}(w:Nat)(h:SpEq L L'):SpEq (L.map (tr w)) (L'.map (tr w)):=by
 refine⟨λv hv=>?_,λv hv=>?_⟩
 .refine Zad (Jar.mp hv) λu hu e91=>?_;obtain rfl:=e91;exact (Sp.trunc w (h.le u hu)).trans λx ⟨s,hs,e⟩=>.mem (by rw[e];exact Jar.mpr ⟨s,hs,rfl⟩)
 .refine Zad (Jar.mp hv) λu hu e92=>?_;obtain rfl:=e92;exact (Sp.trunc w (h.ge u hu)).trans λx ⟨s,hs,e⟩=>.mem (by rw[e];exact Jar.mpr ⟨s,hs,rfl⟩)
theorem Zk1 {xs:List Nv}{w:Nat}:(vN (xs.take w):Nat->F)=tr w (vN xs):=funext λj=>by
 unfold tr vN;by_cases h:j<w
 .rw [if_pos h,Jac,Jdc h,Jac]
 .rw [if_neg h,Jac,Jaj (by rw[Jbc];omega)];exact Znx
theorem Zqz {xs:List Nv}{w j:Nat}:(vN (xs.drop w) j:F)=vN xs (w+j):=by
 unfold vN;rw[Jac,Je9,Jac]
theorem vN_app {xs ys:List Nv}{j:Nat}:(vN (xs++ys) j:F)=if j<xs.length then vN xs j else vN ys (j-xs.length):=by
 unfold vN;split
 .rename_i h
  rw[Jac,Jay h,Jac]
 .rename_i h
  rw[Jac,Jav (Zmd h),Jac]
theorem nm_one:(nm ((1,1):Nv):F)=1:=by
 unfold nm;rw[Zf0];have:=Zt7 (F:=F)
 grind
theorem Zea {n i j:Nat}(hi:i<n)(hj:j<n):(vN ((Zcc n).getD i []) j:F)=del i j:=by
 have e:(Zcc n).getD i []=eR n i:=by
  rw[Jac,Jad,Jau hi];rfl
 rw[e];unfold vN;rw[Jac,Jcr];show _=if i=j then (1:F) else 0
 by_cases h:i=j
 .subst h;rw[if_pos rfl,if_pos (by rw[Jbd];exact hi),if_pos rfl];exact nm_one
 .rw [if_neg h,if_neg h,Jb1,if_pos hj];exact Znx
end
structure IsRed (p:Int)(k n wd:Nat)(M S R:Mv)(pl:List Nat):Prop where
 ex:∃ J,Red p k wd (Zgy M n) J pl/\S=J.map (λrow=>row.drop wd)/\R=J.map (λrow=>row.take wd)
theorem Zle {M:Mv}{n wd:Nat}(hl:M.length=n)(hw:∀ xs∈M,xs.length=wd):∀ xs∈Zgy M n,xs.length=wd+n:=λxs hx=>by
 refine Zad (Jar.mp hx) λj hj e93=>?_;obtain rfl:=e93;have hj:=Ja8.mp hj;rw[Jah,hw _ (Za0 (Zc4 hl hj))];have e:(Zcc n).getD j []=eR n j:=by
  rw[Jac,Jad,Jau hj];rfl
 rw[e,Jby,Jbd]
theorem Zpi {p:Int}(hp:GroundP p):Isn p (0,1)/\Isn p (1,1):=by
 have h0:=Zhm (p:=p) (k:=0) hp.lo;have h1:=Zhm (p:=p) (k:=1) hp.lo;rw[Zjt] at h0;rw[Zlh hp] at h1;exact⟨h0,h1⟩
theorem Zq0 {p:Int}{n k:Nat}(hp:GroundP p)(h7:7<=k){j:Nat}:Zdk p k ((Zcc n).getD j []):=λx hx=>by
 obtain⟨i0,i1⟩:=Zpi hp;by_cases hj:j<n
 .have e:(Zcc n).getD j []=eR n j:=by
   rw[Jac,Jad,Jau hj];rfl
  rw[e] at hx;rcases Jd0 hx with h|h
  .rw [List.eq_of_mem_replicate h];exact⟨i0,Zjz _,Zbf h7 ⇑0⟩
  .rw [h];exact⟨i1,Zbf h7 ⇑0,Zbf h7 ⇑0⟩
 .rw [Jac,Jaj (by simp;exact Zmd hj)] at hx;simp at hx
theorem Zmn {p:Int}{M:Mv}{n k:Nat}(hp:GroundP p)(h7:7<=k)(hg:∀ xs∈M,Zdk p k xs):∀ xs∈Zgy M n,Zdk p k xs:=λxs hx x hxx=>by
 refine Zad (Jar.mp hx) λj hj e94=>?_;obtain rfl:=e94;rcases Jal.mp hxx with h|h
 .by_cases hj':j<M.length
  .exact hg _ (Za0 hj') x h
  .rw [Jac,Jaj (Zmd hj')] at h;simp at h
 .exact Zq0 hp h7 x h
theorem IsRed.good {p:Int}{k n wd:Nat}{M S R:Mv}{pl:List Nat}(hp:GroundP p)(h7:7<=k)(I:IsRed p k n wd M S R pl)(hl:M.length=n)(hw:∀ xs∈M,xs.length=wd):
  S.length=n/\R.length=n/\(∀ xs∈S,xs.length=n/\Zdk p (Zd4 p k (wd+n) wd) xs)/\∀ xs∈R,xs.length=wd/\Zdk p (Zd4 p k (wd+n) wd) xs:=by
 refine Zav I.ex λJ rd e95 e96=>?_;obtain rfl:=e95;obtain rfl:=e96;refine Za2 (rd.good hp h7 (Zle hl hw)) λg1 g2 g3=>?_;rw[Jab,Jat] at g1;refine⟨by rw[Jab];exact g1,by rw[Jab];exact g1,λxs hx=>?_,λxs hx=>?_⟩
 .refine Zad (Jar.mp hx) λrow hr e97=>?_;obtain rfl:=e97;exact⟨by rw[Jb2,g2 row hr];exact oz15,λx hxx=>g3 row hr x (Jck hxx)⟩
 .refine Zad (Jar.mp hx) λrow hr e98=>?_;obtain rfl:=e98;exact⟨by rw[Jbc,g2 row hr];exact oz48,λx hxx=>g3 row hr x (Jcb hxx)⟩
section
variable {p:Int}{F:Type}[Lean.Grind.Field F]
structure RedF (F:Type)[Lean.Grind.Field F](n wd:Nat)(M S R:Mv)(pl:List Nat):Prop where
 rr:RR (R.map (vN (F:=F))) wd pl.length (λi=>pl.getD i 0)
 sp:SpEq (R.map (vN (F:=F))) (M.map vN)
 mul:∀ i j,i<n->j<wd->(vN (R.getD i []) j:F)=sm n λl=>vN (S.getD i []) l*vN (M.getD l []) j
 inv:∃ U:Nat->Nat->F,∀ i j,i<n->j<n->mm n U (λl j=>vN (S.getD l []) j) i j=del i j
theorem IsRed.fq {k n wd:Nat}{M S R:Mv}{pl:List Nat}(hp:GroundP p)(h7:7<=k)(hF:FdOk p F)(I:IsRed p k n wd M S R pl)(hl:M.length=n)(hw:∀ xs∈M,xs.length=wd)(hg:∀ xs∈M,Zdk p k xs):RedF F n wd M S R pl:=by
 refine Zav I.ex λJ rd e99 e910=>?_;obtain rfl:=e99;obtain rfl:=e910;have jw:=Zle hl hw;have jg:=Zmn (n:=n) hp h7 hg;refine Za2 (rd.good hp h7 jw) λg1 g2 g3=>?_;rw[Jab,Jat] at g1;obtain⟨rr,sp⟩:=rd.rr hp hF jw (λxs hx x hxx=>(jg xs hx x hxx).1);have eJ:∀ {f:List Nv->List Nv} {i:Nat},i<n->(J.map f).getD i []=f (J.getD i []):=λ{f i} hi=>by
  rw[Jac,Jad,Jaa (show i<J.length by exact Zc4 g1 hi),Za4 (show i<J.length by exact Zc4 g1 hi)];rfl
 have atJ:∀ i,i<n->at' (J.map (vN (F:=F))) i=vN (J.getD i []):=λi hi=>Zj2 (Zc4 g1 hi);have atR:∀ i,i<n->at' ((J.map λrow=>row.take wd).map (vN (F:=F))) i=tr wd (vN (J.getD i [])):=λi hi=>by
  rw[Zj2 (d:=[]) (by rw[Jab];exact Zc4 g1 hi),eJ hi,Zk1]
 have atM:∀ l j,l<n->at' ((Zgy M n).map (vN (F:=F))) l j=if j<wd then vN (M.getD l []) j else vN ((Zcc n).getD l []) (j-wd):=λl j hl'=>by
  rw[Zj2 (d:=[]) (by simp;exact oz59 hl')];have:(Zgy M n).getD l []=M.getD l []++(Zcc n).getD l []:=by
   rw[Jac,Jad,Jau hl'];rfl
  rw[this,vN_app,hw _ (Za0 (Zc4 hl hl'))]
 have len1:(J.map (vN (F:=F))).length=n:=by rw[Jab];exact g1
 have len2:((Zgy M n).map (vN (F:=F))).length=n:=by simp
 refine⟨⟨?_,rr.cn,rr.mono,λi k' hi hk=>?_,λi j hi hj=>?_,λi j hi hi2 hj=>?_⟩,?_,λi j hi hj=>?_,?_⟩
 .rw [Jab,Jab];have:=rr.rl;rw[Jab] at this;exact this
 .have hin:i<n:=by have:=rr.rl;exact oz42 len1 hi this
  rw[atR i hin];show (if pl.getD k' 0<wd then _ else _)=_;rw[if_pos (rr.cn k' hk),<- rr.piv i k' hi hk,atJ i hin]
 .have hin:i<n:=by have:=rr.rl;exact oz42 len1 hi this
  rw[atR i hin];have h1:=rr.cn i hi;have h2:=rr.low i j hi hj;rw[atJ i hin] at h2;show (if j<wd then _ else _)=_;rw[if_pos (Jei hj h1)];exact h2
 .rw [Jab,Jab] at hi2;have hin:i<n:=by exact oz9 g1 hi2
  rw[atR i hin];have h2:=rr.zer i j hi (by rw[Jab];exact oz59 hi2) hj;rw[atJ i hin] at h2;show (if j<wd then _ else _)=_;rw[if_pos hj];exact h2
 .have h1:=Zp4 wd sp;have e1:(J.map (vN (F:=F))).map (tr wd)=(J.map λrow=>row.take wd).map vN:=by
   rw[Jek,Jek];exact Jcq λrow _=>(Zk1).symm
  have e2:((Zgy M n).map (vN (F:=F))).map (tr wd)=M.map vN:=by
   apply Jb6;intro l;by_cases hl':l<n
   .rw [Jad,Jad,Jad,Jau hl',Jad,Jaa (show l<M.length by exact Zc4 hl hl')];show some (tr wd (vN (M.getD l []++(Zcc n).getD l [])))=some (vN M[l]);rw[<- Zk1,List.take_left' (hw _ (Za0 (Zc4 hl hl'))),Za4 (Zc4 hl hl')]
   .rw [Jaj (by simp;exact Zmd hl'),Jaj (by rw[Jab];exact oz68 hl hl')]
  rwa [e1,e2] at h1
 .obtain ⟨c,hc⟩:=(sp.le _ (Zj1 (i:=i) (Zc4 len1 hi))).coef;rw[len2] at hc;rw[atJ i hi] at hc;have hS:∀ l,l<n->(vN (((J.map λrow=>row.drop wd)).getD i []) l:F)=c l:=λl hl'=>by
   rw[eJ hi,Zqz,hc (wd+l)];rw[Zak (g:=λx=>c x*(if x=l then 1 else 0)) λx hx=>by
    rw[atM x _ hx,if_neg ∅,show wd+l-wd=l by exact oz15,Zea hx hl']]
   exact Zi0 _ hl'
  rw[eJ hi,Zk1];show (if j<wd then _ else _)=_;rw[if_pos hj,hc j];refine Zak λl hl'=>?_;rw[atM l j hl',if_pos hj,hS l hl']
 .have hc:∀ i,i<n->∃ c:Nat->F,∀ j,at' ((Zgy M n).map (vN (F:=F))) i j=sm n λl=>c l*at' (J.map vN) l j:=λi hi=>by
   obtain⟨c,hc⟩:=(sp.ge _ (Zj1 (i:=i) (Zc4 len2 hi))).coef;rw[len1] at hc;exact⟨c,hc⟩
  refine⟨λi=>if hi:i<n then Classical.choose (hc i hi) else zv,λi j hi hj=>?_⟩;have h1:=Jcv (hc i hi) (wd+j);rw[atM i _ hi,if_neg ∅,show wd+j-wd=j by exact oz15,Zea hi hj] at h1;rw[h1];refine Zak λl hl'=>?_;show (if hi:i<n then Classical.choose (hc i hi) else zv) l*vN ((J.map λrow=>row.drop wd).getD l []) j=_;rw[dif_pos hi,eJ hl',Zqz,atJ l hl']
end
end Pf
namespace Pf
open PySem L2 L3 PyProof.Rows
section
variable {G PL cL:Addr}
structure TabB (H:Hp)(p:Int)(k n wd:Nat)(t r:Addr)(rs:List Addr)(M:Mv):Prop where
 tv:TabV H p n wd t r rs M
 hl:M.length=n
 hw:∀ xs∈M,xs.length=wd
 gd:∀ xs∈M,Zdk p k xs
theorem TabB.same {H H':Hp}{p:Int}{k n wd:Nat}{t r:Addr}{rs:List Addr}{M:Mv}(h:TabB H p k n wd t r rs M)(s:Same H H'):TabB H' p k n wd t r rs M:=⟨h.tv.same s,h.hl,h.hw,h.gd⟩
theorem Zkg {a D:Addr}{p:Int}{fr:List (Str×Nat)}{σ:L2.St}{te:TE}{H1:Hp}{Q:VK}{as:List Addr}{M:Mv}(f:List Nv->List Nv)(ha:H1 a=some (.lst (as.map V.ref)))(rv:All2 (RowV H1 p) as M)(hD:H1 D=none)(hn:as.length<=1000)(h:∀ (b:Addr) xs H (Q:VK),xs∈M->RowV H p b xs->Same H1 H->(∀ c H',H c=none->Same H H'->RowV H' p c (f xs)->Q (.ref c) H')->te (some (.ref b)::Zbv fr σ) H Q)(hQ:∀ (rs:List Addr) H',Same H1 H'->H' D=some (.lst (rs.map V.ref))->All2 (RowV H' p) rs (M.map f)->D∉rs->(∀ b∈rs,H1 b=none)->Q (.ref D) H'):Zb6 (Zbq 0) Zfr te (Itl K a) D (Zg7 1 fr σ) H1 Q:=by
 refine Zb3 (λi Hc y=>∃ b,y=.ref b/\RowV Hc p b ((M.map f).getD i [])/\b≠D/\H1 b=none) (λ⟨a,e,b,c⟩ s=>⟨a,e,b.same s,c⟩) (λ⟨a,e,b,c,d⟩ hD=>⟨a,e,b.put hD c,c,d⟩) ha hD (by rw[Jab];exact hn) (λi x H' Q' hx s' ⟨lD,hlD⟩ q'=>?_) (λys H' s' h' hyl hys=>?_)
 .refine Zad ((Zbe rv).at' hx) λxs er e91=>?_;obtain⟨b,rfl,rb⟩:=e91;refine h b xs H' Q' (Jae er) (rb.same s') s' λc H2 hc s2 rc=>q' _ H2 s2 ⟨c,rfl,?_,(Zaf hlD hc).symm,s'.free hc⟩;rw[Zaj (show _=some _ by rw[Jad,er];rfl)];exact rc
 .rw [Jab] at hyl;obtain⟨rs',rfl,a2,nD,fr⟩:=Znr (D:=D) (H1:=H1) (p:=p) (M:=M.map f) (by rw[Jab,<- rv.1];exact hyl) hys;exact hQ rs' H' s' h' a2 nD fr
def Zix (G PL:Addr):L2.Sp:=λvs H Q _=>∃ (g t r:Addr) (rs:List Addr) (p:Int) (k n wd:Nat) (M:Mv),vs=[.ref g,.ref t]/\GAt G H g p/\GroundP p/\TabB H p k n wd t r rs M/\n<=24/\wd<=24/\7<=k/\(Zj3 p k wd (Zgy M n)/\Zlt p k wd (Zgy M n))/\(wd+n+1)*k<=NB/\H PL=some Zv0 /\
 ∀ (t' tS rS tR rR:Addr) (rsS rsR:List Addr) (S R:Mv) (pl:List Nat) H',Same H H'->H' t'=some (.tup [.ref tS,.ref tR])->New H tS rS rsS->New H tR rR rsR->TabV H' p n n tS rS rsS S->TabV H' p n wd tR rR rsR R->(∀ a∈rsS,a≠rR/\a∉rsR)->rS≠rR->rS∉rsR->IsRed p k n wd M S R pl->Q (.ref t') H'
theorem Zp9 (F:Fun K "reduced" "reduced" Zjc f fd)(T:Txt K mg C G S)(Yaz:Cal P w K mg base "side_by_side" 1 (Zrc G))(Yas:Cal P w K mg base "plain" 8 (spPl G))(Ybc:Cal P w K mg base "reduced_rows" 8 (spRed G PL)):FnOk P w K mg base CX0 9 f fd ["ground","table"] (Zix G PL):=by
 have nd:=Zki.nd;refine F.ok Zki (λvs H Q E h=>?_) (λcdv A outer s H vs Q E hr h=>?_)
 .refine xE9_2 h λg t r rs p k n wd M e92 _=>?_;clear h;obtain rfl:=e92;rfl
 .refine xE9_4 h λg t r rs p k n wd M e93 hg hp e94=>?_;clear h;obtain rfl:=e93;refine xE0_8 e94 λtb n24 w24 k7 nb kb hPL q=>?_;clear e94;refine⟨_,((Zbr (pvr 1) (@Zbw _ _ _ _ _ 3 rfl ((2>>>nd)^^^((@Zae _ _ 3 _ nd rfl (Or.inr rfl) (Or.inl rfl))^^^((4>>>nd)^^^(@Zaz _)))) ⇑1 ⇑1))<*>((5|||nd|||(Yaz<$>hr<$>((pvr 0)<&>((pvr 2)<&>((@Zbo _ _ _ _ ((pvr 1)<&>((Yas<$>hr<$>((pvr 0)<&>((pvr 2)<&>Zaa)))<&>Zaa)))<&>Zaa)))))<*>((6|||nd|||(Zbc<|>(Ybc<$>hr<$>((pvr 0)<&>((Zbc<|>(pvr 5)<||>Zac)<&>((pvr 3)<&>Zaa))))<||>Zac))<*>(~~~(@Zar _ _ _ _ _ ((@Zar _ _ _ _ _ ((pvr 2)<&>((pvr 2)<&>((Zax (own:=["row"]) (fr:=[("wide",3)]) rfl (Zbj (by kernel_rfl)) (Za6 (pv 6)) (λ_ _ _ _=>⟨(0<<<["row","wide"]),Zau,(@Zdr _ _ _ _ _ _ _ _ _ _ (Zov K rfl) (pv 0) (@Zei _ _ _ (pv 1)) Zfe)⟩))<&>Zaa))))<&>((@Zar _ _ _ _ _ ((pvr 2)<&>((pvr 3)<&>((Zax (own:=["row"]) (fr:=[("wide",3)]) rfl (Zbj (by kernel_rfl)) (Za6 (pv 6)) (λ_ _ _ _=>⟨(0<<<["row","wide"]),Zau,(@Zdr _ _ _ _ _ _ _ _ _ _ (Zov K rfl) (pv 0) Zfe (@Zei _ _ _ (pv 1)))⟩))<&>Zaa))))<&>Zaa))))))),?_⟩;walk_at "wp";refine⟨_,SqT.of tb.tv.tup,rfl,_,_,rfl,_,_,rfl,_,_,rfl,rfl,?_⟩;refine Zcm g p n ⟨rfl,hg,hp,Zik,∅,λtU rU rsU H1 s1 nwU tbU=>⟨⇑0,λLT hLT=>?_⟩⟩;have s2:=Same.new (o:=.lst [V.ref t,V.ref tU]) hLT;have s12:=s1.trans s2;have tb2:=tb.same s12;have tbU2:=tbU.same s2;rw[Jbb] at tbU2;have ul:(Zcc n).length=n:=by rw[Jab,Jat]
  have uw:∀ row∈Zcc n,(row.length:Int)=n:=λrow hr=>by
   refine Zad (Jar.mp hr) λi hi e95=>?_;obtain rfl:=e95;rw[Jby,Jbd]
  refine Zpy g LT p n [t,tU] [((n:Int),(wd:Int),M),((n:Int),(n:Int),Zcc n)] ⟨rfl,Zik,∅,⟨Zab,(All2.one ⟨r,rs,tb2.tv⟩).app (All2.one ⟨rU,rsU,tbU2⟩)⟩,⟨by show 2<=9;decide,λi hi=>?_⟩,λi hi=>?_,λ_ tJ rJ rsJ H3 s3 nwJ tbJ=>?_⟩
  .match i,hi with
   | 0,_=>exact⟨by show (0:Int)<=n;exact Zik,by show (n:Int)<=24;omega,by show (0:Int)<=wd;exact Zik,by show (wd:Int)<=24;omega,by show (M.length:Int)=n;rw[tb.hl],λrow hr=>by show (row.length:Int)=wd;rw[tb.hw row hr]⟩
   | 1,_=>exact⟨by show (0:Int)<=n;exact Zik,by show (n:Int)<=24;omega,by show (0:Int)<=n;exact Zik,by show (n:Int)<=24;omega,by show ((Zcc n).length:Int)=n;rw[ul],uw⟩
  .match i,hi with
   | 0,_=>rfl
   | 1,_=>rfl
  have eJ:Zno [((n:Int),(wd:Int),M),((n:Int),(n:Int),Zcc n)] ((n:Int)).toNat [((n:Int),(wd:Int),M),((n:Int),(n:Int),Zcc n)].length=Zgy M n:=by
   rw[Jbb];rfl
  rw[eJ] at tbJ;have jw:=Zle tb.hl tb.hw;have jg:=Zmn (n:=n) hp k7 tb.gd;have s13:=s12.trans s3;obtain⟨sw1,sw2⟩:=nb;refine⟨tJ,rfl,_,SqT.of tbJ.tup,_,rfl,g,rJ,p,rsJ,Zgy M n,k,wd+n,wd,rfl,hg.same s13,hp,⟨tbJ.lst,tbJ.row,jw,jg,by simp;omega,∅,∅,kb⟩,∅,s13 _ _ hPL,sw1,sw2,λtt FF pA rsF J pl H4 s4 ht4 hFF hpA nFp ep eF rvF nrF rd=>?_⟩;refine Za2 (rd.good hp k7 jw) λg1 g2 g3=>?_;rw[Jab,Jat] at g1;have rl4:=rvF.1;have s14:=s13.trans s4;refine⟨tt,rfl,_,SqT.of ht4,_,rfl,?_⟩;refine⟨_,rfl,FF,rfl,⟨_,SqL.of eF⟩,λD1 hD1=>Zkg (λrow=>row.drop wd) eF rvF hD1 (oz82 n24 g1 rl4) (λa xs H' Q' hx rv s' q'=>?_) λrsS H5 s5 e5 rvS nS fS=>⟨⇑0,λtS htS=>?_⟩⟩
  .refine Zad rv λvs hv al=>?_;clear rv;have xl:=g2 xs hx;have vl:=al.1;refine⟨_,rfl,_,rfl,_,rfl,a,vs,rfl,SqL.of hv,λb hb=>?_⟩;rw[cut_hiG _ _ Zik ∅,Jbb];have sb:=Same.new (o:=.lst (vs.drop wd)) hb;exact q' b _ hb sb ⟨_,Zab,(al.drop wd).mono λ_ _ r=>r.same sb⟩
  have s6:=Same.new (o:=.tup [V.int n,V.int n,V.ref D1]) htS;have s56:=s5.trans s6;refine⟨_,rfl,FF,rfl,⟨_,SqL.of (s56 _ _ eF)⟩,λD2 hD2=>Zkg (λrow=>row.take wd) (s56 _ _ eF) (rvF.mono λ_ _ r=>r.same s56) hD2 (oz82 n24 g1 rl4) (λa xs H' Q' hx rv s' q'=>?_) λrsR H7 s7 e7 rvR nR fR=>⟨⇑0,λtR htR=>⟨⇑0,λt' ht'=>?_⟩⟩⟩
  .refine Zad rv λvs hv al=>?_;clear rv;have xl:=g2 xs hx;have vl:=al.1;refine⟨_,rfl,_,rfl,_,rfl,a,vs,rfl,SqL.of hv,λb hb=>?_⟩;rw[Ztm _ _ Zik ∅,Jbb];have sb:=Same.new (o:=.lst (vs.take wd)) hb;exact q' b _ hb sb ⟨_,Zab,(al.take wd).mono λ_ _ r=>r.same sb⟩
  have s8:=Same.new (o:=.tup [V.int n,V.int wd,V.ref D2]) htR;have s9:=Same.new (o:=.tup [V.ref tS,V.ref tR]) ht';have s79:=(s7.trans s8).trans s9;have s16:=s14.trans s56;refine q t' tS D1 tR D2 rsS rsR _ _ pl _ (s16.trans s79) Zab ⟨(s14.trans s5).free htS,s14.free hD1,λa ha=>s14.free (fS a ha)⟩ ⟨(s16.trans s7).free htR,s16.free hD2,λa ha=>s16.free (fR a ha)⟩ ⟨s79 _ _ Zab,(s6.trans s79) _ _ e5,rvS.mono λ_ _ r=>r.same (s6.trans s79),nS⟩ ⟨s9 _ _ Zab,(s8.trans s9) _ _ e7,rvR.mono λ_ _ r=>r.same (s8.trans s9),nR⟩ (λa ha=>?_) ?_ ?_ ⟨J,rd,rfl,rfl⟩
  .have ha2:∃ o,upd H5 tS (.tup [V.int n,V.int n,V.ref D1]) a=some o:=by
    obtain⟨i,hi,rfl⟩:=Jan.mp ha;refine Zad (rvS.at' (Jaa hi)) λ_ _ e96=>?_;obtain⟨us,hu,_⟩:=e96;exact⟨_,s6 _ _ hu⟩
   obtain⟨o,ho⟩:=ha2;exact⟨λz=>(by rw[z,hD2] at ho;cases ho),λz=>(by rw[fR a z] at ho;cases ho)⟩
  .intro z;rw[<- z,s6 _ _ e5] at hD2;cases hD2
  .intro z;have:=fR _ z;rw[s6 _ _ e5] at this;cases this
end
end Pf
namespace Pf
open PySem L2 L3 PyProof.Rows
section
variable {p:Int}{F:Type}[Lean.Grind.Field F]
theorem at_vN {M:Mv}{i:Nat}(h:i<M.length):at' (M.map (vN (F:=F))) i=vN (M.getD i []):=Zj2 h
end
end Pf
namespace Pf
open PySem L2 L3 PyProof.Rows
section
variable {G PL cL:Addr}
def Zor:L2.Sp:=λvs H Q _=>∃ a b:Int,vs=[.int a,.int b]/\0<b/\∀ t,H t=none->Q (.ref t) (upd H t (.tup [.int (nrm a b).1,.int (nrm a b).2]))
def spLowZ:L2.Sp:=λvs H Q _=>∃ a b:Int,vs=[.int a,.int b]/\b≠0/\∀ t,H t=none->Q (.ref t) (upd H t (.tup [.int (nrS a b).1,.int (nrS a b).2]))
structure TwoB (H:Hp)(p:Int)(va vb:V)(x y:Nv):Prop where
 a:NumV H p va x
 b:NumV H p vb y
 hx:Isn p x
 hy:Isn p y
 bt:∃ n m:Nat,Bt n x.1/\Bt n x.2/\Bt m y.1/\Bt m y.2/\n+m<=134000000
def Zl1 (op:Int->Nv->Nv->Nv):L2.Sp:=λvs H Q _=>∃ (p:Int) (va vb:V) (x y:Nv),vs=[.int p,va,vb]/\GroundP p/\TwoB H p va vb x y/\∀ v H',Same H H'->NumV H' p v (op p x y)->Q v H'
theorem ok_addB (F:Fun K "_law_plus" "_law_plus" Zhc f fd)(T:Txt K mg C G S)(Yae:Cal P w K mg base "_law_low" 1 Zor):FnOk P w K mg base CX0 3 f fd ["_law_p","_law_a","_law_b"] (Zl1 Zdn):=by
 have nd:=Zi2.nd;refine F.ok Zi2 (λvs H Q E h=>?_) (λcdv A outer s H vs Q E hr h=>?_)
 .refine Zua h λp va vb x y e91 _=>?_;clear h;obtain rfl:=e91;rfl
 .refine Zf2 h λp va vb x y e92 hp h2 q=>?_;clear h;obtain rfl:=e92;have p0:=hp.lo;refine Zg9 h2.bt λn m b1 b2 b3 b4 nm'=>?_;refine⟨_,((@Za3 _ _ _ _ _ _ _ _ (Zd3 Zfg (pvr 0) Zac (Zam _)) (~~~(Zcq<|>(Zbi<|>(pvr 1)<&&>(pvr 2))<&&>(pvr 0))) Zao)<*>(~~~(Yae<$>hr<$>((Zbi<|>(Zbk<|>(Zbc<|>(pvr 1)<||>Zac)<&&>(Zbc<|>(pvr 2)<||>Zac))<&&>(Zbk<|>(Zbc<|>(pvr 2)<||>Zac)<&&>(Zbc<|>(pvr 1)<||>Zac)))<&>((Zbk<|>(Zbc<|>(pvr 1)<||>Zac)<&&>(Zbc<|>(pvr 2)<||>Zac))<&>Zaa))))),?_⟩;walk_at "wp";refine Zce (λhc=>?_) (λhc=>?_)
  .have hc:=Ja5 hc;obtain rfl:=h2.a.int ∅;obtain rfl:=h2.b.int ∅;refine⟨_,rfl,_,rfl,hc,q _ H (Same.refl _) ?_⟩;have:=NumV.of (H:=H) (x:=Zdn p x y) (show ¬ p=0 by omega);rw[Zdn,if_neg ∅] at this ⊢;exact this
  .have hc:¬ 0<p:=λz=>hc (Jao z);have hp0:p=0:=∅
   refine Zad (h2.a.ref hp0) λta e93 hta=>?_;obtain rfl:=e93;refine Zad (h2.b.ref hp0) λtb e94 htb=>?_;obtain rfl:=e94;walk_at "wp";refine⟨_,SqT.of hta,_,rfl,_,SqT.of htb,_,rfl,_,rfl,_,rfl,b1.ok b4 ∅,_,SqT.of htb,_,rfl,_,SqT.of hta,_,rfl,_,rfl,_,rfl,b3.ok b2 ∅,_,SqT.of hta,_,rfl,_,SqT.of htb,_,rfl,_,rfl,_,rfl,b2.ok b4 ∅,?_⟩;refine Zat _ _ ⟨rfl,Jd1 h2.hx.pos h2.hy.pos,λt ht=>q _ _ (Same.new ht) ?_⟩;rw[Zdn,if_pos hp0];exact NumV.tup hp0 Zab
theorem ok_mulB (F:Fun K "_law_times" "_law_times" Zgb f fd)(T:Txt K mg C G S)(Yae:Cal P w K mg base "_law_low" 1 Zor):FnOk P w K mg base CX0 3 f fd ["_law_p","_law_a","_law_b"] (Zl1 Zbn):=by
 have nd:=Zhs.nd;refine F.ok Zhs (λvs H Q E h=>?_) (λcdv A outer s H vs Q E hr h=>?_)
 .refine Zua h λp va vb x y e95 _=>?_;clear h;obtain rfl:=e95;rfl
 .refine Zf2 h λp va vb x y e96 hp h2 q=>?_;clear h;obtain rfl:=e96;have p0:=hp.lo;refine Zg9 h2.bt λn m b1 b2 b3 b4 nm'=>?_;refine⟨_,((@Za3 _ _ _ _ _ _ _ _ (Zd3 Zfg (pvr 0) Zac (Zam _)) (~~~(Zcq<|>(Zmf<|>(pvr 1)<&&>(pvr 2))<&&>(pvr 0))) Zao)<*>(~~~(Yae<$>hr<$>((Zbk<|>(Zbc<|>(pvr 1)<||>Zac)<&&>(Zbc<|>(pvr 2)<||>Zac))<&>((Zbk<|>(Zbc<|>(pvr 1)<||>Zac)<&&>(Zbc<|>(pvr 2)<||>Zac))<&>Zaa))))),?_⟩;walk_at "wp";refine Zce (λhc=>?_) (λhc=>?_)
  .have hc:=Ja5 hc;obtain rfl:=h2.a.int ∅;obtain rfl:=h2.b.int ∅;have p97:=hp.hi;have hx:0<=x.1/\x.1<p:=by rcases h2.hx with ⟨h,_⟩|⟨_,h,h',_⟩ <;> omega
   refine⟨_,rfl,_,rfl,.inl ⟨∅,∅⟩,hc,q _ H (Same.refl _) ?_⟩;have:=NumV.of (H:=H) (x:=Zbn p x y) (show ¬ p=0 by omega);rw[Zbn,if_neg ∅] at this ⊢;exact this
  .have hc:¬ 0<p:=λz=>hc (Jao z);have hp0:p=0:=∅
   refine Zad (h2.a.ref hp0) λta e97 hta=>?_;obtain rfl:=e97;refine Zad (h2.b.ref hp0) λtb e98 htb=>?_;obtain rfl:=e98;walk_at "wp";refine⟨_,SqT.of hta,_,rfl,_,SqT.of htb,_,rfl,_,rfl,_,rfl,b1.ok b3 ∅,_,SqT.of hta,_,rfl,_,SqT.of htb,_,rfl,_,rfl,_,rfl,b2.ok b4 ∅,?_⟩;refine Zat _ _ ⟨rfl,Jd1 h2.hx.pos h2.hy.pos,λt ht=>q _ _ (Same.new ht) ?_⟩;rw[Zbn,if_pos hp0];exact NumV.tup hp0 Zab
abbrev BtN (n:Nat)(x:Nv):Prop:=Bt n x.1/\Bt n x.2
theorem BtN.le {n m:Nat}{x:Nv}(h:BtN n x)(hm:n<=m):BtN m x:=⟨h.1.le hm,h.2.le hm⟩
theorem Zty {p:Int}{x:Nv}(h0:p≠0)(p97:p<=97)(h:Isn p x):BtN 7 x:=by
 rcases h with ⟨e,_⟩|⟨_,e1,e2,e3⟩
 .exact absurd e h0
 .exact ⟨Zbf (Jai _) ∅,by rw[e3];exact Zbf (Jai _) ⇑0⟩
theorem Ztx {a b:Int}{n:Nat}(ha:Bt n a)(hb:Bt n b):BtN n (nrm a b):=⟨ha.quo (Jbo ..),hb.quo (Jbz ..)⟩
theorem Zwn {p:Int}{x y:Nv}{n m:Nat}(hp:GroundP p)(hx:Isn p x)(hy:Isn p y)(h1:BtN n x)(h2:BtN m y)(h7:7<=n):BtN (n+m+1) (Zdn p x y):=by
 by_cases h0:p=0
 .unfold Zdn;rw[if_pos h0];refine Ztx ?_ ((h1.2.mul h2.2).le ∅);have a:=h1.1.mul h2.2;have b:=h2.1.mul h1.2;rw[Nat.add_comm m n] at b;exact Bt.add a b
 .exact (Zty h0 hp.hi (Zin hp.lo hx hy)).le ∅
theorem Ztw {p:Int}{x y:Nv}{n m:Nat}(hp:GroundP p)(hx:Isn p x)(hy:Isn p y)(h1:BtN n x)(h2:BtN m y)(h7:7<=n+m):BtN (n+m) (Zbn p x y):=by
 by_cases h0:p=0
 .unfold Zbn;rw[if_pos h0];exact Ztx (h1.1.mul h2.1) (h1.2.mul h2.2)
 .exact (Zty h0 hp.hi (Zcp hp.lo hx hy)).le h7
def Zti (p:Int)(f g:Nat->Nv):Nat->Nv
 | 0=>Zj4 p 0
 | k+1=>Zdn p (Zti p f g k) (Zbn p (f k) (g k))
abbrev Zwg (p:Int)(xs ys:List Nv):Nv:=Zti p (λk=>xs.getD k (0,1)) (λk=>ys.getD k (0,1)) xs.length
abbrev Zig (B:Mv)(j:Nat):List Nv:=B.map λrow=>row.getD j (0,1)
def Zb4 (p:Int)(A B:Mv)(wd:Nat):Mv:=A.map λrow=>(List.range wd).map λj=>Zwg p row (Zig B j)
theorem Zoo {p:Int}{x y:Nv}{n m:Nat}(hp:GroundP p)(hx:Isn p x)(hy:Isn p y)(h1:BtN n x)(h2:BtN m y):BtN (n+m+7) (Zbn p x y):=by
 have:=Ztw hp hx hy h1 (h2.le (show m<=m+7 by omega)) ∅;rwa [<- Nat.add_assoc] at this
theorem Zth {p:Int}(hp:GroundP p){f g:Nat->Nv}{k1 k2:Nat}:∀ {n:Nat},(∀ i,i<n->Isn p (f i)/\BtN k1 (f i))->(∀ i,i<n->Isn p (g i)/\BtN k2 (g i))->Isn p (Zti p f g n)/\BtN (7+n*(k1+k2+8)) (Zti p f g n)
 | 0,_,_=>⟨Zhm hp.lo,by
   show BtN _ (Zj4 p 0);unfold Zj4;split
   .exact ⟨Zjz _,Zbf ∅ ⇑0⟩
   .rw [Int.zero_emod];exact⟨Zjz _,Zbf ∅ ⇑0⟩⟩
 | n+1,hf,hg=>by
  obtain⟨i1,b1⟩:=Zth hp (k1:=k1) (k2:=k2) (n:=n) (λi hi=>hf i ∅) (λi hi=>hg i ∅);obtain⟨i2,b2⟩:=hf n ∅;obtain⟨i3,b3⟩:=hg n ∅;have it:=Zcp hp.lo i2 i3;refine⟨Zin hp.lo i1 it,?_⟩;have:=Zwn hp i1 it b1 (Zoo hp i2 i3 b2 b3) ∅;refine this.le ?_;rw[Jcs n 1];omega
theorem Zmy {p:Int}{wd k:Nat}{B:Mv}(hw:∀ xs∈B,xs.length=wd)(g:∀ xs∈B,Zdk p k xs){j:Nat}(hj:j<wd):Zdk p k (Zig B j):=λx hx=>by
 refine Zad (Jar.mp hx) λrow hr e97=>?_;obtain rfl:=e97;exact g row hr _ (Za0 (by rw[hw row hr];exact hj))
theorem Zpp {p:Int}{F:Type}[Lean.Grind.Field F](hp:GroundP p)(hF:FdOk p F){f g:Nat->Nv}:∀ {n:Nat},(∀ i,i<n->Isn p (f i))->(∀ i,i<n->Isn p (g i))->Isn p (Zti p f g n)/\(nm (Zti p f g n):F)=sm n λi=>nm (f i)*nm (g i)
 | 0,_,_=>⟨Zhm hp.lo,by
   show (nm (Zj4 p 0):F)=0;rw[hF.intF,Zd5]⟩
 | n+1,hf,hg=>by
  obtain⟨i1,e1⟩:=Zpp hp hF (n:=n) (λi hi=>hf i ∅) (λi hi=>hg i ∅);have it:=Zcp hp.lo (hf n ∅) (hg n ∅);refine⟨Zin hp.lo i1 it,?_⟩;show (nm (Zdn p (Zti p f g n) (Zbn p (f n) (g n))):F)=sm n (λi=>nm (f i)*nm (g i))+nm (f n)*nm (g n);rw[hF.plus i1 it,e1,hF.times (hf n ∅) (hg n ∅)]
def spLpB:L2.Sp:=λvs H Q _=>∃ (t1 r1 t2 r2:Addr) (rs1 rs2:List Addr) (p:Int) (n1 m1 w2 k1 k2:Nat) (A B:Mv),vs=[.int p,.ref t1,.ref t2]/\GroundP p/\TabB H p k1 n1 m1 t1 r1 rs1 A/\TabB H p k2 m1 w2 t2 r2 rs2 B/\n1<=200/\m1<=200/\w2<=200/\7+m1*(k1+k2+8)+k1+k2+7<=134000000 /\
 ∀ t r rs H',Same H H'->TabV H' p n1 w2 t r rs (Zb4 p A B w2)->Q (.ref t) H'
theorem dot_lim {k m a b:Nat}(h:k<=m)(l:7+m*(a+b+8)+a+b+7<=134000000):7+k*(a+b+8)+(a+b+7)<=134000000:=by
 have:=Jbu h (Jai (a+b+8));omega
theorem ok_lpB (F:Fun K "_law_product" "_law_product" Zec f fd)(T:Txt K mg C G S)(Yag:Cal P w K mg base "_law_whole" 1 Zrg)(Yal:Cal P w K mg base "_law_plus" 3 (Zl1 Zdn))(Yaj:Cal P w K mg base "_law_times" 3 (Zl1 Zbn)):FnOk P w K mg base CX0 4 f fd ["_law_p","_law_one","_law_other"] spLpB:=by
 have nd:=Zfv.nd;refine F.ok Zfv (λvs H Q E h=>?_) (λcdv A outer s H vs Q E hr h=>?_)
 .refine Zol h λt1 r1 t2 r2 rs1 rs2 p n1 m1 w2 k1 k2 A B e98 _=>?_;clear h;obtain rfl:=e98;rfl
 .refine Zws h λt1 r1 t2 r2 rs1 rs2 p n1 m1 w2 k1 k2 A B e99 hp T1 e910=>?_;clear h;obtain rfl:=e99;refine Zf3 e910 λT2 n24 m24 w24 lim q=>?_;clear e910;have lim2:k1+k2<=134000000:=∅
  have la:=T1.tv.row.1;have sA:=T1.hl;have sB:=T2.hl;refine⟨_,((3|||nd|||(@Zbo _ _ _ _ Zaa))<*>((Zb2 Ja1 rfl (Za6 (Zbc<|>(pv 1)<||>Zac)) (4>>>nd) ((5|||nd|||(@Zbo _ _ _ _ Zaa))<*>((Zb2 Ja1 rfl (Zej rfl T.n_range ((Zbc<|>(pv 2)<||>Zac)<&>Zaa)) (6>>>nd) ((7|||nd|||(Yag<$>hr<$>((pvr 0)<&>(Zac<&>Zaa))))<*>((Zb2 Ja1 rfl (Zej rfl T.n_range ((Zbc<|>(pv 1)<||>Zac)<&>Zaa)) (8>>>nd) (@Zan _ _ _ (7|||nd|||(Yal<$>hr<$>((pvr 0)<&>((pvr 7)<&>((Yaj<$>hr<$>((pvr 0)<&>(((ixJ Zaw)<|>(pvr 4)<||>(pvr 8))<&>((Zaw<|>(Zaw<|>((Zph Zbc)<|>(pvr 2)<||>Zac)<||>(pvr 8))<||>(pvr 6))<&>Zaa))))<&>Zaa)))))))<*>(@Zan _ _ _ (Zb1 (Zey Jaz Ja6 Ja7 (mtJ Zbd) (pvr 5) ((pvr 7)<&>Zaa)))))))<*>(@Zan _ _ _ (Zb1 (Zey Jaz Ja6 Ja7 (mtJ Zbd) (pvr 3) ((pvr 5)<&>Zaa)))))))<*>(~~~(@Zar _ _ _ _ _ (((Zph Zbc)<|>(pvr 1)<||>Zac)<&>(((Zph Zbc)<|>(pvr 2)<||>Zac)<&>((pvr 3)<&>Zaa))))))),?_⟩;walk_at "wp";refine⟨⇑0,λR hR=>?_⟩;have sR:=Same.new (o:=.lst []) hR;refine⟨_,rfl,t1,_,2,_,rfl,rfl,SqT.of (sR _ _ T1.tv.tup),rfl,r1,rfl,⟨_,SqL.of (sR _ _ T1.tv.lst)⟩,Zdt (xs:=rs1.map V.ref) (λi σ H3=>∃ (v4 v5 v6 v7 v8:Option V) (rs:List Addr),σ=[some (.int p),some (.ref t1),some (.ref t2),some (.ref R),v4,v5,v6,v7,v8]/\Same H H3/\H3 R=some (.lst (rs.map V.ref))/\R∉rs/\All2 (RowV H3 p) rs ((Zb4 p A B w2).take i))
   ⟨none,none,none,none,none,[],rfl,sR,Zab,by simp,by rw[List.take_zero];exact All2.nil⟩ (λi σ H3 _ ⟨_,_,_,_,_,_,_,s3,_⟩=>SqL.of (s3 _ _ T1.tv.lst)) ?_ ?_⟩
  .intro i x σ H3 hi e91;refine Zm7 e91 λv4 v5 v6 v7 v8 rs e911 s3 h3 e912=>?_;clear e91;obtain rfl:=e911;obtain⟨nR,a3⟩:=e912;refine Zqn λD1 hD1=>?_;refine Zad ((Zbe T1.tv.row).at' hi) λrow er e913=>?_;obtain⟨a,rfl,rv⟩:=e913;have hrow:=Jae er;have wr:=T1.hw row hrow;have gr:=T1.gd row hrow;have lA:i<A.length:=(Jaf.mp er).1;have ep:(Zb4 p A B w2)[i]?=some ((List.range w2).map λj=>Zwg p row (Zig B j)):=by unfold Zb4;rw[Jad,er];rfl
   have l3:=a3.1;rw[Jbc] at l3;walk_at "wp";refine⟨⇑0,λb hb=>?_⟩;have s4:=Same.new (o:=.lst []) hb;refine⟨_,rfl,t2,_,1,_,rfl,rfl,SqT.of ((s3.trans s4) _ _ T2.tv.tup),rfl,(w2:Int),rfl,lo62 _,hi62 (Ja3 w24 ⇑0),Zbt (λj σ H5=>∃ (v6 v7 v8:Option V) (vs:List V),σ=[some (.int p),some (.ref t1),some (.ref t2),some (.ref R),some (.ref a),some (.ref b),v6,v7,v8]/\Same H3 H5/\H5 b=some (.lst vs)/\All2 (NumV H5 p) vs ((List.range j).map λj=>Zwg p row (Zig B j)))
    ⟨v6,v7,v8,[],rfl,s4,Zab,All2.nil⟩ ?_ ?_⟩
   .intro j σ H5 hj e92;refine Zb5 e92 λu6 u7 u8 vs e914 s5 h5 a5=>?_;clear e92;obtain rfl:=e914;refine Zqn λD2 hD2=>?_;have hj:j<w2:=hj;have s05:=s3.trans s5;have l5:=a5.1;rw[Jab,Jat] at l5;have gc:Zdk p k2 (Zig B j):=Zmy T2.hw T2.gd hj;walk_at "wp";refine Zat p 0 ⟨rfl,hp,λn0 H6 s6 hn0=>?_⟩;rw[show Zj4 p 0=Zti p (λk=>row.getD k (0,1)) (λk=>(Zig B j).getD k (0,1)) 0 from rfl] at hn0;refine⟨_,rfl,t1,_,1,_,rfl,rfl,SqT.of ((s05.trans s6) _ _ T1.tv.tup),rfl,(m1:Int),rfl,lo62 _,hi62 (Ja3 m24 ⇑0),Zbt (λk σ H7=>∃ (n v8:V),σ=[some (.int p),some (.ref t1),some (.ref t2),some (.ref R),some (.ref a),some (.ref b),some (.int (0+(j:Int))),some n,if k=0 then u8 else some v8]/\Same H5 H7/\NumV H7 p n (Zti p (λk=>row.getD k (0,1)) (λk=>(Zig B j).getD k (0,1)) k))
     ⟨n0,n0,rfl,s6,hn0⟩ ?_ ?_⟩
    .intro k σ H7 hk e93;refine Zbm e93 λn v8' e915 s7 hn=>?_;clear e93;obtain rfl:=e915;refine Zqn λD3 hD3=>?_;have hk:k<m1:=hk;have s07:=s05.trans s7;have hk1:k<row.length:=Zsv hk wr;have ex:row[k]?=some row[k]:=Jaa hk1;have hkB:k<B.length:=Zsv hk sB;have eB:B[k]?=some B[k]:=Jaa hkB;have wB:=T2.hw _ (Jap hkB);have hjB:j<(B[k]).length:=Zsv hj wB;have ey:(B[k])[j]?=some ((B[k])[j]'hjB):=Jaa _;have ecl:(Zig B j)[k]?=some ((B[k])[j]'hjB):=by rw[Jad,eB];show some ((B[k]).getD j (0,1))=_;rw[Zaj ey]
     refine Zad (rv.same s07) λxsv hx1 hx2=>?_;refine Zad (hx2.at ex) λvx evx nvx=>?_;refine Zad ((T2.tv.same s07).row.at eB) λbk ebk e916=>?_;obtain⟨ysv,hy1,hy2⟩:=e916;refine Zad (hy2.at ey) λvy evy nvy=>?_;have gx:=gr _ (Jap hk1);have gy:=gc _ (Jae ecl);have fi:∀ i,i<k->Isn p (row.getD i (0,1))/\BtN k1 (row.getD i (0,1)):=λi hi=>gr _ (Za0 (Jei hi hk1));have gi:∀ i,i<k->Isn p ((Zig B j).getD i (0,1))/\BtN k2 ((Zig B j).getD i (0,1)):=λi hi=>gc _ (Za0 (by rw[Jab];exact Jei hi hkB));obtain⟨isd,bdd⟩:=Zth hp (n:=k) fi gi;walk_at "wp";refine⟨_,SqL.of hx1,vx,atI_z evx,_,SqT.of (s07 _ _ T2.tv.tup),_,rfl,_,rfl,_,SqL.of (s07 _ _ T2.tv.lst),_,atI_rz ebk,_,rfl,_,SqL.of hy1,vy,atI_z evy,p,vx,vy,_,_,rfl,hp,⟨nvx,nvy,gx.1,gy.1,k1,k2,gx.2.1,gx.2.2,gy.2.1,gy.2.2,lim2⟩,λm H8 s8 hm=>?_⟩;have it:=Zcp hp.lo gx.1 gy.1;have bt:BtN (k1+k2+7) (Zbn p row[k] ((B[k])[j]'hjB)):=Zoo hp gx.1 gy.1 gx.2 gy.2;refine Zir p n m _ _ ⟨rfl,hp,⟨hn.same s8,hm,isd,it,_,_,bdd.1,bdd.2,bt.1,bt.2,dot_lim (Jbm hk) lim⟩,λn' H9 s9 hn'=>?_⟩;subst hD3;refine Zat n' (.int (0+(k:Int))) ⟨?_,(s7.trans s8).trans s9,?_⟩
     .simp
     .show NumV H9 p n' (Zdn p _ (Zbn p (row.getD k (0,1)) ((Zig B j).getD k (0,1))));rw[Zaj ex,Zaj ecl];exact hn'
    .intro σ H7 e94;refine Zbm e94 λn v8' e917 s7 hn=>?_;clear e94;obtain rfl:=e917;have h57:=s7 _ _ h5;walk_at "wp";refine⟨.inl ⟨rfl,_,SqL.of h57⟩,_,h57,Zap (len_le l5 (Jbm (Jaw hj (Ja3 w24 ⇑0)))),?_⟩;subst hD2;refine Zg8 _ _ _ _ ⟨rfl,?_,Zab,?_⟩
     .exact (s5.trans s7).upd hb
     .rw [Jcj,Ja2];rw[Jbb,<- wr] at hn;exact (a5.mono λ_ _ k=>(k.same s7).put h57).app (All2.one (hn.put h57))
   .intro σ H5 e95;refine Zb5 e95 λu6 u7 u8 vs e918 s5 h5 a5=>?_;clear e95;obtain rfl:=e918;have h35:=s5 _ _ h3;have nb:b≠R:=(Zaf h3 hb).symm;walk_at "wp";refine⟨.inl ⟨rfl,_,SqL.of h35⟩,_,h35,Zap (by rw[Jab];exact oz76 n24 sA lA l3),?_⟩;subst hD1;refine Zpy _ _ _ _ _ (rs++[b]) ⟨rfl,(s3.trans s5).upd hR,by rw[Zab,Za5],λz=>?_,?_⟩
    .rcases Jal.mp z with h|h
     .exact nR h
     .exact nb (Jas.mp h).symm
    .rw [Jfg,ep];exact (a3.monoM λc x hc k=>(k.same s5).put h35 (λz=>nR (z ▸ hc))).app (All2.one (RowV.put ⟨vs,h5,a5⟩ h35 nb))
  .intro σ H3 e96;refine Zm7 e96 λv4 v5 v6 v7 v8 rs e919 s3 h3 e920=>?_;clear e96;obtain rfl:=e919;obtain⟨nR,a3⟩:=e920;rw[Jab,la,Jc3 (by unfold Zb4;rw[Jab];omega)] at a3;walk_at "wp";refine⟨_,SqT.of (s3 _ _ T1.tv.tup),_,rfl,_,SqT.of (s3 _ _ T2.tv.tup),_,rfl,⇑0,λt ht=>?_⟩;have s5:=Same.new (o:=.tup [.int n1,.int w2,.ref R]) ht;exact q t R rs _ (s3.trans s5) ⟨Zab,s5 _ _ h3,a3.mono λ_ _ q=>q.same s5,nR⟩
end
end Pf
namespace Pf
open PySem L2 L3 PyProof.Rows
structure Mat (p:Int)(n wd:Nat)(M:Mv):Prop where
 hl:M.length=n
 hw:∀ xs∈M,xs.length=wd
 is:∀ xs∈M,∀ x∈xs,Isn p x
theorem Zpc {p:Int}{F:Type}[Lean.Grind.Field F](hF:FdOk p F){n wd:Nat}{A B:Mv}(hA:Mat p n wd A)(hB:Mat p n wd B)(h:∀ i j,i<n->j<wd->(vN (A.getD i []) j:F)=vN (B.getD i []) j):A=B:=by
 have la:=hA.hl;have lb:=hB.hl;refine List.ext_getElem (oz25 la lb) λi h1 h2=>?_;have wa:=hA.hw _ (Jap h1);have wb:=hB.hw _ (Jap h2);refine List.ext_getElem (oz25 wa wb) λj h3 h4=>?_;have:=h i j (oz9 lb h2) (oz9 wa h3);rw[Za4 h1,Za4 h2,Zpz (Jaa h3),Zpz (Jaa h4)] at this;exact hF.inj (hA.is _ (Jap h1) _ (Jap h3)) (hB.is _ (Jap h2) _ (Jap h4)) this
theorem Zfl {p:Int}(hp:GroundP p){n m wd:Nat}{A B:Mv}(hA:Mat p n m A)(hB:Mat p m wd B):Mat p n wd (Zb4 p A B wd):=by
 obtain⟨F,_,hF⟩:=Zif hp;refine⟨by unfold Zb4;rw[Jab];exact hA.hl,λxs hx=>?_,λxs hx x hxx=>?_⟩
 .refine Zad (Jar.mp hx) λrow _ e91=>?_;obtain rfl:=e91;rw[Jab,Jat]
 .refine Zad (Jar.mp hx) λrow hr e92=>?_;obtain rfl:=e92;refine Zad (Jar.mp hxx) λj hj e93=>?_;obtain rfl:=e93;have hj:=Ja8.mp hj;have wr:=hA.hw row hr;have lB:=hB.hl;exact (Zpp hp hF (λi hi=>hA.is row hr _ (Za0 hi)) (λi hi=>by
   have hi':i<B.length:=by exact oz31 wr lB hi
   rw[Jac,Jad,Jaa hi'];exact hB.is _ (Jap hi') _ (Za0 (by rw[hB.hw _ (Jap hi')];exact hj)))).1
theorem Zjp {p:Int}{F:Type}[Lean.Grind.Field F](hp:GroundP p)(hF:FdOk p F){n m wd:Nat}{A B:Mv}(hA:Mat p n m A)(hB:Mat p m wd B){i j:Nat}(hi:i<n)(hj:j<wd):(vN ((Zb4 p A B wd).getD i []) j:F)=sm m λl=>vN (A.getD i []) l*vN (B.getD l []) j:=by
 have lA:=hA.hl;have lB:=hB.hl;have hm:A.getD i []∈A:=Za0 (Zm6 hi lA);have e:(Zb4 p A B wd).getD i []=(List.range wd).map λj=>Zwg p (A.getD i []) (Zig B j):=by
  unfold Zb4;rw[Jac,Jad,Jaa (show i<A.length by exact Zm6 hi lA),Za4 (show i<A.length by exact Zm6 hi lA)];rfl
 have wr:=hA.hw _ hm;have col:∀ l,l<m->(Zig B j).getD l (0,1)=(B.getD l []).getD j (0,1):=λl hl=>by
  rw[Jac,Jad,Jaa (show l<B.length by exact Zc4 lB hl),Za4 (show l<B.length by exact Zc4 lB hl)];rfl
 rw[e];unfold vN;rw[Jac,Jad,Jau hj];have:=(Zpp hp hF (n:=(A.getD i []).length) (f:=λk=>(A.getD i []).getD k (0,1)) (g:=λk=>(Zig B j).getD k (0,1)) (λl hl=>hA.is _ hm _ (Za0 hl)) (λl hl=>by
  rw[col l (oz9 wr hl)];exact hB.is _ (Za0 (oz69 lB wr hl)) _ (Za0 (by rw[hB.hw _ (Za0 (oz69 lB wr hl))];exact hj)))).2
 show (nm (Zwg p (A.getD i []) (Zig B j)):F)=_;rw[this,wr];exact Zak λl hl=>by rw[col l hl]
section
variable {G PL cL:Addr}
theorem TabV.items {H:Hp}{p hh wd:Int}{t r t' r':Addr}{rs rs':List Addr}{M:Mv}(h:TabV H p hh wd t r rs M)(h':TabV H p hh wd t' r' rs' M):Zeq K H 6 [.int hh,.int wd,.ref r] [.int hh,.int wd,.ref r'] (List.replicate 3 true):=Zim rfl λj x y e1 e2=>by
 match j,e1,e2 with
 | 0,e1,e2=>cases e1;cases e2;exact Zcy
 | 1,e1,e2=>cases e1;cases e2;exact Zcy
 | 2,e1,e2=>
  cases e1;cases e2;obtain⟨f1,f2⟩:=Zog (K:=K) (H:=H) (n:=5) (Zbe h.row) (Zbe h'.row) λv u x ⟨a,ea,ha⟩ ⟨b,eb,hb⟩=>by subst ea;subst eb;exact ha.eq hb
  exact Zn1 h.lst h'.lst f1 f2
 | j+3,e1,e2=>cases e1
structure WRh (H:Hp)(p:Int)(t l:Addr)(xs:List Nv)(kb:Nat):Prop where
 ex:∃ (ts:List Int) (b:Int),H t=some (.tup [.ref l,.int b])/\RowZ H l ts/\WRz p xs ts b/\SmallR kb ts/\Bt kb b
theorem WRh.same {H H':Hp}{p:Int}{t l:Addr}{xs:List Nv}{kb:Nat}(h:WRh H p t l xs kb)(s:Same H H'):WRh H' p t l xs kb:=let ⟨ts,b,h1,h2,h3⟩:=h.ex;⟨ts,b,s _ _ h1,s _ _ h2,h3⟩
theorem WRh.put {H:Hp}{D:Addr}{l':List V}{o:HO}{p:Int}{t l:Addr}{xs:List Nv}{kb:Nat}(h:WRh H p t l xs kb)(hD:H D=some (.lst l'))(n:l≠D):WRh (upd H D o) p t l xs kb:=let ⟨ts,b,h1,h2,h3⟩:=h.ex;⟨ts,b,by rw[Zag (Zez h1 hD (by intro z;cases z))];exact h1,h2.put n,h3⟩
theorem Zh2 {f g:Nat->Int}:∀ {n:Nat},(∀ i,i<n->f i=g i)->preSum f n=preSum g n
 | 0,_=>rfl
 | n+1,h=>by
  show preSum f n+f n=preSum g n+g n;rw[Zh2 (n:=n) λi hi=>h i ∅,h n ∅]
theorem Zp3 (g:Nat->Int)(N:Nat):preSum (λi=>((List.range N).map g).getD i 0) N=preSum g N:=Zh2 λi hi=>by
 rw[Jac,Jad,Jau hi];rfl
theorem Zl9 {f:Nat->Int}{B:Nat}:∀ {n:Nat},(∀ i,i<n->(f i).natAbs<=B)->(preSum f n).natAbs<=n*B
 | 0,_=>by show (0:Int).natAbs<=_;simp
 | n+1,h=>by
  have a:=Zl9 (f:=f) (B:=B) (n:=n) λi hi=>h i ∅;have b:=h n ∅;show (preSum f n+f n).natAbs<=(n+1)*B;rw[Jcs,Nat.one_mul];exact oz34 a b
theorem Zma {F:Type}[Lean.Grind.Field F](f:Nat->Int):∀ n:Nat,(ic (preSum f n):F)=sm n λi=>ic (f i)
 | 0=>Zd5
 | n+1=>by
  show (ic (preSum f n+f n):F)=sm n (λi=>ic (f i))+ic (f n);rw[Zpk,Zma f n]
theorem Zr1 {f:Nat->Int}{k n:Nat}(hn:n<=24)(h:∀ i,i<n->Bt k (f i)):Bt (k+5) (preSum f n):=by
 have h1:=Zl9 (f:=f) (B:=2 ^ k) (n:=n) λi hi=>Jbm (h i hi);have h2:n*2 ^ k<=24*2 ^ k:=Jcl _ hn;have h3:2 ^ (k+5)=32*2 ^ k:=by rw[Jfl];omega
 have h4:=Jbs k;show (preSum f n).natAbs<2 ^ (k+5);omega
theorem dot_isQ {p:Int}{xs ys:List Nv}{ts us:List Int}{b c:Int}{x:Nv}(hp:GroundP p)(hl:ys.length=xs.length)(hx:∀ x∈xs,Isn p x)(hy:∀ y∈ys,Isn p y)(w1:WRz p xs ts b)(w2:WRz p ys us c)(iq:IsQ p (preSum (λi=>ts.getD i 0*us.getD i 0) xs.length) (b*c) x):x=Zwg p xs ys:=by
 obtain⟨F,_,hF⟩:=Zif hp;obtain⟨i1,e1⟩:=Zpp hp hF (n:=xs.length) (f:=λk=>xs.getD k (0,1)) (g:=λk=>ys.getD k (0,1)) (λi hi=>hx _ (Za0 hi)) (λi hi=>hy _ (Za0 (Zc4 hl hi)));refine hF.inj iq.is i1 ?_;rw[iq.fd F hF,e1,Zma,Zch];have b0:=wr_b hF w1;have c0:=wr_b hF w2;rw[Zak (g:=λi=>(ic b*ic c)*(nm (xs.getD i (0,1))*nm (ys.getD i (0,1)))) λi hi=>by
  rw[Zch];have a1:=wr_eq hF w1 hx i;have a2:=wr_eq hF w2 hy i;unfold vz vN at a1 a2;rw[a1,a2]
  grind]
 rw[Zdo];generalize (sm xs.length λi=>(nm (xs.getD i (0,1)):F)*nm (ys.getD i (0,1)))=z;have bc:(ic b*ic c:F)≠0:=by
  intro z
  grind
 grind
theorem bot_ne {p b:Int}{F:Type}[Lean.Grind.Field F](hp:GroundP p)(hF:FdOk p F)(h:(ic b:F)≠0):p≠0->b % p≠0:=λh0 z=>by
 apply h;rw[<- hF.modF h0,z,Zd5]
def spRt (G:Addr):L2.Sp:=λvs H Q _=>∃ (g t l u m:Addr) (p:Int) (xs ys:List Nv) (k1 k2:Nat),vs=[.ref g,.ref t,.ref u]/\GAt G H g p/\GroundP p/\WRh H p t l xs k1/\WRh H p u m ys k2/\xs.length<=24/\ys.length=xs.length/\(∀ x∈xs,Isn p x)/\(∀ y∈ys,Isn p y)/\k1+k2+5<=NB /\
 ∀ v H',Same H H'->NumV H' p v (Zwg p xs ys)->Q v H'
theorem ok_rt (F:Fun K "row_times" "row_times" Zf9 f fd)(T:Txt K mg C G S)(Yar:CalD P w K mg base G "number" 6 (Ziy G) []):FnOk P w K mg base CX0 7 f fd ["ground","row","column"] (spRt G):=by
 have nd:=Zhq.nd;refine F.ok Zhq (λvs H Q E h=>?_) (λcdv A outer s H vs Q E hr h=>?_)
 .refine xE10_2 h λg t l u m p xs ys k1 k2 e91 _=>?_;clear h;obtain rfl:=e91;rfl
 .refine xE10_4 h λg t l u m p xs ys k1 k2 e92 hg hp e93=>?_;clear h;obtain rfl:=e92;refine xE0_8 e93 λe94 e95 xl yl gx gy kb q=>?_;clear e93;obtain⟨ts,b,ht,hl,w1,b1,bb1⟩:=e94;obtain⟨us,c,hu,hm,w2,b2,bb2⟩:=e95;refine⟨_,((Zbr (pvr 1) (@Zbw _ _ _ _ _ 2 rfl ((3>>>nd)^^^((4>>>nd)^^^(@Zaz _))) ⇑1 ⇑1))<*>((Zbr (pvr 2) (@Zbw _ _ _ _ _ 2 rfl ((5>>>nd)^^^((6>>>nd)^^^(@Zaz _))) ⇑1 ⇑1))<*>(~~~(Zla T.cl_Ground Yar hr.m (pvr 0) ((Zba (Zpu rfl) rfl T.n_sum boot_sum ((Zax (own:=["a","b"]) (fr:=[]) rfl (Zbj (by kernel_rfl)) (Zh3 rfl T.n_zip ((pv 3)<&>((pv 5)<&>Zaa))) (λ_ _ _ _=>⟨(@Zde _ K rfl _ _ _ _ 2 rfl ((0<<<["a","b"])^^^((1<<<["a","b"])^^^(@Zaz _))) ⇑1 ⇑1),Zau,(Zbk<|>(pv 0)<&&>(pv 1))⟩))<&>Zaa))<&>((Zbk<|>(pvr 4)<&&>(pvr 6))<&>Zaa)))))),?_⟩;walk_at "wp";obtain⟨dx,hg0⟩:=hg;have tl:=w1.len;have ul:=w2.len;refine⟨_,SqT.of ht,rfl,_,_,rfl,_,_,rfl,rfl,_,SqT.of hu,rfl,_,_,rfl,_,_,rfl,rfl,dx,_,hg0,Zdh p,?_⟩;have bt1:∀ i,Bt k1 (ts.getD i 0):=λi=>b1.at i;have bt2:∀ i,Bt k2 (us.getD i 0):=λi=>b2.at i;refine⟨_,rfl,_,rfl,l,m,rfl,⟨_,SqL.of hl⟩,⟨_,SqL.of hm⟩,λD hD=>Zgz (λi _ y=>y=.int (ts.getD i 0*us.getD i 0)) (λr _=>r) (λr _=>r) hl hm (by rw[Jab,Jab];omega) hD (by rw[Jab];omega) (λi x y H' Q' hx hy s' _ q'=>?_) (λzs H1 s1 e1 zl hz=>?_)⟩
  .refine Zad (Zc2 hx) λa e e96=>?_;obtain rfl:=e96;refine Zad (Zc2 hy) λc' e' e97=>?_;obtain rfl:=e97;have h1:=bt1 i;have h2:=bt2 i;rw[Zaj e] at h1;rw[Zaj e'] at h2;exact⟨_,rfl,_,rfl,_,_,rfl,rfl,h1.ok h2 (Ja3 (show k1+k2<=NB by omega) ⇑0),q' _ H' (Same.refl _) (by rw[Zaj e,Zaj e'])⟩
  .rw [Jab,tl] at zl;rw[Zn6 zl hz] at e1;refine⟨D,rfl,_,SqL.of e1,b,rfl,c,rfl,bb1.ok bb2 (Ja3 (show k1+k2<=NB by omega) ⇑0),?_⟩;rw[Jab,Jat,Zp3];obtain⟨F',_,hF⟩:=Zif hp;have bc:(ic (b*c):F')≠0:=by
    have:=wr_b hF w1;have:=wr_b hF w2;rw[Zch];intro z
    grind
   refine Zg8 g p _ _ ⟨rfl,⟨dx,s1 _ _ hg0⟩,hp,(Zr1 xl λi _=>(bt1 i).mul (bt2 i)).le ∅,(bb1.mul bb2).le ∅,λ_=>?_,bot_ne hp hF bc,λv x H2 s2 nv iq=>?_⟩
   .have:=Jd1 w1.pos w2.pos;omega
   .rw [dot_isQ hp yl gx gy w1 w2 iq] at nv;exact q v H2 (s1.trans s2) nv
abbrev colM (M:Mv)(wd:Nat):Mv:=(List.range wd).map λj=>Zig M j
theorem col_len {M:Mv}{n wd:Nat}(hl:M.length=n):∀ xs∈colM M wd,xs.length=n:=λxs hx=>by
 refine Zad (Jar.mp hx) λj _ e98=>?_;obtain rfl:=e98;rw[Jab,hl]
theorem Ztr {p:Int}{M:Mv}{k wd:Nat}(hw:∀ xs∈M,xs.length=wd)(g:∀ xs∈M,Zdk p k xs):∀ xs∈colM M wd,Zdk p k xs:=λxs hx=>by
 refine Zad (Jar.mp hx) λj hj e99=>?_;obtain rfl:=e99;exact Zmy hw g (Ja8.mp hj)
def spTa:L2.Sp:=λvs H Q _=>∃ (p:Int) (k n wd:Nat) (t r:Addr) (rs:List Addr) (M:Mv),vs=[.ref t]/\TabB H p k n wd t r rs M/\n<=200/\wd<=200/\∀ (t' r':Addr) (rs':List Addr) H',Same H H'->New H t' r' rs'->TabB H' p k wd n t' r' rs' (colM M wd)->Q (.ref t') H'
theorem ok_ta (F:Fun K "turned_about" "turned_about" Zdy f fd)(T:Txt K mg C G S):FnOk P w K mg base CX0 1 f fd ["table"] spTa:=by
 have nd:=Ze2.nd;refine F.ok Ze2 (λvs H Q E h=>?_) (λcdv A outer s H vs Q E hr h=>?_)
 .refine Zqs h λp k n wd t r rs M e910 _=>?_;clear h;obtain rfl:=e910;rfl
 .refine Zqr h λp k n wd t r rs M e911 tb n24 e912=>?_;clear h;obtain rfl:=e911;obtain⟨w24,q⟩:=e912;have rl:=tb.tv.row.1;have hM:=tb.hl;refine⟨_,((Zbr (pvr 0) (@Zbw _ _ _ _ _ 3 rfl ((1>>>nd)^^^((2>>>nd)^^^((@Zae _ _ 3 _ nd rfl (Or.inr rfl) (Or.inl rfl))^^^(@Zaz _)))) ⇑1 ⇑1))<*>(~~~(@Zar _ _ _ _ _ ((pvr 2)<&>((pvr 1)<&>((Zax (own:=["place"]) (fr:=[("rows",3)]) rfl (Zbj (by kernel_rfl)) (Zej rfl T.n_range ((pv 2)<&>Zaa)) (λ_ _ _ _=>⟨(@Zae _ _ 0 _ (show (["place","rows"]:List Str).Nodup by decide +kernel) rfl (Or.inr rfl) (Or.inl rfl)),Zau,(Zax (own:=["row"]) (fr:=[("place",0)]) rfl (Zbj (by kernel_rfl)) (Zgx K rfl (pv 1)) (λ_ _ _ _=>⟨(0<<<["row","place"]),Zau,((Zds K rfl)<|>(pv 0)<||>(pv 1))⟩))⟩))<&>Zaa)))))),?_⟩;walk_at "wp";refine⟨_,SqT.of tb.tv.tup,rfl,_,_,rfl,_,_,rfl,_,_,rfl,rfl,?_⟩;refine⟨_,rfl,_,rfl,∅,∅,λD hD=>Zmw (n:=wd) (λi Hc y=>∃ a,y=.ref a/\RowV Hc p a ((colM M wd).getD i [])/\a≠D/\H a=none) (λ⟨a,e,b,c⟩ s=>⟨a,e,b.same s,c⟩) (λ⟨a,e,b,c,d⟩ hD=>⟨a,e,b.put hD c,c,d⟩) hD ∅ (λi H' Q' hi s' ⟨lD,hlD⟩ q'=>?_) (λys H1 s1 e1 yl hys=>?_)⟩
  .refine ⟨_,rfl,r,rfl,⟨_,SqL.of (s' _ _ tb.tv.lst)⟩,λE1 hE1=>Zb3 (λk Hc y=>NumV Hc p y ((M.getD k []).getD i (0,1))) (λk s=>k.same s) (λk hD=>k.put hD) (s' _ _ tb.tv.lst) hE1 (by rw[Jab];omega) (λk x Hc Qc hx sc _ qc=>?_) (λys Hc sc ec yl yn=>?_)⟩
   .refine Zad ((Zbe tb.tv.row).at' hx) λrow er e913=>?_;obtain⟨a,rfl,vs,hv1,hv2⟩:=e913;have rw':=tb.hw row (Jae er);have ei:row[i]?=some (row[i]'(Zm6 hi rw')):=Jaa _;refine Zad (hv2.at ei) λv ev nv=>?_;have nv':=nv.same (s'.trans sc);have qq:=qc v Hc (Same.refl _);rw[Zaj er,Zaj ei] at qq;exact⟨_,rfl,_,rfl,a,vs,((0:Int)+(i:Int)),v,rfl,rfl,SqL.of ((s'.trans sc) _ _ hv1),Zbx ∅ (by rw[show ((0:Int)+(i:Int)).toNat=i by exact oz33];exact ev),qq nv'⟩
   .rw [Jab] at yl;have ecol:(colM M wd).getD i []=Zig M i:=Zaj (by rw[Jad,Jau hi];rfl);refine q' _ Hc sc ⟨E1,rfl,⟨ys,ec,?_⟩,(Zaf hlD hE1).symm,s'.free hE1⟩;rw[ecol];refine⟨by rw[Jab];exact oz26 rl yl,λk y x f1 f2=>?_⟩;rw[Jad] at f2;cases eM:M[k]? with
    | none=>rw[eM] at f2;cases f2
    | some row=>
     rw[eM] at f2;cases f2;have:=yn k y f1;rwa [Zaj eM] at this
  .obtain ⟨rs',rfl,a2,nD,fr⟩:=Znr (D:=D) (H1:=H) (p:=p) (M:=colM M wd) (by rw[Jab,Jat];exact yl) hys;refine⟨⇑0,λt' ht'=>?_⟩;have s2:=Same.new (o:=.tup [V.int wd,V.int n,.ref D]) ht';exact q t' D rs' _ (s1.trans s2) ⟨s1.free ht',hD,fr⟩ ⟨⟨Zab,s2 _ _ e1,a2.mono λ_ _ k=>k.same s2,nD⟩,by rw[Jab,Jat],col_len hM,Ztr tb.hw tb.gd⟩
def Zre (G:Addr):L2.Sp:=λvs H Q E=>∃ (g t1 r1 t2 r2:Addr) (rs1 rs2:List Addr) (p:Int) (n m w2 k1 k2:Nat) (A B:Mv),vs=[.ref g,.ref t1,.ref t2]/\GAt G H g p/\GroundP p/\TabB H p k1 n m t1 r1 rs1 A/\TabB H p k2 m w2 t2 r2 rs2 B/\n<=24/\m<=24/\w2<=24/\1<=k1/\1<=k2/\(m+1)*k1+(m+1)*k2+5<=NB /\
 ∀ t r rs H',Same H H'->New H t r rs->TabB H' p (7+m*(k1+k2+8)) n w2 t r rs (Zb4 p A B w2)->Q (.ref t) H'
theorem Zry {p:Int}{n m wd k1 k2:Nat}{A B:Mv}(hp:GroundP p)(hl:A.length=n)(hw:∀ xs∈A,xs.length=m)(hg:∀ xs∈A,Zdk p k1 xs)(hl':B.length=m)(hw':∀ xs∈B,xs.length=wd)(hg':∀ xs∈B,Zdk p k2 xs):(Zb4 p A B wd).length=n/\(∀ xs∈Zb4 p A B wd,xs.length=wd)/\∀ xs∈Zb4 p A B wd,Zdk p (7+m*(k1+k2+8)) xs:=by
 refine⟨by unfold Zb4;rw[Jab];exact hl,λxs hx=>?_,λxs hx x hxx=>?_⟩
 .refine Zad (Jar.mp hx) λrow _ e914=>?_;obtain rfl:=e914;rw[Jab,Jat]
 .refine Zad (Jar.mp hx) λrow hr e915=>?_;obtain rfl:=e915;refine Zad (Jar.mp hxx) λj hj e916=>?_;obtain rfl:=e916;have hj:=Ja8.mp hj;have wr:=hw row hr;have gc:=Zmy hw' hg' hj;have:=Zth hp (k1:=k1) (k2:=k2) (n:=row.length) (f:=λk=>row.getD k (0,1)) (g:=λk=>(Zig B j).getD k (0,1)) (λi hi=>hg row hr _ (Za0 hi)) (λi hi=>gc _ (Za0 (by rw[Jab];exact oz69 hl' wr hi)));rw[wr] at this;refine⟨?_,?_⟩
  .show Isn p (Zti p _ _ row.length);rw[wr];exact this.1
  .show BtN _ (Zti p _ _ row.length);rw[wr];exact this.2
theorem ok_prod (F:Fun K "product" "product" Zjd f fd)(T:Txt K mg C G S)(Yai:Cal P w K mg base "whole_row" 6 (Zur G))(Ybl:Cal P w K mg base "turned_about" 1 spTa)(Yba:Cal P w K mg base "row_times" 7 (spRt G)):FnOk P w K mg base CX0 8 f fd ["ground","one","other"] (Zre G):=by
 have nd:=Zkj.nd;refine F.ok Zkj (λvs H Q E h=>?_) (λcdv A outer s H vs Q E hr h=>?_)
 .refine Zqw h λg t1 r1 t2 r2 rs1 rs2 p n m w2 k1 k2 A B e917 _=>?_;clear h;obtain rfl:=e917;rfl
 .refine Zqv h λg t1 r1 t2 r2 rs1 rs2 p n m w2 k1 k2 A B e918 hg hp e919=>?_;clear h;obtain rfl:=e918;refine Zub e919 λT1 T2 n24 m24 w24 k11 k21 lim good=>?_;clear e919;have Zgm:∀ {c A B:Prop} [Decidable c],¬ c->B->if c then A else B:=λhc h=>by rw[if_neg hc];exact h
  refine⟨_,((@Za3 _ _ _ _ _ _ _ _ (Zal Zel ((Zph Zbc)<|>(pvr 1)<||>Zac) ((Zph Zbc)<|>(pvr 2)<||>Zac) (Zam _)) (@Zan _ _ _ Zc3) Zao)<*>((Zfd (i:=3) (own:=["row"]) (fr:=[("ground",0)]) rfl (Zbj (by kernel_rfl)) (Za6 (Zbc<|>(pv 1)<||>Zac)) (λ_ _ _ _=>⟨(0<<<["row","ground"]),Zau,(Yai<$>hr<$>((pv 1)<&>((pv 0)<&>Zaa)))⟩) nd rfl rfl rfl)<*>((Zaq (i:=4) nd rfl (Or.inr rfl) (Zax (own:=["column"]) (fr:=[("ground",0)]) rfl (Zbj (by kernel_rfl)) (Za6 (Zbc<|>(Ybl<$>hr<$>((pv 2)<&>Zaa))<||>Zac)) (λ_ _ _ _=>⟨(0<<<["column","ground"]),Zau,(Yai<$>hr<$>((pv 1)<&>((pv 0)<&>Zaa)))⟩)))<*>(~~~(@Zar _ _ _ _ _ (((Zph Zbc)<|>(pvr 1)<||>Zac)<&>(((Zph Zbc)<|>(pvr 2)<||>Zac)<&>((Zax (own:=["row"]) (fr:=[("columns",4),("ground",0)]) rfl (Zbj (by kernel_rfl)) (Za6 (pv 3)) (λ_ _ _ _=>⟨(@Zae _ _ 0 _ (show (["row","columns","ground"]:List Str).Nodup by decide +kernel) rfl (Or.inr rfl) (Or.inl rfl)),Zau,(Zax (own:=["column"]) (fr:=[("ground",2),("row",0)]) rfl (Zbj (by kernel_rfl)) (Zgx K rfl (pv 1)) (λ_ _ _ _=>⟨(0<<<["column","ground","row"]),Zau,(Yba<$>hr<$>((pv 1)<&>((pv 2)<&>((pv 0)<&>Zaa))))⟩))⟩))<&>Zaa)))))))),?_⟩;walk_at "wp";refine⟨_,SqT.of T1.tv.tup,_,rfl,_,SqT.of T2.tv.tup,_,rfl,rfl,Zgm (by simp) ?_⟩;have la:=T1.tv.row.1;have lb:=T2.tv.row.1;have sA:=T1.hl;have sB:=T2.hl
  -- the rows
  refine⟨_,rfl,t1,_,2,_,rfl,rfl,SqT.of T1.tv.tup,rfl,r1,rfl,⟨_,SqL.of T1.tv.lst⟩,λD1 hD1=>Zb3 (λi Hc y=>∃ t l,y=.ref t/\WRh Hc p t l (A.getD i []) ((m+1)*k1)/\l≠D1) (λ⟨t,l,e,b,c⟩ s=>⟨t,l,e,b.same s,c⟩) (λ⟨t,l,e,b,c⟩ hD=>⟨t,l,e,b.put hD c,c⟩) T1.tv.lst hD1 (by rw[Jab];omega) (λi x H' Q' hx s' ⟨lD,hlD⟩ q'=>?_) (λys H1 s1 e1 yl hys=>?_)⟩
  .refine Zad ((Zbe T1.tv.row).at' hx) λrow er e920=>?_;obtain⟨a,rfl,rv⟩:=e920;have hrow:=Jae er;have wr:=T1.hw row hrow;refine⟨_,rfl,_,rfl,g,a,p,row,k1,rfl,hg.same s',hp,rv.same s',oz89 m24 wr,T1.gd row hrow,k11,by rw[wr];omega,λt l zs b H2 s2 fl ht rz wz sz bb=>q' _ H2 s2 ⟨t,l,rfl,?_,(Zaf hlD fl).symm⟩⟩;rw[Zaj er];rw[wr] at sz bb;exact⟨zs,b,ht,rz,wz,sz,bb⟩
  rw[Jab] at yl
  -- the columns
  refine⟨_,rfl,p,k2,m,w2,t2,r2,rs2,B,rfl,T2.same s1,Zw4 m24,Zw4 w24,λt3 r3 rs3 H2 s2 nw3 tb3=>?_⟩;have s02:=s1.trans s2;refine Zg8 t3 _ 2 _ ⟨rfl,rfl,SqT.of tb3.tv.tup,rfl,r3,rfl,⟨_,SqL.of tb3.tv.lst⟩,λD2 hD2=>?_⟩;have l3:=tb3.tv.row.1;rw[Jab,Jat] at l3;refine Zb3 (λi Hc y=>∃ t l,y=.ref t/\WRh Hc p t l (Zig B i) ((m+1)*k2)/\l≠D2) (λ⟨t,l,e,b,c⟩ s=>⟨t,l,e,b.same s,c⟩) (λ⟨t,l,e,b,c⟩ hD=>⟨t,l,e,b.put hD c,c⟩) tb3.tv.lst hD2 (by rw[Jab];omega) (λi x H' Q' hx s' ⟨lD,hlD⟩ q'=>?_) (λzs H3 s3 e3 zl hzs=>?_)
  .refine Zad ((Zbe tb3.tv.row).at' hx) λcol ec e921=>?_;obtain⟨a,rfl,rv⟩:=e921;have hi:i<w2:=by
    have:=(Jaf.mp ec).1;rwa [Jab,Jat] at this
   have ecol:col=Zig B i:=by
    rw[Jad,Jau hi] at ec;cases ec;rfl
   subst ecol;have cl:(Zig B i).length=m:=by rw[Jab];exact sB
   refine⟨_,rfl,_,rfl,g,a,p,Zig B i,k2,rfl,hg.same (s02.trans s'),hp,rv.same s',oz89 m24 cl,Zmy T2.hw T2.gd hi,k21,by rw[cl];omega,λt l zs b H4 s4 fl ht rz wz sz bb=>q' _ H4 s4 ⟨t,l,rfl,?_,(Zaf hlD fl).symm⟩⟩;rw[cl] at sz bb;exact⟨zs,b,ht,rz,wz,sz,bb⟩
  rw[Jab] at zl;have s03:=s02.trans s3;have s13:=s2.trans s3;have e13:=s13 _ _ e1;refine⟨_,SqT.of (s03 _ _ T1.tv.tup),_,rfl,_,SqT.of (s03 _ _ T2.tv.tup),_,rfl,?_⟩
  -- the rows of the product
  refine⟨_,rfl,D1,rfl,⟨_,SqL.of e13⟩,λD3 hD3=>Zb3 (λi Hc y=>∃ a,y=.ref a/\RowV Hc p a ((Zb4 p A B w2).getD i [])/\a≠D3/\H3 a=none) (λ⟨a,e,b,c⟩ s=>⟨a,e,b.same s,c⟩) (λ⟨a,e,b,c,d⟩ hD=>⟨a,e,b.put hD c,c,d⟩) e13 hD3 ∅ (λi x H' Q' hx s' ⟨lD,hlD⟩ q'=>?_) (λus H4 s4 e4 ul hus=>?_)⟩
  .refine Zbm (hys i x hx) λti li e922 wri _=>?_;obtain rfl:=e922;have hi:i<A.length:=by have:=(Jaf.mp hx).1;exact oz24 la yl this
   have eA:A[i]?=some A[i]:=Jaa hi;rw[Zaj eA] at wri;have hrow:=Jap hi;have wr:=T1.hw _ hrow;refine⟨_,rfl,D2,rfl,⟨_,SqL.of (s' _ _ e3)⟩,λD4 hD4=>Zb3 (λj Hc y=>NumV Hc p y (Zwg p A[i] (Zig B j))) (λk s=>k.same s) (λk hD=>k.put hD) (s' _ _ e3) hD4 (oz82 w24 l3 zl) (λj y Hc Qc hy sc _ qc=>?_) (λvs Hc sc ec vl vn=>?_)⟩
   .refine Zbm (hzs j y hy) λtj lj e923 wrj _=>?_;obtain rfl:=e923;have hj:j<w2:=by have:=(Jaf.mp hy).1;exact oz24 l3 zl this
    exact⟨_,rfl,_,rfl,_,rfl,g,ti,li,tj,lj,p,A[i],Zig B j,(m+1)*k1,(m+1)*k2,rfl,hg.same ((s03.trans s').trans sc),hp,wri.same ((s13.trans s').trans sc),wrj.same (s'.trans sc),∅,by rw[Jab];omega,λx hx=>(T1.gd _ hrow x hx).1,λx hx=>(Zmy T2.hw T2.gd hj x hx).1,lim,λv Hd sd nv=>qc v Hd sd nv⟩
   .refine q' _ Hc sc ⟨D4,rfl,⟨vs,ec,?_⟩,(Zaf hlD hD4).symm,s'.free hD4⟩;have ep:(Zb4 p A B w2).getD i []=(List.range w2).map λj=>Zwg p A[i] (Zig B j):=Zaj (by unfold Zb4;rw[Jad,eA];rfl);rw[ep];refine⟨by rw[Jab,Jat];exact oz22 l3 zl vl,λj v x f1 f2=>?_⟩;have hj:j<w2:=by have:=(Jaf.mp f1).1;omega
    rw[Jad,Jau hj] at f2;cases f2;exact vn j v f1
  .obtain ⟨rs',rfl,a2,nD,fr⟩:=Znr (D:=D3) (H1:=H3) (p:=p) (M:=Zb4 p A B w2) (by unfold Zb4;rw[Jab];exact oz22 la yl ul) hus;refine⟨⇑0,λt' ht'=>?_⟩;have s5:=Same.new (o:=.tup [V.int n,V.int w2,.ref D3]) ht';refine Za2 (Zry (wd:=w2) hp T1.hl T1.hw T1.gd T2.hl T2.hw T2.gd) λg1 g2 g3=>?_;exact good t' D3 rs' _ ((s03.trans s4).trans s5) ⟨(s03.trans s4).free ht',s03.free hD3,λb hb=>s03.free (fr b hb)⟩ ⟨⟨Zab,s5 _ _ e4,a2.mono λ_ _ k=>k.same s5,nD⟩,g1,g2,g3⟩
end
end Pf
namespace Pf
open PySem L2 L3 PyProof.Rows
section
variable {F:Type}[Lean.Grind.Field F]
theorem sq_inv {n:Nat}{U S:Nat->Nat->F}(h:∀ i j,i<n->j<n->mm n U S i j=del i j):∀ i j,i<n->j<n->mm n S U i j=del i j:=by
 have inj:∀ v:Nat->F,(∀ i,i<n->sm n (λj=>U i j*v j)=0)->∀ j,j<n->v j=0:=by
  intro v hv;refine Zad (Zpg n (n+1) (λi j=>if j<n then S i j else v i) ∅) λc e91 hc=>?_;obtain⟨j0,hj0,hc0⟩:=e91;have e1:∀ i,i<n->sm n (λj=>S i j*c j)+v i*c n=0:=λi hi=>by
   have:=hc i hi;show _=_;rw[show sm (n+1) (λj=>(if j<n then S i j else v i)*c j)=sm n (λj=>(if j<n then S i j else v i)*c j)+(if n<n then S i n else v i)*c n from rfl,if_neg (Jbp n)] at this;rw[<- this];congr 1;exact Zak λj hj=>by rw[if_pos hj]
  have e2:∀ i,i<n->c i=0:=λi hi=>by
   have h1:sm n (λk=>U i k*(sm n (λj=>S k j*c j)+v k*c n))=0:=by
    rw[Zak (g:=λ_=>(0:F)) λk hk=>by rw[e1 k hk];grind];exact Zdx n
   rw[Zak (g:=λk=>sm n (λj=>U i k*(S k j*c j))+U i k*v k*c n) λk hk=>by rw[Zdo];grind,Zft,Zf4,Zf5,hv i hi] at h1;rw[Zak (g:=λj=>del i j*c j) λj hj=>by
    rw[<- h i j hi hj];show _=sm n (λk=>U i k*S k j)*c j;rw[<- Zf5];exact Zak λk _=>by grind] at h1
   have h2:sm n (λj=>del i j*c j)=c i:=by
    rw[Zak (g:=λj=>if j=i then c j else 0) λj _=>by
     show (if i=j then (1:F) else 0)*c j=_;by_cases e:i=j
     .subst e;rw[if_pos rfl,if_pos rfl];grind
     .rw [if_neg e,if_neg (λz=>e z.symm)];grind]
    exact Zfs c hi
   rw[h2] at h1
   grind
  have hjn:j0=n:=by
   apply Jb5;intro z;exact hc0 (e2 j0 (oz44 hj0 z))
  subst hjn;intro j hj;have:=e1 j hj;rw[Zak (g:=λ_=>(0:F)) λk hk=>by rw[e2 k hk];grind,Zdx] at this
  grind
 intro i j hi hj;have:=inj (λk=>mm n S U k j-del k j) (λl hl=>by
  have e:sm n (λk=>U l k*(mm n S U k j-del k j))=mm n U (mm n S U) l j-sm n (λk=>U l k*del k j):=by
   have:∀ m:Nat,sm m (λk=>U l k*(mm n S U k j-del k j))=sm m (λk=>U l k*mm n S U k j)-sm m (λk=>U l k*del k j):=by
    intro m
    induction m with
    | zero=>show (0:F)=0-0;grind
    | succ m ih=>
     show sm m _+_=(sm m _+_)-(sm m _+_);rw[ih]
     grind
   exact this n
  rw[e,<- Zvs];have e3:mm n (mm n U S) U l j=U l j:=by
   show sm n (λk=>mm n U S l k*U k j)=_;rw[Zak (g:=λk=>del l k*U k j) λk hk=>by rw[h l k hl hk]];rw[Zak (g:=λk=>if k=l then U k j else 0) λk _=>by
    show (if l=k then (1:F) else 0)*U k j=_;by_cases e:l=k
    .subst e;rw[if_pos rfl,if_pos rfl];grind
    .rw [if_neg e,if_neg (λz=>e z.symm)];grind]
   exact Zfs _ hl
  have e4:sm n (λk=>U l k*del k j)=U l j:=Zi0 _ hj;rw[e3,e4]
  grind) i hi
 grind
end
end Pf
namespace Pf
open PySem L2 L3 PyProof.Rows
section
variable {G PL cL:Addr}
theorem Zn7 {H:Hp}{n:Nat}{i j:Int}:EqD K H n (.int i) (.int j) (decide (i=j)):=by
 have:=EqD.flat (K:=K) (H:=H) (n:=n) (x:=.int i) (y:=.int j) rfl rfl;have e:eqV (.int i) (.int j)=decide (i=j):=by
  show (i == j)=decide (i=j);exact Jc0.mpr (by rw[Jbv,Jd7])
 rwa [e] at this
theorem Zpd {α:Type}{H:Hp}{n:Nat}{a c:Addr}{R:V->α->Prop}{vs us:List V}{xs ys:List α}(hl:xs.length=ys.length)(ha:H a=some (.lst vs))(hc:H c=some (.lst us))(h:All2 R vs xs)(h':All2 R us ys)(uq:∀ v x y,x∈xs->y∈ys->R v x->R v y->x=y)(k:∀ v u x y,x∈xs->y∈ys->R v x->R u y->∃ b,EqD K H n v u b/\(b=true ↔ x=y)):∃ b,EqD K H (n+1) (.ref a) (.ref c) b/\(b=true ↔ xs=ys):=by
 have l1:=h.1;have l2:=h'.1;have key:∀ i,∃ b,i<vs.length->∃ v u x y,vs[i]?=some v/\us[i]?=some u/\xs[i]?=some x/\ys[i]?=some y/\EqD K H n v u b/\(b=true ↔ x=y):=λi=>by
  by_cases hi:i<vs.length
  .have e1:=Jaa hi;have e2:=Jaa (show i<us.length by omega);have e3:=Jaa (show i<xs.length by exact oz9 l1 hi);have e4:=Jaa (show i<ys.length by exact oz24 hl l1 hi);refine Zad (k _ _ _ _ (Jae e3) (Jae e4) (h.2 i _ _ e1 e3) (h'.2 i _ _ e2 e4)) λb hb hb2=>?_;exact⟨b,λ_=>⟨_,_,_,_,e1,e2,e3,e4,hb,hb2⟩⟩
  .exact ⟨true,λz=>absurd z hi⟩
 by_cases hac:a=c
 .subst hac;rw[ha] at hc;cases hc;refine⟨true,.same,λ_=>?_,λ_=>rfl⟩;refine Jb6 λi=>?_;by_cases hi:i<vs.length
  .have e1:=Jaa hi;have e3:=Jaa (show i<xs.length by exact oz9 l1 hi);have e4:=Jaa (show i<ys.length by exact oz24 hl l1 hi);rw[e3,e4,uq _ _ _ (Jae e3) (Jae e4) (h.2 i _ _ e1 e3) (h'.2 i _ _ e1 e4)]
  .rw [Jaj ∅,Jaj ∅]
 .refine ⟨((List.range vs.length).map λi=>Classical.choose (key i)).all id,.list hac (SqL.of ha) (SqL.of hc) ∅ (by rw[Jab,Jat]) λj x y b f1 f2 f3=>?_,?_⟩
  .have hj:j<vs.length:=(Jaf.mp f1).1;rw[Jad,Jau hj] at f3;cases f3;refine Zb5 (Jcv (key j) hj) λv u x' y' e1 e2 e3 e91=>?_;refine Za2 e91 λe4 hq _=>?_;clear e91;rw[e1] at f1;rw[e2] at f2;cases f1;cases f2;exact hq
  .rw [List.all_map,Jbn];constructor
   .intro hall;refine Jb6 λi=>?_;by_cases hi:i<vs.length
    .refine Zb5 (Jcv (key i) hi) λv u x y e1 e2 e3 e92=>?_;refine Za2 e92 λe4 hq hxy=>?_;clear e92;rw[e3,e4,hxy.mp (hall i (Ja8.mpr hi))]
    .rw [Jaj ∅,Jaj ∅]
   .rintro rfl i hi;have hi:=Ja8.mp hi;refine Zb5 (Jcv (key i) hi) λv u x y e1 e2 e3 e93=>?_;refine Za2 e93 λe4 hq hxy=>?_;clear e93;rw[e3] at e4;cases e4;exact hxy.mpr rfl
theorem Zsl {H:Hp}{p:Int}{v:V}{x y:Nv}(hx:Isn p x)(hy:Isn p y)(h:NumV H p v x)(h':NumV H p v y):x=y:=by
 by_cases hp:p=0
 .refine Zad (h.ref hp) λt e94 ht=>?_;obtain rfl:=e94;refine Zad (h'.ref hp) λt' e ht'=>?_;cases e;rw[ht] at ht';simp only[Option.some.injEq,HO.tup.injEq,List.cons.injEq,V.int.injEq,and_true] at ht';exact Prod.ext ht'.1 ht'.2
 .obtain rfl:=h.int hp;have e:=h'.int hp;have e1:x.1=y.1:=by simpa using e
  rcases hx with ⟨h,_⟩|⟨_,_,_,h1⟩
  .exact absurd h hp
  .rcases hy with ⟨h,_⟩|⟨_,_,_,h2⟩
   .exact absurd h hp
   .exact Prod.ext e1 (h1.trans h2.symm)
theorem num_eqB {H:Hp}{n:Nat}{p:Int}{v u:V}{x y:Nv}(hx:Isn p x)(hy:Isn p y)(h:NumV H p v x)(h':NumV H p u y):∃ b,EqD K H (n+1) v u b/\(b=true ↔ x=y):=by
 by_cases hp:p=0
 .refine Zad (h.ref hp) λt e95 ht=>?_;obtain rfl:=e95;refine Zad (h'.ref hp) λt' e96 ht'=>?_;obtain rfl:=e96;by_cases e:t=t'
  .subst e;exact⟨true,.same,λ_=>Zsl hx hy h h',λ_=>rfl⟩
  .refine ⟨[decide (x.1=y.1),decide (x.2=y.2)].all id,.tuple e (SqT.of ht) (SqT.of ht') rfl rfl λj a b c f1 f2 f3=>?_,?_⟩
   .match j,f1,f2,f3 with
    | 0,f1,f2,f3=>cases f1;cases f2;cases f3;exact Zn7
    | 1,f1,f2,f3=>cases f1;cases f2;cases f3;exact Zn7
    | j+2,f1,_,_=>cases f1
   .simp only [Jfk,List.all_nil,id,Jfj,Jcm,Jd7];exact⟨λz=>Prod.ext z.1 z.2,λz=>by rw[z];exact⟨rfl,rfl⟩⟩
 .have e1:=h.int hp;have e2:=h'.int hp;subst e1;subst e2;refine⟨decide (x.1=y.1),Zn7,?_⟩;rw[Jd7];refine⟨λz=>?_,λz=>by rw[z]⟩;rcases hx with ⟨h,_⟩|⟨_,_,_,h1⟩
  .exact absurd h hp
  .rcases hy with ⟨h,_⟩|⟨_,_,_,h2⟩
   .exact absurd h hp
   .exact Prod.ext z (h1.trans h2.symm)
theorem row_uq {H:Hp}{p:Int}{a:Addr}{xs ys:List Nv}(hx:∀ x∈xs,Isn p x)(hy:∀ y∈ys,Isn p y)(h:RowV H p a xs)(h':RowV H p a ys):xs=ys:=by
 refine Zad h λvs h1 h2=>?_;clear h;refine Zad h' λus h3 h4=>?_;clear h';rw[h1] at h3;cases h3;have l1:=h2.1;have l2:=h4.1;refine Jb6 λi=>?_;by_cases hi:i<vs.length
 .have e1:=Jaa hi;have e3:=Jaa (show i<xs.length by omega);have e4:=Jaa (show i<ys.length by omega);rw[e3,e4,Zsl (hx _ (Jae e3)) (hy _ (Jae e4)) (h2.2 i _ _ e1 e3) (h4.2 i _ _ e1 e4)]
 .rw [Jaj ∅,Jaj ∅]
theorem row_eqB {H:Hp}{n:Nat}{p:Int}{a c:Addr}{xs ys:List Nv}(hl:xs.length=ys.length)(hx:∀ x∈xs,Isn p x)(hy:∀ y∈ys,Isn p y)(h:RowV H p a xs)(h':RowV H p c ys):∃ b,EqD K H (n+2) (.ref a) (.ref c) b/\(b=true ↔ xs=ys):=by
 refine Zad h λvs h1 h2=>?_;clear h;refine Zad h' λus h3 h4=>?_;clear h';exact Zpd hl h1 h3 h2 h4 (λv x y m1 m2=>Zsl (hx x m1) (hy y m2)) (λv u x y m1 m2=>num_eqB (hx x m1) (hy y m2))
theorem tab_eqB {H:Hp}{p:Int}{n wd:Nat}{t r t' r':Addr}{rs rs':List Addr}{M N:Mv}(mM:Mat p n wd M)(mN:Mat p n wd N)(h:TabV H p n wd t r rs M)(h':TabV H p n wd t' r' rs' N):∃ bs,Zeq K H 6 [.int n,.int wd,.ref r] [.int n,.int wd,.ref r'] bs/\(bs.all id=true ↔ M=N):=by
 obtain⟨b,hb,e⟩:=Zpd (K:=K) (H:=H) (n:=5) (R:=λv x=>∃ a,v=.ref a/\RowV H p a x) (mM.hl.trans mN.hl.symm) h.lst h'.lst (Zbe h.row) (Zbe h'.row)
  (λv x y m1 m2 ⟨a,ea,ha⟩ ⟨c,ec,hc⟩=>by subst ea;cases ec;exact row_uq (mM.is x m1) (mN.is y m2) ha hc)
  (λv u x y m1 m2 ⟨a,ea,ha⟩ ⟨c,ec,hc⟩=>by subst ea;subst ec;exact row_eqB (n:=3) ((mM.hw x m1).trans (mN.hw y m2).symm) (mM.is x m1) (mN.is y m2) ha hc)
 refine⟨[true,true,b],⟨rfl,rfl,λj x y c f1 f2 f3=>?_⟩,?_⟩
 .match j,f1,f2,f3 with
  | 0,f1,f2,f3=>cases f1;cases f2;cases f3;exact Zcy
  | 1,f1,f2,f3=>cases f1;cases f2;cases f3;exact Zcy
  | 2,f1,f2,f3=>cases f1;cases f2;cases f3;exact hb
  | j+3,f1,_,_=>cases f1
 .rw [<- e];simp
end
end Pf
namespace Pf
open PySem L2 L3 PyProof.Rows
theorem pl_id {pl:List Nat}{n:Nat}(asc:∀ i k,i<k->k<pl.length->pl.getD i 0<pl.getD k 0)(lt:∀ i,i<pl.length->pl.getD i 0<n)(e:pl.length=n):∀ i,i<n->pl.getD i 0=i:=by
 have lo:∀ i,i<n->i<=pl.getD i 0:=by
  intro i
  induction i with
  | zero=>intro _;omega
  | succ i ih=>intro h;have a:=ih ∅;have b:=asc i (i+1) ∅ ∅;omega
 have hi:∀ d i,i+d+1=n->pl.getD i 0<=i:=by
  intro d
  induction d with
  | zero=>intro i h;have:=lt i ∅;omega
  | succ d ih=>intro i h;have a:=ih (i+1) ∅;have b:=asc i (i+1) ∅ ∅;omega
 intro i h;have a:=lo i h;have b:=hi (n-1-i) i ∅;omega
theorem Zgn {p:Int}(hp:GroundP p)(n:Nat):Mat p n n (Zcc n):=by
 obtain⟨i0,i1⟩:=Zpi hp;refine⟨by rw[Jab,Jat],λxs hx=>?_,λxs hx x hxx=>?_⟩
 .refine Zad (Jar.mp hx) λi _ e91=>?_;obtain rfl:=e91;rw[Jby,Jbd]
 .refine Zad (Jar.mp hx) λi _ e92=>?_;obtain rfl:=e92;rcases Jd0 hxx with h|h
  .rw [List.eq_of_mem_replicate h];exact i0
  .rw [h];exact i1
section
variable {p:Int}{k n:Nat}{M S R:Mv}{pl:List Nat}
theorem Zt0 (hp:GroundP p)(h7:7<=k)(I:IsRed p k n n M S R pl)(hl:M.length=n)(hw:∀ xs∈M,xs.length=n)(hg:∀ xs∈M,Zdk p k xs):R=Zcc n ↔ pl.length=n:=by
 obtain⟨F,_,hF⟩:=Zif hp;have fd:=I.fq hp h7 hF hl hw hg;refine Zb0 (I.good hp h7 hl hw) λg1 g2 g3 g4=>?_;have mR:Mat p n n R:=⟨g2,λxs hx=>(g4 xs hx).1,λxs hx x hxx=>((g4 xs hx).2 x hxx).1⟩
 have rl:=fd.rr.rl;rw[Jab,g2] at rl;constructor
 .rintro rfl;apply Jb5;intro z;have h0:=fd.rr.zer pl.length pl.length (Jai _) (by rw[Jab,g2];exact oz6 rl z) (oz6 rl z);rw[at_vN (oz81 rl g2 z),Zea (oz6 rl z) (oz6 rl z)] at h0;have h1:(if pl.length=pl.length then (1:F) else 0)=0:=h0;rw[if_pos rfl] at h1;exact Zt7 h1
 .intro e;have id:=pl_id fd.rr.mono fd.rr.cn e;refine Zpc hF mR (Zgn hp n) λi j hi hj=>?_;have h0:=fd.rr.piv i j (Zc4 e hi) (Zc4 e hj);have e2:pl.getD j 0=j:=id j hj;rw[at_vN (Zc4 g2 hi)] at h0;show _=_;rw[Zea hi hj,<- h0];show _=vN (R.getD i []) (pl.getD j 0);rw[e2]
theorem Zql (hp:GroundP p)(h7:7<=k)(I:IsRed p k n n M S R pl)(hl:M.length=n)(hw:∀ xs∈M,xs.length=n)(hg:∀ xs∈M,Zdk p k xs)(e:R=Zcc n):Zb4 p S M n=Zcc n/\Zb4 p M S n=Zcc n:=by
 obtain⟨F,_,hF⟩:=Zif hp;have fd:=I.fq hp h7 hF hl hw hg;refine Zb0 (I.good hp h7 hl hw) λg1 g2 g3 g4=>?_;have mS:Mat p n n S:=⟨g1,λxs hx=>(g3 xs hx).1,λxs hx x hxx=>((g3 xs hx).2 x hxx).1⟩
 have mM:Mat p n n M:=⟨hl,hw,λxs hx x hxx=>(hg xs hx x hxx).1⟩
 have h1:∀ i j,i<n->j<n->mm n (λa b=>(vN (S.getD a []) b:F)) (λa b=>vN (M.getD a []) b) i j=del i j:=λi j hi hj=>by
  have:=fd.mul i j hi hj;rw[e,Zea hi hj] at this;exact this.symm
 have h2:=sq_inv h1;refine⟨Zpc hF (Zfl hp mS mM) (Zgn hp n) λi j hi hj=>?_,Zpc hF (Zfl hp mM mS) (Zgn hp n) λi j hi hj=>?_⟩
 .rw [Zjp hp hF mS mM hi hj,Zea hi hj];exact h1 i j hi hj
 .rw [Zjp hp hF mM mS hi hj,Zea hi hj];exact h2 i j hi hj
end
end Pf
namespace Pf
open PySem L2 L3 PyProof.Rows
section
variable {G PL cL:Addr}
def Zrj (G PL:Addr):L2.Sp:=λvs H Q _=>∃ (g t r:Addr) (rs:List Addr) (p:Int) (k n:Nat) (M:Mv),vs=[.ref g,.ref t]/\GAt G H g p/\GroundP p/\TabB H p k n n t r rs M/\n<=24/\7<=k/\(Zj3 p k n (Zgy M n)/\Zlt p k n (Zgy M n))/\(n+n+1)*k<=NB/\H PL=some Zv0 /\
 ∀ (tS rS:Addr) (rsS:List Addr) (S R:Mv) (pl:List Nat) H',Same H H'->New H tS rS rsS->TabV H' p n n tS rS rsS S->IsRed p k n n M S R pl->(R=Zcc n->Q (.ref tS) H')/\(R≠Zcc n->Q .non H')
theorem Zsj (F:Fun K "back_of" "back_of" Zjj f fd)(T:Txt K mg C G S)(Yak:Cal P w K mg base "reduced" 9 (Zix G PL))(Yas:Cal P w K mg base "plain" 8 (spPl G)):FnOk P w K mg base CX0 10 f fd ["ground","table"] (Zrj G PL):=by
 have nd:=Zkq.nd;refine F.ok Zkq (λvs H Q E h=>?_) (λcdv A outer s H vs Q E hr h=>?_)
 .refine Zqs h λg t r rs p k n M e91 _=>?_;clear h;obtain rfl:=e91;rfl
 .refine Zqr h λg t r rs p k n M e92 hg hp e93=>?_;clear h;obtain rfl:=e92;refine Zuc e93 λtb n24 k7 nb kb hPL q=>?_;clear e93;have Zgm:∀ {c A B:Prop} [Decidable c],¬ c->B->if c then A else B:=λhc h=>by rw[if_neg hc];exact h
  refine⟨_,((Zbr (pvr 1) (@Zbw _ _ _ _ _ 3 rfl ((2>>>nd)^^^((3>>>nd)^^^((4>>>nd)^^^(@Zaz _)))) ⇑1 ⇑1))<*>((@Za3 _ _ _ _ _ _ _ _ (Zal Zel (pvr 2) (pvr 3) (Zam _)) (~~~Zo3) Zao)<*>((Zbr (Yak<$>hr<$>((pvr 0)<&>((pvr 1)<&>Zaa))) (@Zbw _ _ _ _ _ 2 rfl ((5>>>nd)^^^((6>>>nd)^^^(@Zaz _))) ⇑1 ⇑1))<*>(~~~(Zu1 (Zal (op_eqT (Zns hr)) (pvr 6) (Yas<$>hr<$>((pvr 0)<&>((pvr 2)<&>Zaa))) (Zam _)) (pvr 5) Zo3))))),?_⟩;walk_at "wp";refine⟨_,SqT.of tb.tv.tup,rfl,_,_,rfl,_,_,rfl,_,_,rfl,rfl,rfl,Zgm (by simp) ?_⟩;refine Zt9 g t r rs p k n n M ⟨rfl,hg,hp,tb,n24,n24,k7,nb,kb,hPL,λt' tS rS tR rR rsS rsR S R pl H1 s1 ht' nwS nwR tbS tbR nn1 nn2 nn3 ir=>?_⟩;refine⟨t',rfl,_,SqT.of ht',rfl,_,_,rfl,_,_,rfl,rfl,?_⟩;refine Zcm g p n ⟨rfl,hg.same s1,hp,Zik,∅,λtU rU rsU H2 s2 nwU tbU=>?_⟩;rw[Jbb] at tbU;refine Zb0 (ir.good hp k7 tb.hl tb.hw) λg1 g2 g3 g4=>?_;have mR:Mat p n n R:=⟨g2,λxs hx=>(g4 xs hx).1,λxs hx x hxx=>((g4 xs hx).2 x hxx).1⟩
  refine Zad (tab_eqB (K:=K) mR (Zgn hp n) (tbR.same s2) tbU) λbs hb eb=>?_;obtain⟨q1,q2⟩:=q tS rS rsS S R pl H2 (s1.trans s2) nwS (tbS.same s2) ir;exact⟨tR,rfl,tU,rfl,_,SqT.of (tbR.same s2).tup,_,SqT.of tbU.tup,bs,hb,Zce (λhc=>q1 (eb.mp hc)) (λhc=>q2 (λz=>hc (eb.mpr z)))⟩
end
end Pf
namespace Pf
open PySem L2 L3 PyProof.Rows
section
variable {C PL:Addr}
theorem TabB.tab {H:Hp}{p:Int}{k n wd:Nat}{t r:Addr}{rs:List Addr}{M:Mv}(h:TabB H p k n wd t r rs M)(hk:k<=1000000):Tab H p n wd t r rs:=by
 have hl:=h.tv.row.1;have h2:=h.hl;refine⟨h.tv.tup,h.tv.lst,∅,λa ha=>?_,h.tv.nin⟩;obtain⟨i,hi,rfl⟩:=Jan.mp ha;refine Zad (h.tv.row.at' (Jaa hi)) λxs ex e93=>?_;obtain⟨vs,hv,al⟩:=e93;have hx:=Jae ex;refine⟨vs,hv,by rw[al.1,h.hw xs hx],λv hvm=>?_⟩;obtain⟨j,hj,rfl⟩:=Jan.mp hvm;refine Zad (al.at' (Jaa hj)) λx e2 nv=>?_;refine Za2 (h.gd xs hx x (Jae e2)) λi1 b1 b2=>?_;exact⟨x,nv,i1,Zoi b1 hk,Zoi b2 hk⟩
def ChL (H:Hp)(p:Int)(k:Nat)(l:Addr)(ts:List Addr)(ns:List Int)(Cs:List Mv):Prop:=H l=some (.lst (ts.map V.ref))/\ts.length=ns.length/\∀ (i:Nat) t n,ts[i]?=some t->ns[i]?=some n->∃ r rs,TabB H p k n.toNat n.toNat t r rs (Cs.getD i [])
theorem ChL.same {H H':Hp}{p:Int}{k:Nat}{l:Addr}{ts:List Addr}{ns:List Int}{Cs:List Mv}(h:ChL H p k l ts ns Cs)(s:Same H H'):ChL H' p k l ts ns Cs:=⟨s _ _ h.1,h.2.1,λi t n e1 e2=>let ⟨r,rs,tb⟩:=h.2.2 i t n e1 e2;⟨r,rs,tb.same s⟩⟩
structure StA (S C G:Addr)(H:Hp)(x:Addr)(p m:Int)(ns:List Int)(dx g d z l lp:Addr)(xs:List V):Prop where
 ins:H x=some (.ins S dx (Zgq g d z l))
 grd:GAt G H g p
 drw:Zh9 C H d m lp xs
 szs:Sizes H z ns
 hm:(ns.length:Int)=m
theorem StA.same {S G:Addr}{H H':Hp}{x:Addr}{p m:Int}{ns:List Int}{dx g d z l lp:Addr}{xs:List V}(h:StA S C G H x p m ns dx g d z l lp xs)(s:Same H H'):StA S C G H' x p m ns dx g d z l lp xs:=
 ⟨s _ _ h.ins,h.grd.same s,(let ⟨a,b,c⟩:=h.drw;⟨a,s _ _ b,s _ _ c⟩),h.szs.same s,h.hm⟩
def spAc (S C G:Addr):L2.Sp:=λvs H Q _=>∃ (x c dx g d z l lp:Addr) (p m:Int) (k:Nat) (xs:List V) (ns:List Int) (ts:List Addr) (Cs:List Mv),vs=[.ref x,.ref c]/\StA S C G H x p m ns dx g d z l lp xs/\GroundP p/\ChL H p k c ts ns Cs/\k<=1000000/\∀ H',Same H H'->Q (.bl true) H'
theorem ok_ac (F:Fun K "are_changes" "are_changes" Zef f fd)(T:Txt K mg C G S)(Yan:Cal P w K mg base "is_table_of" 9 (spTo G)):FnOk P w K mg base CX0 10 f fd ["standing","thing"] (spAc S C G):=by
 have nd:=Zfy.nd;refine F.ok Zfy (λvs H Q E h=>?_) (λcdv A outer s H vs Q E hr h=>?_)
 .refine Zqw h λx c dx g d z l lp p m k xs ns ts Cs e94 _=>?_;clear h;obtain rfl:=e94;rfl
 .refine Zqv h λx c dx g d z l lp p m k xs ns ts Cs e95 st hp e96=>?_;clear h;obtain rfl:=e95;refine Za2 e96 λhc hk q=>?_;clear e96;refine⟨_,((@Za3 _ _ _ _ _ _ _ _ (PW.pt (Zdd (Zb7 (Zcb (Zba Zbb rfl T.n_isinstance Jb3 ((pvr 1)<&>((Zhl rfl T.n_list Jc6)<&>Zaa))))) (Zcz (Zal Zel (Zba Zas rfl T.n_len Jbf ((pvr 1)<&>Zaa)) (Zff (Zbs (pvr 0) rfl) rfl) (Zam _))))) (~~~Zek) Zao)<*>(~~~(Zba (Zdu rfl) rfl T.n_all Jfo ((Zax (own:=["size","table"]) (fr:=[("standing",0)]) rfl (Zbj (by kernel_rfl)) (Zh3 rfl T.n_zip ((Zff (pv 0) rfl)<&>((pv 1)<&>Zaa))) (λ_ _ _ _=>⟨(@Zde _ K rfl _ _ _ _ 2 rfl ((0<<<["size","table","standing"])^^^((1<<<["size","table","standing"])^^^(@Zaz _))) ⇑1 ⇑1),Zau,(Yan<$>hr<$>((Znt K rfl (pv 2) rfl)<&>((pv 0)<&>((pv 0)<&>((pv 1)<&>Zaa)))))⟩))<&>Zaa)))),?_⟩;walk_at "wp";refine Zad st.drw λdd hd hlp=>?_;have hm:=st.hm;have hcl:=hc.2.1;refine Zat _ _ ⟨⟨rfl,rfl⟩,_,rfl,_,.lst hc.1,true,Zdg K,Zgm ⇑0 ⟨_,.inl (SqL.of hc.1),S,dx,_,st.ins,T.cl_Standing,T.nSd,_,Zd6 ..,d,rfl,C,dd,_,hd,T.cl_Drawing,T.nM,_,Zjw m lp,rfl,Zgm ?_ ?_⟩⟩
  .rw [Jao (by rw[Jab];congr 1;omega)];decide
  .refine ⟨_,rfl,x,S,dx,_,_,rfl,st.ins,T.cl_Standing,T.nSs,Zij ..,_,rfl,z,c,rfl,⟨_,SqL.of st.szs.1⟩,⟨_,SqL.of hc.1⟩,λD hD=>?_⟩;refine Zlo (k:=2) (xs:=ns.map V.int) (ys:=ts.map V.ref) (λi vs H'=>Same H H'/\H' D=some (.lst vs)/\vs=((List.range i).map λ_=>true).map V.bl) (by rw[Jab,Jab];exact oz74 hcl) ⟨Same.new hD,Zab,rfl⟩ (λi vs H' _ pv=>⟨SqL.of (pv.1 _ _ st.szs.1),SqL.of (pv.1 _ _ hc.1)⟩) ?_ ?_
   .intro i v y pz vs σ' H' hi hx hy hpz sh e91;refine Za2 e91 λs' e' e97=>?_;clear e91;obtain rfl:=e97;refine Zdl sh.two λz1 z2 e98=>?_;obtain rfl:=e98;rw[Jab] at hi;refine Zad (Zc2 hx) λn hn e99=>?_;obtain rfl:=e99;have hti:ts[i]?=some (ts[i]'(Zc4 hcl hi)):=Jaa (Zc4 hcl hi);rw[Jad,hti] at hy;cases hy;refine Zdl (hc.2.2 i _ n hti hn) λr rs tb=>?_;have n0:=st.szs.2.2 n (Jae hn);have n8:=st.szs.2.1;have tb1:=tb.tab hk;rw[Jbt n0.1] at tb1;have s0:=s'.trans (Same.new (o:=.tup [V.int n,V.ref (ts[i]'(Zc4 hcl hi))]) hpz);have st0:=st.same s0;refine Zat pz _ ⟨rfl,SqT.of Zab,rfl,_,_,rfl,_,_,rfl,rfl,?_⟩;simp only[Zfr,List.set_cons_zero,List.set_cons_succ,Jc1];refine⟨_,rfl,x,S,dx,_,_,rfl,st0.ins,T.cl_Standing,T.nSg,Zgs ..,_,rfl,_,rfl,_,rfl,g,_,r,p,n,n,rs,rfl,st0.grd,hp,tb1.same s0,n0.1,n0.2,n0.1,n0.2,λH'' s''=>?_⟩;have s1:=(Same.new (o:=.tup [V.int n,V.ref (ts[i]'(Zc4 hcl hi))]) hpz).trans s'';exact Zn2 (ws:=((List.range (i+1)).map λ_=>true).map V.bl) (by rw[Jab];exact hi) Sh.mk2 (s1 _ _ e') (Zap (by rw[Jab,Jab,Jat];omega)) ⟨(s'.trans s1).upd hD,by rw[Zab,Jcj,Ja2,Ja2];rfl,rfl⟩
   .intro vs H' e92;refine Za2 e92 λs' e' e910=>?_;clear e92;obtain rfl:=e910;exact⟨D,rfl,_,SqL.of e',by rw[Zfp];exact q H' s'⟩
def Zpw (p:Int)(n:Nat)(M:Mv):Prop:=∀ (F:Type) [Lean.Grind.Field F],FdOk p F->∃ U:Nat->Nat->F,∀ i j,i<n->j<n->sm n (λt=>U i t*vN (M.getD t []) j)=del i j
theorem Zv3 {p:Int}{k n:Nat}{M S R:Mv}{pl:List Nat}(hp:GroundP p)(h7:7<=k)(I:IsRed p k n n M S R pl)(hl:M.length=n)(hw:∀ xs∈M,xs.length=n)(hg:∀ xs∈M,Zdk p k xs)(iv:Zpw p n M):R=Zcc n:=by
 refine (Zt0 hp h7 I hl hw hg).mpr ?_;obtain⟨F,_,hF⟩:=Zif hp;have fd:=I.fq hp h7 hF hl hw hg;have rk:=fd.rr.rk fd.sp.symm;rw[Jab,hl] at rk;have rk:=rk.congr (B:=λi j=>vN (M.getD i []) j) λi j hi hj=>by rw[at_vN (Zc4 hl hi)]
 obtain⟨U,hU⟩:=iv F hF;exact rk.uniq (Rk.of_left (P:=U) hU)
structure BackM (p:Int)(kb n:Nat)(M B:Mv):Prop where
 hl:B.length=n
 hw:∀ xs∈B,xs.length=n
 gd:∀ xs∈B,Zdk p kb xs
 bm:Zb4 p B M n=Zcc n
 mb:Zb4 p M B n=Zcc n
def spBo (S C G PL:Addr):L2.Sp:=λvs H Q _=>∃ (x c dx g d z l lp:Addr) (p m:Int) (k:Nat) (xs:List V) (ns:List Int) (ts:List Addr) (Cs:List Mv),vs=[.ref x,.ref c]/\StA S C G H x p m ns dx g d z l lp xs/\GroundP p/\ChL H p k c ts ns Cs/\7<=k/\k<=1000000/\(∀ n∈ns,(Zd4 p k (n.toNat+n.toNat) n.toNat<=HB)/\(n.toNat+n.toNat+1)*k<=NB)/\(∀ (i:Nat) n,ns[i]?=some n->Zpw p n.toNat (Cs.getD i []))/\H PL=some Zv0 /\
 ∀ (b:Addr) (bs:List Addr) (Bs:List Mv) H',Same H H'->H b=none->H' b=some (.lst (bs.map V.ref))->bs.length=ns.length->(∀ (i:Nat) t n,bs[i]?=some t->ns[i]?=some n->(∃ r rs,TabV H' p n.toNat n.toNat t r rs (Bs.getD i []))/\BackM p (Zd4 p k (n.toNat+n.toNat) n.toNat) n.toNat (Cs.getD i []) (Bs.getD i []))->Q (.ref b) H'
theorem ok_bo (F:Fun K "backs_of" "backs_of" Zhk f fd)(T:Txt K mg C G S)(Ybd:Cal P w K mg base "are_changes" 10 (spAc S C G))(Ybv:Cal P w K mg base "back_of" 10 (Zrj G PL)):FnOk P w K mg base CX0 11 f fd ["standing","changes"] (spBo S C G PL):=by
 have nd:=Zja.nd;refine F.ok Zja (λvs H Q E h=>?_) (λcdv A outer s H vs Q E hr h=>?_)
 .refine Zqw h λx c dx g d z l lp p m k xs ns ts Cs e911 _=>?_;clear h;obtain rfl:=e911;rfl
 .refine Zqv h λx c dx g d z l lp p m k xs ns ts Cs e912 st hp e913=>?_;clear h;obtain rfl:=e912;refine Zuc e913 λhc k7 hk nb iv hPL q=>?_;clear e913;refine⟨_,((@Za3 _ _ _ _ _ _ _ _ (Zb7 (Zcb (Ybd<$>hr<$>((pvr 0)<&>((pvr 1)<&>Zaa))))) (@Zan _ _ _ Zc3) Zao)<*>((Zfd (i:=2) (own:=["change"]) (fr:=[("standing",0)]) rfl (Zbj (by kernel_rfl)) (Za6 (pv 1)) (λ_ _ _ _=>⟨(0<<<["change","standing"]),Zau,(Ybv<$>hr<$>((Znt K rfl (pv 1) rfl)<&>((pv 0)<&>Zaa)))⟩) nd rfl rfl rfl)<*>((@Za3 _ _ _ _ _ _ _ _ (Zcb (Zba (Zwm rfl) rfl T.n_any boot_any ((Zax (own:=["back"]) (fr:=[]) rfl (Zbj (by kernel_rfl)) (Za6 (pv 2)) (λ_ _ _ _=>⟨(0<<<["back"]),Zau,(Zdf op_isN (pv 0) Zo3 (Zam _))⟩))<&>Zaa))) (@Zan _ _ _ Zc3) Zao)<*>(~~~(pvr 2))))),?_⟩;refine Zgl λX hX=>?_;walk_at "wp";refine Zoj x c dx g d z l lp p m k xs ns ts Cs ⟨rfl,st,hp,hc,hk,λH1 s1=>⟨true,rfl,Zgm ⇑0 ?_⟩⟩;subst hX;refine Zgl λX hX=>?_;walk_at "wp";have hc1:=hc.same s1;have hcl:=hc.2.1;have n8:=st.szs.2.1;refine⟨_,rfl,c,rfl,⟨_,SqL.of hc1.1⟩,λD hD=>?_⟩;refine Zb3 (λi Hc y=>∃ (t r:Addr) (rs:List Addr) (B:Mv),y=.ref t/\TabV Hc p (ns.getD i 0).toNat (ns.getD i 0).toNat t r rs B/\r≠D/\D∉rs/\BackM p (Zd4 p k ((ns.getD i 0).toNat+(ns.getD i 0).toNat) (ns.getD i 0).toNat) (ns.getD i 0).toNat (Cs.getD i []) B) (λ⟨t,r,rs,B,e,tv,n1,n2,bm⟩ s'=>⟨t,r,rs,B,e,tv.same s',n1,n2,bm⟩) (λ⟨t,r,rs,B,e,tv,n1,n2,bm⟩ hl=>⟨t,r,rs,B,e,tv.put hl n1 n2,n1,n2,bm⟩) hc1.1 hD (by rw[Jab];omega) (λi v Hc Qc hv sc ⟨lD,hlD⟩ qc=>?_) λys H2 s2 e2 yl hys=>?_
  .rw [Jad] at hv;cases ht:ts[i]? with
   | none=>rw[ht] at hv;cases hv
   | some t=>
    rw[ht] at hv;cases hv;have hi:=(Jaf.mp ht).1;have hn:ns[i]?=some (ns.getD i 0):=by rw[Za4 (oz9 hcl hi)];exact Jaa _
    refine Zdl (hc1.2.2 i t _ ht hn) λr rs tb=>?_;obtain⟨b1,b2⟩:=nb _ (Jae hn);have n24:=st.szs.2.2 _ (Jae hn);have ivn:=iv i _ hn;have n24':(ns.getD i 0).toNat<=24:=∅
    generalize (ns.getD i 0).toNat=n at *;have st1:=st.same (s1.trans sc);have tb1:=tb.same sc;simp only[Zbv];walk_at "wp";obtain⟨w1,w2⟩:=Zuq hp k7 (Zle tb1.hl tb1.hw) b1;refine⟨_,rfl,x,rfl,S,dx,_,st1.ins,T.cl_Standing,T.nSg,_,Zgs ..,g,t,r,rs,p,k,n,Cs.getD i [],rfl,st1.grd,hp,tb1,n24',k7,⟨w1,w2⟩,b2,(s1.trans sc) _ _ hPL,λtS rS rsS B R pl H3 s3 nw tv ir=>?_⟩;have ru:=Zv3 hp k7 ir tb1.hl tb1.hw tb1.gd ivn;refine Zb0 (ir.good hp k7 tb1.hl tb1.hw) λg1 g2 g3 g4=>?_;obtain⟨e1,e2⟩:=Zql hp k7 ir tb1.hl tb1.hw tb1.gd ru;refine⟨λ_=>qc _ H3 s3 ⟨tS,rS,rsS,B,rfl,tv,λz=>?_,λz=>?_,⟨g1,λxs hx=>(g3 xs hx).1,λxs hx=>(g3 xs hx).2,e1,e2⟩⟩,λz=>absurd ru z⟩
    .have:=nw.r;rw[z,hlD] at this;cases this
    .have:=nw.rs D z;rw[hlD] at this;cases this
  .have hys':∃ (bs:List Addr) (Bs:List Mv),ys=bs.map V.ref/\bs.length=ns.length/\∀ (i:Nat) t n,bs[i]?=some t->ns[i]?=some n->(∃ r rs,TabV H2 p n.toNat n.toNat t r rs (Bs.getD i []))/\BackM p (Zd4 p k (n.toNat+n.toNat) n.toNat) n.toNat (Cs.getD i []) (Bs.getD i []):=by
    have pick:∀ y∈ys,∃ t:Addr,y=V.ref t:=λy hy=>by
     obtain⟨i,hi,rfl⟩:=Jan.mp hy;refine Zk0 (hys i _ (Jaa hi)) λt _ _ _ e _=>?_;exact⟨t,e⟩
    obtain⟨bs,hbs⟩:=All2.pick (P:=λy t=>y=V.ref t) pick;have eb:ys=bs.map V.ref:=by
     refine Jb6 λi=>?_;rw[Jad];cases e:ys[i]? with
     | none=>
      have:=List.getElem?_eq_none_iff.mp e;rw[Jaj (by have:=hbs.1;omega)];rfl
     | some y=>
      refine Zad (hbs.at' e) λt et e2=>?_;rw[et,e2];rfl
    have yl':ys.length=ns.length:=by rw[yl,Jab];exact hcl
    obtain⟨Bs,hBs⟩:=All2.pick (xs:=List.range ns.length) (P:=λi B=>∃ (t r:Addr) (rs:List Addr),ys[i]?=some (.ref t)/\TabV H2 p (ns.getD i 0).toNat (ns.getD i 0).toNat t r rs B/\BackM p (Zd4 p k ((ns.getD i 0).toNat+(ns.getD i 0).toNat) (ns.getD i 0).toNat) (ns.getD i 0).toNat (Cs.getD i []) B) λi hi=>by
     have hi:=Ja8.mp hi;refine Zb5 (hys i _ (Jaa (Zc4 yl' hi))) λt r rs B e tv _ e914=>?_;obtain⟨_,bm⟩:=e914;exact Zg8 B t r rs ⟨by rw[Jaa (Zc4 yl' hi),e],tv,bm⟩
    refine Zat bs Bs ⟨eb,by have:=hbs.1;omega,λi t n e1 e2=>?_⟩;have hi:=(Jaf.mp e2).1;have ey:ys[i]?=some (.ref t):=by rw[eb,Jad,e1];rfl
    refine Zad (hBs.at' (Jau hi)) λB eB e915=>?_;obtain⟨t',r,rs,e3,tv,bm⟩:=e915;rw[ey] at e3;cases e3;rw[Zaj e2] at tv bm;rw[Zaj eB];exact⟨⟨r,rs,tv⟩,bm⟩
   refine Zbm hys' λbs Bs e916 bl hB=>?_;clear hys';obtain rfl:=e916;have s02:=s1.trans s2;subst hX;refine Zgl λX hX=>?_;walk_at "wp";refine⟨_,rfl,D,rfl,⟨_,SqL.of e2⟩,λD2 hD2=>?_⟩;refine Zb3 (λ_ _ y=>y=.bl false) (λh _=>h) (λh _=>h) e2 hD2 (by rw[Jab];omega) (λi v Hc Qc hv sc _ qc=>?_) λys H3 s3 e3 yl3 hys3=>?_
   .rw [Jad] at hv;cases ht:bs[i]? with
    | none=>rw[ht] at hv;cases hv
    | some t=>
     rw[ht] at hv;cases hv;simp only[Zbv];walk_at "wp";exact qc _ Hc (Same.refl _) (Jc8 V.bl (Jbg id))
   .have ef:ys=(ys.map λ_=>false).map V.bl:=by
     rw[Jek];refine Jb6 λi=>?_;rw[Jad];cases e:ys[i]? with
     | none=>rfl
     | some y=>rw[hys3 i y e];rfl
    refine⟨D2,rfl,ys.map λ_=>false,?_,?_⟩
    .rw [<- ef];exact SqL.of e3
    rw[if_neg (by simp)];subst hX;walk_at "wp";exact q D bs Bs H3 (s02.trans s3) (s1.free hD) (s3 _ _ e2) bl λi t n f1 f2=>let ⟨⟨r,rs,tv⟩,bm⟩:=hB i t n f1 f2;⟨⟨r,rs,tv.same s3⟩,bm⟩
end
end Pf
namespace Pf
open PySem L2 PyProof.Rows
section
variable {C G S:Addr}
theorem for_zip {a b:Addr}{xs ys:List V}{g:TG}{tb:TS}{Dn:Ends}{σ:L2.St}{H:Hp}(Pv:Nat->L2.St->Hp->Prop)(hlen:ys.length=xs.length)(h0:Pv 0 σ H)(hl:∀ i σ H,i<=xs.length->Pv i σ H->SqL K H a xs/\SqL K H b ys)(hs:∀ (i:Nat) x y p σ H,xs[i]?=some x->ys[i]?=some y->H p=none->Pv i σ H->g (.ref p) σ (upd H p (.tup [x,y])) λσ2 H2=>tb { Dn with nx:=Pv (i+1),ct:=Pv (i+1),bk:=Dn.nx } σ2 H2)(hd:∀ σ H,Pv xs.length σ H->Dn.nx σ H):
  ∃ W:Nat->Nat->L2.St->Hp->Prop,(∃ m,W 0 m σ H)/\∀ i m σ H,W i m σ H->
   ((Itz K a b).stop i H/\Dn.nx σ H)\/((Itz K a b).go i H/\∃ N:L2.St->Hp->Prop,(∀ σ' H',N σ' H'->∃ m',m'<m/\W (i+1) m' σ' H')/\∀ x H',(Itz K a b).yld i H x H'->g x σ H' λσ2 H2=>tb { Dn with nx:=N,ct:=N,bk:=Dn.nx } σ2 H2):=by
 refine⟨λi m σ H=>m=xs.length-i/\i<=xs.length/\Pv i σ H,⟨xs.length,by simp,Jb9 _,h0⟩,?_⟩;intro i m σ H e91;refine Za2 e91 λe92 hi p=>?_;clear e91;obtain rfl:=e92;obtain⟨q1,q2⟩:=hl i σ H hi p;by_cases hlt:i<xs.length
 .refine .inr ⟨⟨xs,ys,xs[i],ys[i]'(Zc4 hlen hlt),q1,q2,by simp[hlt],by simp[hlen,hlt]⟩,Pv (i+1),λσ' H' p'=>⟨xs.length-(i+1),∅,rfl,hlt,p'⟩,λx H' y=>?_⟩;refine Zbu y λu v pp e93 hp e94 e95=>?_;clear y;obtain rfl:=e93;obtain rfl:=e94;obtain⟨e1,e2⟩:=e95;exact hs i u v pp σ _ (e1 xs q1) (e2 ys q2) hp p
 .have e:i=xs.length:=∅
  subst e;exact .inl ⟨⟨xs,ys,q1,q2,.inl (Jai _)⟩,hd σ H p⟩
end
end Pf
namespace Pf
open PySem L2 L3 PyProof.Rows
section
variable {C PL:Addr}
abbrev Tc:=Int×Int×List (List V)
def nz (ns:List Int)(i:Int):Nat:=(ns.getD i.toNat 0).toNat
theorem Znw {H:Hp}{z:Addr}{ns:List Int}(h:Sizes H z ns)(i:Int):nz ns i<=24/\((nz ns i:Nat):Int)=ns.getD i.toNat 0:=by
 unfold nz;by_cases q:i.toNat<ns.length
 .have:=h.2.2 _ (Za0 (d:=0) q);omega
 .rw [Jac,Jaj ∅];exact⟨⇑0,rfl⟩
def TbL (H:Hp)(p:Int)(k:Nat)(l:Addr)(ts:List Addr)(ps:List (Int×Int))(ns:List Int)(Ms:List Mv):Prop:=H l=some (.lst (ts.map V.ref))/\ts.length=ps.length/\∀ (i:Nat) t q,ts[i]?=some t->ps[i]?=some q->∃ r rs,TabB H p k (nz ns q.2) (nz ns q.1) t r rs (Ms.getD i [])
theorem TbL.same {H H':Hp}{p:Int}{k:Nat}{l:Addr}{ts:List Addr}{ps:List (Int×Int)}{ns:List Int}{Ms:List Mv}(h:TbL H p k l ts ps ns Ms)(s:Same H H'):TbL H' p k l ts ps ns Ms:=⟨s _ _ h.1,h.2.1,λi t n e1 e2=>let ⟨r,rs,tb⟩:=h.2.2 i t n e1 e2;⟨r,rs,tb.same s⟩⟩
structure StB (H0:Hp)(S C G:Addr)(H:Hp)(x:Addr)(p m:Int)(ps:List (Int×Int))(ns:List Int)(k:Nat)(Ms:List Mv)(dx g d z l lp:Addr)(xs:List V)(ts:List Addr):Prop where
 sa:StA S C G H x p m ns dx g d z l lp xs
 prs:Prs H xs ps
 lst:H l=some (.lst (ts.map V.ref))
 len:ts.length=ps.length
 tbs:∀ (i:Nat) t q,ts[i]?=some t->ps[i]?=some q->∃ r rs,TabB H p k (nz ns q.2) (nz ns q.1) t r rs (Ms.getD i [])/\New H0 t r rs
 nz:H0 z=none
 nl:H0 l=none
theorem StB.same {H0:Hp}{S G:Addr}{H H':Hp}{x:Addr}{p m:Int}{ps:List (Int×Int)}{ns:List Int}{k:Nat}{Ms:List Mv}{dx g d z l lp:Addr}{xs:List V}{ts:List Addr}(h:StB H0 S C G H x p m ps ns k Ms dx g d z l lp xs ts)(s:Same H H'):StB H0 S C G H' x p m ps ns k Ms dx g d z l lp xs ts:=
 ⟨h.sa.same s,h.prs.same s,s _ _ h.lst,h.len,λi t q e1 e2=>let ⟨r,rs,tb,nw⟩:=h.tbs i t q e1 e2;⟨r,rs,tb.same s,nw⟩,h.nz,h.nl⟩
theorem Zq3 {H H':Hp}{p:Int}{k n wd:Nat}{t r t' r':Addr}{rs rs':List Addr}{M:Mv}{MV:List (List V)}(tb:TabB H p k n wd t r rs M)(tc:TabC H p n wd t r rs MV)(s:Same H H')(tc':TabC H' p n wd t' r' rs' MV):TabB H' p k n wd t' r' rs' M:=by
 have l1:=tc.tab.len;have l2:=tc'.tab.len;have l3:=tb.tv.row.1;refine⟨⟨tc'.tab.tup,tc'.tab.lst,⟨∅,λi a xs e1 e2=>?_⟩,tc'.tab.nin⟩,tb.hl,tb.hw,tb.gd⟩;have hi:=(Jaf.mp e2).1;refine Zad (tb.tv.row.at (i:=i) e2) λb eb e91=>?_;obtain⟨vs,hv,al⟩:=e91;have h1:=tc.con i b eb;rw[hv] at h1;have e3:vs=MV.getD i []:=by cases h1;rfl
 refine⟨MV.getD i [],tc'.con i a e1,?_⟩;rw[<- e3];exact al.mono λ_ _ q=>q.same s
theorem Zq8 {S G:Addr}{H:Hp}{x dx g d z l lp:Addr}{p m:Int}{k:Nat}{xs:List V}{ps:List (Int×Int)}{ns:List Int}{ts:List Addr}{Ms:List Mv}{Q:VK}{E:XK}(hx:H x=none)(hdx:H dx=none)(ndx:dx≠x)(hg:GAt G H g p)(hp:GroundP p)(hd:Zh9 C H d m lp xs)(pr:Prs H xs ps)(ip:InP m ps)(p9:ps.length<=9)(hz:Sizes H z ns)(hm:(ns.length:Int)=m)(hT:TbL H p k l ts ps ns Ms)(hk:k<=1000000)(q:∀ (dx z' l':Addr) (ts':List Addr) (H':Hp),Same H H'->StB H S C G H' x p m ps ns k Ms dx g d z' l' lp xs ts'->Q .non H'):spSI S C G [.ref x,.ref g,.ref d,.ref z,.ref l] (upd (upd H dx (.own x)) x (.ins S dx [])) Q E:=by
 have fx:(upd H dx (.own x)) x=none:=by rw[Zag ndx.symm];exact hx
 have sx:Same H (upd (upd H dx (.own x)) x (.ins S dx [])):=(Same.new hdx).trans (Same.new fx);refine Zad hd λdd hd1 hd2=>?_;clear hd;have hl:=hT.2.1;obtain⟨cs,hcs⟩:=All2.pick (xs:=List.range ps.length) (P:=λi (c:Tc)=>∃ (t r:Addr) (rs:List Addr) (qq:Int×Int),ts[i]?=some t/\ps[i]?=some qq/\TabB H p k (nz ns qq.2) (nz ns qq.1) t r rs (Ms.getD i [])/\c.1=(nz ns qq.2:Nat)/\c.2.1=(nz ns qq.1:Nat)/\TabC H p c.1 c.2.1 t r rs c.2.2) λi hi=>by
  have hi:=Ja8.mp hi;have e1:ts[i]?=some (ts[i]'(Zc4 hl hi)):=Jaa _;have e2:ps[i]?=some ps[i]:=Jaa hi;refine Zdl (hT.2.2 i _ _ e1 e2) λr rs tb=>?_;obtain⟨MV,tc⟩:=(tb.tab hk).toC;exact Zir (_,_,MV) _ r rs _ ⟨e1,e2,tb,rfl,rfl,tc⟩
 have cl:cs.length=ps.length:=by have:=hcs.1;rw[Jat] at this;exact Zu4 this
 have at1:∀ (i:Nat) c,cs[i]?=some c->∃ (t r:Addr) (rs:List Addr) (qq:Int×Int),ts[i]?=some t/\ps[i]?=some qq/\TabB H p k (nz ns qq.2) (nz ns qq.1) t r rs (Ms.getD i [])/\c.1=(nz ns qq.2:Nat)/\c.2.1=(nz ns qq.1:Nat)/\TabC H p c.1 c.2.1 t r rs c.2.2:=λi c e=>by
  refine Zad (hcs.at (i:=i) e) λj ej h=>?_;have hi:=(Jaf.mp e).1;rw[Jau (oz9 cl hi)] at ej;cases ej;exact h
 have tbs:Tbs H p l ts cs:=by
  refine⟨hT.1,∅,∅,λi t c e1 e2=>?_⟩;refine Zb5 (at1 i c e2) λt' r rs qq f1 f2 tb e92=>?_;refine Za2 e92 λc1 c2 tc=>?_;clear e92;rw[e1] at f1;cases f1;have n1:=Znw hz qq.1;have n2:=Znw hz qq.2;exact⟨⟨r,rs,tc⟩,oz70 c1,∅,oz70 c2,∅⟩
 have ft:Fits ns cs ps:=⟨cl,λi c qq e1 e2=>by
  refine Zb5 (at1 i c e1) λt' r rs q' f1 f2 tb e93=>?_;refine Za2 e93 λc1 c2 tc=>?_;clear e93;rw[e2] at f2;cases f2;rw[c1,c2,(Znw hz qq.1).2,(Znw hz qq.2).2];exact⟨rfl,rfl⟩⟩
 refine Zok x dx g d z l lp p m xs ps ns ts cs ⟨rfl,Zab,hg.same sx,hp,⟨dd,sx _ _ hd1,sx _ _ hd2⟩,pr.same sx,ip,p9,hz.same sx,hm,tbs.same sx,ft,λz' l' ts' H' ex hx' fz fl' hz' hl' hn' ht'=>?_⟩;have sH:Same H H':=Same.thru sx hx ex;refine q dx z' l' ts' H' sH ⟨⟨hx',hg.same sH,⟨dd,sH _ _ hd1,sH _ _ hd2⟩,hz',hm⟩,pr.same sH,hl',∅,λi t qq e1 e2=>?_,sx.free fz,sx.free fl'⟩;have hi:=(Jaf.mp e1).1;have ec:cs[i]?=some (cs[i]'(by omega)):=Jaa _;refine Zb5 (at1 i _ ec) λt' r rs q' f1 f2 tb e94=>?_;refine Za2 e94 λc1 c2 tc=>?_;clear e94;rw[e2] at f2;cases f2;refine Zdw (ht' i t _ e1 ec) λr' rs' tc' ft' fr' fs'=>?_;rw[c1,c2] at tc tc';exact Zat r' rs' ⟨Zq3 tb tc sH tc',sx.free ft',sx.free fr',λa ha=>sx.free (fs' a ha)⟩
theorem TabB.le {H:Hp}{p:Int}{k k' n wd:Nat}{t r:Addr}{rs:List Addr}{M:Mv}(h:TabB H p k n wd t r rs M)(hk:k<=k'):TabB H p k' n wd t r rs M:=⟨h.tv,h.hl,h.hw,λxs hx x hxx=>let ⟨a,b,c⟩:=h.gd xs hx x hxx;⟨a,b.le hk,c.le hk⟩⟩
theorem TabB.put {H:Hp}{D:Addr}{l:List V}{o:HO}{p:Int}{k n wd:Nat}{t r:Addr}{rs:List Addr}{M:Mv}(h:TabB H p k n wd t r rs M)(hD:H D=some (.lst l))(nr:r≠D)(ns:D∉rs):TabB (upd H D o) p k n wd t r rs M:=⟨h.tv.put hD nr ns,h.hl,h.hw,h.gd⟩
theorem cutF {wi:TI}{g:TG}{tb:TS}{D:Ends}{σ:L2.St}{H:Hp}(h:∀ tb',tb'=tb->tFor wi g tb' D σ H):tFor wi g tb D σ H:=h tb rfl
def chM (p:Int)(ns:List Int)(ps:List (Int×Int))(Bs Ms Cs:List Mv)(i:Nat):Mv:=Zb4 p (Bs.getD (ps.getD i (0,0)).2.toNat []) (Zb4 p (Ms.getD i []) (Cs.getD (ps.getD i (0,0)).1.toNat []) (nz ns (ps.getD i (0,0)).1)) (nz ns (ps.getD i (0,0)).1)
structure Lim (p:Int)(ns:List Int)(N k kt KB K1 K2:Nat):Prop where
 sz:∀ n∈ns,n.toNat<=N
 k7:7<=k
 kt1:1<=kt
 hk:k<=1000000
 nb:∀ n∈ns,Zd4 p k (n.toNat+n.toNat) n.toNat<=HB/\(n.toNat+n.toNat+1)*k<=NB/\Zd4 p k (n.toNat+n.toNat) n.toNat<=KB
 b1:(N+1)*kt+(N+1)*k+5<=NB
 e1:7+N*(kt+k+8)<=K1
 b2:(N+1)*KB+(N+1)*K1+5<=NB
 e2:7+N*(KB+K1+8)<=K2
 h2:K2<=1000000
 kb1:1<=KB
def spChg (S C G PL:Addr):L2.Sp:=λvs H Q _=>∃ (H0:Hp) (x c dx g d z l lp:Addr) (p m:Int) (N k kt KB K1 K2:Nat) (xs:List V) (ps:List (Int×Int)) (ns:List Int) (ts cts:List Addr) (Ms Cs:List Mv),vs=[.ref x,.ref c]/\StB H0 S C G H x p m ps ns kt Ms dx g d z l lp xs ts/\GroundP p/\InP m ps/\ps.length<=9/\ChL H p k c cts ns Cs/\Lim p ns N k kt KB K1 K2/\(∀ (i:Nat) n,ns[i]?=some n->Zpw p n.toNat (Cs.getD i []))/\H PL=some Zv0 /\
 ∀ (x' dx' z' l':Addr) (ts':List Addr) (Bs:List Mv) (H1 H':Hp),Same H H1->Same H1 H'->(∀ (i:Nat) n,ns[i]?=some n->BackM p (Zd4 p k (n.toNat+n.toNat) n.toNat) n.toNat (Cs.getD i []) (Bs.getD i []))->StB H1 S C G H' x' p m ps ns K2 ((List.range ps.length).map (chM p ns ps Bs Ms Cs)) dx' g d z' l' lp xs ts'->Q (.ref x') H'
theorem ok_chg (F:Fun K "changed" "changed" Zji f fd)(T:Txt K mg C G S)(Ybt:Cal P w K mg base "backs_of" 11 (spBo S C G PL))(Yav:Cal P w K mg base "product" 8 (Zre G))(Yam:CalI P w K mg base "Standing" S 11 (spSI S C G)):FnOk P w K mg base CX0 13 f fd ["standing","changes"] (spChg S C G PL):=by
 have nd:=Zkp.nd;refine F.ok Zkp (λvs H Q E h=>?_) (λcdv A outer s H vs Q E hr h=>?_)
 .obtain ⟨H0,x,c,dx,g,d,z,l,lp,p,m,N,k,kt,KB,K1,K2,xs,ps,ns,ts,cts,Ms,Cs,rfl,_⟩:=h;rfl
 .obtain ⟨H0,x,c,dx,g,d,z,l,lp,p,m,N,k,kt,KB,K1,K2,xs,ps,ns,ts,cts,Ms,Cs,rfl,st,hp,ip,p9,hc,lm,iv,hPL,q⟩:=h;refine⟨_,((2|||nd|||(Zbs (pvr 0) rfl))<*>((3|||nd|||(Ybt<$>hr<$>((pvr 0)<&>((pvr 1)<&>Zaa))))<*>((4|||nd|||(@Zbo _ _ _ _ Zaa))<*>((Zb2 Ja1 rfl (Zh3 rfl T.n_zip ((Zff (Zff (pv 0) rfl) rfl)<&>((Zff (pv 0) rfl)<&>Zaa))) (@Zbw _ _ _ _ _ 2 rfl ((@Zbw _ _ _ _ _ 2 rfl ((5>>>nd)^^^((6>>>nd)^^^(@Zaz _))) ⇑1 ⇑1)^^^((7>>>nd)^^^(@Zaz _))) ⇑1 ⇑1) (@Zan _ _ _ (Zb1 (Zey Jaz Ja6 Ja7 (mtJ Zbd) (pvr 4) ((Yav<$>hr<$>((pvr 2)<&>(((ixJ Zaw)<|>(pvr 3)<||>(pvr 6))<&>((Yav<$>hr<$>((pvr 2)<&>((pvr 7)<&>(((ixJ Zaw)<|>(pvr 1)<||>(pvr 5))<&>Zaa))))<&>Zaa))))<&>Zaa)))))<*>(~~~(pe_n Yam hr.m rfl ((pvr 2)<&>((Zbs (pvr 0) rfl)<&>((Zbs (pvr 0) rfl)<&>((pvr 4)<&>Zaa)))))))))),?_⟩;refine Zgl λX hX=>?_;walk_at "wp";refine Zcm S dx _ ⟨st.sa.ins,T.cl_Standing,T.nSg,_,Zgs ..,?_⟩;subst hX;refine Zgl λX hX=>?_;walk_at "wp";refine Zoj x c dx g d z l lp p m k xs ns cts Cs ⟨rfl,st.sa,hp,hc,lm.k7,lm.hk,λn hn=>⟨(lm.nb n hn).1,(lm.nb n hn).2.1⟩,iv,hPL,λb bs Bs H1 s1 fb hb bl hB=>?_⟩;subst hX;refine Zgl λX hX=>?_;walk_at "wp";refine⟨⇑0,λD hD=>?_⟩;have s2:=s1.trans (Same.new (o:=.lst []) hD);have eD:(upd H1 D (.lst [])) D=some (.lst []):=Zab;have s12:=Same.new (o:=.lst []) hD;generalize upd H1 D (.lst [])=H2 at *;subst hX;refine Zgl λX hX=>?_;refine Zad st.sa.drw λdd hd hlp=>?_;have xl:=st.prs.1;have tl:=st.len;have hm:=st.sa.hm;have cl:=hc.2.1;have hBm:∀ (i:Nat) n,ns[i]?=some n->BackM p (Zd4 p k (n.toNat+n.toNat) n.toNat) n.toNat (Cs.getD i []) (Bs.getD i []):=λi n e=>(hB i _ n (Jaa (show i<bs.length by have:=(Jaf.mp e).1;exact Zc4 bl this)) e).2;refine cutF λY hY=>?_;refine⟨_,rfl,x,S,dx,_,_,rfl,s2 _ _ st.sa.ins,T.cl_Standing,T.nSd,Zd6 ..,d,C,dd,_,_,rfl,s2 _ _ hd,T.cl_Drawing,T.nA,Zep m lp,_,rfl,x,S,dx,_,_,rfl,s2 _ _ st.sa.ins,T.cl_Standing,T.nSt,Zgr ..,lp,l,rfl,⟨_,SqL.of (s2 _ _ hlp)⟩,⟨_,SqL.of (s2 _ _ st.lst)⟩,
   for_zip (xs:=xs) (ys:=ts.map V.ref) (λi σ H3=>∃ (v5 v6 v7:Option V) (us:List Addr),σ=[some (.ref x),some (.ref c),some (.ref g),some (.ref b),some (.ref D),v5,v6,v7]/\Same H H3/\H3 D=some (.lst (us.map V.ref))/\us.length=i/\(∀ (j:Nat) t q,us[j]?=some t->ps[j]?=some q->∃ r rs,TabB H3 p K2 (nz ns q.2) (nz ns q.1) t r rs (chM p ns ps Bs Ms Cs j)/\r≠D/\D∉rs)/\Same H1 H3/\Same H2 H2) (by rw[Jab];exact oz19 xl tl) ⟨none,none,none,[],rfl,s2,eD,rfl,λj t q e=>by simp at e,s12,Same.refl _⟩ (λi σ H3 _ ⟨_,_,_,_,_,e,_⟩=>⟨SqL.of (e _ _ hlp),SqL.of (e _ _ st.lst)⟩) ?_ ?_⟩
  .intro i v y pz σ H3 hv hy hpz e91;refine Zb5 e91 λv5 v6 v7 us e93 s3 e3 e94=>?_;clear e91;obtain rfl:=e93;refine Zb0 e94 λul hu s13 _=>?_;clear e94;refine Zqn λD2 hD2=>?_;have hi:i<ps.length:=by have:=(Jaf.mp hv).1;exact oz9 xl this
   have hq:ps[i]?=some (ps.getD i (0,0)):=by rw[Za4 hi];exact Jaa _
   have hti:ts[i]?=some (ts[i]'(Zc4 tl hi)):=Jaa _;rw[Jad,hti] at hy;cases hy;refine Zbh (st.tbs i _ _ hti hq) λr rs tb _=>?_;have ec:chM p ns ps Bs Ms Cs i=Zb4 p (Bs.getD (ps.getD i (0,0)).2.toNat []) (Zb4 p (Ms.getD i []) (Cs.getD (ps.getD i (0,0)).1.toNat []) (nz ns (ps.getD i (0,0)).1)) (nz ns (ps.getD i (0,0)).1):=rfl;generalize ps.getD i (0,0)=qq at *;obtain⟨tl',hd'⟩:=qq;refine Zad (st.prs.2 i v _ hv hq) λta e95 hta=>?_;obtain rfl:=e95;refine Zb0 (ip _ (Jae hq)) λi0 i1 j0 j1=>?_;have s4:=Same.new (o:=.tup [V.ref ta,V.ref (ts[i]'(Zc4 tl hi))]) hpz;have e4:=s4 _ _ e3;have p4:(upd H3 pz (.tup [V.ref ta,V.ref (ts[i]'(Zc4 tl hi))])) pz=some (.tup [V.ref ta,V.ref (ts[i]'(Zc4 tl hi))]):=Zab;have s04:=s3.trans s4;have s14:=s13.trans s4;generalize upd H3 pz (.tup [V.ref ta,V.ref (ts[i]'(Zc4 tl hi))])=H4 at *;simp only[Zt6,Zie,Zxd,Zbq,List.set_cons_zero,List.set_cons_succ];refine Zat pz _ ⟨rfl,SqT.of p4,rfl,_,_,rfl,ta,_,rfl,SqT.of (s04 _ _ hta),rfl,_,_,rfl,_,_,rfl,rfl,_,_,rfl,rfl,?_⟩;subst hY;walk_at "wp";have hnt:ns[tl'.toNat]?=some (ns.getD tl'.toNat 0):=by rw[Za4 ∅];exact Jaa _
   have hnh:ns[hd'.toNat]?=some (ns.getD hd'.toNat 0):=by rw[Za4 ∅];exact Jaa _
   have hbt:bs[hd'.toNat]?=some (bs[hd'.toNat]'(by omega)):=Jaa _;have hct:cts[tl'.toNat]?=some (cts[tl'.toNat]'(by omega)):=Jaa _;obtain⟨⟨rB,rsB,tvB⟩,bmB⟩:=hB _ _ _ hbt hnh;refine Zdl (hc.2.2 _ _ _ hct hnt) λrC rsC tbC=>?_;have kbh:=(lm.nb _ (Jae hnh)).2.2;have tbB:TabB H1 p KB (nz ns hd') (nz ns hd') _ rB rsB _:=TabB.le ⟨tvB,bmB.hl,bmB.hw,bmB.gd⟩ kbh;have tbC:TabB H p k (nz ns tl') (nz ns tl') _ rC rsC _:=tbC;have N1:nz ns tl'<=N:=lm.sz _ (Jae hnt);have N2:nz ns hd'<=N:=lm.sz _ (Jae hnh);have m1:=(Znw st.sa.szs tl').1;have m2:=(Znw st.sa.szs hd').1;have b1:(nz ns tl'+1)*kt+(nz ns tl'+1)*k+5<=NB:=Ja3 (Nat.add_le_add_right (Nat.add_le_add (Jcl _ (oz40 N1)) (Jcl _ (oz40 N1))) _) lm.b1;have b2:(nz ns hd'+1)*KB+(nz ns hd'+1)*K1+5<=NB:=Ja3 (Nat.add_le_add_right (Nat.add_le_add (Jcl _ (oz40 N2)) (Jcl _ (oz40 N2))) _) lm.b2;have e1:7+nz ns tl'*(kt+k+8)<=K1:=Ja3 (Je0 (Jcl _ N1) _) lm.e1;have e2:7+nz ns hd'*(KB+K1+8)<=K2:=Ja3 (Je0 (Jcl _ N2) _) lm.e2;have k11:1<=K1:=Ja3 ∅ lm.e1;refine⟨.inl ⟨rfl,_,SqL.of e4⟩,_,SqL.of (s14 _ _ hb),_,Zbx j0 (by rw[Jad,hbt];rfl),_,SqL.of (s04 _ _ hc.1),_,Zbx i0 (by rw[Jad,hct];rfl),?_⟩;refine Zoj g _ r _ rC rs rsC p (nz ns hd') (nz ns tl') (nz ns tl') kt k _ _ ⟨rfl,st.sa.grd.same s04,hp,tb.same s04,tbC.same s04,m2,m1,m1,lm.kt1,Ja3 ⇑0 lm.k7,b1,λt5 r5 rs5 H5 s5 nw5 tb5=>?_⟩;have tb5:=tb5.le e1;have s05:=s04.trans s5;have e5:=s5 _ _ e4;refine Zoj g _ rB t5 r5 rsB rs5 p (nz ns hd') (nz ns hd') (nz ns tl') KB K1 _ _ ⟨rfl,st.sa.grd.same s05,hp,tbB.same (s14.trans s5),tb5,m2,m2,m1,lm.kb1,k11,b2,λt6 r6 rs6 H6 s6 nw6 tb6=>?_⟩;have tb6:=tb6.le e2;have s06:=s05.trans s6;have e6:=s6 _ _ e5;have n6:r6≠D:=λz=>by have:=nw6.r;rw[z,e5] at this;cases this
   have n6':D∉rs6:=λz=>by have:=nw6.rs D z;rw[e5] at this;cases this
   have fD:H D=none:=s1.free hD;subst hD2;refine⟨_,e6,Zap (by rw[Jab];omega),_,_,_,us++[t6],rfl,s06.upd fD,by rw[Zab,Za5],by rw[Jah,ul];rfl,λj t q f1 f2=>?_,(s14.trans (s5.trans s6)).upd hD,Same.refl _⟩;by_cases hj:j<us.length
   .rw [Jay hj] at f1;refine Zbm (hu j t q f1 f2) λr' rs' tb' n1 n2=>?_;exact Zat r' rs' ⟨(((tb'.same s4).same s5).same s6).put e6 n1 n2,n1,n2⟩
   .have hj0:j=us.length:=by
     have:=(Jaf.mp f1).1;rw[Jah] at this;have:j<us.length+1:=this;exact oz5 hj this
    subst hj0;rw[Jav (Jai _),Je7] at f1;cases f1;rw[ul] at f2 ⊢;rw[hq] at f2;cases f2;rw[ec];exact Zat r6 rs6 ⟨tb6.put e6 n6 n6',n6,n6'⟩
  .intro σ H3 e92;refine Zb5 e92 λv5 v6 v7 us e96 s3 e3 e97=>?_;clear e92;obtain rfl:=e96;refine Zb0 e97 λul hu s13 _=>?_;clear e97;subst hX;walk_at "wp";have st3:=st.sa.same s3;refine Zcm S dx _ ⟨st3.ins,T.cl_Standing,T.nSd,_,Zd6 ..,S,dx,_,st3.ins,T.cl_Standing,T.nSs,_,Zij ..,λx' dx' hx' hdx' ndx'=>Zq8 (k:=K2) (ts:=us) (Ms:=(List.range ps.length).map (chM p ns ps Bs Ms Cs)) hx' hdx' ndx' st3.grd hp st3.drw (st.prs.same s3) ip p9 st3.szs hm ⟨e3,oz26 xl ul,λj t q f1 f2=>?_⟩ lm.h2 λdx2 z' l' ts' H4 s4 sb=>⟨rfl,q x' dx2 z' l' ts' Bs H3 H4 s3 s4 hBm sb⟩⟩;refine Zbh (hu j t q f1 f2) λr rs tb _=>?_;rw[Jac,Jad,Jau (Jaf.mp f2).1];exact⟨r,rs,tb⟩
end
end Pf
namespace Pf
open PySem L2 L3 PyProof.Rows
def Qv (t:Nat)(x:Nv)(a:Int):Prop:=x.1*2 ^ t=a*x.2
def ChB (p:Int)(t:Nat)(x:Nv):Prop:=Isn p x/\(p=0->∃ a:Int,Qv t x a/\a.natAbs<=8 ^ t)
def UnB (p:Int)(u:Nv):Prop:=Isn p u/\u.1≠0/\(p=0->∃ b:Int,Qv 1 u b/\b.natAbs<=6)
theorem Zgk {x:Nv}(h:Isn 0 x):Low x:=by rcases h with ⟨_,h⟩|⟨h,_⟩;exact h;omega
theorem Zrw {t:Nat}{u x:Nv}{a b:Int}(hu:Low u)(hx:Low x)(h1:Qv 1 u b)(h2:Qv t x a):Qv (t+1) (Zbn 0 u x) (b*a):=by
 unfold Qv at *;show (nrm (u.1*x.1) (u.2*x.2)).1*2 ^ (t+1)=b*a*(nrm (u.1*x.1) (u.2*x.2)).2;have c:=Zjq (a:=u.1*x.1) (b:=u.2*x.2);generalize nrm (u.1*x.1) (u.2*x.2)=y at *;have u0:=hu.1;have x0:=hx.1;have n0:u.2*x.2≠0:=Int.mul_ne_zero ∅ ∅;apply Jdv n0;rw[Int.pow_succ];rw[Int.pow_one] at h1
 calc y.1*(2 ^ t*2)*(u.2*x.2)=y.1*(u.2*x.2)*(2 ^ t*2):=by grind
  _=u.1*x.1*y.2*(2 ^ t*2):=by rw[c]
  _=(u.1*2)*(x.1*2 ^ t)*y.2:=by grind
  _=(b*u.2)*(a*x.2)*y.2:=by rw[h1,h2]
  _=b*a*y.2*(u.2*x.2):=by grind
theorem q_plus {t:Nat}{x y:Nv}{a b:Int}(hx:Low x)(hy:Low y)(h1:Qv t x a)(h2:Qv t y b):Qv t (Zdn 0 x y) (a+b):=by
 unfold Qv at *;show (nrm (x.1*y.2+y.1*x.2) (x.2*y.2)).1*2 ^ t=(a+b)*(nrm (x.1*y.2+y.1*x.2) (x.2*y.2)).2;have c:=Zjq (a:=x.1*y.2+y.1*x.2) (b:=x.2*y.2);generalize nrm (x.1*y.2+y.1*x.2) (x.2*y.2)=z at *;have u0:=hx.1;have x0:=hy.1;have n0:x.2*y.2≠0:=Int.mul_ne_zero ∅ ∅;apply Jdv n0
 calc z.1*2 ^ t*(x.2*y.2)=z.1*(x.2*y.2)*2 ^ t:=by grind
  _=(x.1*y.2+y.1*x.2)*z.2*2 ^ t:=by rw[c]
  _=(x.1*2 ^ t*y.2+y.1*2 ^ t*x.2)*z.2:=by grind
  _=(a*x.2*y.2+b*y.2*x.2)*z.2:=by rw[h1,h2]
  _=(a+b)*z.2*(x.2*y.2):=by grind
theorem q_up {t:Nat}{x:Nv}{a:Int}(h:Qv t x a):Qv (t+1) x (2*a):=by
 unfold Qv at *;rw[Int.pow_succ]
 grind
theorem Zwk {p:Int}{t:Nat}{x:Nv}(h:ChB p t x):ChB p (t+1) x:=⟨h.1,λh0=>by
 refine Zad (h.2 h0) λa qa ba=>?_;refine⟨2*a,q_up qa,?_⟩;rw[Jb4,Jdp];show 2*a.natAbs<=_;omega⟩
theorem Zps {p:Int}{t:Nat}{u x:Nv}(hp:GroundP p)(hu:UnB p u)(h:ChB p t x):ChB p (t+1) (Zbn p u x):=⟨Zcp hp.lo hu.1 h.1,λh0=>by
 subst h0;refine Zad (h.2 rfl) λa qa ba=>?_;refine Zad (hu.2.2 rfl) λb qb bb=>?_;refine⟨b*a,Zrw (Zgk hu.1) (Zgk h.1) qb qa,?_⟩;rw[Jb4,Jdp];have:=Jbu bb ba;omega⟩
theorem ch_plus {p:Int}{t:Nat}{u x y:Nv}(hp:GroundP p)(hu:UnB p u)(hx:ChB p t x)(hy:ChB p t y):ChB p (t+1) (Zdn p y (Zbn p u x)):=⟨Zin hp.lo hy.1 (Zcp hp.lo hu.1 hx.1),λh0=>by
 subst h0;refine Zad (hx.2 rfl) λa qa ba=>?_;refine Zad (hy.2 rfl) λc qc bc=>?_;refine Zad (hu.2.2 rfl) λb qb bb=>?_;refine⟨2*c+b*a,q_plus (Zgk hy.1) (Zgk (Zcp (Int.le_refl 0) hu.1 hx.1)) (q_up qc) (Zrw (Zgk hu.1) (Zgk hx.1) qb qa),?_⟩;have h1:=Jfh (2*c) (b*a);have h2:=Jbu bb ba;rw[<- Jb4] at h2;have h3:(2*c).natAbs=2*c.natAbs:=Jb4 2 c;rw[Jdp];omega⟩
theorem Zqk {p:Int}{t:Nat}{x:Nv}(hp:GroundP p)(h:ChB p t x):Bt (3*t+7) x.1/\Bt (3*t+7) x.2:=by
 by_cases h0:p=0
 .subst h0;refine Zad (h.2 rfl) λa qa ba=>?_;have lw:=(Zgk h.1)
  unfold Qv at qa;have e:=Jc8 Int.natAbs qa;rw[Jb4,Jb4,Int.natAbs_pow] at e;have e:x.1.natAbs*2 ^ t=a.natAbs*x.2.natAbs:=e;have d:x.2.natAbs ∣ 2 ^ t:=by
   have h1:x.2.natAbs ∣ x.1.natAbs*2 ^ t:=⟨a.natAbs,by rw[e,Nat.mul_comm]⟩
   refine Nat.Coprime.dvd_of_dvd_mul_left ?_ h1;have:=lw.2;rw[Jeh] at this;exact this
  have d2:=Nat.le_of_dvd (Jbs _) d;have d1:x.1.natAbs<=a.natAbs:=by
   refine Nat.le_of_mul_le_mul_right (c:=2 ^ t) ?_ (Jbs _);rw[e];exact Jbu (Jai _) d2
  have p8:8 ^ t=2 ^ (3*t):=by rw[Nat.pow_mul]
  have l1:2 ^ (3*t)<2 ^ (3*t+7):=Jda ⇑0 ∅;have l2:2 ^ t<=2 ^ (3*t):=Jca ⇑0 ∅;exact⟨by show x.1.natAbs<_;omega,by show x.2.natAbs<_;omega⟩
 .rcases h.1 with ⟨z,_⟩|⟨_,h1,h2,h3⟩
  .exact absurd z h0
  .have:=hp.hi;exact⟨Zbf ∅ ∅,by rw[h3];exact Zbf ∅ ⇑0⟩
section
variable {p:Int}{n:Nat}{M:Mv}
theorem Zqy {F:Type}[Lean.Grind.Field F]{M:Mv}{a t:Nat}{row:List Nv}(ha:a<M.length)(j:Nat):(vN ((M.set a row).getD t []) j:F)=if t=a then vN row j else vN (M.getD t []) j:=by
 rw[Jac,Jcr];by_cases q:a=t
 .rw [if_pos q,if_pos ha,if_pos q.symm];rfl
 .rw [if_neg q,if_neg (λz=>q z.symm),<- Jac]
theorem Zpj {a:Nat}{row:List Nv}(ha:a<n)(hl:M.length=n)(iv:Zpw p n M)(h:∀ (F:Type) [Lean.Grind.Field F],FdOk p F->∀ U:Nat->Nat->F,(∀ i j,i<n->j<n->sm n (λt=>U i t*vN (M.getD t []) j)=del i j)->∃ U':Nat->Nat->F,∀ i j,i<n->j<n->sm n (λt=>U' i t*(if t=a then vN row j else vN (M.getD t []) j))=del i j):Zpw p n (M.set a row):=λF _ hF=>by
 obtain⟨U,hU⟩:=iv F hF;obtain⟨U',hU'⟩:=h F hF U hU;refine⟨U',λi j hi hj=>?_⟩;rw[<- hU' i j hi hj];exact Zak λt _=>by rw[Zqy (Zm6 ha hl)]
theorem Zs5 {a:Nat}{u:Nv}{row:List Nv}(ha:a<n)(hl:M.length=n)(iv:Zpw p n M)(hu:∀ (F:Type) [Lean.Grind.Field F],FdOk p F->(nm u:F)≠0)(hr:∀ (F:Type) [Lean.Grind.Field F],FdOk p F->∀ j,j<n->(vN row j:F)=nm u*vN (M.getD a []) j):Zpw p n (M.set a row):=
 Zpj ha hl iv λF _ hF U hU=>⟨λi t=>if t=a then U i t / nm u else U i t,λi j hi hj=>by
  rw[<- hU i j hi hj];refine Zak λt ht=>?_;have u0:=hu F hF;show (if t=a then U i t / nm u else U i t)*(if t=a then vN row j else vN (M.getD t []) j)=_;by_cases q:t=a
  .subst q;rw[if_pos rfl,if_pos rfl,hr F hF j hj];generalize (nm u:F)=y at *
   grind
  .rw [if_neg q,if_neg q]⟩
theorem inv_add {a b:Nat}{u:Nv}{row:List Nv}(ha:a<n)(hb:b<n)(hab:a≠b)(hl:M.length=n)(iv:Zpw p n M)(hr:∀ (F:Type) [Lean.Grind.Field F],FdOk p F->∀ j,j<n->(vN row j:F)=vN (M.getD a []) j+nm u*vN (M.getD b []) j):Zpw p n (M.set a row):=
 Zpj ha hl iv λF _ hF U hU=>⟨λi t=>if t=b then U i b-nm u*U i a else U i t,λi j hi hj=>by
  rw[<- hU i j hi hj];have e:∀ t,t<n->(if t=b then U i b-nm u*U i a else U i t)*(if t=a then vN row j else vN (M.getD t []) j)=U i t*vN (M.getD t []) j+((if t=a then U i t*(nm u*vN (M.getD b []) j) else 0)+(if t=b then -(nm u*U i a*vN (M.getD t []) j) else 0)):=λt ht=>by
   by_cases q:t=a
   .subst q;rw[if_neg hab,if_pos rfl,if_pos rfl,if_neg hab,hr F hF j hj]
    grind
   .rw [if_neg q,if_neg q];by_cases q2:t=b
    .subst q2;rw[if_pos rfl,if_pos rfl]
     grind
    .rw [if_neg q2,if_neg q2]
     grind
  rw[Zak e,Zft,Zft,Zfs (λt=>U i t*(nm u*vN (M.getD b []) j)) ha,Zfs (λt=>-(nm u*U i a*vN (M.getD t []) j)) hb]
  grind⟩
theorem Zv4 {a b:Nat}(ha:a<n)(hb:b<n)(hab:a≠b)(hl:M.length=n)(iv:Zpw p n M):Zpw p n ((M.set a (M.getD b [])).set b (M.getD a [])):=λF _ hF=>by
 obtain⟨U,hU⟩:=iv F hF;refine⟨λi t=>if t=a then U i b else if t=b then U i a else U i t,λi j hi hj=>?_⟩;rw[<- hU i j hi hj];have e:∀ t,t<n->(if t=a then U i b else if t=b then U i a else U i t)*vN (((M.set a (M.getD b [])).set b (M.getD a [])).getD t []) j=U i t*vN (M.getD t []) j+((if t=a then U i b*vN (M.getD b []) j-U i t*vN (M.getD t []) j else 0)+(if t=b then U i a*vN (M.getD a []) j-U i t*vN (M.getD t []) j else 0)):=λt ht=>by
  rw[Zqy (by rw[Jby];exact Zm6 hb hl),Zqy (Zm6 ha hl)];by_cases q:t=a
  .subst q;rw[if_pos rfl,if_neg hab,if_pos rfl,if_pos rfl,if_neg hab]
   grind
  .rw [if_neg q];by_cases q2:t=b
   .subst q2;rw[if_pos rfl,if_pos rfl,if_neg q,if_pos rfl]
    grind
   .rw [if_neg q2,if_neg q2,if_neg q,if_neg q,if_neg q2]
    grind
 rw[Zak e,Zft,Zft,Zfs (λt=>U i b*vN (M.getD b []) j-U i t*vN (M.getD t []) j) ha,Zfs (λt=>U i a*vN (M.getD a []) j-U i t*vN (M.getD t []) j) hb]
 grind
end
end Pf
namespace Pf
open PySem L2 L3 PyProof.Rows
section
variable {C PL:Addr}
def Zra:L2.Sp:=λvs H Q _=>∃ (l:Addr) (p:Int),vs=[.ref l,.int p]/\Bag H l/\GroundP p/\∀ v u H',Ext l H H'->Bag H' l->NumV H' p v u->UnB p u->Q v H'
theorem un_nrm {a b:Int}(ha:a≠0)(ha3:a.natAbs<=3)(hb:b=1\/b=2):UnB 0 (nrm a b):=by
 have b0:0<b:=∅
 have c:=Zjq (a:=a) (b:=b);have f:=Zld (a:=a) (b:=b);refine⟨Zlg rfl b0,λz=>ha (by rw[<- f,z];simp),λ_=>?_⟩;generalize nrm a b=y at *;rcases hb with rfl|rfl
 .exact ⟨2*a,by unfold Qv;rw[Int.pow_one];grind,∅⟩
 .exact ⟨a,by unfold Qv;rw[Int.pow_one];exact c,∅⟩
theorem ok_unit (F:Fun K "_law_unit" "_law_unit" Zhb f fd)(T:Txt K mg C G S)(Yaa:Cal P w K mg base "_law_draw" 1 Zc6)(Yae:Cal P w K mg base "_law_low" 1 Zl2):FnOk P w K mg base CX0 3 f fd ["_law_bag_here","_law_p"] Zra:=by
 have nd:=Zi1.nd;refine F.ok Zi1 (λvs H Q E h=>?_) (λcdv A outer s H vs Q E hr h=>?_)
 .refine Zbh h λl p e93 _=>?_;clear h;obtain rfl:=e93;rfl
 .refine Zdw h λl p e94 hb hp q=>?_;clear h;obtain rfl:=e94;have p0:=hp.lo;have p97:=hp.hi;refine⟨_,((@Za3 _ _ _ _ _ _ _ _ (Zal (Znu Zfg) (pvr 1) Zac (Zam _)) (~~~(Zbi<|>Zac<&&>(Yaa<$>hr<$>((pvr 0)<&>(((Znu Zco)<|>(pvr 1)<&&>Zac)<&>Zaa))))) Zao)<*>(~~~(Yae<$>hr<$>((Zaw<|>(@Zbo _ _ _ _ (Zac<&>(Zac<&>(Zac<&>((Zu0 Zon Zac)<&>((Zu0 Zon Zac)<&>Zaa))))))<||>(Yaa<$>hr<$>((pvr 0)<&>(Zac<&>Zaa))))<&>((Zbi<|>Zac<&&>(Yaa<$>hr<$>((pvr 0)<&>(Zac<&>Zaa))))<&>Zaa))))),?_⟩;walk_at "wp";refine Zce (λhc=>?_) (λhc=>?_)
  .have hc:=Ja5 hc;have p2:1<p:=by rcases hp with h|h;omega;exact h.1
   refine hb.draw ∅ ∅ λz H2 z0 z1 e2 b2=>⟨z,rfl,?_⟩
   exact q (.int (1+z)) (1+z,1) H2 e2 b2 (NumV.of (x:=(1+z,1)) ∅) ⟨.inr ⟨hc,by show 0<=1+z;omega,by show 1+z<p;omega,rfl⟩,by show 1+z≠0;omega,λz=>∅⟩
  .have hc:¬ 0<p:=λz=>hc (Jao z);have hp0:p=0:=∅
   subst hp0;refine⟨⇑0,λp1 hp1=>?_⟩;have n1:=hb.ne hp1;refine (hb.new n1).draw ⇑0 ⇑0 λz H2 z0 z1 e2 b2=>?_;have e02:Ext l H H2:=(Ext.new hp1).trans e2;have pick:∃ a:Int,atI [V.int 1,V.int 2,V.int 3,V.int (-1),V.int (-2)] z=some (.int a)/\a≠0/\a.natAbs<=3:=by
    have:z=0\/z=1\/z=2\/z=3\/z=4:=∅
    rcases this with rfl|rfl|rfl|rfl|rfl
    .exact ⟨1,rfl,⇑0,⇑0⟩
    .exact ⟨2,rfl,⇑0,⇑0⟩
    .exact ⟨3,rfl,⇑0,⇑0⟩
    .exact ⟨-1,rfl,⇑0,⇑0⟩
    .exact ⟨-2,rfl,⇑0,⇑0⟩
   refine Zav pick λa ha a0 a3=>?_;clear pick;refine Zat _ z ⟨rfl,SqL.of (e2 _ _ n1 Zab),_,ha,b2.draw ⇑0 ⇑0 λy H3 y0 y1 e3 b3=>⟨y,rfl,a,1+y,rfl,Top.of ∅,∅,∅,λt ht=>?_⟩⟩;exact q _ (nrm a (1+y)) _ ((e02.trans e3).trans (Ext.new ht)) (b3.new (b3.ne ht)) (NumV.tup rfl Zab) (un_nrm a0 a3 ∅)
def spPlC:L2.Sp:=λvs H Q _=>∃ p n:Int,vs=[.int p,.int n]/\GroundP p/\0<=n/\n<=24/\∀ t r rs H',Same H H'->New H t r rs->TabV H' p n n t r rs (Zcc n.toNat)->Q (.ref t) H'
theorem ok_plC (F:Fun K "_law_plain" "_law_plain" Zge f fd)(T:Txt K mg C G S)(Yag:Cal P w K mg base "_law_whole" 1 Zrg):FnOk P w K mg base CX0 2 f fd ["_law_p","_law_many"] spPlC:=by
 have nd:=Zhv.nd;refine F.ok Zhv (λvs H Q E h=>?_) (λcdv A outer s H vs Q E hr h=>?_)
 .refine Zbh h λp n e95 _=>?_;clear h;obtain rfl:=e95;rfl
 .refine Zg9 h λp n e96 hp n0 n24 q=>?_;clear h;obtain rfl:=e96;refine⟨_,(~~~(@Zar _ _ _ _ _ ((pvr 1)<&>((pvr 1)<&>((Zax (own:=["_law_k"]) (fr:=[("_law_many",1),("_law_p",0)]) rfl (Zbj (by kernel_rfl)) (Zej rfl T.n_range ((pv 1)<&>Zaa)) (λ_ _ _ _=>⟨(@Zae _ _ 0 _ (show (["_law_k","_law_many","_law_p"]:List Str).Nodup by decide +kernel) rfl (Or.inr rfl) (Or.inl rfl)),Zau,(Zax (own:=["_law_j"]) (fr:=[("_law_p",2),("_law_k",0)]) rfl (Zbj (by kernel_rfl)) (Zej rfl T.n_range ((pv 1)<&>Zaa)) (λ_ _ _ _=>⟨(0<<<["_law_j","_law_p","_law_k"]),Zau,(Yag<$>hr<$>((pv 1)<&>((Zid Zjy rfl T.n_int boot_int ((Zdf Zcs (pv 0) (pv 2) (Zam _))<&>Zaa))<&>Zaa)))⟩))⟩))<&>Zaa))))),?_⟩;walk_at "wp";refine⟨_,rfl,n,rfl,∅,∅,λD hD=>Zso (p:=p) (λi=>eR n.toNat i) hD ∅ (λi H' Q' hi s' q'=>?_) λrs H3 s3 hD3 al3 nD nds fr=>?_⟩
  .refine ⟨_,rfl,n,rfl,∅,∅,λE1 hE1=>Zmw (λj Hc y=>NumV Hc p y (if i=j then (1,1) else (0,1))) (λk s=>k.same s) (λk hD=>k.put hD) hE1 ∅ (λj Hc Qc hj sc _ qc=>?_) λys Hc sc ec yl yn=>?_⟩
   .simp only [Zbv];walk_at "wp";refine⟨_,rfl,_,rfl,rfl,p,_,rfl,hp,λv Hd sd nv=>qc v Hd sd ?_⟩;by_cases h:i=j
    .subst h;rw[if_pos rfl];rw[Jao rfl,if_pos rfl] at nv;have e:Zj4 p 1=(1,1):=Zlh hp;rwa [e] at nv
    .rw [if_neg h];rw[Jbg (λz=>h (by have:=V.int.inj z;omega)),if_neg ⇑0] at nv;rwa [Zjt] at nv
   .refine q' E1 Hc hE1 sc ⟨ys,ec,by rw[Jby,Jbd];omega,λk y x f1 f2=>?_⟩;have nk:=yn k y f1;have hk:k<n.toNat:=by have:=(Jaf.mp f1).1;omega
    rw[Jcr,Jb1,if_pos hk] at f2;by_cases h:i=k
    .subst h;rw[if_pos rfl] at nk f2;rw[if_pos (by rw[Jbd];exact hk)] at f2;cases f2;exact nk
    .rw [if_neg h] at nk f2;cases f2;exact nk
  .refine ⟨⇑0,λt ht=>?_⟩;have s5:=Same.new (o:=.tup [V.int n,V.int n,V.ref D]) ht;exact q t D rs _ (s3.trans s5) ⟨s3.free ht,hD,fr⟩ ⟨Zab,s5 _ _ hD3,al3.mono λ_ _ q=>q.same s5,nD⟩
structure Chg (H0 H:Hp)(p:Int)(n i:Nat)(r:Addr)(rs:List Addr)(M:Mv):Prop where
 lst:H r=some (.lst (rs.map V.ref))
 row:All2 (RowV H p) rs M
 nin:r∉rs
 fr:∀ a∈rs,H0 a=none
 hl:M.length=n
 hw:∀ xs∈M,xs.length=n
 gd:∀ xs∈M,∀ x∈xs,ChB p i x
 iv:Zpw p n M
theorem Chg.same {H0 H H':Hp}{p:Int}{n i:Nat}{r:Addr}{rs:List Addr}{M:Mv}(h:Chg H0 H p n i r rs M)(s:Same H H'):Chg H0 H' p n i r rs M:=⟨s _ _ h.lst,h.row.mono λ_ _ q=>q.same s,h.nin,h.fr,h.hl,h.hw,h.gd,h.iv⟩
theorem Chg.ext {l:Addr}{H0 H H':Hp}{p:Int}{n i:Nat}{r:Addr}{rs:List Addr}{M:Mv}(h:Chg H0 H p n i r rs M)(b0:Bag H0 l)(b:Bag H l)(e:Ext l H H')(nr:r≠l):Chg H0 H' p n i r rs M:=
 ⟨e _ _ nr h.lst,h.row.monoM λa xs ha q=>q.ext b e (b0.ne (h.fr a ha)),h.nin,h.fr,h.hl,h.hw,h.gd,h.iv⟩
theorem Zca {α:Type}{xs:List α}{k:Nat}{y z:α}(h:z∈xs.set k y):z=y\/z∈xs:=by
 rcases Jd0 h with h|h
 .exact .inr h
 .exact .inl h
theorem Chg.put {H0 H:Hp}{p:Int}{n i k:Nat}{r D:Addr}{rs:List Addr}{M:Mv}{row:List Nv}(h:Chg H0 H p n i r rs M)(rv:RowV H p D row)(rl:row.length=n)(rg:∀ x∈row,ChB p (i+1) x)(iv:Zpw p n (M.set k row))(nD:D≠r)(fD:H0 D=none):Chg H0 (upd H r (.lst ((rs.map V.ref).set k (.ref D)))) p n (i+1) r (rs.set k D) (M.set k row):=by
 refine⟨by rw[Zab,Zk6],(h.row.monoM λa xs ha q=>q.put h.lst (λz=>h.nin (z ▸ ha))).set k (rv.put h.lst nD),λz=>?_,λa ha=>?_,by rw[Jby];exact h.hl,λxs hx=>?_,λxs hx x hxx=>?_,iv⟩
 .rcases Zca z with e|e
  .exact nD e.symm
  .exact h.nin e
 .rcases Zca ha with e|e
  .rw [e];exact fD
  .exact h.fr a e
 .rcases Zca hx with e|e
  .rw [e];exact rl
  .exact h.hw xs e
 .rcases Zca hx with e|e
  .exact rg x (e ▸ hxx)
  .exact Zwk (h.gd xs e x hxx)
theorem Chg.swap {H0 H:Hp}{p:Int}{n i a b:Nat}{r A B:Addr}{rs:List Addr}{M:Mv}(h:Chg H0 H p n i r rs M)(ha:a<n)(hb:b<n)(hab:a≠b)(eA:rs[a]?=some A)(eB:rs[b]?=some B):Chg H0 (upd (upd H r (.lst ((rs.map V.ref).set a (.ref B)))) r (.lst (((rs.map V.ref).set a (.ref B)).set b (.ref A)))) p n (i+1) r ((rs.set a B).set b A) ((M.set a (M.getD b [])).set b (M.getD a [])):=by
 refine Zad (h.row.at' eA) λxa fa ra=>?_;refine Zad (h.row.at' eB) λxb fb rb=>?_;have mA:=Jae eA;have mB:=Jae eB;have nA:A≠r:=λz=>h.nin (z ▸ mA);have nB:B≠r:=λz=>h.nin (z ▸ mB);have hl:=h.hl;have e1:(upd H r (.lst ((rs.map V.ref).set a (.ref B)))) r=some (.lst ((rs.map V.ref).set a (.ref B))):=Zab;have two:∀ (c:Addr) xs,c≠r->RowV H p c xs->RowV (upd (upd H r (.lst ((rs.map V.ref).set a (.ref B)))) r (.lst (((rs.map V.ref).set a (.ref B)).set b (.ref A)))) p c xs:=λc xs n q=>(q.put h.lst n).put e1 n;refine⟨by rw[Zab,Zk6,Zk6],?_,λz=>?_,λc hc=>?_,by rw[Jby,Jby];exact hl,λxs hx=>?_,λxs hx x hxx=>?_,Zv4 ha hb hab hl h.iv⟩
 .rw [Zaj fa,Zaj fb];exact ((h.row.monoM λc xs hc q=>two c xs (λz=>h.nin (z ▸ hc)) q).set a (two _ _ nB rb)).set b (two _ _ nA ra)
 .rcases Zca z with e|e
  .exact nA e.symm
  .rcases Zca e with e|e
   .exact nB e.symm
   .exact h.nin e
 .rcases Zca hc with e|e
  .rw [e];exact h.fr _ mA
  .rcases Zca e with e|e
   .rw [e];exact h.fr _ mB
   .exact h.fr c e
 .rcases Zca hx with e|e
  .rw [e];exact h.hw _ (Za0 (Zm6 ha hl))
  .rcases Zca e with e|e
   .rw [e];exact h.hw _ (Za0 (Zm6 hb hl))
   .exact h.hw xs e
 .rcases Zca hx with e|e
  .exact Zwk (h.gd _ (Za0 (d:=[]) (show a<M.length by exact Zm6 ha hl)) x (e ▸ hxx))
  .rcases Zca e with e|e
   .exact Zwk (h.gd _ (Za0 (d:=[]) (show b<M.length by exact Zm6 hb hl)) x (e ▸ hxx))
   .exact Zwk (h.gd xs e x hxx)
theorem un_ch {p:Int}{u:Nv}(h:UnB p u):ChB p 1 u:=⟨h.1,λh0=>let ⟨b,q,l⟩:=h.2.2 h0;⟨b,q,Ja3 l ⇑0⟩⟩
theorem un_nm {p:Int}{u:Nv}(hp:GroundP p)(h:UnB p u):∀ (F:Type) [Lean.Grind.Field F],FdOk p F->(nm u:F)≠0:=λF _ hF z=>by
 have e:=hF.inj h.1 (Zpi hp).1 (by rw[z,hF.one,Zd5]);exact h.2.1 (by rw[e])
def Zk3:L2.Sp:=λvs H Q _=>∃ (l:Addr) (p n:Int),vs=[.ref l,.int p,.int n]/\Bag H l/\GroundP p/\0<=n/\n<=24/\∀ t r rs M H',Ext l H H'->Bag H' l->New H t r rs->H' t=some (.tup [.int n,.int n,.ref r])->Chg H H' p n.toNat (2*n.toNat) r rs M->Q (.ref t) H'
theorem Zsi (F:Fun K "_law_change" "_law_change" Zfa f fd)(T:Txt K mg C G S)(Yaa:Cal P w K mg base "_law_draw" 1 Zc6)(Ybr:Cal P w K mg base "_law_unit" 3 Zra)(Ybj:Cal P w K mg base "_law_plain" 2 spPlC)(Yal:Cal P w K mg base "_law_plus" 3 (Zl1 Zdn))(Yaj:Cal P w K mg base "_law_times" 3 (Zl1 Zbn)):FnOk P w K mg base CX0 4 f fd ["_law_bag_here","_law_p","_law_size"] Zk3:=by
 have nd:=Zgv.nd;refine F.ok Zgv (λvs H Q E h=>?_) (λcdv A outer s H vs Q E hr h=>?_)
 .refine Zex h λl p n e97 _=>?_;clear h;obtain rfl:=e97;rfl
 .refine Zbu h λl p n e98 hb hp e99=>?_;clear h;obtain rfl:=e98;refine Za2 e99 λn0 n24 q=>?_;clear e99;refine⟨_,((3|||nd|||(Zbc<|>(Ybj<$>hr<$>((pvr 1)<&>((pvr 2)<&>Zaa)))<||>Zac))<*>((Zb2 Ja1 rfl (Zej rfl T.n_range ((Zmf<|>Zac<&&>(pv 2))<&>Zaa)) (4>>>nd) ((5|||nd|||(Yaa<$>hr<$>((pvr 0)<&>((pvr 2)<&>Zaa))))<*>((6|||nd|||(Yaa<$>hr<$>((pvr 0)<&>((pvr 2)<&>Zaa))))<*>((Zaq (i:=7) nd rfl (Or.inr rfl) (Ybr<$>hr<$>((pvr 0)<&>((pvr 1)<&>Zaa))))<*>(@Zan _ _ _ (@Za3 _ _ _ _ _ _ _ _ (Zal (Zka Zcs) (pvr 5) (pvr 6) (Zam _)) (@Zan _ _ _ (Zbr (Zax (own:=["_law_number_here"]) (fr:=[("_law_p",1),("_law_often",7)]) rfl (Zbj (by kernel_rfl)) (Za6 (Zaw<|>(pv 3)<||>(pv 5))) (λ_ _ _ _=>⟨(0<<<["_law_number_here","_law_p","_law_often"]),Zau,(Yaj<$>hr<$>((pv 1)<&>((pv 2)<&>((pv 0)<&>Zaa))))⟩)) (Zh4 (pvr 3) (pvr 5) Zdp))) (@Zan _ _ _ (@Za3 _ _ _ _ _ _ _ _ (Zal Zcs (Yaa<$>hr<$>((pvr 0)<&>(Zac<&>Zaa))) Zac (Zam _)) (@Zan _ _ _ (Zbr (@Zar _ _ _ _ _ (((ixJ Zaw)<|>(pvr 3)<||>(pvr 6))<&>(((ixJ Zaw)<|>(pvr 3)<||>(pvr 5))<&>Zaa))) (@Zbw _ _ _ _ _ 2 rfl ((Zh4 (pvr 3) (pvr 5) Zdp)^^^((Zh4 (pvr 3) (pvr 6) Zdp)^^^(@Zaz _))) ⇑1 ⇑1))) (@Zan _ _ _ (Zbr (Zax (own:=["_law_a","_law_b"]) (fr:=[("_law_p",1),("_law_often",7)]) rfl (Zbj (by kernel_rfl)) (Zh3 rfl T.n_zip ((Zaw<|>(pv 3)<||>(pv 5))<&>((Zaw<|>(pv 3)<||>(pv 6))<&>Zaa))) (λ_ _ _ _=>⟨(@Zde _ K rfl _ _ _ _ 2 rfl ((0<<<["_law_a","_law_b","_law_p","_law_often"])^^^((1<<<["_law_a","_law_b","_law_p","_law_often"])^^^(@Zaz _))) ⇑1 ⇑1),Zau,(Yal<$>hr<$>((pv 2)<&>((pv 0)<&>((Yaj<$>hr<$>((pv 2)<&>((pv 3)<&>((pv 1)<&>Zaa))))<&>Zaa))))⟩)) (Zh4 (pvr 3) (pvr 5) Zdp)))))))))))<*>(~~~(@Zar _ _ _ _ _ ((pvr 2)<&>((pvr 2)<&>((pvr 3)<&>Zaa))))))),?_⟩;refine Zgl λX hX=>?_;walk_at "wp";refine Zat p n ⟨rfl,hp,n0,n24,λt r rs H1 s1 nw tv=>⟨t,rfl,_,SqT.of tv.tup,_,rfl,?_⟩⟩;have nr:r≠l:=hb.ne nw.r;have c0:Chg H H1 p n.toNat 0 r rs (Zcc n.toNat):=⟨tv.lst,tv.row,tv.nin,nw.rs,by unfold Zcc;rw[Jab,Jat],λxs hx=>(Zgn hp n.toNat).2 xs hx,λxs hx x hxx=>?_,λF _ hF=>⟨λi t=>if t=i then 1 else 0,λi j hi hj=>?_⟩⟩
  rotate_left
  .have h01:=Zpi hp;refine Zad (Jar.mp hx) λj _ e910=>?_;obtain rfl:=e910;rcases Zca hxx with e|e
   .rw [e];exact⟨h01.2,λ_=>⟨1,by unfold Qv;rfl,⇑0⟩⟩
   .rw [(List.mem_replicate.mp e).2];exact⟨h01.1,λ_=>⟨0,by unfold Qv;rfl,⇑0⟩⟩
  .show sm n.toNat (λt=>(if t=i then 1 else 0)*vN ((Zcc n.toNat).getD t []) j)=_;rw[Zrk (λt=>vN ((Zcc n.toNat).getD t []) j) hi,Zea hi hj]
  have b1:=hb.same s1;subst hX;refine Zgl λX hX=>?_;refine cutF λY hY=>?_;refine⟨_,rfl,_,_,rfl,rfl,.inl ⟨∅,∅⟩,_,rfl,∅,∅,?_⟩;refine Zbt (λi σ H3=>∃ (v4 v5 v6 v7:Option V) (rs:List Addr) (M:Mv),σ=[some (.ref l),some (.int p),some (.int n),some (.ref r),v4,v5,v6,v7]/\Ext l H H3/\Bag H3 l/\Chg H H3 p n.toNat i r rs M) ⟨none,none,none,none,rs,_,rfl,s1.ext,b1,c0⟩ ?_ ?_
  .intro i σ H3 hi e91;refine Zm7 e91 λv4 v5 v6 v7 rs M e911 e3 b3 ch=>?_;clear e91;obtain rfl:=e911;refine Zqn λD2 hD2=>?_;have hn:0<n:=∅
   simp only[Zbq,List.set_cons_zero,List.set_cons_succ];subst hY;refine Zgl λY hY=>?_;walk_at "wp";refine b3.draw hn ∅ λa H4 a0 a1 e4 b4=>?_;have c4:=ch.ext hb b3 e4 nr;subst hY;refine Zgl λY hY=>?_;walk_at "wp";refine b4.draw hn ∅ λb H5 b0 b1' e5 b5=>?_;have c5:=c4.ext hb b4 e5 nr;subst hY;refine Zgl λY hY=>?_;walk_at "wp";refine Zat l p ⟨rfl,b5,hp,λvu u H6 e6 b6 nu hu=>?_⟩;have c6:=c5.ext hb b5 e6 nr;have e06:Ext l H H6:=((e3.trans e4).trans e5).trans e6;clear c4 c5 e4 e5 e6 b4 b5 ch;subst hY;have ha':a.toNat<n.toNat:=∅
   have hb':b.toNat<n.toNat:=by exact oz66 b1' ha'
   have rl:=c6.row.1;have ml:=c6.hl;have eA:rs[a.toNat]?=some (rs[a.toNat]'(oz11 ha' rl ml)):=Jaa _;have eB:rs[b.toNat]?=some (rs[b.toNat]'(oz11 hb' rl ml)):=Jaa _;refine Zad (c6.row.at' eA) λxa fa e912=>?_;obtain⟨va,hva,ala⟩:=e912;refine Zad (c6.row.at' eB) λxb fb e913=>?_;obtain⟨vb,hvb,alb⟩:=e913;have wa:=c6.hw xa (Jae fa);have wb:=c6.hw xb (Jae fb);have ga:=c6.gd xa (Jae fa);have gb:=c6.gd xb (Jae fb);have bu:=Zqk hp (un_ch hu);generalize hAdr:rs[a.toNat]'(oz11 ha' rl ml)=A at *;generalize hBdr:rs[b.toNat]'(oz11 hb' rl ml)=B at *;have atA:atI (rs.map V.ref) a=some (.ref A):=Zbx a0 (by rw[Jad,eA];rfl);have atB:atI (rs.map V.ref) b=some (.ref B):=Zbx b0 (by rw[Jad,eB];rfl);refine cutI λY1 hY1=>?_;walk_at "wp";have ixA:ixN (rs.map V.ref).length a=some a.toNat:=by
    have:=ixN_n (n:=(rs.map V.ref).length) (k:=a.toNat) (by rw[Jab];exact oz11 ha' rl ml);rwa [Jbt a0] at this
   have i48:3*i+7<=200:=by exact oz1 n24 hi
   refine Zce (λhc=>?_) (λhc=>b6.draw ⇑0 ⇑0 λy H7 y0 y1 e7 b7=>⟨rfl,?_⟩)
   .have hc:=Ja5 hc;subst hc;subst hY1;walk_at "wp";refine⟨_,rfl,_,rfl,r,_,a,_,rfl,rfl,SqL.of c6.lst,atA,A,rfl,⟨_,SqL.of hva⟩,λD hD=>?_⟩;refine Zb3 (λj Hc y=>NumV Hc p y (Zbn p u (xa.getD j (0,1)))) (λk s=>k.same s) (λk hD=>k.put hD) hva hD (by rw[ala.1];omega) (λj v Hc Qc hv sc _ qc=>?_) λys H7 s7 e7 yl hys=>?_
    .refine Zad (ala.at' hv) λx ex nx=>?_;have gx:=ga x (Jae ex);have bx:=Zqk hp gx;rw[Zaj ex] at qc;simp only[Zbv];walk_at "wp";exact⟨_,rfl,_,rfl,p,vu,v,u,x,rfl,hp,⟨nu.same sc,nx.same sc,hu.1,gx.1,10,3*i+7,bu.1,bu.2,bx.1,bx.2,∅⟩,λw He se nw=>qc w He se nw⟩
    .have rv:RowV H7 p D (xa.map (Zbn p u)):=⟨ys,e7,by rw[yl,Jab];exact ala.1,λk y x f1 f2=>by
      rw[Jad] at f2;cases f3:xa[k]? with
      | none=>rw[f3] at f2;cases f2
      | some z=>
       rw[f3] at f2;cases f2;have:=hys k y f1;rwa [Zaj f3] at this⟩
     have c7:=c6.same s7;refine⟨_,c7.lst,a.toNat,ixA,?_⟩;subst hD2;refine Zpy _ _ _ _ (rs.set a.toNat D) (M.set a.toNat (xa.map (Zbn p u))) ⟨rfl,(e06.trans s7.ext).upd nw.r,(b6.same s7).new nr,c7.put rv (by rw[Jab];exact wa) (λx hx=>?_) (Zs5 ha' ml c6.iv (un_nm hp hu) λF _ hF j hj=>?_) (Zaf c6.lst hD).symm (e06.free (b6.ne hD) hD)⟩
     .refine Zad (Jar.mp hx) λz hz e914=>?_;obtain rfl:=e914;exact Zps hp hu (ga z hz)
     .rw [Zaj fa];have ez:xa[j]?=some (xa[j]'(oz7 wa hj)):=Jaa _;rw[Zpz ez,Zpz (x:=Zbn p u (xa[j]'(oz7 wa hj))) (by rw[Jad,ez];rfl)];exact hF.times hu.1 (ga _ (Jae ez)).1
   .have hc:¬ a=b:=λz=>hc (Jao z);have hab:a.toNat≠b.toNat:=by exact oz46 a0 b0 hc
    have c7:=c6.ext hb b6 e7 nr;have e07:=e06.trans e7;have nA:A≠l:=hb.ne (c6.fr A (Jae eA));have nB:B≠l:=hb.ne (c6.fr B (Jae eB));refine Zce (λ_=>?_) (λ_=>?_)
    .refine ⟨_,SqL.of c7.lst,_,atB,_,SqL.of c7.lst,_,atA,⇑0,λp1 hp1=>⟨_,SqT.of Zab,rfl,_,_,rfl,_,(c7.same (Same.new hp1)).lst,a.toNat,ixA,_,_,rfl,_,Zab,b.toNat,?_,rfl,?_⟩⟩
     .have:=ixN_n (n:=((rs.map V.ref).set a.toNat (.ref B)).length) (k:=b.toNat) (by rw[Jby,Jab];exact oz11 hb' rl ml);rwa [Jbt b0] at this
     .subst hD2;have s8:=Same.new (o:=.tup [V.ref B,V.ref A]) hp1;exact Zpy _ _ _ _ _ _ ⟨rfl,((e07.trans s8.ext).upd nw.r).upd nw.r,((b7.same s8).new nr).new nr,(c7.same s8).swap ha' hb' hab eA eB⟩
    .have hva7:=e7 _ _ nA hva;have hvb7:=e7 _ _ nB hvb;have nu7:=nu.ext b6 e7;refine⟨_,rfl,_,rfl,r,_,a,_,rfl,rfl,SqL.of c7.lst,atA,_,rfl,_,rfl,r,_,b,_,rfl,rfl,SqL.of c7.lst,atB,A,B,rfl,⟨_,SqL.of hva7⟩,⟨_,SqL.of hvb7⟩,λD hD=>?_⟩;refine Zgz (λj Hc y=>NumV Hc p y (Zdn p (xa.getD j (0,1)) (Zbn p u (xb.getD j (0,1))))) (λk s=>k.same s) (λk hD=>k.put hD) hva7 hvb7 (by rw[ala.1,alb.1];omega) hD (by rw[ala.1];omega) (λj v v' Hc Qc hv hv' sc _ qc=>?_) λys H8 s8 e8 yl hys=>?_
     .refine Zad (ala.at' hv) λx ex nx=>?_;refine Zad (alb.at' hv') λx' ex' nx'=>?_;have gx:=ga x (Jae ex);have gx':=gb x' (Jae ex');have bx:=Zqk hp gx;have bx':=Zqk hp gx';have bt:=Zqk hp (Zps hp hu gx');have nx:=(nx.ext b6 e7).same sc;have nx':=(nx'.ext b6 e7).same sc;rw[Zaj ex,Zaj ex'] at qc;simp only[Zbv];walk_at "wp";refine⟨_,rfl,_,rfl,_,rfl,p,vu,v',u,x',rfl,hp,⟨nu7.same sc,nx',hu.1,gx'.1,10,3*i+7,bu.1,bu.2,bx'.1,bx'.2,∅⟩,λw1 He se nw1=>⟨p,v,w1,x,_,rfl,hp,⟨nx.same se,nw1,gx.1,Zcp hp.lo hu.1 gx'.1,3*i+7,3*(i+1)+7,bx.1,bx.2,bt.1,bt.2,∅⟩,λw2 Hf sf nw2=>qc w2 Hf (se.trans sf) nw2⟩⟩
     .have rv:RowV H8 p D ((List.range n.toNat).map λj=>Zdn p (xa.getD j (0,1)) (Zbn p u (xb.getD j (0,1)))):=⟨ys,e8,by rw[yl,Jab,Jat,ala.1];exact wa,λk y x f1 f2=>by
       have hk:k<n.toNat:=by have:=(Jaf.mp f1).1;have:=ala.1;omega
       rw[Jad,Jau hk] at f2;cases f2;exact hys k y f1⟩
      have c8:=c7.same s8;refine⟨_,c8.lst,a.toNat,ixA,?_⟩;subst hD2;refine Zpy _ _ _ _ (rs.set a.toNat D) (M.set a.toNat ((List.range n.toNat).map λj=>Zdn p (xa.getD j (0,1)) (Zbn p u (xb.getD j (0,1))))) ⟨rfl,(e07.trans s8.ext).upd nw.r,(b7.same s8).new nr,c8.put rv (by rw[Jab,Jat]) (λx hx=>?_) (inv_add (b:=b.toNat) (u:=u) ha' hb' hab ml c6.iv λF _ hF j hj=>?_) (Zaf c7.lst hD).symm (e07.free (b7.ne hD) hD)⟩
      .refine Zad (Jar.mp hx) λj hj e915=>?_;obtain rfl:=e915;have hj:=Ja8.mp hj;exact ch_plus hp hu (gb _ (Za0 (oz7 wb hj))) (ga _ (Za0 (oz7 wa hj)))
      .rw [Zaj fa,Zaj fb,Zpz (x:=Zdn p (xa.getD j (0,1)) (Zbn p u (xb.getD j (0,1)))) (by rw[Jad,Jau hj];rfl)];have g1:=(ga _ (Za0 (d:=(0,1)) (show j<xa.length by exact oz7 wa hj))).1;have g2:=(gb _ (Za0 (d:=(0,1)) (show j<xb.length by exact oz7 wb hj))).1;rw[hF.plus g1 (Zcp hp.lo hu.1 g2),hF.times hu.1 g2];rfl
  .intro σ H3 e92;refine Zm7 e92 λv4 v5 v6 v7 rs M e916 e3 b3 ch=>?_;clear e92;obtain rfl:=e916;subst hX;walk_at "wp";rw[show (2*n).toNat=2*n.toNat by exact oz60] at ch;exact⟨⇑0,λt ht=>q t r rs M _ (e3.trans (Ext.new ht)) (b3.new (b3.ne ht)) ⟨e3.free (b3.ne ht) ht,nw.r,ch.fr⟩ Zab (ch.same (Same.new ht))⟩
theorem lead_eq {p:Int}{n wd:Nat}{A B X:Mv}(hp:GroundP p)(mA:Mat p n n A)(mB:Mat p n n B)(mX:Mat p n wd X)(ab:Zb4 p A B n=Zcc n):Zb4 p A (Zb4 p B X wd) wd=X:=by
 obtain⟨F,_,hF⟩:=Zif hp;refine Zpc hF (Zfl hp mA (Zfl hp mB mX)) mX λi j hi hj=>?_;rw[Zjp hp hF mA (Zfl hp mB mX) hi hj];have e1:∀ i b,i<n->b<n->sm n (λa=>(vN (A.getD i []) a:F)*vN (B.getD a []) b)=del i b:=λi b hi hb=>by
  have:=Zjp hp hF mA mB hi hb;rw[ab,Zea hi hb] at this;exact this.symm
 show sm n (λa=>(vN (A.getD i []) a:F)*vN ((Zb4 p B X wd).getD a []) j)=_;rw[Zak (g:=λa=>sm n λb=>vN (A.getD i []) a*vN (B.getD a []) b*vN (X.getD b []) j) λa ha=>by
  rw[Zjp hp hF mB mX ha hj];show _*sm n (λb=>vN (B.getD a []) b*vN (X.getD b []) j)=_;rw[<- Zdo];exact Zak λb _=>by grind,Zf4]
 rw[Zak (g:=λb=>del i b*vN (X.getD b []) j) λb hb=>by rw[<- e1 i b hi hb,Zf5]];rw[Zak (g:=λb=>(if b=i then 1 else 0)*vN (X.getD b []) j) λb _=>by
  by_cases q:i=b
  .subst q;rfl
  .show (if i=b then (1:F) else 0)*_=_;rw[if_neg q,if_neg λz=>q z.symm],Zrk (λb=>vN (X.getD b []) j) hi]
theorem Zrq {H:Hp}{p hh wd:Int}{t r:Addr}{rs:List Addr}(h:Tab H p hh wd t r rs)(h0:0<=hh)(w0:0<=wd)(sm:∀ a∈rs,RowO H p 5000 wd a):∃ M,TabB H p 14 hh.toNat wd.toNat t r rs M:=by
 obtain⟨M,hM⟩:=All2.pick (P:=λa xs=>RowV H p a xs/\(xs.length:Int)=wd/\Zdk p 14 xs) (xs:=rs) λa ha=>by
  refine Zav (sm a ha) λvs h1 h2 h3=>?_;obtain⟨xs,hxs⟩:=All2.pick (P:=λv x=>NumV H p v x/\Isn p x/\Bd 5000 x) (xs:=vs) λv hv=>h3 v hv;refine⟨xs,⟨vs,h1,hxs.mono λ_ _ q=>q.1⟩,by rw[<- hxs.1];exact h2,λx hx=>?_⟩;obtain⟨i,hi,rfl⟩:=Jan.mp hx;refine Zit (hxs.at (Jaa hi)) λv _ _ i1 e93=>?_;obtain⟨b1,b2⟩:=e93;exact⟨i1,Jbh b1 ⇑0,Jbh b2 ⇑0⟩
 have ln:=h.len;have lm:=hM.1;refine⟨M,⟨by rw[Jbt h0,Jbt w0];exact h.tup,h.lst,hM.mono λ_ _ q=>q.1,h.nin⟩,oz90 ln lm,λxs hx=>?_,λxs hx=>?_⟩
 .obtain ⟨i,hi,rfl⟩:=Jan.mp hx;refine Zit (hM.at (Jaa hi)) λ_ _ _ q _=>?_;exact oz85 q
 .obtain ⟨i,hi,rfl⟩:=Jan.mp hx;refine Zit (hM.at (Jaa hi)) λ_ _ _ _ q=>?_;exact q
theorem TabB.ext {l:Addr}{H0 H H':Hp}{p:Int}{k n wd:Nat}{t r:Addr}{rs:List Addr}{M:Mv}(h:TabB H p k n wd t r rs M)(b0:Bag H0 l)(nw:New H0 t r rs)(b:Bag H l)(e:Ext l H H'):TabB H' p k n wd t r rs M:=
 ⟨⟨e _ _ (b0.ne nw.t) h.tv.tup,e _ _ (b0.ne nw.r) h.tv.lst,h.tv.row.monoM λa xs ha q=>q.ext b e (b0.ne (nw.rs a ha)),h.tv.nin⟩,h.hl,h.hw,h.gd⟩
def spTbV:L2.Sp:=λvs H Q _=>∃ (l a z:Addr) (p m:Int) (xs:List V) (ps:List (Int×Int)) (ns:List Int),vs=[.ref l,.int p,.ref a,.ref z]/\Bag H l/\GroundP p/\H a=some (.lst xs)/\Prs H xs ps/\InP m ps/\ps.length<=9/\Sizes H z ns/\(ns.length:Int)=m/\a≠l/\z≠l /\
 ∀ (l':Addr) (ts:List Addr) (Ms:List Mv) (H':Hp),Ext l H H'->Bag H' l->H l'=none->H' l'=some (.lst (ts.map V.ref))->ts.length=ps.length->(∀ (i:Nat) t q,ts[i]?=some t->ps[i]?=some q->∃ r rs,TabB H' p 14 (nz ns q.2) (nz ns q.1) t r rs (Ms.getD i [])/\New H t r rs)->Q (.ref l') H'
theorem ok_tbV (F:Fun K "_law_tables" "_law_tables" Ze7 f fd)(T:Txt K mg C G S)(Yao:Cal P w K mg base "_law_table" 4 spTb):FnOk P w K mg base CX0 5 f fd ["_law_bag_here","_law_p","_law_arrows","_law_sizes_here"] spTbV:=by
 have nd:=Zgt.nd;refine F.ok Zgt (λvs H Q E h=>?_) (λcdv A outer s H vs Q E hr h=>?_)
 .refine Zqs h λl a z p m xs ps ns e94 _=>?_;clear h;obtain rfl:=e94;rfl
 .refine Zqr h λl a z p m xs ps ns e95 hb hp e96=>?_;clear h;obtain rfl:=e95;refine Zub e96 λha pr ip p9 hz hm na nz' q=>?_;clear e96;refine⟨_,((4|||nd|||(@Zbo _ _ _ _ Zaa))<*>((Zb2 Ja1 rfl (Za6 (pv 2)) (@Zbw _ _ _ _ _ 2 rfl ((5>>>nd)^^^((6>>>nd)^^^(@Zaz _))) ⇑1 ⇑1) (@Zan _ _ _ (Zb1 (Zey Jaz Ja6 Ja7 (mtJ Zbd) (pvr 4) ((Yao<$>hr<$>((pvr 0)<&>((pvr 1)<&>(((ixJ Zaw)<|>(pvr 3)<||>(pvr 6))<&>(((ixJ Zaw)<|>(pvr 3)<||>(pvr 5))<&>Zaa)))))<&>Zaa)))))<*>(~~~(pvr 4)))),?_⟩;walk_at "wp";refine⟨⇑0,λtl htl=>?_⟩;have ntl:tl≠l:=hb.ne htl;have nat:a≠tl:=Zaf ha htl;have nzt:z≠tl:=Zaf hz.1 htl;have hxl:=pr.1;refine⟨_,rfl,a,rfl,⟨_,SqL.of (Same.new htl _ _ ha)⟩,Zdt (xs:=xs) (λi σ H3=>∃ (v5 v6:Option V) (ts:List Addr) (Ms:List Mv),σ=[some (.ref l),some (.int p),some (.ref a),some (.ref z),some (.ref tl),v5,v6]/\Ext l H H3/\Bag H3 l/\H3 tl=some (.lst (ts.map V.ref))/\ts.length=i/\Ms.length=i /\
    (∀ (j:Nat) t q,ts[j]?=some t->ps[j]?=some q->∃ r rs,TabB H3 p 14 (nz ns q.2) (nz ns q.1) t r rs (Ms.getD j [])/\New H t r rs/\r≠tl/\tl∉rs))
   ⟨none,none,[],[],rfl,Ext.new htl,hb.new ntl,Zab,rfl,rfl,λj t c e=>by simp at e⟩ (λi σ H2 _ ⟨_,_,_,_,_,e3,_⟩=>SqL.of (e3 _ _ na ha)) ?_ ?_⟩
  .intro i x σ H3 hi e91;refine Zb5 e91 λv5 v6 ts Ms e97 e3 b3 e98=>?_;clear e91;obtain rfl:=e97;refine Zb0 e98 λht3 hln hlc hc=>?_;clear e98;refine Zqn λD2 hD2=>?_;walk_at "wp";have hi1:i<xs.length:=(Jaf.mp hi).1;have hq:ps[i]?=some (ps[i]'(oz9 hxl hi1)):=Jaa (oz9 hxl hi1);refine Zad ((pr.bag hb e3).2 i x _ hi hq) λta e99 hta=>?_;obtain rfl:=e99;have hz3:=e3 _ _ nz' hz.1;refine Zb0 (ip _ (Jae hq)) λi0 i1 j0 j1=>?_;have a1:=Zpv (ns:=ns) i0 (oz72 hm i1);have a2:=Zpv (ns:=ns) j0 (oz72 hm j1);have b1:=hz.2.2 (ns.getD ps[i].1.toNat 0) (by rw[Jac,Jaa (show ps[i].1.toNat<ns.length by omega)];exact Jap _);have b2:=hz.2.2 (ns.getD ps[i].2.toNat 0) (by rw[Jac,Jaa (show ps[i].2.toNat<ns.length by omega)];exact Jap _);refine⟨ta,rfl,_,SqT.of hta,rfl,_,_,rfl,_,_,rfl,rfl,.inl ⟨rfl,_,SqL.of ht3⟩,_,SqL.of hz3,_,a2,_,SqL.of hz3,_,a1,l,p,_,_,rfl,b3,hp,b2.1,b2.2,b1.1,b1.2,λt r rs H4 e4 b4 ft fr fs sm tb=>?_⟩;obtain⟨M,tB⟩:=Zrq tb b2.1 b1.1 sm;have ht4:=e4 _ _ ntl ht3;have n3:r≠tl:=λz=>by rw[z,ht3] at fr;cases fr
   have n4:tl∉rs:=λz=>by have:=fs tl z;rw[ht3] at this;cases this
   subst hD2;refine⟨_,ht4,Zap (by rw[Jab];exact oz53 p9 hxl hln hi1),_,_,ts++[t],Ms++[M],rfl,(e3.trans e4).upd htl,b4.new ntl,by rw[Zab,Za5],by rw[Jah,hln];rfl,by rw[Jah,hlc];rfl,?_⟩;intro j t' q' e1 e2;by_cases hj:j<ts.length
   .rw [Jay hj] at e1;refine Zdw (hc j t' q' e1 e2) λr' rs' tb' nw' n1 n2=>?_;refine Zat r' rs' ⟨?_,nw',n1,n2⟩;rw[Zci,if_pos (oz31 hln hlc hj)];exact (tb'.ext hb nw' b3 e4).put ht4 n1 n2
   .have hj0:j=ts.length:=by
     have:=(Jaf.mp e1).1;rw[Jah] at this;have:j<ts.length+1:=this;exact oz5 hj this
    subst hj0;rw[Jav (Jai _),Je7] at e1;cases e1;rw[hln,hq] at e2;cases e2;refine Zat r rs ⟨?_,⟨e3.free (b3.ne ft) ft,e3.free (b3.ne fr) fr,λa ha=>e3.free (b3.ne (fs a ha)) (fs a ha)⟩,n3,n4⟩;rw[Zci,if_neg (oz79 hln hlc),if_pos (oz25 hln hlc)];exact tB.put ht4 n3 n4
  .intro σ H3 e92;refine Zb5 e92 λv5 v6 ts Ms e910 e3 b3 e911=>?_;clear e92;obtain rfl:=e910;refine Zb0 e911 λht3 hln hlc hc=>?_;clear e911;exact q tl ts Ms H3 e3 b3 htl ht3 (oz26 hxl hln) λi t q' f1 f2=>let ⟨r,rs,tb,nw,_⟩:=hc i t q' f1 f2;⟨r,rs,tb,nw⟩
theorem lentv {H:Hp}{p:Int}{k:Nat}{l:Addr}{ts:List Addr}{ds:List (Nat×Nat)}{Ms:List Mv}{Q:VK}{E:XK}(hl:H l=some (.lst (ts.map V.ref)))(n9:ts.length<=9)(len:ts.length=ds.length)(hk:k<=1000000)(h:∀ (i:Nat) t d,ts[i]?=some t->ds[i]?=some d->d.1<=24/\d.2<=24/\∃ r rs,TabB H p k d.1 d.2 t r rs (Ms.getD i []))(q:∀ (l':Addr) (ts':List Addr) H',Same H H'->H l'=none->H' l'=some (.lst (ts'.map V.ref))->ts'.length=ds.length->(∀ (i:Nat) t d,ts'[i]?=some t->ds[i]?=some d->∃ r rs,TabB H' p k d.1 d.2 t r rs (Ms.getD i [])/\New H t r rs)->Sep H' l' ts'->Q (.ref l') H'):Zos [.ref l] H Q E:=by
 obtain⟨cs,hcs⟩:=All2.pick (xs:=List.range ds.length) (P:=λi (c:Tc)=>∃ (t r:Addr) (rs:List Addr) (d:Nat×Nat),ts[i]?=some t/\ds[i]?=some d/\TabB H p k d.1 d.2 t r rs (Ms.getD i [])/\c.1=(d.1:Nat)/\c.2.1=(d.2:Nat)/\d.1<=24/\d.2<=24/\TabC H p c.1 c.2.1 t r rs c.2.2) λi hi=>by
  have hi:=Ja8.mp hi;have e1:ts[i]?=some (ts[i]'(Zc4 len hi)):=Jaa _;have e2:ds[i]?=some ds[i]:=Jaa hi;refine Za2 (h i _ _ e1 e2) λd1 d2 e93=>?_;obtain⟨r,rs,tb⟩:=e93;obtain⟨MV,tc⟩:=(tb.tab hk).toC;exact Zir (_,_,MV) _ r rs _ ⟨e1,e2,tb,rfl,rfl,d1,d2,tc⟩
 have cl:cs.length=ds.length:=by have:=hcs.1;rw[Jat] at this;exact Zu4 this
 have at1:∀ (i:Nat) c,cs[i]?=some c->∃ (t r:Addr) (rs:List Addr) (d:Nat×Nat),ts[i]?=some t/\ds[i]?=some d/\TabB H p k d.1 d.2 t r rs (Ms.getD i [])/\c.1=(d.1:Nat)/\c.2.1=(d.2:Nat)/\d.1<=24/\d.2<=24/\TabC H p c.1 c.2.1 t r rs c.2.2:=λi c e=>by
  refine Zad (hcs.at (i:=i) e) λj ej h=>?_;have hi:=(Jaf.mp e).1;rw[Jau (oz9 cl hi)] at ej;cases ej;exact h
 have tbs:Tbs H p l ts cs:=by
  refine⟨hl,∅,∅,λi t c e1 e2=>?_⟩;refine Zb5 (at1 i c e2) λt' r rs d f1 f2 tb e94=>?_;refine Zcf e94 λc1 c2 d1 d2 tc=>?_;clear e94;rw[e1] at f1;cases f1;exact⟨⟨r,rs,tc⟩,oz70 c1,∅,oz70 c2,∅⟩
 refine Zg8 l p ts cs ⟨rfl,tbs,λl' ts' H' s fl hl' hn ht sep=>q l' ts' H' s fl hl' ∅ (λi t d e1 e2=>?_) sep⟩;have hi:=(Jaf.mp e1).1;have ec:cs[i]?=some (cs[i]'(by omega)):=Jaa _;refine Zb5 (at1 i _ ec) λt' r rs d' f1 f2 tb e95=>?_;refine Zcf e95 λc1 c2 d1 d2 tc=>?_;clear e95;rw[e2] at f2;cases f2;refine Zdw (ht i t _ e1 ec) λr' rs' tc' ft' fr' fs'=>?_;rw[c1,c2] at tc tc';exact Zat r' rs' ⟨Zq3 tb tc s tc',ft',fr',fs'⟩
def spLd (S:Addr):L2.Sp:=λvs H Q _=>∃ (a tl cl x dx g d z l:Addr) (p m:Int) (kt k K2:Nat) (xs:List V) (ps:List (Int×Int)) (ns:List Int) (ts cts ts':List Addr) (Ms Cs Ms':List Mv),vs=[.int p,.ref a,.ref tl,.ref cl,.ref x]/\GroundP p/\H a=some (.lst xs)/\Prs H xs ps/\InP m ps/\ps.length<=9/\(ns.length:Int)=m/\(∀ i,nz ns i<=24)/\TbL H p kt tl ts ps ns Ms/\ChL H p k cl cts ns Cs/\H x=some (.ins S dx (Zgq g d z l))/\TbL H p K2 l ts' ps ns Ms' /\
 (∀ (i:Nat) q,ps[i]?=some q->Zb4 p (Cs.getD q.2.toNat []) (Ms'.getD i []) (nz ns q.1)=Zb4 p (Ms.getD i []) (Cs.getD q.1.toNat []) (nz ns q.1))/\kt<=1000000/\k<=1000000/\K2<=1000000/\∀ H',Same H H'->Q (.bl true) H'
theorem Zvf (F:Fun K "_law_leads" "_law_leads" Zgg f fd)(T:Txt K mg C G S)(Yat:Cal P w K mg base "_law_product" 4 spLpB):FnOk P w K mg base CX0 5 f fd ["_law_p","_law_arrows","_law_tables_here","_law_changes","_law_made"] (spLd S):=by
 have nd:=Zhx.nd;refine F.ok Zhx (λvs H Q E h=>?_) (λcdv A outer s H vs Q E hr h=>?_)
 .obtain ⟨a,tl,cl,x,dx,g,d,z,l,p,m,kt,k,K2,xs,ps,ns,ts,cts,ts',Ms,Cs,Ms',rfl,_⟩:=h;rfl
 .obtain ⟨a,tl,cl,x,dx,g,d,z,l,p,m,kt,k,K2,xs,ps,ns,ts,cts,ts',Ms,Cs,Ms',rfl,hp,ha,pr,ip,p9,hm,n24,ht,hc,hx,ht',eq,kt1,k1,k2,q⟩:=h;refine⟨_,((Zb2 Ja1 rfl (Zw2 rfl T.n_enumerate ((pv 1)<&>Zaa)) (@Zbw _ _ _ _ _ 2 rfl ((5>>>nd)^^^((6>>>nd)^^^(@Zaz _))) ⇑1 ⇑1) ((7|||nd|||(Yat<$>hr<$>((pvr 0)<&>((Zaw<|>(pvr 3)<||>((Zph Zbc)<|>(pvr 6)<||>Zac))<&>((Zaw<|>(Zbs (pvr 4) rfl)<||>(pvr 5))<&>Zaa)))))<*>(@Zan _ _ _ (@Za3 _ _ _ _ _ _ _ _ (Zal (op_neT (Zns hr)) (pvr 7) (Yat<$>hr<$>((pvr 0)<&>(((ixJ Zaw)<|>(pvr 2)<||>(pvr 5))<&>((Zaw<|>(pvr 3)<||>((Zph Zbc)<|>(pvr 6)<||>Zac))<&>Zaa)))) (Zam _)) (~~~Zek) Zao))))<*>(~~~Zek)),?_⟩;refine Zgl λX hX=>?_;refine cutF λY hY=>?_;have xl:=pr.1;have tl1:=ht.2.1;have tl2:=ht'.2.1;have tl3:=hc.2.1;refine⟨_,rfl,a,rfl,⟨_,SqL.of ha⟩,for_enm (xs:=xs) (λi σ H3=>∃ (v5 v6 v7:Option V),σ=[some (.int p),some (.ref a),some (.ref tl),some (.ref cl),some (.ref x),v5,v6,v7]/\Same H H3) ⟨none,none,none,rfl,Same.refl H⟩ (λi σ H3 _ ⟨_,_,_,_,e⟩=>SqL.of (e _ _ ha)) ?_ ?_⟩
  .intro i v pz σ H3 hv hpz e91;refine Zex e91 λv5 v6 v7 e96 s3=>?_;clear e91;obtain rfl:=e96;refine Zqn λD2 hD2=>?_;have hi:i<ps.length:=by have:=(Jaf.mp hv).1;exact oz9 xl this
   have hq:ps[i]?=some ps[i]:=Jaa hi;have eqi:=eq i _ hq;have hti:ts[i]?=some (ts[i]'(Zc4 tl1 hi)):=Jaa _;have hti':ts'[i]?=some (ts'[i]'(Zc4 tl2 hi)):=Jaa _;refine Zdl (ht.2.2 i _ _ hti hq) λr rs tb=>?_;refine Zdl (ht'.2.2 i _ _ hti' hq) λr' rs' tb'=>?_;generalize ps[i]=qq at *;obtain⟨t0,h0⟩:=qq;refine Zad (pr.2 i v _ hv hq) λta e97 hta=>?_;obtain rfl:=e97;refine Zb0 (ip _ (Jae hq)) λi0 i1 j0 j1=>?_;have s4:=Same.new (o:=.tup [V.int i,V.ref ta]) hpz;have p4:(upd H3 pz (.tup [V.int i,V.ref ta])) pz=some (.tup [V.int i,V.ref ta]):=Zab;have s04:=s3.trans s4;generalize upd H3 pz (.tup [V.int i,V.ref ta])=H4 at *;have hnt:ns[t0.toNat]?=some (ns.getD t0.toNat 0):=by rw[Za4 ∅];exact Jaa _
   have hnh:ns[h0.toNat]?=some (ns.getD h0.toNat 0):=by rw[Za4 ∅];exact Jaa _
   have hct:cts[t0.toNat]?=some (cts[t0.toNat]'(by omega)):=Jaa _;have hch:cts[h0.toNat]?=some (cts[h0.toNat]'(by omega)):=Jaa _;refine Zdl (hc.2.2 _ _ _ hct hnt) λrT rsT tbT=>?_;refine Zdl (hc.2.2 _ _ _ hch hnh) λrH rsH tbH=>?_;have tbT:TabB H p k (nz ns t0) (nz ns t0) _ rT rsT _:=tbT;have tbH:TabB H p k (nz ns h0) (nz ns h0) _ rH rsH _:=tbH;have n1:=n24 t0;have n2:=n24 h0;simp only[Zt6,Zie,Zxd,Zbq,List.set_cons_zero,List.set_cons_succ];refine Zat pz _ ⟨rfl,SqT.of p4,rfl,_,_,rfl,_,_,rfl,rfl,?_⟩;subst hY;refine Zgl λZ hZ=>?_;walk_at "wp";have l1:nz ns h0*(k+K2+8)<=24*2000008:=Jbu n2 ∅;have l2:nz ns t0*(kt+k+8)<=24*2000008:=Jbu n1 ∅;refine⟨_,SqT.of (s04 _ _ hta),_,rfl,_,h0,rfl,SqL.of (s04 _ _ hc.1),_,Zbx j0 (by rw[Jad,hch];rfl),S,dx,_,s04 _ _ hx,T.cl_Standing,T.nSt,_,Zgr ..,l,rfl,_,SqL.of (s04 _ _ ht'.1),_,Zwp (by rw[Jad,hti'];rfl),?_⟩;refine Zok _ rH _ r' rsH rs' p (nz ns h0) (nz ns h0) (nz ns t0) k K2 _ _ ⟨rfl,hp,tbH.same s04,tb'.same s04,Zw4 n2,Zw4 n2,Zw4 n1,∅,λt5 r5 rs5 H5 s5 tv5=>?_⟩;have s05:=s04.trans s5;rw[eqi] at tv5;subst hZ;walk_at "wp";refine⟨_,SqL.of (s05 _ _ ht.1),_,Zwp (by rw[Jad,hti];rfl),_,SqT.of (s05 _ _ hta),_,rfl,_,t0,rfl,SqL.of (s05 _ _ hc.1),_,Zbx i0 (by rw[Jad,hct];rfl),?_⟩;refine Zok _ r _ rT rs rsT p (nz ns h0) (nz ns t0) (nz ns t0) kt k _ _ ⟨rfl,hp,tb.same s05,tbT.same s05,Zw4 n2,Zw4 n1,Zw4 n1,∅,λt6 r6 rs6 H6 s6 tv6=>?_⟩;have tv5':=tv5.same s6;subst hD2;exact⟨t6,rfl,_,SqT.of tv5'.tup,_,SqT.of tv6.tup,_,tv5'.items tv6,Zgm ⇑0 ⟨_,_,_,rfl,s05.trans s6⟩⟩
  .intro σ H3 e92;refine Zex e92 λv5 v6 v7 e98 s3=>?_;clear e92;obtain rfl:=e98;subst hX;exact q H3 s3
end
end Pf
set_option maxHeartbeats 2000000
namespace Pf
open PySem L2 L3 PyProof.Rows
section
variable {C PL:Addr}
theorem cut3 {A B B2 X:TS}{D:Ends}{σ:L2.St}{H:Hp}(h:∀ X',X'=X->Zq4 A (Zq4 B (Zq4 B2 X')) D σ H):Zq4 A (Zq4 B (Zq4 B2 X)) D σ H:=h X rfl
theorem Chg.tabB {H0 H:Hp}{p:Int}{n:Nat}{t r:Addr}{rs:List Addr}{M:Mv}(hp:GroundP p)(h:Chg H0 H p n (2*n) r rs M)(ht:H t=some (.tup [.int n,.int n,.ref r]))(n6:n<=6):TabB H p 43 n n t r rs M:=
 ⟨⟨ht,h.lst,h.row,h.nin⟩,h.hl,h.hw,λxs hx x hxx=>let g:=h.gd xs hx x hxx;let b:=Zqk hp g;⟨g.1,b.1.le ∅,b.2.le ∅⟩⟩
theorem Chg.at_put {H0 H:Hp}{D:Addr}{l:List V}{o:HO}{p:Int}{n i:Nat}{r:Addr}{rs:List Addr}{M:Mv}(h:Chg H0 H p n i r rs M)(hD:H D=some (.lst l))(nr:r≠D)(ns:D∉rs):Chg H0 (upd H D o) p n i r rs M:=
 ⟨by rw[Zag nr];exact h.lst,h.row.monoM λa xs ha q=>q.put hD (λz=>ns (z ▸ ha)),h.nin,h.fr,h.hl,h.hw,h.gd,h.iv⟩
theorem Chg.weak {H0 H1 H:Hp}{p:Int}{n i:Nat}{r:Addr}{rs:List Addr}{M:Mv}(h:Chg H1 H p n i r rs M)(k:∀ a,H1 a=none->H0 a=none):Chg H0 H p n i r rs M:=⟨h.lst,h.row,h.nin,λa ha=>k a (h.fr a ha),h.hl,h.hw,h.gd,h.iv⟩
theorem Zl8 (n:Nat):¬ (!(List.replicate n true).all id)=true:=by simp
theorem Zkc {H:Hp}{p:Int}{ts ts':List Addr}(hl:ts.length=ts'.length)(h:∀ (i:Nat) t t',ts[i]?=some t->ts'[i]?=some t'->∃ (hh wd:Int) (r r':Addr) (rs rs':List Addr) (M:Mv),TabV H p hh wd t r rs M/\TabV H p hh wd t' r' rs' M):Zeq K H 6 (ts.map V.ref) (ts'.map V.ref) (List.replicate (ts.map V.ref).length true):=
 Zim (by rw[Jab,Jab];exact hl) λj x y e1 e2=>by
  rw[Jad] at e1 e2;cases f1:ts[j]? with
  | none=>rw[f1] at e1;cases e1
  | some t=>
   cases f2:ts'[j]? with
   | none=>rw[f2] at e2;cases e2
   | some t'=>
    rw[f1] at e1;rw[f2] at e2;cases e1;cases e2;refine xE7_2 (h j t t' f1 f2) λ_ _ _ _ _ _ _ a b=>?_;exact a.eq b
theorem Zkw {H:Hp}(ns:List Int):Zeq K H 6 (ns.map V.int) (ns.map V.int) (List.replicate (ns.map V.int).length true):=
 Zim rfl λj x y e1 e2=>by
  rw[e1] at e2;cases e2;refine Zad (Zc2 e1) λn _ e99=>?_;obtain rfl:=e99;exact Zcy
theorem RowV.keepU {U:Addr->Prop}{H H':Hp}{p:Int}{a:Addr}{xs:List Nv}(h:RowV H p a xs)(hU:∀ b,U b->∃ ys,H b=some (.lst ys))(k:∀ b o,¬ U b->H b=some o->H' b=some o)(na:¬ U a):RowV H' p a xs:=by
 refine Zad h λvs h1 h2=>?_;clear h;refine⟨vs,k _ _ na h1,h2.mono λv x q=>?_⟩;unfold NumV at *;split
 .rename_i e
  rw[if_pos e] at q;refine Zad q λt et ht=>?_;clear q;exact⟨t,et,k _ _ (λu=>by obtain⟨ys,hy⟩:=hU t u;rw[ht] at hy;cases hy) ht⟩
 .rename_i e
  rwa [if_neg e] at q
theorem TabB.keepU {U:Addr->Prop}{H H':Hp}{p:Int}{kk n wd:Nat}{t r:Addr}{rs:List Addr}{M:Mv}(h:TabB H p kk n wd t r rs M)(hU:∀ b,U b->∃ ys,H b=some (.lst ys))(k:∀ b o,¬ U b->H b=some o->H' b=some o)(nr:¬ U r)(nrs:∀ a∈rs,¬ U a):TabB H' p kk n wd t r rs M:=
 ⟨⟨k _ _ (λu=>by obtain⟨ys,hy⟩:=hU t u;rw[h.tv.tup] at hy;cases hy) h.tv.tup,k _ _ nr h.tv.lst,h.tv.row.monoM λa xs ha q=>q.keepU hU k (nrs a ha),h.tv.nin⟩,h.hl,h.hw,h.gd⟩
theorem lim28 {p:Int}{ns:List Int}(hp:GroundP p)(h0:∀ n∈ns,0<=n/\n<=6)(h4:p=0->∀ n∈ns,n<=4):Lim p ns 6 43 14 99328 397 598405:=by
 refine⟨λn hn=>by have:=h0 n hn;omega,⇑0,⇑0,⇑0,λn hn=>?_,⇑0,⇑0,⇑0,⇑0,⇑0,⇑0⟩;have a:=h0 n hn;have key:Zd4 p 43 (n.toNat+n.toNat) n.toNat<=99328:=by
  unfold Zd4;by_cases q:p=0
  .rw [if_pos q];have b:=h4 q n hn;have:n.toNat=0\/n.toNat=1\/n.toNat=2\/n.toNat=3\/n.toNat=4:=by exact oz62 b
   rcases this with e|e|e|e|e <;> rw[e] <;> decide
  .rw [if_neg q];decide
 refine⟨Ja3 key ⇑0,?_,key⟩;have:(n.toNat+n.toNat+1)*43<=13*43:=Jbu ∅ (Jai _);exact Ja3 this ⇑0
theorem Zwy:∀ {xs:List Int},(∀ n∈xs,0<=n)->0<=xs.sum
 | [],_=>by simp
 | x::xs,h=>by
  rw[List.sum_cons];have:=h x (by simp);have:=Zwy (xs:=xs) λn hn=>h n (by simp[hn]);omega
theorem Zw9:∀ {xs:List Int} {n:Int},(∀ n∈xs,0<=n)->n∈xs->n<=xs.sum
 | [],_,_,h=>by simp at h
 | x::xs,n,h0,h=>by
  have x0:=h0 x (by simp);have s0:0<=xs.sum:=Zwy λn hn=>h0 n (by simp[hn]);rw[List.sum_cons];rcases Jbq.mp h with e|e
  .omega
  .have:=Zw9 (λn hn=>h0 n (by simp[hn])) e;omega
def Zus (K:Frag)(PL:Addr):L2.Sp:=λvs H Q _=>∃ (a:Addr) (ns:List Int),vs=[.ref a]/\SqL K H a (ns.map V.int)/\ns.length<=63/\H PL=some Zv0/\∀ H',H' PL=some Zv0->Q (.bl true) H'
theorem ok_law (F:Fun K "law" "law" Zk8 f fd)(T:Txt K mg C G S)(Ybu:Cal P w K mg base "_law_cell" 1 (Zri K))(Ya2:Cal P w K mg base "_law_bag" 1 spBag)(Yaa:Cal P w K mg base "_law_draw" 1 Zc6)(Yax:Cal P w K mg base "_law_drawn" 4 (Zib Zue))(Ya4:Cal P w K mg base "_law_sizes" 2 Zne)(Ybw:Cal P w K mg base "_law_tables" 5 spTbV)(Ybe:Cal P w K mg base "_law_change" 4 Zk3)(Yau:Cal P w K mg base "_law_lent" 1 Zos)(Yam:CalI P w K mg base "Standing" S 11 (spSI S C G))(Yac:CalI P w K mg base "Ground" G 3 (Znk G))(Ybz:CalI P w K mg base "Drawing" C 4 (Zrh C))(Ybo:Cal P w K mg base "changed" 13 (spChg S C G PL))(Yaw:Cal P w K mg base "_law_leads" 5 (spLd S)):FnOk P w K mg base CX0 14 f fd ["_law_script"] (Zus K PL):=by
 have nd:=Zw0.nd;refine F.ok Zw0 (λvs H Q E h=>?_) (λcdv A outer s H vs Q E hr h=>?_)
 .refine Zbh h λa ns e910 _=>?_;clear h;obtain rfl:=e910;rfl
 .refine Zg9 h λa ns e911 hS hl hPL q=>?_;clear h;obtain rfl:=e911;refine⟨_,((Zb2 Ja1 rfl (Zej rfl T.n_range ((Zbi<|>(Zba (Zjx rfl) rfl T.n_min boot_min ((Zba Zas rfl T.n_len Jbf ((pv 0)<&>Zaa))<&>(Zac<&>Zaa)))<&&>Zac)<&>Zaa)) (1>>>nd) ((2|||nd|||(Ya2<$>hr<$>((Ybu<$>hr<$>((pvr 0)<&>((pvr 1)<&>Zaa)))<&>Zaa)))<*>((3|||nd|||(Zaw<|>(@Zbo _ _ _ _ (Zac<&>(Zac<&>(Zac<&>(Zac<&>(Zac<&>Zaa))))))<||>(Yaa<$>hr<$>((pvr 2)<&>(Zac<&>Zaa)))))<*>((Zbr (Yax<$>hr<$>((pvr 2)<&>((Yaa<$>hr<$>((pvr 2)<&>(Zac<&>Zaa)))<&>Zaa))) (@Zbw _ _ _ _ _ 2 rfl ((4>>>nd)^^^((5>>>nd)^^^(@Zaz _))) ⇑1 ⇑1))<*>((6|||nd|||(Ya4<$>hr<$>((pvr 2)<&>((pvr 4)<&>((Zaw<|>(Zaw<|>(@Zbo _ _ _ _ ((@Zbo _ _ _ _ (Zac<&>(Zac<&>Zaa)))<&>((@Zbo _ _ _ _ (Zac<&>(Zac<&>Zaa)))<&>Zaa)))<||>(Zid Zjy rfl T.n_int boot_int ((Zdf Zfg (Zba Zas rfl T.n_len Jbf ((pvr 5)<&>Zaa)) Zac (Zam _))<&>Zaa)))<||>(Zid Zjy rfl T.n_int boot_int ((Zdf (Znu Zfg) (pvr 3) Zac (Zam _))<&>Zaa)))<&>Zaa)))))<*>((7|||nd|||(Ybw<$>hr<$>((pvr 2)<&>((pvr 3)<&>((pvr 5)<&>((pvr 6)<&>Zaa))))))<*>((8|||nd|||(@Zbo _ _ _ _ Zaa))<*>((Zb2 Ja1 rfl (Za6 (pv 6)) (9>>>nd) (@Zan _ _ _ (Zb1 (Zey Jaz Ja6 Ja7 (mtJ Zbd) (pvr 8) ((Ybe<$>hr<$>((pvr 2)<&>((pvr 3)<&>((pvr 9)<&>Zaa))))<&>Zaa)))))<*>((10|||nd|||(pe_n Yam hr.m rfl ((pe_n Yac hr.m rfl ((pvr 3)<&>Zaa))<&>((pe_n Ybz hr.m rfl ((pvr 4)<&>((Zid Zcl rfl T.n_list Jc6 ((pvr 5)<&>Zaa))<&>Zaa)))<&>((Zid Zcl rfl T.n_list Jc6 ((pvr 6)<&>Zaa))<&>((Yau<$>hr<$>((pvr 7)<&>Zaa))<&>Zaa))))))<*>((11|||nd|||(Yau<$>hr<$>((pvr 8)<&>Zaa)))<*>((12|||nd|||(Ybo<$>hr<$>((pvr 10)<&>((pvr 11)<&>Zaa))))<*>((@Za3 _ _ _ _ _ _ _ _ (PW.pt (Zdd (Zal (Zme (Zns hr)) (pvr 11) (pvr 8) (Zam _)) (Zdd (Zal (Zme (Zns hr)) (Zbs (pvr 10) rfl) (pvr 7) (Zam _)) (Zdd (Zal (Zme (Zns hr)) (Zbs (pvr 10) rfl) (pvr 6) (Zam _)) (Zcz (Zal (Zme (Zns hr)) (Zbs (pvr 12) rfl) (pvr 6) (Zam _))))))) (~~~Zek) Zao)<*>((Zb2 Ja1 rfl (Za6 (pv 11)) (13>>>nd) (@Zan _ _ _ (Zb2 Ja1 rfl (Za6 (Zbc<|>(pv 13)<||>Zac)) (14>>>nd) (@Zan _ _ _ (Zb1 (Zo5 Jaz PySem.F.slot_list_clear PySem.F.type_list_clear Zvr (pvr 14)))))))<*>((@Za3 _ _ _ _ _ _ _ _ (PW.pt (Zdd (Zal Zel (Zff (Zbs (pvr 12) rfl) rfl) (pvr 3) (Zam _)) (Zdd (Zal Zel (Zff (Zbs (pvr 12) rfl) rfl) (pvr 4) (Zam _)) (Zcz (Zal (Zme (Zns hr)) (Zff (Zbs (pvr 12) rfl) rfl) (pvr 5) (Zam _)))))) (~~~Zek) Zao)<*>(@Zan _ _ _ (@Za3 _ _ _ _ _ _ _ _ (PW.pt (Zdd (Zal Zel (Zba Zas rfl T.n_len Jbf ((Zbs (pvr 12) rfl)<&>Zaa)) (Zba Zas rfl T.n_len Jbf ((pvr 5)<&>Zaa)) (Zam _)) (Zcz (Zb7 (Zcb (Yaw<$>hr<$>((pvr 3)<&>((pvr 5)<&>((pvr 7)<&>((pvr 8)<&>((pvr 12)<&>Zaa))))))))))) (~~~Zek) Zao))))))))))))))))<*>(~~~Zek)),?_⟩;refine Zgl λXX hXX=>?_;refine cutF λY hY=>?_;refine⟨_,rfl,a,_,rfl,.inl hS,_,_,rfl,_,_,rfl,rfl,_,rfl,?_,?_,Zbt (λi σ H2=>∃ v1 v2 v3 v4 v5 v6 v7 v8 v9 v10 v11 v12 v13 v14:Option V,σ=[some (.ref a),v1,v2,v3,v4,v5,v6,v7,v8,v9,v10,v11,v12,v13,v14]/\Same H H2) ⟨none,none,none,none,none,none,none,none,none,none,none,none,none,none,rfl,Same.refl H⟩ ?_ ?_⟩
  .split <;> omega
  .split <;> omega
  .intro i σ H2 hi e91;refine Zol e91 λv1 v2 v3 v4 v5 v6 v7 v8 v9 v10 v11 v12 v13 v14 e912 s2=>?_;clear e91;obtain rfl:=e912;refine Zqn λD2 hD2=>?_;simp only[Zbq,List.set_cons_zero,List.set_cons_succ];subst hY;refine cut3 λX hX=>?_;walk_at "wp";refine Zcm a ns (0+i) ⟨rfl,s2.seq hS,hl,∅,λc=>⟨c,rfl,λl xa xb hl0 xb0 xb1=>?_⟩⟩;have b3:Bag (upd H2 l (Zoh xa xb)) l:=Bag.set xb0 xb1;have s3:Same H (upd H2 l (Zoh xa xb)):=s2.trans (Same.new hl0);have fl:H l=none:=s2.free hl0;generalize upd H2 l (Zoh xa xb)=H3 at *;refine⟨⇑0,λp1 hp1=>?_⟩;have np1:p1≠l:=b3.ne hp1;have s3':=s3.trans (Same.new (o:=.lst [V.int 0,V.int 2,V.int 3,V.int 5,V.int 97]) hp1);refine (b3.new np1).draw (n:=5) ⇑0 ⇑0 λr5 H4 r50 r51 e4 b4=>?_;refine Zad (Zr3 (L:=[0,2,3,5,97]) ⇑0 r50 r51) λp hat hp=>?_;have s4:Same H H4:=Same.thru s3' fl e4;refine Zat _ r5 ⟨rfl,SqL.of (e4 _ _ np1 Zab),_,hat,?_⟩;clear s3' e4 hp1 hat;refine b4.draw ⇑0 ⇑0 λwy H5 w0 w1 e5 b5=>⟨l,_,rfl,⟨wy,rfl⟩,b5,λpt e m xs H6 O=>⟨pt,rfl,_,SqT.of O.tup,rfl,_,_,rfl,_,_,rfl,rfl,?_⟩⟩
   have s6:Same H H6:=Same.thru (Same.thru s4 fl e5) fl O.ext;have b6:=O.bag;have m0:=O.lo;have m8:=O.hi;have x9:=O.len;have nel:e≠l:=b5.ne O.new;have he:=O.lst;refine Zad (Zrx O.ed) λps pr ip=>?_;have pl:=pr.1;clear O s4 e5 b5 b4 b3 s3;subst hX;refine Zgl λX hX=>?_;walk_at "wp";refine⟨⇑0,λq1 hq1=>⟨⇑0,λq2 hq2=>⟨⇑0,λq3 hq3=>?_⟩⟩⟩;have s61:=Same.new (o:=.lst [V.int 4,V.int 6]) hq1;have s62:=Same.new (o:=.lst [V.int 3,V.int 4]) hq2;have s63:=Same.new (o:=.lst [V.ref q1,V.ref q2]) hq3;have f1:=s63 _ _ (s62 _ _ (Zab (H:=H6) (a:=q1) (o:=.lst [V.int 4,V.int 6])));have f2:=s63 _ _ (Zab (H:=upd H6 q1 (.lst [V.int 4,V.int 6])) (a:=q2) (o:=.lst [V.int 3,V.int 4]));have f3:=Zab (H:=upd (upd H6 q1 (.lst [V.int 4,V.int 6])) q2 (.lst [V.int 3,V.int 4])) (a:=q3) (o:=.lst [V.ref q1,V.ref q2]);have s7:=(s61.trans s62).trans s63;generalize upd (upd (upd H6 q1 (.lst [V.int 4,V.int 6])) q2 (.lst [V.int 3,V.int 4])) q3 (.lst [V.ref q1,V.ref q2])=H7 at *;have pick:∃ (q4:Addr) (ys:List V) (mo:Int),atI [V.ref q1,V.ref q2] (if decide ((4:Int)<(xs.length:Nat))=true then 1 else 0)=some (.ref q4)/\H7 q4=some (.lst ys)/\atI ys (if decide (0<p)=true then 1 else 0)=some (.int mo)/\0<=mo/\mo<=6/\(p=0->mo<=4):=by
    by_cases c1:(4:Int)<(xs.length:Nat)
    .rw [if_pos (Jao c1)];by_cases c2:0<p
     .rw [if_pos (Jao c2)];exact⟨q2,_,4,rfl,f2,rfl,⇑0,⇑0,λ_=>⇑0⟩
     .rw [if_neg (λz=>c2 (Ja5 z))];exact⟨q2,_,3,rfl,f2,rfl,⇑0,⇑0,λ_=>⇑0⟩
    .rw [if_neg (λz=>c1 (Ja5 z))];by_cases c2:0<p
     .rw [if_pos (Jao c2)];exact⟨q1,_,6,rfl,f1,rfl,⇑0,⇑0,λz=>∅⟩
     .rw [if_neg (λz=>c2 (Ja5 z))];exact⟨q1,_,4,rfl,f1,rfl,⇑0,⇑0,λ_=>⇑0⟩
   refine Zbu pick λq4 ys4 mo g1 g2 g3 e913=>?_;clear pick;refine Za2 e913 λmo0 mo6 mo4=>?_;clear e913;have b7:=b6.same s7;refine⟨_,.inl (SqL.of (s7 _ _ he)),_,SqL.of f3,_,g1,q4,rfl,_,SqL.of g2,_,g3,l,m,mo,rfl,b7,m0,m8,mo0,∅,λz zs H8 e8 b8 fz hz hm hs=>?_⟩;have s08:Same H H8:=Same.thru (s6.trans s7) fl e8;have he8:=e8 _ _ nel (s7 _ _ he);have pr8:=(pr.same s7).bag b7 e8;have nzl:z≠l:=b7.ne fz;have z6:∀ n∈zs,0<=n/\n<=6/\(p=0->n<=4):=λn hn=>by
    obtain⟨i,hi,rfl⟩:=Jan.mp hn;have z0:=hz.2.2 _ hn;have h1:zs[i]<=zs.sum:=Zw9 (λn hn=>(hz.2.2 n hn).1) (Jap hi);exact⟨z0.1,∅,λh=>by have:=mo4 h;omega⟩
   clear f1 f2 f3 g1 g2 g3 s61 s62 s63 hq1 hq2 hq3 s7 e8 b6 b7 he pr fz;subst hX;refine Zgl λX hX=>?_;walk_at "wp";refine xI8_1 l e z p m xs ps zs ⟨rfl,b8,hp,he8,pr8,ip,oz28 x9 pl,hz,hm,nel,nzl,λtl ts Ms H9 e9 b9 ftl htl tlen tbs=>?_⟩;have s09:Same H H9:=Same.thru s08 fl e9;have he9:=e9 _ _ nel he8;have pr9:=pr8.bag b8 e9;have hz9:Sizes H9 z zs:=⟨e9 _ _ nzl hz.1,hz.2⟩
   have tb9:TbL H9 p 14 tl ts ps zs Ms:=⟨htl,tlen,λi t q f1 f2=>let ⟨r,rs,tb,_⟩:=tbs i t q f1 f2;⟨r,rs,tb⟩⟩
   have ftl8:tl≠l:=b8.ne ftl;have nw9:∀ (i:Nat) t q,ts[i]?=some t->ps[i]?=some q->∃ r rs,TabB H9 p 14 (nz zs q.2) (nz zs q.1) t r rs (Ms.getD i [])/\New H8 t r rs:=tbs;subst hX;refine Zgl λX hX=>?_;walk_at "wp";refine⟨⇑0,λD hD=>?_⟩;subst hX;refine Zgl λX hX=>?_;refine cutF λY hY=>?_;have nDl:D≠l:=b9.ne hD;have fre:∀ {H3:Hp},Ext l H9 H3->Bag H3 l->∀ a,H3 a=none->H9 a=none:=λe b a h=>e.free (b.ne h) h;refine⟨_,rfl,z,rfl,⟨_,SqL.of (Same.new hD _ _ hz9.1)⟩,Zdt (xs:=zs.map V.int) (λj σ H3=>∃ (v9:Option V) (cts:List Addr) (Cs:List Mv),σ=[some (V.ref a),some (V.int (0 + ↑i)),some (V.ref l),some (V.int p),some (V.int m),some (V.ref e),some (V.ref z),some (V.ref tl),some (V.ref D),v9,v10,v11,v12,v13,v14]/\Ext l H9 H3/\Bag H3 l/\H3 D=some (.lst (cts.map V.ref))/\cts.length=j/\Cs.length=j /\
    (∀ (i:Nat) t n,cts[i]?=some t->zs[i]?=some n->∃ r rs,H3 t=some (.tup [.int n,.int n,.ref r])/\Chg H9 H3 p n.toNat (2*n.toNat) r rs (Cs.getD i [])/\New H9 t r rs/\r≠D/\D∉rs))
    ⟨v9,[],[],rfl,Ext.new hD,b9.new nDl,Zab,rfl,rfl,λi t n e=>by simp at e⟩ (λj σ H3 _ ⟨_,_,_,_,e3,_⟩=>SqL.of (e3 _ _ nzl hz9.1)) ?_ ?_⟩
   .intro j v σ H3 hv e92;refine Zbu e92 λv9 cts Cs e914 e3 b3 e915=>?_;clear e92;obtain rfl:=e914;refine Zb0 e915 λeD3 cl Cl hc=>?_;clear e915;refine Zad (Zc2 hv) λn hn e916=>?_;obtain rfl:=e916;have n0:=hz9.2.2 n (Jae hn);refine Zqn λD3 hD3=>?_;simp only[Zbq,List.set_cons_zero,List.set_cons_succ];subst hY;walk_at "wp";refine⟨.inl ⟨rfl,_,SqL.of eD3⟩,l,p,n,rfl,b3,hp,n0.1,n0.2,λt r rs M H4 e4 b4 nw ht ch=>?_⟩;have eD4:=e4 _ _ nDl eD3;have nr:r≠D:=λz=>by have:=nw.r;rw[z,eD3] at this;cases this
    have nrs:D∉rs:=λz=>by have:=nw.rs D z;rw[eD3] at this;cases this
    have ntD:t≠D:=λz=>by have:=nw.t;rw[z,eD3] at this;cases this
    have zl8:=hz9.2.1;have jl:=(Jaf.mp hn).1;subst hD3;refine⟨_,eD4,Zap (by rw[Jab];omega),_,cts++[t],Cs++[M],rfl,(e3.trans e4).upd hD,b4.new nDl,by rw[Zab,Za5],by rw[Jah,cl];rfl,by rw[Jah,Cl];rfl,λk t' n' g1 g2=>?_⟩;by_cases hk:k<cts.length
    .rw [Jay hk] at g1;refine Zg9 (hc k t' n' g1 g2) λr' rs' h1 h2 h3 h4 h5=>?_;have nt':t'≠D:=λz=>by rw[z,eD3] at h1;cases h1
     refine Zat r' rs' ⟨?_,?_,h3,h4,h5⟩
     .rw [Zag nt'];exact e4 _ _ (b9.ne h3.t) h1
     .rw [Zci,if_pos (oz31 cl Cl hk)];exact (h2.ext b9 b3 e4 (b9.ne h3.r)).at_put eD4 h4 h5
    .have hk0:k=cts.length:=by
      have:=(Jaf.mp g1).1;rw[Jah] at this;have:k<cts.length+1:=this;exact oz5 hk this
     subst hk0;rw[Jav (Jai _),Je7] at g1;cases g1;rw[cl,hn] at g2;cases g2;refine Zat r rs ⟨by rw[Zag ntD];exact ht,?_,⟨fre e3 b3 _ nw.t,fre e3 b3 _ nw.r,λa ha=>fre e3 b3 _ (nw.rs a ha)⟩,nr,nrs⟩;rw[Zci,if_neg (oz79 cl Cl),if_pos (oz25 cl Cl)];exact (ch.weak (fre e3 b3)).at_put eD4 nr nrs
   .intro σ H10 e93;refine Zbu e93 λv9 cts Cs e917 e10 b10 e918=>?_;clear e93;obtain rfl:=e917;refine Zb0 e918 λeD cl Cl hc=>?_;clear e918;rw[Jab] at cl Cl;have s010:Same H H10:=Same.thru s09 fl e10;have he10:=e10 _ _ nel he9;have pr10:=pr9.bag b9 e10;have hz10:Sizes H10 z zs:=⟨e10 _ _ nzl hz9.1,hz9.2⟩
    have ftl9:tl≠l:=ftl8;have tb10:TbL H10 p 14 tl ts ps zs Ms:=⟨e10 _ _ ftl9 htl,tlen,λi t q f1 f2=>let ⟨r,rs,tb,nw⟩:=nw9 i t q f1 f2;⟨r,rs,tb.ext b8 nw b9 e10⟩⟩
    have c10:ChL H10 p 43 D cts zs Cs:=⟨eD,oz74 cl,λi t n f1 f2=>by
     refine Zbm (hc i t n f1 f2) λr rs h1 h2 _=>?_;have n6:=z6 n (Jae f2);refine⟨r,rs,h2.tabB hp ?_ ∅⟩;rw[Jbt n6.1];exact h1⟩
    have iv10:∀ (i:Nat) n,zs[i]?=some n->Zpw p n.toNat (Cs.getD i []):=λi n f2=>by
     obtain⟨r,rs,_,h2,_⟩:=hc i _ n (Jaa (show i<cts.length by have:=(Jaf.mp f2).1;exact Zc4 cl this)) f2;exact h2.iv
    clear hc tb9 nw9 tbs e10 e9 b9 b8 he9 he8 pr9 pr8 hz9 hz s09 s08 hD fre htl ftl;have key:X D2 [some (V.ref a),some (V.int (0 + ↑i)),some (V.ref l),some (V.int p),some (V.int m),some (V.ref e),some (V.ref z),some (V.ref tl),some (V.ref D),v9,v10,v11,v12,v13,v14] H10:=by
     subst hX;refine Zgl λX hX=>?_;walk_at "wp";intro g dg hg hdg ndg;have fg:(upd H10 dg (.own g)) g=none:=by rw[Zag ndg.symm];exact hg
     have sg:Same H10 (upd (upd H10 dg (.own g)) g (.ins G dg [])):=(Same.new hdg).trans (Same.new fg);refine Zcm g dg p ⟨rfl,Zab,hp,λH11 ex1 hg1=>⟨rfl,?_⟩⟩;have s1:Same H10 H11:=Same.thru sg hg ex1;refine⟨_,.inl (SqL.of (s1 _ _ he10)),λe1 hle1 d dd hd hdd ndd=>?_⟩;have s2':=Same.new (o:=.lst xs) hle1;have q2:(upd H11 e1 (.lst xs)) e1=some (.lst xs):=Zab;generalize upd H11 e1 (.lst xs)=H12 at *;have fd0:(upd H12 dd (.own d)) d=none:=by rw[Zag ndd.symm];exact hd
     have sd:Same H12 (upd (upd H12 dd (.own d)) d (.ins C dd [])):=(Same.new hdd).trans (Same.new fd0);refine Zir d dd m e1 xs ⟨rfl,Zab,m0,m8,sd _ _ q2,∅,(Zwf (pr10.same (s1.trans s2')) ip).same sd,λlp H13 ex3 hd3 flp hlp=>⟨rfl,?_⟩⟩;have s3:Same H12 H13:=Same.thru sd hd ex3;have t3:=(s1.trans s2').trans s3;refine⟨_,.inl (SqL.of (t3 _ _ hz10.1)),λz1 hz1=>?_⟩;have s4:=Same.new (o:=.lst (zs.map V.int)) hz1;have q4:(upd H13 z1 (.lst (zs.map V.int))) z1=some (.lst (zs.map V.int)):=Zab;generalize upd H13 z1 (.lst (zs.map V.int))=H14 at *;have t4:=t3.trans s4;have n24:∀ i,nz zs i<=24:=λi=>(Znw hz10 i).1;have pm:∀ {i:Nat} {d:Nat×Nat},(ps.map λq=>(nz zs q.2,nz zs q.1))[i]?=some d->∃ q,ps[i]?=some q/\d=(nz zs q.2,nz zs q.1):=λ{i d} h=>by
      rw[Jad] at h;cases e:ps[i]? with
      | none=>rw[e] at h;cases h
      | some q=>rw[e] at h;cases h;exact⟨q,rfl,rfl⟩
     refine lentv (p:=p) (ds:=ps.map λq=>(nz zs q.2,nz zs q.1)) (k:=14) (ts:=ts) (Ms:=Ms) (t4 _ _ tb10.1) ∅ (by rw[Jab];exact tlen) ⇑0 (λi t d' f1 f2=>?_) λl1 ts1 H15 s5 fl1 hl1 hn1 ht1 _ x dx hx hdx ndx=>?_
     .refine Zad (pm f2) λq eq e919=>?_;obtain rfl:=e919;refine Zdl (tb10.2.2 i t q f1 eq) λr rs tb=>?_;exact⟨n24 _,n24 _,r,rs,tb.same t4⟩
     rw[Jab] at hn1;have t5:=t4.trans s5;have d5:Zh9 C H15 d m lp xs:=⟨dd,(s4.trans s5) _ _ hd3,(s4.trans s5) _ _ hlp⟩
     have g5:GAt G H15 g p:=⟨dg,((s2'.trans s3).trans (s4.trans s5)) _ _ hg1⟩
     have z5:Sizes H15 z1 zs:=⟨s5 _ _ q4,hz10.2⟩
     have T5:TbL H15 p 14 l1 ts1 ps zs Ms:=⟨hl1,hn1,λi t q f1 f2=>let ⟨r,rs,tb,_⟩:=ht1 i t (nz zs q.2,nz zs q.1) f1 (by rw[Jad,f2];rfl);⟨r,rs,tb⟩⟩
     refine Zq8 hx hdx ndx g5 hp d5 (pr10.same t5) ip (oz28 x9 pl) z5 hm T5 ⇑0 λdy z' l' ts' H16 s6' sb=>⟨rfl,?_⟩
     have t6:=t5.trans s6';clear g5 z5 T5 ht1 hl1 hn1 fl1 s5 s4 q4 t4 t3 s3 hlp flp hd3 ex3 sd fd0 q2 s2' s1 hg1 ex1 sg fg d5 hz1 hle1 hdg hg hdd hd ndd ndg hx hdx ndx s6' t5;have c16:=c10.same t6;subst hX;refine Zgl λX hX=>?_;walk_at "wp";have pz:∀ {i:Nat} {d:Nat×Nat},(zs.map λn=>(n.toNat,n.toNat))[i]?=some d->∃ n,zs[i]?=some n/\d=(n.toNat,n.toNat):=λ{i d} h=>by
      rw[Jad] at h;cases e:zs[i]? with
      | none=>rw[e] at h;cases h
      | some q=>rw[e] at h;cases h;exact⟨q,rfl,rfl⟩
     have z8:=hz10.2.1;have cl2:=c16.2.1;refine lentv (p:=p) (ds:=zs.map λn=>(n.toNat,n.toNat)) (k:=43) (ts:=cts) (Ms:=Cs) c16.1 ∅ (by rw[Jab];exact cl2) ⇑0 (λi t d' f1 f2=>?_) λln lts H17 s7 fln hln hnn htn sep=>?_
     .refine Zad (pz f2) λn en e920=>?_;obtain rfl:=e920;have n6:=z6 n (Jae en);refine Zdl (c16.2.2 i t n f1 en) λr rs tb=>?_;exact⟨by show n.toNat<=24;exact oz84 n6,by show n.toNat<=24;exact oz84 n6,r,rs,tb⟩
     rw[Jab] at hnn;have cL:ChL H17 p 43 ln lts zs Cs:=⟨hln,hnn,λi t n f1 f2=>let ⟨r,rs,tb,_⟩:=htn i t (n.toNat,n.toNat) f1 (by rw[Jad,f2];rfl);⟨r,rs,tb⟩⟩
     have nwL:∀ (i:Nat) t n,lts[i]?=some t->zs[i]?=some n->∃ r rs,TabB H17 p 43 n.toNat n.toNat t r rs (Cs.getD i [])/\New H16 t r rs:=λi t n f1 f2=>htn i t (n.toNat,n.toNat) f1 (by rw[Jad,f2];rfl);have t7:=t6.trans s7;subst hX;refine Zgl λX hX=>?_;walk_at "wp";have lm:=lim28 hp (λn hn=>⟨(z6 n hn).1,(z6 n hn).2.1⟩) (λh n hn=>(z6 n hn).2.2 h);refine⟨H15,x,ln,dy,g,d,z',l',lp,p,m,6,43,14,99328,397,598405,xs,ps,zs,ts',lts,Ms,Cs,rfl,sb.same s7,hp,ip,oz28 x9 pl,cL,lm,iv10,(s010.trans t7) _ _ hPL,λx' dx' z'' l'' ts'' Bs H18 H19 s8 s9 bm sm=>?_⟩;have t79:=s8.trans s9;have t9:=t7.trans t79;have sb9:=(sb.same s7).same t79;have cL9:=cL.same t79;have c19:=c16.same (s7.trans t79);have tb19:=tb10.same t9;have he19:=t9 _ _ he10;have hz19:=hz10.same t9;have pr19:=pr10.same t9;have key2:X D2 [some (V.ref a),some (V.int (0 + ↑i)),some (V.ref l),some (V.int p),some (V.int m),some (V.ref e),some (V.ref z),some (V.ref tl),some (V.ref D),v9,some (V.ref x),some (V.ref ln),some (V.ref x'),v13,v14] H19:=by
      subst hX;refine Zgl λX hX=>?_;refine cutI λY hY=>?_;walk_at "wp";have l1:=cL9.2.1;have l2:=c19.2.1;have l3:=tb19.2.1;have l4:=sb9.len;have I1:=Zkc (K:=K) (H:=H19) (p:=p) (ts:=lts) (ts':=cts) (oz19 cl hnn) λi t t' f1 f2=>by
       have hn:zs[i]?=some (zs[i]'(by have:=(Jaf.mp f1).1;exact oz9 hnn this)):=Jaa _;refine Zdl (cL9.2.2 i t _ f1 hn) λr rs tb=>?_;refine Zdl (c19.2.2 i t' _ f2 hn) λr' rs' tb'=>?_;exact Zpx _ _ r r' rs rs' _ ⟨tb.tv,tb'.tv⟩
      have I2:=Zkc (K:=K) (H:=H19) (p:=p) (ts:=ts') (ts':=ts) (oz19 tlen l4) λi t t' f1 f2=>by
       have hq:ps[i]?=some (ps[i]'(by have:=(Jaf.mp f1).1;exact oz9 l4 this)):=Jaa _;refine Zbh (sb9.tbs i t _ f1 hq) λr rs tb _=>?_;refine Zdl (tb19.2.2 i t' _ f2 hq) λr' rs' tb'=>?_;exact Zpx _ _ r r' rs rs' _ ⟨tb.tv,tb'.tv⟩
      refine⟨_,SqL.of cL9.1,_,SqL.of c19.1,.inr ⟨_,I1,Zgm (Zl8 _) ⟨S,dy,_,sb9.sa.ins,T.cl_Standing,T.nSt,_,Zgr ..,l',rfl,_,SqL.of sb9.lst,_,SqL.of tb19.1,.inr ⟨_,I2,Zgm (Zl8 _) ⟨S,dy,_,sb9.sa.ins,T.cl_Standing,T.nSs,_,Zij ..,z',rfl,_,SqL.of sb9.sa.szs.1,_,SqL.of hz19.1,.inr ⟨_,Zkw zs,Zgm (Zl8 _) ⟨S,dx',_,sm.sa.ins,T.cl_Standing,T.nSs,_,Zij ..,z'',rfl,_,SqL.of sm.sa.szs.1,_,SqL.of hz19.1,.inr ⟨_,Zkw zs,Zgm (Zl8 _) ?_⟩⟩⟩⟩⟩⟩⟩⟩;have key3:X D2 [some (V.ref a),some (V.int (0 + ↑i)),some (V.ref l),some (V.int p),some (V.int m),some (V.ref e),some (V.ref z),some (V.ref tl),some (V.ref D),v9,some (V.ref x),some (V.ref ln),some (V.ref x'),v13,v14] H19:=by
       subst hX;refine Zgl λX hX=>?_;refine cutF λY hY=>?_;refine Zav sep λrr rl hrr sep1=>?_;clear sep;refine Za2 sep1 λsepA sepB _=>?_;clear sep1;have hU0:∃ U:Addr->Prop,U=λb=>∃ y∈rr,b∈y.2:=⟨_,rfl⟩
       obtain⟨U,hU⟩:=hU0;have uIn:∀ {y:Addr×List Addr} {b:Addr},y∈rr->b∈y.2->U b:=λh1 h2=>by rw[hU];exact⟨_,h1,h2⟩
       have uN:∀ b,U b->H16 b=none/\∃ ys,H17 b=some (.lst ys):=λb u=>by
        rw[hU] at u;refine Zad u λy hy hb'=>?_;clear u;obtain⟨j,hj,rfl⟩:=Jan.mp hy;have f1:lts[j]?=some (lts[j]'(oz9 rl hj)):=Jaa _;have f2:zs[j]?=some (zs[j]'(oz24 hnn rl hj)):=Jaa _;refine Zbh (nwL j _ _ f1 f2) λr rs tb nw=>?_;obtain⟨⟨h,w',h1⟩,h2⟩:=hrr j _ _ f1 (Jaa hj);rw[tb.tv.tup] at h1;cases h1;have h3:=h2;rw[tb.tv.lst] at h3;have h4:rs=rr[j].2:=Znz (by injection h3 with h3;injection h3);rw[<- h4] at hb';refine⟨nw.rs b hb',?_⟩;obtain⟨q',hq',rfl⟩:=Jan.mp hb';refine Zad (tb.tv.row.at' (Jaa hq')) λ_ _ e921=>?_;obtain⟨vs,hv,_⟩:=e921;exact⟨vs,hv⟩
       have uL:¬ U ln:=λu=>by
        rw[hU] at u;refine Zad u λy hy hb'=>?_;clear u;exact (sepA y hy).2 hb'
       have uR:∀ x∈rr,¬ U x.1:=λx hx u=>by
        rw[hU] at u;refine Zad u λy hy hb'=>?_;clear u;exact sepB x hx y hy hb'
       have u19:∀ b,U b->∃ ys,H19 b=some (.lst ys):=λb u=>let ⟨ys,hy⟩:=(uN b u).2;⟨ys,t79 _ _ hy⟩;refine⟨_,rfl,ln,rfl,⟨_,SqL.of cL9.1⟩,Zdt (xs:=lts.map V.ref) (λj σ H3=>∃ v13 v14:Option V,σ=[some (V.ref a),some (V.int (0 + ↑i)),some (V.ref l),some (V.int p),some (V.int m),some (V.ref e),some (V.ref z),some (V.ref tl),some (V.ref D),v9,some (V.ref x),some (V.ref ln),some (V.ref x'),v13,v14]/\(∀ b o,¬ U b->H19 b=some o->H3 b=some o)/\∀ b,U b->∃ ys,H3 b=some (.lst ys)) ⟨v13,v14,rfl,λ_ _ _ h=>h,u19⟩ (λj σ H3 _ ⟨_,_,_,k,_⟩=>SqL.of (k _ _ uL cL9.1)) ?_ ?_⟩
       .intro j v σ H3 hv e94;refine Zbm e94 λv13 v14 e922 k3 u3=>?_;clear e94;obtain rfl:=e922;rw[Jad] at hv;cases f1:lts[j]? with
        | none=>rw[f1] at hv;cases hv
        | some t=>
         rw[f1] at hv;cases hv;have jl:=(Jaf.mp f1).1;have f2:rr[j]?=some (rr[j]'(Zc4 rl jl)):=Jaa _;have hmr:=Jae f2;obtain⟨⟨h,w',h1⟩,h2⟩:=hrr j _ _ f1 f2;generalize rr[j]'(Zc4 rl jl)=y at *;have ht3:H3 t=some (.tup [h,w',.ref y.1]):=k3 _ _ (λu=>by obtain⟨ys,hy⟩:=(uN t u).2;rw[h1] at hy;cases hy) (t79 _ _ h1);have hy3:=k3 _ _ (uR y hmr) (t79 _ _ h2);refine Zqn λD3 hD3=>?_;simp only[Zbq,List.set_cons_zero,List.set_cons_succ];subst hY;refine⟨_,rfl,t,_,_,_,rfl,rfl,SqT.of ht3,rfl,y.1,rfl,⟨_,SqL.of hy3⟩,Zdt (xs:=y.2.map V.ref) (λj σ H4=>∃ v14:Option V,σ=[some (V.ref a),some (V.int (0 + ↑i)),some (V.ref l),some (V.int p),some (V.int m),some (V.ref e),some (V.ref z),some (V.ref tl),some (V.ref D),v9,some (V.ref x),some (V.ref ln),some (V.ref x'),some (V.ref t),v14]/\(∀ b o,¬ U b->H19 b=some o->H4 b=some o)/\∀ b,U b->∃ ys,H4 b=some (.lst ys)) ⟨v14,rfl,k3,u3⟩ (λj σ H4 _ ⟨_,_,k,_⟩=>SqL.of (k _ _ (uR y hmr) (t79 _ _ h2))) ?_ ?_⟩
         .intro j' v σ H4 hv e95;refine Zav e95 λv14 e923 k4 u4=>?_;clear e95;obtain rfl:=e923;rw[Jad] at hv;cases f3:y.2[j']? with
          | none=>rw[f3] at hv;cases hv
          | some b=>
           rw[f3] at hv;cases hv;have ub:U b:=uIn hmr (Jae f3);obtain⟨ys,hys⟩:=u4 b ub;simp only[Zbq,List.set_cons_zero,List.set_cons_succ];walk_at "wp";refine⟨.inl ⟨rfl,_,SqL.of hys⟩,b,ys,rfl,rfl,hys,λc o nc hc=>?_,λc uc=>?_⟩
           .rw [Zag (show c≠b from λz=>nc (by rw[z];exact ub))];exact k4 c o nc hc
           .by_cases e:c=b
            .subst e;exact⟨[],Zab⟩
            .obtain ⟨ys',h'⟩:=u4 c uc;exact⟨ys',by rw[Zag e];exact h'⟩
         .intro σ H4 e96;refine Zav e96 λv14 e924 k4 u4=>?_;clear e96;obtain rfl:=e924;subst hD3;exact Zat _ _ ⟨rfl,k4,u4⟩
       .intro σ H20 e97;refine Zbm e97 λv13 v14 e925 k20 u20=>?_;clear e97;obtain rfl:=e925;have S20:Same H16 H20:=λb o h=>k20 b o (λu=>by have:=(uN b u).1;rw[h] at this;cases this) ((s7.trans t79) _ _ h);have T20:=t6.trans S20;have sb20:=sb.same S20;have c20:=c16.same S20;have tb20:=tb10.same T20;have he20:=T20 _ _ he10;have pr20:=pr10.same T20;have hz20:=hz10.same T20;have ins20:H20 x'=some (.ins S dx' (Zgq g d z'' l'')):=k20 _ _ (λu=>by obtain⟨ys,hy⟩:=u19 _ u;rw[sm.sa.ins] at hy;cases hy) sm.sa.ins;have nU18:∀ b,H18 b=none->¬ U b:=λb h u=>by
         obtain⟨ys,hy⟩:=(uN b u).2;have:=s8 _ _ hy;rw[h] at this;cases this
        have tm20:TbL H20 p 598405 l'' ts'' ps zs ((List.range ps.length).map (chM p zs ps Bs Ms Cs)):=⟨k20 _ _ (nU18 _ sm.nl) sm.lst,sm.len,λi t q f1 f2=>by
         refine Zbh (sm.tbs i t q f1 f2) λr rs tb nw=>?_;exact⟨r,rs,tb.keepU u19 k20 (nU18 _ nw.r) λa ha=>nU18 _ (nw.rs a ha)⟩⟩
        have s020:=s010.trans T20;clear k20 u20 u19 uN uR uL uIn nU18 sepA sepB hrr I1 I2;have key4:X D2 [some (V.ref a),some (V.int (0 + ↑i)),some (V.ref l),some (V.int p),some (V.int m),some (V.ref e),some (V.ref z),some (V.ref tl),some (V.ref D),v9,some (V.ref x),some (V.ref ln),some (V.ref x'),v13,v14] H20:=by
         obtain⟨dg',hg'⟩:=sb20.sa.grd;refine Zad sb20.sa.drw λdd' hd' hlp'=>?_;subst hX;refine Zgl λX hX=>?_;refine cutI λY hY=>?_;walk_at "wp";refine⟨S,dx',_,ins20,T.cl_Standing,T.nSg,_,Zgs ..,g,rfl,G,dg',_,hg',T.cl_Ground,T.nP,_,Zck p,rfl,Zgm (by rw[Jao rfl];decide) ⟨S,dx',_,ins20,T.cl_Standing,T.nSd,_,Zd6 ..,d,rfl,C,dd',_,hd',T.cl_Drawing,T.nM,_,Zjw m lp,rfl,Zgm (by rw[Jao rfl];decide) ⟨S,dx',_,ins20,T.cl_Standing,T.nSd,_,Zd6 ..,d,rfl,C,dd',_,hd',T.cl_Drawing,T.nA,_,Zep m lp,lp,rfl,_,SqL.of hlp',_,SqL.of he20,.inr ⟨_,Zim rfl (λj x y e1 e2=>by
          rw[e1] at e2;cases e2;obtain⟨t,rfl,_⟩:=pr20.2 j x _ e1 (Jaa (by have:=(Jaf.mp e1).1;have:=pr20.1;omega));exact EqD.same),Zgm (Zl8 _) ?_⟩⟩⟩⟩
         have key5:X D2 [some (V.ref a),some (V.int (0 + ↑i)),some (V.ref l),some (V.int p),some (V.int m),some (V.ref e),some (V.ref z),some (V.ref tl),some (V.ref D),v9,some (V.ref x),some (V.ref ln),some (V.ref x'),v13,v14] H20:=by
          subst hX;refine cutI λY hY=>?_;walk_at "wp";refine Zcm S dx' _ ⟨ins20,T.cl_Standing,T.nSt,_,Zgr ..,l'',rfl,_,.inl (SqL.of tm20.1),_,.inl (SqL.of he20),Zgm ?_ ⟨e,tl,D,x',dx',g,d,z'',l'',p,m,14,43,598405,xs,ps,zs,ts,cts,ts'',Ms,Cs,_,rfl,hp,he20,pr20,ip,oz28 x9 pl,hm,n24,tb20,c20,ins20,tm20,λi q f=>?_,⇑0,⇑0,⇑0,λH21 s21=>⟨true,rfl,Zgm ⇑0 ?_⟩⟩⟩
          .rw [Jao (by rw[Jab];have:=tm20.2.1;have:=pr20.1;omega)];decide
          .refine Zb0 (ip _ (Jae f)) λi0 i1 j0 j1=>?_;have cl3:=c20.2.1;have hnt:zs[q.1.toNat]?=some (zs.getD q.1.toNat 0):=by rw[Za4 (oz3 m0 hm i1)];exact Jaa _
           have hnh:zs[q.2.toNat]?=some (zs.getD q.2.toNat 0):=by rw[Za4 (oz3 m0 hm j1)];exact Jaa _
           refine Zdl (c20.2.2 _ _ _ (Jaa (show q.1.toNat<cts.length by exact oz4 m0 hm cl i1)) hnt) λ_ _ tT=>?_;refine Zdl (c20.2.2 _ _ _ (Jaa (show q.2.toNat<cts.length by exact oz4 m0 hm cl j1)) hnh) λ_ _ tH=>?_;have hti:i<ts.length:=by have:=(Jaf.mp f).1;exact Zc4 tlen this
           refine Zdl (tb20.2.2 i _ _ (Jaa hti) f) λ_ _ tM=>?_;have bk:=bm _ _ hnh;have mT:Mat p (nz zs q.1) (nz zs q.1) (Cs.getD q.1.toNat []):=⟨tT.hl,tT.hw,λxs hx x hxx=>(tT.gd xs hx x hxx).1⟩
           have mH:Mat p (nz zs q.2) (nz zs q.2) (Cs.getD q.2.toNat []):=⟨tH.hl,tH.hw,λxs hx x hxx=>(tH.gd xs hx x hxx).1⟩
           have mB:Mat p (nz zs q.2) (nz zs q.2) (Bs.getD q.2.toNat []):=⟨bk.hl,bk.hw,λxs hx x hxx=>(bk.gd xs hx x hxx).1⟩
           have mM:Mat p (nz zs q.2) (nz zs q.1) (Ms.getD i []):=⟨tM.hl,tM.hw,λxs hx x hxx=>(tM.gd xs hx x hxx).1⟩
           have e1:((List.range ps.length).map (chM p zs ps Bs Ms Cs)).getD i []=Zb4 p (Bs.getD q.2.toNat []) (Zb4 p (Ms.getD i []) (Cs.getD q.1.toNat []) (nz zs q.1)) (nz zs q.1):=by
            rw[Jac,Jad,Jau (Jaf.mp f).1];show chM p zs ps Bs Ms Cs i=_;unfold chM;rw[Zaj f]
           rw[e1];exact lead_eq hp mH mB (Zfl hp mM mT) bk.mb
          .subst hD2;exact Zok _ _ _ _ _ _ _ _ _ _ _ _ _ _ ⟨rfl,s020.trans s21⟩
         exact key5
        exact key4
      exact key3
     exact key2
    exact key
  .intro σ H2 e98;refine Zol e98 λv1 v2 v3 v4 v5 v6 v7 v8 v9 v10 v11 v12 v13 v14 e926 s2=>?_;clear e98;obtain rfl:=e926;subst hXX;exact q H2 (s2 _ _ hPL)
end
end Pf
namespace Pf
open PySem L2 L3 PyProof.Rows
section
variable {G PL cL:Addr}
theorem ok_lowZ (F:Fun K "_law_low" "_law_low" Ze9 f fd)(T:Txt K mg C G S)(hpt:P.given.tree=none):FnOk P w K mg base CX0 1 f fd ["_law_top","_law_bottom"] spLowZ:=by
 have nd:=Zkl.nd;refine F.ok Zkl (λvs H Q E h=>?_) (λcdv A outer s H vs Q E hr h=>?_)
 .refine Zbh h λa b e92 _=>?_;clear h;obtain rfl:=e92;rfl
 .refine Zbm h λa b e93 hb q=>?_;clear h;obtain rfl:=e93;refine⟨_,((2|||nd|||(Zba Zdv rfl T.n_abs Jfp ((pvr 0)<&>Zaa)))<*>((3|||nd|||(Zba Zdv rfl T.n_abs Jfp ((pvr 1)<&>Zaa)))<*>((Zeh Ja1 (Zd3 Zfg (pv 3) Zac (Zam _)) ((4|||nd|||((opJ Zcq)<|>(pvr 2)<&&>(pvr 3)))<*>((2|||nd|||(pvr 3))<*>(@Zan _ _ _ (3|||nd|||(pvr 4))))))<*>((@Za3 _ _ _ _ _ _ _ _ (Zal (Znu Zj9) (pvr 1) Zac (Zam _)) (@Zan _ _ _ (2|||nd|||(Zu0 Zon (pvr 2)))) Zao)<*>(~~~(@Zar _ _ _ _ _ (((Zcw hpt (Zcg hr))<|>(pvr 0)<&&>(pvr 2))<&>(((Zcw hpt (Zcg hr))<|>(pvr 1)<&&>(pvr 2))<&>Zaa)))))))),?_⟩;walk_at "wp";have ea:(if a<0 then -a else a)=(a.natAbs:Int):=by split <;> omega
  have eb:(if b<0 then -b else b)=(b.natAbs:Int):=by split <;> omega
  rw[ea,eb];refine⟨λn σ H2=>∃ (x y:Int) (v:Option V),σ=[some (.int a),some (.int b),some (.int x),some (.int y),v]/\H2=H/\0<=x/\0<=y/\n=y.toNat/\Int.gcd x y=Int.gcd a b,⟨_,_,_,none,rfl,rfl,oz47,oz47,rfl,by unfold Int.gcd;rfl⟩,?_⟩;intro n σ H2 e91;refine Zbu e91 λx y v e94 e95 hx e96=>?_;clear e91;obtain rfl:=e94;obtain rfl:=e95;refine Za2 e96 λhy e97 hg=>?_;clear e96;obtain rfl:=e97;walk_at "wp";refine Zce (λhc=>?_) (λhc=>?_)
  .have y1:0<y:=Ja5 hc;have l1:=Jbr x (show y≠0 by omega);have l2:=Jbe x y1;refine⟨_,λ_ _ h=>h,?_⟩;walk_at "wp";exact⟨y1,_,∅,y,x % y,_,⟨rfl,rfl,rfl⟩,oz83 y1,l1,rfl,by rw[Zpn];exact hg⟩
  .have hy0:¬ 0<y:=λz=>hc (Jao z);have hy0:y=0:=∅
   subst hy0;have e:x=(Int.gcd a b:Int):=by
    rw[<- hg,Int.gcd_zero];omega
   subst e;have g0:0<Int.gcd a b:=Jcw _ hb;have e:=Zw8 (a:=a) hb;refine Zce (λhc=>?_) (λhc=>?_)
   .have hc:=Ja5 hc;rw[if_pos hc] at e;refine⟨∅,∅,⇑0,λt ht=>?_⟩;have:=q t ht;rw[<- e] at this;exact this
   .have hc:¬ b<0:=λz=>hc (Jao z);rw[if_neg hc] at e;refine⟨∅,∅,⇑0,λt ht=>?_⟩;have:=q t ht;rw[<- e] at this;exact this
theorem nrS_pos {a b:Int}(h:0<b):nrS a b=nrm a b:=by unfold nrS;rw[if_neg ∅]
theorem Zsh (F:Fun K "_law_low" "_law_low" Ze9 f fd)(T:Txt K mg C G S)(hpt:P.given.tree=none):FnOk P w K mg base CX0 1 f fd ["_law_top","_law_bottom"] Zor:=
 (ok_lowZ F T hpt).imp λvs H Q E ⟨a,b,e,h1,q⟩=>⟨a,b,e,∅,λt ht=>by rw[nrS_pos h1];exact q t ht⟩
theorem ok_low (F:Fun K "_law_low" "_law_low" Ze9 f fd)(T:Txt K mg C G S)(hpt:P.given.tree=none):FnOk P w K mg base CX0 1 f fd ["_law_top","_law_bottom"] Zl2:=
 (Zsh F T hpt).imp λvs H Q E ⟨a,b,e,_,h1,_,q⟩=>⟨a,b,e,h1,q⟩
structure IsB (p:Int)(x y:Nv):Prop where
 is:Isn p y
 fd:∀ (F:Type) [Lean.Grind.Field F],FdOk p F->(nm x:F)*nm y=1
 bt:∀ n:Nat,7<=n->BtN n x->BtN n y
end
end Pf
set_option maxHeartbeats 4000000
namespace Pf
open PySem L2 PyProof.Rows
open PySem.W (nsIn codeIn keepIn fnOf findIn isFn mg_of mg_none_of plainGet hasDictIn plainOver makesIn)
theorem ex1 {us:List Value}(hl:us.length=1):∃ a0,us=[a0]:=match us,hl with|[a0],_=>⟨a0,rfl⟩
theorem ex2 {us:List Value}(hl:us.length=2):∃ a0 a1,us=[a0,a1]:=match us,hl with|[a0,a1],_=>⟨a0,a1,rfl⟩
theorem ex3 {us:List Value}(hl:us.length=3):∃ a0 a1 a2,us=[a0,a1,a2]:=match us,hl with|[a0,a1,a2],_=>⟨a0,a1,a2,rfl⟩
theorem ex4 {us:List Value}(hl:us.length=4):∃ a0 a1 a2 a3,us=[a0,a1,a2,a3]:=match us,hl with|[a0,a1,a2,a3],_=>⟨a0,a1,a2,a3,rfl⟩
theorem ex5 {us:List Value}(hl:us.length=5):∃ a0 a1 a2 a3 a4,us=[a0,a1,a2,a3,a4]:=match us,hl with|[a0,a1,a2,a3,a4],_=>⟨a0,a1,a2,a3,a4,rfl⟩
def Gf (K:Frag)(x:Str)(st:Stmt)(f:Addr):Prop:=nsIn K mainGlobals x=some (some (.ref f))/\∃ fd,Fun K x x st f fd
theorem all_mk {l:PySem.W.OpenLaw}{w:World}{K:Frag}{h:Heap}{mg:Str->Option Value}{fa C Cg Cs:Addr}{t1 t2 t3 t4 t5:Tok}(hpt:l.prog.given.tree=none){cL PL:Addr}(X:K.In h)(G:h.Ns mainGlobals mg)(hfa:mg "law" = some (.ref fa)){f1 f2 f3 f4 f5 f6 f7 f8 f9 f10 f11 f12 f13 f14 f15 f16 f17 f18 f19 f20 f21 f22 f23 f24 f25 f26 f27 f28 f29 f30 f31 f32 f33 f34 f35 f36 f37 f38 f39 f40 f41 f42 f43 f44 f45 f46 f47 f48 f49 f50 f51 f52 f53 f54 f55 f56 f57 f58 f59 f60 f61 f62 f63 f64:Addr}{od28 an28 od59 an59 od62 an62:Option Addr}{sl28 sl59 sl62:Array (Option Value)}{oc28 kV28 dc28 pm28 ct28 oc59 kV59 dc59 pm59 ct59 cd59 oc62 kV62 dc62 pm62 ct62 cd62:Value}{D62:Addr}{doc62:Value}{dod62:Option Addr}{dosl62:Array (Option Value)}{dn62:Nat}{dt62:Tok}(u1:Gf K "is_whole" Zfk f1)(u2:Gf K "makes_drawing" Zc9 f2)(u3:Gf K "is_arrow" Zhi f3)(u4:Gf K "_law_cell" Zhf f4)(u5:Gf K "_law_bag" Zjf f5)(u6:Gf K "_law_draw" Zhe f6)(u7:Gf K "_law_order" Zgf f7)(u8:Gf K "_law_rest_edges" Zc0 f8)(u9:Gf K "_law_bad_edges" Zdb f9)(u10:Gf K "_law_edges" Zgh f10)(u11:Gf K "_law_drawn" Zgi f11)(u12:Gf K "common_divisor" Zc1 f12)(u13:Gf K "not_both_long" Zc8 f13)(u14:Gf K "shortened" Zf8 f14)(u15:Gf K "leading_steps" Zda f15)(u16:Gf K "common_multiple" Zcr f16)(u17:Gf K "is_table" Zhg f17)(u18:Gf K "is_row" Zk9 f18)(u19:Gf K "plain" Znq f19)(u20:Gf K "noughts" Zje f20)(u21:Gf K "product" Zjd f21)(u22:Gf K "whole_row" Zf7 f22)(u23:Gf K "row_times" Zf9 f23)(u24:Gf K "turned_about" Zdy f24)(u25:Gf K "side_by_side" Zd0 f25)(u26:Gf K "tidied" Zk7 f26)(u27:Gf K "cleared" Zjh f27)(a28:nsIn K mainGlobals "leading_row" = some (some (.ref f28)))(l28:K.lookup f28=some ⟨oc28,od28,.func (fnOf "leading_row" "leading_row" (Zcu Zby) (Zcd Zby) (Zah Zby) .none kV28 dc28 pm28 an28 (.ref cL) ct28),sl28⟩)(c28:codeIn K (.ref cL) "leading_row" = true)(k28:keepIn K (.ref f28)=true)(u29:Gf K "swept" Znp f29)(u30:Gf K "reduced_rows" Zd1 f30)(u31:Gf K "reduced" Zjc f31)(u32:Gf K "back_of" Zjj f32)(u33:Gf K "are_sizes" Zgj f33)(u34:Gf K "is_table_of" Zed f34)(u35:Gf K "are_tables" Zfb f35)(u36:Gf K "are_changes" Zef f36)(u37:Gf K "backs_of" Zhk f37)(u38:Gf K "changed" Zji f38)(u39:Gf K "is_prime" Zhh f39)(u40:Gf K "tells_ground" Zdz f40)(u41:Gf K "fraction" Zhj f41)(u42:Gf K "inverse" Zjg f42)(u43:Gf K "rest_of" Zjb f43)(u44:Gf K "is_fraction" Zee f44)(u45:Gf K "_law_low" Ze9 f45)(u46:Gf K "_law_number" Ze8 f46)(u47:Gf K "_law_plus" Zhc f47)(u48:Gf K "_law_times" Zgb f48)(u49:Gf K "_law_whole" Zga f49)(u50:Gf K "_law_sizes" Zgd f50)(u51:Gf K "_law_table" Zgc f51)(u52:Gf K "_law_tables" Ze7 f52)(u53:Gf K "_law_lent" Zhd f53)(u54:Gf K "_law_unit" Zhb f54)(u55:Gf K "_law_plain" Zge f55)(u56:Gf K "_law_change" Zfa f56)(u57:Gf K "_law_product" Zec f57)(u58:Gf K "_law_leads" Zgg f58)(a59:nsIn K mainGlobals "law" = some (some (.ref f59)))(l59:K.lookup f59=some ⟨oc59,od59,.func (fnOf "law" "law" (Zcu Zk8) (Zcd Zk8) (Zah Zk8) .none kV59 dc59 pm59 an59 cd59 ct59),sl59⟩)(c59:codeIn K cd59 "law" = true)(k59:keepIn K (.ref f59)=true)(aC:nsIn K mainGlobals "Drawing" = some (some (.ref C)))(a60:findIn K (.ref C) "__init__" = some (some (.ref f60)))(i60:isFn K (.ref f60)=true)(u60:∃ fd,Fun K "__init__" "Drawing.__init__" Zd2 f60 fd)(pg:plainGet K C Str.empty=true)(hd:hasDictIn K C=true)(po:plainOver K C=true)(sa:findIn K (.ref C) "__setattr__" = some (some (.builtin "object.__setattr__")))(mk:makesIn K C=true)(kc:keepIn K (.ref C)=true)(nM:findIn K (.ref C) "many" = some none)(nA:findIn K (.ref C) "arrows" = some none)(aCg:nsIn K mainGlobals "Ground" = some (some (.ref Cg)))(a61:findIn K (.ref Cg) "__init__" = some (some (.ref f61)))(i61:isFn K (.ref f61)=true)(u61:∃ fd,Fun K "__init__" "Ground.__init__" Zeg f61 fd)(a62:findIn K (.ref Cg) "number" = some (some (.ref f62)))(i62:isFn K (.ref f62)=true)(l62:K.lookup f62=some ⟨oc62,od62,.func (fnOf "number" "Ground.number" (Zcu Zay) (Zcd Zay) (Zah Zay) (.ref D62) kV62 dc62 pm62 an62 cd62 ct62),sl62⟩)(dl62:K.lookup D62=some ⟨doc62,dod62,.seq #[.int 1 dt62] dn62,dosl62⟩)(c62:codeIn K cd62 "Ground.number" = true)(k62:keepIn K (.ref f62)=true)(a63:findIn K (.ref Cg) "is_number" = some (some (.ref f63)))(i63:isFn K (.ref f63)=true)(u63:∃ fd,Fun K "is_number" "Ground.is_number" Zcn f63 fd)(pg_Cg:plainGet K Cg Str.empty=true)(hd_Cg:hasDictIn K Cg=true)(po_Cg:plainOver K Cg=true)(sa_Cg:findIn K (.ref Cg) "__setattr__" = some (some (.builtin "object.__setattr__")))(mk_Cg:makesIn K Cg=true)(kc_Cg:keepIn K (.ref Cg)=true)(nP:findIn K (.ref Cg) "prime" = some none)(aCs:nsIn K mainGlobals "Standing" = some (some (.ref Cs)))(a64:findIn K (.ref Cs) "__init__" = some (some (.ref f64)))(i64:isFn K (.ref f64)=true)(u64:∃ fd,Fun K "__init__" "Standing.__init__" Zdc f64 fd)(pg_Cs:plainGet K Cs Str.empty=true)(hd_Cs:hasDictIn K Cs=true)(po_Cs:plainOver K Cs=true)(sa_Cs:findIn K (.ref Cs) "__setattr__" = some (some (.builtin "object.__setattr__")))(mk_Cs:makesIn K Cs=true)(kc_Cs:keepIn K (.ref Cs)=true)(nSg:findIn K (.ref Cs) "ground" = some none)(nSd:findIn K (.ref Cs) "drawing" = some none)(nSs:findIn K (.ref Cs) "sizes" = some none)(nSt:findIn K (.ref Cs) "tables" = some none)(g1:nsIn K mainGlobals "MOST_POINTS" = some (some (.int 8 t1)))(g2:nsIn K mainGlobals "MOST_ARROWS" = some (some (.int 9 t2)))(g3:nsIn K mainGlobals "LARGEST_PRIME" = some (some (.int 97 t3)))(g4:nsIn K mainGlobals "LONG" = some (some (.int 4000 t4)))(g5:nsIn K mainGlobals "LEADING" = some (some (.int 126 t5)))(z0:nsIn K mainGlobals "len" = some none)(z1:nsIn K mainGlobals "range" = some none)(z2:nsIn K mainGlobals "list" = some none)(z3:nsIn K mainGlobals "min" = some none)(z4:nsIn K mainGlobals "int" = some none)(z5:nsIn K mainGlobals "bool" = some none)(z6:nsIn K mainGlobals "tuple" = some none)(z7:nsIn K mainGlobals "all" = some none)(z8:nsIn K mainGlobals "isinstance" = some none)(z9:nsIn K mainGlobals "abs" = some none)(z10:nsIn K mainGlobals "zip" = some none)(z11:nsIn K mainGlobals "enumerate" = some none)(z12:nsIn K mainGlobals "reversed" = some none)(z13:nsIn K mainGlobals "sum" = some none)(z14:nsIn K mainGlobals "any" = some none)(hcL:hdIn K cL PL=true):
  ∃ fd:FuncData,(∀ (s:Shared) (v:Value),BindsTo s fd ⟨[v],[]⟩ [("_law_script",v)])/\∀ base:Heap,K.In base->base.Ns mainGlobals mg->FnOk l.prog w K mg base CX0 14 fa fd ["_law_script"] (Zus K PL):=by
 have e:=hfa.symm.trans (mg_of X G a59);cases e;have T:Txt K mg C Cg Cs:=⟨⟨pg,hd,po,sa⟩,nM,nA,⟨pg_Cg,hd_Cg,po_Cg,sa_Cg⟩,nP,⟨pg_Cs,hd_Cs,po_Cs,sa_Cs⟩,nSg,nSd,nSs,nSt,mg_none_of X G z0,mg_none_of X G z1,mg_none_of X G z2,mg_none_of X G z3,mg_none_of X G z4,mg_none_of X G z5,mg_none_of X G z6,mg_none_of X G z7,mg_none_of X G z8,mg_none_of X G z9,mg_none_of X G z10,mg_none_of X G z11,mg_none_of X G z12,mg_none_of X G z13,mg_none_of X G z14,⟨t1,mg_of X G g1⟩,⟨t2,mg_of X G g2⟩,⟨t3,mg_of X G g3⟩,⟨t4,mg_of X G g4⟩,⟨t5,mg_of X G g5⟩⟩
 obtain⟨a1,_,F1⟩:=u1;have b1:=F1.binds (ps:=["thing"]) λ_ _ _ _ _ _ us hl=>by obtain⟨_,rfl⟩:=ex1 hl;rfl
 obtain⟨a2,_,F2⟩:=u2;have b2:=F2.binds (ps:=["many","arrows"]) λ_ _ _ _ _ _ us hl=>by obtain⟨_,_,rfl⟩:=ex2 hl;rfl
 obtain⟨a3,_,F3⟩:=u3;have b3:=F3.binds (ps:=["many","thing"]) λ_ _ _ _ _ _ us hl=>by obtain⟨_,_,rfl⟩:=ex2 hl;rfl
 obtain⟨a4,_,F4⟩:=u4;have b4:=F4.binds (ps:=["_law_script","_law_k"]) λ_ _ _ _ _ _ us hl=>by obtain⟨_,_,rfl⟩:=ex2 hl;rfl
 obtain⟨a5,_,F5⟩:=u5;have b5:=F5.binds (ps:=["_law_cell_here"]) λ_ _ _ _ _ _ us hl=>by obtain⟨_,rfl⟩:=ex1 hl;rfl
 obtain⟨a6,_,F6⟩:=u6;have b6:=F6.binds (ps:=["_law_bag_here","_law_many"]) λ_ _ _ _ _ _ us hl=>by obtain⟨_,_,rfl⟩:=ex2 hl;rfl
 obtain⟨a7,_,F7⟩:=u7;have b7:=F7.binds (ps:=["_law_bag_here","_law_many"]) λ_ _ _ _ _ _ us hl=>by obtain⟨_,_,rfl⟩:=ex2 hl;rfl
 obtain⟨a8,_,F8⟩:=u8;have b8:=F8.binds (ps:=["_law_bag_here","_law_way"]) λ_ _ _ _ _ _ us hl=>by obtain⟨_,_,rfl⟩:=ex2 hl;rfl
 obtain⟨a9,_,F9⟩:=u9;have b9:=F9.binds (ps:=["_law_bag_here"]) λ_ _ _ _ _ _ us hl=>by obtain⟨_,rfl⟩:=ex1 hl;rfl
 obtain⟨a10,_,F10⟩:=u10;have b10:=F10.binds (ps:=["_law_bag_here","_law_way"]) λ_ _ _ _ _ _ us hl=>by obtain⟨_,_,rfl⟩:=ex2 hl;rfl
 obtain⟨a11,_,F11⟩:=u11;have b11:=F11.binds (ps:=["_law_bag_here","_law_way"]) λ_ _ _ _ _ _ us hl=>by obtain⟨_,_,rfl⟩:=ex2 hl;rfl
 obtain⟨a12,_,F12⟩:=u12;have b12:=F12.binds (ps:=["one","other"]) λ_ _ _ _ _ _ us hl=>by obtain⟨_,_,rfl⟩:=ex2 hl;rfl
 obtain⟨a13,_,F13⟩:=u13;have b13:=F13.binds (ps:=["one","other"]) λ_ _ _ _ _ _ us hl=>by obtain⟨_,_,rfl⟩:=ex2 hl;rfl
 obtain⟨a14,_,F14⟩:=u14;have b14:=F14.binds (ps:=["one","other"]) λ_ _ _ _ _ _ us hl=>by obtain⟨_,_,rfl⟩:=ex2 hl;rfl
 obtain⟨a15,_,F15⟩:=u15;have b15:=F15.binds (ps:=["one","other"]) λ_ _ _ _ _ _ us hl=>by obtain⟨_,_,rfl⟩:=ex2 hl;rfl
 obtain⟨a16,_,F16⟩:=u16;have b16:=F16.binds (ps:=["one","other"]) λ_ _ _ _ _ _ us hl=>by obtain⟨_,_,rfl⟩:=ex2 hl;rfl
 obtain⟨a17,_,F17⟩:=u17;have b17:=F17.binds (ps:=["ground","thing"]) λ_ _ _ _ _ _ us hl=>by obtain⟨_,_,rfl⟩:=ex2 hl;rfl
 obtain⟨a18,_,F18⟩:=u18;have b18:=F18.binds (ps:=["ground","wide","thing"]) λ_ _ _ _ _ _ us hl=>by obtain⟨_,_,_,rfl⟩:=ex3 hl;rfl
 obtain⟨a19,_,F19⟩:=u19;have b19:=F19.binds (ps:=["ground","many"]) λ_ _ _ _ _ _ us hl=>by obtain⟨_,_,rfl⟩:=ex2 hl;rfl
 obtain⟨a20,_,F20⟩:=u20;have b20:=F20.binds (ps:=["ground","high","wide"]) λ_ _ _ _ _ _ us hl=>by obtain⟨_,_,_,rfl⟩:=ex3 hl;rfl
 obtain⟨a21,_,F21⟩:=u21;have b21:=F21.binds (ps:=["ground","one","other"]) λ_ _ _ _ _ _ us hl=>by obtain⟨_,_,_,rfl⟩:=ex3 hl;rfl
 obtain⟨a22,_,F22⟩:=u22;have b22:=F22.binds (ps:=["ground","row"]) λ_ _ _ _ _ _ us hl=>by obtain⟨_,_,rfl⟩:=ex2 hl;rfl
 obtain⟨a23,_,F23⟩:=u23;have b23:=F23.binds (ps:=["ground","row","column"]) λ_ _ _ _ _ _ us hl=>by obtain⟨_,_,_,rfl⟩:=ex3 hl;rfl
 obtain⟨a24,_,F24⟩:=u24;have b24:=F24.binds (ps:=["table"]) λ_ _ _ _ _ _ us hl=>by obtain⟨_,rfl⟩:=ex1 hl;rfl
 obtain⟨a25,_,F25⟩:=u25;have b25:=F25.binds (ps:=["ground","high","tables"]) λ_ _ _ _ _ _ us hl=>by obtain⟨_,_,_,rfl⟩:=ex3 hl;rfl
 obtain⟨a26,_,F26⟩:=u26;have b26:=F26.binds (ps:=["ground","row"]) λ_ _ _ _ _ _ us hl=>by obtain⟨_,_,rfl⟩:=ex2 hl;rfl
 obtain⟨a27,_,F27⟩:=u27;have b27:=F27.binds (ps:=["ground","row","lead","place"]) λ_ _ _ _ _ _ us hl=>by obtain⟨_,_,_,_,rfl⟩:=ex4 hl;rfl
 have F28:FunC K "leading_row" "leading_row" Zby f28 _ cL:=⟨⟨oc28,od28,kV28,dc28,pm28,an28,ct28,sl28,rfl,l28,c28⟩⟩
 have b28:=F28.binds (ps:=["rows","place"]) λ_ _ _ _ _ _ us hl=>by obtain⟨_,_,rfl⟩:=ex2 hl;rfl
 obtain⟨a29,_,F29⟩:=u29;have b29:=F29.binds (ps:=["ground","rows","wide"]) λ_ _ _ _ _ _ us hl=>by obtain⟨_,_,_,rfl⟩:=ex3 hl;rfl
 obtain⟨a30,_,F30⟩:=u30;have b30:=F30.binds (ps:=["ground","rows","wide"]) λ_ _ _ _ _ _ us hl=>by obtain⟨_,_,_,rfl⟩:=ex3 hl;rfl
 obtain⟨a31,_,F31⟩:=u31;have b31:=F31.binds (ps:=["ground","table"]) λ_ _ _ _ _ _ us hl=>by obtain⟨_,_,rfl⟩:=ex2 hl;rfl
 obtain⟨a32,_,F32⟩:=u32;have b32:=F32.binds (ps:=["ground","table"]) λ_ _ _ _ _ _ us hl=>by obtain⟨_,_,rfl⟩:=ex2 hl;rfl
 obtain⟨a33,_,F33⟩:=u33;have b33:=F33.binds (ps:=["drawing","thing"]) λ_ _ _ _ _ _ us hl=>by obtain⟨_,_,rfl⟩:=ex2 hl;rfl
 obtain⟨a34,_,F34⟩:=u34;have b34:=F34.binds (ps:=["ground","high","wide","thing"]) λ_ _ _ _ _ _ us hl=>by obtain⟨_,_,_,_,rfl⟩:=ex4 hl;rfl
 obtain⟨a35,_,F35⟩:=u35;have b35:=F35.binds (ps:=["ground","drawing","sizes","thing"]) λ_ _ _ _ _ _ us hl=>by obtain⟨_,_,_,_,rfl⟩:=ex4 hl;rfl
 obtain⟨a36,_,F36⟩:=u36;have b36:=F36.binds (ps:=["standing","thing"]) λ_ _ _ _ _ _ us hl=>by obtain⟨_,_,rfl⟩:=ex2 hl;rfl
 obtain⟨a37,_,F37⟩:=u37;have b37:=F37.binds (ps:=["standing","changes"]) λ_ _ _ _ _ _ us hl=>by obtain⟨_,_,rfl⟩:=ex2 hl;rfl
 obtain⟨a38,_,F38⟩:=u38;have b38:=F38.binds (ps:=["standing","changes"]) λ_ _ _ _ _ _ us hl=>by obtain⟨_,_,rfl⟩:=ex2 hl;rfl
 obtain⟨a39,_,F39⟩:=u39;have b39:=F39.binds (ps:=["number"]) λ_ _ _ _ _ _ us hl=>by obtain⟨_,rfl⟩:=ex1 hl;rfl
 obtain⟨a40,_,F40⟩:=u40;have b40:=F40.binds (ps:=["thing"]) λ_ _ _ _ _ _ us hl=>by obtain⟨_,rfl⟩:=ex1 hl;rfl
 obtain⟨a41,_,F41⟩:=u41;have b41:=F41.binds (ps:=["top","bottom"]) λ_ _ _ _ _ _ us hl=>by obtain⟨_,_,rfl⟩:=ex2 hl;rfl
 obtain⟨a42,_,F42⟩:=u42;have b42:=F42.binds (ps:=["rest","prime"]) λ_ _ _ _ _ _ us hl=>by obtain⟨_,_,rfl⟩:=ex2 hl;rfl
 obtain⟨a43,_,F43⟩:=u43;have b43:=F43.binds (ps:=["top","bottom","prime"]) λ_ _ _ _ _ _ us hl=>by obtain⟨_,_,_,rfl⟩:=ex3 hl;rfl
 obtain⟨a44,_,F44⟩:=u44;have b44:=F44.binds (ps:=["thing"]) λ_ _ _ _ _ _ us hl=>by obtain⟨_,rfl⟩:=ex1 hl;rfl
 obtain⟨a45,_,F45⟩:=u45;have b45:=F45.binds (ps:=["_law_top","_law_bottom"]) λ_ _ _ _ _ _ us hl=>by obtain⟨_,_,rfl⟩:=ex2 hl;rfl
 obtain⟨a46,_,F46⟩:=u46;have b46:=F46.binds (ps:=["_law_bag_here","_law_p"]) λ_ _ _ _ _ _ us hl=>by obtain⟨_,_,rfl⟩:=ex2 hl;rfl
 obtain⟨a47,_,F47⟩:=u47;have b47:=F47.binds (ps:=["_law_p","_law_a","_law_b"]) λ_ _ _ _ _ _ us hl=>by obtain⟨_,_,_,rfl⟩:=ex3 hl;rfl
 obtain⟨a48,_,F48⟩:=u48;have b48:=F48.binds (ps:=["_law_p","_law_a","_law_b"]) λ_ _ _ _ _ _ us hl=>by obtain⟨_,_,_,rfl⟩:=ex3 hl;rfl
 obtain⟨a49,_,F49⟩:=u49;have b49:=F49.binds (ps:=["_law_p","_law_k"]) λ_ _ _ _ _ _ us hl=>by obtain⟨_,_,rfl⟩:=ex2 hl;rfl
 obtain⟨a50,_,F50⟩:=u50;have b50:=F50.binds (ps:=["_law_bag_here","_law_many","_law_most"]) λ_ _ _ _ _ _ us hl=>by obtain⟨_,_,_,rfl⟩:=ex3 hl;rfl
 obtain⟨a51,_,F51⟩:=u51;have b51:=F51.binds (ps:=["_law_bag_here","_law_p","_law_high","_law_wide"]) λ_ _ _ _ _ _ us hl=>by obtain⟨_,_,_,_,rfl⟩:=ex4 hl;rfl
 obtain⟨a52,_,F52⟩:=u52;have b52:=F52.binds (ps:=["_law_bag_here","_law_p","_law_arrows","_law_sizes_here"]) λ_ _ _ _ _ _ us hl=>by obtain⟨_,_,_,_,rfl⟩:=ex4 hl;rfl
 obtain⟨a53,_,F53⟩:=u53;have b53:=F53.binds (ps:=["_law_tables_here"]) λ_ _ _ _ _ _ us hl=>by obtain⟨_,rfl⟩:=ex1 hl;rfl
 obtain⟨a54,_,F54⟩:=u54;have b54:=F54.binds (ps:=["_law_bag_here","_law_p"]) λ_ _ _ _ _ _ us hl=>by obtain⟨_,_,rfl⟩:=ex2 hl;rfl
 obtain⟨a55,_,F55⟩:=u55;have b55:=F55.binds (ps:=["_law_p","_law_many"]) λ_ _ _ _ _ _ us hl=>by obtain⟨_,_,rfl⟩:=ex2 hl;rfl
 obtain⟨a56,_,F56⟩:=u56;have b56:=F56.binds (ps:=["_law_bag_here","_law_p","_law_size"]) λ_ _ _ _ _ _ us hl=>by obtain⟨_,_,_,rfl⟩:=ex3 hl;rfl
 obtain⟨a57,_,F57⟩:=u57;have b57:=F57.binds (ps:=["_law_p","_law_one","_law_other"]) λ_ _ _ _ _ _ us hl=>by obtain⟨_,_,_,rfl⟩:=ex3 hl;rfl
 obtain⟨a58,_,F58⟩:=u58;have b58:=F58.binds (ps:=["_law_p","_law_arrows","_law_tables_here","_law_changes","_law_made"]) λ_ _ _ _ _ _ us hl=>by obtain⟨_,_,_,_,_,rfl⟩:=ex5 hl;rfl
 have F59:=fun_mk (st:=Zk8) l59 c59 k59;obtain⟨_,F60⟩:=u60;have b60:=F60.binds (ps:=["self","many","arrows"]) λ_ _ _ _ _ _ us hl=>by obtain⟨_,_,_,rfl⟩:=ex3 hl;rfl
 obtain⟨_,F61⟩:=u61;have b61:=F61.binds (ps:=["self","prime"]) λ_ _ _ _ _ _ us hl=>by obtain⟨_,_,rfl⟩:=ex2 hl;rfl
 have F62:FunD K "number" "Ground.number" Zay f62 _ D62:=⟨⟨oc62,od62,kV62,dc62,pm62,an62,cd62,ct62,sl62,rfl,l62,c62⟩⟩
 have b62:=Zg5 (fd:=fnOf "number" "Ground.number" (Zcu Zay) (Zcd Zay) (Zah Zay) (.ref D62) kV62 dc62 pm62 an62 cd62 ct62) (ps:=["self","top","bottom"]) (ds:=[.int 1 dt62]) dl62 rfl λus hl=>match us,(show us.length=2 by simpa using hl) with|[_,_],_=>⟨_,rfl,rfl⟩
 have bF62:=Zg5 (fd:=fnOf "number" "Ground.number" (Zcu Zay) (Zcd Zay) (Zah Zay) (.ref D62) kV62 dc62 pm62 an62 cd62 ct62) (ps:=["self","top","bottom"]) (ds:=[]) dl62 rfl λus hl=>match us,(show us.length=3 by simpa using hl) with|[_,_,_],_=>⟨_,rfl,rfl⟩
 obtain⟨_,F63⟩:=u63;have b63:=F63.binds (ps:=["self","thing"]) λ_ _ _ _ _ _ us hl=>by obtain⟨_,_,rfl⟩:=ex2 hl;rfl
 obtain⟨_,F64⟩:=u64;have b64:=F64.binds (ps:=["self","ground","drawing","sizes","tables"]) λ_ _ _ _ _ _ us hl=>by obtain⟨_,_,_,_,_,rfl⟩:=ex5 hl;rfl
 refine⟨fnOf "law" "law" (Zcu Zk8) (Zcd Zk8) (Zah Zk8) .none kV59 dc59 pm59 an59 cd59 ct59,λs v=>.of_eq rfl,λbase KB _=>?_⟩;have hcb:=hd_of KB hcL;have C1:Cal l.prog w K mg base "is_whole" 1 Zha:=⟨_,_,_,Zu6 F1 T ,mg_of X G a1,F1.kp,b1⟩
 have C1A:Cal l.prog w K mg base "is_whole" 1 Zgp:=⟨_,_,_,Zsf F1 T ,mg_of X G a1,F1.kp,b1⟩
 have C3:Cal l.prog w K mg base "is_arrow" 2 Znn:=⟨_,_,_,Zvn F3 T C1,mg_of X G a3,F3.kp,b3⟩
 have C2:Cal l.prog w K mg base "makes_drawing" 3 Znj:=⟨_,_,_,Zve F2 T C1 C3,mg_of X G a2,F2.kp,b2⟩
 have C60:CalI l.prog w K mg base "Drawing" C 4 (Zrh C):=⟨_,_,_,ok_init F60 T C2,⟨mk,a60,i60,kc⟩,mg_of X G aC,b60⟩
 have C15:Cal l.prog w K mg base "leading_steps" 1 Zrf:=⟨_,_,_,ok_lead F15 T hpt,mg_of X G a15,F15.kp,b15⟩
 have C14:Cal l.prog w K mg base "shortened" 2 Znf:=⟨_,_,_,Zva F14 T C15,mg_of X G a14,F14.kp,b14⟩
 have C13:Cal l.prog w K mg base "not_both_long" 3 spNbl:=⟨_,_,_,ok_nbl F13 T C14,mg_of X G a13,F13.kp,b13⟩
 have C12:Cal l.prog w K mg base "common_divisor" 4 Znm:=⟨_,_,_,ok_cdB F12 T C13,mg_of X G a12,F12.kp,b12⟩
 have C39:Cal l.prog w K mg base "is_prime" 1 Znh:=⟨_,_,_,Zvc F39 T ,mg_of X G a39,F39.kp,b39⟩
 have C40:Cal l.prog w K mg base "tells_ground" 2 Znc:=⟨_,_,_,Zu7 F40 T C1 C39,mg_of X G a40,F40.kp,b40⟩
 have C41:Cal l.prog w K mg base "fraction" 5 Znl:=⟨_,_,_,Zvj F41 T hpt C12,mg_of X G a41,F41.kp,b41⟩
 have C42:Cal l.prog w K mg base "inverse" 1 spInv:=⟨_,_,_,ok_inv F42 T ,mg_of X G a42,F42.kp,b42⟩
 have C43:Cal l.prog w K mg base "rest_of" 2 Zng:=⟨_,_,_,Zvb F43 T C42,mg_of X G a43,F43.kp,b43⟩
 have C44:Cal l.prog w K mg base "is_fraction" 5 spFr:=⟨_,_,_,ok_fr F44 T C1A C12,mg_of X G a44,F44.kp,b44⟩
 have C61:CalI l.prog w K mg base "Ground" Cg 3 (Znk Cg):=⟨_,_,_,Zvi F61 T C40,⟨mk_Cg,a61,i61,kc_Cg⟩,mg_of X G aCg,b61⟩
 have C62:CalD l.prog w K mg base Cg "number" 6 (Ziy Cg) [.int 1]:=⟨_,_,_,_,Zsg F62 T C41 C43,⟨a62,i62,k62⟩,b62,.cons ⟨_,rfl⟩ .nil⟩
 have C62F:CalD l.prog w K mg base Cg "number" 6 (Ziy Cg) []:=⟨_,_,_,[],Zsg F62 T C41 C43,⟨a62,i62,k62⟩,bF62,.nil⟩
 have C63:CalM l.prog w K mg base Cg "is_number" 6 (spIsN Cg):=⟨_,_,_,ok_isn F63 T C1A C44,⟨a63,i63,F63.kp⟩,b63⟩
 have C18:Cal l.prog w K mg base "is_row" 7 (Zrd Cg):=⟨_,_,_,Zvh F18 T C63,mg_of X G a18,F18.kp,b18⟩
 have C17:Cal l.prog w K mg base "is_table" 8 (Zrb Cg):=⟨_,_,_,Zvg F17 T C1A C18,mg_of X G a17,F17.kp,b17⟩
 have C33:Cal l.prog w K mg base "are_sizes" 2 (spSz C):=⟨_,_,_,ok_sz F33 T C1,mg_of X G a33,F33.kp,b33⟩
 have C34:Cal l.prog w K mg base "is_table_of" 9 (spTo Cg):=⟨_,_,_,ok_to F34 T C17,mg_of X G a34,F34.kp,b34⟩
 have C35:Cal l.prog w K mg base "are_tables" 10 (spTs C Cg):=⟨_,_,_,ok_ts F35 T C34,mg_of X G a35,F35.kp,b35⟩
 have C64:CalI l.prog w K mg base "Standing" Cs 11 (spSI Cs C Cg):=⟨_,_,_,Zu9 F64 T C33 C35,⟨mk_Cs,a64,i64,kc_Cs⟩,mg_of X G aCs,b64⟩
 have C16:Cal l.prog w K mg base "common_multiple" 5 spCmB:=⟨_,_,_,ok_cmB F16 T hpt C12,mg_of X G a16,F16.kp,b16⟩
 have C22:Cal l.prog w K mg base "whole_row" 6 (Zur Cg):=⟨_,_,_,ok_wrZ F22 T hpt C16,mg_of X G a22,F22.kp,b22⟩
 have C26:Cal l.prog w K mg base "tidied" 5 (Zoq Cg):=⟨_,_,_,ok_tidy F26 T hpt C12,mg_of X G a26,F26.kp,b26⟩
 have C27:Cal l.prog w K mg base "cleared" 6 (Zk2 Cg):=⟨_,_,_,Zvm F27 T hpt C12 C26,mg_of X G a27,F27.kp,b27⟩
 have C28:Cal l.prog w K mg base "leading_row" 1 (spLr PL):=⟨_,_,_,ok_lr F28 T hcb,mg_of X G a28,k28,b28⟩
 have C29:Cal l.prog w K mg base "swept" 7 (Znd Cg PL):=⟨_,_,_,Zu8 F29 T C22 C26 C27 C28,mg_of X G a29,F29.kp,b29⟩
 have C30:Cal l.prog w K mg base "reduced_rows" 8 (spRed Cg PL):=⟨_,_,_,ok_red F30 T C29 C27 C62F,mg_of X G a30,F30.kp,b30⟩
 have C20:Cal l.prog w K mg base "noughts" 7 (spNou Cg):=⟨_,_,_,ok_nou F20 T C62,mg_of X G a20,F20.kp,b20⟩
 have C19:Cal l.prog w K mg base "plain" 8 (spPl Cg):=⟨_,_,_,ok_pl F19 T C20 C62,mg_of X G a19,F19.kp,b19⟩
 have C25:Cal l.prog w K mg base "side_by_side" 1 (Zrc Cg):=⟨_,_,_,ok_side F25 T ,mg_of X G a25,F25.kp,b25⟩
 have C31:Cal l.prog w K mg base "reduced" 9 (Zix Cg PL):=⟨_,_,_,Zp9 F31 T C25 C19 C30,mg_of X G a31,F31.kp,b31⟩
 have C23:Cal l.prog w K mg base "row_times" 7 (spRt Cg):=⟨_,_,_,ok_rt F23 T C62F,mg_of X G a23,F23.kp,b23⟩
 have C24:Cal l.prog w K mg base "turned_about" 1 spTa:=⟨_,_,_,ok_ta F24 T ,mg_of X G a24,F24.kp,b24⟩
 have C21:Cal l.prog w K mg base "product" 8 (Zre Cg):=⟨_,_,_,ok_prod F21 T C22 C24 C23,mg_of X G a21,F21.kp,b21⟩
 have C32:Cal l.prog w K mg base "back_of" 10 (Zrj Cg PL):=⟨_,_,_,Zsj F32 T C31 C19,mg_of X G a32,F32.kp,b32⟩
 have C36:Cal l.prog w K mg base "are_changes" 10 (spAc Cs C Cg):=⟨_,_,_,ok_ac F36 T C34,mg_of X G a36,F36.kp,b36⟩
 have C37:Cal l.prog w K mg base "backs_of" 11 (spBo Cs C Cg PL):=⟨_,_,_,ok_bo F37 T C36 C32,mg_of X G a37,F37.kp,b37⟩
 have C38:Cal l.prog w K mg base "changed" 13 (spChg Cs C Cg PL):=⟨_,_,_,ok_chg F38 T C37 C21 C64,mg_of X G a38,F38.kp,b38⟩
 have C4:Cal l.prog w K mg base "_law_cell" 1 (Zri K):=⟨_,_,_,ok_cell F4 T ,mg_of X G a4,F4.kp,b4⟩
 have C5:Cal l.prog w K mg base "_law_bag" 1 spBag:=⟨_,_,_,ok_bag F5 T ,mg_of X G a5,F5.kp,b5⟩
 have C6:Cal l.prog w K mg base "_law_draw" 1 Zc6:=⟨_,_,_,ok_draw F6 T ,mg_of X G a6,F6.kp,b6⟩
 have C7:Cal l.prog w K mg base "_law_order" 2 Zni:=⟨_,_,_,Zvd F7 T C6,mg_of X G a7,F7.kp,b7⟩
 have C8:Cal l.prog w K mg base "_law_rest_edges" 2 (Zib Zue):=⟨_,_,_,ok_rest F8 T C6,mg_of X G a8,F8.kp,b8⟩
 have C9:Cal l.prog w K mg base "_law_bad_edges" 2 (Zib way0):=⟨_,_,_,ok_bad F9 T C6,mg_of X G a9,F9.kp,b9⟩
 have C10:Cal l.prog w K mg base "_law_edges" 3 (Zib Zue):=⟨_,_,_,Zvk F10 T C6 C9 C8,mg_of X G a10,F10.kp,b10⟩
 have C11:Cal l.prog w K mg base "_law_drawn" 4 (Zib Zue):=⟨_,_,_,Zvl F11 T C6 C10 C7,mg_of X G a11,F11.kp,b11⟩
 have C45A:Cal l.prog w K mg base "_law_low" 1 Zl2:=⟨_,_,_,ok_low F45 T hpt,mg_of X G a45,F45.kp,b45⟩
 have C45B:Cal l.prog w K mg base "_law_low" 1 Zor:=⟨_,_,_,Zsh F45 T hpt,mg_of X G a45,F45.kp,b45⟩
 have C46:Cal l.prog w K mg base "_law_number" 3 spNum:=⟨_,_,_,ok_lnum F46 T C6 C45A,mg_of X G a46,F46.kp,b46⟩
 have C47:Cal l.prog w K mg base "_law_plus" 3 (Zl1 Zdn):=⟨_,_,_,ok_addB F47 T C45B,mg_of X G a47,F47.kp,b47⟩
 have C48:Cal l.prog w K mg base "_law_times" 3 (Zl1 Zbn):=⟨_,_,_,ok_mulB F48 T C45B,mg_of X G a48,F48.kp,b48⟩
 have C49:Cal l.prog w K mg base "_law_whole" 1 Zrg:=⟨_,_,_,ok_lint F49 T ,mg_of X G a49,F49.kp,b49⟩
 have C50:Cal l.prog w K mg base "_law_sizes" 2 Zne:=⟨_,_,_,ok_lsz F50 T C6,mg_of X G a50,F50.kp,b50⟩
 have C51:Cal l.prog w K mg base "_law_table" 4 spTb:=⟨_,_,_,ok_tb F51 T C6 C46 C49,mg_of X G a51,F51.kp,b51⟩
 have C52:Cal l.prog w K mg base "_law_tables" 5 spTbV:=⟨_,_,_,ok_tbV F52 T C51,mg_of X G a52,F52.kp,b52⟩
 have C53:Cal l.prog w K mg base "_law_lent" 1 Zos:=⟨_,_,_,ok_lent F53 T ,mg_of X G a53,F53.kp,b53⟩
 have C54:Cal l.prog w K mg base "_law_unit" 3 Zra:=⟨_,_,_,ok_unit F54 T C6 C45A,mg_of X G a54,F54.kp,b54⟩
 have C55:Cal l.prog w K mg base "_law_plain" 2 spPlC:=⟨_,_,_,ok_plC F55 T C49,mg_of X G a55,F55.kp,b55⟩
 have C56:Cal l.prog w K mg base "_law_change" 4 Zk3:=⟨_,_,_,Zsi F56 T C6 C54 C55 C47 C48,mg_of X G a56,F56.kp,b56⟩
 have C57:Cal l.prog w K mg base "_law_product" 4 spLpB:=⟨_,_,_,ok_lpB F57 T C49 C47 C48,mg_of X G a57,F57.kp,b57⟩
 have C58:Cal l.prog w K mg base "_law_leads" 5 (spLd Cs):=⟨_,_,_,Zvf F58 T C57,mg_of X G a58,F58.kp,b58⟩
 exact ok_law F59 T C4 C5 C6 C11 C50 C52 C56 C53 C64 C61 C60 C38 C58
theorem walk {l:PySem.W.OpenLaw}{q:Program}{loose:List Str}{XP:(Str->Option Value)->Heap->Prop}{d:DefRec}{K:Params->Frag}{as:List Addr}{e:∀ (P:Params),as=List.map (λx=>x.fst) (K P)}{PL:Addr}(hq:importsNone q=true)(hn:l.most=some 63)(hdf:d.params.defaults=[])(hN:∀ p,(K p).lookup PL=none)(hC:∀ p,hdIn (K p) (PL+2) PL=true)(F:∀ (w:World) (mg:Str->Option Value) (fa:Addr) (h:Heap),(K w.params).In h->h.Ns mainGlobals mg->mg d.name=some (.ref fa)->
   ∃ fd:FuncData,(∀ (s:Shared) (u:Value),BindsTo s fd ⟨[u],[]⟩ [("_law_script",u)])/\∀ base:Heap,(K w.params).In base->base.Ns mainGlobals mg->FnOk l.prog w (K w.params) mg base CX0 14 fa fd ["_law_script"] (Zus (K w.params) PL)):
  PySem.W.WalkO q loose XP (PySem.W.kmHook K as e [PL]).says l.row.toRowW d [] (λf vs=>PySem.call f vs):=
 Zug (n:=63) (k:=14) (x:="_law_script") (sp:=λw=>Zus (K w.params) PL) (PL+2) PL 155 26 ("leading_row.<locals>." ++ "<lambda>") hq hn ⇑0 hdf ⟨rfl,⇑0,⇑0⟩ (λw h Y=>PySem.W.km_in_of Y) (λw h Y=>PySem.W.km_tabs_of Y PL (Jas.mpr rfl)) hN hC F (λ_ H a ns Q E hl hS hT q=>⟨a,ns,rfl,hS,hl,hT,q⟩)
end Pf
namespace PySem.W.Fast
def tw1504710493288132015:=0
def tw1252319927813917902:=0
def tw7777245699114466856:=0
def tw11565966381150355653:=0
def tw1325426211008681554:=0
def tw4992099702311366323:=0
def tw11703103547042030653:=0
def tw14442661032741658873:=0
def tw2300227069931383946:=0
def tw8510909851546570667:=0
def tw13836692195750213666:=0
def tw7883235450712733529:=0
def tw2958688707658433530:=0
def tw3352716551493162901:=0
def tw2221569865775162737:=0
def tw5417510031838309803:=0
def tw17137426000190573764:=0
def tw7581830333260270438:=0
def tw12202414649035546377:=0
def tw9738692323107208608:=0
def tw4816230150831218030:=0
def tw7879549113051430252:=0
def tw17602928765898550404:=0
def tw14892064096230472274:=0
def tw9154521112953956771:=0
def tw16630835246575340824:=0
def tw12081887844896809918:=0
def tw8882734148202149250:=0
def tw6416357064254908146:=0
def tw779076572014033191:=0
def tw4988288695164576340:=0
def tw8033893849092471198:=0
def tw12657496611868741591:=0
def tw7424081668481306218:=0
def tw7087663655672260514:=0
def tw8932833453344891029:=0
def tw2161063914961800050:=0
def tw14616431323875037076:=0
def tw11219647608451156604:=0
def tw2096224796130749262:=0
def tw14064515648023575364:=0
def tw1168269036959322501:=0
def tw4071571874208132648:=0
def tw167812781347049168:=0
def tw7077754350097612874:=0
def tw1224212487944103409:=0
def tw3145048945616550791:=0
def tw11600286342331140637:=0
def tw5593984410526078604:=0
def tw5899462909395326932:=0
def tw3251735558920375380:=0
def tw16057756105356679212:=0
def tw11401108894263158128:=0
def tw13647953727815564745:=0
def tw17151976679971251028:=0
def tw4648074464562422389:=0
def tw7273860834363155437:=0
def tw10996724978758200031:=0
def tw11183685436081333327:=0
def tw682813662699983830:=0
def tw4511061535027386306:=0
def tw10977424425401444374:=0
def tw3384511100248292355:=0
def tw16625756470798658316:=0
def tw11382823939745863364:=0
def tw7610210355492573628:=0
def tw8132628226168056205:=0
def tw622311914538953042:=0
def tw17313690211687259477:=0
def tw17568361289565652521:=0
def tw13202312162183933322:=0
def tw1993155732124184532:=0
def tw10558321820658715727:=0
def tw1612845861216851515:=0
def tw4324108740961623291:=0
def tw15874737175118579962:=0
def tw720658620959274218:=0
def tw4004932776086189411:=0
def tw9225621171509824882:=0
def tw5780808674178457188:=0
def tw12441799146111390842:=0
def tw10630524583743048687:=0
def tw12990569680381468074:=0
def tw9938058977490987405:=0
def tw1897510245300938760:=0
def tw6889560856491909185:=0
def tw14043623323706487816:=0
def tw2167437552687483816:=0
def tw6200851156666509136:=0
def tw5181545340084465968:=0
def tw2830886677127855113:=0
def tw3984075480687254042:=0
def tw10805348173296038762:=0
def tw8028798660028620698:=0
def tw17154468328600469489:=0
def tw6309870163667480942:=0
def tw1247989488395781952:=0
def tw16421122475880407339:=0
def tw13522348426121307855:=0
def tw13417798989568814789:=0
def tw5305127240014375617:=0
def tw17194979857233485274:=0
def tw9255897756841917482:=0
def tw6272083077317087853:=0
def tw505686073677085706:=0
def tw4318037861553396390:=0
def tw8591723749366549571:=0
def tw14439676160969279975:=0
def tw5404699723901598462:=0
def tw14182395158677813031:=0
def tw13425832165492565013:=0
def tw12567465459585070467:=0
def tw818560869403089756:=0
def tw18012643211135679055:=0
def tw17695717151919438104:=0
def tw16020691209833277489:=0
def tw7445588174665571118:=0
def tw15346904088594008888:=0
def tw14842089955378012765:=0
def tw12448402839828264399:=0
def tw6164820209201559779:=0
def tw10361523040393186164:=0
def tw14998263565327798520:=0
def tw7961314945313726531:=0
def tw6444260476105734349:=0
def tw1341752071337107502:=0
def tw8588375092892952634:=0
def tw12720249496623680169:=0
def tw1970730751608613022:=0
def tw2099041918922146875:=0
def tw14376950805932702528:=0
def tw11473109815077199715:=0
def tw11711184175012613294:=0
def tw10329536874620257068:=0
def tw13968051983802381521:=0
def tw7893383889724190752:=0
def tw4579334896924389944:=0
def tw5924771493569415971:=0
def tw17337816423590147043:=0
def tw14821423820805444261:=0
def tw11195410915961735859:=0
def tw8953588180414987877:=0
def tw17794467738325017994:=0
def tw12195616171980663543:=0
def tw13387509871833919658:=0
def tw10115325206358109612:=0
def tw3716264021608702348:=0
def tw17114836499235314027:=0
def tw377635081712470487:=0
def tw14570726915623281583:=0
def tw12308307554325135158:=0
def tw6464513154155585242:=0
def tw6021236017421215584:=0
def tw9107981424220971420:=0
def tw7474307733927464561:=0
def tw957635585124494669:=0
def tw13623598990761012722:=0
def tw4653420337074383335:=0
def tw5822844707742029075:=0
def tw12480407022233062814:=0
def tw8444542264187320933:=0
def tw9545191067794456925:=0
def tw8271119284563083965:=0
def tw15854021674515448574:=0
def tw5169134099948688628:=0
def tw8558427327548470504:=0
def tw14228659697142763093:=0
def tw5974599889733185727:=0
def tw10818367923206242493:=0
def tw3570920292718597708:=0
def tw17909817925879503309:=0
def tw280093756414953049:=0
def tw15570709457794263134:=0
def tw6142437021885865588:=0
def tw5857051314496900782:=0
def tw15565389040434543388:=0
def tw305614347599365613:=0
def tw2798046367054456726:=0
def tw12361824333366787616:=0
def tw11262040126522820709:=0
def tw16185665453527001057:=0
def tw11737779407561226286:=0
def tw14829242393332509594:=0
def tw10256872660738543570:=0
def tw18222728220994034246:=0
def tw11401881476765596468:=0
def tw16394811319113955792:=0
def tw17679836372029650665:=0
def tw7302129807747937379:=0
def tw18011477617679663858:=0
def tw8263597093525062669:=0
def tw15734464149337861231:=0
def tw9931707918361024501:=0
def tw17129615060189370768:=0
def tw11983865293375301178:=0
def tw2464302093752422579:=0
def tw11768791628750801039:=0
def tw2905692684538372057:=0
def tw17383072908577941183:=0
def tw14421356162794404827:=0
def tw5504513846403208583:=0
def tw11885008374386584782:=0
def tw1967966911962969161:=0
def tw15081414931707754336:=0
def tw16885601593310553900:=0
def tw2845615080744509711:=0
def tw1275159763438890330:=0
def tw16757911387346324049:=0
def tw12680738814390252212:=0
def tw10009147526145702010:=0
def tw3285071662937911168:=0
def tw5611788566506518755:=0
def tw509687200067532027:=0
def tw13105011875296869807:=0
def tw17790557038847363763:=0
def tw2254319777999226622:=0
def tw17359555619356774537:=0
def tw9677320312645944767:=0
def tw15699539804319387971:=0
def tw2417027797701992674:=0
def tw10987727947796601103:=0
def tw16424542898821456165:=0
def tw906757192253243139:=0
def tw12598428962102398227:=0
end PySem.W.Fast
open PySem PySem.W PyProof.Rows
local macro_rules | `(tactic| walk_at "v")=>`(tactic| exact⟨_,⟨⟨_,_,_,_,_,_,_,_,_,rfl,by k_is,by k_is⟩,by k_is⟩⟩)
local macro_rules | `(tactic| walk_at "u")=>`(tactic| exact⟨by k_is,_,⟨⟨_,_,_,_,_,_,_,_,_,rfl,by k_is,by k_is⟩,by k_is⟩⟩)
set_option maxRecDepth 100000 in
set_option maxHeartbeats 0 in
theorem PySem.Challenge.cw_limbtables_k28_standings_changed_holds : PySem.Challenge.rw_limbtables_k28_standings_changed.Holds := by
 w_on;o_law;k_head;(case hw=>w_witness2)
 k_fill
 refine Pf.walk (l:=PySem.Challenge.rw_limbtables_k28_standings_changed) ⋯ rfl rfl (λp=>by kernel_rfl) (λp=>by kernel_rfl) ?F
 case F=>
  intro w mg fa h KX G hmg;refine' Pf.all_mk rfl KX G hmg ?u1 ?u2 ?u3 ?u4 ?u5 ?u6 ?u7 ?u8 ?u9 ?u10 ?u11 ?u12 ?u13 ?u14 ?u15 ?u16 ?u17 ?u18 ?u19 ?u20 ?u21 ?u22 ?u23 ?u24 ?u25 ?u26 ?u27 ?a28 ?l28 ?c28 ?k28 ?u29 ?u30 ?u31 ?u32 ?u33 ?u34 ?u35 ?u36 ?u37 ?u38 ?u39 ?u40 ?u41 ?u42 ?u43 ?u44 ?u45 ?u46 ?u47 ?u48 ?u49 ?u50 ?u51 ?u52 ?u53 ?u54 ?u55 ?u56 ?u57 ?u58 ?a59 ?l59 ?c59 ?k59 ?aC ?a60 ?i60 ?u60 ?pg ?hd ?po ?sa ?mk ?kc ?nM ?nA ?aCg ?a61 ?i61 ?u61 ?a62 ?i62 ?l62 ?dl62 ?c62 ?k62 ?a63 ?i63 ?u63 ?pg_Cg ?hd_Cg ?po_Cg ?sa_Cg ?mk_Cg ?kc_Cg ?nP ?aCs ?a64 ?i64 ?u64 ?pg_Cs ?hd_Cs ?po_Cs ?sa_Cs ?mk_Cs ?kc_Cs ?nSg ?nSd ?nSs ?nSt ?g1 ?g2 ?g3 ?g4 ?g5 ?z0 ?z1 ?z2 ?z3 ?z4 ?z5 ?z6 ?z7 ?z8 ?z9 ?z10 ?z11 ?z12 ?z13 ?z14 ?hcL
  (case u1|u2|u3|u4|u5|u6|u7|u8|u9|u10|u11|u12|u13|u14|u15|u16|u17|u18|u19|u20|u21|u22|u23|u24|u25|u26|u27=>walk_at "u")
  (case a28|l28|c28|k28=>k_is)
  (case u29|u30|u31|u32|u33|u34|u35|u36|u37|u38|u39|u40|u41|u42|u43|u44|u45|u46|u47|u48|u49|u50|u51|u52|u53|u54|u55|u56|u57|u58=>walk_at "u")
  (case a59|l59|c59|k59|aC|a60|i60=>k_is)
  (case u60=>walk_at "v")
  (case pg|hd|po|sa|mk|kc|nM|nA|aCg|a61|i61=>k_is)
  (case u61=>walk_at "v")
  (case a62|i62|l62|dl62|c62|k62|a63|i63=>k_is)
  (case u63=>walk_at "v")
  (case pg_Cg|hd_Cg|po_Cg|sa_Cg|mk_Cg|kc_Cg|nP|aCs|a64|i64=>k_is)
  (case u64=>walk_at "v")
  (case pg_Cs|hd_Cs|po_Cs|sa_Cs|mk_Cs|kc_Cs|nSg|nSd|nSs|nSt|g1|g2|g3|g4|g5|z0|z1|z2|z3|z4|z5|z6|z7|z8|z9|z10|z11|z12|z13|z14=>k_is)
  (case hcL=>kernel_rfl)
#print axioms PySem.Challenge.cw_limbtables_k28_standings_changed_holds