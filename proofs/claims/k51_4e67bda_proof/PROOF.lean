import PyProof.Rows.All
import Wide.All
import OpenK.AllK
import Wide.FinOn
import Lean
import PyProof.EqAt
import PyProof.EqKinds
import PyProof.TupleCall
import PyProof.ZipIter
import PyProof.Rows.ZipGen
import PyProof.SumWalkG
import PyProof.DictCompW
import PyProof.Rows.SortWalk
import PyProof.Rows.CountFlat
import PyProof.FactsAll.int_6
import PyProof.AutoIntG2
import PyProof.RulesAs
import PyProof.Rows.TopTwo
import PyProof.ExcArgsOwn
import PyProof.ExcBaseAll.ValueError
import OpenK.KDescr
import KE.RegKIsAll
import PyProof.NeKinds
import PySem.Challenge.RW_limbtables_k51_drawings_that_are_not_goo
noncomputable section
abbrev Jaa:=@List.getElem?_eq_getElem
abbrev Jab:=@List.length_map
abbrev Jac:=@PySem.wpAny_bind
abbrev Jad:=@decide_eq_true
abbrev Jae:=@PySem.Heap.get?_push_of_some
abbrev Jaf:=@PySem.Heap.lt_size
abbrev Jag:=@List.mem_of_getElem?
abbrev Jah:=@Nat.le_refl
abbrev Jai:=@List.getElem?_append_left
abbrev Jaj:=@List.mem_append_right
abbrev Jak:=@List.size_toArray
abbrev Jal:=@List.getElem?_append_right
abbrev Jam:=@List.length_append
abbrev Jan:=@List.mem_map
abbrev Jao:=@Bool.false_ne_true
abbrev Jap:=@List.mem_filter
abbrev Jaq:=@List.mem_cons
abbrev Jar:=@List.mem_singleton
abbrev Jas:=@of_decide_eq_true
abbrev Jat:=@PySem.wpAny_pure
abbrev Jau:=@Nat.lt_of_lt_of_le
abbrev Jav:=@List.map_cons
abbrev Jaw:=@List.getElem?_eq_some_iff
abbrev Jax:=@Classical.byContradiction
abbrev Jay:=@List.lookup_cons
abbrev Jaz:=@PySem.wpAny_mono
abbrev Ja0:=@List.filter_sublist
abbrev Ja1:=@PySem.F.plainAttrs_list
abbrev Ja2:=@List.mem_cons_of_mem
abbrev Ja3:=@Nat.le_trans
abbrev Ja4:=@decide_eq_false
abbrev Ja5:=@List.map_append
abbrev Ja6:=@Nat.ne_of_lt
abbrev Ja7:=@List.Nodup.sublist
abbrev Ja8:=@PySem.Heap.get?_push_size
abbrev Ja9:=@List.length_filter_le
abbrev Jba:=@List.length_cons
abbrev Jbb:=@List.mem_iff_getElem
abbrev Jbc:=@List.getElem?_map
abbrev Jbd:=@List.length_take
abbrev Jbe:=@List.mem_append
abbrev Jbf:=@PyProof.Rows.boot_isinstance
abbrev Jbg:=@beq_iff_eq
abbrev Jbh:=@List.getD_eq_getElem?_getD
abbrev Jbi:=@Option.some.inj
abbrev Jbj:=@PySem.F.slot_list_append
abbrev Jbk:=@PySem.F.type_list_append
abbrev Jbl:=@PySem.boot_len
abbrev Jbm:=@Bool.eq_iff_iff
abbrev Jbn:=@PySem.wpAny_truthy_bool
abbrev Jbo:=@List.take_add_one
abbrev Jbp:=@Nat.lt_irrefl
abbrev Jbq:=@PySem.W.kia_one
abbrev Jbr:=@List.nodup_cons
abbrev Jbs:=@PySem.mem_of_lookup
abbrev Jbt:=@PySem.PassesOwn.never
abbrev Jbu:=@List.all_eq_true
abbrev Jbv:=@List.take_length
abbrev Jbw:=@decide_eq_true_iff
abbrev Jbx:=@Bool.and_eq_true
abbrev Jby:=@List.getElem_mem
abbrev Jbz:=@Option.isSome_iff_exists
abbrev Jb0:=@List.mem_cons_self
abbrev Jb1:=@PySem.wpAny_standAt
abbrev Jb2:=@PySem.Heap.get?_update_other
abbrev Jb3:=@List.filterMap_cons
abbrev Jb4:=@PySem.wpAny_holding
abbrev Jb5:=@List.getElem?_eq_none
abbrev Jb6:=@Nat.zero_le
abbrev Jb7:=@Ne.symm
abbrev Jb8:=@Nat.le_of_succ_le
abbrev Jb9:=@PyProof.Rows.callWith_type1
abbrev Jca:=@Int.toNat_of_nonneg
abbrev Jcb:=@List.cons.injEq
abbrev Jcc:=@PySem.W.cellsFrom_some
abbrev Jcd:=@Nat.le_of_lt
abbrev Jce:=@List.length_replicate
abbrev Jcf:=@List.filter_append
abbrev Jcg:=@List.mem_range
abbrev Jch:=@PySem.wpAny_passesOwn
abbrev Jci:=@PySem.wpAny_comprehension_free
abbrev Jcj:=@List.map_map
abbrev Jck:=@beq_eq_false_iff_ne
abbrev Jcl:=@if_true
abbrev Jcm:=@List.all_cons
abbrev Jcn:=@List.eraseIdx_cons_succ
abbrev Jco:=@List.length_drop
abbrev Jcp:=@decide_eq_decide
abbrev Jcq:=@PySem.Heap.size_push
abbrev Jcr:=@PySem.wpAny_Call_Name_kw
abbrev Jcs:=@List.count_pos_iff
abbrev Jct:=@List.find?_cons
abbrev Jcu:=@PySem.wpAny_newObj_type
abbrev Jcv:=@List.any_cons
abbrev Jcw:=@List.length_range
abbrev Jcx:=@PySem.wpAny_loadPart_at
abbrev Jcy:=@Array.getElem?_eq_some_iff
abbrev Jcz:=@List.mem_append_left
abbrev Jc0:=@PyProof.Rows.boot_list
abbrev Jc1:=@congrArg
abbrev Jc2:=@List.map_congr_left
abbrev Jc3:=@List.length_erase_of_mem
abbrev Jc4:=@PySem.wpAny_execs_nil
abbrev Jc5:=@PySem.W.callWith_K
abbrev Jc6:=@List.getElem?_replicate
abbrev Jc7:=@Bool.or_eq_true
abbrev Jc8:=@PySem.Obj.data_mapFields
abbrev Jc9:=@Int.emod_lt_of_pos
abbrev Jda:=@List.eraseIdxIfInBounds_toArray
abbrev Jdb:=@List.filter_congr
abbrev Jdc:=@List.nodup_append
abbrev Jdd:=@Int.toNat_natCast
abbrev Jde:=@Int.mul_nonneg
abbrev Jdf:=@Nat.ne_of_gt
abbrev Jdg:=@PySem.W.methodCall_KW
abbrev Jdh:=@PySem.codeAny_mono
abbrev Jdi:=@PySem.Heap.get?_update_self
abbrev Jdj:=@Nat.le_add_right
abbrev Jdk:=@List.mem_flatten
abbrev Jdl:=@Bool.true_and
abbrev Jdm:=@Array.length_toList
abbrev Jdn:=@PySem.W.plainGet_of
abbrev Jdo:=@List.append_nil
abbrev Jdp:=@List.of_mem_zip
abbrev Jdq:=@Option.map_some
abbrev Jdr:=@List.take_succ_cons
abbrev Jds:=@List.count_cons
abbrev Jdt:=@Int.mul_ne_zero
abbrev Jdu:=@Int.emod_nonneg
abbrev Jdv:=@List.range_succ
abbrev Jdw:=@List.mem_filterMap
abbrev Jdx:=@Nat.lt_of_le_of_lt
abbrev Jdy:=@PySem.SeqAt.EqAt.of_refs
abbrev Jdz:=@Bool.false_eq_true
abbrev Jd0:=@List.contains_cons
abbrev Jd1:=@Bool.false_and
abbrev Jd2:=@PySem.wpAny_nameGoes
abbrev Jd3:=@PySem.wpAny_pyIter_list
abbrev Jd4:=@List.take_sublist
abbrev Jd5:=@Int.gcd_dvd_right
abbrev Jd6:=@PySem.Paired.length
abbrev Jd7:=@PyProof.Rows.boot_all
abbrev Jd8:=@PySem.call_meets
set_option compiler.postponeCompile true
set_option bootstrap.genMatcherCode false
set_option genSizeOf false
set_option Elab.async false
set_option linter.all false
namespace L2
theorem Zmk {p f1 f2 f3 f4 f5 f6 f7 f8 f9:Prop} {G:Prop} (h:p/\f1/\f2/\f3/\f4/\f5/\f6/\f7/\f8/\f9) (f:p->f1->f2->f3->f4->f5->f6->f7->f8->f9->G):G:=let ⟨h0,h1,h2,h3,h4,h5,h6,h7,h8,h9⟩:=h; f h0 h1 h2 h3 h4 h5 h6 h7 h8 h9
theorem Zav {p f1 f2:Prop} {G:Prop} (h:p/\f1/\f2) (f:p->f1->f2->G):G:=let ⟨h0,h1,h2⟩:=h; f h0 h1 h2
theorem Zbh {p f1 f2 f3:Prop} {G:Prop} (h:p/\f1/\f2/\f3) (f:p->f1->f2->f3->G):G:=let ⟨h0,h1,h2,h3⟩:=h; f h0 h1 h2 h3
theorem Zd7 {p f1 f2 f3 f4:Prop} {G:Prop} (h:p/\f1/\f2/\f3/\f4) (f:p->f1->f2->f3->f4->G):G:=let ⟨h0,h1,h2,h3,h4⟩:=h; f h0 h1 h2 h3 h4
theorem Zfe {p f1 f2 f3 f4 f5:Prop} {G:Prop} (h:p/\f1/\f2/\f3/\f4/\f5) (f:p->f1->f2->f3->f4->f5->G):G:=let ⟨h0,h1,h2,h3,h4,h5⟩:=h; f h0 h1 h2 h3 h4 h5
theorem Zjq {p f1 f2 f3 f4 f5 f6:Prop} {G:Prop} (h:p/\f1/\f2/\f3/\f4/\f5/\f6) (f:p->f1->f2->f3->f4->f5->f6->G):G:=let ⟨h0,h1,h2,h3,h4,h5,h6⟩:=h; f h0 h1 h2 h3 h4 h5 h6
theorem xE0_8 {p f1 f2 f3 f4 f5 f6 f7:Prop} {G:Prop} (h:p/\f1/\f2/\f3/\f4/\f5/\f6/\f7) (f:p->f1->f2->f3->f4->f5->f6->f7->G):G:=let ⟨h0,h1,h2,h3,h4,h5,h6,h7⟩:=h; f h0 h1 h2 h3 h4 h5 h6 h7
theorem xE11_2 {A B C D E F I J K L M:Type} {p f1:A->B->C->D->E->F->I->J->K->L->M->Prop} {G:Prop} (h:∃ a b c d e i j k l m n,p a b c d e i j k l m n/\f1 a b c d e i j k l m n) (f:∀ a b c d e i j k l m n,p a b c d e i j k l m n->f1 a b c d e i j k l m n->G):G:=let ⟨a,b,c,d,e,i,j,k,l,m,n,h0,h1⟩:=h; f a b c d e i j k l m n h0 h1
theorem xE11_4 {A B C D E F I J K L M:Type} {p f1 f2 f3:A->B->C->D->E->F->I->J->K->L->M->Prop} {G:Prop} (h:∃ a b c d e i j k l m n,p a b c d e i j k l m n/\f1 a b c d e i j k l m n/\f2 a b c d e i j k l m n/\f3 a b c d e i j k l m n) (f:∀ a b c d e i j k l m n,p a b c d e i j k l m n->f1 a b c d e i j k l m n->f2 a b c d e i j k l m n->f3 a b c d e i j k l m n->G):G:=let ⟨a,b,c,d,e,i,j,k,l,m,n,h0,h1,h2,h3⟩:=h; f a b c d e i j k l m n h0 h1 h2 h3
theorem xE14_2 {A B C D E F I J K L M N O P:Type} {p f1:A->B->C->D->E->F->I->J->K->L->M->N->O->P->Prop} {G:Prop} (h:∃ a b c d e i j k l m n o q r,p a b c d e i j k l m n o q r/\f1 a b c d e i j k l m n o q r) (f:∀ a b c d e i j k l m n o q r,p a b c d e i j k l m n o q r->f1 a b c d e i j k l m n o q r->G):G:=let ⟨a,b,c,d,e,i,j,k,l,m,n,o,q,r,h0,h1⟩:=h; f a b c d e i j k l m n o q r h0 h1
theorem xE14_4 {A B C D E F I J K L M N O P:Type} {p f1 f2 f3:A->B->C->D->E->F->I->J->K->L->M->N->O->P->Prop} {G:Prop} (h:∃ a b c d e i j k l m n o q r,p a b c d e i j k l m n o q r/\f1 a b c d e i j k l m n o q r/\f2 a b c d e i j k l m n o q r/\f3 a b c d e i j k l m n o q r) (f:∀ a b c d e i j k l m n o q r,p a b c d e i j k l m n o q r->f1 a b c d e i j k l m n o q r->f2 a b c d e i j k l m n o q r->f3 a b c d e i j k l m n o q r->G):G:=let ⟨a,b,c,d,e,i,j,k,l,m,n,o,q,r,h0,h1,h2,h3⟩:=h; f a b c d e i j k l m n o q r h0 h1 h2 h3
theorem Zrd {A B C D E F I J K L M N O P Q R S:Type} {p f1 f2 f3:A->B->C->D->E->F->I->J->K->L->M->N->O->P->Q->R->S->Prop} {G:Prop} (h:∃ a b c d e i j k l m n o q r s t u,p a b c d e i j k l m n o q r s t u/\f1 a b c d e i j k l m n o q r s t u/\f2 a b c d e i j k l m n o q r s t u/\f3 a b c d e i j k l m n o q r s t u) (f:∀ a b c d e i j k l m n o q r s t u,p a b c d e i j k l m n o q r s t u->f1 a b c d e i j k l m n o q r s t u->f2 a b c d e i j k l m n o q r s t u->f3 a b c d e i j k l m n o q r s t u->G):G:=let ⟨a,b,c,d,e,i,j,k,l,m,n,o,q,r,s,t,u,h0,h1,h2,h3⟩:=h; f a b c d e i j k l m n o q r s t u h0 h1 h2 h3
theorem xE18_2 {A B C D E F I J K L M N O P Q R S T:Type} {p f1:A->B->C->D->E->F->I->J->K->L->M->N->O->P->Q->R->S->T->Prop} {G:Prop} (h:∃ a b c d e i j k l m n o q r s t u v,p a b c d e i j k l m n o q r s t u v/\f1 a b c d e i j k l m n o q r s t u v) (f:∀ a b c d e i j k l m n o q r s t u v,p a b c d e i j k l m n o q r s t u v->f1 a b c d e i j k l m n o q r s t u v->G):G:=let ⟨a,b,c,d,e,i,j,k,l,m,n,o,q,r,s,t,u,v,h0,h1⟩:=h; f a b c d e i j k l m n o q r s t u v h0 h1
theorem xE18_3 {A B C D E F I J K L M N O P Q R S T:Type} {p f1 f2:A->B->C->D->E->F->I->J->K->L->M->N->O->P->Q->R->S->T->Prop} {G:Prop} (h:∃ a b c d e i j k l m n o q r s t u v,p a b c d e i j k l m n o q r s t u v/\f1 a b c d e i j k l m n o q r s t u v/\f2 a b c d e i j k l m n o q r s t u v) (f:∀ a b c d e i j k l m n o q r s t u v,p a b c d e i j k l m n o q r s t u v->f1 a b c d e i j k l m n o q r s t u v->f2 a b c d e i j k l m n o q r s t u v->G):G:=let ⟨a,b,c,d,e,i,j,k,l,m,n,o,q,r,s,t,u,v,h0,h1,h2⟩:=h; f a b c d e i j k l m n o q r s t u v h0 h1 h2
theorem xE18_4 {A B C D E F I J K L M N O P Q R S T:Type} {p f1 f2 f3:A->B->C->D->E->F->I->J->K->L->M->N->O->P->Q->R->S->T->Prop} {G:Prop} (h:∃ a b c d e i j k l m n o q r s t u v,p a b c d e i j k l m n o q r s t u v/\f1 a b c d e i j k l m n o q r s t u v/\f2 a b c d e i j k l m n o q r s t u v/\f3 a b c d e i j k l m n o q r s t u v) (f:∀ a b c d e i j k l m n o q r s t u v,p a b c d e i j k l m n o q r s t u v->f1 a b c d e i j k l m n o q r s t u v->f2 a b c d e i j k l m n o q r s t u v->f3 a b c d e i j k l m n o q r s t u v->G):G:=let ⟨a,b,c,d,e,i,j,k,l,m,n,o,q,r,s,t,u,v,h0,h1,h2,h3⟩:=h; f a b c d e i j k l m n o q r s t u v h0 h1 h2 h3
theorem Zad {A:Type} {p f1:A->Prop} {G:Prop} (h:∃ a,p a/\f1 a) (f:∀ a,p a->f1 a->G):G:=let ⟨a,h0,h1⟩:=h; f a h0 h1
theorem Zao {A:Type} {p f1 f2:A->Prop} {G:Prop} (h:∃ a,p a/\f1 a/\f2 a) (f:∀ a,p a->f1 a->f2 a->G):G:=let ⟨a,h0,h1,h2⟩:=h; f a h0 h1 h2
theorem Zpk {A:Type} {p f1 f2 f3:A->Prop} {G:Prop} (h:∃ a,p a/\f1 a/\f2 a/\f3 a) (f:∀ a,p a->f1 a->f2 a->f3 a->G):G:=let ⟨a,h0,h1,h2,h3⟩:=h; f a h0 h1 h2 h3
theorem Zmj {A:Type} {p f1 f2 f3 f4:A->Prop} {G:Prop} (h:∃ a,p a/\f1 a/\f2 a/\f3 a/\f4 a) (f:∀ a,p a->f1 a->f2 a->f3 a->f4 a->G):G:=let ⟨a,h0,h1,h2,h3,h4⟩:=h; f a h0 h1 h2 h3 h4
theorem xE1_6 {A:Type} {p f1 f2 f3 f4 f5:A->Prop} {G:Prop} (h:∃ a,p a/\f1 a/\f2 a/\f3 a/\f4 a/\f5 a) (f:∀ a,p a->f1 a->f2 a->f3 a->f4 a->f5 a->G):G:=let ⟨a,h0,h1,h2,h3,h4,h5⟩:=h; f a h0 h1 h2 h3 h4 h5
theorem xE2_1 {A B:Type} {p:A->B->Prop} {G:Prop} (h:∃ a b,p a b) (f:∀ a b,p a b->G):G:=let ⟨a,b,h0⟩:=h; f a b h0
theorem Zbo {A B:Type} {p f1:A->B->Prop} {G:Prop} (h:∃ a b,p a b/\f1 a b) (f:∀ a b,p a b->f1 a b->G):G:=let ⟨a,b,h0,h1⟩:=h; f a b h0 h1
theorem Zca {A B:Type} {p f1 f2:A->B->Prop} {G:Prop} (h:∃ a b,p a b/\f1 a b/\f2 a b) (f:∀ a b,p a b->f1 a b->f2 a b->G):G:=let ⟨a,b,h0,h1,h2⟩:=h; f a b h0 h1 h2
theorem Zhz {A B:Type} {p f1 f2 f3:A->B->Prop} {G:Prop} (h:∃ a b,p a b/\f1 a b/\f2 a b/\f3 a b) (f:∀ a b,p a b->f1 a b->f2 a b->f3 a b->G):G:=let ⟨a,b,h0,h1,h2,h3⟩:=h; f a b h0 h1 h2 h3
theorem Zis {A B:Type} {p f1 f2 f3 f4:A->B->Prop} {G:Prop} (h:∃ a b,p a b/\f1 a b/\f2 a b/\f3 a b/\f4 a b) (f:∀ a b,p a b->f1 a b->f2 a b->f3 a b->f4 a b->G):G:=let ⟨a,b,h0,h1,h2,h3,h4⟩:=h; f a b h0 h1 h2 h3 h4
theorem Zln {A B:Type} {p f1 f2 f3 f4 f5:A->B->Prop} {G:Prop} (h:∃ a b,p a b/\f1 a b/\f2 a b/\f3 a b/\f4 a b/\f5 a b) (f:∀ a b,p a b->f1 a b->f2 a b->f3 a b->f4 a b->f5 a b->G):G:=let ⟨a,b,h0,h1,h2,h3,h4,h5⟩:=h; f a b h0 h1 h2 h3 h4 h5
theorem xE3_1 {A B C:Type} {p:A->B->C->Prop} {G:Prop} (h:∃ a b c,p a b c) (f:∀ a b c,p a b c->G):G:=let ⟨a,b,c,h0⟩:=h; f a b c h0
theorem Zd6 {A B C:Type} {p f1:A->B->C->Prop} {G:Prop} (h:∃ a b c,p a b c/\f1 a b c) (f:∀ a b c,p a b c->f1 a b c->G):G:=let ⟨a,b,c,h0,h1⟩:=h; f a b c h0 h1
theorem Zir {A B C:Type} {p f1 f2:A->B->C->Prop} {G:Prop} (h:∃ a b c,p a b c/\f1 a b c/\f2 a b c) (f:∀ a b c,p a b c->f1 a b c->f2 a b c->G):G:=let ⟨a,b,c,h0,h1,h2⟩:=h; f a b c h0 h1 h2
theorem Zb1 {A B C:Type} {p f1 f2 f3:A->B->C->Prop} {G:Prop} (h:∃ a b c,p a b c/\f1 a b c/\f2 a b c/\f3 a b c) (f:∀ a b c,p a b c->f1 a b c->f2 a b c->f3 a b c->G):G:=let ⟨a,b,c,h0,h1,h2,h3⟩:=h; f a b c h0 h1 h2 h3
theorem Zhy {A B C D:Type} {p f1:A->B->C->D->Prop} {G:Prop} (h:∃ a b c d,p a b c d/\f1 a b c d) (f:∀ a b c d,p a b c d->f1 a b c d->G):G:=let ⟨a,b,c,d,h0,h1⟩:=h; f a b c d h0 h1
theorem xE4_3 {A B C D:Type} {p f1 f2:A->B->C->D->Prop} {G:Prop} (h:∃ a b c d,p a b c d/\f1 a b c d/\f2 a b c d) (f:∀ a b c d,p a b c d->f1 a b c d->f2 a b c d->G):G:=let ⟨a,b,c,d,h0,h1,h2⟩:=h; f a b c d h0 h1 h2
theorem Zcu {A B C D:Type} {p f1 f2 f3:A->B->C->D->Prop} {G:Prop} (h:∃ a b c d,p a b c d/\f1 a b c d/\f2 a b c d/\f3 a b c d) (f:∀ a b c d,p a b c d->f1 a b c d->f2 a b c d->f3 a b c d->G):G:=let ⟨a,b,c,d,h0,h1,h2,h3⟩:=h; f a b c d h0 h1 h2 h3
theorem xE5_2 {A B C D E:Type} {p f1:A->B->C->D->E->Prop} {G:Prop} (h:∃ a b c d e,p a b c d e/\f1 a b c d e) (f:∀ a b c d e,p a b c d e->f1 a b c d e->G):G:=let ⟨a,b,c,d,e,h0,h1⟩:=h; f a b c d e h0 h1
theorem xE5_3 {A B C D E:Type} {p f1 f2:A->B->C->D->E->Prop} {G:Prop} (h:∃ a b c d e,p a b c d e/\f1 a b c d e/\f2 a b c d e) (f:∀ a b c d e,p a b c d e->f1 a b c d e->f2 a b c d e->G):G:=let ⟨a,b,c,d,e,h0,h1,h2⟩:=h; f a b c d e h0 h1 h2
theorem Zct {A B C D E:Type} {p f1 f2 f3:A->B->C->D->E->Prop} {G:Prop} (h:∃ a b c d e,p a b c d e/\f1 a b c d e/\f2 a b c d e/\f3 a b c d e) (f:∀ a b c d e,p a b c d e->f1 a b c d e->f2 a b c d e->f3 a b c d e->G):G:=let ⟨a,b,c,d,e,h0,h1,h2,h3⟩:=h; f a b c d e h0 h1 h2 h3
theorem xE6_2 {A B C D E F:Type} {p f1:A->B->C->D->E->F->Prop} {G:Prop} (h:∃ a b c d e i,p a b c d e i/\f1 a b c d e i) (f:∀ a b c d e i,p a b c d e i->f1 a b c d e i->G):G:=let ⟨a,b,c,d,e,i,h0,h1⟩:=h; f a b c d e i h0 h1
theorem Zpj {A B C D E F:Type} {p f1 f2 f3:A->B->C->D->E->F->Prop} {G:Prop} (h:∃ a b c d e i,p a b c d e i/\f1 a b c d e i/\f2 a b c d e i/\f3 a b c d e i) (f:∀ a b c d e i,p a b c d e i->f1 a b c d e i->f2 a b c d e i->f3 a b c d e i->G):G:=let ⟨a,b,c,d,e,i,h0,h1,h2,h3⟩:=h; f a b c d e i h0 h1 h2 h3
theorem xE7_2 {A B C D E F I:Type} {p f1:A->B->C->D->E->F->I->Prop} {G:Prop} (h:∃ a b c d e i j,p a b c d e i j/\f1 a b c d e i j) (f:∀ a b c d e i j,p a b c d e i j->f1 a b c d e i j->G):G:=let ⟨a,b,c,d,e,i,j,h0,h1⟩:=h; f a b c d e i j h0 h1
theorem Zmi {A B C D E F I:Type} {p f1 f2 f3:A->B->C->D->E->F->I->Prop} {G:Prop} (h:∃ a b c d e i j,p a b c d e i j/\f1 a b c d e i j/\f2 a b c d e i j/\f3 a b c d e i j) (f:∀ a b c d e i j,p a b c d e i j->f1 a b c d e i j->f2 a b c d e i j->f3 a b c d e i j->G):G:=let ⟨a,b,c,d,e,i,j,h0,h1,h2,h3⟩:=h; f a b c d e i j h0 h1 h2 h3
theorem xE8_2 {A B C D E F I J:Type} {p f1:A->B->C->D->E->F->I->J->Prop} {G:Prop} (h:∃ a b c d e i j k,p a b c d e i j k/\f1 a b c d e i j k) (f:∀ a b c d e i j k,p a b c d e i j k->f1 a b c d e i j k->G):G:=let ⟨a,b,c,d,e,i,j,k,h0,h1⟩:=h; f a b c d e i j k h0 h1
theorem xE8_4 {A B C D E F I J:Type} {p f1 f2 f3:A->B->C->D->E->F->I->J->Prop} {G:Prop} (h:∃ a b c d e i j k,p a b c d e i j k/\f1 a b c d e i j k/\f2 a b c d e i j k/\f3 a b c d e i j k) (f:∀ a b c d e i j k,p a b c d e i j k->f1 a b c d e i j k->f2 a b c d e i j k->f3 a b c d e i j k->G):G:=let ⟨a,b,c,d,e,i,j,k,h0,h1,h2,h3⟩:=h; f a b c d e i j k h0 h1 h2 h3
theorem xE9_2 {A B C D E F I J K:Type} {p f1:A->B->C->D->E->F->I->J->K->Prop} {G:Prop} (h:∃ a b c d e i j k l,p a b c d e i j k l/\f1 a b c d e i j k l) (f:∀ a b c d e i j k l,p a b c d e i j k l->f1 a b c d e i j k l->G):G:=let ⟨a,b,c,d,e,i,j,k,l,h0,h1⟩:=h; f a b c d e i j k l h0 h1
theorem Zpi {A B C D E F I J K:Type} {p f1 f2:A->B->C->D->E->F->I->J->K->Prop} {G:Prop} (h:∃ a b c d e i j k l,p a b c d e i j k l/\f1 a b c d e i j k l/\f2 a b c d e i j k l) (f:∀ a b c d e i j k l,p a b c d e i j k l->f1 a b c d e i j k l->f2 a b c d e i j k l->G):G:=let ⟨a,b,c,d,e,i,j,k,l,h0,h1,h2⟩:=h; f a b c d e i j k l h0 h1 h2
theorem xI11_1 {A B C D E F I J K L M:Type} {p:A->B->C->D->E->F->I->J->K->L->M->Prop} (a:A) (b:B) (c:C) (d:D) (e:E) (i:F) (j:I) (k:J) (l:K) (m:L) (n:M) (h0:p a b c d e i j k l m n):∃ a b c d e i j k l m n,p a b c d e i j k l m n:=⟨a,b,c,d,e,i,j,k,l,m,n,h0⟩
theorem xI14_1 {A B C D E F I J K L M N O P:Type} {p:A->B->C->D->E->F->I->J->K->L->M->N->O->P->Prop} (a:A) (b:B) (c:C) (d:D) (e:E) (i:F) (j:I) (k:J) (l:K) (m:L) (n:M) (o:N) (q:O) (r:P) (h0:p a b c d e i j k l m n o q r):∃ a b c d e i j k l m n o q r,p a b c d e i j k l m n o q r:=⟨a,b,c,d,e,i,j,k,l,m,n,o,q,r,h0⟩
theorem xI17_1 {A B C D E F I J K L M N O P Q R S:Type} {p:A->B->C->D->E->F->I->J->K->L->M->N->O->P->Q->R->S->Prop} (a:A) (b:B) (c:C) (d:D) (e:E) (i:F) (j:I) (k:J) (l:K) (m:L) (n:M) (o:N) (q:O) (r:P) (s:Q) (t:R) (u:S) (h0:p a b c d e i j k l m n o q r s t u):∃ a b c d e i j k l m n o q r s t u,p a b c d e i j k l m n o q r s t u:=⟨a,b,c,d,e,i,j,k,l,m,n,o,q,r,s,t,u,h0⟩
theorem xI18_1 {A B C D E F I J K L M N O P Q R S T:Type} {p:A->B->C->D->E->F->I->J->K->L->M->N->O->P->Q->R->S->T->Prop} (a:A) (b:B) (c:C) (d:D) (e:E) (i:F) (j:I) (k:J) (l:K) (m:L) (n:M) (o:N) (q:O) (r:P) (s:Q) (t:R) (u:S) (v:T) (h0:p a b c d e i j k l m n o q r s t u v):∃ a b c d e i j k l m n o q r s t u v,p a b c d e i j k l m n o q r s t u v:=⟨a,b,c,d,e,i,j,k,l,m,n,o,q,r,s,t,u,v,h0⟩
theorem Zaz {A B:Type} {p:A->B->Prop} (a:A) (b:B) (h0:p a b):∃ a b,p a b:=⟨a,b,h0⟩
theorem Zbg {A B C:Type} {p:A->B->C->Prop} (a:A) (b:B) (c:C) (h0:p a b c):∃ a b c,p a b c:=⟨a,b,c,h0⟩
theorem Ziq {A B C D:Type} {p:A->B->C->D->Prop} (a:A) (b:B) (c:C) (d:D) (h0:p a b c d):∃ a b c d,p a b c d:=⟨a,b,c,d,h0⟩
theorem Zip {A B C D E:Type} {p:A->B->C->D->E->Prop} (a:A) (b:B) (c:C) (d:D) (e:E) (h0:p a b c d e):∃ a b c d e,p a b c d e:=⟨a,b,c,d,e,h0⟩
theorem Zmh {A B C D E F:Type} {p:A->B->C->D->E->F->Prop} (a:A) (b:B) (c:C) (d:D) (e:E) (i:F) (h0:p a b c d e i):∃ a b c d e i,p a b c d e i:=⟨a,b,c,d,e,i,h0⟩
theorem xI7_1 {A B C D E F I:Type} {p:A->B->C->D->E->F->I->Prop} (a:A) (b:B) (c:C) (d:D) (e:E) (i:F) (j:I) (h0:p a b c d e i j):∃ a b c d e i j,p a b c d e i j:=⟨a,b,c,d,e,i,j,h0⟩
theorem xI8_1 {A B C D E F I J:Type} {p:A->B->C->D->E->F->I->J->Prop} (a:A) (b:B) (c:C) (d:D) (e:E) (i:F) (j:I) (k:J) (h0:p a b c d e i j k):∃ a b c d e i j k,p a b c d e i j k:=⟨a,b,c,d,e,i,j,k,h0⟩
theorem xI9_1 {A B C D E F I J K:Type} {p:A->B->C->D->E->F->I->J->K->Prop} (a:A) (b:B) (c:C) (d:D) (e:E) (i:F) (j:I) (k:J) (l:K) (h0:p a b c d e i j k l):∃ a b c d e i j k l,p a b c d e i j k l:=⟨a,b,c,d,e,i,j,k,l,h0⟩
end L2
-- CHANGE: your row's module here,as the last of these rows
set_option Elab.async false
set_option linter.all false
set_option maxRecDepth 100000
namespace L2
open PySem PySem.Spec PyProof.Rows
abbrev Key:=Sum Int Str
def Zl0:Key->Value->Bool
 | .inl k,v=>Value.isInt k v
 | .inr x,v=>Value.isStrOf x v
def keyH (w:World):Key->Int
 | .inl k=>hashInt k
 | .inr x=>hashStr w x
theorem Za4:∀ {k:Key} {v:Value},Zl0 k v = true->(∃ i t,k = Sum.inl i/\v = Value.int i t)\/(∃ x t,k = Sum.inr x/\v = Value.str x t)
 | .inl i,v,h=>by
  obtain ⟨t,e⟩:=Value.isInt_shape (k:=i) (v:=v) h;exact .inl ⟨i,t,rfl,e⟩
 | .inr x,v,h=>by
  obtain ⟨t,e⟩:=Value.isStrOf_shape (x:=x) (v:=v) h;exact .inr ⟨x,t,rfl,e⟩
theorem Zoc (i:Int) (t:Tok):Zl0 (.inl i) (.int i t) = true:=by simp [Zl0,Value.isInt]
theorem Zob (x:Str) (t:Tok):Zl0 (.inr x) (.str x t) = true:=by simp [Zl0,Value.isStrOf]
theorem key_ll (a b:Int):decide ((Sum.inl a:Key) = Sum.inl b) = (a == b):=by
 by_cases e:a = b
 .subst e; simp
 .have h:¬ (Sum.inl a:Key) = Sum.inl b:=λq=>e (Sum.inl.inj q);rw [Ja4 h];exact (Jck.mpr e).symm
theorem key_rr (a b:Str):decide ((Sum.inr a:Key) = Sum.inr b) = decide (a = b):=by
 by_cases e:a = b
 .subst e; simp
 .have h:¬ (Sum.inr a:Key) = Sum.inr b:=λq=>e (Sum.inr.inj q);rw [Ja4 h,Ja4 e]
theorem key_lr (a:Int) (b:Str):decide ((Sum.inl a:Key) = Sum.inr b) = false:=Ja4 (λq=>nomatch q)
theorem key_rl (a:Str) (b:Int):decide ((Sum.inr a:Key) = Sum.inl b) = false:=Ja4 (λq=>nomatch q)
def Zbs (prog:Program) (w:World):PySem.KeyKind prog w Key where
 is:=Zl0
 hash:=keyH w
 inj:=λv a b ha hb=>by
  rcases Za4 ha with ⟨i,t,rfl,rfl⟩ | ⟨x,t,rfl,rfl⟩
  .rcases Za4 hb with ⟨j,u,rfl,e⟩ | ⟨y,u,rfl,e⟩
   .injection e with e1 _; rw [e1]
   .exact nomatch e
  .rcases Za4 hb with ⟨j,u,rfl,e⟩ | ⟨y,u,rfl,e⟩
   .exact nomatch e
   .injection e with e1 _; rw [e1]
 byValue:=λk v h=>by
  rcases Za4 h with ⟨i,t,rfl,rfl⟩ | ⟨x,t,rfl,rfl⟩ <;> rfl
 pyHash:=λhv h=>by
  rcases Za4 hv with ⟨i,t,rfl,rfl⟩ | ⟨x,t,rfl,rfl⟩
  .exact wpAny_pyHash_int h
  .exact wpAny_pyHash_str h
 eqBool:=λhu hv h=>by
  rcases Za4 hu with ⟨i,t,rfl,rfl⟩ | ⟨x,t,rfl,rfl⟩
  .rcases Za4 hv with ⟨j,u,rfl,rfl⟩ | ⟨y,u,rfl,rfl⟩
   .rw [key_ll] at h; exact wpAny_eqBool_int h
   .rw [key_lr] at h; exact SeqAt.EqAt.int_str i t y u _ _ _ _ h
  .rcases Za4 hv with ⟨j,u,rfl,rfl⟩ | ⟨y,u,rfl,rfl⟩
   .rw [key_rl] at h; exact SeqAt.EqAt.str_int x t j u _ _ _ _ h
   .rw [key_rr] at h; exact wpAny_eqBool_str h
 «strs»:=λk x t v h=>by
  rcases Za4 h with ⟨i,u,rfl,e⟩ | ⟨y,u,rfl,e⟩
  .exact nomatch e
  .injection e with e1 _
   subst e1;cases v <;> rfl
theorem Zj7 (prog:Program) (w:World) (i:Int) (t:Tok):(Zbs prog w).is (.inl i) (.int i t) = true:=Zoc i t
theorem Zj6 (prog:Program) (w:World) (x:Str) (t:Tok):(Zbs prog w).is (.inr x) (.str x t) = true:=Zob x t
inductive V where
 | non | bl (b:Bool) | int (i:Int) | str (x:Str) | byt (b:Array UInt8) | flt (b:UInt64) | ref (a:Addr) | ty (n:String)
 deriving DecidableEq
def RelV:V->Value->Prop
 | .non,u=>u = Value.none
 | .bl b,u=>u = Value.bool b
 | .int i,u=>∃ t,u = Value.int i t
 | .str x,u=>∃ t,u = Value.str x t
 | .byt b,u=>∃ t,u = Value.bytes b t
 | .flt b,u=>∃ t,u = Value.float b t
 | .ref a,u=>u = Value.ref a
 | .ty n,u=>u = Value.type n
abbrev Vals:List V->List Value->Prop:=Paired RelV
theorem Vals.length {xs:List V} {us:List Value} (r:Vals xs us):xs.length = us.length:=Jd6 r
theorem Vals.get:∀ {xs:List V} {us:List Value} {i:Nat} {x:V},Vals xs us->xs[i]? = some x->∃ u,us[i]? = some u/\RelV x u
 | _,_,_,_,.nil,e=>by simp at e
 | _,_,0,_,.cons r _,e=>by simp at e; subst e; exact ⟨_,rfl,r⟩
 | _,_,i + 1,x,.cons _ t,e=>by
  refine Zad (Vals.get (i:=i) (x:=x) t (by simpa using e)) λu h1 h2=>?_;exact ⟨u,by simpa using h1,h2⟩
theorem Vals.set {x:V} {u:Value} (r:RelV x u):∀ {xs:List V} {us:List Value} (i:Nat),Vals xs us->Vals (xs.set i x) (us.set i u)
 | _,_,_,.nil=>.nil
 | _,_,0,.cons _ t=>.cons r t
 | _,_,i + 1,.cons q t=>.cons q (Vals.set r i t)
theorem Vals.append:∀ {xs ys:List V} {us ws:List Value},Vals xs us->Vals ys ws->Vals (xs ++ ys) (us ++ ws)
 | _,_,_,_,.nil,s=>s
 | _,_,_,_,.cons r t,s=>.cons r (Vals.append t s)
theorem Vals.take:∀ {xs:List V} {us:List Value} (n:Nat),Vals xs us->Vals (xs.take n) (us.take n)
 | _,_,0,_=>.nil
 | _,_,_ + 1,.nil=>.nil
 | _,_,n + 1,.cons r t=>.cons r (Vals.take n t)
theorem Vals.drop:∀ {xs:List V} {us:List Value} (n:Nat),Vals xs us->Vals (xs.drop n) (us.drop n)
 | _,_,0,r=>r
 | _,_,_ + 1,.nil=>.nil
 | _,_,n + 1,.cons _ t=>Vals.drop n t
def RelO:Option V->Option Value->Prop
 | some v,some u=>RelV v u
 | none,none=>True
 | _,_=>False
def KV {κ:Type}:List (κ × V)->List (κ × Value)->Prop:=Paired λ(p:κ × V) (q:κ × Value)=>p.1 = q.1/\RelV p.2 q.2
def kV:Key->V
 | .inl i=>.int i
 | .inr x=>.str x
inductive HO where
  | lst (xs:List V)
  | tup (xs:List V)
  | dK (kvs:List (Key × V)) | dT (kvs:List (List Key × V))
  | set (S:Int->Bool) (n:Nat)
  | ins (C dx:Addr) (fs:List (Str × V))
  | own (x:Addr)
  | xd (fs:List (Str × V))
  | met (f x:Addr)
  | rng (lo hi:Int)
  | frz (o:Obj) (u:HO)
  | tbl (ps:Array Value)
  | ext (φ:Heap->Prop)
  | tab (l c:Int) (q:Str)
abbrev Hp:=Addr->Option HO
def upd (H:Hp) (a:Addr) (o:HO):Hp:=λb=>if b = a then some o else H b
theorem Zab {H:Hp} {a:Addr} {o:HO}:upd H a o a = some o:=by unfold upd; rw [if_pos rfl]
theorem Zaf {H:Hp} {a b:Addr} {o:HO} (h:b ≠ a):upd H a o b = H b:=by unfold upd; rw [if_neg h]
theorem Zea {H:Hp} {a b:Addr} {o u:HO} (h:H a = some o) (h':H b = some u) (d:o ≠ u):a ≠ b:=by
 intro e; subst e; rw [h] at h'; exact d (Jbi h')
theorem Zag {H:Hp} {a b:Addr} {o:HO} (h:H a = some o) (h':H b = none):a ≠ b:=by
 intro e; subst e; rw [h] at h'; cases h'
section
variable (P:Program) (w:World)
def ObjOk (H:Hp) (h:Heap) (a:Addr):HO->Prop
 | .lst xs=>xs.length<=sizeLine/\∃ (its:List Value) (n:Nat),Vals xs its/\h.get? a = some { cls:=.type "list",data:=.seq its.toArray n }
 | .tup xs=>xs.length<=sizeLine/\∃ its:List Value,Vals xs its/\IsTup h a its.toArray
 | .dK kvs=>kvs.length<=sizeLine/\(a == sysModules) = false/\∃ vs,KV kvs vs/\h.DictOf (Zbs P w) a vs
 | .dT kvs=>kvs.length<=sizeLine/\(a == sysModules) = false/\∃ xs:List (List Key × Addr × Value),
   Paired (λ(p:List Key × V) (q:List Key × Addr × Value)=>p.1 = q.1/\H q.2.1 = some (.tup (p.1.map kV))/\RelV p.2 q.2.2) kvs xs /\
   ∃ o es ep,h.get? a = some o/\o.ExactDict/\o.data = .dict es ep/\es.toList = xs.map (entryOfKey (tupleKind (Zbs P w)))/\(xs.map (·.1)).Nodup
 | .set S n=>h.SetOf (intKind P w) a S n
 | .ins C dx fs=>H dx = some (.own a)/\fs.length<=1000/\dx ≠ a/\h.get? a = some (PySem.W.instObj C dx) /\
   ∃ mA,h.Ns1 dx mA/\(∀ f,RelO (fs.lookup f) (mA f))/\PySem.Within mA (fs.map (·.1))
 | .own _=>∃ o,h.get? a = some o
 | .xd fs=>∃ mA,h.Ns1 a mA/\∀ f,RelO (fs.lookup f) (mA f)
 | .rng lo hi=>∃ t u v,h.get? a = some { cls:=.type "range",data:=.fields #[.int lo t,.int hi u,.int 1 v] }
 | .frz o u=>h.get? a = some o/\ObjOk H h a u
 | .tbl ps=>h.get? a = some { cls:=.none,data:=.fields ps }
 | .met f x=>h.get? a = some (PySem.W.methodObj (.ref f) (.ref x))
 | .ext φ=>φ h/\(∃ o,h.get? a = some o)/\∀ h1 h2:Heap,φ h1->(∀ o,h1.get? a = some o->h2.get? a = some o)->φ h2
 | .tab l c q=>h.get? a = some { cls:=.none,data:=.fields #[] }\/∃ c' oc vs t,h.get? a = some { cls:=.none,data:=.fields #[rawInt l,rawInt c,.ref c'] }/\c' ≠ a/\H c' = some (.frz oc (.own a))/\oc.data = .fields vs/\vs[1]? = some (.str q t)
def HOk (H:Hp) (h:Heap):Prop:=∀ a o,H a = some o->ObjOk P w H h a o
end
section
variable {P:Program} {w:World} {H H':Hp} {h h':Heap} {a:Addr} {o:HO}
theorem ObjOk.lt (x:ObjOk P w H h a o):a < h.objs.size:=by
 cases o with
 | lst xs=>obtain ⟨_,_,_,_,e⟩:=x; exact Jaf e
 | tup xs=>obtain ⟨_,_,_,p⟩:=x; exact p.lt
 | dK kvs=>obtain ⟨_,_,_,_,o,_,_,e,_⟩:=x; exact Jaf e
 | dT kvs=>obtain ⟨_,_,_,_,o,_,_,e,_⟩:=x; exact Jaf e
 | set S n=>obtain ⟨o,_,_,_,e,_⟩:=x; exact Jaf e
 | ins C dx fs=>obtain ⟨_,_,_,e,_⟩:=x; exact Jaf e
 | own y=>obtain ⟨_,e⟩:=x; exact Jaf e
 | xd fs=>obtain ⟨_,⟨_,_,_,e,_⟩,_⟩:=x; exact Jaf e
 | rng lo hi=>obtain ⟨_,_,_,e⟩:=x; exact Jaf e
 | frz ob u=>obtain ⟨e,_⟩:=x; exact Jaf e
 | tbl ps=>exact Jaf (show h.get? a = some _ from x)
 | met f y=>exact Jaf (show h.get? a = some _ from x)
 | ext φ=>obtain ⟨_,⟨_,e⟩,_⟩:=x; exact Jaf e
 | tab l c q=>
  rcases x with e | ⟨_,_,_,_,e,_⟩
  .exact Jaf e
  .exact Jaf e
theorem Paired.mapP {α β:Type} {F G:α->β->Prop}:∀ {l₁:List α} {l₂:List β},Paired F l₁ l₂->(∀ a b,F a b->G a b)->Paired G l₁ l₂
 | _,_,.nil,_=>.nil
 | _,_,.cons r t,f=>.cons (f _ _ r) (Paired.mapP t f)
theorem ObjOk.stay (x:ObjOk P w H h a o) (k:∀ b u,(b = a\/H b = some (.own a))->h.get? b = some u->h'.get? b = some u)
  (ho:∀ b,H b = some (.own a)->H' b = some (.own a)) (ht:∀ b xs,H b = some (.tup xs)->H' b = some (.tup xs)) (hz:∀ b o' u,H b = some (.frz o' u)->H' b = some (.frz o' u)):ObjOk P w H' h' a o:=by
 induction o with
 | lst xs=>obtain ⟨z,its,n,r,e⟩:=x; exact ⟨z,its,n,r,k _ _ (.inl rfl) e⟩
 | tup xs=>obtain ⟨z,its,r,ob,e,c⟩:=x; exact ⟨z,its,r,ob,k _ _ (.inl rfl) e,c⟩
 | dK kvs=>obtain ⟨z,y,vs,r,ob,es,ep,e,c⟩:=x; exact ⟨z,y,vs,r,ob,es,ep,k _ _ (.inl rfl) e,c⟩
 | dT kvs=>
  refine Zav x λz y e916=>?_;clear x;obtain ⟨xs,r,ob,es,ep,e,c⟩:=e916;exact ⟨z,y,xs,Paired.mapP r λp q z=>⟨z.1,ht _ _ z.2.1,z.2.2⟩,ob,es,ep,k _ _ (.inl rfl) e,c⟩
 | set S n=>obtain ⟨ob,es,ep,t,e,c⟩:=x; exact ⟨ob,es,ep,t,k _ _ (.inl rfl) e,c⟩
 | ins C dx fs=>
  refine Zd7 x λd z ne e e917=>?_;clear x;obtain ⟨mA,⟨od,es,ep,e2,c⟩,r⟩:=e917;exact ⟨ho _ d,z,ne,k _ _ (.inl rfl) e,mA,⟨od,es,ep,k _ _ (.inr d) e2,c⟩,r⟩
 | own y=>obtain ⟨ob,e⟩:=x; exact ⟨ob,k _ _ (.inl rfl) e⟩
 | xd fs=>obtain ⟨mA,⟨od,es,ep,e,c⟩,r⟩:=x; exact ⟨mA,⟨od,es,ep,k _ _ (.inl rfl) e,c⟩,r⟩
 | rng lo hi=>obtain ⟨t,u,v,e⟩:=x; exact ⟨t,u,v,k _ _ (.inl rfl) e⟩
 | frz ob u ih=>obtain ⟨e,q⟩:=x; exact ⟨k _ _ (.inl rfl) e,ih q⟩
 | tbl ps=>
  have e:h.get? a = some { cls:=.none,data:=.fields ps }:=x;show h'.get? a = some { cls:=.none,data:=.fields ps };exact k a _ (.inl rfl) e
 | met f y=>
  have e:h.get? a = some (PySem.W.methodObj (.ref f) (.ref y)):=x;show h'.get? a = some (PySem.W.methodObj (.ref f) (.ref y));exact k a _ (.inl rfl) e
 | ext φ=>obtain ⟨p,⟨o,e⟩,st⟩:=x; exact ⟨st _ _ p λo q=>k _ _ (.inl rfl) q,⟨o,k _ _ (.inl rfl) e⟩,st⟩
 | tab l c q=>
  rcases x with e | ⟨c',oc,vs,t,e,ne,e2,r⟩
  .exact .inl (k _ _ (.inl rfl) e)
  .exact .inr ⟨c',oc,vs,t,k _ _ (.inl rfl) e,ne,hz _ _ _ e2,r⟩
theorem HOk.lt (x:HOk P w H h) (e:H a = some o):a < h.objs.size:=(x a o e).lt
theorem HOk.fresh (x:HOk P w H h) (e:h.objs.size<=a):H a = none:=by
 cases q:H a with
 | none=>rfl
 | some u=>exact absurd (Jau (x.lt q) e) (Jbp _)
theorem HOk.kept (x:HOk P w H h) (k:∀ b u,h.get? b = some u->h'.get? b = some u):HOk P w H h':=λa o e=>
 (x a o e).stay (λb u _ q=>k b u q) (λ_ q=>q) (λ_ _ q=>q) λ_ _ _ q=>q
theorem HOk.laid (x:HOk P w H h) (k:∀ b u,h.get? b = some u->h'.get? b = some u) (hp:h.objs.size<=a) (new:ObjOk P w (upd H a o) h' a o):HOk P w (upd H a o) h':=λb u e=>by
 have hn:=x.fresh hp;by_cases hb:b = a
 .subst hb; rw [Zab] at e; cases e; exact new
 .rw [Zaf hb] at e;exact (x b u e).stay (λc v _ q=>k c v q) (λc q=>by rw [Zaf (Zag q hn)]; exact q) (λc xs q=>by rw [Zaf (Zag q hn)]; exact q) λc _ _ q=>by rw [Zaf (Zag q hn)]; exact q
end
def Rd (H:Hp) (a:Addr) (u:HO):Prop:=H a = some u\/∃ o,H a = some (.frz o u)
theorem Rd.ok {P:Program} {w:World} {H:Hp} {h:Heap} {a:Addr} {u:HO} (r:Rd H a u) (x:HOk P w H h):ObjOk P w H h a u:=by
 rcases r with r | ⟨o,r⟩
 .exact x a u r
 .obtain ⟨_,q⟩:=x a _ r;exact q
def Mut:Option HO->Prop
 | some (.lst _)=>True
 | some (.dK _)=>True
 | some (.dT _)=>True
 | some (.set _ _)=>True
 | some (.ins _ _ _)=>True
 | some (.ext _)=>True
 | some (.tab _ _ _)=>True
 | _=>False
section
variable {P:Program} {w:World} {H:Hp} {h h':Heap} {x e:Addr} {o':HO}
theorem HOk.write (ok:HOk P w H h) (mu:Mut (H x)) (he:e = x\/H e = some (.own x)) (k:∀ b u,b ≠ e->h.get? b = some u->h'.get? b = some u) (heo:∃ u,h'.get? e = some u)
  (new:ObjOk P w (upd H x o') h' x o'):HOk P w (upd H x o') h':=λb u q=>by
 have nown:∀ c y,H c = some (.own y)->c ≠ x:=λc y r z=>by subst z; rw [r] at mu; exact mu
 have ntup:∀ c xs,H c = some (.tup xs)->c ≠ x:=λc xs r z=>by subst z; rw [r] at mu; exact mu
 have nfrz:∀ c o' u',H c = some (.frz o' u')->c ≠ x:=λc o' u' r z=>by subst z; rw [r] at mu; exact mu
 by_cases hb:b = x
 .subst hb; rw [Zab] at q; cases q; exact new
 .rw [Zaf hb] at q;by_cases hbe:b = e
  .have q':H b = some (.own x):=by
    rcases he with z | z
    .exact absurd (hbe.trans z) hb
    .rw [hbe]; exact z
   rw [q] at q'; cases q';obtain ⟨v,hv⟩:=heo;exact ⟨v,by rw [hbe]; exact hv⟩
  .refine (ok b u q).stay (λc v hc r=>k c v ?_ r) (λc r=>by rw [Zaf (nown c b r)]; exact r) (λc xs r=>by rw [Zaf (ntup c xs r)]; exact r) λc o' u' r=>by rw [Zaf (nfrz c o' u' r)]; exact r
   rcases hc with rfl | hc
   .exact hbe
   .rintro rfl;rcases he with z | z
    .exact nown c b hc z
    .rw [hc] at z; cases z; exact hb rfl
end
structure Un (fs ex:List Addr) (H H':Hp) (h h':Heap):Prop where
 keep:∀ b o,h.get? b = some o->H b = none->b ∉ fs->b ∉ ex->h'.get? b = some o
 slot:∀ b o,h.get? b = some o->H b = none->b ∈ fs->b ∉ ex->∃ sl,h'.get? b = some { o with slots:=sl }
 free:∀ b o,h.get? b = some o->H b = none->b ∉ ex->H' b = none
 there:∀ b o,h.get? b = some o->b ∉ ex->∃ o',h'.get? b = some o'
 tups:∀ b xs,H b = some (.tup xs)->H' b = some (.tup xs)
 frzs:∀ b o u,H b = some (.frz o u)->H' b = some (.frz o u)
 tbls:∀ b ps,H b = some (.tbl ps)->∃ more,H' b = some (.tbl (ps ++ more))
section
variable {fs fs' ex ex':List Addr} {H H1 H2:Hp} {h h1 h2 h':Heap} {a x e:Addr} {o:HO}
theorem Un.any (u:Un fs ex H H1 h h1) {b:Addr} {ob:Obj} (q:h.get? b = some ob) (n:H b = none) (hx:b ∉ ex):∃ sl,h1.get? b = some { ob with slots:=sl }:=by
 by_cases hb:b ∈ fs
 .exact u.slot b ob q n hb hx
 .exact ⟨ob.slots,u.keep b ob q n hb hx⟩
theorem Un.kept (k:∀ b u,h.get? b = some u->h'.get? b = some u):Un fs ex H H h h':=
 ⟨λb ob q _ _ _=>k b ob q,λb ob q _ _ _=>⟨ob.slots,k b ob q⟩,λ_ _ _ n _=>n,λb ob q _=>⟨ob,k b ob q⟩,λ_ _ q=>q,λ_ _ _ q=>q,λ_ ps q=>⟨#[],by rw [q]; simp⟩⟩
theorem Un.refl:Un fs ex H H h h:=Un.kept λ_ _ q=>q
theorem Un.laid (k:∀ b u,h.get? b = some u->h'.get? b = some u) (hp:h.objs.size<=a) (hn:H a = none):Un fs ex H (upd H a o) h h' where
 keep:=λb u q _ _ _=>k b u q
 slot:=λb u q _ _ _=>⟨u.slots,k b u q⟩
 free:=λb u q n _=>by rw [Zaf (Ja6 (Jau (Jaf q) hp))]; exact n
 there:=λb u q _=>⟨u,k b u q⟩
 tups:=λb xs q=>by rw [Zaf (Zag q hn)]; exact q
 frzs:=λb u xs q=>by rw [Zaf (Zag q hn)]; exact q
 tbls:=λb ps q=>⟨#[],by rw [Zaf (Zag q hn),q]; simp⟩
theorem Un.write (mu:Mut (H x)) (he:e = x\/H e = some (.own x)) (k:∀ b u,b ≠ e->h.get? b = some u->h'.get? b = some u) (heo:∃ u,h'.get? e = some u):Un fs ex H (upd H x o) h h':=by
 have hx:∀ b,H b = none->b ≠ x:=λb n z=>by subst z; rw [n] at mu; exact mu
 have hb:∀ b,H b = none->b ≠ e:=λb n z=>by
  subst z;rcases he with r | r
  .exact hx b n r
  .rw [n] at r; cases r
 have hm:∀ b u,H b = some u->¬ Mut (some u)->b ≠ x:=λb u q nm z=>by subst z; rw [q] at mu; exact nm mu
 refine ⟨λb u q n _ _=>k b u (hb b n) q,λb u q n _ _=>⟨u.slots,k b u (hb b n) q⟩,λb u q n _=>by rw [Zaf (hx b n)]; exact n,λb u q _=>?_,
  λb xs q=>by rw [Zaf (hm b _ q λz=>z)]; exact q,λb u xs q=>by rw [Zaf (hm b _ q λz=>z)]; exact q,λb ps q=>⟨#[],by rw [Zaf (hm b _ q λz=>z),q]; simp⟩⟩
 by_cases hbe:b = e
 .subst hbe; exact heo
 .exact ⟨u,k b u hbe q⟩
end
def trk (h:Heap) (H:Hp):List Addr:=(List.range h.objs.size).filter λa=>(H a).isSome
def Zpf (h:Heap) (H:Hp):Heap:=PySem.W.hideAll h (trk h H)
theorem Zok (h:Heap) (H:Hp):(Zpf h H).objs.size = h.objs.size:=PySem.W.hideAll_size _ _
theorem Zqy {h:Heap} {H:Hp} {b:Addr} {o:Obj} (e:h.get? b = some o) (n:H b = none):(Zpf h H).get? b = some o:=
 PySem.W.hideAll_get _ e λhm=>by
  have q:(H b).isSome = true:=(Jap.mp hm).2;rw [n] at q; simp at q
theorem of_hidT {h:Heap} {H:Hp} {b:Addr} {o:Obj} (e:(Zpf h H).get? b = some o):h.get? b = some o/\H b = none:=by
 have e':h.get? b = some o:=PySem.W.of_hideAll (trk h H) e;refine ⟨e',?_⟩;cases q:H b with
 | none=>rfl
 | some x=>
  have hm:b ∈ trk h H:=Jap.mpr ⟨Jcg.mpr (Jaf e'),by simp [q]⟩;have z:(Zpf h H).get? b = none:=PySem.W.hideAll_none (trk h H) hm;rw [z] at e; cases e
def allNews (g h:Heap) (L:Addr):List (Addr × Obj):=(List.range h.objs.size).filterMap λa=>if a = L\/(g.get? a).isSome = true then none else (h.get? a).map λo=>(a,o)
def rest (g h:Heap) (L d:Addr):List (Addr × Obj):=(allNews g h L).filter λp=>decide (p.1 ≠ d)
structure Mod (K:PySem.W.Frag) (mg:Str->Option Value) (base:Heap):Prop where
 kin:K.In base
 glob:base.Ns mainGlobals mg
 blt:∃ mb,base.Ns builtinsNs mb/\∀ x:Str,x ≠ "__name__" -> mb x = bootBuiltins x
 nolimit:base.NoLimit
 seer:base.NoSeer
 bmain:∃ bm ob,mg "__builtins__" = some (.ref bm)/\bm ≠ builtinsNs/\base.get? bm = some ob/\ob.cls = .type "module" /\ ob.dict = some builtinsNs/\ob.data = .plain
def Seen (l:List Env):Prop:=∃ e r,l = e :: r/\e.scope.isGenerator = false/\e.scope.isCoroutine = false/\e.builtins = builtinsNs/\e.globals = mainGlobals
structure Cx where
 prog:Program
 w:World
 K:PySem.W.Frag
 mg:Str->Option Value
 base:Heap
 A:Around
 N:List Str
 s₀:Shared
 H₀:Hp
 env:Env
 outer:List Env
 stack:List Env
 ex:List Addr
 fn:Str->Bool
 calm:Bool
 pn:List (Addr × Obj)
 xe:Value->Shared->Prop
def frs (l:List Env):List Addr:=l.filterMap (·.frame)
abbrev Cx.fs (X:Cx):List Addr:=frs X.outer
def Vis (sc:Scope) (x:Str):Prop:=sc.names.lookup x = some .local\/sc.names.lookup x = some .cell\/sc.names.lookup x = some .free
def Loc (sc:Scope) (x:Str):Prop:=sc.names.lookup x = some .local\/sc.names.lookup x = some .cell
def Look (env:Env) (h:Heap) (m:Str->Option Value) (x:Str) (u:Value):Prop:=
 (env.kindOf x = some .local/\m x = some u)\/((env.kindOf x = some .cell\/env.kindOf x = some .free)/\∃ c,env.cells.lookup x = some c/\h.IsCell c (some u))
structure Cx.Ok (X:Cx):Prop where
 mod:Mod X.K X.mg X.base
 kind:X.env.scope.kind = .function
 glob:X.env.globals = mainGlobals
 blt:X.env.builtins = builtinsNs
 above:X.s₀.heap.objs.size<=X.env.locals
 inj:∀ x y c,X.env.cells.lookup x = some c->X.env.cells.lookup y = some c->x = y
 has:∀ x,(X.env.kindOf x = some .cell\/X.env.kindOf x = some .free)->∃ c,X.env.cells.lookup x = some c
 cab:∀ x c,X.fn x = true->X.env.cells.lookup x = some c->X.s₀.heap.objs.size<=c
 hd:X.calm = true->X.A.handled = none
 frames:X.A.frames = some X.stack
 stk:X.stack = X.outer\/(X.stack = X.env :: X.outer/\X.env.frame = some X.env.locals)
 exf:∀ b ∈ X.ex,b ≠ X.env.locals/\∀ x c,X.env.cells.lookup x = some c->c ≠ b
 bs:∀ b o,X.base.get? b = some o->X.s₀.heap.get? b = some o/\X.H₀ b = none
 bsz:X.base.objs.size<=X.s₀.heap.objs.size
 noex:∀ b o,X.base.get? b = some o->b ∉ X.ex
 exfs:∀ b ∈ X.ex,b ∉ X.fs
 funs:X.s₀.heap.FunFrames X.base X.outer
 frf:∀ b ∈ X.fs,X.H₀ b = none
 top:Seen X.stack
structure Inv (X:Cx) (pins:List (Addr × Obj)) (σ:List (Option V)) (H:Hp) (s:Shared):Prop where
 ok:X.Ok
 os:s.os = X.s₀.os
 bare:AllBare s.gens
 base:Un X.fs X.ex X.H₀ H X.s₀.heap s.heap
 loc:∃ m,s.heap.Ns X.env.locals m/\∀ (i:Nat) (x:Str) (v:V),X.N[i]? = some x->σ[i]? = some (some v)->Vis X.env.scope x->∃ u,RelV v u/\Look X.env s.heap m x u
 cell:∀ x c,X.env.cells.lookup x = some c->∃ v,s.heap.IsCell c v
 free:H X.env.locals = none
 freeC:∀ x c,X.env.cells.lookup x = some c->H c = none
 pin:∀ p ∈ X.pn ++ pins,s.heap.get? p.1 = some p.2/\H p.1 = none/\p.1 ≠ X.env.locals/\p.1 ∉ X.fs/\∀ v,p.2.data ≠ .cell v
 hok:HOk X.prog X.w H s.heap
 len:σ.length = X.N.length
section
variable {X:Cx} {pins:List (Addr × Obj)} {σ:List (Option V)} {H H':Hp} {s:Shared} {h':Heap}
theorem Cx.Ok.nofr (ok:X.Ok) {b:Addr} {o:Obj} (e:X.base.get? b = some o):b ∉ X.fs:=λhb=>by
 have:=(ok.funs.mem hb).1;rw [e] at this; cases this
theorem Inv.bs (I:Inv X pins σ H s):∀ b o,X.base.get? b = some o->s.heap.get? b = some o/\H b = none:=λb o e=>
 ⟨I.base.keep b o (I.ok.bs b o e).1 (I.ok.bs b o e).2 (I.ok.nofr e) (I.ok.noex b o e),I.base.free b o (I.ok.bs b o e).1 (I.ok.bs b o e).2 (I.ok.noex b o e)⟩
theorem Inv.bk (I:Inv X pins σ H s):∀ b o,X.base.get? b = some o->s.heap.get? b = some o:=λb o e=>(I.bs b o e).1
theorem Inv.mod (I:Inv X pins σ H s):Mod X.K X.mg X.base:=I.ok.mod
theorem Inv.kIn (I:Inv X pins σ H s):X.K.In s.heap:=I.ok.mod.kin.keeps I.bk
theorem Inv.lt (I:Inv X pins σ H s):X.env.locals < s.heap.objs.size:=let ⟨_,hn,_⟩:=I.loc; hn.lt
theorem Inv.sz (I:Inv X pins σ H s):X.s₀.heap.objs.size<=s.heap.objs.size:=Ja3 I.ok.above (Jcd I.lt)
theorem Inv.nofs (I:Inv X pins σ H s) {a:Addr} (h:s.heap.objs.size<=a):a ∉ X.fs:=λhb=>by
 obtain ⟨_,o,ho,_⟩:=I.ok.funs.mem hb;exact absurd (Jau (Jaf ho) (Ja3 I.sz h)) (Jbp _)
theorem Inv.cne (I:Inv X pins σ H s):∀ x c,X.env.cells.lookup x = some c->c ≠ X.env.locals:=λx c e z=>by
 obtain ⟨v,o,ho,hd⟩:=I.cell x c e;refine Zad I.loc λm e918 _=>?_;obtain ⟨o',es,ep,ho',hd',_⟩:=e918;rw [z,ho'] at ho; cases ho; rw [hd'] at hd; cases hd
theorem Inv.funs (I:Inv X pins σ H s):s.heap.FunFrames X.base X.outer:=by
 have all:∀ (l:List Env),(∀ b ∈ frs l,b ∈ X.fs)->X.s₀.heap.FunFrames X.base l->s.heap.FunFrames X.base l:=by
  intro l
  induction l with
  | nil=>intro _ _; trivial
  | cons env r ih=>
   intro hs hl;refine Zav hl λhk e919 hr=>?_;clear hl;obtain ⟨L,o,hf,hn,ho,hd⟩:=e919;have hL:L ∈ X.fs:=hs L (by unfold frs; rw [Jb3,hf]; exact Jb0);obtain ⟨sl,e⟩:=I.base.slot L o ho (I.ok.frf L hL) hL λz=>I.ok.exfs L z hL;exact ⟨hk,⟨L,_,hf,hn,e,hd⟩,ih (λb hb=>hs b (by unfold frs; rw [Jb3,hf]; exact Ja2 _ hb)) hr⟩
 exact all X.outer (λ_ hb=>hb) I.ok.funs
theorem Inv.stack (I:Inv X pins σ H s):s.heap.FunFrames X.base X.stack:=by
 rcases I.ok.stk with e | ⟨e,hf⟩
 .rw [e]; exact I.funs
 .rw [e];refine Zad I.loc λm hn _=>?_;refine .cons (by rw [I.ok.kind]; decide) hf hn ?_ I.funs;exact Heap.get?_none_of_le (Ja3 I.ok.bsz I.ok.above)
theorem Inv.stkSub (I:Inv X pins σ H s):∀ b ∈ frs X.stack,b ∈ X.env.locals :: X.fs:=λb hb=>by
 rcases I.ok.stk with e | ⟨e,hf⟩
 .rw [e] at hb; exact Ja2 _ hb
 .rw [e] at hb;unfold frs at hb;rw [Jb3,hf] at hb;exact hb
theorem Inv.stkFree (I:Inv X pins σ H s):∀ b ∈ frs X.stack,H b = none:=λb hb=>by
 rcases Jaq.mp (I.stkSub b hb) with e | hb
 .rw [e]; exact I.free
 .obtain ⟨_,o,ho,_⟩:=I.ok.funs.mem hb;exact I.base.free b o ho (I.ok.frf b hb) λz=>I.ok.exfs b z hb
theorem Inv.step {g':Array GenState} {t':Nat} {d':Drawn} {ch:List Addr} (I:Inv X pins σ H s)
  (hch:∀ b ∈ ch,(b ∈ X.ex\/X.s₀.heap.objs.size<=b)/\b ≠ X.env.locals/\(∀ x c,X.env.cells.lookup x = some c->c ≠ b)/\∀ p ∈ X.pn ++ pins,p.1 ≠ b)
  (keep:∀ b o,b ≠ X.env.locals->b ∉ X.fs->b ∉ ch->s.heap.get? b = some o->H b = none->h'.get? b = some o)
  (slot:∀ b o,b ≠ X.env.locals->b ∈ X.fs->b ∉ ch->s.heap.get? b = some o->H b = none->∃ sl,h'.get? b = some { o with slots:=sl }) (free:∀ b o,b ∉ ch->s.heap.get? b = some o->H b = none->H' b = none)
  (there:∀ b o,b ∉ ch->s.heap.get? b = some o->∃ o',h'.get? b = some o')
  (tups:∀ b xs,H b = some (.tup xs)->H' b = some (.tup xs)) (frzs:∀ b o u,H b = some (.frz o u)->H' b = some (.frz o u)) (tbls:∀ b ps,H b = some (.tbl ps)->∃ more,H' b = some (.tbl (ps ++ more)))
  (ns:∀ m,s.heap.Ns X.env.locals m->h'.Ns X.env.locals m) (hok:HOk X.prog X.w H' h') (hg:AllBare g'):
  Inv X pins σ H' { s with heap:=h',gens:=g',drawn:=d',toks:=t' }:=by
 have neL:∀ b o,X.s₀.heap.get? b = some o->b ≠ X.env.locals:=λb o e=>Ja6 (Jau (Jaf e) I.ok.above);have neC:∀ b o,X.s₀.heap.get? b = some o->b ∉ X.ex->b ∉ ch:=λb o e hx hb=>by
  rcases (hch b hb).1 with z | z
  .exact hx z
  .exact absurd (Jau (Jaf e) z) (Jbp _)
 have cellK:∀ x c,X.env.cells.lookup x = some c->∀ v,s.heap.IsCell c v->h'.IsCell c v:=λx c e v ⟨o,ho,hd⟩=>by
  have nch:c ∉ ch:=λz=>(hch c z).2.2.1 x c e rfl;by_cases hc:c ∈ X.fs
  .obtain ⟨sl,q⟩:=slot c o (I.cne x c e) hc nch ho (I.freeC x c e);exact ⟨_,q,hd⟩
  .exact ⟨o,keep c o (I.cne x c e) hc nch ho (I.freeC x c e),hd⟩
 refine ⟨I.ok,I.os,hg,⟨λb o e n hb hx=>?_,λb o e n hb hx=>?_,λb o e n hx=>?_,λb o e hx=>?_,λb xs e=>tups b xs (I.base.tups b xs e),λb o xs e=>frzs b o xs (I.base.frzs b o xs e),λb ps e=>?_⟩,?_,λx c e=>?_,?_,λx c e=>?_,λp hp=>?_,hok,I.len⟩
 .exact keep b o (neL b o e) hb (neC b o e hx) (I.base.keep b o e n hb hx) (I.base.free b o e n hx)
 .obtain ⟨sl,e1⟩:=I.base.slot b o e n hb hx;obtain ⟨sl',e2⟩:=slot b _ (neL b o e) hb (neC b o e hx) e1 (I.base.free b o e n hx);exact ⟨sl',e2⟩
 .obtain ⟨o',e1⟩:=I.base.there b o e hx;exact free b o' (neC b o e hx) e1 (I.base.free b o e n hx)
 .obtain ⟨o',e1⟩:=I.base.there b o e hx;exact there b o' (neC b o e hx) e1
 .obtain ⟨m1,e1⟩:=I.base.tbls b ps e;obtain ⟨m2,e2⟩:=tbls b _ e1;exact ⟨m1 ++ m2,by rw [e2,Array.append_assoc]⟩
 .refine Zad I.loc λm hn hl=>?_;refine ⟨m,ns m hn,λi x v e1 e2 e3=>?_⟩;refine Zad (hl i x v e1 e2 e3) λu r l=>?_;refine ⟨u,r,?_⟩;rcases l with l | ⟨k,c,e,z⟩
  .exact .inl l
  .exact .inr ⟨k,c,e,cellK x c e _ z⟩
 .obtain ⟨v,z⟩:=I.cell x c e;exact ⟨v,cellK x c e v z⟩
 .refine Zad I.loc λm e920 _=>?_;obtain ⟨o,_,_,ho,_⟩:=e920;exact free _ o (λz=>(hch _ z).2.1 rfl) ho I.free
 .obtain ⟨v,o,ho,hd⟩:=I.cell x c e;exact free c o (λz=>(hch c z).2.2.1 x c e rfl) ho (I.freeC x c e)
 .refine Zd7 (I.pin p hp) λe n ne nf d=>?_;have nch:p.1 ∉ ch:=λz=>(hch p.1 z).2.2.2 p hp rfl;exact ⟨keep p.1 p.2 ne nf nch e n,free p.1 p.2 nch e n,ne,nf,d⟩
theorem Inv.un {t':Nat} (I:Inv X pins σ H s) (u:Un X.fs [] H H' s.heap h') (hok:HOk X.prog X.w H' h'):Inv X pins σ H' { s with heap:=h',toks:=t' }:=by
 refine Zad (id I.loc) λm e921 _=>?_;obtain ⟨o,es,ep,ho,r⟩:=e921;obtain ⟨sl,hL⟩:=u.any ho I.free (by simp);exact I.step (g':=s.gens) (d':=s.drawn) (ch:=[]) (λ_ z=>nomatch z) (λb o _ hb _ e n=>u.keep b o e n hb (by simp)) (λb o _ hb _ e n=>u.slot b o e n hb (by simp)) (λb o _ e n=>u.free b o e n (by simp)) (λb o _ e=>u.there b o e (by simp)) u.tups u.frzs u.tbls (λm' hm=>by
  refine Zd6 hm λo' es' ep' ho' r'=>?_;clear hm;rw [ho] at ho'; cases ho';exact ⟨_,es',ep',hL,r'⟩) hok I.bare
theorem Inv.call {g':Array GenState} {t':Nat} {d':Drawn} {ch:List Addr} (I:Inv X pins σ H s) (u:Un (frs X.stack) ch H H' s.heap h') (hok:HOk X.prog X.w H' h') (hg:AllBare g')
  (hch:∀ b ∈ ch,(b ∈ X.ex\/X.s₀.heap.objs.size<=b)/\b ≠ X.env.locals/\(∀ x c,X.env.cells.lookup x = some c->c ≠ b)/\∀ p ∈ X.pn ++ pins,p.1 ≠ b):
  Inv X pins σ H' { s with heap:=h',gens:=g',drawn:=d',toks:=t' }:=by
 refine Zad (id I.loc) λm e922 _=>?_;obtain ⟨o,es,ep,ho,r⟩:=e922;obtain ⟨sl,hL⟩:=u.any ho I.free λz=>(hch _ z).2.1 rfl;exact I.step (ch:=ch) hch (λb o hL hb hc e n=>u.keep b o e n (λz=>(Jaq.mp (I.stkSub b z)).elim hL hb) hc) (λb o _ _ hc e n=>u.any e n hc) (λb o hc e n=>u.free b o e n hc) (λb o hc e=>u.there b o e hc) u.tups u.frzs u.tbls (λm' hm=>by
  refine Zd6 hm λo' es' ep' ho' r'=>?_;clear hm;rw [ho] at ho'; cases ho';exact ⟨_,es',ep',hL,r'⟩) hok hg
theorem Inv.turned {t':Nat} {it:Addr} (I:Inv X pins σ H s) (k:∀ b o,b ≠ it->s.heap.get? b = some o->h'.get? b = some o) (hn:H it = none) (hL:it ≠ X.env.locals)
  (h1:it ∈ X.ex\/X.s₀.heap.objs.size<=it) (h2:∀ x c,X.env.cells.lookup x = some c->c ≠ it) (h3:∀ p ∈ X.pn ++ pins,p.1 ≠ it):Inv X pins σ H { s with heap:=h',toks:=t' }:=by
 have nit:∀ b u,H b = some u->b ≠ it:=λb u e z=>by rw [z,hn] at e; cases e
 refine I.step (g':=s.gens) (d':=s.drawn) (ch:=[it]) (λb hb=>?_) (λb o _ _ hc e _=>k b o (λz=>hc (by simp [z])) e) (λb o _ _ hc e _=>⟨o.slots,k b o (λz=>hc (by simp [z])) e⟩) (λ_ _ _ _ n=>n)
  (λb o hc e=>⟨o,k b o (λz=>hc (by simp [z])) e⟩) (λ_ _ e=>e) (λ_ _ _ e=>e) (λb ps e=>⟨#[],by rw [e]; simp⟩) (λm hm=>?_) (λb u e=>?_) I.bare
 .have e:b = it:=by simpa using hb
  subst e;exact ⟨h1,hL,h2,h3⟩
 .refine Zd6 hm λo es ep ho r=>?_;clear hm;exact Zbg o es ep ⟨k _ o (Jb7 hL) ho,r⟩
 .refine (I.hok b u e).stay (λc v hc q=>k c v ?_ q) (λ_ q=>q) (λ_ _ q=>q) λ_ _ _ q=>q;rcases hc with z | z
  .rw [z]; exact nit b u e
  .exact nit c _ z
theorem Inv.tok (I:Inv X pins σ H s) (t:Nat):Inv X pins σ H { s with toks:=t }:=I.un (h':=s.heap) (t':=t) Un.refl I.hok
theorem Inv.kept {t':Nat} (I:Inv X pins σ H s) (k:∀ b u,s.heap.get? b = some u->h'.get? b = some u):Inv X pins σ H { s with heap:=h',toks:=t' }:=I.un (Un.kept k) (I.hok.kept k)
theorem Inv.laid {a:Addr} {o:HO} {t':Nat} (I:Inv X pins σ H s) (k:∀ b u,s.heap.get? b = some u->h'.get? b = some u) (hp:s.heap.objs.size<=a) (new:ObjOk X.prog X.w (upd H a o) h' a o):
  Inv X pins σ (upd H a o) { s with heap:=h',toks:=t' }:=I.un (Un.laid k hp (I.hok.fresh hp)) (I.hok.laid k hp new)
theorem Inv.write {x e:Addr} {o:HO} {t':Nat} (I:Inv X pins σ H s) (mu:Mut (H x)) (he:e = x\/H e = some (.own x)) (k:∀ b u,b ≠ e->s.heap.get? b = some u->h'.get? b = some u) (heo:∃ u,h'.get? e = some u)
  (new:ObjOk X.prog X.w (upd H x o) h' x o):Inv X pins σ (upd H x o) { s with heap:=h',toks:=t' }:=I.un (Un.write mu he k heo) (I.hok.write mu he k heo new)
theorem Inv.pins_of {pins':List (Addr × Obj)} (I:Inv X pins σ H s) (h:∀ p ∈ pins',s.heap.get? p.1 = some p.2/\H p.1 = none/\p.1 ≠ X.env.locals/\p.1 ∉ X.fs/\∀ v,p.2.data ≠ .cell v):Inv X pins' σ H s:=
 ⟨I.ok,I.os,I.bare,I.base,I.loc,I.cell,I.free,I.freeC,λp hp=>(Jbe.mp hp).elim (λz=>I.pin p (Jcz _ z)) (h p),I.hok,I.len⟩
theorem Zk4 {N:List Str} (hN:N.Nodup) {i j:Nat} {x:Str} (a:N[i]? = some x) (b:N[j]? = some x):i = j:=by
 obtain ⟨h1,e1⟩:=Jaw.mp a;obtain ⟨h2,e2⟩:=Jaw.mp b;exact (List.getElem_inj hN).mp (e1.trans e2.symm)
theorem Zix {M:Model} {A:Around} {E:Value->Shared->Prop} {i:Nat} {x:Str} {v:V} {u:Value} {Q:Unit->Shared->Prop} (I:Inv X pins σ H s) (hN:X.N.Nodup) (hi:X.N[i]? = some x) (hx:Loc X.env.scope x) (r:RelV v u)
  (h:∀ s',Inv X pins (σ.set i (some v)) H s'->(∃ a,Heap.SameBut a s.heap s'.heap/\(a = X.env.locals\/X.env.cells.lookup x = some a))->Q () s') (hf:X.fn x = true\/X.env.scope.names.lookup x = some .local:=by first | exact .inl rfl | exact .inr rfl | assumption):wpAny M A (storeName X.env x u) Q E s:=by
 refine Zad (id I.loc) λm hn hl=>?_;have hcls:(X.env.scope.kind == .class || (X.env.scope.kind == .module && X.env.locals != X.env.globals)) = false:=by rw [I.ok.kind]; rfl
 have hiσ:i < σ.length:=by rw [I.len]; exact (Jaw.mp hi).1
 have cne:=I.cne;have tracked:∀ {a:Addr} {h':Heap},(∃ o,s.heap.get? a = some o/\H a = none)->Heap.SameBut a s.heap h'->HOk X.prog X.w H h':=λ{a h'} ha hs b ob e=>by
  refine Zad ha λ_ _ hfree=>?_;clear ha;refine (I.hok b ob e).stay (λc w' hc q=>(hs.2 c ?_).trans q) (λ_ q=>q) (λ_ _ q=>q) λ_ _ _ q=>q;rintro rfl;rcases hc with rfl | hc
  .rw [hfree] at e; cases e
  .rw [hfree] at hc; cases hc
 rcases hx with hk | hk
 .refine wpAny_storeName_local hk hn (λh' hn' hs=>?_) hcls;refine Zd6 (id hn) λoL _ _ hoL _=>?_;refine h _ ⟨I.ok,I.os,I.bare,⟨λb o e n hb hx=>?_,λb o e n hb hx=>?_,I.base.free,λb o e hx=>?_,I.base.tups,I.base.frzs,I.base.tbls⟩,⟨_,hn',λj y v' e1 e2 e3=>?_⟩,λy c e=>?_,I.free,I.freeC,λp hp=>?_,tracked ⟨oL,hoL,I.free⟩ hs,by simpa using I.len⟩ ⟨_,hs,.inl rfl⟩
  .exact (hs.2 b (Ja6 (Jau (Jaf e) I.ok.above))).trans (I.base.keep b o e n hb hx)
  .obtain ⟨sl,e1⟩:=I.base.slot b o e n hb hx;exact ⟨sl,(hs.2 b (Ja6 (Jau (Jaf e) I.ok.above))).trans e1⟩
  .obtain ⟨o',e1⟩:=I.base.there b o e hx;exact ⟨o',(hs.2 b (Ja6 (Jau (Jaf e) I.ok.above))).trans e1⟩
  .by_cases hj:j = i
   .subst hj;rw [hi] at e1; cases e1;rw [List.getElem?_set_self hiσ] at e2;cases e2;exact ⟨u,r,.inl ⟨hk,by simp⟩⟩
   .rw [List.getElem?_set_ne (Jb7 hj)] at e2;refine Zad (hl j y v' e1 e2 e3) λu' r' q=>?_;refine ⟨u',r',?_⟩;rcases q with ⟨k,e⟩ | ⟨k,c,e,z⟩
    .refine .inl ⟨k,?_⟩;have:y ≠ x:=λe=>hj (Zk4 hN e1 (e ▸ hi));simp [this,e]
    .exact .inr ⟨k,c,e,z.sameBut hs (cne y c e)⟩
  .obtain ⟨w',z⟩:=I.cell y c e;exact ⟨w',z.sameBut hs (cne y c e)⟩
  .refine Zd7 (I.pin p hp) λe n ne nf d=>?_;exact ⟨(hs.2 p.1 ne).trans e,n,ne,nf,d⟩
 .have hfn:X.fn x = true:=by
   rcases hf with z | z
   .exact z
   .rw [z] at hk; cases hk
  obtain ⟨c,hc⟩:=I.ok.has x (.inl hk);obtain ⟨w',z⟩:=I.cell x c hc;refine wpAny_storeName_cell I.ok.kind hk hc z (λh' hc' hs=>?_);refine Zad (id z) λoc hoc hocd=>?_;refine h { s with heap:=h' } ⟨I.ok,I.os,I.bare,⟨λb o e n hb hx=>?_,λb o e n hb hx=>?_,I.base.free,λb o e hx=>?_,I.base.tups,I.base.frzs,I.base.tbls⟩,⟨m,hn.sameBut hs (Jb7 (cne x c hc)),λj y v' e1 e2 e3=>?_⟩,λy c' e=>?_,I.free,I.freeC,λp hp=>?_,tracked ⟨oc,hoc,I.freeC x c hc⟩ hs,by simpa using I.len⟩ ⟨c,hs,.inr hc⟩
  .exact (hs.2 b (Ja6 (Jau (Jaf e) (I.ok.cab x c hfn hc)))).trans (I.base.keep b o e n hb hx)
  .obtain ⟨sl,e1⟩:=I.base.slot b o e n hb hx;exact ⟨sl,(hs.2 b (Ja6 (Jau (Jaf e) (I.ok.cab x c hfn hc)))).trans e1⟩
  .obtain ⟨o',e1⟩:=I.base.there b o e hx;exact ⟨o',(hs.2 b (Ja6 (Jau (Jaf e) (I.ok.cab x c hfn hc)))).trans e1⟩
  .by_cases hj:j = i
   .subst hj;rw [hi] at e1; cases e1;rw [List.getElem?_set_self hiσ] at e2;cases e2;exact ⟨u,r,.inr ⟨.inl hk,c,hc,hc'⟩⟩
   .rw [List.getElem?_set_ne (Jb7 hj)] at e2;refine Zad (hl j y v' e1 e2 e3) λu' r' q=>?_;refine ⟨u',r',?_⟩;rcases q with q | ⟨k,c',e,z'⟩
    .exact .inl q
    .refine .inr ⟨k,c',e,z'.sameBut hs ?_⟩;rintro rfl;exact hj (Zk4 hN e1 (I.ok.inj _ _ _ e hc ▸ hi))
  .by_cases hcc:c' = c
   .subst hcc; exact ⟨_,hc'⟩
   .obtain ⟨w2,z2⟩:=I.cell y c' e;exact ⟨w2,z2.sameBut hs hcc⟩
  .refine Zd7 (I.pin p hp) λe n ne nf d=>?_;refine ⟨(hs.2 p.1 ?_).trans e,n,ne,nf,d⟩;intro q;rw [q,hoc] at e;have q':oc = p.2:=Jbi e;exact d w' (by rw [<- q']; exact hocd)
theorem Zev {M:Model} {A:Around} {E:Value->Shared->Prop} {i:Nat} {x:Str} {v:V} {u:Value} {Q:Unit->Shared->Prop} (I:Inv X pins σ H s) (hN:X.N.Nodup) (hi:X.N[i]? = some x) (hx:Loc X.env.scope x) (r:RelV v u)
  (h:∀ s',Inv X pins (σ.set i (some v)) H s'->Q () s') (hf:X.fn x = true\/X.env.scope.names.lookup x = some .local:=by first | exact .inl rfl | exact .inr rfl | assumption):wpAny M A (storeName X.env x u) Q E s:=
 Zix I hN hi hx r (λs' I' _=>h s' I') hf
theorem Inv.call' {s':Shared} {ch:List Addr} (I:Inv X pins σ H s) (ho:s'.os = s.os) (u:Un (frs X.stack) ch H H' s.heap s'.heap) (hok:HOk X.prog X.w H' s'.heap) (hg:AllBare s'.gens)
  (hch:∀ b ∈ ch,(b ∈ X.ex\/X.s₀.heap.objs.size<=b)/\b ≠ X.env.locals/\(∀ x c,X.env.cells.lookup x = some c->c ≠ b)/\∀ p ∈ X.pn ++ pins,p.1 ≠ b):Inv X pins σ H' s':=by
 obtain ⟨h',g',d',t',o'⟩:=s';have e:o' = s.os:=ho;subst e;exact I.call (g':=g') (t':=t') (d':=d') u hok hg hch
end
abbrev XK:=Value->Option Addr->Hp->Prop
abbrev St:=List (Option V)
abbrev VK:=V->Hp->Prop
abbrev TE:=St->Hp->VK->Prop
abbrev TT:=St->Hp->(Bool->Hp->Prop)->Prop
abbrev TA:=St->Hp->(List V->Hp->Prop)->Prop
structure Ends where
 nx:St->Hp->Prop
 rt:VK
 bk:St->Hp->Prop:=λ_ _=>False
 ct:St->Hp->Prop:=λ_ _=>False
abbrev TS:=Ends->St->Hp->Prop
def EP (X:Cx) (pins:List (Addr × Obj)) (σ:St) (Q:VK) (u:Value) (s':Shared):Prop:=∃ v H',Inv X pins σ H' s'/\RelV v u/\Q v H'
def TP (X:Cx) (pins:List (Addr × Obj)) (σ:St) (Q:Bool->Hp->Prop) (b:Bool) (s':Shared):Prop:=∃ H',Inv X pins σ H' s'/\Q b H'
def AP (X:Cx) (pins:List (Addr × Obj)) (σ:St) (Q:List V->Hp->Prop) (us:List Value) (s':Shared):Prop:=∃ vs H',Inv X pins σ H' s'/\Vals vs us/\Q vs H'
def SP (X:Cx) (pins:List (Addr × Obj)) (D:Ends) (f:Flow) (s':Shared):Prop:=
 match f with
 | .next=>∃ σ' H',Inv X pins σ' H' s'/\D.nx σ' H'
 | .brk=>∃ σ' H',Inv X pins σ' H' s'/\D.bk σ' H'
 | .cont=>∃ σ' H',Inv X pins σ' H' s'/\D.ct σ' H'
 | .ret u=>∃ v σ' H',Inv X pins σ' H' s'/\RelV v u/\D.rt v H'
def PE (X:Cx) (e:Expr) (t:TE):Prop:=
 ∀ (pins:List (Addr × Obj)) (s:Shared) (σ:St) (H:Hp) (Q:VK),Inv X pins σ H s->t σ H Q->wpAny (model X.prog X.w) X.A (eval e X.env) (EP X pins σ Q) X.xe s
def PT (X:Cx) (e:Expr) (t:TT):Prop:=
 ∀ (pins:List (Addr × Obj)) (s:Shared) (σ:St) (H:Hp) (Q:Bool->Hp->Prop),Inv X pins σ H s->t σ H Q->wpAny (model X.prog X.w) X.A (isTrue e X.env (eval e X.env)) (TP X pins σ Q) X.xe s
def PW (X:Cx) (e:Expr) (t:TT):Prop:=
 ∀ (whole:Sem Value) (pins:List (Addr × Obj)) (s:Shared) (σ:St) (H:Hp) (Q:Bool->Hp->Prop),Inv X pins σ H s->t σ H Q->wpAny (model X.prog X.w) X.A (isTrue e X.env whole) (TP X pins σ Q) X.xe s
theorem PW.pt {X:Cx} {e:Expr} {t:TT} (h:PW X e t):PT X e t:=h _
def PA (X:Cx) (es:List Expr) (t:TA):Prop:=
 ∀ (pos:Pos) (pins:List (Addr × Obj)) (s:Shared) (σ:St) (H:Hp) (Q:List V->Hp->Prop),Inv X pins σ H s->t σ H Q->wpAny (model X.prog X.w) X.A (spliced (backTo pos (starEach es X.env))) (AP X pins σ Q) X.xe s
def PS (X:Cx) (st:Stmt) (t:TS):Prop:=
 ∀ (pins:List (Addr × Obj)) (s:Shared) (σ:St) (H:Hp) (D:Ends),Inv X pins σ H s->t D σ H->wpAny (model X.prog X.w) X.A (exec st X.env) (SP X pins D) X.xe s
def PSs (X:Cx) (st:List Stmt) (t:TS):Prop:=
 ∀ (pins:List (Addr × Obj)) (s:Shared) (σ:St) (H:Hp) (D:Ends),Inv X pins σ H s->t D σ H->wpAny (model X.prog X.w) X.A (execs st X.env) (SP X pins D) X.xe s
theorem thn {α:Type} {t:Sem α} {Q Q':α->Shared->Prop} {M:Model} {A:Around} {E:Value->Shared->Prop} {s:Shared} (h:wpAny M A t Q E s) (hQ:∀ a s,Q a s->Q' a s):wpAny M A t Q' E s:=Jaz h hQ λ_ _ x=>x
section
variable {X:Cx}
theorem bin {a b:Expr} {ta tb:TE} (ha:PE X a ta) (hb:PE X b tb) {pins:List (Addr × Obj)} {s:Shared} {σ:St} {H:Hp} {R:V->V->Hp->Prop} (I:Inv X pins σ H s) (h:ta σ H λx H1=>tb σ H1 λy H2=>R x y H2)
  {α:Type} {Q:α->Shared->Prop} {f:Value->Value->Sem α}
  (hf:∀ v u s2 x y H2,Inv X pins σ H2 s2->RelV x v->RelV y u->R x y H2->wpAny (model X.prog X.w) X.A (f v u) Q X.xe s2):
  wpAny (model X.prog X.w) X.A (eval a X.env) (λv s₁=>wpAny (model X.prog X.w) X.A (eval b X.env) (λu s₂=>wpAny (model X.prog X.w) X.A (f v u) Q X.xe s₂) X.xe s₁) X.xe s:=by
 refine thn (ha pins s σ H _ I h) λv s1 ⟨x,H1,I1,r1,q1⟩=>?_;refine thn (hb pins s1 σ H1 _ I1 q1) λu s2 ⟨y,H2,I2,r2,q2⟩=>?_;exact hf v u s2 x y H2 I2 r1 r2 q2
def Zko (i:Nat):TE:=λσ H Q=>∃ v,σ[i]? = some (some v)/\Q v H
def tC (v:V):TE:=λ_ H Q=>Q v H
theorem pe_var {i:Nat} {x:Str} {pos:Pos} (hN:X.N[i]? = some x) (hv:Vis X.env.scope x) (hd:(x == ("__debug__" : Str)) = false:=by decide) (hcd:(x == ("__classdict__" : Str)) = false:=by decide):PE X (.Name x pos) (Zko i):=by
 intro pins s σ H Q I h;obtain ⟨v,e,h⟩:=h;obtain ⟨m,hn,hl⟩:=I.loc;obtain ⟨u,r,l⟩:=hl i x v hN e hv;have fin:EP X pins σ Q u s:=⟨v,H,I,r,h⟩
 rcases l with ⟨hk,hm⟩ | ⟨hk,c,hc,hcell⟩
 .exact wpAny_Name (wpAny_loadName_local I.ok.kind hk hn hm fin) hd
 .rcases hk with hk | hk
  .exact wpAny_Name (wpAny_loadName_cell I.ok.kind hk hc hcell fin) hd
  .exact wpAny_Name (wpAny_loadName_free I.ok.kind hk hc hcell fin hcd) hd
theorem Zac {i j pos}:PE X (.Constant (.int i) j pos) (tC (.int i)):=λ_ _ _ H _ I h=>wpAny_Constant_int ⟨.int i,H,I.tok _,⟨_,rfl⟩,h⟩
theorem Zd8 {b j pos}:PE X (.Constant (.bool b) j pos) (tC (.bl b)):=λ_ _ _ H _ I h=>Constant_bool ⟨.bl b,H,I,rfl,h⟩
theorem Zky {j pos}:PE X (.Constant .none j pos) (tC .non):=λ_ _ _ H _ I h=>Constant_none ⟨.non,H,I,rfl,h⟩
theorem Zcg {x j pos}:PE X (.Constant (.str x) j pos) (tC (.str x)):=λ_ _ _ H _ I h=>Calls.Constant_str ⟨.str x,H,I.tok _,⟨_,rfl⟩,h⟩
def Gl (X:Cx) (x:Str):Prop:=X.env.kindOf x = some .globalImplicit
theorem Zfq {E:Value->Shared->Prop} {pins:List (Addr × Obj)} {s:Shared} {σ:St} {H:Hp} {x:Str} {u:Value} {pos:Pos} {Q:Value->Shared->Prop} (I:Inv X pins σ H s) (hg:Gl X x) (hm:X.mg x = some u) (h:Q u s)
  (hd:(x == ("__debug__" : Str)) = false:=by decide):wpAny (model X.prog X.w) X.A (eval (.Name x pos) X.env) Q E s:=
 Calls.Name_function_global I.ok.kind hg (Calls.loadGlobal_global (by rw [I.ok.glob]; exact I.mod.glob.keeps I.bk) hm h) hd
theorem Zhr {E:Value->Shared->Prop} {pins:List (Addr × Obj)} {s:Shared} {σ:St} {H:Hp} {x:Str} {u:Value} {pos:Pos} {Q:Value->Shared->Prop} (I:Inv X pins σ H s) (hg:Gl X x) (hm:X.mg x = none) (hv:bootBuiltins x = some u) (h:Q u s)
  (hn:x ≠ "__name__" := by decide) (hd:(x == ("__debug__" : Str)) = false:=by decide):wpAny (model X.prog X.w) X.A (eval (.Name x pos) X.env) Q E s:=by
 refine Zad I.mod.blt λmb h1 h2=>?_;exact Calls.Name_function_global I.ok.kind hg (Calls.loadGlobal_builtin (by rw [I.ok.glob]; exact I.mod.glob.keeps I.bk) hm (by rw [I.ok.blt]; exact h1.keeps I.bk) ((h2 x hn).trans hv) h) hd
theorem Zbx {x:Str} {v:V} {u:Value} {pos:Pos} (hg:Gl X x) (hm:X.mg x = some u) (r:RelV v u) (hd:(x == ("__debug__" : Str)) = false:=by decide):PE X (.Name x pos) (tC v):=
 λ_ _ _ H _ I h=>Zfq I hg hm ⟨v,H,I,r,h⟩ hd
theorem pe_bltn {x:Str} {v:V} {u:Value} {pos:Pos} (hg:Gl X x) (hm:X.mg x = none) (hv:bootBuiltins x = some u) (r:RelV v u) (hn:x ≠ "__name__" := by decide) (hd:(x == ("__debug__" : Str)) = false:=by decide):PE X (.Name x pos) (tC v):=
 λ_ _ _ H _ I h=>Zhr I hg hm hv ⟨v,H,I,r,h⟩ hn hd
variable {a b:Expr} {ta tb:TE} {pos:Pos}
def PC (X:Cx) (op:CmpOp) (a b:Expr) (t:TE):Prop:=
 ∀ (pins:List (Addr × Obj)) (s:Shared) (σ:St) (H:Hp) (Q:VK),Inv X pins σ H s->t σ H Q->
  wpAny (model X.prog X.w) X.A (eval a X.env) (λv s₁=>wpAny (model X.prog X.w) X.A (eval b X.env) (λu s₂=>wpAny (model X.prog X.w) X.A (compareOp op v u) (EP X pins σ Q) X.xe s₂) X.xe s₁) X.xe s
theorem Zqp (b:Expr) {op:CmpOp} (h:op ≠ .In) (h2:op ≠ .NotIn):behindInMarks op b = false:=by
 have e1:(op == CmpOp.In) = false:=by cases op <;> first | rfl | exact absurd rfl h
 have e2:(op == CmpOp.NotIn) = false:=by cases op <;> first | rfl | exact absurd rfl h2
 cases b <;> simp [behindInMarks,e1,e2]
def tB (t:TE):TT:=λσ H Q=>t σ H λx H1=>∃ c,x = .bl c/\Q c H1
theorem pt_cmp {op:CmpOp} {t:TE} (h:PC X op a b t) (h1:behindInMarks op b = false:=by first | exact Zqp _ (by decide) (by decide) | rfl):PT X (.Compare a [op] [b] pos) (tB t):=by
 intro pins s σ H Q I hw;refine wpAny_isTrue_Compare1 (thn (h pins s σ H _ I hw) λv s1 h1=>thn h1 λu s2 h2=>thn h2 λc s3 ⟨x,H1,I1,r1,q1⟩=>?_) h1;refine Zad q1 λd e923 q=>?_;clear q1;obtain rfl:=e923;cases r1;exact Jbn ⟨H1,I1,q⟩
theorem Za5 {e:Expr} {t:TE} (h:PE X e t) (he:∀ whole,isTrue e X.env whole = (do let v <- whole; standAt e.pos; holding [v] (truthy v)):=by intro _; rfl):PT X e (tB t):=by
 intro pins s σ H Q I hw;refine isTrue_plain (thn (h pins s σ H _ I hw) λv s1 ⟨x,H1,I1,r1,q1⟩=>?_) (he _);refine Zad q1 λd e924 q=>?_;clear q1;obtain rfl:=e924;cases r1;exact Jbn ⟨H1,I1,q⟩
variable {tA tB':TT} {rest:List Expr}
def tAnd (t u:TT):TT:=λσ H Q=>t σ H λc H1=>if c = true then u σ H1 Q else Q false H1
def tOr (t u:TT):TT:=λσ H Q=>t σ H λc H1=>if c = true then Q true H1 else u σ H1 Q
def tNot (t:TT):TT:=λσ H Q=>t σ H λc H1=>Q (!c) H1
theorem pw_and1 (ha:PT X a tA):PW X (.BoolOp .And [a] pos) tA:=by
 intro wh pins s σ H Q I h;refine isTrue_and (thn (ha pins s σ H Q I h) λc s1 e=>?_);cases c with
 | true=>exact isTrue_and_nil e
 | false=>exact e
theorem Zb8 (ha:PT X a tA):PW X (.BoolOp .Or [a] pos) tA:=by
 intro wh pins s σ H Q I h;refine isTrue_or (thn (ha pins s σ H Q I h) λc s1 e=>?_);cases c with
 | false=>exact isTrue_or_nil e
 | true=>exact e
theorem pw_and (ha:PT X a tA) (hb:PW X (.BoolOp .And (b :: rest) pos) tB'):PW X (.BoolOp .And (a :: b :: rest) pos) (tAnd tA tB'):=by
 intro wh pins s σ H Q I h;refine isTrue_and (thn (ha pins s σ H _ I h) λc s1 ⟨H1,I1,q1⟩=>?_);cases c with
 | true=>exact hb wh pins s1 σ H1 Q I1 q1
 | false=>exact ⟨H1,I1,q1⟩
theorem Zc7 (ha:PT X a tA) (hb:PW X (.BoolOp .Or (b :: rest) pos) tB'):PW X (.BoolOp .Or (a :: b :: rest) pos) (tOr tA tB'):=by
 intro wh pins s σ H Q I h;refine isTrue_or (thn (ha pins s σ H _ I h) λc s1 ⟨H1,I1,q1⟩=>?_);cases c with
 | true=>exact ⟨H1,I1,q1⟩
 | false=>exact hb wh pins s1 σ H1 Q I1 q1
theorem Za6 (ha:PT X a tA):PT X (.UnaryOp .Not a pos) (tNot tA):=by
 intro pins s σ H Q I h;exact isTrue_not (ha pins s σ H (λc H1=>Q (!c) H1) I h)
def tAndV (ta tb:TE):TE:=λσ H Q=>ta σ H λx H1=>∃ c,x = .bl c/\if c = true then tb σ H1 Q else Q (.bl false) H1
def tOrV (ta tb:TE):TE:=λσ H Q=>ta σ H λx H1=>∃ c,x = .bl c/\if c = true then Q (.bl true) H1 else tb σ H1 Q
def tNotV (ta:TE):TE:=λσ H Q=>ta σ H λx H1=>∃ c,x = .bl c/\Q (.bl (!c)) H1
theorem Zf6 {op} {t:TE} (h:PE X a t):PE X (.BoolOp op [a] pos) t:=λpins s σ H Q I hw=>BoolOp_one (h pins s σ H Q I hw)
theorem Zf7 (ha:PE X a ta) (hb:PE X (.BoolOp .And (b :: rest) pos) tb):PE X (.BoolOp .And (a :: b :: rest) pos) (tAndV ta tb):=by
 intro pins s σ H Q I h;refine BoolOp_and (thn (ha pins s σ H _ I h) λv s1 ⟨x,H1,I1,r1,q1⟩=>?_);obtain ⟨c,rfl,q1⟩:=q1;cases r1;refine Jbn ?_;cases c with
 | true=>exact hb pins s1 σ H1 Q I1 q1
 | false=>exact ⟨.bl false,H1,I1,rfl,q1⟩
theorem pe_or (ha:PE X a ta) (hb:PE X (.BoolOp .Or (b :: rest) pos) tb):PE X (.BoolOp .Or (a :: b :: rest) pos) (tOrV ta tb):=by
 intro pins s σ H Q I h;refine BoolOp_or (thn (ha pins s σ H _ I h) λv s1 ⟨x,H1,I1,r1,q1⟩=>?_);obtain ⟨c,rfl,q1⟩:=q1;cases r1;refine Jbn ?_;cases c with
 | false=>exact hb pins s1 σ H1 Q I1 q1
 | true=>exact ⟨.bl true,H1,I1,rfl,q1⟩
theorem Zro (ha:PE X a ta):PE X (.UnaryOp .Not a pos) (tNotV ta):=by
 intro pins s σ H Q I h;refine UnaryOp_ (thn (ha pins s σ H _ I h) λv s1 ⟨x,H1,I1,r1,q1⟩=>?_);obtain ⟨c,rfl,q1⟩:=q1;cases r1;exact not_of (Jbn ⟨.bl (!c),H1,I1,rfl,q1⟩)
def tIf (t:TT) (ta tb:TE):TE:=λσ H Q=>t σ H λc H1=>if c = true then ta σ H1 Q else tb σ H1 Q
end
def SqL (K:PySem.W.Frag) (H:Hp) (a:Addr) (xs:List V):Prop:=
 Rd H a (.lst xs) \/
  ∃ (o:Obj) (its:Array Value) (n:Nat),K.lookup a = some o/\o.cls = .type "list" /\ o.dict = none/\o.data = .seq its n/\its.size<=sizeLine/\Vals xs its.toList
def SqT (K:PySem.W.Frag) (H:Hp) (a:Addr) (xs:List V):Prop:=
 Rd H a (.tup xs) \/
  ∃ (o:Obj) (its:Array Value) (n:Nat),K.lookup a = some o/\o.cls = .type "tuple" /\ o.data = .seq its n/\its.size<=sizeLine/\Vals xs its.toList
def absV:Value->Option V
 | .none=>some .non
 | .bool b=>some (.bl b)
 | .int i _=>some (.int i)
 | .str x _=>some (.str x)
 | .bytes b _=>some (.byt b)
 | .float b _=>some (.flt b)
 | .ref a=>some (.ref a)
 | .type n=>some (.ty n)
 | _=>none
theorem RelV.abs {x:V} {u:Value} (r:RelV x u):absV u = some x:=by
 cases x with
 | non=>cases r; rfl
 | bl _=>cases r; rfl
 | int _=>obtain ⟨t,rfl⟩:=r; rfl
 | str _=>obtain ⟨t,rfl⟩:=r; rfl
 | byt _=>obtain ⟨t,rfl⟩:=r; rfl
 | flt _=>obtain ⟨t,rfl⟩:=r; rfl
 | ref _=>cases r; rfl
 | ty _=>cases r; rfl
theorem RelV.inj {x y:V} {u:Value} (r:RelV x u) (q:RelV y u):x = y:=Jbi (r.abs.symm.trans q.abs)
theorem Vals.inj:∀ {xs ys:List V} {us:List Value},Vals xs us->Vals ys us->xs = ys
 | _,_,_,.nil,.nil=>rfl
 | _,_,_,.cons r t,.cons r' t'=>by rw [r.inj r',Vals.inj t t']
section
variable {X:Cx} {pins:List (Addr × Obj)} {σ:St} {H:Hp} {s:Shared} {a:Addr} {xs ys:List V}
theorem SqL.of {K:PySem.W.Frag} (h:H a = some (.lst xs)):SqL K H a xs:=.inl (.inl h)
theorem SqT.of {K:PySem.W.Frag} (h:H a = some (.tup xs)):SqT K H a xs:=.inl (.inl h)
theorem Inv.list (I:Inv X pins σ H s) (h:SqL X.K H a xs):∃ its:List Value,Vals xs its/\PlainL s.heap a its.toArray/\xs.length<=sizeLine:=by
 rcases h with h | ⟨o,its,n,hk,hc,hd,hs,hz,r⟩
 .obtain ⟨z,its,n,r,e⟩:=h.ok I.hok;exact ⟨its,r,⟨_,n,e,rfl,rfl,rfl⟩,z⟩
 .refine ⟨its.toList,r,⟨o,n,I.kIn a o hk,hc,hd,by simpa using hs⟩,?_⟩;have e:=r.length;simp only [Jdm] at e;omega
theorem Inv.tuple (I:Inv X pins σ H s) (h:SqT X.K H a xs):∃ its:List Value,Vals xs its/\IsTup s.heap a its.toArray/\xs.length<=sizeLine:=by
 rcases h with h | ⟨o,its,n,hk,hc,hs,hz,r⟩
 .obtain ⟨z,its,r,p⟩:=h.ok I.hok;exact ⟨its,r,p,z⟩
 .refine ⟨its.toList,r,⟨o,I.kIn a o hk,hc,n,by simpa using hs⟩,?_⟩;have e:=r.length;simp only [Jdm] at e;omega
theorem Inv.list_inj (I:Inv X pins σ H s) (h:SqL X.K H a xs) (h':SqL X.K H a ys):xs = ys:=by
 refine Zao (I.list h) λits r e925 _=>?_;obtain ⟨o,n,e,_,_,d⟩:=e925;refine Zao (I.list h') λits' r' e926 _=>?_;obtain ⟨o',n',e',_,_,d'⟩:=e926;rw [e] at e'; cases e';rw [d] at d'
 injection d' with d1 _
 have:its = its':=by simpa using Jc1 Array.toList d1
 subst this;exact r.inj r'
theorem Inv.tuple_inj (I:Inv X pins σ H s) (h:SqT X.K H a xs) (h':SqT X.K H a ys):xs = ys:=by
 refine Zao (I.tuple h) λits r e927 _=>?_;obtain ⟨o,e,_,n,d⟩:=e927;refine Zao (I.tuple h') λits' r' e928 _=>?_;obtain ⟨o',e',_,n',d'⟩:=e928;rw [e] at e'; cases e';rw [d] at d'
 injection d' with d1 _
 have:its = its':=by simpa using Jc1 Array.toList d1
 subst this;exact r.inj r'
end
abbrev Cx.wish (X:Cx) (E:Value->Shared->Prop):Cx:={ X with xe:=E }
abbrev Cx.nox (X:Cx):Cx:=X.wish λ_ _=>False
theorem Cx.Ok.wish {X:Cx} (ok:X.Ok) (E:Value->Shared->Prop):(X.wish E).Ok:=
 ⟨ok.mod,ok.kind,ok.glob,ok.blt,ok.above,ok.inj,ok.has,ok.cab,ok.hd,ok.frames,ok.stk,ok.exf,ok.bs,ok.bsz,ok.noex,ok.exfs,ok.funs,ok.frf,ok.top⟩
theorem Cx.Ok.unwish {X:Cx} {E:Value->Shared->Prop} (ok:(X.wish E).Ok):X.Ok:=
 ⟨ok.mod,ok.kind,ok.glob,ok.blt,ok.above,ok.inj,ok.has,ok.cab,ok.hd,ok.frames,ok.stk,ok.exf,ok.bs,ok.bsz,ok.noex,ok.exfs,ok.funs,ok.frf,ok.top⟩
section
variable {X:Cx} {pins:List (Addr × Obj)} {σ:St} {H:Hp} {s:Shared} {E:Value->Shared->Prop}
theorem Inv.wish (I:Inv X pins σ H s) (E:Value->Shared->Prop):Inv (X.wish E) pins σ H s:=⟨I.ok.wish E,I.os,I.bare,I.base,I.loc,I.cell,I.free,I.freeC,I.pin,I.hok,I.len⟩
theorem Inv.unwish (I:Inv (X.wish E) pins σ H s):Inv X pins σ H s:=⟨I.ok.unwish,I.os,I.bare,I.base,I.loc,I.cell,I.free,I.freeC,I.pin,I.hok,I.len⟩
theorem SP.unwish {D:Ends} {f:Flow} {s':Shared} (h:SP (X.wish E) pins D f s'):SP X pins D f s':=by
 cases f with
 | next=>obtain ⟨σ',H',I,q⟩:=h; exact ⟨σ',H',I.unwish,q⟩
 | brk=>obtain ⟨σ',H',I,q⟩:=h; exact ⟨σ',H',I.unwish,q⟩
 | cont=>obtain ⟨σ',H',I,q⟩:=h; exact ⟨σ',H',I.unwish,q⟩
 | ret u=>obtain ⟨v,σ',H',I,r,q⟩:=h; exact ⟨v,σ',H',I.unwish,r,q⟩
theorem PSs.nox {st:List Stmt} {t:TS} (h:PSs X.nox st t):PSs X st t:=λpins s σ H D I hw=>
 Jaz (h pins s σ H D (I.wish _) hw) (λ_ _ q=>q.unwish) λ_ _ z=>False.elim z
end
section
variable {X:Cx} {st:Stmt} {rest:List Stmt} {t u:TS} {e:Expr} {te:TE} {pos:Pos}
def tNext:TS:=λD σ H=>D.nx σ H
def tSeq (t u:TS):TS:=λD σ H=>t { D with nx:=u D } σ H
theorem Zam:PSs X [] tNext:=λ_ _ σ H _ I h=>Jc4 ⟨σ,H,I,h⟩
theorem Zpz (h1:PS X st t) (h2:PSs X rest u):PSs X (st :: rest) (tSeq t u):=by
 intro pins s σ H D I h;refine wpAny_execs_cons (thn (h1 pins s σ H { D with nx:=u D } I h) λf s1 q=>?_);cases f with
 | next=>
  obtain ⟨σ',H',I',q⟩:=q;exact h2 pins s1 σ' H' D I' q
 | ret v=>exact q
 | brk=>exact q
 | cont=>exact q
theorem Zaj (h1:PS X st t):PSs X [st] t:=by
 intro pins s σ H D I h;refine wpAny_execs_cons (thn (h1 pins s σ H D I h) λf s1 q=>?_);cases f with
 | next=>exact Jc4 q
 | ret v=>exact q
 | brk=>exact q
 | cont=>exact q
theorem Inv.quiet {pins:List (Addr × Obj)} {σ:St} {H:Hp} {s:Shared} (I:Inv X pins σ H s):interactive X.env = false:=by simp [interactive,I.ok.kind]
def tDrop (te:TE):TS:=λD σ H=>te σ H λ_ H1=>D.nx σ H1
theorem Zbi (he:PE X e te) (hs:swapsWith e none pos.line X.env = pure false:=by rfl):PS X (.Expr e pos) (tDrop te):=by
 intro pins s σ H D I h;exact wpAny_Expr_any (thn (he pins s σ H _ I h) λv s1 ⟨x,H1,I1,r1,q1⟩=>⟨σ,H1,I1,q1⟩) I.quiet hs
def tRet (te:TE):TS:=λD σ H=>te σ H D.rt
theorem ps_ret (he:PE X e te):PS X (.Return (some e) pos) (tRet te):=by
 intro pins s σ H D I h;exact wpAny_Return_some (thn (he pins s σ H _ I h) λv s1 ⟨x,H1,I1,r1,q1⟩=>⟨x,σ,H1,I1,r1,q1⟩)
def tRetN:TS:=λD _ H=>D.rt .non H
def tIfS (c:TT) (t u:TS):TS:=λD σ H=>c σ H λb H1=>if b = true then t D σ H1 else u D σ H1
theorem Za1 {c:Expr} {a b:List Stmt} {tc:TT} (hc:PT X c tc) (ha:PSs X a t) (hb:PSs X b u):PS X (.If c a b pos) (tIfS tc t u):=by
 intro pins s σ H D I h;refine wpAny_If (thn (hc pins s σ H _ I h) λd s1 ⟨H1,I1,q1⟩=>?_);cases d with
 | true=>exact ha pins s1 σ H1 D I1 q1
 | false=>exact hb pins s1 σ H1 D I1 q1
def tNever:TS:=λ_ _ _=>False
theorem Zap:PS X st tNever:=λ_ _ _ _ _ _ h=>h.elim
end
abbrev TG:=V->St->Hp->(St->Hp->Prop)->Prop
abbrev TGs:=List V->St->Hp->(St->Hp->Prop)->Prop
def PG (X:Cx) (target:Expr) (t:TG):Prop:=
 ∀ (pins:List (Addr × Obj)) (s:Shared) (σ:St) (H:Hp) (v:V) (u:Value) (Q:St->Hp->Prop),Inv X pins σ H s->RelV v u->t v σ H Q->
  wpAny (model X.prog X.w) X.A (assign target X.env u) (λ_ s'=>∃ σ' H',Inv X pins σ' H' s'/\Q σ' H') X.xe s
def PGs (X:Cx) (ts:List Expr) (t:TGs):Prop:=
 ∀ (pins:List (Addr × Obj)) (s:Shared) (σ:St) (H:Hp) (vs:List V) (us:List Value) (Q:St->Hp->Prop),Inv X pins σ H s->Vals vs us->t vs σ H Q->
  wpAny (model X.prog X.w) X.A (assignInOrder ((assignEach ts X.env).map (·.2)) us) (λ_ s'=>∃ σ' H',Inv X pins σ' H' s'/\Q σ' H') X.xe s
abbrev TSet:=V->V->V->Hp->(Hp->Prop)->Prop
def PSet (X:Cx) (t:TSet):Prop:=
 ∀ (pins:List (Addr × Obj)) (s:Shared) (σ:St) (H:Hp) (o i v:V) (ov iv u:Value) (Q:Hp->Prop),Inv X pins σ H s->RelV o ov->RelV i iv->RelV v u->t o i v H Q->
  wpAny (model X.prog X.w) X.A (setItem ov iv u) (λ_ s'=>∃ H',Inv X pins σ H' s'/\Q H') X.xe s
abbrev TIp:=V->V->Hp->VK->Prop
section
variable {X:Cx} {pos:Pos}
def Zba (i:Nat):TG:=λv σ H Q=>Q (σ.set i (some v)) H
theorem Zah {i:Nat} {x:Str} (hN:X.N.Nodup) (hi:X.N[i]? = some x) (hx:Loc X.env.scope x) (hf:X.fn x = true\/X.env.scope.names.lookup x = some .local:=by first | exact .inl rfl | exact .inr rfl | assumption):PG X (.Name x pos) (Zba i):=by
 intro pins s σ H v u Q I r h;exact wpAny_assign_Name (Zev I hN hi hx r (λs' I'=>⟨_,H,I',h⟩) hf)
def gNil:TGs:=λvs σ H Q=>vs = []/\Q σ H
def Zl7 (t:TG) (u:TGs):TGs:=λvs σ H Q=>∃ v r,vs = v :: r/\t v σ H λσ' H'=>u r σ' H' Q
theorem Zbj:PGs X [] gNil:=by
 intro pins s σ H vs us Q I r h;obtain ⟨e,h⟩:=h;subst e;cases r;exact assignInOrder_nil ⟨σ,H,I,h⟩
theorem Zak {e:Expr} {es:List Expr} {t:TG} {u:TGs} (h1:PG X e t) (h2:PGs X es u)
  (hs:(assignEach (e :: es) X.env).map (·.2) = assign e X.env :: (assignEach es X.env).map (·.2):=by rfl):PGs X (e :: es) (Zl7 t u):=by
 intro pins s σ H vs us Q I r h;obtain ⟨v,vr,e1,h⟩:=h;subst e1;cases r with
 | cons r rr=>
  rw [hs];refine assignInOrder_cons (thn (h1 pins s σ H _ _ _ I r h) λ_ s1 ⟨σ1,H1,I1,q1⟩=>?_);exact h2 pins s1 σ1 H1 _ _ Q I1 rr q1
def gTup (K:PySem.W.Frag) (n:Nat) (t:TGs):TG:=λv σ H Q=>∃ a xs,v = .ref a/\SqT K H a xs/\xs.length = n/\t xs σ H Q
theorem Zdx {es:List Expr} {k:Nat} {t:TGs} {n:Nat} (hc:X.calm = true) (h:PGs X es t)
  (hn:(assignEach es X.env).length = n:=by rfl) (hst:(assignEach es X.env).findIdx? (·.1) = none:=by rfl):PG X (.Tuple es k pos) (gTup X.K n t):=by
 intro pins s σ H v u Q I r hw;obtain ⟨a,xs,e1,hq,hl,hw⟩:=hw;subst e1;cases r;obtain ⟨its,rv,ht,hz⟩:=I.tuple hq;refine assign_Tuple_tuple (I.ok.hd hc) ht (by simp [hn,<- hl,rv.length]) hst λh' hx=>?_;have I1:Inv X pins σ H { s with heap:=h' }:=I.kept (t':=s.toks) λb o e=>hx b o (Ja6 (Jaf e)) e;exact h pins _ σ H xs _ Q I1 (by simpa using rv) hw
def gSub (to ti:TE) (t:TSet):TG:=λv σ H Q=>to σ H λo H1=>ti σ H1 λi H2=>t o i v H2 λH3=>Q σ H3
theorem Zrn {o i:Expr} {to ti:TE} {t:TSet} (ho:PE X o to) (hi:PE X i ti) (hs:PSet X t)
  (ha:∀ v,assign (.Subscript o i pos) X.env v = (do
   let ov <- holding [v] (eval o X.env)
   let iv <- holding [v,ov] (eval i X.env)
   standAt pos
   holding [v,ov,iv] (setItem ov iv v)
   release [v,ov,iv] []):=by intro _; rfl):PG X (.Subscript o i pos) (gSub to ti t):=by
 intro pins s σ H v u Q I r h;rw [ha];refine Jac (Jb4 (thn (ho pins s σ H _ I h) λov s1 ⟨x,H1,I1,r1,q1⟩=>?_));refine Jac (Jb4 (thn (hi pins s1 σ H1 _ I1 q1) λiv s2 ⟨y,H2,I2,r2,q2⟩=>?_));refine Jac (Jb1 (Jac (Jb4 (thn (hs pins s2 σ H2 x y v ov iv u _ I2 r1 r2 r q2) λ_ s3 ⟨H3,I3,q3⟩=>?_))));exact wpAny_release ⟨σ,H3,I3,q3⟩
def tAsg (te:TE) (g:TG):TS:=λD σ H=>te σ H λx H1=>g x σ H1 D.nx
theorem Zf5 {tg e:Expr} {te:TE} {g:TG} (he:PE X e te) (hg:PG X tg g) (hs:swapsWithSole [tg] e pos.line X.env = pure false:=by rfl) (hw:swappedStores [tg] e X.env = pure none:=by rfl)
  (h1:(assignEach [tg] X.env).map (·.2) = [assign tg X.env]:=by rfl):PS X (.Assign [tg] e pos) (tAsg te g):=by
 intro pins s σ H D I h;refine wpAny_Assign_stores (thn (he pins s σ H _ I h) λv s1 ⟨x,H1,I1,r1,q1⟩=>?_) hs hw;rw [h1];exact thn (hg pins s1 σ H1 x v _ I1 r1 q1) λ_ s2 q=>q
theorem Zas {i:Nat} {x:Str} {e:Expr} {te:TE} {pos':Pos} (hN:X.N.Nodup) (hi:X.N[i]? = some x) (hx:Loc X.env.scope x) (he:PE X e te) (hs:swapsWith e (some (.Name x pos')) pos.line X.env = pure false:=by rfl) (hf:X.fn x = true\/X.env.scope.names.lookup x = some .local:=by first | exact .inl rfl | exact .inr rfl | assumption):
  PS X (.Assign [.Name x pos'] e pos) (tAsg te (Zba i)):=by
 intro pins s σ H D I h;refine wpAny_Assign_Name (thn (he pins s σ H _ I h) λv s1 ⟨y,H1,I1,r1,q1⟩=>?_) hs;exact Zev I1 hN hi hx r1 (λs2 I2=>⟨_,H1,I2,q1⟩) hf
def tPar (i j:Nat) (ta:TA):TS:=λD σ H=>ta σ H λvs H1=>∃ v w,vs = [v,w]/\D.nx ((σ.set i (some v)).set j (some w)) H1
theorem ps_par {i j:Nat} {x y:Str} {a b:Expr} {ta:TA} {px py pt:Pos} {kt k2 pt2} (hc:X.calm = true) (hN:X.N.Nodup) (hi:X.N[i]? = some x) (hj:X.N[j]? = some y) (hij:i ≠ j)
  (hx:X.env.scope.names.lookup x = some .local) (hy:X.env.scope.names.lookup y = some .local) (ha:PA X [a,b] ta)
  (hw:swappedStores [.Tuple [.Name x px,.Name y py] kt pt] (.Tuple [a,b] k2 pt2) X.env = pure (some [x,y]))
  (hs:swapsWithSole [.Tuple [.Name x px,.Name y py] kt pt] (.Tuple [a,b] k2 pt2) pos.line X.env = pure false:=by rfl):
  PS X (.Assign [.Tuple [.Name x px,.Name y py] kt pt] (.Tuple [a,b] k2 pt2) pos) (tPar i j ta):=by
 intro pins s σ H D I h;rw [exec_Assign_arm];refine Jac (Jb1 ?_);rw [hs];refine Jac (Jat ?_);rw [if_neg (by decide)];refine Jac (Tuple_ (thn (ha _ pins s σ H _ I h) λus s1 ⟨vs,H1,I1,r1,q1⟩=>?_));obtain ⟨v,w,e1,q1⟩:=q1;subst e1;obtain ⟨u1,u2,rfl,rv,rw'⟩:∃ u1 u2,us = [u1,u2]/\RelV v u1/\RelV w u2:=by
  cases r1 with
  | cons p q=>
   cases q with
   | cons p' q'=>
    cases q';exact ⟨_,_,rfl,p,p'⟩
 refine Jcu ?_ (by show 2<=sizeLine; decide);have I2:Inv X pins σ H1 { s1 with heap:=s1.heap.push { cls:=.type "tuple",data:=.seq [u1,u2].toArray } }:=I1.kept (t':=s1.toks) λb o e=>Jae _ e;rw [hw];refine Jac (Jat ?_);show wpAny (model X.prog X.w) X.A (do rule "assign.swapped-stores"; let items <- unpackItems (.ref s1.heap.objs.size) 2 none; assignInOrder [λv=>bindName X.env y v,λv=>bindName X.env x v] items.reverse; pure Flow.next) _ _ _;refine Jac (wpAny_rule (Jac (unpackItems_tuple (items:=#[u1,u2]) (I.ok.hd hc) (IsTup.new s1.heap _) λh' hx'=>?_)));have I3:=I2.kept (h':=h') (t':=s1.toks) λb o e=>hx' b o (Ja6 (Jaf e)) e;show wpAny _ _ (assignInOrder [λv=>bindName X.env y v,λv=>bindName X.env x v] [u2,u1] >>= λ_=>pure Flow.next) _ _ _;refine Jac (assignInOrder_cons (wpAny_bindName (Zev I3 hN hj (.inl hy) rw' (λs2 I4=>?_) (.inr hy))));refine assignInOrder_cons (wpAny_bindName (Zev I4 hN hi (.inl hx) rv (λs3 I5=>assignInOrder_nil (Jat ?_)) (.inr hx)));rw [List.set_comm _ _ (Jb7 hij)] at I5;exact ⟨_,H1,I5,q1⟩
def tAug (i:Nat) (te:TE) (ti:TIp):TS:=λD σ H=>∃ x,σ[i]? = some (some x)/\te σ H λy H1=>ti x y H1 λz H2=>D.nx (σ.set i (some z)) H2
def tAugS (to ti te:TE) (tget:V->V->Hp->VK->Prop) (tip:TIp) (tset:TSet):TS:=λD σ H=>to σ H λo H1=>ti σ H1 λi H2=>tget o i H2 λx H3=>te σ H3 λy H4=>tip x y H4 λz H5=>tset o i z H5 λH6=>D.nx σ H6
def ipI (f:Int->Int->Int):TIp:=λx y H Q=>∃ i j,x = .int i/\y = .int j/\Q (.int (f i j)) H
end
section
variable {X:Cx} {pos:Pos}
def tWhile (c:TT) (tb:TS):TS:=λD σ H=>∃ W:Nat->St->Hp->Prop,(∃ m,W m σ H)/\∀ m σ H,W m σ H->
 c σ H λb H1=>if b = true then ∃ N:St->Hp->Prop,(∀ σ' H',N σ' H'->∃ m',m' < m/\W m' σ' H')/\tb { D with nx:=N,ct:=N,bk:=D.nx } σ H1 else D.nx σ H1
theorem Zkx {c:Expr} {body:List Stmt} {tc:TT} {tb:TS} (hp:PassesOwn (model X.prog X.w) X.A X.env X.xe) (hc:PT X c tc) (hb:PSs X body tb):PS X (.While c body [] pos) (tWhile tc tb):=by
 intro pins s σ H D I h;refine Zad h λW e929 turn=>?_;clear h;obtain ⟨m0,w0⟩:=e929;refine wpAny_While (codeAny_whileLoop (λn s'=>∃ σ' H',Inv X pins σ' H' s'/\W n σ' H') ?_ m0 ⟨σ,H,I,w0⟩);intro n s1 e91;refine Zbo e91 λσ1 H1 I1 w1=>?_;clear e91;refine Jch hp (thn (hc pins s1 σ1 H1 _ I1 (turn n σ1 H1 w1)) λb s2 ⟨H2,I2,q2⟩=>?_);cases b with
 | true=>
  obtain ⟨N,hN,q2⟩:=q2;rw [if_pos rfl];refine Jch hp (thn (hb pins s2 σ1 H2 _ I2 q2) λf s3 q3=>?_);cases f with
  | next=>
   refine Zbo q3 λσ3 H3 I3 n3=>?_;clear q3;refine Zad (hN σ3 H3 n3) λm' hm w3=>?_;exact ⟨m',hm,σ3,H3,I3,w3⟩
  | cont=>
   refine Zbo q3 λσ3 H3 I3 n3=>?_;clear q3;refine Zad (hN σ3 H3 n3) λm' hm w3=>?_;exact ⟨m',hm,σ3,H3,I3,w3⟩
  | brk=>exact q3
  | ret v=>exact q3
 | false=>
  rw [if_neg Jao];exact Jc4 ⟨σ1,H2,I2,q2⟩
end
structure It where
 go:Nat->Hp->Prop
 yld:Nat->Hp->V->Hp->Prop
 stop:Nat->Hp->Prop
def Zio (X:Cx) (pins:List (Addr × Obj)) (H:Hp) (b:Addr):Prop:=
 H b = none/\b ≠ X.env.locals/\b ∉ X.fs/\(b ∈ X.ex\/X.s₀.heap.objs.size<=b)/\(∀ x c,X.env.cells.lookup x = some c->c ≠ b)/\∀ p ∈ X.pn ++ pins,p.1 ≠ b
theorem Inv.fpOk {X:Cx} {pins:List (Addr × Obj)} {σ:St} {H H':Hp} {s:Shared} {b:Addr} (I:Inv X pins σ H s) (hb:s.heap.objs.size<=b) (hn:H' b = none):Zio X pins H' b:=by
 refine ⟨hn,Jdf (Jau I.lt hb),I.nofs hb,.inr (Ja3 I.sz hb),λx c e z=>?_,λp hp z=>?_⟩
 .obtain ⟨v,q⟩:=I.cell x c e;exact absurd (Jau q.lt (by rw [z]; exact hb)) (Jbp _)
 .exact absurd (Jau (Jaf (I.pin p hp).1) (by rw [z]; exact hb)) (Jbp _)
structure Turn (P:Program) (w:World) (K:PySem.W.Frag) (tg:Expr) (J:It) (fp:List Addr) (it:Addr) (tn:Nat->Heap->Prop):Prop where
 mem:it ∈ fp
 obj:∀ i h,tn i h->∀ b ∈ fp,∃ o,h.get? b = some o/\∀ v,o.data ≠ .cell v
 keep:∀ i h h',tn i h->(∀ b ∈ fp,∀ o,h.get? b = some o->h'.get? b = some o)->tn i h'
 item:∀ (X:Cx),X.prog = P->X.w = w->X.K = K->X.calm = true->∀ (i:Nat) (pins:List (Addr × Obj)) (s:Shared) (σ:St) (H:Hp) (E:Value->Shared->Prop),Inv X pins σ H s->(∀ b ∈ fp,Zio X pins H b)->tn i s.heap->J.go i H->
  wpAny (model P w) X.A (pyNext (.ref it)) (λr s1=>∃ u,r = some u /\
   wpAny (model P w) X.A (letOwnedTupleGo tg (.ref it) u) (λ_ s2=>∃ x H',Inv X pins σ H' s2/\RelV x u/\J.yld i H x H'/\tn (i + 1) s2.heap/\∀ b ∈ fp,H' b = none) E s1) E s
 done:∀ (X:Cx),X.prog = P->X.w = w->X.K = K->X.calm = true->∀ (i:Nat) (pins:List (Addr × Obj)) (s:Shared) (σ:St) (H:Hp) (E:Value->Shared->Prop),Inv X pins σ H s->(∀ b ∈ fp,Zio X pins H b)->tn i s.heap->J.stop i H->
  wpAny (model P w) X.A (pyNext (.ref it)) (λr s1=>r = none/\Inv X pins σ H s1) E s
 self:∀ (A:Around) (i:Nat) (s:Shared) (Q:Value->Shared->Prop) (E:Value->Shared->Prop),tn i s.heap->Q (.ref it) s->wpAny (model P w) A (pyIter (.ref it)) Q E s
abbrev TI:=St->Hp->(It->Hp->Prop)->Prop
def PIE (X:Cx) (pins:List (Addr × Obj)) (σ:St) (tg:Expr) (R:It->Hp->Prop) (itv:Value) (s2:Shared):Prop:=
 ∃ (it:Addr) (fp:List Addr) (tn:Nat->Heap->Prop) (J:It) (H':Hp),itv = .ref it/\Inv X pins σ H' s2/\Turn X.prog X.w X.K tg J fp it tn/\tn 0 s2.heap/\(∀ b ∈ fp,Zio X pins H' b)/\R J H'
def PI (X:Cx) (tg iter:Expr) (wi:TI):Prop:=
 ∀ (pins:List (Addr × Obj)) (s:Shared) (σ:St) (H:Hp) (R:It->Hp->Prop),Inv X pins σ H s->wi σ H R->
  wpAny (model X.prog X.w) X.A (eval iter X.env) (λv s1=>wpAny (model X.prog X.w) X.A (pyIter v) (PIE X pins σ tg R) X.xe s1) X.xe s
theorem go_of {M:Model} {A:Around} {E:Value->Shared->Prop} {s:Shared} {tg:Expr} {it:Addr} {u:Value} {o:Obj} {n:String} {vs:Array Value} {Q:Unit->Shared->Prop} (ho:s.heap.get? it = some o) (hc:o.cls = .type n) (hd:o.data = .fields vs)
  (hn:["enumerate","zip","dict_itemiterator","dict_reverseitemiterator","odict_iterator","itertools.zip_longest","itertools.pairwise"].contains n = false) (hQ:Q () s):wpAny M A (letOwnedTupleGo tg (.ref it) u) Q E s:=by
 unfold letOwnedTupleGo;cases tg <;> first
  | exact Jat hQ
  | (cases u <;> first
    | exact Jat hQ
    | (refine Jac (wpAny_load ho ?_); rw [hc,hd]; show wpAny M A (if (["enumerate","zip","dict_itemiterator","dict_reverseitemiterator","odict_iterator","itertools.zip_longest","itertools.pairwise"].contains n && vs[0]? == some (rawInt _)) = true then _ else _) Q E s; rw [if_neg (by intro h; rw [hn,Jd1] at h; cases h)]; exact Jat hQ))
def Itl (K:PySem.W.Frag) (a:Addr):It:=
 ⟨λi H=>∃ xs x,SqL K H a xs/\xs[i]? = some x,λi H x H'=>H' = H/\∀ xs,SqL K H a xs->xs[i]? = some x,λi H=>∃ xs,SqL K H a xs/\xs.length<=i⟩
def Itt (K:PySem.W.Frag) (a:Addr):It:=
 ⟨λi H=>∃ xs x,SqT K H a xs/\xs[i]? = some x,λi H x H'=>H' = H/\∀ xs,SqT K H a xs->xs[i]? = some x,λi H=>∃ xs,SqT K H a xs/\xs.length<=i⟩
def Itr (lo:Int) (n:Nat):It:=⟨λi _=>i < n,λi H x H'=>H' = H/\x = .int (lo + i),λi _=>n<=i⟩
theorem Zmq {P:Program} {w:World} {K:PySem.W.Frag} {tg:Expr} (a it:Addr):Turn P w K tg (Itl K a) [it] it (λi h=>h.IsListIter it a i) where
 mem:=by simp
 obj:=λi h st b hb=>by
  have e:b = it:=by simpa using hb
  subst e;refine Zao st λo e c d=>?_;clear st;exact ⟨o,e,λv z=>by rw [d] at z; cases z⟩
 keep:=λi h h' st k=>st.at λo e=>k it (by simp) o e
 item:=by
  intro X hP hw hK hc i pins s σ H E I hf st hg;subst hP hw hK;refine Zbo hg λxs x hq hx=>?_;clear hg;refine Zao (I.list hq) λits rv p hz=>?_;refine Zad (rv.get hx) λu hu ru=>?_;refine Zfe (hf it (by simp)) λf0 f1 f2 f3 f4 f5=>?_;refine wpAny_pyNext_list_item st p.isList (x:=u) (by simpa using hu) λh' st' sb=>?_;have I1:Inv X pins σ H { s with heap:=h' }:=I.turned (t':=s.toks) (λb o hb e=>(sb.2 b hb).trans e) f0 f1 f3 f4 f5;refine Zao (id st') λo e c d=>?_;exact ⟨u,rfl,go_of (s:={ s with heap:=h' }) e c d (by decide) ⟨x,H,I1,ru,⟨rfl,λys hy=>by rw [I.list_inj hy hq]; exact hx⟩,st',λb hb=>(hf b hb).1⟩⟩
 done:=by
  intro X hP hw hK hc i pins s σ H E I hf st hg;subst hP hw hK;refine Zad hg λxs hq hx=>?_;clear hg;refine Zao (I.list hq) λits rv p hz=>?_;refine Zfe (hf it (by simp)) λf0 f1 f2 f3 f4 f5=>?_;have hl:=rv.length;exact wpAny_pyNext_list_end (I.ok.hd hc) st p.isList (by simp; omega) λh' eb=>⟨rfl,I.turned (t':=s.toks) (λb o hb e=>eb b o hb e) f0 f1 f3 f4 f5⟩
 self:=λ_ _ _ _ _ st h=>wpAny_pyIter_listiter st h
theorem Zlo {P:Program} {w:World} {K:PySem.W.Frag} {tg:Expr} (a it:Addr):Turn P w K tg (Itt K a) [it] it (λi h=>h.IsTupleIter it a i) where
 mem:=by simp
 obj:=λi h st b hb=>by
  have e:b = it:=by simpa using hb
  subst e;refine Zao st λo e c d=>?_;clear st;exact ⟨o,e,λv z=>by rw [d] at z; cases z⟩
 keep:=λi h h' st k=>st.at λo e=>k it (by simp) o e
 item:=by
  intro X hP hw hK hc i pins s σ H E I hf st hg;subst hP hw hK;refine Zbo hg λxs x hq hx=>?_;clear hg;refine Zao (I.tuple hq) λits rv p hz=>?_;refine Zad (rv.get hx) λu hu ru=>?_;refine Zfe (hf it (by simp)) λf0 f1 f2 f3 f4 f5=>?_;refine wpAny_pyNext_tuple_item st (show s.heap.IsTuple a its.toArray from p) (x:=u) (by simpa using hu) λh' st' sb=>?_;have I1:Inv X pins σ H { s with heap:=h' }:=I.turned (t':=s.toks) (λb o hb e=>(sb.2 b hb).trans e) f0 f1 f3 f4 f5;refine Zao (id st') λo e c d=>?_;exact ⟨u,rfl,go_of (s:={ s with heap:=h' }) e c d (by decide) ⟨x,H,I1,ru,⟨rfl,λys hy=>by rw [I.tuple_inj hy hq]; exact hx⟩,st',λb hb=>(hf b hb).1⟩⟩
 done:=by
  intro X hP hw hK hc i pins s σ H E I hf st hg;subst hP hw hK;refine Zad hg λxs hq hx=>?_;clear hg;refine Zao (I.tuple hq) λits rv p hz=>?_;refine Zfe (hf it (by simp)) λf0 f1 f2 f3 f4 f5=>?_;have hl:=rv.length;exact wpAny_pyNext_tuple_end (I.ok.hd hc) st (show s.heap.IsTuple a its.toArray from p) (by simp; omega) λh' eb=>⟨rfl,I.turned (t':=s.toks) (λb o hb e=>eb b o hb e) f0 f1 f3 f4 f5⟩
 self:=λ_ _ _ _ _ st h=>wpAny_pyIter_tupleiter st h
theorem Zlp {P:Program} {w:World} {K:PySem.W.Frag} {tg:Expr} (it:Addr) (lo:Int) (n:Nat):Turn P w K tg (Itr lo n) [it] it (λi h=>IsRangeIter h it (lo + (i:Nat) * 1) ((n:Int) - (i:Nat)) 1) where
 mem:=by simp
 obj:=λi h st b hb=>by
  have e:b = it:=by simpa using hb
  subst e;exact ⟨_,st,λv z=>by
   have z':Data.fields _ = Data.cell v:=z;cases z'⟩
 keep:=λi h h' st k=>k it (by simp) _ st
 item:=by
  intro X hP hw hK hc i pins s σ H E I hf st hg;subst hP hw hK;refine Zfe (hf it (by simp)) λf0 f1 f2 f3 f4 f5=>?_;have W:=Walks.range (prog:=X.prog) (w:=X.w) (I.ok.hd hc) it lo 1 n;refine W.item i s _ _ hg st λv h' tk hv st' kk=>?_;obtain ⟨t,rfl⟩:=hv;have I1:Inv X pins σ H { s with heap:=h',toks:=tk }:=I.turned (λb o hb e=>kk b o (by simpa using hb) e) f0 f1 f3 f4 f5;refine ⟨_,rfl,go_of (s:={ s with heap:=h',toks:=tk }) (n:="range_iterator") st' rfl rfl (by decide) ⟨.int (lo + i),H,I1,⟨t,?_⟩,⟨rfl,rfl⟩,st',λb hb=>(hf b hb).1⟩⟩;rw [Int.mul_one]
 done:=by
  intro X hP hw hK hc i pins s σ H E I hf st hg;subst hP hw hK;refine Zfe (hf it (by simp)) λf0 f1 f2 f3 f4 f5=>?_;exact wpAny_pyNext_range_end (I.ok.hd hc) st (by have:n<=i:=hg; omega) λh' eb=>⟨rfl,I.turned (t':=s.toks) (λb o hb e=>eb b o hb e) f0 f1 f3 f4 f5⟩
 self:=λ_ _ _ _ _ st h=>wpAny_pyIter_rangeiter st h
section
variable {X:Cx} {tg:Expr}
def Zqx (K:PySem.W.Frag) (tl:TE):TI:=λσ H R=>tl σ H λx H1=>∃ a,x = .ref a/\(∃ xs,SqL K H1 a xs)/\R (Itl K a) H1
def iTup (K:PySem.W.Frag) (tl:TE):TI:=λσ H R=>tl σ H λx H1=>∃ a,x = .ref a/\(∃ xs,SqT K H1 a xs)/\R (Itt K a) H1
theorem Zat {l:Expr} {tl:TE} (hl:PE X l tl):PI X tg l (Zqx X.K tl):=by
 intro pins s σ H R I h;refine thn (hl pins s σ H _ I h) λv s1 ⟨x,H1,I1,r1,q1⟩=>?_;refine Zao q1 λa e e930 q=>?_;clear q1;obtain ⟨xs,hq⟩:=e930;subst e;cases r1;refine Zao (I1.list hq) λits rv p hz=>?_;refine Jd3 p.isList ?_;refine Zip s1.heap.objs.size [s1.heap.objs.size] _ _ H1 ⟨rfl,I1.kept (t':=s1.toks) λb o e=>Jae _ e,Zmq a _,⟨_,Ja8 _ rfl,rfl,rfl⟩,λb hb=>?_,q⟩;have e:b = s1.heap.objs.size:=by simpa using hb
 subst e;exact I1.fpOk (Jah _) (I1.hok.fresh (Jah _))
theorem Zrm {l:Expr} {tl:TE} (hl:PE X l tl):PI X tg l (iTup X.K tl):=by
 intro pins s σ H R I h;refine thn (hl pins s σ H _ I h) λv s1 ⟨x,H1,I1,r1,q1⟩=>?_;refine Zao q1 λa e e931 q=>?_;clear q1;obtain ⟨xs,hq⟩:=e931;subst e;cases r1;refine Zao (I1.tuple hq) λits rv p hz=>?_;refine wpAny_pyIter_tuple (show s1.heap.IsTuple a its.toArray from p) ?_;refine Zip s1.heap.objs.size [s1.heap.objs.size] _ _ H1 ⟨rfl,I1.kept (t':=s1.toks) λb o e=>Jae _ e,Zlo a _,⟨_,Ja8 _ rfl,rfl,rfl⟩,λb hb=>?_,q⟩;have e:b = s1.heap.objs.size:=by simpa using hb
 subst e;exact I1.fpOk (Jah _) (I1.hok.fresh (Jah _))
theorem Zku {pins:List (Addr × Obj)} {σ:St} {H:Hp} {s:Shared} {R:It->Hp->Prop} {E:Value->Shared->Prop} {lo hi:Int} {t u v:Tok} {tk:Nat} (I:Inv X pins σ H s) (h1:-(2 ^ 62)<=lo) (h2:lo < 2 ^ 62) (h3:-(2 ^ 62)<=hi) (h4:hi < 2 ^ 62)
  (q:R (Itr lo (hi - lo).toNat) H):wpAny (model X.prog X.w) X.A (pyIter (.ref s.heap.objs.size)) (PIE X pins σ tg R) E { s with heap:=s.heap.push { cls:=.type "range",data:=.fields #[.int lo t,.int hi u,.int 1 v] },toks:=tk }:=by
 refine wpAny_pyIter_range (IsRange.new ..) (small_one h1 h2 h3 h4) ?_;have I1:Inv X pins σ H { s with heap:=s.heap.push { cls:=.type "range",data:=.fields #[.int lo t,.int hi u,.int 1 v] },toks:=tk }:=I.kept λb o e=>Jae _ e;refine Zip ((s.heap.push { cls:=.type "range",data:=.fields #[.int lo t,.int hi u,.int 1 v] }).objs.size) [(s.heap.push { cls:=.type "range",data:=.fields #[.int lo t,.int hi u,.int 1 v] }).objs.size] _ _ H ⟨rfl,I1.kept (t':=tk) λb o e=>Jae _ e,Zlp _ lo (hi - lo).toNat,?_,λb hb=>?_,q⟩
 .have e1:lo + ((0:Nat):Int) * 1 = lo:=by simp
  have e2:(((hi - lo).toNat:Nat):Int) - ((0:Nat):Int) = Builtin.Range.rangeSize lo hi 1:=by rw [rangeSize_one]; split <;> omega
  show IsRangeIter _ _ (lo + ((0:Nat):Int) * 1) ((((hi - lo).toNat:Nat):Int) - ((0:Nat):Int)) 1;rw [e1,e2];exact Ja8 _ rfl
 .have e:b = (s.heap.push { cls:=.type "range",data:=.fields #[.int lo t,.int hi u,.int 1 v] }).objs.size:=by simpa using hb
  subst e;exact I1.fpOk (Jah _) (I1.hok.fresh (Jah _))
def iRng1 (ta:TA):TI:=λσ H R=>ta σ H λvs H1=>∃ j:Int,vs = [.int j]/\-(2 ^ 62)<=j/\j < 2 ^ 62/\R (Itr 0 j.toNat) H1
def iRng2 (ta:TA):TI:=λσ H R=>ta σ H λvs H1=>∃ i j:Int,vs = [.int i,.int j]/\(-(2 ^ 62)<=i/\i < 2 ^ 62/\-(2 ^ 62)<=j/\j < 2 ^ 62)/\R (Itr i (j - i).toNat) H1
theorem Znq {a:Expr} {ta:TA} {p pos:Pos} (hg:Gl X "range") (hm:X.mg "range" = none) (ha:PA X [a] ta) (hs:starEach [a] X.env = [(false,eval a X.env)]:=by rfl):PI X tg (.Call (.Name "range" p) [a] [] pos) (iRng1 ta):=by
 intro pins s σ H R I h;refine Call_ (Zhr I hg hm boot_range (Jb9 (thn (ha pos pins s σ H _ I h) λus s1 ⟨vs,H1,I1,r1,q1⟩=>?_) hs rfl));obtain ⟨j,e,q1,q2,q⟩:=q1;subst e;cases r1 with
 | cons r rr=>
  cases rr;obtain ⟨t,rfl⟩:=r;exact call_range_1 (Zku I1 (by omega) (by omega) q1 q2 (by simpa using q))
theorem Znp {a b:Expr} {ta:TA} {p pos:Pos} (hg:Gl X "range") (hm:X.mg "range" = none) (ha:PA X [a,b] ta) (hs:starEach [a,b] X.env = [(false,eval a X.env),(false,eval b X.env)]:=by rfl) (hs2:starEach [b] X.env = [(false,eval b X.env)]:=by rfl):
  PI X tg (.Call (.Name "range" p) [a,b] [] pos) (iRng2 ta):=by
 intro pins s σ H R I h;refine Call_ (Zhr I hg hm boot_range (Jb9 (thn (ha pos pins s σ H _ I h) λus s1 ⟨vs,H1,I1,r1,q1⟩=>?_) (by rw [hs,hs2]) (by rw [hs2]; rfl)));refine Zca q1 λi j e e932 q=>?_;clear q1;obtain ⟨q1,q2,q3,q4⟩:=e932;subst e;cases r1 with
 | cons r rr=>
  cases rr with
  | cons r' rr=>
   cases rr;obtain ⟨t,rfl⟩:=r;obtain ⟨t',rfl⟩:=r';exact call_range_2 (Zku I1 q1 q2 q3 q4 q)
def tFor (wi:TI) (g:TG) (tb:TS):TS:=λD σ H=>wi σ H λJ H1=>∃ W:Nat->Nat->St->Hp->Prop,(∃ m,W 0 m σ H1)/\∀ i m σ H,W i m σ H->
 (J.stop i H/\D.nx σ H)\/(J.go i H/\∃ N:St->Hp->Prop,(∀ σ' H',N σ' H'->∃ m',m' < m/\W (i + 1) m' σ' H')/\∀ x H',J.yld i H x H'->g x σ H' λσ2 H2=>tb { D with nx:=N,ct:=N,bk:=D.nx } σ2 H2)
def Ze4 (fp:List Addr) (h:Heap):List (Addr × Obj):=fp.filterMap λb=>(h.get? b).map λo=>(b,o)
theorem Za8 {fp:List Addr} {h:Heap} {b:Addr} {o:Obj} (hb:b ∈ fp) (e:h.get? b = some o):(b,o) ∈ Ze4 fp h:=Jdw.mpr ⟨b,hb,by rw [e]; rfl⟩
theorem Zn2 {fp:List Addr} {h:Heap} {p:Addr × Obj} (hp:p ∈ Ze4 fp h):p.1 ∈ fp/\h.get? p.1 = some p.2:=by
 refine Zad (Jdw.mp hp) λb hb e=>?_;cases q:h.get? b with
 | none=>rw [q] at e; cases e
 | some o=>
  rw [q] at e;have e':(b,o) = p:=Jbi e;subst e';exact ⟨hb,q⟩
theorem Inv.pinned {pins:List (Addr × Obj)} {σ:St} {H:Hp} {s:Shared} {fp:List Addr} (I:Inv X pins σ H s) (hf:∀ b ∈ fp,Zio X pins H b) (ho:∀ b ∈ fp,∃ o,s.heap.get? b = some o/\∀ v,o.data ≠ .cell v):Inv X (pins ++ Ze4 fp s.heap) σ H s:=
 I.pins_of λp hp=>(Jbe.mp hp).elim (λz=>I.pin p (Jaj _ z)) λz=>by
  obtain ⟨hb,e⟩:=Zn2 z;refine Zbh (hf p.1 hb) λf0 f1 f2 _=>?_;refine Zad (ho p.1 hb) λo e' d=>?_;rw [e] at e'; cases e';exact ⟨e,f0,f1,f2,d⟩
theorem Inv.unpinned {pins pl:List (Addr × Obj)} {σ:St} {H:Hp} {s:Shared} (I:Inv X (pins ++ pl) σ H s):Inv X pins σ H s:=I.pins_of λp hp=>I.pin p (Jaj _ (Jcz _ hp))
theorem Zdh {iter:Expr} {body:List Stmt} {wi:TI} {g:TG} {tb:TS} {pos:Pos} (hp:PassesOwn (model X.prog X.w) X.A X.env X.xe) (hc:X.calm = true) (hi:PI X tg iter wi) (hg:PG X tg g) (hb:PSs X body tb)
  (hs:∀ x,foldedSetIterable iter X.env x = pure x:=by intro _; rfl):PS X (.For tg iter body [] pos) (tFor wi g tb):=by
 intro pins s σ H D I h;refine wpAny_For (thn (hi pins s σ H _ I h) λv s1 h1=>thn h1 λitv s2 h2=>?_) hs;refine Zct h2 λit fp tn J H2 e I2 T e933=>?_;clear h2;refine Zav e933 λst2 f2 e934=>?_;clear e933;obtain ⟨W,⟨m0,w0⟩,turn⟩:=e934;subst e
 -- what stays true of the iterator's objects through the loop
 have stat:∀ {H':Hp},(∀ b ∈ fp,H' b = none)->∀ b ∈ fp,Zio X pins H' b:=λhn b hb=>⟨hn b hb,(f2 b hb).2⟩
 refine codeAny_forLoop_any (λn s'=>∃ i σ' H',Inv X pins σ' H' s'/\tn i s'.heap/\(∀ b ∈ fp,H' b = none)/\W i n σ' H') ?_ m0 ⟨0,σ,H2,I2,st2,λb hb=>(f2 b hb).1,w0⟩;intro n s3 e92;refine Zb1 e92 λi σ3 H3 I3 st3 fr3 w3=>?_;clear e92;rcases turn i n σ3 H3 w3 with ⟨stop,qn⟩ | ⟨go,N,hN,step⟩
 .refine Jch hp (thn (T.done X rfl rfl rfl hc i pins s3 σ3 H3 X.xe I3 (stat fr3) st3 stop) λr s4 ⟨hr,I4⟩=>?_);subst hr;exact Jc4 ⟨σ3,H3,I4,qn⟩
 .refine Jch hp (thn (T.item X rfl rfl rfl hc i pins s3 σ3 H3 X.xe I3 (stat fr3) st3 go) λr s4 ⟨u,hr,h4⟩=>?_);subst hr;refine Jch hp (thn h4 λ_ s5 ⟨x,H5,I5,r5,y5,st5,fr5⟩=>?_);have I5':=I5.pinned (stat fr5) (T.obj _ _ st5);refine Jch hp (thn (hg _ s5 σ3 H5 x u _ I5' r5 (step x H5 y5)) λ_ s6 ⟨σ6,H6,I6,q6⟩=>?_);refine Jch hp (thn (hb _ s6 σ6 H6 _ I6 q6) λf s7 q7=>?_);have again:∀ {σ7:St} {H7:Hp},Inv X (pins ++ Ze4 fp s5.heap) σ7 H7 s7->N σ7 H7->∃ m,m < n/\∃ i σ' H',Inv X pins σ' H' s7/\tn i s7.heap/\(∀ b ∈ fp,H' b = none)/\W i m σ' H':=λ{σ7 H7} I7 n7=>by
   refine Zad (hN σ7 H7 n7) λm' hm w7=>?_;refine ⟨m',hm,i + 1,σ7,H7,I7.unpinned,T.keep _ _ _ st5 λb hb o e=>(I7.pin (b,o) (Jaj _ (Jaj _ (Za8 hb e)))).1,λb hb=>?_,w7⟩;refine Zad (T.obj _ _ st5 b hb) λo e d=>?_;exact (I7.pin (b,o) (Jaj _ (Jaj _ (Za8 hb e)))).2.1
  cases f with
  | next=>obtain ⟨σ7,H7,I7,n7⟩:=q7; exact again I7 n7
  | cont=>obtain ⟨σ7,H7,I7,n7⟩:=q7; exact again I7 n7
  | brk=>obtain ⟨σ7,H7,I7,q7⟩:=q7; exact ⟨σ7,H7,I7.unpinned,q7⟩
  | ret v=>obtain ⟨x7,σ7,H7,I7,r7,q7⟩:=q7; exact ⟨x7,σ7,H7,I7.unpinned,r7,q7⟩
end
theorem Zd4 {K:PySem.W.Frag} {a:Addr} {xs:List V} {g:TG} {tb:TS} {D:Ends} {σ:St} {H:Hp} (Pv:Nat->St->Hp->Prop) (h0:Pv 0 σ H) (hl:∀ i σ H,i<=xs.length->Pv i σ H->SqL K H a xs)
  (hs:∀ i x σ H,xs[i]? = some x->Pv i σ H->g x σ H λσ2 H2=>tb { D with nx:=Pv (i + 1),ct:=Pv (i + 1),bk:=D.nx } σ2 H2) (hd:∀ σ H,Pv xs.length σ H->D.nx σ H):
  ∃ W:Nat->Nat->St->Hp->Prop,(∃ m,W 0 m σ H)/\∀ i m σ H,W i m σ H->
   ((Itl K a).stop i H/\D.nx σ H)\/((Itl K a).go i H/\∃ N:St->Hp->Prop,(∀ σ' H',N σ' H'->∃ m',m' < m/\W (i + 1) m' σ' H')/\∀ x H',(Itl K a).yld i H x H'->g x σ H' λσ2 H2=>tb { D with nx:=N,ct:=N,bk:=D.nx } σ2 H2):=by
 refine ⟨λi m σ H=>m = xs.length - i/\i<=xs.length/\Pv i σ H,⟨xs.length,by simp,Jb6 _,h0⟩,?_⟩;intro i m σ H e93;refine Zav e93 λe935 hi p=>?_;clear e93;obtain rfl:=e935;have q:=hl i σ H hi p;by_cases hlt:i < xs.length
 .refine .inr ⟨⟨xs,xs[i],q,by simp [hlt]⟩,Pv (i + 1),λσ' H' p'=>⟨xs.length - (i + 1),by omega,rfl,hlt,p'⟩,λx H' y=>?_⟩;obtain ⟨e,y⟩:=y;subst e;exact hs i x σ _ (y xs q) p
 .have e:i = xs.length:=by omega
  subst e;exact .inl ⟨⟨xs,q,Jah _⟩,hd σ H p⟩
theorem Ze8 {lo:Int} {n:Nat} {g:TG} {tb:TS} {D:Ends} {σ:St} {H:Hp} (Pv:Nat->St->Hp->Prop) (h0:Pv 0 σ H)
  (hs:∀ i σ H,i < n->Pv i σ H->g (.int (lo + i)) σ H λσ2 H2=>tb { D with nx:=Pv (i + 1),ct:=Pv (i + 1),bk:=D.nx } σ2 H2) (hd:∀ σ H,Pv n σ H->D.nx σ H):
  ∃ W:Nat->Nat->St->Hp->Prop,(∃ m,W 0 m σ H)/\∀ i m σ H,W i m σ H->
   ((Itr lo n).stop i H/\D.nx σ H)\/((Itr lo n).go i H/\∃ N:St->Hp->Prop,(∀ σ' H',N σ' H'->∃ m',m' < m/\W (i + 1) m' σ' H')/\∀ x H',(Itr lo n).yld i H x H'->g x σ H' λσ2 H2=>tb { D with nx:=N,ct:=N,bk:=D.nx } σ2 H2):=by
 refine ⟨λi m σ H=>m = n - i/\i<=n/\Pv i σ H,⟨n,by simp,Jb6 _,h0⟩,?_⟩;intro i m σ H e95;refine Zav e95 λe937 hi p=>?_;clear e95;obtain rfl:=e937;by_cases hlt:i < n
 .refine .inr ⟨hlt,Pv (i + 1),λσ' H' p'=>⟨n - (i + 1),by omega,rfl,hlt,p'⟩,λx H' y=>?_⟩;obtain ⟨e,y⟩:=y;subst e y;exact hs i σ _ hlt p
 .have e:i = n:=by omega
  subst e;exact .inl ⟨Jah _,hd σ H p⟩
abbrev R2:=V->V->Hp->VK->Prop
def OpR (X:Cx) (f:Value->Value->Sem Value) (r:R2):Prop:=
 ∀ (pins:List (Addr × Obj)) (s:Shared) (σ:St) (H:Hp) (x y:V) (v u:Value) (Q:VK),Inv X pins σ H s->RelV x v->RelV y u->r x y H Q->
  wpAny (model X.prog X.w) X.A (f v u) (EP X pins σ Q) X.xe s
def Zdc (X:Cx) (f:Value) (r:List V->Hp->VK->Prop):Prop:=
 ∀ (pins:List (Addr × Obj)) (s:Shared) (σ:St) (H:Hp) (xs:List V) (us:List Value) (Q:VK),Inv X pins σ H s->Vals xs us->r xs H Q->
  wpAny (model X.prog X.w) X.A (call f us) (EP X pins σ Q) X.xe s
def TruR (X:Cx) (r:V->Hp->(Bool->Hp->Prop)->Prop):Prop:=
 ∀ (pins:List (Addr × Obj)) (s:Shared) (σ:St) (H:Hp) (x:V) (v:Value) (Q:Bool->Hp->Prop),Inv X pins σ H s->RelV x v->r x H Q->
  wpAny (model X.prog X.w) X.A (truthy v) (TP X pins σ Q) X.xe s
def tOp (r:R2) (ta tb:TE):TE:=λσ H Q=>ta σ H λx H1=>tb σ H1 λy H2=>r x y H2 Q
def tUn (r:V->Hp->VK->Prop) (ta:TE):TE:=λσ H Q=>ta σ H λx H1=>r x H1 Q
def rI (C:Int->Int->Prop) (g:Int->Int->V):R2:=λx y H Q=>∃ i j,x = .int i/\y = .int j/\C i j/\Q (g i j) H
def rI0 (g:Int->Int->V):R2:=λx y H Q=>∃ i j,x = .int i/\y = .int j/\Q (g i j) H
def rU (g:Int->V):V->Hp->VK->Prop:=λx H Q=>∃ i,x = .int i/\Q (g i) H
section
variable {X:Cx} {a b c:Expr} {ta tb tc:TE} {pos:Pos}
theorem binT (ha:PE X a ta) (hb:PE X b tb) {pins:List (Addr × Obj)} {s:Shared} {σ:St} {H:Hp} {R:V->V->Hp->Prop} (I:Inv X pins σ H s)
  (h:ta σ H λx H1=>tb σ H1 λy H2=>R x y H2) {Q:Value->Shared->Prop} {f:Value->Value->Sem Value}
  (hf:∀ v u s2 x y H2,Inv X pins σ H2 s2->RelV x v->RelV y u->R x y H2->wpAny (model X.prog X.w) X.A (f v u) Q X.xe s2):
  wpAny (model X.prog X.w) X.A (eval a X.env) (λv s₁=>wpAny (model X.prog X.w) X.A (eval b X.env) (λu s₂=>wpAny (model X.prog X.w) X.A (f v u) Q X.xe s₂) X.xe s₁) X.xe s:=by
 refine thn (ha pins s σ H _ I h) λv s1 ⟨x,H1,I1,r1,q1⟩=>?_;refine thn (hb pins s1 σ H1 _ I1 q1) λu s2 ⟨y,H2,I2,r2,q2⟩=>?_;exact hf v u s2 x y H2 I2 r1 r2 q2
theorem pe_op {op:Operator} {r:R2} (ho:OpR X (binaryOp op) r) (ha:PE X a ta) (hb:PE X b tb):PE X (.BinOp a op b pos) (tOp r ta tb):=by
 intro pins s σ H Q I h;exact wpAny_BinOp (binT ha hb I h λv u s2 x y H2 I2 rx ry q=>ho pins s2 σ H2 x y v u Q I2 rx ry q)
theorem opI {f:Value->Value->Sem Value} {C:Int->Int->Prop} {g:Int->Int->Int}
  (rule:∀ (i j:Int) (t u:Tok) (s:Shared) (Q:Value->Shared->Prop) (E:Value->Shared->Prop),C i j->Q (.int (g i j) s.toks) { s with toks:=s.toks + 1 }->wpAny (model X.prog X.w) X.A (f (.int i t) (.int j u)) Q E s):
  OpR X f (rI C λi j=>.int (g i j)):=by
 intro pins s σ H x y v u Q I rx ry h;refine Zhz h λi j e938 e939 hc q=>?_;clear h;obtain rfl:=e938;obtain rfl:=e939;obtain ⟨t,rfl⟩:=rx;obtain ⟨t',rfl⟩:=ry;exact rule i j t t' s _ _ hc ⟨.int (g i j),H,I.tok _,⟨_,rfl⟩,q⟩
theorem opI0 {f:Value->Value->Sem Value} {g:Int->Int->Int}
  (rule:∀ (i j:Int) (t u:Tok) (s:Shared) (Q:Value->Shared->Prop) (E:Value->Shared->Prop),Q (.int (g i j) s.toks) { s with toks:=s.toks + 1 }->wpAny (model X.prog X.w) X.A (f (.int i t) (.int j u)) Q E s):
  OpR X f (rI0 λi j=>.int (g i j)):=by
 intro pins s σ H x y v u Q I rx ry h;refine Zca h λi j e940 e941 q=>?_;clear h;obtain rfl:=e940;obtain rfl:=e941;obtain ⟨t,rfl⟩:=rx;obtain ⟨t',rfl⟩:=ry;exact rule i j t t' s _ _ ⟨.int (g i j),H,I.tok _,⟨_,rfl⟩,q⟩
theorem opB0 {f:Value->Value->Sem Value} {g:Int->Int->Bool}
  (rule:∀ (i j:Int) (t u:Tok) (s:Shared) (Q:Value->Shared->Prop) (E:Value->Shared->Prop),Q (.bool (g i j)) s->wpAny (model X.prog X.w) X.A (f (.int i t) (.int j u)) Q E s):
  OpR X f (rI0 λi j=>.bl (g i j)):=by
 intro pins s σ H x y v u Q I rx ry h;refine Zca h λi j e942 e943 q=>?_;clear h;obtain rfl:=e942;obtain rfl:=e943;obtain ⟨t,rfl⟩:=rx;obtain ⟨t',rfl⟩:=ry;exact rule i j t t' s _ _ ⟨.bl (g i j),H,I,rfl,q⟩
def CDiv (i j:Int):Prop:=0 < j/\j < 1073741824
def CPow (i j:Int):Prop:=0<=j/\j<=1000000/\i.natAbs < 2 ^ 64
def CMul (i j:Int):Prop:=(-(2 ^ 64) < i/\i < 2 ^ 64)\/(-(2 ^ 64) < j/\j < 2 ^ 64)
theorem CMul.ok {i j:Int} (h:CMul i j):IntMulOk i j:=by
 rcases h with ⟨h1,h2⟩ | ⟨h1,h2⟩
 .exact .of_left (intBits_le_64 h1 h2)
 .exact .of_right (intBits_le_64 h1 h2)
theorem Zk1:OpR X (binaryOp .Add) (rI0 λi j=>.int (i + j)):=opI0 λ_ _ _ _ _ _ _ q=>add_int q
theorem Zrq:OpR X (binaryOp .Sub) (rI0 λi j=>.int (i - j)):=opI0 λ_ _ _ _ _ _ _ q=>sub_int q
theorem Zny:OpR X (binaryOp .Mult) (rI CMul λi j=>.int (i * j)):=opI λ_ _ _ _ _ _ _ hc q=>mul_int q hc.ok
theorem Zj5:OpR X (binaryOp .FloorDiv) (rI CDiv λi j=>.int (i / j)):=opI λi j _ _ _ _ _ hc q=>by
 have h1:(0:Int) < j:=hc.1;have h2:j < 1073741824:=hc.2;exact floordiv_int (by omega) (by rw [Int.fdiv_eq_ediv_of_nonneg i (by omega)]; exact q) (.inl (PyProof.noPylong_small (by omega)))
theorem Zdy:OpR X (binaryOp .Mod) (rI (λ_ j=>0 < j) λi j=>.int (i % j)):=opI λi j _ _ _ _ _ hc q=>by
 have h1:(0:Int) < j:=hc;exact mod_int' (by omega) (by rw [Int.fmod_eq_emod_of_nonneg i (by omega)]; exact q)
theorem op_pow:OpR X (binaryOp .Pow) (rI CPow λi j=>.int (i ^ j.toNat)):=opI λ_ _ _ _ _ _ _ hc q=>pow_int_small hc.1 hc.2.1 hc.2.2 q
end
def scal:V->V->Bool
 | .non,.non=>true | .non,.int _=>true | .int _,.non=>true | .non,.bl _=>true | .bl _,.non=>true | .non,.str _=>true | .str _,.non=>true
 | .int _,.int _=>true | .bl _,.bl _=>true | .str _,.str _=>true | .byt _,.byt _=>true
 | .int _,.str _=>true | .str _,.int _=>true | .bl _,.str _=>true | .str _,.bl _=>true
 | _,_=>false
def rEq:R2:=λx y H Q=>scal x y = true/\Q (.bl (decide (x = y))) H
def rNe:R2:=λx y H Q=>scal x y = true/\Q (.bl (!decide (x = y))) H
theorem Zor {i j:Int}:decide (V.int i = V.int j) = (i == j):=by
 rw [Jbm];simp
theorem Zr1 {i j:Bool}:decide (V.bl i = V.bl j) = (i == j):=by
 rw [Jbm];simp
theorem Zoq {i j:Str}:decide (V.str i = V.str j) = (i == j):=by
 rw [Jbm];simp
theorem Zos {i j:Array UInt8}:decide (V.byt i = V.byt j) = (i.toList == j.toList):=by
 rw [Jbm];cases i;cases j;simp
section
variable {X:Cx} {a b c:Expr} {ta tb tc:TE} {pos:Pos}
theorem Zay {pins:List (Addr × Obj)} {σ:St} {H:Hp} {s:Shared} {Q:VK} {k k':Bool} (I:Inv X pins σ H s) (q:Q (.bl k) H) (e:k = k'):EP X pins σ Q (.bool k') s:=by
 subst e;exact Zaz (.bl k) H ⟨I,rfl,q⟩
theorem Zeq:OpR X (compareOp .Eq) rEq:=by
 intro pins s σ H x y v u Q I rx ry h;obtain ⟨hs,q⟩:=h;cases x with
 | non=>
  cases rx;cases y with
  | non=>cases ry; exact PySem.EqNone.eq_none_none (Zay I q (by simp))
  | bl j=>cases ry; exact PySem.EqNone.eq_none_bool (Zay I q (by simp))
  | int j=>obtain ⟨t',rfl⟩:=ry; exact PySem.EqNone.eq_none_int (Zay I q (by simp))
  | str j=>obtain ⟨t',rfl⟩:=ry; exact PySem.EqNone.eq_none_str (Zay I q (by simp))
  | _=>exact absurd (show false = true from hs) Jao
 | bl i=>
  cases rx;cases y with
  | non=>cases ry; exact PySem.EqNone.eq_bool_none (Zay I q (by simp))
  | bl j=>cases ry; exact eq_bool (Zay I q Zr1)
  | str j=>obtain ⟨t',rfl⟩:=ry; exact PySem.EqMixed.eq_bool_str (Zay I q (by simp))
  | _=>exact absurd (show false = true from hs) Jao
 | int i=>
  obtain ⟨t,rfl⟩:=rx;cases y with
  | non=>cases ry; exact PySem.EqNone.eq_int_none (Zay I q (by simp))
  | int j=>obtain ⟨t',rfl⟩:=ry; exact eq_int (Zay I q Zor)
  | str j=>obtain ⟨t',rfl⟩:=ry; exact PySem.EqMixed.eq_int_str (Zay I q (by simp))
  | _=>exact absurd (show false = true from hs) Jao
 | str i=>
  obtain ⟨t,rfl⟩:=rx;cases y with
  | non=>cases ry; exact PySem.EqNone.eq_str_none (Zay I q (by simp))
  | bl j=>cases ry; exact PySem.EqMixed.eq_str_bool (Zay I q (by simp))
  | int j=>obtain ⟨t',rfl⟩:=ry; exact PySem.EqMixed.eq_str_int (Zay I q (by simp))
  | str j=>obtain ⟨t',rfl⟩:=ry; exact eq_str (Zay I q Zoq)
  | _=>exact absurd (show false = true from hs) Jao
 | byt i=>
  obtain ⟨t,rfl⟩:=rx;cases y with
  | byt j=>obtain ⟨t',rfl⟩:=ry; exact PySem.W.eq_bytes (Zay I q Zos)
  | _=>exact absurd (show false = true from hs) Jao
 | _=>cases y <;> exact absurd (show false = true from hs) Jao
theorem Zd9:OpR X (compareOp .NotEq) rNe:=by
 intro pins s σ H x y v u Q I rx ry h;obtain ⟨hs,q⟩:=h;cases x with
 | non=>
  cases rx;cases y with
  | non=>cases ry; exact PySem.EqNone.ne_none_none (Zay I q (by simp))
  | bl j=>cases ry; exact PySem.EqNone.ne_none_bool (Zay I q (by simp))
  | int j=>obtain ⟨t',rfl⟩:=ry; exact PySem.EqNone.ne_none_int (Zay I q (by simp))
  | str j=>obtain ⟨t',rfl⟩:=ry; exact PySem.EqNone.ne_none_str (Zay I q (by simp))
  | _=>exact absurd (show false = true from hs) Jao
 | bl i=>
  cases rx;cases y with
  | non=>cases ry; exact PySem.EqNone.ne_bool_none (Zay I q (by simp))
  | bl j=>cases ry; exact ne_bool (Zay I q (Jc1 not Zr1))
  | str j=>obtain ⟨t',rfl⟩:=ry; exact PySem.EqMixed.ne_bool_str (Zay I q (by simp))
  | _=>exact absurd (show false = true from hs) Jao
 | int i=>
  obtain ⟨t,rfl⟩:=rx;cases y with
  | non=>cases ry; exact PySem.EqNone.ne_int_none (Zay I q (by simp))
  | int j=>obtain ⟨t',rfl⟩:=ry; exact ne_int (Zay I q (Jc1 not Zor))
  | str j=>obtain ⟨t',rfl⟩:=ry; exact PySem.EqMixed.ne_int_str (Zay I q (by simp))
  | _=>exact absurd (show false = true from hs) Jao
 | str i=>
  obtain ⟨t,rfl⟩:=rx;cases y with
  | non=>cases ry; exact PySem.EqNone.ne_str_none (Zay I q (by simp))
  | bl j=>cases ry; exact PySem.EqMixed.ne_str_bool (Zay I q (by simp))
  | int j=>obtain ⟨t',rfl⟩:=ry; exact PySem.EqMixed.ne_str_int (Zay I q (by simp))
  | str j=>obtain ⟨t',rfl⟩:=ry; exact ne_str (Zay I q (Jc1 not Zoq))
  | _=>exact absurd (show false = true from hs) Jao
 | byt i=>
  obtain ⟨t,rfl⟩:=rx;cases y with
  | byt j=>obtain ⟨t',rfl⟩:=ry; exact PySem.W.ne_bytes (Zay I q (Jc1 not Zos))
  | _=>exact absurd (show false = true from hs) Jao
 | _=>cases y <;> exact absurd (show false = true from hs) Jao
theorem Zlt:OpR X (compareOp .Lt) (rI0 λi j=>.bl (decide (i < j))):=opB0 λ_ _ _ _ _ _ _ q=>lt_int q
theorem Zlu:OpR X (compareOp .LtE) (rI0 λi j=>.bl (decide (i<=j))):=opB0 λ_ _ _ _ _ _ _ q=>le_int q
theorem Zg5:OpR X (compareOp .Gt) (rI0 λi j=>.bl (decide (j < i))):=opB0 λ_ _ _ _ _ _ _ q=>gt_int q
theorem op_ge:OpR X (compareOp .GtE) (rI0 λi j=>.bl (decide (j<=i))):=opB0 λ_ _ _ _ _ _ _ q=>ge_int q
theorem op_notN:OpR X (compareOp .IsNot) (λx y H Q=>y = .non/\Q (.bl (!decide (x = .non))) H):=by
 intro pins s σ H x y v u Q I rx ry h;obtain ⟨rfl,q⟩:=h;cases ry;refine isnot_none_gen (Zay I q ?_);cases x <;> first
  | (cases rx; rfl)
  | (obtain ⟨t,rfl⟩:=rx; rfl)
theorem Zan (b:Expr) {op:CmpOp} (h:op ≠ .In:=by decide) (h2:op ≠ .NotIn:=by decide):behindInMarks op b = false:=by
 have e1:(op == CmpOp.In) = false:=by cases op <;> first | rfl | exact absurd rfl h
 have e2:(op == CmpOp.NotIn) = false:=by cases op <;> first | rfl | exact absurd rfl h2
 cases b <;> simp [behindInMarks,e1,e2]
theorem Zb4 {op:CmpOp} {r:R2} (ho:OpR X (compareOp op) r) (ha:PE X a ta) (hb:PE X b tb) (hm:behindInMarks op b = false):PE X (.Compare a [op] [b] pos) (tOp r ta tb):=by
 intro pins s σ H Q I h;exact wpAny_Compare1 (binT ha hb I h λv u s2 x y H2 I2 rx ry q=>ho pins s2 σ H2 x y v u Q I2 rx ry q) hm
def tTest (t:TE):TT:=λσ H Q=>t σ H λx H'=>∃ k,x = .bl k/\Q k H'
theorem Zai {op:CmpOp} {r:R2} (ho:OpR X (compareOp op) r) (ha:PE X a ta) (hb:PE X b tb) (hm:behindInMarks op b = false):PT X (.Compare a [op] [b] pos) (tTest (tOp r ta tb)):=by
 intro pins s σ H Q I h;refine wpAny_isTrue_Compare1 (thn (ha pins s σ H _ I h) λv s1 ⟨x,H1,I1,r1,q1⟩=>thn (hb pins s1 σ H1 _ I1 q1) λu s2 ⟨y,H2,I2,r2,q2⟩=>
  thn (ho pins s2 σ H2 x y v u _ I2 r1 r2 q2) λc s3 ⟨z,H3,I3,r3,k,e,q3⟩=>?_) hm
 subst e;cases r3;exact Jbn ⟨H3,I3,q3⟩
def Zmw (r r':R2) (ta tb tc:TE):TE:=λσ H Q=>ta σ H λx H1=>tb σ H1 λy H2=>r x y H2 λz H3=>∃ k,z = .bl k /\
 (if k = true then tc σ H3 λw' H4=>r' y w' H4 Q else Q (.bl false) H3)
theorem Zkz {op op':CmpOp} {r r':R2} (ho:OpR X (compareOp op) r) (ho':OpR X (compareOp op') r') (ha:PE X a ta) (hb:PE X b tb) (hc:PE X c tc)
  (hm:lastMarks [op,op'] [b,c] = false:=by with_unfolding_all rfl):PE X (.Compare a [op,op'] [b,c] pos) (Zmw r r' ta tb tc):=by
 intro pins s σ H Q I h;refine Compare_chain (thn (ha pins s σ H _ I h) λv s1 ⟨x,H1,I1,r1,q1⟩=>chain_link (thn (hb pins s1 σ H1 _ I1 q1) λu s2 ⟨y,H2,I2,r2,q2⟩=>
  thn (ho pins s2 σ H2 x y v u _ I2 r1 r2 q2) λd s3 ⟨z,H3,I3,r3,k,e,q3⟩=>?_)) hm
 subst e;cases r3;refine Jbn ?_;cases k with
 | false=>exact ite_ff ⟨.bl false,H3,I3,rfl,q3⟩
 | true=>exact ite_tt (chain_last (thn (hc pins s3 σ H3 _ I3 q3) λw' s4 ⟨z',H4,I4,r4,q4⟩=>ho' pins s4 σ H4 y z' u w' Q I4 r2 r4 q4))
theorem Zkw {op op':CmpOp} {r r':R2} (ho:OpR X (compareOp op) r) (ho':OpR X (compareOp op') r') (ha:PE X a ta) (hb:PE X b tb) (hc:PE X c tc)
  (hm:lastMarks [op,op'] [b,c] = false:=by with_unfolding_all rfl):PT X (.Compare a [op,op'] [b,c] pos) (tTest (Zmw r r' ta tb tc)):=by
 intro pins s σ H Q I h;refine isTrue_chain (thn (ha pins s σ H _ I h) λv s1 ⟨x,H1,I1,r1,q1⟩=>test_link (thn (hb pins s1 σ H1 _ I1 q1) λu s2 ⟨y,H2,I2,r2,q2⟩=>
  thn (ho pins s2 σ H2 x y v u _ I2 r1 r2 q2) λd s3 ⟨z,H3,I3,r3,k,e,q3⟩=>?_)) hm
 subst e;cases r3;refine Jbn ?_;cases k with
 | false=>
  refine Zad q3 λk' e' q'=>?_;clear q3;cases e';exact ite_ff ⟨H3,I3,q'⟩
 | true=>
  refine ite_tt (test_last (thn (hc pins s3 σ H3 _ I3 q3) λw' s4 ⟨z',H4,I4,r4,q4⟩=>thn (ho' pins s4 σ H4 y z' u w' _ I4 r2 r4 q4) λd' s5 ⟨z2,H5,I5,r5,k2,e2,q5⟩=>?_));subst e2;cases r5;exact Jbn ⟨H5,I5,q5⟩
def TruV (K:PySem.W.Frag) (x:V) (H:Hp) (k:Bool):Prop:=
 match x with
 | .non=>k = false
 | .bl b=>k = b
 | .int i=>k = (i != 0)
 | .str y=>y.length<=sizeLine/\k = ((y.length:Int) != 0)
 | .byt y=>y.size<=sizeLine/\k = ((y.size:Int) != 0)
 | .ref p=>(∃ xs,SqL K H p xs/\k = !xs.isEmpty)\/(∃ xs,SqT K H p xs/\k = !xs.isEmpty)\/∃ kvs,H p = some (.dK kvs)/\k = !kvs.isEmpty
 | _=>False
theorem Zl3 {κ:Type} {kvs:List (κ × V)} {vs:List (κ × Value)} (r:KV kvs vs):(!vs.isEmpty) = !kvs.isEmpty:=by
 cases r <;> rfl
theorem Zht {xs:List V} {its:List Value} (r:Vals xs its):(!its.toArray.isEmpty) = !xs.isEmpty:=by
 cases r <;> simp
theorem Zi7:(sizeLine:Nat) < 2 ^ 63:=by rw [sizeLine_eq]; decide
theorem tru_ok:TruR X (λx H Q=>∃ k,TruV X.K x H k/\Q k H):=by
 intro pins s σ H x v Q I rx h;refine Zad h λk e q=>?_;clear h;have hl:=Zi7;have hs:sizeLine = 16777216:=sizeLine_eq;cases x with
 | non=>
  cases rx;have e':k = false:=e;subst e';exact truthy_none ⟨H,I,q⟩
 | bl b=>
  cases rx;have e':k = b:=e;subst e';exact Jbn ⟨H,I,q⟩
 | int i=>
  obtain ⟨t,rfl⟩:=rx;have e':k = (i != 0):=e;subst e';exact PySem.P.truthy_int ⟨H,I,q⟩
 | str y=>
  obtain ⟨t,rfl⟩:=rx;obtain ⟨hy,e'⟩:y.length<=sizeLine/\k = ((y.length:Int) != 0):=e;subst e';exact PySem.P.truthy_str (by omega) ⟨H,I.tok _,q⟩
 | byt y=>
  obtain ⟨t,rfl⟩:=rx;obtain ⟨hy,e'⟩:y.size<=sizeLine/\k = ((y.size:Int) != 0):=e;subst e';exact PySem.W.truthy_bytes (by omega) ⟨H,I.tok _,q⟩
 | ref p=>
  cases rx;have e':(∃ xs,SqL X.K H p xs/\k = !xs.isEmpty)\/(∃ xs,SqT X.K H p xs/\k = !xs.isEmpty)\/∃ kvs,H p = some (.dK kvs)/\k = !kvs.isEmpty:=e;rcases e' with ⟨xs,hx,e'⟩ | ⟨xs,hx,e'⟩ | ⟨kvs,hx,e'⟩
  .subst e';refine Zao (I.list hx) λits r pl hz=>?_;have hlen:=r.length;exact wpAny_truthy_list pl.isList (by simp only [Jak]; omega) ⟨H,I.tok _,by rw [Zht r]; exact q⟩
  .subst e';refine Zao (I.tuple hx) λits r pl hz=>?_;have hlen:=r.length;exact truthy_tuple pl (by simp only [Jak]; omega) ⟨H,I.tok _,by rw [Zht r]; exact q⟩
  .subst e';obtain ⟨hz,hS,vs,r,m⟩:kvs.length<=sizeLine/\(p == sysModules) = false/\∃ vs,KV kvs vs/\s.heap.DictOf (Zbs X.prog X.w) p vs:=I.hok p _ hx;have hlen:kvs.length = vs.length:=Jd6 r;exact wpAny_truthy_dict hS m (by omega) ⟨H,I.tok _,by rw [Zl3 r]; exact q⟩
 | _=>exact (show False from e).elim
theorem Zpy (ha:PE X a ta) (he:∀ whole,isTrue a X.env whole = (do let v <- whole; standAt a.pos; holding [v] (truthy v))):
  PT X a (λσ H Q=>ta σ H λx H'=>∃ k,TruV X.K x H' k/\Q k H'):=by
 intro pins s σ H Q I h;exact isTrue_plain (thn (ha pins s σ H _ I h) λv s1 ⟨x,H1,I1,r1,q1⟩=>tru_ok pins s1 σ H1 x v Q I1 r1 q1) (he _)
theorem Zd3:OpR X (binaryOp .Add) (λx y H Q=>∃ i j,x = .str i/\y = .str j/\i.length + j.length<=sizeLine/\Q (.str (i ++ j)) H):=by
 intro pins s σ H x y v u Q I rx ry h;refine Zhz h λi j e959 e960 hz q=>?_;clear h;obtain rfl:=e959;obtain rfl:=e960;obtain ⟨t,rfl⟩:=rx;obtain ⟨t',rfl⟩:=ry;exact add_str (λt' tk=>⟨.str (i ++ j),H,I.tok _,⟨_,rfl⟩,q⟩) hz
theorem Zh0 {x:V} {us:List Value} (r:Vals [x] us):∃ u,us = [u]/\RelV x u:=by
 cases r with
 | cons r1 r2=>cases r2; exact ⟨_,rfl,r1⟩
theorem vals2 {x y:V} {us:List Value} (r:Vals [x,y] us):∃ u w',us = [u,w']/\RelV x u/\RelV y w':=by
 cases r with
 | cons r1 r2=>
  cases r2 with
  | cons r3 r4=>cases r4; exact ⟨_,_,rfl,r1,r3⟩
theorem Zlj:Zdc X (.builtin "abs") (λxs H Q=>∃ i,xs = [.int i]/\Q (.int (if i < 0 then -i else i)) H):=by
 intro pins s σ H xs us Q I r h;refine Zad h λi e968 q=>?_;clear h;obtain rfl:=e968;refine Zad (Zh0 r) λu e969 e970=>?_;obtain rfl:=e969;obtain ⟨t,rfl⟩:=e970;exact call_abs_int λu tk=>⟨.int (if i < 0 then -i else i),H,I.tok _,⟨_,rfl⟩,q⟩
theorem Zhc:Zdc X (.type "int") (λxs H Q=>(∃ i,xs = [.int i]/\Q (.int i) H)\/∃ k,xs = [.bl k]/\Q (.int (if k then 1 else 0)) H):=by
 intro pins s σ H xs us Q I r h;rcases h with ⟨i,rfl,q⟩ | ⟨k,rfl,q⟩
 .refine Zad (Zh0 r) λu e979 e980=>?_;obtain rfl:=e979;obtain ⟨t,rfl⟩:=e980;exact call_int_int ⟨.int i,H,I,⟨_,rfl⟩,q⟩
 .refine Zad (Zh0 r) λu e981 r1=>?_;obtain rfl:=e981;cases r1;exact call_int_bool ⟨.int (if k then 1 else 0),H,I.tok _,⟨_,rfl⟩,q⟩
end
structure ObjM (h:Heap) (x dx C:Addr) (mA:Str->Option Value):Prop where
 obj:h.get? x = some (PySem.W.instObj C dx)
 ns:h.Ns1 dx mA
 ne:dx ≠ x
theorem Zn7 {h:Heap} {dx:Addr} {mA:Str->Option Value} (n:h.Ns1 dx mA):∃ od,h.get? dx = some od/\∀ name,PySem.W.lookIn name od = some (mA name):=by
 refine Zb1 n λo es ep ho hd hk e9101=>?_;clear n;obtain ⟨_,hm⟩:=e9101;refine ⟨o,ho,λname=>?_⟩;have e:=hm name;unfold nsFind findBy at e;rw [<- Array.find?_toList] at e;unfold PySem.W.lookIn;rw [hd];dsimp only;split
 .rename_i y q
  rw [q] at e;exact Jc1 some e
 .rename_i q
  rw [q] at e;have a:es.toList.any (·.refKey) = false:=by
   rw [List.any_eq_false];intro y hy;refine xE2_1 (hk y (Array.mem_toList_iff.mp hy)) λz t hkey=>?_;simp [DictEntry.refKey,hkey]
  have a':¬ es.toList.any (·.refKey) = true:=by rw [a]; exact Jao
  rw [if_neg a'];exact Jc1 some e
theorem ObjM.look {h:Heap} {x dx C:Addr} {mA:Str->Option Value} (I:ObjM h x dx C mA):∃ od,PySem.W.InstAt h x (PySem.W.instObj C dx) C (some od)/\∀ name,PySem.W.lookIn name od = some (mA name):=
 let ⟨od,ho,hl⟩:=Zn7 I.ns
 ⟨od,⟨I.obj,rfl,rfl,ho⟩,hl⟩
section
variable {prog:Program} {w:World} {A:Around} {E:Value->Shared->Prop} {s:Shared} {K:PySem.W.Frag} {x dx C f:Addr} {mA:Str->Option Value} {name:Str} {v:Value}
theorem get_map {expr:Bool} {Q:Value->Shared->Prop} (X:K.In s.heap) (I:ObjM s.heap x dx C mA) (hg:PySem.W.plainGet K C name = true) (hh:PySem.W.hasDictIn K C = true)
  (ha:PySem.W.findIn K (.ref C) name = some none) (hv:mA name = some v) (hv':PySem.W.handedIn v = true) (h:Q v { s with toks:=s.toks + 1 }):
  wpAny (model prog w) A (getAttr (.ref x) name expr) Q E s:=by
 refine Zad I.look λod J hl=>?_;exact PySem.W.get_value X J (Jdn hg).1 (PySem.W.findObj_own hh ha rfl (by rw [hl,hv])) hv' h
theorem Zq1 {pl:Sem Bool} {Q:Value × List Value->Shared->Prop} (X:K.In s.heap) (I:ObjM s.heap x dx C mA) (hg:PySem.W.plainGet K C name = true)
  (hf:PySem.W.findIn K (.ref C) name = some (some (.ref f))) (ht:PySem.W.isFn K (.ref f) = true) (hv:mA name = none) (h:Q (.ref f,[.ref x]) s):
  wpAny (model prog w) A (getMethod (.ref x) name pl) Q E s:=by
 refine Zad I.look λod J hl=>?_;exact PySem.W.method_fn X J (Jdn hg).1 (Jdn hg).2 hf (Jbg.mp ht) (by show (PySem.W.lookIn name od).map (·.isSome) = some false; rw [hl,hv]; rfl) h
theorem set_map {ns:List Str} {Q:Unit->Shared->Prop} (X:K.In s.heap) (I:ObjM s.heap x dx C mA)
  (hs:PySem.W.findIn K (.ref C) "__setattr__" = some (some (.builtin "object.__setattr__"))) (hp:PySem.W.plainOver K C = true) (ht:PySem.W.takerIn K C name = some none) (hh:PySem.W.hasDictIn K C = true)
  (hw:PySem.Within mA ns) (hsz:ns.length<=sizeLine)
  (h:∀ h',ObjM h' x dx C (λy=>if y = name then some v else mA y)->Heap.SameBut dx s.heap h'->Q () { s with heap:=h',toks:=s.toks + 2 }):
  wpAny (model prog w) A (setAttr (.ref x) name v) Q E s:=by
 refine Zad I.look λod J hl=>?_;refine PySem.W.set_plain X J hs (PySem.W.osa_open (s:={ s with toks:=s.toks + 1 }) (r:=none) X J hp ht λb=>?_);refine Zad (PySem.W.any_some hh) λcd hc hd'=>?_;have hx:s.heap.get? x = some ⟨.ref C,some dx,.plain,#[]⟩:=I.obj;refine Jac (Jat (Jac (Jac (wpAny_loadPart hx (Jac (PySem.W.Looks.here (s:={ s with toks:=s.toks + 1 }) (PySem.W.looks_clsIn X hc) ?_))))));rw [hd'];refine Jat (a:=some dx) (Jac (Jat (Jac ?_)));refine wpAny_nsSet1 (s:={ s with toks:=s.toks + 1 }) I.ns λh' hn2 hs2=>?_;refine Zir (hn2.count (PySem.Within.cons name v hw)) λoD esD epD hoD hdD hcD=>?_;refine Jac (wpAny_lookBehind hoD (by rw [hdD]; exact pastItsLine_dict (Ja3 hcD (by rw [Jba]; omega))) ?_);exact Jat (h _ ⟨(hs2.2 _ (Jb7 I.ne)).trans I.obj,hn2,I.ne⟩ hs2)
theorem Zqr {R:Result->Shared->Prop} {vs:List Value} {kw:List (Str × Value)} (X:K.In s.heap) (hm:PySem.W.makesIn K C = true)
  (hi:PySem.W.findIn K (.ref C) "__init__" = some (some (.ref f))) (hf:PySem.W.typeIn K (.ref f) = some (.type "function"))
  (h:codeAny (model prog w) (A.under (.builtin "type.__call__" ⟨.ref C :: vs,kw⟩)) (.call (.ref f) ⟨.ref (s.heap.objs.size + 1) :: vs,kw⟩) (PySem.W.InitBack (s.heap.objs.size + 1) R)
   { s with heap:=(s.heap.push PySem.W.emptyDict).push (PySem.W.instObj C s.heap.objs.size) }):
  codeAny (model prog w) A (.call (.ref C) ⟨vs,kw⟩) R s:=by
 obtain ⟨hh,g,d,t,os⟩:=s;exact PySem.W.make_core (PySem.W.makes_of X hm) (PySem.W.looks_findIn X hi) (λself=>PySem.W.bind_fn X self hf) (.inl rfl) h
end
def Zbz (f:Str) (v:V):List (Str × V)->List (Str × V)
 | []=>[(f,v)]
 | (g,x) :: r=>if g = f then (g,v) :: r else (g,x) :: Zbz f v r
theorem Zar (f g:Str) (v:V):∀ fs:List (Str × V),(Zbz f v fs).lookup g = if g = f then some v else fs.lookup g
 | []=>by
  show List.lookup g [(f,v)] = _;by_cases h:g = f
  .have hb:(g == f) = true:=Jbg.mpr h;simp only [List.lookup,hb,if_pos h]
  .have hb:(g == f) = false:=Jck.mpr h;simp only [List.lookup,hb,if_neg h]
 | (k,x) :: r=>by
  have ih:=Zar f g v r;rw [show Zbz f v ((k,x) :: r) = (if k = f then (k,v) :: r else (k,x) :: Zbz f v r) from rfl];by_cases hk:k = f
  .rw [if_pos hk];by_cases h:g = k
   .have hb:(g == k) = true:=Jbg.mpr h;simp only [List.lookup,hb,if_pos (h.trans hk)]
   .have hb:(g == k) = false:=Jck.mpr h;simp only [List.lookup,hb,if_neg (λe:g = f=>h (e.trans hk.symm))]
  .rw [if_neg hk];by_cases h:g = k
   .have hb:(g == k) = true:=Jbg.mpr h;simp only [List.lookup,hb,if_neg (λe:g = f=>hk (h.symm.trans e))]
   .have hb:(g == k) = false:=Jck.mpr h;simp only [List.lookup,hb];exact ih
theorem Zg6 (f:Str) (v:V):∀ fs:List (Str × V),f ∈ (Zbz f v fs).map (·.1)/\∀ g,g ∈ fs.map (·.1)->g ∈ (Zbz f v fs).map (·.1)
 | []=>⟨by simp [Zbz],λg h=>by simp at h⟩
 | (k,x) :: r=>by
  obtain ⟨i1,i2⟩:=Zg6 f v r;rw [show Zbz f v ((k,x) :: r) = (if k = f then (k,v) :: r else (k,x) :: Zbz f v r) from rfl];by_cases hk:k = f
  .rw [if_pos hk];subst hk;exact ⟨by simp,λg h=>by simpa using h⟩
  .rw [if_neg hk];refine ⟨?_,λg h=>?_⟩
   .rw [Jav];exact Ja2 _ i1
   .rw [Jav] at h ⊢;rcases Jaq.mp h with e | e
    .exact Jaq.mpr (.inl e)
    .exact Ja2 _ (i2 g e)
theorem Zbk (f:Str) (v:V):∀ fs:List (Str × V),(Zbz f v fs).length<=fs.length + 1
 | []=>by simp [Zbz]
 | (k,x) :: r=>by
  have ih:=Zbk f v r;rw [show Zbz f v ((k,x) :: r) = (if k = f then (k,v) :: r else (k,x) :: Zbz f v r) from rfl];by_cases hk:k = f
  .rw [if_pos hk,Jba,Jba]; omega
  .rw [if_neg hk,Jba,Jba]; omega
theorem RelO.some_of {v:V} {o:Option Value} (r:RelO (some v) o):∃ u,o = some u/\RelV v u:=by
 cases o with
 | none=>exact (show False from r).elim
 | some u=>exact ⟨u,rfl,r⟩
theorem RelO.none_of {o:Option Value} (r:RelO none o):o = none:=by
 cases o with
 | none=>rfl
 | some u=>exact (show False from r).elim
theorem Zol {v:V} {u:Value} (r:RelV v u):PySem.W.handedIn u = true:=by
 cases v with
 | non=>cases (show u = Value.none from r); rfl
 | bl b=>cases (show u = Value.bool b from r); rfl
 | int i=>obtain ⟨t,e⟩:=(show ∃ t,u = Value.int i t from r); cases e; rfl
 | str x=>obtain ⟨t,e⟩:=(show ∃ t,u = Value.str x t from r); cases e; rfl
 | byt b=>obtain ⟨t,e⟩:=(show ∃ t,u = Value.bytes b t from r); cases e; rfl
 | flt b=>obtain ⟨t,e⟩:=(show ∃ t,u = Value.float b t from r); cases e; rfl
 | ref a=>cases (show u = Value.ref a from r); rfl
 | ty n=>cases (show u = Value.type n from r); rfl
section
variable {P:Program} {w:World} {H H':Hp} {h h':Heap} {a C dx:Addr} {fs fs':List (Str × V)}
theorem Zif (hok:HOk P w H h) (e:H a = some (.ins C dx fs)):∃ mA,ObjM h a dx C mA/\(∀ f,RelO (fs.lookup f) (mA f))/\PySem.Within mA (fs.map (·.1))/\fs.length<=1000/\H dx = some (.own a):=by
 refine Zd7 (show ObjOk P w H h a (.ins C dx fs) from hok a _ e) λd z ne ob e9102=>?_;obtain ⟨mA,n,r,q⟩:=e9102;exact ⟨mA,⟨ob,n,ne⟩,r,q,z,d⟩
end
structure Cls (K:PySem.W.Frag) (C:Addr):Prop where
 pg:PySem.W.plainGet K C Str.empty = true
 hd:PySem.W.hasDictIn K C = true
 po:PySem.W.plainOver K C = true
 sa:PySem.W.findIn K (.ref C) "__setattr__" = some (some (.builtin "object.__setattr__"))
theorem Cls.get {K:PySem.W.Frag} {C:Addr} (c:Cls K C) (f:Str):PySem.W.plainGet K C f = true:=c.pg
def NoAttr (K:PySem.W.Frag) (C:Addr) (f:Str):Prop:=PySem.W.findIn K (.ref C) f = some none
theorem NoAttr.taker {K:PySem.W.Frag} {C:Addr} {f:Str} (n:NoAttr K C f):PySem.W.takerIn K C f = some none:=by
 unfold PySem.W.takerIn;rw [show PySem.W.findIn K (.ref C) f = some none from n];rfl
structure Con (K:PySem.W.Frag) (C:Addr) (f:Str) (v:V) (u:Value):Prop where
 at_:PySem.W.findIn K (.ref C) f = some (some u)
 rel:RelV v u
 get:PySem.W.specialIn K u "__get__" = some none
 cp:PySem.W.copiedNames.contains f = false
structure Meth (K:PySem.W.Frag) (C:Addr) (m:Str) (f:Addr):Prop where
 at_:PySem.W.findIn K (.ref C) m = some (some (.ref f))
 fn:PySem.W.isFn K (.ref f) = true
 kp:PySem.W.keepIn K (.ref f) = true
section
variable {X:Cx} {pins:List (Addr × Obj)} {σ:St} {H:Hp} {s:Shared} {a C dx:Addr} {fs:List (Str × V)} {f:Str} {v:V} {A:Around} {E:Value->Shared->Prop}
theorem Zl6 {b:Bool} {Q:Value->Shared->Prop} (I:Inv X pins σ H s) (e:H a = some (.ins C dx fs)) (c:Cls X.K C) (n:NoAttr X.K C f) (l:fs.lookup f = some v)
  (h:∀ u s',Inv X pins σ H s'->RelV v u->Q u s'):wpAny (model X.prog X.w) A (getAttr (.ref a) f b) Q E s:=by
 refine Zmj (Zif I.hok e) λmA O r _ _ _=>?_;obtain ⟨u,hu,ru⟩:=RelO.some_of (v:=v) (o:=mA f) (by rw [<- l]; exact r f);exact get_map I.kIn O (c.get f) c.hd n hu (Zol ru) (h u _ (I.tok _) ru)
theorem Zfu {m:Str} {g:Addr} {pl:Sem Bool} {Q:Value × List Value->Shared->Prop} (I:Inv X pins σ H s) (e:H a = some (.ins C dx fs)) (c:Cls X.K C) (k:Meth X.K C m g) (l:fs.lookup m = none)
  (h:Q (.ref g,[.ref a]) s):wpAny (model X.prog X.w) A (getMethod (.ref a) m pl) Q E s:=by
 refine Zmj (Zif I.hok e) λmA O r _ _ _=>?_;have hn:mA m = none:=RelO.none_of (by rw [<- l]; exact r m);exact Zq1 I.kIn O (c.get m) k.at_ k.fn hn h
theorem Zls {y:V} {u:Value} {Q:Unit->Shared->Prop} (I:Inv X pins σ H s) (e:H a = some (.ins C dx fs)) (c:Cls X.K C) (n:NoAttr X.K C f) (hl:fs.length < 1000) (ry:RelV y u)
  (h:∀ s',Inv X pins σ (upd H a (.ins C dx (Zbz f y fs))) s'->Q () s'):wpAny (model X.prog X.w) A (setAttr (.ref a) f u) Q E s:=by
 refine Zmj (Zif I.hok e) λmA O r wi _ ho=>?_;have hz:(fs.map (·.1)).length<=sizeLine:=by rw [Jab,sizeLine_eq]; omega
 refine set_map I.kIn O c.sa c.po n.taker c.hd wi hz λh' O' sb=>h _ ?_;have hd:∃ o,h'.get? dx = some o:=let ⟨o,_,_,e',_⟩:=O'.ns; ⟨o,e'⟩;refine I.write (x:=a) (e:=dx) (by rw [e]; exact True.intro) (.inr ho) (λb q hb z=>(sb.2 b hb).trans z) hd ?_;refine ⟨by rw [Zaf O.ne]; exact ho,?_,O.ne,O'.obj,_,O'.ns,λg=>?_,λg hg=>?_⟩
 .have:=Zbk f y fs; omega
 .show RelO ((Zbz f y fs).lookup g) (if g = f then some u else mA g);rw [Zar];by_cases q:g = f
  .rw [if_pos q,if_pos q]; exact ry
  .rw [if_neg q,if_neg q]; exact r g
 .by_cases q:g = f
  .rw [q]; exact (Zg6 f y fs).1
  .refine (Zg6 f y fs).2 g (wi g λz=>hg ?_);show (if g = f then some u else mA g) = none;rw [if_neg q]; exact z
theorem Inv.made (I:Inv X pins σ H s):Inv X pins σ (upd (upd H s.heap.objs.size (.own (s.heap.objs.size + 1))) (s.heap.objs.size + 1) (.ins C s.heap.objs.size []))
  { s with heap:=(s.heap.push PySem.W.emptyDict).push (PySem.W.instObj C s.heap.objs.size) }:=by
 have e1:(s.heap.push PySem.W.emptyDict).get? s.heap.objs.size = some PySem.W.emptyDict:=Ja8 s.heap rfl;have e2:((s.heap.push PySem.W.emptyDict).push (PySem.W.instObj C s.heap.objs.size)).get? (s.heap.objs.size + 1) = some (PySem.W.instObj C s.heap.objs.size):=by
  have:=Ja8 (s.heap.push PySem.W.emptyDict) (o:=PySem.W.instObj C s.heap.objs.size) rfl;rwa [Jcq] at this
 have e3:(s.heap.push PySem.W.emptyDict).Ns s.heap.objs.size (λ_=>none):=⟨PySem.W.emptyDict,#[],_,e1,rfl,(λe he=>absurd he (by simp)),λ_=>rfl⟩
 have I1:=I.laid (a:=s.heap.objs.size) (o:=.own (s.heap.objs.size + 1)) (h':=s.heap.push PySem.W.emptyDict) (t':=s.toks) (λb u q=>Jae _ q) (Jah _) ⟨_,e1⟩;refine I1.laid (a:=s.heap.objs.size + 1) (o:=.ins C s.heap.objs.size []) (t':=s.toks) (λb u q=>Jae _ q) (Nat.le_of_eq (Jcq _ _)) ?_;have ne:s.heap.objs.size ≠ s.heap.objs.size + 1:=Ja6 (Nat.lt_succ_self _);refine ⟨by rw [Zaf ne,Zab],Jb6 _,ne,e2,λ_=>none,(Heap.Ns1.of_empty e3).at λo q=>Jae _ q,λ_=>True.intro,λy hy=>absurd rfl hy⟩
theorem attr_of {prog:Program} {w:World} {env:Env} {e:Expr} {f:Str} {pos:Pos} {s:Shared} {Q:Value->Shared->Prop} (hb:attributeBase e f env (eval e env) = eval e env)
  (h:wpAny (model prog w) A (eval e env) (λo s₁=>wpAny (model prog w) A (getAttr o f true) Q E s₁) E s):wpAny (model prog w) A (eval (.Attribute e f pos) env) Q E s:=
 Attribute_any_ h (by rw [arm_eval_Attribute,hb])
end
def tFld (K:PySem.W.Frag) (ta:TE) (f:Str):TE:=λσ H Q=>ta σ H λx H1=>∃ a C dx fs v,x = .ref a/\H1 a = some (.ins C dx fs)/\Cls K C/\NoAttr K C f/\fs.lookup f = some v/\Q v H1
def sFld (K:PySem.W.Frag) (ta tv:TE) (f:Str):TS:=λD σ H=>tv σ H λy H1=>ta σ H1 λx H2=>∃ a C dx fs,x = .ref a/\H2 a = some (.ins C dx fs)/\Cls K C/\NoAttr K C f/\fs.length < 1000 /\
 D.nx σ (upd H2 a (.ins C dx (Zbz f y fs)))
section
variable {X:Cx} {o e value:Expr} {f:Str} {pos pos' tpos:Pos} {ta tv:TE}
theorem Zbb (he:PE X e ta) (hb:attributeBase e f X.env (eval e X.env) = eval e X.env):PE X (.Attribute e f pos) (tFld X.K ta f):=by
 intro pins s σ H Q I h;refine attr_of hb (thn (he pins s σ H _ I h) λu s1 ⟨x,H1,I1,rx,a,C,dx,fs,v,ex,ea,c,n,l,q⟩=>?_);subst ex;obtain rfl:u = Value.ref a:=rx;exact Zl6 I1 ea c n l λu' s2 I2 ru=>⟨v,H1,I2,ru,q⟩
theorem Zgz (ha:PE X o ta) (hv:PE X value tv) (hs:swapsWith value (some (.Attribute o f pos')) pos.line X.env = pure false):PS X (.Assign [.Attribute o f pos'] value pos) (sFld X.K ta tv f):=by
 intro pins s σ H D I h;refine plainObj_wpAny_Assign_Attribute (thn (hv pins s σ H _ I h) λu s1 ⟨y,H1,I1,ry,q⟩=>thn (ha pins s1 σ H1 _ I1 q) λov s2 ⟨x,H2,I2,rx,a,C,dx,fs,ex,ea,c,n,l,q2⟩=>?_) hs;subst ex;obtain rfl:ov = Value.ref a:=rx;exact Zls I2 ea c n l ry λs3 I3=>⟨σ,_,I3,q2⟩
theorem methcall_of {pl:Sem Bool} {m:Str} {apos:Pos} {args:List Expr} {pins:List (Addr × Obj)} {s:Shared} {σ:St} {H:Hp} {Q:Value->Shared->Prop} {te:TE} (he:PE X e te) (I:Inv X pins σ H s)
  (h:te σ H λx H1=>∃ a C dx fs g,x = .ref a/\H1 a = some (.ins C dx fs)/\Cls X.K C/\Meth X.K C m g/\fs.lookup m = none /\
   ∀ s1,Inv X pins σ H1 s1->wpAny (model X.prog X.w) X.A (callWith pos (.ref g) [.ref a] (backTo pos (starEach args X.env)) (backToKw pos (keywordEach [] X.env))) Q X.xe s1)
  (ht:eval (.Call (.Attribute e m apos) args [] pos) X.env = (do
   let ov <- eval e X.env
   standAt apos.atName
   let (f,first) <- holding [ov] (getMethod ov m pl)
   callWith pos f first (backTo pos (starEach args X.env)) (backToKw pos (keywordEach [] X.env)))):
  wpAny (model X.prog X.w) X.A (eval (.Call (.Attribute e m apos) args [] pos) X.env) Q X.xe s:=by
 refine Jdg (pl:=pl) (thn (he pins s σ H _ I h) λu s1 ⟨x,H1,I1,rx,a,C,dx,fs,g,ex,ea,c,k,l,q⟩=>?_) ht;subst ex;obtain rfl:u = Value.ref a:=rx;exact Zfu I1 ea c k l (q s1 I1)
end
section
variable {X:Cx} {pins:List (Addr × Obj)} {σ:St} {H:Hp} {s:Shared} {A:Around} {E:Value->Shared->Prop} {Q:Value->Shared->Prop} {c:Value} {b:Bool}
inductive TyOf (K:PySem.W.Frag) (H:Hp):V->Value->Prop where
 | non:TyOf K H .non (.type "NoneType")
 | bl (x:Bool):TyOf K H (.bl x) (.type "bool")
 | int (i:Int):TyOf K H (.int i) (.type "int")
 | str (x:Str):TyOf K H (.str x) (.type "str")
 | flt (x:UInt64):TyOf K H (.flt x) (.type "float")
 | lst {a:Addr} {xs:List V} (e:H a = some (.lst xs)):TyOf K H (.ref a) (.type "list")
 | frz {a:Addr} {o:Obj} {xs:List V} (e:H a = some (.frz o (.lst xs))):TyOf K H (.ref a) (.type "list")
 | tup {a:Addr} {xs:List V} (e:H a = some (.tup xs)):TyOf K H (.ref a) (.type "tuple")
 | dK {a:Addr} {kvs:List (Key × V)} (e:H a = some (.dK kvs)):TyOf K H (.ref a) (.type "dict")
 | dT {a:Addr} {kvs:List (List Key × V)} (e:H a = some (.dT kvs)):TyOf K H (.ref a) (.type "dict")
 | ins {a C dx:Addr} {fs:List (Str × V)} (e:H a = some (.ins C dx fs)) (cl:Cls K C) (ha:PySem.W.findIn K (.ref C) "__class__" = some (some (.builtin "object.__class__")))
   (hn:PySem.W.specialIn K (.builtin "object.__class__") "__get__" = some (some (.builtin "getset_descriptor.__get__"))) (htk:PySem.W.takesIn K (.builtin "object.__class__") = some true)
   (hm:PySem.W.mroIn K C (.type "object") = some true):TyOf K H (.ref a) (.ref C)
theorem Zof {x:V} {u t:Value} (I:Inv X pins σ H s) (rx:RelV x u) (ty:TyOf X.K H x t) (e:PySem.W.kitOne X.K t c = some b) (h:∀ tk,Q (.bool b) { s with toks:=tk }):
  wpAny (model X.prog X.w) A (call (.builtin "isinstance") [u,c]) Q E s:=by
 cases ty with
 | non=>cases (show u = Value.none from rx); exact Jbq PySem.W.kitx_none I.kIn True.intro e (λz=>nomatch z) h
 | bl y=>cases (show u = Value.bool y from rx); exact Jbq PySem.W.kitx_bool I.kIn True.intro e (λz=>nomatch z) h
 | int i=>obtain ⟨t,q⟩:=(show ∃ t,u = Value.int i t from rx); cases q; exact Jbq PySem.W.kitx_int I.kIn True.intro e (λz=>nomatch z) h
 | str y=>obtain ⟨t,q⟩:=(show ∃ t,u = Value.str y t from rx); cases q; exact Jbq PySem.W.kitx_str I.kIn True.intro e (λz=>nomatch z) h
 | flt y=>obtain ⟨t,q⟩:=(show ∃ t,u = Value.float y t from rx); cases q; exact Jbq PySem.W.kitx_float I.kIn True.intro e (λz=>nomatch z) h
 | @lst a xs ea=>
  cases (show u = Value.ref a from rx);obtain ⟨_,_,n,_,h1⟩:=(show ObjOk X.prog X.w H s.heap a (.lst xs) from I.hok a _ ea)
  exact Jbq PySem.W.kitx_list I.kIn ⟨_,h1,rfl⟩ e (λz=>nomatch z) h
 | @frz a ob xs ea=>
  cases (show u = Value.ref a from rx);obtain ⟨_,_,_,n,_,h1⟩:=(show ObjOk X.prog X.w H s.heap a (.frz ob (.lst xs)) from I.hok a _ ea)
  exact Jbq PySem.W.kitx_list I.kIn ⟨_,h1,rfl⟩ e (λz=>nomatch z) h
 | @tup a xs ea=>
  cases (show u = Value.ref a from rx);obtain ⟨_,_,_,p⟩:=(show ObjOk X.prog X.w H s.heap a (.tup xs) from I.hok a _ ea)
  refine Zao p λo h1 h2 _=>?_;clear p;exact Jbq PySem.W.kitx_tuple I.kIn ⟨o,h1,h2⟩ e (λz=>nomatch z) h
 | @dK a kvs ea=>
  cases (show u = Value.ref a from rx);refine Zav (show ObjOk X.prog X.w H s.heap a (.dK kvs) from I.hok a _ ea) λ_ _ e9107=>?_;obtain ⟨vs,_,p⟩:=e9107;refine Zir p λo es ep h1 h2 _=>?_;clear p;exact Jbq PySem.W.kitx_dict I.kIn ⟨o,h1,h2.1⟩ e (λz=>nomatch z) h
 | @dT a kvs ea=>
  cases (show u = Value.ref a from rx);refine Zav (show ObjOk X.prog X.w H s.heap a (.dT kvs) from I.hok a _ ea) λ_ _ e9108=>?_;obtain ⟨xs,_,o,es,ep,h1,h2,_⟩:=e9108;exact Jbq PySem.W.kitx_dict I.kIn ⟨o,h1,h2.1⟩ e (λz=>nomatch z) h
 | @ins a C dx fs ea cl ha hn htk hm=>
  cases (show u = Value.ref a from rx);refine Zad (Zif I.hok ea) λmA O _=>?_;refine Zad O.look λod J _=>?_;exact Jbq (PySem.W.kitx_own (cl.get _) cl.hd ha hn htk hm) I.kIn J e (λz=>nomatch z) h
end
structure Room (k:Nat) (A:Around):Prop where
 hd:A.handled = none
 dp:A.depth + 3 * k + 205 < recursionLimit
 un:A.units + 16 * k + 200 < cLine
theorem Room.mono {j k:Nat} {A:Around} (r:Room k A) (h:j<=k):Room j A:=⟨r.hd,by have:=r.dp; omega,by have:=r.un; omega⟩
theorem Room.m {j k:Nat} {A:Around} (r:Room k A) (h:j<=k:=by decide):Room j A:=r.mono h
theorem Room.deeper {k:Nat} {A:Around} (r:Room (k + 1) A) (env:Env):Room k (A.deeper env):=
 ⟨r.hd,by have:=r.dp; show A.depth + 1 + 3 * k + 205 < _; omega,by have:=r.un; show A.units + 3 + 16 * k + 200 < _; omega⟩
theorem Zlz {A:Around} {C:Addr} {us:List Value} {kw:List (Str × Value)}:(A.under (.builtin "type.__call__" ⟨.ref C :: us,kw⟩)).depth = A.depth + 1:=by
 first | rfl | simp [Around.under,Code.weight,Code.isCreation,Code.isGuard,Code.isCaller,Code.frames,Code.isFrame,guardIds]
theorem Zly {A:Around} {C:Addr} {us:List Value} {kw:List (Str × Value)}:(A.under (.builtin "type.__call__" ⟨.ref C :: us,kw⟩)).units = A.units + 1:=by
 first | rfl | simp [Around.under,Code.cUnits,Code.frames,Code.isFrame]
theorem Room.make {k:Nat} {A:Around} (r:Room (k + 1) A) (C:Addr) (us:List Value) (kw:List (Str × Value)):Room k (A.under (.builtin "type.__call__" ⟨.ref C :: us,kw⟩)):=
 ⟨r.hd,by have:=r.dp; rw [Zlz]; omega,by have:=r.un; rw [Zly]; omega⟩
theorem Room.depth {k:Nat} {A:Around} (r:Room k A):A.depth < recursionLimit:=by have:=r.dp; omega
theorem Room.units {k:Nat} {A:Around} (r:Room k A):A.units + 64 < cLine:=by have:=r.un; omega
def Zpd:TA:=λ_ H Q=>Q [] H
def Zga (ta:TE) (tr:TA):TA:=λσ H Q=>ta σ H λx H1=>tr σ H1 λxs H2=>Q (x :: xs) H2
section
variable {X:Cx} {e:Expr} {es:List Expr} {te:TE} {t:TA} {pos:Pos}
theorem Zaa:PA X [] Zpd:=λ_ _ _ _ H Q I h=>Calls.spliced_nil ⟨[],H,I,.nil,h⟩
theorem pa_cons (ha:PE X e te) (hr:PA X es t) (hs:starEach (e :: es) X.env = (false,eval e X.env) :: starEach es X.env:=by rfl):PA X (e :: es) (Zga te t):=by
 intro pos pins s σ H Q I h;rw [hs];show wpAny _ _ (spliced ((false,eval e X.env) :: backTo pos (starEach es X.env))) _ _ s;refine Calls.spliced_cons (thn (ha pins s σ H _ I h) λu s1 ⟨x,H1,I1,r1,q1⟩=>?_);exact thn (hr pos pins s1 σ H1 _ I1 q1) λus s2 ⟨xs,H2,I2,r2,q2⟩=>⟨x :: xs,H2,I2,.cons r1 r2,q2⟩
def tTup (t:TA):TE:=λσ H Q=>t σ H λxs H1=>xs.length<=sizeLine/\∀ p,H1 p = none->Q (.ref p) (upd H1 p (.tup xs))
def tLst (t:TA):TE:=λσ H Q=>t σ H λxs H1=>xs.length<=sizeLine/\∀ p,H1 p = none->Q (.ref p) (upd H1 p (.lst xs))
theorem Zax {x1} (h:PA X es t):PE X (.Tuple es x1 pos) (tTup t):=by
 intro pins s σ H Q I hq;refine wpAny_Tuple_spliced (thn (h pos pins s σ H _ I hq) λus s1 ⟨xs,H1,I1,r,z,q⟩=>⟨by rw [<- r.length]; exact z,?_⟩);have hf:H1 s1.heap.objs.size = none:=I1.hok.fresh (Jah _);refine Zaz (.ref s1.heap.objs.size) (upd H1 s1.heap.objs.size (.tup xs)) ⟨I1.laid (t':=s1.toks) (λb u e=>Jae _ e) (Jah _) ?_,rfl,q _ hf⟩;exact ⟨z,us,r,⟨_,Ja8 _ rfl,rfl,_,rfl⟩⟩
theorem Zbd (h:PA X es t):PE X (.List es pos) (tLst t):=by
 intro pins s σ H Q I hq;refine wpAny_List_spliced (thn (h pos pins s σ H _ I hq) λus s1 ⟨xs,H1,I1,r,z,q⟩=>⟨by rw [<- r.length]; exact z,?_⟩);have hf:H1 s1.heap.objs.size = none:=I1.hok.fresh (Jah _);refine Zaz (.ref s1.heap.objs.size) (upd H1 s1.heap.objs.size (.lst xs)) ⟨I1.laid (t':=s1.toks) (λb u e=>Jae _ e) (Jah _) ?_,rfl,q _ hf⟩;exact ⟨z,us,0,r,Ja8 _ rfl⟩
end
abbrev Sp:=List V->Hp->VK->XK->Prop
abbrev CXT:=List Env->Hp->Shared->XK->Value->Shared->Prop
structure Env0 (P:Program) (w:World) (K:PySem.W.Frag) (mg:Str->Option Value) (base:Heap) (A:Around) (outer:List Env) (s:Shared) (H:Hp):Prop where
 frames:A.frames = some outer
 mod:Mod K mg base
 bs:∀ b o,base.get? b = some o->s.heap.get? b = some o/\H b = none
 bsz:base.objs.size<=s.heap.objs.size
 funs:s.heap.FunFrames base outer
 frf:∀ b ∈ frs outer,H b = none
 hok:HOk P w H s.heap
 bare:AllBare s.gens
def CE (outer:List Env) (P:Program) (w:World) (H:Hp) (s:Shared) (Q:VK) (u:Value) (s':Shared):Prop:=
 ∃ v H',s'.os = s.os/\AllBare s'.gens/\Un (frs outer) [] H H' s.heap s'.heap/\HOk P w H' s'.heap/\RelV v u/\Q v H'
def CR (CX:CXT) (outer:List Env) (P:Program) (w:World) (H:Hp) (s:Shared) (Q:VK) (E:XK) (r:Result) (s':Shared):Prop:=
 match r with
 | .ok (.ret u)=>CE outer P w H s Q u s'
 | .ok _=>False
 | .error e=>CX outer H s E e s'
structure FnOk (P:Program) (w:World) (K:PySem.W.Frag) (mg:Str->Option Value) (base:Heap) (CX:CXT) (k:Nat) (f:Addr) (fd:FuncData) (ps:List Str) (sp:Sp):Prop where
 len:∀ vs H Q E,sp vs H Q E->vs.length = ps.length
 run:∀ (A:Around) (outer:List Env) (s:Shared) (H:Hp) (args:Args) (us:List Value) (vs:List V) (Q:VK) (E:XK),Room k A->Env0 P w K mg base A outer s H->BindsTo s fd args (ps.zip us)->Vals vs us->sp vs H Q E->
  codeAny (model P w) A (.call (.ref f) args) (CR CX outer P w H s Q E) s
theorem Env0.make {P:Program} {w:World} {K:PySem.W.Frag} {mg:Str->Option Value} {base:Heap} {A:Around} {outer:List Env} {s:Shared} {H:Hp} (e:Env0 P w K mg base A outer s H) (C:Addr) (us:List Value) (kw:List (Str × Value)):
  Env0 P w K mg base (A.under (.builtin "type.__call__" ⟨.ref C :: us,kw⟩)) outer s H:=⟨by first | exact e.frames | (simpa [Around.under,Code.envs,Code.isFrame,pushEnvs] using e.frames),e.mod,e.bs,e.bsz,e.funs,e.frf,e.hok,e.bare⟩
section
variable {X:Cx} {pins:List (Addr × Obj)} {σ:St} {H:Hp} {s s':Shared}
theorem Inv.env0 (I:Inv X pins σ H s):Env0 X.prog X.w X.K X.mg X.base X.A X.stack s H:=
 ⟨I.ok.frames,I.ok.mod,I.bs,Ja3 I.ok.bsz I.sz,I.stack,I.stkFree,I.hok,I.bare⟩
theorem Inv.after {Q:VK} {u:Value} (I:Inv X pins σ H s) (h:CE X.stack X.prog X.w H s Q u s'):EP X pins σ Q u s':=by
 refine Zln h λv H' os bare un hok r q=>?_;clear h;obtain ⟨hh,g,d,t,os'⟩:=s';obtain rfl:os' = s.os:=os;exact Zaz v H' ⟨I.call (h':=hh) (g':=g) (d':=d) (t':=t) (ch:=[]) un hok bare (λb z=>absurd z (by simp)),r,q⟩
end
def Zjr (sp:Sp) (dvs:List V) (E:XK) (t:TA):TE:=λσ H Q=>t σ H λvs H1=>sp (vs ++ dvs) H1 Q E
def Zmv (C:Addr) (m:Str) (sp:Sp) (dvs:List V) (E:XK) (ta:TE) (t:TA):TE:=λσ H Q=>ta σ H λx H1=>∃ a dx fs,x = .ref a/\H1 a = some (.ins C dx fs)/\fs.lookup m = none /\
 t σ H1 λvs H2=>sp (x :: (vs ++ dvs)) H2 Q E
def Zpq (C:Addr) (sp:Sp) (dvs:List V) (E:XK) (t:TA):TE:=λσ H Q=>t σ H λvs H1=>∀ x dx,H1 x = none->H1 dx = none->dx ≠ x->
 sp (.ref x :: (vs ++ dvs)) (upd (upd H1 dx (.own x)) x (.ins C dx [])) (λv H2=>v = .non/\Q (.ref x) H2) E
def Binds (K:PySem.W.Frag) (fd:FuncData) (ps:List Str) (ds:List Value):Prop:=
 ∀ (s:Shared) (us:List Value),K.In s.heap->(us ++ ds).length = ps.length->BindsTo s fd ⟨us,[]⟩ (ps.zip (us ++ ds))
theorem Binds.all {K:PySem.W.Frag} {fd:FuncData} {ps:List Str} (h:∀ us:List Value,us.length = ps.length->bindArgs fd ⟨us,[]⟩ = pure (ps.zip us)):Binds K fd ps []:=λs us _ hl=>by
 rw [Jdo] at hl ⊢;exact .of_eq (h us hl)
def Zcy (CX:CXT) (X:Cx) (E:XK):Prop:=∀ (pins:List (Addr × Obj)) (σ:St) (H:Hp) (s:Shared) (e:Value) (s':Shared),Inv X pins σ H s->CX X.stack H s E e s'->X.xe e s'
section
variable {X:Cx} {CX:CXT} {k:Nat} {f C:Addr} {fd:FuncData} {ps:List Str} {sp:Sp} {dvs:List V} {ds:List Value} {E:XK} {x m:Str} {p pos apos:Pos} {e o:Expr} {es:List Expr} {ta:TE} {t:TA}
theorem Zng {pins:List (Addr × Obj)} {σ:St} {H:Hp} {s:Shared} {Q:VK} {us:List Value} {vs:List V} (F:FnOk X.prog X.w X.K X.mg X.base CX k f fd ps sp) (hr:Room k X.A) (hb:Binds X.K fd ps ds) (hd:Vals dvs ds) (hx:Zcy CX X E)
  (I:Inv X pins σ H s) (r:Vals vs us) (h:sp (vs ++ dvs) H Q E):wpAny (model X.prog X.w) X.A (call (.ref f) us) (EP X pins σ Q) X.xe s:=by
 have r2:Vals (vs ++ dvs) (us ++ ds):=r.append hd;have hl:(us ++ ds).length = ps.length:=by rw [<- r2.length]; exact F.len _ _ _ _ h
 refine wpAny_call (Jdh (F.run X.A X.stack s H ⟨us,[]⟩ (us ++ ds) (vs ++ dvs) Q E hr I.env0 (hb s us I.kIn hl) r2 h) λr s' hq=>?_);cases r with
 | error e=>exact hx pins σ H s e s' I hq
 | ok fl=>
  cases fl with
  | ret u=>exact I.after hq
  | next=>exact False.elim hq
  | brk=>exact False.elim hq
  | cont=>exact False.elim hq
theorem Znu (F:FnOk X.prog X.w X.K X.mg X.base CX k f fd ps sp) (hr:Room k X.A) (hg:Gl X x) (hm:X.mg x = some (.ref f)) (hk:PySem.W.keepIn X.K (.ref f) = true) (hb:Binds X.K fd ps ds) (hd:Vals dvs ds) (hx:Zcy CX X E)
  (ha:PA X (e :: es) t) (hdb:(x == ("__debug__" : Str)) = false:=by decide) (he:starEach (e :: es) X.env = (false,eval e X.env) :: starEach es X.env:=by rfl) (hpl:(backTo pos (starEach es X.env)).any (·.1) = false:=by rfl):
  PE X (.Call (.Name x p) (e :: es) [] pos) (Zjr sp dvs E t):=by
 intro pins s σ H Q I h;refine Jcr (Zfq I hg hm ?_ hdb);refine Jc5 (h₀:=X.base) I.ok.mod.kin hk (thn (ha pos pins s σ H _ I h) λus s1 ⟨vs,H1,I1,r,q⟩=>⟨I1.kIn,?_⟩) he hpl;exact Zng F hr hb hd hx I1 r q
theorem pe_meth {pl:Sem Bool} (he:PE X o ta) (c:Cls X.K C) (hm:Meth X.K C m f) (F:FnOk X.prog X.w X.K X.mg X.base CX k f fd ps sp) (hr:Room k X.A) (hb:Binds X.K fd ps ds) (hd:Vals dvs ds) (hx:Zcy CX X E) (ha:PA X (e :: es) t)
  (hst:starEach (e :: es) X.env = (false,eval e X.env) :: starEach es X.env:=by rfl) (hpl:(backTo pos (starEach es X.env)).any (·.1) = false:=by rfl)
  (ht:eval (.Call (.Attribute o m apos) (e :: es) [] pos) X.env = (do
   let ov <- eval o X.env
   standAt apos.atName
   let (f,first) <- holding [ov] (getMethod ov m pl)
   callWith pos f first (backTo pos (starEach (e :: es) X.env)) (backToKw pos (keywordEach [] X.env))):=by rfl):
  PE X (.Call (.Attribute o m apos) (e :: es) [] pos) (Zmv C m sp dvs E ta t):=by
 intro pins s σ H Q I h;refine Jdg (pl:=pl) (thn (he pins s σ H _ I h) λu s1 ⟨x,H1,I1,rx,a,dx,fs,ex,ea,l,q⟩=>?_) ht;subst ex;obtain rfl:u = Value.ref a:=rx;refine Zfu I1 ea c hm l ?_;refine Jc5 (first:=[.ref a]) (h₀:=X.base) I.ok.mod.kin hm.kp (thn (ha pos pins s1 σ H1 _ I1 q) λus s2 ⟨vs,H2,I2,r,q2⟩=>⟨I2.kIn,?_⟩) hst hpl;exact Zng (us:=.ref a :: us) (vs:=.ref a :: vs) F hr hb hd hx I2 (.cons rfl r) q2
theorem Zp2 {pl:Sem Bool} (he:PE X o ta) (c:Cls X.K C) (hm:Meth X.K C m f) (F:FnOk X.prog X.w X.K X.mg X.base CX k f fd ps sp) (hr:Room k X.A) (hb:Binds X.K fd ps ds) (hd:Vals dvs ds) (hx:Zcy CX X E)
  (ht:eval (.Call (.Attribute o m apos) [] [] pos) X.env = (do
   let ov <- eval o X.env
   standAt apos.atName
   let (f,first) <- holding [ov] (getMethod ov m pl)
   callWith pos f first (backTo pos (starEach [] X.env)) (backToKw pos (keywordEach [] X.env))):=by rfl):
  PE X (.Call (.Attribute o m apos) [] [] pos) (Zmv C m sp dvs E ta Zpd):=by
 intro pins s σ H Q I h;refine Jdg (pl:=pl) (thn (he pins s σ H _ I h) λu s1 ⟨x,H1,I1,rx,a,dx,fs,ex,ea,l,q⟩=>?_) ht;subst ex;obtain rfl:u = Value.ref a:=rx;refine Zfu I1 ea c hm l ?_;exact PySem.W.callWith_K0 (first:=[.ref a]) I1.kIn hm.kp (Zng (us:=[.ref a]) (vs:=[.ref a]) F hr hb hd hx I1 (.cons rfl .nil) q)
structure Mk (K:PySem.W.Frag) (C f:Addr):Prop where
 makes:PySem.W.makesIn K C = true
 init:PySem.W.findIn K (.ref C) "__init__" = some (some (.ref f))
 fn:PySem.W.isFn K (.ref f) = true
 kp:PySem.W.keepIn K (.ref C) = true
theorem Zpt {pins:List (Addr × Obj)} {σ:St} {H:Hp} {s:Shared} {Q:VK} {us:List Value} {vs:List V} (M:Mk X.K C f) (F:FnOk X.prog X.w X.K X.mg X.base CX k f fd ps sp) (hr:Room (k + 1) X.A) (hb:Binds X.K fd ps ds) (hd:Vals dvs ds)
  (hx:Zcy CX X E) (I:Inv X pins σ H s) (r:Vals vs us)
  (h:∀ x dx,H x = none->H dx = none->dx ≠ x->sp (.ref x :: (vs ++ dvs)) (upd (upd H dx (.own x)) x (.ins C dx [])) (λv H2=>v = .non/\Q (.ref x) H2) E):
  wpAny (model X.prog X.w) X.A (call (.ref C) us) (EP X pins σ Q) X.xe s:=by
 have hq:=h (s.heap.objs.size + 1) s.heap.objs.size (I.hok.fresh (Nat.le_succ _)) (I.hok.fresh (Jah _)) (Ja6 (Nat.lt_succ_self _));have I2:=Inv.made (C:=C) I;have r2:Vals (V.ref (s.heap.objs.size + 1) :: (vs ++ dvs)) (Value.ref (s.heap.objs.size + 1) :: (us ++ ds)):=.cons rfl (r.append hd);have hl:(Value.ref (s.heap.objs.size + 1) :: us ++ ds).length = ps.length:=by
  have e:=r2.length;rw [F.len _ _ _ _ hq] at e;exact e.symm
 refine wpAny_call (Zqr (f:=f) I.kIn M.makes M.init (Jbg.mp M.fn) (Jdh (F.run _ X.stack _ _ ⟨Value.ref (s.heap.objs.size + 1) :: us,[]⟩ (Value.ref (s.heap.objs.size + 1) :: (us ++ ds)) _ _ E (hr.make C us [])
  (I2.env0.make C us []) (hb _ (Value.ref (s.heap.objs.size + 1) :: us) I2.kIn hl) r2 hq) λr s' hq'=>?_))
 cases r with
 | error e=>exact hx pins σ _ _ e s' I2 hq'
 | ok fl=>
  cases fl with
  | ret u=>
   refine Zhz (I2.after hq') λv H' I3 rv ev q3=>?_;subst ev;exact ⟨rv,⟨V.ref (s.heap.objs.size + 1),H',I3,rfl,q3⟩⟩
  | next=>exact False.elim hq'
  | brk=>exact False.elim hq'
  | cont=>exact False.elim hq'
theorem pe_make (M:Mk X.K C f) (F:FnOk X.prog X.w X.K X.mg X.base CX k f fd ps sp) (hr:Room (k + 1) X.A) (hg:Gl X x) (hm:X.mg x = some (.ref C)) (hb:Binds X.K fd ps ds) (hd:Vals dvs ds) (hx:Zcy CX X E)
  (ha:PA X (e :: es) t) (hdb:(x == ("__debug__" : Str)) = false:=by decide) (he:starEach (e :: es) X.env = (false,eval e X.env) :: starEach es X.env:=by rfl) (hpl:(backTo pos (starEach es X.env)).any (·.1) = false:=by rfl):
  PE X (.Call (.Name x p) (e :: es) [] pos) (Zpq C sp dvs E t):=by
 intro pins s σ H Q I h;refine Jcr (Zfq I hg hm ?_ hdb);refine Jc5 (h₀:=X.base) I.ok.mod.kin M.kp (thn (ha pos pins s σ H _ I h) λus s1 ⟨vs,H1,I1,r,q⟩=>⟨I1.kIn,?_⟩) he hpl;exact Zpt M F hr hb hd hx I1 r q
end
section
variable {X:Cx} {CX:CXT} {k:Nat} {f C:Addr} {fd:FuncData} {ps ks:List Str} {sp:Sp} {E:XK} {x m:Str} {p pos apos kpos:Pos} {e o:Expr} {es:List Expr} {kws:List Keyword} {te ta:TE} {t tk:TA} {nm:Option Str}
structure KBinds (K:PySem.W.Frag) (fd:FuncData) (ps ks:List Str) (g:List Value->List Value->List Value) (gV:List V->List V->List V):Prop where
 to:∀ (s:Shared) (us ws:List Value),K.In s.heap->(g us ws).length = ps.length->BindsTo s fd ⟨us,ks.zip ws⟩ (ps.zip (g us ws))
 rel:∀ {vs:List V} {us:List Value} {zs:List V} {ws:List Value},Vals vs us->Vals zs ws->Vals (gV vs zs) (g us ws)
variable {g:List Value->List Value->List Value} {gV:List V->List V->List V}
end
structure FnScope (N P:List Str) (sc:Scope):Prop where
 kind:sc.kind = .function
 co:sc.isCoroutine = false
 gen:sc.isGenerator = false
 nd:N.Nodup
 pre:N.take P.length = P
 par:∀ x ∈ P,sc.names.lookup x = some .local\/sc.names.lookup x = some .cell
 nofree:∀ y ∈ sc.names,y.2 ≠ .free
theorem Zjj {kindOf:Str->Option NameKind} {x:Str}:∀ {binds:List (Str × Value)} {m:Str->Option Value},(∀ v,(x,v) ∉ binds)->bindL kindOf binds m x = m x
 | [],_,_=>rfl
 | (n,v) :: r,m,h=>by
  unfold bindL;rw [Zjj λw hw=>h w (Ja2 _ hw)];split
  .have:x ≠ n:=by rintro rfl; exact h v Jb0
   simp [this]
  .rfl
theorem Zjl {kindOf:Str->Option NameKind} {x:Str}:∀ {binds:List (Str × Value)} {m:Str->Option Value},(∀ v,(x,v) ∉ binds)->bindC kindOf binds m x = m x
 | [],_,_=>rfl
 | (n,v) :: r,m,h=>by
  unfold bindC;rw [Zjl λw hw=>h w (Ja2 _ hw)];split
  .rfl
  .have:x ≠ n:=by rintro rfl; exact h v Jb0
   simp [this]
theorem Zjk {kindOf:Str->Option NameKind} {x:Str} {v:Value}:∀ {P:List Str} {vs:List Value} {i:Nat} {m:Str->Option Value},P.Nodup->P[i]? = some x->vs[i]? = some v->kindOf x = some .local->
  bindL kindOf (P.zip vs) m x = some v
 | [],_,_,_,_,h,_,_=>by simp at h
 | _ :: _,[],_,_,_,_,h,_=>by simp at h
 | p :: P,w :: vs,0,m,nd,h1,h2,hk=>by
  simp at h1 h2; subst h1; subst h2;show bindL kindOf ((p,w) :: P.zip vs) m p = _;unfold bindL;rw [Zjj λv hv=>(Jbr.mp nd).1 (Jdp hv).1,if_pos hk];simp
 | p :: P,w :: vs,i + 1,m,nd,h1,h2,hk=>by
  show bindL kindOf ((p,w) :: P.zip vs) m x = _;unfold bindL;exact Zjk (i:=i) (Jbr.mp nd).2 (by simpa using h1) (by simpa using h2) hk
theorem Zjm {kindOf:Str->Option NameKind} {x:Str} {v:Value}:∀ {P:List Str} {vs:List Value} {i:Nat} {m:Str->Option Value},P.Nodup->P[i]? = some x->vs[i]? = some v->kindOf x ≠ some .local->
  bindC kindOf (P.zip vs) m x = some v
 | [],_,_,_,_,h,_,_=>by simp at h
 | _ :: _,[],_,_,_,_,h,_=>by simp at h
 | p :: P,w :: vs,0,m,nd,h1,h2,hk=>by
  simp at h1 h2; subst h1; subst h2;show bindC kindOf ((p,w) :: P.zip vs) m p = _;unfold bindC;rw [Zjl λv hv=>(Jbr.mp nd).1 (Jdp hv).1,if_neg hk];simp
 | p :: P,w :: vs,i + 1,m,nd,h1,h2,hk=>by
  show bindC kindOf ((p,w) :: P.zip vs) m x = _;unfold bindC;exact Zjm (i:=i) (Jbr.mp nd).2 (by simpa using h1) (by simpa using h2) hk
def Zei (N:List Str) (vs:List V):St:=vs.map some ++ List.replicate (N.length - vs.length) none
def Zke (CX:CXT) (P:Program) (w:World) (K:PySem.W.Frag) (mg:Str->Option Value) (base:Heap) (N:List Str) (qual:Str) (scope:Scope) (f:Addr) (cd:Value) (A:Around) (outer:List Env) (s:Shared) (H:Hp) (E:XK):Cx where
 prog:=P
 w:=w
 K:=K
 mg:=mg
 base:=base
 A:=A.deeper (envOfC qual scope s.heap.objs.size f cd)
 N:=N
 s₀:=s
 H₀:=H
 env:=envOfC qual scope s.heap.objs.size f cd
 outer:=outer
 stack:=envOfC qual scope s.heap.objs.size f cd :: outer
 ex:=[]
 calm:=true
 fn:=λ_=>true
 pn:=[]
 xe:=λe s'=>wpAny (model P w) (A.deeper (envOfC qual scope s.heap.objs.size f cd)) (leaving (envOfC qual scope s.heap.objs.size f cd) e) (λ_ s''=>CX outer H s E e s'') (λe' s''=>CX outer H s E e' s'') s'
theorem Zlh {sc:Scope} {n:Nat} {x:Str} (h:sc.names.lookup x = some .cell):∃ c,(cellsFrom n sc.names []).lookup x = some c:=by
 have q:=Jcc sc.names n [] (.inl h);exact Jbz.mp q
theorem Zje {CX:CXT} {P:Program} {w:World} {K:PySem.W.Frag} {mg:Str->Option Value} {base:Heap} {N ps:List Str} {qual:Str} {scope:Scope} {f:Addr} {cd:Value} {A:Around} {outer:List Env} {s s1:Shared} {H:Hp} {E:XK} {us:List Value} {vs:List V}
  (S:FnScope N ps scope) (hd:A.handled = none) (e0:Env0 P w K mg base A outer s H) (hl:vs.length = ps.length) (r:Vals vs us)
  (x:InCallC s s.heap.objs.size (bindL (envOfC qual scope s.heap.objs.size f cd).kindOf (ps.zip us) λ_=>none) (cellsFrom (s.heap.objs.size + 1) scope.names []) (bindC (envOfC qual scope s.heap.objs.size f cd).kindOf (ps.zip us) λ_=>none) s1):
  Inv (Zke CX P w K mg base N qual scope f cd A outer s H E) [] (Zei N vs) H s1:=by
 have hpl:ps.length<=N.length:=by have:=Jc1 List.length S.pre; rw [Jbd] at this; omega
 refine Zbo x.done λh1 tk e9109 hk=>?_;obtain rfl:=e9109;have noA:∀ b:Addr,b ∉ (Zke CX P w K mg base N qual scope f cd A outer s H E).ex:=λb z=>absurd (show b ∈ ([]:List Addr) from z) (by simp);refine ⟨⟨e0.mod,S.kind,rfl,rfl,Jah _,λy z c h1 h2=>?_,λy hy=>?_,λy c _ h=>?_,λ_=>hd,Around.frames_deeper e0.frames,.inr ⟨rfl,rfl⟩,λb z=>absurd z (noA b),e0.bs,e0.bsz,λb _ _=>noA b,λb z=>absurd z (noA b),e0.funs,e0.frf,⟨_,_,rfl,S.gen,S.co,rfl,rfl⟩⟩,
  rfl,e0.bare,Un.kept hk,⟨_,x.toInCall.ns,λi y v h1 h2 h3=>?_⟩,λy c h=>⟨_,x.cell y c h⟩,e0.hok.fresh (Jah _),λy c h=>?_,λp hp=>absurd (show p ∈ ([]:List (Addr × Obj)) from hp) (by simp),e0.hok.kept hk,?_⟩
 .exact name_of_addr x.apart (Jbs h1) (Jbs h2)
 .have hy:scope.names.lookup y = some .cell\/scope.names.lookup y = some .free:=hy;rcases hy with hy | hy
  .exact Zlh hy
  .exact absurd rfl (S.nofree _ (Jbs hy))
 .exact Jcd (x.above y c (Jbs h))
 .have hi:i < vs.length:=by
   unfold Zei at h2;by_cases hi:i < vs.length
   .exact hi
   .rw [Jal (by simpa using hi)] at h2;rw [Jc6] at h2;split at h2 <;> cases h2
  have ha:vs[i]? = some v:=by
   unfold Zei at h2;rw [Jai (by simpa using hi),Jbc] at h2;cases e:vs[i]? with
   | none=>rw [e] at h2; cases h2
   | some a=>rw [e] at h2; cases h2; rfl
  refine Zad (r.get ha) λu hu rv=>?_;have hp:ps[i]? = some y:=by
   rw [<- S.pre,List.getElem?_take_of_lt (by omega)]; exact h1
  have ndP:ps.Nodup:=by rw [<- S.pre]; exact S.nd.sublist (Jd4 _ _)
  refine ⟨u,rv,?_⟩;rcases S.par y (Jag hp) with k | k
  .exact .inl ⟨k,Zjk ndP hp hu k⟩
  .obtain ⟨c,e⟩:=Zlh (n:=s.heap.objs.size + 1) k;refine .inr ⟨.inl k,c,e,?_⟩;have q:=x.cell y c e;rw [Zjm ndP hp hu (by show scope.names.lookup y ≠ _; rw [k]; decide)] at q;exact q
 .exact e0.hok.fresh (Jcd (x.above y c (Jbs h)))
 .unfold Zei;show _ = N.length;rw [Jam,Jab,Jce];omega
theorem fn_of {CX:CXT} {P:Program} {w:World} {K:PySem.W.Frag} {mg:Str->Option Value} {base:Heap} {k:Nat} {f:Addr} {name qual:Str} {params:Arguments} {body:List Stmt} {scope:Scope} {dV kV doc pm cdv ct oc:Value} {an od:Option Addr}
  {osl:Array (Option Value)} {N ps:List Str} {sp:Sp} (lk:K.lookup f = some ⟨oc,od,.func (PySem.W.fnOf name qual params body scope dV kV doc pm an cdv ct),osl⟩) (hcd:PySem.W.codeIn K cdv qual = true) (S:FnScope N ps scope)
  (len:∀ vs H Q E,sp vs H Q E->vs.length = ps.length)
  (hbody:∀ (A:Around) (outer:List Env) (s:Shared) (H:Hp) (vs:List V) (Q:VK) (E:XK),Room k (A.deeper (envOfC qual scope s.heap.objs.size f cdv))->sp vs H Q E->
   ∃ t,PSs (Zke CX P w K mg base N qual scope f cdv A outer s H E) body t/\t { nx:=λ_ H'=>Q .non H',rt:=Q } (Zei N vs) H):
  FnOk P w K mg base CX (k + 1) f (PySem.W.fnOf name qual params body scope dV kV doc pm an cdv ct) ps sp:=by
 refine ⟨len,λA outer s H args us vs Q E hr e0 hb r hsp=>?_⟩;have hl:=len _ _ _ _ hsp;have KX:K.In s.heap:=e0.mod.kin.keeps λb o e=>(e0.bs b o e).1;have lim:s.heap.NoLimit:=e0.mod.nolimit.keeps λb o e=>(e0.bs b o e).1;have hkind:∀ y ∈ ps.zip us,scope.names.lookup y.1 = some .local\/(scope.names.lookup y.1 = some .cell/\((cellsFrom (s.heap.objs.size + 1) scope.names []).lookup y.1).isSome = true):=λ⟨n,v⟩ hy=>by
  rcases S.par n (Jdp hy).1 with q | q
  .exact .inl q
  .exact .inr ⟨q,Jcc _ _ _ (.inl q)⟩
 refine codeAny_call_function hr.depth (KX _ _ lk) rfl S.co S.gen rfl (PySem.W.codeRec_of KX hcd) (hb _ _ _ _ ?_);refine wpAny_newFunctionEnv_cells S.kind hkind λenv he s1 x=>?_;subst he;refine ⟨lim.keeps x.toInCall.keep,codeAny_func ?_⟩;refine Zad (hbody A outer s H vs Q E (hr.deeper _) hsp) λt ht hq=>?_;have I:Inv (Zke CX P w K mg base N qual scope f cdv A outer s H E) [] (Zei N vs) H s1:=Zje S hr.hd e0 hl r x;refine Jaz (ht [] s1 (Zei N vs) H _ I hq) (λfl s' hs=>?_) λe s' hs=>hs;have fin:∀ {σ':St} {H':Hp} {v:V} {u:Value},Inv (Zke CX P w K mg base N qual scope f cdv A outer s H E) [] σ' H' s'->RelV v u->Q v H'->CE outer P w H s Q u s':=
  λ{σ' H' v u} J rv q=>⟨v,H',J.os,J.bare,J.base,J.hok,rv,q⟩
 cases fl with
 | ret u=>
  refine Zir hs λv σ' H' J rv q=>?_;clear hs;exact fin J rv q
 | next=>
  refine Zbo hs λσ' H' J q=>?_;clear hs;exact fin (v:=V.non) (u:=Value.none) J rfl q
 | brk=>
  refine Zbo hs λ_ _ _ q=>?_;clear hs;exact False.elim q
 | cont=>
  refine Zbo hs λ_ _ _ q=>?_;clear hs;exact False.elim q
section
variable {X:Cx} {x:Str} {p pos:Pos} {e:Expr} {es:List Expr} {t:TA} {id T:String} {r:List V->Hp->VK->Prop}
def tCB (r:List V->Hp->VK->Prop) (t:TA):TE:=λσ H Q=>t σ H λvs H1=>r vs H1 Q
theorem Zp6 (hc:Zdc X (.builtin id) r) (hg:Gl X x) (hm:X.mg x = none) (hv:bootBuiltins x = some (.builtin id)) (ha:PA X (e :: es) t) (hn:x ≠ "__name__" := by decide) (hdb:(x == ("__debug__" : Str)) = false:=by decide)
  (he:starEach (e :: es) X.env = (false,eval e X.env) :: starEach es X.env:=by rfl) (hpl:(backTo pos (starEach es X.env)).any (·.1) = false:=by rfl):PE X (.Call (.Name x p) (e :: es) [] pos) (tCB r t):=by
 intro pins s σ H Q I h;refine Jcr (Zhr I hg hm hv ?_ hn hdb);exact PyProof.Rows.callWith_builtin1 (thn (ha pos pins s σ H _ I h) λus s1 ⟨vs,H1,I1,r1,q1⟩=>hc pins s1 σ H1 vs us Q I1 r1 q1) he hpl
theorem Znt (hc:Zdc X (.type T) r) (hg:Gl X x) (hm:X.mg x = none) (hv:bootBuiltins x = some (.type T)) (ha:PA X (e :: es) t) (hn:x ≠ "__name__" := by decide) (hdb:(x == ("__debug__" : Str)) = false:=by decide)
  (he:starEach (e :: es) X.env = (false,eval e X.env) :: starEach es X.env:=by rfl) (hpl:(backTo pos (starEach es X.env)).any (·.1) = false:=by rfl):PE X (.Call (.Name x p) (e :: es) [] pos) (tCB r t):=by
 intro pins s σ H Q I h;refine Jcr (Zhr I hg hm hv ?_ hn hdb);exact Jb9 (thn (ha pos pins s σ H _ I h) λus s1 ⟨vs,H1,I1,r1,q1⟩=>hc pins s1 σ H1 vs us Q I1 r1 q1) he hpl
end
end L2
namespace HT
open PySem PyProof.Rows
section
open PySem.SeqAt
open PySem.AutoSeq1 (wpAny_loadPart')
open PySem.MeetsSeq PySem.MeetsSeq2 PySem.MeetsSeq3
end
section
variable {prog:Program} {w:World} {A:Around} {E:Value->Shared->Prop} {s:Shared}
def sIx (n d:Nat):Option Int->Nat
 | none=>d
 | some v=>if v < 0 then (v + (n:Int)).toNat else min v.toNat n
end
end HT
namespace L2
open PySem PySem.Spec PyProof.Rows
abbrev TO:=St->Hp->(Option Int->Hp->Prop)->Prop
def PO (X:Cx) (e:Option Expr) (t:TO):Prop:=
 ∀ (pins:List (Addr × Obj)) (s:Shared) (σ:St) (H:Hp) (Q:Option Int->Hp->Prop),Inv X pins σ H s->t σ H Q->
  wpAny (model X.prog X.w) X.A (evalPart e X.env) (λu s'=>∃ o H',Inv X pins σ H' s'/\IsPart u o/\Q o H') X.xe s
def Zmu:TO:=λ_ H Q=>Q none H
def tPart (t:TE):TO:=λσ H Q=>t σ H λx H1=>∃ i,x = .int i/\Q (some i) H1
section
variable {X:Cx} {e:Expr} {te:TE} {lo hi:Option Expr} {tl th:TO} {pos p2:Pos}
theorem Zg1:PO X none Zmu:=by
 intro pins s σ H Q I h;rw [evalPart_none];exact Jat ⟨none,H,I,.none,h⟩
theorem Zg0 (h:PE X e te):PO X (some e) (tPart te):=by
 intro pins s σ H Q I hw;rw [evalPart_some];refine thn (h pins s σ H _ I hw) λu s1 ⟨x,H1,I1,r1,q1⟩=>?_;refine Zad q1 λi e9110 q=>?_;clear q1;obtain rfl:=e9110;obtain ⟨t,rfl⟩:=r1;exact Zaz (some i) H1 ⟨I1,.int i t,q⟩
def SlR (X:Cx) (r:V->Option Int->Option Int->Hp->VK->Prop):Prop:=
 ∀ (pins:List (Addr × Obj)) (s:Shared) (σ:St) (H:Hp) (x:V) (v vl vu:Value) (lo hi:Option Int) (sl:Addr) (Q:VK),Inv X pins σ H s->RelV x v->s.heap.IsSliceOf sl vl vu .none->IsPart vl lo->IsPart vu hi->r x lo hi H Q->
  ∃ T id,typeLookup (.type T) "__getitem__" = pure (some (.builtin id))/\s.TypeIs v T/\wpAny (model X.prog X.w) X.A (getItem v (.ref sl)) (EP X pins σ Q) X.xe s
def tSl (r:V->Option Int->Option Int->Hp->VK->Prop) (te:TE) (tl th:TO):TE:=λσ H Q=>te σ H λx H1=>tl σ H1 λl H2=>th σ H2 λu H3=>r x l u H3 Q
theorem Ze5 {r:V->Option Int->Option Int->Hp->VK->Prop} (hr:SlR X r) (he:PE X e te) (hl:PO X lo tl) (hu:PO X hi th):PE X (.Subscript e (.Slice lo hi none p2) pos) (tSl r te tl th):=by
 intro pins s σ H Q I h;refine Subscript_ (thn (he pins s σ H _ I h) λv s1 ⟨x,H1,I1,r1,q1⟩=>?_);refine wpAny_Slice (thn (hl pins s1 σ H1 _ I1 q1) λvl s2 ⟨l,H2,I2,pl,q2⟩=>thn (hu pins s2 σ H2 _ I2 q2) λvu s3 ⟨u,H3,I3,pu,q3⟩=>?_);rw [evalPart_none];refine Jat ?_;have I4:Inv X pins σ H3 { s3 with heap:=s3.heap.push { cls:=.type "slice",data:=.fields #[vl,vu,.none] } }:=I3.kept (t':=s3.toks) λb ob q=>Jae _ q;refine Zca (hr pins { s3 with heap:=s3.heap.push { cls:=.type "slice",data:=.fields #[vl,vu,.none] } } σ H3 x v vl vu l u s3.heap.objs.size Q I4 r1 (Heap.IsSliceOf.new ..) pl pu q3) λT id hT ht hg=>?_;show wpAny (model X.prog X.w) X.A (subscriptTail e (.Slice lo hi none p2) v (.ref s3.heap.objs.size)) (EP X pins σ Q) X.xe { s3 with heap:=s3.heap.push { cls:=.type "slice",data:=.fields #[vl,vu,.none] } };exact tail_any (ops:=[.ref s3.heap.objs.size,v]) ht hT hg (by with_unfolding_all rfl)
def Zpg (xs:List V) (lo hi:Option Int):List V:=(xs.drop (HT.sIx xs.length 0 lo)).take (HT.sIx xs.length xs.length hi - HT.sIx xs.length 0 lo)
theorem Zkf (xs:List V) (lo hi:Option Int):(Zpg xs lo hi).length<=xs.length:=by
 unfold Zpg;rw [Jbd,Jco];omega
end
def ixN (n:Nat) (i:Int):Option Nat:=if 0<=i then (if i < n then some i.toNat else none) else if -(n:Int)<=i then some (i + n).toNat else none
def atI {α:Type} (xs:List α) (i:Int):Option α:=(ixN xs.length i).bind λj=>xs[j]?
theorem Zod {n:Nat} {i:Int} {j:Nat} (h:ixN n i = some j):seqIndex? i n = some j/\j < n/\-(n:Int)<=i/\i < n:=by
 unfold ixN at h;by_cases h0:0<=i
 .rw [if_pos h0] at h;by_cases h1:i < n
  .rw [if_pos h1] at h;have e:i.toNat = j:=Jbi h;exact ⟨by rw [seqIndex_of h0 h1,e],by omega,by omega,h1⟩
  .rw [if_neg h1] at h; cases h
 .rw [if_neg h0] at h;by_cases h1:-(n:Int)<=i
  .rw [if_pos h1] at h;have e:(i + n).toNat = j:=Jbi h;exact ⟨by rw [seqIndex_neg (by omega) h1,e],by omega,h1,by omega⟩
  .rw [if_neg h1] at h; cases h
theorem Zpa {α:Type} {xs:List α} {i:Int} {v:α} (h:atI xs i = some v):∃ j,seqIndex? i xs.length = some j/\xs[j]? = some v/\j < xs.length/\-(xs.length:Int)<=i/\i < xs.length:=by
 unfold atI at h;cases e:ixN xs.length i with
 | none=>rw [e] at h; cases h
 | some j=>
  rw [e] at h;refine Zbh (Zod e) λh1 h2 h3 h4=>?_;exact ⟨j,h1,h,h2,h3,h4⟩
theorem atI_nat {α:Type} {xs:List α} {j:Nat} {v:α} (h:xs[j]? = some v):atI xs (j:Int) = some v:=by
 have hj:j < xs.length:=(Jaw.mp h).1;have e:ixN xs.length (j:Int) = some j:=by
  unfold ixN;rw [if_pos (by omega),if_pos (by omega)]; simp
 unfold atI; rw [e]; exact h
def PlainIx (b:Expr):Prop:=∀ o i,subscripted b false o i = operate [o,i] (getItem o i)
def IxR (X:Cx) (r:R2):Prop:=
 ∀ (value slice:Expr) (pins:List (Addr × Obj)) (s:Shared) (σ:St) (H:Hp) (x y:V) (v u:Value) (Q:VK),Inv X pins σ H s->RelV x v->RelV y u->r x y H Q->
  subscripted slice false v u = operate [v,u] (getItem v u)->wpAny (model X.prog X.w) X.A (subscriptTail value slice v u) (EP X pins σ Q) X.xe s
def MtR (X:Cx) (id:String) (r:V->List V->Hp->VK->Prop):Prop:=
 ∀ (pins:List (Addr × Obj)) (s:Shared) (σ:St) (H:Hp) (x:V) (xs:List V) (v:Value) (us:List Value) (Q:VK),Inv X pins σ H s->RelV x v->Vals xs us->r x xs H Q->
  wpAny (model X.prog X.w) X.A (call (.builtin id) (v :: us)) (EP X pins σ Q) X.xe s
section
variable {X:Cx} {a b:Expr} {ta tb:TE} {pos:Pos}
theorem pe_ix {r:R2} (hr:IxR X r) (ha:PE X a ta) (hb:PE X b tb) (hs:PlainIx b):PE X (.Subscript a b pos) (tOp r ta tb):=by
 intro pins s σ H Q I h;exact Subscript_ (binT ha hb I h λv u s2 x y H2 I2 rx ry q=>hr a b pins s2 σ H2 x y v u Q I2 rx ry q (hs _ _))
def rIxL (K:PySem.W.Frag):R2:=λx y H Q=>∃ p xs i v,x = .ref p/\y = .int i/\SqL K H p xs/\atI xs i = some v/\Q v H
def rIxT (K:PySem.W.Frag):R2:=λx y H Q=>∃ p xs i v,x = .ref p/\y = .int i/\SqT K H p xs/\atI xs i = some v/\Q v H
theorem Za3:IxR X (rIxL X.K):=by
 intro value slice pins s σ H x y v u Q I rx ry h hs;refine Zcu h λp xs i z e9120 e9121 hq e9122=>?_;clear h;obtain rfl:=e9120;obtain rfl:=e9121;obtain ⟨he,q⟩:=e9122;cases rx;obtain ⟨t,rfl⟩:=ry;refine Zao (I.list hq) λits r pl hz=>?_;refine Zmj (Zpa he) λj h1 h2 h3 h4 h5=>?_;refine Zad (r.get h2) λw ew rw'=>?_;have hl:=r.length;have hn:=Zi7;have fin:EP X pins σ Q w s:=⟨z,H,I,rw',q⟩
 by_cases h0:0<=i
 .have hj:i.toNat = j:=by
   rw [seqIndex_of h0 h5] at h1;exact Jbi h1
  exact item_listR pl.isList h0 (by omega) (by rw [hj]; simpa using ew) fin hs
 .have hj:(i + (its.toArray.size:Int)).toNat = j:=by
   rw [seqIndex_neg (by omega) h4] at h1;rw [Jak,<- hl];exact Jbi h1
  exact subscriptTail_builtinR (x:=w) pl.isList.typeIs slot_list_getitem.lookup
   (wpAny_getItem_list_neg (Q:=λr s'=>r = w/\EP X pins σ Q r s') pl.isList (by omega) (by rw [Jak] <;> omega) (by omega) (by rw [hj]; simpa using ew) ⟨rfl,fin⟩) hs
theorem Zjc:IxR X (rIxT X.K):=by
 intro value slice pins s σ H x y v u Q I rx ry h hs;refine Zcu h λp xs i z e9123 e9124 hq e9125=>?_;clear h;obtain rfl:=e9123;obtain rfl:=e9124;obtain ⟨he,q⟩:=e9125;cases rx;obtain ⟨t,rfl⟩:=ry;refine Zao (I.tuple hq) λits r pl hz=>?_;refine Zmj (Zpa he) λj h1 h2 h3 h4 h5=>?_;refine Zad (r.get h2) λw ew rw'=>?_;have hl:=r.length;have hn:=Zi7;have fin:EP X pins σ Q w s:=⟨z,H,I,rw',q⟩
 exact subscriptTail_builtinR (x:=w) pl.typeIs slot_tuple_getitem.lookup
  (getItem_tuple (j:=j) (Q:=λr s'=>r = w/\EP X pins σ Q r s') pl (by omega) (by omega) (by rw [Jak,<- hl]; exact h1) (by simpa using ew) ⟨rfl,fin⟩) hs
theorem Zlx (its:List Value) (n j:Nat) (u:Value):Obj.mapSeq (·.setIfInBounds j u) { cls:=.type "list",data:=.seq its.toArray n } = { cls:=.type "list",data:=.seq (its.set j u).toArray n }:=by
 simp [Obj.mapSeq]
theorem Inv.lst {pins:List (Addr × Obj)} {σ:St} {H:Hp} {s:Shared} {p:Addr} {xs:List V} (I:Inv X pins σ H s) (h:H p = some (.lst xs)):
  ∃ (its:List Value) (n:Nat),Vals xs its/\s.heap.get? p = some { cls:=.type "list",data:=.seq its.toArray n }/\xs.length<=sizeLine:=by
 obtain ⟨z,its,n,r,e⟩:=I.hok p _ h;exact Zaz its n ⟨r,e,z⟩
theorem Inv.lstUpd {pins:List (Addr × Obj)} {σ:St} {H:Hp} {s:Shared} {p:Addr} {xs ys:List V} {its its':List Value} {n n':Nat} {f:Obj->Obj} (I:Inv X pins σ H s) (h:H p = some (.lst xs))
  (ho:s.heap.get? p = some { cls:=.type "list",data:=.seq its.toArray n }) (hf:f { cls:=.type "list",data:=.seq its.toArray n } = { cls:=.type "list",data:=.seq its'.toArray n' }) (r:Vals ys its') (hz:ys.length<=sizeLine) (t:Nat):
  Inv X pins σ (upd H p (.lst ys)) { s with heap:=s.heap.update p f,toks:=t }:=by
 have e:(s.heap.update p f).get? p = some { cls:=.type "list",data:=.seq its'.toArray n' }:=by
  rw [Jdi f ho (by rw [hf] <;> rfl),hf]
 refine I.write (x:=p) (e:=p) (by rw [h]; trivial) (.inl rfl) (λb u hb q=>(Jb2 _ _ (Jb7 hb)).trans q) ⟨_,e⟩ ?_;exact ⟨hz,its',n',r,e⟩
def rSetL:V->V->V->Hp->(Hp->Prop)->Prop:=λo i v H Q=>∃ p xs k j,o = .ref p/\i = .int k/\H p = some (.lst xs)/\ixN xs.length k = some j/\Q (upd H p (.lst (xs.set j v)))
theorem Zkt:PSet X rSetL:=by
 intro pins s σ H o i v ov iv u Q I ro ri rv h;refine Zcu h λp xs k j e9129 e9130 hp e9131=>?_;clear h;obtain rfl:=e9129;obtain rfl:=e9130;obtain ⟨hj,q⟩:=e9131;cases ro;obtain ⟨t,rfl⟩:=ri;refine Zca (I.lst hp) λits n r ho hz=>?_;refine Zbh (Zod hj) λh1 h2 h3 h4=>?_;have hl:=r.length;have hn:=Zi7;have I':Inv X pins σ (upd H p (.lst (xs.set j v))) { s with heap:=s.heap.update p (Obj.mapSeq (·.setIfInBounds j u)) }:=
  I.lstUpd hp ho (Zlx its n j u) (r.set rv j) (by rw [List.length_set]; exact hz) s.toks
 by_cases h0:0<=k
 .have hk:k.toNat = j:=by
   rw [seqIndex_of h0 h4] at h1;exact Jbi h1
  exact PySem.W.ki_setAt ho h0 (by omega) (by rw [Jak,<- hl]; exact h4) (by rw [hk]; exact ⟨_,I',q⟩)
 .have hk:(k + (its.toArray.size:Int)).toNat = j:=by
   rw [seqIndex_neg (by omega) h3] at h1;rw [Jak,<- hl];exact Jbi h1
  exact PySem.W.ki_setBack ho (by omega) (by rw [Jak,<- hl]; exact h3) (by omega) (by rw [hk]; exact ⟨_,I',q⟩)
theorem Ziz (lo hi:Option Int) (n:Nat):(sliceBounds lo hi none n).1 = ((HT.sIx n 0 lo:Nat):Int)/\(sliceBounds lo hi none n).2.1 = ((HT.sIx n n hi:Nat):Int)/\(sliceBounds lo hi none n).2.2 = 1:=by
 refine ⟨?_,?_,rfl⟩
 .cases lo with
  | none=>simp [sliceBounds,HT.sIx]
  | some i=>
   simp only [sliceBounds,HT.sIx,Option.getD_none,show (1:Int) > 0 by decide,Jcl];by_cases h:i < 0
   .simp only [h,Jcl] <;> omega
   .simp only [h,if_false] <;> omega
 .cases hi with
  | none=>simp [sliceBounds,HT.sIx]
  | some i=>
   simp only [sliceBounds,HT.sIx,Option.getD_none,show (1:Int) > 0 by decide,Jcl];by_cases h:i < 0
   .simp only [h,Jcl] <;> omega
   .simp only [h,if_false] <;> omega
theorem Zh2 (its:List Value) (lo hi:Option Int):slicePick its.toArray lo hi none = ((its.drop (HT.sIx its.length 0 lo)).take (HT.sIx its.length its.length hi - HT.sIx its.length 0 lo)).toArray:=by
 refine Zav (Ziz lo hi its.toArray.size) λh1 h2 h3=>?_;unfold slicePick;rw [h1,h2,h3];simp only [sliceRange_one,pick_run,Jak] <;> rfl
def rSlL (K:PySem.W.Frag):V->Option Int->Option Int->Hp->VK->Prop:=λx lo hi H Q=>∃ a xs,x = .ref a/\SqL K H a xs/\∀ p,H p = none->Q (.ref p) (upd H p (.lst (Zpg xs lo hi)))
theorem Zgg:SlR X (rSlL X.K):=by
 intro pins s σ H x v vl vu lo hi sl Q I rx hs pl pu h;refine Zca h λa xs e9132 hx q=>?_;clear h;obtain rfl:=e9132;cases rx;refine Zao (I.list hx) λits r ht hz=>?_;have hlen:=r.length;refine Zaz ("list") _ ⟨slot_list_getitem.lookup,ht.isList.typeIs,?_⟩;refine wpAny_getItem_list_slice ht.isList hs pl pu .none (by simp) ?_ (by rw [Jak] <;> omega);rw [Zh2,<- hlen];refine Zaz (.ref s.heap.objs.size) _ ⟨I.laid (t':=s.toks) (o:=.lst (Zpg xs lo hi)) (λb ob q=>Jae _ q) (Jah _) ?_,rfl,q _ (I.hok.fresh (Jah _))⟩;exact ⟨Ja3 (Zkf xs lo hi) hz,_,0,(r.drop (HT.sIx xs.length 0 lo)).take (HT.sIx xs.length xs.length hi - HT.sIx xs.length 0 lo),Ja8 _ rfl⟩
def Zha:V->Bool
 | .non=>true
 | .bl _=>true
 | .int _=>true
 | .str _=>true
 | _=>false
def eqV:V->V->Bool
 | .non,.non=>true
 | .bl a,.bl b=>a == b
 | .bl a,.int b=>(if a then 1 else 0) == b
 | .int a,.bl b=>a == (if b then 1 else 0)
 | .int a,.int b=>a == b
 | .str a,.str b=>a == b
 | _,_=>false
theorem Zry {A:Around} {s:Shared} {y x:V} {u v:Value} (ry:RelV y u) (rx:RelV x v) (fy:Zha y = true) (fx:Zha x = true):SeqAt.EqAt A s u v (eqV y x):=by
 cases y with
 | non=>
  cases ry;cases x with
  | non=>cases rx; exact SeqAt.EqAt.same _
  | bl b=>cases rx; exact SeqAt.EqAt.none_bool b
  | int b=>obtain ⟨t,rfl⟩:=rx; exact SeqAt.EqAt.none_int b t
  | str b=>obtain ⟨t,rfl⟩:=rx; exact SeqAt.EqAt.none_str b t
  | _=>exact absurd (show false = true from fx) Jao
 | bl a=>
  cases ry;cases x with
  | non=>cases rx; exact SeqAt.EqAt.bool_none a
  | bl b=>cases rx; exact SeqAt.EqAt.bool_bool a b
  | int b=>obtain ⟨t,rfl⟩:=rx; exact SeqAt.EqAt.bool_int a b t
  | str b=>obtain ⟨t,rfl⟩:=rx; exact SeqAt.EqAt.bool_str a b t
  | _=>exact absurd (show false = true from fx) Jao
 | int a=>
  obtain ⟨t',rfl⟩:=ry;cases x with
  | non=>cases rx; exact SeqAt.EqAt.int_none a t'
  | bl b=>cases rx; exact SeqAt.EqAt.int_bool a t' b
  | int b=>obtain ⟨t,rfl⟩:=rx; exact SeqAt.EqAt.int_int a t' b t
  | str b=>obtain ⟨t,rfl⟩:=rx; exact SeqAt.EqAt.int_str a t' b t
  | _=>exact absurd (show false = true from fx) Jao
 | str a=>
  obtain ⟨t',rfl⟩:=ry;cases x with
  | non=>cases rx; exact SeqAt.EqAt.str_none a t'
  | bl b=>cases rx; exact SeqAt.EqAt.str_bool a t' b
  | int b=>obtain ⟨t,rfl⟩:=rx; exact SeqAt.EqAt.str_int a t' b t
  | str b=>obtain ⟨t,rfl⟩:=rx; exact SeqAt.EqAt.str_str a t' b t
  | _=>exact absurd (show false = true from fx) Jao
 | _=>exact absurd (show false = true from fy) Jao
def eqU (x:V) (u:Value):Bool:=match u with
 | .none=>eqV .non x
 | .bool b=>eqV (.bl b) x
 | .int i _=>eqV (.int i) x
 | .str z _=>eqV (.str z) x
 | _=>false
theorem Zrw {x y:V} {u:Value} (r:RelV y u) (f:Zha y = true):eqU x u = eqV y x:=by
 cases y with
 | non=>cases r; rfl
 | bl b=>cases r; rfl
 | int i=>obtain ⟨t,rfl⟩:=r; rfl
 | str z=>obtain ⟨t,rfl⟩:=r; rfl
 | _=>exact absurd (show false = true from f) Jao
theorem Zhf {x:V}:∀ {xs:List V} {us:List Value},Vals xs us->xs.all Zha = true->us.any (eqU x) = xs.any λy=>eqV y x
 | _,_,.nil,_=>rfl
 | y :: xs,u :: us,.cons r t,f=>by
  rw [Jcm,Jbx] at f;rw [Jcv,Jcv,Zrw r f.1,Zhf t f.2]
theorem Ze6 {A:Around} {s:Shared} {x:V} {v:Value} (rx:RelV x v) (fx:Zha x = true):∀ {xs:List V} {us:List Value},Vals xs us->xs.all Zha = true->∀ u ∈ us,SeqAt.EqAt A s u v (eqU x u)
 | _,_,.nil,_=>λu hu=>by cases hu
 | y :: xs,u :: us,.cons r t,f=>λu' hu=>by
  rw [Jcm,Jbx] at f;rcases Jaq.mp hu with rfl | hu
  .rw [Zrw r f.1]; exact Zry r rx f.1 fx
  .exact Ze6 rx fx t f.2 u' hu
def inV (x:V) (xs:List V):Bool:=xs.any λy=>eqV y x
def rIn (K:PySem.W.Frag) (neg:Bool):R2:=λx y H Q=>∃ p xs,y = .ref p/\(SqL K H p xs\/SqT K H p xs)/\Zha x = true/\xs.all Zha = true/\Q (.bl (if neg then !inV x xs else inV x xs)) H
theorem Zi4:OpR X (compareOp .In) (rIn X.K false):=by
 intro pins s σ H x y v u Q I rx ry h;refine Zis h λp xs e9133 hq fx fs q=>?_;clear h;obtain rfl:=e9133;cases ry;rcases hq with hq | hq
 .refine Zao (I.list hq) λits r pl hz=>?_;refine SeqAt.in_listAt (eqU x) pl.isList (λw hw=>Ze6 rx fx r fs w (by simpa using hw)) ⟨.bl _,H,I,rfl,?_⟩;rw [show its.toArray.any (eqU x) = its.any (eqU x) by simp,Zhf r fs];exact q
 .refine Zao (I.tuple hq) λits r pl hz=>?_;refine SeqAt.in_tupleAt (eqU x) pl (λw hw=>Ze6 rx fx r fs w (by simpa using hw)) ⟨.bl _,H,I,rfl,?_⟩;rw [show its.toArray.any (eqU x) = its.any (eqU x) by simp,Zhf r fs];exact q
theorem Zi3:OpR X (compareOp .NotIn) (rIn X.K true):=by
 intro pins s σ H x y v u Q I rx ry h;refine Zis h λp xs e9134 hq fx fs q=>?_;clear h;obtain rfl:=e9134;cases ry;rcases hq with hq | hq
 .refine Zao (I.list hq) λits r pl hz=>?_;refine SeqAt.notIn_listAt (eqU x) pl.isList (λw hw=>Ze6 rx fx r fs w (by simpa using hw)) ⟨.bl _,H,I,rfl,?_⟩;rw [show its.toArray.any (eqU x) = its.any (eqU x) by simp,Zhf r fs];exact q
 .refine Zao (I.tuple hq) λits r pl hz=>?_;refine SeqAt.notIn_tupleAt (eqU x) pl (λw hw=>Ze6 rx fx r fs w (by simpa using hw)) ⟨.bl _,H,I,rfl,?_⟩;rw [show its.toArray.any (eqU x) = its.any (eqU x) by simp,Zhf r fs];exact q
theorem Zaq:Zdc X (.builtin "len") (λxs H Q=>∃ p ys,xs = [.ref p]/\(SqL X.K H p ys\/SqT X.K H p ys)/\Q (.int ys.length) H):=by
 intro pins s σ H xs us Q I r h;refine Zca h λp ys e9137 hq q=>?_;clear h;obtain rfl:=e9137;refine Zad (Zh0 r) λu e9138 rx=>?_;obtain rfl:=e9138;cases rx;have hn:=Zi7;rcases hq with hq | hq
 .refine Zao (I.list hq) λits r' pl hz=>?_;have hlen:=r'.length;exact Calls.call_len_list pl.isList (by simp only [Jak] <;> omega) ⟨.int ys.length,H,I.tok _,⟨s.toks + 1,by rw [Jak,hlen]⟩,q⟩
 .refine Zao (I.tuple hq) λits r' pl hz=>?_;have hlen:=r'.length;exact len_tuple pl (by simp only [Jak] <;> omega) ⟨.int ys.length,H,I.tok _,⟨s.toks + 1,by rw [Jak,hlen]⟩,q⟩
theorem Zck:Zdc X (.type "list") (λxs H Q=>∃ p ys,xs = [.ref p]/\(SqL X.K H p ys\/SqT X.K H p ys)/\∀ l,H l = none->Q (.ref l) (upd H l (.lst ys))):=by
 intro pins s σ H xs us Q I r h;refine Zca h λp ys e9142 hq q=>?_;clear h;obtain rfl:=e9142;refine Zad (Zh0 r) λu e9143 rx=>?_;obtain rfl:=e9143;cases rx;have fin:∀ (its:List Value),Vals ys its->ys.length<=sizeLine->∀ (h':Heap) (c':Nat),(∀ b o',s.heap.get? b = some o'->h'.get? b = some o')->
   h'.get? s.heap.objs.size = some { cls:=.type "list",dict:=none,data:=.seq its.toArray c',slots:=#[] }->EP X pins σ Q (.ref s.heap.objs.size) { s with heap:=h' }:=λits r' hz h' c' kp e=>
  ⟨.ref s.heap.objs.size,_,I.laid (t':=s.toks) kp (Jah _) (show ObjOk X.prog X.w _ h' _ (.lst ys) from ⟨hz,its,c',r',e⟩),rfl,q _ (I.hok.fresh (Jah _))⟩
 rcases hq with hq | hq
 .refine Zao (I.list hq) λits r' pl hz=>?_;have hlen:=r'.length;obtain ⟨o,ho,hc,n,hd⟩:=pl.isList;exact call_list_seq p (.inl rfl) ho hc hd (λh' c' kp e=>fin its r' hz h' c' kp e) (by simp only [Jak] <;> omega)
 .obtain ⟨its,r',pl,hz⟩:=I.tuple hq;have hlen:=r'.length;obtain ⟨o,ho,hc,n,hd⟩:=pl;exact call_list_seq p (.inr rfl) ho hc hd (λh' c' kp e=>fin its r' hz h' c' kp e) (by simp only [Jak] <;> omega)
def tyV (K:PySem.W.Frag) (T:String) (x:V) (H:Hp):Prop:=match x with
 | .str _=>T = "str"
 | .int _=>T = "int"
 | .ref p=>(T = "list" /\ ∃ xs,SqL K H p xs)\/(T = "tuple" /\ ∃ o,K.lookup p = some o/\o.cls = .type "tuple" /\ o.dict = none) \/
   (T = "dict" /\ ((∃ kvs,H p = some (.dK kvs))\/∃ kvs,H p = some (.dT kvs)))\/(T = "set" /\ ∃ S n,H p = some (.set S n))
 | _=>False
theorem Zre {pins:List (Addr × Obj)} {σ:St} {H:Hp} {s:Shared} {T:String} {x:V} {v:Value} (I:Inv X pins σ H s) (r:RelV x v) (ty:tyV X.K T x H):
  s.TypeIs v T/\∀ a,v = .ref a->∃ ob,s.heap.get? a = some ob/\ob.dict = none:=by
 cases x with
 | str z=>
  obtain ⟨t,rfl⟩:=r;cases (show T = "str" from ty);exact ⟨typeIs_str s z t,λ_ e=>nomatch e⟩
 | int i=>
  obtain ⟨t,rfl⟩:=r;cases (show T = "int" from ty);exact ⟨typeIs_int s i t,λ_ e=>nomatch e⟩
 | ref p=>
  cases r;rcases ty with ⟨rfl,xs,hq⟩ | ⟨rfl,o,hk,hc,hd⟩ | ⟨rfl,hk⟩ | ⟨rfl,S,n,hk⟩
  .refine Zao (I.list hq) λits _ pl _=>?_;refine ⟨pl.isList.typeIs,λa e=>?_⟩;cases e;refine Zhz pl λo n e c hd _=>?_;clear pl;exact ⟨o,e,hd⟩
  .refine ⟨⟨o,I.kIn p o hk,hc⟩,λa e=>?_⟩;cases e;exact ⟨o,I.kIn _ o hk,hd⟩
  .have z:∃ o,s.heap.get? p = some o/\o.ExactDict:=by
    rcases hk with ⟨kvs,hk⟩ | ⟨kvs,hk⟩
    .refine Zav (I.hok p _ hk) λ_ _ e9144=>?_;obtain ⟨_,_,o,_,_,e,ex,_⟩:=e9144;exact ⟨o,e,ex⟩
    .refine Zav (I.hok p _ hk) λ_ _ e9145=>?_;obtain ⟨_,_,o,_,_,e,ex,_⟩:=e9145;exact ⟨o,e,ex⟩
   refine Zad z λo e ex=>?_;clear z;refine ⟨⟨o,e,ex.1⟩,λa e2=>?_⟩;cases e2;exact ⟨o,e,ex.2.1⟩
  .refine xE4_3 (I.hok p _ hk) λo _ _ _ e ex _=>?_;refine ⟨⟨o,e,ex.1⟩,λa e2=>?_⟩;cases e2;exact ⟨o,e,ex.2.1⟩
 | _=>exact False.elim ty
def tBM0 (K:PySem.W.Frag) (T:String) (r:V->List V->Hp->VK->Prop) (to:TE):TE:=λσ H Q=>to σ H λx H1=>tyV K T x H1/\r x [] H1 Q
def tBM (K:PySem.W.Frag) (T:String) (r:V->List V->Hp->VK->Prop) (to:TE) (t:TA):TE:=λσ H Q=>to σ H λx H1=>tyV K T x H1/\t σ H1 λxs H2=>r x xs H2 Q
variable {o e:Expr} {es:List Expr} {to:TE} {t:TA} {name:Str} {apos cpos:Pos} {T id:String} {r:V->List V->Hp->VK->Prop}
theorem Zrp (pa:PlainAttrs T) (slot:Slot T name id) (hty:typeOf (.builtin id) = pure (.type "method_descriptor")) (hm:MtR X id r) (ho:PE X o to)
  (hbase:attributeBase o name X.env (eval o X.env) = eval o X.env:=by rfl) (hline:(apos.endLine == cpos.line) = true:=by rfl):PE X (.Call (.Attribute o name apos) [] [] cpos) (tBM0 X.K T r to):=by
 intro pins s σ H Q I h;refine wpAny_Call_method0_late hbase hline (thn (ho pins s σ H _ I h) λv s1 ⟨x,H1,I1,r1,ty,q1⟩=>?_);obtain ⟨h1,h2⟩:=Zre I1 r1 ty;exact Zaz T id ⟨pa,slot,hty,h1,h2,Calls.callWith_builtin rfl (PySem.evalArgs_none (hm pins s1 σ H1 x [] v [] Q I1 r1 .nil q1))⟩
theorem Zg4 (pa:PlainAttrs T) (slot:Slot T name id) (hty:typeOf (.builtin id) = pure (.type "method_descriptor")) (hm:MtR X id r) (ho:PE X o to) (ha:PA X (e :: es) t)
  (hbase:attributeBase o name X.env (eval o X.env) = eval o X.env:=by rfl)
  (hfew:((backTo cpos (starEach (e :: es) X.env)).all (λx=>!x.1) && (backToKw cpos (keywordEach [] X.env)).all (λx=>x.1.isSome)
   && decide ((e :: es).length + ([]:List Keyword).length + (if ([]:List Keyword).isEmpty then 0 else 1) < 30)) = true:=by rfl)
  (hline:(apos.endLine == cpos.line) = true:=by rfl) (hs:starEach (e :: es) X.env = (false,eval e X.env) :: starEach es X.env:=by rfl) (hplain:(backTo cpos (starEach es X.env)).any (·.1) = false:=by rfl):
  PE X (.Call (.Attribute o name apos) (e :: es) [] cpos) (tBM X.K T r to t):=by
 intro pins s σ H Q I h;refine wpAny_Call_method_late hbase hfew hline rfl (thn (ho pins s σ H _ I h) λv s1 ⟨x,H1,I1,r1,ty,q1⟩=>?_);obtain ⟨h1,h2⟩:=Zre I1 r1 ty;refine Zaz T id ⟨pa,slot,hty,h1,h2,?_⟩;have hA:=ha cpos pins s1 σ H1 _ I1 q1;rw [hs] at hA ⊢;refine Calls.callWith_builtin (by show (false || (backTo cpos (starEach es X.env)).any (·.1)) = false; rw [hplain] <;> rfl) (Calls.evalArgs_plain ?_);exact thn hA λus s2 ⟨vs,H2,I2,r2,q2⟩=>hm pins s2 σ H2 x vs v us Q I2 r1 r2 q2
end
def MtM (X:Cx) (id:String) (r:V->List V->Hp->VK->Prop):Prop:=
 ∀ (pins:List (Addr × Obj)) (s:Shared) (σ:St) (H:Hp) (x:V) (xs:List V) (v:Value) (us:List Value) (Q:VK),Inv X pins σ H s->RelV x v->Vals xs us->r x xs H Q->
  wpAny (model X.prog X.w) X.A (call (.builtin id) (v :: us)) (EP X pins σ Q) X.xe s
theorem Vals.one:∀ {x:V} {us:List Value},Vals [x] us->∃ u,us = [u]/\RelV x u
 | _,_,.cons r .nil=>⟨_,rfl,r⟩
theorem Vals.zero:∀ {us:List Value},Vals [] us->us = []
 | _,.nil=>rfl
theorem Vals.dropLast {xs:List V} {us:List Value} (h:Vals xs us):Vals xs.dropLast us.dropLast:=by
 induction h with
 | nil=>exact .nil
 | cons r t ih=>
  cases t with
  | nil=>exact .nil
  | cons q t'=>exact .cons r ih
theorem Vals.eraseIdx:∀ {xs:List V} {us:List Value} (i:Nat),Vals xs us->Vals (xs.eraseIdx i) (us.eraseIdx i)
 | _,_,_,.nil=>.nil
 | _,_,0,.cons _ t=>t
 | _,_,i + 1,.cons r t=>.cons r (Vals.eraseIdx i t)
theorem Zl8 {α:Type} (l:List α):l.eraseIdx (l.length - 1) = l.dropLast:=by
 induction l with
 | nil=>rfl
 | cons a r ih=>
  cases r with
  | nil=>rfl
  | cons b r=>
   have e:(a :: b :: r).length - 1 = ((b :: r).length - 1) + 1:=by
    have h1:(a :: b :: r).length = r.length + 2:=rfl;have h2:(b :: r).length = r.length + 1:=rfl;omega
   rw [e,Jcn,ih]
   all_goals rfl
theorem Zi9 {α:Type}:∀ (l:List α) (i:Nat),(l.eraseIdx i).length<=l.length
 | [],_=>Jah _
 | _ :: _,0=>Nat.le_succ _
 | _ :: r,i + 1=>Nat.succ_le_succ (Zi9 r i)
section
variable {X:Cx} {pins:List (Addr × Obj)} {σ:St} {H:Hp} {s:Shared} {l b:Addr} {xs ys zs:List V}
theorem Inv.lset {its its':List Value} {n:Nat} {f:Array Value->Array Value} {t':Nat} (I:Inv X pins σ H s) (hH:H l = some (.lst xs))
  (e:s.heap.get? l = some { cls:=.type "list",data:=.seq its.toArray n }) (hf:f its.toArray = its'.toArray) (hv:Vals ys its') (hz:ys.length<=sizeLine):
  Inv X pins σ (upd H l (.lst ys)) { s with heap:=s.heap.update l (Obj.mapSeq f),toks:=t' }:=by
 have q:=PySem.IsL.update e f;rw [hf] at q;refine I.write (x:=l) (e:=l) (by rw [hH]; exact trivial) (.inl rfl) (λb' u hb hu=>(Jb2 s.heap (Obj.mapSeq f) (Jb7 hb)).trans hu) ⟨_,q⟩ ?_;exact ⟨hz,its',_,hv,q⟩
theorem Inv.lnew {its:List Value} {t':Nat} (I:Inv X pins σ H s) (hv:Vals ys its) (hz:ys.length<=sizeLine):
  Inv X pins σ (upd H s.heap.objs.size (.lst ys)) { s with heap:=s.heap.push { cls:=.type "list",data:=.seq its.toArray },toks:=t' }:=
 I.laid (λ_ _ q=>Jae _ q) (Jah _) ⟨hz,its,0,hv,Ja8 _ rfl⟩
theorem Inv.fresh (I:Inv X pins σ H s):H s.heap.objs.size = none:=I.hok.fresh (Jah _)
theorem Inv.lstM (I:Inv X pins σ H s) (hH:H l = some (.lst xs)):xs.length<=sizeLine/\∃ (its:List Value) (n:Nat),Vals xs its/\xs.length = its.length/\s.heap.get? l = some { cls:=.type "list",data:=.seq its.toArray n }:=by
 obtain ⟨z,its,n,r,e⟩:=I.hok l _ hH;exact ⟨z,its,n,r,r.length,e⟩
theorem Zqo {n:Nat} (h:n<=sizeLine):Builtin.List.listTooLong n = false:=by
 unfold Builtin.List.listTooLong;exact Ja4 (by omega)
end
section
variable {X:Cx}
def Zj1:V->List V->Hp->VK->Prop:=λx vs H Q=>∃ l xs y,x = .ref l/\vs = [y]/\H l = some (.lst xs)/\xs.length < sizeLine/\Q .non (upd H l (.lst (xs ++ [y])))
theorem Zbf:MtM X "list.append" Zj1:=by
 intro pins s σ H x vs v us Q I rx rv h;refine Zb1 h λl xs y e9146 e9147 hH e9148=>?_;clear h;obtain rfl:=e9146;obtain rfl:=e9147;obtain ⟨hz,q⟩:=e9148;cases rx;refine Zad rv.one λu e9149 ru=>?_;obtain rfl:=e9149;obtain ⟨z,its,n,r,hl,e⟩:=I.lstM hH;refine Jd8 F.slot_list_append ⟨_,e,rfl⟩ F.entry_list_append (F.args_list_append_2 _ _) (PySem.list_append l its.toArray n u (by rw [Jak]; omega)) ⟨e,?_⟩;refine Zaz .non _ ⟨I.lset (its':=its ++ [u]) hH e (by simp) (r.append (.cons ru .nil)) ?_,rfl,q⟩;rw [Jam,List.length_singleton];omega
def rExtend:V->List V->Hp->VK->Prop:=λx vs H Q=>∃ l b xs zs,x = .ref l/\vs = [.ref b]/\H l = some (.lst xs)/\H b = some (.lst zs)/\xs.length + zs.length<=sizeLine/\Q .non (upd H l (.lst (xs ++ zs)))
theorem mt_extend:MtM X "list.extend" rExtend:=by
 intro pins s σ H x vs v us Q I rx rv h;refine Zcu h λl b xs zs e9150 e9151 hH e9152=>?_;clear h;obtain rfl:=e9150;obtain rfl:=e9151;refine Zav e9152 λhB hz q=>?_;clear e9152;cases rx;refine Zad rv.one λu e9153 ru=>?_;obtain rfl:=e9153;cases ru;obtain ⟨z,its,n,r,hl,e⟩:=I.lstM hH;obtain ⟨z2,its2,n2,r2,hl2,e2⟩:=I.lstM hB;have hsz:its.toArray.size + its2.toArray.size<=sizeLine:=by rw [Jak,Jak]; omega
 have hlong:¬ (!its.toArray.isEmpty && Builtin.List.listTooLong (its.toArray.size + its2.toArray.size)) = true:=by
  rw [Zqo hsz,Bool.and_false];exact Jao
 refine Jd8 F.slot_list_extend ⟨_,e,rfl⟩ F.entry_list_extend (F.args_list_extend_2 _ _)
  (AutoSeq1.list_extend_list_list_0 l its.toArray n b its2.toArray n2 hlong (by rw [Jak]; omega) (by omega)) ⟨e,e2,?_⟩
 refine Zaz .non _ ⟨I.lset (its':=its ++ its2) hH e (by simp) (r.append r2) ?_,rfl,q⟩;rw [Jam];omega
def rPop:V->List V->Hp->VK->Prop:=λx vs H Q=>∃ l xs y,x = .ref l/\vs = []/\H l = some (.lst xs)/\xs[xs.length - 1]? = some y/\Q y (upd H l (.lst xs.dropLast))
theorem mt_pop:MtM X "list.pop" rPop:=by
 intro pins s σ H x vs v us Q I rx rv h;refine Zb1 h λl xs y e9154 e9155 hH e9156=>?_;clear h;obtain rfl:=e9154;obtain rfl:=e9155;obtain ⟨hy,q⟩:=e9156;cases rx;have hus:=rv.zero;subst hus;obtain ⟨z,its,n,r,hl,e⟩:=I.lstM hH;refine Zad (r.get hy) λu hu ru=>?_;have hy':its.toArray[its.toArray.size - 1]? = some u:=by
  show its.toArray[its.length - 1]? = some u;rw [<- Array.getElem?_toList,<- hl];exact hu
 refine Jd8 F.slot_list_pop ⟨_,e,rfl⟩ F.entry_list_pop (F.args_list_pop_1 _) (MeetsSeq.list_pop_last l its.toArray n u hy' (by rw [Jak]; omega)) ⟨e,?_⟩;refine Zaz y _ ⟨I.lset (its':=its.dropLast) hH e ?_ r.dropLast ?_,ru,q⟩
 .show its.toArray.eraseIdxIfInBounds (its.toArray.size - 1) = its.dropLast.toArray;rw [Jak,Jda,Zl8]
 .rw [List.length_dropLast];omega
def Zrk:V->List V->Hp->VK->Prop:=λx vs H Q=>∃ l xs i k y,x = .ref l/\vs = [.int i]/\H l = some (.lst xs)/\-(2 ^ 63)<=i/\i < 2 ^ 63/\seqIndex? i xs.length = some k/\xs[k]? = some y/\Q y (upd H l (.lst (xs.eraseIdx k)))
theorem Zqq:MtM X "list.pop" Zrk:=by
 intro pins s σ H x vs v us Q I rx rv h;refine Zct h λl xs i k y e9157 e9158 hH e9159=>?_;clear h;obtain rfl:=e9157;obtain rfl:=e9158;refine Zd7 e9159 λh1 h2 hk hy q=>?_;clear e9159;cases rx;refine Zad rv.one λu e9160 ru=>?_;obtain rfl:=e9160;obtain ⟨t,rfl⟩:=ru;obtain ⟨z,its,n,r,hl,e⟩:=I.lstM hH;refine Zad (r.get hy) λw hw rw'=>?_;refine Jd8 F.slot_list_pop ⟨_,e,rfl⟩ F.entry_list_pop (F.args_list_pop_2 _ _)
  (MeetsSeq.list_pop_at l its.toArray n i t k w (fitsIndex_both h1 h2) (by rw [Jak,<- hl]; exact hk) (by rw [<- Array.getElem?_toList]; exact hw) (by rw [Jak]; omega)) ⟨e,?_⟩
 refine Zaz y _ ⟨I.lset (its':=its.eraseIdx k) hH e ?_ (r.eraseIdx k) ?_,rw',q⟩
 .show its.toArray.eraseIdxIfInBounds k = (its.eraseIdx k).toArray;rw [Jda]
 .have:=Zi9 xs k;omega
def rCat:R2:=λx y H Q=>∃ l b xs zs,x = .ref l/\y = .ref b/\H l = some (.lst xs)/\H b = some (.lst zs)/\xs.length + zs.length<=sizeLine/\∀ p,H p = none->Q (.ref p) (upd H p (.lst (xs ++ zs)))
theorem op_cat:OpR X (binaryOp .Add) rCat:=by
 intro pins s σ H x y v u Q I rx ry h;refine Zcu h λl b xs zs e9165 e9166 hH e9167=>?_;clear h;obtain rfl:=e9165;obtain rfl:=e9166;refine Zav e9167 λhB hz q=>?_;clear e9167;cases rx;cases ry;obtain ⟨z,its,n,r,hl,e⟩:=I.lstM hH;obtain ⟨z2,its2,n2,r2,hl2,e2⟩:=I.lstM hB;refine PySem.P.add_list e e2 ?_ (by rw [Jak,Jak]; omega);have ea:its.toArray ++ its2.toArray = (its ++ its2).toArray:=by simp
 rw [ea];exact Zaz (.ref _) _ ⟨I.lnew (t':=s.toks) (r.append r2) (by rw [Jam]; omega),rfl,q _ I.fresh⟩
end
section
variable {prog:Program} {w:World} {A:Around} {E:Value->Shared->Prop} {s:Shared}
end
section
variable {X:Cx}
end
end L2
namespace Att
open PySem PySem.W PySem.Calls PyProof.Rows
theorem Zg9 {P:Params} {h:Heap}:∀ (ns:List Int) (vs:List Value),WellAll P h vs (ns.map WData.int)->IntsAre vs ns:=by
 intro ns
 induction ns with
 | nil=>
  intro vs w;rw [List.map_nil] at w;cases w;exact .nil
 | cons n ns ih=>
  intro vs w;rw [Jav] at w;cases w with
  | cons a b=>
   cases a;exact .cons _ _ (ih _ b)
theorem Zm7 {l:OpenLaw} {n:Nat} (hn:l.most = some n) {P:Params} {h:Heap} {args:List WData} {vals:List Value}
  (hpre:l.row.toRowW.claim.pre args = true) (hwl:WellAll P h vals args):
  ∃ a vs ns,vals = [Value.ref a]/\args = [WData.list (ns.map WData.int)]/\h.get? a = some { cls:=.type "list",data:=.seq vs.toArray }/\IntsAre vs ns/\ns.length<=n:=by
 have hsh:WShape.hasAll [] args [.list .int] = true:=(pre_splitW hpre).1;have hc:l.pre.holds [] { args:=args } = true:=(pre_splitW hpre).2;obtain ⟨d,r,rfl,h1,h2⟩:=hasAllW_cons hsh;obtain rfl:=hasAllW_nil h2;obtain ⟨xs,rfl,h3⟩:=hasW_list h1;obtain ⟨ns,rfl⟩:=items_int h3;have hlen:ns.length<=n:=by
  unfold OpenLaw.pre at hc;have h4:(WTm.not (.lt (.lit (.int (n:Int))) (.len (.arg 0)))).holds [] { args:=[.list (ns.map .int)] } = true:=by
   have h4:=(holds_andW hc).1;rw [hn] at h4;exact h4
  have h5:=condW_of h4 (w_not (w_lt w_lit (w_len_list (w_arg rfl))));rw [Jab] at h5;refine Nat.le_of_not_lt λq=>?_;have q':(n:Int) < ((ns.length:Nat):Int):=by omega
  first
   | (rw [Jad q'] at h5; exact absurd h5 (by decide))
   | (simp at h5; omega)
 cases hwl with
 | cons w1 w2=>
  cases w2;cases w1 with
  | list ho hall=>exact ⟨_,_,ns,rfl,rfl,ho,Zg9 ns _ hall,hlen⟩
theorem Zno (l:OpenLaw) (args:List WData):l.row.toRowW.claim.post args (.bool true) args = true:=
 postW_of (r:=l.row.toRowW) (X:=(true == true))
  (show WShape.has [] (.bool true) .bool = true by first | rfl | decide | simp [WShape.has,WShape.arms,WShape.armsAll])
  (show (WTm.eq .res (.lit (.bool true))).value [] { args:=args,res:=some (.bool true),after:=args } = some (.bool (true == true)) from w_eq_bool (w_res rfl) w_lit) rfl
theorem attach_call {l:OpenLaw} {n:Nat} {q:Program} {loose:List Str} {XP:(Str->Option Value)->Heap->Prop} {YP:World->Heap->Prop} {d:DefRec}
  (hn:l.most = some n) (hdf:d.params.defaults = [])
  (call:∀ (w:World) (s₀ s₁:Shared) (mg mb:Str->Option Value) (fa:Addr) (o:Obj) (pm cd doc:Value) (a:Addr) (vs:List Value) (ns:List Int),
   Ground q loose [] XP w s₀ mg mb s₁.heap->YP w s₁.heap->
   s₁.heap.get? fa = some o->o.data = .func (docDef d.name d.params d.body d.scope pm cd doc)->s₁.heap.CodeRec cd d.name->mg d.name = some (.ref fa)->
   s₁.heap.get? a = some { cls:=.type "list",data:=.seq vs.toArray }->IntsAre vs ns->ns.length<=n->s₁.gens = #[]->
   codeAny (model l.prog w) callerA (.call (.ref fa) ⟨[.ref a],[]⟩) (λr s'=>r = .ok (.ret (.bool true))/\OldK s₁.heap s'.heap/\s'.os = s₁.os/\AllBare s'.gens) s₁):
  WalkO q loose XP YP l.row.toRowW d [] (λf vs=>PySem.call f vs):=by
 intro w s₀ s₁ mg mb G Y fa o pm cd doc dV kV ho hd hcd hD hmg hg args vals as hpre hlay hrd hwl hlo;obtain rfl:dV = .none:=Dflts.none hD hdf;obtain rfl:kV = .none:=Dflts.noKw hD;obtain ⟨a,vs,ns,rfl,rfl,hobj,hints,hlen⟩:=Zm7 hn hpre hwl;refine enter_call (Jdh (call w s₀ s₁ mg mb fa o pm cd doc a vs ns G Y ho (fd_plain hd) hcd hmg hobj hints hlen hg) λr s' hq=>?_);obtain ⟨rfl,h2,h3,h4⟩:=hq;exact ⟨.inl ⟨.bool true,.bool true,[],rfl,λ_=>rfl,.bool true,Zno l _,λ_=>⟨List.Pairwise.nil,λ_ hm=>(nomatch hm)⟩⟩,h2,h3,h4⟩
section
variable {prog:Program} {w:World} {A:Around} {E:Value->Shared->Prop} {s:Shared} {K:Frag}
end
end Att
namespace L2
open PySem PySem.Spec PyProof.Rows
theorem Zit:∀ {vs:List Value} {ns:List Int},IntsAre vs ns->Vals (ns.map V.int) vs
 | _,_,.nil=>.nil
 | _,_,.cons n t h=>.cons ⟨t,rfl⟩ (Zit h)
def Only (H:Hp):Prop:=∀ b,H b = none\/∃ o xs,H b = some (.frz o (.lst xs))
theorem Zqs {P:Program} {w:World} {K:PySem.W.Frag} {mg mb:Str->Option Value} {CX:CXT} {k:Nat} {fa a:Addr} {fd:FuncData} {x:Str} {sp:Sp} {s₁:Shared} {vs:List Value} {ns:List Int}
  (KX:K.In s₁.heap) (hns:s₁.heap.Ns mainGlobals mg) (hb:s₁.heap.Ns builtinsNs mb) (hbb:∀ x:Str,x ≠ "__name__" -> mb x = bootBuiltins x) (hlim:s₁.heap.NoLimit) (hseer:s₁.heap.NoSeer) (hbm:∃ bm ob,mg "__builtins__" = some (.ref bm)/\bm ≠ builtinsNs/\s₁.heap.get? bm = some ob/\ob.cls = .type "module" /\ ob.dict = some builtinsNs/\ob.data = .plain) (hg:s₁.gens = #[])
  (ha:s₁.heap.get? a = some { cls:=.type "list",data:=.seq vs.toArray }) (hi:IntsAre vs ns) (hl:ns.length<=sizeLine) (hr:Room k callerA)
  (F:∀ base:Heap,K.In base->base.Ns mainGlobals mg->FnOk P w K mg base CX k fa fd [x] sp) (hbind:∀ (s:Shared) (u:Value),BindsTo s fd ⟨[u],[]⟩ [(x,u)])
  (hsp:∀ H:Hp,Only H->SqL K H a (ns.map V.int)->sp [.ref a] H (λv _=>v = .bl true) λ_ _ _=>False)
  (hCX:∀ H e s',CX [] H s₁ (λ_ _ _=>False) e s'->False):
  codeAny (model P w) callerA (.call (.ref fa) ⟨[.ref a],[]⟩) (λr s'=>r = .ok (.ret (.bool true))/\OldK s₁.heap s'.heap/\s'.os = s₁.os/\AllBare s'.gens) s₁:=by
 have rv:=Zit hi;have lenV:=hi.length
 -- from an abstract heap in which nothing but the script may be tracked
 have core:∀ H:Hp,Only H->SqL K H a (ns.map V.int)->HOk P w H s₁.heap->(∀ b,H b ≠ none->b = a)->(H a ≠ none->K.lookup a = none)->
   codeAny (model P w) callerA (.call (.ref fa) ⟨[.ref a],[]⟩) (λr s'=>r = .ok (.ret (.bool true))/\OldK s₁.heap s'.heap/\s'.os = s₁.os/\AllBare s'.gens) s₁:=by
  intro H hO hS hok hA hK;have base_of:∀ {b:Addr} {o:Obj},s₁.heap.get? b = some o->H b = none->(Zpf s₁.heap H).get? b = some o:=λe n=>Zqy e n;have noA:∀ {b:Addr} {o:Obj} {es:Array DictEntry} {ep:Nat},s₁.heap.get? b = some o->o.data = .dict es ep->H b = none:=λ{b o es ep} e d=>by
   cases q:H b with
   | none=>rfl
   | some u=>
    have e':b = a:=hA b (by rw [q]; simp);subst e';rw [ha] at e; cases e;have d':Data.seq vs.toArray _ = Data.dict es ep:=d;cases d'
  have nsK:∀ {b:Addr} {m:Str->Option Value},s₁.heap.Ns b m->(Zpf s₁.heap H).Ns b m:=λ{b m} ⟨o,es,ep,e,d,r⟩=>⟨o,es,ep,base_of e (noA e d),d,r⟩
  have hKb:K.In (Zpf s₁.heap H):=λb o e=>base_of (KX b o e) (by
   cases q:H b with
   | none=>rfl
   | some u=>
    have e':b = a:=hA b (by rw [q]; simp);subst e';rw [hK (by rw [q]; simp)] at e; cases e)
  have seerB:(Zpf s₁.heap H).NoSeer:=⟨let ⟨mc,x,y⟩:=hseer.statics; ⟨mc,nsK x,y⟩,let ⟨mc,x,y⟩:=hseer.mods; ⟨mc,nsK x,y⟩,let ⟨mc,x,y⟩:=hseer.imp; ⟨mc,nsK x,y⟩,let ⟨mg',bm,ob,x,y,z,u,v⟩:=hseer.main; ⟨mg',bm,ob,nsK x,y,base_of z (by
   cases q:H bm with
   | none=>rfl
   | some o=>
    have e':bm = a:=hA bm (by rw [q]; simp);subst e';rw [ha] at z; cases z;have u':Value.type "list" = Value.type "module" := u
    injection u' with u'
    exact absurd u' (by decide)),u,v⟩⟩
  have hM:Mod K mg (Zpf s₁.heap H):=⟨hKb,nsK hns,⟨mb,nsK hb,hbb⟩,let ⟨mc,h1,h2⟩:=hlim; ⟨mc,nsK h1,h2⟩,seerB,let ⟨bm,ob,x1,x2,x3,x4,x5,x6⟩:=hbm; ⟨bm,ob,x1,x2,base_of x3 (by
   cases q:H bm with
   | none=>rfl
   | some o=>
    have e':bm = a:=hA bm (by rw [q]; simp);subst e';rw [ha] at x3; cases x3;cases x6),x4,x5,x6⟩⟩
  have e0:Env0 P w K mg (Zpf s₁.heap H) callerA [] s₁ H:=⟨rfl,hM,λb o e=>of_hidT e,Nat.le_of_eq (Zok _ _),trivial,λb hb=>absurd (show b ∈ ([]:List Addr) from hb) (by simp),hok,.of_eq hg⟩
  refine Jdh ((F _ hKb (nsK hns)).run callerA [] s₁ H ⟨[.ref a],[]⟩ [.ref a] [.ref a] _ _ hr e0 (hbind s₁ (.ref a)) (.cons rfl .nil) (hsp H hO hS)) λr s' h=>?_;cases r with
  | error e=>exact (hCX H e s' h).elim
  | ok fl=>
   cases fl with
   | next=>exact False.elim h
   | brk=>exact False.elim h
   | cont=>exact False.elim h
   | ret u=>
    refine Zln h λv H' os bare un hok' r' q=>?_;clear h;have q':v = .bl true:=q;subst q';obtain rfl:u = Value.bool true:=r';refine ⟨rfl,OldK.of_keep λb o e=>?_,os,bare⟩;cases q:H b with
    | none=>exact un.keep b o e q (by intro z; exact absurd (show b ∈ ([]:List Addr) from z) (by simp)) (by simp)
    | some u=>
     rcases hO b with z | ⟨ob,xs,z⟩
     .rw [q] at z; cases z
     .have z2:=un.frzs b ob _ z;obtain ⟨e1,_⟩:=hok b _ z;obtain ⟨e2,_⟩:=hok' b _ z2;rw [e] at e1; cases e1;exact e2
 cases hk:K.lookup a with
 | some o=>
  -- the script is one of the module's own objects
  have e:=KX a o hk;rw [ha] at e;cases e;refine core (λ_=>none) (λ_=>.inl rfl) (.inr ⟨_,vs.toArray,_,hk,rfl,rfl,rfl,by rw [Jak,lenV]; exact hl,by simpa using rv⟩) (λb u z=>by have z':(none:Option HO) = some u:=z; cases z') (λb z=>absurd rfl z) λz=>absurd rfl z
 | none=>
  refine core (λb=>if b = a then some (.frz { cls:=.type "list",data:=.seq vs.toArray } (.lst (ns.map V.int))) else none) (λb=>?_) (.inl (.inr ⟨{ cls:=.type "list",data:=.seq vs.toArray },if_pos rfl⟩)) (λb u z=>?_) (λb z=>?_) λ_=>hk
  .by_cases hb:b = a
   .exact .inr ⟨_,_,if_pos hb⟩
   .exact .inl (if_neg hb)
  .by_cases hb:b = a
   .have z':=(if_pos hb).symm.trans z;cases z';subst hb;exact ⟨ha,by rw [Jab]; exact hl,vs,_,rv,ha⟩
   .have z':=(if_neg hb).symm.trans z;cases z'
  .by_cases hb:b = a
   .exact hb
   .exact absurd (if_neg hb) z
theorem walk_of {l:PySem.W.OpenLaw} {n k:Nat} {q:Program} {loose:List Str} {XP:(Str->Option Value)->Heap->Prop} {YP:World->Heap->Prop} {d:DefRec} {K:Params->PySem.W.Frag} {CX:World->CXT} {sp:World->Sp} {x:Str}
  (hq:importsNone q = true) (hn:l.most = some n) (hn2:n<=sizeLine) (hdf:d.params.defaults = []) (hr:Room k callerA)
  (hY:∀ (w:World) (h:Heap),YP w h->(K w.params).In h)
  (F:∀ (w:World) (mg:Str->Option Value) (fa:Addr) (h:Heap),(K w.params).In h->h.Ns mainGlobals mg->mg d.name = some (.ref fa)->
   ∃ fd:FuncData,(∀ (s:Shared) (u:Value),BindsTo s fd ⟨[u],[]⟩ [(x,u)]) /\
    ∀ base:Heap,(K w.params).In base->base.Ns mainGlobals mg->FnOk l.prog w (K w.params) mg base (CX w) k fa fd [x] (sp w))
  (hsp:∀ (w:World) (H:Hp) (a:Addr) (ns:List Int),ns.length<=n->Only H->SqL (K w.params) H a (ns.map V.int)->sp w [.ref a] H (λv _=>v = .bl true) λ_ _ _=>False)
  (hCX:∀ (w:World) (H:Hp) (s:Shared) (e:Value) (s':Shared),CX w [] H s (λ_ _ _=>False) e s'->False):
  PySem.W.WalkO q loose XP YP l.row.toRowW d [] (λf vs=>PySem.call f vs):=by
 refine Att.attach_call hn hdf λw s₀ s₁ mg mb fa o pm cd doc a vs ns G Y ho hd hcd hmg hobj hints hlen hg=>?_;have KX:=hY w _ Y;refine Zad (F w mg fa _ KX G.T.g hmg) λfd hb hF=>?_;exact Zqs KX G.T.g G.T.b G.T.builtins G.T.nolimit (G.T.seer hq) G.T.bmain hg hobj hints (Ja3 hlen hn2) hr hF hb (λH hO hS=>hsp w H a ns hlen hO hS) λH e s'=>hCX w H s₁ e s'
def Zft (s:Stmt) (j:Nat):Stmt:=match s with
 | .ClassDef _ _ _ body _ _ _ _ _ _ _=>body.getD j (.Pass ⟨0,0,0,0⟩)
 | _=>.Pass ⟨0,0,0,0⟩
def Zet (s:Stmt):Arguments:=match s with
 | .FunctionDef _ a _ _ _ _ _ _ _ _=>a
 | _=>{ posonlyargs:=[],args:=[],vararg:=none,kwonlyargs:=[],kw_defaults:=[],kwarg:=none,defaults:=[] }
def Zcq (s:Stmt):List Stmt:=match s with
 | .FunctionDef _ _ b _ _ _ _ _ _ _=>b
 | _=>[]
def Zae (s:Stmt):Scope:=match s with
 | .FunctionDef _ _ _ _ _ _ sc _ _ _=>sc
 | _=>{ kind:=.function,names:=[],isGenerator:=false,isCoroutine:=false }
abbrev CX0:CXT:=λ_ _ _ _ _ _=>False
abbrev E0:XK:=λ_ _ _=>False
theorem Znv {X:Cx}:Zcy CX0 X E0:=λ_ _ _ _ _ _ _ h=>h.elim
structure Fun (K:PySem.W.Frag) (x qual:Str) (st:Stmt) (f:Addr) (fd:FuncData):Prop where
 ex:∃ (oc:Value) (od:Option Addr) (kV doc pm:Value) (an:Option Addr) (cdv ct:Value) (osl:Array (Option Value)),
  fd = PySem.W.fnOf x qual (Zet st) (Zcq st) (Zae st) .none kV doc pm an cdv ct/\K.lookup f = some ⟨oc,od,.func fd,osl⟩/\PySem.W.codeIn K cdv qual = true
 kp:PySem.W.keepIn K (.ref f) = true
section
variable {P:Program} {w:World} {K:PySem.W.Frag} {mg:Str->Option Value} {base:Heap}
theorem Fun.ok {x qual:Str} {st:Stmt} {f:Addr} {fd:FuncData} {N ps:List Str} {k:Nat} {sp:Sp} (F:Fun K x qual st f fd) (S:FnScope N ps (Zae st)) (len:∀ vs H Q E,sp vs H Q E->vs.length = ps.length)
  (hbody:∀ (cdv:Value) (A:Around) (outer:List Env) (s:Shared) (H:Hp) (vs:List V) (Q:VK) (E:XK),Room k (A.deeper (envOfC qual (Zae st) s.heap.objs.size f cdv))->sp vs H Q E->
   ∃ t,PSs (Zke CX0 P w K mg base N qual (Zae st) f cdv A outer s H E).nox (Zcq st) t/\t { nx:=λ_ H'=>Q .non H',rt:=Q } (Zei N vs) H):FnOk P w K mg base CX0 (k + 1) f fd ps sp:=by
 refine Zpi F.ex λoc od kV doc pm an cdv ct osl e9171 lk hcd=>?_;obtain rfl:=e9171;refine fn_of lk hcd S len λA outer s H vs Q E hr hsp=>?_;refine Zad (hbody cdv A outer s H vs Q E hr hsp) λt h q=>?_;exact ⟨t,h.nox,q⟩
theorem Fun.binds {x qual:Str} {st:Stmt} {f:Addr} {fd:FuncData} {ps:List Str} (F:Fun K x qual st f fd)
  (h:∀ (kV doc pm:Value) (an:Option Addr) (cdv ct:Value) (us:List Value),us.length = ps.length->bindArgs (PySem.W.fnOf x qual (Zet st) (Zcq st) (Zae st) .none kV doc pm an cdv ct) ⟨us,[]⟩ = pure (ps.zip us)):Binds K fd ps []:=by
 refine Zpi F.ex λoc od kV doc pm an cdv ct osl e9172 lk hcd=>?_;obtain rfl:=e9172;exact .all (h kV doc pm an cdv ct)
theorem fun_mk {x qual:Str} {st:Stmt} {f:Addr} {oc:Value} {od an:Option Addr} {osl:Array (Option Value)} {kV doc pm cdv ct:Value} (l:K.lookup f = some ⟨oc,od,.func (PySem.W.fnOf x qual (Zet st) (Zcq st) (Zae st) .none kV doc pm an cdv ct),osl⟩)
  (c:PySem.W.codeIn K cdv qual = true) (k:PySem.W.keepIn K (.ref f) = true):Fun K x qual st f (PySem.W.fnOf x qual (Zet st) (Zcq st) (Zae st) .none kV doc pm an cdv ct):=⟨⟨oc,od,kV,doc,pm,an,cdv,ct,osl,rfl,l,c⟩,k⟩
end
theorem Zal {n:Nat} (h:n<=1000):n < sizeLine:=Jdx h (by decide)
section
variable {X:Cx}
theorem pv (i:Nat) {x:Str} {pos:Pos} (hN:X.N[i]? = some x:=by rfl) (hv:Vis X.env.scope x:=by first | exact Or.inl rfl | exact Or.inr (Or.inl rfl) | exact Or.inr (Or.inr rfl)) (hd:(x == ("__debug__" : Str)) = false:=by decide)
  (hcd:(x == ("__classdict__" : Str)) = false:=by decide):PE X (.Name x pos) (Zko i):=pe_var hN hv hd hcd
end
theorem Zl2 {A B:Prop} (h:B):if false = true then A else B:=by
 rw [if_neg Jao];exact h
theorem iteT {A B:Prop} (h:A):if true = true then A else B:=by
 rw [if_pos rfl];exact h
theorem Zcx {c A B:Prop} [Decidable c] (h1:c->A) (h2:¬ c->B):if c then A else B:=by
 by_cases h:c
 .rw [if_pos h];exact h1 h
 .rw [if_neg h];exact h2 h
def Same (H H':Hp):Prop:=∀ b o,H b = some o->H' b = some o
theorem Same.refl (H:Hp):Same H H:=λ_ _ h=>h
theorem Same.trans {H H1 H2:Hp} (a:Same H H1) (b:Same H1 H2):Same H H2:=λc o h=>b c o (a c o h)
theorem Same.free {H H':Hp} (e:Same H H') {l:Addr} (h:H' l = Option.none):H l = Option.none:=by
 cases q:H l with
 | none=>rfl
 | some o=>
  rw [e l o q] at h;cases h
theorem Same.seq {K:PySem.W.Frag} {H H':Hp} {a:Addr} {xs:List V} (e:Same H H') (h:SqL K H a xs):SqL K H' a xs:=by
 rcases h with (h | ⟨o,h⟩) | h
 .exact .inl (.inl (e _ _ h))
 .exact .inl (.inr ⟨o,e _ _ h⟩)
 .exact .inr h
theorem Zq8 {x:Str} {c:Addr}:∀ (names:List (Str × NameKind)) (n:Nat) (acc:List (Str × Addr)),(cellsFrom n names acc).lookup x = some c->n<=c\/acc.lookup x = some c
 | [],_,_,h=>.inr h
 | (y,k) :: r,n,acc,h=>by
  unfold cellsFrom at h;split at h
  .rcases Zq8 r (n + 1) _ h with z | z
   .exact .inl (Jb8 z)
   .rw [Jay] at z;cases e:x == y with
    | true=>rw [e] at z; cases z; exact .inl (Jah _)
    | false=>rw [e] at z; exact .inr z
  .exact Zq8 r n acc h
theorem Zo6 {x:Str} {c:Addr}:∀ (names:List (Str × NameKind)) (n:Nat) (acc:List (Str × Addr)),(x,NameKind.cell) ∈ names->(cellsFrom n names acc).lookup x = some c->n<=c
 | [],_,_,m,_=>nomatch m
 | (y,k) :: r,n,acc,m,h=>by
  unfold cellsFrom at h;split at h
  .by_cases m':(x,NameKind.cell) ∈ r
   .exact Jb8 (Zo6 r (n + 1) _ m' h)
   .have e:(x,NameKind.cell) = (y,k):=(Jaq.mp m).resolve_right m';cases e;rcases Zq8 r (n + 1) _ h with z | z
    .exact Jb8 z
    .rw [Jay,beq_self_eq_true] at z;cases z;exact Jah _
  .rename_i hk
   have m':(x,NameKind.cell) ∈ r:=by
    rcases Jaq.mp m with e | m'
    .cases e; exact absurd rfl hk
    .exact m'
   exact Zo6 r n acc m' h
theorem Zo7 {x:Str}:∀ {names:List (Str × NameKind)} {n:Nat} {acc:List (Str × Addr)},(x,NameKind.cell) ∉ names->(cellsFrom n names acc).lookup x = acc.lookup x
 | [],_,_,_=>rfl
 | (y,k) :: r,n,acc,h=>by
  unfold cellsFrom;have hr:(x,NameKind.cell) ∉ r:=λm=>h (Ja2 _ m);split
  .rename_i hk
   have hy:(x == y) = false:=by
    cases e:x == y with
    | false=>rfl
    | true=>
     exfalso;refine h ?_;rw [Jbg.mp e,Jbg.mp hk];exact Jb0
   rw [Zo7 hr,Jay,hy]
  .exact Zo7 hr
theorem Zo8:∀ (names:List (Str × NameKind)) (n:Nat) (acc:List (Str × Addr)),(∀ x c,acc.lookup x = some c->c < n)->(∀ x y c,acc.lookup x = some c->acc.lookup y = some c->x = y)->
  ∀ x y c,(cellsFrom n names acc).lookup x = some c->(cellsFrom n names acc).lookup y = some c->x = y
 | [],_,_,_,hi=>hi
 | (z,k) :: r,n,acc,hl,hi=>by
  unfold cellsFrom;split
  .refine Zo8 r (n + 1) _ (λx c h=>?_) (λx y c h1 h2=>?_)
   .rw [Jay] at h;cases e:x == z with
    | true=>rw [e] at h; cases h; exact Nat.lt_succ_self _
    | false=>rw [e] at h; exact Nat.lt_succ_of_lt (hl x c h)
   .rw [Jay] at h1 h2;cases e1:x == z with
    | true=>
     rw [e1] at h1;cases h1;cases e2:y == z with
     | true=>rw [Jbg.mp e1,Jbg.mp e2]
     | false=>rw [e2] at h2; exact absurd (hl y _ h2) (Jbp _)
    | false=>
     rw [e1] at h1;cases e2:y == z with
     | true=>rw [e2] at h2; cases h2; exact absurd (hl x _ h1) (Jbp _)
     | false=>rw [e2] at h2; exact hi x y c h1 h2
  .exact Zo8 r n acc hl hi
theorem Zki {x:Str} {c:Addr}:∀ (names:List (Str × NameKind)) (h:Heap) (acc:List (Str × Addr)),(cellsFrom h.objs.size names acc).lookup x = some c->(pushCells h names).IsCell c none\/acc.lookup x = some c
 | [],_,_,z=>.inr z
 | (y,k) :: r,h,acc,z=>by
  unfold cellsFrom at z;unfold pushCells;split at z
  .rename_i hk
   rw [if_pos hk];have z':(cellsFrom (h.push { cls:=.type "cell",data:=.cell none }).objs.size r ((y,h.objs.size) :: acc)).lookup x = some c:=by rw [Jcq]; exact z
   rcases Zki r _ _ z' with q | q
   .exact .inl q
   .rw [Jay] at q;cases e:x == y with
    | true=>
     rw [e] at q;cases q;exact .inl ⟨_,pushCells_keeps _ _ _ _ (Ja8 _ rfl),rfl⟩
    | false=>rw [e] at q; exact .inr q
  .rename_i hk
   rw [if_neg hk];exact Zki r h acc z
theorem Zkh {env:Env} (f:Str × NameKind->List (Str × Addr)->Sem (ForInStep (List (Str × Addr))))
  (hf:∀ name kind cs,f (name,kind) cs = if kind == .free then (do let a <- cellOf env name; pure (.yield ((name,a) :: cs))) else pure (.yield cs)):
  ∀ (names:List (Str × NameKind)) (acc:List (Str × Addr)),(∀ y ∈ names,y.2 = .free->∃ c,env.cells.lookup y.1 = some c)->(∀ x c,acc.lookup x = some c->env.cells.lookup x = some c)->
  ∃ cl,forIn names acc f = pure cl/\(∀ x c,cl.lookup x = some c->env.cells.lookup x = some c)/\(∀ y ∈ names,y.2 = .free->∃ c,cl.lookup y.1 = some c)/\∀ x c,acc.lookup x = some c->∃ c',cl.lookup x = some c'
 | [],acc,_,ha=>⟨acc,rfl,ha,(λ_ m=>nomatch m),λx c e=>⟨c,e⟩⟩
 | (y,k) :: r,acc,h,ha=>by
  rw [List.forIn_cons,hf];have hr:∀ y ∈ r,y.2 = NameKind.free->∃ c,env.cells.lookup y.1 = some c:=λz m=>h z (Ja2 _ m);by_cases hk:(k == NameKind.free) = true
  .obtain ⟨c,hc⟩:=h (y,k) Jb0 (Jbg.mp hk);have e:cellOf env y = pure c:=by unfold cellOf; rw [hc]
   rw [if_pos hk,e,pure_bind,pure_bind];have ha':∀ x d,((y,c) :: acc).lookup x = some d->env.cells.lookup x = some d:=λx d e=>by
    rw [Jay] at e;cases e1:x == y with
    | true=>rw [e1] at e; cases e; rw [Jbg.mp e1]; exact hc
    | false=>rw [e1] at e; exact ha x d e
   refine Zpk (Zkh f hf r ((y,c) :: acc) hr ha') λcl q1 q2 q3 q4=>?_;refine ⟨cl,q1,q2,λz m hz=>?_,λx d e=>?_⟩
   .rcases Jaq.mp m with e | m
    .subst e;exact q4 y c (by rw [Jay,beq_self_eq_true])
    .exact q3 z m hz
   .by_cases e1:(x == y) = true
    .exact q4 x c (by rw [Jay,e1])
    .exact q4 x d (by rw [Jay]; simp only [e1]; exact e)
  .rw [if_neg hk,pure_bind];refine Zpk (Zkh f hf r acc hr ha) λcl q1 q2 q3 q4=>?_;refine ⟨cl,q1,q2,λz m hz=>?_,q4⟩;rcases Jaq.mp m with e | m
   .subst e; exact absurd (Jbg.mpr hz) hk
   .exact q3 z m hz
theorem Zik {scope:Scope} {env:Env} (h:∀ y ∈ scope.names,y.2 = .free->∃ c,env.cells.lookup y.1 = some c):
  ∃ cl,closureFor scope env = pure cl/\(∀ x c,cl.lookup x = some c->env.cells.lookup x = some c)/\∀ y ∈ scope.names,y.2 = .free->∃ c,cl.lookup y.1 = some c:=by
 obtain ⟨cl,q1,q2,q3,_⟩:=Zkh (env:=env) (λx cs=>if x.2 == .free then (do let a <- cellOf env x.1; pure (.yield ((x.1,a) :: cs))) else pure (.yield cs)) (λ_ _ _=>rfl) scope.names [] h (λ_ _ e=>nomatch e);refine ⟨cl,?_,q2,q3⟩;unfold closureFor;have e:(λ(x:Str × NameKind) (r:List (Str × Addr))=>(match x with
   | (name,kind)=>if (kind == NameKind.free) = true then (do let __do_lift <- cellOf env name; pure (ForInStep.yield ((name,__do_lift) :: r))) else pure (ForInStep.yield r):Sem (ForInStep (List (Str × Addr))))) =
   λx cs=>if x.2 == .free then (do let a <- cellOf env x.1; pure (.yield ((x.1,a) :: cs))) else pure (.yield cs):=by
  funext x cs
  rfl
 have q:(forIn scope.names ([]:List (Str × Addr)) λ(x:Str × NameKind) (r:List (Str × Addr))=>(match x with
   | (name,kind)=>if (kind == NameKind.free) = true then (do let __do_lift <- cellOf env name; pure (ForInStep.yield ((name,__do_lift) :: r))) else pure (ForInStep.yield r):Sem (ForInStep (List (Str × Addr))))) = pure cl:=by
  rw [e]; exact q1
 simpa using q
theorem Zdz {M:Model} {A:Around} {E:Value->Shared->Prop} {s:Shared} {scope:Scope} {globals:Addr} {cl:List (Str × Addr)} {qual:Str} {env:Env} {Q:Env->Shared->Prop}
  (hQ:∀ h',h'.Ns s.heap.objs.size (λ_=>none)->(∀ b o,s.heap.get? b = some o->h'.get? b = some o)->
   (∀ x c,(cellsFrom (s.heap.objs.size + 1) scope.names cl).lookup x = some c->h'.IsCell c none\/cl.lookup x = some c)->
   Q { scope,locals:=s.heap.objs.size,globals,cells:=cellsFrom (s.heap.objs.size + 1) scope.names cl,qual,func:=none,code:=env.code,frame:=env.frame,builtins:=env.builtins } { s with heap:=h' }):
  wpAny M A (newFunctionEnv scope globals cl [] qual none .none (some env)) Q E s:=by
 simp only [newFunctionEnv,Option.isSome_some,Jcl];refine Jac (wpAny_alloc ?_);refine Jac (wpAny_layCells _ (λname kind cells=>by cases hkc:kind == NameKind.cell <;> simp [hkc]) _ _ _ _ ?_);have hsz:(s.heap.push { cls:=.type "dict",data:=.dict #[] }).objs.size = s.heap.objs.size + 1:=Jcq ..;have q:=hQ (pushCells (s.heap.push { cls:=.type "dict",data:=.dict #[] }) scope.names) ((Heap.Ns.new s.heap (.type "dict")).keeps (pushCells_keeps _ _)) (λb o e=>pushCells_keeps _ _ b o (Jae _ e))
  (λx c e=>Zki scope.names (s.heap.push { cls:=.type "dict",data:=.dict #[] }) cl (by rw [hsz]; exact e))
 show wpAny _ _ _ _ _ _;rw [show ({ s with heap:=s.heap.push { cls:=.type "dict",data:=.dict #[] } }:Shared).heap.objs.size = s.heap.objs.size + 1 from hsz];exact Jac (Jat (Jat q))
theorem Zf4 {env:Env} {x:Str}:∀ {names:List (Str × NameKind)},names.lookup x = some .free->
  (names.map λ(n,k)=>if (k == NameKind.free && env.scope.kind == .function && env.kindOf n == some .cell) then (n,NameKind.cell) else (n,k)).lookup x = some .cell \/
  (names.map λ(n,k)=>if (k == NameKind.free && env.scope.kind == .function && env.kindOf n == some .cell) then (n,NameKind.cell) else (n,k)).lookup x = some .free
 | [],h=>by simp at h
 | (n,k) :: r,h=>by
  have ih:=@Zf4 env x r;show List.lookup x ((if (k == NameKind.free && env.scope.kind == .function && env.kindOf n == some .cell) = true then (n,NameKind.cell) else (n,k)) :: _) = _\/List.lookup x ((if (k == NameKind.free && env.scope.kind == .function && env.kindOf n == some .cell) = true then (n,NameKind.cell) else (n,k)) :: _) = _;cases hx:x == n with
  | true=>
   simp only [Jay,hx] at h;cases h;split <;> simp [Jay,hx]
  | false=>
   simp only [Jay,hx] at h;split <;> (simp only [Jay,hx]; exact ih h)
theorem Zdw {env:Env} {x:Str} {kd:NameKind}:∀ {names:List (Str × NameKind)},
  (names.map λ(n,k)=>if (k == NameKind.free && env.scope.kind == .function && env.kindOf n == some .cell) then (n,NameKind.cell) else (n,k)).lookup x = some kd->
  names.lookup x = some kd\/names.lookup x = some .free
 | [],h=>by simp at h
 | (n,k) :: r,h=>by
  have ih:=@Zdw env x kd r;have h':List.lookup x ((if (k == NameKind.free && env.scope.kind == .function && env.kindOf n == some .cell) = true then (n,NameKind.cell) else (n,k)) :: (r.map λ(n,k)=>if (k == NameKind.free && env.scope.kind == .function && env.kindOf n == some .cell) then (n,NameKind.cell) else (n,k))) = some kd:=h;cases hx:x == n with
  | true=>
   by_cases hc:(k == NameKind.free && env.scope.kind == .function && env.kindOf n == some .cell) = true
   .have hk:k = .free:=by
     have:=(Jbx _ _ ▸ (Jbx _ _ ▸ hc).1).1;exact Jbg.mp this
    subst hk;exact .inr (by simp [Jay,hx])
   .rw [if_neg hc] at h';simp only [Jay,hx] at h';cases h';exact .inl (by simp [Jay,hx])
  | false=>
   have h2:List.lookup x (r.map λ(n,k)=>if (k == NameKind.free && env.scope.kind == .function && env.kindOf n == some .cell) then (n,NameKind.cell) else (n,k)) = some kd:=by
    split at h' <;> simpa only [Jay,hx] using h'
   rcases ih h2 with z | z
   .exact .inl (by simp only [Jay,hx]; exact z)
   .exact .inr (by simp only [Jay,hx]; exact z)
def Zbw (X:Cx) (N:List Str) (scope:Scope) (cl:List (Str × Addr)) (s:Shared) (H:Hp) (fp:List Addr):Cx where
 prog:=X.prog
 w:=X.w
 K:=X.K
 mg:=X.mg
 base:=X.base
 A:=X.A
 N:=N
 s₀:=s
 H₀:=H
 env:={ scope:=relabel scope X.env,locals:=s.heap.objs.size,globals:=X.env.globals,cells:=cellsFrom (s.heap.objs.size + 1) scope.names cl,qual:=X.env.qual,func:=none,code:=X.env.code,frame:=X.env.frame,builtins:=X.env.builtins }
 outer:=X.stack
 stack:=X.stack
 ex:=fp
 fn:=λx=>scope.names.lookup x == some .cell
 calm:=X.calm
 pn:=[]
 xe:=λ_ _=>False
structure BlScope (X:Cx) (scope:Scope) (own:List Str) (fr:List (Str × Nat)):Prop where
 kind:scope.kind = .function
 free:∀ y ∈ scope.names,y.2 = .free->X.env.scope.names.lookup y.1 = some .cell\/X.env.scope.names.lookup y.1 = some .free
 loc:∀ y ∈ scope.names,y.2 = .local->scope.names.lookup y.1 = some .local
 look:∀ y ∈ scope.names,scope.names.lookup y.1 = some y.2
 cap:∀ y ∈ fr,scope.names.lookup y.1 = some .free/\X.N[y.2]? = some y.1
def Zfv (k:Nat) (fr:List (Str × Nat)) (σ:St):St:=List.replicate k none ++ fr.map λy=>(σ[y.2]?).getD none
def Zbu (own:List Str) (fr:List (Str × Nat)):List Str:=own ++ fr.map (·.1)
section
variable {X:Cx} {pins:List (Addr × Obj)} {σ:St} {H:Hp} {s:Shared}
theorem Zg8 {scope:Scope} {own:List Str} {fr:List (Str × Nat)} {cl:List (Str × Addr)} {fp:List Addr} {h':Heap} (I:Inv X pins σ H s) (B:BlScope X scope own fr)
  (hcl:∀ x c,cl.lookup x = some c->X.env.cells.lookup x = some c) (hcl2:∀ y ∈ scope.names,y.2 = .free->∃ c,cl.lookup y.1 = some c)
  (hfp:∀ b ∈ fp,Zio X pins H b) (hfo:∀ b ∈ fp,∃ o,s.heap.get? b = some o)
  (hn:h'.Ns s.heap.objs.size (λ_=>none)) (hk:∀ b o,s.heap.get? b = some o->h'.get? b = some o)
  (hc:∀ x c,(cellsFrom (s.heap.objs.size + 1) scope.names cl).lookup x = some c->h'.IsCell c none\/cl.lookup x = some c):
  Inv (Zbw X (Zbu own fr) scope cl s H fp) [] (Zfv own.length fr σ) H { s with heap:=h' }:=by
 have clt:∀ x c,cl.lookup x = some c->c < s.heap.objs.size:=λx c e=>by
  obtain ⟨v,z⟩:=I.cell x c (hcl x c e);exact z.lt
 have ownC:∀ x c,(cellsFrom (s.heap.objs.size + 1) scope.names cl).lookup x = some c->s.heap.objs.size + 1<=c\/cl.lookup x = some c:=λx c e=>Zq8 _ _ _ e;have bsz:X.base.objs.size<=s.heap.objs.size:=Ja3 I.ok.bsz I.sz;refine ⟨⟨I.ok.mod,B.kind,I.ok.glob,I.ok.blt,Jah _,?_,?_,?_,I.ok.hd,I.ok.frames,.inl rfl,?_,I.bs,bsz,?_,?_,I.stack,I.stkFree,I.ok.top⟩,rfl,I.bare,Un.kept hk,⟨_,hn,?_⟩,?_,I.hok.fresh (Jah _),?_,?_,I.hok.kept hk,?_⟩
 .exact Zo8 _ _ _ (λx c e=>Nat.lt_succ_of_lt (clt x c e)) λx y c e1 e2=>I.ok.inj x y c (hcl x c e1) (hcl y c e2)
 .intro x hx;have hx:(relabel scope X.env).names.lookup x = some .cell\/(relabel scope X.env).names.lookup x = some .free:=hx;have q:scope.names.lookup x = some .cell\/scope.names.lookup x = some .free:=by
   rcases hx with z | z
   .exact Zdw z
   .exact (Zdw z).elim .inr .inr
  refine Jbz.mp (Jcc scope.names _ _ ?_);rcases q with z | z
  .exact .inl z
  .obtain ⟨c,e⟩:=hcl2 _ (Jbs z) rfl;exact .inr (by rw [e]; rfl)
 .intro x c hf e;have hf:(scope.names.lookup x == some .cell) = true:=hf;exact Jb8 (Zo6 _ _ _ (Jbs (Jbg.mp hf)) e)
 .intro b hb;obtain ⟨o,ho⟩:=hfo b hb;refine ⟨Ja6 (Jaf ho),λx c e=>?_⟩;rcases ownC x c e with z | z
  .intro q;subst q;exact absurd (Jau (Jaf ho) (Jb8 z)) (Jbp _)
  .exact (hfp b hb).2.2.2.2.1 x c (hcl x c z)
 .intro b o e hb;rcases (hfp b hb).2.2.2.1 with z | z
  .exact I.ok.noex b o e z
  .exact absurd (Jau (Jaf e) (Ja3 I.ok.bsz z)) (Jbp _)
 .intro b hb z;rcases Jaq.mp (I.stkSub b z) with q | q
  .exact (hfp b hb).2.1 q
  .exact (hfp b hb).2.2.1 q
 .intro i x v h1 h2 h3;have h1:(Zbu own fr)[i]? = some x:=h1;unfold Zbu at h1;unfold Zfv at h2;by_cases hi:i < own.length
  .rw [Jai (by rw [Jce]; exact hi),Jc6,if_pos hi] at h2;cases h2
  .have hi':own.length<=i:=Nat.le_of_not_lt hi;rw [Jal hi',Jbc] at h1;rw [Jal (by rw [Jce]; exact hi'),Jce,Jbc] at h2;cases e:fr[i - own.length]? with
   | none=>rw [e] at h1; cases h1
   | some y=>
    rw [e] at h1 h2;have hy1:y.1 = x:=Jbi h1;have hy2:(σ[y.2]?).getD none = some v:=Jbi h2;obtain ⟨c1,c2⟩:=B.cap y (Jag e);rw [hy1] at c1 c2;have hs:σ[y.2]? = some (some v):=by
     cases e2:σ[y.2]? with
     | none=>rw [e2] at hy2; cases hy2
     | some o=>rw [e2] at hy2; cases o with
      | none=>cases hy2
      | some w=>cases hy2; rfl
    refine Zad I.loc λm hm hl=>?_;have hfree:=B.free _ (Jbs c1) rfl;refine Zad (hl y.2 x v c2 hs (hfree.elim (λz=>.inr (.inl z)) λz=>.inr (.inr z))) λu r l=>?_;refine ⟨u,r,?_⟩;obtain ⟨k,c,e3,z⟩:(X.env.kindOf x = some .cell\/X.env.kindOf x = some .free)/\∃ c,X.env.cells.lookup x = some c/\s.heap.IsCell c (some u):=by
     rcases l with ⟨k,_⟩ | q
     .have k:X.env.scope.names.lookup x = some .local:=k;rcases hfree with z | z <;> (rw [z] at k; cases k)
     .exact q
    obtain ⟨d,hd⟩:=hcl2 _ (Jbs c1) rfl;have hd':=hcl x d hd;rw [e3] at hd';cases hd';obtain ⟨c',hc'⟩:∃ c',(cellsFrom (s.heap.objs.size + 1) scope.names cl).lookup x = some c':=Jbz.mp (Jcc scope.names _ _ (.inr (by rw [hd]; rfl)));have hcc:c' = c:=by
     rcases ownC x c' hc' with q | q
     .-- an own cell of that name: it is free,so no
      exfalso;have:(x,NameKind.cell) ∉ scope.names:=λm=>by
       have:=B.look _ m;rw [c1] at this;cases this
      exact absurd hc' (by
       rw [Zo7 this];intro z;rw [hd] at z;cases z;exact absurd (clt x _ hd) (Nat.not_lt.mpr (Jb8 q)))
     .rw [hd] at q; cases q; rfl
    subst hcc;refine .inr ⟨?_,c',hc',z.keeps hk⟩;exact Zf4 c1
 .intro x c e;rcases hc x c e with z | z
  .exact ⟨_,z⟩
  .obtain ⟨v,q⟩:=I.cell x c (hcl x c z);exact ⟨v,q.keeps hk⟩
 .intro x c e;rcases ownC x c e with z | z
  .exact I.hok.fresh (Jb8 z)
  .exact I.freeC x c (hcl x c z)
 .intro p hp;exact absurd (show p ∈ ([]:List (Addr × Obj)) from hp) (by simp)
 .show (Zfv _ _ _).length = (Zbu _ _).length;unfold Zfv Zbu;simp
end
def PTs (X:Cx) (ifs:List Expr) (t:TT):Prop:=
 ∀ (pins:List (Addr × Obj)) (s:Shared) (σ:St) (H:Hp) (Q:Bool->Hp->Prop),Inv X pins σ H s->t σ H Q->
  wpAny (model X.prog X.w) X.A (forIn ifs true λc r=>if r = true then do let ok <- isTrue c X.env (eval c X.env); pure (ForInStep.yield ok) else pure (ForInStep.yield r)) (TP X pins σ Q) X.xe s
def Zgf:TT:=λ_ H Q=>Q true H
theorem Zbc {X:Cx}:PTs X [] Zgf:=λpins s σ H Q I h=>wpAny_tests_nil ⟨H,I,h⟩
theorem Zep {X:Cx} {c:Expr} {t:TT} (hc:PT X c t):PTs X [c] t:=λpins s σ H Q I h=>wpAny_tests_one (hc pins s σ H Q I h)
section
variable {prog:Program} {w:World} {A:Around} {R:Result->Shared->Prop} {s:Shared}
theorem Zjh {elt target iter:Expr} {ifs:List Expr} {scope:Scope} {pos:Pos} {it acc:Value} {env:Env} (I:Nat->Shared->Prop)
  (turn:∀ n s,I n s->wpAny (model prog w) A (pyNext it) (λr s₁=>match r with
   | none=>R (.ok .next) s₁
   | some v=>wpAny (model prog w) A (letOwnedTupleGo target it v) (λ_ s₁=>wpAny (model prog w) A (assign target env v) (λ_ s₂=>
     wpAny (model prog w) A (forIn ifs true λc r=>if r = true then do let ok <- isTrue c env (eval c env); pure (ForInStep.yield ok) else pure (ForInStep.yield r)) (λok s₃=>
      if ok = true then wpAny (model prog w) A (eval elt env) (λx s₄=>
       wpAny (model prog w) A (call (.builtin "list.append") [acc,x]) (λ_ s₅=>∃ m,m < n/\I m s₅) (λ_ _=>False) s₄) (λ_ _=>False) s₃
      else ∃ m,m < n/\I m s₃) (λ_ _=>False) s₂) (λ_ _=>False) s₁) (λ_ _=>False) s₁) (λ_ _=>False) s)
  (n:Nat) (h:I n s):
  codeAny (model prog w) A (.compLoop (.ListComp elt [⟨target,iter,ifs,0⟩] scope pos) 0 it acc env) R s:=by
 refine codeAny_loop rfl I (λn s hI=>?_) n h;show wpAny _ A ((compTurn (.ListComp elt [⟨target,iter,ifs,0⟩] scope pos) 0 it acc env).onRaise (λx=>do noteFrame x env; theTreesLotGoes x)) _ _ s;refine wpAny_noted ?_;rw [compTurn_list];refine Jac (Jb1 (Jac (Jaz (turn n s hI) (λr s₁ h₁=>?_) λ_ _ h'=>h'.elim)));cases r with
 | none=>exact Jat h₁
 | some v=>
  refine Jac (Jaz h₁ (λ_ s₁' h₁'=>?_) λ_ _ h'=>h'.elim);refine Jac (Jaz h₁' (λ_ s₂ h₂=>Jac (Jaz h₂ (λok s₃ h₃=>?_) λ_ _ h'=>h'.elim)) λ_ _ h'=>h'.elim);cases ok with
  | false=>exact Jat ⟨rfl,h₃⟩
  | true=>
   exact Jac (Jac (Jaz h₃ (λx s₄ h₄=>Jac (Jaz h₄ (λ_ s₅ h₅=>Jat (Jat ⟨rfl,h₅⟩)) λ_ _ h'=>h'.elim)) λ_ _ h'=>h'.elim))
end
def Zb6 (g:TG) (tt:TT) (te:TE) (J:It) (D:Addr) (σ0:St) (H1:Hp) (Q:VK):Prop:=
 ∃ W:Nat->Nat->St->Hp->Prop,(∃ m,W 0 m σ0 (upd H1 D (.lst [])))/\∀ i m σ' H2,W i m σ' H2->
  (J.stop i H2/\Q (.ref D) H2)\/(J.go i H2/\∀ x H3,J.yld i H2 x H3->g x σ' H3 λσ4 H4=>tt σ4 H4 λb H5=>
   if b = true then te σ4 H5 λy H6=>∃ vs,H6 D = some (.lst vs)/\vs.length < sizeLine/\∃ m',m' < m/\W (i + 1) m' σ4 (upd H6 D (.lst (vs ++ [y])))
   else ∃ m',m' < m/\W (i + 1) m' σ4 H5)
def tComp (k:Nat) (fr:List (Str × Nat)) (wi:TI) (g:TG) (tt:TT) (te:TE):TE:=λσ H Q=>wi σ H λJ H1=>∀ D,H1 D = none->Zb6 g tt te J D (Zfv k fr σ) H1 Q
section
variable {X:Cx} {tg iter elt:Expr} {ifs:List Expr} {scope:Scope} {pos:Pos} {own:List Str} {fr:List (Str × Nat)} {wi:TI} {g:TG} {tt:TT} {te:TE}
theorem Zlg {pins:List (Addr × Obj)} {s2:Shared} {σ:St} {H2:Hp} {it:Addr} {fp:List Addr} {tn:Nat->Heap->Prop} {J:It} {Q:VK} {cl:List (Str × Addr)} {RR:Value->Addr->Result->Shared->Prop} {E:Value->Shared->Prop}
  (hc:X.calm = true) (B:BlScope X scope own fr)
  (hb:∀ cl s H fp,PG (Zbw X (Zbu own fr) scope cl s H fp) tg g/\PTs (Zbw X (Zbu own fr) scope cl s H fp) ifs tt/\PE (Zbw X (Zbu own fr) scope cl s H fp) elt te)
  (hcl:∀ x c,cl.lookup x = some c->X.env.cells.lookup x = some c) (hcl2:∀ y ∈ scope.names,y.2 = .free->∃ c,cl.lookup y.1 = some c)
  (I2:Inv X pins σ H2 s2) (T:Turn X.prog X.w X.K tg J fp it tn) (st2:tn 0 s2.heap) (f2:∀ b ∈ fp,Zio X pins H2 b) (q:∀ D,H2 D = none->Zb6 g tt te J D (Zfv own.length fr σ) H2 Q)
  (hRR:∀ D C s' H',Inv X pins σ H' s'->Q (.ref D) H'->(∃ m,s'.heap.Ns C m)->C ≠ X.env.locals->(∀ x c,X.env.cells.lookup x = some c->c ≠ C)->(∀ p ∈ X.pn ++ pins,p.1 ≠ C)->X.s₀.heap.objs.size<=C->H' C = none->RR (.ref D) C (.ok .next) s'):
  wpAny (model X.prog X.w) X.A (newList []) (λacc s₃=>wpAny (model X.prog X.w) X.A (newFunctionEnv scope X.env.globals cl [] X.env.qual none .none (some X.env)) (λcenv s₄=>
   codeAny (model X.prog X.w) X.A (.compStart (.ListComp elt [⟨tg,iter,ifs,0⟩] scope pos) 0 (.ref it) acc { cenv with scope:=relabel scope X.env }) (RR acc cenv.locals) s₄) E s₃) E s2:=by
 refine Jcu ?_;have fr0:H2 s2.heap.objs.size = none:=I2.hok.fresh (Jah _);have I3:=I2.lnew (its:=[]) (ys:=[]) (t':=s2.toks) .nil (Jb6 _);generalize hs3:({ s2 with heap:=s2.heap.push { cls:=.type "list",data:=.seq ([]:List Value).toArray } }:Shared) = s3 at *;have k23:∀ b o,s2.heap.get? b = some o->s3.heap.get? b = some o:=λb o e=>by rw [<- hs3]; exact Jae _ e
 have sz3:s3.heap.objs.size = s2.heap.objs.size + 1:=by rw [<- hs3]; exact Jcq ..
 have I3':Inv X pins σ (upd H2 s2.heap.objs.size (.lst [])) s3:=I3;have fne:∀ b ∈ fp,b ≠ s2.heap.objs.size:=λb hb z=>by
  refine Zad (T.obj 0 _ st2 b hb) λo ho _=>?_;exact absurd (Jaf ho) (by rw [z]; exact Jbp _)
 have f3:∀ b ∈ fp,Zio X pins (upd H2 s2.heap.objs.size (.lst [])) b:=λb hb=>⟨by rw [Zaf (fne b hb)]; exact (f2 b hb).1,(f2 b hb).2⟩
 have st3:tn 0 s3.heap:=T.keep 0 _ _ st2 λb _ o e=>k23 b o e;have hfo:∀ b ∈ fp,∃ o,s3.heap.get? b = some o:=λb hb=>let ⟨o,ho,_⟩:=T.obj 0 _ st3 b hb; ⟨o,ho⟩;refine Zdz λh' hn hk hce=>?_;have I4:=Zg8 (own:=own) I3' B hcl hcl2 f3 hfo hn hk hce;refine Zav (hb cl s3 (upd H2 s2.heap.objs.size (.lst [])) fp) λhg ht he=>?_;have st4:tn 0 h':=T.keep 0 _ _ st3 λb _ o e=>hk b o e;have stat:∀ {H':Hp},(∀ b ∈ fp,H' b = none)->∀ b ∈ fp,Zio (Zbw X (Zbu own fr) scope cl s3 (upd H2 s2.heap.objs.size (.lst [])) fp) [] H' b:=λ{H'} hnn b hb=>
  ⟨hnn b hb,(I4.ok.exf b hb).1,I4.ok.exfs b hb,.inl hb,(I4.ok.exf b hb).2,λp hp=>absurd (show p ∈ ([]:List (Addr × Obj)) from hp) (by simp)⟩
 refine Zad (q s2.heap.objs.size fr0) λW e92 turn=>?_;obtain ⟨m0,w0⟩:=e92;have loop:codeAny (model X.prog X.w) X.A (.compLoop (.ListComp elt [⟨tg,iter,ifs,0⟩] scope pos) 0 (.ref it) (.ref s2.heap.objs.size) (Zbw X (Zbu own fr) scope cl s3 (upd H2 s2.heap.objs.size (.lst [])) fp).env)
   (RR (.ref s2.heap.objs.size) s3.heap.objs.size) { s3 with heap:=h' }:=by
  refine Zjh (λn s'=>∃ i σ' H',Inv (Zbw X (Zbu own fr) scope cl s3 (upd H2 s2.heap.objs.size (.lst [])) fp) [] σ' H' s'/\tn i s'.heap/\(∀ b ∈ fp,H' b = none)/\W i n σ' H') ?_ m0
   ⟨0,_,_,I4,st4,λb hb=>(f3 b hb).1,w0⟩
  intro n s5 e91;refine Zb1 e91 λi σ5 H5 I5 st5 fr5 w5=>?_;clear e91;rcases turn i n σ5 H5 w5 with ⟨stop,qn⟩ | ⟨go,step⟩
  .refine thn (T.done (Zbw X (Zbu own fr) scope cl s3 (upd H2 s2.heap.objs.size (.lst [])) fp) rfl rfl rfl hc i [] s5 σ5 H5 _ I5 (stat fr5) st5 stop) λr s6 ⟨hr,I6⟩=>?_;subst hr;have I7:Inv X pins σ H5 s6:=I3'.call' (ch:=fp) I6.os I6.base I6.hok I6.bare λb hb=>⟨(f3 b hb).2.2.2.1,(f3 b hb).2.1,(f3 b hb).2.2.2.2.1,(f3 b hb).2.2.2.2.2⟩
   refine Zad I6.loc λm6 hn6 _=>?_;refine hRR _ _ s6 H5 I7 qn ⟨m6,hn6⟩ (Jdf I3'.lt) (λx c e=>?_) (λp hp=>?_) I3'.sz I6.free
   .obtain ⟨v,z⟩:=I3'.cell x c e;exact Ja6 z.lt
   .exact Ja6 (Jaf (I3'.pin p hp).1)
  .refine thn (T.item (Zbw X (Zbu own fr) scope cl s3 (upd H2 s2.heap.objs.size (.lst [])) fp) rfl rfl rfl hc i [] s5 σ5 H5 _ I5 (stat fr5) st5 go) λr s6 ⟨u,hr,h6⟩=>?_;subst hr;refine thn h6 λ_ s7 ⟨x,H7,I7,r7,y7,st7,fr7⟩=>?_;have I7':=I7.pinned (stat fr7) (T.obj _ _ st7);refine thn (hg _ s7 σ5 H7 x u _ I7' r7 (step x H7 y7)) λ_ s8 ⟨σ8,H8,I8,q8⟩=>?_;refine thn (ht _ s8 σ8 H8 _ I8 q8) λb s9 ⟨H9,I9,q9⟩=>?_;have again:∀ {sA:Shared} {σA:St} {HA:Hp} {m':Nat},Inv (Zbw X (Zbu own fr) scope cl s3 (upd H2 s2.heap.objs.size (.lst [])) fp) ([] ++ Ze4 fp s7.heap) σA HA sA->m' < n->W (i + 1) m' σA HA->
     ∃ m,m < n/\∃ i σ' H',Inv (Zbw X (Zbu own fr) scope cl s3 (upd H2 s2.heap.objs.size (.lst [])) fp) [] σ' H' sA/\tn i sA.heap/\(∀ b ∈ fp,H' b = none)/\W i m σ' H':=λ{sA σA HA m'} IA hm wA=>by
    refine ⟨m',hm,i + 1,σA,HA,IA.unpinned,T.keep _ _ _ st7 λb hb o e=>(IA.pin (b,o) (Jaj _ (Jaj _ (Za8 hb e)))).1,λb hb=>?_,wA⟩;refine Zad (T.obj _ _ st7 b hb) λo e d=>?_;exact (IA.pin (b,o) (Jaj _ (Jaj _ (Za8 hb e)))).2.1
   cases b with
   | false=>
    refine Zad q9 λm' hm w9=>?_;clear q9;exact again I9 hm w9
   | true=>
    have q9:te σ8 H9 _:=q9;show wpAny _ _ _ _ _ _;refine thn (he _ s9 σ8 H9 _ I9 q9) λy sA ⟨vy,HA,IA,rA,vs,hvs,hlen,m',hm,wA⟩=>?_;refine thn (Zbf (X:=Zbw X (Zbu own fr) scope cl s3 (upd H2 s2.heap.objs.size (.lst [])) fp) _ sA σ8 HA (.ref s2.heap.objs.size) [vy] (.ref s2.heap.objs.size) [y] (λ_ HB=>W (i + 1) m' σ8 HB) IA rfl (.cons rA .nil) ⟨_,vs,vy,rfl,rfl,hvs,hlen,wA⟩) λ_ sB ⟨_,HB,IB,_,wB⟩=>?_;exact again IB hm wB
 exact codeAny_compStart_list loop (T.self _ 0 _ _ _ st4 loop)
theorem SameBut.get {a:Addr} {h h':Heap} (x:Heap.SameBut a h h'):∀ b o,b ≠ a->h.get? b = some o->h'.get? b = some o:=λb o n e=>(x.2 b n).trans e
theorem Za2 (hc:X.calm = true) (B:BlScope X scope own fr) (hi:PI X tg iter wi)
  (hb:∀ cl s H fp,PG (Zbw X (Zbu own fr) scope cl s H fp) tg g/\PTs (Zbw X (Zbu own fr) scope cl s H fp) ifs tt/\PE (Zbw X (Zbu own fr) scope cl s H fp) elt te)
  (hs:∀ x,foldedSetIterable iter X.env x = pure x:=by intro _; rfl):
  PE X (.ListComp elt [⟨tg,iter,ifs,0⟩] scope pos) (tComp own.length fr wi g tt te):=by
 intro pins s σ H Q I h;refine Zao (Zik (scope:=scope) (env:=X.env) λy hy hf=>I.ok.has y.1 (B.free y hy hf)) λcl hclos hcl hcl2=>?_;rw [eval_ListComp];refine Jci (use:=none) rfl hs hclos B.kind B.loc (thn (hi pins s σ H _ I h) λv s1 h1=>thn h1 λitv s2 h2=>?_);refine Zct h2 λit fp tn J H2 e I2 T e93=>?_;clear h2;refine Zav e93 λst2 f2 q=>?_;clear e93;subst e;refine Zlg (RR:=λacc C=>compPost (model X.prog X.w) X.A X.xe none (EP X pins σ Q) acc C) (Q:=Q) hc B hb hcl hcl2 I2 T st2 f2 q ?_;intro D C s' H' I' hq hn n1 n2 n3 n4 n5;obtain ⟨m,hn⟩:=hn;refine ⟨m,hn,λh' hs'=>⟨.ref D,H',I'.turned (it:=C) (t':=s'.toks) (λb o hb e=>SameBut.get hs' b o hb e) n5 (Jb7 (Jb7 n1)) (.inr n4) n2 n3,rfl,hq⟩⟩
theorem Zj2 {i:Nat} {x:Str} {pos' spos:Pos} (hc:X.calm = true) (B:BlScope X scope own fr) (hi:PI X tg iter wi)
  (hb:∀ cl s H fp,PG (Zbw X (Zbu own fr) scope cl s H fp) tg g/\PTs (Zbw X (Zbu own fr) scope cl s H fp) ifs tt/\PE (Zbw X (Zbu own fr) scope cl s H fp) elt te)
  (hN:X.N.Nodup) (hix:X.N[i]? = some x) (hx:X.env.scope.names.lookup x = some .local)
  (hsw:swapsWith (.ListComp elt [⟨tg,iter,ifs,0⟩] scope pos) (some (.Name x pos')) spos.line X.env = pure true)
  (hs:∀ x,foldedSetIterable iter X.env x = pure x:=by intro _; rfl):
  PS X (.Assign [.Name x pos'] (.ListComp elt [⟨tg,iter,ifs,0⟩] scope pos) spos) (tAsg (tComp own.length fr wi g tt te) (Zba i)):=by
 intro pins s σ H D I h;refine Zao (Zik (scope:=scope) (env:=X.env) λy hy hf=>I.ok.has y.1 (B.free y hy hf)) λcl hclos hcl hcl2=>?_;rw [exec_Assign_Name_used _ _ _ _ hsw];refine Jac (Jb1 (Jac ?_));show wpAny _ _ (do let _ <- comprehension (.ListComp elt [⟨tg,iter,ifs,0⟩] scope pos) scope X.env _ (newList []) false (eval iter X.env) (some (assign (.Name x pos') X.env))) _ _ s;refine Jac (Jaz (Jci (use:=some (assign (.Name x pos') X.env)) (Q:=λ_ s'=>SP X pins D .next s') rfl hs hclos B.kind B.loc (thn (hi pins s σ H _ I h) λv s1 h1=>thn h1 λitv s2 h2=>?_))
  (λ_ s' hq=>Jat (Jat hq)) λ_ _ e=>e)
 refine Zct h2 λit fp tn J H2 e I2 T e94=>?_;clear h2;refine Zav e94 λst2 f2 q=>?_;clear e94;subst e;refine Zlg (RR:=λacc C=>compPost (model X.prog X.w) X.A X.xe (some (assign (.Name x pos') X.env)) (λ_ s'=>SP X pins D .next s') acc C) (Q:=λv H'=>Zba i v σ H' D.nx) hc B hb hcl hcl2 I2 T st2 f2 q ?_;intro DD C s' H' I' hq hn n1 n2 n3 n4 n5;obtain ⟨m,hn⟩:=hn;show wpAny _ _ (assign (.Name x pos') X.env (.ref DD)) _ _ s';refine wpAny_assign_Name (Zix I' hN hix (.inl hx) (v:=.ref DD) rfl (λs3 I3 ⟨a,hsa,ha⟩=>?_) (.inr hx));have hCa:C ≠ a:=by
  rcases ha with z | z
  .rw [z]; exact n1
  .exact (n2 x a z).symm
 refine ⟨m,hn.sameBut hsa hCa,λh' hs'=>⟨σ.set i (some (.ref DD)),H',I3.turned (it:=C) (t':=s3.toks) (λb o hb e=>SameBut.get hs' b o hb e) n5 n1 (.inr n4) n2 n3,hq⟩⟩
end
section
variable {X:Cx}
def cV:V->Option Value
 | .ty n=>some (.type n)
 | .ref a=>some (.ref a)
 | _=>none
theorem Zau:Zdc X (.builtin "isinstance") (λxs H Q=>∃ x y c t b,xs = [x,y]/\cV y = some c/\TyOf X.K H x t/\PySem.W.kitOne X.K t c = some b/\Q (.bl b) H):=by
 intro pins s σ H xs us Q I r h;refine Zct h λx y c t b e93 hc ty e94=>?_;clear h;obtain rfl:=e93;obtain ⟨e,q⟩:=e94;refine Zca (vals2 r) λu v e95 rx ry=>?_;obtain rfl:=e95;have hv:v = c:=by
  cases y <;> first | (cases hc; done) | (cases hc; cases ry; rfl)
 subst hv;exact Zof I rx ty e λtk=>⟨.bl b,H,I.tok _,rfl,q⟩
theorem Zfd (bs:List Bool):(List.range bs.length).all (λi=>(bs[i]?).getD true) = bs.all id:=by
 rw [Jbm,Jbu,Jbu];constructor
 .intro h b hb;obtain ⟨i,hi,rfl⟩:=Jbb.mp hb;have:=h i (Jcg.mpr hi);rw [Jaa hi] at this;exact this
 .intro h i hi;have hi:=Jcg.mp hi;rw [Jaa hi];exact h _ (Jby hi)
theorem Zkj {A:Around} {prog:Program} {w:World} {bs:List Bool} {its:List Value} (r:Vals (bs.map V.bl) its):TruthOf prog w A (λi v=>its.toArray[i]? = some v) (λi=>(bs[i]?).getD true):=by
 intro i v s Q E hP hQ;have hP:its[i]? = some v:=by simpa using hP
 have hl:=r.length;rw [Jab] at hl;have hi:i < bs.length:=by rw [hl]; exact (Jaw.mp hP).1
 obtain ⟨u,hu,rv⟩:=r.get (i:=i) (x:=.bl bs[i]) (by rw [Jbc,Jaa hi]; rfl);rw [hP] at hu;cases hu;cases rv;have hQ:Q ((bs[i]?).getD true) s:=hQ;rw [Jaa hi] at hQ;exact Jbn hQ
theorem Zcl (hc:X.calm = true):Zdc X (.builtin "all") (λxs H Q=>∃ (p:Addr) (bs:List Bool),xs = [.ref p]/\SqL X.K H p (bs.map V.bl)/\Q (.bl (bs.all id)) H):=by
 intro pins s σ H xs us Q I r h;refine Zca h λp bs e96 hq q=>?_;clear h;obtain rfl:=e96;refine Zad (Zh0 r) λu e97 rx=>?_;obtain rfl:=e97;cases rx;refine Zao (I.list hq) λits rv pl hz=>?_;have hl:=rv.length;rw [Jab] at hl;refine call_all_walk (Jd3 pl.isList ?_);have hne:p ≠ s.heap.objs.size:=λe=>by
  refine Zbo pl λo n ho _=>?_;clear pl;exact absurd (Jaf ho) (by rw [e]; exact Jbp _)
 refine xI7_1 s.heap.objs.size _ _ _ _ _ (λi=>(bs[i]?).getD true) ⟨rfl,Walks.list (A:=X.A.in1) (I.ok.hd hc) _ p hne its.toArray,⟨⟨_,Ja8 _ rfl,rfl,rfl⟩,pl.isList.at λo e=>Jae _ e⟩,Zkj rv,λh' tk kp=>?_⟩;have e:(List.range its.toArray.size).all (λi=>(bs[i]?).getD true) = bs.all id:=by
  rw [Jak,<- hl]; exact Zfd bs
 rw [e];have f:=I.fpOk (H':=H) (Jah s.heap.objs.size) (I.hok.fresh (Jah _));exact Zaz (.bl _) H ⟨(I.kept (h':=s.heap.push { cls:=.type "list_iterator",data:=.fields #[.ref p,.int 0 0] }) (t':=s.toks) λb o e=>Jae _ e).turned (it:=s.heap.objs.size) (t':=tk) (λb o hb e=>kp b o (by simpa using hb) e) f.1 f.2.1 f.2.2.2.1 f.2.2.2.2.1 f.2.2.2.2.2,rfl,q⟩
theorem Zji:Zdc X (.type "range") (λxs H Q=>∃ j,xs = [.int j]/\∀ p,H p = none->Q (.ref p) (upd H p (.rng 0 j))):=by
 intro pins s σ H xs us Q I r h;refine Zad h λj e910 q=>?_;clear h;obtain rfl:=e910;refine Zad (Zh0 r) λu e911 e912=>?_;obtain rfl:=e911;obtain ⟨t,rfl⟩:=e912;refine call_range_1 ⟨.ref s.heap.objs.size,_,I.laid (a:=s.heap.objs.size) (o:=.rng 0 j) (λb o e=>Jae _ e) (Jah _) ?_,rfl,q _ (I.hok.fresh (Jah _))⟩;exact Zbg _ _ _ (Ja8 _ rfl)
def Znk (lo hi:Int):List V:=(List.range (hi - lo).toNat).map λi=>V.int (lo + (i:Nat))
theorem Zfb (hc:X.calm = true):Zdc X (.type "list") (λxs H Q=>∃ p lo hi,xs = [.ref p]/\H p = some (.rng lo hi)/\(-(2 ^ 62)<=lo/\lo < 2 ^ 62/\-(2 ^ 62)<=hi/\hi < 2 ^ 62)/\(hi - lo).toNat<=2 ^ 24 /\
  ∀ l,H l = none->Q (.ref l) (upd H l (.lst (Znk lo hi)))):=by
 intro pins s σ H xs us Q I r h;refine Zb1 h λp lo hi e917 hp e918 e919=>?_;clear h;obtain rfl:=e917;obtain ⟨h1,h2,h3,h4⟩:=e918;obtain ⟨hz,q⟩:=e919;refine Zad (Zh0 r) λu e920 rx=>?_;obtain rfl:=e920;cases rx;refine xE3_1 (show ObjOk X.prog X.w H s.heap p (.rng lo hi) from I.hok p _ hp) λt u v ho=>?_;have hn:Builtin.Range.rangeSize lo hi 1 = (((hi - lo).toNat:Nat):Int):=by rw [rangeSize_one]; split <;> omega
 refine call_list_range (I.ok.hd hc) (show IsRange s.heap p lo hi 1 t u v from ho) (small_one h1 h2 h3 h4) hn hz λh' tk acc' c' kp e it=>?_;refine Zaz (.ref s.heap.objs.size) _ ⟨I.laid (a:=s.heap.objs.size) (o:=.lst (Znk lo hi)) (t':=tk) kp (Jah _) ?_,rfl,q _ (I.hok.fresh (Jah _))⟩;refine ⟨by unfold Znk; rw [Jab,Jcw]; exact hz,acc'.toList,c',?_,by simpa using e⟩;have hlen:acc'.toList.length = (hi - lo).toNat:=by rw [Jdm]; exact it.1
 have gen:∀ (n:Nat) (k:Nat) (us:List Value),us.length = n->(∀ (i:Nat) w',us[i]? = some w'->∃ t,w' = Value.int (lo + ((k + i:Nat):Int)) t)->Vals ((List.range' k n).map λ(i:Nat)=>V.int (lo + (i:Nat))) us:=by
  intro n
  induction n with
  | zero=>intro k us hl _; cases us with | nil=>exact .nil | cons _ _=>cases hl
  | succ n ih=>
   intro k us hl hv;cases us with
   | nil=>cases hl
   | cons x us=>
    refine .cons ?_ (ih (k + 1) us (by simpa using hl) λi w' e=>?_)
    .obtain ⟨t,e⟩:=hv 0 x rfl;exact ⟨t,by simpa using e⟩
    .obtain ⟨t,e'⟩:=hv (i + 1) w' (by simpa using e);exact ⟨t,by rw [e',show ((k + (i + 1):Nat):Int) = ((k + 1 + i:Nat):Int) by omega]⟩
 unfold Znk;rw [List.range_eq_range'];refine gen _ 0 _ hlen λi w' e'=>?_;obtain ⟨t,e2⟩:=it.2 i w' (by simpa using e');exact ⟨t,by rw [e2]; congr 1 <;> simp⟩
end
inductive EqD (K:PySem.W.Frag) (H:Hp):Nat->V->V->Bool->Prop where
 | flat {n:Nat} {x y:V} (hx:Zha x = true) (hy:Zha y = true):EqD K H n x y (eqV x y)
 | same {n:Nat} {a:Addr}:EqD K H n (.ref a) (.ref a) true
 | list {n:Nat} {a c:Addr} {xs ys:List V} {bs:List Bool} (ne:a ≠ c) (ha:SqL K H a xs) (hc:SqL K H c ys) (hl:xs.length = ys.length) (hb:bs.length = xs.length)
   (he:∀ (j:Nat) x y b,xs[j]? = some x->ys[j]? = some y->bs[j]? = some b->EqD K H n x y b):EqD K H (n + 1) (.ref a) (.ref c) (bs.all id)
 | listL {n:Nat} {a c:Addr} {xs ys:List V} (ne:a ≠ c) (ha:SqL K H a xs) (hc:SqL K H c ys) (hl:xs.length ≠ ys.length):EqD K H (n + 1) (.ref a) (.ref c) false
 | tuple {n:Nat} {a c:Addr} {xs ys:List V} {bs:List Bool} (ne:a ≠ c) (ha:SqT K H a xs) (hc:SqT K H c ys) (hl:xs.length = ys.length) (hb:bs.length = xs.length)
   (he:∀ (j:Nat) x y b,xs[j]? = some x->ys[j]? = some y->bs[j]? = some b->EqD K H n x y b):EqD K H (n + 1) (.ref a) (.ref c) (bs.all id)
def Zin (K:PySem.W.Frag) (H:Hp) (n:Nat) (xs ys:List V) (bs:List Bool):Prop:=
 xs.length = ys.length/\bs.length = xs.length/\∀ (j:Nat) x y b,xs[j]? = some x->ys[j]? = some y->bs[j]? = some b->EqD K H n x y b
section
variable {X:Cx} {pins:List (Addr × Obj)} {σ:St} {H:Hp} {s:Shared}
theorem Zie {A:Around} {xs ys:List V} {us vs:List Value} {bs:List Bool} (rx:Vals xs us) (ry:Vals ys vs) (hl:xs.length = ys.length) (hb:bs.length = xs.length)
  (ih:∀ (j:Nat) x y b,xs[j]? = some x->ys[j]? = some y->bs[j]? = some b->∀ u v,RelV x u->RelV y v->SeqAt.EqAt A s u v b):
  ∀ j (h1:j < us.toArray.size) (h2:j < vs.toArray.size),SeqAt.EqAt A s us.toArray[j] vs.toArray[j] ((bs[j]?).getD true):=by
 intro j h1 h2;have e1:=rx.length;have e2:=ry.length;have h1':j < us.length:=by simpa using h1
 have h2':j < vs.length:=by simpa using h2
 have g1:xs[j]? = some (xs[j]'(by omega)):=Jaa _;have g2:ys[j]? = some (ys[j]'(by omega)):=Jaa _;have g3:bs[j]? = some (bs[j]'(by omega)):=Jaa _;refine Zad (rx.get g1) λu hu ru=>?_;refine Zad (ry.get g2) λv hv rv=>?_;have eu:us.toArray[j] = u:=by
  rw [Jaa h1'] at hu; simpa using hu
 have ev:vs.toArray[j] = v:=by
  rw [Jaa h2'] at hv; simpa using hv
 rw [eu,ev,g3];exact ih j _ _ _ g1 g2 g3 u v ru rv
theorem EqD.at {n:Nat} {x y:V} {b:Bool} (I:Inv X pins σ H s) (e:EqD X.K H n x y b):∀ {A:Around} {u v:Value},A.units + n < cLine->RelV x u->RelV y v->SeqAt.EqAt A s u v b:=by
 induction e with
 | flat hx hy=>intro A u v _ ru rv; exact Zry ru rv hx hy
 | same=>intro A u v _ ru rv; cases ru; cases rv; exact SeqAt.EqAt.same _
 | @list n a c xs ys bs ne ha hc hl hb he ih=>
  intro A u v hA ru rv;cases ru;cases rv;refine Zao (I.list ha) λits r1 p1 _=>?_;refine Zao (I.list hc) λits' r2 p2 _=>?_;have e1:=r1.length;have e2:=r2.length;have q:=SeqAt.RcAt.lists (e:=λj=>(bs[j]?).getD true) p1.isList p2.isList (by simp; omega) (by omega) (Zie (A:=A.in1) r1 r2 hl hb λj x y b h1 h2 h3 u v ru rv=>ih j x y b h1 h2 h3 (show A.units + 1 + n < cLine by omega) ru rv);rw [show its.toArray.size = bs.length by simp; omega,Zfd] at q;exact Jdy ne q
 | @listL n a c xs ys ne ha hc hl=>
  intro A u v hA ru rv;cases ru;cases rv;refine Zao (I.list ha) λits r1 p1 _=>?_;refine Zao (I.list hc) λits' r2 p2 _=>?_;have e1:=r1.length;have e2:=r2.length;exact Jdy ne (SeqAt.RcAt.lists_lengths p1.isList p2.isList (by simp; omega) (by omega))
 | @tuple n a c xs ys bs ne ha hc hl hb he ih=>
  intro A u v hA ru rv;cases ru;cases rv;refine Zao (I.tuple ha) λits r1 p1 _=>?_;refine Zao (I.tuple hc) λits' r2 p2 _=>?_;have e1:=r1.length;have e2:=r2.length;have q:=SeqAt.RcAt.tuples (e:=λj=>(bs[j]?).getD true) p1 p2 (by omega) (Zie (A:=A.in1) r1 r2 hl hb λj x y b h1 h2 h3 u v ru rv=>ih j x y b h1 h2 h3 (show A.units + 1 + n < cLine by omega) ru rv);rw [show min its.toArray.size its'.toArray.size = bs.length by simp; omega,Zfd,show (its.toArray.size == its'.toArray.size) = true by simp; omega,Bool.and_true] at q;exact Jdy ne q
def rEqL (K:PySem.W.Frag) (neg:Bool):R2:=λx y H Q=>∃ a c xs ys,x = .ref a/\y = .ref c/\SqL K H a xs/\SqL K H c ys /\
 ((xs.length ≠ ys.length/\Q (.bl neg) H)\/∃ bs,Zin K H 6 xs ys bs/\Q (.bl (if neg then !bs.all id else bs.all id)) H)
def rEqT (K:PySem.W.Frag) (neg:Bool):R2:=λx y H Q=>∃ a c xs ys bs,x = .ref a/\y = .ref c/\SqT K H a xs/\SqT K H c ys/\Zin K H 6 xs ys bs/\Q (.bl (if neg then !bs.all id else bs.all id)) H
theorem Znz (hu:X.A.units + 8 < cLine):OpR X (compareOp .Eq) (rEqL X.K false):=by
 intro pins s σ H x y v u Q I rx ry h;refine Zcu h λa c xs ys e921 e922 ha e923=>?_;clear h;obtain rfl:=e921;obtain rfl:=e922;obtain ⟨hc,h⟩:=e923;cases rx;cases ry;refine Zao (I.list ha) λits r1 p1 _=>?_;refine Zao (I.list hc) λits' r2 p2 _=>?_;have e1:=r1.length;have e2:=r2.length;rcases h with ⟨hne,q⟩ | ⟨bs,⟨hl,hb,he⟩,q⟩
 .exact SeqAt.eq_list_lengthsAt p1.isList p2.isList (by simp; omega) (by omega) ⟨.bl false,H,I,rfl,q⟩
 .refine SeqAt.eq_listAt (e:=λj=>(bs[j]?).getD true) p1.isList p2.isList (by simp; omega) (by omega) (Zie (A:=X.A.in1) r1 r2 hl hb λj x y b h1 h2 h3 u v ru rv=>(he j x y b h1 h2 h3).at I (show X.A.units + 1 + 6 < cLine by omega) ru rv) ?_;rw [show its.toArray.size = bs.length by simp; omega,Zfd];exact Zaz (.bl (bs.all id)) H ⟨I,rfl,q⟩
end
theorem Zjb (K:PySem.W.Frag):PySem.W.kitOne K (.type "int") (.type "int") = some true:=by rfl
theorem Zhs (K:PySem.W.Frag):PySem.W.kitOne K (.type "int") (.type "bool") = some false:=by kernel_rfl
theorem Zj9 (K:PySem.W.Frag):PySem.W.kitOne K (.type "bool") (.type "bool") = some true:=by rfl
theorem Zl1 (K:PySem.W.Frag):PySem.W.kitOne K (.type "bool") (.type "int") = some true:=by kernel_rfl
theorem Zja (K:PySem.W.Frag):PySem.W.kitOne K (.type "tuple") (.type "tuple") = some true:=by rfl
theorem Zdb (K:PySem.W.Frag):PySem.W.kitOne K (.type "list") (.type "list") = some true:=by rfl
structure Cal (P:Program) (w:World) (K:PySem.W.Frag) (mg:Str->Option Value) (base:Heap) (x:Str) (k:Nat) (sp:Sp):Prop where
 ex:∃ (f:Addr) (fd:FuncData) (ps:List Str),FnOk P w K mg base CX0 k f fd ps sp/\mg x = some (.ref f)/\PySem.W.keepIn K (.ref f) = true/\Binds K fd ps []
theorem pe_cal {X:Cx} {x:Str} {k:Nat} {sp:Sp} {e:Expr} {es:List Expr} {t:TA} {p pos:Pos} (C:Cal X.prog X.w X.K X.mg X.base x k sp) (hr:Room k X.A) (hg:Gl X x) (ha:PA X (e :: es) t)
  (hdb:(x == ("__debug__" : Str)) = false:=by decide) (he:starEach (e :: es) X.env = (false,eval e X.env) :: starEach es X.env:=by rfl) (hpl:(backTo pos (starEach es X.env)).any (·.1) = false:=by rfl):
  PE X (.Call (.Name x p) (e :: es) [] pos) (Zjr sp [] E0 t):=by
 refine Zb1 C.ex λf fd ps F hm hk hb=>?_;exact Znu F hr hg hm hk hb .nil Znv ha hdb he hpl
structure CalM (P:Program) (w:World) (K:PySem.W.Frag) (mg:Str->Option Value) (base:Heap) (C:Addr) (m:Str) (k:Nat) (sp:Sp):Prop where
 ex:∃ (f:Addr) (fd:FuncData) (ps:List Str),FnOk P w K mg base CX0 k f fd ps sp/\Meth K C m f/\Binds K fd ps []
structure CalI (P:Program) (w:World) (K:PySem.W.Frag) (mg:Str->Option Value) (base:Heap) (x:Str) (C:Addr) (k:Nat) (sp:Sp):Prop where
 ex:∃ (f:Addr) (fd:FuncData) (ps:List Str),FnOk P w K mg base CX0 k f fd ps sp/\Mk K C f/\mg x = some (.ref C)/\Binds K fd ps []
theorem pe_new {X:Cx} {x:Str} {C:Addr} {k:Nat} {sp:Sp} {e:Expr} {es:List Expr} {t:TA} {p pos:Pos} (M:CalI X.prog X.w X.K X.mg X.base x C k sp) (hr:Room (k + 1) X.A) (hg:Gl X x) (ha:PA X (e :: es) t)
  (hdb:(x == ("__debug__" : Str)) = false:=by decide) (he:starEach (e :: es) X.env = (false,eval e X.env) :: starEach es X.env:=by rfl) (hpl:(backTo pos (starEach es X.env)).any (·.1) = false:=by rfl):
  PE X (.Call (.Name x p) (e :: es) [] pos) (Zpq C sp [] E0 t):=by
 refine Zb1 M.ex λf fd ps F hm hk hb=>?_;exact pe_make hm F hr hg hk hb .nil Znv ha hdb he hpl
theorem pe_mth {X:Cx} {m:Str} {C:Addr} {k:Nat} {sp:Sp} {o e:Expr} {es:List Expr} {ta:TE} {t:TA} {apos pos:Pos} {pl:Sem Bool} (c:Cls X.K C) (M:CalM X.prog X.w X.K X.mg X.base C m k sp) (hr:Room k X.A) (ho:PE X o ta) (ha:PA X (e :: es) t)
  (hst:starEach (e :: es) X.env = (false,eval e X.env) :: starEach es X.env:=by rfl) (hpl:(backTo pos (starEach es X.env)).any (·.1) = false:=by rfl)
  (ht:eval (.Call (.Attribute o m apos) (e :: es) [] pos) X.env = (do
   let ov <- eval o X.env
   standAt apos.atName
   let (f,first) <- holding [ov] (getMethod ov m pl)
   callWith pos f first (backTo pos (starEach (e :: es) X.env)) (backToKw pos (keywordEach [] X.env))):=by rfl):
  PE X (.Call (.Attribute o m apos) (e :: es) [] pos) (Zmv C m sp [] E0 ta t):=by
 refine Zir M.ex λf fd ps F hm hb=>?_;exact pe_meth ho c hm F hr hb .nil Znv ha hst hpl ht
def blOk (outer:List (Str × NameKind)) (N:List Str) (scope:Scope) (fr:List (Str × Nat)):Bool:=
 scope.kind == .function && scope.names.all (λy=>y.2 != .free || outer.lookup y.1 == some .cell || outer.lookup y.1 == some .free) && scope.names.all (λy=>scope.names.lookup y.1 == some y.2) &&
 fr.all λy=>scope.names.lookup y.1 == some .free && N[y.2]? == some y.1
theorem Zb5 {X:Cx} {scope:Scope} {own:List Str} {fr:List (Str × Nat)} (h:blOk X.env.scope.names X.N scope fr = true):BlScope X scope own fr:=by
 unfold blOk at h;simp only [Jbx,Jbu] at h;obtain ⟨⟨⟨h1,h2⟩,h3⟩,h4⟩:=h;refine ⟨?_,λy hy hf=>?_,λy hy hl=>?_,λy hy=>?_,λy hy=>?_⟩
 .cases e:scope.kind <;> rw [e] at h1 <;> first | rfl | (exact absurd h1 (by decide))
 .have:=h2 y hy;rw [hf] at this;simp only [Jc7,Jbg] at this;rcases this with (q | q) | q
  .exact absurd q (by decide)
  .exact .inl q
  .exact .inr q
 .have:=h3 y hy;rw [hl] at this;exact Jbg.mp this
 .exact Jbg.mp (h3 y hy)
 .have:=h4 y hy;exact ⟨Jbg.mp this.1,Jbg.mp this.2⟩
def Sh (k:Nat) (cap σ:St):Prop:=∃ o,o.length = k/\σ = o ++ cap
theorem Sh.mk1 {cap:St} {a:Option V}:Sh 1 cap (a :: cap):=⟨[a],rfl,rfl⟩
theorem Sh.one {cap σ:St} (h:Sh 1 cap σ):∃ a,σ = a :: cap:=by
 refine Zad h λo h1 e92=>?_;clear h;obtain rfl:=e92
 match o,h1 with
 | [a],_=>exact ⟨a,rfl⟩
def Zcr (fr:List (Str × Nat)) (σ:St):St:=fr.map λy=>(σ[y.2]?).getD none
def Wv (n k:Nat) (cap:St) (Pv:Nat->List V->Hp->Prop):Nat->Nat->St->Hp->Prop:=λi m σ H=>m = n - i/\i<=n/\Sh k cap σ/\∃ vs,Pv i vs H
def Lf (D:Addr) (n k:Nat) (cap:St) (Pv:Nat->List V->Hp->Prop) (i:Nat) (σ4:St) (y:V) (H6:Hp):Prop:=
 ∃ vs,H6 D = some (.lst vs)/\vs.length < sizeLine/\∃ m',m' < n - i/\Wv n k cap Pv (i + 1) m' σ4 (upd H6 D (.lst (vs ++ [y])))
def Lf0 (n k:Nat) (cap:St) (Pv:Nat->List V->Hp->Prop) (i:Nat) (σ4:St) (H5:Hp):Prop:=∃ m',m' < n - i/\Wv n k cap Pv (i + 1) m' σ4 H5
theorem leaf {D:Addr} {n k:Nat} {cap:St} {Pv:Nat->List V->Hp->Prop} {i:Nat} {σ4:St} {y:V} {H6:Hp} {vs ws:List V} (hi:i < n) (sh:Sh k cap σ4) (hD:H6 D = some (.lst vs)) (hl:vs.length < sizeLine)
  (p:Pv (i + 1) ws (upd H6 D (.lst (vs ++ [y])))):Lf D n k cap Pv i σ4 y H6:=⟨vs,hD,hl,n - (i + 1),by omega,rfl,hi,sh,ws,p⟩
theorem leaf0 {n k:Nat} {cap:St} {Pv:Nat->List V->Hp->Prop} {i:Nat} {σ4:St} {H5:Hp} {ws:List V} (hi:i < n) (sh:Sh k cap σ4) (p:Pv (i + 1) ws H5):Lf0 n k cap Pv i σ4 H5:=⟨n - (i + 1),by omega,rfl,hi,sh,ws,p⟩
def Zdi (g:TG) (tt:TT) (te:TE) (D:Addr) (n k:Nat) (cap:St) (Pv:Nat->List V->Hp->Prop) (i:Nat) (x:V) (σ':St) (H:Hp):Prop:=
 g x σ' H λσ4 H4=>tt σ4 H4 λb H5=>if b = true then te σ4 H5 λy H6=>Lf D n k cap Pv i σ4 y H6 else Lf0 n k cap Pv i σ4 H5
section
variable {K:PySem.W.Frag} {a D:Addr} {xs:List V} {g:TG} {tt:TT} {te:TE} {k:Nat} {fr:List (Str × Nat)} {σ:St} {H1:Hp} {Q:VK}
theorem sh0:Sh k (Zcr fr σ) (Zfv k fr σ):=⟨List.replicate k none,Jce,rfl⟩
theorem Zii {J:It} {n:Nat} (it:Nat->V->Prop) (Pv:Nat->List V->Hp->Prop) (h0:Pv 0 [] (upd H1 D (.lst [])))
  (go:∀ i vs H,i < n->Pv i vs H->J.go i H/\∀ x H',J.yld i H x H'->H' = H/\it i x) (stop:∀ vs H,Pv n vs H->J.stop n H)
  (hs:∀ i x vs σ' H,i < n->it i x->Sh k (Zcr fr σ) σ'->Pv i vs H->Zdi g tt te D n k (Zcr fr σ) Pv i x σ' H) (hd:∀ vs H,Pv n vs H->Q (.ref D) H):Zb6 g tt te J D (Zfv k fr σ) H1 Q:=by
 refine ⟨Wv n k (Zcr fr σ) Pv,⟨n,by simp,Jb6 _,sh0,[],h0⟩,?_⟩;intro i m σ' H2 e91;refine Zbh e91 λe94 hi sh e95=>?_;clear e91;obtain rfl:=e94;obtain ⟨vs,p⟩:=e95;by_cases hlt:i < n
 .obtain ⟨g1,g2⟩:=go i vs H2 hlt p;refine .inr ⟨g1,λx H3 y=>?_⟩;obtain ⟨rfl,hx⟩:=g2 x H3 y;exact hs i x vs σ' _ hlt hx sh p
 .have e:i = n:=by omega
  subst e;exact .inl ⟨stop vs H2 p,hd vs H2 p⟩
theorem Zb0 (Pv:Nat->List V->Hp->Prop) (h0:Pv 0 [] (upd H1 D (.lst []))) (hl:∀ i vs H,i<=xs.length->Pv i vs H->SqL K H a xs)
  (hs:∀ i x vs σ' H,i < xs.length->xs[i]? = some x->Sh k (Zcr fr σ) σ'->Pv i vs H->Zdi g tt te D xs.length k (Zcr fr σ) Pv i x σ' H) (hd:∀ vs H,Pv xs.length vs H->Q (.ref D) H):Zb6 g tt te (Itl K a) D (Zfv k fr σ) H1 Q:=
 Zii (λi x=>xs[i]? = some x) Pv h0 (λi vs H hi p=>⟨⟨xs,xs[i],hl i vs H (Jcd hi) p,by simp [hi]⟩,λx H' y=>⟨y.1,y.2 xs (hl i vs H (Jcd hi) p)⟩⟩)
  (λvs H p=>⟨xs,hl _ vs H (Jah _) p,Jah _⟩) hs hd
theorem Zq7 (Pv:Nat->List V->Hp->Prop) (h0:Pv 0 [] (upd H1 D (.lst []))) (hl:∀ i vs H,i<=xs.length->Pv i vs H->SqT K H a xs)
  (hs:∀ i x vs σ' H,i < xs.length->xs[i]? = some x->Sh k (Zcr fr σ) σ'->Pv i vs H->Zdi g tt te D xs.length k (Zcr fr σ) Pv i x σ' H) (hd:∀ vs H,Pv xs.length vs H->Q (.ref D) H):Zb6 g tt te (Itt K a) D (Zfv k fr σ) H1 Q:=
 Zii (λi x=>xs[i]? = some x) Pv h0 (λi vs H hi p=>⟨⟨xs,xs[i],hl i vs H (Jcd hi) p,by simp [hi]⟩,λx H' y=>⟨y.1,y.2 xs (hl i vs H (Jcd hi) p)⟩⟩)
  (λvs H p=>⟨xs,hl _ vs H (Jah _) p,Jah _⟩) hs hd
theorem Zgd {lo:Int} {n:Nat} (Pv:Nat->List V->Hp->Prop) (h0:Pv 0 [] (upd H1 D (.lst [])))
  (hs:∀ i x vs σ' H,i < n->x = .int (lo + i)->Sh k (Zcr fr σ) σ'->Pv i vs H->Zdi g tt te D n k (Zcr fr σ) Pv i x σ' H) (hd:∀ vs H,Pv n vs H->Q (.ref D) H):Zb6 g tt te (Itr lo n) D (Zfv k fr σ) H1 Q:=
 Zii (λi x=>x = .int (lo + i)) Pv h0 (λi vs H hi p=>⟨hi,λx H' y=>y⟩) (λvs H p=>Jah _) hs hd
end
def Ext (l:Addr) (H H':Hp):Prop:=∀ b o,b ≠ l->H b = some o->H' b = some o
theorem Ext.trans {l:Addr} {H H1 H2:Hp} (a:Ext l H H1) (b:Ext l H1 H2):Ext l H H2:=λc o n e=>b c o n (a c o n e)
theorem Ext.new {l p:Addr} {H:Hp} {o:HO} (h:H p = none):Ext l H (upd H p o):=λc u _ e=>by rw [Zaf (Zag e h)]; exact e
theorem Ext.set {l:Addr} {H:Hp} {o:HO}:Ext l H (upd H l o):=λc u n e=>by rw [Zaf n]; exact e
theorem Same.ext {l:Addr} {H H':Hp} (s:Same H H'):Ext l H H':=λc o _ e=>s c o e
theorem Same.new {p:Addr} {H:Hp} {o:HO} (h:H p = none):Same H (upd H p o):=λc u e=>by rw [Zaf (Zag e h)]; exact e
theorem Same.upd {p:Addr} {H H':Hp} {o:HO} (s:Same H H') (h:H p = none):Same H (upd H' p o):=λc u e=>by rw [Zaf (Zag e h)]; exact s c u e
theorem Ext.upd {l p:Addr} {H H':Hp} {o:HO} (s:Ext l H H') (h:H p = none):Ext l H (upd H' p o):=λc u n e=>by rw [Zaf (Zag e h)]; exact s c u n e
theorem Ext.free {l p:Addr} {H H':Hp} (s:Ext l H H') (n:p ≠ l) (h:H' p = none):H p = none:=by
 cases e:H p with
 | none=>rfl
 | some o=>rw [s p o n e] at h; cases h
theorem cx_K {CX:CXT} {P:Program} {w:World} {K:PySem.W.Frag} {mg:Str->Option Value} {base:Heap} {N:List Str} {qual:Str} {scope:Scope} {f:Addr} {cd:Value} {A:Around} {outer:List Env} {s:Shared} {H:Hp} {E:XK}:(Zke CX P w K mg base N qual scope f cd A outer s H E).K = K:=rfl
theorem in_K {X:Cx} {N:List Str} {scope:Scope} {cl:List (Str × Addr)} {s:Shared} {H:Hp} {fp:List Addr}:(Zbw X N scope cl s H fp).K = X.K:=rfl
theorem wish_K {X:Cx} {E:Value->Shared->Prop}:(X.wish E).K = X.K:=rfl
theorem Zgc {X:Cx} {x:Str} {i:Int} {pos:Pos} (hg:Gl X x) (hm:∃ t,X.mg x = some (.int i t)) (hd:(x == ("__debug__" : Str)) = false:=by decide):PE X (.Name x pos) (tC (.int i)):=by
 obtain ⟨t,e⟩:=hm;exact Zbx hg e ⟨t,rfl⟩ hd
theorem Zhe {α:Type} {xs:List α} {i:Int} {v:α} (h0:0<=i) (h:xs[i.toNat]? = some v):atI xs i = some v:=by
 have e:((i.toNat:Nat):Int) = i:=Jca h0;rw [<- e];exact atI_nat h
def Za7:Expr->Bool
 | .Starred _ _=>true
 | _=>false
theorem Zaw {e:Expr} {es:List Expr} {env:Env} (h:Za7 e = false):starEach (e :: es) env = (false,eval e env) :: starEach es env:=by
 cases e <;> first | rfl | cases h
theorem Zci {pos:Pos} {env:Env}:∀ {es:List Expr},es.all (λx=>!Za7 x) = true->(backTo pos (starEach es env)).any (·.1) = false
 | [],_=>rfl
 | e :: es,h=>by
  rw [Jcm,Jbx] at h;have h1:Za7 e = false:=by simpa using h.1
  rw [Zaw h1];show ((false,_).1 || (backTo pos (starEach es env)).any (·.1)) = false;rw [Zci h.2];rfl
section
variable {X:Cx} {x:Str} {p pos:Pos} {e:Expr} {es:List Expr} {te:TE} {t:TA} {id T:String} {r:List V->Hp->VK->Prop}
theorem pa_c (ha:PE X e te) (hr:PA X es t) (h:Za7 e = false:=by rfl):PA X (e :: es) (Zga te t):=pa_cons ha hr (Zaw h)
theorem Za0 (hc:Zdc X (.builtin id) r) (hg:Gl X x) (hm:X.mg x = none) (hv:bootBuiltins x = some (.builtin id)) (ha:PA X (e :: es) t) (h:Za7 e = false:=by rfl) (h2:es.all (λx=>!Za7 x) = true:=by rfl)
  (hn:x ≠ "__name__" := by decide) (hdb:(x == ("__debug__" : Str)) = false:=by decide):PE X (.Call (.Name x p) (e :: es) [] pos) (tCB r t):=Zp6 hc hg hm hv ha hn hdb (Zaw h) (Zci h2)
theorem Zg3 (hc:Zdc X (.type T) r) (hg:Gl X x) (hm:X.mg x = none) (hv:bootBuiltins x = some (.type T)) (ha:PA X (e :: es) t) (h:Za7 e = false:=by rfl) (h2:es.all (λx=>!Za7 x) = true:=by rfl)
  (hn:x ≠ "__name__" := by decide) (hdb:(x == ("__debug__" : Str)) = false:=by decide):PE X (.Call (.Name x p) (e :: es) [] pos) (tCB r t):=Znt hc hg hm hv ha hn hdb (Zaw h) (Zci h2)
theorem Zby {k:Nat} {sp:Sp} (C:Cal X.prog X.w X.K X.mg X.base x k sp) (hr:Room k X.A) (hg:Gl X x) (ha:PA X (e :: es) t) (h:Za7 e = false:=by rfl) (h2:es.all (λx=>!Za7 x) = true:=by rfl)
  (hdb:(x == ("__debug__" : Str)) = false:=by decide):PE X (.Call (.Name x p) (e :: es) [] pos) (Zjr sp [] E0 t):=pe_cal C hr hg ha hdb (Zaw h) (Zci h2)
theorem pe_n {C:Addr} {k:Nat} {sp:Sp} (M:CalI X.prog X.w X.K X.mg X.base x C k sp) (hr:Room (k + 1) X.A) (hg:Gl X x) (ha:PA X (e :: es) t) (h:Za7 e = false:=by rfl) (h2:es.all (λx=>!Za7 x) = true:=by rfl)
  (hdb:(x == ("__debug__" : Str)) = false:=by decide):PE X (.Call (.Name x p) (e :: es) [] pos) (Zpq C sp [] E0 t):=pe_new M hr hg ha hdb (Zaw h) (Zci h2)
theorem Zj3 {tg a:Expr} {ta:TA} (hg:Gl X "range") (hm:X.mg "range" = none) (ha:PA X [a] ta) (h:Za7 a = false:=by rfl):PI X tg (.Call (.Name "range" p) [a] [] pos) (iRng1 ta):=Znq hg hm ha (Zaw h)
theorem pi_r2 {tg a b:Expr} {ta:TA} (hg:Gl X "range") (hm:X.mg "range" = none) (ha:PA X [a,b] ta) (h:Za7 a = false:=by rfl) (h2:Za7 b = false:=by rfl):PI X tg (.Call (.Name "range" p) [a,b] [] pos) (iRng2 ta):=
 Znp hg hm ha (by rw [Zaw h,Zaw h2]; rfl) (Zaw h2)
end
theorem scal_ii {i j:Int}:scal (.int i) (.int j) = true:=rfl
theorem scal_bb {i j:Bool}:scal (.bl i) (.bl j) = true:=rfl
theorem scal_ss {i j:Str}:scal (.str i) (.str j) = true:=rfl
theorem Zfo {X:Cx} {x:Str} {n:String} {pos:Pos} (hg:Gl X x) (hm:X.mg x = none) (hv:bootBuiltins x = some (.type n)) (hn:x ≠ "__name__" := by decide) (hd:(x == ("__debug__" : Str)) = false:=by decide):PE X (.Name x pos) (tC (.ty n)):=pe_bltn (v:=.ty n) hg hm hv rfl hn hd
section
variable {X:Cx} (K:PySem.W.Frag) (hK:X.K = K)
include hK
theorem Zib {pos:Pos} {es:List Expr} {k:Nat} {t:TGs} {n:Nat} (hc:X.calm = true) (h:PGs X es t) (hn:(assignEach es X.env).length = n) (hst:(assignEach es X.env).findIdx? (·.1) = none):PG X (.Tuple es k pos) (gTup K n t):=by subst hK; exact Zdx hc h hn hst
theorem Zim:Zdc X (.builtin "len") (λxs H Q=>∃ p ys,xs = [.ref p]/\(SqL K H p ys\/SqT K H p ys)/\Q (.int ys.length) H):=by subst hK; exact Zaq
theorem Zil:Zdc X (.type "list") (λxs H Q=>∃ p ys,xs = [.ref p]/\(SqL K H p ys\/SqT K H p ys)/\∀ l,H l = none->Q (.ref l) (upd H l (.lst ys))):=by subst hK; exact Zck
theorem Zla:IxR X (rIxL K):=by subst hK; exact Za3
theorem Zka:IxR X (rIxT K):=by subst hK; exact Zjc
theorem pe_fldK {e:Expr} {f:Str} {pos:Pos} {ta:TE} (he:PE X e ta) (hb:attributeBase e f X.env (eval e X.env) = eval e X.env):PE X (.Attribute e f pos) (tFld K ta f):=by subst hK; exact Zbb he hb
theorem Zia {tg l:Expr} {tl:TE} (hl:PE X l tl):PI X tg l (Zqx K tl):=by subst hK; exact Zat hl
theorem pi_tupK {tg l:Expr} {tl:TE} (hl:PE X l tl):PI X tg l (iTup K tl):=by subst hK; exact Zrm hl
theorem Zlv:OpR X (compareOp .In) (rIn K false):=by subst hK; exact Zi4
theorem Zic:OpR X (compareOp .NotIn) (rIn K true):=by subst hK; exact Zi3
end
theorem cutD {g:TG} {tb:TS} {D:Ends} {x:V} {σ:St} {H:Hp} (h:∀ D':Ends,D' = D->g x σ H λσ2 H2=>tb D' σ2 H2):g x σ H λσ2 H2=>tb D σ2 H2:=h D rfl
end L2
set_option maxHeartbeats 1000000
namespace HT
open PySem PySem.Spec PyProof.Rows
section
variable {prog:Program} {w:World} {A:Around} {E:Value->Shared->Prop} {s:Shared}
end
end HT
namespace L2
open PySem PySem.Spec PyProof.Rows
section
variable {X:Cx} {e es:Expr} {te ts:TE} {pos p2:Pos}
end
end L2
namespace L2
open PySem PySem.Spec PyProof.Rows
section
variable {X:Cx}
def rGetL (K:PySem.W.Frag):V->V->Hp->VK->Prop:=λx y H Q=>∃ p xs i v,x = .ref p/\y = .int i/\0<=i/\SqL K H p xs/\xs[i.toNat]? = some v/\Q v H
end
end L2
namespace L2
open PySem PySem.Spec PyProof.Rows
section
variable {X:Cx} {pins:List (Addr × Obj)} {σ:St} {H:Hp} {s:Shared} {h':Heap}
theorem Inv.turnedL {t':Nat} {fp:List Addr} (I:Inv X pins σ H s) (hf:∀ b ∈ fp,Zio X pins H b) (k:∀ b o,b ∉ fp->s.heap.get? b = some o->h'.get? b = some o):Inv X pins σ H { s with heap:=h',toks:=t' }:=by
 have nit:∀ b u,H b = some u->b ∉ fp:=λb u e z=>by rw [(hf b z).1] at e; cases e
 refine I.step (g':=s.gens) (d':=s.drawn) (ch:=fp) (λb hb=>?_) (λb o _ _ hc e _=>k b o hc e) (λb o _ _ hc e _=>⟨o.slots,k b o hc e⟩) (λ_ _ _ _ n=>n)
  (λb o hc e=>⟨o,k b o hc e⟩) (λ_ _ e=>e) (λ_ _ _ e=>e) (λb ps e=>⟨#[],by rw [e]; simp⟩) (λm hm=>?_) (λb u e=>?_) I.bare
 .refine Zfe (hf b hb) λf0 f1 f2 f3 f4 f5=>?_;exact ⟨f3,f1,f4,f5⟩
 .refine Zd6 hm λo es ep ho r=>?_;clear hm;exact Zbg o es ep ⟨k _ o (λz=>(hf _ z).2.1 rfl) ho,r⟩
 .refine (I.hok b u e).stay (λc v hc q=>k c v ?_ q) (λ_ q=>q) (λ_ _ q=>q) λ_ _ _ q=>q;rcases hc with z | z
  .rw [z]; exact nit b u e
  .exact nit c _ z
theorem Inv.turnedT {t':Nat} {fp:List Addr} {p:Addr} {o:HO} (I:Inv X pins σ H s) (hf:∀ b ∈ fp,Zio X pins H b) (k:∀ b o,b ∉ fp->s.heap.get? b = some o->h'.get? b = some o) (hp:s.heap.objs.size<=p)
  (new:ObjOk X.prog X.w (upd H p o) h' p o):Inv X pins σ (upd H p o) { s with heap:=h',toks:=t' }:=by
 have hn:H p = none:=I.hok.fresh hp;have nit:∀ b u,H b = some u->b ∉ fp:=λb u e z=>by rw [(hf b z).1] at e; cases e
 have npp:∀ b u,s.heap.get? b = some u->b ≠ p:=λb u e=>Ja6 (Jau (Jaf e) hp);refine I.step (g':=s.gens) (d':=s.drawn) (ch:=fp) (λb hb=>?_) (λb o _ _ hc e _=>k b o hc e) (λb o _ _ hc e _=>⟨o.slots,k b o hc e⟩) (λb o _ e n=>by rw [Zaf (npp b o e)]; exact n)
  (λb o hc e=>⟨o,k b o hc e⟩) (λb xs e=>by rw [Zaf (Zag e hn)]; exact e) (λb u xs e=>by rw [Zaf (Zag e hn)]; exact e) (λb ps e=>⟨#[],by rw [Zaf (Zag e hn),e]; simp⟩) (λm hm=>?_) (λb u e=>?_) I.bare
 .refine Zfe (hf b hb) λf0 f1 f2 f3 f4 f5=>?_;exact ⟨f3,f1,f4,f5⟩
 .refine Zd6 hm λo es ep ho r=>?_;clear hm;exact Zbg o es ep ⟨k _ o (λz=>(hf _ z).2.1 rfl) ho,r⟩
 .by_cases hb:b = p
  .subst hb; rw [Zab] at e; cases e; exact new
  .rw [Zaf hb] at e;refine (I.hok b u e).stay (λc v hc q=>k c v ?_ q) (λc q=>by rw [Zaf (Zag q hn)]; exact q) (λc xs q=>by rw [Zaf (Zag q hn)]; exact q) λc _ _ q=>by rw [Zaf (Zag q hn)]; exact q
   rcases hc with z | z
   .rw [z]; exact nit b u e
   .exact nit c _ z
end
def Itz (K:PySem.W.Frag) (a b:Addr):It:=
 ⟨λi H=>∃ xs ys x y,SqL K H a xs/\SqL K H b ys/\xs[i]? = some x/\ys[i]? = some y,λi H v H'=>∃ x y p,v = .ref p/\H p = none/\H' = upd H p (.tup [x,y])/\(∀ xs,SqL K H a xs->xs[i]? = some x)/\∀ ys,SqL K H b ys->ys[i]? = some y,λi H=>∃ xs ys,SqL K H a xs/\SqL K H b ys/\(xs.length<=i\/ys.length<=i)⟩
theorem Zpm {P:Program} {w:World} {K:PySem.W.Frag} {elts:List Expr} {x1:Nat} {pos:Pos} {z TI TO i1 i2 a b:Addr} (D:ZipApart z TI TO i1 i2 a b):
  Turn P w K (.Tuple elts x1 pos) (Itz K a b) [z,TI,TO,i1,i2] z (λi h=>IsZip h z TI TO .none/\IsPair h TI (.ref i1) (.ref i2)/\(∃ u v,IsPair h TO u v)/\h.IsListIter i1 a i/\h.IsListIter i2 b i) where
 mem:=by simp
 obj:=λi h st c hc=>by
  refine Zd7 st λhz hTI e92 e93 e94=>?_;clear st;obtain ⟨u,v,hTO⟩:=e92;obtain ⟨o1,e1,c1,d1⟩:=e93;obtain ⟨o2,e2,c2,d2⟩:=e94;simp at hc;rcases hc with rfl | rfl | rfl | rfl | rfl
  .exact ⟨_,hz,λv z=>by have z':Data.fields _ = Data.cell v:=z; cases z'⟩
  .exact ⟨_,hTI,λv z=>by have z':Data.seq _ _ = Data.cell v:=z; cases z'⟩
  .exact ⟨_,hTO,λv z=>by have z':Data.seq _ _ = Data.cell v:=z; cases z'⟩
  .exact ⟨o1,e1,λv z=>by rw [d1] at z; cases z⟩
  .exact ⟨o2,e2,λv z=>by rw [d2] at z; cases z⟩
 keep:=λi h h' st k=>by
  refine Zd7 st λhz hTI e95 h1 h2=>?_;clear st;obtain ⟨u,v,hTO⟩:=e95;exact ⟨k z (by simp) _ hz,k TI (by simp) _ hTI,⟨u,v,k TO (by simp) _ hTO⟩,h1.at λo e=>k i1 (by simp) o e,h2.at λo e=>k i2 (by simp) o e⟩
 item:=by
  intro X hP hw hK hc i pins s σ H E I hf st hg;subst hP hw hK;refine Zcu hg λxs ys x y hqa hqb hx hy=>?_;clear hg;refine Zao (I.list hqa) λits rv p hz1=>?_;refine Zao (I.list hqb) λits2 rv2 p2 hz2=>?_;refine Zad (rv.get hx) λu hu ru=>?_;refine Zad (rv2.get hy) λu2 hu2 ru2=>?_;refine Zd7 st λhz hTI e96 h1 h2=>?_;clear st;obtain ⟨c,d,hTO⟩:=e96;refine wpAny_pyNext_zip_item D hz hTI hTO h1 h2 p.isList p2.isList (by simpa using hu) (by simpa using hu2) λh' a1 a2 a3 a4 a5 a6 a7=>?_;refine ⟨_,rfl,wpAny_letOwnedTupleGo_zip a1 λh'' b1 b2=>?_⟩;have nz:s.heap.objs.size ≠ z:=Jdf (Jaf hz);have k2:∀ c o,c ∉ [z,TI,TO,i1,i2]->s.heap.get? c = some o->h''.get? c = some o:=λc o hc e=>by
   simp at hc;exact b2.extBut _ _ hc.1 (a7 c o hc.1 hc.2.2.1 hc.2.2.2.1 hc.2.2.2.2 e)
  have I2:Inv X pins σ (upd H s.heap.objs.size (.tup [x,y])) { s with heap:=h'' }:=I.turnedT (t':=s.toks) hf k2 (Jah _)
   ⟨by show 2<=sizeLine; decide,[u,u2],.cons ru (.cons ru2 .nil),_,b2.extBut _ _ nz a5,rfl,_,rfl⟩
  refine Zaz (.ref s.heap.objs.size) _ ⟨I2,rfl,⟨x,y,_,rfl,I.hok.fresh (Jah _),rfl,λxs' hq=>by rw [I.list_inj hq hqa]; exact hx,λys' hq=>by rw [I.list_inj hq hqb]; exact hy⟩,⟨b1,b2.extBut _ _ D.TIz (a7 _ _ D.TIz D.TITO D.TIi1 D.TIi2 hTI),⟨_,_,b2.extBut _ _ D.TOz a2⟩,a3.extBut b2.extBut D.i1z,a4.extBut b2.extBut D.i2z⟩,λc hc=>?_⟩;have hlt:∀ c ∈ [z,TI,TO,i1,i2],c < s.heap.objs.size:=λc hc=>by
   simp at hc;refine Zad h1 λo1 e1 _=>?_;clear h1;refine Zad h2 λo2 e2 _=>?_;clear h2;rcases hc with rfl | rfl | rfl | rfl | rfl
   .exact Jaf hz
   .exact Jaf hTI
   .exact Jaf hTO
   .exact Jaf e1
   .exact Jaf e2
  rw [Zaf (Ja6 (hlt c hc))];exact (hf c hc).1
 done:=by
  intro X hP hw hK hc i pins s σ H E I hf st hg;subst hP hw hK;refine Zca hg λxs ys hqa hqb hx=>?_;clear hg;refine Zao (I.list hqa) λits rv p hz1=>?_;refine Zao (I.list hqb) λits2 rv2 p2 hz2=>?_;refine Zd7 st λhz hTI e97 h1 h2=>?_;clear st;obtain ⟨c,d,hTO⟩:=e97;have l1:=rv.length;have l2:=rv2.length;refine wpAny_pyNext_zip_end (I.ok.hd hc) D hz hTI hTO h1 h2 p.isList p2.isList ?_ λh' kk=>⟨rfl,I.turnedL (t':=s.toks) hf λc o hc e=>?_⟩
  .rcases hx with hx | hx
   .exact .inl (by simp; omega)
   .exact .inr (by simp; omega)
  .simp at hc;exact kk c o hc.1 hc.2.2.1 hc.2.2.2.1 hc.2.2.2.2 e
 self:=λ_ _ _ _ _ st h=>wpAny_pyIter_zip st.1 h
section
variable {X:Cx}
def iZip (K:PySem.W.Frag) (ta:TA):TI:=λσ H R=>ta σ H λvs H1=>∃ a b,vs = [.ref a,.ref b]/\(∃ xs,SqL K H1 a xs)/\(∃ ys,SqL K H1 b ys)/\R (Itz K a b) H1
theorem pi_zip {elts:List Expr} {x1:Nat} {pt p pos:Pos} {a b:Expr} {ta:TA} (hg:Gl X "zip") (hm:X.mg "zip" = none) (ha:PA X [a,b] ta) (h:Za7 a = false:=by rfl) (h2:Za7 b = false:=by rfl):
  PI X (.Tuple elts x1 pt) (.Call (.Name "zip" p) [a,b] [] pos) (iZip X.K ta):=by
 intro pins s σ H R I hh;refine Call_ (Zhr I hg hm boot_zip (Jb9 (thn (ha pos pins s σ H _ I hh) λus s1 ⟨vs,H1,I1,r1,q1⟩=>?_) (by rw [Zaw h,Zaw h2]) (by rw [Zaw h2]; rfl)));refine Zhz q1 λc d e e98 e99 q=>?_;clear q1;obtain ⟨xs,hq1⟩:=e98;obtain ⟨ys,hq2⟩:=e99;subst e;cases r1 with
 | cons r rr=>
  cases rr with
  | cons r' rr=>
   cases rr;cases r;cases r';refine Zao (I1.list hq1) λits rv p1 hz1=>?_;refine Zao (I1.list hq2) λits2 rv2 p2 hz2=>?_;have lt1:c < s1.heap.objs.size:=by obtain ⟨o,ho,_⟩:=p1.isList; exact Jaf ho
   have lt2:d < s1.heap.objs.size:=by obtain ⟨o,ho,_⟩:=p2.isList; exact Jaf ho
   refine call_zip_2 p1.isList p2.isList λh' a1 a2 a3 a4 a5 a6 a7=>wpAny_pyIter_zip (s:={ s1 with heap:=h' }) a1 ?_;refine Zip _ _ _ _ H1 ⟨rfl,I1.kept (t':=s1.toks) a7,Zpm (zipApart_new lt1 lt2),⟨a1,a2,⟨_,_,a3⟩,a4,a5⟩,λb hb=>?_,q⟩;have hb':s1.heap.objs.size<=b:=by
    simp at hb;rcases hb with rfl | rfl | rfl | rfl | rfl
    .exact Jdj _ _
    .exact Jdj _ _
    .exact Jdj _ _
    .exact Jah _
    .exact Jdj _ _
   have:=(I1.fpOk (H':=H1) hb' (I1.hok.fresh hb'))
   exact this
end
section
variable {K:PySem.W.Frag} {a b D:Addr} {xs ys:List V} {g:TG} {tt:TT} {te:TE} {k:Nat} {fr:List (Str × Nat)} {σ:St} {H1:Hp} {Q:VK}
theorem Zq6 (Pv:Nat->List V->Hp->Prop) (hlen:ys.length = xs.length) (h0:Pv 0 [] (upd H1 D (.lst []))) (hl:∀ i vs H,i<=xs.length->Pv i vs H->SqL K H a xs/\SqL K H b ys)
  (hs:∀ i x y p vs σ' H,i < xs.length->xs[i]? = some x->ys[i]? = some y->H p = none->Sh k (Zcr fr σ) σ'->Pv i vs H->Zdi g tt te D xs.length k (Zcr fr σ) Pv i (.ref p) σ' (upd H p (.tup [x,y]))) (hd:∀ vs H,Pv xs.length vs H->Q (.ref D) H):
  Zb6 g tt te (Itz K a b) D (Zfv k fr σ) H1 Q:=by
 refine ⟨Wv xs.length k (Zcr fr σ) Pv,⟨xs.length,by simp,Jb6 _,sh0,[],h0⟩,?_⟩;intro i m σ' H2 e91;refine Zbh e91 λe912 hi sh e913=>?_;clear e91;obtain rfl:=e912;obtain ⟨vs,p⟩:=e913;obtain ⟨q1,q2⟩:=hl i vs H2 hi p;by_cases hlt:i < xs.length
 .refine .inr ⟨⟨xs,ys,xs[i],ys[i]'(by omega),q1,q2,by simp [hlt],by simp [hlen,hlt]⟩,λx H3 y=>?_⟩;refine Zb1 y λu v pp e914 hp e915 e916=>?_;clear y;obtain rfl:=e914;obtain rfl:=e915;obtain ⟨e1,e2⟩:=e916;exact hs i u v pp vs σ' _ hlt (e1 _ q1) (e2 _ q2) hp sh p
 .have e:i = xs.length:=by omega
  subst e;exact .inl ⟨⟨xs,ys,q1,q2,.inl (Jah _)⟩,hd vs H2 p⟩
end
end L2
namespace L2
open PySem PySem.Spec PyProof.Rows
def nrm (a b:Int):Int × Int:=(a / (Int.gcd a b:Int),b / (Int.gcd a b:Int))
def Low (x:Int × Int):Prop:=0 < x.2/\Int.gcd x.1 x.2 = 1
theorem Ze7 {a b:Int} (hb:0 < b):0 < (Int.gcd a b:Int):=by
 have:0 < Int.gcd a b:=Int.gcd_pos_of_ne_zero_right a (by omega);omega
theorem nrm_fst {a b:Int}:(nrm a b).1 * (Int.gcd a b:Int) = a:=Int.ediv_mul_cancel (Int.gcd_dvd_left ..)
theorem Zn4 {a b:Int}:(nrm a b).2 * (Int.gcd a b:Int) = b:=Int.ediv_mul_cancel (Jd5 ..)
theorem nrm_pos {a b:Int} (hb:0 < b):0 < (nrm a b).2:=by
 have h2:=@Zn4 a b;have g0:=Ze7 (a:=a) hb;rcases Int.lt_trichotomy 0 (nrm a b).2 with h | h | h
 .exact h
 .rw [<- h,Int.zero_mul] at h2; omega
 .have:=Int.mul_neg_of_neg_of_pos h g0;omega
theorem nrm_low {a b:Int} (hb:0 < b):Low (nrm a b):=by
 refine ⟨nrm_pos hb,?_⟩;have h:=Int.gcd_mul_right (nrm a b).1 (Int.gcd a b:Int) (nrm a b).2;rw [nrm_fst,Zn4] at h;have g0:=Ze7 (a:=a) hb;have:Int.gcd a b = Int.gcd (nrm a b).1 (nrm a b).2 * Int.gcd a b:=by simpa using h
 have g1:0 < Int.gcd a b:=by omega
 exact (Nat.eq_of_mul_eq_mul_right g1 (by omega)).symm
theorem Zeh (a:Int) {g:Int} (hg:0 < g) (hd:g ∣ a):(a / g).natAbs<=a.natAbs:=by
 obtain ⟨k,rfl⟩:=hd;rw [Int.mul_ediv_cancel_left _ (by omega),Int.natAbs_mul];exact Nat.le_mul_of_pos_left _ (by omega)
def Bd (B:Nat) (x:Int × Int):Prop:=x.1.natAbs<=B/\x.2.natAbs<=B
theorem nrm_bd {a b:Int} {B:Nat} (hb:0 < b) (h1:a.natAbs<=B) (h2:b.natAbs<=B):Bd B (nrm a b):=
 ⟨Ja3 (Zeh a (Ze7 hb) (Int.gcd_dvd_left ..)) h1,Ja3 (Zeh b (Ze7 hb) (Jd5 ..)) h2⟩
def Isn (p:Int) (x:Int × Int):Prop:=(p = 0/\Low x)\/(0 < p/\0<=x.1/\x.1 < p/\x.2 = 1)
theorem Zoe {p a b:Int} (hp:p = 0) (hb:0 < b):Isn p (nrm a b):=.inl ⟨hp,nrm_low hb⟩
theorem Zlc (a b:Int):Int.gcd b (a % b) = Int.gcd a b:=by
 rw [Int.emod_def,Int.sub_eq_add_neg,<- Int.mul_neg,Int.gcd_add_mul_left_right,Int.gcd_comm]
def CDivG (i j:Int):Prop:=0 < j/\j.natAbs<=100000000000000000000000000000000
theorem Zk0 {X:Cx}:OpR X (binaryOp .FloorDiv) (rI CDivG λi j=>.int (i / j)):=opI λi j _ _ _ _ _ hc q=>by
 have h1:(0:Int) < j:=hc.1;have h2:=hc.2;refine floordiv_int (by omega) (by rw [Int.fdiv_eq_ediv_of_nonneg i (by omega)]; exact q) (.inl (PyProof.noPylong_of_log2 ?_));have:j.natAbs.log2 < 200:=(Nat.log2_lt (by omega)).mpr (Jdx h2 (by decide +kernel));omega
structure FunD (K:PySem.W.Frag) (x qual:Str) (st:Stmt) (f:Addr) (fd:FuncData) (T:Addr):Prop where
 ex:∃ (oc:Value) (od:Option Addr) (kV doc pm:Value) (an:Option Addr) (cdv ct:Value) (osl:Array (Option Value)),
  fd = PySem.W.fnOf x qual (Zet st) (Zcq st) (Zae st) (.ref T) kV doc pm an cdv ct/\K.lookup f = some ⟨oc,od,.func fd,osl⟩/\PySem.W.codeIn K cdv qual = true
section
variable {P:Program} {w:World} {K:PySem.W.Frag} {mg:Str->Option Value} {base:Heap}
end
structure CalD (P:Program) (w:World) (K:PySem.W.Frag) (mg:Str->Option Value) (base:Heap) (C:Addr) (m:Str) (k:Nat) (sp:Sp) (dvs:List V):Prop where
 ex:∃ (f:Addr) (fd:FuncData) (ps:List Str) (ds:List Value),FnOk P w K mg base CX0 k f fd ps sp/\Meth K C m f/\Binds K fd ps ds/\Vals dvs ds
def rBits:V->List V->Hp->VK->Prop:=λx vs H Q=>∃ i:Int,x = .int i/\vs = []/\Q (.int ((Builtin.Int.intBits i:Nat):Int)) H
theorem mt_bits {X:Cx}:MtM X "int.bit_length" rBits:=by
 intro pins s σ H x vs v us Q I rx rv h;refine Zao h λi e91 e92 q=>?_;clear h;obtain rfl:=e91;obtain rfl:=e92;obtain ⟨t,rfl⟩:=rx;have hus:=rv.zero;subst hus;exact call_gives F.slot_int_bit_length (typeIs_int s i t) F.entry_int_bit_length (F.args_int_bit_length_1 _) (AutoIntG2.int_bit_length_int_0 i t) ⟨.int ((Builtin.Int.intBits i:Nat):Int),H,I.tok _,⟨_,rfl⟩,q⟩
theorem bits_le {i:Int} {n:Nat} (h:i.natAbs < 2 ^ n):Builtin.Int.intBits i<=n:=by
 unfold Builtin.Int.intBits;split
 .exact Jb6 _
 .rename_i h0
  have h1:i.natAbs ≠ 0:=by
   intro e;exact h0 (by simp [Int.natAbs_eq_zero.mp e])
  exact (Nat.log2_lt h1).mpr h
section
variable {κ:Type} [DecidableEq κ]
def Zfx (kvs:List (κ × V)) (k:κ):Option V:=(kvs.find? λkv=>decide (kv.1 = k)).map (·.2)
def Zhg (kvs:List (κ × V)) (k:κ) (v:V):List (κ × V):=
 if (kvs.any λkv=>decide (kv.1 = k)) = true then kvs.map (λkv=>if kv.1 = k then (kv.1,v) else kv) else kvs ++ [(k,v)]
theorem Zbp {p:κ × V} {r:List (κ × V)} {k:κ} (e:p.1 = k):Zfx (p :: r) k = some p.2:=by simp [Zfx,Jct,e]
theorem Zbq {p:κ × V} {r:List (κ × V)} {k:κ} (e:¬ p.1 = k):Zfx (p :: r) k = Zfx r k:=by simp [Zfx,Jct,e]
theorem Zd1 (k:κ):∀ kvs:List (κ × V),(kvs.any λkv=>decide (kv.1 = k)) = (Zfx kvs k).isSome
 | []=>rfl
 | p :: r=>by
  rw [Jcv];by_cases e:p.1 = k
  .simp only [Zbp e,Jad e,Bool.true_or,Option.isSome_some]
  .rw [Zbq e,Ja4 e,Bool.false_or]; exact Zd1 k r
theorem Zkm (k j:κ) (y:V):∀ kvs:List (κ × V),Zfx (kvs.map λkv=>if kv.1 = k then (kv.1,y) else kv) j = (Zfx kvs j).map λx=>if j = k then y else x
 | []=>rfl
 | p :: r=>by
  have ih:=Zkm k j y r;rw [Jav];by_cases h:p.1 = k
  .rw [if_pos h];by_cases e:p.1 = j
   .rw [Zbp (p:=(p.1,y)) e,Zbp e,Jdq,if_pos (e.symm.trans h)]
   .rw [Zbq (p:=(p.1,y)) e,Zbq e,ih]
  .rw [if_neg h];by_cases e:p.1 = j
   .rw [Zbp (p:=p) e,Zbp e,Jdq,if_neg (λz=>h (e.trans z))]
   .rw [Zbq (p:=p) e,Zbq e,ih]
theorem Ziu (k j:κ) (y:V):∀ kvs:List (κ × V),Zfx kvs k = none->Zfx (kvs ++ [(k,y)]) j = if j = k then some y else Zfx kvs j
 | [],_=>by
  by_cases e:k = j
  .rw [if_pos e.symm]; exact Zbp (p:=(k,y)) e
  .rw [if_neg (λz=>e z.symm)]; exact Zbq (p:=(k,y)) e
 | p :: r,hn=>by
  rw [List.cons_append];have hk:¬ p.1 = k:=λz=>by rw [Zbp z] at hn; cases hn
  rw [Zbq hk] at hn;have ih:=Ziu k j y r hn;by_cases e:p.1 = j
  .rw [Zbp e,Zbp e,if_neg (λz=>hk (e.trans z))]
  .rw [Zbq e,Zbq e,ih]
theorem Zkl (kvs:List (κ × V)) (k j:κ) (y:V):Zfx (Zhg kvs k y) j = if j = k then some y else Zfx kvs j:=by
 unfold Zhg;by_cases a:(kvs.any λkv=>decide (kv.1 = k)) = true
 .rw [if_pos a,Zkm];rw [Zd1] at a;by_cases e:j = k
  .obtain ⟨x,hx⟩:=Jbz.mp a;rw [if_pos e,e,hx,Jdq,if_pos rfl]
  .rw [if_neg e];cases Zfx kvs j with
   | none=>rfl
   | some x=>rw [Jdq,if_neg e]
 .rw [if_neg a];refine Ziu k j y kvs ?_;rw [Zd1] at a;cases q:Zfx kvs k with
  | none=>rfl
  | some x=>rw [q] at a; exact (a rfl).elim
theorem Zer (kvs:List (κ × V)) (k:κ) (v:V):(Zhg kvs k v).length<=kvs.length + 1:=by
 unfold Zhg;split
 .rw [Jab]; omega
 .rw [Jam,Jba,List.length_nil]; omega
theorem Zpw {kvs:List (κ × V)} {k:κ} (v:V) (h:Zfx kvs k = none):Zhg kvs k v = kvs ++ [(k,v)]:=by
 unfold Zhg;rw [Zd1,h];exact if_neg (by decide)
theorem RelO.isSome_eq {o:Option V} {u:Option Value} (r:RelO o u):o.isSome = u.isSome:=by
 cases o with
 | none=>cases u with
  | none=>rfl
  | some _=>exact (show False from r).elim
 | some _=>cases u with
  | none=>exact (show False from r).elim
  | some _=>rfl
theorem KV.val {kvs:List (κ × V)} {vs:List (κ × Value)} (r:KV kvs vs) (k:κ):RelO (Zfx kvs k) (valueAt vs k):=by
 unfold KV at r
 induction r with
 | nil=>exact True.intro
 | @cons p q ps qs h t ih=>
  obtain ⟨h1,h2⟩:=h;by_cases e:p.1 = k
  .have e':q.1 = k:=h1.symm.trans e;have b:valueAt (q :: qs) k = some q.2:=by simp [valueAt,Jct,e']
   rw [Zbp e,b]; exact h2
  .have e':¬ q.1 = k:=λz=>e (h1.trans z);have b:valueAt (q :: qs) k = valueAt qs k:=by simp [valueAt,Jct,e']
   rw [Zbq e,b]; exact ih
theorem KV.any {kvs:List (κ × V)} {vs:List (κ × Value)} (r:KV kvs vs) (k:κ):(kvs.any λkv=>decide (kv.1 = k)) = vs.any λkv=>decide (kv.1 = k):=by
 unfold KV at r
 induction r with
 | nil=>rfl
 | cons h t ih=>rw [Jcv,Jcv,ih,h.1]
theorem KV.repl {kvs:List (κ × V)} {vs:List (κ × Value)} (r:KV kvs vs) (k:κ) {y:V} {u:Value} (ry:RelV y u):
  KV (kvs.map λkv=>if kv.1 = k then (kv.1,y) else kv) (vs.map λkv=>if kv.1 = k then (kv.1,u) else kv):=by
 unfold KV at r ⊢
 induction r with
 | nil=>exact .nil
 | @cons p q ps qs h t ih=>
  rw [Jav,Jav];refine .cons ?_ ih;obtain ⟨h1,h2⟩:=h;by_cases e:p.1 = k
  .rw [if_pos e,if_pos (h1.symm.trans e)]; exact ⟨h1,ry⟩
  .rw [if_neg e,if_neg (λz=>e (h1.trans z))]; exact ⟨h1,h2⟩
theorem KV.put {kvs:List (κ × V)} {vs:List (κ × Value)} (r:KV kvs vs) (k:κ) {y:V} {u:Value} (ry:RelV y u):KV (Zhg kvs k y) (stored vs k u):=by
 unfold Zhg stored;rw [r.any k];by_cases e:(vs.any λkv=>decide (kv.1 = k)) = true
 .rw [if_pos e,if_pos e]; exact r.repl k ry
 .rw [if_neg e,if_neg e]; exact Paired.snoc r ⟨rfl,ry⟩
theorem KV.length {kvs:List (κ × V)} {vs:List (κ × Value)} (r:KV kvs vs):kvs.length = vs.length:=Jd6 r
end
theorem Zqu {P:Program} {w:World} {k:Key} {u:Value} (r:RelV (kV k) u):(Zbs P w).is k u = true:=by
 cases k with
 | inl i=>obtain ⟨t,e⟩:=(show ∃ t,u = Value.int i t from r); subst e; exact Zj7 P w i t
 | inr x=>obtain ⟨t,e⟩:=(show ∃ t,u = Value.str x t from r); subst e; exact Zj6 P w x t
theorem Zjd {P:Program} {w:World}:∀ {ks:List Key} {us:List Value},Vals (ks.map kV) us->ItemsAre (Zbs P w) ks us
 | [],_,r=>by rw [List.map_nil] at r; cases r; exact .nil
 | k :: ks,_,r=>by
  rw [Jav] at r;cases r with
  | cons h t=>exact .cons (Zqu h) (Zjd t)
abbrev KT (H:Hp):List (List Key × V)->List (List Key × Addr × Value)->Prop:=Paired λp q=>p.1 = q.1/\H q.2.1 = some (.tup (p.1.map kV))/\RelV p.2 q.2.2
theorem KT.val {H:Hp} {kvs:List (List Key × V)} {xs:List (List Key × Addr × Value)} (r:KT H kvs xs) (k:List Key):RelO (Zfx kvs k) ((atKey xs k).map (·.2)):=by
 induction r with
 | nil=>exact True.intro
 | @cons p q ps qs h t ih=>
  obtain ⟨h1,_,h2⟩:=h;by_cases e:p.1 = k
  .have e':q.1 = k:=h1.symm.trans e;have b:atKey (q :: qs) k = some q.2:=by simp [atKey,Jct,e']
   rw [Zbp e,b]; exact h2
  .have e':¬ q.1 = k:=λz=>e (h1.trans z);have b:atKey (q :: qs) k = atKey qs k:=by simp [atKey,Jct,e']
   rw [Zbq e,b]; exact ih
theorem KT.repl {H:Hp} {kvs:List (List Key × V)} {xs:List (List Key × Addr × Value)} (r:KT H kvs xs) (k:List Key) {y:V} {u:Value} (ry:RelV y u):
  KT H (kvs.map λkv=>if kv.1 = k then (kv.1,y) else kv) (xs.map (putAt k u)):=by
 induction r with
 | nil=>exact .nil
 | @cons p q ps qs h t ih=>
  rw [Jav,Jav];refine .cons ?_ ih;obtain ⟨h1,h2,h3⟩:=h;unfold putAt;by_cases e:p.1 = k
  .rw [if_pos e,if_pos (h1.symm.trans e)]; exact ⟨h1,h2,ry⟩
  .rw [if_neg e,if_neg (λz=>e (h1.trans z))]; exact ⟨h1,h2,h3⟩
theorem KT.put {H:Hp} {kvs:List (List Key × V)} {xs:List (List Key × Addr × Value)} (r:KT H kvs xs) (k:List Key) {b:Addr} {y:V} {u:Value} (hb:H b = some (.tup (k.map kV))) (ry:RelV y u):
  KT H (Zhg kvs k y) (storedH xs k b u):=by
 have e:(kvs.any λkv=>decide (kv.1 = k)) = (atKey xs k).isSome:=by
  rw [Zd1,(r.val k).isSome_eq,Option.isSome_map]
 unfold Zhg storedH;rw [e];by_cases q:(atKey xs k).isSome = true
 .rw [if_pos q,if_pos q]; exact r.repl k ry
 .rw [if_neg q,if_neg q]; exact Paired.snoc r ⟨rfl,hb,ry⟩
theorem KT.keeps {H H':Hp} {kvs:List (List Key × V)} {xs:List (List Key × Addr × Value)} (r:KT H kvs xs) (ht:∀ b ys,H b = some (.tup ys)->H' b = some (.tup ys)):KT H' kvs xs:=
 Paired.mapP r λ_ _ z=>⟨z.1,ht _ _ z.2.1,z.2.2⟩
section
variable {P:Program} {w:World} {H:Hp} {h:Heap} {a:Addr}
theorem rd_of {u:HO} (ok:HOk P w H h) (e:Rd H a u):ObjOk P w H h a u:=e.ok ok
theorem dk_rd {kvs:List (Key × V)} (ok:HOk P w H h) (e:Rd H a (.dK kvs)):kvs.length<=sizeLine/\(a == sysModules) = false/\∃ vs,KV kvs vs/\h.DictOf (Zbs P w) a vs:=
 show ObjOk P w H h a (.dK kvs) from rd_of ok e
theorem dk_of {kvs:List (Key × V)} (ok:HOk P w H h) (e:H a = some (.dK kvs)):kvs.length<=sizeLine/\(a == sysModules) = false/\∃ vs,KV kvs vs/\h.DictOf (Zbs P w) a vs:=dk_rd ok (.inl e)
theorem Zoa {ks:List Key} (ok:HOk P w H h) (e:H a = some (.tup (ks.map kV))):(tupleKind (Zbs P w)).is h ks a:=by
 obtain ⟨_,its,r,o,h1,h2,n,h3⟩:=(show ObjOk P w H h a (.tup (ks.map kV)) from ok a _ e)
 exact ⟨o,its.toArray,n,h1,h2,h3,by simpa using Zjd r⟩
theorem dt_rd {kvs:List (List Key × V)} (ok:HOk P w H h) (e:Rd H a (.dT kvs)):kvs.length<=sizeLine/\(a == sysModules) = false /\
  ∃ xs,KT H kvs xs/\h.DictOfH (tupleKind (Zbs P w)) a xs:=by
 obtain ⟨z,y,xs,r,o,es,ep,h1,h2,h3,h4,h5⟩:=(show ObjOk P w H h a (.dT kvs) from rd_of ok e)
 refine ⟨z,y,xs,r,o,es,ep,h1,h2,h3,h4,λx hx=>?_,h5⟩;have all:∀ {l:List (List Key × V)} {m:List (List Key × Addr × Value)},KT H l m->∀ x ∈ m,(tupleKind (Zbs P w)).is h x.1 x.2.1:=by
  intro l m q
  induction q with
  | nil=>intro x hx; exact nomatch hx
  | @cons p q ps qs hq t ih=>
   intro x hx;rcases Jaq.mp hx with e | hx
   .subst e;exact Zoa ok (by rw [<- hq.1]; exact hq.2.1)
   .exact ih x hx
 exact all r x hx
theorem dt_of {kvs:List (List Key × V)} (ok:HOk P w H h) (e:H a = some (.dT kvs)):kvs.length<=sizeLine/\(a == sysModules) = false /\
  ∃ xs,KT H kvs xs/\h.DictOfH (tupleKind (Zbs P w)) a xs:=dt_rd ok (.inl e)
end
def DGet (H:Hp) (a:Addr) (y:V) (r:Option V):Prop:=
 (∃ kvs k,Rd H a (.dK kvs)/\y = kV k/\r = Zfx kvs k)\/∃ kvs k b,Rd H a (.dT kvs)/\y = .ref b/\H b = some (.tup (k.map kV))/\r = Zfx kvs k
def DPut (H:Hp) (a:Addr) (y v:V) (H':Hp):Prop:=
 (∃ kvs k,H a = some (.dK kvs)/\y = kV k/\kvs.length < sizeLine/\H' = upd H a (.dK (Zhg kvs k v))) \/
 ∃ kvs k b,H a = some (.dT kvs)/\y = .ref b/\H b = some (.tup (k.map kV))/\kvs.length < sizeLine/\H' = upd H a (.dT (Zhg kvs k v))
theorem DGet.k {H:Hp} {a:Addr} {kvs:List (Key × V)} {k:Key} (e:H a = some (.dK kvs)):DGet H a (kV k) (Zfx kvs k):=.inl ⟨kvs,k,.inl e,rfl,rfl⟩
theorem DPut.k {H:Hp} {a:Addr} {kvs:List (Key × V)} {k:Key} {v:V} (e:H a = some (.dK kvs)) (hl:kvs.length < sizeLine):DPut H a (kV k) v (upd H a (.dK (Zhg kvs k v))):=.inl ⟨kvs,k,e,rfl,hl,rfl⟩
section
variable {X:Cx} {pins:List (Addr × Obj)} {σ:St} {H:Hp} {s:Shared} {a:Addr} {y v:V} {u r:Value} {o:Option V} {A:Around} {E:Value->Shared->Prop}
theorem Inv.big (I:Inv X pins σ H s):sysModules < s.heap.objs.size:=by
 have h:mainGlobals < s.heap.objs.size:=(I.mod.glob.keeps I.bk).lt;exact Nat.lt_trans (by decide) h
theorem Zou {Q:Value->Shared->Prop} (hu:A.units + 1 < cLine) (I:Inv X pins σ H s) (g:DGet H a y (some v)) (ry:RelV y u) (h:∀ w' s',Inv X pins σ H s'->RelV v w'->Q w' s'):
  wpAny (model X.prog X.w) A (getItem (.ref a) u) Q E s:=by
 rcases g with ⟨kvs,k,e,ey,l⟩ | ⟨kvs,k,b,e,ey,eb,l⟩
 .subst ey;obtain ⟨z,hd,vs,rel,dd⟩:=dk_rd I.hok e;obtain ⟨w',hw,rw'⟩:=RelO.some_of (v:=v) (o:=valueAt vs k) (by rw [l]; exact rel.val k);exact wpAny_getItem_of (Zqu ry) dd.mapOf hw (h w' _ (I.tok _) rw')
 .subst ey;cases (show u = Value.ref b from ry);obtain ⟨z,hd,xs,rel,dd⟩:=dt_rd I.hok e;obtain ⟨w',hw,rw'⟩:=RelO.some_of (v:=v) (o:=(atKey xs k).map (·.2)) (by rw [l]; exact rel.val k);obtain ⟨p,hp,hp2⟩:=Option.map_eq_some_iff.mp hw;refine wpAny_getItem_heap (tupleKind_room_in1 hu) (Zoa I.hok eb) dd hp ?_;rw [hp2];exact h w' _ (I.tok _) rw'
theorem Zkd {h':Heap} {t':Nat} {ob:HO} (I:Inv X pins σ H s) (mu:Mut (H a)) (hs:Heap.SameBut a s.heap h') (he:∃ q,h'.get? a = some q) (new:ObjOk X.prog X.w (upd H a ob) h' a ob):
  Inv X pins σ (upd H a ob) { s with heap:=h',toks:=t' }:=
 I.write (x:=a) (e:=a) mu (.inl rfl) (λb q hb z=>(hs.2 b hb).trans z) he new
theorem Zrz {P:Program} {w:World} {H':Hp} {h':Heap} {kvs:List (Key × V)} {vs:List (Key × Value)} (z:kvs.length<=sizeLine) (hd:(a == sysModules) = false) (rel:KV kvs vs) (dd:h'.DictOf (Zbs P w) a vs):
  ObjOk P w H' h' a (.dK kvs):=⟨z,hd,vs,rel,dd⟩
theorem Zot {H':Hp} {Q:Unit->Shared->Prop} (hu:A.units + 1 < cLine) (I:Inv X pins σ H s) (g:DPut H a y v H') (ry:RelV y u) (rv:RelV v r) (h:∀ s',Inv X pins σ H' s'->Q () s'):
  wpAny (model X.prog X.w) A (setItem (.ref a) u r) Q E s:=by
 rcases g with ⟨kvs,k,e,ey,l,eH⟩ | ⟨kvs,k,b,e,ey,eb,l,eH⟩
 .subst ey eH;obtain ⟨z,hd,vs,rel,dd⟩:=dk_of I.hok e;have hz:vs.length<=sizeLine:=by rw [<- rel.length]; exact z
  have hl:(Zhg kvs k v).length<=sizeLine:=by have:=Zer kvs k v; omega
  refine wpAny_setItem_pairs (hsz:=hz) (Zqu ry) dd λh' dd' hs=>h _ ?_;have he:∃ q,h'.get? a = some q:=let ⟨q,_,_,hq,_⟩:=dd'; ⟨q,hq⟩;exact Zkd I (by rw [e]; exact True.intro) hs he (Zrz hl hd (rel.put k rv) dd')
 .subst ey eH;cases (show u = Value.ref b from ry);obtain ⟨z,hd,xs,rel,dd⟩:=dt_of I.hok e;have hz:xs.length<=sizeLine:=by rw [<- Jd6 rel]; exact z
  have hl:(Zhg kvs k v).length<=sizeLine:=by have:=Zer kvs k v; omega
  refine wpAny_setItem_heap (hsz:=hz) (tupleKind_room_in1 hu) (Zoa I.hok eb) dd λh' dd' hs=>h _ ?_;obtain ⟨q,es,ep,hq,h2,h3,h4,_,h5⟩:=dd';refine Zkd I (by rw [e]; exact True.intro) hs ⟨q,hq⟩ ⟨hl,hd,_,(rel.put k eb rv).keeps λc ys ec=>?_,q,es,ep,hq,h2,h3,h4,h5⟩;rw [Zaf (Zea ec e (λz=>nomatch z))];exact ec
end
section
variable {X:Cx} {pins:List (Addr × Obj)} {σ:St} {H:Hp} {s:Shared} {a:Addr} {kvs:List (Key × V)} {k:Key} {u:Value} {A:Around} {E:Value->Shared->Prop}
end
def NoSl (i:Expr):Prop:=∀ ov iv,subscripted i false ov iv = operate [ov,iv] (getItem ov iv)
theorem subD_of {prog:Program} {w:World} {A:Around} {E:Value->Shared->Prop} {s:Shared} {env:Env} {value slice:Expr} {pos:Pos} {T id:String} {Q:Value->Shared->Prop}
  (hl:typeLookup (.type T) "__getitem__" = pure (some (.builtin id))) (hs:NoSl slice)
  (h:wpAny (model prog w) A (eval value env) (λo s₁=>wpAny (model prog w) A (eval slice env) (λi s₂=>s₂.TypeIs o T/\wpAny (model prog w) A (getItem o i) Q E s₂) E s₁) E s):
  wpAny (model prog w) A (eval (.Subscript value slice pos) env) Q E s:=by
 refine Subscript_ (Jaz h (λo s₁ h₁=>Jaz h₁ (λi s₂ h₂=>?_) λ_ _ x=>x) λ_ _ x=>x);obtain ⟨hT,h₂⟩:=h₂;unfold subscriptTail;refine Jac ?_;rw [getitemInPython_of_ne hT.not_modules];refine Jac (wpAny_specialOf hT hl ?_);have fin:wpAny (model prog w) A (subscripted slice false o i) (λr s₃=>wpAny (model prog w) A (letTemporaryGo value o r >>= λ_=>pure r) Q E s₃) E s₂:=by
  rw [hs o i];exact wpAny_operating (Jaz h₂ (λr s₃ h₃=>Jac (wpAny_letTemporaryGo (Jat h₃))) λ_ _ x=>x)
 first
  | exact Jat (Jac fin)
  | exact Jac (Jat (Jac fin))
  | exact Jac fin
theorem Zkc {X:Cx} {pins:List (Addr × Obj)} {σ:St} {H:Hp} {s:Shared} {a:Addr} {y:V} {o:Option V} (I:Inv X pins σ H s) (g:DGet H a y o):s.TypeIs (.ref a) "dict" := by
 rcases g with ⟨kvs,k,e,_,_⟩ | ⟨kvs,k,b,e,_,_,_⟩
 .obtain ⟨_,_,vs,_,dd⟩:=dk_rd I.hok e;exact dd.typeIs
 .obtain ⟨_,_,xs,_,dd⟩:=dt_rd I.hok e;exact dd.typeIs
def tDGet (td ty:TE):TE:=λσ H Q=>td σ H λx H1=>ty σ H1 λy H2=>∃ a v,x = .ref a/\DGet H2 a y (some v)/\Q v H2
def sDPut (td ty tv:TE):TS:=λD σ H=>tv σ H λv H1=>td σ H1 λx H2=>ty σ H2 λy H3=>∃ a H4,x = .ref a/\DPut H3 a y v H4/\D.nx σ H4
section
variable {X:Cx} {o i e value:Expr} {pos pos' tpos:Pos} {td ty tv:TE}
theorem Zg2 (hu:X.A.units + 1 < cLine) (ho:PE X o td) (hi:PE X i ty) (hs:NoSl i):PE X (.Subscript o i pos) (tDGet td ty):=by
 intro pins s σ H Q I h;refine subD_of PySem.F.slot_dict_getitem.lookup hs (thn (ho pins s σ H _ I h) λu s1 ⟨x,H1,I1,rx,q1⟩=>thn (hi pins s1 σ H1 _ I1 q1) λiv s2 ⟨y,H2,I2,ry,a,v,ex,g,q2⟩=>?_);subst ex;obtain rfl:u = Value.ref a:=rx;exact ⟨Zkc I2 g,Zou hu I2 g ry λw' s3 I3 rw'=>⟨v,H2,I3,rw',q2⟩⟩
theorem ps_dput (hu:X.A.units + 1 < cLine) (ho:PE X o td) (hi:PE X i ty) (hv:PE X value tv) (hs:swapsWith value (some (.Subscript o i pos')) pos.line X.env = pure false):
  PS X (.Assign [.Subscript o i pos'] value pos) (sDPut td ty tv):=by
 intro pins s σ H D I h;refine wpAny_Assign_Subscript (thn (hv pins s σ H _ I h) λr s1 ⟨v,H1,I1,rv,q1⟩=>thn (ho pins s1 σ H1 _ I1 q1) λu s2 ⟨x,H2,I2,rx,q2⟩=>thn (hi pins s2 σ H2 _ I2 q2) λiv s3 ⟨y,H3,I3,ry,a,H4,ex,g,q3⟩=>?_) hs;subst ex;obtain rfl:u = Value.ref a:=rx;exact Zot hu I3 g ry rv λs4 I4=>⟨σ,H4,I4,q3⟩
end
theorem Zq4 {P:Program} {w:World} {H:Hp} (h:Heap) (hb:sysModules < h.objs.size):ObjOk P w H (h.push { cls:=.type "dict",data:=.dict #[] }) h.objs.size (.dK []):=
 ⟨Jb6 _,Jck.mpr (Jb7 (Ja6 hb)),[],.nil,Heap.DictOf.new h⟩
section
variable {X:Cx} {pos:Pos}
end
structure M1 (X:Cx) (o:Expr) (m:Str) (apos:Pos) (e:Expr) (cpos:Pos):Prop where
 base:attributeBase o m X.env (eval o X.env) = eval o X.env
 few:((backTo cpos (starEach [e] X.env)).all (λx=>!x.1) && (backToKw cpos (keywordEach [] X.env)).all (λx=>x.1.isSome)
  && decide (([e]:List Expr).length + ([]:List Keyword).length + (if ([]:List Keyword).isEmpty then 0 else 1) < 30)) = true
 line:(apos.endLine == cpos.line) = true
 trees:backTo cpos (starEach [e] X.env) = [(false,eval e X.env)]
structure M2 (X:Cx) (o:Expr) (m:Str) (apos:Pos) (e f:Expr) (cpos:Pos):Prop where
 base:attributeBase o m X.env (eval o X.env) = eval o X.env
 few:((backTo cpos (starEach [e,f] X.env)).all (λx=>!x.1) && (backToKw cpos (keywordEach [] X.env)).all (λx=>x.1.isSome)
  && decide (([e,f]:List Expr).length + ([]:List Keyword).length + (if ([]:List Keyword).isEmpty then 0 else 1) < 30)) = true
 line:(apos.endLine == cpos.line) = true
 trees:backTo cpos (starEach [e,f] X.env) = [(false,eval e X.env),(false,eval f X.env)]
section
variable {X:Cx} {pins:List (Addr × Obj)} {σ:St} {H:Hp} {s:Shared} {a:Addr} {y d:V} {u r:Value} {o:Option V} {A:Around} {E:Value->Shared->Prop}
end
section
variable {X:Cx} {o e f:Expr} {apos cpos:Pos} {td ty tx:TE}
end
section
variable {X:Cx} {pins:List (Addr × Obj)} {σ:St} {H:Hp} {s:Shared} {a:Addr} {kvs:List (Key × V)} {A:Around} {E:Value->Shared->Prop}
end
section
variable {X:Cx} {pins:List (Addr × Obj)} {σ:St} {H:Hp} {s:Shared} {a:Addr} {y:V} {u:Value} {A:Around} {E:Value->Shared->Prop}
end
section
variable {κ:Type} [DecidableEq κ]
end
section
variable {prog:Program} {w:World} {A:Around} {R:Result->Shared->Prop} {s:Shared}
theorem Zij {kx vx target iter:Expr} {ifs:List Expr} {scope:Scope} {pos:Pos} {it:Value} {D:Addr} {env:Env} (I:Nat->Shared->Prop)
  (turn:∀ n s,I n s->wpAny (model prog w) A (pyNext it) (λr s₁=>match r with
   | none=>R (.ok .next) s₁
   | some v=>wpAny (model prog w) A (letOwnedTupleGo target it v) (λ_ s₁=>wpAny (model prog w) A (assign target env v) (λ_ s₂=>
     wpAny (model prog w) A (forIn ifs true λc r=>if r = true then do let ok <- isTrue c env (eval c env); pure (ForInStep.yield ok) else pure (ForInStep.yield r)) (λok s₃=>
      if ok = true then wpAny (model prog w) A (eval kx env) (λx s₄=>wpAny (model prog w) A (eval vx env) (λy s₅=>
       wpAny (model prog w) A (dictSet D x y) (λ_ s₆=>∃ m,m < n/\I m s₆) (λ_ _=>False) s₅) (λ_ _=>False) s₄) (λ_ _=>False) s₃
      else ∃ m,m < n/\I m s₃) (λ_ _=>False) s₂) (λ_ _=>False) s₁) (λ_ _=>False) s₁) (λ_ _=>False) s)
  (n:Nat) (h:I n s):
  codeAny (model prog w) A (.compLoop (.DictComp kx vx [⟨target,iter,ifs,0⟩] scope pos) 0 it (.ref D) env) R s:=by
 refine codeAny_loop rfl I (λn s hI=>?_) n h;show wpAny _ A ((compTurn (.DictComp kx vx [⟨target,iter,ifs,0⟩] scope pos) 0 it (.ref D) env).onRaise (λx=>do noteFrame x env; theTreesLotGoes x)) _ _ s;refine wpAny_noted ?_;rw [compTurn_dict];refine Jac (Jb1 (Jac (Jaz (turn n s hI) (λr s₁ h₁=>?_) λ_ _ h'=>h'.elim)));cases r with
 | none=>exact Jat h₁
 | some v=>
  refine Jac (Jaz h₁ (λ_ s₁' h₁'=>?_) λ_ _ h'=>h'.elim);refine Jac (Jaz h₁' (λ_ s₂ h₂=>Jac (Jaz h₂ (λok s₃ h₃=>?_) λ_ _ h'=>h'.elim)) λ_ _ h'=>h'.elim);cases ok with
  | false=>exact Jat ⟨rfl,h₃⟩
  | true=>
   refine Jac (Jac (Jaz h₃ (λx s₄ h₄=>?_) λ_ _ h'=>h'.elim));refine Jac (Jb4 (Jaz h₄ (λy s₅ h₅=>?_) λ_ _ h'=>h'.elim));exact Jac (Jb1 (Jb4 (Jaz h₅ (λ_ s₆ h₆=>Jat ⟨rfl,h₆⟩) λ_ _ h'=>h'.elim)))
end
def Zjs (g:TG) (tt:TT) (tk tv:TE) (J:It) (D:Addr) (σ0:St) (H1:Hp) (Q:VK):Prop:=
 ∃ W:Nat->Nat->St->Hp->Prop,(∃ m,W 0 m σ0 (upd H1 D (.dK [])))/\∀ i m σ' H2,W i m σ' H2->
  (J.stop i H2/\Q (.ref D) H2)\/(J.go i H2/\∀ x H3,J.yld i H2 x H3->g x σ' H3 λσ4 H4=>tt σ4 H4 λb H5=>
   if b = true then tk σ4 H5 λx H6=>tv σ4 H6 λy H7=>∃ kvs k,x = kV k/\H7 D = some (.dK kvs)/\kvs.length < sizeLine/\∃ m',m' < m/\W (i + 1) m' σ4 (upd H7 D (.dK (Zhg kvs k y)))
   else ∃ m',m' < m/\W (i + 1) m' σ4 H5)
def tCompD (k:Nat) (fr:List (Str × Nat)) (wi:TI) (g:TG) (tt:TT) (tk tv:TE):TE:=λσ H Q=>wi σ H λJ H1=>∀ D,H1 D = none->Zjs g tt tk tv J D (Zfv k fr σ) H1 Q
section
variable {X:Cx} {tg iter kx vx:Expr} {ifs:List Expr} {scope:Scope} {pos:Pos} {own:List Str} {fr:List (Str × Nat)} {wi:TI} {g:TG} {tt:TT} {tk tv:TE}
theorem Zo1 {pins:List (Addr × Obj)} {s2:Shared} {σ:St} {H2:Hp} {it:Addr} {fp:List Addr} {tn:Nat->Heap->Prop} {J:It} {Q:VK} {cl:List (Str × Addr)} {RR:Value->Addr->Result->Shared->Prop} {E:Value->Shared->Prop}
  (hc:X.calm = true) (B:BlScope X scope own fr)
  (hb:∀ cl s H fp,PG (Zbw X (Zbu own fr) scope cl s H fp) tg g/\PTs (Zbw X (Zbu own fr) scope cl s H fp) ifs tt/\PE (Zbw X (Zbu own fr) scope cl s H fp) kx tk/\PE (Zbw X (Zbu own fr) scope cl s H fp) vx tv)
  (hcl:∀ x c,cl.lookup x = some c->X.env.cells.lookup x = some c) (hcl2:∀ y ∈ scope.names,y.2 = .free->∃ c,cl.lookup y.1 = some c)
  (I2:Inv X pins σ H2 s2) (T:Turn X.prog X.w X.K tg J fp it tn) (st2:tn 0 s2.heap) (f2:∀ b ∈ fp,Zio X pins H2 b) (q:∀ D,H2 D = none->Zjs g tt tk tv J D (Zfv own.length fr σ) H2 Q)
  (hRR:∀ D C s' H',Inv X pins σ H' s'->Q (.ref D) H'->(∃ m,s'.heap.Ns C m)->C ≠ X.env.locals->(∀ x c,X.env.cells.lookup x = some c->c ≠ C)->(∀ p ∈ X.pn ++ pins,p.1 ≠ C)->X.s₀.heap.objs.size<=C->H' C = none->RR (.ref D) C (.ok .next) s'):
  wpAny (model X.prog X.w) X.A newDict (λacc s₃=>wpAny (model X.prog X.w) X.A (newFunctionEnv scope X.env.globals cl [] X.env.qual none .none (some X.env)) (λcenv s₄=>
   codeAny (model X.prog X.w) X.A (.compStart (.DictComp kx vx [⟨tg,iter,ifs,0⟩] scope pos) 0 (.ref it) acc { cenv with scope:=relabel scope X.env }) (RR acc cenv.locals) s₄) E s₃) E s2:=by
 refine Jcu ?_;have fr0:H2 s2.heap.objs.size = none:=I2.hok.fresh (Jah _);have I3:=I2.laid (a:=s2.heap.objs.size) (o:=.dK []) (t':=s2.toks) (λ_ _ q=>Jae _ q) (Jah _) (Zq4 s2.heap I2.big);generalize hs3:({ s2 with heap:=s2.heap.push { cls:=.type "dict",data:=.dict #[] } }:Shared) = s3 at *;have k23:∀ b o,s2.heap.get? b = some o->s3.heap.get? b = some o:=λb o e=>by rw [<- hs3]; exact Jae _ e
 have sz3:s3.heap.objs.size = s2.heap.objs.size + 1:=by rw [<- hs3]; exact Jcq ..
 have I3':Inv X pins σ (upd H2 s2.heap.objs.size (.dK [])) s3:=I3;have fne:∀ b ∈ fp,b ≠ s2.heap.objs.size:=λb hb z=>by
  obtain ⟨o,ho,_⟩:=T.obj 0 _ st2 b hb;exact absurd (Jaf ho) (by rw [z]; exact Jbp _)
 have f3:∀ b ∈ fp,Zio X pins (upd H2 s2.heap.objs.size (.dK [])) b:=λb hb=>⟨by rw [Zaf (fne b hb)]; exact (f2 b hb).1,(f2 b hb).2⟩
 have st3:tn 0 s3.heap:=T.keep 0 _ _ st2 λb _ o e=>k23 b o e;have hfo:∀ b ∈ fp,∃ o,s3.heap.get? b = some o:=λb hb=>let ⟨o,ho,_⟩:=T.obj 0 _ st3 b hb; ⟨o,ho⟩;refine Zdz λh' hn hk hce=>?_;have I4:=Zg8 (own:=own) I3' B hcl hcl2 f3 hfo hn hk hce;obtain ⟨hg,ht,hkx,hvx⟩:=hb cl s3 (upd H2 s2.heap.objs.size (.dK [])) fp;have st4:tn 0 h':=T.keep 0 _ _ st3 λb _ o e=>hk b o e;have stat:∀ {H':Hp},(∀ b ∈ fp,H' b = none)->∀ b ∈ fp,Zio (Zbw X (Zbu own fr) scope cl s3 (upd H2 s2.heap.objs.size (.dK [])) fp) [] H' b:=λ{H'} hnn b hb=>
  ⟨hnn b hb,(I4.ok.exf b hb).1,I4.ok.exfs b hb,.inl hb,(I4.ok.exf b hb).2,λp hp=>absurd (show p ∈ ([]:List (Addr × Obj)) from hp) (by simp)⟩
 obtain ⟨W,⟨m0,w0⟩,turn⟩:=q s2.heap.objs.size fr0;have loop:codeAny (model X.prog X.w) X.A (.compLoop (.DictComp kx vx [⟨tg,iter,ifs,0⟩] scope pos) 0 (.ref it) (.ref s2.heap.objs.size) (Zbw X (Zbu own fr) scope cl s3 (upd H2 s2.heap.objs.size (.dK [])) fp).env)
   (RR (.ref s2.heap.objs.size) s3.heap.objs.size) { s3 with heap:=h' }:=by
  refine Zij (λn s'=>∃ i σ' H',Inv (Zbw X (Zbu own fr) scope cl s3 (upd H2 s2.heap.objs.size (.dK [])) fp) [] σ' H' s'/\tn i s'.heap/\(∀ b ∈ fp,H' b = none)/\W i n σ' H') ?_ m0
   ⟨0,_,_,I4,st4,λb hb=>(f3 b hb).1,w0⟩
  rintro n s5 ⟨i,σ5,H5,I5,st5,fr5,w5⟩;rcases turn i n σ5 H5 w5 with ⟨stop,qn⟩ | ⟨go,step⟩
  .refine thn (T.done (Zbw X (Zbu own fr) scope cl s3 (upd H2 s2.heap.objs.size (.dK [])) fp) rfl rfl rfl hc i [] s5 σ5 H5 _ I5 (stat fr5) st5 stop) λr s6 ⟨hr,I6⟩=>?_;subst hr;have I7:Inv X pins σ H5 s6:=I3'.call' (ch:=fp) I6.os I6.base I6.hok I6.bare λb hb=>⟨(f3 b hb).2.2.2.1,(f3 b hb).2.1,(f3 b hb).2.2.2.2.1,(f3 b hb).2.2.2.2.2⟩
   obtain ⟨m6,hn6,_⟩:=I6.loc;refine hRR _ _ s6 H5 I7 qn ⟨m6,hn6⟩ (Jdf I3'.lt) (λx c e=>?_) (λp hp=>?_) I3'.sz I6.free
   .obtain ⟨v,z⟩:=I3'.cell x c e;exact Ja6 z.lt
   .exact Ja6 (Jaf (I3'.pin p hp).1)
  .refine thn (T.item (Zbw X (Zbu own fr) scope cl s3 (upd H2 s2.heap.objs.size (.dK [])) fp) rfl rfl rfl hc i [] s5 σ5 H5 _ I5 (stat fr5) st5 go) λr s6 ⟨u,hr,h6⟩=>?_;subst hr;refine thn h6 λ_ s7 ⟨x,H7,I7,r7,y7,st7,fr7⟩=>?_;have I7':=I7.pinned (stat fr7) (T.obj _ _ st7);refine thn (hg _ s7 σ5 H7 x u _ I7' r7 (step x H7 y7)) λ_ s8 ⟨σ8,H8,I8,q8⟩=>?_;refine thn (ht _ s8 σ8 H8 _ I8 q8) λb s9 ⟨H9,I9,q9⟩=>?_;have again:∀ {sA:Shared} {σA:St} {HA:Hp} {m':Nat},Inv (Zbw X (Zbu own fr) scope cl s3 (upd H2 s2.heap.objs.size (.dK [])) fp) ([] ++ Ze4 fp s7.heap) σA HA sA->m' < n->W (i + 1) m' σA HA->
     ∃ m,m < n/\∃ i σ' H',Inv (Zbw X (Zbu own fr) scope cl s3 (upd H2 s2.heap.objs.size (.dK [])) fp) [] σ' H' sA/\tn i sA.heap/\(∀ b ∈ fp,H' b = none)/\W i m σ' H':=λ{sA σA HA m'} IA hm wA=>by
    refine ⟨m',hm,i + 1,σA,HA,IA.unpinned,T.keep _ _ _ st7 λb hb o e=>(IA.pin (b,o) (Jaj _ (Jaj _ (Za8 hb e)))).1,λb hb=>?_,wA⟩;obtain ⟨o,e,d⟩:=T.obj _ _ st7 b hb;exact (IA.pin (b,o) (Jaj _ (Jaj _ (Za8 hb e)))).2.1
   cases b with
   | false=>
    obtain ⟨m',hm,w9⟩:=q9;exact again I9 hm w9
   | true=>
    have q9:tk σ8 H9 _:=q9;show wpAny _ _ _ _ _ _;refine thn (hkx _ s9 σ8 H9 _ I9 q9) λx sA ⟨vx',HA,IA,rA,qA⟩=>?_;refine thn (hvx _ sA σ8 HA _ IA qA) λy sB ⟨vy,HB,IB,rB,kvs,k,ek,e,l,m',hm,wB⟩=>?_;subst ek;obtain ⟨z,hd,vs,rel,dd⟩:=dk_of IB.hok e;have hz:vs.length<=sizeLine:=by rw [<- rel.length]; exact z
    have hl:(Zhg kvs k vy).length<=sizeLine:=by have:=Zer kvs k vy; omega
    refine wpAny_dictSet_pairs (hsz:=hz) (Zqu rA) dd λh' dd' hs=>?_;have he:∃ q,h'.get? s2.heap.objs.size = some q:=let ⟨q,_,_,hq,_⟩:=dd'; ⟨q,hq⟩;exact again (Zkd IB (by rw [e]; exact True.intro) hs he (Zrz hl hd (rel.put k rB) dd')) hm wB
 exact codeAny_compStart_dict loop (T.self _ 0 _ _ _ st4 loop)
theorem Zp3 (hc:X.calm = true) (B:BlScope X scope own fr) (hi:PI X tg iter wi)
  (hb:∀ cl s H fp,PG (Zbw X (Zbu own fr) scope cl s H fp) tg g/\PTs (Zbw X (Zbu own fr) scope cl s H fp) ifs tt/\PE (Zbw X (Zbu own fr) scope cl s H fp) kx tk/\PE (Zbw X (Zbu own fr) scope cl s H fp) vx tv)
  (hs:∀ x,foldedSetIterable iter X.env x = pure x:=by intro _; rfl):
  PE X (.DictComp kx vx [⟨tg,iter,ifs,0⟩] scope pos) (tCompD own.length fr wi g tt tk tv):=by
 intro pins s σ H Q I h;obtain ⟨cl,hclos,hcl,hcl2⟩:=Zik (scope:=scope) (env:=X.env) λy hy hf=>I.ok.has y.1 (B.free y hy hf);rw [arm_eval_DictComp];refine Jci (use:=none) rfl hs hclos B.kind B.loc (thn (hi pins s σ H _ I h) λv s1 h1=>thn h1 λitv s2 h2=>?_);obtain ⟨it,fp,tn,J,H2,e,I2,T,st2,f2,q⟩:=h2;subst e;refine Zo1 (RR:=λacc C=>compPost (model X.prog X.w) X.A X.xe none (EP X pins σ Q) acc C) (Q:=Q) hc B hb hcl hcl2 I2 T st2 f2 q ?_;intro D C s' H' I' hq hn n1 n2 n3 n4 n5;obtain ⟨m,hn⟩:=hn;refine ⟨m,hn,λh' hs'=>⟨.ref D,H',I'.turned (it:=C) (t':=s'.toks) (λb o hb e=>SameBut.get hs' b o hb e) n5 (Jb7 (Jb7 n1)) (.inr n4) n2 n3,rfl,hq⟩⟩
end
end L2
namespace L2
open PySem PySem.Spec PyProof.Rows
theorem Zoh:∀ {ns:List Int} {us:List Value},Vals (ns.map V.int) us->IntsAre us ns
 | [],us,r=>by cases r; exact .nil
 | n :: ns,us,r=>by
  cases r with
  | cons r1 r2=>obtain ⟨t,rfl⟩:=r1; exact .cons n t (Zoh r2)
theorem Zmm:∀ {us:List Value} {ns:List Int},IntsAre us ns->Vals (ns.map V.int) us
 | _,_,.nil=>.nil
 | _,_,.cons n t h=>.cons ⟨t,rfl⟩ (Zmm h)
section
variable {X:Cx}
theorem Zeu:Zdc X (.builtin "sorted") (λxs H Q=>∃ (p:Addr) (ns:List Int),xs = [.ref p]/\SqL X.K H p (ns.map V.int)/\ns.length < 64 /\
  ∀ (l:Addr) (ns':List Int),H l = none->ns'.Perm ns->ns'.Pairwise (·<=·)->Q (.ref l) (upd H l (.lst (ns'.map V.int)))):=by
 intro pins s σ H xs us Q I r h;obtain ⟨p,ns,rfl,hq,h64,q⟩:=h;obtain ⟨u,rfl,rx⟩:=Zh0 r;cases rx;obtain ⟨its,rv,pl,hz⟩:=I.list hq;have hl:=rv.length;rw [Jab] at hl;refine PyProof.Rows.sorted_ints pl.isList (Zoh rv) (by rw [<- hl]; exact h64) λout ns' hi hp hs=>?_;obtain ⟨e,he⟩:=sortedAll_at s.heap its out;have hlen:ns'.length < 64:=by rw [hp.length_eq]; exact h64
 refine ⟨.ref (s.heap.objs.size + 1),_,I.laid (a:=s.heap.objs.size + 1) (o:=.lst (ns'.map V.int)) (t':=s.toks) (λb o z=>sortedAll_old z) (Nat.le_succ _) ?_,rfl,q _ ns' (I.hok.fresh (Nat.le_succ _)) hp hs⟩;refine ⟨by rw [Jab]; exact Ja3 (Jcd hlen) (by rw [sizeLine_eq]; omega),out.toList,e,Zmm hi,?_⟩;simpa [seqObj] using he
end
section
variable {prog:Program} {w:World} {A:Around} {E:Value->Shared->Prop} {s:Shared}
theorem Zjf {it t:Addr} {items:Array Value} (hne:t ≠ it):∀ (n i:Nat) (s:Shared) (Q:List Value->Shared->Prop),s.heap.IsListIter it t i->s.heap.IsList t items->i + n<=items.size->
  (∀ h',h'.IsListIter it t (i + n)->Heap.SameBut it s.heap h'->Q ((items.toList.drop i).take n) { s with heap:=h' })->wpAny (model prog w) A (draw (.ref it) n) Q E s
 | 0,i,s,Q,hit,_,_,hQ=>by
  show wpAny _ _ (pure []) Q E s;exact Jat (by simpa using hQ s.heap hit (Heap.SameBut.refl ..))
 | n + 1,i,s,Q,hit,ht,hle,hQ=>by
  have hlt:i < items.size:=by omega
  show wpAny _ _ (pyNext (.ref it) >>= _) Q E s;refine Jac (wpAny_pyNext_list_item hit ht (x:=items[i]) (by simp [hlt]) λh₁ hit₁ hs₁=>?_);refine Jac (Jb4 (Zjf hne n (i + 1) _ _ hit₁ (ht.at λo e=>(hs₁.2 t hne).trans e) (by omega) λh₂ hit₂ hs₂=>Jat ?_));have hd:items.toList.drop i = items[i] :: items.toList.drop (i + 1):=by simp [List.drop_eq_getElem_cons,hlt]
  have:=hQ h₂ (by rw [show i + (n + 1) = i + 1 + n by omega]; exact hit₂) (hs₁.trans hs₂);rw [hd,Jdr] at this;exact this
theorem Zf9 {t:Addr} {items:Array Value} {Q:List Value->Shared->Prop} (hh:A.handled = none) (ht:s.heap.IsList t items)
  (hQ:∀ h',Heap.ExtBut s.heap.objs.size s.heap h'->Q items.toList { s with heap:=h' }):wpAny (model prog w) A (unpackItems (.ref t) items.size none) Q E s:=by
 have hlt:t ≠ s.heap.objs.size:=by obtain ⟨o,ho,_⟩:=ht; exact Ja6 (Jaf ho)
 unfold unpackItems;refine Jac ?_
 .unfold notIterableAtAll;refine Jac (wpAny_specialOf ht.typeIs slot_list_iter.lookup ?_);refine Jat ?_;simp only [Jdz,if_false];refine Jac (Jb4 (Jd3 ht ?_));refine Jac (Jb4 (Zjf hlt items.size 0 _ _ ⟨_,Ja8 _ rfl,rfl,rfl⟩ (ht.at λo e=>Jae _ e) (by omega) λh₁ hit₁ hs₁=>?_));have hall:List.take items.size (List.drop 0 items.toList) = items.toList:=by
   rw [List.drop_zero]; exact List.take_of_length_le (by simp)
  rw [hall];rw [if_neg (by simp)];have ht₁:h₁.IsList t items:=(ht.at (h':=s.heap.push { cls:=.type "list_iterator",data:=.fields #[.ref t,.int 0 0] }) λo e=>Jae _ e).at λo e=>(hs₁.2 t hlt).trans e;refine Jac (Jb4 (wpAny_pyNext_list_end hh hit₁ ht₁ (by simp) λh₂ he₂=>?_));simp only [Option.isSome_none,Jdz,if_false];refine Jat (hQ h₂ λb o hb e=>he₂ b o hb (hs₁.extBut b o hb (Jae _ e)))
theorem Zfw {env:Env} {elts:List Expr} {x1} {pos:Pos} {t:Addr} {items:Array Value} {Q:Unit->Shared->Prop} (hh:A.handled = none) (ht:s.heap.IsList t items)
  (hn:(assignEach elts env).length = items.size) (hstar:(assignEach elts env).findIdx? (·.1) = none)
  (h:∀ h',Heap.ExtBut s.heap.objs.size s.heap h'->wpAny (model prog w) A (assignInOrder ((assignEach elts env).map (·.2)) items.toList) Q E { s with heap:=h' }):
  wpAny (model prog w) A (assign (.Tuple elts x1 pos) env (.ref t)) Q E s:=by
 rw [PyProof.Rows.assign_Tuple];refine Jac (Jb1 ?_);unfold unpack;rw [hn,hstar];exact Jac (Jb4 (Zf9 hh ht h))
end
section
variable {X:Cx} {pos:Pos}
def gLst (K:PySem.W.Frag) (n:Nat) (t:TGs):TG:=λv σ H Q=>∃ a xs,v = .ref a/\SqL K H a xs/\xs.length = n/\t xs σ H Q
theorem pg_lst {es:List Expr} {k:Nat} {t:TGs} {n:Nat} (hc:X.calm = true) (h:PGs X es t)
  (hn:(assignEach es X.env).length = n:=by rfl) (hst:(assignEach es X.env).findIdx? (·.1) = none:=by rfl):PG X (.Tuple es k pos) (gLst X.K n t):=by
 intro pins s σ H v u Q I r hw;obtain ⟨a,xs,e1,hq,hl,hw⟩:=hw;subst e1;cases r;obtain ⟨its,rv,ht,hz⟩:=I.list hq;refine Zfw (I.ok.hd hc) ht.isList (by simp [hn,<- hl,rv.length]) hst λh' hx=>?_;have I1:Inv X pins σ H { s with heap:=h' }:=I.kept (t':=s.toks) λb o e=>hx b o (Ja6 (Jaf e)) e;exact h pins _ σ H xs _ Q I1 (by simpa using rv) hw
end
theorem Zns {X:Cx} {m:Str} {C:Addr} {k:Nat} {sp:Sp} {o:Expr} {ta:TE} {apos pos:Pos} {pl:Sem Bool} (c:Cls X.K C) (M:CalM X.prog X.w X.K X.mg X.base C m k sp) (hr:Room k X.A) (ho:PE X o ta)
  (ht:eval (.Call (.Attribute o m apos) [] [] pos) X.env = (do
   let ov <- eval o X.env
   standAt apos.atName
   let (f,first) <- holding [ov] (getMethod ov m pl)
   callWith pos f first (backTo pos (starEach [] X.env)) (backToKw pos (keywordEach [] X.env))):=by rfl):
  PE X (.Call (.Attribute o m apos) [] [] pos) (Zmv C m sp [] E0 ta Zpd):=by
 obtain ⟨f,fd,ps,F,hm,hb⟩:=M.ex;exact Zp2 ho c hm F hr hb .nil Znv ht
end L2
namespace L3
theorem Zcf {α:Type} [DecidableEq α]:∀ {l m:List α},l.Nodup->(∀ x ∈ l,x ∈ m)->m.length<=l.length->l.Perm m
 | [],m,_,_,h=>by
  have:m = []:=List.eq_nil_of_length_eq_zero (by simpa using h);rw [this]
 | a :: l,m,nd,hs,h=>by
  have ha:a ∈ m:=hs a (by simp);have nd':=Jbr.mp nd;have p:=List.perm_cons_erase ha;refine (List.Perm.cons a (Zcf nd'.2 (λx hx=>?_) ?_)).trans p.symm
  .have hne:x ≠ a:=λz=>nd'.1 (z ▸ hx);exact (List.mem_erase_of_ne hne).mpr (hs x (by simp [hx]))
  .rw [Jc3 ha];rw [Jba] at h;omega
abbrev Ed:=Int × Int
def ce (d:Int->Nat) (q:Ed):Int:=if d q.2 + 1 = d q.1 then q.1 else q.2
def pe (d:Int->Nat) (q:Ed):Int:=if d q.2 + 1 = d q.1 then q.2 else q.1
structure Tr (S:List Int) (ps:List Ed) (f:Int) (d:Int->Nat):Prop where
 nd:S.Nodup
 fS:f ∈ S
 inS:∀ q ∈ ps,q.1 ∈ S/\q.2 ∈ S
 par:∀ x ∈ S,x ≠ f->∃ q ∈ ps,(q.1 = x/\d q.2 + 1 = d x)\/(q.2 = x/\d q.1 + 1 = d x)
 len:ps.length + 1 = S.length
section
variable {S:List Int} {ps:List Ed} {f:Int} {d:Int->Nat}
def oth (S:List Int) (f:Int):List Int:=S.filter λx=>decide (x ≠ f)
theorem Za9 {x:Int}:x ∈ oth S f ↔ x ∈ S/\x ≠ f:=by unfold oth; simp [Jap]
theorem Znw {q:Ed} {x:Int} (h:(q.1 = x/\d q.2 + 1 = d x)\/(q.2 = x/\d q.1 + 1 = d x)):ce d q = x/\d (pe d q) + 1 = d x:=by
 unfold ce pe;rcases h with ⟨e,h⟩ | ⟨e,h⟩
 .rw [<- e] at h ⊢;rw [if_pos h,if_pos h];exact ⟨rfl,h⟩
 .rw [<- e] at h ⊢;rw [if_neg (by omega),if_neg (by omega)];exact ⟨rfl,h⟩
theorem Znx (nd:S.Nodup) (h:f ∈ S):(oth S f).length + 1 = S.length:=by
 have e:oth S f = S.erase f:=by
  unfold oth;rw [List.Nodup.erase_eq_filter nd];congr 1
  funext x
  rw [Jbm];simp
 rw [e,Jc3 h];have:=List.length_pos_of_mem h;omega
theorem Tr.perm (T:Tr S ps f d):(oth S f).Perm (ps.map (ce d)):=by
 refine Zcf (Ja7 Ja0 T.nd) (λx hx=>?_) ?_
 .obtain ⟨h1,h2⟩:=Za9.mp hx;obtain ⟨q,hq,h⟩:=T.par x h1 h2;exact Jan.mpr ⟨q,hq,(Znw h).1⟩
 .have:=Znx T.nd T.fS;have:=T.len;rw [Jab];omega
theorem Tr.cend (T:Tr S ps f d):(ps.map (ce d)).Nodup:=T.perm.nodup_iff.mp (Ja7 Ja0 T.nd)
theorem Tr.one (T:Tr S ps f d) {q q':Ed} (h:q ∈ ps) (h':q' ∈ ps) (e:ce d q = ce d q'):q = q':=by
 obtain ⟨i,hi,rfl⟩:=Jbb.mp h;obtain ⟨j,hj,rfl⟩:=Jbb.mp h';have:=T.cend;have hij:i = j:=(List.getElem_inj (h₀:=by rw [Jab]; exact hi) (h₁:=by rw [Jab]; exact hj) this).mp (by rw [List.getElem_map,List.getElem_map]; exact e);subst hij;rfl
theorem Tr.prop (T:Tr S ps f d) {q:Ed} (h:q ∈ ps):ce d q ∈ S/\ce d q ≠ f/\pe d q ∈ S/\d (pe d q) + 1 = d (ce d q):=by
 have hm:ce d q ∈ oth S f:=T.perm.mem_iff.mpr (Jan.mpr ⟨q,h,rfl⟩);obtain ⟨h1,h2⟩:=Za9.mp hm;obtain ⟨q',hq',hp⟩:=T.par _ h1 h2;obtain ⟨e1,e2⟩:=Znw hp;have:=T.one hq' h e1;subst this;refine ⟨h1,h2,?_,e2⟩;unfold pe;split
 .exact (T.inS _ h).2
 .exact (T.inS _ h).1
theorem Tr.up (T:Tr S ps f d) {x:Int} (h:x ∈ S) (hf:x ≠ f):∃ q ∈ ps,ce d q = x:=by
 obtain ⟨q,hq,hp⟩:=T.par x h hf;exact ⟨q,hq,(Znw hp).1⟩
theorem Zes (q:Ed):(q.1 = ce d q/\q.2 = pe d q)\/(q.1 = pe d q/\q.2 = ce d q):=by
 unfold ce pe;split
 .exact .inl ⟨rfl,rfl⟩
 .exact .inr ⟨rfl,rfl⟩
def chn (d:Int->Nat) (ps:List Ed) (x:Int):Nat:=(ps.map (pe d)).count x
def deg (ps:List Ed) (x:Int):Nat:=ps.countP λq=>decide (q.1 = x\/q.2 = x)
theorem Tr.ne (T:Tr S ps f d) {q:Ed} (h:q ∈ ps):q.1 ≠ q.2:=λe=>by
 have:=(T.prop h).2.2.2;rcases Zes (d:=d) q with ⟨a,b⟩ | ⟨a,b⟩
 .rw [<- a,<- b,e] at this;omega
 .rw [<- a,<- b,e] at this;omega
theorem Zr0 (x:Int):∀ (l:List Ed),(∀ q ∈ l,ce d q ≠ pe d q)->l.countP (λq=>decide (q.1 = x\/q.2 = x)) = (l.map (ce d)).count x + (l.map (pe d)).count x
 | [],_=>rfl
 | q :: l,h=>by
  have hq:=h q (by simp);have ih:=Zr0 x l λq' h'=>h q' (by simp [h']);rw [List.countP_cons,ih,Jav,Jav,Jds,Jds];have e:(decide (q.1 = x\/q.2 = x)) = ((ce d q == x) || (pe d q == x)):=by
   rw [Jbm];simp only [Jbw,Jc7,Jbg];rcases Zes (d:=d) q with ⟨a,b⟩ | ⟨a,b⟩
   .rw [a,b]
   .rw [a,b]; exact Or.comm
  rw [e];by_cases h1:ce d q = x
  .have h2:pe d q ≠ x:=λz=>hq (h1.trans z.symm);simp [h1,h2];omega
  .by_cases h2:pe d q = x
   .simp [h1,h2];omega
   .simp [h1,h2]
theorem Tr.deg (T:Tr S ps f d) (x:Int):deg ps x = (ps.map (ce d)).count x + chn d ps x:=Zr0 x ps λq h e=>by
 have:=(T.prop h).2.2.2;rw [e] at this;omega
theorem Tr.deg_f (T:Tr S ps f d):L3.deg ps f = chn d ps f:=by
 rw [T.deg,List.count_eq_zero.mpr (λh=>?_),Nat.zero_add];obtain ⟨q,hq,e⟩:=Jan.mp h;exact (T.prop hq).2.1 e
theorem Tr.deg_x (T:Tr S ps f d) {x:Int} (h:x ∈ S) (hf:x ≠ f):L3.deg ps x = 1 + chn d ps x:=by
 rw [T.deg];congr 1;obtain ⟨q,hq,e⟩:=T.up h hf;have h1:(ps.map (ce d)).count x<=1:=List.nodup_iff_count.mp T.cend x;have h2:0 < (ps.map (ce d)).count x:=Jcs.mpr (Jan.mpr ⟨q,hq,e⟩);omega
def up1 (d:Int->Nat) (ps:List Ed) (x:Int):Int:=((ps.find? λq=>decide (ce d q = x)).map (pe d)).getD x
theorem Tr.up1_of (T:Tr S ps f d) {x:Int} (h:x ∈ S) (hf:x ≠ f):∃ q ∈ ps,ce d q = x/\up1 d ps x = pe d q:=by
 obtain ⟨q,hq,e⟩:=T.up h hf;unfold up1;cases hfd:ps.find? (λq=>decide (ce d q = x)) with
 | none=>
  have:=List.find?_eq_none.mp hfd q hq;exact absurd (Jad e) this
 | some q'=>exact ⟨q',List.mem_of_find?_eq_some hfd,Jas (List.find?_some (p:=λq=>decide (ce d q = x)) hfd),rfl⟩
theorem Tr.up1_prop (T:Tr S ps f d) {x:Int} (h:x ∈ S) (hf:x ≠ f):up1 d ps x ∈ S/\d (up1 d ps x) + 1 = d x:=by
 obtain ⟨q,hq,e,e'⟩:=T.up1_of h hf;rw [e',<- e];exact ⟨(T.prop hq).2.2.1,(T.prop hq).2.2.2⟩
theorem Tr.up1_ce (T:Tr S ps f d) {q:Ed} (h:q ∈ ps):up1 d ps (ce d q) = pe d q:=by
 obtain ⟨q',hq',e,e'⟩:=T.up1_of (T.prop h).1 (T.prop h).2.1;rw [e',T.one hq' h e]
def rt (d:Int->Nat) (ps:List Ed) (f:Int):Nat->Int->Int
 | 0,x=>x
 | k + 1,x=>if up1 d ps x = f then x else rt d ps f k (up1 d ps x)
def Zb7 (d:Int->Nat) (ps:List Ed) (f x:Int):Int:=rt d ps f (d x) x
theorem Tr.root_step (T:Tr S ps f d) {x:Int} (h:x ∈ S) (hf:x ≠ f) (hu:up1 d ps x ≠ f):Zb7 d ps f x = Zb7 d ps f (up1 d ps x):=by
 have:=(T.up1_prop h hf).2;unfold Zb7;rw [<- this];show (if up1 d ps x = f then x else rt d ps f (d (up1 d ps x)) (up1 d ps x)) = _;rw [if_neg hu]
theorem Tr.root_base (T:Tr S ps f d) {x:Int} (h:x ∈ S) (hf:x ≠ f) (hu:up1 d ps x = f):Zb7 d ps f x = x:=by
 have:=(T.up1_prop h hf).2;unfold Zb7;rw [<- this];show (if up1 d ps x = f then x else rt d ps f (d (up1 d ps x)) (up1 d ps x)) = _;rw [if_pos hu]
theorem Tr.pos (T:Tr S ps f d) {x:Int} (h:x ∈ S) (hf:x ≠ f):0 < d x:=by have:=(T.up1_prop h hf).2; omega
theorem Tr.root_ok (T:Tr S ps f d):∀ (k:Nat) {x:Int},d x<=k->x ∈ S->x ≠ f->Zb7 d ps f x ∈ S/\Zb7 d ps f x ≠ f/\up1 d ps (Zb7 d ps f x) = f
 | 0,x,hk,h,hf=>by have:=T.pos h hf; omega
 | k + 1,x,hk,h,hf=>by
  by_cases hu:up1 d ps x = f
  .rw [T.root_base h hf hu];exact ⟨h,hf,hu⟩
  .have:=T.up1_prop h hf;rw [T.root_step h hf hu];exact T.root_ok k (by omega) this.1 hu
theorem Zjg {g:Ed->Int} {z:Int}:∀ {l:List Ed} {q q':Ed},q ∈ l->q' ∈ l->q ≠ q'->g q = z->g q' = z->2<=(l.map g).count z
 | a :: l,q,q',h,h',n,e,e'=>by
  rw [Jav,Jds];rcases Jaq.mp h with h1 | h1
  .rcases Jaq.mp h' with h2 | h2
   .exact absurd (h1.trans h2.symm) n
   .have:0 < (l.map g).count z:=Jcs.mpr (Jan.mpr ⟨q',h2,e'⟩);rw [if_pos (by rw [<- h1,e]; simp)];omega
  .rcases Jaq.mp h' with h2 | h2
   .have:0 < (l.map g).count z:=Jcs.mpr (Jan.mpr ⟨q,h1,e⟩);rw [if_pos (by rw [<- h2,e']; simp)];omega
   .have:=Zjg h1 h2 n e e';omega
structure Fk (S:List Int) (ps:List Ed) (f:Int) (d:Int->Nat):Prop extends Tr S ps f d where
 d0:d f = 0
 few:∀ x ∈ S,x ≠ f->chn d ps x<=1
theorem Fk.zero (T:Fk S ps f d) {x:Int} (h:x ∈ S) (h0:d x = 0):x = f:=Jax λz=>by have:=T.pos h z; omega
theorem Fk.inj (T:Fk S ps f d):∀ (k:Nat) {x y:Int},d x = k->d y = k->x ∈ S->x ≠ f->y ∈ S->y ≠ f->Zb7 d ps f x = Zb7 d ps f y->x = y
 | 0,x,y,hx,hy,h,hf,_,_,_=>by have:=T.pos h hf; omega
 | k + 1,x,y,hx,hy,h,hf,h',hf',e=>by
  have ux:=T.up1_prop h hf;have uy:=T.up1_prop h' hf';by_cases hu:up1 d ps x = f
  .have:d (up1 d ps y) = 0:=by rw [hu,T.d0] at ux; omega
   rw [T.root_base h hf hu,T.root_base h' hf' (T.zero uy.1 this)] at e;exact e
  .have hu':up1 d ps y ≠ f:=λz=>by
    rw [z,T.d0] at uy;exact hu (T.zero ux.1 (by omega))
   rw [T.root_step h hf hu,T.root_step h' hf' hu'] at e;have ih:=T.inj k (by omega) (by omega) ux.1 hu uy.1 hu' e;obtain ⟨q,hq,e1,e2⟩:=T.up1_of h hf;obtain ⟨q',hq',e1',e2'⟩:=T.up1_of h' hf';by_cases hqq:q = q'
   .rw [<- e1,<- e1',hqq]
   .have:=Zjg (g:=pe d) hq hq' hqq (e2.symm.trans ih) e2'.symm;have h1:=T.few _ uy.1 hu';unfold chn at h1;omega
def cls (S:List Int) (d:Int->Nat) (ps:List Ed) (f a:Int):List Int:=(oth S f).filter λx=>decide (Zb7 d ps f x = a)
theorem Zda {a x:Int}:x ∈ cls S d ps f a ↔ (x ∈ S/\x ≠ f)/\Zb7 d ps f x = a:=by unfold cls; rw [Jap,Za9]; simp
theorem Fk.desc (T:Fk S ps f d) {a:Int}:∀ (j:Nat) {y:Int} {k:Nat},y ∈ cls S d ps f a->1<=k->k + j = d y->∃ z ∈ cls S d ps f a,d z = k
 | 0,y,k,hy,h1,e=>⟨y,hy,by omega⟩
 | j + 1,y,k,hy,h1,e=>by
  obtain ⟨⟨h,hf⟩,hr⟩:=Zda.mp hy;have u:=T.up1_prop h hf;have hu:up1 d ps y ≠ f:=λz=>by rw [z,T.d0] at u; omega
  exact T.desc j (y:=up1 d ps y) (Zda.mpr ⟨⟨u.1,hu⟩,by rw [<- T.root_step h hf hu]; exact hr⟩) h1 (by omega)
theorem Zbm {α:Type} [DecidableEq α]:∀ {l m:List α},l.Nodup->(∀ x ∈ l,x ∈ m)->l.length<=m.length
 | [],m,_,_=>Jb6 _
 | a :: l,m,nd,hs=>by
  have ha:a ∈ m:=hs a (by simp);have nd':=Jbr.mp nd;have:=Zbm (l:=l) (m:=m.erase a) nd'.2 λx hx=>(List.mem_erase_of_ne (show x ≠ a from λz=>nd'.1 (z ▸ hx))).mpr (hs x (by simp [hx]));rw [Jc3 ha] at this;have:=List.length_pos_of_mem ha;rw [Jba];omega
theorem Zbl {α β:Type} {g:α->β}:∀ {l:List α},l.Nodup->(∀ x ∈ l,∀ y ∈ l,g x = g y->x = y)->(l.map g).Nodup
 | [],_,_=>List.nodup_nil
 | a :: l,nd,h=>by
  have nd':=Jbr.mp nd;rw [Jav,Jbr];refine ⟨λz=>?_,Zbl nd'.2 λx hx y hy=>h x (by simp [hx]) y (by simp [hy])⟩;obtain ⟨y,hy,e⟩:=Jan.mp z;have:=h y (by simp [hy]) a (by simp) e;exact nd'.1 (this ▸ hy)
theorem Fk.size (T:Fk S ps f d) {x:Int} (h:x ∈ S) (hf:x ≠ f) (h0:chn d ps x = 0):(cls S d ps f (Zb7 d ps f x)).length = d x:=by
 have hx:x ∈ cls S d ps f (Zb7 d ps f x):=Zda.mpr ⟨⟨h,hf⟩,rfl⟩;have top:∀ y ∈ cls S d ps f (Zb7 d ps f x),d y<=d x:=λy hy=>Jax λz=>by
  obtain ⟨y',hy',e'⟩:=T.desc (d y - (d x + 1)) hy (k:=d x + 1) (by omega) (by omega);obtain ⟨⟨h1,h2⟩,h3⟩:=Zda.mp hy';have u:=T.up1_prop h1 h2;have hu:up1 d ps y' ≠ f:=λw=>by
   rw [w,T.d0] at u;have:=T.pos h hf;omega
  have e2:up1 d ps y' = x:=T.inj (d x) (by omega) rfl u.1 hu h hf (by rw [<- T.root_step h1 h2 hu]; exact h3);obtain ⟨q,hq,e3,e4⟩:=T.up1_of h1 h2;have:0 < chn d ps x:=Jcs.mpr (Jan.mpr ⟨q,hq,e4.symm.trans e2⟩);omega
 have ndc:(cls S d ps f (Zb7 d ps f x)).Nodup:=Ja7 (Ja0.trans Ja0) T.nd;have ndm:((cls S d ps f (Zb7 d ps f x)).map d).Nodup:=Zbl ndc λy hy z hz e=>by
  obtain ⟨⟨a1,a2⟩,a3⟩:=Zda.mp hy;obtain ⟨⟨b1,b2⟩,b3⟩:=Zda.mp hz;exact T.inj (d z) e rfl a1 a2 b1 b2 (a3.trans b3.symm)
 have l1:=Zbm (m:=List.range' 1 (d x)) ndm λk hk=>by
  obtain ⟨y,hy,rfl⟩:=Jan.mp hk;have:=top y hy;obtain ⟨⟨a1,a2⟩,a3⟩:=Zda.mp hy;have:=T.pos a1 a2;rw [List.mem_range'_1];omega
 have l2:=Zbm (l:=List.range' 1 (d x)) (m:=(cls S d ps f (Zb7 d ps f x)).map d) (List.nodup_range' ..) λk hk=>by
  rw [List.mem_range'_1] at hk;obtain ⟨z,hz,e⟩:=T.desc (d x - k) hx (k:=k) (by omega) (by omega);exact Jan.mpr ⟨z,hz,e⟩
 rw [Jab,List.length_range'] at l1 l2;omega
theorem Fk.leaf_one (T:Fk S ps f d) {x y:Int} (h:x ∈ S) (hf:x ≠ f) (h0:chn d ps x = 0) (h':y ∈ S) (hf':y ≠ f) (h0':chn d ps y = 0) (e:Zb7 d ps f x = Zb7 d ps f y):x = y:=by
 have a:=T.size h hf h0;have b:=T.size h' hf' h0';rw [e] at a;exact T.inj (d y) (by omega) rfl h hf h' hf' e
theorem Zlk (d:Int->Nat):∀ (S:List Int),∃ B,∀ x ∈ S,d x<=B
 | []=>⟨0,by simp⟩
 | a :: S=>by
  obtain ⟨B,h⟩:=Zlk d S;refine ⟨max (d a) B,λx hx=>?_⟩;rcases Jaq.mp hx with rfl | hx
  .omega
  .have:=h x hx;omega
theorem Fk.leaf_go (T:Fk S ps f d) {B:Nat} (hB:∀ x ∈ S,d x<=B):∀ (k:Nat) {x:Int},B - d x<=k->x ∈ S->x ≠ f->∃ z ∈ S,z ≠ f/\chn d ps z = 0/\Zb7 d ps f z = Zb7 d ps f x
 | k,x,hk,h,hf=>by
  by_cases h0:chn d ps x = 0
  .exact ⟨x,h,hf,h0,rfl⟩
  .obtain ⟨q,hq,e⟩:=Jan.mp (Jcs.mp (Nat.pos_of_ne_zero h0));obtain ⟨p1,p2,p3,p4⟩:=T.prop hq;rw [e] at p4;have b:=hB _ p1;have u:up1 d ps (ce d q) = x:=(T.up1_ce hq).trans e;have r:Zb7 d ps f (ce d q) = Zb7 d ps f x:=by rw [T.root_step p1 p2 (by rw [u]; exact hf),u]
   match k with
   | 0=>omega
   | k + 1=>
    obtain ⟨z,z1,z2,z3,z4⟩:=T.leaf_go hB k (x:=ce d q) (by omega) p1 p2;exact ⟨z,z1,z2,z3,z4.trans r⟩
theorem Fk.leaf (T:Fk S ps f d) {x:Int} (h:x ∈ S) (hf:x ≠ f):∃ z ∈ S,z ≠ f/\chn d ps z = 0/\Zb7 d ps f z = Zb7 d ps f x:=by
 obtain ⟨B,hB⟩:=Zlk d S;exact T.leaf_go hB (B - d x) (Jah _) h hf
def lvs (S:List Int) (ps:List Ed):List Int:=S.filter λx=>decide (deg ps x = 1)
theorem Fk.arms (T:Fk S ps f d) (hf3:deg ps f ≠ 1) {R:List Int} (nR:R.Nodup) (hR:∀ r ∈ R,r ∈ S/\r ≠ f) (hone:∀ r ∈ R,∀ r' ∈ R,Zb7 d ps f r = Zb7 d ps f r'->r = r') (hall:∀ x ∈ S,x ≠ f->∃ r ∈ R,Zb7 d ps f r = Zb7 d ps f x):
  (R.map λr=>(cls S d ps f (Zb7 d ps f r)).length).Perm ((lvs S ps).map d):=by
 have ml:∀ x,x ∈ lvs S ps ↔ x ∈ S/\x ≠ f/\chn d ps x = 0:=λx=>by
  unfold lvs;rw [Jap,Jbw];constructor
  .rintro ⟨h,e⟩;have hf:x ≠ f:=λz=>hf3 (z ▸ e);have:=T.deg_x h hf;exact ⟨h,hf,by omega⟩
  .rintro ⟨h,hf,e⟩;exact ⟨h,by have:=T.deg_x h hf; omega⟩
 have nL:(lvs S ps).Nodup:=Ja7 Ja0 T.nd;have n1:(R.map (Zb7 d ps f)).Nodup:=Zbl nR hone;have n2:((lvs S ps).map (Zb7 d ps f)).Nodup:=Zbl nL λx hx y hy e=>by
  obtain ⟨a1,a2,a3⟩:=(ml x).mp hx;obtain ⟨b1,b2,b3⟩:=(ml y).mp hy;exact T.leaf_one a1 a2 a3 b1 b2 b3 e
 have s1:∀ a ∈ R.map (Zb7 d ps f),a ∈ (lvs S ps).map (Zb7 d ps f):=λa ha=>by
  obtain ⟨r,hr,rfl⟩:=Jan.mp ha;obtain ⟨z,z1,z2,z3,z4⟩:=T.leaf (hR r hr).1 (hR r hr).2;exact Jan.mpr ⟨z,(ml z).mpr ⟨z1,z2,z3⟩,z4⟩
 have s2:∀ a ∈ (lvs S ps).map (Zb7 d ps f),a ∈ R.map (Zb7 d ps f):=λa ha=>by
  obtain ⟨x,hx,rfl⟩:=Jan.mp ha;obtain ⟨a1,a2,_⟩:=(ml x).mp hx;obtain ⟨r,hr,e⟩:=hall x a1 a2;exact Jan.mpr ⟨r,hr,e⟩
 have p:=(Zcf n1 s1 (Zbm n2 s2)).map λa=>(cls S d ps f a).length;rw [Jcj,Jcj] at p;refine p.trans (List.Perm.of_eq (Jc2 λx hx=>?_));obtain ⟨a1,a2,a3⟩:=(ml x).mp hx;exact T.size a1 a2 a3
def Conn (S:List Int) (es:List Ed):Prop:=∀ h:Int->Int,(∀ q ∈ es,h q.1 = h q.2)->∀ x ∈ S,∀ y ∈ S,h x = h y
def Zrb (A:List Int) (es:List Ed) (f:Int) (d:Int->Nat):Prop:=∀ x ∈ A,x ≠ f->∃ q ∈ es,(q.1 = x/\q.2 ∈ A/\d q.2 + 1 = d x)\/(q.2 = x/\q.1 ∈ A/\d q.1 + 1 = d x)
theorem Zoz {es:List Ed} (hc:Conn S es) (hin:∀ q ∈ es,q.1 ∈ S/\q.2 ∈ S) {A:List Int} {d:Int->Nat} (hA:∀ x ∈ A,x ∈ S) (hf:f ∈ A) (hne:∃ y ∈ S,y ∉ A) (d0:d f = 0) (hp:Zrb A es f d):
  ∃ v ∈ S,v ∉ A/\∃ d',d' f = 0/\Zrb (v :: A) es f d':=by
 have cross:∃ q ∈ es,¬ (q.1 ∈ A ↔ q.2 ∈ A):=Jax λz=>by
  obtain ⟨y,hy,ny⟩:=hne;have:=hc (λx=>if x ∈ A then 1 else 0) (λq hq=>by
   have:q.1 ∈ A ↔ q.2 ∈ A:=Jax λw=>z ⟨q,hq,w⟩;by_cases h:q.1 ∈ A
   .rw [if_pos h,if_pos (this.mp h)]
   .rw [if_neg h,if_neg (λw=>h (this.mpr w))]) f (hA f hf) y hy
  rw [if_pos hf,if_neg ny] at this;exact absurd this (by decide)
 obtain ⟨q,hq,hx⟩:=cross;have go:∀ u v,u ∈ A->v ∈ S->v ∉ A->((q.1 = v/\q.2 = u)\/(q.2 = v/\q.1 = u))->∃ v ∈ S,v ∉ A/\∃ d',d' f = 0/\Zrb (v :: A) es f d':=λu v hu hv nv hq2=>by
  have nf:f ≠ v:=λz=>nv (z ▸ hf);refine ⟨v,hv,nv,λx=>if x = v then d u + 1 else d x,by simp only; rw [if_neg nf]; exact d0,λx hx xf=>?_⟩;rcases Jaq.mp hx with rfl | hxA
  .refine ⟨q,hq,?_⟩;have nu:u ≠ x:=λz=>nv (z ▸ hu);rcases hq2 with ⟨e1,e2⟩ | ⟨e1,e2⟩
   .exact .inl ⟨e1,by rw [e2]; simp [hu],by rw [e2]; simp [nu]⟩
   .exact .inr ⟨e1,by rw [e2]; simp [hu],by rw [e2]; simp [nu]⟩
  .have nx:x ≠ v:=λz=>nv (z ▸ hxA);obtain ⟨q',hq',h⟩:=hp x hxA xf;refine ⟨q',hq',?_⟩;rcases h with ⟨e1,e2,e3⟩ | ⟨e1,e2,e3⟩
   .have n2:q'.2 ≠ v:=λz=>nv (z ▸ e2);exact .inl ⟨e1,by simp [e2],by simp only; rw [if_neg n2,if_neg nx]; exact e3⟩
   .have n2:q'.1 ≠ v:=λz=>nv (z ▸ e2);exact .inr ⟨e1,by simp [e2],by simp only; rw [if_neg n2,if_neg nx]; exact e3⟩
 obtain ⟨i1,i2⟩:=hin q hq;by_cases h1:q.1 ∈ A
 .have h2:q.2 ∉ A:=λw=>hx ⟨λ_=>w,λ_=>h1⟩;exact go q.1 q.2 h1 i2 h2 (.inr ⟨rfl,rfl⟩)
 .have h2:q.2 ∈ A:=Jax λw=>hx ⟨λz=>absurd z h1,λz=>absurd z w⟩;exact go q.2 q.1 h2 i1 h1 (.inl ⟨rfl,rfl⟩)
theorem Zo0 {es:List Ed} (hc:Conn S es) (hin:∀ q ∈ es,q.1 ∈ S/\q.2 ∈ S) (nS:S.Nodup):∀ (k:Nat) {A:List Int} {d:Int->Nat},S.length - A.length<=k->A.Nodup->(∀ x ∈ A,x ∈ S)->f ∈ A->d f = 0->Zrb A es f d->
  ∃ d':Int->Nat,d' f = 0/\∀ x ∈ S,x ≠ f->∃ q ∈ es,(q.1 = x/\d' q.2 + 1 = d' x)\/(q.2 = x/\d' q.1 + 1 = d' x)
 | k,A,d,hk,nA,hA,hf,d0,hp=>by
  by_cases hall:∀ y ∈ S,y ∈ A
  .refine ⟨d,d0,λx hx xf=>?_⟩;obtain ⟨q,hq,h⟩:=hp x (hall x hx) xf;exact ⟨q,hq,h.imp (λz=>⟨z.1,z.2.2⟩) (λz=>⟨z.1,z.2.2⟩)⟩
  .have hne:∃ y ∈ S,y ∉ A:=Jax λz=>hall λy hy=>Jax λw=>z ⟨y,hy,w⟩;obtain ⟨v,hv,nv,d',e0,hp'⟩:=Zoz hc hin hA hf hne d0 hp;have nvA:(v :: A).Nodup:=Jbr.mpr ⟨nv,nA⟩;have sub:∀ x ∈ v :: A,x ∈ S:=λx hx=>by
    rcases Jaq.mp hx with rfl | hx
    .exact hv
    .exact hA x hx
   have:=Zbm nvA sub;rw [Jba] at this
   match k with
   | 0=>omega
   | k + 1=>exact Zo0 hc hin nS k (A:=v :: A) (by rw [Jba]; omega) nvA sub (by simp [hf]) e0 hp'
theorem Zoy {es:List Ed} (hc:Conn S es) (hin:∀ q ∈ es,q.1 ∈ S/\q.2 ∈ S) (nS:S.Nodup) (hf:f ∈ S) (hl:es.length + 1 = S.length):∃ d:Int->Nat,d f = 0/\Tr S es f d:=by
 obtain ⟨d,e0,hp⟩:=Zo0 (f:=f) hc hin nS S.length (A:=[f]) (d:=λ_=>0) (by omega) (by simp) (λx hx=>by rw [Jar.mp hx]; exact hf) (by simp) rfl (λx hx xf=>absurd (Jar.mp hx) xf);exact ⟨d,e0,nS,hf,hin,hp,hl⟩
end
end L3
namespace L3
def sI {α:Type} (g:α->Int):List α->Int
 | []=>0
 | x :: l=>g x + sI g l
section
variable {α β:Type}
theorem Zri {g:α->Int}:∀ {l m:List α},sI g (l ++ m) = sI g l + sI g m
 | [],m=>by simp [sI]
 | x :: l,m=>by
  have:=Zri (g:=g) (l:=l) (m:=m);simp only [List.cons_append,sI];omega
theorem Zh6 {g:α->Int} {l m:List α} (p:l.Perm m):sI g l = sI g m:=by
 induction p with
 | nil=>rfl
 | cons x _ ih=>simp only [sI]; omega
 | swap x y l=>simp only [sI]; omega
 | trans _ _ h1 h2=>exact h1.trans h2
theorem Zc5 {g h:α->Int}:∀ {l:List α},(∀ x ∈ l,g x = h x)->sI g l = sI h l
 | [],_=>rfl
 | x :: l,e=>by simp only [sI]; rw [e x (by simp),Zc5 λy hy=>e y (by simp [hy])]
theorem Znd {f:β->α} {g:α->Int}:∀ {l:List β},sI g (l.map f) = sI (λx=>g (f x)) l
 | []=>rfl
 | x :: l=>by simp only [Jav,sI]; rw [Znd]
theorem Znb {g h:α->Int}:∀ {l:List α},sI (λx=>g x - h x) l = sI g l - sI h l
 | []=>rfl
 | x :: l=>by have:=Znb (g:=g) (h:=h) (l:=l); simp only [sI]; omega
theorem Zh7 {c:Int}:∀ {l:List α},sI (λ_=>c) l = c * (l.length:Nat)
 | []=>by simp [sI]
 | x :: l=>by
  have:=Zh7 (c:=c) (l:=l);simp only [sI,Jba];rw [this,Int.natCast_add,Int.mul_add];omega
theorem sI_le {g h:α->Int}:∀ {l:List α},(∀ x ∈ l,g x<=h x)->sI g l<=sI h l
 | [],_=>Int.le_refl _
 | x :: l,e=>by have:=sI_le (l:=l) λy hy=>e y (by simp [hy]); have:=e x (by simp); simp only [sI]; omega
theorem sI_nn {g:α->Int} {l:List α} (h:∀ x ∈ l,0<=g x):0<=sI g l:=by
 have:=sI_le (g:=λ_=>0) (h:=g) (l:=l) h;rw [Zh7] at this;omega
theorem Zna {g:α->Int} {l:List α} (h:∀ x ∈ l,g x = 0):sI g l = 0:=by
 rw [Zc5 (h:=λ_=>0) h,Zh7];omega
theorem Znc {g:α->Int}:∀ {l:List α} {x:α},x ∈ l->(∀ y ∈ l,0<=g y)->g x<=sI g l
 | y :: l,x,hx,h=>by
  have h1:=h y (by simp);have h2:=sI_nn (g:=g) (l:=l) λz hz=>h z (by simp [hz]);simp only [sI];rcases Jaq.mp hx with rfl | hx
  .omega
  .have:=Znc hx λz hz=>h z (by simp [hz]);omega
theorem Znf {g:α->Int}:∀ {L:List (List α)},sI g L.flatten = sI (λl=>sI g l) L
 | []=>rfl
 | l :: L=>by have:=Znf (g:=g) (L:=L); simp only [List.flatten_cons,Zri,sI]; omega
theorem Zne {g:α->Int} (lab:α->Int):∀ {R:List Int} {l:List α},R.Nodup->(∀ x ∈ l,lab x ∈ R)->sI g l = sI (λk=>sI g (l.filter λx=>decide (lab x = k))) R
 | [],[],_,_=>rfl
 | [],x :: l,_,h=>absurd (h x (by simp)) (by simp)
 | r :: R,l,nd,h=>by
  have nd':=Jbr.mp nd;have ih:=Zne (g:=g) lab (R:=R) (l:=l.filter λx=>!decide (lab x = r)) nd'.2 λx hx=>by
   obtain ⟨h1,h2⟩:=Jap.mp hx;rcases Jaq.mp (h x h1) with e | e
   .simp [e] at h2
   .exact e
  have e:sI (λk=>sI g ((l.filter λx=>!decide (lab x = r)).filter λx=>decide (lab x = k))) R = sI (λk=>sI g (l.filter λx=>decide (lab x = k))) R:=Zc5 λk hk=>by
   rw [List.filter_filter];congr 1;refine Jdb λx _=>?_;by_cases z:lab x = k
   .have:lab x ≠ r:=λu=>nd'.1 (by rw [<- u,z]; exact hk);simp [z];rw [<- z];exact this
   .simp [z]
  rw [e] at ih;have sp:∀ l:List α,sI g l = sI g (l.filter λx=>decide (lab x = r)) + sI g (l.filter λx=>!decide (lab x = r)):=λl=>by
   induction l with
   | nil=>rfl
   | cons x l ih=>
    by_cases z:lab x = r
    .simp [z,sI]; omega
    .simp [z,sI]; omega
  have:=sp l;simp only [sI];omega
end
section
variable {pts:List Int} {ps:List Ed}
def qf (pts:List Int) (ps:List Ed) (x:Int->Int):Int:=sI (λp=>x p * x p) pts - sI (λe=>x e.1 * x e.2) ps
def nb (ps:List Ed) (x:Int->Int) (p:Int):Int:=sI (λe=>(if e.1 = p then x e.2 else 0) + (if e.2 = p then x e.1 else 0)) ps
def Ins (pts:List Int) (ps:List Ed):Prop:=∀ e ∈ ps,e.1 ∈ pts/\e.2 ∈ pts
def rs (x:Int->Int) (p:Int):Int->Int:=λr=>if r = p then x p + 1 else x r
end
end L3
namespace L3
section
variable {pts:List Int} {ps K:List Ed}
def Low (pts:List Int) (ps:List Ed) (x:Int->Int):Prop:=(∀ p ∈ pts,0<=x p)/\(∃ p ∈ pts,x p ≠ 0)/\qf pts ps x<=0
def ds (x:Int->Int) (p:Int):Int->Int:=λr=>if r = p then x p - 1 else x r
def z0:Int->Int:=λ_=>0
end
end L3
namespace L3
section
variable {S:List Int} {ps:List Ed} {f:Int} {d:Int->Nat}
def upsA (d:Int->Nat) (ps:List Ed):Nat->Int->List Int->List Int
 | 0,_,acc=>acc
 | k + 1,x,acc=>upsA d ps k (up1 d ps x) (x :: acc)
def Ch (u:Int->Int):Int->List Int->Prop
 | _,[]=>True
 | f,p :: l=>u p = f/\Ch u p l
theorem Fk.ups (T:Fk S ps f d):∀ (k:Nat) {x:Int} {acc:List Int},d x = k->x ∈ S->Ch (up1 d ps) x acc->Ch (up1 d ps) f (upsA d ps k x acc)/\(upsA d ps k x acc).map d = List.range' 1 k ++ acc.map d/\∀ y ∈ upsA d ps k x acc,y ∈ acc\/(y ∈ S/\y ≠ f/\Zb7 d ps f y = Zb7 d ps f x)
 | 0,x,acc,hk,hx,c=>by
  have:=T.zero hx hk;subst this;exact ⟨c,rfl,λy hy=>.inl hy⟩
 | k + 1,x,acc,hk,hx,c=>by
  have xf:x ≠ f:=λz=>by rw [z,T.d0] at hk; omega
  have u:=T.up1_prop hx xf;obtain ⟨h1,h2,h3⟩:=T.ups k (x:=up1 d ps x) (acc:=x :: acc) (by omega) u.1 ⟨rfl,c⟩;refine ⟨h1,?_,λy hy=>?_⟩
  .show (upsA d ps k (up1 d ps x) (x :: acc)).map d = _;rw [h2,List.range'_concat,Jav,hk,List.append_assoc];simp;omega
  .have hy:y ∈ upsA d ps k (up1 d ps x) (x :: acc):=hy;by_cases hu:up1 d ps x = f
   .have:k = 0:=by rw [hu,T.d0] at u; omega
    subst this;rcases Jaq.mp hy with rfl | hy
    .exact .inr ⟨hx,xf,rfl⟩
    .exact .inl hy
   .rcases h3 y hy with h | ⟨a,b,e⟩
    .rcases Jaq.mp h with rfl | h
     .exact .inr ⟨hx,xf,rfl⟩
     .exact .inl h
    .exact .inr ⟨a,b,e.trans (T.root_step hx xf hu).symm⟩
def arm (d:Int->Nat) (ps:List Ed) (z:Int):List Int:=upsA d ps (d z) z []
theorem Fk.arm_ok (T:Fk S ps f d) {z:Int} (h:z ∈ S):Ch (up1 d ps) f (arm d ps z)/\(arm d ps z).map d = List.range' 1 (d z)/\(arm d ps z).length = d z/\(arm d ps z).Nodup/\∀ y ∈ arm d ps z,y ∈ S/\y ≠ f/\Zb7 d ps f y = Zb7 d ps f z:=by
 obtain ⟨h1,h2,h3⟩:=T.ups (d z) (x:=z) (acc:=[]) rfl h True.intro;rw [List.map_nil,Jdo] at h2;refine ⟨h1,h2,?_,?_,λy hy=>?_⟩
 .have:=Jc1 List.length h2;rw [Jab,List.length_range'] at this;exact this
 .have n:((arm d ps z).map d).Nodup:=by unfold arm; rw [h2]; exact List.nodup_range' ..
  exact List.Pairwise.of_map d (λa b hab e=>hab (by rw [e])) n
 .rcases h3 y hy with h | h
  .simp at h
  .exact h
theorem Fk.arm_perm (T:Fk S ps f d) {z:Int} (h:z ∈ S) (hf:z ≠ f) (h0:chn d ps z = 0):(arm d ps z).Perm (cls S d ps f (Zb7 d ps f z)):=by
 obtain ⟨_,_,hl,nd,hm⟩:=T.arm_ok h;refine Zcf nd (λy hy=>?_) (by rw [T.size h hf h0,hl]; exact Jah _);obtain ⟨a,b,c⟩:=hm y hy;exact Zda.mpr ⟨⟨a,b⟩,c⟩
def Lvs (S:List Int) (ps:List Ed) (f:Int) (d:Int->Nat) (L:List Int):Prop:=L.Nodup/\∀ z,z ∈ L ↔ (z ∈ S/\z ≠ f/\chn d ps z = 0)
theorem Fk.all (T:Fk S ps f d) {L:List Int} (hL:Lvs S ps f d L):((L.map (arm d ps)).flatten).Perm (oth S f):=by
 obtain ⟨nL,mL⟩:=hL;have nd:((L.map (arm d ps)).flatten).Nodup:=by
  refine List.pairwise_flatten.mpr ⟨λl hl=>?_,?_⟩
  .obtain ⟨z,hz,rfl⟩:=Jan.mp hl;exact (T.arm_ok ((mL z).mp hz).1).2.2.2.1
  .rw [List.pairwise_map];refine List.Pairwise.imp_of_mem ?_ nL;intro a b ha hb hab x hx y hy e;obtain ⟨a1,a2,a3⟩:=(mL a).mp ha;obtain ⟨b1,b2,b3⟩:=(mL b).mp hb;have r1:=((T.arm_ok a1).2.2.2.2 x hx).2.2;have r2:=((T.arm_ok b1).2.2.2.2 y hy).2.2;rw [e] at r1;exact hab (T.leaf_one a1 a2 a3 b1 b2 b3 (r1.symm.trans r2))
 have s1:∀ x ∈ (L.map (arm d ps)).flatten,x ∈ oth S f:=λx hx=>by
  obtain ⟨l,hl,hx⟩:=Jdk.mp hx;obtain ⟨z,hz,rfl⟩:=Jan.mp hl;obtain ⟨a,b,_⟩:=(T.arm_ok ((mL z).mp hz).1).2.2.2.2 x hx;exact Za9.mpr ⟨a,b⟩
 refine Zcf nd s1 (Zbm (Ja7 Ja0 T.nd) λx hx=>?_);obtain ⟨h,hf⟩:=Za9.mp hx;obtain ⟨z,z1,z2,z3,z4⟩:=T.leaf h hf;exact Jdk.mpr ⟨_,Jan.mpr ⟨z,(mL z).mpr ⟨z1,z2,z3⟩,rfl⟩,(T.arm_perm z1 z2 z3).mem_iff.mpr (Zda.mpr ⟨⟨h,hf⟩,z4.symm⟩)⟩
def pqL:Int->List Int->Int
 | _,[]=>0
 | v,a :: l=>a * a - v * a + pqL a l
theorem Ch.sum {u:Int->Int} (X:Int->Int):∀ {l:List Int} {f:Int},Ch u f l->sI (λp=>X p * X p - X p * X (u p)) l = pqL (X f) (l.map X)
 | [],_,_=>rfl
 | p :: l,f,h=>by
  have ih:=Ch.sum X (l:=l) (f:=p) h.2;simp only [sI,Jav,pqL];rw [ih,h.1,Int.mul_comm (X f)]
theorem Zp8 (nd:S.Nodup) (h:f ∈ S):S.Perm (f :: oth S f):=by
 have e:oth S f = S.erase f:=by
  unfold oth;rw [List.Nodup.erase_eq_filter nd];congr 1
  funext x
  rw [Jbm];simp
 rw [e];exact List.perm_cons_erase h
theorem Fk.q_eq (T:Fk S ps f d) {L:List Int} (hL:Lvs S ps f d L) (X:Int->Int):qf S ps X = X f * X f + sI (λz=>pqL (X f) ((arm d ps z).map X)) L:=by
 have e1:sI (λe:Ed=>X e.1 * X e.2) ps = sI (λp=>X p * X (up1 d ps p)) (oth S f):=by
  rw [Zh6 T.perm,Znd];refine Zc5 λe he=>?_;rw [T.up1_ce he];rcases Zes (d:=d) e with ⟨a,b⟩ | ⟨a,b⟩
  .rw [a,b]
  .rw [a,b,Int.mul_comm]
 have e2:sI (λp=>X p * X p) S = X f * X f + sI (λp=>X p * X p) (oth S f):=by
  rw [Zh6 (Zp8 T.nd T.fS)];rfl
 have e3:sI (λp=>X p * X p - X p * X (up1 d ps p)) (oth S f) = sI (λz=>pqL (X f) ((arm d ps z).map X)) L:=by
  rw [<- Zh6 (T.all hL),Znf,Znd];exact Zc5 λz hz=>(T.arm_ok ((hL.2 z).mp hz).1).1.sum X
 rw [Znb] at e3;unfold qf;omega
theorem pq_id (a v m P:Int):(m + 1) * (2 * (m + 1 + 1) * (a * a - v * a + P) + (m + 1) * (v * v)) = (m + 2) * (2 * (m + 1) * P + m * (a * a)) + ((m + 2) * a - (m + 1) * v) * ((m + 2) * a - (m + 1) * v):=by grind
theorem Zpr (a:Int):0<=a * a:=by
 rcases Int.le_total 0 a with h | h
 .exact Jde h h
 .exact Int.mul_nonneg_of_nonpos_of_nonpos h h
theorem Znn:∀ (l:List Int) (v:Int),0<=2 * ((l.length:Int) + 1) * pqL v l + l.length * (v * v)
 | [],v=>by simp [pqL]
 | a :: l,v=>by
  have ih:=Znn l a;have hm:(0:Int)<=l.length:=by omega
  simp only [pqL,Jba,Int.natCast_add,Int.natCast_one];generalize (l.length:Int) = m at *;generalize pqL a l = P at *;have e:=pq_id a v m P;have h1:=Jde (show 0<=m + 2 by omega) ih;have h2:=Zpr ((m + 2) * a - (m + 1) * v);refine Int.nonneg_of_mul_nonneg_right (a:=m + 1) ?_ (by omega);omega
theorem pq_z:∀ (l:List Int),pqL 0 l<=0->∀ a ∈ l,a = 0
 | [],_,a,ha=>by simp at ha
 | b :: l,h,a,ha=>by
  have ih:=Znn l b;have hm:(0:Int)<=l.length:=by omega
  simp only [pqL,Int.zero_mul,Int.sub_zero] at h;have e:=pq_id b 0 l.length (pqL b l);have hb:b = 0:=Jax λz=>by
   have h1:=Jde (show 0<=(l.length:Int) + 2 by omega) ih;have h2:0 < (((l.length:Int) + 2) * b) * (((l.length:Int) + 2) * b):=by
    have:((l.length:Int) + 2) * b ≠ 0:=Jdt (by omega) z;have:=Zpr (((l.length:Int) + 2) * b);have h3:((l.length:Int) + 2) * b * (((l.length:Int) + 2) * b) ≠ 0:=Jdt (by assumption) (by assumption);omega
   simp only [Int.zero_mul,Int.mul_zero,Int.sub_zero,Int.add_zero] at e;have h4:=Jde (show 0<=((l.length:Int) + 1) * (2 * ((l.length:Int) + 1 + 1)) from Jde (by omega) (by omega)) (show 0<=-(b * b + pqL b l) by omega);rw [Int.mul_neg,Int.mul_assoc] at h4;omega
  subst hb;rcases Jaq.mp ha with rfl | ha
  .rfl
  .exact pq_z l (by omega) a ha
theorem Zh9 {l:List Int} {v:Int} (h:v ≠ 0):-(v * v) < 2 * pqL v l:=by
 have h1:=Znn l v;have h2:0 < v * v:=by
  have:=Zpr v;have:=Jdt h h;omega
 have hm:(0:Int)<=l.length:=by omega
 generalize (l.length:Int) = m at *;generalize v * v = u at *;generalize pqL v l = P at *;refine Jax λz=>?_;have h3:=Int.mul_le_mul_of_nonneg_left (show 2 * P<=-u by omega) (show 0<=m + 1 by omega);have e1:2 * (m + 1) * P = (m + 1) * (2 * P):=by grind
 have e2:(m + 1) * -u = -(m * u) - u:=by grind
 omega
theorem pq_nn {l:List Int}:0<=pqL 0 l:=by
 have h1:=Znn l 0;rw [Int.mul_zero,Int.mul_zero,Int.add_zero] at h1;exact Int.nonneg_of_mul_nonneg_right h1 (by omega)
def DPos (S:List Int) (ps:List Ed):Prop:=∀ X:Int->Int,(∃ p ∈ S,X p ≠ 0)->0 < qf S ps X
theorem Fk.dpos (T:Fk S ps f d) {L:List Int} (hL:Lvs S ps f d L) (h:∀ X:Int->Int,X f ≠ 0->0 < X f * X f + sI (λz=>pqL (X f) ((arm d ps z).map X)) L):DPos S ps:=λX hX=>by
 rw [T.q_eq hL];by_cases z:X f = 0
 .refine Jax λw=>?_;rw [z] at w;have nn:∀ y ∈ L,0<=pqL 0 ((arm d ps y).map X):=λy _=>pq_nn;obtain ⟨p,hp,hz⟩:=hX;have pf:p ≠ f:=λe=>hz (e ▸ z);obtain ⟨l,hl,hpl⟩:=Jdk.mp ((T.all hL).mem_iff.mpr (Za9.mpr ⟨hp,pf⟩));obtain ⟨y,hy,rfl⟩:=Jan.mp hl;have:=Znc hy nn;exact hz (pq_z _ (by omega) _ (Jan.mpr ⟨p,hpl,rfl⟩))
 .exact h X z
theorem Zmy {a:Int} (h:a ≠ 0):0 < a * a:=by
 have:=Zpr a;have:=Jdt h h;omega
theorem Fk.posA (T:Fk S ps f d) {L:List Int} (hL:Lvs S ps f d L) (h2:L.length<=2):DPos S ps:=T.dpos hL λX hz=>by
 have hu:=Zmy hz
 match L,h2 with
 | [],_=>simpa [sI] using hu
 | [a],_=>
  have:=Zh9 (l:=(arm d ps a).map X) hz;simp only [sI];omega
 | [a,b],_=>
  have:=Zh9 (l:=(arm d ps a).map X) hz;have:=Zh9 (l:=(arm d ps b).map X) hz;simp only [sI];omega
theorem Fk.arm_lo (T:Fk S ps f d) (X:Int->Int) {z:Int} (h:z ∈ S):0<=2 * ((d z:Int) + 1) * pqL (X f) ((arm d ps z).map X) + d z * (X f * X f):=by
 have:=Znn ((arm d ps z).map X) (X f);rw [Jab,(T.arm_ok h).2.2.1] at this;exact this
theorem Fk.posD (T:Fk S ps f d) {a b c:Int} (hL:Lvs S ps f d [a,b,c]) (ha:d a = 1) (hb:d b = 1):DPos S ps:=T.dpos hL λX hz=>by
 have hu:=Zmy hz;have h1:=T.arm_lo X ((hL.2 a).mp (by simp)).1;have h2:=T.arm_lo X ((hL.2 b).mp (by simp)).1;have h3:=Zh9 (l:=(arm d ps c).map X) hz;rw [ha] at h1;rw [hb] at h2;simp only [sI];omega
theorem Fk.posE (T:Fk S ps f d) {a b c:Int} (hL:Lvs S ps f d [a,b,c]) (ha:d a = 1) (hb:d b = 2) (hc:d c<=4):DPos S ps:=T.dpos hL λX hz=>by
 have hu:=Zmy hz;have h1:=T.arm_lo X ((hL.2 a).mp (by simp)).1;have h2:=T.arm_lo X ((hL.2 b).mp (by simp)).1;have h3:=T.arm_lo X ((hL.2 c).mp (by simp)).1;rw [ha] at h1;rw [hb] at h2;simp only [sI];have:d c = 0\/d c = 1\/d c = 2\/d c = 3\/d c = 4:=by omega
 rcases this with e | e | e | e | e
 all_goals
  rw [e] at h3;omega
theorem Fk.few_ends (T:Fk S ps f d) {L:List Int} (hL:Lvs S ps f d L):L.length<=deg ps f:=by
 rw [T.deg_f];have lc:((ps.filter λq=>decide (pe d q = f)).map (ce d)).length = chn d ps f:=by
  unfold chn;rw [Jab,List.count,List.countP_map,List.countP_eq_length_filter];rfl
 rw [<- lc,<- Jab (f:=Zb7 d ps f) (as:=L)];refine Zbm (Zbl hL.1 λx hx y hy e=>?_) λr hr=>?_
 .obtain ⟨a1,a2,a3⟩:=(hL.2 x).mp hx;obtain ⟨b1,b2,b3⟩:=(hL.2 y).mp hy;exact T.leaf_one a1 a2 a3 b1 b2 b3 e
 .obtain ⟨z,hz,rfl⟩:=Jan.mp hr;obtain ⟨a1,a2,a3⟩:=(hL.2 z).mp hz;obtain ⟨r1,r2,r3⟩:=T.root_ok (d z) (Jah _) a1 a2;obtain ⟨q,hq,e1,e2⟩:=T.up1_of r1 r2;exact Jan.mpr ⟨q,Jap.mpr ⟨hq,Jad (e2.symm.trans r3)⟩,e1⟩
theorem Znr {α β:Type} {g:α->β} {m1 m2:List β} (p:m1.Perm m2):∀ l:List α,l.map g = m2->∃ l':List α,l'.Perm l/\l'.map g = m1:=by
 induction p with
 | nil=>exact λl e=>⟨l,List.Perm.refl _,e⟩
 | cons x _ ih=>
  intro l e
  match l,e with
  | y :: l,e=>
   rw [Jav,Jcb] at e;obtain ⟨l',h1,h2⟩:=ih l e.2;exact ⟨y :: l',h1.cons y,by rw [Jav,e.1,h2]⟩
 | swap x y m=>
  intro l e
  match l,e with
  | a :: b :: l,e=>
   rw [Jav,Jav,Jcb,Jcb] at e;exact ⟨b :: a :: l,List.Perm.swap ..,by rw [Jav,Jav,e.1,e.2.1,e.2.2]⟩
 | trans _ _ ih1 ih2=>
  intro l e;obtain ⟨l2,h1,h2⟩:=ih2 l e;obtain ⟨l1,h3,h4⟩:=ih1 l2 h2;exact ⟨l1,h3.trans h1,h4⟩
theorem Lvs.perm {L L':List Int} (h:Lvs S ps f d L) (p:L'.Perm L):Lvs S ps f d L':=⟨p.nodup_iff.mpr h.1,λz=>by rw [p.mem_iff]; exact h.2 z⟩
theorem Fk.lvs_is (T:Fk S ps f d) (h:deg ps f ≠ 1):Lvs S ps f d (lvs S ps):=⟨Ja7 Ja0 T.nd,λx=>by
 unfold lvs;rw [Jap,Jbw];constructor
 .rintro ⟨h1,e⟩;have hf:x ≠ f:=λz=>h (z ▸ e);have:=T.deg_x h1 hf;exact ⟨h1,hf,by omega⟩
 .rintro ⟨h1,hf,e⟩;exact ⟨h1,by have:=T.deg_x h1 hf; omega⟩⟩
theorem Fk.ends_is (T:Fk S ps f d):Lvs S ps f d ((oth S f).filter λx=>decide (chn d ps x = 0)):=⟨Ja7 (Ja0.trans Ja0) T.nd,λx=>by
 rw [Jap,Jbw,Za9,and_assoc]⟩
end
end L3
namespace L2
open PySem PySem.Spec PyProof.Rows
section
variable {X:Cx} {o e:Expr} {es:List Expr} {to:TE} {t:TA} {name:Str} {apos cpos:Pos} {T id:String} {r:V->List V->Hp->VK->Prop}
theorem pe_bmK (K:PySem.W.Frag) (hK:X.K = K) (pa:PlainAttrs T) (slot:Slot T name id) (hty:typeOf (.builtin id) = pure (.type "method_descriptor")) (hm:MtR X id r) (ho:PE X o to) (ha:PA X (e :: es) t)
  (hbase:attributeBase o name X.env (eval o X.env) = eval o X.env:=by rfl)
  (hfew:((backTo cpos (starEach (e :: es) X.env)).all (λx=>!x.1) && (backToKw cpos (keywordEach [] X.env)).all (λx=>x.1.isSome)
   && decide ((e :: es).length + ([]:List Keyword).length + (if ([]:List Keyword).isEmpty then 0 else 1) < 30)) = true:=by rfl)
  (hline:(apos.endLine == cpos.line) = true:=by rfl) (hs:starEach (e :: es) X.env = (false,eval e X.env) :: starEach es X.env:=by rfl) (hplain:(backTo cpos (starEach es X.env)).any (·.1) = false:=by rfl):
  PE X (.Call (.Attribute o name apos) (e :: es) [] cpos) (tBM K T r to t):=by
 subst hK;exact Zg4 pa slot hty hm ho ha hbase hfew hline hs hplain
end
end L2
namespace L2
open PySem PySem.Spec PyProof.Rows
abbrev two (elt t1 i1 t2 i2:Expr) (scope:Scope) (pos:Pos):Expr:=.ListComp elt [⟨t1,i1,[],0⟩,⟨t2,i2,[],0⟩] scope pos
section
variable {prog:Program} {w:World} {A:Around} {R:Result->Shared->Prop} {s:Shared} {elt t1 i1 t2 i2:Expr} {scope:Scope} {pos:Pos} {it acc:Value} {env:Env}
theorem Zmx (h0:codeAny (model prog w) A (.compLoop (two elt t1 i1 t2 i2 scope pos) 1 it acc env) R s)
  (h:wpAny (model prog w) A (pyIter it) (λit' s'=>codeAny (model prog w) A (.compLoop (two elt t1 i1 t2 i2 scope pos) 1 it' acc env) R s') (notedBy (model prog w) A env λx s'=>R (.error x) s') s):
  codeAny (model prog w) A (.compStart (two elt t1 i1 t2 i2 scope pos) 1 it acc env) R s:=by
 refine codeAny_of_tree ?_;refine wpAny_notedAt ?_;unfold compStart;refine Jac (wpAny_askSetting (wpAny_ite ?_));split
 .exact Jac (Jat (Jat ⟨rfl,h0⟩))
 .refine Jac (wpAny_rule (Jac (Jb1 (Jac ?_))));exact Jaz h (λit' s' h'=>Jat ⟨rfl,h'⟩) λx x_1 x_2=>x_2
theorem Zmo:compTurn (two elt t1 i1 t2 i2 scope pos) 1 it acc env = (do
  standAt i2.pos
  let r <- pyNext it
  match r with
  | none=>pure (Fin.done Flow.next)
  | some v=>do
   letOwnedTupleGo t2 it v
   assign t2 env v
   ((eval elt env >>= λx=>call (.builtin "list.append") [acc,x] >>= λ_=>(pure ():Sem Unit)) >>= λ_=>again (.compLoop (two elt t1 i1 t2 i2 scope pos) 1 it acc env))):=by
 rfl
theorem Zmp:compTurn (two elt t1 i1 t2 i2 scope pos) 0 it acc env = (do
  standAt i1.pos
  let r <- pyNext it
  match r with
  | none=>pure (Fin.done Flow.next)
  | some v=>do
   letOwnedTupleGo t1 it v
   assign t1 env v
   let x <- eval i2 env
   standAt i2.pos
   let x <- foldedSetIterable i2 env x
   let j <- holding [x] (pyIter x)
   let _ <- runOwn (.compStart (two elt t1 i1 t2 i2 scope pos) 1 j acc env) env
   again (.compLoop (two elt t1 i1 t2 i2 scope pos) 0 it acc env)):=by
 rfl
theorem Zn5 (I:Nat->Shared->Prop)
  (turn:∀ n s,I n s->wpAny (model prog w) A (pyNext it) (λr s₁=>match r with
   | none=>R (.ok .next) s₁
   | some v=>wpAny (model prog w) A (letOwnedTupleGo t2 it v) (λ_ s₁'=>wpAny (model prog w) A (assign t2 env v) (λ_ s₂=>wpAny (model prog w) A (eval elt env) (λx s₄=>wpAny (model prog w) A (call (.builtin "list.append") [acc,x]) (λ_ s₅=>∃ m,m < n/\I m s₅) (λ_ _=>False) s₄) (λ_ _=>False) s₂) (λ_ _=>False) s₁') (λ_ _=>False) s₁) (λ_ _=>False) s)
  (n:Nat) (h:I n s):codeAny (model prog w) A (.compLoop (two elt t1 i1 t2 i2 scope pos) 1 it acc env) R s:=by
 refine codeAny_loop rfl I (λn s hI=>?_) n h;show wpAny _ A ((compTurn (two elt t1 i1 t2 i2 scope pos) 1 it acc env).onRaise (λx=>do noteFrame x env; theTreesLotGoes x)) _ _ s;refine wpAny_noted ?_;rw [Zmo];refine Jac (Jb1 (Jac (Jaz (turn n s hI) (λr s₁ h₁=>?_) λ_ _ h'=>h'.elim)));cases r with
 | none=>exact Jat h₁
 | some v=>
  refine Jac (Jaz h₁ (λ_ s₁' h₁'=>?_) λ_ _ h'=>h'.elim);refine Jac (Jaz h₁' (λ_ s₂ h₂=>?_) λ_ _ h'=>h'.elim);exact Jac (Jac (Jaz h₂ (λx s₄ h₄=>Jac (Jaz h₄ (λ_ s₅ h₅=>Jat (Jat ⟨rfl,h₅⟩)) λ_ _ h'=>h'.elim)) λ_ _ h'=>h'.elim))
theorem Zn6 (hs:∀ x,foldedSetIterable i2 env x = pure x) (I:Nat->Shared->Prop)
  (turn:∀ n s,I n s->wpAny (model prog w) A (pyNext it) (λr s₁=>match r with
   | none=>R (.ok .next) s₁
   | some v=>wpAny (model prog w) A (letOwnedTupleGo t1 it v) (λ_ s₁'=>wpAny (model prog w) A (assign t1 env v) (λ_ s₂=>wpAny (model prog w) A (eval i2 env) (λx s₄=>wpAny (model prog w) A (pyIter x) (λj s₅=>codeAny (model prog w) A (.compStart (two elt t1 i1 t2 i2 scope pos) 1 j acc env) (λr s₆=>r = .ok .next/\∃ m,m < n/\I m s₆) s₅) (λ_ _=>False) s₄) (λ_ _=>False) s₂) (λ_ _=>False) s₁') (λ_ _=>False) s₁) (λ_ _=>False) s)
  (n:Nat) (h:I n s):codeAny (model prog w) A (.compLoop (two elt t1 i1 t2 i2 scope pos) 0 it acc env) R s:=by
 refine codeAny_loop rfl I (λn s hI=>?_) n h;show wpAny _ A ((compTurn (two elt t1 i1 t2 i2 scope pos) 0 it acc env).onRaise (λx=>do noteFrame x env; theTreesLotGoes x)) _ _ s;refine wpAny_noted ?_;rw [Zmp];refine Jac (Jb1 (Jac (Jaz (turn n s hI) (λr s₁ h₁=>?_) λ_ _ h'=>h'.elim)));cases r with
 | none=>exact Jat h₁
 | some v=>
  refine Jac (Jaz h₁ (λ_ s₁' h₁'=>?_) λ_ _ h'=>h'.elim);refine Jac (Jaz h₁' (λ_ s₂ h₂=>?_) λ_ _ h'=>h'.elim);refine Jac (Jaz h₂ (λx s₄ h₄=>?_) λ_ _ h'=>h'.elim);refine Jac (Jb1 (Jac (wpAny_of_eq (hs x) ?_)));refine Jac (Jb4 (Jaz h₄ (λj s₅ h₅=>?_) λ_ _ h'=>h'.elim));refine Jac (wpAny_runOwn (Jdh h₅ λr s₆ h₆=>?_));obtain ⟨rfl,h6⟩:=h₆;exact Jat ⟨rfl,h6⟩
end
def Zjt (g:TG) (wi2:TI) (g2:TG) (te:TE) (J:It) (D:Addr) (σ0:St) (H1:Hp) (Q:VK):Prop:=
 ∃ W:Nat->Nat->St->Hp->Prop,(∃ m,W 0 m σ0 (upd H1 D (.lst [])))/\∀ i m σ' H2,W i m σ' H2->
  (J.stop i H2/\Q (.ref D) H2)\/(J.go i H2/\∀ x H3,J.yld i H2 x H3->g x σ' H3 λσ4 H4=>wi2 σ4 H4 λJ2 H5=>
   ∃ W2:Nat->Nat->St->Hp->Prop,(∃ m2,W2 0 m2 σ4 H5)/\∀ j m2 σ5 H6,W2 j m2 σ5 H6->
    (J2.stop j H6/\∃ m',m' < m/\W (i + 1) m' σ5 H6)\/(J2.go j H6/\∀ y H7,J2.yld j H6 y H7->g2 y σ5 H7 λσ8 H8=>te σ8 H8 λz H9=>
     ∃ vs,H9 D = some (.lst vs)/\vs.length < sizeLine/\∃ m2',m2' < m2/\W2 (j + 1) m2' σ8 (upd H9 D (.lst (vs ++ [z])))))
def tComp2 (k:Nat) (fr:List (Str × Nat)) (wi:TI) (g:TG) (wi2:TI) (g2:TG) (te:TE):TE:=λσ H Q=>wi σ H λJ H1=>∀ D,H1 D = none->Zjt g wi2 g2 te J D (Zfv k fr σ) H1 Q
section
variable {X:Cx} {tg iter t2 i2 elt:Expr} {scope:Scope} {pos:Pos} {own:List Str} {fr:List (Str × Nat)} {wi wi2:TI} {g g2:TG} {te:TE}
theorem Zo2 {pins:List (Addr × Obj)} {s2:Shared} {σ:St} {H2:Hp} {it:Addr} {fp:List Addr} {tn:Nat->Heap->Prop} {J:It} {Q:VK} {cl:List (Str × Addr)} {RR:Value->Addr->Result->Shared->Prop} {E:Value->Shared->Prop}
  (hc:X.calm = true) (B:BlScope X scope own fr)
  (hs:∀ env x,foldedSetIterable i2 env x = pure x)
  (hb:∀ cl s H fp,PG (Zbw X (Zbu own fr) scope cl s H fp) tg g/\PI (Zbw X (Zbu own fr) scope cl s H fp) t2 i2 wi2/\PG (Zbw X (Zbu own fr) scope cl s H fp) t2 g2/\PE (Zbw X (Zbu own fr) scope cl s H fp) elt te)
  (hcl:∀ x c,cl.lookup x = some c->X.env.cells.lookup x = some c) (hcl2:∀ y ∈ scope.names,y.2 = .free->∃ c,cl.lookup y.1 = some c)
  (I2:Inv X pins σ H2 s2) (T:Turn X.prog X.w X.K tg J fp it tn) (st2:tn 0 s2.heap) (f2:∀ b ∈ fp,Zio X pins H2 b) (q:∀ D,H2 D = none->Zjt g wi2 g2 te J D (Zfv own.length fr σ) H2 Q)
  (hRR:∀ D C s' H',Inv X pins σ H' s'->Q (.ref D) H'->(∃ m,s'.heap.Ns C m)->C ≠ X.env.locals->(∀ x c,X.env.cells.lookup x = some c->c ≠ C)->(∀ p ∈ X.pn ++ pins,p.1 ≠ C)->X.s₀.heap.objs.size<=C->H' C = none->RR (.ref D) C (.ok .next) s'):
  wpAny (model X.prog X.w) X.A (newList []) (λacc s₃=>wpAny (model X.prog X.w) X.A (newFunctionEnv scope X.env.globals cl [] X.env.qual none .none (some X.env)) (λcenv s₄=>
   codeAny (model X.prog X.w) X.A (.compStart (two elt tg iter t2 i2 scope pos) 0 (.ref it) acc { cenv with scope:=relabel scope X.env }) (RR acc cenv.locals) s₄) E s₃) E s2:=by
 refine Jcu ?_;have fr0:H2 s2.heap.objs.size = none:=I2.hok.fresh (Jah _);have I3:=I2.lnew (its:=[]) (ys:=[]) (t':=s2.toks) .nil (Jb6 _);generalize hs3:({ s2 with heap:=s2.heap.push { cls:=.type "list",data:=.seq ([]:List Value).toArray } }:Shared) = s3 at *;have k23:∀ b o,s2.heap.get? b = some o->s3.heap.get? b = some o:=λb o e=>by rw [<- hs3]; exact Jae _ e
 have sz3:s3.heap.objs.size = s2.heap.objs.size + 1:=by rw [<- hs3]; exact Jcq ..
 have I3':Inv X pins σ (upd H2 s2.heap.objs.size (.lst [])) s3:=I3;have fne:∀ b ∈ fp,b ≠ s2.heap.objs.size:=λb hb z=>by
  refine Zad (T.obj 0 _ st2 b hb) λo ho _=>?_;exact absurd (Jaf ho) (by rw [z]; exact Jbp _)
 have f3:∀ b ∈ fp,Zio X pins (upd H2 s2.heap.objs.size (.lst [])) b:=λb hb=>⟨by rw [Zaf (fne b hb)]; exact (f2 b hb).1,(f2 b hb).2⟩
 have st3:tn 0 s3.heap:=T.keep 0 _ _ st2 λb _ o e=>k23 b o e;have hfo:∀ b ∈ fp,∃ o,s3.heap.get? b = some o:=λb hb=>let ⟨o,ho,_⟩:=T.obj 0 _ st3 b hb; ⟨o,ho⟩;refine Zdz λh' hn hk hce=>?_;have I4:=Zg8 (own:=own) I3' B hcl hcl2 f3 hfo hn hk hce;refine Zbh (hb cl s3 (upd H2 s2.heap.objs.size (.lst [])) fp) λhg hi2 hg2 he=>?_;have st4:tn 0 h':=T.keep 0 _ _ st3 λb _ o e=>hk b o e;have stat:∀ {H':Hp},(∀ b ∈ fp,H' b = none)->∀ b ∈ fp,Zio (Zbw X (Zbu own fr) scope cl s3 (upd H2 s2.heap.objs.size (.lst [])) fp) [] H' b:=λ{H'} hnn b hb=>
  ⟨hnn b hb,(I4.ok.exf b hb).1,I4.ok.exfs b hb,.inl hb,(I4.ok.exf b hb).2,λp hp=>absurd (show p ∈ ([]:List (Addr × Obj)) from hp) (by simp)⟩
 refine Zad (q s2.heap.objs.size fr0) λW e93 turn=>?_;obtain ⟨m0,w0⟩:=e93;have loop:codeAny (model X.prog X.w) X.A (.compLoop (two elt tg iter t2 i2 scope pos) 0 (.ref it) (.ref s2.heap.objs.size) (Zbw X (Zbu own fr) scope cl s3 (upd H2 s2.heap.objs.size (.lst [])) fp).env)
   (RR (.ref s2.heap.objs.size) s3.heap.objs.size) { s3 with heap:=h' }:=by
  refine Zn6 (λx=>hs _ x) (λn s'=>∃ i σ' H',Inv (Zbw X (Zbu own fr) scope cl s3 (upd H2 s2.heap.objs.size (.lst [])) fp) [] σ' H' s'/\tn i s'.heap/\(∀ b ∈ fp,H' b = none)/\W i n σ' H') ?_ m0
   ⟨0,_,_,I4,st4,λb hb=>(f3 b hb).1,w0⟩
  intro n s5 e91;refine Zb1 e91 λi σ5 H5 I5 st5 fr5 w5=>?_;clear e91;rcases turn i n σ5 H5 w5 with ⟨stop,qn⟩ | ⟨go,step⟩
  .refine thn (T.done (Zbw X (Zbu own fr) scope cl s3 (upd H2 s2.heap.objs.size (.lst [])) fp) rfl rfl rfl hc i [] s5 σ5 H5 _ I5 (stat fr5) st5 stop) λr s6 ⟨hr,I6⟩=>?_;subst hr;have I7:Inv X pins σ H5 s6:=I3'.call' (ch:=fp) I6.os I6.base I6.hok I6.bare λb hb=>⟨(f3 b hb).2.2.2.1,(f3 b hb).2.1,(f3 b hb).2.2.2.2.1,(f3 b hb).2.2.2.2.2⟩
   refine Zad I6.loc λm6 hn6 _=>?_;refine hRR _ _ s6 H5 I7 qn ⟨m6,hn6⟩ (Jdf I3'.lt) (λx c e=>?_) (λp hp=>?_) I3'.sz I6.free
   .obtain ⟨v,z⟩:=I3'.cell x c e;exact Ja6 z.lt
   .exact Ja6 (Jaf (I3'.pin p hp).1)
  .refine thn (T.item (Zbw X (Zbu own fr) scope cl s3 (upd H2 s2.heap.objs.size (.lst [])) fp) rfl rfl rfl hc i [] s5 σ5 H5 _ I5 (stat fr5) st5 go) λr s6 ⟨u,hr,h6⟩=>?_;subst hr;refine thn h6 λ_ s7 ⟨x,H7,I7,r7,y7,st7,fr7⟩=>?_;have I7':=I7.pinned (stat fr7) (T.obj _ _ st7);refine thn (hg _ s7 σ5 H7 x u _ I7' r7 (step x H7 y7)) λ_ s8 ⟨σ8,H8,I8,q8⟩=>?_;have again:∀ {sA:Shared} {σA:St} {HA:Hp} {m':Nat},Inv (Zbw X (Zbu own fr) scope cl s3 (upd H2 s2.heap.objs.size (.lst [])) fp) ([] ++ Ze4 fp s7.heap) σA HA sA->m' < n->W (i + 1) m' σA HA->
     ∃ m,m < n/\∃ i σ' H',Inv (Zbw X (Zbu own fr) scope cl s3 (upd H2 s2.heap.objs.size (.lst [])) fp) [] σ' H' sA/\tn i sA.heap/\(∀ b ∈ fp,H' b = none)/\W i m σ' H':=λ{sA σA HA m'} IA hm wA=>by
    refine ⟨m',hm,i + 1,σA,HA,IA.unpinned,T.keep _ _ _ st7 λb hb o e=>(IA.pin (b,o) (Jaj _ (Jaj _ (Za8 hb e)))).1,λb hb=>?_,wA⟩;refine Zad (T.obj _ _ st7 b hb) λo e d=>?_;exact (IA.pin (b,o) (Jaj _ (Jaj _ (Za8 hb e)))).2.1
   refine thn (hi2 _ s8 σ8 H8 _ I8 q8) λv s9 h9=>thn h9 λitv s10 h10=>?_;refine Zct h10 λit2 fp2 tn2 J2 H10 e I10 T2 e94=>?_;clear h10;refine Zav e94 λst10 f10 e95=>?_;clear e94;obtain ⟨W2,⟨m2,w2⟩,turn2⟩:=e95;subst e;have stat2:∀ {H':Hp},(∀ b ∈ fp2,H' b = none)->∀ b ∈ fp2,Zio (Zbw X (Zbu own fr) scope cl s3 (upd H2 s2.heap.objs.size (.lst [])) fp) ([] ++ Ze4 fp s7.heap) H' b:=λhn b hb=>⟨hn b hb,(f10 b hb).2⟩
   have loop2:codeAny (model X.prog X.w) X.A (.compLoop (two elt tg iter t2 i2 scope pos) 1 (.ref it2) (.ref s2.heap.objs.size) (Zbw X (Zbu own fr) scope cl s3 (upd H2 s2.heap.objs.size (.lst [])) fp).env)
     (λr s₆=>r = .ok .next/\∃ m,m < n/\∃ i σ' H',Inv (Zbw X (Zbu own fr) scope cl s3 (upd H2 s2.heap.objs.size (.lst [])) fp) [] σ' H' s₆/\tn i s₆.heap/\(∀ b ∈ fp,H' b = none)/\W i m σ' H') s10:=by
    refine Zn5 (λn2 s'=>∃ j σ' H',Inv (Zbw X (Zbu own fr) scope cl s3 (upd H2 s2.heap.objs.size (.lst [])) fp) ([] ++ Ze4 fp s7.heap) σ' H' s'/\tn2 j s'.heap/\(∀ b ∈ fp2,H' b = none)/\W2 j n2 σ' H') ?_ m2 ⟨0,σ8,H10,I10,st10,λb hb=>(f10 b hb).1,w2⟩;intro n2 s11 e92;refine Zb1 e92 λj σ11 H11 I11 st11 fr11 w11=>?_;clear e92;rcases turn2 j n2 σ11 H11 w11 with ⟨stop,m',hm,wn⟩ | ⟨go,step2⟩
    .refine thn (T2.done (Zbw X (Zbu own fr) scope cl s3 (upd H2 s2.heap.objs.size (.lst [])) fp) rfl rfl rfl hc j _ s11 σ11 H11 _ I11 (stat2 fr11) st11 stop) λr s12 ⟨hr,I12⟩=>?_;subst hr;exact ⟨rfl,again I12 hm wn⟩
    .refine thn (T2.item (Zbw X (Zbu own fr) scope cl s3 (upd H2 s2.heap.objs.size (.lst [])) fp) rfl rfl rfl hc j _ s11 σ11 H11 _ I11 (stat2 fr11) st11 go) λr s12 ⟨u2,hr,h12⟩=>?_;subst hr;refine thn h12 λ_ s13 ⟨y,H13,I13,r13,y13,st13,fr13⟩=>?_;have I13':=I13.pinned (stat2 fr13) (T2.obj _ _ st13);refine thn (hg2 _ s13 σ11 H13 y u2 _ I13' r13 (step2 y H13 y13)) λ_ s14 ⟨σ14,H14,I14,q14⟩=>?_;refine thn (he _ s14 σ14 H14 _ I14 q14) λz s15 ⟨vz,H15,I15,r15,vs,hvs,hlen,m2',hm2,w15⟩=>?_;refine thn (Zbf (X:=Zbw X (Zbu own fr) scope cl s3 (upd H2 s2.heap.objs.size (.lst [])) fp) _ s15 σ14 H15 (.ref s2.heap.objs.size) [vz] (.ref s2.heap.objs.size) [z] (λ_ HB=>W2 (j + 1) m2' σ14 HB) I15 rfl (.cons r15 .nil) ⟨_,vs,vz,rfl,rfl,hvs,hlen,w15⟩) λ_ s16 ⟨_,H16,I16,_,w16⟩=>?_;refine ⟨m2',hm2,j + 1,σ14,H16,I16.unpinned,T2.keep _ _ _ st13 λb hb o e=>(I16.pin (b,o) (Jaj _ (Jaj _ (Za8 hb e)))).1,λb hb=>?_,w16⟩;refine Zad (T2.obj _ _ st13 b hb) λo e d=>?_;exact (I16.pin (b,o) (Jaj _ (Jaj _ (Za8 hb e)))).2.1
   exact Zmx loop2 (T2.self _ 0 _ _ _ st10 loop2)
 exact codeAny_compStart_list loop (T.self _ 0 _ _ _ st4 loop)
theorem Zp4 (hc:X.calm = true) (B:BlScope X scope own fr) (hi:PI X tg iter wi)
  (hb:∀ cl s H fp,PG (Zbw X (Zbu own fr) scope cl s H fp) tg g/\PI (Zbw X (Zbu own fr) scope cl s H fp) t2 i2 wi2/\PG (Zbw X (Zbu own fr) scope cl s H fp) t2 g2/\PE (Zbw X (Zbu own fr) scope cl s H fp) elt te)
  (hs2:∀ env x,foldedSetIterable i2 env x = pure x:=by intro _ _; rfl)
  (hs:∀ x,foldedSetIterable iter X.env x = pure x:=by intro _; rfl):
  PE X (two elt tg iter t2 i2 scope pos) (tComp2 own.length fr wi g wi2 g2 te):=by
 intro pins s σ H Q I h;refine Zao (Zik (scope:=scope) (env:=X.env) λy hy hf=>I.ok.has y.1 (B.free y hy hf)) λcl hclos hcl hcl2=>?_;rw [eval_ListComp];refine Jci (use:=none) rfl hs hclos B.kind B.loc (thn (hi pins s σ H _ I h) λv s1 h1=>thn h1 λitv s2 h2=>?_);refine Zct h2 λit fp tn J H2 e I2 T e96=>?_;clear h2;refine Zav e96 λst2 f2 q=>?_;clear e96;subst e;refine Zo2 (RR:=λacc C=>compPost (model X.prog X.w) X.A X.xe none (EP X pins σ Q) acc C) (Q:=Q) hc B hs2 hb hcl hcl2 I2 T st2 f2 q ?_;intro D C s' H' I' hq hn n1 n2 n3 n4 n5;obtain ⟨m,hn⟩:=hn;refine ⟨m,hn,λh' hs'=>⟨.ref D,H',I'.turned (it:=C) (t':=s'.toks) (λb o hb e=>SameBut.get hs' b o hb e) n5 (Jb7 (Jb7 n1)) (.inr n4) n2 n3,rfl,hq⟩⟩
end
def Znl:V->List V->Hp->VK->Prop:=λx vs H Q=>∃ (l:Addr) (ns:List Int) (k:Int),x = .ref l/\vs = [.int k]/\H l = some (.lst (ns.map V.int))/\Q (.int ((ns.count k:Nat):Int)) H
def intU (k:Int):Value->Bool
 | .int i _=>i == k
 | _=>false
theorem Zfr (k:Int):∀ {ns:List Int} {its:List Value},Vals (ns.map V.int) its->its.countP (intU k) = ns.count k
 | [],_,.nil=>rfl
 | n :: ns,_,.cons r rs=>by
  obtain ⟨t,rfl⟩:=r;rw [List.countP_cons,Zfr k rs,Jds];rfl
theorem Zk7 {A:Around} {s:Shared} (k:Int) (t':Tok):∀ {ns:List Int} {its:List Value},Vals (ns.map V.int) its->∀ y ∈ its,SeqAt.EqAt A s y (.int k t') (intU k y)
 | [],_,.nil=>λy hy=>by cases hy
 | n :: ns,_,.cons r rs=>λy hy=>by
  obtain ⟨t,rfl⟩:=r;rcases Jaq.mp hy with rfl | hy
  .exact SeqAt.EqAt.int_int n t k t'
  .exact Zk7 k t' rs y hy
theorem Zi6 {X:Cx}:MtM X "list.count" Znl:=by
 intro pins s σ H x vs v us Q I rx rv h;obtain ⟨l,ns,k,rfl,rfl,hH,q⟩:=h;cases rx;obtain ⟨u,rfl,⟨t,rfl⟩⟩:=rv.one;obtain ⟨z,its,n,r,hl,e⟩:=I.lstM hH;refine Jd8 F.slot_list_count ⟨_,e,rfl⟩ F.entry_list_count (F.args_list_count_2 _ _) (SeqAt.list_countAt l its.toArray n _ _ (.int k t) (intU k)) ⟨e,λy hy=>?_,?_⟩
 .exact Zk7 k t r y (by simpa using hy)
 .refine ⟨.int _,H,I.tok _,⟨_,rfl⟩,?_⟩;have ec:List.countP (intU k) its.toArray.toList = ns.count k:=by
   rw [show its.toArray.toList = its by simp];exact Zfr k r
  first | (rw [ec]; exact q) | (rw [Zfr k r]; exact q)
end L2
namespace L2
open PySem PySem.Spec PyProof.Rows PySem.W
structure Trk (B:Heap) (fr:List Env) (e:Addr) (cls c0 fl:Value) (h:Heap):Prop where
 st:B.StaysIn h
 nw:B.get? e = none
 ff:h.FunFrames B fr
 ob:∃ (o:Obj) (vs:Array Value) (T:Addr) (oT:Obj) (us:Array Value),h.get? e = some o/\o.cls = cls/\o.data = .fields vs/\vs[2]? = some c0/\vs[1]? = some (.ref T)/\B.get? T = none/\T ≠ e/\h.get? T = some oT/\oT.data = .fields us/\us[3]? = some fl
theorem Trk.there {B h:Heap} {fr:List Env} {e:Addr} {cls c0 fl:Value} (x:Trk B fr e cls c0 fl h):∃ o,h.get? e = some o/\o.cls = cls:=
 let ⟨o,_,_,_,_,a,b,_⟩:=x.ob; ⟨o,a,b⟩
theorem Trk.outer {B h:Heap} {env:Env} {fr:List Env} {e:Addr} {cls c0 fl:Value} (x:Trk B (env :: fr) e cls c0 fl h):Trk B fr e cls c0 fl h:=⟨x.st,x.nw,x.ff.2.2,x.ob⟩
section
variable {M:Model} {A:Around} {E:Value->Shared->Prop} {s:Shared} {B:Heap} {fr:List Env} {e L:Addr} {cls c0:Value} {Q:Unit->Shared->Prop}
theorem Zeb {h h':Heap} {T:Addr} {oT:Obj} {us:Array Value} (hT:h.get? T = some oT) (hd:oT.data = .fields us) (k:∀ b,b ≠ T->h'.get? b = h.get? b):h.UpToSlots h':=λb o hb hn=>
 ⟨o.slots,by rw [k b (λz=>by rw [z,hT] at hb; cases hb; exact hn us hd)]; exact hb⟩
theorem Zih {h h':Heap} {B:Heap} {fr:List Env} (x:h.FunFrames B fr) (k:h.UpToSlots h'):h'.FunFrames B fr:=x.of_keeps λb o hb hn=>let ⟨_,q⟩:=k b o hb hn; ⟨_,q,rfl⟩
theorem Zgb {f0:Value} (fo:Option Addr) (x:Trk B fr e cls c0 f0 s.heap) (k:∀ h',Trk B fr e cls c0 (fo.elim .none λf=>rawInt f) h'->s.heap.UpToSlots h'->Q () { s with heap:=h' }):wpAny M A (setFlight (.ref e) fo) Q E s:=by
 refine Zct x.ob λo vs T oT us he hc hd e91=>?_;refine Zjq e91 λg2 g1 nT ne hT dT g3=>?_;clear e91;have z3:3 < us.size:=(Jcy.mp g3).1;unfold setFlight;refine Jac (wpAny_field he hd g1 ?_);rw [if_pos (by simp)];have oth:∀ b,b ≠ T->(s.heap.update T (Obj.mapFields (·.setIfInBounds 3 (fo.elim Value.none λf=>rawInt f)))).get? b = s.heap.get? b:=λb hb=>Jb2 _ _ hb.symm;have up:=Zeb hT dT oth;have me:=Jdi (Obj.mapFields (·.setIfInBounds 3 (fo.elim Value.none λf=>rawInt f))) hT (Obj.isFreed_of_fields (Jc8 dT _));exact wpAny_setField hT dT z3 (k _ ⟨λb u hb=>by rw [oth b (λz=>by rw [z,nT] at hb; cases hb)]; exact x.st b u hb,x.nw,Zih x.ff up,o,vs,T,_,_,by rw [oth e ne.symm]; exact he,hc,hd,g2,g1,nT,ne,me,Jc8 dT _,by simp [z3]⟩ up)
theorem Ziv {env:Env} {o:Obj} {vs:Array Value} {hd0:Value} {bb:Bool} (fA:A.frames = some (env :: fr)) (ff:s.heap.FunFrames B (env :: fr)) (fE:env.frame = some L) (st:B.StaysIn s.heap) (nw:B.get? e = none)
  (he:s.heap.get? e = some o) (hd:o.data = .fields vs) (g2:vs[2]? = some c0) (k:∀ h',Trk B (env :: fr) e o.cls c0 (rawInt L) h'->s.heap.UpToSlots h'->Q () { s with heap:=h' }):
  wpAny M A (do let a <- frameOf env; let pl <- entryPlaceOf L bb; let b <- EntryCells.newEntry hd0 a .none (rawInt L) .none pl; setField (.ref e) 1 b) Q E s:=by
 have z2:2 < vs.size:=(Jcy.mp g2).1;have nfr:e ∉ (env :: fr).filterMap (·.frame):=λz=>by
  obtain ⟨_,u,hu,hn⟩:=ff.mem z;rw [he] at hu;cases hu;exact hn vs hd
 refine Jac (wpAny_frameOf_fun fA ff fE λg sg=>Jac (wpAny_entryPlaceOf λpl ip=>?_));unfold EntryCells.newEntry newFields;refine Jac (Jcu (?_:_) (ip.sizeOk5 _ _ _ _ _));have ge:g.get? e = some o:=(sg.2.1 e nfr).trans he;have stg:B.StaysIn g:=λb u hb=>(sg.2.1 b λz=>by rw [(ff.mem z).1] at hb; cases hb).trans (st b u hb);have gs:s.heap.UpToSlots g:=λb u hb _=>sg.2.2 b u hb;generalize htb:({ cls:=.type "traceback",dict:=none,data:=.fields ([hd0,.ref L,.none,rawInt L,.none] ++ (if pl.isEmpty then List.replicate 6 Value.none else pl)).toArray }:Obj) = tb;have tbf:tb.isFreed = false:=by rw [<- htb]; rfl
 have ge2:(g.push tb).get? e = some o:=Jae tb ge;have nT:g.objs.size ≠ e:=Jdf (Jaf ge);have oth:∀ b u,b ≠ e->g.get? b = some u->((g.push tb).update e (Obj.mapFields (·.setIfInBounds 1 (Value.ref g.objs.size)))).get? b = some u:=λb u hb q=>by
  rw [Jb2 _ _ hb.symm];exact Jae tb q
 have up:g.UpToSlots ((g.push tb).update e (Obj.mapFields (·.setIfInBounds 1 (Value.ref g.objs.size)))):=λb u q hn=>⟨u.slots,oth b u (λz=>by rw [z,ge] at q; cases q; exact hn vs hd) q⟩
 have me:=Jdi (Obj.mapFields (·.setIfInBounds 1 (Value.ref g.objs.size))) ge2 (Obj.isFreed_of_fields (Jc8 hd _));have hT:((g.push tb).update e (Obj.mapFields (·.setIfInBounds 1 (Value.ref g.objs.size)))).get? g.objs.size = some tb:=by
  rw [Jb2 _ _ nT.symm];exact Ja8 g tbf
 refine wpAny_setField ge2 hd (by omega) (k _ ⟨λb u hb=>oth b u (λz=>by rw [z,nw] at hb; cases hb) (stg b u hb),nw,Zih ff (gs.trans up),_,_,g.objs.size,tb,_,me,Obj.cls_mapFields _ _,Jc8 hd _,by rw [Array.getElem?_setIfInBounds_ne (by decide)]; exact g2,by simp [show 1 < vs.size by omega],stg.fresh,nT,hT,by rw [<- htb],?_⟩ (gs.trans up))
 first | (simp; done) | (rcases ip with rfl | ⟨_,_,_,_,_,_,_,rfl⟩ <;> simp)
theorem Zms {env:Env} {o:Obj} {vs:Array Value} (fA:A.frames = some (env :: fr)) (ff:s.heap.FunFrames B (env :: fr)) (fE:env.frame = some L) (st:B.StaysIn s.heap) (nw:B.get? e = none)
  (he:s.heap.get? e = some o) (hd:o.data = .fields vs) (g2:vs[2]? = some c0) (g1:vs[1]? = some .none) (k:∀ h',Trk B (env :: fr) e o.cls c0 (rawInt L) h'->s.heap.UpToSlots h'->Q () { s with heap:=h' }):wpAny M A (noteFrame (.ref e) env) Q E s:=by
 unfold noteFrame;rw [fE];refine Jac (wpAny_field he hd g1 ?_);exact Ziv fA ff fE st nw he hd g2 k
theorem Zkn {env:Env} (fA:A.frames = some (env :: fr)) (fE:env.frame = some L) (x:Trk B (env :: fr) e cls c0 .none s.heap) (k:∀ h',Trk B (env :: fr) e cls c0 (rawInt L) h'->s.heap.UpToSlots h'->Q () { s with heap:=h' }):wpAny M A (noteFrame (.ref e) env) Q E s:=by
 refine Zct x.ob λo vs T oT us he hc hd e92=>?_;refine Zjq e92 λg2 g1 nT ne hT dT g3=>?_;clear e92;have z3:3 < us.size:=(Jcy.mp g3).1;have oth:∀ b,b ≠ T->(s.heap.update T (Obj.mapFields (·.setIfInBounds 3 Value.none))).get? b = s.heap.get? b:=λb hb=>Jb2 _ _ hb.symm;have up:=Zeb hT dT oth;unfold noteFrame;rw [fE];refine Jac (wpAny_field he hd g1 ?_);rw [if_pos (by simp)];refine Jac (wpAny_field hT dT g3 ?_);rw [if_neg (by simp [rawInt])];refine Jac (wpAny_setField hT dT z3 ?_);exact Ziv fA (Zih x.ff up) fE (λb u hb=>by rw [oth b (λz=>by rw [z,nT] at hb; cases hb)]; exact x.st b u hb) x.nw ((oth e ne.symm).trans he) hd g2 λh' y q=>k h' (hc ▸ y) (up.trans q)
theorem Zmr {env:Env} (fA:A.frames = some (env :: fr)) (fE:env.frame = some L) (x:Trk B (env :: fr) e cls c0 .none s.heap) (k:∀ h',Trk B fr e cls c0 .none h'->s.heap.UpToSlots h'->Q () { s with heap:=h' }):wpAny M A (leaving env (.ref e)) Q E s:=by
 unfold leaving;exact Jac (Zkn fA fE x λh1 y q=>Zgb (s:={ s with heap:=h1 }) none y λh2 y2 q2=>k h2 y2.outer (q.trans q2))
theorem Zpn {env:Env} {h0:Heap} {as:List Value} (fA:A.frames = some (env :: fr)) (fE:env.frame = some L) (st:B.StaysIn h0) (ff:h0.FunFrames B (env :: fr)) (x:Heap.MadeExcOf h0 s.heap e cls as)
  (k:∀ h',Trk B fr e cls .none .none h'->s.heap.UpToSlots h'->Q () { s with heap:=h' }):wpAny M A (leaving env (.ref e)) Q E s:=by
 refine Zao x.there λt he _ _=>?_;have nw:B.get? e = none:=by
  cases q:B.get? e with
  | none=>rfl
  | some u=>have:=st e u q; rw [x.new] at this; cases this
 unfold leaving;exact Jac (Zms fA (ff.of_keeps λb u hb _=>⟨u,x.keeps b u hb,rfl⟩) fE (λb u hb=>x.keeps b u (st b u hb)) nw he rfl rfl rfl λh1 y q=>Zgb (s:={ s with heap:=h1 }) none y λh2 y2 q2=>k h2 y2.outer (q.trans q2))
end
end L2
namespace L2
open PySem PySem.Spec PyProof.Rows PySem.W
theorem HOk.track {P:Program} {w:World} {H:Hp} {h h':Heap} (x:HOk P w H h) (k:∀ b u o,H b = some u->h.get? b = some o->h'.get? b = some o):HOk P w H h':=λa o e=>
 (x a o e).stay (λb u hb q=>by
  rcases hb with rfl | hb
  .exact k b o u e q
  .exact k b _ u hb q) (λ_ z=>z) (λ_ _ z=>z) λ_ _ _ z=>z
theorem ObjOk.there {P:Program} {w:World} {H:Hp} {h:Heap} {a:Addr} {o:HO} (x:ObjOk P w H h a o):∃ u,h.get? a = some u:=by
 cases o with
 | lst xs=>obtain ⟨_,_,_,_,e⟩:=x; exact ⟨_,e⟩
 | tup xs=>obtain ⟨_,_,_,p⟩:=x; obtain ⟨o,e,_⟩:=p; exact ⟨_,e⟩
 | dK kvs=>obtain ⟨_,_,_,_,o,_,_,e,_⟩:=x; exact ⟨_,e⟩
 | dT kvs=>obtain ⟨_,_,_,_,o,_,_,e,_⟩:=x; exact ⟨_,e⟩
 | set S n=>obtain ⟨o,_,_,_,e,_⟩:=x; exact ⟨_,e⟩
 | ins C dx fs=>obtain ⟨_,_,_,e,_⟩:=x; exact ⟨_,e⟩
 | own y=>obtain ⟨_,e⟩:=x; exact ⟨_,e⟩
 | xd fs=>obtain ⟨_,⟨_,_,_,e,_⟩,_⟩:=x; exact ⟨_,e⟩
 | rng lo hi=>obtain ⟨_,_,_,e⟩:=x; exact ⟨_,e⟩
 | frz ob u=>obtain ⟨e,_⟩:=x; exact ⟨_,e⟩
 | tbl ps=>exact ⟨_,(show h.get? a = some _ from x)⟩
 | met f y=>exact ⟨_,(show h.get? a = some _ from x)⟩
 | ext φ=>obtain ⟨_,⟨_,e⟩,_⟩:=x; exact ⟨_,e⟩
 | tab l c q=>
  rcases x with e | ⟨_,_,_,_,e,_⟩
  .exact ⟨_,e⟩
  .exact ⟨_,e⟩
structure Fly (P:Program) (w:World) (outer:List Env) (H:Hp) (s:Shared) (a:Addr) (cls c0:Value) (H':Hp) (s':Shared):Prop where
 os:s'.os = s.os
 bare:AllBare s'.gens
 hok:HOk P w H' s'.heap
 un:Un (frs outer) [] H H' s.heap s'.heap
 fly:∃ B,Trk B outer a cls c0 .none s'.heap/\(∀ b o,s.heap.get? b = some o->b ∉ frs outer->∃ o',B.get? b = some o')/\∀ b u,H' b = some u->∃ o',B.get? b = some o'
 new:∀ o,s.heap.get? a ≠ some o
 free:H' a = none
def CXe (P:Program) (w:World):CXT:=λouter H s E e s'=>∃ (a:Addr) (cls c0:Value) (H':Hp),e = .ref a/\Fly P w outer H s a cls c0 H' s'/\E cls none H'/\(c0 = .none\/E cls (some 0) H')
section
variable {P:Program} {w:World} {K:PySem.W.Frag} {mg:Str->Option Value} {base:Heap} {N:List Str} {qual:Str} {scope:Scope} {f:Addr} {cd:Value} {A:Around} {outer:List Env} {s:Shared} {H:Hp} {E:XK} {pins:List (Addr × Obj)} {σ:St} {H1:Hp} {s1 s2:Shared} {e:Addr} {cls:Value}
theorem xe_made {vs:List Value} (I:Inv (Zke (CXe P w) P w K mg base N qual scope f cd A outer s H E) pins σ H1 s1) (hx:Heap.MadeExcOf s1.heap s2.heap e cls vs) (ho:s2.os = s1.os) (hg:AllBare s2.gens) (hE:E cls none H1):
  (Zke (CXe P w) P w K mg base N qual scope f cd A outer s H E).xe (.ref e) s2:=by
 show wpAny (model P w) (A.deeper (envOfC qual scope s.heap.objs.size f cd)) (leaving (envOfC qual scope s.heap.objs.size f cd) (.ref e)) (λ_ s''=>CXe P w outer H s E (.ref e) s'') (λe' s''=>CXe P w outer H s E e' s'') s2;have hin:∀ env ∈ (envOfC qual scope s.heap.objs.size f cd :: outer),∀ b,env.frame = some b->b ∈ frs (envOfC qual scope s.heap.objs.size f cd :: outer):=λenv he b hb=>Jdw.mpr ⟨env,he,hb⟩;have hstk:s1.heap.FunFrames base (envOfC qual scope s.heap.objs.size f cd :: outer):=I.stack;have hfree:∀ b ∈ frs (envOfC qual scope s.heap.objs.size f cd :: outer),H1 b = none:=I.stkFree;have hsub:∀ b ∈ frs (envOfC qual scope s.heap.objs.size f cd :: outer),b ∈ s.heap.objs.size :: frs outer:=I.stkSub;refine Zpn (B:=hideAll s1.heap (frs (envOfC qual scope s.heap.objs.size f cd :: outer))) (h0:=s1.heap) I.ok.frames rfl (λb o q=>of_hideAll _ q) (funFrames_hide hstk hin) hx λh' x1 x4=>?_;have keepB:∀ b o,s1.heap.get? b = some o->b ∉ frs (envOfC qual scope s.heap.objs.size f cd :: outer)->h'.get? b = some o:=λb o q nb=>x1.st b o (hideAll_get _ q nb);have hne:s1.heap.get? e = none:=hx.new;have ub:Un (frs outer) [] H H1 s.heap s1.heap:=I.base;have nst:∀ b o,s.heap.get? b = some o->b ∉ frs outer->b ∉ frs (envOfC qual scope s.heap.objs.size f cd :: outer):=λb o q nb z=>by
  rcases Jaq.mp (hsub b z) with e1 | z
  .exact absurd (Jaf q) (by rw [e1]; exact Jbp _)
  .exact nb z
 have slotS:∀ b o,s1.heap.get? b = some o->b ∈ frs (envOfC qual scope s.heap.objs.size f cd :: outer)->∃ sl,h'.get? b = some { o with slots:=sl }:=λb o q hb=>by
  obtain ⟨_,o',ho',hd⟩:=hstk.mem hb;rw [q] at ho';cases ho';exact x4 b o (hx.keeps b o q) hd
 refine Ziq e cls .none H1 ⟨rfl,⟨ho.trans I.os,hg,HOk.track I.hok (λb u o hb q=>keepB b o q (λz=>by rw [hfree b z] at hb; cases hb)),⟨λb o q n hb hx=>?_,λb o q n hb hx=>?_,λb o q n hx=>ub.free b o q n hx,λb o q hx=>?_,ub.tups,ub.frzs,ub.tbls⟩,⟨_,x1,λb o q nb=>?_,λb u hb=>?_⟩,λo q=>?_,?_⟩,hE,.inl rfl⟩
 .exact keepB b o (ub.keep b o q n hb hx) (nst b o q hb)
 .obtain ⟨sl,e1⟩:=ub.slot b o q n hb hx;obtain ⟨sl',e2⟩:=slotS b _ e1 (by unfold frs at hb ⊢; rw [Jb3]; split <;> first | exact hb | exact Ja2 _ hb);exact ⟨sl',e2⟩
 .obtain ⟨o',e1⟩:=ub.there b o q hx;by_cases z:b ∈ frs (envOfC qual scope s.heap.objs.size f cd :: outer)
  .obtain ⟨sl,e2⟩:=slotS b o' e1 z;exact ⟨_,e2⟩
  .exact ⟨o',keepB b o' e1 z⟩
 .obtain ⟨o',e1⟩:=ub.there b o q (by simp);exact ⟨o',hideAll_get _ e1 (nst b o q nb)⟩
 .obtain ⟨o',e1⟩:=ObjOk.there (I.hok b u hb);exact ⟨o',hideAll_get _ e1 λz=>by rw [hfree b z] at hb; cases hb⟩
 .obtain ⟨o',e1⟩:=ub.there e o q (by simp);rw [hne] at e1;cases e1
 .cases z:H1 e with
  | none=>rfl
  | some u=>
   obtain ⟨o',e1⟩:=ObjOk.there (I.hok e u z);rw [hne] at e1;cases e1
theorem Zfp {E':XK} (hE:∀ cls o H',E' cls o H'->E cls o H'):Zcy (CXe P w) (Zke (CXe P w) P w K mg base N qual scope f cd A outer s H E) E':=by
 intro pins σ H1 s1 e s2 I h;refine Zcu h λa cls c0 H' e91 F e' e2'=>?_;clear h;obtain rfl:=e91;have F:Fly P w (envOfC qual scope s.heap.objs.size f cd :: outer) H1 s1 a cls c0 H' s2:=F;refine Zao F.fly λB fl inB trB=>?_;show wpAny (model P w) (A.deeper (envOfC qual scope s.heap.objs.size f cd)) (leaving (envOfC qual scope s.heap.objs.size f cd) (.ref a)) (λ_ s''=>CXe P w outer H s E (.ref a) s'') (λe' s''=>CXe P w outer H s E e' s'') s2;have hsub:∀ b ∈ frs (envOfC qual scope s.heap.objs.size f cd :: outer),b ∈ s.heap.objs.size :: frs outer:=I.stkSub;refine Zmr (B:=B) I.ok.frames rfl fl λh' x1 x4=>?_;have ub:Un (frs outer) [] H H1 s.heap s1.heap:=I.base;have sup:∀ b,b ∈ frs outer->b ∈ frs (envOfC qual scope s.heap.objs.size f cd :: outer):=λb hb=>by
  unfold frs at hb ⊢;rw [Jb3];split <;> first | exact hb | exact Ja2 _ hb
 have nst:∀ b o,s.heap.get? b = some o->b ∉ frs outer->b ∉ frs (envOfC qual scope s.heap.objs.size f cd :: outer):=λb o q nb z=>by
  rcases Jaq.mp (hsub b z) with e1 | z
  .exact absurd (Jaf q) (by rw [e1]; exact Jbp _)
  .exact nb z
 have keepB:∀ b o,(∃ o',B.get? b = some o')->s2.heap.get? b = some o->h'.get? b = some o:=λb o ⟨o',hb⟩ q=>by
  have:=fl.st b o' hb;rw [q] at this;cases this;exact x1.st b _ hb
 have slotS:∀ b o,s2.heap.get? b = some o->b ∈ frs (envOfC qual scope s.heap.objs.size f cd :: outer)->∃ sl,h'.get? b = some { o with slots:=sl }:=λb o q hb=>by
  obtain ⟨_,o',ho',hd⟩:=fl.ff.mem hb;rw [q] at ho';cases ho';exact x4 b o q hd
 refine Ziq a cls c0 H' ⟨rfl,⟨F.os.trans I.os,F.bare,HOk.track F.hok (λb u o hb q=>keepB b o (trB b u hb) q),⟨λb o q n hb hx=>?_,λb o q n hb hx=>?_,λb o q n hx=>?_,λb o q hx=>?_,λb xs z=>F.un.tups b xs (ub.tups b xs z),λb o u z=>F.un.frzs b o u (ub.frzs b o u z),λb ps z=>?_⟩,⟨B,x1,λb o q nb=>?_,trB⟩,λo q=>?_,F.free⟩,hE cls _ H' e',e2'.imp id (hE cls _ H')⟩
 .have e1:=ub.keep b o q n hb hx;exact keepB b o (inB b o e1 (nst b o q hb)) (F.un.keep b o e1 (ub.free b o q n hx) (nst b o q hb) hx)
 .obtain ⟨sl,e1⟩:=ub.slot b o q n hb hx;obtain ⟨sl',e2⟩:=F.un.slot b _ e1 (ub.free b o q n hx) (sup b hb) hx;obtain ⟨sl'',e3⟩:=slotS b _ e2 (sup b hb);exact ⟨sl'',e3⟩
 .obtain ⟨o',e1⟩:=ub.there b o q hx;exact F.un.free b o' e1 (ub.free b o q n hx) hx
 .obtain ⟨o',e1⟩:=ub.there b o q hx;obtain ⟨o'',e2⟩:=F.un.there b o' e1 hx;by_cases z:b ∈ frs (envOfC qual scope s.heap.objs.size f cd :: outer)
  .obtain ⟨sl,e3⟩:=slotS b o'' e2 z;exact ⟨_,e3⟩
  .exact ⟨o'',keepB b o'' (inB b o' e1 z) e2⟩
 .obtain ⟨m1,e1⟩:=ub.tbls b ps z;obtain ⟨m2,e2⟩:=F.un.tbls b _ e1;exact ⟨m1 ++ m2,by rw [e2,Array.append_assoc]⟩
 .obtain ⟨o',e1⟩:=ub.there b o q (by simp);exact inB b o' e1 (nst b o q nb)
 .obtain ⟨o',e1⟩:=ub.there a o q (by simp);exact F.new o' e1
end
end L2
namespace L2
open PySem PySem.Spec PyProof.Rows PySem.W
def Zmt (t:TA) (R:Hp->Prop):TS:=λ_ σ H=>t σ H λvs H1=>vs.length<=1000/\R H1
section
variable {X:Cx} {x:Str} {C:Addr} {bm bmN:List Value} {B Bn newId nid initId inN:String} {np cpos pos:Pos} {e₀:Expr} {rest:List Expr} {t:TA} {R:Hp->Prop}
theorem Zp0 (hc:X.calm = true) (O:OwnCls x C bm newId X.mg X.base) (Fn:ExcBaseFacts Bn newId inN bmN) (hBn:bm.contains (.type Bn) = true) (FB:ExcBaseFacts B nid initId bm) (hg:Gl X x) (ha:PA X (e₀ :: rest) t)
  (hxe:∀ pins σ H1 s1 s2 e vs,Inv X pins σ H1 s1->Heap.MadeExcOf s1.heap s2.heap e (.ref C) vs->s2.os = s1.os->AllBare s2.gens->R H1->X.xe (.ref e) s2)
  (h1:Za7 e₀ = false:=by rfl) (h2:rest.all (λx=>!Za7 x) = true:=by rfl) (hd:(x == ("__debug__" : Str)) = false:=by decide):
  PS X (.Raise (some (.Call (.Name x np) (e₀ :: rest) [] cpos)) none pos) (Zmt t R):=by
 intro pins s σ H D I h;have he:=Zaw (e:=e₀) (es:=rest) (env:=X.env) h1;have hpl:=Zci (pos:=cpos) (env:=X.env) h2;refine Zrd O.obj λtl N nm q bs hdct sn sub ab col dd k0 k1 k2 k3 k5 mN hC hN hni T=>?_;refine wpAny_Raise_call_subU (C:=C) (nm:=nm) (q:=q) (N:=N) (bs:=bs) (bm:=tl) (hdct:=hdct) (sn:=sn) (sub:=sub) (ab:=ab) (col:=col) (dd:=dd) (k0:=k0) (k1:=k1) (k2:=k2) (k3:=k3) (k5:=k5)
  Fn hBn FB (mN:=mN) (T.hasType FB.hasBase) (I.ok.hd hc) (by rw [he]; show (false || (backTo cpos (starEach rest X.env)).any (·.1)) = false; rw [hpl]; rfl) hni (Zfq I hg O.bound ⟨rfl,?_⟩ hd)
 have hA:=ha cpos pins s σ H _ I h;rw [he] at hA ⊢;refine Calls.evalArgs_plain (Jaz hA (λus s2 ⟨vs,H2,I2,rv,hl,r2⟩=>⟨rfl,?_,I2.bk _ _ hC,hN.keeps I2.bk,T.keeps I2.bk,λh' e hm=>?_⟩) λ_ _ y=>y)
 .rw [<- rv.length];exact Jcd (Zal hl)
 .exact hxe pins σ H2 s2 _ e us I2 hm rfl I2.bare r2
end
end L2
namespace L2
open PySem PySem.Spec PyProof.Rows PySem.W
section
variable {P:Program} {w:World} {K:PySem.W.Frag} {mg:Str->Option Value} {base:Heap}
theorem Fun.okE {x qual:Str} {st:Stmt} {f:Addr} {fd:FuncData} {N ps:List Str} {k:Nat} {sp:Sp} (F:Fun K x qual st f fd) (S:FnScope N ps (Zae st)) (len:∀ vs H Q E,sp vs H Q E->vs.length = ps.length)
  (hbody:∀ (cdv:Value) (A:Around) (outer:List Env) (s:Shared) (H:Hp) (vs:List V) (Q:VK) (E:XK),Room k (A.deeper (envOfC qual (Zae st) s.heap.objs.size f cdv))->sp vs H Q E->
   ∃ t,PSs (Zke (CXe P w) P w K mg base N qual (Zae st) f cdv A outer s H E) (Zcq st) t/\t { nx:=λ_ H'=>Q .non H',rt:=Q } (Zei N vs) H):FnOk P w K mg base (CXe P w) (k + 1) f fd ps sp:=by
 refine Zpi F.ex λoc od kV doc pm an cdv ct osl e91 lk hcd=>?_;obtain rfl:=e91;exact fn_of lk hcd S len λA outer s H vs Q E hr hsp=>hbody cdv A outer s H vs Q E hr hsp
theorem Zj4 {x:Str} {C:Addr} {bmB:List Value} {newId:String} {h:Heap} (X:K.In h) (b:mg x = some (.ref C)) (q:excIn K C bmB newId = true):OwnCls x C bmB newId mg h:=by
 refine ⟨b,?_⟩;unfold excIn at q;split at q
 .rename_i dd cd sl ho
  split at q
  .rename_i C' bm k0 k1 k2 k3 n k5 hm hs
   simp only [Jbx,Jbg,Bool.not_eq_true'] at q;obtain ⟨⟨⟨⟨⟨rfl,rfl⟩,hdel⟩,ht⟩,hok⟩,hni⟩:=q;obtain ⟨nm,bs,mro,ns,qn,hd,sn,sub,ab,col,del⟩:=cd;dsimp only at hm hdel hok hni;subst hm hdel;have hsl:sl = #[k0,k1,k2,k3,some (.builtin n),k5]:=by
    obtain ⟨l⟩:=sl;simp only at hs;rw [hs]
   subst hsl;exact xI17_1 bm ns nm qn bs hd sn sub ab col dd k0 k1 k2 k3 k5 _ ⟨X _ _ ho,.of_isNs (isNs_of_in X hok),nsMap_none_of_in X hok hni,tail_of_in X ht⟩
  .cases q
 .cases q
end
section
variable {X:Cx} {pins:List (Addr × Obj)} {σ:St} {H H':Hp} {s s':Shared} {a:Addr} {cls:Value}
theorem Fly.land {B:Heap} {c0 f0:Value} (I:Inv X pins σ H s) (hl:X.env.locals ∈ frs X.stack) (F:Fly X.prog X.w X.stack H s a cls c0 H' s') (fl:Trk B X.stack a cls c0 f0 s'.heap)
  (inB:∀ b o,s.heap.get? b = some o->b ∉ frs X.stack->∃ o',B.get? b = some o') (trB:∀ b u,H' b = some u->∃ o',B.get? b = some o') {h':Heap} (st:B.StaysIn h') (x4:s'.heap.UpToSlots h'):Inv X pins σ H' { s' with heap:=h' }:=by
 have keepB:∀ b o,(∃ o',B.get? b = some o')->s'.heap.get? b = some o->h'.get? b = some o:=λb o ⟨o',hb⟩ q=>by
  have:=fl.st b o' hb;rw [q] at this;cases this;exact st b _ hb
 have slotS:∀ b o,s'.heap.get? b = some o->b ∈ frs X.stack->∃ sl,h'.get? b = some { o with slots:=sl }:=λb o q hb=>by
  obtain ⟨_,o',ho',hd⟩:=fl.ff.mem hb;rw [q] at ho';cases ho';exact x4 b o q hd
 have sup:∀ b,b ∈ X.fs->b ∈ frs X.stack:=λb hb=>by
  rcases I.ok.stk with e | ⟨e,hf⟩
  .rw [e]; exact hb
  .rw [e];unfold Cx.fs frs at *;rw [Jb3,hf];exact Ja2 _ hb
 have nst:∀ b,b ≠ X.env.locals->b ∉ X.fs->b ∉ frs X.stack:=λb h1 h2 z=>by
  rcases Jaq.mp (I.stkSub b z) with e | z
  .exact h1 e
  .exact h2 z
 obtain ⟨hh,g,d,t,os'⟩:=s';obtain rfl:os' = s.os:=F.os;show Inv X pins σ H' { s with heap:=h',gens:=g,drawn:=d,toks:=t };refine I.step (ch:=[]) (λb z=>absurd z (by simp)) (λb o n1 n2 _ q n=>?_) (λb o n1 n2 _ q n=>?_) (λb o _ q n=>F.un.free b o q n (by simp)) (λb o _ q=>?_) F.un.tups F.un.frzs F.un.tbls (λm hn=>?_) (HOk.track F.hok λb u o hb q=>keepB b o (trB b u hb) q) F.bare
 .exact keepB b o (inB b o q (nst b n1 n2)) (F.un.keep b o q n (nst b n1 n2) (by simp))
 .obtain ⟨sl,e1⟩:=F.un.slot b o q n (sup b n2) (by simp);obtain ⟨sl',e2⟩:=slotS b _ e1 (sup b n2);exact ⟨sl',e2⟩
 .obtain ⟨o',e1⟩:=F.un.there b o q (by simp);by_cases z:b ∈ frs X.stack
  .obtain ⟨sl,e2⟩:=slotS b o' e1 z;exact ⟨_,e2⟩
  .exact ⟨o',keepB b o' (inB b o q z) e1⟩
 .refine Zir hn λo es ep ho hd r=>?_;clear hn;obtain ⟨sl,e1⟩:=F.un.slot _ o ho I.free hl (by simp);obtain ⟨sl',e2⟩:=slotS _ _ e1 hl;exact Zbg _ es ep ⟨e2,hd,r⟩
end
end L2
namespace L2
open PySem PySem.Spec PyProof.Rows PySem.W
section
variable {M:Model} {A:Around} {E:Value->Shared->Prop}
variable {nm q:Str} {C N:Addr} {bs bm:List Value} {hdct:Bool} {sn:List Str} {sub:List Value} {ab:Bool} {col:Option Bool} {dd:Option Addr} {k0 k1 k2 k3 k5:Option Value} {newId:String}
variable {nm' q':Str} {C' N':Addr} {bs' bm':List Value} {hdct':Bool} {sn':List Str} {sub':List Value} {ab':Bool} {col':Option Bool} {dd':Option Addr} {j0 j1 j2 j3 j5:Option Value} {newId':String}
theorem Zj8 {h:Heap} {g:Array GenState} {d:Drawn} {t:Nat} {os:OsState} {e:Addr} {oe:Obj} {Q:Bool->Shared->Prop}
  (hC:h.get? C = some (excClassObj nm q C N bs bm hdct sn sub ab col dd k0 k1 k2 k3 k5 newId)) (hD:h.get? C' = some (excClassObj nm' q' C' N' bs' bm' hdct' sn' sub' ab' col' dd' j0 j1 j2 j3 j5 newId'))
  (he:h.get? e = some oe) (hcls:oe.cls = .ref C) (hbase:bm'.contains (.type "BaseException") = true) (hsub:bm.contains (.ref C') = true)
  (hq:Q true ⟨h,g,d,t,os⟩):wpAny M A (excMatches (.ref e) (.ref C')) Q E ⟨h,g,d,t,os⟩:=by
 have hcB:(Value.ref C' :: bm').contains (.type "BaseException") = true:=by rw [Jd0,hbase,Bool.or_true]
 have hcC:(Value.ref C :: bm).contains (.ref C') = true:=by rw [Jd0,hsub,Bool.or_true]
 have f:=tc_notTuple;unfold excMatches
 repeat (first | (with_reducible refine Jcx he ?_; rw [hcls]) | with_reducible refine Jcx hD ?_ | (with_reducible refine wpAny_isSubtype_exc hD ?_; rw [hcB]) | (with_reducible refine wpAny_isSubtype_exc hC ?_; rw [hcC]) | wp_step)
 exact hq
end
end L2
namespace L2
open PySem PySem.Spec PyProof.Rows PySem.W
abbrev Cx.pnx (X:Cx) (pins:List (Addr × Obj)):Cx:={ X with pn:=X.pn ++ pins }
abbrev Cx.hnd (X:Cx) (pins:List (Addr × Obj)) (a:Addr):Cx:={ X with pn:=X.pn ++ pins,A:=X.A.mark (some (.ref a)),calm:=false,xe:=λ_ _=>False }
section
variable {X:Cx} {pins pins':List (Addr × Obj)} {σ:St} {H:Hp} {s:Shared} {a:Addr}
theorem Inv.pnx (I:Inv X pins σ H s):Inv (X.pnx pins) [] σ H s:=
 ⟨⟨I.ok.mod,I.ok.kind,I.ok.glob,I.ok.blt,I.ok.above,I.ok.inj,I.ok.has,I.ok.cab,I.ok.hd,I.ok.frames,I.ok.stk,I.ok.exf,I.ok.bs,I.ok.bsz,I.ok.noex,I.ok.exfs,I.ok.funs,I.ok.frf,I.ok.top⟩,I.os,I.bare,I.base,I.loc,I.cell,I.free,I.freeC,λp hp=>I.pin p (by simpa using hp),I.hok,I.len⟩
theorem Inv.unpnx (I:Inv (X.pnx pins) pins' σ H s):Inv X pins σ H s:=
 ⟨⟨I.ok.mod,I.ok.kind,I.ok.glob,I.ok.blt,I.ok.above,I.ok.inj,I.ok.has,I.ok.cab,I.ok.hd,I.ok.frames,I.ok.stk,I.ok.exf,I.ok.bs,I.ok.bsz,I.ok.noex,I.ok.exfs,I.ok.funs,I.ok.frf,I.ok.top⟩,I.os,I.bare,I.base,I.loc,I.cell,I.free,I.freeC,λp hp=>I.pin p (Jcz _ hp),I.hok,I.len⟩
theorem Inv.hnd (I:Inv X pins σ H s) (a:Addr):Inv (X.hnd pins a) [] σ H s:=
 ⟨⟨I.ok.mod,I.ok.kind,I.ok.glob,I.ok.blt,I.ok.above,I.ok.inj,I.ok.has,I.ok.cab,(λz=>nomatch z),I.ok.frames,I.ok.stk,I.ok.exf,I.ok.bs,I.ok.bsz,I.ok.noex,I.ok.exfs,I.ok.funs,I.ok.frf,I.ok.top⟩,I.os,I.bare,I.base,I.loc,I.cell,I.free,I.freeC,λp hp=>I.pin p (by simpa using hp),I.hok,I.len⟩
theorem Inv.unhnd (ok:X.Ok) (I:Inv (X.hnd pins a) pins' σ H s):Inv X pins σ H s:=
 ⟨ok,I.os,I.bare,I.base,I.loc,I.cell,I.free,I.freeC,λp hp=>I.pin p (Jcz _ hp),I.hok,I.len⟩
theorem Inv.track {o:HO} (I:Inv X pins σ H s) (hn:H a = none) (h0:∀ u,X.s₀.heap.get? a ≠ some u) (hL:a ≠ X.env.locals) (hc:∀ x c,X.env.cells.lookup x = some c->c ≠ a) (hp:∀ p ∈ X.pn ++ pins,p.1 ≠ a)
  (new:ObjOk X.prog X.w (upd H a o) s.heap a o):Inv X pins σ (upd H a o) s:=by
 have ne:∀ {b:Addr} {u:HO},H b = some u->b ≠ a:=λ{b u} hb z=>by rw [z,hn] at hb; cases hb
 refine ⟨I.ok,I.os,I.bare,⟨I.base.keep,I.base.slot,λb u q n hx=>?_,I.base.there,λb xs z=>?_,λb u v z=>?_,λb ps z=>?_⟩,I.loc,I.cell,?_,λx c e=>?_,λp hp'=>?_,λb u hb=>?_,I.len⟩
 .rw [Zaf (λz=>h0 u (by rw [<- z]; exact q))];exact I.base.free b u q n hx
 .have:=I.base.tups b xs z;rw [Zaf (ne this)];exact this
 .have:=I.base.frzs b u v z;rw [Zaf (ne this)];exact this
 .obtain ⟨m,e⟩:=I.base.tbls b ps z;exact ⟨m,by rw [Zaf (ne e)]; exact e⟩
 .rw [Zaf hL.symm]; exact I.free
 .rw [Zaf (hc x c e)]; exact I.freeC x c e
 .refine Zd7 (I.pin p hp') λp1 p2 p3 p4 p5=>?_;exact ⟨p1,by rw [Zaf (hp p hp')]; exact p2,p3,p4,p5⟩
 .by_cases hb':b = a
  .subst hb';rw [Zab] at hb;cases hb;exact new
  .rw [Zaf hb'] at hb;exact (I.hok b u hb).stay (λ_ _ _ q=>q) (λc z=>by rw [Zaf (ne z)]; exact z) (λc xs z=>by rw [Zaf (ne z)]; exact z) λc _ _ z=>by rw [Zaf (ne z)]; exact z
theorem Inv.goes {h':Heap} {m':Str->Option Value} {t':Nat} (I:Inv X pins σ H s) (hn:h'.Ns X.env.locals m') (sb:Heap.SameBut X.env.locals s.heap h'):Inv X pins (List.replicate X.N.length none) H { s with heap:=h',toks:=t' }:=by
 have neL:∀ b o,X.s₀.heap.get? b = some o->b ≠ X.env.locals:=λb o e=>Ja6 (Jau (Jaf e) I.ok.above);have k:∀ b o,b ≠ X.env.locals->s.heap.get? b = some o->h'.get? b = some o:=λb o n e=>(sb.2 b n).trans e;refine ⟨I.ok,I.os,I.bare,⟨λb o q n hb hx=>k b o (neL b o q) (I.base.keep b o q n hb hx),λb o q n hb hx=>?_,I.base.free,λb o q hx=>?_,I.base.tups,I.base.frzs,I.base.tbls⟩,⟨m',hn,λi x v e1 e2=>?_⟩,λx c e=>?_,I.free,I.freeC,λp hp=>?_,HOk.track I.hok λb u o hb q=>k b o (λz=>by rw [z,I.free] at hb; cases hb) q,by simp⟩
 .obtain ⟨sl,e1⟩:=I.base.slot b o q n hb hx;exact ⟨sl,k b _ (neL b o q) e1⟩
 .obtain ⟨o',e1⟩:=I.base.there b o q hx;exact ⟨o',k b o' (neL b o q) e1⟩
 .rw [Jc6] at e2;split at e2
  .cases e2
  .cases e2
 .obtain ⟨v,o,ho,hd⟩:=I.cell x c e;exact ⟨v,o,k c o (I.cne x c e) ho,hd⟩
 .refine Zd7 (I.pin p hp) λp1 p2 p3 p4 p5=>?_;exact ⟨k _ _ p3 p1,p2,p3,p4,p5⟩
end
def Zg7 (a:Addr) (cls:Value):HO:=.ext λh=>∃ ob,h.get? a = some ob/\ob.cls = cls
theorem Zqw {P:Program} {w:World} {H:Hp} {h:Heap} {a:Addr} {cls:Value} {ob:Obj} (e:h.get? a = some ob) (c:ob.cls = cls):ObjOk P w H h a (Zg7 a cls):=
 ⟨⟨ob,e,c⟩,⟨ob,e⟩,λh1 h2 ⟨o,e1,c1⟩ k=>⟨o,k o e1,c1⟩⟩
def hEnds (X:Cx) (D:Ends):Ends:={ nx:=λ_ H=>D.nx (List.replicate X.N.length none) H,rt:=D.rt,bk:=λ_ H=>D.bk (List.replicate X.N.length none) H,ct:=λ_ H=>D.ct (List.replicate X.N.length none) H }
def tTry (X:Cx) (E':XK) (tb:TS) (i:Nat) (th:TS):TS:=λD σ H=>tb D σ H/\∀ (cls:Value) (H':Hp) (a:Addr) (σ':St),E' cls none H'->H' a = none->σ'.length = X.N.length->th (hEnds X D) (σ'.set i (some (.ref a))) (upd H' a (Zg7 a cls))
section
variable {X:Cx} {x n:Str} {np hpos pos:Pos} {body suite:List Stmt} {b₀:Stmt} {E':XK} {tb th:TS} {i:Nat} {D:Addr} {bmD:List Value} {newD:String}
theorem ps_try (hstk:X.stack = X.env :: X.outer) (hfr:X.env.frame = some X.env.locals) (hex:X.ex = [])
  (hb:∀ pins xt,Zcy (CXe X.prog X.w) ((X.pnx pins).wish xt) E'->PSs ((X.pnx pins).wish xt) body tb) (hs:∀ pins a,PSs (X.hnd pins a) (b₀ :: suite) th)
  (hg:Gl X x) (OD:OwnCls x D bmD newD X.mg X.base) (hDB:bmD.contains (.type "BaseException") = true)
  (hC:∀ cls H',E' cls none H'->∃ C nm q N bs bm hdct sn sub ab col dd k0 k1 k2 k3 k5 new,cls = .ref C/\X.base.get? C = some (excClassObj nm q C N bs bm hdct sn sub ab col dd k0 k1 k2 k3 k5 new)/\bm.contains (.ref D) = true)
  (hN:X.N.Nodup) (hi:X.N[i]? = some n) (hn:X.env.scope.names.lookup n = some .local) (hd:(x == ("__debug__" : Str)) = false:=by decide):
  PS X (.Try body [.ExceptHandler (some (.Name x np)) (some n) (b₀ :: suite) hpos] [] [] pos) (tTry X E' tb i th):=by
 intro pins s σ H Dn I h;obtain ⟨hbody,hhand⟩:=h;rw [arm_exec_Try];refine Jac (Jb1 (wpAny_tryStmt_except ?_));have hp:Zcy (CXe X.prog X.w) ((X.pnx pins).wish λe s'=>∃ pins' σ' H1 s1,Inv (X.pnx pins) pins' σ' H1 s1/\CXe X.prog X.w X.stack H1 s1 E' e s') E':=λpins' σ' H1 s1 e s' I1 h=>⟨pins',σ',H1,s1,I1.unwish,h⟩
 have hl:X.env.locals ∈ frs X.stack:=by rw [hstk]; unfold frs; rw [Jb3,hfr]; exact Jb0
 refine Jaz (hb pins _ hp [] s σ H Dn (I.pnx.wish _) hbody) (λf s₁ h₁=>?_) (λe s₁ h₁=>?_)
 .cases f with
  | next=>obtain ⟨σ',H',J,q⟩:=h₁; exact Jc4 ⟨σ',H',J.unwish.unpnx,q⟩
  | brk=>obtain ⟨σ',H',J,q⟩:=h₁; exact ⟨σ',H',J.unwish.unpnx,q⟩
  | cont=>obtain ⟨σ',H',J,q⟩:=h₁; exact ⟨σ',H',J.unwish.unpnx,q⟩
  | ret u=>obtain ⟨v,σ',H',J,r,q⟩:=h₁; exact ⟨v,σ',H',J.unwish.unpnx,r,q⟩
 .refine Zhy h₁ λpins' σ' H1 s1 I1 e91=>?_;clear h₁;obtain ⟨a,cls,c0,H',rfl,F,hE,_⟩:=e91;refine Zao F.fly λB fl inB trB=>?_;have J1:Inv X pins σ' H1 s1:=I1.unpnx;refine Zkn (B:=B) (env:=X.env) (fr:=X.outer) (by rw [I.ok.frames,hstk]) hfr (hstk ▸ fl) λh₄ held₄ sm₄=>?_;refine Zgb (s:={ s₁ with heap:=h₄ }) none held₄ λh₅ fl₅ sm₅=>?_;have J5:Inv X pins σ' H' { s₁ with heap:=h₅ }:=F.land J1 hl fl inB trB fl₅.st (sm₄.trans sm₅);refine xE18_3 (hC cls H' hE) λC nm q N bs bm hdct sn sub ab col dd k0 k1 k2 k3 k5 new e92 hCb hsub=>?_;obtain rfl:=e92;refine Zrd OD.obj λtl N' nm' q' bs' hdct' sn' sub' ab' col' dd' j0 j1 j2 j3 j5 mN hDb _ _ T=>?_;refine Zad fl₅.there λob hob hobc=>?_;refine wpAny_handleBy_cons (codeAny_handlers_test (Zfq (X:=X.hnd pins a) (J5.hnd a) hg OD.bound ?_ hd)) (by intro q; cases q);refine Zj8 (J5.bk _ _ hCb) (J5.bk _ _ hDb) hob hobc (T.hasType hDB) hsub ?_;refine codeAny_handlers_suite_as (Zgb (s:={ s₁ with heap:=h₅ }) none fl₅ λh₆ fl₆ sm₆=>?_);have J6:Inv X pins σ' H' { s₁ with heap:=h₆ }:=F.land J1 hl fl inB trB fl₆.st ((sm₄.trans sm₅).trans sm₆);refine Zad fl₆.there λob6 hob6 hobc6=>?_;have new1:∀ b o,s1.heap.get? b = some o->b ≠ a:=λb o e z=>F.new o (by rw [<- z]; exact e);have J7:=J6.track (a:=a) (o:=Zg7 a (.ref C)) F.free (λu z=>by
    obtain ⟨o',e1⟩:=J1.base.there a u z (by rw [hex]; simp);exact F.new o' e1) (by
    refine Zad J1.loc λm e93 _=>?_;obtain ⟨o,_,_,ho,_⟩:=e93;exact (new1 _ o ho).symm) (λy c e=>by
    obtain ⟨v,o,ho,_⟩:=J1.cell y c e;exact new1 _ o ho) (λp hp=>new1 _ _ (J1.pin p hp).1) (Zqw hob6 hobc6)
  refine Zev J7 hN hi (.inl hn) (v:=.ref a) rfl (λs7 J8=>?_) (.inr hn);have hk:X.env.kindOf n = some .local:=hn;have hcls:(X.env.scope.kind == .class || (X.env.scope.kind == .module && X.env.locals != X.env.globals)) = false:=by rw [I.ok.kind]; rfl
  refine Jaz (hs pins a [] s7 _ _ (hEnds X Dn) (J8.hnd a) (hhand _ _ _ _ hE F.free J1.len)) (λf s8 h8=>?_) λ_ _ z=>z.elim;cases f with
  | next=>
   refine Zbo h8 λσ8 H8 J q=>?_;clear h8;have J9:=Inv.unhnd I.ok J;refine Zad J9.loc λm hn8 _=>?_;exact Jd2 hk hn8 hcls λh' m' hn' sb=>⟨_,_,J9.goes hn' sb,q⟩
  | brk=>
   refine Zbo h8 λσ8 H8 J q=>?_;clear h8;have J9:=Inv.unhnd I.ok J;refine Zad J9.loc λm hn8 _=>?_;exact Jd2 hk hn8 hcls λh' m' hn' sb=>⟨_,_,J9.goes hn' sb,q⟩
  | cont=>
   refine Zbo h8 λσ8 H8 J q=>?_;clear h8;have J9:=Inv.unhnd I.ok J;refine Zad J9.loc λm hn8 _=>?_;exact Jd2 hk hn8 hcls λh' m' hn' sb=>⟨_,_,J9.goes hn' sb,q⟩
  | ret u=>
   refine Zir h8 λv σ8 H8 J r q=>?_;clear h8;have J9:=Inv.unhnd I.ok J;refine Zad J9.loc λm hn8 _=>?_;exact Jd2 hk hn8 hcls λh' m' hn' sb=>⟨v,_,_,J9.goes hn' sb,r,q⟩
end
end L2
namespace L2
open PySem PySem.Spec PySem.Calls PyProof.Rows PySem.W Builtin Builtin.ObjectAttr Builtin.Getset_descriptor
structure ExcCls (K:PySem.W.Frag) (C:Addr):Prop where
 ga:findIn K (.ref C) "__getattribute__" = some (some (.builtin "BaseException.__getattribute__"))
 gt:findIn K (.ref C) "__getattr__" = some none
 cl:findIn K (.ref C) "__class__" = some (some (.builtin "object.__class__"))
 so:mroIn K C (.type "object") = some true
 sb:mroIn K C (.type "BaseException") = some true
section
variable {prog:Program} {w:World} {A:Around} {E:Value->Shared->Prop} {h:Heap} {g:Array GenState} {d:Drawn} {t:Nat} {os:OsState} {a C:Addr} {ox:Obj} {K:PySem.W.Frag}
theorem Zph {tp:Value} {R:Result->Shared->Prop} (Z:ExcCls K C) (X:K.In h) (hx:h.get? a = some ox) (hc:ox.cls = .ref C) (hq:R (.ok (.ret (.ref C))) ⟨h,g,d,t,os⟩):
  codeAny (model prog w) A (.call (.builtin "getset_descriptor.__get__") ⟨[.builtin "object.__class__",.ref a,tp],[]⟩) R ⟨h,g,d,t,os⟩:=by
 have L0:Looks (model prog w) h (typeOf (.ref a)) (.ref C):=hc ▸ (Looks.ld hx).andThen .now;have L1:=looks_mroIn (M:=model prog w) X Z.so;refine codeAny_call_builtin KF.slot_gs.plain KF.entry_gs (KF.slot_gs.check _ _ _ _ _ _ _ _ KF.type_class (KF.args_gs _ _ _) ?_);unfold Builtin.«getset_descriptor.__get__» descrGet;rw [dga_obj];refine Jac (Jat ?_);unfold descrGetter descrCheckInstance descrNameAndClass isInstance;simp only [KF.owner_class]
 repeat lk
 refine ⟨Code.quiet_builtin _ (by decide +kernel),codeAny_builtin KF.entry_class ?_⟩;unfold Builtin.«object.__class__» shownTypeOf
 repeat lk
 exact hq
theorem Zll {tk:Tok} {Q:Fin->Shared->Prop} (Z:ExcCls K C) (X:K.In h) (hx:h.get? a = some ox) (hc:ox.cls = .ref C) (hq:Q (.done (.ret (.ref C))) ⟨h,g,d,t,os⟩):
  wpAny (model prog w) A (Builtin.«object.__getattribute__» ⟨[.ref a,.str "__class__" tk],[]⟩) Q E ⟨h,g,d,t,os⟩:=by
 have hT5:(⟨h,g,d,t,os⟩:Shared).TypeIs (.builtin "object.__class__") "getset_descriptor" := F.typeOf_object_class;have f5:=F.typeOf_object_class;have f6:=F.slot_gs_get.lookup;have f7:=F.slot_gs_set.lookup;have L4:=looks_findIn (M:=model prog w) X Z.cl
 repeat (any_goals (first | assumption | (with_reducible refine Jcx hx ?_; rw [hc]) | with_reducible refine L4.at ?_ | wp_step))
 refine Zph Z X hx hc ?_
 repeat (any_goals (first | assumption | wp_step))
theorem Zlm {M:Model} {nameV:Value} {Q:Unit->Shared->Prop} (Z:ExcCls K C) (X:K.In h) (hx:h.get? a = some ox) (hc:ox.cls = .ref C) (hq:Q () ⟨h,g,d,t,os⟩):
  wpAny M A (checkBuiltinCall "BaseException.__getattribute__" ⟨[.ref a,nameV],[]⟩) Q E ⟨h,g,d,t,os⟩:=by
 have hk:builtinKind "BaseException.__getattribute__" = some .slot:=by decide +kernel
 have hsplit:splitId "BaseException.__getattribute__" = some ("BaseException","__getattribute__"):=by decide +kernel
 have L1:=looks_mroIn (M:=M) X Z.sb;have ha:=F.args_bexc_ga (.ref a) nameV;simp only [checkBuiltinCall,hk,hsplit];refine Jac ?_;unfold isInstance
 repeat (first | (with_reducible refine Jcx hx ?_; rw [hc]) | with_reducible refine L1.at ?_ | wp_step)
 exact hq
theorem Zmf {tk:Tok} {R:Result->Shared->Prop} (Z:ExcCls K C) (X:K.In h) (hx:h.get? a = some ox) (hc:ox.cls = .ref C) (hq:R (.ok (.ret (.ref C))) ⟨h,g,d,t,os⟩):
  codeAny (model prog w) A (.call (.builtin "BaseException.__getattribute__") ⟨[.ref a,.str "__class__" tk],[]⟩) R ⟨h,g,d,t,os⟩:=
 codeAny_call_builtin F.excAttr_ValueError.ga.plain F.entry_bexc_ga (Zlm Z X hx hc (Zll Z X hx hc hq))
theorem xcls_by {tk:Tok} {fill expr:Bool} {Q:Value->Shared->Prop} (Z:ExcCls K C) (X:K.In h) (hx:h.get? a = some ox) (hc:ox.cls = .ref C) (hq:Q (.ref C) ⟨h,g,d,t,os⟩):
  wpAny (model prog w) A (getAttrBy (.ref a) (.str "__class__" tk) fill expr) Q E ⟨h,g,d,t,os⟩:=by
 have f3:=F.excAttr_ValueError.ga.bind (.ref a);have hx0:(expr && onTheHeap (Value.builtin "BaseException.__getattribute__")) = false:=by cases expr <;> rfl
 have hx2:(Value.builtin "BaseException.__getattribute__" == Value.builtin "object.__getattribute__") = false:=by decide +kernel
 have hx1:(onTheHeap (Value.ref C) && Value.builtin "BaseException.__getattribute__" == Value.builtin "object.__getattribute__") = false:=by rw [hx2]; rfl
 have L1:=looks_findIn (M:=model prog w) X Z.ga;have L2:=looks_findIn (M:=model prog w) X Z.gt
 repeat (any_goals (first | assumption | (with_reducible refine Jcx hx ?_; rw [hc]) | with_reducible refine L1.at ?_ | with_reducible refine L2.at ?_ | wp_step))
 refine Zmf Z X hx hc ?_
 repeat (any_goals (first | assumption | wp_step))
theorem Zmg {Q:Option Value->Shared->Prop} (Z:ExcCls K C) (X:K.In h) (hx:h.get? a = some ox) (hc:ox.cls = .ref C) (hq:Q (some (.ref C)) ⟨h,g,d,t + 1,os⟩):
  wpAny (model prog w) A (getAttr? (.ref a) "__class__") Q E ⟨h,g,d,t,os⟩:=by
 unfold getAttr? getAttrBy?;refine Jac (wpAny_mkText (Jac (wpAny_attempt (xcls_by Z X hx hc ?_))));exact Jat hq
def ExcAt (a C:Addr) (h:Heap):Prop:=∃ ob,h.get? a = some ob/\ob.cls = .ref C
theorem Zk8 (Z:ExcCls K C) (hC:(clsIn K C).isSome = true):KitX K (.ref a) (.ref C) (ExcAt a C) where
 ty:=λ_ _ _ ⟨ob,hx,hc⟩=>hc ▸ (Looks.ld hx).andThen .now
 it:=λ_ _ X _=>by
  obtain ⟨cdD,hcD⟩:=Jbz.mp hC;unfold clsIn at hcD;split at hcD
  .rename_i c' d' cd' sl' ho
   intro A' Q' E' s' k q;unfold isType loadHead;exact Jac (wpAny_loadPart (k _ _ (X _ _ ho)) (Jat q))
  .cases hcD
 ne:=λh tp dd its n sl X htp=>by
  obtain ⟨cdD,hcD⟩:=Jbz.mp hC;refine Bool.eq_false_iff.mpr λq=>?_;have e:C = tp:=Value.ref.inj (Jbg.mp q);subst e;unfold clsIn at hcD;split at hcD
  .rename_i c' d' cd' sl' ho
   have z:=(X _ _ ho).symm.trans htp;cases z
  .cases hcD
 ca:=λ{_ _ _ _ _ s} X ⟨ob,hx,hc⟩ k=>by
  obtain ⟨hh,g,d,t,os⟩:=s;exact Zmg Z X hx hc k
end
end L2
namespace L2
open PySem PySem.Spec PyProof.Rows PySem.W
section
variable {X:Cx}
theorem Zru {pins:List (Addr × Obj)} {σ:St} {H:Hp} {s:Shared} {a C:Addr} (I:Inv X pins σ H s) (ha:H a = some (Zg7 a (.ref C))):ExcAt a C s.heap:=(I.hok a _ ha).1
theorem Zq9:Zdc X (.builtin "isinstance") (λxs H Q=>∃ (a C:Addr) (y:V) (c:Value) (b:Bool),xs = [.ref a,y]/\cV y = some c/\H a = some (Zg7 a (.ref C))/\ExcCls X.K C/\(clsIn X.K C).isSome = true/\PySem.W.kitOne X.K (.ref C) c = some b/\Q (.bl b) H):=by
 intro pins s σ H xs us Q I r h;refine Zct h λa C y c b e91 hc ha e92=>?_;clear h;obtain rfl:=e91;refine Zbh e92 λZ hC e q=>?_;clear e92;refine Zca (vals2 r) λu v e93 rx ry=>?_;obtain rfl:=e93;have hv:v = c:=by
  cases y <;> first | (cases hc; done) | (cases hc; cases ry; rfl)
 subst hv;cases rx;exact Jbq (Zk8 Z hC) I.kIn (Zru I ha) e (λz=>nomatch z) λtk=>⟨.bl b,H,I.tok _,rfl,q⟩
theorem Zmn:∀ {ys:List V} {cs us:List Value},Vals ys us->ys.map cV = cs.map some->us = cs
 | [],[],_,.nil,_=>rfl
 | y :: ys,c :: cs,_,.cons r rs,h=>by
  simp only [Jav,Jcb] at h;rw [Zmn rs h.2];congr 1;obtain ⟨hc,_⟩:=h;cases y <;> first | (cases hc; done) | (cases hc; cases r; rfl)
theorem Zo9:Zdc X (.builtin "isinstance") (λxs H Q=>∃ (a C t:Addr) (ys:List V) (cs:List Value) (b:Bool),xs = [.ref a,.ref t]/\H t = some (.tup ys)/\ys.map cV = cs.map some/\H a = some (Zg7 a (.ref C))/\ExcCls X.K C/\(clsIn X.K C).isSome = true/\PySem.W.kitAny X.K (.ref C) cs = some b/\Q (.bl b) H):=by
 intro pins s σ H xs us Q I r h;refine Zpj h λa C t ys cs b e94 ht hc e95=>?_;clear h;obtain rfl:=e94;refine Zd7 e95 λha Z hC e q=>?_;clear e95;refine Zca (vals2 r) λu v e96 rx ry=>?_;obtain rfl:=e96;cases rx;cases ry;obtain ⟨_,its,rv,p⟩:=(show ObjOk X.prog X.w H s.heap t (.tup ys) from I.hok t _ ht)
 obtain rfl:=Zmn rv hc;refine Zao p λe97 h1 h2 e98=>?_;clear p;obtain ⟨oc,odd,oda,osl⟩:=e97;obtain ⟨n,h3⟩:=e98;dsimp only at h2 h3;subst h2 h3;exact PySem.W.kia_tup (Zk8 Z hC) I.kIn (Zru I ha) h1 e (λz=>nomatch z) λtk=>⟨.bl b,H,I.tok _,rfl,q⟩
theorem Zhb (K:PySem.W.Frag) (hK:X.K = K):Zdc X (.builtin "isinstance") (λxs H Q=>∃ (a C:Addr) (y:V) (c:Value) (b:Bool),xs = [.ref a,y]/\cV y = some c/\H a = some (Zg7 a (.ref C))/\ExcCls K C/\(clsIn K C).isSome = true/\PySem.W.kitOne K (.ref C) c = some b/\Q (.bl b) H):=by subst hK; exact Zq9
theorem Zma (K:PySem.W.Frag) (hK:X.K = K):Zdc X (.builtin "isinstance") (λxs H Q=>∃ (a C t:Addr) (ys:List V) (cs:List Value) (b:Bool),xs = [.ref a,.ref t]/\H t = some (.tup ys)/\ys.map cV = cs.map some/\H a = some (Zg7 a (.ref C))/\ExcCls K C/\(clsIn K C).isSome = true/\PySem.W.kitAny K (.ref C) cs = some b/\Q (.bl b) H):=by subst hK; exact Zo9
end
end L2
namespace L2
open PySem PySem.Spec PyProof.Rows PySem.W
structure CalE (P:Program) (w:World) (K:PySem.W.Frag) (mg:Str->Option Value) (base:Heap) (x:Str) (k:Nat) (sp:Sp):Prop where
 ex:∃ (f:Addr) (fd:FuncData) (ps:List Str),FnOk P w K mg base (CXe P w) k f fd ps sp/\mg x = some (.ref f)/\PySem.W.keepIn K (.ref f) = true/\Binds K fd ps []
structure CalME (P:Program) (w:World) (K:PySem.W.Frag) (mg:Str->Option Value) (base:Heap) (C:Addr) (m:Str) (k:Nat) (sp:Sp):Prop where
 ex:∃ (f:Addr) (fd:FuncData) (ps:List Str),FnOk P w K mg base (CXe P w) k f fd ps sp/\Meth K C m f/\Binds K fd ps []
structure CalIE (P:Program) (w:World) (K:PySem.W.Frag) (mg:Str->Option Value) (base:Heap) (x:Str) (C:Addr) (k:Nat) (sp:Sp):Prop where
 ex:∃ (f:Addr) (fd:FuncData) (ps:List Str),FnOk P w K mg base (CXe P w) k f fd ps sp/\Mk K C f/\mg x = some (.ref C)/\Binds K fd ps []
section
variable {X:Cx} {x m:Str} {k:Nat} {sp:Sp} {e o:Expr} {es:List Expr} {ta:TE} {t:TA} {p pos apos:Pos} {E:XK} {C:Addr}
theorem Zhh (M:CalE X.prog X.w X.K X.mg X.base x k sp) (hx:Zcy (CXe X.prog X.w) X E) (hr:Room k X.A) (hg:Gl X x) (ha:PA X (e :: es) t) (h:Za7 e = false:=by rfl) (h2:es.all (λx=>!Za7 x) = true:=by rfl)
  (hdb:(x == ("__debug__" : Str)) = false:=by decide):PE X (.Call (.Name x p) (e :: es) [] pos) (Zjr sp [] E t):=by
 refine Zb1 M.ex λf fd ps F hm hk hb=>?_;exact Znu F hr hg hm hk hb .nil hx ha hdb (Zaw h) (Zci h2)
end
theorem hnd_K {X:Cx} {pins:List (Addr × Obj)} {a:Addr}:(X.hnd pins a).K = X.K:=rfl
theorem pnx_K {X:Cx} {pins:List (Addr × Obj)}:(X.pnx pins).K = X.K:=rfl
structure CalDE (P:Program) (w:World) (K:PySem.W.Frag) (mg:Str->Option Value) (base:Heap) (C:Addr) (m:Str) (k:Nat) (sp:Sp) (dvs:List V):Prop where
 ex:∃ (f:Addr) (fd:FuncData) (ps:List Str) (ds:List Value),FnOk P w K mg base (CXe P w) k f fd ps sp/\Meth K C m f/\Binds K fd ps ds/\Vals dvs ds
abbrev bmV:List Value:=[.type "ValueError",.type "Exception",.type "BaseException",.type "object"]
abbrev newV:String:="ValueError.__new__"
theorem Zhd:bootBuiltins "ValueError" = some (.type "ValueError"):=by decide +kernel
section
variable {P:Program} {w:World} {K:PySem.W.Frag} {mg:Str->Option Value} {base:Heap} {N:List Str} {qual:Str} {scope:Scope} {f:Addr} {cd:Value} {A:Around} {outer:List Env} {s:Shared} {H:Hp} {E:XK}
theorem Znm {x:Str} {C:Addr} {np cpos pos:Pos} {e₀:Expr} {rest:List Expr} {t:TA} (O:OwnCls x C bmV newV mg base) (hg:Gl (Zke (CXe P w) P w K mg base N qual scope f cd A outer s H E) x)
  (ha:PA (Zke (CXe P w) P w K mg base N qual scope f cd A outer s H E) (e₀ :: rest) t) (h1:Za7 e₀ = false:=by rfl) (h2:rest.all (λx=>!Za7 x) = true:=by rfl) (hd:(x == ("__debug__" : Str)) = false:=by decide):
  PS (Zke (CXe P w) P w K mg base N qual scope f cd A outer s H E) (.Raise (some (.Call (.Name x np) (e₀ :: rest) [] cpos)) none pos) (Zmt t (E (.ref C) none)):=
 Zp0 rfl O PySem.F.excBase_ValueError rfl PySem.F.excBase_ValueError hg ha (λpins σ H1 s1 s2 e vs I hm ho hg hE=>xe_made I hm ho hg hE) h1 h2 hd
theorem Zhv {C:Addr} {b:Value} {r:Bool} (m:mroIn K C b = some r):(clsIn K C).isSome = true:=by
 unfold mroIn at m;cases h:clsIn K C with
 | none=>rw [h] at m; cases m
 | some cd=>rfl
theorem Zi2 {C D:Addr} {bmB:List Value} {newId:String} {h:Heap} (X:K.In h) (q:excIn K C bmB newId = true) (m:mroIn K C (.ref D) = some true) (ne:C ≠ D):
  ∃ C' nm q N bs bm hdct sn sub ab col dd k0 k1 k2 k3 k5 new,Value.ref C = .ref C'/\h.get? C' = some (excClassObj nm q C' N bs bm hdct sn sub ab col dd k0 k1 k2 k3 k5 new)/\bm.contains (.ref D) = true:=by
 unfold excIn at q;split at q
 .rename_i dd cd sl ho
  split at q
  .rename_i C' bm k0 k1 k2 k3 n k5 hm hs
   simp only [Jbx,Jbg,Bool.not_eq_true'] at q;obtain ⟨⟨⟨⟨⟨rfl,rfl⟩,hdel⟩,ht⟩,hok⟩,hni⟩:=q;have hcl:clsIn K C' = some cd:=by unfold clsIn; rw [ho]
   obtain ⟨nm,bs,mro,ns,qn,hd,sn,sub,ab,col,del⟩:=cd;dsimp only at hm hdel hok hni;subst hm hdel;have hsl:sl = #[k0,k1,k2,k3,some (.builtin n),k5]:=by
    obtain ⟨l⟩:=sl;simp only at hs;rw [hs]
   subst hsl;refine xI18_1 C' nm qn ns bs bm hd sn sub ab col dd k0 k1 k2 k3 k5 _ ⟨rfl,X _ _ ho,?_⟩;unfold mroIn at m;rw [hcl] at m;have m:(Value.ref C' :: bm).contains (.ref D) = true:=Jbi m;rw [Jd0,Jc7] at m;rcases m with m | m
   .exact absurd (Value.ref.inj (Jbg.mp m)).symm ne
   .exact m
  .cases q
 .cases q
end
end L2
namespace L2
open PySem PySem.Spec PyProof.Rows
structure RoomH (k:Nat) (A:Around):Prop where
 dp:A.depth + 3 * k + 205 < recursionLimit
 un:A.units + 16 * k + 200 < cLine
theorem Room.mark {k:Nat} {A:Around} (r:Room k A) (v:Option Value):RoomH k (A.mark v):=⟨r.dp,r.un⟩
theorem RoomH.depth {k:Nat} {A:Around} (r:RoomH k A):A.depth < recursionLimit:=by have:=r.dp; omega
theorem RoomH.deeper {k:Nat} {A:Around} (r:RoomH (k + 1) A) (env:Env):RoomH k (A.deeper env):=by
 have h1:=r.dp;have h2:=r.un;constructor
 .show A.depth + 1 + 3 * k + 205 < _;omega
 .show A.units + 3 + 16 * k + 200 < _;omega
structure FnOkH (P:Program) (w:World) (K:PySem.W.Frag) (mg:Str->Option Value) (base:Heap) (CX:CXT) (k:Nat) (f:Addr) (fd:FuncData) (ps:List Str) (sp:Sp):Prop where
 len:∀ vs H Q E,sp vs H Q E->vs.length = ps.length
 run:∀ (A:Around) (outer:List Env) (s:Shared) (H:Hp) (args:Args) (us:List Value) (vs:List V) (Q:VK) (E:XK),RoomH k A->Env0 P w K mg base A outer s H->BindsTo s fd args (ps.zip us)->Vals vs us->sp vs H Q E->
  codeAny (model P w) A (.call (.ref f) args) (CR CX outer P w H s Q E) s
abbrev Zov (CX:CXT) (P:Program) (w:World) (K:PySem.W.Frag) (mg:Str->Option Value) (base:Heap) (N:List Str) (qual:Str) (scope:Scope) (f:Addr) (cd:Value) (A:Around) (outer:List Env) (s:Shared) (H:Hp) (E:XK):Cx:={ Zke CX P w K mg base N qual scope f cd A outer s H E with calm:=false }
theorem Zl4 {CX:CXT} {P:Program} {w:World} {K:PySem.W.Frag} {mg:Str->Option Value} {base:Heap} {N ps:List Str} {qual:Str} {scope:Scope} {f:Addr} {cd:Value} {A:Around} {outer:List Env} {s s1:Shared} {H:Hp} {E:XK} {us:List Value} {vs:List V}
  (S:FnScope N ps scope) (e0:Env0 P w K mg base A outer s H) (hl:vs.length = ps.length) (r:Vals vs us)
  (x:InCallC s s.heap.objs.size (bindL (envOfC qual scope s.heap.objs.size f cd).kindOf (ps.zip us) λ_=>none) (cellsFrom (s.heap.objs.size + 1) scope.names []) (bindC (envOfC qual scope s.heap.objs.size f cd).kindOf (ps.zip us) λ_=>none) s1):
  Inv (Zov CX P w K mg base N qual scope f cd A outer s H E) [] (Zei N vs) H s1:=by
 have I:=Zje (CX:=CX) (E:=E) (A:={ A with handled:=none }) S rfl ⟨e0.frames,e0.mod,e0.bs,e0.bsz,e0.funs,e0.frf,e0.hok,e0.bare⟩ hl r x;exact ⟨⟨I.ok.mod,I.ok.kind,I.ok.glob,I.ok.blt,I.ok.above,I.ok.inj,I.ok.has,I.ok.cab,(λz=>nomatch z),Around.frames_deeper e0.frames,I.ok.stk,I.ok.exf,I.ok.bs,I.ok.bsz,I.ok.noex,I.ok.exfs,I.ok.funs,I.ok.frf,I.ok.top⟩,I.os,I.bare,I.base,I.loc,I.cell,I.free,I.freeC,I.pin,I.hok,I.len⟩
theorem fn_ofH {CX:CXT} {P:Program} {w:World} {K:PySem.W.Frag} {mg:Str->Option Value} {base:Heap} {k:Nat} {f:Addr} {name qual:Str} {params:Arguments} {body:List Stmt} {scope:Scope} {dV kV doc pm cdv ct oc:Value} {an od:Option Addr}
  {osl:Array (Option Value)} {N ps:List Str} {sp:Sp} (lk:K.lookup f = some ⟨oc,od,.func (PySem.W.fnOf name qual params body scope dV kV doc pm an cdv ct),osl⟩) (hcd:PySem.W.codeIn K cdv qual = true) (S:FnScope N ps scope)
  (len:∀ vs H Q E,sp vs H Q E->vs.length = ps.length)
  (hbody:∀ (A:Around) (outer:List Env) (s:Shared) (H:Hp) (vs:List V) (Q:VK) (E:XK),RoomH k (A.deeper (envOfC qual scope s.heap.objs.size f cdv))->sp vs H Q E->
   ∃ t,PSs (Zov CX P w K mg base N qual scope f cdv A outer s H E) body t/\t { nx:=λ_ H'=>Q .non H',rt:=Q } (Zei N vs) H):
  FnOkH P w K mg base CX (k + 1) f (PySem.W.fnOf name qual params body scope dV kV doc pm an cdv ct) ps sp:=by
 refine ⟨len,λA outer s H args us vs Q E hr e0 hb r hsp=>?_⟩;have hl:=len _ _ _ _ hsp;have KX:K.In s.heap:=e0.mod.kin.keeps λb o e=>(e0.bs b o e).1;have lim:s.heap.NoLimit:=e0.mod.nolimit.keeps λb o e=>(e0.bs b o e).1;have hkind:∀ y ∈ ps.zip us,scope.names.lookup y.1 = some .local\/(scope.names.lookup y.1 = some .cell/\((cellsFrom (s.heap.objs.size + 1) scope.names []).lookup y.1).isSome = true):=λ⟨n,v⟩ hy=>by
  rcases S.par n (Jdp hy).1 with q | q
  .exact .inl q
  .exact .inr ⟨q,Jcc _ _ _ (.inl q)⟩
 refine codeAny_call_function hr.depth (KX _ _ lk) rfl S.co S.gen rfl (PySem.W.codeRec_of KX hcd) (hb _ _ _ _ ?_);refine wpAny_newFunctionEnv_cells S.kind hkind λenv he s1 x=>?_;subst he;refine ⟨lim.keeps x.toInCall.keep,codeAny_func ?_⟩;refine Zad (hbody A outer s H vs Q E (hr.deeper _) hsp) λt ht hq=>?_;have I:Inv (Zov CX P w K mg base N qual scope f cdv A outer s H E) [] (Zei N vs) H s1:=Zl4 S e0 hl r x;refine Jaz (ht [] s1 (Zei N vs) H _ I hq) (λfl s' hs=>?_) λe s' hs=>hs;have fin:∀ {σ':St} {H':Hp} {v:V} {u:Value},Inv (Zov CX P w K mg base N qual scope f cdv A outer s H E) [] σ' H' s'->RelV v u->Q v H'->CE outer P w H s Q u s':=
  λ{σ' H' v u} J rv q=>⟨v,H',J.os,J.bare,J.base,J.hok,rv,q⟩
 cases fl with
 | ret u=>
  refine Zir hs λv σ' H' J rv q=>?_;clear hs;exact fin J rv q
 | next=>
  refine Zbo hs λσ' H' J q=>?_;clear hs;exact fin (v:=V.non) (u:=Value.none) J rfl q
 | brk=>
  refine Zbo hs λ_ _ _ q=>?_;clear hs;exact False.elim q
 | cont=>
  refine Zbo hs λ_ _ _ q=>?_;clear hs;exact False.elim q
section
variable {P:Program} {w:World} {K:PySem.W.Frag} {mg:Str->Option Value} {base:Heap}
theorem Fun.okH {x qual:Str} {st:Stmt} {f:Addr} {fd:FuncData} {N ps:List Str} {k:Nat} {sp:Sp} (F:Fun K x qual st f fd) (S:FnScope N ps (Zae st)) (len:∀ vs H Q E,sp vs H Q E->vs.length = ps.length)
  (hbody:∀ (cdv:Value) (A:Around) (outer:List Env) (s:Shared) (H:Hp) (vs:List V) (Q:VK) (E:XK),RoomH k (A.deeper (envOfC qual (Zae st) s.heap.objs.size f cdv))->sp vs H Q E->
   ∃ t,PSs (Zov CX0 P w K mg base N qual (Zae st) f cdv A outer s H E).nox (Zcq st) t/\t { nx:=λ_ H'=>Q .non H',rt:=Q } (Zei N vs) H):FnOkH P w K mg base CX0 (k + 1) f fd ps sp:=by
 refine Zpi F.ex λoc od kV doc pm an cdv ct osl e91 lk hcd=>?_;obtain rfl:=e91;refine fn_ofH lk hcd S len λA outer s H vs Q E hr hsp=>?_;refine Zad (hbody cdv A outer s H vs Q E hr hsp) λt h q=>?_;exact ⟨t,h.nox,q⟩
structure CalH (P:Program) (w:World) (K:PySem.W.Frag) (mg:Str->Option Value) (base:Heap) (x:Str) (k:Nat) (sp:Sp):Prop where
 ex:∃ (f:Addr) (fd:FuncData) (ps:List Str),FnOkH P w K mg base CX0 k f fd ps sp/\mg x = some (.ref f)/\PySem.W.keepIn K (.ref f) = true/\Binds K fd ps []
end
section
variable {X:Cx} {CX:CXT} {k:Nat} {f C:Addr} {fd:FuncData} {ps:List Str} {sp:Sp} {dvs:List V} {ds:List Value} {E:XK} {x m:Str} {p pos apos:Pos} {e o:Expr} {es:List Expr} {ta:TE} {t:TA}
theorem run_fnH {pins:List (Addr × Obj)} {σ:St} {H:Hp} {s:Shared} {Q:VK} {us:List Value} {vs:List V} (F:FnOkH X.prog X.w X.K X.mg X.base CX k f fd ps sp) (hr:RoomH k X.A) (hb:Binds X.K fd ps ds) (hd:Vals dvs ds) (hx:Zcy CX X E)
  (I:Inv X pins σ H s) (r:Vals vs us) (h:sp (vs ++ dvs) H Q E):wpAny (model X.prog X.w) X.A (call (.ref f) us) (EP X pins σ Q) X.xe s:=by
 have r2:Vals (vs ++ dvs) (us ++ ds):=r.append hd;have hl:(us ++ ds).length = ps.length:=by rw [<- r2.length]; exact F.len _ _ _ _ h
 refine wpAny_call (Jdh (F.run X.A X.stack s H ⟨us,[]⟩ (us ++ ds) (vs ++ dvs) Q E hr I.env0 (hb s us I.kIn hl) r2 h) λr s' hq=>?_);cases r with
 | error e=>exact hx pins σ H s e s' I hq
 | ok fl=>
  cases fl with
  | ret u=>exact I.after hq
  | next=>exact False.elim hq
  | brk=>exact False.elim hq
  | cont=>exact False.elim hq
theorem Zp5 (F:FnOkH X.prog X.w X.K X.mg X.base CX k f fd ps sp) (hr:RoomH k X.A) (hg:Gl X x) (hm:X.mg x = some (.ref f)) (hk:PySem.W.keepIn X.K (.ref f) = true) (hb:Binds X.K fd ps ds) (hd:Vals dvs ds) (hx:Zcy CX X E)
  (ha:PA X (e :: es) t) (hdb:(x == ("__debug__" : Str)) = false:=by decide) (he:starEach (e :: es) X.env = (false,eval e X.env) :: starEach es X.env:=by rfl) (hpl:(backTo pos (starEach es X.env)).any (·.1) = false:=by rfl):
  PE X (.Call (.Name x p) (e :: es) [] pos) (Zjr sp dvs E t):=by
 intro pins s σ H Q I h;refine Jcr (Zfq I hg hm ?_ hdb);refine Jc5 (h₀:=X.base) I.ok.mod.kin hk (thn (ha pos pins s σ H _ I h) λus s1 ⟨vs,H1,I1,r,q⟩=>⟨I1.kIn,?_⟩) he hpl;exact run_fnH F hr hb hd hx I1 r q
theorem pe_cH (C:CalH X.prog X.w X.K X.mg X.base x k sp) (hr:RoomH k X.A) (hg:Gl X x) (ha:PA X (e :: es) t) (h:Za7 e = false:=by rfl) (h2:es.all (λx=>!Za7 x) = true:=by rfl)
  (hdb:(x == ("__debug__" : Str)) = false:=by decide):PE X (.Call (.Name x p) (e :: es) [] pos) (Zjr sp [] E0 t):=by
 refine Zb1 C.ex λf fd ps F hm hk hb=>?_;exact Zp5 F hr hg hm hk hb .nil Znv ha hdb (Zaw h) (Zci h2)
end
end L2
set_option maxHeartbeats 4000000
open PySem L2 PyProof.Rows
local macro_rules | `($a<&>$b)=>`(@pa_c _ _ _ _ _ $a $b (by rfl))
local macro_rules | `($a<*>$b)=>`(@Zpz _ _ _ _ _ $a $b)
local macro_rules | `($o<|>$a<&&>$b)=>`(@pe_op _ _ _ _ _ _ _ _ $o $a $b)
local macro_rules | `($o<|>$a<||>$b)=>`(@pe_ix _ _ _ _ _ _ _ $o $a $b (λ_ _=>rfl))
local macro_rules | `(~~~$x)=>`(@Zaj _ _ _ (@ps_ret _ _ _ _ $x))
local macro_rules | `(tactic| walk_at "wp")=>do
 let f (s:String):=(s.splitOn " ").toArray.map λx=>Lean.mkIdent x.toName
 let b:=f "tSeq tIfS tTest tOp tUn Zko tC tCB Zga Zpd tRet tRetN tNext tDrop tAsg tAug ipI Zba gTup Zl7 gNil gSub tTup tLst tSl Zmu tPart Zmw Zjr tBM tBM0 tPar tB tAnd tOr tNot tAndV tOrV tNotV tIf Zgf Zpq Zmv tFld sFld tDGet Znl sDPut gLst tAugS rGetL rI0 rI rU rIxL rIxT rSetL rSlL Zj1 Zrk rPop rBits tTry hEnds Zmt hnd_K pnx_K rCat rEq rNe rEqL rEqT rIn scal_ii scal_bb scal_ss Zqx iTup iRng1 iRng2 cV cx_K in_K wish_K E0 L2.Zei List.map List.length List.replicate List.cons_append List.nil_append Jdo List.getElem?_cons_zero List.getElem?_cons_succ List.set_cons_zero List.set_cons_succ Option.some.injEq exists_eq_left' exists_eq_left exists_and_left V.int.injEq V.bl.injEq V.ref.injEq V.ty.injEq Jcb reduceCtorEq false_and and_false exists_false or_false false_or and_true true_and Nat.reduceSub Nat.reduceAdd Nat.reduceLT Jcl if_false Jdz"
 `(tactic| simp only [$[$b:term],*])
namespace Pf
open PySem L2 PyProof.Rows
def top (i:Nat):Stmt:=PySem.Challenge.pw_limbtables_k51_drawings_that_are_not_goo.main.body.getD i (.Pass ⟨0,0,0,0⟩)
abbrev Zd2:Stmt:=top 18
abbrev Zcc:Stmt:=top 27
abbrev Zfn:Stmt:=top 28
abbrev Zgx:Stmt:=top 29
abbrev Zgv:Stmt:=top 30
abbrev Zm9:Stmt:=top 31
abbrev Zc3:Stmt:=top 32
abbrev Zcp:Stmt:=Zft (top 33) 0
abbrev Zb3:Stmt:=Zft (top 33) 1
abbrev Zce:Stmt:=Zft (top 33) 5
abbrev Zgw:Stmt:=top 37
abbrev Zb2:Stmt:=top 19
abbrev Zfm:Stmt:=top 107
abbrev Zcm:Stmt:=top 108
abbrev Zc2:Stmt:=top 112
abbrev Zc4:Stmt:=Zft (top 113) 0
abbrev Zbr:Stmt:=Zft (top 113) 6
abbrev Zh4:Stmt:=top 41
abbrev Zfl:Stmt:=top 40
abbrev Zgs:Stmt:=top 43
abbrev Zen:Stmt:=top 65
abbrev Zc1:Stmt:=top 66
abbrev Zdu:Stmt:=top 67
abbrev Zcd:Stmt:=Zft (top 68) 0
abbrev Zej:Stmt:=top 69
abbrev Zfg:Stmt:=top 90
abbrev Zek:Stmt:=top 91
abbrev Zh5:Stmt:=top 92
abbrev Zcn:Stmt:=top 95
abbrev Zc0:Stmt:=top 96
abbrev Zdt:Stmt:=top 101
abbrev Zgt:Stmt:=top 102
abbrev Zgr:Stmt:=top 104
abbrev Zfk:Stmt:=top 115
abbrev Zgu:Stmt:=top 116
abbrev Zem:Stmt:=top 117
abbrev Zdq:Stmt:=top 118
abbrev Zdp:Stmt:=top 119
abbrev Zfi:Stmt:=top 120
abbrev Zel:Stmt:=top 121
abbrev Zdr:Stmt:=top 122
abbrev Zco:Stmt:=top 123
abbrev Zfh:Stmt:=top 124
abbrev Zdo:Stmt:=top 125
abbrev Zds:Stmt:=top 126
abbrev Zfj:Stmt:=top 127
abbrev Zh3:Stmt:=top 128
theorem Zcz:FnScope ["thing"] ["thing"] (Zae Zd2):=⟨rfl,rfl,rfl,by decide +kernel,rfl,by decide +kernel,by decide +kernel⟩
theorem Zdd:FnScope ["many","arrows"] ["many","arrows"] (Zae Zcc):=⟨rfl,rfl,rfl,by decide +kernel,rfl,by decide +kernel,by decide +kernel⟩
theorem Zgq:FnScope ["many","thing"] ["many","thing"] (Zae Zfn):=⟨rfl,rfl,rfl,by decide +kernel,rfl,by decide +kernel,by decide +kernel⟩
theorem Zhp:FnScope ["points","arrows","least","tail","head","low","high","point"] ["points","arrows"] (Zae Zgx):=⟨rfl,rfl,rfl,by decide +kernel,rfl,by decide +kernel,by decide +kernel⟩
theorem Zhn:FnScope ["points","arrows","many","ends","forks"] ["points","arrows"] (Zae Zgv):=⟨rfl,rfl,rfl,by decide +kernel,rfl,by decide +kernel,by decide +kernel⟩
theorem Zm8:FnScope ["points","arrows","fork","others"] ["points","arrows","fork"] (Zae Zm9):=⟨rfl,rfl,rfl,by decide +kernel,rfl,by decide +kernel,by decide +kernel⟩
theorem Zef:FnScope ["many","lengths"] ["many","lengths"] (Zae Zc3):=⟨rfl,rfl,rfl,by decide +kernel,rfl,by decide +kernel,by decide +kernel⟩
theorem Zdn:FnScope ["self","many","arrows"] ["self","many","arrows"] (Zae Zcp):=⟨rfl,rfl,rfl,by decide +kernel,rfl,by decide +kernel,by decide +kernel⟩
theorem Zcw:FnScope ["self"] ["self"] (Zae Zb3):=⟨rfl,rfl,rfl,by decide +kernel,rfl,by decide +kernel,by decide +kernel⟩
theorem Zdf:FnScope ["self"] ["self"] (Zae Zce):=⟨rfl,rfl,rfl,by decide +kernel,rfl,by decide +kernel,by decide +kernel⟩
theorem Zho:FnScope ["drawing"] ["drawing"] (Zae Zgw):=⟨rfl,rfl,rfl,by decide +kernel,rfl,by decide +kernel,by decide +kernel⟩
theorem Zcv:FnScope ["one","other"] ["one","other"] (Zae Zb2):=⟨rfl,rfl,rfl,by decide +kernel,rfl,by decide +kernel,by decide +kernel⟩
theorem Zgp:FnScope ["number"] ["number"] (Zae Zfm):=⟨rfl,rfl,rfl,by decide +kernel,rfl,by decide +kernel,by decide +kernel⟩
theorem Zdk:FnScope ["thing"] ["thing"] (Zae Zcm):=⟨rfl,rfl,rfl,by decide +kernel,rfl,by decide +kernel,by decide +kernel⟩
theorem Zee:FnScope ["thing","top","bottom"] ["thing"] (Zae Zc2):=⟨rfl,rfl,rfl,by decide +kernel,rfl,by decide +kernel,by decide +kernel⟩
theorem Zeg:FnScope ["self","prime"] ["self","prime"] (Zae Zc4):=⟨rfl,rfl,rfl,by decide +kernel,rfl,by decide +kernel,by decide +kernel⟩
theorem Zcb:FnScope ["self","thing"] ["self","thing"] (Zae Zbr):=⟨rfl,rfl,rfl,by decide +kernel,rfl,by decide +kernel,by decide +kernel⟩
theorem Zi0:FnScope ["ground","wide","thing"] ["ground","wide","thing"] (Zae Zh4):=⟨rfl,rfl,rfl,by decide +kernel,rfl,by decide +kernel,by decide +kernel⟩
theorem Zgo:FnScope ["ground","thing","high","wide","rows"] ["ground","thing"] (Zae Zfl):=⟨rfl,rfl,rfl,by decide +kernel,rfl,by decide +kernel,by decide +kernel⟩
theorem Zhk:FnScope ["ground","high","wide"] ["ground","high","wide"] (Zae Zgs):=⟨rfl,rfl,rfl,by decide +kernel,rfl,by decide +kernel,by decide +kernel⟩
theorem Zf3:FnScope ["drawing","thing"] ["drawing","thing"] (Zae Zen):=⟨rfl,rfl,rfl,by decide +kernel,rfl,by decide +kernel,by decide +kernel⟩
theorem Zed:FnScope ["ground","high","wide","thing"] ["ground","high","wide","thing"] (Zae Zc1):=⟨rfl,rfl,rfl,by decide +kernel,rfl,by decide +kernel,by decide +kernel⟩
theorem Ze3:FnScope ["ground","drawing","sizes","thing"] ["ground","drawing","sizes","thing"] (Zae Zdu):=⟨rfl,rfl,rfl,by decide +kernel,rfl,by decide +kernel,by decide +kernel⟩
theorem Zde:FnScope ["self","ground","drawing","sizes","tables"] ["self","ground","drawing","sizes","tables"] (Zae Zcd):=⟨rfl,rfl,rfl,by decide +kernel,rfl,by decide +kernel,by decide +kernel⟩
theorem Zfz:FnScope ["standing","ground","drawing"] ["standing","ground","drawing"] (Zae Zej):=⟨rfl,rfl,rfl,by decide +kernel,rfl,by decide +kernel,by decide +kernel⟩
theorem Zgj:FnScope ["standing","order","found","here","point","turned","many"] ["standing"] (Zae Zfg):=⟨rfl,rfl,rfl,by decide +kernel,rfl,by decide +kernel,by decide +kernel⟩
theorem Zf0:FnScope ["standing","found","ahead","here","point","many","root","earlier"] ["standing"] (Zae Zek):=⟨rfl,rfl,rfl,by decide +kernel,rfl,by decide +kernel,by decide +kernel⟩
theorem Zi1:FnScope ["standing"] ["standing"] (Zae Zh5):=⟨rfl,rfl,rfl,by decide +kernel,rfl,by decide +kernel,by decide +kernel⟩
theorem Zdl:FnScope ["standing","ground","parts","changes","here","point","many","home"] ["standing"] (Zae Zcn):=⟨rfl,rfl,rfl,by decide +kernel,rfl,by decide +kernel,by decide +kernel⟩
theorem Zec:FnScope ["standing","parts","changes","found","order","sorted_changes","point","change","columns","sorted_parts"] ["standing"] (Zae Zc0):=⟨rfl,rfl,rfl,by decide +kernel,rfl,by decide +kernel,by decide +kernel⟩
theorem Ze2:FnScope ["one","other"] ["one","other"] (Zae Zdt):=⟨rfl,rfl,rfl,by decide +kernel,rfl,by decide +kernel,by decide +kernel⟩
theorem Zhl:FnScope ["one","other","parts","changes","other_parts","other_changes"] ["one","other"] (Zae Zgt):=⟨rfl,rfl,rfl,by decide +kernel,rfl,by decide +kernel,by decide +kernel⟩
theorem Zhj:FnScope ["one","other","root","part"] ["one","other"] (Zae Zgr):=⟨rfl,rfl,rfl,by decide +kernel,rfl,by decide +kernel,by decide +kernel⟩
theorem Zgn:FnScope ["_law_script","_law_k"] ["_law_script","_law_k"] (Zae Zfk):=⟨rfl,rfl,rfl,by decide +kernel,rfl,by decide +kernel,by decide +kernel⟩
theorem Zhm:FnScope ["_law_cell_here"] ["_law_cell_here"] (Zae Zgu):=⟨rfl,rfl,rfl,by decide +kernel,rfl,by decide +kernel,by decide +kernel⟩
theorem Zf2:FnScope ["_law_bag_here","_law_many","_law_found"] ["_law_bag_here","_law_many"] (Zae Zem):=⟨rfl,rfl,rfl,by decide +kernel,rfl,by decide +kernel,by decide +kernel⟩
theorem Zez:FnScope ["_law_top","_law_bottom","_law_one","_law_other","_law_rest"] ["_law_top","_law_bottom"] (Zae Zdq):=⟨rfl,rfl,rfl,by decide +kernel,rfl,by decide +kernel,by decide +kernel⟩
theorem Zey:FnScope ["_law_bag_here","_law_many","_law_left","_law_found","_law_k"] ["_law_bag_here","_law_many"] (Zae Zdp):=⟨rfl,rfl,rfl,by decide +kernel,rfl,by decide +kernel,by decide +kernel⟩
theorem Zgl:FnScope ["_law_bag_here","_law_p","_law_number"] ["_law_bag_here","_law_p"] (Zae Zfi):=⟨rfl,rfl,rfl,by decide +kernel,rfl,by decide +kernel,by decide +kernel⟩
theorem Zf1:FnScope ["_law_bag_here","_law_p","_law_high","_law_wide","_law_rows","_law_k"] ["_law_bag_here","_law_p","_law_high","_law_wide"] (Zae Zel):=⟨rfl,rfl,rfl,by decide +kernel,rfl,by decide +kernel,by decide +kernel⟩
theorem Ze0:FnScope ["_law_bag_here"] ["_law_bag_here"] (Zae Zdr):=⟨rfl,rfl,rfl,by decide +kernel,rfl,by decide +kernel,by decide +kernel⟩
theorem Zdm:FnScope ["_law_bag_here","_law_p","_law_many","_law_arrows","_law_most","_law_sizes","_law_k","_law_tables","_law_tail","_law_head"] ["_law_bag_here","_law_p","_law_many","_law_arrows","_law_most"] (Zae Zco):=⟨rfl,rfl,rfl,by decide +kernel,rfl,by decide +kernel,by decide +kernel⟩
theorem Zgk:FnScope ["_law_e","_law_word_here"] ["_law_e"] (Zae Zfh):=⟨rfl,rfl,rfl,by decide +kernel,rfl,by decide +kernel,by decide +kernel⟩
theorem Zex:FnScope ["_law_bag_here","_law_way","_law_names","_law_pairs","_law_arrows","_law_one","_law_other","_law_pair"] ["_law_bag_here"] (Zae Zdo):=⟨rfl,rfl,rfl,by decide +kernel,rfl,by decide +kernel,by decide +kernel⟩
theorem Ze1:FnScope ["_law_way","_law_one","_law_other","_law_e"] ["_law_way","_law_one","_law_other"] (Zae Zds):=⟨rfl,rfl,rfl,by decide +kernel,rfl,by decide +kernel,by decide +kernel⟩
theorem Zgm:FnScope ["_law_bag_here","_law_p","_law_many","_law_arrows","_law_sizes","_law_tables"] ["_law_bag_here","_law_p","_law_many","_law_arrows"] (Zae Zfj):=⟨rfl,rfl,rfl,by decide +kernel,rfl,by decide +kernel,by decide +kernel⟩
theorem Zrh:FnScope ["_law_script","_law_bag_here","_law_p","_law_many","_law_arrows","_law_one","_law_other","_law_way","_law_others","_law_far"] ["_law_script"] (Zae Zh3):=⟨rfl,rfl,rfl,by decide +kernel,rfl,by decide +kernel,by decide +kernel⟩
structure Txt (K:PySem.W.Frag) (mg:Str->Option Value) (C G S:Addr):Prop where
 cl_Drawing:Cls K C
 nM:NoAttr K C "many"
 nA:NoAttr K C "arrows"
 cl_Ground:Cls K G
 nP:NoAttr K G "prime"
 cl_Standing:Cls K S
 nSg:NoAttr K S "ground"
 nSd:NoAttr K S "drawing"
 nSs:NoAttr K S "sizes"
 nSt:NoAttr K S "tables"
 n_len:mg "len" = none
 n_range:mg "range" = none
 n_list:mg "list" = none
 n_min:mg "min" = none
 n_int:mg "int" = none
 n_bool:mg "bool" = none
 n_tuple:mg "tuple" = none
 n_all:mg "all" = none
 n_isinstance:mg "isinstance" = none
 n_abs:mg "abs" = none
 n_zip:mg "zip" = none
 n_sorted:mg "sorted" = none
 n_ValueError:mg "ValueError" = none
 g_MOST_POINTS:∃ t,mg "MOST_POINTS" = some (.int 8 t)
 g_MOST_ARROWS:∃ t,mg "MOST_ARROWS" = some (.int 9 t)
 g_LARGEST_PRIME:∃ t,mg "LARGEST_PRIME" = some (.int 97 t)
 g_LONG:∃ t,mg "LONG" = some (.int 4000 t)
def Zpc (a b:Int):HO:=.lst [.int a,.int b]
def Bag (H:Hp) (l:Addr):Prop:=∃ a b:Int,H l = some (Zpc a b)/\0<=b/\b < 2147483647
def Zm5 (K:PySem.W.Frag):Sp:=λvs H Q _=>∃ (a:Addr) (ns:List Int) (k:Int),vs = [.ref a,.int k]/\SqL K H a (ns.map V.int)/\ns.length<=63/\0<=k/\∀ c,Q (.int c) H
def spBag:Sp:=λvs H Q _=>∃ c:Int,vs = [.int c]/\∀ (l:Addr) (a b:Int),H l = none->0<=b->b < 2147483647->Q (.ref l) (upd H l (Zpc a b))
def Zfy:Sp:=λvs H Q _=>∃ (l:Addr) (a b n:Int),vs = [.ref l,.int n]/\H l = some (Zpc a b)/\0<=b/\b < 2147483647/\0 < n/\n < 1000000000 /\
 ∀ (r a' b':Int),0<=r->r < n->0<=b'->b' < 2147483647->Q (.int r) (upd H l (Zpc a' b'))
section
variable {P:Program} {w:World} {K:PySem.W.Frag} {mg:Str->Option Value} {base:Heap} {C G S:Addr}
theorem ok_cell {f:Addr} {fd:FuncData} (F:Fun K "_law_cell" "_law_cell" Zfk f fd) (T:Txt K mg C G S):FnOk P w K mg base CX0 1 f fd ["_law_script","_law_k"] (Zm5 K):=by
 have nd:=Zgn.nd;refine F.ok Zgn (λvs H Q E h=>?_) (λcdv A outer s H vs Q E hr h=>?_)
 .refine Zd6 h λa ns k e91 _=>?_;clear h;obtain rfl:=e91;rfl
 .refine Zb1 h λa ns k e92 hS hl e93=>?_;clear h;obtain rfl:=e92;obtain ⟨h0,q⟩:=e93;refine ⟨_,((@Za1 _ _ _ _ _ _ _ _ (Zai Zlt (pv 1) (Za0 Zaq rfl T.n_len Jbl ((pv 0)<&>Zaa)) (Zan _)) (~~~(Za3<|>(pv 0)<||>(pv 1))) Zam)<*>(~~~Zac)),?_⟩;walk_at "wp";refine ⟨_,.inl hS,Zcx (λhc=>?_) (λ_=>q 0)⟩;have hc:=Jas hc;rw [Jab] at hc;refine ⟨_,hS,V.int (ns[k.toNat]'(by omega)),Zhe h0 ?_,q _⟩;rw [Jbc,Jaa (by omega)];rfl
theorem cpow (k:Int) (h0:0<=k) (h1:k<=1000):CPow 10 k:=⟨h0,by omega,by decide⟩
theorem Zk5 (c n:Int) (h:0 < n):0<=c % n:=Jdu _ (by omega)
theorem Zk6 (c n:Int) (h:0 < n):c % n < n:=Jc9 _ h
end
end Pf
namespace Pf
open PySem L2 PyProof.Rows
section
variable {P:Program} {w:World} {K:PySem.W.Frag} {mg:Str->Option Value} {base:Heap} {C G S:Addr}
theorem Bag.ne {H:Hp} {l p:Addr} (h:Bag H l) (hp:H p = none):p ≠ l:=by
 refine Zbo h λa b e _=>?_;clear h;exact (Zag e hp).symm
theorem Bag.new {H:Hp} {l p:Addr} {o:HO} (h:Bag H l) (hp:p ≠ l):Bag (upd H p o) l:=by
 refine Zca h λa b e h1 h2=>?_;clear h;exact Zaz a b ⟨by rw [Zaf hp.symm]; exact e,h1,h2⟩
theorem Bag.set {H:Hp} {l:Addr} {a b:Int} (h1:0<=b) (h2:b < 2147483647):Bag (upd H l (Zpc a b)) l:=⟨a,b,Zab,h1,h2⟩
def Edge (H:Hp) (m:Int) (x:V):Prop:=∃ (t:Addr) (i j:Int),x = .ref t/\H t = some (.tup [.int i,.int j])/\0<=i/\i < m/\0<=j/\j < m
def Edges (H:Hp) (m:Int) (xs:List V):Prop:=∀ x ∈ xs,Edge H m x
theorem Edge.same {H H':Hp} {m:Int} {x:V} (e:Edge H m x) (s:Same H H'):Edge H' m x:=by
 refine Zir e λt i j h1 h2 h3=>?_;clear e;exact Zbg t i j ⟨h1,s _ _ h2,h3⟩
theorem Edges.same {H H':Hp} {m:Int} {xs:List V} (e:Edges H m xs) (s:Same H H'):Edges H' m xs:=λx hx=>(e x hx).same s
structure Out (l:Addr) (H:Hp) (p e:Addr) (m:Int) (xs:List V) (H':Hp):Prop where
 ext:Ext l H H'
 bag:Bag H' l
 tup:H' p = some (.tup [.int m,.ref e])
 lst:H' e = some (.lst xs)
 new:H e = none
 lo:1<=m
 hi:m<=8
 len:xs.length<=9
 ed:Edges H' m xs
theorem Bag.draw {H:Hp} {l:Addr} {n:Int} {Q:VK} {E:XK} (b:Bag H l) (h0:0 < n) (h1:n < 1000000000) (q:∀ (r:Int) (H':Hp),0<=r->r < n->Ext l H H'->Bag H' l->Q (.int r) H'):Zfy [.ref l,.int n] H Q E:=by
 refine Zca b λx y e y0 y1=>?_;clear b;exact Ziq l x y n ⟨rfl,e,y0,y1,h0,h1,λr a' b' r0 r1 c0 c1=>q r _ r0 r1 Ext.set (Bag.set c0 c1)⟩
theorem Bag.lst {H:Hp} {l:Addr} (b:Bag H l):∃ ys,H l = some (.lst ys):=by
 refine Zbo b λx y e _=>?_;clear b;exact ⟨_,e⟩
theorem Bag.same {H H':Hp} {l:Addr} (b:Bag H l) (s:Same H H'):Bag H' l:=by
 refine Zca b λx y e h1 h2=>?_;clear b;exact Zaz x y ⟨s _ _ e,h1,h2⟩
end
end Pf
set_option maxHeartbeats 1000000
namespace Pf
open PySem L2 PyProof.Rows
section
variable {P:Program} {w:World} {K:PySem.W.Frag} {mg:Str->Option Value} {base:Heap} {C G S:Addr}
theorem Zpe {c A B:Prop} [Decidable c] (hc:c) (h:A):if c then A else B:=by rw [if_pos hc]; exact h
theorem Zkb {c A B:Prop} [Decidable c] (hc:¬ c) (h:B):if c then A else B:=by rw [if_neg hc]; exact h
theorem Zfa {a D:Addr} {xs:List V} {fr:List (Str × Nat)} {σ:L2.St} {te:TE} {H1:Hp} {Q:VK} (fb:Nat->Bool) (ha:H1 a = some (.lst xs)) (hD:H1 D = none) (hn:xs.length<=1000)
  (h:∀ (i:Nat) x H (Q:VK),xs[i]? = some x->Same H1 H->(∀ H',Same H H'->Q (.bl (fb i)) H')->te (some x :: Zcr fr σ) H Q)
  (hQ:∀ H',Same H1 H'->H' D = some (.lst (((List.range xs.length).map fb).map V.bl))->Q (.ref D) H'):Zb6 (Zba 0) Zgf te (Itl K a) D (Zfv 1 fr σ) H1 Q:=by
 refine Zb0 (xs:=xs) (λi vs H=>Same H1 H/\H D = some (.lst vs)/\vs = ((List.range i).map fb).map V.bl) ⟨Same.new hD,Zab,rfl⟩ (λi vs H _ p=>SqL.of (p.1 _ _ ha)) ?_ (λvs H ⟨s,e,hv⟩=>hQ H s (by rw [e,hv]));intro i x vs σ' H hi hx sh e91;refine Zav e91 λs e e93=>?_;clear e91;obtain rfl:=e93;obtain ⟨z,rfl⟩:=sh.one;simp only [Zdi,Zba,Zgf,List.set_cons_zero,Jcl];refine h i x H _ hx s λH' s'=>?_;exact leaf (ws:=((List.range (i + 1)).map fb).map V.bl) hi Sh.mk1 (s' _ _ e) (Zal (by rw [Jab,Jab,Jcw]; omega)) ⟨(s.trans s').upd hD,by rw [Zab,Jdv,Ja5,Ja5]; rfl,rfl⟩
theorem Zo4 {a D:Addr} {xs:List V} {fr:List (Str × Nat)} {σ:L2.St} {te:TE} {H1:Hp} {Q:VK} (fb:Nat->Bool) (ha:H1 a = some (.tup xs)) (hD:H1 D = none) (hn:xs.length<=1000)
  (h:∀ (i:Nat) x H (Q:VK),xs[i]? = some x->Same H1 H->(∀ H',Same H H'->Q (.bl (fb i)) H')->te (some x :: Zcr fr σ) H Q)
  (hQ:∀ H',Same H1 H'->H' D = some (.lst (((List.range xs.length).map fb).map V.bl))->Q (.ref D) H'):Zb6 (Zba 0) Zgf te (Itt K a) D (Zfv 1 fr σ) H1 Q:=by
 refine Zq7 (xs:=xs) (λi vs H=>Same H1 H/\H D = some (.lst vs)/\vs = ((List.range i).map fb).map V.bl) ⟨Same.new hD,Zab,rfl⟩ (λi vs H _ p=>SqT.of (p.1 _ _ ha)) ?_ (λvs H ⟨s,e,hv⟩=>hQ H s (by rw [e,hv]));intro i x vs σ' H hi hx sh e92;refine Zav e92 λs e e94=>?_;clear e92;obtain rfl:=e94;obtain ⟨z,rfl⟩:=sh.one;simp only [Zdi,Zba,Zgf,List.set_cons_zero,Jcl];refine h i x H _ hx s λH' s'=>?_;exact leaf (ws:=((List.range (i + 1)).map fb).map V.bl) hi Sh.mk1 (s' _ _ e) (Zal (by rw [Jab,Jab,Jcw]; omega)) ⟨(s.trans s').upd hD,by rw [Zab,Jdv,Ja5,Ja5]; rfl,rfl⟩
theorem Zfc (n:Nat):((List.range n).map λ_=>true).all id = true:=by
 rw [Jbu];intro b hb;refine Zad (Jan.mp hb) λ_ _ e95=>?_;obtain rfl:=e95;rfl
def Zff:Sp:=λvs H Q _=>∃ i:Int,vs = [.int i]/\Q (.bl true) H
theorem Zp9 {f:Addr} {fd:FuncData} (F:Fun K "is_whole" "is_whole" Zd2 f fd) (T:Txt K mg C G S):FnOk P w K mg base CX0 1 f fd ["thing"] Zff:=by
 have nd:=Zcz.nd;refine F.ok Zcz (λvs H Q E h=>?_) (λcdv A outer s H vs Q E hr h=>?_)
 .refine Zad h λi e96 _=>?_;clear h;obtain rfl:=e96;rfl
 .refine Zad h λi e97 q=>?_;clear h;obtain rfl:=e97;refine ⟨_,(~~~(Zf7 (Za0 Zau rfl T.n_isinstance Jbf ((pv 0)<&>((Zfo rfl T.n_int boot_int)<&>Zaa))) (Zf6 (Zro (Za0 Zau rfl T.n_isinstance Jbf ((pv 0)<&>((Zfo rfl T.n_bool boot_bool)<&>Zaa))))))),?_⟩;walk_at "wp";exact Zaz _ _ ⟨⟨rfl,rfl⟩,_,rfl,_,.int i,_,Zjb K,iteT ⟨_,_,⟨rfl,rfl⟩,_,rfl,_,.int i,_,Zhs K,q⟩⟩
def Zj0:Sp:=λvs H Q _=>∃ (m:Int) (x:V),vs = [.int m,x]/\Edge H m x/\∀ H',Same H H'->Q (.bl true) H'
theorem Zqm {f:Addr} {fd:FuncData} (F:Fun K "is_arrow" "is_arrow" Zfn f fd) (T:Txt K mg C G S) (C_is_whole:Cal P w K mg base "is_whole" 1 Zff):FnOk P w K mg base CX0 2 f fd ["many","thing"] Zj0:=by
 have nd:=Zgq.nd;refine F.ok Zgq (λvs H Q E h=>?_) (λcdv A outer s H vs Q E hr h=>?_)
 .refine Zbo h λm x e98 _=>?_;clear h;obtain rfl:=e98;rfl
 .refine Zca h λm x e99 e910 q=>?_;clear h;obtain rfl:=e99;obtain ⟨t,i,j,rfl,ht,i0,i1,j0,j1⟩:=e910;refine ⟨_,((@Za1 _ _ _ _ _ _ _ _ (PW.pt (Zc7 (Za6 (Za5 (Za0 Zau rfl T.n_isinstance Jbf ((pv 1)<&>((Zfo rfl T.n_tuple boot_tuple)<&>Zaa))))) (Zb8 (Zai Zd9 (Za0 Zaq rfl T.n_len Jbl ((pv 1)<&>Zaa)) Zac (Zan _))))) (~~~Zd8) Zam)<*>(~~~(Za0 (Zcl rfl) rfl T.n_all Jd7 ((Za2 (own:=["end"]) (fr:=[("many",0)]) rfl (Zb5 (by kernel_rfl)) (Zrm (pv 1)) (λ_ _ _ _=>⟨(@Zah _ _ 0 _ (show (["end","many"]:List Str).Nodup by decide +kernel) rfl (Or.inl rfl) (Or.inr rfl)),Zbc,(Zf7 (Zby C_is_whole hr.m rfl ((pv 0)<&>Zaa)) (Zf6 (Zkz Zlu Zlt Zac (pv 0) (pv 1))))⟩))<&>Zaa)))),?_⟩;walk_at "wp";refine Zaz _ _ ⟨⟨rfl,rfl⟩,_,rfl,_,.tup ht,_,Zja K,Zl2 ⟨_,.inr (SqT.of ht),Zl2 ?_⟩⟩;refine ⟨_,rfl,t,rfl,⟨_,SqT.of ht⟩,λD hD=>Zo4 (λ_=>true) ht hD (by show 2<=1000; decide) (λk x H' Q' hx s' q'=>?_) λH' s' e'=>⟨D,rfl,_,SqL.of e',?_⟩⟩
  .have hx':∃ z:Int,x = .int z/\0<=z/\z < m:=by
    match k,hx with
    | 0,hx=>exact ⟨i,(Jbi hx).symm,i0,i1⟩
    | 1,hx=>exact ⟨j,(Jbi hx).symm,j0,j1⟩
    | k + 2,hx=>cases hx
   refine Zao hx' λz e911 z0 z1=>?_;clear hx';obtain rfl:=e911;refine ⟨_,rfl,⟨z,rfl,true,rfl,iteT ⟨_,rfl,_,_,rfl,rfl,_,rfl,?_⟩⟩⟩;refine Zpe (Jad z0) ⟨_,rfl,_,_,rfl,rfl,?_⟩;show Q' (V.bl (decide (z < m))) H';rw [Jad z1];exact q' H' (Same.refl _)
  .rw [Zfc];exact q H' s'
def Zjw:Sp:=λvs H Q _=>∃ (m:Int) (a:Addr) (xs:List V),vs = [.int m,.ref a]/\1<=m/\m<=8/\H a = some (.lst xs)/\xs.length<=9/\Edges H m xs/\∀ H',Same H H'->Q (.bl true) H'
theorem Zqe {f:Addr} {fd:FuncData} (F:Fun K "makes_drawing" "makes_drawing" Zcc f fd) (T:Txt K mg C G S) (C_is_whole:Cal P w K mg base "is_whole" 1 Zff) (C_is_arrow:Cal P w K mg base "is_arrow" 2 Zj0):FnOk P w K mg base CX0 3 f fd ["many","arrows"] Zjw:=by
 have nd:=Zdd.nd;refine F.ok Zdd (λvs H Q E h=>?_) (λcdv A outer s H vs Q E hr h=>?_)
 .refine Zd6 h λm a xs e912 _=>?_;clear h;obtain rfl:=e912;rfl
 .refine Zb1 h λm a xs e913 m0 m8 e914=>?_;clear h;obtain rfl:=e913;refine Zbh e914 λha hl d q=>?_;clear e914;refine ⟨_,((@Za1 _ _ _ _ _ _ _ _ (PW.pt (Zc7 (Za6 (Za5 (Zby C_is_whole hr.m rfl ((pv 0)<&>Zaa)))) (Zb8 (Za6 (Zkw Zlu Zlu Zac (pv 0) (Zgc rfl T.g_MOST_POINTS)))))) (~~~Zd8) Zam)<*>((@Za1 _ _ _ _ _ _ _ _ (PW.pt (Zc7 (Za6 (Za5 (Za0 Zau rfl T.n_isinstance Jbf ((pv 1)<&>((Zfo rfl T.n_list Jc0)<&>Zaa))))) (Zb8 (Zai Zg5 (Za0 Zaq rfl T.n_len Jbl ((pv 1)<&>Zaa)) (Zgc rfl T.g_MOST_ARROWS) (Zan _))))) (~~~Zd8) Zam)<*>(~~~(Za0 (Zcl rfl) rfl T.n_all Jd7 ((Za2 (own:=["arrow"]) (fr:=[("many",0)]) rfl (Zb5 (by kernel_rfl)) (Zat (pv 1)) (λ_ _ _ _=>⟨(@Zah _ _ 0 _ (show (["arrow","many"]:List Str).Nodup by decide +kernel) rfl (Or.inl rfl) (Or.inr rfl)),Zbc,(Zby C_is_arrow hr.m rfl ((pv 1)<&>((pv 0)<&>Zaa)))⟩))<&>Zaa))))),?_⟩;walk_at "wp";refine ⟨m,rfl,true,rfl,Zl2 (Zpe (Jad m0) (Zkb (by rw [Jad m8]; decide) ⟨_,_,⟨rfl,rfl⟩,_,rfl,_,.lst ha,_,Zdb K,Zl2 ⟨_,.inl (SqL.of ha),Zkb (by rw [Ja4 (by omega)]; decide) ?_⟩⟩))⟩;refine ⟨_,rfl,a,rfl,⟨_,SqL.of ha⟩,λD hD=>Zfa (λ_=>true) ha hD (by omega) (λk x H' Q' hx s' q'=>?_) λH' s' e'=>⟨D,rfl,_,SqL.of e',?_⟩⟩
  .exact ⟨_,rfl,_,rfl,m,x,rfl,(d x (Jag hx)).same s',q'⟩
  .rw [Zfc];exact q H' s'
def Zrt (m:Int) (lp:Addr):List (Str × V):=Zbz "arrows" (.ref lp) (Zbz "many" (.int m) [])
theorem Zch (m:Int) (lp:Addr):(Zrt m lp).lookup ("arrows" : Str) = some (.ref lp):=by
 unfold Zrt;rw [Zar,if_pos rfl]
theorem Ze9 (m:Int) (lp:Addr):(Zrt m lp).lookup ("many" : Str) = some (.int m):=by
 unfold Zrt;rw [Zar,if_neg (by decide +kernel),Zar,if_pos rfl]
theorem Zoo (m:Int) (lp:Addr) {x:Str} (h1:¬ x = "arrows") (h2:¬ x = "many"):(Zrt m lp).lookup x = none:=by
 unfold Zrt;rw [Zar,if_neg h1,Zar,if_neg h2];rfl
theorem Zq2 (m:Int):(Zbz "many" (.int m) ([]:List (Str × V))).length < 1000:=by
 have:=Zbk "many" (.int m) [];simp at this;omega
def Zm4 (C:Addr):Sp:=λvs H Q _=>∃ (p dx:Addr) (m:Int) (a:Addr) (xs:List V),vs = [.ref p,.int m,.ref a]/\H p = some (.ins C dx [])/\1<=m/\m<=8/\H a = some (.lst xs)/\xs.length<=9/\Edges H m xs /\
 ∀ (lp:Addr) (H':Hp),Ext p H H'->H' p = some (.ins C dx (Zrt m lp))->H lp = none->H' lp = some (.lst xs)->Q .non H'
theorem ok_init {f:Addr} {fd:FuncData} (F:Fun K "__init__" "Drawing.__init__" Zcp f fd) (T:Txt K mg C G S) (C_makes_drawing:Cal P w K mg base "makes_drawing" 3 Zjw):FnOk P w K mg base CX0 4 f fd ["self","many","arrows"] (Zm4 C):=by
 have nd:=Zdn.nd;refine F.ok Zdn (λvs H Q E h=>?_) (λcdv A outer s H vs Q E hr h=>?_)
 .refine xE5_2 h λp dx m a xs e92 _=>?_;clear h;obtain rfl:=e92;rfl
 .refine Zct h λp dx m a xs e93 hp m0 e94=>?_;clear h;obtain rfl:=e93;refine Zd7 e94 λm8 ha hl d q=>?_;clear e94;refine ⟨_,((@Za1 _ _ _ _ _ _ _ _ (Za6 (Za5 (Zby C_makes_drawing hr.m rfl ((pv 1)<&>((pv 2)<&>Zaa))))) (@Zaj _ _ _ Zap) Zam)<*>((Zgz (pv 0) (pv 1) rfl)<*>(@Zaj _ _ _ (Zgz (pv 0) (Zg3 Zck rfl T.n_list Jc0 ((pv 2)<&>Zaa)) rfl)))),?_⟩;walk_at "wp";refine Zbg m a xs ⟨rfl,m0,m8,ha,hl,d,λH1 s1=>⟨true,rfl,Zl2 ?_⟩⟩;have nap:a ≠ p:=Zea ha hp (by intro z; cases z);refine Zbg C dx [] ⟨s1 _ _ hp,T.cl_Drawing,T.nM,by show 0 < 1000; decide,xs,.inl (SqL.of (by rw [Zaf nap]; exact s1 _ _ ha)),λl hl0=>?_⟩;have npl:p ≠ l:=Zag Zab hl0;refine Zbg C dx _ ⟨by rw [Zaf npl]; exact Zab,T.cl_Drawing,T.nA,Zq2 m,?_⟩;have fl:H l = none:=by
   rw [Zaf npl.symm] at hl0;exact s1.free hl0
  refine q l _ (λb o nb e=>?_) Zab fl (by rw [Zaf npl.symm]; exact Zab);rw [Zaf nb,Zaf (Zag e fl),Zaf nb];exact s1 _ _ e
def Prs (H:Hp) (xs:List V) (ps:List (Int × Int)):Prop:=xs.length = ps.length/\∀ (i:Nat) (x:V) (q:Int × Int),xs[i]? = some x->ps[i]? = some q->∃ t,x = .ref t/\H t = some (.tup [.int q.1,.int q.2])
theorem Prs.same {H H':Hp} {xs:List V} {ps:List (Int × Int)} (h:Prs H xs ps) (s:Same H H'):Prs H' xs ps:=⟨h.1,λi x q h1 h2=>let ⟨t,e1,e2⟩:=h.2 i x q h1 h2; ⟨t,e1,s _ _ e2⟩⟩
def Zd0 (C:Addr) (H:Hp) (p:Addr) (m:Int) (lp:Addr) (xs:List V):Prop:=∃ dx,H p = some (.ins C dx (Zrt m lp))/\H lp = some (.lst xs)
def InP (m:Int) (ps:List (Int × Int)):Prop:=∀ q ∈ ps,0<=q.1/\q.1 < m/\0<=q.2/\q.2 < m
theorem Prs.nil {H:Hp}:Prs H [] []:=⟨rfl,λi x q h=>by simp at h⟩
theorem Prs.put {H:Hp} {D:Addr} {l:List V} {o:HO} {xs:List V} {ps:List (Int × Int)} (h:Prs H xs ps) (hD:H D = some (.lst l)):Prs (upd H D o) xs ps:=
 ⟨h.1,λi x q h1 h2=>let ⟨t,e1,e2⟩:=h.2 i x q h1 h2; ⟨t,e1,by rw [Zaf (Zea e2 hD (by intro z; cases z))]; exact e2⟩⟩
theorem Prs.add {H:Hp} {xs:List V} {ps:List (Int × Int)} {t:Addr} {q:Int × Int} (h:Prs H xs ps) (ht:H t = some (.tup [.int q.1,.int q.2])):Prs H (xs ++ [.ref t]) (ps ++ [q]):=by
 refine ⟨by simp [h.1],λi x r h1 h2=>?_⟩;by_cases hi:i < xs.length
 .rw [Jai hi] at h1;rw [Jai (by rw [<- h.1]; exact hi)] at h2;exact h.2 i x r h1 h2
 .rw [Jal (by omega)] at h1;rw [Jal (by rw [<- h.1]; omega)] at h2;have hl:=h.1;by_cases h0:i - xs.length = 0
  .rw [h0] at h1;rw [<- hl,h0] at h2;simp at h1 h2;exact ⟨t,h1.symm,by rw [<- h2]; exact ht⟩
  .rw [Jb5 (by simp; omega)] at h1;cases h1
theorem Zq3 {H:Hp} {m:Int} {xs:List V} {ps:List (Int × Int)} (h:Prs H xs ps) (r:InP m ps):Edges H m xs:=by
 intro x hx;obtain ⟨i,hi,rfl⟩:=Jbb.mp hx;have hl:=h.1;have hq:ps[i]? = some (ps[i]'(by omega)):=Jaa _;refine Zad (h.2 i _ _ (Jaa hi) hq) λt e1 e2=>?_;exact Zbg t _ _ ⟨e1,e2,r _ (Jag hq)⟩
def Drw (C:Addr) (H:Hp) (p:Addr) (m:Int) (ps:List (Int × Int)):Prop:=∃ lp xs,Zd0 C H p m lp xs/\xs.length<=9/\Prs H xs ps
theorem comp_tp {a D:Addr} {xs:List V} {ps:List (Int × Int)} {fr:List (Str × Nat)} {σ:L2.St} {te:TE} {H1:Hp} {Q:VK} (g:Int × Int->Int × Int) (ha:H1 a = some (.lst xs)) (hps:Prs H1 xs ps) (hD:H1 D = none) (hn:xs.length<=1000)
  (h:∀ (i:Nat) x q H (Q:VK),xs[i]? = some x->ps[i]? = some q->Same H1 H->(∀ t H',Same H H'->H' t = some (.tup [.int (g q).1,.int (g q).2])->Q (.ref t) H')->te (some x :: Zcr fr σ) H Q)
  (hQ:∀ ys H',Same H1 H'->H' D = some (.lst ys)->Prs H' ys (ps.map g)->Q (.ref D) H'):Zb6 (Zba 0) Zgf te (Itl K a) D (Zfv 1 fr σ) H1 Q:=by
 have hlen:=hps.1;refine Zb0 (xs:=xs) (λi vs H=>Same H1 H/\H D = some (.lst vs)/\Prs H vs ((ps.take i).map g)) ⟨Same.new hD,Zab,Prs.nil⟩ (λi vs H _ p=>SqL.of (p.1 _ _ ha)) ?_ (λvs H ⟨s,e,hv⟩=>hQ vs H s e (by rw [hlen,Jbv] at hv; exact hv));intro i x vs σ' H hi hx sh e91;refine Zav e91 λs e hv=>?_;clear e91;obtain ⟨z,rfl⟩:=sh.one;have hi':i < ps.length:=by omega
 have hq:ps[i]? = some ps[i]:=Jaa hi';simp only [Zdi,Zba,Zgf,List.set_cons_zero,Jcl];refine h i x _ H _ hx hq s λt H' s' ht=>?_;have hv':=(hv.same s').add ht;have hl:=hv'.1;refine leaf (ws:=vs ++ [.ref t]) hi Sh.mk1 (s' _ _ e) (Zal (by have:=hv.1; rw [Jab,Jbd] at this; omega)) ⟨(s.trans s').upd hD,Zab,?_⟩;have:=hv'.put (o:=.lst (vs ++ [.ref t])) (s' _ _ e);rw [Jbo,hq,Ja5];exact this
theorem Zpv {k:Nat} {A:Around} (hr:Room k A):A.units + 8 < cLine:=by have:=hr.units; omega
theorem Same.thru {l:Addr} {H H1 H2:Hp} (s:Same H H1) (h:H l = none) (e:Ext l H1 H2):Same H H2:=λb o eb=>e b o (Zag eb h) (s b o eb)
end
end Pf
namespace Pf
open PySem L2 PyProof.Rows
def stepL (f:Int->Int) (q:Int × Int):Int->Int:=λx=>if f x = max (f q.1) (f q.2) then min (f q.1) (f q.2) else f x
def Zbn (ps:List (Int × Int)):Int->Int:=ps.foldl stepL id
def Zrc (h:Int->Int) (ps:List (Int × Int)):Prop:=∀ q ∈ ps,h q.1 = h q.2
structure Lab (m:Int) (ps:List (Int × Int)) (f:Int->Int):Prop where
 le:∀ x,0<=x->x < m->f x<=x
 lo:∀ x,0<=x->x < m->0<=f x
 co:∀ h,Zrc h ps->∀ x,0<=x->x < m->h (f x) = h x
theorem Lab.lt {m:Int} {ps:List (Int × Int)} {f:Int->Int} (L:Lab m ps f) {x:Int} (h0:0<=x) (h1:x < m):f x < m:=Int.lt_of_le_of_lt (L.le x h0 h1) h1
theorem Lab.id (m:Int) (ps:List (Int × Int)):Lab m ps id:=⟨λx _ _=>Int.le_refl x,λx h _=>h,λ_ _ _ _ _=>rfl⟩
theorem Lab.stepL {m:Int} {ps:List (Int × Int)} {f:Int->Int} {q:Int × Int} (L:Lab m ps f) (hp:InP m ps) (hq:q ∈ ps):Lab m ps (stepL f q):=by
 refine Zbh (hp q hq) λa0 a1 b0 b1=>?_;have fa:=L.lo _ a0 a1;have fb:=L.lo _ b0 b1;refine ⟨λx h0 h1=>?_,λx h0 h1=>?_,λh c x h0 h1=>?_⟩
 .have:=L.le x h0 h1;unfold Pf.stepL;split <;> omega
 .have:=L.lo x h0 h1;unfold Pf.stepL;split <;> omega
 .have e:=L.co h c x h0 h1;have ea:=L.co h c _ a0 a1;have eb:=L.co h c _ b0 b1;have eq:=c q hq;unfold Pf.stepL;split
  .rename_i hx
   rw [<- e,hx];rcases Int.le_total (f q.1) (f q.2) with z | z
   .rw [Int.min_eq_left z,Int.max_eq_right z]; omega
   .rw [Int.min_eq_right z,Int.max_eq_left z]; omega
  .exact e
theorem Zlq {f:Int->Int} {q:Int × Int} {x y:Int} (h:f x = f y):stepL f q x = stepL f q y:=by unfold stepL; rw [h]
theorem Zlr {f:Int->Int} {q:Int × Int}:stepL f q q.1 = stepL f q q.2:=by
 unfold stepL;split <;> split <;> omega
theorem Zn8 {m:Int} {ps:List (Int × Int)} (hp:InP m ps):∀ (r:List (Int × Int)) (d:List (Int × Int)) (f:Int->Int),(∀ q ∈ r,q ∈ ps)->Lab m ps f->Zrc f d->Lab m ps (r.foldl stepL f)/\Zrc (r.foldl stepL f) (d ++ r)
 | [],d,f,_,L,c=>⟨L,by simpa using c⟩
 | q :: r,d,f,hr,L,c=>by
  have L':=L.stepL hp (hr q Jb0);have:=Zn8 hp r (d ++ [q]) (stepL f q) (λz hz=>hr z (Ja2 _ hz)) L' (λz hz=>by
   rcases Jbe.mp hz with hz | hz
   .exact Zlq (c z hz)
   .rw [Jar.mp hz]; exact Zlr)
  simpa using this
theorem Zid {m:Int} {ps:List (Int × Int)} (hp:InP m ps):Lab m ps (Zbn ps)/\Zrc (Zbn ps) ps:=by
 have:=Zn8 hp ps [] id (λ_ h=>h) (Lab.id m ps) (λq h=>by simp at h);simpa [Zbn] using this
def Zhq (n:Nat) (f:Int->Int) (k:Int):List Int:=((List.range n).filter λj=>decide (f (j:Nat) = k)).map λj=>((j:Nat):Int)
def Zc6 (n:Nat) (f:Int->Int):List (List Int):=((List.range n).filter λi=>decide (f (i:Nat) = (i:Nat))).map λi=>Zhq n f (i:Nat)
end Pf
namespace Pf
open PySem L2 PyProof.Rows
section
variable {P:Program} {w:World} {K:PySem.W.Frag} {mg:Str->Option Value} {base:Heap} {C G S:Addr}
theorem room1 {k:Nat} {A:Around} (hr:Room k A):A.units + 1 < cLine:=by have:=hr.units; omega
def ptsV (n:Nat):List V:=(List.range n).map λj=>V.int ((j:Nat):Int)
theorem Zkv {m:Int}:Znk 0 m = ptsV m.toNat:=by unfold Znk ptsV; simp
structure Pts (J:It) (H1:Hp) (n:Nat):Prop where
 go:∀ i H,i < n->Same H1 H->J.go i H/\∀ x H',J.yld i H x H'->H' = H/\x = V.int (i:Nat)
 stop:∀ H,Same H1 H->J.stop n H
def RowsF (D:Addr) (H0 H:Hp) (qs:List V) (L:List (List Int)):Prop:=
 qs.length = L.length/\∀ (i:Nat) q r,qs[i]? = some q->L[i]? = some r->∃ t,q = .ref t/\t ≠ D/\H0 t = none/\H t = some (.lst (r.map V.int))
theorem RowsF.nil {D:Addr} {H0 H:Hp}:RowsF D H0 H [] []:=⟨rfl,λi q r h=>by simp at h⟩
theorem RowsF.same {D:Addr} {H0 H H':Hp} {qs:List V} {L:List (List Int)} (h:RowsF D H0 H qs L) (s:Same H H'):RowsF D H0 H' qs L:=
 ⟨h.1,λi q r h1 h2=>let ⟨t,e1,e2,e3,e4⟩:=h.2 i q r h1 h2; ⟨t,e1,e2,e3,s _ _ e4⟩⟩
theorem RowsF.put {D:Addr} {H0 H:Hp} {o:HO} {qs:List V} {L:List (List Int)} (h:RowsF D H0 H qs L):RowsF D H0 (upd H D o) qs L:=
 ⟨h.1,λi q r h1 h2=>let ⟨t,e1,e2,e3,e4⟩:=h.2 i q r h1 h2; ⟨t,e1,e2,e3,by rw [Zaf e2]; exact e4⟩⟩
theorem RowsF.old {D:Addr} {H0 H1 H:Hp} {qs:List V} {L:List (List Int)} (h:RowsF D H1 H qs L) (s:Same H0 H1):RowsF D H0 H qs L:=
 ⟨h.1,λi q r h1 h2=>let ⟨t,e1,e2,e3,e4⟩:=h.2 i q r h1 h2; ⟨t,e1,e2,s.free e3,e4⟩⟩
theorem RowsF.add {D:Addr} {H0 H:Hp} {qs:List V} {L:List (List Int)} {t:Addr} {r:List Int} (h:RowsF D H0 H qs L) (n:t ≠ D) (f:H0 t = none) (ht:H t = some (.lst (r.map V.int))):RowsF D H0 H (qs ++ [.ref t]) (L ++ [r]):=by
 refine ⟨by simp [h.1],λi x r' h1 h2=>?_⟩;by_cases hi:i < qs.length
 .rw [Jai hi] at h1;rw [Jai (by rw [<- h.1]; exact hi)] at h2;exact h.2 i x r' h1 h2
 .rw [Jal (by omega)] at h1;rw [Jal (by rw [<- h.1]; omega)] at h2;have hl:=h.1;by_cases h0:i - qs.length = 0
  .rw [h0] at h1;rw [<- hl,h0] at h2;simp at h1 h2;exact ⟨t,h1.symm,n,f,by rw [<- h2]; exact ht⟩
  .rw [Jb5 (by simp; omega)] at h1;cases h1
def DRep (n:Nat) (kvs:List (Key × V)) (f:Int->Int):Prop:=kvs.length<=n/\∀ x:Int,0<=x->x < n->Zfx kvs (.inl x) = some (.int (f x))
theorem Zpx {kvs:List (Key × V)} {k:Key} {v:V} (h:(Zfx kvs k).isSome = true):(Zhg kvs k v).length = kvs.length:=by
 unfold Zhg;rw [Zd1,h,if_pos rfl,Jab]
theorem DRep.get {n:Nat} {kvs:List (Key × V)} {f:Int->Int} {H:Hp} {D:Addr} {x:Int} (h:DRep n kvs f) (e:H D = some (.dK kvs)) (h0:0<=x) (h1:x < n):DGet H D (.int x) (some (.int (f x))):=by
 have:=DGet.k (k:=.inl x) e;rwa [h.2 x h0 h1] at this
theorem sort2 {ns:List Int} {x y:Int} (hp:ns.Perm [x,y]) (hs:ns.Pairwise (·<=·)):ns = [min x y,max x y]:=by
 have hl:=hp.length_eq
 match ns,hl with
 | [u,v],_=>
  have h1:u ∈ [x,y]:=hp.mem_iff.mp (by simp);have h2:v ∈ [x,y]:=hp.mem_iff.mp (by simp);have h3:x ∈ [u,v]:=hp.mem_iff.mpr (by simp);have h4:y ∈ [u,v]:=hp.mem_iff.mpr (by simp);have h5:u<=v:=by simpa using hs
  simp at h1 h2 h3 h4;have e1:u = min x y:=by omega
  have e2:v = max x y:=by omega
  rw [e1,e2]
def Zh1 (C:Addr):Sp:=λvs H Q _=>∃ (x:Addr) (m:Int) (ps:List (Int × Int)),vs = [.ref x]/\Drw C H x m ps/\InP m ps/\1<=m/\m<=8 /\
 ∀ p qs H',Same H H'->H p = none->H' p = some (.lst qs)->RowsF p H H' qs (Zc6 m.toNat (Zbn ps))->Q (.ref p) H'
def GRep (n:Nat) (ns:List Int) (g:Int->Int):Prop:=ns.length = n/\∀ i:Nat,i < n->ns[i]? = some (g (i:Nat))
theorem GRep.set {n:Nat} {ns:List Int} {g:Int->Int} {k v:Int} (h:GRep n ns g) (h0:0<=k) (h1:k < n):GRep n (ns.set k.toNat v) (λx=>if x = k then v else g x):=by
 have hl:=h.1;refine ⟨by rw [List.length_set]; exact h.1,λi hi=>?_⟩;rw [List.getElem?_set];show _ = some (if ((i:Nat):Int) = k then v else g (i:Nat));by_cases e:k.toNat = i
 .rw [if_pos e,if_pos (by omega),if_pos (by omega)]
 .rw [if_neg e,h.2 i hi,if_neg (by omega)]
theorem Zfs {L:List Int} {i:Nat} {x:V} (h:(L.map V.int)[i]? = some x):∃ y,L[i]? = some y/\x = .int y:=by
 rw [Jbc] at h;cases e:L[i]? with
 | none=>rw [e] at h; cases h
 | some y=>rw [e] at h; cases h; exact ⟨y,rfl,rfl⟩
theorem Zkg {a D:Addr} {L:List Int} {fr:List (Str × Nat)} {σ:L2.St} {tt:TT} {H1:Hp} {Q:VK} (g:Int->Bool) (ha:H1 a = some (.lst (L.map V.int))) (hD:H1 D = none) (hn:L.length<=900)
  (h:∀ x H (Q:Bool->Hp->Prop),x ∈ L->Same H1 H->Q (g x) H->tt (some (.int x) :: Zcr fr σ) H Q)
  (hQ:∀ H',Same H1 H'->H' D = some (.lst ((L.filter g).map V.int))->Q (.ref D) H'):Zb6 (Zba 0) tt (Zko 0) (Itl K a) D (Zfv 1 fr σ) H1 Q:=by
 refine Zb0 (xs:=L.map V.int) (λi vs H=>Same H1 H/\H D = some (.lst vs)/\vs = ((L.take i).filter g).map V.int) ⟨Same.new hD,Zab,rfl⟩ (λi vs H _ p=>SqL.of (p.1 _ _ ha)) ?_ (λvs H ⟨s,e,hv⟩=>hQ H s (by rw [e,hv,Jab,Jbv]));intro i x vs σ' H hi hx sh e91;refine Zav e91 λs e hv=>?_;clear e91;obtain ⟨z,rfl⟩:=sh.one;refine Zad (Zfs hx) λy ey e94=>?_;obtain rfl:=e94;have et:L.take (i + 1) = L.take i ++ [y]:=by rw [Jbo,ey]; rfl
 have hl:=Ja9 g (L.take i);rw [Jbd] at hl;simp only [Zdi,Zba,List.set_cons_zero];refine h y H _ (Jag ey) s (Zcx (λhg=>?_) (λhg=>?_))
 .refine ⟨_,rfl,leaf (ws:=vs ++ [.int y]) hi Sh.mk1 e (Zal (by rw [hv,Jab]; omega)) ⟨s.upd hD,Zab,?_⟩⟩;rw [et,Jcf,hv];simp [hg]
 .refine leaf0 (ws:=vs) hi Sh.mk1 ⟨s,e,?_⟩;rw [et,Jcf,hv];simp [hg]
theorem comp_rl {a D:Addr} {L:List Int} {fr:List (Str × Nat)} {σ:L2.St} {tt:TT} {te:TE} {H1:Hp} {Q:VK} (g:Int->Bool) (row:Int->List Int) (ha:H1 a = some (.lst (L.map V.int))) (hD:H1 D = none) (hn:L.length<=900)
  (h:∀ x H (Q:Bool->Hp->Prop),x ∈ L->Same H1 H->Q (g x) H->tt (some (.int x) :: Zcr fr σ) H Q)
  (he:∀ x H (Q:VK),x ∈ L->Same H1 H->(∀ t H',H t = none->Same H H'->H' t = some (.lst ((row x).map V.int))->Q (.ref t) H')->te (some (.int x) :: Zcr fr σ) H Q)
  (hQ:∀ qs H',Same H1 H'->H' D = some (.lst qs)->RowsF D H1 H' qs ((L.filter g).map row)->Q (.ref D) H'):Zb6 (Zba 0) tt te (Itl K a) D (Zfv 1 fr σ) H1 Q:=by
 refine Zb0 (xs:=L.map V.int) (λi vs H=>Same H1 H/\H D = some (.lst vs)/\RowsF D H1 H vs (((L.take i).filter g).map row)) ⟨Same.new hD,Zab,RowsF.nil⟩ (λi vs H _ p=>SqL.of (p.1 _ _ ha)) ?_ (λvs H ⟨s,e,hv⟩=>hQ vs H s e (by rw [Jab,Jbv] at hv; exact hv));intro i x vs σ' H hi hx sh e92;refine Zav e92 λs e hv=>?_;clear e92;obtain ⟨z,rfl⟩:=sh.one;refine Zad (Zfs hx) λy ey e95=>?_;obtain rfl:=e95;have et:L.take (i + 1) = L.take i ++ [y]:=by rw [Jbo,ey]; rfl
 have hl:=Ja9 g (L.take i);rw [Jbd] at hl;have hv1:=hv.1;rw [Jab] at hv1;simp only [Zdi,Zba,List.set_cons_zero];refine h y H _ (Jag ey) s (Zcx (λhg=>?_) (λhg=>?_))
 .refine he y H _ (Jag ey) s λt H' ft s' ht=>?_;have nt:t ≠ D:=(Zag e ft).symm;refine leaf (ws:=vs ++ [.ref t]) hi Sh.mk1 (s' _ _ e) (Zal (by omega)) ⟨(s.trans s').upd hD,Zab,?_⟩;have:=((hv.same s').add nt (s.free ft) ht).put (o:=.lst (vs ++ [.ref t]));rw [et,Jcf,Ja5];simpa [hg] using this
 .refine leaf0 (ws:=vs) hi Sh.mk1 ⟨s,e,?_⟩;rw [et,Jcf,Ja5];simpa [hg] using hv
def DRepL (L:List Int) (kvs:List (Key × V)) (f:Int->Int):Prop:=kvs.length<=L.length/\∀ x ∈ L,Zfx kvs (.inl x) = some (.int (f x))
theorem DRepL.put {L:List Int} {kvs:List (Key × V)} {f:Int->Int} {k v:Int} (h:DRepL L kvs f) (hk:k ∈ L):DRepL L (Zhg kvs (.inl k) (.int v)) (λy=>if y = k then v else f y):=by
 refine ⟨by rw [Zpx (by rw [h.2 k hk]; rfl)]; exact h.1,λx hx=>?_⟩;rw [Zkl];by_cases e:x = k
 .subst e; simp
 .show _ = some (V.int (if x = k then v else f x));rw [if_neg (by intro z; exact e (Sum.inl.inj z)),if_neg e]; exact h.2 x hx
theorem DRepL.congr {L:List Int} {kvs:List (Key × V)} {f g:Int->Int} (h:DRepL L kvs f) (e:∀ x ∈ L,f x = g x):DRepL L kvs g:=⟨h.1,λx hx=>by rw [h.2 x hx,e x hx]⟩
theorem DRepL.get {L:List Int} {kvs:List (Key × V)} {f:Int->Int} {H:Hp} {D:Addr} {x:Int} (h:DRepL L kvs f) (e:H D = some (.dK kvs)) (hx:x ∈ L):DGet H D (.int x) (some (.int (f x))):=by
 have:=DGet.k (k:=.inl x) e;rwa [h.2 x hx] at this
theorem comp_dl {a D:Addr} {L:List Int} {σ:L2.St} {H1:Hp} {Q:VK} (ha:H1 a = some (.lst (L.map V.int))) (nd:L.Nodup) (hD:H1 D = none) (hn:L.length<=900)
  (hQ:∀ kvs H',Same H1 H'->H' D = some (.dK kvs)->DRepL L kvs id->Q (.ref D) H'):Zjs (Zba 0) Zgf (Zko 0) (Zko 0) (Itl K a) D (Zfv 1 [] σ) H1 Q:=by
 refine ⟨λi m σ' H2=>m = L.length - i/\i<=L.length/\(∃ z,σ' = [z])/\∃ kvs,Same H1 H2/\H2 D = some (.dK kvs)/\kvs.length = i/\∀ x:Int,Zfx kvs (.inl x) = if x ∈ L.take i then some (.int x) else none,⟨L.length,by simp,Jb6 _,⟨none,rfl⟩,[],Same.new hD,Zab,rfl,λx=>by simp; rfl⟩,?_⟩;intro i m σ' H2 e93;refine Zbh e93 λe96 hi e97 e98=>?_;clear e93;obtain rfl:=e96;obtain ⟨z,rfl⟩:=e97;obtain ⟨kvs,s,e,hl,hv⟩:=e98;by_cases hlt:i < L.length
 .refine .inr ⟨⟨_,_,SqL.of (s _ _ ha),Jaa (by rw [Jab]; exact hlt)⟩,λx H3 y=>?_⟩;obtain ⟨rfl,y2⟩:=y;refine Zad (Zfs (y2 _ (SqL.of (s _ _ ha)))) λu eu e99=>?_;obtain rfl:=e99;have et:L.take (i + 1) = L.take i ++ [u]:=by rw [Jbo,eu]; rfl
  have nu:u ∉ L.take i:=λzz=>by
   have h1:(L.take (i + 1)).Nodup:=Ja7 (Jd4 _ _) nd;rw [et] at h1;exact (Jdc.mp h1).2.2 u zz u (by simp) rfl
  simp only [Zba,Zgf,Jcl,List.set_cons_zero];refine ⟨_,rfl,_,rfl,kvs,.inl u,rfl,e,Zal (by omega),L.length - (i + 1),by omega,rfl,by omega,⟨_,rfl⟩,Zhg kvs (.inl u) (.int u),s.upd hD,Zab,?_,λx=>?_⟩
  .rw [Zpw _ (by rw [hv,if_neg nu])]; simp [hl]
  .rw [Zkl,et];by_cases ex:x = u
   .subst ex; simp
   .rw [if_neg (by intro z; exact ex (Sum.inl.inj z)),hv];by_cases c:x ∈ L.take i
    .rw [if_pos c,if_pos (by simp [c])]
    .rw [if_neg c,if_neg (by simp [c,ex])]
 .have ei:i = L.length:=by omega
  subst ei;exact .inl ⟨⟨_,SqL.of (s _ _ ha),by rw [Jab]; exact Jah _⟩,hQ kvs H2 s e ⟨by omega,λx hx=>by rw [hv,if_pos (by rw [Jbv]; exact hx)]; rfl⟩⟩
def Zmd (L:List Int) (f:Int->Int) (k:Int):List Int:=L.filter λx=>decide (f x = k)
def Zeo (L:List Int) (f:Int->Int):List (List Int):=(L.filter λx=>decide (f x = x)).map λk=>Zmd L f k
def spHg:Sp:=λvs H Q _=>∃ (a b:Addr) (L:List Int) (xs:List V) (ps:List (Int × Int)),vs = [.ref a,.ref b]/\H a = some (.lst (L.map V.int))/\H b = some (.lst xs)/\L.Nodup/\L.length<=8/\xs.length<=9/\Prs H xs ps/\(∀ q ∈ ps,q.1 ∈ L/\q.2 ∈ L) /\
 ∀ p qs H',Same H H'->H p = none->H' p = some (.lst qs)->RowsF p H H' qs (Zeo L (Zbn ps))->Q (.ref p) H'
theorem ok_hg {f:Addr} {fd:FuncData} (F:Fun K "hanging" "hanging" Zgx f fd) (T:Txt K mg C G S):FnOk P w K mg base CX0 1 f fd ["points","arrows"] spHg:=by
 have nd:=Zhp.nd;refine F.ok Zhp (λvs H Q E h=>?_) (λcdv A outer s H vs Q E hr h=>?_)
 .refine xE5_2 h λa b L xs ps e95 _=>?_;clear h;obtain rfl:=e95;rfl
 .refine Zct h λa b L xs ps e96 ha hb e97=>?_;clear h;obtain rfl:=e96;refine Zfe e97 λnL hn hx hps hin q=>?_;clear e97;have hu1:=room1 hr;refine ⟨_,((Zas (i:=2) nd rfl (Or.inr rfl) (Zp3 (own:=["point"]) (fr:=[]) rfl (Zb5 (by kernel_rfl)) (Zat (pv 0)) (λ_ _ _ _=>⟨(@Zah _ _ 0 _ (show (["point"]:List Str).Nodup by decide +kernel) rfl (Or.inl rfl) (Or.inr rfl)),Zbc,(pv 0),(pv 0)⟩)))<*>((Zdh Jbt rfl (Zat (pv 1)) (@Zdx _ _ _ _ _ 2 rfl (@Zak _ _ _ _ _ (@Zah _ _ 3 _ nd rfl (Or.inl rfl) (Or.inl rfl)) (@Zak _ _ _ _ _ (@Zah _ _ 4 _ nd rfl (Or.inl rfl) (Or.inl rfl)) (@Zbj _) (by rfl)) (by rfl)) (by rfl) (by rfl)) ((Zf5 (Za0 Zeu rfl T.n_sorted boot_sorted ((@Zbd _ _ _ _ ((Zg2 hu1 (pv 2) (pv 3) (λ_ _=>rfl))<&>((Zg2 hu1 (pv 2) (pv 4) (λ_ _=>rfl))<&>Zaa)))<&>Zaa)) (@pg_lst _ _ _ _ _ 2 rfl (@Zak _ _ _ _ _ (@Zah _ _ 5 _ nd rfl (Or.inl rfl) (Or.inl rfl)) (@Zak _ _ _ _ _ (@Zah _ _ 6 _ nd rfl (Or.inl rfl) (Or.inl rfl)) (@Zbj _) (by rfl)) (by rfl)) (by rfl) (by rfl)))<*>(@Zaj _ _ _ (Zdh Jbt rfl (Zat (pv 0)) (@Zah _ _ 7 _ nd rfl (Or.inl rfl) (Or.inl rfl)) (@Zaj _ _ _ (@Za1 _ _ _ _ _ _ _ _ (Zai Zeq (Zg2 hu1 (pv 2) (pv 7) (λ_ _=>rfl)) (pv 6) (Zan _)) (@Zaj _ _ _ (ps_dput hu1 (pv 2) (pv 7) (pv 5) rfl)) Zam))))))<*>(~~~(Za2 (own:=["first"]) (fr:=[("points",0),("least",2)]) rfl (Zb5 (by kernel_rfl)) (Zat (pv 0)) (λ_ _ _ _=>⟨(@Zah _ _ 0 _ (show (["first","points","least"]:List Str).Nodup by decide +kernel) rfl (Or.inr rfl) (Or.inl rfl)),(Zep (Zai Zeq (Zg2 hu1 (pv 2) (pv 0) (λ_ _=>rfl)) (pv 0) (Zan _))),(Za2 (own:=["point"]) (fr:=[("least",2),("first",0)]) rfl (Zb5 (by kernel_rfl)) (Zia K rfl (pv 1)) (λ_ _ _ _=>⟨(@Zah _ _ 0 _ (show (["point","least","first"]:List Str).Nodup by decide +kernel) rfl (Or.inl rfl) (Or.inr rfl)),(Zep (Zai Zeq (Zg2 hu1 (pv 1) (pv 0) (λ_ _=>rfl)) (pv 2) (Zan _))),(pv 0)⟩))⟩))))),?_⟩;walk_at "wp";refine ⟨_,rfl,a,rfl,⟨_,SqL.of ha⟩,λD hD=>comp_dl ha nL hD (by omega) λkvs0 H1 s1 hD1 r1=>?_⟩;refine ⟨_,rfl,b,rfl,⟨_,SqL.of (s1 _ _ hb)⟩,Zd4 (xs:=xs) (λi σ Hi=>∃ v3 v4 v5 v6 v7:Option V,σ = [some (.ref a),some (.ref b),some (.ref D),v3,v4,v5,v6,v7]/\Same H Hi/\∃ kvs,Hi D = some (.dK kvs)/\DRepL L kvs ((ps.take i).foldl stepL id)) ⟨none,none,none,none,none,rfl,s1,kvs0,hD1,r1⟩ (λi σ Hi _ ⟨_,_,_,_,_,_,si,_⟩=>SqL.of (si _ _ hb)) ?_ ?_⟩
  .intro i x σ Hi hxi e91;refine xE5_3 e91 λv3 v4 v5 v6 v7 e98 si e99=>?_;clear e91;obtain rfl:=e98;obtain ⟨kvs,hDi,ri⟩:=e99;have hi:i < ps.length:=by have:=(Jaw.mp hxi).1; have:=hps.1; omega
   have hq:ps[i]? = some ps[i]:=Jaa hi;refine Zad (hps.2 i x _ hxi hq) λt e910 ht=>?_;obtain rfl:=e910;obtain ⟨a0,b0⟩:=hin _ (Jag hq);have ef:(ps.take (i + 1)).foldl stepL id = stepL ((ps.take i).foldl stepL id) ps[i]:=by rw [Jbo,hq,List.foldl_append]; rfl
   generalize ps[i] = qq at *;generalize (ps.take i).foldl stepL id = f0 at *;walk_at "wp";refine ⟨_,SqT.of (si _ _ ht),rfl,_,_,rfl,_,_,rfl,rfl,_,ri.get hDi a0,_,ri.get hDi b0,by decide,λp hp=>⟨[f0 qq.1,f0 qq.2],SqL.of Zab,by simp,λl ns' hl hpm hso=>?_⟩⟩;have hns:=sort2 hpm hso;subst hns;refine ⟨_,SqL.of Zab,rfl,_,_,rfl,_,_,rfl,rfl,?_⟩;have s2:Same Hi (upd (upd Hi p (.lst [.int (f0 qq.1),.int (f0 qq.2)])) l (.lst ([min (f0 qq.1) (f0 qq.2),max (f0 qq.1) (f0 qq.2)].map V.int))):=(Same.new hp).trans (Same.new hl);generalize upd (upd Hi p (.lst [.int (f0 qq.1),.int (f0 qq.2)])) l (.lst ([min (f0 qq.1) (f0 qq.2),max (f0 qq.1) (f0 qq.2)].map V.int)) = H2 at *;refine ⟨_,rfl,a,rfl,⟨_,SqL.of (s2 _ _ (si _ _ ha))⟩,Zd4 (xs:=L.map V.int) (λj σ Hj=>∃ w7:Option V,σ = [some (.ref a),some (.ref b),some (.ref D),some (.int qq.1),some (.int qq.2),some (.int (min (f0 qq.1) (f0 qq.2))),some (.int (max (f0 qq.1) (f0 qq.2))),w7]/\Same H Hj/\∃ kvs,Hj D = some (.dK kvs)/\DRepL L kvs (λx=>if x ∈ L.take j/\f0 x = max (f0 qq.1) (f0 qq.2) then min (f0 qq.1) (f0 qq.2) else f0 x))
    ⟨v7,rfl,si.trans s2,kvs,s2 _ _ hDi,ri.congr λx _=>by rw [if_neg (by simp)]⟩ (λj σ Hj _ ⟨_,_,sj,_⟩=>SqL.of (sj _ _ ha)) ?_ ?_⟩
   .intro j x σ Hj hxj e92;refine Zao e92 λw7 e911 sj e912=>?_;clear e92;obtain rfl:=e911;obtain ⟨kvs',hDj,rj⟩:=e912;refine Zad (Zfs hxj) λu eu e913=>?_;obtain rfl:=e913;have hu:=Jag eu;have et:L.take (j + 1) = L.take j ++ [u]:=by rw [Jbo,eu]; rfl
    have nu:u ∉ L.take j:=λzz=>by
     have h1:(L.take (j + 1)).Nodup:=Ja7 (Jd4 _ _) nL;rw [et] at h1;exact (Jdc.mp h1).2.2 u zz u (by simp) rfl
    walk_at "wp";have gj:=rj.get (x:=u) hDj hu;rw [if_neg (λz=>nu z.1)] at gj;refine ⟨_,gj,rfl,Zcx (λhc=>?_) (λhc=>?_)⟩
    .have hc:f0 u = max (f0 qq.1) (f0 qq.2):=V.int.inj (Jas hc);refine ⟨_,DPut.k (k:=.inl u) hDj (Zal (by have:=rj.1; omega)),sj.upd hD,_,Zab,(rj.put (k:=u) hu).congr λx hxL=>?_⟩;rw [et];by_cases ex:x = u
     .subst ex; rw [if_pos rfl,if_pos ⟨by simp,hc⟩]
     .rw [if_neg ex];by_cases c:x ∈ L.take j/\f0 x = max (f0 qq.1) (f0 qq.2)
      .rw [if_pos c,if_pos ⟨by simp [c.1],c.2⟩]
      .rw [if_neg c,if_neg (by intro z; exact c ⟨by simpa [ex] using z.1,z.2⟩)]
    .have hc:¬ f0 u = max (f0 qq.1) (f0 qq.2):=λz=>hc (Jad (Jc1 V.int z));refine ⟨sj,kvs',hDj,rj.congr λx hxL=>?_⟩;rw [et];by_cases ex:x = u
     .subst ex; rw [if_neg (λz=>hc z.2),if_neg (λz=>hc z.2)]
     .by_cases c:x ∈ L.take j/\f0 x = max (f0 qq.1) (f0 qq.2)
      .rw [if_pos c,if_pos ⟨by simp [c.1],c.2⟩]
      .rw [if_neg c,if_neg (by intro z; exact c ⟨by simpa [ex] using z.1,z.2⟩)]
   .intro σ Hj e93;refine Zao e93 λw7 e914 sj e915=>?_;clear e93;obtain rfl:=e914;obtain ⟨kvs',hDj,rj⟩:=e915;refine Zip _ _ _ _ _ ⟨rfl,sj,kvs',hDj,?_⟩;rw [ef];refine rj.congr λx hxL=>?_;rw [Jab,Jbv];unfold stepL;by_cases c:f0 x = max (f0 qq.1) (f0 qq.2)
    .rw [if_pos ⟨hxL,c⟩,if_pos c]
    .rw [if_neg (λz=>c z.2),if_neg c]
  .intro σ Hi e94;refine xE5_3 e94 λv3 v4 v5 v6 v7 e916 si e917=>?_;clear e94;obtain rfl:=e916;obtain ⟨kvs,hDi,ri⟩:=e917;have hl:ps.take xs.length = ps:=by rw [hps.1,Jbv]
   rw [hl] at ri;have ri:DRepL L kvs (Zbn ps):=ri;generalize Zbn ps = f0 at *;refine ⟨_,rfl,a,rfl,⟨_,SqL.of (si _ _ ha)⟩,λp hp=>comp_rl (λx=>decide (f0 x = x)) (λk=>Zmd L f0 k) (si _ _ ha) hp (by omega) ?_ ?_ λqs H' s' hp' rr=>q p qs H' (si.trans s') (si.free hp) hp' (rr.old si)⟩
   .intro x H2 Q2 hx s2 k2;walk_at "wp";refine ⟨_,rfl,D,rfl,_,ri.get (s2 _ _ hDi) hx,rfl,?_⟩;have e:decide (V.int (f0 x) = V.int x) = decide (f0 x = x):=by simp only [V.int.injEq]
    rw [e];exact k2
   .intro x H2 Q2 hx s2 k2;refine ⟨_,rfl,a,rfl,⟨_,SqL.of (s2 _ _ (si _ _ ha))⟩,λt ft=>Zkg (λy=>decide (f0 y = x)) (s2 _ _ (si _ _ ha)) ft (by omega) ?_ λH' s' ht=>k2 t H' ft s' ht⟩;intro y H3 Q3 hy s3 k3;walk_at "wp";refine ⟨_,rfl,D,rfl,_,ri.get (s3 _ _ (s2 _ _ hDi)) hy,_,rfl,rfl,?_⟩;have e:decide (V.int (f0 y) = V.int x) = decide (f0 y = x):=by simp only [V.int.injEq]
    rw [e];exact k3
theorem Zcs {A X:TS} {D:Ends} {σ:L2.St} {H:Hp} (h:∀ X',X' = X->tSeq A X' D σ H):tSeq A X D σ H:=h X rfl
def Zbt (es:List (Int × Int)):List Int:=es.flatMap λq=>[q.1,q.2]
def esF (es:List (Int × Int)) (f:Int):List (Int × Int):=es.filter λq=>decide (q.1 ≠ f/\q.2 ≠ f)
def Zjn (S:List Int) (es:List (Int × Int)) (f:Int):List Int:=(Zeo (L3.oth S f) (Zbn (esF es f))).map λr=>(r.length:Int)
abbrev Kd:=Option (Str × Int)
def KdV (H:Hp) (v:V):Kd->Prop
 | none=>v = .non
 | some k=>∃ t,v = .ref t/\H t = some (.tup [.str k.1,.int k.2])
theorem KdV.same {H H':Hp} {v:V} {k:Kd} (h:KdV H v k) (s:Same H H'):KdV H' v k:=by
 cases k with
 | none=>exact h
 | some k=>obtain ⟨t,e,ht⟩:=h; exact ⟨t,e,s _ _ ht⟩
def kd (n:Int) (ns:List Int):Kd:=if ns.take 2 = [1,1] then some ("D",n) else if ns.take 2 = [1,2]/\(n = 6\/n = 7\/n = 8) then some ("E",n) else none
theorem int_eqD {H:Hp} {n:Nat} {i j:Int}:EqD K H n (.int i) (.int j) (decide (i = j)):=by
 have:=EqD.flat (K:=K) (H:=H) (n:=n) (x:=.int i) (y:=.int j) rfl rfl;rwa [show eqV (.int i) (.int j) = decide (i = j) by simp [eqV]; rw [Jbm]; simp] at this
theorem Zjp:∀ {ns ms:List Int},ns.length = ms.length->((List.zipWith (λa b=>decide (a = b)) ns ms).all id = true ↔ ns = ms)
 | [],[],_=>by simp
 | a :: ns,b :: ms,h=>by
  have:=Zjp (ns:=ns) (ms:=ms) (by simpa using h);simp only [List.zipWith_cons_cons,Jcm,Jbx,this,id_eq,Jbw,Jcb]
theorem Zrx {H:Hp} {ns ms:List Int} {A B:Prop} (h1:ns = ms->B) (h2:ns ≠ ms->A):((ns.map V.int).length ≠ (ms.map V.int).length/\A)\/∃ bs,Zin K H 6 (ns.map V.int) (ms.map V.int) bs/\if bs.all id = true then B else A:=by
 by_cases hl:ns.length = ms.length
 .refine .inr ⟨List.zipWith (λa b=>decide (a = b)) ns ms,⟨by rw [Jab,Jab]; exact hl,by rw [List.length_zipWith,Jab]; omega,λj x y b e1 e2 e3=>?_⟩,?_⟩
  .refine Zad (Zfs e1) λu eu e91=>?_;obtain rfl:=e91;refine Zad (Zfs e2) λv ev e92=>?_;obtain rfl:=e92;rw [List.getElem?_zipWith,eu,ev] at e3;cases e3;exact int_eqD
  .by_cases e:ns = ms
   .rw [if_pos ((Zjp hl).mpr e)];exact h1 e
   .rw [if_neg (λz=>e ((Zjp hl).mp z))];exact h2 e
 .exact .inl ⟨by rw [Jab,Jab]; exact hl,h2 λz=>hl (by rw [z])⟩
theorem Zlf (ns:List Int):Zpg (ns.map V.int) none (some 2) = (ns.take 2).map V.int:=by
 unfold Zpg;have e1:HT.sIx (ns.map V.int).length (ns.map V.int).length (some 2) = min 2 (ns.map V.int).length:=by
  simp only [HT.sIx];rw [if_neg (by decide)];rfl
 have e0:HT.sIx (ns.map V.int).length 0 none = 0:=rfl;rw [e1,e0,List.drop_zero,Nat.sub_zero,List.map_take];exact (List.take_eq_take_min).symm
theorem in678 (n:Int):inV (V.int n) [V.int 6,V.int 7,V.int 8] = true ↔ (n = 6\/n = 7\/n = 8):=by
 simp only [inV,Jcv,List.any_nil,Bool.or_false,Jc7,eqV,Jbg];constructor
 .rintro (h | h | h)
  .exact .inl (by omega)
  .exact .inr (.inl (by omega))
  .exact .inr (.inr (by omega))
 .rintro (h | h | h)
  .exact .inl (by omega)
  .exact .inr (.inl (by omega))
  .exact .inr (.inr (by omega))
def spFk:Sp:=λvs H Q _=>∃ (n:Int) (a:Addr) (ns:List Int),vs = [.int n,.ref a]/\H a = some (.lst (ns.map V.int))/\ns.length<=900/\∀ v H',Same H H'->KdV H' v (kd n ns)->Q v H'
theorem ok_fk {f:Addr} {fd:FuncData} (F:Fun K "forked_kind" "forked_kind" Zc3 f fd) (T:Txt K mg C G S):FnOk P w K mg base CX0 1 f fd ["many","lengths"] spFk:=by
 have nd:=Zef.nd;refine F.ok Zef (λvs H Q E h=>?_) (λcdv A outer s H vs Q E hr h=>?_)
 .refine Zd6 h λn a ns e93 _=>?_;clear h;obtain rfl:=e93;rfl
 .refine Zb1 h λn a ns e94 ha hn q=>?_;clear h;obtain rfl:=e94;refine ⟨_,((@Za1 _ _ _ _ _ _ _ _ (Zai (Znz (Zpv hr)) (@Ze5 _ _ _ _ _ _ _ _ _ _ Zgg (pv 1) Zg1 (@Zg0 _ _ _ Zac)) (@Zbd _ _ _ _ (Zac<&>(Zac<&>Zaa))) (Zan _)) (~~~(@Zax _ _ _ _ _ (Zcg<&>((pv 0)<&>Zaa)))) Zam)<*>((@Za1 _ _ _ _ _ _ _ _ (PW.pt (pw_and (Zai (Znz (Zpv hr)) (@Ze5 _ _ _ _ _ _ _ _ _ _ Zgg (pv 1) Zg1 (@Zg0 _ _ _ Zac)) (@Zbd _ _ _ _ (Zac<&>(Zac<&>Zaa))) (Zan _)) (pw_and1 (Zai Zi4 (pv 0) (@Zax _ _ _ _ _ (Zac<&>(Zac<&>(Zac<&>Zaa)))) (by with_unfolding_all rfl))))) (~~~(@Zax _ _ _ _ _ (Zcg<&>((pv 0)<&>Zaa)))) Zam)<*>(~~~Zky))),?_⟩;have hu:=Zpv hr;refine Zcs λX hX=>?_;walk_at "wp";refine ⟨_,SqL.of ha,λp hp=>⟨by decide,λp1 hp1=>?_⟩⟩;rw [Zlf] at *;have s1:=Same.new (o:=.lst ((ns.take 2).map V.int)) hp;have s2:=Same.new (o:=.lst [V.int 1,V.int 1]) hp1;have s12:=s1.trans s2;have e1:upd (upd H p (.lst ((ns.take 2).map V.int))) p1 (.lst [V.int 1,V.int 1]) p = some (.lst ((ns.take 2).map V.int)):=s2 _ _ Zab;have e2:upd (upd H p (.lst ((ns.take 2).map V.int))) p1 (.lst [V.int 1,V.int 1]) p1 = some (.lst (([1,1]:List Int).map V.int)):=Zab;generalize upd (upd H p (.lst ((ns.take 2).map V.int))) p1 (.lst [V.int 1,V.int 1]) = H2 at *;refine ⟨_,SqL.of e1,_,SqL.of e2,Zrx (λh=>⟨by decide,λt ht=>q _ _ (s12.trans (Same.new ht)) ?_⟩) (λh=>?_)⟩
  .unfold kd;rw [if_pos h];exact ⟨t,rfl,Zab⟩
  subst hX;refine Zcs λX hX=>?_;walk_at "wp";refine ⟨_,SqL.of (s12 _ _ ha),λp2 hp2=>⟨by decide,λp3 hp3=>?_⟩⟩;rw [Zlf] at *;have s3:=Same.new (o:=.lst ((ns.take 2).map V.int)) hp2;have s4:=Same.new (o:=.lst [V.int 1,V.int 2]) hp3;have s34:=s3.trans s4;have s14:=s12.trans s34;have e3:upd (upd H2 p2 (.lst ((ns.take 2).map V.int))) p3 (.lst [V.int 1,V.int 2]) p2 = some (.lst ((ns.take 2).map V.int)):=s4 _ _ Zab;have e4:upd (upd H2 p2 (.lst ((ns.take 2).map V.int))) p3 (.lst [V.int 1,V.int 2]) p3 = some (.lst (([1,2]:List Int).map V.int)):=Zab;generalize upd (upd H2 p2 (.lst ((ns.take 2).map V.int))) p3 (.lst [V.int 1,V.int 2]) = H4 at *;have fin:kd n ns = none->∀ H',Same H H'->X { nx:=λx H'=>Q V.non H',rt:=Q } [some (V.int n),some (V.ref a)] H':=λek H' s'=>by
   subst hX;exact q .non H' s' (by rw [ek]; rfl)
  refine ⟨_,SqL.of e3,_,SqL.of e4,Zrx (λh2=>⟨by decide,λp4 hp4=>?_⟩) (λh2=>fin (by unfold kd; rw [if_neg h,if_neg λz=>h2 z.1]) H4 s14)⟩;have s5:=Same.new (o:=.tup [V.int 6,V.int 7,V.int 8]) hp4;refine ⟨_,.inr (SqT.of Zab),rfl,rfl,Zcx (λhc=>⟨by decide,λt ht=>q _ _ ((s14.trans s5).trans (Same.new ht)) ?_⟩) (λhc=>fin ?_ _ (s14.trans s5))⟩
  .unfold kd;rw [if_neg h,if_pos ⟨h2,(in678 n).mp hc⟩];exact ⟨t,rfl,Zab⟩
  .unfold kd;rw [if_neg h,if_neg λz=>hc ((in678 n).mpr z.2)]
theorem Zo3 {a D:Addr} {xs:List V} {es:List (Int × Int)} {fr:List (Str × Nat)} {σ:L2.St} {tt:TT} {H1:Hp} {Q:VK} (g:Int × Int->Bool) (ha:H1 a = some (.lst xs)) (hp:Prs H1 xs es) (hD:H1 D = none) (hn:xs.length<=900)
  (h:∀ t q H (Q:Bool->Hp->Prop),q ∈ es->H t = some (.tup [.int q.1,.int q.2])->Same H1 H->Q (g q) H->tt (some (.ref t) :: Zcr fr σ) H Q)
  (hQ:∀ ys H',Same H1 H'->H' D = some (.lst ys)->Prs H' ys (es.filter g)->ys.length<=xs.length->Q (.ref D) H'):Zb6 (Zba 0) tt (Zko 0) (Itl K a) D (Zfv 1 fr σ) H1 Q:=by
 have hlen:=hp.1;refine Zb0 (xs:=xs) (λi vs H=>Same H1 H/\H D = some (.lst vs)/\Prs H vs ((es.take i).filter g)) ⟨Same.new hD,Zab,Prs.nil⟩ (λi vs H _ p=>SqL.of (p.1 _ _ ha)) ?_ (λvs H ⟨s,e,hv⟩=>?_)
 .intro i x vs σ' H hi hx sh e91;refine Zav e91 λs e hv=>?_;clear e91;obtain ⟨z,rfl⟩:=sh.one;have hi':i < es.length:=by omega
  have hq:es[i]? = some es[i]:=Jaa hi';refine Zad (hp.2 i x _ hx hq) λt e96 ht=>?_;obtain rfl:=e96;have et:es.take (i + 1) = es.take i ++ [es[i]]:=by rw [Jbo,hq]; rfl
  have hl:=Ja9 g (es.take i);rw [Jbd] at hl;have hv1:=hv.1;simp only [Zdi,Zba,List.set_cons_zero];refine h t _ H _ (Jag hq) (s _ _ ht) s (Zcx (λhg=>?_) (λhg=>?_))
  .refine ⟨_,rfl,leaf (ws:=vs ++ [.ref t]) hi Sh.mk1 e (Zal (by omega)) ⟨s.upd hD,Zab,?_⟩⟩;rw [et,Jcf];have:=(hv.add (s _ _ ht)).put (o:=.lst (vs ++ [.ref t])) e;simpa [hg] using this
  .refine leaf0 (ws:=vs) hi Sh.mk1 ⟨s,e,?_⟩;rw [et,Jcf];simpa [hg] using hv
 .rw [hlen,Jbv] at hv;refine hQ vs H s e hv ?_;have:=Ja9 g es;rw [hv.1];omega
theorem Zl9 {b D:Addr} {xs:List V} {es:List (Int × Int)} {σ:L2.St} {H1:Hp} {Q:VK} (hb:H1 b = some (.lst xs)) (hp:Prs H1 xs es) (hD:H1 D = none) (hn:xs.length<=9)
  (hQ:∀ H',Same H1 H'->H' D = some (.lst ((Zbt es).map V.int))->Q (.ref D) H'):Zjt (Zba 0) (iTup K (Zko 0)) (Zba 1) (Zko 1) (Itl K b) D (Zfv 2 [] σ) H1 Q:=by
 have hlen:=hp.1;refine ⟨λi m σ' H2=>m = xs.length - i/\i<=xs.length/\∃ v0 v1:Option V,σ' = [v0,v1]/\Same H1 H2/\H2 D = some (.lst ((Zbt (es.take i)).map V.int)),⟨xs.length,rfl,Jb6 _,none,none,rfl,Same.new hD,Zab⟩,?_⟩;intro i m σ' H2 e92;refine Zav e92 λe97 hi e98=>?_;clear e92;obtain rfl:=e97;obtain ⟨v0,v1,rfl,s2,hD2⟩:=e98;by_cases hlt:i < xs.length
 .refine .inr ⟨⟨xs,xs[i],SqL.of (s2 _ _ hb),Jaa hlt⟩,λx H3 y=>?_⟩;obtain ⟨rfl,hy⟩:=y;have hx:=hy xs (SqL.of (s2 _ _ hb));have hq:es[i]? = some es[i]:=Jaa (by omega);refine Zad (hp.2 i x _ hx hq) λt e99 ht=>?_;obtain rfl:=e99;have ht2:=s2 _ _ ht;have nt:t ≠ D:=λz=>by rw [z,hD2] at ht2; cases ht2
  have et:Zbt (es.take (i + 1)) = Zbt (es.take i) ++ [es[i].1,es[i].2]:=by
   unfold Zbt;rw [Jbo,hq,List.flatMap_append];simp
  have le:(Zbt (es.take i)).length<=2 * i:=by
   unfold Zbt;rw [List.length_flatMap];have:((es.take i).map λq=>[q.1,q.2].length) = List.replicate (es.take i).length 2:=by
    rw [List.eq_replicate_iff];refine ⟨by rw [Jab],λz hz=>?_⟩;refine Zad (Jan.mp hz) λq _ e910=>?_;obtain rfl:=e910;rfl
   rw [this,List.sum_replicate_nat,Jbd];have:min i es.length<=i:=Nat.min_le_left _ _;omega
  generalize es[i] = q at *;refine ⟨_,rfl,t,rfl,⟨_,SqT.of ht2⟩,λj m2 σ5 H6=>m2 = 2 - j/\j<=2/\∃ v1':Option V,σ5 = [some (.ref t),v1']/\Same H1 H6/\H6 D = some (.lst ((Zbt (es.take i) ++ [q.1,q.2].take j).map V.int)),⟨2,rfl,by decide,v1,rfl,s2,by rw [hD2]; simp⟩,?_⟩;intro j m2 σ5 H6 e93;refine Zav e93 λe911 hj e912=>?_;clear e93;obtain rfl:=e911;obtain ⟨v1',rfl,s6,hD6⟩:=e912;have ht6:=s6 _ _ ht;by_cases hj2:j < 2
  .have ej:([V.int q.1,V.int q.2]:List V)[j]? = some (V.int ([q.1,q.2].getD j 0)):=by
    match j,hj2 with
    | 0,_=>rfl
    | 1,_=>rfl
   refine .inr ⟨⟨_,_,SqT.of ht6,ej⟩,λy H7 yy=>?_⟩;obtain ⟨rfl,hyy⟩:=yy;have hyj:=hyy _ (SqT.of ht6);rw [ej] at hyj;cases hyj;refine ⟨_,rfl,_,hD6,Zal ?_,2 - (j + 1),by omega,rfl,by omega,_,rfl,s6.upd hD,?_⟩
   .rw [Jab,Jam];have:([q.1,q.2].take j).length<=2:=by rw [Jbd]; exact Nat.min_le_right _ _
    omega
   .rw [Zab]
    match j,hj2 with
    | 0,_=>simp
    | 1,_=>simp
  .have:j = 2:=by omega
   subst this;refine .inl ⟨⟨_,SqT.of ht6,by show 2<=2; decide⟩,xs.length - (i + 1),by omega,rfl,by omega,_,_,rfl,s6,?_⟩;rw [hD6,et];rfl
 .have:i = xs.length:=by omega
  subst this;refine .inl ⟨⟨_,SqL.of (s2 _ _ hb),Jah _⟩,hQ H2 s2 ?_⟩;rw [hD2,hlen,Jbv]
def Zm6:Sp:=λvs H Q _=>∃ (a b:Addr) (S:List Int) (xs:List V) (es:List (Int × Int)) (f:Int),vs = [.ref a,.ref b,.int f]/\H a = some (.lst (S.map V.int))/\H b = some (.lst xs)/\S.Nodup/\S.length<=8/\xs.length<=9/\Prs H xs es/\(∀ q ∈ es,q.1 ∈ S/\q.2 ∈ S) /\
 ∀ (l:Addr) (ns:List Int) (H':Hp),Same H H'->H l = none->H' l = some (.lst (ns.map V.int))->ns.Perm (Zjn S es f)->ns.Pairwise (·<=·)->Q (.ref l) H'
theorem ok_arms {f:Addr} {fd:FuncData} (F:Fun K "arms" "arms" Zm9 f fd) (T:Txt K mg C G S) (C_hanging:Cal P w K mg base "hanging" 1 spHg):FnOk P w K mg base CX0 2 f fd ["points","arrows","fork"] Zm6:=by
 have nd:=Zm8.nd;refine F.ok Zm8 (λvs H Q E h=>?_) (λcdv A outer s H vs Q E hr h=>?_)
 .refine xE6_2 h λa b S xs es f e913 _=>?_;clear h;obtain rfl:=e913;rfl
 .refine Zpj h λa b S xs es f e914 ha hb e915=>?_;clear h;obtain rfl:=e914;refine Zfe e915 λnS h8 h9 hp hin q=>?_;clear e915;refine ⟨_,((Zj2 (i:=3) (own:=["point"]) (fr:=[("fork",2)]) rfl (Zb5 (by kernel_rfl)) (Zat (pv 0)) (λ_ _ _ _=>⟨(@Zah _ _ 0 _ (show (["point","fork"]:List Str).Nodup by decide +kernel) rfl (Or.inl rfl) (Or.inr rfl)),(Zep (Zai Zd9 (pv 0) (pv 1) (Zan _))),(pv 0)⟩) nd rfl rfl rfl)<*>(~~~(Za0 Zeu rfl T.n_sorted boot_sorted ((Za2 (own:=["arm"]) (fr:=[]) rfl (Zb5 (by kernel_rfl)) (Zat (Zby C_hanging hr.m rfl ((pv 3)<&>((Za2 (own:=["arrow"]) (fr:=[("fork",2)]) rfl (Zb5 (by kernel_rfl)) (Zat (pv 1)) (λ_ _ _ _=>⟨(@Zah _ _ 0 _ (show (["arrow","fork"]:List Str).Nodup by decide +kernel) rfl (Or.inl rfl) (Or.inr rfl)),(Zep (Zai (Zic K rfl) (pv 1) (pv 0) (by with_unfolding_all rfl))),(pv 0)⟩))<&>Zaa)))) (λ_ _ _ _=>⟨(@Zah _ _ 0 _ (show (["arm"]:List Str).Nodup by decide +kernel) rfl (Or.inl rfl) (Or.inr rfl)),Zbc,(Za0 (Zim K rfl) rfl T.n_len Jbl ((pv 0)<&>Zaa))⟩))<&>Zaa)))),?_⟩;refine Zcs λX hX=>?_;walk_at "wp";refine ⟨_,rfl,a,rfl,⟨_,SqL.of ha⟩,λD hD=>Zkg (λx=>decide (x ≠ f)) ha hD (by omega) (λx H' Q' hx s' q'=>?_) λH1 s1 e1=>?_⟩
  .have e:(!decide (V.int x = V.int f)) = decide (x ≠ f):=by
    by_cases z:x = f
    .simp [z]
    .simp [z]
   exact ⟨_,rfl,_,rfl,rfl,_,rfl,e ▸ q'⟩
  subst hX;walk_at "wp";refine ⟨_,rfl,_,rfl,b,rfl,⟨_,SqL.of (s1 _ _ hb)⟩,λD2 hD2=>Zo3 (λq=>decide (q.1 ≠ f/\q.2 ≠ f)) (s1 _ _ hb) (hp.same s1) hD2 (by omega) (λt q' H' Q' hq ht s' k'=>?_) λys H2 s2 e2 pr2 ly=>?_⟩
  .have e:(!inV (V.int f) [V.int q'.1,V.int q'.2]) = decide (q'.1 ≠ f/\q'.2 ≠ f):=by
    have:inV (V.int f) [V.int q'.1,V.int q'.2] = (decide (q'.1 = f) || decide (q'.2 = f)):=by
     simp only [inV,Jcv,List.any_nil,Bool.or_false,eqV];rw [Jbm];simp
    rw [this];by_cases z:q'.1 = f <;> by_cases y:q'.2 = f <;> simp [z,y]
   exact ⟨_,rfl,_,rfl,t,_,rfl,.inr (SqT.of ht),rfl,rfl,_,rfl,e ▸ k'⟩
  have nO:(L3.oth S f).Nodup:=Ja7 Ja0 nS;have lO:(L3.oth S f).length<=8:=Ja3 (Ja9 _ _) h8;refine Zip D D2 (L3.oth S f) ys (esF es f) ⟨rfl,s2 _ _ e1,e2,nO,lO,by omega,pr2,λq' hq'=>?_,λp qs H3 s3 fp hp3 rf=>?_⟩
  .obtain ⟨m1,m2⟩:=Jap.mp hq';have m2:=Jas m2;exact ⟨L3.Za9.mpr ⟨(hin q' m1).1,m2.1⟩,L3.Za9.mpr ⟨(hin q' m1).2,m2.2⟩⟩
  have rl:=rf.1;have lr:(Zeo (L3.oth S f) (Zbn (esF es f))).length<=8:=by
   unfold Zeo;rw [Jab];exact Ja3 (Ja9 _ _) lO
  refine ⟨p,rfl,⟨_,SqL.of hp3⟩,λD3 hD3=>Zb0 (xs:=qs) (λi vs H=>Same H3 H/\H D3 = some (.lst vs)/\vs = (((Zeo (L3.oth S f) (Zbn (esF es f))).take i).map λr=>((r.length:Nat):Int)).map V.int) ⟨Same.new hD3,Zab,rfl⟩ (λi vs H _ k=>SqL.of (k.1 _ _ hp3)) ?_ ?_⟩
  .intro i x vs σ' H' hi hx sh e94;refine Zav e94 λs' e' e916=>?_;clear e94;obtain rfl:=e916;obtain ⟨z,rfl⟩:=sh.one;have hi':i < (Zeo (L3.oth S f) (Zbn (esF es f))).length:=by omega
   have hr':=Jaa hi';refine Zpk (rf.2 i x _ hx hr') λt e917 _ _ ht=>?_;obtain rfl:=e917;simp only [Zdi,Zba,Zgf,List.set_cons_zero,Jcl];refine ⟨_,rfl,_,rfl,_,.inl (SqL.of (s' _ _ ht)),?_⟩;refine leaf (ws:=(((Zeo (L3.oth S f) (Zbn (esF es f))).take (i + 1)).map λr=>((r.length:Nat):Int)).map V.int) hi Sh.mk1 e' (Zal (by rw [Jab,Jab,Jbd]; omega)) ⟨s'.upd hD3,?_,rfl⟩;rw [Zab,Jbo,hr',Ja5,Ja5,Jab];rfl
  .intro vs H4 e95;refine Zav e95 λs4 e4 e918=>?_;clear e95;obtain rfl:=e918;rw [rl,Jbv] at e4;refine ⟨D3,rfl,_,SqL.of e4,by rw [Jab]; omega,λl ns' hl pm so=>q l ns' _ ?_ ?_ Zab pm so⟩
   .exact (((s1.trans s2).trans s3).trans s4).trans (Same.new hl)
   .exact (((s1.trans s2).trans s3).trans s4).free hl
def Zmb (S:List Int) (es:List (Int × Int)) (r:Kd):Prop:=
 (es.length + 1 ≠ S.length/\r = none)\/(es.length + 1 = S.length/\(((S.filter λx=>decide (2 < (Zbt es).count x)) = []/\r = (some (Str.ofString "A",(S.length:Int)):Kd)) \/
  ∃ f rest,(S.filter λx=>decide (2 < (Zbt es).count x)) = f :: rest/\(((rest ≠ []\/3 < (Zbt es).count f)/\r = none)\/(rest = []/\¬ 3 < (Zbt es).count f/\∃ ns:List Int,ns.Perm (Zjn S es f)/\ns.Pairwise (·<=·)/\r = kd S.length ns))))
def spKo:Sp:=λvs H Q _=>∃ (a b:Addr) (S:List Int) (xs:List V) (es:List (Int × Int)),vs = [.ref a,.ref b]/\H a = some (.lst (S.map V.int))/\H b = some (.lst xs)/\S.Nodup/\S.length<=8/\xs.length<=9/\Prs H xs es/\(∀ q ∈ es,q.1 ∈ S/\q.2 ∈ S) /\
 ∀ r v H',Zmb S es r->Same H H'->KdV H' v r->Q v H'
theorem ok_ko {f:Addr} {fd:FuncData} (F:Fun K "kind_of" "kind_of" Zgv f fd) (T:Txt K mg C G S) (C_arms:Cal P w K mg base "arms" 2 Zm6) (C_forked_kind:Cal P w K mg base "forked_kind" 1 spFk):FnOk P w K mg base CX0 3 f fd ["points","arrows"] spKo:=by
 have nd:=Zhn.nd;refine F.ok Zhn (λvs H Q E h=>?_) (λcdv A outer s H vs Q E hr h=>?_)
 .refine xE5_2 h λa b S xs es e919 _=>?_;clear h;obtain rfl:=e919;rfl
 .refine Zct h λa b S xs es e920 ha hb e921=>?_;clear h;obtain rfl:=e920;refine Zfe e921 λnS h8 h9 hp hin q=>?_;clear e921;refine ⟨_,((Zas (i:=2) nd rfl (Or.inl rfl) (Za0 Zaq rfl T.n_len Jbl ((pv 0)<&>Zaa)))<*>((@Za1 _ _ _ _ _ _ _ _ (Zai Zd9 (Za0 Zaq rfl T.n_len Jbl ((pv 1)<&>Zaa)) (Zrq<|>(pv 2)<&&>Zac) (Zan _)) (~~~Zky) Zam)<*>((Zas (i:=3) nd rfl (Or.inr rfl) (Zp4 (own:=["arrow","end"]) (fr:=[]) rfl (Zb5 (by kernel_rfl)) (Zat (pv 1)) (λ_ _ _ _=>⟨(@Zah _ _ 0 _ (show (["arrow","end"]:List Str).Nodup by decide +kernel) rfl (Or.inl rfl) (Or.inr rfl)),(pi_tupK K rfl (pv 0)),(@Zah _ _ 1 _ (show (["arrow","end"]:List Str).Nodup by decide +kernel) rfl (Or.inl rfl) (Or.inr rfl)),(pv 1)⟩)))<*>((Zj2 (i:=4) (own:=["point"]) (fr:=[("ends",3)]) rfl (Zb5 (by kernel_rfl)) (Zat (pv 0)) (λ_ _ _ _=>⟨(@Zah _ _ 0 _ (show (["point","ends"]:List Str).Nodup by decide +kernel) rfl (Or.inl rfl) (Or.inr rfl)),(Zep (Zai Zg5 (pe_bmK K rfl Ja1 PySem.F.slot_list_count PySem.F.type_list_count Zi6 (pv 1) ((pv 0)<&>Zaa)) Zac (Zan _))),(pv 0)⟩) nd rfl rfl rfl)<*>((@Za1 _ _ _ _ _ _ _ _ (Za6 (Zpy (pv 4) (λ_=>rfl))) (~~~(@Zax _ _ _ _ _ (Zcg<&>((pv 2)<&>Zaa)))) Zam)<*>((@Za1 _ _ _ _ _ _ _ _ (PW.pt (Zc7 (Zai Zg5 (Za0 Zaq rfl T.n_len Jbl ((pv 4)<&>Zaa)) Zac (Zan _)) (Zb8 (Zai Zg5 (Zg4 Ja1 PySem.F.slot_list_count PySem.F.type_list_count Zi6 (pv 3) ((Za3<|>(pv 4)<||>Zac)<&>Zaa)) Zac (Zan _))))) (~~~Zky) Zam)<*>(~~~(Zby C_forked_kind hr.m rfl ((pv 2)<&>((Zby C_arms hr.m rfl ((pv 0)<&>((pv 1)<&>((Za3<|>(pv 4)<||>Zac)<&>Zaa))))<&>Zaa)))))))))),?_⟩;have hl:=hp.1;refine Zcs λX hX=>?_;walk_at "wp";refine ⟨_,.inl (SqL.of ha),?_⟩;rw [Jab];subst hX;refine Zcs λX hX=>?_;walk_at "wp";refine ⟨_,.inl (SqL.of hb),Zcx (λhc=>?_) (λhc=>?_)⟩
  .refine q none .non H (.inl ⟨λz=>?_,rfl⟩) (Same.refl _) rfl;rw [Jad (by omega)] at hc;cases hc
  have el:es.length + 1 = S.length:=by
   have:decide ((xs.length:Int) = (S.length:Int) - 1) = true:=by simpa using hc
   have:=Jas this;omega
  subst hX;refine Zcs λX hX=>?_;walk_at "wp";refine ⟨_,rfl,b,rfl,⟨_,SqL.of hb⟩,λD hD=>Zl9 hb hp hD h9 λH1 s1 e1=>?_⟩;subst hX;refine Zcs λX hX=>?_;walk_at "wp";refine ⟨_,rfl,a,rfl,⟨_,SqL.of (s1 _ _ ha)⟩,λD2 hD2=>Zkg (λx=>decide (2 < (Zbt es).count x)) (s1 _ _ ha) hD2 (by omega) (λx H' Q' hx s' q'=>?_) λH2 s2 e2=>?_⟩
  .have e:decide ((2:Int) < ((Zbt es).count x:Nat)) = decide (2 < (Zbt es).count x):=by rw [Jcp]; omega
   have h1:=s' _ _ e1;exact ⟨_,rfl,.inl ⟨rfl,_,SqL.of h1⟩,_,rfl,D,_,x,rfl,rfl,h1,_,_,rfl,rfl,_,rfl,e ▸ q'⟩
  have s12:=s1.trans s2;subst hX;refine Zcs λX hX=>?_;walk_at "wp";cases ef:S.filter (λx=>decide (2 < (Zbt es).count x)) with
  | nil=>
   rw [ef] at e2;refine ⟨false,.inl ⟨_,SqL.of e2,rfl⟩,Zpe rfl ⟨by decide,λt ht=>?_⟩⟩;exact q (some (Str.ofString "A",(S.length:Int))) _ _ (.inr ⟨el,.inl ⟨ef,rfl⟩⟩) (s12.trans (Same.new ht)) ⟨t,rfl,Zab⟩
  | cons f0 rest=>
   rw [ef] at e2;refine ⟨true,.inl ⟨_,SqL.of e2,rfl⟩,Zkb (by decide) ?_⟩;subst hX;refine Zcs λX hX=>?_;walk_at "wp";have h1:=s2 _ _ e1;have no:(rest ≠ []\/3 < (Zbt es).count f0)->Q .non H2:=λz=>q none .non H2 (.inr ⟨el,.inr ⟨f0,rest,ef,.inl ⟨z,rfl⟩⟩⟩) s12 rfl;refine ⟨_,.inl (SqL.of e2),Zcx (λhc=>no (.inl λz=>?_)) (λhc=>⟨.inl ⟨rfl,_,SqL.of h1⟩,_,SqL.of e2,V.int f0,Zhe (by decide) (by simp),_,f0,rfl,h1,Zcx (λh3=>no (.inr ?_)) (λh3=>?_)⟩)⟩
   .rw [z] at hc;simp at hc
   .have:=Jas h3;omega
   have hr0:rest = []:=by
    cases rest with
    | nil=>rfl
    | cons y ys=>exact absurd (Jad (by simp; omega)) hc
   have h3':¬ 3 < (Zbt es).count f0:=λz=>h3 (Jad (by omega));subst hX;walk_at "wp";refine ⟨_,SqL.of e2,V.int f0,Zhe (by decide) (by simp),a,b,S,xs,es,f0,rfl,s12 _ _ ha,s12 _ _ hb,nS,h8,h9,hp.same s12,hin,λl ns H3 s3 fl hl3 pm so=>?_⟩;have ln:ns.length<=900:=by
    rw [pm.length_eq];unfold Zjn Zeo;rw [Jab,Jab];have l1:=Ja9 (λx=>decide (Zbn (esF es f0) x = x)) (L3.oth S f0);have l2:(L3.oth S f0).length<=S.length:=Ja9 _ _;omega
   exact Zbg _ l ns ⟨rfl,hl3,ln,λv H4 s4 kv=>q _ v H4 (.inr ⟨el,.inr ⟨f0,rest,ef,.inr ⟨hr0,h3',ns,pm,so,rfl⟩⟩⟩) ((s12.trans s3).trans s4) kv⟩
def Zdg (n:Nat):List Int:=(List.range n).map λj=>((j:Nat):Int)
theorem Zrl (n:Nat):(Zdg n).map V.int = ptsV n:=by unfold Zdg ptsV; rw [Jcj]; rfl
theorem Zh8 (n:Nat):(Zdg n).Nodup:=by
 unfold Zdg;refine L3.Zbl List.nodup_range λx _ y _ e=>by omega
theorem Zc9 {n:Nat} {x:Int}:x ∈ Zdg n ↔ 0<=x/\x < n:=by
 unfold Zdg;rw [Jan];constructor
 .intro e91;refine Zad e91 λj hj e96=>?_;clear e91;obtain rfl:=e96;have:=Jcg.mp hj;omega
 .intro e92;obtain ⟨h0,h1⟩:=e92;exact ⟨x.toNat,Jcg.mpr (by omega),by omega⟩
theorem Zcj (n:Nat) (f:Int->Int) (k:Int):Zmd (Zdg n) f k = Zhq n f k:=by
 unfold Zmd Zdg Zhq;rw [List.filter_map];rfl
theorem Zdv (n:Nat) (f:Int->Int):Zeo (Zdg n) f = Zc6 n f:=by
 unfold Zeo Zc6 Zdg;rw [List.filter_map,Jcj];refine Jc2 λi _=>?_;exact Zcj n f _
theorem ok_pcs {f:Addr} {fd:FuncData} (F:Fun K "pieces" "Drawing.pieces" Zb3 f fd) (T:Txt K mg C G S) (C_hanging:Cal P w K mg base "hanging" 1 spHg):FnOk P w K mg base CX0 2 f fd ["self"] (Zh1 C):=by
 have nd:=Zcw.nd;refine F.ok Zcw (λvs H Q E h=>?_) (λcdv A outer s H vs Q E hr h=>?_)
 .refine Zd6 h λx m ps e97 _=>?_;clear h;obtain rfl:=e97;rfl
 .refine Zb1 h λx m ps e98 e99 hin e910=>?_;clear h;obtain rfl:=e98;obtain ⟨lp,xs,⟨dx,hx,hlp⟩,hl9,hps⟩:=e99;refine Zav e910 λm0 m8 q=>?_;clear e910;refine ⟨_,(~~~(Zby C_hanging hr.m rfl ((Zg3 (Zfb rfl) rfl T.n_list Jc0 ((Zg3 Zji rfl T.n_range boot_range ((Zbb (pv 0) rfl)<&>Zaa))<&>Zaa))<&>((Zbb (pv 0) rfl)<&>Zaa)))),?_⟩;walk_at "wp";refine Zbg _ _ _ ⟨hx,T.cl_Drawing,T.nM,_,rfl,m,rfl,λp hp=>⟨_,_,Zab,⟨by omega,by omega,by omega,by omega⟩,by omega,λl hl=>?_⟩⟩;have s2:Same H (upd (upd H p (.rng 0 m)) l (.lst (Znk 0 m))):=(Same.new hp).trans (Same.new hl);have em:((m.toNat:Nat):Int) = m:=Jca (by omega);have lp8:(Zdg m.toNat).length = m.toNat:=by unfold Zdg; simp
  refine Zbg _ _ _ ⟨s2 _ _ hx,T.cl_Drawing,T.nA,_,rfl,l,lp,Zdg m.toNat,xs,ps,rfl,by rw [Zab,Zkv,Zrl],s2 _ _ hlp,Zh8 _,by rw [lp8]; omega,hl9,hps.same s2,λq' hq'=>?_,λp qs H' s' fp hp' rr=>q p qs H' (s2.trans s') (s2.free fp) hp' (by rw [Zdv] at rr; exact rr.old s2)⟩;refine Zbh (hin q' hq') λa1 a2 a3 a4=>?_;exact ⟨Zc9.mpr ⟨a1,by omega⟩,Zc9.mpr ⟨a3,by omega⟩⟩
def Zbv (ps:List (Int × Int)) (S:List Int):List (Int × Int):=ps.filter λq=>decide (q.1 ∈ S)
def KdsF (H:Hp) (vs:List V) (L:List (List Int)) (ps:List (Int × Int)):Prop:=vs.length = L.length/\∀ (i:Nat) v S,vs[i]? = some v->L[i]? = some S->∃ r,Zmb S (Zbv ps S) r/\KdV H v r
theorem Zc8 {n:Nat} {f:Int->Int} {k x:Int}:x ∈ Zhq n f k ↔ (0<=x/\x < n)/\f x = k:=by
 rw [<- Zcj];unfold Zmd;rw [Jap,Zc9,Jbw]
theorem Zgy {n:Nat} {f:Int->Int} {S:List Int} (h:S ∈ Zc6 n f):∃ k:Int,f k = k/\(0<=k/\k < n)/\S = Zhq n f k:=by
 rw [<- Zdv] at h;unfold Zeo at h;refine Zad (Jan.mp h) λk hk e=>?_;obtain ⟨h1,h2⟩:=Jap.mp hk;exact ⟨k,Jas h2,Zc9.mp h1,by rw [<- e,Zcj]⟩
theorem Zrj {n:Nat} {f:Int->Int} {k:Int}:(Zhq n f k).Nodup:=by
 rw [<- Zcj];exact Ja7 Ja0 (Zh8 n)
theorem Zrs {m:Int} {ps:List (Int × Int)} (hin:InP m ps) (m0:0<=m) {S:List Int} (h:S ∈ Zc6 m.toNat (Zbn ps)) {q:Int × Int} (hq:q ∈ ps):q.1 ∈ S ↔ q.2 ∈ S:=by
 refine Zao (Zgy h) λk _ _ e911=>?_;obtain rfl:=e911;have c:=(Zid hin).2 q hq;refine Zbh (hin q hq) λa1 a2 a3 a4=>?_;rw [Zc8,Zc8,c];constructor
 .rintro ⟨_,e⟩; exact ⟨⟨a3,by omega⟩,e⟩
 .rintro ⟨_,e⟩; exact ⟨⟨a1,by omega⟩,e⟩
theorem Zoi (S:List Int):(S.map V.int).all Zha = true:=by
 rw [Jbu];intro v hv;refine Zad (Jan.mp hv) λx _ e912=>?_;obtain rfl:=e912;rfl
theorem in_ints (x:Int) (S:List Int):inV (V.int x) (S.map V.int) = decide (x ∈ S):=by
 rw [Jbm,Jbw];unfold inV;rw [List.any_eq_true];constructor
 .intro e93;refine Zad e93 λv hv e=>?_;clear e93;refine Zad (Jan.mp hv) λy hy e913=>?_;obtain rfl:=e913;simp only [eqV,Jbg] at e;rw [<- e];exact hy
 .intro h;exact ⟨V.int x,Jan.mpr ⟨x,h,rfl⟩,by simp [eqV]⟩
theorem KdsF.same {H H':Hp} {vs:List V} {L:List (List Int)} {ps:List (Int × Int)} (h:KdsF H vs L ps) (s:Same H H'):KdsF H' vs L ps:=⟨h.1,λi v S e1 e2=>let ⟨r,k1,k2⟩:=h.2 i v S e1 e2; ⟨r,k1,k2.same s⟩⟩
theorem KdV.put {H:Hp} {D:Addr} {l:List V} {o:HO} {v:V} {k:Kd} (h:KdV H v k) (hD:H D = some (.lst l)):KdV (upd H D o) v k:=by
 cases k with
 | none=>exact h
 | some k=>
  refine Zad h λt e ht=>?_;clear h;exact ⟨t,e,by rw [Zaf (λz=>by rw [z,hD] at ht; cases ht)]; exact ht⟩
theorem KdsF.add {H:Hp} {D:Addr} {l vs:List V} {o:HO} {L:List (List Int)} {ps:List (Int × Int)} {v:V} {S:List Int} {r:Kd} (h:KdsF H vs L ps) (hD:H D = some (.lst l)) (k1:Zmb S (Zbv ps S) r) (k2:KdV H v r):KdsF (upd H D o) (vs ++ [v]) (L ++ [S]) ps:=by
 refine ⟨by rw [Jam,Jam,h.1]; rfl,λi v' S' e1 e2=>?_⟩;have hl:=h.1;by_cases hi:i < vs.length
 .rw [Jai hi] at e1;rw [Jai (by omega)] at e2;refine Zad (h.2 i v' S' e1 e2) λr' a1 a2=>?_;exact ⟨r',a1,a2.put hD⟩
 .rw [Jal (by omega)] at e1;rw [Jal (by omega),<- hl] at e2;cases ei:i - vs.length with
  | zero=>
   rw [ei] at e1 e2;cases e1;cases e2;exact ⟨r,k1,k2.put hD⟩
  | succ j=>
   rw [ei] at e1;cases e1
def Zjy (C:Addr):Sp:=λvs H Q _=>∃ (x:Addr) (m:Int) (ps:List (Int × Int)),vs = [.ref x]/\Drw C H x m ps/\InP m ps/\1<=m/\m<=8 /\
 ∀ p us H',Same H H'->H p = none->H' p = some (.lst us)->KdsF H' us (Zc6 m.toNat (Zbn ps)) ps->Q (.ref p) H'
theorem Zqg {f:Addr} {fd:FuncData} (F:Fun K "kinds" "Drawing.kinds" Zce f fd) (T:Txt K mg C G S) (C_Drawing_pieces:CalM P w K mg base C "pieces" 2 (Zh1 C)) (C_kind_of:Cal P w K mg base "kind_of" 3 spKo):FnOk P w K mg base CX0 4 f fd ["self"] (Zjy C):=by
 have nd:=Zdf.nd;refine F.ok Zdf (λvs H Q E h=>?_) (λcdv A outer s H vs Q E hr h=>?_)
 .refine Zd6 h λx m ps e914 _=>?_;clear h;obtain rfl:=e914;rfl
 .refine Zb1 h λx m ps e915 dw hin e916=>?_;clear h;obtain rfl:=e915;refine Zav e916 λm0 m8 q=>?_;clear e916;refine ⟨_,(~~~(Za2 (own:=["piece"]) (fr:=[("self",0)]) rfl (Zb5 (by kernel_rfl)) (Zat (Zns T.cl_Drawing C_Drawing_pieces hr.m (pv 0))) (λ_ _ _ _=>⟨(@Zah _ _ 0 _ (show (["piece","self"]:List Str).Nodup by decide +kernel) rfl (Or.inr rfl) (Or.inl rfl)),Zbc,(Zby C_kind_of hr.m rfl ((pv 0)<&>((Za2 (own:=["arrow"]) (fr:=[("piece",0)]) rfl (Zb5 (by kernel_rfl)) (Zia K rfl (pe_fldK K rfl (pv 1) rfl)) (λ_ _ _ _=>⟨(@Zah _ _ 0 _ (show (["arrow","piece"]:List Str).Nodup by decide +kernel) rfl (Or.inl rfl) (Or.inr rfl)),(Zep (Zai (Zlv K rfl) ((Zka K rfl)<|>(pv 0)<||>Zac) (pv 1) (by with_unfolding_all rfl))),(pv 0)⟩))<&>Zaa)))⟩))),?_⟩;refine Zca (id dw) λlp xs e917 hl9 hps=>?_;obtain ⟨dx,hx,hlp⟩:=e917;walk_at "wp";refine ⟨_,rfl,x,dx,_,rfl,hx,Zoo m lp (by decide) (by decide),x,m,ps,rfl,dw,hin,m0,m8,λp qs H1 s1 fp hp1 rf=>?_⟩;have rl:=rf.1;have lr:(Zc6 m.toNat (Zbn ps)).length<=8:=by
   rw [<- Zdv];unfold Zeo Zdg;rw [Jab];refine Ja3 (Ja9 _ _) ?_;simp;omega
  refine ⟨p,rfl,⟨_,SqL.of hp1⟩,λD hD=>Zb0 (xs:=qs) (λi vs H=>Same H1 H/\H D = some (.lst vs)/\KdsF H vs ((Zc6 m.toNat (Zbn ps)).take i) ps) ⟨Same.new hD,Zab,rfl,λi v S e1 _=>by simp at e1⟩ (λi vs H _ k=>SqL.of (k.1 _ _ hp1)) ?_ ?_⟩
  .intro i x' vs σ' H' hi hx' sh e94;refine Zav e94 λs' e' kf=>?_;clear e94;obtain ⟨z,rfl⟩:=sh.one;have hi':i < (Zc6 m.toNat (Zbn ps)).length:=by omega
   have hr':=Jaa hi';refine Zpk (rf.2 i x' _ hx' hr') λt e918 _ _ ht=>?_;obtain rfl:=e918;have mS:=Jag hr';generalize (Zc6 m.toNat (Zbn ps))[i] = S at *;simp only [Zdi,Zba,Zgf,List.set_cons_zero,Jcl];have sH:=s1.trans s';have hx1:=sH _ _ hx;have hl1:=sH _ _ hlp;have ht1:=s' _ _ ht;refine Zao (Zgy mS) λk _ _ eS=>?_;have nS:S.Nodup:=by rw [eS]; exact Zrj
   have lS:S.length<=8:=by
    rw [eS,<- Zcj];unfold Zmd Zdg;refine Ja3 (Ja9 _ _) ?_;simp;omega
   refine ⟨_,rfl,_,rfl,x,C,dx,_,_,rfl,hx1,T.cl_Drawing,T.nA,Zch _ _,lp,rfl,⟨_,SqL.of hl1⟩,λD2 hD2=>Zo3 (λq=>decide (q.1 ∈ S)) hl1 (hps.same sH) hD2 (by omega) (λt' q' H2 Q' hq ht' s2 k'=>?_) λys H2 s2 e2 pr2 ly=>?_⟩
   .exact ⟨_,rfl,t',_,0,V.int q'.1,rfl,rfl,SqT.of ht',Zhe (by decide) (by simp),_,rfl,t,_,rfl,.inl (SqL.of (s2 _ _ ht1)),rfl,Zoi S,_,rfl,in_ints q'.1 S ▸ k'⟩
   refine Zip t D2 S ys (Zbv ps S) ⟨rfl,s2 _ _ ht1,e2,nS,lS,by omega,pr2,λq' hq'=>?_,λr v H3 kp s3 kv=>?_⟩
   .obtain ⟨m1,m2⟩:=Jap.mp hq';have m2:=Jas m2;exact ⟨m2,(Zrs hin (by omega) mS m1).mp m2⟩
   have s23:=s2.trans s3;have kl:=kf.1;rw [Jbd] at kl;refine leaf (ws:=vs ++ [v]) hi Sh.mk1 (s23 _ _ e') (Zal (by omega)) ⟨(s'.trans s23).upd hD,Zab,?_⟩;rw [Jbo,hr'];exact (kf.same s23).add (s23 _ _ e') kp kv
  .intro vs H4 e95;refine Zav e95 λs4 e4 kf=>?_;clear e95;rw [rl,Jbv] at kf;exact q D vs H4 (s1.trans s4) (s1.free hD) e4 kf
end
end Pf
namespace Pf
open PySem L2 PyProof.Rows
section
variable {P:Program} {w:World} {K:PySem.W.Frag} {mg:Str->Option Value} {base:Heap} {C G S:Addr}
structure Far (ps:List (Int × Int)) (S:List Int) (f:Int) (R:List Int) (d:Int->Nat) (kvs:List (Key × V)):Prop where
 nd:R.Nodup
 fR:f ∈ R
 sub:∀ x ∈ R,x ∈ S
 d0:d f = 0
 vals:∀ x:Int,Zfx kvs (.inl x) = if x ∈ R then some (.int ((d x:Nat):Int)) else none
 par:∀ x ∈ R,x ≠ f->∃ q ∈ ps,(q.1 = x/\q.2 ∈ R/\d q.2 + 1 = d x)\/(q.2 = x/\q.1 ∈ R/\d q.1 + 1 = d x)
 len:kvs.length = R.length
end
end Pf
namespace Pf
open PySem L2 PyProof.Rows
section
variable {P:Program} {w:World} {K:PySem.W.Frag} {mg:Str->Option Value} {base:Heap} {C G S:Addr}
structure Pc (m:Int) (ps:List (Int × Int)) (S:List Int):Prop where
 nd:S.Nodup
 le8:S.length<=8
 ne:S ≠ []
 cl:∀ q ∈ ps,q.1 ∈ S ↔ q.2 ∈ S
 cn:L3.Conn S (Zbv ps S)
 inm:∀ x ∈ S,0<=x/\x < m
 inp:InP m ps
theorem Pc.of {m:Int} {ps:List (Int × Int)} {S:List Int} (hin:InP m ps) (m0:0<=m) (m8:m<=8) (h:S ∈ Zc6 m.toNat (Zbn ps)):Pc m ps S:=by
 have lb:=Zid hin;refine Zao (Zgy h) λk ek hk e91=>?_;obtain rfl:=e91;have inS:∀ x ∈ Zhq m.toNat (Zbn ps) k,(0<=x/\x < m)/\Zbn ps x = k:=λx hx=>by
  obtain ⟨h1,h2⟩:=Zc8.mp hx;exact ⟨by omega,h2⟩
 refine ⟨Zrj,?_,λz=>?_,λq hq=>Zrs hin m0 h hq,λg hg x hx y hy=>?_,λx hx=>(inS x hx).1,hin⟩
 .rw [<- Zcj];unfold Zmd Zdg;refine Ja3 (Ja9 _ _) ?_;simp;omega
 .have:k ∈ Zhq m.toNat (Zbn ps) k:=Zc8.mpr ⟨hk,ek⟩;rw [z] at this;cases this
 .have co:=lb.1.co (λz=>if Zbn ps z = k then g z else 0) (λq hq=>by
   have e:=lb.2 q hq;refine Zbh (hin q hq) λa1 a2 a3 a4=>?_;by_cases z:Zbn ps q.1 = k
   .simp only [if_pos z,if_pos (e ▸ z)];refine hg q (Jap.mpr ⟨hq,Jad (Zc8.mpr ⟨⟨a1,by omega⟩,z⟩)⟩)
   .simp only [if_neg z,if_neg (λu=>z (e.trans u))])
  have one:∀ x ∈ Zhq m.toNat (Zbn ps) k,g x = g k:=λx hx=>by
   obtain ⟨⟨h1,h2⟩,h3⟩:=inS x hx;have:=co x h1 h2;simp only [h3,ek,Jcl] at this;exact this.symm
  rw [one x hx,one y hy]
theorem Zhu {x:Int}:∀ {es:List (Int × Int)},(∀ q ∈ es,q.1 ≠ q.2)->(Zbt es).count x = L3.deg es x
 | [],_=>rfl
 | q :: es,h=>by
  have ih:=Zhu (x:=x) (es:=es) λq' hq'=>h q' (Ja2 _ hq');have nq:=h q (by simp);unfold Zbt L3.deg at *;rw [List.flatMap_cons,List.count_append,ih,List.countP_cons];by_cases h1:q.1 = x
  .by_cases h2:q.2 = x
   .exact absurd (h1.trans h2.symm) nq
   .rw [if_pos (by simp [h1])]; simp [h1,h2]; omega
  .by_cases h2:q.2 = x
   .rw [if_pos (by simp [h2])]; simp [h1,h2]; omega
   .rw [if_neg (by simp [h1,h2])]; simp [h1,h2]
theorem Zi8 (p:Int->Bool):∀ l:List Int,l.length = (l.filter p).length + (l.filter λx=>!p x).length
 | []=>rfl
 | x :: l=>by
  have:=Zi8 p l;by_cases h:p x = true
  .simp [h]; omega
  .simp [h]; omega
theorem Zkp (g:Int->Int):∀ {R:List Int} (l:List Int),R.Nodup->(R.map λr=>(l.filter λx=>decide (g x = r)).length).sum<=l.length
 | [],l,_=>Jb6 _
 | r :: R,l,nd=>by
  have nd':=Jbr.mp nd;have ih:=Zkp g (R:=R) (l.filter λx=>!decide (g x = r)) nd'.2;have e:(R.map λr'=>((l.filter λx=>!decide (g x = r)).filter λx=>decide (g x = r')).length) = R.map λr'=>(l.filter λx=>decide (g x = r')).length:=by
   refine Jc2 λr' hr'=>?_;rw [List.filter_filter];congr 1;refine Jdb λx _=>?_;by_cases z:g x = r'
   .have:g x ≠ r:=λu=>nd'.1 (by rw [<- u,z]; exact hr');simp [z];rw [<- z];exact this
   .simp [z]
  rw [e] at ih;have h2:l.length = (l.filter λx=>decide (g x = r)).length + (l.filter λx=>!decide (g x = r)).length:=Zi8 _ l;rw [Jav,List.sum_cons];omega
theorem Zra {m:Int} {ps:List (Int × Int)} {S:List Int} {f:Int} {d:Int->Nat} (pc:Pc m ps S) (T:L3.Fk S (Zbv ps S) f d) (hf3:L3.deg (Zbv ps S) f = 3):
  (Zjn S (Zbv ps S) f).Perm ((S.filter λx=>decide (L3.deg (Zbv ps S) x = 1)).map λx=>((d x:Nat):Int))/\∃ ls:List Nat,Zjn S (Zbv ps S) f = ls.map (λn=>((n:Nat):Int))/\3<=ls.length/\ls.sum + 1<=S.length:=by
 have ie:InP m (esF (Zbv ps S) f):=λq hq=>pc.inp q (Jap.mp (Jap.mp hq).1).1;have mF:∀ q ∈ esF (Zbv ps S) f,q ∈ Zbv ps S/\q.1 ≠ f/\q.2 ≠ f:=λq hq=>by
  obtain ⟨h1,h2⟩:=Jap.mp hq;exact ⟨h1,Jas h2⟩
 have lb:=Zid ie;have ar:Zjn S (Zbv ps S) f = ((L3.oth S f).filter λx=>decide (Zbn (esF (Zbv ps S) f) x = x)).map λr=>(((Zmd (L3.oth S f) (Zbn (esF (Zbv ps S) f)) r).length:Nat):Int):=by
  unfold Zjn Zeo;rw [Jcj];rfl
 rw [ar];have mFi:∀ q ∈ Zbv ps S,q.1 ≠ f->q.2 ≠ f->q ∈ esF (Zbv ps S) f:=λq hq h1 h2=>Jap.mpr ⟨hq,Jad ⟨h1,h2⟩⟩;generalize Zbn (esF (Zbv ps S) f) = lab at *;have nO:(L3.oth S f).Nodup:=Ja7 Ja0 pc.nd;have iO:∀ x ∈ L3.oth S f,0<=x/\x < m:=λx hx=>pc.inm x (L3.Za9.mp hx).1;have labO:∀ x ∈ L3.oth S f,lab x ∈ L3.oth S f:=λx hx=>by
  have:=lb.1.co (λz=>if z ∈ L3.oth S f then 1 else 0) (λq hq=>by
   refine Zav (mF q hq) λh1 h2 h3=>?_;obtain ⟨i1,i2⟩:=T.inS q h1;simp only [if_pos (L3.Za9.mpr ⟨i1,h2⟩),if_pos (L3.Za9.mpr ⟨i2,h3⟩)]) x (iO x hx).1 (iO x hx).2
  simp only [if_pos hx] at this;by_cases z:lab x ∈ L3.oth S f
  .exact z
  .rw [if_neg z] at this; cases this
 have lab2:∀ x ∈ L3.oth S f,lab (lab x) = lab x:=λx hx=>lb.1.co lab lb.2 x (iO x hx).1 (iO x hx).2;have rl:∀ x ∈ L3.oth S f,L3.Zb7 d (Zbv ps S) f (lab x) = L3.Zb7 d (Zbv ps S) f x:=λx hx=>lb.1.co _ (λq hq=>by
  refine Zav (mF q hq) λh1 h2 h3=>?_;refine Zbh (T.prop h1) λp1 p2 p3 p4=>?_;have u:=T.up1_ce h1;have np:L3.pe d q ≠ f:=by
   rcases L3.Zes (d:=d) q with ⟨e1,e2⟩ | ⟨e1,e2⟩
   .rw [<- e2]; exact h3
   .rw [<- e1]; exact h2
  have st:=T.root_step p1 p2 (by rw [u]; exact np);rw [u] at st;rcases L3.Zes (d:=d) q with ⟨e1,e2⟩ | ⟨e1,e2⟩
  .rw [e1,e2]; exact st
  .rw [e1,e2]; exact st.symm) x (iO x hx).1 (iO x hx).2
 have lr:∀ (k:Nat) {x:Int},d x<=k->x ∈ L3.oth S f->lab (L3.Zb7 d (Zbv ps S) f x) = lab x:=by
  intro k
  induction k with
  | zero=>
   intro x hk hx;have:=T.pos (L3.Za9.mp hx).1 (L3.Za9.mp hx).2;omega
  | succ k ih=>
   intro x hk hx;obtain ⟨xS,xf⟩:=L3.Za9.mp hx;by_cases hu:L3.up1 d (Zbv ps S) x = f
   .rw [T.root_base xS xf hu]
   .refine Zao (T.up1_of xS xf) λq hq e1 e2=>?_;obtain ⟨u1,u2⟩:=T.up1_prop xS xf;rw [T.root_step xS xf hu,ih (by omega) (L3.Za9.mpr ⟨u1,hu⟩)];have hc:lab q.1 = lab q.2:=lb.2 q (by
     rcases L3.Zes (d:=d) q with ⟨c1,c2⟩ | ⟨c1,c2⟩
     .exact mFi q hq (by rw [c1,e1]; exact xf) (by rw [c2,<- e2]; exact hu)
     .exact mFi q hq (by rw [c1,<- e2]; exact hu) (by rw [c2,e1]; exact xf))
    rcases L3.Zes (d:=d) q with ⟨c1,c2⟩ | ⟨c1,c2⟩
    .rw [c1,c2,e1,<- e2] at hc; exact hc.symm
    .rw [c1,c2,e1,<- e2] at hc; exact hc
 have mR:∀ r,r ∈ (L3.oth S f).filter (λx=>decide (lab x = x)) ↔ r ∈ L3.oth S f/\lab r = r:=λr=>by rw [Jap,Jbw]
 have nR:((L3.oth S f).filter λx=>decide (lab x = x)).Nodup:=Ja7 Ja0 nO;have same:∀ r ∈ (L3.oth S f).filter (λx=>decide (lab x = x)),(Zmd (L3.oth S f) lab r).length = (L3.cls S d (Zbv ps S) f (L3.Zb7 d (Zbv ps S) f r)).length:=λr hr=>by
  obtain ⟨h1,h2⟩:=(mR r).mp hr;unfold Zmd L3.cls;congr 1;refine Jdb λx hx=>?_;rw [Jcp];constructor
  .intro e; rw [<- rl x hx,e]
  .intro e; rw [<- lr _ (Jah _) hx,e,lr _ (Jah _) h1,h2]
 have hall:∀ x ∈ S,x ≠ f->∃ r ∈ (L3.oth S f).filter (λx=>decide (lab x = x)),L3.Zb7 d (Zbv ps S) f r = L3.Zb7 d (Zbv ps S) f x:=λx hx xf=>by
  have xo:=L3.Za9.mpr ⟨hx,xf⟩;exact ⟨lab x,(mR _).mpr ⟨labO x xo,lab2 x xo⟩,rl x xo⟩
 have pm:=T.arms (by omega) nR (λr hr=>L3.Za9.mp ((mR r).mp hr).1) (λr hr r' hr' e=>by
  obtain ⟨h1,h2⟩:=(mR r).mp hr;obtain ⟨h3,h4⟩:=(mR r').mp hr';rw [<- h2,<- h4,<- lr _ (Jah _) h1,<- lr _ (Jah _) h3,e]) hall
 rw [<- Jc2 same] at pm;have sm:=Zkp lab (L3.oth S f) nR;have ol:=L3.Znx pc.nd T.fS;refine ⟨?_,_,(Jcj (f:=λr=>(Zmd (L3.oth S f) lab r).length) (g:=λn=>((n:Nat):Int))).symm,?_,?_⟩
 .have:=pm.map (λn=>((n:Nat):Int));rw [Jcj,Jcj] at this;exact this
 .have lc:((Zbv ps S).filter λq=>decide (L3.pe d q = f)).length = 3:=by
   rw [<- hf3,T.deg_f];unfold L3.chn;rw [List.count,List.countP_map,List.countP_eq_length_filter];rfl
  have:=L3.Zbm (l:=((Zbv ps S).filter λq=>decide (L3.pe d q = f)).map (L3.ce d)) (m:=((L3.oth S f).filter λx=>decide (lab x = x)).map (L3.Zb7 d (Zbv ps S) f)) (Ja7 (List.Sublist.map _ Ja0) T.cend) λc hc=>by
   refine Zad (Jan.mp hc) λq hq e91=>?_;obtain rfl:=e91;obtain ⟨h1,h2⟩:=Jap.mp hq;have h2:=Jas h2;refine Zbh (T.prop h1) λp1 p2 p3 p4=>?_;refine Zad (hall _ p1 p2) λr hr er=>?_;exact Jan.mpr ⟨r,hr,by rw [er,T.root_base p1 p2 (by rw [T.up1_ce h1,h2])]⟩
  rw [Jab,Jab,lc] at this;rw [Jab];exact this
 .unfold Zmd;omega
end
end Pf
namespace Pf
open PySem L2 PyProof.Rows
section
variable {P:Program} {w:World} {K:PySem.W.Frag} {mg:Str->Option Value} {base:Heap} {C G S:Addr}
theorem Pc.ins {m:Int} {ps:List (Int × Int)} {S:List Int} (pc:Pc m ps S):L3.Ins S (Zbv ps S):=λq hq=>by
 obtain ⟨h1,h2⟩:=Jap.mp hq;have h2:=Jas h2;exact ⟨h2,(pc.cl q h1).mp h2⟩
theorem Pc.tree {m:Int} {ps:List (Int × Int)} {S:List Int} (pc:Pc m ps S) (el:(Zbv ps S).length + 1 = S.length) {f:Int} (hf:f ∈ S):∃ d:Int->Nat,d f = 0/\L3.Tr S (Zbv ps S) f d/\∀ x,(Zbt (Zbv ps S)).count x = L3.deg (Zbv ps S) x:=by
 refine Zad (L3.Zoy pc.cn pc.ins pc.nd hf el) λd e0 T=>?_;exact ⟨d,e0,T,λx=>Zhu λq hq=>T.ne hq⟩
theorem Pc.three {m:Int} {ps:List (Int × Int)} {S:List Int} (pc:Pc m ps S) (el:(Zbv ps S).length + 1 = S.length) {f:Int} {ns:List Int} (hf:(S.filter λx=>decide (2 < (Zbt (Zbv ps S)).count x)) = [f]) (h3:¬ 3 < (Zbt (Zbv ps S)).count f) (pm:ns.Perm (Zjn S (Zbv ps S) f)):
  ∃ (d:Int->Nat) (a b c:Int),L3.Fk S (Zbv ps S) f d/\L3.Lvs S (Zbv ps S) f d [a,b,c]/\ns = [((d a:Nat):Int),((d b:Nat):Int),((d c:Nat):Int)]/\d a + d b + d c + 1<=S.length:=by
 have mf:f ∈ S/\2 < (Zbt (Zbv ps S)).count f:=by
  have:f ∈ S.filter λx=>decide (2 < (Zbt (Zbv ps S)).count x):=by rw [hf]; simp
  obtain ⟨h,h'⟩:=Jap.mp this;exact ⟨h,Jas h'⟩
 have only:∀ x ∈ S,2 < (Zbt (Zbv ps S)).count x->x = f:=λx hx h=>by
  have:x ∈ S.filter λx=>decide (2 < (Zbt (Zbv ps S)).count x):=Jap.mpr ⟨hx,Jad h⟩;rw [hf] at this;exact Jar.mp this
 refine Zao (pc.tree el mf.1) λd e0 T cE=>?_;have f3:L3.deg (Zbv ps S) f = 3:=by rw [<- cE]; omega
 have Tf:L3.Fk S (Zbv ps S) f d:=⟨T,e0,λx hx xf=>by
  have h6:=T.deg_x hx xf;rw [<- cE] at h6;have:¬ 2 < (Zbt (Zbv ps S)).count x:=λu=>xf (only x hx u);omega⟩
 obtain ⟨pa,ls,e2,l3,lsum⟩:=Zra pc Tf f3;refine Zad (L3.Znr (pm.trans pa) _ rfl) λL pL eL=>?_;have hL:=(Tf.lvs_is (by omega)).perm pL;have lL:=Tf.few_ends hL;rw [f3] at lL;have l1:=pm.length_eq;rw [e2,Jab,<- eL,Jab] at l1;have p2:=pm.map Int.toNat;have eid:(Int.toNat ∘ λn:Nat=>(n:Int)) = id:=funext λx=>Jdd x;rw [e2,Jcj,eid,List.map_id] at p2;have s2:=p2.sum_nat
 match L,eL,hL,lL,l1 with
 | [a,b,c],eL,hL,_,_=>
  refine Ziq d a b c ⟨Tf,hL,eL.symm,?_⟩;rw [<- eL] at s2;simp only [Jav,List.map_nil,List.sum_cons,List.sum_nil,Jdd] at s2;omega
 | [],_,_,_,l1=>simp at l1; omega
 | [_],_,_,_,l1=>simp at l1; omega
 | [_,_],_,_,_,l1=>simp at l1; omega
 | _ :: _ :: _ :: _ :: _,_,_,lL,_=>simp at lL
theorem Zqt {m:Int} {ps:List (Int × Int)} {S:List Int} {r:Str × Int} (pc:Pc m ps S) (k:Zmb S (Zbv ps S) (some r)):L3.DPos S (Zbv ps S):=by
 rcases k with ⟨_,h⟩ | ⟨el,k⟩
 .cases h
 rcases k with ⟨e0,_⟩ | ⟨f,rest,ef,k⟩
 .obtain ⟨z,zS⟩:=List.exists_mem_of_ne_nil S pc.ne;refine Zao (pc.tree el zS) λd d0 T cE=>?_;have le:∀ x ∈ S,L3.deg (Zbv ps S) x<=2:=λx hx=>Jax λh=>by
   have:x ∈ S.filter λx=>decide (2 < (Zbt (Zbv ps S)).count x):=Jap.mpr ⟨hx,Jad (by rw [cE]; omega)⟩;rw [e0] at this;cases this
  have Tf:L3.Fk S (Zbv ps S) z d:=⟨T,d0,λx hx xf=>by
   have h6:=T.deg_x hx xf;have:=le x hx;omega⟩
  exact Tf.posA Tf.ends_is (Ja3 (Tf.few_ends Tf.ends_is) (le z zS))
 .rcases k with ⟨_,h⟩ | ⟨rfl,h3,ns,pm,so,hk⟩
  .cases h
  refine Zcu (pc.three el ef h3 pm) λd a b c T hL e hs=>?_;have:=pc.le8;unfold kd at hk;by_cases c1:ns.take 2 = [1,1]
  .rw [e] at c1;simp only [Jdr,List.take_zero,Jcb,and_true] at c1;exact T.posD hL (by omega) (by omega)
  .rw [if_neg c1] at hk;by_cases c2:ns.take 2 = [1,2]
   .rw [e] at c2;simp only [Jdr,List.take_zero,Jcb,and_true] at c2;exact T.posE hL (by omega) (by omega) (by omega)
   .rw [if_neg λz=>c2 z.1] at hk;cases hk
def Zjo (n:Nat) (ps:List (Int × Int)):Prop:=∀ S ∈ Zc6 n (Zbn ps),∃ r,Zmb S (Zbv ps S) (some r)
def BadK (n:Nat) (ps:List (Int × Int)):Prop:=∃ S ∈ Zc6 n (Zbn ps),Zmb S (Zbv ps S) none
theorem Zqz {n:Nat} {ps:List (Int × Int)} (hin:InP (n:Nat) ps) (n8:n<=8) (g:Zjo n ps):L3.DPos (Zdg n) ps:=λX hX=>by
 have lb:=Zid hin;have mR:∀ k,k ∈ (Zdg n).filter (λx=>decide (Zbn ps x = x)) ↔ (0<=k/\k < n)/\Zbn ps k = k:=λk=>by rw [Jap,Zc9,Jbw]
 have toR:∀ x:Int,0<=x->x < (n:Nat)->Zbn ps x ∈ (Zdg n).filter λx=>decide (Zbn ps x = x):=λx h0 h1=>(mR _).mpr ⟨⟨lb.1.lo x h0 h1,lb.1.lt h0 h1⟩,lb.1.co _ lb.2 x h0 h1⟩;have nR:((Zdg n).filter λx=>decide (Zbn ps x = x)).Nodup:=Ja7 Ja0 (Zh8 n);have e1:=L3.Zne (g:=λp=>X p * X p) (Zbn ps) (l:=Zdg n) nR λx hx=>by
  obtain ⟨h0,h1⟩:=Zc9.mp hx;exact toR x h0 h1
 have e2:=L3.Zne (g:=λe:Int × Int=>X e.1 * X e.2) (λe=>Zbn ps e.1) (l:=ps) nR λe he=>by
  refine Zav (hin e he) λa1 a2 _=>?_;exact toR _ a1 a2
 have e3:L3.qf (Zdg n) ps X = L3.sI (λk=>L3.qf (Zhq n (Zbn ps) k) (Zbv ps (Zhq n (Zbn ps) k)) X) ((Zdg n).filter λx=>decide (Zbn ps x = x)):=by
  unfold L3.qf;rw [e1,e2,<- L3.Znb];refine L3.Zc5 λk hk=>?_;have r1:(Zdg n).filter (λx=>decide (Zbn ps x = k)) = Zhq n (Zbn ps) k:=Zcj n _ k;have r2:ps.filter (λe=>decide (Zbn ps e.1 = k)) = Zbv ps (Zhq n (Zbn ps) k):=Jdb λe he=>by
   refine Zav (hin e he) λa1 a2 _=>?_;rw [Jcp,Zc8];exact ⟨λh=>⟨⟨a1,a2⟩,h⟩,λh=>h.2⟩
  rw [r1,r2]
 have inL:∀ k,k ∈ (Zdg n).filter (λx=>decide (Zbn ps x = x))->Zhq n (Zbn ps) k ∈ Zc6 n (Zbn ps):=λk hk=>by
  rw [<- Zdv];unfold Zeo;exact Jan.mpr ⟨k,hk,Zcj n _ k⟩
 have pos:∀ k ∈ (Zdg n).filter (λx=>decide (Zbn ps x = x)),L3.DPos (Zhq n (Zbn ps) k) (Zbv ps (Zhq n (Zbn ps) k)):=λk hk=>by
  obtain ⟨r,kp⟩:=g _ (inL k hk);exact Zqt (Pc.of hin (by omega) (by omega) (by rw [Jdd]; exact inL k hk)) kp
 have nn:∀ k ∈ (Zdg n).filter (λx=>decide (Zbn ps x = x)),0<=L3.qf (Zhq n (Zbn ps) k) (Zbv ps (Zhq n (Zbn ps) k)) X:=λk hk=>by
  by_cases z:∃ p ∈ Zhq n (Zbn ps) k,X p ≠ 0
  .exact Int.le_of_lt (pos k hk X z)
  .have z:∀ p ∈ Zhq n (Zbn ps) k,X p = 0:=λp hp=>Jax λu=>z ⟨p,hp,u⟩;unfold L3.qf;rw [L3.Zna (λp hp=>by rw [z p hp]; rfl),L3.Zna (λe he=>by rw [z _ (Jas (Jap.mp he).2)]; exact Int.zero_mul _)];decide
 refine Zad hX λp hp hz=>?_;clear hX;obtain ⟨h0,h1⟩:=Zc9.mp hp;have:=L3.Znc (toR p h0 h1) nn;have:=pos _ (toR p h0 h1) X ⟨p,Zc8.mpr ⟨⟨h0,h1⟩,rfl⟩,hz⟩;rw [e3];omega
theorem sm_kd {H:Hp} {v:V} {k:Kd} (h:KdV H v k):(!decide (v = V.non)) = k.isSome:=by
 cases k with
 | none=>
  have h:v = .non:=h;subst h;rfl
 | some k=>
  refine Zad h λt e93 _=>?_;clear h;obtain rfl:=e93;rfl
theorem kds_all {H:Hp} {us:List V} {n:Nat} {ps:List (Int × Int)} (kf:KdsF H us (Zc6 n (Zbn ps)) ps):((us.map λv=>!decide (v = V.non)).all id = true->Zjo n ps)/\((us.map λv=>!decide (v = V.non)).all id = false->BadK n ps):=by
 obtain ⟨hl,h⟩:=kf;constructor
 .intro a S hS;obtain ⟨i,hi,e⟩:=Jbb.mp hS;have eS:(Zc6 n (Zbn ps))[i]? = some S:=by rw [Jaa hi,e]
  have eu:us[i]? = some (us[i]'(by omega)):=Jaa _;refine Zad (h i _ S eu eS) λr k1 k2=>?_;have:=sm_kd k2;rw [List.all_map,Jbu] at a;have a1:(!decide (us[i]'(by omega) = V.non)) = true:=a _ (Jby (by omega));rw [a1] at this;cases r with
  | none=>cases this
  | some r=>exact ⟨r,k1⟩
 .intro a;rw [List.all_map,List.all_eq_false] at a;refine Zad a λv hv e=>?_;clear a;obtain ⟨i,hi,rfl⟩:=Jbb.mp hv;have eS:(Zc6 n (Zbn ps))[i]? = some ((Zc6 n (Zbn ps))[i]'(by omega)):=Jaa _;refine Zad (h i _ _ (Jaa hi) eS) λr k1 k2=>?_;have:=sm_kd k2;have e:¬ (!decide (us[i] = V.non)) = true:=e;rw [this] at e;cases r with
  | none=>exact ⟨_,Jag eS,k1⟩
  | some r=>exact absurd rfl e
theorem Znh (n:Nat) (f:Int->Int):(Zc6 n f).length<=n:=by
 rw [<- Zdv];unfold Zeo Zdg;rw [Jab];refine Ja3 (Ja9 _ _) ?_;simp
def Zkq (C:Addr):Sp:=λvs H Q _=>∃ (x:Addr) (n:Nat) (ps:List (Int × Int)),vs = [.ref x]/\Drw C H x (n:Nat) ps/\InP (n:Nat) ps/\1<=n/\n<=8 /\
 (Zjo n ps->∀ H',Same H H'->Q (.bl true) H')/\(BadK n ps->∀ H',Same H H'->Q (.bl false) H')
theorem ok_good {f:Addr} {fd:FuncData} (F:Fun K "is_good" "is_good" Zgw f fd) (T:Txt K mg C G S) (C_Drawing_kinds:CalM P w K mg base C "kinds" 4 (Zjy C)):FnOk P w K mg base CX0 5 f fd ["drawing"] (Zkq C):=by
 have nd:=Zho.nd;refine F.ok Zho (λvs H Q E h=>?_) (λcdv A outer s H vs Q E hr h=>?_)
 .refine Zd6 h λx n ps e94 _=>?_;clear h;obtain rfl:=e94;rfl
 .refine Zb1 h λx n ps e95 dw hin e96=>?_;clear h;obtain rfl:=e95;refine Zbh e96 λn0 n8 q1 q2=>?_;clear e96;refine ⟨_,(~~~(Za0 (Zcl rfl) rfl T.n_all Jd7 ((Za2 (own:=["kind"]) (fr:=[]) rfl (Zb5 (by kernel_rfl)) (Zat (Zns T.cl_Drawing C_Drawing_kinds hr.m (pv 0))) (λ_ _ _ _=>⟨(@Zah _ _ 0 _ (show (["kind"]:List Str).Nodup by decide +kernel) rfl (Or.inl rfl) (Or.inr rfl)),Zbc,(Zb4 op_notN (pv 0) Zky (Zan _))⟩))<&>Zaa))),?_⟩;refine Zca (id dw) λlp xs e97 hl9 hps=>?_;obtain ⟨dx,hx,hlp⟩:=e97;walk_at "wp";refine ⟨_,rfl,x,dx,_,rfl,hx,Zoo (n:Nat) lp (by decide) (by decide),x,(n:Nat),ps,rfl,dw,hin,by omega,by omega,λp us H1 s1 fp hp1 kf=>?_⟩;rw [Jdd] at kf;have ul:=kf.1;have lr:=Znh n (Zbn ps);refine ⟨p,rfl,⟨_,SqL.of hp1⟩,λD hD=>Zb0 (xs:=us) (λi vs H=>Same H1 H/\H D = some (.lst vs)/\vs = ((us.take i).map λv=>!decide (v = V.non)).map V.bl) ⟨Same.new hD,Zab,rfl⟩ (λi vs H _ k=>SqL.of (k.1 _ _ hp1)) ?_ ?_⟩
  .intro i x' vs σ' H' hi hx' sh e91;refine Zav e91 λs' e' e98=>?_;clear e91;obtain rfl:=e98;obtain ⟨z,rfl⟩:=sh.one;simp only [Zdi,Zba,Zgf,List.set_cons_zero,Jcl];refine ⟨_,rfl,rfl,leaf (ws:=((us.take (i + 1)).map λv=>!decide (v = V.non)).map V.bl) hi Sh.mk1 e' (Zal (by rw [Jab,Jab,Jbd]; omega)) ⟨s'.upd hD,?_,rfl⟩⟩;rw [Zab,Jbo,hx',Ja5,Ja5];rfl
  .intro vs H4 e92;refine Zav e92 λs4 e4 e99=>?_;clear e92;obtain rfl:=e99;rw [Jbv] at e4;obtain ⟨g1,g2⟩:=kds_all kf;refine ⟨D,rfl,_,SqL.of e4,?_⟩;cases hb:(us.map λv=>!decide (v = V.non)).all id with
   | true=>exact q1 (g1 hb) _ (s1.trans s4)
   | false=>exact q2 (g2 hb) _ (s1.trans s4)
theorem Zo5 {lo:Int} {n:Nat} {D:Addr} {fr:List (Str × Nat)} {σ:L2.St} {te:TE} {H1:Hp} {Q:VK} (fb:Nat->Bool) (hD:H1 D = none) (hn:n<=1000)
  (h:∀ (i:Nat) H (Q:VK),i < n->Same H1 H->(∀ H',Same H H'->Q (.bl (fb i)) H')->te (some (.int (lo + (i:Nat))) :: Zcr fr σ) H Q)
  (hQ:∀ H',Same H1 H'->H' D = some (.lst (((List.range n).map fb).map V.bl))->Q (.ref D) H'):Zb6 (Zba 0) Zgf te (Itr lo n) D (Zfv 1 fr σ) H1 Q:=by
 refine Zgd (λi vs H=>Same H1 H/\H D = some (.lst vs)/\vs = ((List.range i).map fb).map V.bl) ⟨Same.new hD,Zab,rfl⟩ ?_ (λvs H ⟨s,e,hv⟩=>hQ H s (by rw [e,hv]));intro i x vs σ' H hi e91;obtain rfl:=e91;intro sh e92;refine Zav e92 λs e e94=>?_;clear e92;obtain rfl:=e94;obtain ⟨z,rfl⟩:=sh.one;simp only [Zdi,Zba,Zgf,List.set_cons_zero,Jcl];refine h i H _ hi s λH' s'=>?_;exact leaf (ws:=((List.range (i + 1)).map fb).map V.bl) hi Sh.mk1 (s' _ _ e) (Zal (by rw [Jab,Jab,Jcw]; omega)) ⟨(s.trans s').upd hD,by rw [Zab,Jdv,Ja5,Ja5]; rfl,rfl⟩
def Top (a:Int):Prop:=a.natAbs < 2 ^ 4000
theorem Top.of {a:Int} (h:a.natAbs<=100000000000000000000000000000000000000000000000000000000000000000000000000000000):Top a:=Jdx h (by decide +kernel)
def spCd:Sp:=λvs H Q _=>∃ a b:Int,vs = [.int a,.int b]/\Top a/\0<=b/\Q (.int (Int.gcd a b:Int)) H
theorem ok_cd {f:Addr} {fd:FuncData} (F:Fun K "common_divisor" "common_divisor" Zb2 f fd) (T:Txt K mg C G S):FnOk P w K mg base CX0 1 f fd ["one","other"] spCd:=by
 have nd:=Zcv.nd;refine F.ok Zcv (λvs H Q E h=>?_) (λcdv A outer s H vs Q E hr h=>?_)
 .refine Zbo h λa b e95 _=>?_;clear h;obtain rfl:=e95;rfl
 .refine Zhz h λa b e96 ht hb q=>?_;clear h;obtain rfl:=e96;refine ⟨_,((@Za1 _ _ _ _ _ _ _ _ (Zai Zg5 (Zrp PySem.F.plainAttrs_int PySem.F.slot_int_bit_length PySem.F.type_int_bit_length mt_bits (pv 0)) (Zgc rfl T.g_LONG) (Zan _)) (@Zaj _ _ _ Zap) Zam)<*>((Zkx Jbt (Zai Zd9 (pv 1) Zac (Zan _)) (@Zaj _ _ _ (ps_par (i:=0) (j:=1) rfl nd rfl rfl (by decide) rfl rfl ((pv 1)<&>((Zdy<|>(pv 0)<&&>(pv 1))<&>Zaa)) rfl)))<*>(~~~(Za0 Zlj rfl T.n_abs boot_abs ((pv 0)<&>Zaa))))),?_⟩;have hbits:=bits_le ht;walk_at "wp";refine ⟨rfl,Zkb (by rw [Ja4 (by omega)]; decide) ?_⟩;refine ⟨λn σ H2=>∃ x y:Int,σ = [some (.int x),some (.int y)]/\H2 = H/\0<=y/\n = y.toNat/\Int.gcd x y = Int.gcd a b,⟨_,a,b,rfl,rfl,hb,rfl,rfl⟩,?_⟩;intro n σ H2 e93;refine Zis e93 λx y e97 e98 hy e99 hg=>?_;clear e93;obtain rfl:=e97;obtain rfl:=e98;obtain rfl:=e99;walk_at "wp";refine Zcx (λhc=>?_) (λhc=>?_)
  .have hy0:¬ y = 0:=by simpa using hc
   have y1:0 < y:=by omega
   have l1:=Jdu x (show y ≠ 0 by omega);have l2:=Jc9 x y1;exact ⟨_,λ_ _ h=>h,y1,_,_,⟨rfl,rfl⟩,(x % y).toNat,by omega,y,x % y,rfl,rfl,l1,rfl,by rw [Zlc]; exact hg⟩
  .have hy0:y = 0:=by simpa using hc
   subst hy0;have e:(if x < 0 then -x else x) = (Int.gcd a b:Int):=by
    rw [<- hg,Int.gcd_zero];split <;> omega
   rw [e];exact q
def Zr3 (p:Int):Prop:=1 < p/\p<=97/\∀ d:Int,2<=d->d < p->p % d ≠ 0
def Zjv:Sp:=λvs H Q _=>∃ p:Int,vs = [.int p]/\Zr3 p/\∀ H',Same H H'->Q (.bl true) H'
theorem Zqd {f:Addr} {fd:FuncData} (F:Fun K "is_prime" "is_prime" Zfm f fd) (T:Txt K mg C G S):FnOk P w K mg base CX0 1 f fd ["number"] Zjv:=by
 have nd:=Zgp.nd;refine F.ok Zgp (λvs H Q E h=>?_) (λcdv A outer s H vs Q E hr h=>?_)
 .refine Zad h λp e910 _=>?_;clear h;obtain rfl:=e910;rfl
 .refine Zao h λp e911 e912 q=>?_;clear h;obtain rfl:=e911;obtain ⟨p1,p2,p3⟩:=e912;refine ⟨_,(~~~(Zf7 (Zb4 Zg5 (pv 0) Zac (Zan _)) (Zf6 (Za0 (Zcl rfl) rfl T.n_all Jd7 ((Za2 (own:=["divisor"]) (fr:=[("number",0)]) rfl (Zb5 (by kernel_rfl)) (pi_r2 rfl T.n_range (Zac<&>((pv 0)<&>Zaa))) (λ_ _ _ _=>⟨(@Zah _ _ 0 _ (show (["divisor","number"]:List Str).Nodup by decide +kernel) rfl (Or.inl rfl) (Or.inr rfl)),Zbc,(Zb4 Zd9 (Zdy<|>(pv 1)<&&>(pv 0)) Zac (Zan _))⟩))<&>Zaa))))),?_⟩;walk_at "wp";refine Zpe (Jad p1) ⟨_,rfl,2,p,rfl,⟨by decide,by decide,by omega,by omega⟩,λD hD=>Zo5 (λ_=>true) hD (by omega) (λi H' Q' hi s' q'=>?_) λH' s' e'=>⟨D,rfl,_,SqL.of e',?_⟩⟩
  .have h0:(0:Int) < 2 + (i:Int):=by omega
   have hne:=p3 (2 + (i:Int)) (by omega) (by omega);refine ⟨_,rfl,_,rfl,_,_,rfl,rfl,h0,rfl,?_⟩;have:(!decide (V.int (p % (2 + (i:Int))) = V.int 0)) = true:=by simp only [V.int.injEq,Ja4 hne]; rfl
   rw [this];exact q' H' (Same.refl _)
  .rw [Zfc];exact q H' s'
def GroundP (p:Int):Prop:=p = 0\/Zr3 p
def Zju:Sp:=λvs H Q _=>∃ p:Int,vs = [.int p]/\GroundP p/\∀ H',Same H H'->Q (.bl true) H'
theorem Zqa {f:Addr} {fd:FuncData} (F:Fun K "tells_ground" "tells_ground" Zcm f fd) (T:Txt K mg C G S) (C_is_whole:Cal P w K mg base "is_whole" 1 Zff) (C_is_prime:Cal P w K mg base "is_prime" 1 Zjv):FnOk P w K mg base CX0 2 f fd ["thing"] Zju:=by
 have nd:=Zdk.nd;refine F.ok Zdk (λvs H Q E h=>?_) (λcdv A outer s H vs Q E hr h=>?_)
 .refine Zad h λp e913 _=>?_;clear h;obtain rfl:=e913;rfl
 .refine Zao h λp e914 hp q=>?_;clear h;obtain rfl:=e914;have p0:0<=p:=by rcases hp with rfl | ⟨h,_⟩ <;> omega
  have p97:p<=97:=by rcases hp with rfl | ⟨_,h,_⟩ <;> omega
  refine ⟨_,((@Za1 _ _ _ _ _ _ _ _ (PW.pt (Zc7 (Za6 (Za5 (Zby C_is_whole hr.m rfl ((pv 0)<&>Zaa)))) (Zb8 (Za6 (Zkw Zlu Zlu Zac (pv 0) (Zgc rfl T.g_LARGEST_PRIME)))))) (~~~Zd8) Zam)<*>(~~~(pe_or (Zb4 Zeq (pv 0) Zac (Zan _)) (Zf6 (Zby C_is_prime hr.m rfl ((pv 0)<&>Zaa)))))),?_⟩;walk_at "wp";refine ⟨p,rfl,true,rfl,Zl2 (Zpe (Jad p0) (Zkb (by rw [Jad p97]; decide) (Zcx (λ_=>q H (Same.refl _)) (λhc=>?_))))⟩;rcases hp with rfl | hp
  .exact absurd (Jad rfl) hc
  .exact ⟨p,rfl,hp,q⟩
def Zkr:Sp:=λvs H Q _=>∃ a b:Int,vs = [.int a,.int b]/\Top a/\0 < b/\b.natAbs<=100000000000000000000000000000000/\∀ t,H t = none->Q (.ref t) (upd H t (.tup [.int (nrm a b).1,.int (nrm a b).2]))
theorem Zli {x a b:Int} (hb:0 < b) (h:b.natAbs<=100000000000000000000000000000000):CDivG x (Int.gcd a b:Int):=by
 have h1:=Ze7 (a:=a) hb;have h2:=Int.le_of_dvd hb (Jd5 a b);exact ⟨h1,by omega⟩
def Zl5 (p:Int):List (Str × V):=Zbz "prime" (.int p) []
theorem Zd5 (p:Int):(Zl5 p).lookup ("prime" : Str) = some (.int p):=by
 unfold Zl5;rw [Zar,if_pos rfl]
theorem Zq0 (p:Int) {x:Str} (h1:¬ x = "prime"):(Zl5 p).lookup x = none:=by
 unfold Zl5;rw [Zar,if_neg h1];rfl
def Zjz (G:Addr):Sp:=λvs H Q _=>∃ (g dx:Addr) (p:Int),vs = [.ref g,.int p]/\H g = some (.ins G dx [])/\GroundP p/\∀ (H':Hp),Ext g H H'->H' g = some (.ins G dx (Zl5 p))->Q .non H'
theorem Zqj {f:Addr} {fd:FuncData} (F:Fun K "__init__" "Ground.__init__" Zc4 f fd) (T:Txt K mg C G S) (C_tells_ground:Cal P w K mg base "tells_ground" 2 Zju):FnOk P w K mg base CX0 3 f fd ["self","prime"] (Zjz G):=by
 have nd:=Zeg.nd;refine F.ok Zeg (λvs H Q E h=>?_) (λcdv A outer s H vs Q E hr h=>?_)
 .refine Zd6 h λg dx p e915 _=>?_;clear h;obtain rfl:=e915;rfl
 .refine Zb1 h λg dx p e916 hg hp q=>?_;clear h;obtain rfl:=e916;refine ⟨_,((@Za1 _ _ _ _ _ _ _ _ (Za6 (Za5 (Zby C_tells_ground hr.m rfl ((pv 1)<&>Zaa)))) (@Zaj _ _ _ Zap) Zam)<*>(@Zaj _ _ _ (Zgz (pv 0) (pv 1) rfl))),?_⟩;walk_at "wp";refine ⟨p,rfl,hp,λH1 s1=>⟨true,rfl,Zl2 ⟨G,dx,[],s1 _ _ hg,T.cl_Ground,T.nP,by show 0 < 1000; decide,?_⟩⟩⟩;exact q _ (λb o nb e=>by rw [Zaf nb]; exact s1 _ _ e) Zab
def goodB (p:Int):Bool:=p == 0 || (decide (1 < p) && decide (p<=97) && (List.range 98).all λd=>decide ((d:Int) < 2) || decide (p<=(d:Int)) || decide (p % (d:Int) ≠ 0))
theorem Zig {p:Int} (h:goodB p = true):GroundP p:=by
 unfold goodB at h;simp only [Jc7,Jbx,Jbg,decide_eq_true_eq,Jbu,Jcg] at h;rcases h with h | ⟨⟨h1,h2⟩,h3⟩
 .exact .inl h
 .refine .inr ⟨h1,h2,λd d2 dp=>?_⟩;have:=h3 d.toNat (by omega);rw [show ((d.toNat:Nat):Int) = d by omega] at this;rcases this with (h | h) | h
  .omega
  .omega
  .exact h
def NumV (H:Hp) (p:Int) (v:V) (x:Int × Int):Prop:=if p = 0 then ∃ t,v = .ref t/\H t = some (.tup [.int x.1,.int x.2]) else v = .int x.1
theorem NumV.same {H H':Hp} {p:Int} {v:V} {x:Int × Int} (h:NumV H p v x) (s:Same H H'):NumV H' p v x:=by
 unfold NumV at *;split
 .rename_i hp
  rw [if_pos hp] at h;refine Zad h λt e ht=>?_;clear h;exact ⟨t,e,s _ _ ht⟩
 .rename_i hp
  rw [if_neg hp] at h;exact h
theorem NumV.tup {H:Hp} {p:Int} {t:Addr} {x:Int × Int} (hp:p = 0) (h:H t = some (.tup [.int x.1,.int x.2])):NumV H p (.ref t) x:=by
 unfold NumV;rw [if_pos hp];exact ⟨t,rfl,h⟩
theorem NumV.of {H:Hp} {p:Int} {x:Int × Int} (hp:¬ p = 0):NumV H p (.int x.1) x:=by
 unfold NumV;rw [if_neg hp]
theorem NumV.ref {H:Hp} {p:Int} {v:V} {x:Int × Int} (h:NumV H p v x) (hp:p = 0):∃ t,v = .ref t/\H t = some (.tup [.int x.1,.int x.2]):=by
 unfold NumV at h;rw [if_pos hp] at h;exact h
theorem NumV.int {H:Hp} {p:Int} {v:V} {x:Int × Int} (h:NumV H p v x) (hp:¬ p = 0):v = .int x.1:=by
 unfold NumV at h;rw [if_neg hp] at h;exact h
theorem GroundP.lo {p:Int} (h:GroundP p):0<=p:=by rcases h with rfl | ⟨h,_⟩ <;> omega
theorem GroundP.hi {p:Int} (h:GroundP p):p<=97:=by rcases h with rfl | ⟨_,h,_⟩ <;> omega
def GAt (G:Addr) (H:Hp) (g:Addr) (p:Int):Prop:=∃ dx,H g = some (.ins G dx (Zl5 p))
theorem GAt.same {H H':Hp} {g:Addr} {p:Int} (h:GAt G H g p) (s:Same H H'):GAt G H' g p:=let ⟨dx,e⟩:=h; ⟨dx,s _ _ e⟩
def Kn (H:Hp) (v:V):Prop:=v = .non\/(∃ b,v = .bl b)\/(∃ i,v = .int i)\/(∃ s,v = .str s)\/(∃ a xs,v = .ref a/\H a = some (.lst xs)/\xs.length<=1000)\/∃ a xs,v = .ref a/\H a = some (.tup xs)/\xs.length<=1000
theorem Kn.same {H H':Hp} {v:V} (h:Kn H v) (s:Same H H'):Kn H' v:=by
 rcases h with h | h | h | h | ⟨a,xs,h1,h2,h3⟩ | ⟨a,xs,h1,h2,h3⟩
 .exact .inl h
 .exact .inr (.inl h)
 .exact .inr (.inr (.inl h))
 .exact .inr (.inr (.inr (.inl h)))
 .exact .inr (.inr (.inr (.inr (.inl ⟨a,xs,h1,s _ _ h2,h3⟩))))
 .exact .inr (.inr (.inr (.inr (.inr ⟨a,xs,h1,s _ _ h2,h3⟩))))
theorem Kn.int {H:Hp} {i:Int}:Kn H (.int i):=.inr (.inr (.inl ⟨i,rfl⟩))
theorem Kn.bl {H:Hp} {i:Bool}:Kn H (.bl i):=.inr (.inl ⟨i,rfl⟩)
theorem Kn.str {H:Hp} {i:Str}:Kn H (.str i):=.inr (.inr (.inr (.inl ⟨i,rfl⟩)))
theorem Kn.lst {H:Hp} {a:Addr} {xs:List V} (h:H a = some (.lst xs)) (hl:xs.length<=1000):Kn H (.ref a):=.inr (.inr (.inr (.inr (.inl ⟨a,xs,rfl,h,hl⟩))))
theorem Kn.tup {H:Hp} {a:Addr} {xs:List V} (h:H a = some (.tup xs)) (hl:xs.length<=1000):Kn H (.ref a):=.inr (.inr (.inr (.inr (.inr ⟨a,xs,rfl,h,hl⟩))))
def isI:V->Bool
 | .int _=>true
 | .bl _=>true
 | _=>false
def isBl:V->Bool
 | .bl _=>true
 | _=>false
def Zog (H:Hp):V->Bool
 | .ref a=>match H a with
  | some (.tup _)=>true
  | _=>false
 | _=>false
def Zqv (H:Hp):V->Bool
 | .ref a=>match H a with
  | some (.lst _)=>true
  | _=>false
 | _=>false
def whB:V->Bool
 | .int _=>true
 | _=>false
theorem kn_int {H:Hp} {v:V} (h:Kn H v):∃ t,TyOf K H v t/\PySem.W.kitOne K t (.type "int") = some (isI v):=by
 rcases h with rfl | ⟨b,rfl⟩ | ⟨i,rfl⟩ | ⟨z,rfl⟩ | ⟨a,xs,rfl,h2,_⟩ | ⟨a,xs,rfl,h2,_⟩
 .exact ⟨_,.non,by kernel_rfl⟩
 .exact ⟨_,.bl b,Zl1 K⟩
 .exact ⟨_,.int i,Zjb K⟩
 .exact ⟨_,.str z,by kernel_rfl⟩
 .exact ⟨_,.lst h2,by kernel_rfl⟩
 .exact ⟨_,.tup h2,by kernel_rfl⟩
theorem kn_bool {H:Hp} {v:V} (h:Kn H v):∃ t,TyOf K H v t/\PySem.W.kitOne K t (.type "bool") = some (isBl v):=by
 rcases h with rfl | ⟨b,rfl⟩ | ⟨i,rfl⟩ | ⟨z,rfl⟩ | ⟨a,xs,rfl,h2,_⟩ | ⟨a,xs,rfl,h2,_⟩
 .exact ⟨_,.non,by kernel_rfl⟩
 .exact ⟨_,.bl b,Zj9 K⟩
 .exact ⟨_,.int i,Zhs K⟩
 .exact ⟨_,.str z,by kernel_rfl⟩
 .exact ⟨_,.lst h2,by kernel_rfl⟩
 .exact ⟨_,.tup h2,by kernel_rfl⟩
theorem Zrr {H:Hp} {v:V} (h:Kn H v):∃ t,TyOf K H v t/\PySem.W.kitOne K t (.type "tuple") = some (Zog H v):=by
 rcases h with rfl | ⟨b,rfl⟩ | ⟨i,rfl⟩ | ⟨z,rfl⟩ | ⟨a,xs,rfl,h2,_⟩ | ⟨a,xs,rfl,h2,_⟩
 .exact ⟨_,.non,by kernel_rfl⟩
 .exact ⟨_,.bl b,by kernel_rfl⟩
 .exact ⟨_,.int i,by kernel_rfl⟩
 .exact ⟨_,.str z,by kernel_rfl⟩
 .refine ⟨_,.lst h2,?_⟩;simp only [Zog,h2]
  kernel_rfl
 .refine ⟨_,.tup h2,?_⟩;simp only [Zog,h2];exact Zja K
theorem Zn9 {H:Hp} {v:V} (h:Kn H v):∃ t,TyOf K H v t/\PySem.W.kitOne K t (.type "list") = some (Zqv H v):=by
 rcases h with rfl | ⟨b,rfl⟩ | ⟨i,rfl⟩ | ⟨z,rfl⟩ | ⟨a,xs,rfl,h2,_⟩ | ⟨a,xs,rfl,h2,_⟩
 .exact ⟨_,.non,by kernel_rfl⟩
 .exact ⟨_,.bl b,by kernel_rfl⟩
 .exact ⟨_,.int i,by kernel_rfl⟩
 .exact ⟨_,.str z,by kernel_rfl⟩
 .refine ⟨_,.lst h2,?_⟩;simp only [Zqv,h2];exact Zdb K
 .refine ⟨_,.tup h2,?_⟩;simp only [Zqv,h2]
  kernel_rfl
def Zew:Sp:=λvs H Q _=>∃ v:V,vs = [v]/\Kn H v/\Q (.bl (whB v)) H
theorem Zn0 {f:Addr} {fd:FuncData} (F:Fun K "is_whole" "is_whole" Zd2 f fd) (T:Txt K mg C G S):FnOk P w K mg base CX0 1 f fd ["thing"] Zew:=by
 have nd:=Zcz.nd;refine F.ok Zcz (λvs H Q E h=>?_) (λcdv A outer s H vs Q E hr h=>?_)
 .refine Zad h λi e91 _=>?_;clear h;obtain rfl:=e91;rfl
 .refine Zao h λv e92 hk q=>?_;clear h;obtain rfl:=e92;refine ⟨_,(~~~(Zf7 (Za0 Zau rfl T.n_isinstance Jbf ((pv 0)<&>((Zfo rfl T.n_int boot_int)<&>Zaa))) (Zf6 (Zro (Za0 Zau rfl T.n_isinstance Jbf ((pv 0)<&>((Zfo rfl T.n_bool boot_bool)<&>Zaa))))))),?_⟩;walk_at "wp";refine Zad (kn_int (K:=K) hk) λt1 h1 h2=>?_;refine Zad (kn_bool (K:=K) hk) λt2 h3 h4=>?_;refine Zaz _ _ ⟨⟨rfl,rfl⟩,_,rfl,_,h1,_,h2,Zcx (λhc=>⟨_,_,⟨rfl,rfl⟩,_,rfl,_,h3,_,h4,?_⟩) (λhc=>?_)⟩
  .cases v <;> first | exact q | cases hc
  .cases v <;> first | exact q | exact absurd rfl hc
def frB (H:Hp):V->Bool
 | .ref a=>match H a with
  | some (.tup [.int x,.int y])=>decide (1<=y) && decide (Int.gcd x y = 1)
  | _=>false
 | _=>false
def Zk3 (p:Int) (H:Hp) (v:V):Bool:=if p = 0 then frB H v else match v with
 | .int i=>decide (0<=i) && decide (i < p)
 | _=>false
def Zme (p wd:Int) (H:Hp):V->Bool
 | .ref a=>match H a with
  | some (.lst xs)=>decide ((xs.length:Int) = wd) && xs.all (Zk3 p H)
  | _=>false
 | _=>false
def Zmc (p:Int) (H:Hp):V->Bool
 | .ref a=>match H a with
  | some (.tup [.int h,.int wd,.ref r])=>match H r with
   | some (.lst rows)=>decide (0<=h) && decide (0<=wd) && decide ((rows.length:Int) = h) && rows.all (Zme p wd H)
   | _=>false
  | _=>false
 | _=>false
def TopV (y:V):Prop:=∀ i,y = .int i->Top i
def WfN (H:Hp) (v:V):Prop:=Kn H v/\∀ a xs,v = .ref a->H a = some (.tup xs)->∀ y ∈ xs,Kn H y/\TopV y
def WfR (H:Hp) (v:V):Prop:=Kn H v/\∀ a xs,v = .ref a->H a = some (.lst xs)->∀ y ∈ xs,WfN H y
def WfT (H:Hp) (v:V):Prop:=Kn H v/\∀ a xs,v = .ref a->H a = some (.tup xs)->∀ y ∈ xs,Kn H y/\∀ r rows,y = .ref r->H r = some (.lst rows)->∀ z ∈ rows,WfR H z
theorem Kn.back {H H':Hp} {a:Addr} {o:HO} (h:Kn H (.ref a)) (s:Same H H') (e:H' a = some o):H a = some o:=by
 rcases h with h | ⟨_,h⟩ | ⟨_,h⟩ | ⟨_,h⟩ | ⟨b,xs,h1,h2,_⟩ | ⟨b,xs,h1,h2,_⟩
 .cases h
 .cases h
 .cases h
 .cases h
 .cases h1;rw [s _ _ h2] at e;rw [h2,e]
 .cases h1;rw [s _ _ h2] at e;rw [h2,e]
theorem Kn.at {H H':Hp} {a:Addr} (h:Kn H (.ref a)) (s:Same H H'):H' a = H a:=by
 rcases h with h | ⟨_,h⟩ | ⟨_,h⟩ | ⟨_,h⟩ | ⟨b,xs,h1,h2,_⟩ | ⟨b,xs,h1,h2,_⟩
 .cases h
 .cases h
 .cases h
 .cases h
 .cases h1;rw [s _ _ h2,h2]
 .cases h1;rw [s _ _ h2,h2]
theorem WfN.same {H H':Hp} {v:V} (h:WfN H v) (s:Same H H'):WfN H' v:=
 ⟨h.1.same s,λa xs e1 e2 y hy=>by subst e1; exact ⟨(h.2 a xs rfl (h.1.back s e2) y hy).1.same s,(h.2 a xs rfl (h.1.back s e2) y hy).2⟩⟩
theorem WfR.same {H H':Hp} {v:V} (h:WfR H v) (s:Same H H'):WfR H' v:=
 ⟨h.1.same s,λa xs e1 e2 y hy=>by subst e1; exact (h.2 a xs rfl (h.1.back s e2) y hy).same s⟩
theorem Zi5 {H H':Hp} {p:Int} {v:V} (h:WfN H v) (s:Same H H'):Zk3 p H' v = Zk3 p H v:=by
 unfold Zk3;split
 .cases v <;> try rfl
  simp only [frB,h.1.at s]
 .rfl
theorem Zhx {α:Type} {f g:α->Bool}:∀ {xs:List α},(∀ x ∈ xs,f x = g x)->xs.all f = xs.all g
 | [],_=>rfl
 | x :: xs,h=>by
  rw [Jcm,Jcm,h x Jb0,Zhx λy hy=>h y (Ja2 _ hy)]
theorem Zni {H H':Hp} {p wd:Int} {v:V} (h:WfR H v) (s:Same H H'):Zme p wd H' v = Zme p wd H v:=by
 cases v <;> try rfl
 rename_i a
 simp only [Zme,h.1.at s];split
 .rename_i xs e
  rw [Zhx λy hy=>Zi5 (h.2 a xs rfl e y hy) s]
 .rfl
theorem tu_of {H:Hp} {v:V} (h:Kn H v) (ht:Zog H v = true):∃ a xs,v = .ref a/\H a = some (.tup xs)/\xs.length<=1000:=by
 rcases h with rfl | ⟨b,rfl⟩ | ⟨i,rfl⟩ | ⟨z,rfl⟩ | ⟨a,xs,rfl,h2,_⟩ | h
 .cases ht
 .cases ht
 .cases ht
 .cases ht
 .simp only [Zog,h2] at ht; cases ht
 .exact h
theorem li_of {H:Hp} {v:V} (h:Kn H v) (ht:Zqv H v = true):∃ a xs,v = .ref a/\H a = some (.lst xs)/\xs.length<=1000:=by
 rcases h with rfl | ⟨b,rfl⟩ | ⟨i,rfl⟩ | ⟨z,rfl⟩ | h | ⟨a,xs,rfl,h2,_⟩
 .cases ht
 .cases ht
 .cases ht
 .cases ht
 .exact h
 .simp only [Zqv,h2] at ht; cases ht
theorem Zml {v:V} (h:whB v = true):∃ i,v = .int i:=by
 cases v <;> first | exact ⟨_,rfl⟩ | cases h
theorem frB_noT {H:Hp} {v:V} (h:Zog H v = false):frB H v = false:=by
 cases v <;> try rfl
 simp only [Zog] at h;simp only [frB];split
 .rename_i e; rw [e] at h; cases h
 .rfl
theorem frB_len {H:Hp} {a:Addr} {xs:List V} (h:H a = some (.tup xs)) (hl:xs.length ≠ 2):frB H (.ref a) = false:=by
 simp only [frB,h];split
 .rename_i e; cases e; exact absurd rfl hl
 .rfl
theorem Zon {H:Hp} {a:Addr} {x y:V} (h:H a = some (.tup [x,y])) (hw:whB x = false\/whB y = false):frB H (.ref a) = false:=by
 simp only [frB,h];split
 .rename_i e
  cases e;rcases hw with hw | hw <;> cases hw
 .rfl
theorem Zld {H:Hp} {a:Addr} {x y:Int} (h:H a = some (.tup [.int x,.int y])):frB H (.ref a) = (decide (1<=y) && decide (Int.gcd x y = 1)):=by
 simp only [frB,h]
def spFr:Sp:=λvs H Q _=>∃ v:V,vs = [v]/\WfN H v/\Q (.bl (frB H v)) H
theorem ok_fr {f:Addr} {fd:FuncData} (F:Fun K "is_fraction" "is_fraction" Zc2 f fd) (T:Txt K mg C G S) (C_is_whole:Cal P w K mg base "is_whole" 1 Zew) (C_common_divisor:Cal P w K mg base "common_divisor" 1 spCd):FnOk P w K mg base CX0 2 f fd ["thing"] spFr:=by
 have nd:=Zee.nd;refine F.ok Zee (λvs H Q E h=>?_) (λcdv A outer s H vs Q E hr h=>?_)
 .refine Zad h λv e91 _=>?_;clear h;obtain rfl:=e91;rfl
 .refine Zao h λv e92 e93 q=>?_;clear h;obtain rfl:=e92;obtain ⟨hk,hx⟩:=e93;refine ⟨_,((@Za1 _ _ _ _ _ _ _ _ (PW.pt (Zc7 (Za6 (Za5 (Za0 Zau rfl T.n_isinstance Jbf ((pv 0)<&>((Zfo rfl T.n_tuple boot_tuple)<&>Zaa))))) (Zb8 (Zai Zd9 (Za0 Zaq rfl T.n_len Jbl ((pv 0)<&>Zaa)) Zac (Zan _))))) (~~~Zd8) Zam)<*>((Zf5 (pv 0) (@Zdx _ _ _ _ _ 2 rfl (@Zak _ _ _ _ _ (@Zah _ _ 1 _ nd rfl (Or.inl rfl) (Or.inl rfl)) (@Zak _ _ _ _ _ (@Zah _ _ 2 _ nd rfl (Or.inl rfl) (Or.inl rfl)) (@Zbj _) (by rfl)) (by rfl)) (by rfl) (by rfl)))<*>((@Za1 _ _ _ _ _ _ _ _ (PW.pt (Zc7 (Za6 (Za5 (Zby C_is_whole hr.m rfl ((pv 1)<&>Zaa)))) (Zc7 (Za6 (Za5 (Zby C_is_whole hr.m rfl ((pv 2)<&>Zaa)))) (Zb8 (Zai Zlt (pv 2) Zac (Zan _)))))) (~~~Zd8) Zam)<*>(~~~(Zb4 Zeq (Zby C_common_divisor hr.m rfl ((pv 1)<&>((pv 2)<&>Zaa))) Zac (Zan _)))))),?_⟩;walk_at "wp";refine Zad (Zrr (K:=K) hk) λt1 h1 h2=>?_;refine Zaz _ _ ⟨⟨rfl,rfl⟩,_,rfl,_,h1,_,h2,?_⟩;refine Zcx (λhc=>?_) (λhc=>?_)
  .have hc:Zog H v = false:=by simpa using hc
   rw [frB_noT hc] at q;exact q
  .have hc:Zog H v = true:=by simpa using hc
   refine Zca (tu_of hk hc) λa xs e94 ha hl=>?_;obtain rfl:=e94;refine ⟨a,rfl,xs,.inr (SqT.of ha),Zcx (λhn=>?_) (λhn=>?_)⟩
   .have hn:¬ xs.length = 2:=by intro z; rw [z] at hn; exact absurd hn (by decide)
    rw [frB_len ha hn] at q;exact q
   .have hn:xs.length = 2:=by
     have:((xs.length:Nat):Int) = 2:=by simpa using hn
     omega
    obtain ⟨x,y,rfl⟩:∃ x y,xs = [x,y]:=by
     match xs,hn with
     | [x,y],_=>exact ⟨x,y,rfl⟩
    refine ⟨a,rfl,_,SqT.of ha,rfl,_,_,rfl,_,_,rfl,rfl,x,rfl,(hx a _ rfl ha x (by simp)).1,_,rfl,Zcx (λh1=>?_) (λh1=>?_)⟩
    .rw [Zon ha (.inl (by simpa using h1))] at q;exact q
    .obtain ⟨i,rfl⟩:=Zml (v:=x) (by simpa using h1);refine ⟨y,rfl,(hx a _ rfl ha y (by simp)).1,_,rfl,Zcx (λh2=>?_) (λh2=>?_)⟩
     .rw [Zon ha (.inr (by simpa using h2))] at q;exact q
     .obtain ⟨j,rfl⟩:=Zml (v:=y) (by simpa using h2);rw [Zld ha] at q;refine ⟨j,rfl,Zcx (λh3=>?_) (λh3=>?_)⟩
      .have h3:=Jas h3;rw [Ja4 (show ¬ 1<=j by omega)] at q;exact q
      .have h3:¬ j < 1:=λz=>h3 (Jad z);refine Zaz i j ⟨rfl,(hx a _ rfl ha _ (by simp)).2 i rfl,by omega,rfl,?_⟩;rw [Jad (show 1<=j by omega)] at q;have:decide (V.int (Int.gcd i j:Int) = V.int 1) = decide (Int.gcd i j = 1):=by
        simp only [V.int.injEq];by_cases e:Int.gcd i j = 1
        .rw [Jad e,Jad (by omega)]
        .rw [Ja4 e,Ja4 (by omega)]
       rw [this];exact q
def spIsN (G:Addr):Sp:=λvs H Q _=>∃ (g:Addr) (p:Int) (v:V),vs = [.ref g,v]/\GAt G H g p/\GroundP p/\WfN H v/\Q (.bl (Zk3 p H v)) H
theorem numB_pr {p:Int} {H:Hp} {v:V} (hp:¬ p = 0) (h:whB v = false):Zk3 p H v = false:=by
 unfold Zk3;rw [if_neg hp];cases v <;> first | rfl | cases h
theorem Zk2 {p i:Int} {H:Hp} (hp:¬ p = 0):Zk3 p H (.int i) = (decide (0<=i) && decide (i < p)):=by
 unfold Zk3;rw [if_neg hp]
theorem Zn3 {p:Int} {H:Hp} {v:V} (hp:p = 0):Zk3 p H v = frB H v:=by
 unfold Zk3;rw [if_pos hp]
theorem ok_isn {f:Addr} {fd:FuncData} (F:Fun K "is_number" "Ground.is_number" Zbr f fd) (T:Txt K mg C G S) (C_is_whole:Cal P w K mg base "is_whole" 1 Zew) (C_is_fraction:Cal P w K mg base "is_fraction" 2 spFr):FnOk P w K mg base CX0 3 f fd ["self","thing"] (spIsN G):=by
 have nd:=Zcb.nd;refine F.ok Zcb (λvs H Q E h=>?_) (λcdv A outer s H vs Q E hr h=>?_)
 .refine Zd6 h λg p v e95 _=>?_;clear h;obtain rfl:=e95;rfl
 .refine Zb1 h λg p v e96 e97 hp e98=>?_;clear h;obtain rfl:=e96;obtain ⟨dx,hg⟩:=e97;obtain ⟨hw,q⟩:=e98;refine ⟨_,((@Za1 _ _ _ _ _ _ _ _ (Zai Zeq (Zbb (pv 0) rfl) Zac (Zan _)) (~~~(Zby C_is_fraction hr.m rfl ((pv 1)<&>Zaa))) Zam)<*>(~~~(Zf7 (Zby C_is_whole hr.m rfl ((pv 1)<&>Zaa)) (Zf6 (Zkz Zlu Zlt Zac (pv 1) (Zbb (pv 0) rfl)))))),?_⟩;walk_at "wp";refine Zbg G dx _ ⟨hg,T.cl_Ground,T.nP,_,Zd5 p,rfl,Zcx (λhc=>?_) (λhc=>?_)⟩
  .have hp0:p = 0:=by simpa using hc
   rw [Zn3 hp0] at q;exact ⟨v,rfl,hw,q⟩
  .have hp0:¬ p = 0:=by simpa using hc
   refine ⟨v,rfl,hw.1,_,rfl,Zcx (λh1=>?_) (λh1=>?_)⟩
   .obtain ⟨i,rfl⟩:=Zml h1;rw [Zk2 hp0] at q;refine ⟨i,rfl,Zcx (λh2=>⟨G,dx,_,hg,T.cl_Ground,T.nP,_,Zd5 p,i,rfl,p,rfl,?_⟩) (λh2=>?_)⟩
    .rw [h2,Jdl] at q;exact q
    .rw [show decide (0<=i) = false by simpa using h2,Jd1] at q;exact q
   .rw [numB_pr hp0 (by simpa using h1)] at q;exact q
theorem Zr2 {f:V->Bool} (xs:List V):((List.range xs.length).map λi=>f (xs.getD i .non)).all id = xs.all f:=by
 rw [Jbm,Jbu,Jbu];constructor
 .intro h x hx;obtain ⟨i,hi,rfl⟩:=Jbb.mp hx;have:=h (f (xs.getD i .non)) (Jan.mpr ⟨i,Jcg.mpr hi,rfl⟩);simpa [hi] using this
 .intro h b hb;refine Zad (Jan.mp hb) λi hi e99=>?_;obtain rfl:=e99;have hi:=Jcg.mp hi;simpa [hi] using h _ (Jby hi)
theorem Zom {xs:List V} {i:Nat} {x:V} (h:xs[i]? = some x):xs.getD i .non = x:=by rw [Jbh,h]; rfl
def Zm1 (G:Addr):Sp:=λvs H Q _=>∃ (g:Addr) (p wd:Int) (v:V),vs = [.ref g,.int wd,v]/\GAt G H g p/\GroundP p/\WfR H v/\∀ H',Same H H'->Q (.bl (Zme p wd H v)) H'
theorem Zpu {p wd:Int} {H:Hp} {v:V} (h:Zqv H v = false):Zme p wd H v = false:=by
 cases v <;> try rfl
 simp only [Zqv] at h;simp only [Zme];split
 .rename_i e; rw [e] at h; cases h
 .rfl
theorem Znj {p wd:Int} {H:Hp} {a:Addr} {xs:List V} (h:H a = some (.lst xs)):Zme p wd H (.ref a) = (decide ((xs.length:Int) = wd) && xs.all (Zk3 p H)):=by
 simp only [Zme,h]
theorem Zqi {f:Addr} {fd:FuncData} (F:Fun K "is_row" "is_row" Zh4 f fd) (T:Txt K mg C G S) (C_Ground_is_number:CalM P w K mg base G "is_number" 3 (spIsN G)):FnOk P w K mg base CX0 4 f fd ["ground","wide","thing"] (Zm1 G):=by
 have nd:=Zi0.nd;refine F.ok Zi0 (λvs H Q E h=>?_) (λcdv A outer s H vs Q E hr h=>?_)
 .refine Zhy h λg p wd v e910 _=>?_;clear h;obtain rfl:=e910;rfl
 .refine Zcu h λg p wd v e911 e912 hp e913=>?_;clear h;obtain rfl:=e911;obtain ⟨dx,hg⟩:=e912;obtain ⟨⟨hk,hx⟩,q⟩:=e913;refine ⟨_,((@Za1 _ _ _ _ _ _ _ _ (PW.pt (Zc7 (Za6 (Za5 (Za0 Zau rfl T.n_isinstance Jbf ((pv 2)<&>((Zfo rfl T.n_list Jc0)<&>Zaa))))) (Zb8 (Zai Zd9 (Za0 Zaq rfl T.n_len Jbl ((pv 2)<&>Zaa)) (pv 1) (Zan _))))) (~~~Zd8) Zam)<*>(~~~(Za0 (Zcl rfl) rfl T.n_all Jd7 ((Za2 (own:=["number"]) (fr:=[("ground",0)]) rfl (Zb5 (by kernel_rfl)) (Zat (pv 2)) (λ_ _ _ _=>⟨(@Zah _ _ 0 _ (show (["number","ground"]:List Str).Nodup by decide +kernel) rfl (Or.inl rfl) (Or.inr rfl)),Zbc,(pe_mth T.cl_Ground C_Ground_is_number hr.m (pv 1) ((pv 0)<&>Zaa))⟩))<&>Zaa)))),?_⟩;walk_at "wp";refine Zad (Zn9 (K:=K) hk) λt1 h1 h2=>?_;refine Zaz _ _ ⟨⟨rfl,rfl⟩,_,rfl,_,h1,_,h2,Zcx (λhc=>?_) (λhc=>?_)⟩
  .rw [Zpu (by simpa using hc)] at q;exact q H (Same.refl _)
  .refine Zca (li_of hk (by simpa using hc)) λa xs e914 ha hl=>?_;obtain rfl:=e914;rw [Znj ha] at q;refine ⟨a,rfl,xs,.inl (SqL.of ha),Zcx (λhn=>?_) (λhn=>?_)⟩
   .rw [show decide ((xs.length:Int) = wd) = false by simpa using hn,Jd1] at q;exact q H (Same.refl _)
   .rw [show decide ((xs.length:Int) = wd) = true by simpa using hn,Jdl] at q;refine ⟨_,rfl,a,rfl,⟨_,SqL.of ha⟩,λD hD=>Zfa (λi=>Zk3 p H (xs.getD i .non)) ha hD (by omega) (λi y H' Q' hy s' q'=>?_) λH' s' e'=>⟨D,rfl,_,SqL.of e',?_⟩⟩
    .have wy:=hx a xs rfl ha y (Jag hy);refine ⟨_,rfl,g,dx,_,rfl,s' _ _ hg,Zq0 _ (by decide +kernel),_,rfl,g,p,y,rfl,⟨dx,s' _ _ hg⟩,hp,wy.same s',?_⟩;rw [Zi5 wy s',<- Zom hy];exact q' H' (Same.refl _)
    .rw [Zr2];exact q H' s'
def Zm0 (G:Addr):Sp:=λvs H Q _=>∃ (g:Addr) (p:Int) (v:V),vs = [.ref g,v]/\GAt G H g p/\GroundP p/\WfT H v/\∀ H',Same H H'->Q (.bl (Zmc p H v)) H'
theorem Zpo {p:Int} {H:Hp} {v:V} (h:Zog H v = false):Zmc p H v = false:=by
 cases v <;> try rfl
 simp only [Zog] at h;simp only [Zmc];split
 .rename_i e; rw [e] at h; cases h
 .rfl
theorem Zpp {p:Int} {H:Hp} {a:Addr} {xs:List V} (h:H a = some (.tup xs)) (hl:xs.length ≠ 3):Zmc p H (.ref a) = false:=by
 simp only [Zmc,h];split
 .rename_i e; cases e; exact absurd rfl hl
 .rfl
theorem Zhi {p:Int} {H:Hp} {a:Addr} {x y z:V} (h:H a = some (.tup [x,y,z])) (hw:whB x = false\/whB y = false):Zmc p H (.ref a) = false:=by
 simp only [Zmc,h];split
 .rename_i e
  cases e;rcases hw with hw | hw <;> cases hw
 .rfl
theorem Zge {p:Int} {H:Hp} {a:Addr} {i j:Int} {z:V} (h:H a = some (.tup [.int i,.int j,z])) (hw:(i < 0\/j < 0)\/Zqv H z = false):Zmc p H (.ref a) = false:=by
 simp only [Zmc,h];split
 .rename_i e
  cases e;split
  .rename_i rows e2
   rcases hw with (hw | hw) | hw
   .rw [Ja4 (show ¬ 0<=i by omega)]; simp
   .rw [Ja4 (show ¬ 0<=j by omega)]; simp
   .simp only [Zqv,e2] at hw; cases hw
  .rfl
 .rfl
theorem Ziw {p:Int} {H:Hp} {a r:Addr} {i j:Int} {rows:List V} (h:H a = some (.tup [.int i,.int j,.ref r])) (hr:H r = some (.lst rows)) (h0:¬ i < 0) (h1:¬ j < 0):Zmc p H (.ref a) = (decide ((rows.length:Int) = i) && rows.all (Zme p j H)):=by
 simp only [Zmc,h,hr];rw [Jad (show 0<=i by omega),Jad (show 0<=j by omega)];rfl
theorem Zqh {f:Addr} {fd:FuncData} (F:Fun K "is_table" "is_table" Zfl f fd) (T:Txt K mg C G S) (C_is_whole:Cal P w K mg base "is_whole" 1 Zew) (C_is_row:Cal P w K mg base "is_row" 4 (Zm1 G)):FnOk P w K mg base CX0 5 f fd ["ground","thing"] (Zm0 G):=by
 have nd:=Zgo.nd;refine F.ok Zgo (λvs H Q E h=>?_) (λcdv A outer s H vs Q E hr h=>?_)
 .refine Zd6 h λg p v e915 _=>?_;clear h;obtain rfl:=e915;rfl
 .refine Zb1 h λg p v e916 e917 hp e918=>?_;clear h;obtain rfl:=e916;obtain ⟨dx,hg⟩:=e917;obtain ⟨⟨hk,hx⟩,q⟩:=e918;refine ⟨_,((@Za1 _ _ _ _ _ _ _ _ (PW.pt (Zc7 (Za6 (Za5 (Za0 Zau rfl T.n_isinstance Jbf ((pv 1)<&>((Zfo rfl T.n_tuple boot_tuple)<&>Zaa))))) (Zb8 (Zai Zd9 (Za0 Zaq rfl T.n_len Jbl ((pv 1)<&>Zaa)) Zac (Zan _))))) (~~~Zd8) Zam)<*>((Zf5 (pv 1) (@Zdx _ _ _ _ _ 3 rfl (@Zak _ _ _ _ _ (@Zah _ _ 2 _ nd rfl (Or.inl rfl) (Or.inl rfl)) (@Zak _ _ _ _ _ (@Zah _ _ 3 _ nd rfl (Or.inr rfl) (Or.inl rfl)) (@Zak _ _ _ _ _ (@Zah _ _ 4 _ nd rfl (Or.inl rfl) (Or.inl rfl)) (@Zbj _) (by rfl)) (by rfl)) (by rfl)) (by rfl) (by rfl)))<*>((@Za1 _ _ _ _ _ _ _ _ (PW.pt (Zc7 (Za6 (Za5 (Zby C_is_whole hr.m rfl ((pv 2)<&>Zaa)))) (Zc7 (Za6 (Za5 (Zby C_is_whole hr.m rfl ((pv 3)<&>Zaa)))) (Zc7 (Zai Zlt (pv 2) Zac (Zan _)) (Zb8 (Zai Zlt (pv 3) Zac (Zan _))))))) (~~~Zd8) Zam)<*>((@Za1 _ _ _ _ _ _ _ _ (PW.pt (Zc7 (Za6 (Za5 (Za0 Zau rfl T.n_isinstance Jbf ((pv 4)<&>((Zfo rfl T.n_list Jc0)<&>Zaa))))) (Zb8 (Zai Zd9 (Za0 Zaq rfl T.n_len Jbl ((pv 4)<&>Zaa)) (pv 2) (Zan _))))) (~~~Zd8) Zam)<*>(~~~(Za0 (Zcl rfl) rfl T.n_all Jd7 ((Za2 (own:=["row"]) (fr:=[("ground",0),("wide",3)]) rfl (Zb5 (by kernel_rfl)) (Zat (pv 4)) (λ_ _ _ _=>⟨(@Zah _ _ 0 _ (show (["row","ground","wide"]:List Str).Nodup by decide +kernel) rfl (Or.inl rfl) (Or.inr rfl)),Zbc,(Zby C_is_row hr.m rfl ((pv 1)<&>((pv 2)<&>((pv 0)<&>Zaa))))⟩))<&>Zaa))))))),?_⟩;walk_at "wp";refine Zad (Zrr (K:=K) hk) λt1 h1 h2=>?_;refine Zaz _ _ ⟨⟨rfl,rfl⟩,_,rfl,_,h1,_,h2,Zcx (λhc=>?_) (λhc=>?_)⟩
  .rw [Zpo (by simpa using hc)] at q;exact q H (Same.refl _)
  .refine Zca (tu_of hk (by simpa using hc)) λa xs e919 ha hl=>?_;obtain rfl:=e919;refine ⟨a,rfl,xs,.inr (SqT.of ha),Zcx (λhn=>?_) (λhn=>?_)⟩
   .have hn:¬ xs.length = 3:=by intro z; rw [z] at hn; exact absurd hn (by decide)
    rw [Zpp ha hn] at q;exact q H (Same.refl _)
   .have hn:xs.length = 3:=by
     have:((xs.length:Nat):Int) = 3:=by simpa using hn
     omega
    obtain ⟨x,y,z,rfl⟩:∃ x y z,xs = [x,y,z]:=by
     match xs,hn with
     | [x,y,z],_=>exact ⟨x,y,z,rfl⟩
    have kx:=(hx a _ rfl ha x (by simp)).1;have ky:=(hx a _ rfl ha y (by simp)).1;obtain ⟨kz,hz⟩:=hx a _ rfl ha z (by simp);refine ⟨a,rfl,_,SqT.of ha,rfl,_,_,rfl,_,_,rfl,_,_,rfl,rfl,x,rfl,kx,_,rfl,Zcx (λh1=>?_) (λh1=>?_)⟩
    .rw [Zhi ha (.inl (by simpa using h1))] at q;exact q H (Same.refl _)
    .obtain ⟨i,rfl⟩:=Zml (v:=x) (by simpa using h1);refine ⟨y,rfl,ky,_,rfl,Zcx (λh2=>?_) (λh2=>?_)⟩
     .rw [Zhi ha (.inr (by simpa using h2))] at q;exact q H (Same.refl _)
     .obtain ⟨j,rfl⟩:=Zml (v:=y) (by simpa using h2);refine ⟨i,rfl,Zcx (λh3=>?_) (λh3=>⟨j,rfl,Zcx (λh4=>?_) (λh4=>?_)⟩)⟩
      .rw [Zge ha (.inl (.inl (Jas h3)))] at q;exact q H (Same.refl _)
      .rw [Zge ha (.inl (.inr (Jas h4)))] at q;exact q H (Same.refl _)
      .have h3:¬ i < 0:=λz=>h3 (Jad z);have h4:¬ j < 0:=λz=>h4 (Jad z);refine Zad (Zn9 (K:=K) kz) λt3 h5 h6=>?_;refine Zaz _ _ ⟨⟨rfl,rfl⟩,_,rfl,_,h5,_,h6,Zcx (λhc2=>?_) (λhc2=>?_)⟩
       .rw [Zge ha (.inr (by simpa using hc2))] at q;exact q H (Same.refl _)
       .refine Zca (li_of kz (by simpa using hc2)) λr rows e920 hr1 hrl=>?_;obtain rfl:=e920;rw [Ziw ha hr1 h3 h4] at q;have ed:decide (V.int ((rows.length:Nat):Int) = V.int i) = decide ((rows.length:Int) = i):=by simp only [V.int.injEq]
        refine ⟨r,rfl,rows,.inl (SqL.of hr1),rfl,Zcx (λhn2=>?_) (λhn2=>?_)⟩
        .rw [ed] at hn2;rw [show decide ((rows.length:Int) = i) = false by simpa using hn2,Jd1] at q;exact q H (Same.refl _)
        .rw [ed] at hn2;rw [show decide ((rows.length:Int) = i) = true by simpa using hn2,Jdl] at q;refine ⟨_,rfl,r,rfl,⟨_,SqL.of hr1⟩,λD hD=>Zfa (λk=>Zme p j H (rows.getD k .non)) hr1 hD (by omega) (λk y H' Q' hy s' q'=>?_) λH' s' e'=>⟨D,rfl,_,SqL.of e',?_⟩⟩
         .have wy:=hz r rows rfl hr1 y (Jag hy);refine ⟨_,rfl,_,rfl,_,rfl,g,p,j,y,rfl,⟨dx,s' _ _ hg⟩,hp,wy.same s',λH2 s2=>?_⟩;rw [Zni wy s',<- Zom hy];exact q' H2 s2
         .rw [Zr2];exact q H' s'
def NumO (H:Hp) (p:Int) (B:Nat) (v:V):Prop:=∃ x,NumV H p v x/\Isn p x/\Bd B x
theorem NumO.same {H H':Hp} {p:Int} {B:Nat} {v:V} (h:NumO H p B v) (s:Same H H'):NumO H' p B v:=let ⟨x,a,b,c⟩:=h; ⟨x,a.same s,b,c⟩
theorem NumO.weak {H:Hp} {p:Int} {B B':Nat} {v:V} (h:NumO H p B v) (hB:B<=B'):NumO H p B' v:=let ⟨x,a,b,c⟩:=h; ⟨x,a,b,Ja3 c.1 hB,Ja3 c.2 hB⟩
theorem NumO.put {H:Hp} {D:Addr} {l:List V} {o:HO} {p:Int} {B:Nat} {v:V} (h:NumO H p B v) (hD:H D = some (.lst l)):NumO (upd H D o) p B v:=by
 refine Zao h λx a b c=>?_;clear h;refine ⟨x,?_,b,c⟩;by_cases hp:p = 0
 .refine Zad (a.ref hp) λt e93 ht=>?_;obtain rfl:=e93;exact NumV.tup hp (by rw [Zaf (Zea ht hD (by intro z; cases z))]; exact ht)
 .obtain rfl:=a.int hp;exact NumV.of hp
theorem NumV.ext {l:Addr} {H H':Hp} {p:Int} {v:V} {x:Int × Int} (h:NumV H p v x) (b:Bag H l) (e:Ext l H H'):NumV H' p v x:=by
 by_cases hp:p = 0
 .refine Zad (h.ref hp) λt e94 ht=>?_;obtain rfl:=e94;refine Zbo b λa c hb _=>?_;clear b;exact NumV.tup hp (e _ _ (Zea ht hb (by intro z; cases z)) ht)
 .obtain rfl:=h.int hp;exact NumV.of hp
theorem NumO.ext {l:Addr} {H H':Hp} {p:Int} {B:Nat} {v:V} (h:NumO H p B v) (b:Bag H l) (e:Ext l H H'):NumO H' p B v:=let ⟨x,a,c,d⟩:=h; ⟨x,a.ext b e,c,d⟩
def RowO (H:Hp) (p:Int) (B:Nat) (wd:Int) (a:Addr):Prop:=∃ xs,H a = some (.lst xs)/\(xs.length:Int) = wd/\∀ x ∈ xs,NumO H p B x
theorem RowO.same {H H':Hp} {p wd:Int} {B:Nat} {a:Addr} (h:RowO H p B wd a) (s:Same H H'):RowO H' p B wd a:=let ⟨xs,h1,h2,h3⟩:=h; ⟨xs,s _ _ h1,h2,λx hx=>(h3 x hx).same s⟩
theorem RowO.weak {H:Hp} {p wd:Int} {B B':Nat} {a:Addr} (h:RowO H p B wd a) (hB:B<=B'):RowO H p B' wd a:=let ⟨xs,h1,h2,h3⟩:=h; ⟨xs,h1,h2,λx hx=>(h3 x hx).weak hB⟩
theorem RowO.ext {l:Addr} {H H':Hp} {p wd:Int} {B:Nat} {a:Addr} (h:RowO H p B wd a) (b:Bag H l) (e:Ext l H H') (n:a ≠ l):RowO H' p B wd a:=let ⟨xs,h1,h2,h3⟩:=h; ⟨xs,e _ _ n h1,h2,λx hx=>(h3 x hx).ext b e⟩
theorem RowO.put {H:Hp} {D:Addr} {l:List V} {o:HO} {p wd:Int} {B:Nat} {a:Addr} (h:RowO H p B wd a) (hD:H D = some (.lst l)) (n:a ≠ D):RowO (upd H D o) p B wd a:=let ⟨xs,h1,h2,h3⟩:=h; ⟨xs,by rw [Zaf n]; exact h1,h2,λx hx=>(h3 x hx).put hD⟩
theorem Zbe (rs:List Addr) (a:Addr):rs.map V.ref ++ [.ref a] = (rs ++ [a]).map V.ref:=by rw [Ja5]; rfl
abbrev BB:Nat:=10000
theorem Zlb {rs:List Addr} {j:Nat} (h:j < rs.length):(rs.map V.ref)[j]? = some (.ref rs[j]):=by rw [Jbc,Jaa h]; rfl
structure Tab (H:Hp) (p:Int) (hh wd:Int) (t r:Addr) (rs:List Addr):Prop where
 tup:H t = some (.tup [.int hh,.int wd,.ref r])
 lst:H r = some (.lst (rs.map V.ref))
 len:(rs.length:Int) = hh
 row:∀ a ∈ rs,RowO H p BB wd a
 nin:r ∉ rs
theorem Tab.same {H H':Hp} {p hh wd:Int} {t r:Addr} {rs:List Addr} (h:Tab H p hh wd t r rs) (s:Same H H'):Tab H' p hh wd t r rs:=⟨s _ _ h.tup,s _ _ h.lst,h.len,λa ha=>(h.row a ha).same s,h.nin⟩
def Fl (v:V):Prop:=v = .non\/(∃ b,v = .bl b)\/(∃ i,v = .int i)\/∃ s,v = .str s
theorem Fl.kn {H:Hp} {v:V} (h:Fl v):Kn H v:=by
 rcases h with h | h | h | h
 .exact .inl h
 .exact .inr (.inl h)
 .exact .inr (.inr (.inl h))
 .exact .inr (.inr (.inr (.inl h)))
theorem Zpl {H:Hp} {v:V} (h:Kn H v) (hn:∀ a,v ≠ .ref a):WfN H v:=⟨h,λa xs e=>absurd e (hn a)⟩
theorem wfn_tup {H:Hp} {a:Addr} {xs:List V} (h:H a = some (.tup xs)) (hl:xs.length<=1000) (hk:∀ y ∈ xs,Kn H y/\TopV y):WfN H (.ref a):=⟨.tup h hl,λb ys e1 e2 y hy=>by cases e1; rw [h] at e2; cases e2; exact hk y hy⟩
def Zf8 (H:Hp) (v:V):Prop:=Kn H v/\∀ r rows,v = .ref r->H r = some (.lst rows)->∀ z ∈ rows,WfR H z
theorem NumO.wf {H:Hp} {p:Int} {B:Nat} {v:V} (h:NumO H p B v) (hB:B<=100000000000000000000000000000000:=by decide):WfN H v:=by
 refine Zao h λx nv _ bd=>?_;clear h;by_cases hp:p = 0
 .refine Zad (nv.ref hp) λt e96 ht=>?_;obtain rfl:=e96;refine wfn_tup ht (by show 2<=1000; decide) λu hu=>?_;simp only [Jaq,List.not_mem_nil,or_false] at hu;rcases hu with rfl | rfl
  .exact ⟨Kn.int,λj e=>by cases e; exact Top.of (Ja3 bd.1 (by omega))⟩
  .exact ⟨Kn.int,λj e=>by cases e; exact Top.of (Ja3 bd.2 (by omega))⟩
 .obtain rfl:=nv.int hp;exact Zpl Kn.int (by intro a z; cases z)
theorem RowO.wf {H:Hp} {p wd:Int} {B:Nat} {a:Addr} (h:RowO H p B wd a) (w24:wd<=24) (hB:B<=100000000000000000000000000000000:=by decide):WfR H (.ref a):=by
 refine Zao h λxs h1 h2 h3=>?_;clear h;exact ⟨.lst h1 (by omega),λb ys e1 e2 y hy=>by cases e1; rw [h1] at e2; cases e2; exact (h3 y hy).wf hB⟩
theorem wfs_lst {H:Hp} {a:Addr} {xs:List V} (h:H a = some (.lst xs)) (hl:xs.length<=1000) (hk:∀ y ∈ xs,WfR H y):Zf8 H (.ref a):=⟨.lst h hl,λb ys e1 e2 y hy=>by cases e1; rw [h] at e2; cases e2; exact hk y hy⟩
theorem wft_tup {H:Hp} {a:Addr} {xs:List V} (h:H a = some (.tup xs)) (hl:xs.length<=1000) (hk:∀ y ∈ xs,Zf8 H y):WfT H (.ref a):=⟨.tup h hl,λb ys e1 e2 y hy=>by cases e1; rw [h] at e2; cases e2; exact hk y hy⟩
theorem Zkk {H:Hp} {v:V} (h:Fl v):Zf8 H v:=⟨h.kn,λa xs e=>by subst e; rcases h with h | ⟨_,h⟩ | ⟨_,h⟩ | ⟨_,h⟩ <;> cases h⟩
theorem fi {i:Int}:Fl (.int i):=.inr (.inr (.inl ⟨_,rfl⟩))
theorem fb {i:Bool}:Fl (.bl i):=.inr (.inl ⟨_,rfl⟩)
theorem Tab.wfs {H:Hp} {p hh wd:Int} {t r:Addr} {rs:List Addr} (h:Tab H p hh wd t r rs) (h24:hh<=24) (w24:wd<=24):Zf8 H (.ref r):=by
 have:=h.len;exact wfs_lst h.lst (by rw [Jab]; omega) λy hy=>by obtain ⟨a,ha,rfl⟩:=Jan.mp hy; exact (h.row a ha).wf w24
theorem three {H:Hp} {x y z:V} (hx:Zf8 H x) (hy:Zf8 H y) (hz:Zf8 H z):∀ u ∈ [x,y,z],Zf8 H u:=λu hu=>by
 simp only [Jaq,List.not_mem_nil,or_false] at hu;rcases hu with rfl | rfl | rfl
 .exact hx
 .exact hy
 .exact hz
theorem Tab.wft {H:Hp} {p hh wd:Int} {t r:Addr} {rs:List Addr} (h:Tab H p hh wd t r rs) (h24:hh<=24) (w24:wd<=24):WfT H (.ref t):=
 wft_tup h.tup (by show 3<=1000; decide) (three (Zkk fi) (Zkk fi) (h.wfs h24 w24))
theorem NumO.is {H:Hp} {p:Int} {B:Nat} {v:V} (h:NumO H p B v):Zk3 p H v = true:=by
 refine Zao h λx nv ix _=>?_;clear h;by_cases hp:p = 0
 .refine Zad (nv.ref hp) λt e97 ht=>?_;obtain rfl:=e97;rw [Zn3 hp,Zld ht];rcases ix with ⟨_,lo⟩ | ⟨h,_⟩
  .have:=lo.1;rw [Jad (show 1<=x.2 by omega),Jad lo.2];rfl
  .omega
 .obtain rfl:=nv.int hp;rw [Zk2 hp];rcases ix with ⟨h,_⟩ | ⟨_,h1,h2,_⟩
  .exact absurd h hp
  .rw [Jad h1,Jad h2];rfl
theorem RowO.is {H:Hp} {p wd:Int} {B:Nat} {a:Addr} (h:RowO H p B wd a):Zme p wd H (.ref a) = true:=by
 refine Zao h λxs h1 h2 h3=>?_;clear h;rw [Znj h1,Jad h2,Jdl];exact Jbu.mpr λx hx=>(h3 x hx).is
theorem Tab.is {H:Hp} {p hh wd:Int} {t r:Addr} {rs:List Addr} (h:Tab H p hh wd t r rs) (h0:0<=hh) (w0:0<=wd):Zmc p H (.ref t) = true:=by
 rw [Ziw h.tup h.lst (by omega) (by omega),Jab,Jad h.len,Jdl];exact Jbu.mpr λy hy=>by obtain ⟨a,ha,rfl⟩:=Jan.mp hy; exact (h.row a ha).is
structure TabC (H:Hp) (p hh wd:Int) (t r:Addr) (rs:List Addr) (M:List (List V)):Prop where
 tab:Tab H p hh wd t r rs
 con:∀ (i:Nat) (a:Addr),rs[i]? = some a->H a = some (.lst (M.getD i []))
theorem TabC.same {H H':Hp} {p hh wd:Int} {t r:Addr} {rs:List Addr} {M:List (List V)} (h:TabC H p hh wd t r rs M) (s:Same H H'):TabC H' p hh wd t r rs M:=⟨h.tab.same s,λi a e=>s _ _ (h.con i a e)⟩
def Sizes (H:Hp) (z:Addr) (ns:List Int):Prop:=H z = some (.lst (ns.map V.int))/\ns.length<=8/\∀ n ∈ ns,0<=n/\n<=24
theorem Sizes.same {H H':Hp} {z:Addr} {ns:List Int} (h:Sizes H z ns) (s:Same H H'):Sizes H' z ns:=⟨s _ _ h.1,h.2⟩
def spSz (C:Addr):Sp:=λvs H Q _=>∃ (d z lp:Addr) (m:Int) (xs:List V) (ns:List Int),vs = [.ref d,.ref z]/\Zd0 C H d m lp xs/\Sizes H z ns/\(ns.length:Int) = m/\∀ H',Same H H'->Q (.bl true) H'
theorem ok_sz {f:Addr} {fd:FuncData} (F:Fun K "are_sizes" "are_sizes" Zen f fd) (T:Txt K mg C G S) (C_is_whole:Cal P w K mg base "is_whole" 1 Zff):FnOk P w K mg base CX0 2 f fd ["drawing","thing"] (spSz C):=by
 have nd:=Zf3.nd;refine F.ok Zf3 (λvs H Q E h=>?_) (λcdv A outer s H vs Q E hr h=>?_)
 .refine xE6_2 h λd z lp m xs ns e94 _=>?_;clear h;obtain rfl:=e94;rfl
 .refine Zpj h λd z lp m xs ns e95 e96 e97 e98=>?_;clear h;obtain rfl:=e95;obtain ⟨dx,hd,hlp⟩:=e96;obtain ⟨hz,h8,hn⟩:=e97;obtain ⟨hm,q⟩:=e98;refine ⟨_,((@Za1 _ _ _ _ _ _ _ _ (PW.pt (Zc7 (Za6 (Za5 (Za0 Zau rfl T.n_isinstance Jbf ((pv 1)<&>((Zfo rfl T.n_list Jc0)<&>Zaa))))) (Zb8 (Zai Zd9 (Za0 Zaq rfl T.n_len Jbl ((pv 1)<&>Zaa)) (Zbb (pv 0) rfl) (Zan _))))) (~~~Zd8) Zam)<*>(~~~(Za0 (Zcl rfl) rfl T.n_all Jd7 ((Za2 (own:=["size"]) (fr:=[]) rfl (Zb5 (by kernel_rfl)) (Zat (pv 1)) (λ_ _ _ _=>⟨(@Zah _ _ 0 _ (show (["size"]:List Str).Nodup by decide +kernel) rfl (Or.inl rfl) (Or.inr rfl)),Zbc,(Zf7 (Zby C_is_whole hr.m rfl ((pv 0)<&>Zaa)) (Zf6 (Zb4 op_ge (pv 0) Zac (Zan _))))⟩))<&>Zaa)))),?_⟩;walk_at "wp";refine Zaz _ _ ⟨⟨rfl,rfl⟩,_,rfl,_,.lst hz,true,Zdb K,Zkb (by decide) ⟨_,.inl (SqL.of hz),C,dx,_,hd,T.cl_Drawing,T.nM,_,Ze9 m lp,rfl,Zkb ?_ ⟨_,rfl,z,rfl,⟨_,SqL.of hz⟩,λD hD=>Zfa (λ_=>true) hz hD (by rw [Jab]; omega) (λk x H' Q' hx s' q'=>?_) λH' s' e'=>⟨D,rfl,_,SqL.of e',?_⟩⟩⟩⟩
  .rw [Jad (by rw [Jab,hm])]; decide
  .rw [Jbc] at hx;cases e:ns[k]? with
   | none=>rw [e] at hx; cases hx
   | some n=>
    rw [e] at hx;cases hx;have n0:=(hn n (Jag e)).1;refine ⟨_,rfl,n,rfl,true,rfl,iteT ⟨_,rfl,_,_,rfl,rfl,?_⟩⟩;show Q' (V.bl (decide (0<=n))) H';rw [Jad n0];exact q' H' (Same.refl _)
  .rw [Zfc];exact q H' s'
def spTo (G:Addr):Sp:=λvs H Q _=>∃ (g t r:Addr) (p hh wd:Int) (rs:List Addr),vs = [.ref g,.int hh,.int wd,.ref t]/\GAt G H g p/\GroundP p/\Tab H p hh wd t r rs/\0<=hh/\hh<=24/\0<=wd/\wd<=24/\∀ H',Same H H'->Q (.bl true) H'
theorem ok_to {f:Addr} {fd:FuncData} (F:Fun K "is_table_of" "is_table_of" Zc1 f fd) (T:Txt K mg C G S) (C_is_table:Cal P w K mg base "is_table" 5 (Zm0 G)):FnOk P w K mg base CX0 6 f fd ["ground","high","wide","thing"] (spTo G):=by
 have nd:=Zed.nd;refine F.ok Zed (λvs H Q E h=>?_) (λcdv A outer s H vs Q E hr h=>?_)
 .refine xE7_2 h λg t r p hh wd rs e99 _=>?_;clear h;obtain rfl:=e99;rfl
 .refine Zmi h λg t r p hh wd rs e910 hg hp e911=>?_;clear h;obtain rfl:=e910;refine Zfe e911 λtb h0 h24 w0 w24 q=>?_;clear e911;refine ⟨_,(~~~(Zf7 (Zby C_is_table hr.m rfl ((pv 0)<&>((pv 3)<&>Zaa))) (Zf7 (Zb4 Zeq (Zjc<|>(pv 3)<||>Zac) (pv 1) (Zan _)) (Zf6 (Zb4 Zeq (Zjc<|>(pv 3)<||>Zac) (pv 2) (Zan _)))))),?_⟩;walk_at "wp";exact Zbg g p (.ref t) ⟨rfl,hg,hp,tb.wft h24 w24,λH1 s1=>⟨_,rfl,Zpe (tb.is h0 w0) ⟨_,SqT.of (s1 _ _ tb.tup),_,rfl,rfl,Zpe (Jad rfl) ⟨_,SqT.of (s1 _ _ tb.tup),_,rfl,rfl,by rw [Jad rfl]; exact q H1 s1⟩⟩⟩⟩
theorem Zrg {cap:L2.St} {a b c:Option V}:Sh 3 cap (a :: b :: c :: cap):=⟨[a,b,c],rfl,rfl⟩
theorem Zks {cap σ:L2.St} (h:Sh 3 cap σ):∃ a b c,σ = a :: b :: c :: cap:=by
 refine Zad h λo h1 e912=>?_;clear h;obtain rfl:=e912
 match o,h1 with
 | [a,b,c],_=>exact ⟨a,b,c,rfl⟩
theorem Zhw {ns:List Int} {i:Int} (h0:0<=i) (h1:i < ns.length):atI (ns.map V.int) i = some (.int (ns.getD i.toNat 0)):=by
 refine Zhe h0 ?_;rw [Jbc,Jbh,Jaa (show i.toNat < ns.length by omega)];rfl
def spTs (C G:Addr):Sp:=λvs H Q _=>∃ (g d z l lp:Addr) (p m:Int) (xs:List V) (ps:List (Int × Int)) (ns:List Int) (ts:List Addr),vs = [.ref g,.ref d,.ref z,.ref l]/\GAt G H g p/\GroundP p/\Zd0 C H d m lp xs/\Prs H xs ps/\InP m ps/\ps.length<=9/\Sizes H z ns/\(ns.length:Int) = m /\
 H l = some (.lst (ts.map V.ref))/\ts.length = ps.length/\(∀ (i:Nat) t q,ts[i]? = some t->ps[i]? = some q->∃ r rs,Tab H p (ns.getD q.2.toNat 0) (ns.getD q.1.toNat 0) t r rs)/\∀ H',Same H H'->Q (.bl true) H'
theorem ok_ts {f:Addr} {fd:FuncData} (F:Fun K "are_tables" "are_tables" Zdu f fd) (T:Txt K mg C G S) (C_is_table_of:Cal P w K mg base "is_table_of" 6 (spTo G)):FnOk P w K mg base CX0 7 f fd ["ground","drawing","sizes","thing"] (spTs C G):=by
 have nd:=Ze3.nd;refine F.ok Ze3 (λvs H Q E h=>?_) (λcdv A outer s H vs Q E hr h=>?_)
 .refine xE11_2 h λg d z l lp p m xs ps ns ts e913 _=>?_;clear h;obtain rfl:=e913;rfl
 .refine xE11_4 h λg d z l lp p m xs ps ns ts e914 hg hp e915=>?_;clear h;obtain rfl:=e914;refine Zmk e915 λe916 pr ip p9 hz hm hl hlen tb q=>?_;clear e915;obtain ⟨dx,hd,hlp⟩:=e916;refine ⟨_,((@Za1 _ _ _ _ _ _ _ _ (PW.pt (Zc7 (Za6 (Za5 (Za0 Zau rfl T.n_isinstance Jbf ((pv 3)<&>((Zfo rfl T.n_list Jc0)<&>Zaa))))) (Zb8 (Zai Zd9 (Za0 Zaq rfl T.n_len Jbl ((pv 3)<&>Zaa)) (Za0 Zaq rfl T.n_len Jbl ((Zbb (pv 1) rfl)<&>Zaa)) (Zan _))))) (~~~Zd8) Zam)<*>(~~~(Za0 (Zcl rfl) rfl T.n_all Jd7 ((Za2 (own:=["tail","head","table"]) (fr:=[("ground",0),("sizes",2)]) rfl (Zb5 (by kernel_rfl)) (pi_zip rfl T.n_zip ((Zbb (pv 1) rfl)<&>((pv 3)<&>Zaa))) (λ_ _ _ _=>⟨(@Zib _ K rfl _ _ _ _ 2 rfl (@Zak _ _ _ _ _ (@Zib _ K rfl _ _ _ _ 2 rfl (@Zak _ _ _ _ _ (@Zah _ _ 0 _ (show (["tail","head","table","ground","sizes"]:List Str).Nodup by decide +kernel) rfl (Or.inl rfl) (Or.inr rfl)) (@Zak _ _ _ _ _ (@Zah _ _ 1 _ (show (["tail","head","table","ground","sizes"]:List Str).Nodup by decide +kernel) rfl (Or.inl rfl) (Or.inr rfl)) (@Zbj _) (by rfl)) (by rfl)) (by rfl) (by rfl)) (@Zak _ _ _ _ _ (@Zah _ _ 2 _ (show (["tail","head","table","ground","sizes"]:List Str).Nodup by decide +kernel) rfl (Or.inl rfl) (Or.inr rfl)) (@Zbj _) (by rfl)) (by rfl)) (by rfl) (by rfl)),Zbc,(Zby C_is_table_of hr.m rfl ((pv 3)<&>(((Zla K rfl)<|>(pv 4)<||>(pv 1))<&>(((Zla K rfl)<|>(pv 4)<||>(pv 0))<&>((pv 2)<&>Zaa)))))⟩))<&>Zaa)))),?_⟩;walk_at "wp";have hxl:=pr.1;refine Zaz _ _ ⟨⟨rfl,rfl⟩,_,rfl,_,.lst hl,true,Zdb K,Zkb (by decide) ⟨_,.inl (SqL.of hl),C,dx,_,hd,T.cl_Drawing,T.nA,_,Zch m lp,lp,rfl,_,.inl (SqL.of hlp),Zkb ?_ ?_⟩⟩
  .rw [Jad (by rw [Jab]; omega)]; decide
  .refine ⟨_,rfl,d,C,dx,_,_,rfl,hd,T.cl_Drawing,T.nA,Zch m lp,_,rfl,lp,l,rfl,⟨_,SqL.of hlp⟩,⟨_,SqL.of hl⟩,λD hD=>?_⟩;refine Zq6 (k:=3) (xs:=xs) (ys:=ts.map V.ref) (λi vs H'=>Same H H'/\H' D = some (.lst vs)/\vs = ((List.range i).map λ_=>true).map V.bl) (by rw [Jab]; omega) ⟨Same.new hD,Zab,rfl⟩ (λi vs H' _ pv=>⟨SqL.of (pv.1 _ _ hlp),SqL.of (pv.1 _ _ hl)⟩) ?_ ?_
   .intro i x y pz vs σ' H' hi hx hy hpz sh e91;refine Zav e91 λs' e' e917=>?_;clear e91;obtain rfl:=e917;refine xE3_1 (Zks sh) λz1 z2 z3 e918=>?_;obtain rfl:=e918;have hi':i < ps.length:=by omega
    have hq:ps[i]? = some ps[i]:=Jaa hi';refine Zad (pr.2 i x _ hx hq) λta e919 hta=>?_;obtain rfl:=e919;have hti:ts[i]? = some (ts[i]'(by omega)):=Jaa (by omega);rw [Jbc,hti] at hy;cases hy;refine xE2_1 (tb i _ _ hti hq) λr rs tb1=>?_;refine Zbh (ip _ (Jag hq)) λi0 i1 j0 j1=>?_;have s0:=s'.trans (Same.new (o:=.tup [V.ref ta,V.ref (ts[i]'(by omega))]) hpz);have hz0:=hz.same s0;have a1:=Zhw (ns:=ns) i0 (by omega);have a2:=Zhw (ns:=ns) j0 (by omega);have b1:=hz.2.2 (ns.getD ps[i].1.toNat 0) (by rw [Jbh,Jaa (show ps[i].1.toNat < ns.length by omega)]; exact Jby _);have b2:=hz.2.2 (ns.getD ps[i].2.toNat 0) (by rw [Jbh,Jaa (show ps[i].2.toNat < ns.length by omega)]; exact Jby _);refine Zaz pz _ ⟨rfl,SqT.of Zab,rfl,_,_,rfl,ta,_,rfl,SqT.of (s0 _ _ hta),rfl,_,_,rfl,_,_,rfl,rfl,_,_,rfl,rfl,?_⟩;simp only [Zgf,List.set_cons_zero,List.set_cons_succ,Jcl];refine ⟨_,rfl,_,rfl,_,rfl,z,_,_,_,rfl,rfl,SqL.of hz0.1,a2,_,rfl,_,rfl,z,_,_,_,rfl,rfl,SqL.of hz0.1,a1,_,rfl,g,_,r,p,_,_,rs,rfl,hg.same s0,hp,tb1.same s0,b2.1,b2.2,b1.1,b1.2,λH'' s''=>?_⟩;have s1:=(Same.new (o:=.tup [V.ref ta,V.ref (ts[i]'(by omega))]) hpz).trans s'';exact leaf (ws:=((List.range (i + 1)).map λ_=>true).map V.bl) hi Zrg (s1 _ _ e') (Zal (by rw [Jab,Jab,Jcw]; omega)) ⟨(s'.trans s1).upd hD,by rw [Zab,Jdv,Ja5,Ja5]; rfl,rfl⟩
   .intro vs H' e92;refine Zav e92 λs' e' e920=>?_;clear e92;obtain rfl:=e920;exact ⟨D,rfl,_,SqL.of e',by rw [Zfc]; exact q H' s'⟩
def TabF (H0 H:Hp) (p hh wd:Int) (t:Addr) (M:List (List V)):Prop:=∃ r rs,TabC H p hh wd t r rs M/\H0 t = none/\H0 r = none/\∀ a ∈ rs,H0 a = none
def Tbs (H:Hp) (p:Int) (l:Addr) (ts:List Addr) (cs:List (Int × Int × List (List V))):Prop:=H l = some (.lst (ts.map V.ref))/\ts.length = cs.length/\cs.length<=9/\∀ (i:Nat) t c,ts[i]? = some t->cs[i]? = some c->(∃ r rs,TabC H p c.1 c.2.1 t r rs c.2.2)/\0<=c.1/\c.1<=24/\0<=c.2.1/\c.2.1<=24
theorem TabC.put {H:Hp} {p hh wd:Int} {t r D:Addr} {rs:List Addr} {M:List (List V)} {l:List V} {o:HO} (h:TabC H p hh wd t r rs M) (hD:H D = some (.lst l)) (nr:r ≠ D) (ns:D ∉ rs):TabC (upd H D o) p hh wd t r rs M:=by
 have nt:t ≠ D:=Zea h.tab.tup hD (by intro z; cases z);have na:∀ a ∈ rs,a ≠ D:=λa ha z=>ns (z ▸ ha);exact ⟨⟨by rw [Zaf nt]; exact h.tab.tup,by rw [Zaf nr]; exact h.tab.lst,h.tab.len,λa ha=>(h.tab.row a ha).put hD (na a ha),h.tab.nin⟩,λi a e=>by rw [Zaf (na a (Jag e))]; exact h.con i a e⟩
abbrev teRow (K:PySem.W.Frag):TE:=tCB (λxs H Q=>∃ p,xs = [V.ref p]/\∃ x,(SqL K H p x\/SqT K H p x)/\∀ (l:Addr),H l = none->Q (V.ref l) (upd H l (HO.lst x))) (Zga (Zko 0) Zpd)
abbrev teTab (K:PySem.W.Frag):TE:=tTup (Zga (Zko 0) (Zga (Zko 1) (Zga (tComp 1 [] (Zqx K (Zko 2)) (Zba 0) Zgf (teRow K)) Zpd)))
theorem Zox {r D:Addr} {rs:List Addr} {M:List (List V)} {fr:List (Str × Nat)} {σ:L2.St} {H1:Hp} {Q:VK} (hr:H1 r = some (.lst (rs.map V.ref))) (hc:∀ (i:Nat) (a:Addr),rs[i]? = some a->H1 a = some (.lst (M.getD i []))) (hn:rs.length<=100) (hD:H1 D = none)
  (hQ:∀ (rs':List Addr) H',Same H1 H'->H' D = some (.lst (rs'.map V.ref))->rs'.length = rs.length->(∀ (i:Nat) (a:Addr),rs'[i]? = some a->H' a = some (.lst (M.getD i [])))->(∀ a ∈ rs',H1 a = none/\a ≠ D)->rs'.Nodup->Q (.ref D) H'):
  Zb6 (Zba 0) Zgf (teRow K) (Itl K r) D (Zfv 1 fr σ) H1 Q:=by
 refine Zb0 (xs:=rs.map V.ref) (λi vs H=>∃ rs':List Addr,vs = rs'.map V.ref/\Same H1 H/\H D = some (.lst vs)/\rs'.length = i/\(∀ (j:Nat) (a:Addr),rs'[j]? = some a->H a = some (.lst (M.getD j [])))/\(∀ a ∈ rs',H1 a = none/\a ≠ D)/\rs'.Nodup)
  ⟨[],rfl,Same.new hD,Zab,rfl,λj a e=>by simp at e,(λa ha=>by simp at ha),List.nodup_nil⟩ (λi vs H _ ⟨_,_,s,_⟩=>SqL.of (s _ _ hr)) ?_ (λvs H ⟨rs',hv,s,e,hl,hc',fr',nd'⟩=>hQ rs' H s (hv ▸ e) (by rw [hl,Jab]) hc' fr' nd')
 intro i x vs σ' H hi hx sh e91;refine xE1_6 e91 λrs' e93 s e hl hc' e94=>?_;clear e91;obtain rfl:=e93;obtain ⟨fr',nd'⟩:=e94;obtain ⟨z,rfl⟩:=sh.one;rw [Jab] at hi;rw [Zlb hi] at hx;cases hx;have ha:=s _ _ (hc i _ (Jaa hi));simp only [Zdi,Zba,Zgf,List.set_cons_zero,Jcl];refine ⟨_,rfl,_,rfl,_,.inl (SqL.of ha),λc hc0=>?_⟩;have nDc:D ≠ c:=Zag e hc0;have hDc:(upd H c (.lst (M.getD i []))) D = some (.lst (rs'.map V.ref)):=by rw [Zaf nDc]; exact e
 have sc:=s.trans (Same.new (o:=.lst (M.getD i [])) hc0);refine leaf (ws:=rs'.map V.ref ++ [.ref c]) (by rw [Jab]; exact hi) Sh.mk1 hDc (Zal (by rw [Jab]; omega)) ⟨rs' ++ [c],Zbe _ _,sc.upd hD,by rw [Zab,Zbe],by rw [Jam,hl]; rfl,λj a ej=>?_,λa ha=>?_,?_⟩
 .by_cases hj:j < rs'.length
  .rw [Jai hj] at ej;have:=hc' j a ej;have naD:=(fr' a (Jag ej)).2;rw [Zaf naD,Zaf (Zag this hc0)];exact this
  .rw [Jal (by omega)] at ej;have hj0:j - rs'.length = 0:=by
    by_cases z:j - rs'.length = 0
    .exact z
    .rw [Jb5 (by simp; omega)] at ej; cases ej
   rw [hj0] at ej;cases ej;rw [Zaf nDc.symm,Zab,show j = i by omega]
 .rcases Jbe.mp ha with ha | ha
  .exact fr' a ha
  .rw [Jar.mp ha];exact ⟨s.free hc0,nDc.symm⟩
 .refine Jdc.mpr ⟨nd',by simp,λa ha b hb z=>?_⟩;rw [Jar.mp hb] at z;subst z;obtain ⟨j,hj,rfl⟩:=Jbb.mp ha;have:=hc' j _ (Jaa hj);rw [hc0] at this;cases this
def Sep (H:Hp) (D:Addr) (ts:List Addr):Prop:=∃ rr:List (Addr × List Addr),rr.length = ts.length/\(∀ (i:Nat) t x,ts[i]? = some t->rr[i]? = some x->(∃ h w:V,H t = some (.tup [h,w,.ref x.1]))/\H x.1 = some (.lst (x.2.map V.ref)))/\(∀ x ∈ rr,x.1 ≠ D/\D ∉ x.2)/\(∀ x ∈ rr,∀ y ∈ rr,x.1 ∉ y.2)/\(rr.map (·.2)).flatten.Nodup
theorem Zow {l D:Addr} {p:Int} {ts:List Addr} {cs:List (Int × Int × List (List V))} {fr:List (Str × Nat)} {σ:L2.St} {H1:Hp} {Q:VK} (hT:Tbs H1 p l ts cs) (hD:H1 D = none)
  (hQ:∀ (ts':List Addr) H',Same H1 H'->H' D = some (.lst (ts'.map V.ref))->ts'.length = cs.length->(∀ (i:Nat) t c,ts'[i]? = some t->cs[i]? = some c->TabF H1 H' p c.1 c.2.1 t c.2.2)->Sep H' D ts'->Q (.ref D) H'):
  Zb6 (gTup K 3 (Zl7 (Zba 0) (Zl7 (Zba 1) (Zl7 (Zba 2) gNil)))) Zgf (teTab K) (Itl K l) D (Zfv 3 fr σ) H1 Q:=by
 refine Zbh hT λhl hlen h9 hc=>?_;clear hT;refine Zb0 (k:=3) (xs:=ts.map V.ref) (λi vs H=>∃ (ts':List Addr) (rr:List (Addr × List Addr)),vs = ts'.map V.ref/\Same H1 H/\H D = some (.lst vs)/\ts'.length = i/\rr.length = i/\((∀ x ∈ rr,∀ y ∈ rr,x.1 ∉ y.2)/\(rr.map (·.2)).flatten.Nodup)/\(∀ x ∈ rr,x.1 ≠ D/\D ∉ x.2/\(∃ o,H x.1 = some o)/\∀ a ∈ x.2,∃ o,H a = some o)/\∀ (j:Nat) t c x,ts'[j]? = some t->cs[j]? = some c->rr[j]? = some x->TabC H p c.1 c.2.1 t x.1 x.2 c.2.2/\H1 t = none/\H1 x.1 = none/\∀ a ∈ x.2,H1 a = none)
  ⟨[],[],rfl,Same.new hD,Zab,rfl,rfl,⟨by simp,by simp⟩,by simp,λj t c x e=>by simp at e⟩ (λi vs H _ ⟨_,_,_,s,_⟩=>SqL.of (s _ _ hl)) ?_ (λvs H ⟨ts',rr,hv,s,e,hl',hrr,sp,sD,hc'⟩=>?_)
 rotate_left
 .have hrl:rr.length = ts'.length:=by omega
  have htl:ts'.length = cs.length:=by rw [hl',Jab,hlen]
  refine hQ ts' H s (hv ▸ e) htl (λi t c e1 e2=>?_) ⟨rr,hrl,λi t x e1 e2=>?_,λx hx=>⟨(sD x hx).1,(sD x hx).2.1⟩,sp⟩
  .have hi:i < rr.length:=by have:=(Jaw.mp e1).1; omega
   refine Zbh (hc' i t c _ e1 e2 (Jaa hi)) λa1 a2 a3 a4=>?_;exact Zaz _ _ ⟨a1,a2,a3,a4⟩
  .have hi:i < cs.length:=by have:=(Jaw.mp e1).1; omega
   obtain ⟨a1,_⟩:=hc' i t _ x e1 (Jaa hi) e2;exact ⟨⟨_,_,a1.tab.tup⟩,a1.tab.lst⟩
 intro i x vs σ' H hi hx sh e92;refine Zln e92 λts' rr e95 s e hl' hrr e96=>?_;clear e92;obtain rfl:=e95;refine Zav e96 λsp sD hc'=>?_;clear e96;refine xE3_1 (Zks sh) λz1 z2 z3 e97=>?_;obtain rfl:=e97;rw [Jab] at hi;rw [Zlb hi] at hx;cases hx;have hci:cs[i]? = some (cs[i]'(by omega)):=Jaa (by omega);refine Zd7 (hc i _ _ (Jaa hi) hci) λe98 c0 c24 w0 w24=>?_;obtain ⟨r,rs,tc⟩:=e98;have tcH:=tc.same s;have hrl:=tc.tab.len;refine Zaz _ _ ⟨rfl,SqT.of tcH.tab.tup,rfl,_,_,rfl,_,_,rfl,_,_,rfl,rfl,?_⟩;simp only [Zgf,List.set_cons_zero,List.set_cons_succ,Jcl];refine ⟨_,rfl,_,rfl,_,rfl,r,rfl,⟨_,SqL.of tcH.tab.lst⟩,λD2 hD2=>Zox (M:=(cs[i]'(by omega)).2.2) tcH.tab.lst tcH.con (by omega) hD2 λrs' H' s' hD2' hl2 hc2 fr2 nd2=>?_⟩;refine ⟨by show 3<=sizeLine; decide,λpt hpt=>?_⟩;have s0:=Same.new (o:=.tup [V.int (cs[i]'(by omega)).1,V.int (cs[i]'(by omega)).2.1,V.ref D2]) hpt;have s1:=s'.trans s0;have sA:=s.trans s1;have hDpt:=s1 _ _ e;have nDp:D ≠ pt:=Zag (s' _ _ e) hpt;have nD2:D2 ≠ D:=λz=>by rw [z,e] at hD2; cases hD2
 have nDr:D ∉ rs':=λz=>by have:=(fr2 D z).1; rw [e] at this; cases this
 have tcN:TabC (upd H' pt (.tup [V.int (cs[i]'(by omega)).1,V.int (cs[i]'(by omega)).2.1,V.ref D2])) p (cs[i]'(by omega)).1 (cs[i]'(by omega)).2.1 pt D2 rs' (cs[i]'(by omega)).2.2:=by
  refine ⟨⟨Zab,s0 _ _ hD2',by omega,λa ha=>?_,λz=>(fr2 D2 z).2 rfl⟩,λj a ej=>s0 _ _ (hc2 j a ej)⟩;obtain ⟨j,hj,rfl⟩:=Jbb.mp ha;have hj':j < rs.length:=by omega
  refine Zao (tcH.tab.row rs[j] (Jby hj')) λys hy hyl hyn=>?_;rw [tcH.con j _ (Jaa hj')] at hy;cases hy;exact ⟨_,s0 _ _ (hc2 j _ (Jaa hj)),hyl,λy hy=>(hyn y hy).same s1⟩
 have sep':∀ x ∈ rr ++ [(D2,rs')],∀ y ∈ rr ++ [(D2,rs')],x.1 ∉ y.2:=λx hx y hy z=>by
  rcases Jbe.mp hx with hx | hx <;> rcases Jbe.mp hy with hy | hy
  .exact sp.1 x hx y hy z
  .rw [Jar.mp hy] at z;obtain ⟨o,ho⟩:=(sD x hx).2.2.1;have:=(fr2 x.1 z).1;rw [ho] at this;cases this
  .rw [Jar.mp hx] at z;obtain ⟨o,ho⟩:=(sD y hy).2.2.2 _ z;rw [hD2] at ho;cases ho
  .rw [Jar.mp hx,Jar.mp hy] at z;exact (fr2 D2 z).2 rfl
 have nodup':((rr ++ [(D2,rs')]).map (·.2)).flatten.Nodup:=by
  rw [Ja5,List.flatten_append];refine Jdc.mpr ⟨sp.2,by simpa using nd2,λa ha b hb z=>?_⟩;subst z;refine Zad (Jdk.mp ha) λu hu hau=>?_;refine Zad (Jan.mp hu) λy hy e99=>?_;obtain rfl:=e99;obtain ⟨o,ho⟩:=(sD y hy).2.2.2 a hau;have:=(fr2 a (by simpa using hb)).1;rw [ho] at this;cases this
 refine leaf (ws:=ts'.map V.ref ++ [.ref pt]) (by rw [Jab]; exact hi) Zrg hDpt (Zal (by rw [Jab]; omega)) ⟨ts' ++ [pt],rr ++ [(D2,rs')],Zbe _ _,sA.upd hD,by rw [Zab,Zbe],by rw [Jam,hl']; rfl,by rw [Jam,hrr]; rfl,⟨sep',nodup'⟩,λx hx=>?_,λj t c x e1 e2 e3=>?_⟩
 .have keep:∀ b o,b ≠ D->(upd H' pt (.tup [V.int (cs[i]'(by omega)).1,V.int (cs[i]'(by omega)).2.1,V.ref D2])) b = some o->∀ o',(upd (upd H' pt (.tup [V.int (cs[i]'(by omega)).1,V.int (cs[i]'(by omega)).2.1,V.ref D2])) D o') b = some o:=λb o nb h o'=>by rw [Zaf nb]; exact h
  rcases Jbe.mp hx with hx | hx
  .refine Zbh (sD x hx) λx1 x2 e910 x4=>?_;obtain ⟨o,ho⟩:=e910;refine ⟨x1,x2,⟨o,keep _ _ x1 (s1 _ _ ho) _⟩,λa ha=>?_⟩;obtain ⟨o,ho⟩:=x4 a ha;exact ⟨o,keep _ _ (λz=>x2 (z ▸ ha)) (s1 _ _ ho) _⟩
  .rw [Jar.mp hx];refine ⟨nD2,nDr,⟨_,keep _ _ nD2 tcN.tab.lst _⟩,λa ha=>?_⟩;refine Zad (tcN.tab.row a ha) λys hy _=>?_;exact ⟨_,keep _ _ (λz=>nDr (z ▸ ha)) hy _⟩
 by_cases hj:j < ts'.length
 .rw [Jai hj] at e1;rw [Jai (by omega)] at e3;refine Zbh (hc' j t c x e1 e2 e3) λa1 a2 a3 a4=>?_;refine Zav (sD x (Jag e3)) λa5 a6 _=>?_;exact ⟨(a1.same s1).put hDpt a5 a6,a2,a3,a4⟩
 .rw [Jal (by omega)] at e1;rw [Jal (by omega)] at e3;have hj0:j - ts'.length = 0:=by
   by_cases z:j - ts'.length = 0
   .exact z
   .rw [Jb5 (by simp; omega)] at e1; cases e1
  rw [show j - rr.length = 0 by omega] at e3;rw [hj0] at e1;cases e1;cases e3;have hji:j = i:=by omega
  subst hji;rw [hci] at e2;cases e2;exact ⟨tcN.put hDpt nD2 nDr,(s.trans s').free hpt,s.free hD2,λa ha=>s.free (fr2 a ha).1⟩
theorem NumO.extI {x C0 dx:Addr} {fs:List (Str × V)} {H H':Hp} {p:Int} {B:Nat} {v:V} (h:NumO H p B v) (hx:H x = some (.ins C0 dx fs)) (e:Ext x H H'):NumO H' p B v:=by
 refine Zao h λy nv b c=>?_;clear h;refine ⟨y,?_,b,c⟩;by_cases hp:p = 0
 .refine Zad (nv.ref hp) λt e911 ht=>?_;obtain rfl:=e911;exact NumV.tup hp (e _ _ (Zea ht hx (by intro z; cases z)) ht)
 .obtain rfl:=nv.int hp;exact NumV.of hp
theorem TabC.extI {x C0 dx:Addr} {fs:List (Str × V)} {H H':Hp} {p hh wd:Int} {t r:Addr} {rs:List Addr} {M:List (List V)} (h:TabC H p hh wd t r rs M) (hx:H x = some (.ins C0 dx fs)) (e:Ext x H H'):TabC H' p hh wd t r rs M:=by
 refine ⟨⟨e _ _ (Zea h.tab.tup hx (by intro z; cases z)) h.tab.tup,e _ _ (Zea h.tab.lst hx (by intro z; cases z)) h.tab.lst,h.tab.len,λa ha=>?_,h.tab.nin⟩,λi a ei=>e _ _ (Zea (h.con i a ei) hx (by intro z; cases z)) (h.con i a ei)⟩;refine Zao (h.tab.row a ha) λys h1 h2 h3=>?_;exact ⟨ys,e _ _ (Zea h1 hx (by intro z; cases z)) h1,h2,λy hy=>(h3 y hy).extI hx e⟩
theorem Tbs.extI {x C0 dx:Addr} {fs:List (Str × V)} {H H':Hp} {p:Int} {l:Addr} {ts:List Addr} {cs:List (Int × Int × List (List V))} (h:Tbs H p l ts cs) (hx:H x = some (.ins C0 dx fs)) (e:Ext x H H'):Tbs H' p l ts cs:=
 ⟨e _ _ (Zea h.1 hx (by intro z; cases z)) h.1,h.2.1,h.2.2.1,λi t c e1 e2=>let ⟨⟨r,rs,a⟩,b⟩:=h.2.2.2 i t c e1 e2; ⟨⟨r,rs,a.extI hx e⟩,b⟩⟩
theorem Tbs.same {H H':Hp} {p:Int} {l:Addr} {ts:List Addr} {cs:List (Int × Int × List (List V))} (h:Tbs H p l ts cs) (s:Same H H'):Tbs H' p l ts cs:=
 ⟨s _ _ h.1,h.2.1,h.2.2.1,λi t c e1 e2=>let ⟨⟨r,rs,a⟩,b⟩:=h.2.2.2 i t c e1 e2; ⟨⟨r,rs,a.same s⟩,b⟩⟩
def Zgh (g d z l:Addr):List (Str × V):=Zbz "tables" (.ref l) (Zbz "sizes" (.ref z) (Zbz "drawing" (.ref d) (Zbz "ground" (.ref g) [])))
theorem Zb9 (g d z l:Addr):(Zgh g d z l).lookup ("drawing" : Str) = some (.ref d):=by unfold Zgh; rw [Zar,if_neg (by decide +kernel),Zar,if_neg (by decide +kernel),Zar,if_pos rfl]
theorem Zgi (g d z l:Addr):(Zgh g d z l).lookup ("ground" : Str) = some (.ref g):=by unfold Zgh; rw [Zar,if_neg (by decide +kernel),Zar,if_neg (by decide +kernel),Zar,if_neg (by decide +kernel),Zar,if_pos rfl]
def Fits (ns:List Int) (cs:List (Int × Int × List (List V))) (ps:List (Int × Int)):Prop:=cs.length = ps.length/\∀ (i:Nat) c q,cs[i]? = some c->ps[i]? = some q->c.1 = ns.getD q.2.toNat 0/\c.2.1 = ns.getD q.1.toNat 0
def spSI (S C G:Addr):Sp:=λvs H Q _=>∃ (x dx g d z l lp:Addr) (p m:Int) (xs:List V) (ps:List (Int × Int)) (ns:List Int) (ts:List Addr) (cs:List (Int × Int × List (List V))),vs = [.ref x,.ref g,.ref d,.ref z,.ref l]/\H x = some (.ins S dx [])/\GAt G H g p/\GroundP p /\
 Zd0 C H d m lp xs/\Prs H xs ps/\InP m ps/\ps.length<=9/\Sizes H z ns/\(ns.length:Int) = m/\Tbs H p l ts cs/\Fits ns cs ps /\
 ∀ (z' l':Addr) (ts':List Addr) (H':Hp),Ext x H H'->H' x = some (.ins S dx (Zgh g d z' l'))->H z' = none->H l' = none->Sizes H' z' ns->H' l' = some (.lst (ts'.map V.ref))->ts'.length = cs.length->(∀ (i:Nat) t c,ts'[i]? = some t->cs[i]? = some c->TabF H H' p c.1 c.2.1 t c.2.2)->Q .non H'
theorem Zqc {f:Addr} {fd:FuncData} (F:Fun K "__init__" "Standing.__init__" Zcd f fd) (T:Txt K mg C G S) (C_are_sizes:Cal P w K mg base "are_sizes" 2 (spSz C)) (C_are_tables:Cal P w K mg base "are_tables" 7 (spTs C G)):FnOk P w K mg base CX0 8 f fd ["self","ground","drawing","sizes","tables"] (spSI S C G):=by
 have nd:=Zde.nd;refine F.ok Zde (λvs H Q E h=>?_) (λcdv A outer s H vs Q E hr h=>?_)
 .refine xE14_2 h λx dx g d z l lp p m xs ps ns ts cs e912 _=>?_;clear h;obtain rfl:=e912;rfl
 .refine xE14_4 h λx dx g d z l lp p m xs ps ns ts cs e913 hx hg e914=>?_;clear h;obtain rfl:=e913;refine Zmk e914 λhp hd pr ip p9 hz hm hT ft q=>?_;clear e914;refine ⟨_,((@Za1 _ _ _ _ _ _ _ _ (PW.pt (Zc7 (Za6 (Za5 (Zby C_are_sizes hr.m rfl ((pv 2)<&>((pv 3)<&>Zaa))))) (Zb8 (Za6 (Za5 (Zby C_are_tables hr.m rfl ((pv 1)<&>((pv 2)<&>((pv 3)<&>((pv 4)<&>Zaa)))))))))) (@Zaj _ _ _ Zap) Zam)<*>((Zgz (pv 0) (pv 1) rfl)<*>((Zgz (pv 0) (pv 2) rfl)<*>((Zgz (pv 0) (Zg3 Zck rfl T.n_list Jc0 ((pv 3)<&>Zaa)) rfl)<*>(@Zaj _ _ _ (Zgz (pv 0) (Za2 (own:=["high","wide","rows"]) (fr:=[]) rfl (Zb5 (by kernel_rfl)) (Zat (pv 4)) (λ_ _ _ _=>⟨(@Zib _ K rfl _ _ _ _ 3 rfl (@Zak _ _ _ _ _ (@Zah _ _ 0 _ (show (["high","wide","rows"]:List Str).Nodup by decide +kernel) rfl (Or.inl rfl) (Or.inr rfl)) (@Zak _ _ _ _ _ (@Zah _ _ 1 _ (show (["high","wide","rows"]:List Str).Nodup by decide +kernel) rfl (Or.inl rfl) (Or.inr rfl)) (@Zak _ _ _ _ _ (@Zah _ _ 2 _ (show (["high","wide","rows"]:List Str).Nodup by decide +kernel) rfl (Or.inl rfl) (Or.inr rfl)) (@Zbj _) (by rfl)) (by rfl)) (by rfl)) (by rfl) (by rfl)),Zbc,(@Zax _ _ _ _ _ ((pv 0)<&>((pv 1)<&>((Za2 (own:=["row"]) (fr:=[]) rfl (Zb5 (by kernel_rfl)) (Zia K rfl (pv 2)) (λ_ _ _ _=>⟨(@Zah _ _ 0 _ (show (["row"]:List Str).Nodup by decide +kernel) rfl (Or.inl rfl) (Or.inr rfl)),Zbc,(Zg3 (Zil K rfl) rfl T.n_list Jc0 ((pv 0)<&>Zaa))⟩))<&>Zaa))))⟩)) rfl)))))),?_⟩;walk_at "wp";refine Zmh d z lp m xs ns ⟨rfl,hd,hz,hm,λH1 s1=>⟨true,rfl,Zkb (by decide) ?_⟩⟩;have hT1:=hT;refine Zbh hT λhl hlen h9 hc=>?_;clear hT;refine Zad hd λdxd hd1 hd2=>?_;clear hd;refine xI11_1 g d z l lp p m xs ps ns ts ⟨rfl,hg.same s1,hp,⟨dxd,s1 _ _ hd1,s1 _ _ hd2⟩,pr.same s1,ip,p9,hz.same s1,hm,s1 _ _ hl,by rw [hlen,ft.1],λi t q' e1 e2=>?_,λH2 s2=>⟨true,rfl,Zkb (by decide) ?_⟩⟩
  .have hi:i < ps.length:=(Jaw.mp e2).1;have hci:cs[i]? = some (cs[i]'(by have:=ft.1; omega)):=Jaa _;obtain ⟨⟨r,rs,tc⟩,_⟩:=hc i t _ e1 hci;obtain ⟨f1,f2⟩:=ft.2 i _ _ hci e2;rw [<- f1,<- f2];exact ⟨r,rs,tc.tab.same s1⟩
  .have s12:=s1.trans s2;have hx2:=s12 _ _ hx;have nzx:z ≠ x:=Zea hz.1 hx (by intro w; cases w);refine Zbg S dx [] ⟨hx2,T.cl_Standing,T.nSg,by show 0 < 1000; decide,S,dx,_,Zab,T.cl_Standing,T.nSd,by have l1:=Zbk "ground" (.ref g) []; simp at l1; omega,_,.inl (SqL.of (by rw [Zaf nzx,Zaf nzx]; exact s12 _ _ hz.1)),λl1 hl1=>?_⟩;have nxl:x ≠ l1:=Zag Zab hl1;have f1:H l1 = none:=by
    rw [Zaf nxl.symm,Zaf nxl.symm] at hl1;exact s12.free hl1
   have g1:=Zbk "ground" (.ref g) [];have g2:=Zbk "drawing" (.ref d) (Zbz "ground" (.ref g) []);have g3:=Zbk "sizes" (.ref l1) (Zbz "drawing" (.ref d) (Zbz "ground" (.ref g) []));simp only [List.length_nil] at g1;refine Zbg S dx _ ⟨by rw [Zaf nxl]; exact Zab,T.cl_Standing,T.nSs,by omega,?_⟩;have e6:Ext x H (upd (upd (upd (upd H2 x (.ins S dx (Zbz "ground" (.ref g) []))) x (.ins S dx (Zbz "drawing" (.ref d) (Zbz "ground" (.ref g) [])))) l1 (.lst (ns.map V.int))) x (.ins S dx (Zbz "sizes" (.ref l1) (Zbz "drawing" (.ref d) (Zbz "ground" (.ref g) []))))):=λb o nb eb=>by
    rw [Zaf nb,Zaf (Zag eb f1),Zaf nb,Zaf nb];exact s12 _ _ eb
   have hx6:(upd (upd (upd (upd H2 x (.ins S dx (Zbz "ground" (.ref g) []))) x (.ins S dx (Zbz "drawing" (.ref d) (Zbz "ground" (.ref g) [])))) l1 (.lst (ns.map V.int))) x (.ins S dx (Zbz "sizes" (.ref l1) (Zbz "drawing" (.ref d) (Zbz "ground" (.ref g) []))))) x = some (.ins S dx (Zbz "sizes" (.ref l1) (Zbz "drawing" (.ref d) (Zbz "ground" (.ref g) [])))):=Zab;have hl6:(upd (upd (upd (upd H2 x (.ins S dx (Zbz "ground" (.ref g) []))) x (.ins S dx (Zbz "drawing" (.ref d) (Zbz "ground" (.ref g) [])))) l1 (.lst (ns.map V.int))) x (.ins S dx (Zbz "sizes" (.ref l1) (Zbz "drawing" (.ref d) (Zbz "ground" (.ref g) []))))) l1 = some (.lst (ns.map V.int)):=by rw [Zaf nxl.symm]; exact Zab
   generalize upd (upd (upd (upd H2 x (.ins S dx (Zbz "ground" (.ref g) []))) x (.ins S dx (Zbz "drawing" (.ref d) (Zbz "ground" (.ref g) [])))) l1 (.lst (ns.map V.int))) x (.ins S dx (Zbz "sizes" (.ref l1) (Zbz "drawing" (.ref d) (Zbz "ground" (.ref g) [])))) = H6 at *;have fr6:∀ b,H6 b = none->H b = none:=λb hb=>by
    cases eb:H b with
    | none=>rfl
    | some o=>
     by_cases nb:b = x
     .rw [nb,hx6] at hb; cases hb
     .rw [e6 b o nb eb] at hb; cases hb
   have hT6:=hT1.extI hx e6;refine ⟨_,rfl,l,rfl,⟨_,SqL.of hT6.1⟩,λD hD=>Zow hT6 hD λts' H7 s7 hD7 hl7 ht7 _=>?_⟩;have hx7:=s7 _ _ hx6;have nDx:D ≠ x:=λw=>by rw [w,hx6] at hD; cases hD
   refine Zbg S dx _ ⟨hx7,T.cl_Standing,T.nSt,by omega,?_⟩;refine q l1 D ts' _ (λb o nb eb=>by rw [Zaf nb]; exact s7 _ _ (e6 b o nb eb)) Zab f1 (fr6 D hD) ⟨by rw [Zaf nxl.symm]; exact s7 _ _ hl6,hz.2⟩ (by rw [Zaf nDx]; exact hD7) hl7 λi t c e1 e2=>?_;refine Zhz (ht7 i t c e1 e2) λr rs a1 a2 a3 a4=>?_;exact Zaz r rs ⟨a1.extI hx7 (λb o nb eb=>by rw [Zaf nb]; exact eb),fr6 t a2,fr6 r a3,λa ha=>fr6 a (a4 a ha)⟩
end
end Pf
set_option maxRecDepth 50000
set_option maxHeartbeats 500000
namespace Pf
open PySem L2 PyProof.Rows
section
variable {P:Program} {w:World} {K:PySem.W.Frag} {mg:Str->Option Value} {base:Heap} {C G S:Addr}
def spNum:Sp:=λvs H Q _=>∃ (l:Addr) (p:Int),vs = [.ref l,.int p]/\Bag H l/\GroundP p/\∀ (v:V) (x:Int × Int) (H':Hp),Ext l H H'->Bag H' l->NumV H' p v x->Isn p x->Bd 5000 x->Q v H'
def spTb:Sp:=λvs H Q _=>∃ (l:Addr) (p hh wd:Int),vs = [.ref l,.int p,.int hh,.int wd]/\Bag H l/\GroundP p/\0<=hh/\hh<=24/\0<=wd/\wd<=24 /\
 ∀ (t r:Addr) (rs:List Addr) (H':Hp),Ext l H H'->Bag H' l->H t = none->H r = none->(∀ a ∈ rs,H a = none)->(∀ a ∈ rs,RowO H' p 5000 wd a)->Tab H' p hh wd t r rs->Q (.ref t) H'
theorem Tab.ext2 {l:Addr} {H H':Hp} {p hh wd:Int} {t r:Addr} {rs:List Addr} (h:Tab H p hh wd t r rs) (b:Bag H l) (e:Ext l H H') (nr:r ≠ l) (ns:l ∉ rs):Tab H' p hh wd t r rs:=
 ⟨by obtain ⟨ys,hy⟩:=b.lst; exact e _ _ (Zea h.tup hy (by intro z; cases z)) h.tup,e _ _ nr h.lst,h.len,λa ha=>(h.row a ha).ext b e (λz=>ns (z ▸ ha)),h.nin⟩
theorem TabC.ext {l:Addr} {H H':Hp} {p hh wd:Int} {t r:Addr} {rs:List Addr} {M:List (List V)} (h:TabC H p hh wd t r rs M) (b:Bag H l) (e:Ext l H H') (nr:r ≠ l) (ns:l ∉ rs):TabC H' p hh wd t r rs M:=
 ⟨h.tab.ext2 b e nr ns,λi a ei=>e _ _ (λz=>ns (z ▸ Jag ei)) (h.con i a ei)⟩
def rowOf (H:Hp) (a:Addr):List V:=match H a with
 | some (.lst xs)=>xs
 | _=>[]
theorem Tab.toC {H:Hp} {p hh wd:Int} {t r:Addr} {rs:List Addr} (h:Tab H p hh wd t r rs):∃ M,TabC H p hh wd t r rs M:=by
 refine ⟨rs.map (rowOf H),h,λi a e=>?_⟩;rw [Jbh,Jbc,e];refine Zad (h.row a (Jag e)) λxs hx _=>?_;show H a = some (.lst (rowOf H a));unfold rowOf;rw [hx]
theorem Prs.bag {l:Addr} {H H':Hp} {xs:List V} {ps:List (Int × Int)} (h:Prs H xs ps) (b:Bag H l) (e:Ext l H H'):Prs H' xs ps:=
 ⟨h.1,λi x q h1 h2=>by
  refine Zad (h.2 i x q h1 h2) λt e1 e2=>?_;obtain ⟨ys,hy⟩:=b.lst;exact ⟨t,e1,e _ _ (Zea e2 hy (by intro z; cases z)) e2⟩⟩
def Sml (H:Hp) (p:Int) (l:Addr) (ts:List Addr):Prop:=∀ t ∈ ts,∃ (h w:V) (r:Addr) (rs:List Addr),H t = some (.tup [h,w,.ref r])/\H r = some (.lst (rs.map V.ref))/\(r ≠ l/\l ∉ rs)/\∀ a ∈ rs,∃ xs,H a = some (.lst xs)/\∀ x ∈ xs,NumO H p 5000 x
theorem Sml.same {H H':Hp} {p:Int} {l:Addr} {ts:List Addr} (h:Sml H p l ts) (s:Same H H'):Sml H' p l ts:=λt ht=>by
 refine Zcu (h t ht) λhh w r rs h1 h2 h4 h3=>?_;exact Ziq hh w r rs ⟨s _ _ h1,s _ _ h2,h4,λa ha=>let ⟨xs,e,n⟩:=h3 a ha; ⟨xs,s _ _ e,λx hx=>(n x hx).same s⟩⟩
structure Std (S C G:Addr) (H:Hp) (x:Addr) (p m:Int) (ps:List (Int × Int)) (ns:List Int) (cs:List (Int × Int × List (List V))) (dx g d z l lp:Addr) (xs:List V) (ts:List Addr):Prop where
 ins:H x = some (.ins S dx (Zgh g d z l))
 grd:GAt G H g p
 drw:Zd0 C H d m lp xs
 prs:Prs H xs ps
 szs:Sizes H z ns
 tbs:Tbs H p l ts cs
end
end Pf
set_option maxHeartbeats 2000000
namespace Pf
open PySem L2 PyProof.Rows
section
variable {P:Program} {w:World} {K:PySem.W.Frag} {mg:Str->Option Value} {base:Heap} {C G S:Addr}
theorem TabF.weak {H0 H1 H:Hp} {p hh wd:Int} {t:Addr} {M:List (List V)} (h:TabF H1 H p hh wd t M) (s:Same H0 H1):TabF H0 H p hh wd t M:=let ⟨r,rs,a,b,c,d⟩:=h; ⟨r,rs,a,s.free b,s.free c,λx hx=>s.free (d x hx)⟩
structure StdF (H0:Hp) (S C G:Addr) (H:Hp) (x:Addr) (p m:Int) (ps:List (Int × Int)) (ns:List Int) (cs:List (Int × Int × List (List V))) (dx g d z l lp:Addr) (xs:List V) (ts:List Addr):Prop where
 ins:H x = some (.ins S dx (Zgh g d z l))
 grd:GAt G H g p
 drw:Zd0 C H d m lp xs
 prs:Prs H xs ps
 szs:Sizes H z ns
 nz:H0 z = none
 nl:H0 l = none
 nlp:H0 lp = none
 lst:H l = some (.lst (ts.map V.ref))
 len:ts.length = cs.length
 tbs:∀ (i:Nat) t c,ts[i]? = some t->cs[i]? = some c->TabF H0 H p c.1 c.2.1 t c.2.2
theorem std_of {S G:Addr} {H0 H:Hp} {x dx g d z l lp:Addr} {p m:Int} {xs:List V} {ps:List (Int × Int)} {ns:List Int} {ts:List Addr} {cs:List (Int × Int × List (List V))} {Q:VK} {E:XK} (hx:H x = none) (hdx:H dx = none) (ndx:dx ≠ x) (hg:GAt G H g p) (hp:GroundP p) (hd:Zd0 C H d m lp xs) (pr:Prs H xs ps) (ip:InP m ps) (p9:ps.length<=9) (hz:Sizes H z ns) (hm:(ns.length:Int) = m) (hT:Tbs H p l ts cs) (ft:Fits ns cs ps) (s0:Same H0 H) (flp:H0 lp = none)
  (q:∀ (dx z' l':Addr) (ts':List Addr) (H':Hp),Same H H'->StdF H0 S C G H' x p m ps ns cs dx g d z' l' lp xs ts'->Q .non H'):spSI S C G [.ref x,.ref g,.ref d,.ref z,.ref l] (upd (upd H dx (.own x)) x (.ins S dx [])) Q E:=by
 have fx:(upd H dx (.own x)) x = none:=by rw [Zaf ndx.symm]; exact hx
 have sx:Same H (upd (upd H dx (.own x)) x (.ins S dx [])):=(Same.new hdx).trans (Same.new fx);refine Zad hd λdd hd1 hd2=>?_;clear hd;refine xI14_1 x dx g d z l lp p m xs ps ns ts cs ⟨rfl,Zab,hg.same sx,hp,⟨dd,sx _ _ hd1,sx _ _ hd2⟩,pr.same sx,ip,p9,hz.same sx,hm,hT.same sx,ft,λz' l' ts' H' ex hx' fz fl' hz' hl' hn' ht'=>?_⟩;have sH:Same H H':=Same.thru sx hx ex;exact q dx z' l' ts' H' sH ⟨hx',hg.same sH,⟨dd,sH _ _ hd1,sH _ _ hd2⟩,pr.same sH,hz',s0.free (sx.free fz),s0.free (sx.free fl'),flp,hl',hn',λi t c e1 e2=>(ht' i t c e1 e2).weak (s0.trans sx)⟩
theorem Zoj {H:Hp} {n:Nat} (i j:Int):EqD K H n (.int i) (.int j) (decide (i = j)):=by
 have:=EqD.flat (K:=K) (H:=H) (n:=n) (x:=.int i) (y:=.int j) rfl rfl;rwa [show eqV (.int i) (.int j) = decide (i = j) by simp only [eqV]; rw [Jbm]; simp] at this
theorem Zp7 {H:Hp} {n:Nat} {t u:Addr} {q r:Int × Int} (ht:H t = some (.tup [.int q.1,.int q.2])) (hu:H u = some (.tup [.int r.1,.int r.2])):EqD K H (n + 1) (.ref t) (.ref u) (decide (q = r)):=by
 by_cases h:t = u
 .subst h;rw [ht] at hu;have:q = r:=by
   injection hu with hu
   injection hu with hu
   injection hu with a b
   injection b with b c
   injection a with a
   injection b with b
   exact Prod.ext a b
  rw [Jad this];exact .same
 .have:=EqD.tuple (n:=n) (bs:=[decide (q.1 = r.1),decide (q.2 = r.2)]) h (SqT.of (K:=K) ht) (SqT.of hu) rfl rfl λj x y b e1 e2 e3=>by
   match j,e1,e2,e3 with
   | 0,e1,e2,e3=>cases e1; cases e2; cases e3; exact Zoj _ _
   | 1,e1,e2,e3=>cases e1; cases e2; cases e3; exact Zoj _ _
   | j + 2,e1,_,_=>cases e1
  have e:[decide (q.1 = r.1),decide (q.2 = r.2)].all id = decide (q = r):=by
   simp only [Jcm,List.all_nil,id,Bool.and_true];rw [<- Bool.decide_and];exact Jcp.mpr ⟨λ⟨a,b⟩=>Prod.ext a b,λh=>h ▸ ⟨rfl,rfl⟩⟩
  rwa [e] at this
theorem Zpb {α:Type} [DecidableEq α]:∀ {xs ys:List α},xs.length = ys.length->(List.zipWith (λa b=>decide (a = b)) xs ys).all id = decide (xs = ys)
 | [],[],_=>rfl
 | x :: xs,y :: ys,h=>by
  have ih:=Zpb (xs:=xs) (ys:=ys) (by simpa using h);rw [List.zipWith_cons_cons,Jcm,ih];simp only [id];rw [<- Bool.decide_and];exact Jcp.mpr ⟨λ⟨a,b⟩=>by rw [a,b],λh=>by injection h with a b; exact ⟨a,b⟩⟩
 | [],_ :: _,h=>by simp at h
 | _ :: _,[],h=>by simp at h
theorem prs_eqB {H:Hp} {xs ys:List V} {ps qs:List (Int × Int)} (h:Prs H xs ps) (h':Prs H ys qs) (hl:ps.length = qs.length):Zin K H 6 xs ys (List.zipWith (λa b=>decide (a = b)) ps qs):=by
 have l1:=h.1;have l2:=h'.1;refine ⟨by omega,by rw [List.length_zipWith]; omega,λj x y b e1 e2 e3=>?_⟩;have j1:j < ps.length:=by have:=(Jaw.mp e1).1; omega
 refine Zad (h.2 j x _ e1 (Jaa j1)) λt e91 ht=>?_;obtain rfl:=e91;refine Zad (h'.2 j y _ e2 (Jaa (by omega))) λu e92 hu=>?_;obtain rfl:=e92;rw [List.getElem?_zipWith,Jaa j1,Jaa (show j < qs.length by omega)] at e3;cases e3;exact Zp7 ht hu
def spOn (S C G:Addr):Sp:=λvs H Q _=>∃ (x dx g d z l g' d' lp lp':Addr) (p p' m m':Int) (xs ys:List V) (ps qs:List (Int × Int)),vs = [.ref x,.ref g',.ref d']/\H x = some (.ins S dx (Zgh g d z l))/\GAt G H g p/\GAt G H g' p'/\Zd0 C H d m lp xs/\Zd0 C H d' m' lp' ys/\Prs H xs ps/\Prs H ys qs/\Q (.bl (decide (p = p'/\m = m'/\ps = qs))) H
theorem ok_on {f:Addr} {fd:FuncData} (F:Fun K "stands_on" "stands_on" Zej f fd) (T:Txt K mg C G S):FnOk P w K mg base CX0 1 f fd ["standing","ground","drawing"] (spOn S C G):=by
 have nd:=Zfz.nd;refine F.ok Zfz (λvs H Q E h=>?_) (λcdv A outer s H vs Q E hr h=>?_)
 .refine xE18_2 h λx dx g d z l g' d' lp lp' p p' m m' xs ys ps qs e93 _=>?_;clear h;obtain rfl:=e93;rfl
 .refine xE18_4 h λx dx g d z l g' d' lp lp' p p' m m' xs ys ps qs e94 hx e95 e96=>?_;clear h;obtain rfl:=e94;obtain ⟨dg,hg⟩:=e95;refine Zfe e96 λe97 e98 e99 pr pr' q=>?_;clear e96;obtain ⟨dg',hg'⟩:=e97;obtain ⟨dd,hd,hlp⟩:=e98;obtain ⟨dd',hd',hlp'⟩:=e99;refine ⟨_,((@Za1 _ _ _ _ _ _ _ _ (PW.pt (Zc7 (Zai Zd9 (Zbb (Zbb (pv 0) rfl) rfl) (Zbb (pv 1) rfl) (Zan _)) (Zb8 (Zai Zd9 (Zbb (Zbb (pv 0) rfl) rfl) (Zbb (pv 2) rfl) (Zan _))))) (~~~Zd8) Zam)<*>(~~~(Zb4 (Znz (Zpv hr)) (Zbb (Zbb (pv 0) rfl) rfl) (Zbb (pv 2) rfl) (Zan _)))),?_⟩;walk_at "wp";refine Zbg S dx _ ⟨hx,T.cl_Standing,T.nSg,_,Zgi ..,g,rfl,G,dg,_,hg,T.cl_Ground,T.nP,_,Zd5 p,G,dg',_,hg',T.cl_Ground,T.nP,_,Zd5 p',rfl,Zcx (λhc=>?_) (λhc=>?_)⟩
  .have:¬ p = p':=by simpa using hc
   rw [Ja4 (λh=>this h.1)] at q;exact q
  .have e1:p = p':=by simpa using hc
   refine Zbg S dx _ ⟨hx,T.cl_Standing,T.nSd,_,Zb9 ..,d,rfl,C,dd,_,hd,T.cl_Drawing,T.nM,_,Ze9 m lp,C,dd',_,hd',T.cl_Drawing,T.nM,_,Ze9 m' lp',rfl,Zcx (λhc=>?_) (λhc=>?_)⟩
   .have:¬ m = m':=by simpa using hc
    rw [Ja4 (λh=>this h.2.1)] at q;exact q
   .have e2:m = m':=by simpa using hc
    refine Zbg S dx _ ⟨hx,T.cl_Standing,T.nSd,_,Zb9 ..,d,rfl,C,dd,_,hd,T.cl_Drawing,T.nA,_,Zch m lp,C,dd',_,hd',T.cl_Drawing,T.nA,_,Zch m' lp',?_⟩;by_cases hl:ps.length = qs.length
    .refine ⟨lp,rfl,lp',rfl,_,SqL.of hlp,_,SqL.of hlp',.inr ⟨_,prs_eqB pr pr' hl,?_⟩⟩;rw [Zpb hl];have:decide (p = p'/\m = m'/\ps = qs) = decide (ps = qs):=Jcp.mpr ⟨λh=>h.2.2,λh=>⟨e1,e2,h⟩⟩;rw [this] at q;exact q
    .refine ⟨lp,rfl,lp',rfl,_,SqL.of hlp,_,SqL.of hlp',.inl ⟨by rw [pr.1,pr'.1]; exact hl,?_⟩⟩;rw [Ja4 (λh=>hl (by rw [h.2.2]))] at q;exact q
end
end Pf
namespace Pf
open PySem L2 PyProof.Rows
section
variable {P:Program} {w:World} {K:PySem.W.Frag} {mg:Str->Option Value} {base:Heap} {C G S:Addr}
theorem Zq5 (xs:List V):Zpg xs none (some 1) = xs.take 1:=by
 unfold Zpg;have h0:HT.sIx xs.length 0 none = 0:=rfl;rw [h0,List.drop_zero,Nat.sub_zero];cases xs with
 | nil=>rfl
 | cons x xs=>
  have:HT.sIx (x :: xs).length (x :: xs).length (some 1) = 1:=by
   simp [HT.sIx]
   try omega
  rw [this]
theorem Zle (xs:List V):Zpg xs (some 1) none = xs.drop 1:=by
 unfold Zpg;have h0:HT.sIx xs.length xs.length none = xs.length:=rfl;rw [h0];cases xs with
 | nil=>rfl
 | cons x xs=>
  have:HT.sIx (x :: xs).length 0 (some 1) = 1:=by
   simp [HT.sIx]
   try omega
  rw [this];simp
theorem Prs.take {H:Hp} {xs:List V} {ps:List (Int × Int)} (h:Prs H xs ps) (n:Nat):Prs H (xs.take n) (ps.take n):=by
 have hl:=h.1;refine ⟨by rw [Jbd,Jbd,hl],λi x q e1 e2=>?_⟩;rw [List.getElem?_take] at e1 e2;split at e1
 .rename_i hi
  rw [if_pos hi] at e2;exact h.2 i x q e1 e2
 .cases e1
theorem Prs.drop {H:Hp} {xs:List V} {ps:List (Int × Int)} (h:Prs H xs ps) (n:Nat):Prs H (xs.drop n) (ps.drop n):=by
 have hl:=h.1;refine ⟨by rw [Jco,Jco,hl],λi x q e1 e2=>?_⟩;rw [List.getElem?_drop] at e1 e2;exact h.2 _ x q e1 e2
theorem Prs.append {H:Hp} {xs ys:List V} {ps qs:List (Int × Int)} (h:Prs H xs ps) (h':Prs H ys qs):Prs H (xs ++ ys) (ps ++ qs):=by
 have hl:=h.1;have hl':=h'.1;refine ⟨by rw [Jam,Jam,hl,hl'],λi x q e1 e2=>?_⟩;by_cases hi:i < xs.length
 .rw [Jai hi] at e1;rw [Jai (by omega)] at e2;exact h.2 i x q e1 e2
 .rw [Jal (by omega)] at e1 e2;rw [hl] at e1;exact h'.2 _ x q e1 e2
theorem Zql {f:Addr} {fd:FuncData} (F:Fun K "_law_bag" "_law_bag" Zgu f fd) (T:Txt K mg C G S):FnOk P w K mg base CX0 1 f fd ["_law_cell_here"] spBag:=by
 have nd:=Zhm.nd;refine F.ok Zhm (λvs H Q E h=>?_) (λcdv A outer s H vs Q E hr h=>?_)
 .refine Zad h λc e91 _=>?_;clear h;obtain rfl:=e91;rfl
 .refine Zad h λc e92 q=>?_;clear h;obtain rfl:=e92;refine ⟨_,(~~~(@Zbd _ _ _ _ ((Zny<|>(pv 0)<&&>(Zg3 Zhc rfl T.n_int boot_int ((Zb4 op_ge (pv 0) (op_pow<|>Zac<&&>Zac) (Zan _))<&>Zaa)))<&>((Zdy<|>(pv 0)<&&>Zac)<&>Zaa)))),?_⟩;walk_at "wp";exact ⟨cpow _ (by decide) (by decide),.inr (by split <;> exact ⟨by decide,by decide⟩),by decide,by decide,λp hp=>q p _ _ hp (Zk5 _ _ (by decide)) (Zk6 _ _ (by decide))⟩
theorem Zqk {f:Addr} {fd:FuncData} (F:Fun K "_law_digit" "_law_digit" Zem f fd) (T:Txt K mg C G S):FnOk P w K mg base CX0 1 f fd ["_law_bag_here","_law_many"] Zfy:=by
 have nd:=Zf2.nd;refine F.ok Zf2 (λvs H Q E h=>?_) (λcdv A outer s H vs Q E hr h=>?_)
 .refine Zhy h λl a b n e93 _=>?_;clear h;obtain rfl:=e93;rfl
 .refine Zcu h λl a b n e94 hl b0 e95=>?_;clear h;obtain rfl:=e94;refine Zbh e95 λb1 n0 n1 q=>?_;clear e95;refine ⟨_,((@Za1 _ _ _ _ _ _ _ _ (Zai Zg5 (Za3<|>(pv 0)<||>Zac) Zac (Zan _)) ((Zas (i:=2) nd rfl (Or.inl rfl) (Zdy<|>(Za3<|>(pv 0)<||>Zac)<&&>(pv 1)))<*>((Zf5 (Zj5<|>(Za3<|>(pv 0)<||>Zac)<&&>(pv 1)) (Zrn (pv 0) Zac Zkt))<*>(~~~(pv 2)))) Zam)<*>((Zf5 (Zdy<|>(Zk1<|>(Zny<|>(Za3<|>(pv 0)<||>Zac)<&&>Zac)<&&>Zac)<&&>Zac) (Zrn (pv 0) Zac Zkt))<*>(~~~(Zdy<|>(Zj5<|>(Zdy<|>(Zny<|>(Za3<|>(pv 0)<||>Zac)<&&>Zac)<&&>Zac)<&&>Zac)<&&>(pv 1))))),?_⟩;walk_at "wp";refine ⟨_,SqL.of hl,_,rfl,_,rfl,Zcx (λhc=>?_) (λhc=>?_)⟩
  .refine ⟨_,SqL.of hl,_,rfl,_,rfl,n0,_,SqL.of hl,_,rfl,_,rfl,⟨n0,by omega⟩,_,hl,_,rfl,?_⟩;exact q _ _ _ (Zk5 _ _ n0) (Zk6 _ _ n0) b0 b1
  .refine ⟨_,SqL.of hl,_,rfl,_,rfl,.inr ⟨by decide,by decide⟩,by decide,_,hl,_,rfl,_,SqL.of Zab,_,rfl,_,rfl,.inr ⟨by decide,by decide⟩,by decide,⟨by decide,by decide⟩,n0,?_⟩;exact q _ _ _ (Zk5 _ _ n0) (Zk6 _ _ n0) (Zk5 _ _ (by decide)) (Zk6 _ _ (by decide))
end
end Pf
namespace Pf
open PySem L2 PyProof.Rows
section
variable {P:Program} {w:World} {K:PySem.W.Frag} {mg:Str->Option Value} {base:Heap} {C G S:Addr}
theorem ok_low {f:Addr} {fd:FuncData} (F:Fun K "_law_lowest" "_law_lowest" Zdq f fd) (T:Txt K mg C G S):FnOk P w K mg base CX0 1 f fd ["_law_top","_law_bottom"] Zkr:=by
 have nd:=Zez.nd;refine F.ok Zez (λvs H Q E h=>?_) (λcdv A outer s H vs Q E hr h=>?_)
 .refine Zbo h λa b e92 _=>?_;clear h;obtain rfl:=e92;rfl
 .refine Zis h λa b e93 _ hb hB q=>?_;clear h;obtain rfl:=e93;refine ⟨_,((Zas (i:=2) nd rfl (Or.inl rfl) (Za0 Zlj rfl T.n_abs boot_abs ((pv 0)<&>Zaa)))<*>((Zas (i:=3) nd rfl (Or.inl rfl) (pv 1))<*>((Zkx Jbt (Zai Zg5 (pv 3) Zac (Zan _)) ((Zas (i:=4) nd rfl (Or.inl rfl) (Zdy<|>(pv 2)<&&>(pv 3)))<*>((Zas (i:=2) nd rfl (Or.inl rfl) (pv 3))<*>(@Zaj _ _ _ (Zas (i:=3) nd rfl (Or.inl rfl) (pv 4))))))<*>(~~~(@Zax _ _ _ _ _ ((Zk0<|>(pv 0)<&&>(pv 2))<&>((Zk0<|>(pv 1)<&&>(pv 2))<&>Zaa))))))),?_⟩;walk_at "wp";have ea:(if a < 0 then -a else a) = (a.natAbs:Int):=by split <;> omega
  rw [ea];refine ⟨λn σ H2=>∃ (x y:Int) (v:Option V),σ = [some (.int a),some (.int b),some (.int x),some (.int y),v]/\H2 = H/\0<=x/\0<=y/\n = y.toNat/\Int.gcd x y = Int.gcd a b,⟨_,_,_,none,rfl,rfl,by omega,by omega,rfl,by unfold Int.gcd; rfl⟩,?_⟩;intro n σ H2 e91;refine Zb1 e91 λx y v e94 e95 hx e96=>?_;clear e91;obtain rfl:=e94;obtain rfl:=e95;refine Zav e96 λhy e97 hg=>?_;clear e96;obtain rfl:=e97;walk_at "wp";refine Zcx (λhc=>?_) (λhc=>?_)
  .have y1:0 < y:=Jas hc;have l1:=Jdu x (show y ≠ 0 by omega);have l2:=Jc9 x y1;refine ⟨_,λ_ _ h=>h,?_⟩;walk_at "wp";exact ⟨y1,_,by omega,y,x % y,_,⟨rfl,rfl,rfl⟩,by omega,l1,rfl,by rw [Zlc]; exact hg⟩
  .have hy0:¬ 0 < y:=λz=>hc (Jad z);have hy0:y = 0:=by omega
   subst hy0;have e:x = (Int.gcd a b:Int):=by
    rw [<- hg,Int.gcd_zero];omega
   subst e;exact ⟨Zli hb hB,Zli hb hB,by decide,λt ht=>q t ht⟩
theorem ok_some {f:Addr} {fd:FuncData} (F:Fun K "_law_some" "_law_some" Zfi f fd) (T:Txt K mg C G S) (C_law_digit:Cal P w K mg base "_law_digit" 1 Zfy) (C_law_lowest:Cal P w K mg base "_law_lowest" 1 Zkr):FnOk P w K mg base CX0 3 f fd ["_law_bag_here","_law_p"] spNum:=by
 have nd:=Zgl.nd;refine F.ok Zgl (λvs H Q E h=>?_) (λcdv A outer s H vs Q E hr h=>?_)
 .refine Zbo h λl p e912 _=>?_;clear h;obtain rfl:=e912;rfl
 .refine Zhz h λl p e913 hb hp q=>?_;clear h;obtain rfl:=e913;have p0:=hp.lo;have p97:=hp.hi;refine ⟨_,((Zas (i:=2) nd rfl (Or.inl rfl) (Zby C_law_digit hr.m rfl ((pv 0)<&>(Zac<&>Zaa))))<*>((@Za1 _ _ _ _ _ _ _ _ (Zai Zg5 (pv 1) Zac (Zan _)) (~~~(Zdy<|>(pv 2)<&&>(pv 1))) Zam)<*>((@Za1 _ _ _ _ _ _ _ _ (Zai Zeq (Zdy<|>(pv 2)<&&>Zac) Zac (Zan _)) (~~~(@Zax _ _ _ _ _ (Zac<&>(Zac<&>Zaa)))) Zam)<*>(~~~(Zby C_law_lowest hr.m rfl ((Zrq<|>(Zdy<|>(Zj5<|>(pv 2)<&&>Zac)<&&>Zac)<&&>Zac)<&>((Zk1<|>Zac<&&>(Zg3 Zhc rfl T.n_int boot_int ((Zb4 Zg5 (pv 2) Zac (Zan _))<&>Zaa)))<&>Zaa))))))),?_⟩;walk_at "wp";refine hb.draw (by decide) (by decide) λz H2 z0 z1 e2 b2=>?_;refine Zcx (λhc=>?_) (λhc=>?_)
  .have hc:=Jas hc;have l1:=Jdu z (show p ≠ 0 by omega);have l2:=Jc9 z hc;exact ⟨z,rfl,hc,q (.int (z % p)) (z % p,1) H2 e2 b2 (NumV.of (x:=(z % p,1)) (by omega)) (.inr ⟨hc,l1,l2,rfl⟩) ⟨by show (z % p).natAbs<=5000; omega,by show Int.natAbs 1<=5000; decide⟩⟩
  .have hc:¬ 0 < p:=λz=>hc (Jad z);have hp0:p = 0:=by omega
   subst hp0;have fin:∀ (a b:Int),0 < b->a.natAbs<=5000->b.natAbs<=5000->Zkr [.int a,.int b] H2 Q E0:=λa b hb0 h1 h2=>by
    refine Zaz a b ⟨rfl,Top.of (by omega),hb0,by omega,λt ht=>?_⟩;have nt:=b2.ne ht;exact q _ (nrm a b) _ (e2.trans (Ext.new ht)) (b2.new nt) (NumV.tup rfl Zab) (Zoe rfl hb0) (nrm_bd hb0 h1 h2)
   refine ⟨z,rfl,by decide,Zcx (λ_=>⟨by decide,λt ht=>?_⟩) (λ_=>⟨z,rfl,⟨by decide,by decide⟩,by decide,z,rfl,fin _ _ ?_ ?_ ?_⟩)⟩
   .exact q _ (0,1) _ (e2.trans (Ext.new ht)) (b2.new (b2.ne ht)) (NumV.tup rfl Zab) (Zoe (a:=0) (b:=1) rfl (by decide)) ⟨by decide,by decide⟩
   .split <;> decide
   .omega
   .split <;> decide
theorem ok_tbS {f:Addr} {fd:FuncData} (F:Fun K "_law_table" "_law_table" Zel f fd) (T:Txt K mg C G S) (C_law_some:Cal P w K mg base "_law_some" 3 spNum):FnOk P w K mg base CX0 4 f fd ["_law_bag_here","_law_p","_law_high","_law_wide"] spTb:=by
 have nd:=Zf1.nd;refine F.ok Zf1 (λvs H Q E h=>?_) (λcdv A outer s H vs Q E hr h=>?_)
 .refine Zhy h λl p hh wd e914 _=>?_;clear h;obtain rfl:=e914;rfl
 .refine Zcu h λl p hh wd e915 hb hp e916=>?_;clear h;obtain rfl:=e915;refine Zd7 e916 λh0 h24 w0 w24 q=>?_;clear e916;refine ⟨_,((Zas (i:=4) nd rfl (Or.inl rfl) (@Zbd _ _ _ _ Zaa))<*>((Zdh Jbt rfl (Zj3 rfl T.n_range ((pv 2)<&>Zaa)) (@Zah _ _ 5 _ nd rfl (Or.inl rfl) (Or.inl rfl)) (@Zaj _ _ _ (Zbi (Zg4 Ja1 Jbj Jbk Zbf (pv 4) ((Za2 (own:=["_law_j"]) (fr:=[("_law_bag_here",0),("_law_p",1)]) rfl (Zb5 (by kernel_rfl)) (Zj3 rfl T.n_range ((pv 3)<&>Zaa)) (λ_ _ _ _=>⟨(@Zah _ _ 0 _ (show (["_law_j","_law_bag_here","_law_p"]:List Str).Nodup by decide +kernel) rfl (Or.inl rfl) (Or.inr rfl)),Zbc,(Zby C_law_some hr.m rfl ((pv 1)<&>((pv 2)<&>Zaa)))⟩))<&>Zaa)))))<*>(~~~(@Zax _ _ _ _ _ ((pv 2)<&>((pv 3)<&>((pv 4)<&>Zaa))))))),?_⟩;walk_at "wp";refine ⟨by decide,λr hr0=>?_⟩;have nr:r ≠ l:=hb.ne hr0;refine ⟨_,rfl,hh,rfl,by omega,by omega,Ze8 (λi σ H3=>∃ (v5:Option V) (rs:List Addr),σ = [some (.ref l),some (.int p),some (.int hh),some (.int wd),some (.ref r),v5]/\Ext l H H3/\Bag H3 l/\(∀ a ∈ rs,H a = none)/\r ∉ rs/\H3 r = some (.lst (rs.map V.ref))/\rs.length = i/\∀ a ∈ rs,RowO H3 p 5000 wd a)
   ⟨none,[],rfl,Ext.new hr0,hb.new nr,by simp,by simp,Zab,rfl,by simp⟩ ?_ ?_⟩
  .intro i σ H3 hi e91;refine Zln e91 λv5 rs e917 e3 b3 hf nm e918=>?_;clear e91;obtain rfl:=e917;refine Zav e918 λhr3 hln hro=>?_;clear e918;walk_at "wp";refine ⟨.inl ⟨rfl,_,SqL.of hr3⟩,_,rfl,wd,rfl,by omega,by omega,λa ha=>?_⟩;have na:a ≠ l:=b3.ne ha;have fa:H a = none:=e3.free na ha;have nar:r ≠ a:=Zag hr3 ha;have nas:a ∉ rs:=λz=>by obtain ⟨xs,h1,_⟩:=hro a z; rw [ha] at h1; cases h1
   refine Zgd (λj vs H4=>Ext l H H4/\Bag H4 l/\H4 r = some (.lst (rs.map V.ref))/\(∀ b ∈ rs,RowO H4 p 5000 wd b)/\H4 a = some (.lst vs)/\vs.length = j/\∀ x ∈ vs,NumO H4 p 5000 x) ⟨e3.trans (Ext.new ha),b3.new na,by rw [Zaf nar]; exact hr3,λb hb=>(hro b hb).same (Same.new ha),Zab,rfl,by simp⟩ ?_ ?_
   .intro j x xs σ' H4 hj e92;obtain rfl:=e92;intro sh e93;refine Zjq e93 λe4 b4 hr4 hro4 ha4 hlx hnx=>?_;clear e93;obtain ⟨z,rfl⟩:=sh.one;simp only [Zdi,Zba,Zgf,List.set_cons_zero,Jcl];refine ⟨_,rfl,_,rfl,l,p,rfl,b4,hp,λv x H5 e5 b5 nv iv bv=>?_⟩;have ha5:=e5 _ _ na ha4;refine leaf (ws:=xs ++ [v]) hj Sh.mk1 ha5 (Zal (by omega)) ⟨(e4.trans e5).upd fa,b5.new na,by rw [Zaf nar]; exact e5 _ _ nr hr4,λb hbm=>?_,Zab,by rw [Jam,hlx]; rfl,λy hy=>?_⟩
    .exact ((hro4 b hbm).ext b4 e5 (hb.ne (hf b hbm))).put ha5 (λz=>nas (z ▸ hbm))
    .rcases Jbe.mp hy with h | h
     .exact ((hnx y h).ext b4 e5).put ha5
     .rw [Jar.mp h]; exact NumO.put ⟨x,nv,iv,bv⟩ ha5
   .intro xs H4 e94;refine Zjq e94 λe4 b4 hr4 hro4 ha4 hlx hnx=>?_;clear e94;refine ⟨_,hr4,Zal (by rw [Jab]; omega),e4.upd hr0,b4.new nr,rs ++ [a],?_,?_,?_,by rw [Jam,hln]; rfl,?_⟩
    .intro b hbm;rcases Jbe.mp hbm with h | h
     .exact hf b h
     .rw [Jar.mp h]; exact fa
    .intro z;rcases Jbe.mp z with h | h
     .exact nm h
     .exact nar (Jar.mp h)
    .rw [Zab,Zbe]
    .intro b hbm;rcases Jbe.mp hbm with h | h
     .exact (hro4 b h).put hr4 (λz=>nm (z ▸ h))
     .rw [Jar.mp h];exact RowO.put ⟨xs,ha4,by omega,hnx⟩ hr4 nar.symm
  .intro σ H3 e95;refine Zln e95 λv5 rs e919 e3 b3 hf nm e920=>?_;clear e95;obtain rfl:=e919;refine Zav e920 λhr3 hln hro=>?_;clear e920;walk_at "wp";refine ⟨by show 3<=sizeLine; decide,λt ht=>?_⟩;have s0:=Same.new (o:=.tup [V.int hh,V.int wd,V.ref r]) ht;exact q t r rs _ (e3.trans (Ext.new ht)) (b3.same s0) (e3.free (b3.ne ht) ht) hr0 hf (λa ha=>(hro a ha).same s0) ⟨Zab,s0 _ _ hr3,by omega,λa ha=>((hro a ha).same s0).weak (by decide),nm⟩
def spGr:Sp:=λvs H Q _=>∃ l:Addr,vs = [.ref l]/\Bag H l/\∀ (p:Int) (H':Hp),Ext l H H'->Bag H' l->(p = 0\/p = 2\/p = 3\/p = 5\/p = 97)->Q (.int p) H'
theorem ok_gr {f:Addr} {fd:FuncData} (F:Fun K "_law_ground" "_law_ground" Zdr f fd) (T:Txt K mg C G S) (C_law_digit:Cal P w K mg base "_law_digit" 1 Zfy):FnOk P w K mg base CX0 2 f fd ["_law_bag_here"] spGr:=by
 have nd:=Ze0.nd;refine F.ok Ze0 (λvs H Q E h=>?_) (λcdv A outer s H vs Q E hr h=>?_)
 .refine Zad h λl e921 _=>?_;clear h;obtain rfl:=e921;rfl
 .refine Zao h λl e922 hb q=>?_;clear h;obtain rfl:=e922;refine ⟨_,(~~~(Za3<|>(@Zbd _ _ _ _ (Zac<&>(Zac<&>(Zac<&>(Zac<&>(Zac<&>Zaa))))))<||>(Zby C_law_digit hr.m rfl ((pv 0)<&>(Zac<&>Zaa))))),?_⟩;walk_at "wp";refine ⟨by decide,λp1 hp1=>?_⟩;have np1:p1 ≠ l:=hb.ne hp1;refine (hb.new np1).draw (n:=5) (by decide) (by decide) λr H4 r0 r1 e4 b4=>?_;refine Zaz _ r ⟨rfl,SqL.of (e4 _ _ np1 Zab),?_⟩;have e:=(Ext.new (l:=l) (o:=.lst [V.int 0,V.int 2,V.int 3,V.int 5,V.int 97]) hp1).trans e4;have:r = 0\/r = 1\/r = 2\/r = 3\/r = 4:=by omega
  rcases this with rfl | rfl | rfl | rfl | rfl
  .exact ⟨_,rfl,q 0 H4 e b4 (by decide)⟩
  .exact ⟨_,rfl,q 2 H4 e b4 (by decide)⟩
  .exact ⟨_,rfl,q 3 H4 e b4 (by decide)⟩
  .exact ⟨_,rfl,q 5 H4 e b4 (by decide)⟩
  .exact ⟨_,rfl,q 97 H4 e b4 (by decide)⟩
theorem Zrv {α β:Type} {g:α->β}:∀ (l:List α) (k:Nat),(l.map g).eraseIdx k = (l.eraseIdx k).map g
 | [],_=>rfl
 | _ :: _,0=>rfl
 | x :: l,k + 1=>by rw [Jav,Jcn,Jcn,Jav,Zrv l k]
theorem Zop {α:Type}:∀ {l:List α} {k:Nat} (h:k < l.length),(l[k] :: l.eraseIdx k).Perm l
 | x :: l,0,_=>List.Perm.refl _
 | x :: l,k + 1,h=>by
  rw [Jcn,List.getElem_cons_succ];exact (List.Perm.swap _ _ _).trans ((Zop (Nat.lt_of_succ_lt_succ h)).cons x)
def spPts:Sp:=λvs H Q _=>∃ (l:Addr) (m:Int),vs = [.ref l,.int m]/\Bag H l/\0<=m/\m<=8 /\
 ∀ (a:Addr) (ys:List Int) (H':Hp),Ext l H H'->Bag H' l->H a = none->H' a = some (.lst (ys.map V.int))->(ys.length:Int) = m->ys.Perm (Zdg m.toNat)->Q (.ref a) H'
theorem ok_pts {f:Addr} {fd:FuncData} (F:Fun K "_law_points" "_law_points" Zdp f fd) (T:Txt K mg C G S) (C_law_digit:Cal P w K mg base "_law_digit" 1 Zfy):FnOk P w K mg base CX0 2 f fd ["_law_bag_here","_law_many"] spPts:=by
 have nd:=Zey.nd;refine F.ok Zey (λvs H Q E h=>?_) (λcdv A outer s H vs Q E hr h=>?_)
 .refine Zbo h λl m e923 _=>?_;clear h;obtain rfl:=e923;rfl
 .refine Zis h λl m e924 hb m0 m8 q=>?_;clear h;obtain rfl:=e924;refine ⟨_,((Zas (i:=2) nd rfl (Or.inl rfl) (Zg3 (Zfb rfl) rfl T.n_list Jc0 ((Zg3 Zji rfl T.n_range boot_range ((pv 1)<&>Zaa))<&>Zaa)))<*>((Zas (i:=3) nd rfl (Or.inl rfl) (@Zbd _ _ _ _ Zaa))<*>((Zdh Jbt rfl (Zj3 rfl T.n_range ((pv 1)<&>Zaa)) (@Zah _ _ 4 _ nd rfl (Or.inl rfl) (Or.inl rfl)) (@Zaj _ _ _ (Zbi (Zg4 Ja1 Jbj Jbk Zbf (pv 3) ((Zg4 Ja1 PySem.F.slot_list_pop PySem.F.type_list_pop Zqq (pv 2) ((Zby C_law_digit hr.m rfl ((pv 0)<&>((Za0 Zaq rfl T.n_len Jbl ((pv 2)<&>Zaa))<&>Zaa)))<&>Zaa))<&>Zaa)))))<*>(~~~(pv 3))))),?_⟩;walk_at "wp";intro p0 hp0;refine Zaz _ _ ⟨Zab,⟨by decide,by decide,by omega,by omega⟩,by omega,λl1 hl1=>⟨by decide,λa ha=>?_⟩⟩;have n0:p0 ≠ l:=hb.ne hp0;have b1:=hb.new (o:=.rng 0 m) n0;have e1:=Ext.new (l:=l) (o:=.rng 0 m) hp0;generalize upd H p0 (.rng 0 m) = H1 at *;have n1:l1 ≠ l:=b1.ne hl1;have b2:=b1.new (o:=.lst (Znk 0 m)) n1;have e2:=e1.trans (Ext.new (l:=l) (o:=.lst (Znk 0 m)) hl1);have f1:H l1 = none:=e1.free n1 hl1;have hl2:upd H1 l1 (.lst (Znk 0 m)) l1 = some (.lst ((Zdg m.toNat).map V.int)):=by rw [Zab,Zkv,Zrl]
  generalize upd H1 l1 (.lst (Znk 0 m)) = H2 at *;have na:a ≠ l:=b2.ne ha;have nal:l1 ≠ a:=Zag hl2 ha;have fa:H a = none:=e2.free na ha;have hpn:(Zdg m.toNat).length = m.toNat:=by unfold Zdg; simp
  refine ⟨_,rfl,m,rfl,by omega,by omega,Ze8 (λi σ H3=>∃ (v4:Option V) (ys zs:List Int),σ = [some (.ref l),some (.int m),some (.ref l1),some (.ref a),v4]/\Ext l H H3/\Bag H3 l/\H3 l1 = some (.lst (zs.map V.int))/\H3 a = some (.lst (ys.map V.int))/\ys.length = i/\(ys ++ zs).Perm (Zdg m.toNat))
   ⟨none,[],Zdg m.toNat,rfl,e2.trans (Ext.new ha),b2.new na,by rw [Zaf nal]; exact hl2,Zab,rfl,List.Perm.refl _⟩ ?_ ?_⟩
  .intro i σ H3 hi e96;refine Zb1 e96 λv4 ys zs e925 e3 b3 e926=>?_;clear e96;obtain rfl:=e925;refine Zbh e926 λhz3 ha3 hy pm=>?_;clear e926;walk_at "wp";have pl:=pm.length_eq;rw [Jam,hpn] at pl;refine ⟨.inl ⟨rfl,_,SqL.of ha3⟩,.inl ⟨rfl,_,SqL.of hz3⟩,_,.inl (SqL.of hz3),?_⟩;rw [Jab];refine b3.draw (by omega) (by omega) λr H4 r0 r1 e4 b4=>?_;have k1:r.toNat < zs.length:=by omega
   have hz4:=e4 _ _ n1 hz3;have ha4:=e4 _ _ na ha3;have er:r = (r.toNat:Int):=by omega
   refine Zaz _ r ⟨rfl,hz4,by omega,by omega,r.toNat,by rw [Jab]; exact PySem.StrLaws.seqIndex_nonneg r0 (by omega),V.int (zs[r.toNat]),by rw [Jbc,Jaa k1]; rfl,_,by rw [Zaf nal.symm]; exact ha4,Zal (by rw [Jab]; omega),((e3.trans e4).upd f1).upd fa,(b4.new n1).new na,ys ++ [zs[r.toNat]],zs.eraseIdx r.toNat,?_,?_,by rw [Jam,hy]; rfl,?_⟩
   .rw [Zaf nal,Zab,Zrv]
   .rw [Zab,Ja5]; rfl
   .refine List.Perm.trans ?_ pm;rw [List.append_assoc];exact List.Perm.append_left _ (Zop k1)
  .intro σ H3 e97;refine Zb1 e97 λv4 ys zs e927 e3 b3 e928=>?_;clear e97;obtain rfl:=e927;refine Zbh e928 λhz3 ha3 hy pm=>?_;clear e928;walk_at "wp";have pl:=pm.length_eq;rw [Jam,hpn] at pl;have hz:zs = []:=List.eq_nil_of_length_eq_zero (by omega);subst hz;rw [Jdo] at pm;exact q a ys H3 e3 b3 fa ha3 (by omega) pm
def spStL:Sp:=λvs H Q _=>∃ (l a:Addr) (p m:Int) (mo:Int) (xs:List V) (ps:List (Int × Int)),vs = [.ref l,.int p,.int m,.ref a,.int mo]/\Bag H l/\GroundP p/\H a = some (.lst xs)/\Prs H xs ps/\InP m ps/\ps.length<=9/\0<=m/\m<=8/\a ≠ l/\0<=mo/\mo<=6 /\
 ∀ (t z l':Addr) (ns:List Int) (ts:List Addr) (cs:List (Int × Int × List (List V))) (H':Hp),Ext l H H'->Bag H' l->H' t = some (.tup [.ref z,.ref l'])->H z = none->H l' = none->Sizes H' z ns->(ns.length:Int) = m->(∀ n ∈ ns,n<=mo)->Tbs H' p l' ts cs->Sml H' p l ts->Fits ns cs ps->Q (.ref t) H'
theorem ok_stL {f:Addr} {fd:FuncData} (F:Fun K "_law_standing" "_law_standing" Zco f fd) (T:Txt K mg C G S) (C_law_digit:Cal P w K mg base "_law_digit" 1 Zfy) (C_law_table:Cal P w K mg base "_law_table" 4 spTb):FnOk P w K mg base CX0 5 f fd ["_law_bag_here","_law_p","_law_many","_law_arrows","_law_most"] spStL:=by
 have nd:=Zdm.nd;refine F.ok Zdm (λvs H Q E h=>?_) (λcdv A outer s H vs Q E hr h=>?_)
 .refine xE7_2 h λl a p m mo xs ps e929 _=>?_;clear h;obtain rfl:=e929;rfl
 .refine Zmi h λl a p m mo xs ps e930 hb hp e931=>?_;clear h;obtain rfl:=e930;refine Zmk e931 λha pr ip p9 m0 m8 na mo0 mo6 q=>?_;clear e931;refine ⟨_,((Zas (i:=5) nd rfl (Or.inl rfl) (@Zbd _ _ _ _ Zaa))<*>((Zdh Jbt rfl (Zj3 rfl T.n_range ((pv 2)<&>Zaa)) (@Zah _ _ 6 _ nd rfl (Or.inl rfl) (Or.inl rfl)) (@Zaj _ _ _ (Zbi (Zg4 Ja1 Jbj Jbk Zbf (pv 5) ((Zby C_law_digit hr.m rfl ((pv 0)<&>((Zk1<|>(pv 4)<&&>Zac)<&>Zaa)))<&>Zaa)))))<*>((Zas (i:=7) nd rfl (Or.inl rfl) (@Zbd _ _ _ _ Zaa))<*>((Zdh Jbt rfl (Zat (pv 3)) (@Zdx _ _ _ _ _ 2 rfl (@Zak _ _ _ _ _ (@Zah _ _ 8 _ nd rfl (Or.inl rfl) (Or.inl rfl)) (@Zak _ _ _ _ _ (@Zah _ _ 9 _ nd rfl (Or.inl rfl) (Or.inl rfl)) (@Zbj _) (by rfl)) (by rfl)) (by rfl) (by rfl)) (@Zaj _ _ _ (Zbi (Zg4 Ja1 Jbj Jbk Zbf (pv 7) ((Zby C_law_table hr.m rfl ((pv 0)<&>((pv 1)<&>((Za3<|>(pv 5)<||>(pv 9))<&>((Za3<|>(pv 5)<||>(pv 8))<&>Zaa)))))<&>Zaa)))))<*>(~~~(@Zax _ _ _ _ _ ((pv 5)<&>((pv 7)<&>Zaa)))))))),?_⟩;refine Zcs λX hX=>?_;walk_at "wp";refine ⟨by decide,λz hz=>?_⟩;have nz:z ≠ l:=hb.ne hz;have nza:a ≠ z:=Zag ha hz;subst hX;refine Zcs λX hX=>?_;refine ⟨_,rfl,m,rfl,by omega,by omega,Ze8 (λi σ H3=>∃ (v6 v7 v8 v9:Option V) (ns:List Int),σ = [some (.ref l),some (.int p),some (.int m),some (.ref a),some (.int mo),some (.ref z),v6,v7,v8,v9]/\Ext l H H3/\Bag H3 l/\H3 z = some (.lst (ns.map V.int))/\ns.length = i/\∀ n ∈ ns,0<=n/\n<=mo)
   ⟨none,none,none,none,[],rfl,Ext.new hz,hb.new nz,Zab,rfl,by simp⟩ ?_ ?_⟩
  .intro i σ H3 hi e98;refine Zct e98 λv6 v7 v8 v9 ns e932 e3 b3 e933=>?_;clear e98;obtain rfl:=e932;refine Zav e933 λhz3 hln hn=>?_;clear e933;walk_at "wp";refine ⟨.inl ⟨rfl,_,SqL.of hz3⟩,b3.draw (by omega) (by omega) λx H4 x0 x1 e4 b4=>⟨_,e4 _ _ nz hz3,Zal (by rw [Jab]; omega),_,_,_,_,⟨rfl,rfl,rfl,rfl⟩,(e3.trans e4).upd hz,b4.new nz,ns ++ [x],by rw [Zab,Ja5]; rfl,by rw [Jam,hln]; rfl,λn hnn=>?_⟩⟩;rcases Jbe.mp hnn with h | h
   .exact hn n h
   .rw [Jar.mp h]; exact ⟨x0,by omega⟩
  .intro σ H3 e99;refine Zct e99 λv6 v7 v8 v9 ns e934 e3 b3 e935=>?_;clear e99;obtain rfl:=e934;refine Zav e935 λhz3 hln hn=>?_;clear e935;subst hX;walk_at "wp";refine ⟨by decide,λtl htl=>?_⟩;have ntl:tl ≠ l:=b3.ne htl;have ha3:=e3 _ _ na ha;have nat:a ≠ tl:=Zag ha3 htl;have nzt:z ≠ tl:=Zag hz3 htl;have ftl:H tl = none:=e3.free ntl htl;have hxl:=pr.1;have hm:(ns.length:Int) = m:=by omega
   have hz24:∀ n ∈ ns,0<=n/\n<=24:=λn h=>by have:=hn n h; omega
   refine ⟨_,rfl,a,rfl,⟨_,SqL.of (Same.new htl _ _ ha3)⟩,Zd4 (xs:=xs) (λi σ H5=>∃ (v8 v9:Option V) (ts:List Addr) (cs:List (Int × Int × List (List V))),σ = [some (.ref l),some (.int p),some (.int m),some (.ref a),some (.int mo),some (.ref z),v6,some (.ref tl),v8,v9]/\Ext l H H5/\Bag H5 l/\H5 tl = some (.lst (ts.map V.ref))/\H5 z = some (.lst (ns.map V.int))/\ts.length = i/\cs.length = i /\
    (∀ (j:Nat) t c,ts[j]? = some t->cs[j]? = some c->∃ r rs,TabC H5 p c.1 c.2.1 t r rs c.2.2/\(∀ a ∈ rs,RowO H5 p 5000 c.2.1 a)/\r ≠ l/\l ∉ rs/\r ≠ tl/\tl ∉ rs)/\(∀ c ∈ cs,0<=c.1/\c.1<=24/\0<=c.2.1/\c.2.1<=24)/\∀ (j:Nat) c q,cs[j]? = some c->ps[j]? = some q->c.1 = ns.getD q.2.toNat 0/\c.2.1 = ns.getD q.1.toNat 0)
    ⟨v8,v9,[],[],rfl,e3.trans (Ext.new htl),b3.new ntl,Zab,by rw [Zaf nzt]; exact hz3,rfl,rfl,λj t c e=>by simp at e,by simp,λj c q e=>by simp at e⟩ (λi σ H2 _ ⟨_,_,_,_,_,e3,_⟩=>SqL.of (e3 _ _ na ha)) ?_ ?_⟩
   .intro i x σ H5 hi e910;refine Zcu e910 λv8 v9 ts cs e936 e5 b5 e937=>?_;clear e910;obtain rfl:=e936;refine Zjq e937 λht5 hz5 htn hlc hc hb24 hf=>?_;clear e937;walk_at "wp";have hi1:i < xs.length:=(Jaw.mp hi).1;have hq:ps[i]? = some (ps[i]'(by omega)):=Jaa (by omega);refine Zad ((pr.bag hb e5).2 i x _ hi hq) λta e938 hta=>?_;obtain rfl:=e938;refine Zbh (ip _ (Jag hq)) λi0 i1 j0 j1=>?_;have a1:=Zhw (ns:=ns) i0 (by omega);have a2:=Zhw (ns:=ns) j0 (by omega);have b1:=hz24 (ns.getD ps[i].1.toNat 0) (by rw [Jbh,Jaa (show ps[i].1.toNat < ns.length by omega)]; exact Jby _);have b2:=hz24 (ns.getD ps[i].2.toNat 0) (by rw [Jbh,Jaa (show ps[i].2.toNat < ns.length by omega)]; exact Jby _);refine ⟨ta,rfl,_,SqT.of hta,rfl,_,_,rfl,_,_,rfl,rfl,.inl ⟨rfl,_,SqL.of ht5⟩,_,_,rfl,SqL.of hz5,_,a2,_,_,rfl,SqL.of hz5,_,a1,l,p,_,_,rfl,b5,hp,b2.1,b2.2,b1.1,b1.2,λt r rs H6 e6 b6 ft fr fs sm tb=>?_⟩;obtain ⟨M,tc⟩:=tb.toC;have ht6:=e6 _ _ ntl ht5;refine ⟨_,ht6,Zal (by rw [Jab]; omega),_,_,⟨rfl,rfl⟩,(e5.trans e6).upd ftl,b6.new ntl,ts ++ [t],by rw [Zab,Zbe],by rw [Zaf nzt]; exact e6 _ _ nz hz5,by rw [Jam,htn]; rfl,cs ++ [(ns.getD ps[i].2.toNat 0,ns.getD ps[i].1.toNat 0,M)],by rw [Jam,hlc]; rfl,?_,?_,?_⟩
    .intro j t' c e1 e2;by_cases hj:j < ts.length
     .rw [Jai hj] at e1;rw [Jai (by omega)] at e2;refine Zln (hc j t' c e1 e2) λr' rs' tc' sm' n1 n2 n3 n4=>?_;exact Zaz r' rs' ⟨(tc'.ext b5 e6 n1 n2).put ht6 n3 n4,λa ha=>((sm' a ha).ext b5 e6 (λz=>n2 (z ▸ ha))).put ht6 (λz=>n4 (z ▸ ha)),n1,n2,n3,n4⟩
     .rw [Jal (by omega)] at e1 e2;have hj0:j - ts.length = 0:=by
       by_cases z:j - ts.length = 0
       .exact z
       .rw [Jb5 (by simp; omega)] at e1; cases e1
      rw [hj0] at e1;rw [show j - cs.length = 0 by omega] at e2;cases e1;cases e2;have n3:r ≠ tl:=λz=>by rw [z,ht5] at fr; cases fr
      have n4:tl ∉ rs:=λz=>by have:=fs tl z; rw [ht5] at this; cases this
      exact Zaz r rs ⟨tc.put ht6 n3 n4,λa ha=>(sm a ha).put ht6 (λz=>n4 (z ▸ ha)),b5.ne fr,λz=>absurd rfl (b5.ne (fs l z)),n3,n4⟩
    .intro c hcm;rcases Jbe.mp hcm with h | h
     .exact hb24 c h
     .rw [Jar.mp h]; exact ⟨b2.1,b2.2,b1.1,b1.2⟩
    .intro j c q' e1 e2;by_cases hj:j < cs.length
     .rw [Jai hj] at e1;exact hf j c q' e1 e2
     .rw [Jal (by omega)] at e1;have hj0:j - cs.length = 0:=by
       by_cases z:j - cs.length = 0
       .exact z
       .rw [Jb5 (by simp; omega)] at e1; cases e1
      rw [hj0] at e1;cases e1;rw [show j = i by omega,hq] at e2;cases e2;exact ⟨rfl,rfl⟩
   .intro σ H5 e911;refine Zcu e911 λv8 v9 ts cs e939 e5 b5 e940=>?_;clear e911;obtain rfl:=e939;refine Zjq e940 λht5 hz5 htn hlc hc hb24 hf=>?_;clear e940;walk_at "wp";refine ⟨by decide,λt ht=>?_⟩;have s0:=Same.new (o:=.tup [V.ref z,V.ref tl]) ht;refine q t z tl ns ts cs _ (e5.trans (Ext.new ht)) (b5.same s0) Zab hz ftl ⟨s0 _ _ hz5,by omega,hz24⟩ hm (λn h=>(hn n h).2) (Tbs.same ⟨ht5,by omega,by omega,λi t c e1 e2=>?_⟩ s0) (Sml.same (λt ht=>?_) s0) ⟨by omega,hf⟩
    .refine Zbo (hc i t c e1 e2) λr rs tc _=>?_;exact ⟨⟨r,rs,tc⟩,hb24 c (Jag e2)⟩
    .obtain ⟨i,hi,rfl⟩:=Jbb.mp ht;refine Zis (hc i _ _ (Jaa hi) (Jaa (by omega))) λr rs tc sm n1 n2 _=>?_;exact Ziq _ _ r rs ⟨tc.tab.tup,tc.tab.lst,⟨n1,n2⟩,λa ha=>let ⟨xs,e,_,n⟩:=sm a ha; ⟨xs,e,n⟩⟩
def gtL (ys:List Int) (i:Int):Int:=ys.getD i.toNat 0
def Tw (ys:List Int) (q r:Int × Int):Prop:=r = (gtL ys q.1,gtL ys q.2)\/r = (gtL ys q.2,gtL ys q.1)
def rgE:List (List (Int × Int)):=[[(0,0)],[(0,1),(0,1)],[(0,1),(1,2),(2,0)],[(0,1),(0,2),(0,3),(0,4)],[(0,1),(1,2),(2,3),(3,0),(3,4)]]
def Ringed (ps:List (Int × Int)):Prop:=∃ (ys:List Int) (es:List (Int × Int)),es ∈ rgE/\ys.length = 5/\ys.Perm (Zdg 5)/\ps.length = es.length/\∀ (j:Nat) q r,es[j]? = some q->ps[j]? = some r->Tw ys q r
def Zm2:Sp:=λvs H Q _=>∃ l:Addr,vs = [.ref l]/\Bag H l/\∀ (t e:Addr) (xs:List V) (ps:List (Int × Int)) (H':Hp),Ext l H H'->Bag H' l->H' t = some (.tup [.int 5,.ref e])->H e = none->H' e = some (.lst xs)->Prs H' xs ps->Ringed ps->Q (.ref t) H'
theorem Prs.cons {H:Hp} {xs:List V} {ps:List (Int × Int)} {t:Addr} {q:Int × Int} (h:Prs H xs ps) (ht:H t = some (.tup [.int q.1,.int q.2])):Prs H (.ref t :: xs) (q :: ps):=
 ⟨by rw [Jba,Jba,h.1],λi x r h1 h2=>by
  match i,h1,h2 with
  | 0,h1,h2=>cases h1; cases h2; exact ⟨t,rfl,ht⟩
  | i + 1,h1,h2=>exact h.2 i x r h1 h2⟩
def dE:List (Int × Int)->TA
 | []=>Zpd
 | q :: es=>Zga (tTup (Zga (tC (.int q.1)) (Zga (tC (.int q.2)) Zpd))) (dE es)
theorem dE_ok {σ:L2.St}:∀ {es:List (Int × Int)} {H:Hp} {Q:List V->Hp->Prop},(∀ xs H',Same H H'->Prs H' xs es->Q xs H')->dE es σ H Q
 | [],H,Q,h=>h [] H (Same.refl _) Prs.nil
 | q :: es,H,Q,h=>⟨by show 2<=sizeLine; decide,λp hp=>dE_ok λxs H' s pr=>h _ H' ((Same.new hp).trans s) (pr.cons (s _ _ Zab))⟩
def LL (H:Hp) (as:List Addr) (L:List (List (Int × Int))):Prop:=as.length = L.length/\∀ (j:Nat) a es,as[j]? = some a->L[j]? = some es->∃ xs,H a = some (.lst xs)/\Prs H xs es
theorem LL.same {H H':Hp} {as:List Addr} {L:List (List (Int × Int))} (h:LL H as L) (s:Same H H'):LL H' as L:=⟨h.1,λj a es e1 e2=>let ⟨xs,x1,x2⟩:=h.2 j a es e1 e2; ⟨xs,s _ _ x1,x2.same s⟩⟩
theorem LL.cons {H:Hp} {as:List Addr} {L:List (List (Int × Int))} {a:Addr} {es:List (Int × Int)} {xs:List V} (h:LL H as L) (ha:H a = some (.lst xs)) (pr:Prs H xs es):LL H (a :: as) (es :: L):=
 ⟨by rw [Jba,Jba,h.1],λi x r h1 h2=>by
  match i,h1,h2 with
  | 0,h1,h2=>cases h1; cases h2; exact ⟨xs,ha,pr⟩
  | i + 1,h1,h2=>exact h.2 i x r h1 h2⟩
theorem LL.snoc {H:Hp} {as:List Addr} {L:List (List (Int × Int))} {a:Addr} {es:List (Int × Int)} {xs:List V} (h:LL H as L) (ha:H a = some (.lst xs)) (pr:Prs H xs es):LL H (as ++ [a]) (L ++ [es]):=by
 have hl:=h.1;refine ⟨by rw [Jam,Jam,hl]; rfl,λi x r h1 h2=>?_⟩;by_cases hi:i < as.length
 .rw [Jai hi] at h1;rw [Jai (by omega)] at h2;exact h.2 i x r h1 h2
 .rw [Jal (by omega)] at h1 h2;rw [hl] at h1;cases e:i - L.length with
  | zero=>rw [e] at h1 h2; cases h1; cases h2; exact ⟨xs,ha,pr⟩
  | succ k=>rw [e] at h1; cases h1
def dL:List (List (Int × Int))->TA
 | []=>Zpd
 | es :: L=>Zga (tLst (dE es)) (dL L)
theorem dL_ok {σ:L2.St}:∀ {L:List (List (Int × Int))} {H:Hp} {Q:List V->Hp->Prop},(∀ es ∈ L,es.length<=9)->(∀ (as:List Addr) H',Same H H'->(∀ a ∈ as,H a = none)->LL H' as L->Q (as.map V.ref) H')->dL L σ H Q
 | [],H,Q,_,h=>h [] H (Same.refl _) (by simp) ⟨rfl,λj a es e=>by simp at e⟩
 | es :: L,H,Q,h9,h=>dE_ok λxs H1 s1 pr=>⟨by have:=pr.1; have:=h9 es (by simp); exact Ja3 (show xs.length<=9 by omega) (by decide),λp hp=>dL_ok (λes he=>h9 es (by simp [he])) λas H2 s2 fr ll=>by
  have s3:=Same.new (o:=.lst xs) hp;refine h (p :: as) H2 ((s1.trans s3).trans s2) (λa ha=>?_) (ll.cons (s2 _ _ Zab) ((pr.same s3).same s2));rcases Jaq.mp ha with e | e
  .rw [e]; exact s1.free hp
  .exact s1.free (s3.free (fr a e))⟩
theorem cutF {wi:TI} {g:TG} {tb:TS} {D:Ends} {σ:L2.St} {H:Hp} (h:∀ tb',tb' = tb->tFor wi g tb' D σ H):tFor wi g tb D σ H:=h tb rfl
theorem ok_ring {f:Addr} {fd:FuncData} (F:Fun K "_law_ringed" "_law_ringed" Zdo f fd) (T:Txt K mg C G S) (C_law_digit:Cal P w K mg base "_law_digit" 1 Zfy) (C_law_points:Cal P w K mg base "_law_points" 2 spPts):FnOk P w K mg base CX0 3 f fd ["_law_bag_here"] Zm2:=by
 have nd:=Zex.nd;refine F.ok Zex (λvs H Q E h=>?_) (λcdv A outer s H vs Q E hr h=>?_)
 .refine Zad h λl e93 _=>?_;clear h;obtain rfl:=e93;rfl
 .refine Zao h λl e94 hb q=>?_;clear h;obtain rfl:=e94;refine ⟨_,((Zas (i:=1) nd rfl (Or.inl rfl) (Zby C_law_digit hr.m rfl ((pv 0)<&>(Zac<&>Zaa))))<*>((Zas (i:=2) nd rfl (Or.inl rfl) (Zby C_law_points hr.m rfl ((pv 0)<&>(Zac<&>Zaa))))<*>((@Zas _ _ 3 _ _ _ _ nd rfl (Or.inl rfl) (@Zbd _ _ _ _ ((@Zbd _ _ _ _ ((@Zax _ _ _ _ _ (Zac<&>(Zac<&>Zaa)))<&>Zaa))<&>((@Zbd _ _ _ _ ((@Zax _ _ _ _ _ (Zac<&>(Zac<&>Zaa)))<&>((@Zax _ _ _ _ _ (Zac<&>(Zac<&>Zaa)))<&>Zaa)))<&>((@Zbd _ _ _ _ ((@Zax _ _ _ _ _ (Zac<&>(Zac<&>Zaa)))<&>((@Zax _ _ _ _ _ (Zac<&>(Zac<&>Zaa)))<&>((@Zax _ _ _ _ _ (Zac<&>(Zac<&>Zaa)))<&>Zaa))))<&>((@Zbd _ _ _ _ ((@Zax _ _ _ _ _ (Zac<&>(Zac<&>Zaa)))<&>((@Zax _ _ _ _ _ (Zac<&>(Zac<&>Zaa)))<&>((@Zax _ _ _ _ _ (Zac<&>(Zac<&>Zaa)))<&>((@Zax _ _ _ _ _ (Zac<&>(Zac<&>Zaa)))<&>Zaa)))))<&>Zaa))))) (by kernel_rfl) (Or.inr rfl))<*>((Zbi (Zg4 Ja1 Jbj Jbk Zbf (pv 3) ((@Zbd _ _ _ _ ((@Zax _ _ _ _ _ (Zac<&>(Zac<&>Zaa)))<&>((@Zax _ _ _ _ _ (Zac<&>(Zac<&>Zaa)))<&>((@Zax _ _ _ _ _ (Zac<&>(Zac<&>Zaa)))<&>((@Zax _ _ _ _ _ (Zac<&>(Zac<&>Zaa)))<&>((@Zax _ _ _ _ _ (Zac<&>(Zac<&>Zaa)))<&>Zaa))))))<&>Zaa)))<*>((Zas (i:=4) nd rfl (Or.inl rfl) (@Zbd _ _ _ _ Zaa))<*>((Zdh Jbt rfl (Zat (Za3<|>(pv 3)<||>(pv 1))) (@Zdx _ _ _ _ _ 2 rfl (@Zak _ _ _ _ _ (@Zah _ _ 5 _ nd rfl (Or.inl rfl) (Or.inl rfl)) (@Zak _ _ _ _ _ (@Zah _ _ 6 _ nd rfl (Or.inl rfl) (Or.inl rfl)) (@Zbj _) (by rfl)) (by rfl)) (by rfl) (by rfl)) ((Zas (i:=7) nd rfl (Or.inl rfl) (@Zax _ _ _ _ _ ((Za3<|>(pv 2)<||>(pv 5))<&>((Za3<|>(pv 2)<||>(pv 6))<&>Zaa))))<*>((@Za1 _ _ _ _ _ _ _ _ (Zai Zeq (Zby C_law_digit hr.m rfl ((pv 0)<&>(Zac<&>Zaa))) Zac (Zan _)) (@Zaj _ _ _ (Zas (i:=7) nd rfl (Or.inl rfl) (@Zax _ _ _ _ _ ((Za3<|>(pv 2)<||>(pv 6))<&>((Za3<|>(pv 2)<||>(pv 5))<&>Zaa))))) Zam)<*>(@Zaj _ _ _ (Zbi (Zg4 Ja1 Jbj Jbk Zbf (pv 4) ((pv 7)<&>Zaa)))))))<*>(~~~(@Zax _ _ _ _ _ (Zac<&>((pv 4)<&>Zaa)))))))))),?_⟩;refine Zcs λX hX=>?_;walk_at "wp";refine hb.draw (by decide) (by decide) λwy H1 w0 w1 e1 b1=>?_;subst hX;refine Zcs λX hX=>?_;walk_at "wp";refine Zaz l 5 ⟨rfl,b1,by decide,by decide,λa ys H2 e2 b2 fa ha hy pm5=>?_⟩;subst hX;refine Zcs λX hX=>?_;show tSeq (tAsg (tLst (dL [[(0,0)],[(0,1),(0,1)],[(0,1),(1,2),(2,0)],[(0,1),(0,2),(0,3),(0,4)]])) (Zba 3)) X _ _ _;refine dL_ok (by decide) λas H3 s3 fas ll=>⟨by rw [Jab,ll.1]; decide,λpl hpl=>?_⟩
  have s4:=Same.new (o:=.lst (as.map V.ref)) hpl;have hp4:(upd H3 pl (.lst (as.map V.ref))) pl = some (.lst (as.map V.ref)):=Zab;have ll4:=ll.same s4;have s34:=s3.trans s4;generalize upd H3 pl (.lst (as.map V.ref)) = H4 at *;subst hX;dsimp only [Zba,List.set_cons_zero,List.set_cons_succ];refine Zcs λX hX=>?_;show tSeq (tDrop (tBM K "list" Zj1 (Zko 3) (Zga (tLst (dE [(0,1),(1,2),(2,3),(3,0),(3,4)])) Zpd))) X _ _ _;refine ⟨_,rfl,.inl ⟨rfl,_,SqL.of hp4⟩,dE_ok λxs5 H5 s5 pr5=>⟨by rw [pr5.1]; decide,λp5 hp5=>?_⟩⟩;have s6:=Same.new (o:=.lst xs5) hp5;have pr6:=pr5.same s6;have q6:(upd H5 p5 (.lst xs5)) p5 = some (.lst xs5):=Zab;have s46:=s5.trans s6;have n5:pl ≠ p5:=Zag (s5 _ _ hp4) hp5;generalize upd H5 p5 (.lst xs5) = H6 at *;have ll6:=(ll4.same s46).snoc q6 pr6;have npl:∀ a' ∈ as ++ [p5],a' ≠ pl:=λa' h=>by
   rcases Jbe.mp h with h | h
   .obtain ⟨j,hj,rfl⟩:=Jbb.mp h;obtain ⟨xs,h1,_⟩:=ll.2 j _ _ (Jaa hj) (Jaa (by have:=ll.1; omega));exact Zag h1 hpl
   .rw [Jar.mp h]; exact n5.symm
  refine Zbg pl _ _ ⟨rfl,rfl,s46 _ _ hp4,Zal (by rw [Jab,ll.1]; decide),?_⟩;have hp7:(upd H6 pl (.lst (as.map V.ref ++ [V.ref p5]))) pl = some (.lst ((as ++ [p5]).map V.ref)):=by rw [Zab,Zbe]
  have ll7:LL (upd H6 pl (.lst (as.map V.ref ++ [V.ref p5]))) (as ++ [p5]) rgE:=⟨ll6.1,λj a' es h1 h2=>by
   refine Zad (ll6.2 j a' es h1 h2) λxs x1 x2=>?_;exact ⟨xs,by rw [Zaf (npl a' (Jag h1))]; exact x1,x2.put (s46 _ _ hp4)⟩⟩
  have fp2:H2 pl = none:=s3.free hpl;have npl2:pl ≠ l:=b2.ne fp2;have b7:Bag (upd H6 pl (.lst (as.map V.ref ++ [V.ref p5]))) l:=(b2.same (s34.trans s46)).new npl2;have s27:Same H2 (upd H6 pl (.lst (as.map V.ref ++ [V.ref p5]))):=(s34.trans s46).upd fp2;generalize upd H6 pl (.lst (as.map V.ref ++ [V.ref p5])) = H7 at *;have e7:=(e1.trans e2).trans s27.ext;have na:a ≠ l:=b1.ne fa;subst hX;dsimp only;refine Zcs λX hX=>?_;walk_at "wp";refine ⟨by decide,λar har=>?_⟩;have nar:ar ≠ l:=b7.ne har;have far:H ar = none:=e7.free nar har;subst hX;refine Zcs λX hX=>?_;have hwl:wy.toNat < (as ++ [p5]).length:=by rw [ll7.1]; show wy.toNat < 5; omega
  obtain ⟨es,hes⟩:∃ es,rgE[wy.toNat]? = some es:=⟨_,Jaa (by show wy.toNat < 5; omega)⟩
  have hesm:es ∈ rgE:=Jag hes;refine Zad (ll7.2 wy.toNat _ es (Jaa hwl) hes) λxs hxa prx=>?_;have s78:=Same.new (o:=.lst []) har;have nxl:(as ++ [p5])[wy.toNat] ≠ l:=by
   have:H2 ((as ++ [p5])[wy.toNat]) = none:=by
    rcases Jbe.mp (Jby hwl) with h | h
    .exact fas _ h
    .rw [Jar.mp h]; exact (s34.trans s5).free hp5
   exact b2.ne this
  have e5:es.length<=5:=(show ∀ es ∈ rgE,es.length<=5 by decide) es hesm;have i5:∀ q ∈ es,0<=q.1/\q.1 < 5/\0<=q.2/\q.2 < 5:=(show ∀ es ∈ rgE,∀ q ∈ es,0<=q.1/\q.1 < 5/\0<=q.2/\q.2 < 5 by decide) es hesm;have xl:=prx.1;have hat:atI ((as ++ [p5]).map V.ref) wy = some (.ref ((as ++ [p5])[wy.toNat])):=Zhe w0 (by rw [Jbc,Jaa hwl]; rfl);generalize (as ++ [p5])[wy.toNat] = aw at *;refine cutF λY hY=>?_;refine ⟨_,rfl,_,rfl,pl,_,_,_,rfl,rfl,SqL.of (s78 _ _ hp7),hat,_,rfl,⟨_,SqL.of (s78 _ _ hxa)⟩,Zd4 (xs:=xs) (λi σ H8=>∃ (v5 v6 v7:Option V) (ws:List V) (ps:List (Int × Int)),σ = [some (.ref l),some (.int wy),some (.ref a),some (.ref pl),some (.ref ar),v5,v6,v7]/\Ext l H7 H8/\Bag H8 l/\H8 ar = some (.lst ws)/\Prs H8 ws ps/\ps.length = i/\∀ (j:Nat) q r,es[j]? = some q->ps[j]? = some r->Tw ys q r)
   ⟨none,none,none,[],[],rfl,Ext.new har,b7.same s78,Zab,Prs.nil,rfl,λj q r _ e=>by simp at e⟩ (λi σ H8 _ ⟨_,_,_,_,_,_,e,_⟩=>SqL.of (e _ _ nxl hxa)) ?_ ?_⟩
  .intro i x σ H8 hi e91;refine Zct e91 λv5 v6 v7 ws ps e95 e8 b8 e96=>?_;clear e91;obtain rfl:=e95;refine Zbh e96 λhar8 prw hpl8 htw=>?_;clear e96;refine cutD λD2 hD2=>?_;have hi1:i < xs.length:=(Jaw.mp hi).1;have hq:es[i]? = some (es[i]'(by omega)):=Jaa _;refine Zad ((prx.bag b7 e8).2 i x _ hi hq) λta e97 hta=>?_;obtain rfl:=e97;refine Zbh (i5 _ (Jag hq)) λi0 i1 j0 j1=>?_;have ha8:=e8 _ _ na (s27 _ _ ha);have a1:=Zhw (ns:=ys) i0 (by omega);have a2:=Zhw (ns:=ys) j0 (by omega);have ht1:∀ r,Tw ys (es[i]'(by omega)) r->∀ (j:Nat) q r',es[j]? = some q->(ps ++ [r])[j]? = some r'->Tw ys q r':=λr hr j q r' h1 h2=>by
    by_cases hj:j < ps.length
    .rw [Jai hj] at h2;exact htw j q r' h1 h2
    .rw [Jal (by omega)] at h2;cases e:j - ps.length with
     | zero=>rw [e] at h2; cases h2; rw [show j = i by omega,hq] at h1; cases h1; exact hr
     | succ k=>rw [e] at h2; cases h2
   generalize es[i]'(by omega) = q0 at *;simp only [gTup,Zl7,gNil,Zba,List.set_cons_zero,List.set_cons_succ];refine Zaz ta _ ⟨rfl,SqT.of hta,rfl,_,_,rfl,_,_,rfl,rfl,?_⟩;subst hY;refine Zcs λY hY=>?_;walk_at "wp";refine ⟨_,SqL.of ha8,_,a1,_,SqL.of ha8,_,a2,by decide,λt1 ht1'=>?_⟩;have s9:=Same.new (o:=.tup [V.int (ys.getD q0.1.toNat 0),V.int (ys.getD q0.2.toNat 0)]) ht1';have q9:(upd H8 t1 (.tup [V.int (ys.getD q0.1.toNat 0),V.int (ys.getD q0.2.toNat 0)])) t1 = some (.tup [V.int (ys.getD q0.1.toNat 0),V.int (ys.getD q0.2.toNat 0)]):=Zab;generalize upd H8 t1 (.tup [V.int (ys.getD q0.1.toNat 0),V.int (ys.getD q0.2.toNat 0)]) = H9 at *;subst hY;refine Zcs λY hY=>?_;have fin:∀ (t2:Addr) (r:Int × Int) (H10:Hp) (u:Option V),Ext l H8 H10->Bag H10 l->H10 t2 = some (.tup [.int r.1,.int r.2])->Tw ys q0 r->Y D2 [some (.ref l),some (.int wy),some (.ref a),some (.ref pl),some (.ref ar),some (.int q0.1),some (.int q0.2),some (.ref t2)] H10:=by
    intro t2 r H10 u e10 b10 ht2 hr;subst hY;walk_at "wp";have har10:=e10 _ _ nar har8;have wl:=prw.1;subst hD2;exact ⟨.inl ⟨rfl,_,SqL.of har10⟩,_,har10,Zal (by omega),_,_,_,_,ps ++ [r],rfl,(e8.trans e10).upd har,b10.new nar,Zab,((prw.bag b8 e10).add ht2).put har10,by rw [Jam,hpl8]; rfl,ht1 r hr⟩
   walk_at "wp";refine (b8.same s9).draw (by decide) (by decide) λy H10 y0 y1 e10 b10=>?_;have e810:=s9.ext.trans e10;have nt1:t1 ≠ l:=b8.ne ht1';have ha10:=e810 _ _ na ha8;refine ⟨rfl,Zcx (λ_=>⟨_,SqL.of ha10,_,a2,_,SqL.of ha10,_,a1,by decide,λt2 ht2=>fin t2 (gtL ys q0.2,gtL ys q0.1) _ none (e810.trans (Ext.new ht2)) (b10.new (b10.ne ht2)) Zab (.inr rfl)⟩) (λ_=>fin t1 (gtL ys q0.1,gtL ys q0.2) _ none e810 b10 (e10 _ _ nt1 q9) (.inl rfl))⟩
  .intro σ H8 e92;refine Zct e92 λv5 v6 v7 ws ps e98 e8 b8 e99=>?_;clear e92;obtain rfl:=e98;refine Zbh e99 λhar8 prw hpl8 htw=>?_;clear e99;subst hX;walk_at "wp";refine ⟨by decide,λt ht=>?_⟩;have s0:=Same.new (o:=.tup [V.int 5,V.ref ar]) ht;exact q t ar ws ps _ ((e7.trans e8).trans s0.ext) (b8.same s0) Zab far (s0 _ _ har8) (prw.same s0) ⟨ys,es,hesm,by omega,pm5,by omega,htw⟩
theorem ys_at {ys:List Int} {i:Int} (i0:0<=i) (i1:i < ys.length):gtL ys i ∈ ys:=by
 unfold gtL;rw [Jbh,Jaa (show i.toNat < ys.length by omega)];exact Jby _
theorem rg_in {es:List (Int × Int)} (h:es ∈ rgE):1<=es.length/\es.length<=5/\∀ q ∈ es,0<=q.1/\q.1 < 5/\0<=q.2/\q.2 < 5:=(show ∀ es ∈ rgE,1<=es.length/\es.length<=5/\∀ q ∈ es,0<=q.1/\q.1 < 5/\0<=q.2/\q.2 < 5 by decide) es h
theorem pts_in {ys:List Int} (pm:ys.Perm (Zdg 5)):∀ y ∈ ys,0<=y/\y < 5:=λy hy=>(show ∀ y ∈ Zdg 5,0<=y/\y < 5 by decide) y (pm.subset hy)
theorem Ringed.inp {ps:List (Int × Int)} (h:Ringed ps):InP 5 ps/\1<=ps.length/\ps.length<=5:=by
 refine Zis h λys es he yl pm hl tw=>?_;clear h;have hin:=pts_in pm;refine Zav (rg_in he) λl1 l2 iq=>?_;refine ⟨λr hr=>?_,by omega,by omega⟩;obtain ⟨j,hj,rfl⟩:=Jbb.mp hr;have e:es[j]? = some (es[j]'(by omega)):=Jaa _;refine Zbh (iq _ (Jag e)) λa0 a1 b0 b1=>?_;have g1:=hin _ (ys_at (ys:=ys) a0 (by omega));have g2:=hin _ (ys_at (ys:=ys) b0 (by omega));rcases tw j _ _ e (Jaa hj) with h | h <;> rw [h]
 .exact ⟨g1.1,g1.2,g2.1,g2.2⟩
 .exact ⟨g2.1,g2.2,g1.1,g1.2⟩
theorem Zrf {ys:List Int} {X:Int->Int}:∀ {es ps:List (Int × Int)},ps.length = es.length->(∀ (j:Nat) q r,es[j]? = some q->ps[j]? = some r->Tw ys q r)->L3.sI (λe=>X e.1 * X e.2) ps = L3.sI (λe=>X (gtL ys e.1) * X (gtL ys e.2)) es
 | [],[],_,_=>rfl
 | q :: es,r :: ps,hl,h=>by
  have ih:=Zrf (X:=X) (es:=es) (ps:=ps) (by simpa using hl) λj q r e1 e2=>h (j + 1) q r e1 e2;have h0:=h 0 q r rfl rfl;show X r.1 * X r.2 + _ = X (gtL ys q.1) * X (gtL ys q.2) + _;rw [ih];rcases h0 with e | e <;> rw [e]
  show X (gtL ys q.2) * X (gtL ys q.1) + _ = _;rw [Int.mul_comm (X (gtL ys q.2))]
 | [],_ :: _,hl,_=>by simp at hl
 | _ :: _,[],hl,_=>by simp at hl
def rgC:List (List Int):=[[1,0,0,0,0],[1,1,0,0,0],[1,1,1,0,0],[2,1,1,1,1],[1,1,1,1,0]]
theorem rg_low:∀ es ∈ rgE,∃ c ∈ rgC,(gtL c 0 * gtL c 0 + (gtL c 1 * gtL c 1 + (gtL c 2 * gtL c 2 + (gtL c 3 * gtL c 3 + (gtL c 4 * gtL c 4 + 0))))) - L3.sI (λe=>gtL c e.1 * gtL c e.2) es<=0/\gtL c 0 ≠ 0:=by decide
theorem five {ys c:List Int} (yl:ys.length = 5) (nd:ys.Nodup):∃ X:Int->Int,(∀ i:Int,0<=i->i < 5->X (gtL ys i) = gtL c i)/\L3.sI (λp=>X p * X p) ys = gtL c 0 * gtL c 0 + (gtL c 1 * gtL c 1 + (gtL c 2 * gtL c 2 + (gtL c 3 * gtL c 3 + (gtL c 4 * gtL c 4 + 0)))):=by
 obtain ⟨y0,y1,y2,y3,y4,rfl⟩:∃ a b c d e,ys = [a,b,c,d,e]:=by
  match ys,yl with
  | [a,b,c,d,e],_=>exact ⟨a,b,c,d,e,rfl⟩
 simp only [Jbr,Jaq,not_or,List.not_mem_nil,not_false_eq_true,List.nodup_nil,and_true] at nd;refine Zbh nd λe910 e911 e912 n34=>?_;clear nd;obtain ⟨n01,n02,n03,n04⟩:=e910;obtain ⟨n12,n13,n14⟩:=e911;obtain ⟨n23,n24⟩:=e912;have h0:(λv=>if v = y0 then gtL c 0 else if v = y1 then gtL c 1 else if v = y2 then gtL c 2 else if v = y3 then gtL c 3 else gtL c 4) y0 = gtL c 0:=if_pos rfl;have h1:(λv=>if v = y0 then gtL c 0 else if v = y1 then gtL c 1 else if v = y2 then gtL c 2 else if v = y3 then gtL c 3 else gtL c 4) y1 = gtL c 1:=(if_neg (Jb7 n01)).trans (if_pos rfl);have h2:(λv=>if v = y0 then gtL c 0 else if v = y1 then gtL c 1 else if v = y2 then gtL c 2 else if v = y3 then gtL c 3 else gtL c 4) y2 = gtL c 2:=(if_neg (Jb7 n02)).trans ((if_neg (Jb7 n12)).trans (if_pos rfl));have h3:(λv=>if v = y0 then gtL c 0 else if v = y1 then gtL c 1 else if v = y2 then gtL c 2 else if v = y3 then gtL c 3 else gtL c 4) y3 = gtL c 3:=(if_neg (Jb7 n03)).trans ((if_neg (Jb7 n13)).trans ((if_neg (Jb7 n23)).trans (if_pos rfl)));have h4:(λv=>if v = y0 then gtL c 0 else if v = y1 then gtL c 1 else if v = y2 then gtL c 2 else if v = y3 then gtL c 3 else gtL c 4) y4 = gtL c 4:=(if_neg (Jb7 n04)).trans ((if_neg (Jb7 n14)).trans ((if_neg (Jb7 n24)).trans (if_neg (Jb7 n34))));generalize (λv=>if v = y0 then gtL c 0 else if v = y1 then gtL c 1 else if v = y2 then gtL c 2 else if v = y3 then gtL c 3 else gtL c 4) = X at *;refine ⟨X,λi i0 i1=>?_,?_⟩
 .have:i = 0\/i = 1\/i = 2\/i = 3\/i = 4:=by omega
  rcases this with rfl | rfl | rfl | rfl | rfl
  .exact h0
  .exact h1
  .exact h2
  .exact h3
  .exact h4
 .show X y0 * X y0 + (X y1 * X y1 + (X y2 * X y2 + (X y3 * X y3 + (X y4 * X y4 + 0)))) = _;rw [h0,h1,h2,h3,h4]
theorem Ringed.bad {ps:List (Int × Int)} (h:Ringed ps):¬ Zjo 5 ps:=λg=>by
 have ip:=h.inp.1;refine Zis h λys es he yl pm hl tw=>?_;clear h;refine Zao (rg_low es he) λc _ low c0=>?_;refine Zad (five (c:=c) yl (pm.nodup_iff.mpr (Zh8 5))) λX hX sX=>?_;have y0:gtL ys 0 ∈ Zdg 5:=pm.subset (ys_at (by decide) (by omega));have dp:=Zqz (n:=5) ip (by decide) g X ⟨_,y0,by rw [hX 0 (by decide) (by decide)]; exact c0⟩;unfold L3.qf at dp;rw [<- L3.Zh6 pm,sX,Zrf hl tw,L3.Zc5 (h:=λe=>gtL c e.1 * gtL c e.2) λe he'=>by obtain ⟨a0,a1,b0,b1⟩:=(rg_in he).2.2 e he'; rw [hX _ a0 a1,hX _ b0 b1]] at dp;omega
theorem Ringed.first {ps:List (Int × Int)} (h:Ringed ps):∃ q rest,ps = q :: rest:=by
 have:=h.inp.2.1
 match ps,this with
 | q :: rest,_=>exact ⟨q,rest,rfl⟩
end
end Pf
set_option maxHeartbeats 1000000
namespace Pf
open PySem L2 PyProof.Rows
theorem Zp1 {X:Cx} {e:Expr}:PE X e (λ_ _ _=>False):=λ_ _ _ _ _ _ h=>h.elim
theorem pe_subN {X:Cx} {e sl:Expr} {te:TE} {pos:Pos} (he:PE X e te):PE X (.Subscript e sl pos) (λσ H _=>te σ H λ_ _=>False):=λpins s σ H Q I h=>Subscript_ (thn (he pins s σ H _ I h) λv s1 ⟨x,H1,I1,r1,q1⟩=>q1.elim)
structure Cs where
 LimbError:Addr
 NoGround:Addr
 NoNumber:Addr
 NoTable:Addr
 NoDrawing:Addr
 NoKind:Addr
 NoStanding:Addr
 NoChange:Addr
 NoMirror:Addr
 NoRoot:Addr
 NoText:Addr
 NoRow:Addr
 NoName:Addr
structure Xt (K:PySem.W.Frag) (mg:Str->Option Value) (base:Heap) (cc:Cs):Prop where
 g_LimbError:mg "LimbError" = some (.ref cc.LimbError)
 g_NoGround:mg "NoGround" = some (.ref cc.NoGround)
 g_NoNumber:mg "NoNumber" = some (.ref cc.NoNumber)
 g_NoTable:mg "NoTable" = some (.ref cc.NoTable)
 g_NoDrawing:mg "NoDrawing" = some (.ref cc.NoDrawing)
 g_NoKind:mg "NoKind" = some (.ref cc.NoKind)
 g_NoStanding:mg "NoStanding" = some (.ref cc.NoStanding)
 g_NoChange:mg "NoChange" = some (.ref cc.NoChange)
 g_NoMirror:mg "NoMirror" = some (.ref cc.NoMirror)
 g_NoRoot:mg "NoRoot" = some (.ref cc.NoRoot)
 g_NoText:mg "NoText" = some (.ref cc.NoText)
 g_NoRow:mg "NoRow" = some (.ref cc.NoRow)
 g_NoName:mg "NoName" = some (.ref cc.NoName)
 o_LimbError:OwnCls "LimbError" cc.LimbError bmV newV mg base
 o_NoKind:OwnCls "NoKind" cc.NoKind bmV newV mg base
 o_NoStanding:OwnCls "NoStanding" cc.NoStanding bmV newV mg base
 u_NoKind:∃ C' nm q N bs bm hdct sn sub ab col dd k0 k1 k2 k3 k5 new,Value.ref cc.NoKind = .ref C'/\base.get? C' = some (excClassObj nm q C' N bs bm hdct sn sub ab col dd k0 k1 k2 k3 k5 new)/\bm.contains (.ref cc.LimbError) = true
 z:ExcCls K cc.NoKind
 i:(PySem.W.clsIn K cc.NoKind).isSome = true
 t1:PySem.W.kitAny K (.ref cc.NoKind) [.ref cc.NoGround,.ref cc.NoNumber,.ref cc.NoTable,.ref cc.NoDrawing,.ref cc.NoChange,.ref cc.NoMirror,.ref cc.NoRoot,.ref cc.NoText,.ref cc.NoRow,.ref cc.NoName] = some false
 q_NoStanding:PySem.W.kitOne K (.ref cc.NoKind) (.ref cc.NoStanding) = some false
 v:PySem.W.kitOne K (.ref cc.NoKind) (.type "ValueError") = some true
 u_NoStanding:∃ C' nm q N bs bm hdct sn sub ab col dd k0 k1 k2 k3 k5 new,Value.ref cc.NoStanding = .ref C'/\base.get? C' = some (excClassObj nm q C' N bs bm hdct sn sub ab col dd k0 k1 k2 k3 k5 new)/\bm.contains (.ref cc.LimbError) = true
 zz:ExcCls K cc.NoStanding
 ii:(PySem.W.clsIn K cc.NoStanding).isSome = true
 tt1:PySem.W.kitAny K (.ref cc.NoStanding) [.ref cc.NoGround,.ref cc.NoNumber,.ref cc.NoTable,.ref cc.NoDrawing,.ref cc.NoChange,.ref cc.NoMirror,.ref cc.NoRoot,.ref cc.NoText,.ref cc.NoRow,.ref cc.NoName] = some false
 qq_NoKind:PySem.W.kitOne K (.ref cc.NoStanding) (.ref cc.NoKind) = some false
 vv:PySem.W.kitOne K (.ref cc.NoStanding) (.type "ValueError") = some true
section
variable {P:Program} {w:World} {K:PySem.W.Frag} {mg:Str->Option Value} {base:Heap} {C G S:Addr} {cc:Cs}
def AtS (S C G:Addr) (H:Hp) (x:Addr) (p m:Int) (ps:List (Int × Int)):Prop:=∃ dx g d z l lp xs,H x = some (.ins S dx (Zgh g d z l))/\GAt G H g p/\Zd0 C H d m lp xs/\Prs H xs ps/\InP m ps/\ps.length<=9/\1<=m/\m<=8
theorem AtS.same {H H':Hp} {x:Addr} {p m:Int} {ps:List (Int × Int)} (h:AtS S C G H x p m ps) (s:Same H H'):AtS S C G H' x p m ps:=
 let ⟨dx,g,d,z,l,lp,xs,a,b,⟨dd,c1,c2⟩,e,f⟩:=h; ⟨dx,g,d,z,l,lp,xs,s _ _ a,b.same s,⟨dd,s _ _ c1,s _ _ c2⟩,e.same s,f⟩
theorem AtS.drw {H:Hp} {x:Addr} {p m:Int} {ps:List (Int × Int)} (h:AtS S C G H x p m ps):∃ dx g d z l,H x = some (.ins S dx (Zgh g d z l))/\Drw C H d m ps/\InP m ps/\1<=m/\m<=8:=
 let ⟨dx,g,d,z,l,lp,xs,a,b,c,e,i,p9,m1,m8⟩:=h; ⟨dx,g,d,z,l,a,⟨lp,xs,c,by have:=e.1; omega,e⟩,i,m1,m8⟩
def AtB (l0 l1 S C G:Addr) (H:Hp) (x:Addr) (p m:Int) (ps:List (Int × Int)):Prop:=∃ dx g d z l lp xs,H x = some (.ins S dx (Zgh g d z l))/\GAt G H g p/\Zd0 C H d m lp xs/\Prs H xs ps/\InP m ps/\ps.length<=9/\1<=m/\m<=8/\lp ≠ l0/\lp ≠ l1
theorem AtB.at_ {l0 l1:Addr} {H:Hp} {x:Addr} {p m:Int} {ps:List (Int × Int)} (h:AtB l0 l1 S C G H x p m ps):AtS S C G H x p m ps:=
 let ⟨dx,g,d,z,l,lp,xs,a,b,c,e,i,p9,m1,m8,_⟩:=h; ⟨dx,g,d,z,l,lp,xs,a,b,c,e,i,p9,m1,m8⟩
theorem AtB.keep {l0 l1 y:Addr} {H H':Hp} {x:Addr} {p m:Int} {ps:List (Int × Int)} {ys:List V} (h:AtB l0 l1 S C G H x p m ps) (hy:H y = some (.lst ys)) (n:y = l0\/y = l1) (e:Ext y H H'):AtB l0 l1 S C G H' x p m ps:=by
 refine Zmi h λdx g d z l lp xs a1 e94 e95 e96=>?_;clear h;obtain ⟨dg,a2⟩:=e94;obtain ⟨dd,a3,a4⟩:=e95;refine Zjq e96 λa5 i p9 m1 m8 n0 n1=>?_;clear e96;have ne:∀ {u:Addr} {o:HO},H u = some o->(∀ zs,o ≠ .lst zs)->u ≠ y:=λh k=>Zea h hy (k ys);have nl:lp ≠ y:=n.elim (λz=>z ▸ n0) (λz=>z ▸ n1);refine xI7_1 dx g d z l lp xs ⟨e _ _ (ne a1 (by intro _ z; cases z)) a1,⟨dg,e _ _ (ne a2 (by intro _ z; cases z)) a2⟩,⟨dd,e _ _ (ne a3 (by intro _ z; cases z)) a3,e _ _ nl a4⟩,⟨a5.1,λi x q h1 h2=>?_⟩,i,p9,m1,m8,n0,n1⟩;refine Zad (a5.2 i x q h1 h2) λt e1 e2=>?_;exact ⟨t,e1,e _ _ (ne e2 (by intro _ z; cases z)) e2⟩
theorem AtB.bag {l0 l1:Addr} {H H':Hp} {x:Addr} {p m:Int} {ps:List (Int × Int)} (h:AtB l0 l1 S C G H x p m ps) (b:Bag H l0) (e:Ext l0 H H'):AtB l0 l1 S C G H' x p m ps:=
 let ⟨_,hy⟩:=b.lst; h.keep hy (.inl rfl) e
theorem AtB.put {l0 l1:Addr} {H:Hp} {x:Addr} {p m:Int} {ps:List (Int × Int)} {ys:List V} {o:HO} (h:AtB l0 l1 S C G H x p m ps) (hy:H l1 = some (.lst ys)):AtB l0 l1 S C G (upd H l1 o) x p m ps:=h.keep hy (.inr rfl) λb o n e=>by rw [Zaf n]; exact e
theorem AtB.up {l0 l1 l2:Addr} {H:Hp} {x:Addr} {p m:Int} {ps:List (Int × Int)} (h:AtB l0 l1 S C G H x p m ps) (hn:H l2 = none):AtB l0 l2 S C G H x p m ps:=
 let ⟨dx,g,d,z,l,lp,xs,a,b,⟨dd,c1,c2⟩,e,i,p9,m1,m8,n0,_⟩:=h; ⟨dx,g,d,z,l,lp,xs,a,b,⟨dd,c1,c2⟩,e,i,p9,m1,m8,n0,Zag c2 hn⟩
theorem AtB.same {l0 l1:Addr} {H H':Hp} {x:Addr} {p m:Int} {ps:List (Int × Int)} (h:AtB l0 l1 S C G H x p m ps) (s:Same H H'):AtB l0 l1 S C G H' x p m ps:=
 let ⟨dx,g,d,z,l,lp,xs,a,b,⟨dd,c1,c2⟩,e,f⟩:=h; ⟨dx,g,d,z,l,lp,xs,s _ _ a,b.same s,⟨dd,s _ _ c1,s _ _ c2⟩,e.same s,f⟩
def FarL (l0 l1 S C G:Addr) (H:Hp) (p m:Int) (ps:List (Int × Int)) (as:List Addr):Prop:=∀ y ∈ as,∃ p' m' qs,AtB l0 l1 S C G H y p' m' qs/\¬ (p = p'/\m = m'/\ps = qs)
theorem FarL.mono {l0 l1:Addr} {H H':Hp} {p m:Int} {ps:List (Int × Int)} {as:List Addr} (h:FarL l0 l1 S C G H p m ps as) (k:∀ {y p m qs},AtB l0 l1 S C G H y p m qs->AtB l0 l1 S C G H' y p m qs):FarL l0 l1 S C G H' p m ps as:=λy hy=>let ⟨p',m',qs,a,b⟩:=h y hy; ⟨p',m',qs,k a,b⟩
theorem FarL.cons {l0 l1:Addr} {H:Hp} {p m p' m':Int} {ps qs:List (Int × Int)} {as:List Addr} {y:Addr} (h:FarL l0 l1 S C G H p m ps as) (a:AtB l0 l1 S C G H y p' m' qs) (b:¬ (p = p'/\m = m'/\ps = qs)):FarL l0 l1 S C G H p m ps (as ++ [y]):=λz hz=>by
 rcases Jbe.mp hz with e | e
 .exact h z e
 .rw [Jar.mp e]; exact ⟨p',m',qs,a,b⟩
theorem FarL.nil {l0 l1:Addr} {H:Hp} {p m:Int} {ps:List (Int × Int)}:FarL l0 l1 S C G H p m ps []:=λy hy=>by simp at hy
def Ziy (S C G NK:Addr):Sp:=λvs H _ E=>∃ (x:Addr) (p m:Int) (ps:List (Int × Int)),vs = [.ref x]/\AtS S C G H x p m ps/\¬ Zjo m.toNat ps/\∀ H',Same H H'->E (.ref NK) none H'
theorem ok_turn {f:Addr} {fd:FuncData} (F:Fun K "turnings" "turnings" Zfg f fd) (T:Txt K mg C G S) (XT:Xt K mg base cc) (C_is_good:Cal P w K mg base "is_good" 5 (Zkq C)):FnOk P w K mg base (CXe P w) 6 f fd ["standing"] (Ziy S C G cc.NoKind):=by
 have nd:=Zgj.nd;refine F.okE Zgj (λvs H Q E h=>?_) (λcdv A outer s H vs Q E hr h=>?_)
 .refine Zhy h λx p m ps e97 _=>?_;clear h;obtain rfl:=e97;rfl
 .refine Zcu h λx p m ps e98 st bad q=>?_;clear h;obtain rfl:=e98;refine Zct st.drw λdx g d z l hx dw ip e99=>?_;obtain ⟨m1,m8⟩:=e99;refine ⟨_,((@Za1 _ _ _ _ _ _ _ _ (Za6 (Za5 (Zby C_is_good hr.m rfl ((Zbb (pv 0) rfl)<&>Zaa)))) (@Zaj _ _ _ (Znm XT.o_NoKind rfl (Zcg<&>Zaa))) Zam)<*>(Zap<*>((Zas (i:=2) nd rfl (Or.inl rfl) (@Zbd _ _ _ _ Zaa))<*>(Zap<*>(Zap<*>(~~~(pv 2))))))),?_⟩;refine Zcs λX hX=>?_;walk_at "wp";refine Zbg S dx _ ⟨hx,T.cl_Standing,T.nSd,_,Zb9 ..,d,m.toNat,ps,rfl,by rw [Jca (by omega)]; exact dw,by rw [Jca (by omega)]; exact ip,by omega,by omega,λg=>absurd g bad,λ_ H1 s1=>⟨false,rfl,Zpe rfl ⟨by decide,q H1 s1⟩⟩⟩
theorem Zqb {f:Addr} {fd:FuncData} (F:Fun K "split_off" "split_off" Zek f fd) (T:Txt K mg C G S) (XT:Xt K mg base cc) (C_turnings:CalE P w K mg base "turnings" 6 (Ziy S C G cc.NoKind)):FnOk P w K mg base (CXe P w) 7 f fd ["standing"] (Ziy S C G cc.NoKind):=by
 have nd:=Zf0.nd;refine F.okE Zf0 (λvs H Q E h=>?_) (λcdv A outer s H vs Q E hr h=>?_)
 .refine Zhy h λx p m ps e910 _=>?_;clear h;obtain rfl:=e910;rfl
 .refine Zcu h λx p m ps e911 st bad q=>?_;clear h;obtain rfl:=e911;refine ⟨_,((Zas (i:=1) nd rfl (Or.inl rfl) (@Zbd _ _ _ _ Zaa))<*>((Zas (i:=2) nd rfl (Or.inl rfl) (@Zbd _ _ _ _ Zaa))<*>((Zdh PassesOwn.leaving rfl (Zat (Zhh C_turnings (Zfp (E':=E) (λ_ _ _ h=>h)) hr.m rfl ((pv 0)<&>Zaa))) (@Zdx _ _ _ _ _ 3 rfl (@Zak _ _ _ _ _ (@Zah _ _ 3 _ nd rfl (Or.inl rfl) (Or.inl rfl)) (@Zak _ _ _ _ _ (@Zah _ _ 4 _ nd rfl (Or.inl rfl) (Or.inl rfl)) (@Zak _ _ _ _ _ (@Zah _ _ 5 _ nd rfl (Or.inl rfl) (Or.inl rfl)) (@Zbj _) (by rfl)) (by rfl)) (by rfl)) (by rfl) (by rfl)) (Zap<*>(Zap<*>(Zap<*>(@Zaj _ _ _ Zap)))))<*>(~~~(pv 1))))),?_⟩;walk_at "wp";refine ⟨by decide,λp1 h1=>⟨by decide,λp2 h2=>?_⟩⟩;have s2:=(Same.new (o:=.lst []) h1).trans (Same.new (o:=.lst []) h2);exact ⟨_,rfl,x,p,m,ps,rfl,st.same s2,bad,λH1 s1=>q H1 (s2.trans s1)⟩
theorem Zn1 {f:Addr} {fd:FuncData} (F:Fun K "counts" "counts" Zh5 f fd) (T:Txt K mg C G S) (XT:Xt K mg base cc) (C_split_off:CalE P w K mg base "split_off" 7 (Ziy S C G cc.NoKind)):FnOk P w K mg base (CXe P w) 8 f fd ["standing"] (Ziy S C G cc.NoKind):=by
 have nd:=Zi1.nd;refine F.okE Zi1 (λvs H Q E h=>?_) (λcdv A outer s H vs Q E hr h=>?_)
 .refine Zhy h λx p m ps e912 _=>?_;clear h;obtain rfl:=e912;rfl
 .refine Zcu h λx p m ps e913 st bad q=>?_;clear h;obtain rfl:=e913;refine ⟨_,(~~~(Za0 Zeu rfl T.n_sorted boot_sorted ((Za2 (own:=["root","many"]) (fr:=[]) rfl (Zb5 (by kernel_rfl)) (Zat (Zhh C_split_off (Zfp (E':=E) (λ_ _ _ h=>h)) hr.m rfl ((pv 0)<&>Zaa))) (λ_ _ _ _=>⟨(@Zib _ K rfl _ _ _ _ 2 rfl (@Zak _ _ _ _ _ (@Zah _ _ 0 _ (show (["root","many"]:List Str).Nodup by decide +kernel) rfl (Or.inl rfl) (Or.inr rfl)) (@Zak _ _ _ _ _ (@Zah _ _ 1 _ (show (["root","many"]:List Str).Nodup by decide +kernel) rfl (Or.inl rfl) (Or.inr rfl)) (@Zbj _) (by rfl)) (by rfl)) (by rfl) (by rfl)),(Zep (Zai Zg5 (pv 1) Zac (Zan _))),(@Zax _ _ _ _ _ ((pv 0)<&>((pv 1)<&>Zaa)))⟩))<&>Zaa))),?_⟩;walk_at "wp";exact ⟨_,rfl,x,p,m,ps,rfl,st,bad,q⟩
def Zm3:Sp:=λvs H Q _=>∃ g:Addr,vs = [.ref g,.int 0,.int 0]/\∀ t H',Same H H'->Q (.ref t) H'
theorem ok_nou0 {f:Addr} {fd:FuncData} (F:Fun K "noughts" "noughts" Zgs f fd) (T:Txt K mg C G S):FnOk P w K mg base CX0 1 f fd ["ground","high","wide"] Zm3:=by
 have nd:=Zhk.nd;refine F.ok Zhk (λvs H Q E h=>?_) (λcdv A outer s H vs Q E hr h=>?_)
 .refine Zad h λg e914 _=>?_;clear h;obtain rfl:=e914;rfl
 .refine Zad h λg e915 q=>?_;clear h;obtain rfl:=e915;refine ⟨_,(~~~(@Zax _ _ _ _ _ ((pv 1)<&>((pv 2)<&>((Za2 (own:=["row"]) (fr:=[("ground",0),("wide",2)]) rfl (Zb5 (by kernel_rfl)) (Zj3 rfl T.n_range ((pv 1)<&>Zaa)) (λ_ _ _ _=>⟨(@Zah _ _ 0 _ (show (["row","ground","wide"]:List Str).Nodup by decide +kernel) rfl (Or.inl rfl) (Or.inr rfl)),Zbc,Zp1⟩))<&>Zaa))))),?_⟩;walk_at "wp";refine ⟨_,rfl,0,rfl,by decide,by decide,λD hD=>Zgd (λ_ vs H'=>Same H H'/\H' D = some (.lst vs)) ⟨Same.new hD,Zab⟩ (λi x vs σ' H' hi=>absurd hi (Nat.not_lt_zero i)) λvs H' k=>⟨by decide,λt ht=>q t _ (k.1.trans (Same.new ht))⟩⟩
theorem ok_put {f:Addr} {fd:FuncData} (F:Fun K "put_together" "put_together" Zcn f fd) (T:Txt K mg C G S) (XT:Xt K mg base cc) (C_turnings:CalE P w K mg base "turnings" 6 (Ziy S C G cc.NoKind)) (C_noughts:Cal P w K mg base "noughts" 1 Zm3):FnOk P w K mg base (CXe P w) 7 f fd ["standing"] (Ziy S C G cc.NoKind):=by
 have nd:=Zdl.nd;refine F.okE Zdl (λvs H Q E h=>?_) (λcdv A outer s H vs Q E hr h=>?_)
 .refine Zhy h λx p m ps e916 _=>?_;clear h;obtain rfl:=e916;rfl
 .refine Zcu h λx p m ps e917 st bad q=>?_;clear h;obtain rfl:=e917;refine Zct st.drw λdx g d z l hx dw ip e918=>?_;obtain ⟨m1,m8⟩:=e918;refine ⟨_,((Zas (i:=1) nd rfl (Or.inr rfl) (Zbb (pv 0) rfl))<*>((Zas (i:=2) nd rfl (Or.inl rfl) (@Zbd _ _ _ _ Zaa))<*>((Zj2 (i:=3) (own:=["point"]) (fr:=[("ground",1)]) rfl (Zb5 (by kernel_rfl)) (Zj3 rfl T.n_range ((Zbb (Zbb (pv 0) rfl) rfl)<&>Zaa)) (λ_ _ _ _=>⟨(@Zah _ _ 0 _ (show (["point","ground"]:List Str).Nodup by decide +kernel) rfl (Or.inl rfl) (Or.inr rfl)),Zbc,(Zby C_noughts hr.m rfl ((pv 1)<&>(Zac<&>(Zac<&>Zaa))))⟩) nd rfl rfl rfl)<*>((Zdh PassesOwn.leaving rfl (Zat (pe_subN (Zhh C_turnings (Zfp (E':=E) (λ_ _ _ h=>h)) hr.m rfl ((pv 0)<&>Zaa)))) (@Zdx _ _ _ _ _ 3 rfl (@Zak _ _ _ _ _ (@Zah _ _ 4 _ nd rfl (Or.inl rfl) (Or.inl rfl)) (@Zak _ _ _ _ _ (@Zah _ _ 5 _ nd rfl (Or.inr rfl) (Or.inl rfl)) (@Zak _ _ _ _ _ (@Zah _ _ 6 _ nd rfl (Or.inl rfl) (Or.inl rfl)) (@Zbj _) (by rfl)) (by rfl)) (by rfl)) (by rfl) (by rfl)) (Zap<*>(Zap<*>(Zap<*>(@Zaj _ _ _ Zap)))))<*>(~~~(@Zax _ _ _ _ _ ((pv 2)<&>((pv 3)<&>Zaa)))))))),?_⟩;refine Zcs λX hX=>?_;walk_at "wp";refine Zbo dw λlp xs e919 _=>?_;clear dw;obtain ⟨dd,hd,_⟩:=e919;refine Zbg S dx _ ⟨hx,T.cl_Standing,T.nSg,_,Zgi ..,?_⟩;subst hX;refine Zcs λX hX=>?_;walk_at "wp";refine ⟨by decide,λp1 h1=>?_⟩;have s1:=Same.new (o:=.lst []) h1;generalize upd H p1 (.lst []) = H1 at *;subst hX;refine Zcs λX hX=>?_;walk_at "wp";refine ⟨_,rfl,x,S,dx,_,_,rfl,s1 _ _ hx,T.cl_Standing,T.nSd,Zb9 ..,d,C,dd,_,_,rfl,s1 _ _ hd,T.cl_Drawing,T.nM,Ze9 m lp,m,rfl,by omega,by omega,λD hD=>Zgd (λi vs H2=>Same H1 H2/\H2 D = some (.lst vs)/\vs.length = i) ⟨Same.new hD,Zab,rfl⟩ ?_ ?_⟩
  .intro i y vs σ' H2 hi e91;obtain rfl:=e91;intro sh e92;refine Zav e92 λs2 hD2 hv=>?_;clear e92;obtain ⟨u,rfl⟩:=sh.one;simp only [Zdi,Zba,Zgf,List.set_cons_zero,Jcl];exact ⟨_,rfl,g,rfl,λt H3 s3=>leaf (ws:=vs ++ [.ref t]) hi Sh.mk1 (s3 _ _ hD2) (Zal (by omega)) ⟨(s2.trans s3).upd hD,Zab,by rw [Jam,hv]; rfl⟩⟩
  .intro vs H2 e93;obtain ⟨s2,_⟩:=e93;subst hX;have s12:=s1.trans s2;exact ⟨_,rfl,x,p,m,ps,rfl,st.same s12,bad,λH3 s3=>q H3 (s12.trans s3)⟩
theorem Zqn {f:Addr} {fd:FuncData} (F:Fun K "taken_apart" "taken_apart" Zc0 f fd) (T:Txt K mg C G S) (XT:Xt K mg base cc) (C_put_together:CalE P w K mg base "put_together" 7 (Ziy S C G cc.NoKind)):FnOk P w K mg base (CXe P w) 8 f fd ["standing"] (Ziy S C G cc.NoKind):=by
 have nd:=Zec.nd;refine F.okE Zec (λvs H Q E h=>?_) (λcdv A outer s H vs Q E hr h=>?_)
 .refine Zhy h λx p m ps e920 _=>?_;clear h;obtain rfl:=e920;rfl
 .refine Zcu h λx p m ps e921 st bad q=>?_;clear h;obtain rfl:=e921;refine ⟨_,((Zf5 (Zhh C_put_together (Zfp (E':=E) (λ_ _ _ h=>h)) hr.m rfl ((pv 0)<&>Zaa)) (@Zdx _ _ _ _ _ 2 rfl (@Zak _ _ _ _ _ (@Zah _ _ 1 _ nd rfl (Or.inl rfl) (Or.inl rfl)) (@Zak _ _ _ _ _ (@Zah _ _ 2 _ nd rfl (Or.inl rfl) (Or.inl rfl)) (@Zbj _) (by rfl)) (by rfl)) (by rfl) (by rfl)))<*>(Zap<*>(Zap<*>(Zap<*>(Zap<*>(Zap<*>(@Zaj _ _ _ Zap))))))),?_⟩;walk_at "wp";exact Ziq x p m ps ⟨rfl,st,bad,q⟩
def Zdj (S C G NS NK:Addr):Sp:=λvs H _ E=>∃ (x x':Addr) (p m p' m':Int) (ps qs:List (Int × Int)),vs = [.ref x,.ref x']/\AtS S C G H x p m ps/\AtS S C G H x' p' m' qs/\(¬ (p = p'/\m = m'/\ps = qs)->E (.ref NS) none H)/\(p = p'/\m = m'/\ps = qs->¬ Zjo m.toNat ps/\∀ H',Same H H'->E (.ref NK) none H')
theorem ok_pair {f:Addr} {fd:FuncData} (F:Fun K "check_pair" "check_pair" Zdt f fd) (T:Txt K mg C G S) (XT:Xt K mg base cc) (C_stands_on:Cal P w K mg base "stands_on" 1 (spOn S C G)) (C_is_good:Cal P w K mg base "is_good" 5 (Zkq C)):FnOk P w K mg base (CXe P w) 6 f fd ["one","other"] (Zdj S C G cc.NoStanding cc.NoKind):=by
 have nd:=Ze2.nd;refine F.okE Ze2 (λvs H Q E h=>?_) (λcdv A outer s H vs Q E hr h=>?_)
 .refine xE8_2 h λx x' p m p' m' ps qs e922 _=>?_;clear h;obtain rfl:=e922;rfl
 .refine xE8_4 h λx x' p m p' m' ps qs e923 st st' e924=>?_;clear h;obtain rfl:=e923;obtain ⟨q1,q2⟩:=e924;refine Zct st.drw λdx g d z l hx dw ip e925=>?_;obtain ⟨m1,m8⟩:=e925;refine Zmi st λdx g d z l lp xs a1 a2 a3 e926=>?_;clear st;obtain ⟨a4,_⟩:=e926;refine Zmi st' λdx' g' d' z' l' lp' xs' b1 b2 b3 e927=>?_;clear st';obtain ⟨b4,_⟩:=e927;rw [a1] at hx;cases hx;refine ⟨_,((@Za1 _ _ _ _ _ _ _ _ (Za6 (Za5 (Zby C_stands_on hr.m rfl ((pv 0)<&>((Zbb (pv 1) rfl)<&>((Zbb (pv 1) rfl)<&>Zaa)))))) (@Zaj _ _ _ (Znm XT.o_NoStanding rfl (Zcg<&>Zaa))) Zam)<*>(@Zaj _ _ _ (@Za1 _ _ _ _ _ _ _ _ (Za6 (Za5 (Zby C_is_good hr.m rfl ((Zbb (pv 0) rfl)<&>Zaa)))) (@Zaj _ _ _ (Znm XT.o_NoKind rfl (Zcg<&>Zaa))) Zam))),?_⟩;refine Zcs λX hX=>?_;walk_at "wp";refine Zbg S dx' _ ⟨b1,T.cl_Standing,T.nSg,_,Zgi ..,S,dx',_,b1,T.cl_Standing,T.nSd,_,Zb9 ..,x,dx,_,_,_,_,g',d',lp,lp',p,p',m,m',xs,xs',ps,qs,rfl,a1,a2,b2,a3,b3,a4,b4,?_⟩;by_cases e:(p = p'/\m = m'/\ps = qs)
  .refine ⟨true,by rw [Jad e],Zkb (by decide) ?_⟩;subst hX;walk_at "wp";exact Zbg S dx _ ⟨a1,T.cl_Standing,T.nSd,_,Zb9 ..,d,m.toNat,ps,rfl,by rw [Jca (by omega)]; exact dw,by rw [Jca (by omega)]; exact ip,by omega,by omega,λg=>absurd g (q2 e).1,λ_ H1 s1=>⟨false,rfl,Zpe rfl ⟨by decide,(q2 e).2 H1 s1⟩⟩⟩
  .exact ⟨false,by rw [Ja4 e],Zpe rfl ⟨by decide,q1 e⟩⟩
theorem ok_lead {f:Addr} {fd:FuncData} (F:Fun K "leading" "leading" Zgt f fd) (T:Txt K mg C G S) (XT:Xt K mg base cc) (C_check_pair:CalE P w K mg base "check_pair" 6 (Zdj S C G cc.NoStanding cc.NoKind)):FnOk P w K mg base (CXe P w) 7 f fd ["one","other"] (Zdj S C G cc.NoStanding cc.NoKind):=by
 have nd:=Zhl.nd;refine F.okE Zhl (λvs H Q E h=>?_) (λcdv A outer s H vs Q E hr h=>?_)
 .refine xE8_2 h λx x' p m p' m' ps qs e928 _=>?_;clear h;obtain rfl:=e928;rfl
 .obtain ⟨x,x',p,m,p',m',ps,qs,rfl,h⟩:=h;refine ⟨_,((Zbi (Zhh C_check_pair (Zfp (E':=E) (λ_ _ _ h=>h)) hr.m rfl ((pv 0)<&>((pv 1)<&>Zaa))))<*>(Zap<*>(Zap<*>(Zap<*>(@Zaj _ _ _ Zap))))),?_⟩;walk_at "wp";exact ⟨x,x',p,m,p',m',ps,qs,rfl,h⟩
theorem Zlw {f:Addr} {fd:FuncData} (F:Fun K "parting" "parting" Zgr f fd) (T:Txt K mg C G S) (XT:Xt K mg base cc) (C_check_pair:CalE P w K mg base "check_pair" 6 (Zdj S C G cc.NoStanding cc.NoKind)):FnOk P w K mg base (CXe P w) 7 f fd ["one","other"] (Zdj S C G cc.NoStanding cc.NoKind):=by
 have nd:=Zhj.nd;refine F.okE Zhj (λvs H Q E h=>?_) (λcdv A outer s H vs Q E hr h=>?_)
 .refine xE8_2 h λx x' p m p' m' ps qs e929 _=>?_;clear h;obtain rfl:=e929;rfl
 .obtain ⟨x,x',p,m,p',m',ps,qs,rfl,h⟩:=h;refine ⟨_,((Zbi (Zhh C_check_pair (Zfp (E':=E) (λ_ _ _ h=>h)) hr.m rfl ((pv 0)<&>((pv 1)<&>Zaa))))<*>(Zap<*>(Zap<*>(Zap<*>(@Zaj _ _ _ Zap))))),?_⟩;walk_at "wp";exact ⟨x,x',p,m,p',m',ps,qs,rfl,h⟩
theorem Zk9 {t:Value}:PySem.W.kitOne K t t = some true:=by unfold PySem.W.kitOne; rw [if_pos (by simp)]
def Zmz (NK NS:Addr):Sp:=λvs H Q _=>∃ a:Addr,vs = [.ref a]/\((H a = some (Zg7 a (.ref NK))/\∀ H',Same H H'->Q (.str "kind") H')\/(H a = some (Zg7 a (.ref NS))/\∀ H',Same H H'->Q (.str "standing") H'))
theorem ok_word {f:Addr} {fd:FuncData} (F:Fun K "_law_word" "_law_word" Zfh f fd) (T:Txt K mg C G S) (XT:Xt K mg base cc):FnOkH P w K mg base CX0 1 f fd ["_law_e"] (Zmz cc.NoKind cc.NoStanding):=by
 have nd:=Zgk.nd;refine F.okH Zgk (λvs H Q E h=>?_) (λcdv A outer s H vs Q E hr h=>?_)
 .refine Zad h λa e91 _=>?_;clear h;obtain rfl:=e91;rfl
 .obtain ⟨a,rfl,h⟩:=h;refine ⟨_,((Zas (i:=1) nd rfl (Or.inl rfl) Zcg)<*>((@Za1 _ _ _ _ _ _ _ _ (Za5 (Za0 (Zhb K rfl) rfl T.n_isinstance Jbf ((pv 0)<&>((Zbx (v:=.ref cc.NoKind) rfl XT.g_NoKind rfl)<&>Zaa)))) (@Zaj _ _ _ (Zas (i:=1) nd rfl (Or.inl rfl) (Zd3<|>(pv 1)<&&>Zcg))) Zam)<*>((@Za1 _ _ _ _ _ _ _ _ (Za5 (Za0 (Zhb K rfl) rfl T.n_isinstance Jbf ((pv 0)<&>((Zbx (v:=.ref cc.NoStanding) rfl XT.g_NoStanding rfl)<&>Zaa)))) (@Zaj _ _ _ (Zas (i:=1) nd rfl (Or.inl rfl) (Zd3<|>(pv 1)<&&>Zcg))) Zam)<*>((@Za1 _ _ _ _ _ _ _ _ (Za5 (Za0 (Zma K rfl) rfl T.n_isinstance Jbf ((pv 0)<&>((@Zax _ _ _ _ _ ((Zbx (v:=.ref cc.NoGround) rfl XT.g_NoGround rfl)<&>((Zbx (v:=.ref cc.NoNumber) rfl XT.g_NoNumber rfl)<&>((Zbx (v:=.ref cc.NoTable) rfl XT.g_NoTable rfl)<&>((Zbx (v:=.ref cc.NoDrawing) rfl XT.g_NoDrawing rfl)<&>((Zbx (v:=.ref cc.NoChange) rfl XT.g_NoChange rfl)<&>((Zbx (v:=.ref cc.NoMirror) rfl XT.g_NoMirror rfl)<&>((Zbx (v:=.ref cc.NoRoot) rfl XT.g_NoRoot rfl)<&>((Zbx (v:=.ref cc.NoText) rfl XT.g_NoText rfl)<&>((Zbx (v:=.ref cc.NoRow) rfl XT.g_NoRow rfl)<&>((Zbx (v:=.ref cc.NoName) rfl XT.g_NoName rfl)<&>Zaa)))))))))))<&>Zaa)))) (@Zaj _ _ _ (Zas (i:=1) nd rfl (Or.inl rfl) (Zd3<|>(pv 1)<&&>Zcg))) Zam)<*>((@Za1 _ _ _ _ _ _ _ _ (Za6 (Za5 (Za0 (Zhb K rfl) rfl T.n_isinstance Jbf ((pv 0)<&>((Zfo rfl T.n_ValueError Zhd)<&>Zaa))))) (@Zaj _ _ _ (Zas (i:=1) nd rfl (Or.inl rfl) (Zd3<|>(pv 1)<&&>Zcg))) Zam)<*>(~~~(pv 1))))))),?_⟩;refine Zcs λX hX=>?_;walk_at "wp";subst hX;refine Zcs λX hX=>?_;walk_at "wp";rcases h with ⟨ha,q⟩ | ⟨ha,q⟩
  .refine ⟨a,cc.NoKind,_,⟨rfl,rfl⟩,.ref cc.NoKind,rfl,ha,XT.z,XT.i,true,Zk9,iteT ⟨_,rfl,_,rfl,by decide,?_⟩⟩;subst hX;refine Zcs λX hX=>?_;walk_at "wp";refine ⟨a,cc.NoKind,_,⟨rfl,rfl⟩,.ref cc.NoStanding,rfl,ha,XT.z,XT.i,false,XT.q_NoStanding,Zl2 ?_⟩;subst hX;refine Zcs λX hX=>?_;walk_at "wp";refine ⟨by decide,λp1 hp1=>⟨a,cc.NoKind,p1,⟨rfl,rfl⟩,_,Zab,[.ref cc.NoGround,.ref cc.NoNumber,.ref cc.NoTable,.ref cc.NoDrawing,.ref cc.NoChange,.ref cc.NoMirror,.ref cc.NoRoot,.ref cc.NoText,.ref cc.NoRow,.ref cc.NoName],rfl,(Same.new hp1) _ _ ha,XT.z,XT.i,false,XT.t1,Zl2 ?_⟩⟩;have s1:=Same.new (o:=.tup [V.ref cc.NoGround,V.ref cc.NoNumber,V.ref cc.NoTable,V.ref cc.NoDrawing,V.ref cc.NoChange,V.ref cc.NoMirror,V.ref cc.NoRoot,V.ref cc.NoText,V.ref cc.NoRow,V.ref cc.NoName]) hp1;have h1:=s1 _ _ ha;generalize upd H p1 (.tup [V.ref cc.NoGround,V.ref cc.NoNumber,V.ref cc.NoTable,V.ref cc.NoDrawing,V.ref cc.NoChange,V.ref cc.NoMirror,V.ref cc.NoRoot,V.ref cc.NoText,V.ref cc.NoRow,V.ref cc.NoName]) = H1 at *;subst hX;walk_at "wp";exact Zbg a cc.NoKind _ ⟨⟨rfl,rfl⟩,.type "ValueError",rfl,h1,XT.z,XT.i,true,XT.v,Zl2 (q H1 s1)⟩
  .refine ⟨a,cc.NoStanding,_,⟨rfl,rfl⟩,.ref cc.NoKind,rfl,ha,XT.zz,XT.ii,false,XT.qq_NoKind,Zl2 ?_⟩;subst hX;refine Zcs λX hX=>?_;walk_at "wp";refine ⟨a,cc.NoStanding,_,⟨rfl,rfl⟩,.ref cc.NoStanding,rfl,ha,XT.zz,XT.ii,true,Zk9,iteT ⟨_,rfl,_,rfl,by decide,?_⟩⟩;subst hX;refine Zcs λX hX=>?_;walk_at "wp";refine ⟨by decide,λp1 hp1=>⟨a,cc.NoStanding,p1,⟨rfl,rfl⟩,_,Zab,[.ref cc.NoGround,.ref cc.NoNumber,.ref cc.NoTable,.ref cc.NoDrawing,.ref cc.NoChange,.ref cc.NoMirror,.ref cc.NoRoot,.ref cc.NoText,.ref cc.NoRow,.ref cc.NoName],rfl,(Same.new hp1) _ _ ha,XT.zz,XT.ii,false,XT.tt1,Zl2 ?_⟩⟩;have s1:=Same.new (o:=.tup [V.ref cc.NoGround,V.ref cc.NoNumber,V.ref cc.NoTable,V.ref cc.NoDrawing,V.ref cc.NoChange,V.ref cc.NoMirror,V.ref cc.NoRoot,V.ref cc.NoText,V.ref cc.NoRow,V.ref cc.NoName]) hp1;have h1:=s1 _ _ ha;generalize upd H p1 (.tup [V.ref cc.NoGround,V.ref cc.NoNumber,V.ref cc.NoTable,V.ref cc.NoDrawing,V.ref cc.NoChange,V.ref cc.NoMirror,V.ref cc.NoRoot,V.ref cc.NoText,V.ref cc.NoRow,V.ref cc.NoName]) = H1 at *;subst hX;walk_at "wp";exact Zbg a cc.NoStanding _ ⟨⟨rfl,rfl⟩,.type "ValueError",rfl,h1,XT.zz,XT.ii,true,XT.vv,Zl2 (q H1 s1)⟩
def spAns (S C G:Addr):Sp:=λvs H Q _=>∃ (x x':Addr) (way p m p' m':Int) (ps qs:List (Int × Int)),vs = [.int way,.ref x,.ref x']/\AtS S C G H x p m ps/\AtS S C G H x' p' m' qs /\
 ((p = p'/\m = m'/\ps = qs)/\¬ Zjo m.toNat ps/\(∀ H',Same H H'->Q (.str "kind") H')\/¬ (p = p'/\m = m'/\ps = qs)/\2<=way/\(∀ H',Same H H'->Q (.str "standing") H'))
theorem ok_ans {f:Addr} {fd:FuncData} (F:Fun K "_law_answer" "_law_answer" Zds f fd) (T:Txt K mg C G S) (XT:Xt K mg base cc) (C_taken_apart:CalE P w K mg base "taken_apart" 8 (Ziy S C G cc.NoKind)) (C_counts:CalE P w K mg base "counts" 8 (Ziy S C G cc.NoKind)) (C_leading:CalE P w K mg base "leading" 7 (Zdj S C G cc.NoStanding cc.NoKind)) (C_parting:CalE P w K mg base "parting" 7 (Zdj S C G cc.NoStanding cc.NoKind)) (C_law_word:CalH P w K mg base "_law_word" 1 (Zmz cc.NoKind cc.NoStanding)):FnOk P w K mg base CX0 10 f fd ["_law_way","_law_one","_law_other"] (spAns S C G):=by
 have nd:=Ze1.nd;refine F.ok Ze1 (λvs H Q E h=>?_) (λcdv A outer s H vs Q E hr h=>?_)
 .refine xE9_2 h λx x' way p m p' m' ps qs e92 _=>?_;clear h;obtain rfl:=e92;rfl
 .obtain ⟨x,x',way,p,m,p',m',ps,qs,rfl,st,st',h⟩:=h;have hbad:∃ bad:Prop,(bad/\(p = p'/\m = m'/\ps = qs)/\¬ Zjo m.toNat ps/\(∀ H',Same H H'->Q (.str "kind") H'))\/(¬ bad/\¬ (p = p'/\m = m'/\ps = qs)/\2<=way/\(∀ H',Same H H'->Q (.str "standing") H')):=h.elim (λh=>⟨True,.inl ⟨trivial,h⟩⟩) (λh=>⟨False,.inr ⟨id,h⟩⟩);obtain ⟨bad,h⟩:=hbad;refine ⟨_,((ps_try (E':=(λc _ H'=>Same H H'/\((c = .ref cc.NoKind/\bad)\/(c = .ref cc.NoStanding/\¬ bad)))) (i:=3) rfl rfl rfl (λpins xt hps=>(@Zaj _ _ _ (@Za1 _ _ _ _ _ _ _ _ (Zai Zeq (pv 0) Zac (Zan _)) (@Zaj _ _ _ (Zbi (Zhh C_taken_apart hps hr.m rfl ((pv 1)<&>Zaa)))) (@Zaj _ _ _ (@Za1 _ _ _ _ _ _ _ _ (Zai Zeq (pv 0) Zac (Zan _)) (@Zaj _ _ _ (Zbi (Zhh C_counts hps hr.m rfl ((pv 1)<&>Zaa)))) (@Zaj _ _ _ (@Za1 _ _ _ _ _ _ _ _ (Zai Zeq (pv 0) Zac (Zan _)) (@Zaj _ _ _ (Zbi (Zhh C_leading hps hr.m rfl ((pv 1)<&>((pv 2)<&>Zaa))))) (@Zaj _ _ _ (Zbi (Zhh C_parting hps hr.m rfl ((pv 1)<&>((pv 2)<&>Zaa)))))))))))) (λpins a=>(~~~(pe_cH C_law_word (hr.m.mark _) rfl ((pv 3)<&>Zaa)))) rfl XT.o_LimbError (by decide) (λc H' h=>h.2.elim (λz=>z.1 ▸ XT.u_NoKind) (λz=>z.1 ▸ XT.u_NoStanding)) nd rfl rfl)<*>(~~~Zcg)),?_⟩;refine ⟨?_,λcls H' a σ' hE ha hl=>?_⟩
  .walk_at "wp";have key:∀ Q',way < 2->Ziy S C G cc.NoKind [V.ref x] H Q' (λc _ H'=>Same H H'/\(c = .ref cc.NoKind/\bad\/c = .ref cc.NoStanding/\¬ bad)):=λQ' hw=>by
    rcases h with ⟨b,e,nb,_⟩ | ⟨_,_,w2,_⟩
    .exact Ziq x p m ps ⟨rfl,st,nb,λH' s'=>⟨s',.inl ⟨rfl,b⟩⟩⟩
    .omega
   have key2:∀ Q',Zdj S C G cc.NoStanding cc.NoKind [V.ref x,V.ref x'] H Q' (λc _ H'=>Same H H'/\(c = .ref cc.NoKind/\bad\/c = .ref cc.NoStanding/\¬ bad)):=λQ'=>by
    refine xI8_1 x x' p m p' m' ps qs ⟨rfl,st,st',λne=>⟨Same.refl _,.inr ⟨rfl,?_⟩⟩,λe=>?_⟩
    .rcases h with ⟨b,e,_⟩ | ⟨b,_⟩
     .exact absurd e ne
     .exact b
    .rcases h with ⟨b,_,nb,_⟩ | ⟨_,ne,_⟩
     .exact ⟨nb,λH' s'=>⟨s',.inl ⟨rfl,b⟩⟩⟩
     .exact absurd e ne
   exact Zcx (λc=>key _ (by have:=Jas c; omega)) (λ_=>Zcx (λc=>key _ (by have:=Jas c; omega)) (λ_=>Zcx (λ_=>key2 _) (λ_=>key2 _)))
  .obtain ⟨v0,v1,v2,v3,rfl⟩:∃ v0 v1 v2 v3:Option V,σ' = [v0,v1,v2,v3]:=by
    match σ',hl with
    | [v0,v1,v2,v3],_=>exact ⟨v0,v1,v2,v3,rfl⟩
   obtain ⟨sH,hE⟩:=hE;walk_at "wp";have s1:=sH.trans (Same.new (o:=Zg7 a cls) ha);rcases hE with ⟨rfl,b⟩ | ⟨rfl,b⟩
   .rcases h with ⟨_,_,_,q⟩ | ⟨b',_⟩
    .exact ⟨a,rfl,.inl ⟨Zab,λH2 s2=>q H2 (s1.trans s2)⟩⟩
    .exact absurd b b'
   .rcases h with ⟨b',_⟩ | ⟨_,_,_,q⟩
    .exact absurd b' b
    .exact ⟨a,rfl,.inr ⟨Zab,λH2 s2=>q H2 (s1.trans s2)⟩⟩
def Zjx (S C G:Addr):Sp:=λvs H Q _=>∃ (l e:Addr) (p m:Int) (xs:List V) (ps:List (Int × Int)),vs = [.ref l,.int p,.int m,.ref e]/\Bag H l/\GroundP p/\1<=m/\m<=8/\H e = some (.lst xs)/\Prs H xs ps/\InP m ps/\ps.length<=9/\e ≠ l /\
 ∀ (x:Addr) (H':Hp),Ext l H H'->Bag H' l->(∀ y o,H y = some o->AtB l y S C G H' x p m ps)->Q (.ref x) H'
theorem Zqf {f:Addr} {fd:FuncData} (F:Fun K "_law_made" "_law_made" Zfj f fd) (T:Txt K mg C G S) (C_law_standing:Cal P w K mg base "_law_standing" 5 spStL) (C_Standing:CalI P w K mg base "Standing" S 8 (spSI S C G)) (C_Ground:CalI P w K mg base "Ground" G 3 (Zjz G)) (C_Drawing:CalI P w K mg base "Drawing" C 4 (Zm4 C)):FnOk P w K mg base CX0 10 f fd ["_law_bag_here","_law_p","_law_many","_law_arrows"] (Zjx S C G):=by
 have nd:=Zgm.nd;refine F.ok Zgm (λvs H Q E h=>?_) (λcdv A outer s H vs Q E hr h=>?_)
 .refine xE6_2 h λl e p m xs ps e97 _=>?_;clear h;obtain rfl:=e97;rfl
 .refine Zpj h λl e p m xs ps e98 hb hp e99=>?_;clear h;obtain rfl:=e98;refine xE0_8 e99 λm0 m8 he pr ip p9 ne q=>?_;clear e99;have xl:=pr.1;refine ⟨_,((Zf5 (Zby C_law_standing hr.m rfl ((pv 0)<&>((pv 1)<&>((pv 2)<&>((pv 3)<&>(Zac<&>Zaa)))))) (@Zdx _ _ _ _ _ 2 rfl (@Zak _ _ _ _ _ (@Zah _ _ 4 _ nd rfl (Or.inl rfl) (Or.inl rfl)) (@Zak _ _ _ _ _ (@Zah _ _ 5 _ nd rfl (Or.inl rfl) (Or.inl rfl)) (@Zbj _) (by rfl)) (by rfl)) (by rfl) (by rfl)))<*>(~~~(pe_n C_Standing hr.m rfl ((pe_n C_Ground hr.m rfl ((pv 1)<&>Zaa))<&>((pe_n C_Drawing hr.m rfl ((pv 2)<&>((Zg3 Zck rfl T.n_list Jc0 ((pv 3)<&>Zaa))<&>Zaa)))<&>((pv 4)<&>((pv 5)<&>Zaa))))))),?_⟩;refine Zcs λX hX=>?_;walk_at "wp";refine xI7_1 l e p m 1 xs ps ⟨rfl,hb,hp,he,pr,ip,p9,by omega,m8,ne,by decide,by decide,λt z tl ns ts cs H1 e1 b1 ht fz ftl hz hm hn hT sm ft=>⟨t,rfl,_,SqT.of ht,rfl,_,_,rfl,_,_,rfl,rfl,?_⟩⟩;subst hX;have he1:=e1 _ _ ne he;have pr1:=pr.bag hb e1;walk_at "wp";intro g dg hg hdg ndg;have fg:(upd H1 dg (.own g)) g = none:=by rw [Zaf ndg.symm]; exact hg
  have sg:Same H1 (upd (upd H1 dg (.own g)) g (.ins G dg [])):=(Same.new hdg).trans (Same.new fg);refine Zbg g dg p ⟨rfl,Zab,hp,λH2 ex2 hg2=>⟨rfl,?_⟩⟩;have s2:Same H1 H2:=Same.thru sg hg ex2;refine ⟨_,.inl (SqL.of (s2 _ _ he1)),λe3 hle3 d dd hd hdd ndd=>?_⟩;have s3:=Same.new (o:=.lst xs) hle3;have q3:(upd H2 e3 (.lst xs)) e3 = some (.lst xs):=Zab;generalize upd H2 e3 (.lst xs) = H3 at *;have fd0:(upd H3 dd (.own d)) d = none:=by rw [Zaf ndd.symm]; exact hd
  have sd:Same H3 (upd (upd H3 dd (.own d)) d (.ins C dd [])):=(Same.new hdd).trans (Same.new fd0);have t3:=s2.trans s3;refine Zip d dd m e3 xs ⟨rfl,Zab,m0,m8,sd _ _ q3,by omega,(Zq3 (pr1.same t3) ip).same sd,λlp H4 ex4 hd4 flp hlp=>⟨rfl,λx dx hx hdx ndx=>?_⟩⟩;have s4:Same H3 H4:=Same.thru sd hd ex4;have t4:=t3.trans s4;have f1:H1 lp = none:=(t3.trans sd).free flp;refine std_of (H0:=H1) hx hdx ndx ⟨dg,(s3.trans s4) _ _ hg2⟩ hp ⟨dd,hd4,hlp⟩ (pr1.same t4) ip p9 (hz.same t4) hm (hT.same t4) ft t4 f1 λdy z' l' ts' H5 s5 st=>⟨rfl,?_⟩
  have t5:=t4.trans s5;exact q x H5 (e1.trans t5.ext) (b1.same t5) λy o hy=>⟨_,_,_,_,_,_,_,st.ins,st.grd,st.drw,st.prs,ip,p9,m0,m8,b1.ne f1,λz=>by subst z; by_cases n:lp = l; (exact absurd n (b1.ne f1)); (rw [e1 _ _ n hy] at f1; cases f1)⟩
def Zps (K:PySem.W.Frag):Sp:=λvs H Q _=>∃ (a:Addr) (ns:List Int),vs = [.ref a]/\SqL K H a (ns.map V.int)/\ns.length<=63/\∀ H',Q (.bl true) H'
theorem ok_law {f:Addr} {fd:FuncData} (F:Fun K "law" "law" Zh3 f fd) (T:Txt K mg C G S) (C_law_cell:Cal P w K mg base "_law_cell" 1 (Zm5 K)) (C_law_bag:Cal P w K mg base "_law_bag" 1 spBag) (C_law_ground:Cal P w K mg base "_law_ground" 2 spGr) (C_law_ringed:Cal P w K mg base "_law_ringed" 3 Zm2) (C_law_made:Cal P w K mg base "_law_made" 10 (Zjx S C G)) (C_law_answer:Cal P w K mg base "_law_answer" 10 (spAns S C G)):FnOk P w K mg base CX0 12 f fd ["_law_script"] (Zps K):=by
 have nd:=Zrh.nd;refine F.ok Zrh (λvs H Q E h=>?_) (λcdv A outer s H vs Q E hr h=>?_)
 .refine Zbo h λa ns e910 _=>?_;clear h;obtain rfl:=e910;rfl
 .refine Zhz h λa ns e911 hS hl q=>?_;clear h;obtain rfl:=e911;refine ⟨_,((Zas (i:=1) nd rfl (Or.inl rfl) (Zby C_law_bag hr.m rfl ((Zby C_law_cell hr.m rfl ((pv 0)<&>(Zac<&>Zaa)))<&>Zaa)))<*>((Zas (i:=2) nd rfl (Or.inl rfl) (Zby C_law_ground hr.m rfl ((pv 1)<&>Zaa)))<*>((Zf5 (Zby C_law_ringed hr.m rfl ((pv 1)<&>Zaa)) (@Zdx _ _ _ _ _ 2 rfl (@Zak _ _ _ _ _ (@Zah _ _ 3 _ nd rfl (Or.inl rfl) (Or.inl rfl)) (@Zak _ _ _ _ _ (@Zah _ _ 4 _ nd rfl (Or.inl rfl) (Or.inl rfl)) (@Zbj _) (by rfl)) (by rfl)) (by rfl) (by rfl)))<*>((Zas (i:=1) nd rfl (Or.inl rfl) (Zby C_law_bag hr.m rfl ((Zby C_law_cell hr.m rfl ((pv 0)<&>(Zac<&>Zaa)))<&>Zaa)))<*>((Zas (i:=5) nd rfl (Or.inl rfl) (Zby C_law_made hr.m rfl ((pv 1)<&>((pv 2)<&>((pv 3)<&>((pv 4)<&>Zaa))))))<*>((Zas (i:=6) nd rfl (Or.inl rfl) (Zby C_law_made hr.m rfl ((pv 1)<&>((pv 2)<&>((pv 3)<&>((pv 4)<&>Zaa))))))<*>((Zdh Jbt rfl (Zj3 rfl T.n_range (Zac<&>Zaa)) (@Zah _ _ 7 _ nd rfl (Or.inl rfl) (Or.inl rfl)) (@Zaj _ _ _ (@Za1 _ _ _ _ _ _ _ _ (Zai Zd9 (Zby C_law_answer hr.m rfl ((pv 7)<&>((pv 5)<&>((pv 6)<&>Zaa)))) Zcg (Zan _)) (~~~Zd8) Zam)))<*>((Zas (i:=8) nd rfl (Or.inl rfl) (@Zbd _ _ _ _ ((Zby C_law_made hr.m rfl ((pv 1)<&>((Za3<|>(@Zbd _ _ _ _ (Zac<&>(Zac<&>Zaa)))<||>(Zg3 Zhc rfl T.n_int boot_int ((Zb4 Zeq (pv 2) Zac (Zan _))<&>Zaa)))<&>((pv 3)<&>((pv 4)<&>Zaa)))))<&>((Zby C_law_made hr.m rfl ((pv 1)<&>((pv 2)<&>((pv 3)<&>((@Ze5 _ _ _ _ _ _ _ _ _ _ Zgg (pv 4) (@Zg0 _ _ _ Zac) Zg1)<&>Zaa)))))<&>Zaa))))<*>((Zbi (Zg4 Ja1 Jbj Jbk Zbf (pv 8) ((Zby C_law_made hr.m rfl ((pv 1)<&>((pv 2)<&>((Zk1<|>(pv 3)<&&>Zac)<&>((pv 4)<&>Zaa)))))<&>Zaa)))<*>((Zbi (Zg4 Ja1 Jbj Jbk Zbf (pv 8) ((Zby C_law_made hr.m rfl ((pv 1)<&>((pv 2)<&>((pv 3)<&>((op_cat<|>(Za2 (own:=["_law_arrow"]) (fr:=[]) rfl (Zb5 (by kernel_rfl)) (Zat (@Ze5 _ _ _ _ _ _ _ _ _ _ Zgg (pv 4) Zg1 (@Zg0 _ _ _ Zac))) (λ_ _ _ _=>⟨(@Zah _ _ 0 _ (show (["_law_arrow"]:List Str).Nodup by decide +kernel) rfl (Or.inl rfl) (Or.inr rfl)),Zbc,(@Zax _ _ _ _ _ (((Zka K rfl)<|>(pv 0)<||>Zac)<&>(((Zka K rfl)<|>(pv 0)<||>Zac)<&>Zaa)))⟩))<&&>(@Ze5 _ _ _ _ _ _ _ _ _ _ Zgg (pv 4) (@Zg0 _ _ _ Zac) Zg1))<&>Zaa)))))<&>Zaa)))<*>((@Za1 _ _ _ _ _ _ _ _ (Zai Zeq (Zjc<|>(Za3<|>(pv 4)<||>Zac)<||>Zac) (Zjc<|>(Za3<|>(pv 4)<||>Zac)<||>Zac) (Zan _)) (@Zaj _ _ _ (Zbi (Zrp Ja1 PySem.F.slot_list_pop PySem.F.type_list_pop mt_pop (pv 8)))) Zam)<*>((Zdh Jbt rfl (Zat (pv 8)) (@Zah _ _ 9 _ nd rfl (Or.inl rfl) (Or.inl rfl)) (@Zaj _ _ _ (Zdh Jbt rfl (Zat (@Zbd _ _ _ _ (Zac<&>(Zac<&>Zaa)))) (@Zah _ _ 7 _ nd rfl (Or.inl rfl) (Or.inl rfl)) (@Zaj _ _ _ (@Za1 _ _ _ _ _ _ _ _ (PW.pt (Zc7 (Zai Zd9 (Zby C_law_answer hr.m rfl ((pv 7)<&>((pv 5)<&>((pv 9)<&>Zaa)))) Zcg (Zan _)) (Zb8 (Zai Zd9 (Zby C_law_answer hr.m rfl ((pv 7)<&>((pv 9)<&>((pv 5)<&>Zaa)))) Zcg (Zan _))))) (~~~Zd8) Zam)))))<*>(~~~Zd8))))))))))))),?_⟩;refine Zcs λX hX=>?_;walk_at "wp";refine Zbg a ns 0 ⟨rfl,hS,hl,by decide,λc=>⟨c,rfl,λl xa xb hl0 xb0 xb1=>?_⟩⟩;have b1:Bag (upd H l (Zpc xa xb)) l:=Bag.set xb0 xb1;have s1:Same H (upd H l (Zpc xa xb)):=Same.new hl0;generalize upd H l (Zpc xa xb) = H1 at *;subst hX;refine Zcs λX hX=>?_;walk_at "wp";refine ⟨l,rfl,b1,λp H2 e2 b2 hpp=>?_⟩;have s2:Same H H2:=Same.thru s1 hl0 e2;have hp:GroundP p:=by rcases hpp with rfl | rfl | rfl | rfl | rfl <;> exact Zig (by decide)
  subst hX;refine Zcs λX hX=>?_;walk_at "wp";refine ⟨l,rfl,b2,λt e xs ps H3 e3 b3 ht fe he pr rg=>⟨t,rfl,_,SqT.of ht,rfl,_,_,rfl,_,_,rfl,rfl,?_⟩⟩;have s3:Same H H3:=Same.thru s2 hl0 e3;clear ht b3 e3 fe b2 e2 s2 s1 b1 hl0;refine Zav rg.inp λip r1 r5=>?_;have bad:=rg.bad;subst hX;refine Zcs λX hX=>?_;walk_at "wp";refine Zbg a ns 1 ⟨rfl,s3.seq hS,hl,by decide,λc=>⟨c,rfl,λl xa xb hl0 xb0 xb1=>?_⟩⟩;have b4:Bag (upd H3 l (Zpc xa xb)) l:=Bag.set xb0 xb1;have s4:Same H3 (upd H3 l (Zpc xa xb)):=Same.new hl0;have nel:e ≠ l:=Zag he hl0;generalize upd H3 l (Zpc xa xb) = H4 at *;have he4:=s4 _ _ he;have pr4:=pr.same s4;subst hX;refine Zcs λX hX=>?_;walk_at "wp";refine Zmh l e p 5 xs ps ⟨rfl,b4,hp,by decide,by decide,he4,pr4,ip,by omega,nel,λx H5 e5 b5 st=>?_⟩;subst hX;refine Zcs λX hX=>?_;walk_at "wp";refine Zmh l e p 5 xs ps ⟨rfl,b5,hp,by decide,by decide,e5 _ _ nel he4,pr4.bag b4 e5,ip,by omega,nel,λx' H6 e6 b6 st'=>?_⟩;have st6:=(st _ _ (b4.lst).choose_spec).bag b5 e6;have st':=st' _ _ (b5.lst).choose_spec;have e46:=e5.trans e6;subst hX;refine Zcs λX hX=>?_;refine cutF λY hY=>?_;refine ⟨4,rfl,by decide,by decide,Ze8 (λi σ H7=>∃ v7:Option V,σ = [some (.ref a),some (.ref l),some (.int p),some (.int 5),some (.ref e),some (.ref x),some (.ref x'),v7,none,none]/\Same H6 H7) ⟨none,rfl,Same.refl _⟩ ?_ ?_⟩
  .intro i σ H7 hi e91;refine Zad e91 λv7 e912 s7=>?_;clear e91;obtain rfl:=e912;subst hY;walk_at "wp";refine xI9_1 x x' (0 + i) p 5 p 5 ps ps ⟨rfl,(st6.same s7).at_,(st'.same s7).at_,.inl ⟨⟨rfl,rfl,rfl⟩,bad,λH8 s8=>?_⟩⟩;exact ⟨rfl,Zkb (by decide) (s7.trans s8)⟩
  .intro σ H7 e92;refine Zad e92 λv7 e913 s7=>?_;clear e92;obtain rfl:=e913;have b7:=b6.same s7;have st7:=st6.same s7;have e47:=e46.trans s7.ext;have he7:=e47 _ _ nel he4;have pr7:=pr4.bag b4 e47;subst hX;dsimp only;refine Zcs λX hX=>?_;walk_at "wp";clear hY nd;refine ⟨by decide,λp1 hp1=>?_⟩;have s8:=Same.new (o:=.lst [V.int 2,V.int 3]) hp1;have b8:=b7.same s8;have q8:(upd H7 p1 (.lst [V.int 2,V.int 3])) p1 = some (.lst [V.int 2,V.int 3]):=Zab;generalize upd H7 p1 (.lst [V.int 2,V.int 3]) = H8 at *;obtain ⟨p',hat,hp',np⟩:∃ p':Int,atI [V.int 2,V.int 3] (if decide (p = 2) = true then 1 else 0) = some (.int p')/\GroundP p'/\p ≠ p':=by
    by_cases h:p = 2
    .rw [if_pos (Jad h)]; exact ⟨3,rfl,Zig (by decide),by omega⟩
    .rw [if_neg (λz=>h (Jas z))]; exact ⟨2,rfl,Zig (by decide),h⟩
   refine ⟨_,SqL.of q8,_,hat,l,e,p',5,xs,ps,rfl,b8,hp',by decide,by decide,s8 _ _ he7,pr7.same s8,ip,by omega,nel,λf1 H9 e9 b9 g1=>?_⟩;have e79:=s8.ext.trans e9;have he9:=e79 _ _ nel he7;have pr9:=pr7.bag b7 e79;have st9:=st7.bag b7 e79;refine ⟨_,SqL.of he9,λc2 hc2=>?_⟩;rw [Zle];have n2:=b9.ne hc2;have s10:=Same.new (o:=.lst (xs.drop 1)) hc2;have q10:(upd H9 c2 (.lst (xs.drop 1))) c2 = some (.lst (xs.drop 1)):=Zab;generalize upd H9 c2 (.lst (xs.drop 1)) = H10 at *;have b10:=b9.same s10;have xl:=pr.1;have ip1:InP 5 (ps.drop 1):=λr hr=>ip r (List.mem_of_mem_drop hr);refine Zmh l c2 p 5 (xs.drop 1) (ps.drop 1) ⟨rfl,b10,hp,by decide,by decide,q10,(pr9.drop 1).same s10,ip1,by rw [Jco]; omega,n2,λf2 H11 e11 b11 g2=>⟨by decide,λol hol=>?_⟩⟩;have g1:=((g1 _ _ (b8.lst).choose_spec).same s10).bag b10 e11;have g2:=g2 _ _ (b10.lst).choose_spec;have st11:=(st9.same s10).bag b10 e11;have e911:=s10.ext.trans e11;have he11:=e911 _ _ nel he9;have pr11:=pr9.bag b9 e911;have nol:ol ≠ l:=b11.ne hol;have s12:=Same.new (o:=.lst [V.ref f1,V.ref f2]) hol;have q12:(upd H11 ol (.lst [V.ref f1,V.ref f2])) ol = some (.lst [V.ref f1,V.ref f2]):=Zab;generalize upd H11 ol (.lst [V.ref f1,V.ref f2]) = H12 at *;have b12:=b11.same s12;have nd1:¬ (p = p/\(5:Int) = 5/\ps = ps.drop 1):=λz=>by have:=Jc1 List.length z.2.2; rw [Jco] at this; omega
   have F12:FarL l ol S C G H12 p 5 ps [f1,f2]:=(FarL.nil.cons ((g1.up hol).same s12) (λz=>np z.1)).cons ((g2.up hol).same s12) nd1;have st12:=(st11.up hol).same s12;have he12:=s12 _ _ he11;have pr12:=pr11.same s12;have neol:e ≠ ol:=Zag he11 hol;clear e9 b9 e79 he9 pr9 st9 hc2 n2 s10 q10 b10 e11 b11 st11 e911 he11 pr11 s12 hol s8 b8 q8 hp1 hat b7 st7 e47 he7 pr7 s7;subst hX;refine Zcs λX hX=>?_;walk_at "wp";have ip6:InP (5 + 1) ps:=λr hr=>by obtain ⟨a1,a2,a3,a4⟩:=ip r hr; exact ⟨a1,by omega,a3,by omega⟩
   refine ⟨.inl ⟨rfl,_,SqL.of q12⟩,l,e,p,5 + 1,xs,ps,rfl,b12,hp,by decide,by decide,he12,pr12,ip6,by omega,nel,λf3 H13 e13 b13 g3=>⟨_,e13 _ _ nol q12,by show 2 < sizeLine; decide,?_⟩⟩;have q13:=e13 _ _ nol q12;have F13:FarL l ol S C G (upd H13 ol (.lst ([V.ref f1,V.ref f2] ++ [V.ref f3]))) p 5 ps [f1,f2,f3]:=((F12.mono λh=>h.bag b12 e13).cons (g3 _ _ q12) (λz=>by omega)).mono λh=>h.put q13;have st13:=(st12.bag b12 e13).put (o:=.lst ([V.ref f1,V.ref f2] ++ [V.ref f3])) q13;have b13:=b13.new (o:=.lst ([V.ref f1,V.ref f2] ++ [V.ref f3])) nol;have he13:(upd H13 ol (.lst ([V.ref f1,V.ref f2] ++ [V.ref f3]))) e = some (.lst xs):=by rw [Zaf neol]; exact e13 _ _ nel he12
   have pr13:=(pr12.bag b12 e13).put (o:=.lst ([V.ref f1,V.ref f2] ++ [V.ref f3])) q13;have q13:(upd H13 ol (.lst ([V.ref f1,V.ref f2] ++ [V.ref f3]))) ol = some (.lst [V.ref f1,V.ref f2,V.ref f3]):=Zab;clear F12 st12 he12 pr12 q12 e13 b12 g3 g1 g2;generalize upd H13 ol (.lst ([V.ref f1,V.ref f2] ++ [V.ref f3])) = H14 at *;subst hX;refine Zcs λX hX=>?_;walk_at "wp";refine ⟨.inl ⟨rfl,_,SqL.of q13⟩,_,rfl,1,rfl,e,xs,rfl,SqL.of he13,λc1 hc1=>?_⟩;rw [Zq5];have s15:=Same.new (o:=.lst (xs.take 1)) hc1;refine ⟨c1,rfl,⟨_,SqL.of Zab⟩,λD hD0=>?_⟩;have q15:(upd H14 c1 (.lst (xs.take 1))) c1 = some (.lst (xs.take 1)):=Zab;generalize upd H14 c1 (.lst (xs.take 1)) = H15 at *;refine comp_tp (λq=>(q.2,q.1)) q15 ((pr13.same s15).take 1) hD0 (by rw [Jbd]; omega) (λi y qq H' Q' hy hq s' q'=>?_) λzs H16 s16 hD16 pr16=>?_
   .refine Zad ((((pr13.same s15).take 1).same s').2 i y qq hy hq) λta e914 hta=>?_;obtain rfl:=e914;walk_at "wp";exact ⟨_,SqT.of hta,_,rfl,_,SqT.of hta,_,rfl,by decide,λt ht=>q' t _ (Same.new ht) Zab⟩
   refine ⟨_,SqL.of (s16 _ _ (s15 _ _ he13)),λc2 hc2=>?_⟩;rw [Zle];have s17:=Same.new (o:=.lst (xs.drop 1)) hc2;have q17:(upd H16 c2 (.lst (xs.drop 1))) c2 = some (.lst (xs.drop 1)):=Zab;generalize upd H16 c2 (.lst (xs.drop 1)) = H17 at *;have xl:=pr.1;have hzl:zs.length<=1:=by rw [pr16.1,Jab,Jbd]; omega
   refine ⟨D,rfl,zs,s17 _ _ hD16,_,q17,Jcd (Zal (by rw [Jco]; omega)),λtu htu=>?_⟩;have s18:=Same.new (o:=.lst (zs ++ xs.drop 1)) htu;have q18:(upd H17 tu (.lst (zs ++ xs.drop 1))) tu = some (.lst (zs ++ xs.drop 1)):=Zab;have ntu:tu ≠ l:=((b13.same s15).same s16).same s17 |>.ne htu;generalize upd H17 tu (.lst (zs ++ xs.drop 1)) = H18 at *;have t78:=s17.trans s18;have t48:=(s15.trans s16).trans t78;have pr18:=(pr16.same t78).append ((pr13.same t48).drop 1);refine xE2_1 rg.first λq0 rest e915=>?_;obtain rfl:=e915;have pr18:Prs H18 (zs ++ xs.drop 1) ((q0.2,q0.1) :: rest):=pr18;have ipt:InP 5 ((q0.2,q0.1) :: rest):=λr hr=>by
    rcases Jaq.mp hr with rfl | hr
    .obtain ⟨a1,a2,a3,a4⟩:=ip q0 (by simp); exact ⟨a3,a4,a1,a2⟩
    .exact ip r (by simp [hr])
   have b18:=b13.same t48;have q14:=t48 _ _ q13;refine Zmh l tu p 5 _ _ ⟨rfl,b18,hp,by decide,by decide,q18,pr18,ipt,Ja3 r5 (by decide),ntu,λf4 H19 e19 b19 g4=>⟨_,e19 _ _ nol q14,by show 3 < sizeLine; decide,?_⟩⟩;have q19:=e19 _ _ nol q14;have F19:FarL l ol S C G (upd H19 ol (.lst ([V.ref f1,V.ref f2,V.ref f3] ++ [V.ref f4]))) p 5 (q0 :: rest) [f1,f2,f3]:=((F13.mono λh=>h.same t48).mono λh=>h.bag b18 e19).mono λh=>h.put q19;have G19:=(g4 _ _ q14).put (o:=.lst ([V.ref f1,V.ref f2,V.ref f3] ++ [V.ref f4])) q19;have st19:=((st13.same t48).bag b18 e19).put (o:=.lst ([V.ref f1,V.ref f2,V.ref f3] ++ [V.ref f4])) q19;have b19:=b19.new (o:=.lst ([V.ref f1,V.ref f2,V.ref f3] ++ [V.ref f4])) nol;have he19:(upd H19 ol (.lst ([V.ref f1,V.ref f2,V.ref f3] ++ [V.ref f4]))) e = some (.lst xs):=by rw [Zaf neol]; exact e19 _ _ nel (t48 _ _ he13)
   have pr19:=((pr13.same t48).bag b18 e19).put (o:=.lst ([V.ref f1,V.ref f2,V.ref f3] ++ [V.ref f4])) q19;have q20:(upd H19 ol (.lst ([V.ref f1,V.ref f2,V.ref f3] ++ [V.ref f4]))) ol = some (.lst [V.ref f1,V.ref f2,V.ref f3,V.ref f4]):=Zab;clear F13 st13 he13 pr13 q13 b13 g4 s15 q15 s16 pr16 hD16 s17 q17 s18 q18 t78 t48 pr18 b18 q14 e19 q19;generalize upd H19 ol (.lst ([V.ref f1,V.ref f2,V.ref f3] ++ [V.ref f4])) = H20 at *;subst hX;refine Zcs λX hX=>?_;have fin:∀ (as:List Addr) (H21:Hp),FarL l ol S C G H21 p 5 (q0 :: rest) as->AtB l ol S C G H21 x p 5 (q0 :: rest)->H21 ol = some (.lst (as.map V.ref))->as.length<=4->X { nx:=λx H'=>Q V.non H',rt:=Q } [some (.ref a),some (.ref l),some (.int p),some (.int 5),some (.ref e),some (.ref x),some (.ref x'),v7,some (.ref ol),none] H21:=by
    intro as H21 F21 st21 q21 al;subst hX;walk_at "wp";refine cutF λY hY=>?_;refine ⟨_,rfl,ol,rfl,⟨_,SqL.of q21⟩,Zd4 (xs:=as.map V.ref) (λi σ H22=>∃ v7 v9:Option V,σ = [some (.ref a),some (.ref l),some (.int p),some (.int 5),some (.ref e),some (.ref x),some (.ref x'),v7,some (.ref ol),v9]/\Same H21 H22) ⟨_,_,rfl,Same.refl _⟩ (λi σ H22 _ ⟨_,_,_,s⟩=>SqL.of (s _ _ q21)) ?_ ?_⟩
    .intro i y σ H22 hi e93;refine Zbo e93 λv7 v9 e916 s22=>?_;clear e93;obtain rfl:=e916;rw [Jbc] at hi;cases hf:as[i]? with
     | none=>rw [hf] at hi; cases hi
     | some fa=>
      rw [hf] at hi;cases hi;refine Zd6 (F21 fa (Jag hf)) λp2 m2 qs far nf=>?_;subst hY;walk_at "wp";refine ⟨by decide,λwl hwl=>?_⟩;have s23:=Same.new (o:=.lst [V.int 2,V.int 3]) hwl;have q23:(upd H22 wl (.lst [V.int 2,V.int 3])) wl = some (.lst [V.int 2,V.int 3]):=Zab;generalize upd H22 wl (.lst [V.int 2,V.int 3]) = H23 at *;refine ⟨wl,rfl,⟨_,SqL.of q23⟩,Zd4 (xs:=[V.int 2,V.int 3]) (λi σ H24=>∃ v7:Option V,σ = [some (.ref a),some (.ref l),some (.int p),some (.int 5),some (.ref e),some (.ref x),some (.ref x'),v7,some (.ref ol),some (.ref fa)]/\Same H23 H24) ⟨_,rfl,Same.refl _⟩ (λi σ H24 _ ⟨_,_,s⟩=>SqL.of (s _ _ q23)) ?_ ?_⟩
      .intro j y σ H24 hj e94;refine Zad e94 λv7 e917 s24=>?_;clear e94;obtain rfl:=e917;obtain ⟨wy,rfl,w2⟩:∃ wy:Int,y = .int wy/\2<=wy:=by
        match j,hj with
        | 0,hj=>cases hj; exact ⟨2,rfl,by decide⟩
        | 1,hj=>cases hj; exact ⟨3,rfl,by decide⟩
        | j + 2,hj=>cases hj
       have s14:=(s22.trans s23).trans s24;walk_at "wp";refine xI9_1 x fa wy p 5 p2 m2 _ qs ⟨rfl,(st21.same s14).at_,(far.same s14).at_,.inr ⟨nf,w2,λH25 s25=>?_⟩⟩;refine ⟨rfl,Zkb (by decide) ⟨fa,x,wy,p2,m2,p,5,qs,_,rfl,((far.same s14).same s25).at_,((st21.same s14).same s25).at_,.inr ⟨λz=>nf ⟨z.1.symm,z.2.1.symm,z.2.2.symm⟩,w2,λH26 s26=>⟨rfl,Zkb (by decide) ((s24.trans s25).trans s26)⟩⟩⟩⟩
      .intro σ H24 e95;refine Zad e95 λv7 e918 s24=>?_;clear e95;obtain rfl:=e918;exact Zaz _ _ ⟨rfl,(s22.trans s23).trans s24⟩
    .intro σ H22 e96;refine Zbo e96 λv7 v9 e919 s22=>?_;clear e96;obtain rfl:=e919;exact q H22
   walk_at "wp";clear hX;have x0:xs[0]? = some (xs[0]'(by have:=pr19.1; rw [this]; simp)):=Jaa _;refine Zad (pr19.2 0 _ q0 x0 rfl) λta e0 hta=>?_;have a0:atI xs 0 = some (.ref ta):=Zhe (by decide) (by rw [<- e0]; exact x0);refine ⟨_,SqL.of he19,_,a0,ta,rfl,_,SqT.of hta,_,rfl,_,SqL.of he19,_,a0,ta,rfl,_,SqT.of hta,_,rfl,rfl,Zcx (λhc=>?_) (λhc=>?_)⟩
   .refine ⟨.inl ⟨rfl,_,SqL.of q20⟩,_,q20,_,rfl,?_⟩;exact fin [f1,f2,f3] _ (F19.mono λh=>h.put q20) (st19.put q20) Zab (by show 3<=4; decide)
   .exact fin [f1,f2,f3,f4] _ (F19.cons G19 (λz=>hc (by have:=(List.cons.inj z.2.2).1; have:=Jc1 Prod.fst this; exact Jad (by rw [show q0.1 = q0.2 from this])))) st19 q20 (by show 4<=4; decide)
end
end Pf
set_option maxHeartbeats 4000000
namespace Pf
open PySem L2 PyProof.Rows
open PySem.W (nsIn codeIn keepIn fnOf findIn isFn mg_of mg_none_of plainGet hasDictIn plainOver makesIn)
theorem ex1 {us:List Value} (hl:us.length = 1):∃ a0,us = [a0]:=match us,hl with | [a0],_=>⟨a0,rfl⟩
theorem ex2 {us:List Value} (hl:us.length = 2):∃ a0 a1,us = [a0,a1]:=match us,hl with | [a0,a1],_=>⟨a0,a1,rfl⟩
theorem ex3 {us:List Value} (hl:us.length = 3):∃ a0 a1 a2,us = [a0,a1,a2]:=match us,hl with | [a0,a1,a2],_=>⟨a0,a1,a2,rfl⟩
theorem ex4 {us:List Value} (hl:us.length = 4):∃ a0 a1 a2 a3,us = [a0,a1,a2,a3]:=match us,hl with | [a0,a1,a2,a3],_=>⟨a0,a1,a2,a3,rfl⟩
theorem ex5 {us:List Value} (hl:us.length = 5):∃ a0 a1 a2 a3 a4,us = [a0,a1,a2,a3,a4]:=match us,hl with | [a0,a1,a2,a3,a4],_=>⟨a0,a1,a2,a3,a4,rfl⟩
def Gf (K:PySem.W.Frag) (x:Str) (st:Stmt) (f:Addr):Prop:=nsIn K mainGlobals x = some (some (.ref f))/\∃ fd,Fun K x x st f fd
theorem all_mk {l:PySem.W.OpenLaw} {w:World} {K:PySem.W.Frag} {h:Heap} {mg:Str->Option Value} {fa C Cg Cs:Addr} {t1 t2 t3 t4:Tok} (X:K.In h) (G:h.Ns mainGlobals mg) (hfa:mg "law" = some (.ref fa))
  {f1 f2 f3 f4 f5 f6 f7 f8 f9 f10 f11 f12 f13 f14 f15 f16 f17 f18 f19 f20 f21 f22 f23 f24 f25 f26 f27 f28 f29 f30 f31 f32 f33 f34 f35 f36 f37 f38 f39 f40 f41 f42 f43 f44 f45 f46 f47:Addr} {od41 an41:Option Addr} {sl41:Array (Option Value)} {oc41 kV41 dc41 pm41 ct41 cd41:Value}
  {x_LimbError x_NoGround x_NoNumber x_NoTable x_NoDrawing x_NoKind x_NoStanding x_NoChange x_NoMirror x_NoRoot x_NoText x_NoRow x_NoName:Addr}
  (u1:Gf K "is_whole" Zd2 f1)
  (u2:Gf K "makes_drawing" Zcc f2)
  (u3:Gf K "is_arrow" Zfn f3)
  (u4:Gf K "hanging" Zgx f4)
  (u5:Gf K "kind_of" Zgv f5)
  (u6:Gf K "arms" Zm9 f6)
  (u7:Gf K "forked_kind" Zc3 f7)
  (u8:Gf K "is_good" Zgw f8)
  (u9:Gf K "common_divisor" Zb2 f9)
  (u10:Gf K "is_prime" Zfm f10)
  (u11:Gf K "tells_ground" Zcm f11)
  (u12:Gf K "is_fraction" Zc2 f12)
  (u13:Gf K "is_row" Zh4 f13)
  (u14:Gf K "is_table" Zfl f14)
  (u15:Gf K "noughts" Zgs f15)
  (u16:Gf K "are_sizes" Zen f16)
  (u17:Gf K "is_table_of" Zc1 f17)
  (u18:Gf K "are_tables" Zdu f18)
  (u19:Gf K "stands_on" Zej f19)
  (u20:Gf K "turnings" Zfg f20)
  (u21:Gf K "split_off" Zek f21)
  (u22:Gf K "counts" Zh5 f22)
  (u23:Gf K "put_together" Zcn f23)
  (u24:Gf K "taken_apart" Zc0 f24)
  (u25:Gf K "check_pair" Zdt f25)
  (u26:Gf K "leading" Zgt f26)
  (u27:Gf K "parting" Zgr f27)
  (u28:Gf K "_law_cell" Zfk f28)
  (u29:Gf K "_law_bag" Zgu f29)
  (u30:Gf K "_law_digit" Zem f30)
  (u31:Gf K "_law_lowest" Zdq f31)
  (u32:Gf K "_law_points" Zdp f32)
  (u33:Gf K "_law_some" Zfi f33)
  (u34:Gf K "_law_table" Zel f34)
  (u35:Gf K "_law_ground" Zdr f35)
  (u36:Gf K "_law_standing" Zco f36)
  (u37:Gf K "_law_word" Zfh f37)
  (u38:Gf K "_law_ringed" Zdo f38)
  (u39:Gf K "_law_answer" Zds f39)
  (u40:Gf K "_law_made" Zfj f40)
  (a41:nsIn K mainGlobals "law" = some (some (.ref f41)))
  (l41:K.lookup f41 = some ⟨oc41,od41,.func (fnOf "law" "law" (Zet Zh3) (Zcq Zh3) (Zae Zh3) .none kV41 dc41 pm41 an41 cd41 ct41),sl41⟩)
  (c41:codeIn K cd41 "law" = true)
  (k41:keepIn K (.ref f41) = true)
  (aC:nsIn K mainGlobals "Drawing" = some (some (.ref C)))
  (a42:findIn K (.ref C) "__init__" = some (some (.ref f42)))
  (i42:isFn K (.ref f42) = true)
  (u42:∃ fd,Fun K "__init__" "Drawing.__init__" Zcp f42 fd)
  (a43:findIn K (.ref C) "pieces" = some (some (.ref f43)))
  (i43:isFn K (.ref f43) = true)
  (u43:∃ fd,Fun K "pieces" "Drawing.pieces" Zb3 f43 fd)
  (a44:findIn K (.ref C) "kinds" = some (some (.ref f44)))
  (i44:isFn K (.ref f44) = true)
  (u44:∃ fd,Fun K "kinds" "Drawing.kinds" Zce f44 fd)
  (pg:plainGet K C Str.empty = true)
  (hd:hasDictIn K C = true)
  (po:plainOver K C = true)
  (sa:findIn K (.ref C) "__setattr__" = some (some (.builtin "object.__setattr__")))
  (mk:makesIn K C = true)
  (kc:keepIn K (.ref C) = true)
  (nM:findIn K (.ref C) "many" = some none)
  (nA:findIn K (.ref C) "arrows" = some none)
  (aCg:nsIn K mainGlobals "Ground" = some (some (.ref Cg)))
  (a45:findIn K (.ref Cg) "__init__" = some (some (.ref f45)))
  (i45:isFn K (.ref f45) = true)
  (u45:∃ fd,Fun K "__init__" "Ground.__init__" Zc4 f45 fd)
  (a46:findIn K (.ref Cg) "is_number" = some (some (.ref f46)))
  (i46:isFn K (.ref f46) = true)
  (u46:∃ fd,Fun K "is_number" "Ground.is_number" Zbr f46 fd)
  (pg_Cg:plainGet K Cg Str.empty = true)
  (hd_Cg:hasDictIn K Cg = true)
  (po_Cg:plainOver K Cg = true)
  (sa_Cg:findIn K (.ref Cg) "__setattr__" = some (some (.builtin "object.__setattr__")))
  (mk_Cg:makesIn K Cg = true)
  (kc_Cg:keepIn K (.ref Cg) = true)
  (nP:findIn K (.ref Cg) "prime" = some none)
  (aCs:nsIn K mainGlobals "Standing" = some (some (.ref Cs)))
  (a47:findIn K (.ref Cs) "__init__" = some (some (.ref f47)))
  (i47:isFn K (.ref f47) = true)
  (u47:∃ fd,Fun K "__init__" "Standing.__init__" Zcd f47 fd)
  (pg_Cs:plainGet K Cs Str.empty = true)
  (hd_Cs:hasDictIn K Cs = true)
  (po_Cs:plainOver K Cs = true)
  (sa_Cs:findIn K (.ref Cs) "__setattr__" = some (some (.builtin "object.__setattr__")))
  (mk_Cs:makesIn K Cs = true)
  (kc_Cs:keepIn K (.ref Cs) = true)
  (nSg:findIn K (.ref Cs) "ground" = some none)
  (nSd:findIn K (.ref Cs) "drawing" = some none)
  (nSs:findIn K (.ref Cs) "sizes" = some none)
  (nSt:findIn K (.ref Cs) "tables" = some none)
  (g1:nsIn K mainGlobals "MOST_POINTS" = some (some (.int 8 t1)))
  (g2:nsIn K mainGlobals "MOST_ARROWS" = some (some (.int 9 t2)))
  (g3:nsIn K mainGlobals "LARGEST_PRIME" = some (some (.int 97 t3)))
  (g4:nsIn K mainGlobals "LONG" = some (some (.int 4000 t4)))
  (z0:nsIn K mainGlobals "len" = some none)
  (z1:nsIn K mainGlobals "range" = some none)
  (z2:nsIn K mainGlobals "list" = some none)
  (z3:nsIn K mainGlobals "min" = some none)
  (z4:nsIn K mainGlobals "int" = some none)
  (z5:nsIn K mainGlobals "bool" = some none)
  (z6:nsIn K mainGlobals "tuple" = some none)
  (z7:nsIn K mainGlobals "all" = some none)
  (z8:nsIn K mainGlobals "isinstance" = some none)
  (z9:nsIn K mainGlobals "abs" = some none)
  (z10:nsIn K mainGlobals "zip" = some none)
  (z11:nsIn K mainGlobals "sorted" = some none)
  (z12:nsIn K mainGlobals "ValueError" = some none)
  (a_LimbError:nsIn K mainGlobals "LimbError" = some (some (.ref x_LimbError)))
  (a_NoGround:nsIn K mainGlobals "NoGround" = some (some (.ref x_NoGround)))
  (a_NoNumber:nsIn K mainGlobals "NoNumber" = some (some (.ref x_NoNumber)))
  (a_NoTable:nsIn K mainGlobals "NoTable" = some (some (.ref x_NoTable)))
  (a_NoDrawing:nsIn K mainGlobals "NoDrawing" = some (some (.ref x_NoDrawing)))
  (a_NoKind:nsIn K mainGlobals "NoKind" = some (some (.ref x_NoKind)))
  (a_NoStanding:nsIn K mainGlobals "NoStanding" = some (some (.ref x_NoStanding)))
  (a_NoChange:nsIn K mainGlobals "NoChange" = some (some (.ref x_NoChange)))
  (a_NoMirror:nsIn K mainGlobals "NoMirror" = some (some (.ref x_NoMirror)))
  (a_NoRoot:nsIn K mainGlobals "NoRoot" = some (some (.ref x_NoRoot)))
  (a_NoText:nsIn K mainGlobals "NoText" = some (some (.ref x_NoText)))
  (a_NoRow:nsIn K mainGlobals "NoRow" = some (some (.ref x_NoRow)))
  (a_NoName:nsIn K mainGlobals "NoName" = some (some (.ref x_NoName)))
  (e_LimbError:PySem.W.excIn K x_LimbError [.type "ValueError",.type "Exception",.type "BaseException",.type "object"] "ValueError.__new__" = true)
  (e_NoKind:PySem.W.excIn K x_NoKind [.type "ValueError",.type "Exception",.type "BaseException",.type "object"] "ValueError.__new__" = true)
  (e_NoStanding:PySem.W.excIn K x_NoStanding [.type "ValueError",.type "Exception",.type "BaseException",.type "object"] "ValueError.__new__" = true)
  (m_R:PySem.W.mroIn K x_NoKind (.ref x_LimbError) = some true)
  (n_R:x_NoKind ≠ x_LimbError)
  (y_ga:findIn K (.ref x_NoKind) "__getattribute__" = some (some (.builtin "BaseException.__getattribute__")))
  (y_gt:findIn K (.ref x_NoKind) "__getattr__" = some none)
  (y_cl:findIn K (.ref x_NoKind) "__class__" = some (some (.builtin "object.__class__")))
  (y_so:PySem.W.mroIn K x_NoKind (.type "object") = some true)
  (y_sb:PySem.W.mroIn K x_NoKind (.type "BaseException") = some true)
  (y_t1:PySem.W.kitAny K (.ref x_NoKind) [.ref x_NoGround,.ref x_NoNumber,.ref x_NoTable,.ref x_NoDrawing,.ref x_NoChange,.ref x_NoMirror,.ref x_NoRoot,.ref x_NoText,.ref x_NoRow,.ref x_NoName] = some false)
  (y_qNoStanding:PySem.W.kitOne K (.ref x_NoKind) (.ref x_NoStanding) = some false)
  (y_v:PySem.W.kitOne K (.ref x_NoKind) (.type "ValueError") = some true)
  (m_R2:PySem.W.mroIn K x_NoStanding (.ref x_LimbError) = some true)
  (n_R2:x_NoStanding ≠ x_LimbError)
  (yy_ga:findIn K (.ref x_NoStanding) "__getattribute__" = some (some (.builtin "BaseException.__getattribute__")))
  (yy_gt:findIn K (.ref x_NoStanding) "__getattr__" = some none)
  (yy_cl:findIn K (.ref x_NoStanding) "__class__" = some (some (.builtin "object.__class__")))
  (yy_so:PySem.W.mroIn K x_NoStanding (.type "object") = some true)
  (yy_sb:PySem.W.mroIn K x_NoStanding (.type "BaseException") = some true)
  (yy_t1:PySem.W.kitAny K (.ref x_NoStanding) [.ref x_NoGround,.ref x_NoNumber,.ref x_NoTable,.ref x_NoDrawing,.ref x_NoChange,.ref x_NoMirror,.ref x_NoRoot,.ref x_NoText,.ref x_NoRow,.ref x_NoName] = some false)
  (yy_qNoKind:PySem.W.kitOne K (.ref x_NoStanding) (.ref x_NoKind) = some false)
  (yy_v:PySem.W.kitOne K (.ref x_NoStanding) (.type "ValueError") = some true):
  ∃ fd:FuncData,(∀ (s:Shared) (v:Value),BindsTo s fd ⟨[v],[]⟩ [("_law_script",v)])/\∀ base:Heap,K.In base->base.Ns mainGlobals mg->FnOk l.prog w K mg base CX0 12 fa fd ["_law_script"] (Zps K):=by
 have e:=hfa.symm.trans (mg_of X G a41);cases e;have T:Txt K mg C Cg Cs:=⟨⟨pg,hd,po,sa⟩,nM,nA,⟨pg_Cg,hd_Cg,po_Cg,sa_Cg⟩,nP,⟨pg_Cs,hd_Cs,po_Cs,sa_Cs⟩,nSg,nSd,nSs,nSt,mg_none_of X G z0,mg_none_of X G z1,mg_none_of X G z2,mg_none_of X G z3,mg_none_of X G z4,mg_none_of X G z5,mg_none_of X G z6,mg_none_of X G z7,mg_none_of X G z8,mg_none_of X G z9,mg_none_of X G z10,mg_none_of X G z11,mg_none_of X G z12,⟨t1,mg_of X G g1⟩,⟨t2,mg_of X G g2⟩,⟨t3,mg_of X G g3⟩,⟨t4,mg_of X G g4⟩⟩
 obtain ⟨a1,_,F1⟩:=u1;have b1:=F1.binds (ps:=["thing"]) λ_ _ _ _ _ _ us hl=>by obtain ⟨_,rfl⟩:=ex1 hl; rfl
 obtain ⟨a2,_,F2⟩:=u2;have b2:=F2.binds (ps:=["many","arrows"]) λ_ _ _ _ _ _ us hl=>by obtain ⟨_,_,rfl⟩:=ex2 hl; rfl
 obtain ⟨a3,_,F3⟩:=u3;have b3:=F3.binds (ps:=["many","thing"]) λ_ _ _ _ _ _ us hl=>by obtain ⟨_,_,rfl⟩:=ex2 hl; rfl
 obtain ⟨a4,_,F4⟩:=u4;have b4:=F4.binds (ps:=["points","arrows"]) λ_ _ _ _ _ _ us hl=>by obtain ⟨_,_,rfl⟩:=ex2 hl; rfl
 obtain ⟨a5,_,F5⟩:=u5;have b5:=F5.binds (ps:=["points","arrows"]) λ_ _ _ _ _ _ us hl=>by obtain ⟨_,_,rfl⟩:=ex2 hl; rfl
 obtain ⟨a6,_,F6⟩:=u6;have b6:=F6.binds (ps:=["points","arrows","fork"]) λ_ _ _ _ _ _ us hl=>by obtain ⟨_,_,_,rfl⟩:=ex3 hl; rfl
 obtain ⟨a7,_,F7⟩:=u7;have b7:=F7.binds (ps:=["many","lengths"]) λ_ _ _ _ _ _ us hl=>by obtain ⟨_,_,rfl⟩:=ex2 hl; rfl
 obtain ⟨a8,_,F8⟩:=u8;have b8:=F8.binds (ps:=["drawing"]) λ_ _ _ _ _ _ us hl=>by obtain ⟨_,rfl⟩:=ex1 hl; rfl
 obtain ⟨a9,_,F9⟩:=u9;have b9:=F9.binds (ps:=["one","other"]) λ_ _ _ _ _ _ us hl=>by obtain ⟨_,_,rfl⟩:=ex2 hl; rfl
 obtain ⟨a10,_,F10⟩:=u10;have b10:=F10.binds (ps:=["number"]) λ_ _ _ _ _ _ us hl=>by obtain ⟨_,rfl⟩:=ex1 hl; rfl
 obtain ⟨a11,_,F11⟩:=u11;have b11:=F11.binds (ps:=["thing"]) λ_ _ _ _ _ _ us hl=>by obtain ⟨_,rfl⟩:=ex1 hl; rfl
 obtain ⟨a12,_,F12⟩:=u12;have b12:=F12.binds (ps:=["thing"]) λ_ _ _ _ _ _ us hl=>by obtain ⟨_,rfl⟩:=ex1 hl; rfl
 obtain ⟨a13,_,F13⟩:=u13;have b13:=F13.binds (ps:=["ground","wide","thing"]) λ_ _ _ _ _ _ us hl=>by obtain ⟨_,_,_,rfl⟩:=ex3 hl; rfl
 obtain ⟨a14,_,F14⟩:=u14;have b14:=F14.binds (ps:=["ground","thing"]) λ_ _ _ _ _ _ us hl=>by obtain ⟨_,_,rfl⟩:=ex2 hl; rfl
 obtain ⟨a15,_,F15⟩:=u15;have b15:=F15.binds (ps:=["ground","high","wide"]) λ_ _ _ _ _ _ us hl=>by obtain ⟨_,_,_,rfl⟩:=ex3 hl; rfl
 obtain ⟨a16,_,F16⟩:=u16;have b16:=F16.binds (ps:=["drawing","thing"]) λ_ _ _ _ _ _ us hl=>by obtain ⟨_,_,rfl⟩:=ex2 hl; rfl
 obtain ⟨a17,_,F17⟩:=u17;have b17:=F17.binds (ps:=["ground","high","wide","thing"]) λ_ _ _ _ _ _ us hl=>by obtain ⟨_,_,_,_,rfl⟩:=ex4 hl; rfl
 obtain ⟨a18,_,F18⟩:=u18;have b18:=F18.binds (ps:=["ground","drawing","sizes","thing"]) λ_ _ _ _ _ _ us hl=>by obtain ⟨_,_,_,_,rfl⟩:=ex4 hl; rfl
 obtain ⟨a19,_,F19⟩:=u19;have b19:=F19.binds (ps:=["standing","ground","drawing"]) λ_ _ _ _ _ _ us hl=>by obtain ⟨_,_,_,rfl⟩:=ex3 hl; rfl
 obtain ⟨a20,_,F20⟩:=u20;have b20:=F20.binds (ps:=["standing"]) λ_ _ _ _ _ _ us hl=>by obtain ⟨_,rfl⟩:=ex1 hl; rfl
 obtain ⟨a21,_,F21⟩:=u21;have b21:=F21.binds (ps:=["standing"]) λ_ _ _ _ _ _ us hl=>by obtain ⟨_,rfl⟩:=ex1 hl; rfl
 obtain ⟨a22,_,F22⟩:=u22;have b22:=F22.binds (ps:=["standing"]) λ_ _ _ _ _ _ us hl=>by obtain ⟨_,rfl⟩:=ex1 hl; rfl
 obtain ⟨a23,_,F23⟩:=u23;have b23:=F23.binds (ps:=["standing"]) λ_ _ _ _ _ _ us hl=>by obtain ⟨_,rfl⟩:=ex1 hl; rfl
 obtain ⟨a24,_,F24⟩:=u24;have b24:=F24.binds (ps:=["standing"]) λ_ _ _ _ _ _ us hl=>by obtain ⟨_,rfl⟩:=ex1 hl; rfl
 obtain ⟨a25,_,F25⟩:=u25;have b25:=F25.binds (ps:=["one","other"]) λ_ _ _ _ _ _ us hl=>by obtain ⟨_,_,rfl⟩:=ex2 hl; rfl
 obtain ⟨a26,_,F26⟩:=u26;have b26:=F26.binds (ps:=["one","other"]) λ_ _ _ _ _ _ us hl=>by obtain ⟨_,_,rfl⟩:=ex2 hl; rfl
 obtain ⟨a27,_,F27⟩:=u27;have b27:=F27.binds (ps:=["one","other"]) λ_ _ _ _ _ _ us hl=>by obtain ⟨_,_,rfl⟩:=ex2 hl; rfl
 obtain ⟨a28,_,F28⟩:=u28;have b28:=F28.binds (ps:=["_law_script","_law_k"]) λ_ _ _ _ _ _ us hl=>by obtain ⟨_,_,rfl⟩:=ex2 hl; rfl
 obtain ⟨a29,_,F29⟩:=u29;have b29:=F29.binds (ps:=["_law_cell_here"]) λ_ _ _ _ _ _ us hl=>by obtain ⟨_,rfl⟩:=ex1 hl; rfl
 obtain ⟨a30,_,F30⟩:=u30;have b30:=F30.binds (ps:=["_law_bag_here","_law_many"]) λ_ _ _ _ _ _ us hl=>by obtain ⟨_,_,rfl⟩:=ex2 hl; rfl
 obtain ⟨a31,_,F31⟩:=u31;have b31:=F31.binds (ps:=["_law_top","_law_bottom"]) λ_ _ _ _ _ _ us hl=>by obtain ⟨_,_,rfl⟩:=ex2 hl; rfl
 obtain ⟨a32,_,F32⟩:=u32;have b32:=F32.binds (ps:=["_law_bag_here","_law_many"]) λ_ _ _ _ _ _ us hl=>by obtain ⟨_,_,rfl⟩:=ex2 hl; rfl
 obtain ⟨a33,_,F33⟩:=u33;have b33:=F33.binds (ps:=["_law_bag_here","_law_p"]) λ_ _ _ _ _ _ us hl=>by obtain ⟨_,_,rfl⟩:=ex2 hl; rfl
 obtain ⟨a34,_,F34⟩:=u34;have b34:=F34.binds (ps:=["_law_bag_here","_law_p","_law_high","_law_wide"]) λ_ _ _ _ _ _ us hl=>by obtain ⟨_,_,_,_,rfl⟩:=ex4 hl; rfl
 obtain ⟨a35,_,F35⟩:=u35;have b35:=F35.binds (ps:=["_law_bag_here"]) λ_ _ _ _ _ _ us hl=>by obtain ⟨_,rfl⟩:=ex1 hl; rfl
 obtain ⟨a36,_,F36⟩:=u36;have b36:=F36.binds (ps:=["_law_bag_here","_law_p","_law_many","_law_arrows","_law_most"]) λ_ _ _ _ _ _ us hl=>by obtain ⟨_,_,_,_,_,rfl⟩:=ex5 hl; rfl
 obtain ⟨a37,_,F37⟩:=u37;have b37:=F37.binds (ps:=["_law_e"]) λ_ _ _ _ _ _ us hl=>by obtain ⟨_,rfl⟩:=ex1 hl; rfl
 obtain ⟨a38,_,F38⟩:=u38;have b38:=F38.binds (ps:=["_law_bag_here"]) λ_ _ _ _ _ _ us hl=>by obtain ⟨_,rfl⟩:=ex1 hl; rfl
 obtain ⟨a39,_,F39⟩:=u39;have b39:=F39.binds (ps:=["_law_way","_law_one","_law_other"]) λ_ _ _ _ _ _ us hl=>by obtain ⟨_,_,_,rfl⟩:=ex3 hl; rfl
 obtain ⟨a40,_,F40⟩:=u40;have b40:=F40.binds (ps:=["_law_bag_here","_law_p","_law_many","_law_arrows"]) λ_ _ _ _ _ _ us hl=>by obtain ⟨_,_,_,_,rfl⟩:=ex4 hl; rfl
 have F41:=fun_mk (st:=Zh3) l41 c41 k41;obtain ⟨_,F42⟩:=u42;have b42:=F42.binds (ps:=["self","many","arrows"]) λ_ _ _ _ _ _ us hl=>by obtain ⟨_,_,_,rfl⟩:=ex3 hl; rfl
 obtain ⟨_,F43⟩:=u43;have b43:=F43.binds (ps:=["self"]) λ_ _ _ _ _ _ us hl=>by obtain ⟨_,rfl⟩:=ex1 hl; rfl
 obtain ⟨_,F44⟩:=u44;have b44:=F44.binds (ps:=["self"]) λ_ _ _ _ _ _ us hl=>by obtain ⟨_,rfl⟩:=ex1 hl; rfl
 obtain ⟨_,F45⟩:=u45;have b45:=F45.binds (ps:=["self","prime"]) λ_ _ _ _ _ _ us hl=>by obtain ⟨_,_,rfl⟩:=ex2 hl; rfl
 obtain ⟨_,F46⟩:=u46;have b46:=F46.binds (ps:=["self","thing"]) λ_ _ _ _ _ _ us hl=>by obtain ⟨_,_,rfl⟩:=ex2 hl; rfl
 obtain ⟨_,F47⟩:=u47;have b47:=F47.binds (ps:=["self","ground","drawing","sizes","tables"]) λ_ _ _ _ _ _ us hl=>by obtain ⟨_,_,_,_,_,rfl⟩:=ex5 hl; rfl
 refine ⟨fnOf "law" "law" (Zet Zh3) (Zcq Zh3) (Zae Zh3) .none kV41 dc41 pm41 an41 cd41 ct41,λs v=>.of_eq rfl,λbase KB _=>?_⟩;have XT:Xt K mg base ⟨x_LimbError,x_NoGround,x_NoNumber,x_NoTable,x_NoDrawing,x_NoKind,x_NoStanding,x_NoChange,x_NoMirror,x_NoRoot,x_NoText,x_NoRow,x_NoName⟩:=⟨mg_of X G a_LimbError,mg_of X G a_NoGround,mg_of X G a_NoNumber,mg_of X G a_NoTable,mg_of X G a_NoDrawing,mg_of X G a_NoKind,mg_of X G a_NoStanding,mg_of X G a_NoChange,mg_of X G a_NoMirror,mg_of X G a_NoRoot,mg_of X G a_NoText,mg_of X G a_NoRow,mg_of X G a_NoName,Zj4 KB (mg_of X G a_LimbError) e_LimbError,Zj4 KB (mg_of X G a_NoKind) e_NoKind,Zj4 KB (mg_of X G a_NoStanding) e_NoStanding,Zi2 KB e_NoKind m_R n_R,⟨y_ga,y_gt,y_cl,y_so,y_sb⟩,Zhv y_so,y_t1,y_qNoStanding,y_v,Zi2 KB e_NoStanding m_R2 n_R2,⟨yy_ga,yy_gt,yy_cl,yy_so,yy_sb⟩,Zhv yy_so,yy_t1,yy_qNoKind,yy_v⟩
 have C1:Cal l.prog w K mg base "is_whole" 1 Zff:=⟨_,_,_,Zp9 F1 T ,mg_of X G a1,F1.kp,b1⟩
 have C1A:Cal l.prog w K mg base "is_whole" 1 Zew:=⟨_,_,_,Zn0 F1 T ,mg_of X G a1,F1.kp,b1⟩
 have C3:Cal l.prog w K mg base "is_arrow" 2 Zj0:=⟨_,_,_,Zqm F3 T C1,mg_of X G a3,F3.kp,b3⟩
 have C2:Cal l.prog w K mg base "makes_drawing" 3 Zjw:=⟨_,_,_,Zqe F2 T C1 C3,mg_of X G a2,F2.kp,b2⟩
 have C42:CalI l.prog w K mg base "Drawing" C 4 (Zm4 C):=⟨_,_,_,ok_init F42 T C2,⟨mk,a42,i42,kc⟩,mg_of X G aC,b42⟩
 have C9:Cal l.prog w K mg base "common_divisor" 1 spCd:=⟨_,_,_,ok_cd F9 T ,mg_of X G a9,F9.kp,b9⟩
 have C10:Cal l.prog w K mg base "is_prime" 1 Zjv:=⟨_,_,_,Zqd F10 T ,mg_of X G a10,F10.kp,b10⟩
 have C11:Cal l.prog w K mg base "tells_ground" 2 Zju:=⟨_,_,_,Zqa F11 T C1 C10,mg_of X G a11,F11.kp,b11⟩
 have C12:Cal l.prog w K mg base "is_fraction" 2 spFr:=⟨_,_,_,ok_fr F12 T C1A C9,mg_of X G a12,F12.kp,b12⟩
 have C45:CalI l.prog w K mg base "Ground" Cg 3 (Zjz Cg):=⟨_,_,_,Zqj F45 T C11,⟨mk_Cg,a45,i45,kc_Cg⟩,mg_of X G aCg,b45⟩
 have C46:CalM l.prog w K mg base Cg "is_number" 3 (spIsN Cg):=⟨_,_,_,ok_isn F46 T C1A C12,⟨a46,i46,F46.kp⟩,b46⟩
 have C13:Cal l.prog w K mg base "is_row" 4 (Zm1 Cg):=⟨_,_,_,Zqi F13 T C46,mg_of X G a13,F13.kp,b13⟩
 have C14:Cal l.prog w K mg base "is_table" 5 (Zm0 Cg):=⟨_,_,_,Zqh F14 T C1A C13,mg_of X G a14,F14.kp,b14⟩
 have C16:Cal l.prog w K mg base "are_sizes" 2 (spSz C):=⟨_,_,_,ok_sz F16 T C1,mg_of X G a16,F16.kp,b16⟩
 have C17:Cal l.prog w K mg base "is_table_of" 6 (spTo Cg):=⟨_,_,_,ok_to F17 T C14,mg_of X G a17,F17.kp,b17⟩
 have C18:Cal l.prog w K mg base "are_tables" 7 (spTs C Cg):=⟨_,_,_,ok_ts F18 T C17,mg_of X G a18,F18.kp,b18⟩
 have C47:CalI l.prog w K mg base "Standing" Cs 8 (spSI Cs C Cg):=⟨_,_,_,Zqc F47 T C16 C18,⟨mk_Cs,a47,i47,kc_Cs⟩,mg_of X G aCs,b47⟩
 have C4:Cal l.prog w K mg base "hanging" 1 spHg:=⟨_,_,_,ok_hg F4 T ,mg_of X G a4,F4.kp,b4⟩
 have C7:Cal l.prog w K mg base "forked_kind" 1 spFk:=⟨_,_,_,ok_fk F7 T ,mg_of X G a7,F7.kp,b7⟩
 have C6:Cal l.prog w K mg base "arms" 2 Zm6:=⟨_,_,_,ok_arms F6 T C4,mg_of X G a6,F6.kp,b6⟩
 have C5:Cal l.prog w K mg base "kind_of" 3 spKo:=⟨_,_,_,ok_ko F5 T C6 C7,mg_of X G a5,F5.kp,b5⟩
 have C43:CalM l.prog w K mg base C "pieces" 2 (Zh1 C):=⟨_,_,_,ok_pcs F43 T C4,⟨a43,i43,F43.kp⟩,b43⟩
 have C44:CalM l.prog w K mg base C "kinds" 4 (Zjy C):=⟨_,_,_,Zqg F44 T C43 C5,⟨a44,i44,F44.kp⟩,b44⟩
 have C8:Cal l.prog w K mg base "is_good" 5 (Zkq C):=⟨_,_,_,ok_good F8 T C44,mg_of X G a8,F8.kp,b8⟩
 have C19:Cal l.prog w K mg base "stands_on" 1 (spOn Cs C Cg):=⟨_,_,_,ok_on F19 T ,mg_of X G a19,F19.kp,b19⟩
 have C20:CalE l.prog w K mg base "turnings" 6 (Ziy Cs C Cg (⟨x_LimbError,x_NoGround,x_NoNumber,x_NoTable,x_NoDrawing,x_NoKind,x_NoStanding,x_NoChange,x_NoMirror,x_NoRoot,x_NoText,x_NoRow,x_NoName⟩:Pf.Cs).NoKind):=⟨_,_,_,ok_turn F20 T XT C8,mg_of X G a20,F20.kp,b20⟩
 have C21:CalE l.prog w K mg base "split_off" 7 (Ziy Cs C Cg (⟨x_LimbError,x_NoGround,x_NoNumber,x_NoTable,x_NoDrawing,x_NoKind,x_NoStanding,x_NoChange,x_NoMirror,x_NoRoot,x_NoText,x_NoRow,x_NoName⟩:Pf.Cs).NoKind):=⟨_,_,_,Zqb F21 T XT C20,mg_of X G a21,F21.kp,b21⟩
 have C22:CalE l.prog w K mg base "counts" 8 (Ziy Cs C Cg (⟨x_LimbError,x_NoGround,x_NoNumber,x_NoTable,x_NoDrawing,x_NoKind,x_NoStanding,x_NoChange,x_NoMirror,x_NoRoot,x_NoText,x_NoRow,x_NoName⟩:Pf.Cs).NoKind):=⟨_,_,_,Zn1 F22 T XT C21,mg_of X G a22,F22.kp,b22⟩
 have C15:Cal l.prog w K mg base "noughts" 1 Zm3:=⟨_,_,_,ok_nou0 F15 T ,mg_of X G a15,F15.kp,b15⟩
 have C23:CalE l.prog w K mg base "put_together" 7 (Ziy Cs C Cg (⟨x_LimbError,x_NoGround,x_NoNumber,x_NoTable,x_NoDrawing,x_NoKind,x_NoStanding,x_NoChange,x_NoMirror,x_NoRoot,x_NoText,x_NoRow,x_NoName⟩:Pf.Cs).NoKind):=⟨_,_,_,ok_put F23 T XT C20 C15,mg_of X G a23,F23.kp,b23⟩
 have C24:CalE l.prog w K mg base "taken_apart" 8 (Ziy Cs C Cg (⟨x_LimbError,x_NoGround,x_NoNumber,x_NoTable,x_NoDrawing,x_NoKind,x_NoStanding,x_NoChange,x_NoMirror,x_NoRoot,x_NoText,x_NoRow,x_NoName⟩:Pf.Cs).NoKind):=⟨_,_,_,Zqn F24 T XT C23,mg_of X G a24,F24.kp,b24⟩
 have C25:CalE l.prog w K mg base "check_pair" 6 (Zdj Cs C Cg (⟨x_LimbError,x_NoGround,x_NoNumber,x_NoTable,x_NoDrawing,x_NoKind,x_NoStanding,x_NoChange,x_NoMirror,x_NoRoot,x_NoText,x_NoRow,x_NoName⟩:Pf.Cs).NoStanding (⟨x_LimbError,x_NoGround,x_NoNumber,x_NoTable,x_NoDrawing,x_NoKind,x_NoStanding,x_NoChange,x_NoMirror,x_NoRoot,x_NoText,x_NoRow,x_NoName⟩:Pf.Cs).NoKind):=⟨_,_,_,ok_pair F25 T XT C19 C8,mg_of X G a25,F25.kp,b25⟩
 have C26:CalE l.prog w K mg base "leading" 7 (Zdj Cs C Cg (⟨x_LimbError,x_NoGround,x_NoNumber,x_NoTable,x_NoDrawing,x_NoKind,x_NoStanding,x_NoChange,x_NoMirror,x_NoRoot,x_NoText,x_NoRow,x_NoName⟩:Pf.Cs).NoStanding (⟨x_LimbError,x_NoGround,x_NoNumber,x_NoTable,x_NoDrawing,x_NoKind,x_NoStanding,x_NoChange,x_NoMirror,x_NoRoot,x_NoText,x_NoRow,x_NoName⟩:Pf.Cs).NoKind):=⟨_,_,_,ok_lead F26 T XT C25,mg_of X G a26,F26.kp,b26⟩
 have C27:CalE l.prog w K mg base "parting" 7 (Zdj Cs C Cg (⟨x_LimbError,x_NoGround,x_NoNumber,x_NoTable,x_NoDrawing,x_NoKind,x_NoStanding,x_NoChange,x_NoMirror,x_NoRoot,x_NoText,x_NoRow,x_NoName⟩:Pf.Cs).NoStanding (⟨x_LimbError,x_NoGround,x_NoNumber,x_NoTable,x_NoDrawing,x_NoKind,x_NoStanding,x_NoChange,x_NoMirror,x_NoRoot,x_NoText,x_NoRow,x_NoName⟩:Pf.Cs).NoKind):=⟨_,_,_,Zlw F27 T XT C25,mg_of X G a27,F27.kp,b27⟩
 have C28:Cal l.prog w K mg base "_law_cell" 1 (Zm5 K):=⟨_,_,_,ok_cell F28 T ,mg_of X G a28,F28.kp,b28⟩
 have C29:Cal l.prog w K mg base "_law_bag" 1 spBag:=⟨_,_,_,Zql F29 T ,mg_of X G a29,F29.kp,b29⟩
 have C30:Cal l.prog w K mg base "_law_digit" 1 Zfy:=⟨_,_,_,Zqk F30 T ,mg_of X G a30,F30.kp,b30⟩
 have C31:Cal l.prog w K mg base "_law_lowest" 1 Zkr:=⟨_,_,_,ok_low F31 T ,mg_of X G a31,F31.kp,b31⟩
 have C32:Cal l.prog w K mg base "_law_points" 2 spPts:=⟨_,_,_,ok_pts F32 T C30,mg_of X G a32,F32.kp,b32⟩
 have C33:Cal l.prog w K mg base "_law_some" 3 spNum:=⟨_,_,_,ok_some F33 T C30 C31,mg_of X G a33,F33.kp,b33⟩
 have C34:Cal l.prog w K mg base "_law_table" 4 spTb:=⟨_,_,_,ok_tbS F34 T C33,mg_of X G a34,F34.kp,b34⟩
 have C35:Cal l.prog w K mg base "_law_ground" 2 spGr:=⟨_,_,_,ok_gr F35 T C30,mg_of X G a35,F35.kp,b35⟩
 have C36:Cal l.prog w K mg base "_law_standing" 5 spStL:=⟨_,_,_,ok_stL F36 T C30 C34,mg_of X G a36,F36.kp,b36⟩
 have C38:Cal l.prog w K mg base "_law_ringed" 3 Zm2:=⟨_,_,_,ok_ring F38 T C30 C32,mg_of X G a38,F38.kp,b38⟩
 have C37:CalH l.prog w K mg base "_law_word" 1 (Zmz (⟨x_LimbError,x_NoGround,x_NoNumber,x_NoTable,x_NoDrawing,x_NoKind,x_NoStanding,x_NoChange,x_NoMirror,x_NoRoot,x_NoText,x_NoRow,x_NoName⟩:Pf.Cs).NoKind (⟨x_LimbError,x_NoGround,x_NoNumber,x_NoTable,x_NoDrawing,x_NoKind,x_NoStanding,x_NoChange,x_NoMirror,x_NoRoot,x_NoText,x_NoRow,x_NoName⟩:Pf.Cs).NoStanding):=⟨_,_,_,ok_word F37 T XT,mg_of X G a37,F37.kp,b37⟩
 have C39:Cal l.prog w K mg base "_law_answer" 10 (spAns Cs C Cg):=⟨_,_,_,ok_ans F39 T XT C24 C22 C26 C27 C37,mg_of X G a39,F39.kp,b39⟩
 have C40:Cal l.prog w K mg base "_law_made" 10 (Zjx Cs C Cg):=⟨_,_,_,Zqf F40 T C36 C47 C45 C42,mg_of X G a40,F40.kp,b40⟩
 exact ok_law F41 T C28 C29 C35 C38 C40 C39
theorem walk {l:PySem.W.OpenLaw} {q:Program} {loose:List Str} {XP:(Str->Option Value)->Heap->Prop} {YP:World->Heap->Prop} {d:DefRec} {K:Params->PySem.W.Frag} (hq:importsNone q = true) (hn:l.most = some 63) (hdf:d.params.defaults = [])
  (hY:∀ (w:World) (h:Heap),YP w h->(K w.params).In h)
  (F:∀ (w:World) (mg:Str->Option Value) (fa:Addr) (h:Heap),(K w.params).In h->h.Ns mainGlobals mg->mg d.name = some (.ref fa)->
   ∃ fd:FuncData,(∀ (s:Shared) (u:Value),BindsTo s fd ⟨[u],[]⟩ [("_law_script",u)])/\∀ base:Heap,(K w.params).In base->base.Ns mainGlobals mg->FnOk l.prog w (K w.params) mg base CX0 12 fa fd ["_law_script"] (Zps (K w.params))):
  PySem.W.WalkO q loose XP YP l.row.toRowW d [] (λf vs=>PySem.call f vs):=
 L2.walk_of (n:=63) (k:=12) (x:="_law_script") (CX:=λ_=>CX0) (sp:=λw=>Zps (K w.params)) hq hn (by decide) hdf ⟨rfl,by decide,by decide⟩ hY F (λ_ _ a ns hl _ hS=>⟨a,ns,rfl,hS,hl,λ_=>rfl⟩) (λ_ _ _ _ _ h=>h)
end Pf
namespace PySem.W.Fast
def tw13216049098562333283:=0
def tw9209124439755872077:=0
def tw16028713643478719440:=0
def tw1572348221086156069:=0
def tw17630113772198457200:=0
def tw17698619366701149897:=0
def tw10566646465674136698:=0
def tw9935126505198473653:=0
def tw12196563995972364303:=0
def tw8011523007494107671:=0
def tw15280811814524383494:=0
def tw6693021955346047961:=0
def tw17175484528074847953:=0
def tw17695133903538293765:=0
def tw10113081677896883436:=0
def tw12922121553666138243:=0
def tw13246549782129291139:=0
def tw3532670616593172369:=0
def tw16188444222774455397:=0
def tw15092004859642204814:=0
def tw5692111086385232653:=0
def tw5353107153425337690:=0
def tw18000053977314263241:=0
def tw7591635899323536122:=0
def tw4370136792324085904:=0
def tw17974142383540537952:=0
def tw18150433288985024100:=0
def tw14443246008388212756:=0
def tw255047456870124539:=0
def tw12686975318185548428:=0
def tw17203206201864822678:=0
def tw14073095179129825404:=0
def tw1415822455032478009:=0
def tw6790975824643392854:=0
def tw8990822264700868089:=0
def tw8374678611164423499:=0
def tw11436665936488303209:=0
def tw2086323679786020430:=0
def tw18089376151568252069:=0
def tw17888939899395503687:=0
def tw11017340899775781359:=0
def tw16281841053001139904:=0
def tw16662079558354117598:=0
def tw3687132268431434210:=0
def tw7228100782394951986:=0
def tw5900284996892405478:=0
def tw16306331723267890162:=0
def tw175111107071415249:=0
def tw9011992139245486266:=0
def tw2338696561098112145:=0
def tw7497560869570347194:=0
def tw14842372964364269111:=0
def tw18090215006342815256:=0
def tw1303121051312234959:=0
def tw10569594143224229612:=0
def tw14935176415250990827:=0
def tw11969391965397537480:=0
def tw9173977535896328079:=0
def tw649576915956809469:=0
def tw3401584709372810405:=0
def tw14612284601302693002:=0
def tw15846453271401143539:=0
def tw11495592895782578356:=0
def tw5941728016056374055:=0
def tw17280864068905884410:=0
def tw16283714385638571320:=0
def tw17903374205054136913:=0
def tw1734568627428715442:=0
def tw10725733080477939917:=0
def tw9570840164210543230:=0
def tw7400290909946419434:=0
def tw15923099453357693099:=0
def tw16886229187252135909:=0
def tw5004099474395395918:=0
def tw554949755490462042:=0
def tw14425381642496138526:=0
def tw2318183877619301555:=0
def tw4420559329809211538:=0
def tw4019263917800816547:=0
def tw5698547753024608015:=0
def tw3491548646857147921:=0
def tw5353606982598722853:=0
def tw5318072438536085488:=0
def tw10385389740578147740:=0
def tw3018367804548459403:=0
def tw16631818256988794164:=0
def tw11579563162986945702:=0
def tw15119387396905937803:=0
def tw11564238440241032510:=0
def tw4905247187716710213:=0
def tw5821189788761887739:=0
def tw2910894396564699056:=0
def tw17298728753997387332:=0
def tw14511891659658407031:=0
def tw1979253223979415456:=0
def tw11943562066279571426:=0
def tw17226362728191233132:=0
def tw544908941376909691:=0
def tw6364414081507047614:=0
def tw10462281991803334541:=0
def tw5004963713517466915:=0
def tw15888650795860920853:=0
def tw2552100204394083232:=0
def tw15440435359733796262:=0
def tw1042091569392942336:=0
def tw1098721673843028457:=0
def tw16054561113457154149:=0
def tw10255673536076868601:=0
def tw8135101427233944757:=0
def tw15974648792026001968:=0
def tw10270118849805242194:=0
def tw2030700963199441983:=0
def tw6283397911379163820:=0
def tw17373562333663648938:=0
def tw17610545797953528549:=0
def tw1867051829204018711:=0
def tw1467311170270932892:=0
def tw11208287535478191760:=0
def tw3462832107113304266:=0
def tw637598768919465016:=0
def tw8158567044398334569:=0
def tw10835430663021341396:=0
def tw7182045715743188335:=0
def tw10508938898698792799:=0
def tw179302903794248143:=0
def tw4598545454078668726:=0
def tw14726820079283418206:=0
def tw10118247137942990587:=0
def tw2138306816307509393:=0
def tw138254379042232604:=0
def tw736116447935372754:=0
def tw16454337560838949774:=0
def tw5371165979764136692:=0
def tw14389012775391757984:=0
def tw4514425524807776971:=0
def tw17714520710278641326:=0
def tw16716982253809287429:=0
def tw6825430330872911731:=0
def tw11145897832883086904:=0
def tw1841920916528361129:=0
def tw4723969711745620304:=0
def tw1572672101196157362:=0
def tw13594273353261914511:=0
def tw10070301715788225178:=0
def tw14373823282331956190:=0
def tw291551418573088497:=0
def tw5973694408209593958:=0
def tw11939491121867759060:=0
def tw6460884085155165453:=0
def tw7720264406265383564:=0
def tw7036210036563032623:=0
def tw6138334995564250329:=0
def tw4618779024869885363:=0
def tw17222917838909326303:=0
def tw3119966599491762039:=0
def tw2222086822809986840:=0
def tw315291737072672867:=0
def tw9370871578075618346:=0
def tw8435628962657515075:=0
def tw16029775214467031325:=0
def tw1928089739489223703:=0
def tw3784666397466408083:=0
def tw3480661825916691908:=0
def tw9463454893578120005:=0
def tw2169003842525953915:=0
def tw1490184474830951958:=0
def tw12791395915762036630:=0
def tw10685234499029581169:=0
def tw2028151592229841350:=0
def tw17443378576857902570:=0
def tw16617161220899097472:=0
def tw2947893845307229682:=0
def tw3257249461325919494:=0
def tw15690740371704703714:=0
def tw2201493650138671328:=0
def tw409903013979341429:=0
def tw8556263182118108652:=0
def tw13160237334922374830:=0
def tw6077868265326334073:=0
def tw1911385348630537287:=0
def tw3097666060490366000:=0
def tw3066289925860305233:=0
def tw5044656355546099178:=0
def tw4517662863913581657:=0
def tw7604488672207408642:=0
def tw7912524703944787758:=0
def tw17594497499827911269:=0
def tw16538095420634510653:=0
def tw3972730732536480026:=0
def tw8269165419605891773:=0
def tw14380027616074460949:=0
def tw5734609722623123766:=0
def tw1204117179957127893:=0
def tw8870353717396366040:=0
def tw5873812588353170524:=0
def tw1177865061941338325:=0
def tw10068382463129643102:=0
def tw418633020004949222:=0
def tw8654368648751057904:=0
def tw17875228638917415929:=0
def tw6715420554965272119:=0
def tw2958107811121787620:=0
def tw15306112687590687700:=0
def tw7323025035975787079:=0
def tw15945145753673183508:=0
def tw4990988704232441100:=0
def tw11248331278228117738:=0
def tw3464725126142654998:=0
def tw8510684233602243748:=0
def tw8423920441787945315:=0
def tw10126546408951946865:=0
def tw12869702752194473573:=0
def tw11105207908631154584:=0
def tw9762482225044360597:=0
def tw8628527583923920827:=0
def tw12884624509753381575:=0
def tw2030124250847378416:=0
def tw6201468403290723204:=0
def tw13848027003303771014:=0
def tw9333678983409430786:=0
def tw8758629860380159475:=0
def tw11714826339995801475:=0
def tw10268661262216096242:=0
def tw8232353791535280345:=0
def tw5444552259539016267:=0
def tw2178425725100734292:=0
def tw581297157018226515:=0
def tw10686650908456082123:=0
def tw17185263345443603695:=0
def tw13231963777755182287:=0
def tw16673784608089220412:=0
def tw18336511544131578772:=0
def tw2634230692700458996:=0
def tw5522284721284098121:=0
def tw11966705976100865190:=0
def tw3909793412057033155:=0
def tw3543033443749048802:=0
def tw17503094661066713564:=0
def tw1861794353299557872:=0
def tw10065044719168425775:=0
def tw11716679359293952077:=0
def tw17845536780778034917:=0
def tw8394557107559987518:=0
def tw3838781023681720347:=0
def tw2402160176721007993:=0
def tw15382043334849176227:=0
def tw2306941988115212330:=0
def tw2192031066774387949:=0
def tw2531214688222130454:=0
def tw15482662376506141268:=0
def tw17355251768569513337:=0
def tw18436167230786970243:=0
def tw4908228480505570560:=0
def tw12819905584895880420:=0
def tw1643692906824270599:=0
def tw11496225476994839945:=0
def tw12637901433148945491:=0
def tw8674961951677770506:=0
def tw5321148270526848582:=0
def tw4188708366248768485:=0
def tw1627025589511822260:=0
def tw13045617176930113867:=0
def tw11079962761066104858:=0
def tw5733204339191704921:=0
def tw7957623581798366277:=0
def tw6006636795767986930:=0
def tw14439924494935286053:=0
def tw2344264649137553925:=0
def tw14312085598081403509:=0
def tw357475443933848851:=0
def tw4369367377172364749:=0
def tw1204588214135154770:=0
def tw2868360591996336636:=0
def tw17511054714527228049:=0
def tw11602437533911609880:=0
def tw12245816493702571334:=0
def tw14612054427595129968:=0
def tw13121394000732368309:=0
def tw1055320164773770053:=0
def tw4822562017267753093:=0
def tw2982330345284887466:=0
def tw296042590605416037:=0
def tw16755704330617816623:=0
def tw12907972363932279700:=0
def tw2596426797839735185:=0
def tw5431788759047883312:=0
def tw16470790938192234145:=0
def tw11857274668264056825:=0
def tw727807076548542575:=0
def tw1275053581951111984:=0
def tw2230195714016342466:=0
def tw17569007121430579967:=0
def tw4438606460672030651:=0
def tw8960816854537544103:=0
def tw3887606512256626814:=0
def tw13916189329415543779:=0
def tw9417086710665129145:=0
def tw12592071501858420506:=0
def tw8167007700676991760:=0
def tw17550708797500328291:=0
def tw9986059722708397056:=0
def tw1171323049853688555:=0
def tw3296847566150596460:=0
def tw11465891647595535620:=0
def tw13978863427866920095:=0
def tw7719620008354799163:=0
def tw16077247824025951362:=0
def tw14722410184817637470:=0
def tw10672746099584997412:=0
def tw11904626375923540335:=0
def tw14321170710544916382:=0
def tw15257921313360508348:=0
def tw7772616369548223557:=0
def tw4464619901045826614:=0
def tw16482152029765645182:=0
def tw14431533679831913072:=0
def tw10521561302204965237:=0
def tw8966701607581195285:=0
def tw380983996370818069:=0
def tw12956330180901313529:=0
def tw16492944254872442268:=0
def tw10354268355476964019:=0
def tw14585477895985697704:=0
def tw7880741468725071899:=0
def tw3143578386750783744:=0
def tw4863896205109892995:=0
def tw7231883263631207861:=0
def tw2604827250533278213:=0
def tw10578755261701191017:=0
def tw4318639491488295820:=0
def tw11870408941367170493:=0
def tw15755474820206155907:=0
end PySem.W.Fast
open PySem PySem.W PyProof.Rows
local macro_rules | `(tactic| walk_at "v")=>`(tactic| exact ⟨_,⟨⟨_,_,_,_,_,_,_,_,_,rfl,by k_is,by k_is⟩,by k_is⟩⟩)
local macro_rules | `(tactic| walk_at "u")=>`(tactic| exact ⟨by k_is,_,⟨⟨_,_,_,_,_,_,_,_,_,rfl,by k_is,by k_is⟩,by k_is⟩⟩)
set_option maxRecDepth 100000 in
set_option maxHeartbeats 0 in
theorem PySem.Challenge.cw_limbtables_k51_drawings_that_are_not_goo_holds : PySem.Challenge.rw_limbtables_k51_drawings_that_are_not_goo.Holds := by
 w_on; o_law; k_head; (case hw=>w_witness2)
 k_fill
 refine Pf.walk (l:=PySem.Challenge.rw_limbtables_k51_drawings_that_are_not_goo) (by decide +kernel) rfl rfl (λw h Y=>by first | exact PySem.W.kIn_of Y | exact PySem.W.km_in_of Y) ?F
 case F=>
  intro w mg fa h KX G hmg;refine' Pf.all_mk KX G hmg ?u1 ?u2 ?u3 ?u4 ?u5 ?u6 ?u7 ?u8 ?u9 ?u10 ?u11 ?u12 ?u13 ?u14 ?u15 ?u16 ?u17 ?u18 ?u19 ?u20 ?u21 ?u22 ?u23 ?u24 ?u25 ?u26 ?u27 ?u28 ?u29 ?u30 ?u31 ?u32 ?u33 ?u34 ?u35 ?u36 ?u37 ?u38 ?u39 ?u40 ?a41 ?l41 ?c41 ?k41 ?aC ?a42 ?i42 ?u42 ?a43 ?i43 ?u43 ?a44 ?i44 ?u44 ?pg ?hd ?po ?sa ?mk ?kc ?nM ?nA ?aCg ?a45 ?i45 ?u45 ?a46 ?i46 ?u46 ?pg_Cg ?hd_Cg ?po_Cg ?sa_Cg ?mk_Cg ?kc_Cg ?nP ?aCs ?a47 ?i47 ?u47 ?pg_Cs ?hd_Cs ?po_Cs ?sa_Cs ?mk_Cs ?kc_Cs ?nSg ?nSd ?nSs ?nSt ?g1 ?g2 ?g3 ?g4 ?z0 ?z1 ?z2 ?z3 ?z4 ?z5 ?z6 ?z7 ?z8 ?z9 ?z10 ?z11 ?z12 ?a_LimbError ?a_NoGround ?a_NoNumber ?a_NoTable ?a_NoDrawing ?a_NoKind ?a_NoStanding ?a_NoChange ?a_NoMirror ?a_NoRoot ?a_NoText ?a_NoRow ?a_NoName ?e_LimbError ?e_NoKind ?e_NoStanding ?m_R ?n_R ?y_ga ?y_gt ?y_cl ?y_so ?y_sb ?y_t1 ?y_qNoStanding ?y_v ?m_R2 ?n_R2 ?yy_ga ?yy_gt ?yy_cl ?yy_so ?yy_sb ?yy_t1 ?yy_qNoKind ?yy_v
  (case u1 | u2 | u3 | u4 | u5 | u6 | u7 | u8 | u9 | u10 | u11 | u12 | u13 | u14 | u15 | u16 | u17 | u18 | u19 | u20 | u21 | u22 | u23 | u24 | u25 | u26 | u27 | u28 | u29 | u30 | u31 | u32 | u33 | u34 | u35 | u36 | u37 | u38 | u39 | u40=>walk_at "u")
  (case a41 | l41 | c41 | k41 | aC | a42 | i42=>k_is)
  (case u42=>walk_at "v")
  (case a43 | i43=>k_is)
  (case u43=>walk_at "v")
  (case a44 | i44=>k_is)
  (case u44=>walk_at "v")
  (case pg | hd | po | sa | mk | kc | nM | nA | aCg | a45 | i45=>k_is)
  (case u45=>walk_at "v")
  (case a46 | i46=>k_is)
  (case u46=>walk_at "v")
  (case pg_Cg | hd_Cg | po_Cg | sa_Cg | mk_Cg | kc_Cg | nP | aCs | a47 | i47=>k_is)
  (case u47=>walk_at "v")
  (case pg_Cs | hd_Cs | po_Cs | sa_Cs | mk_Cs | kc_Cs | nSg | nSd | nSs | nSt | g1 | g2 | g3 | g4 | z0 | z1 | z2 | z3 | z4 | z5 | z6 | z7 | z8 | z9 | z10 | z11 | z12 | a_LimbError | a_NoGround | a_NoNumber | a_NoTable | a_NoDrawing | a_NoKind | a_NoStanding | a_NoChange | a_NoMirror | a_NoRoot | a_NoText | a_NoRow | a_NoName=>k_is)
  (case e_LimbError | e_NoKind | e_NoStanding=>k_exc)
  (case m_R=>k_is)
  (case n_R=>decide)
  (case y_ga | y_gt | y_cl | y_so | y_sb=>k_is)
  (case y_t1 | y_qNoStanding | y_v=>kit_is)
  (case m_R2=>k_is)
  (case n_R2=>decide)
  (case yy_ga | yy_gt | yy_cl | yy_so | yy_sb=>k_is)
  (case yy_t1 | yy_qNoKind | yy_v=>kit_is)
#print axioms PySem.Challenge.cw_limbtables_k51_drawings_that_are_not_goo_holds